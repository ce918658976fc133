import PyProof.Rows.All
import Wide.All
import OpenK.AllK
import Wide.FinOn
import HandS.ExcInit
import HandS.ExcField
import HandS.List
import HandS.IsInst
import HandS.Words
import KE.KExcSuper
import HandS.ExcSuper
import HandS.Defaults
import HandS.Lambda
import KE.KExcIs
import HandS.CallLocal
import HandS.Dict
import PyProof.Rows.ReprR
import HandS.HeadHook4
import HandS.ForMost
import HandS.EndTab
import HandS.ExcValue
import HandS.NoneIn
import HandS.TryOnly
import HandS.Iter
import HandS.Walk
import HandS.HeadWalk
import PySem.Challenge.RW_twinforks_k14_whole_endless_rows
import HandS.TryMany
import HandS.Zip
import HandS.ListItems
import PyProof.ReprLen
import HandS.HeadEnd
import HandS.Head2
import KE.KStateDown
set_option Elab.async false
set_option linter.all false
set_option maxRecDepth 100000
set_option maxHeartbeats 0
namespace Kz
open PySem PySem.W PySem.Calls PyProof.Rows L2

/-- what the written part says of an own error class and of its __init__ -/
structure XF (prog : Program) (K : Frag) (C fI : Addr) (qual : Str) (params : Arguments) (body : List Stmt) (scope : Scope) : Prop where
  oex : OexC K C
  ini : findIn K (.ref C) "__init__" = some (some (.ref fI))
  tyI : typeIn K (.ref fI) = some (.type "function")
  fn : ∃ (oc : Value) (od : Option Addr) (kV doc pm : Value) (an : Option Addr) (cda : Addr) (ct : Value) (osl : Array (Option Value)) (cc : Addr) (ccl : Value) (cdd : Option Addr) (vs : Array Value) (ccs : Array (Option Value)) (file : Str) (tf : Tok)
      (cl : Value) (cld : Option Addr) (csl : Array (Option Value)),
    K.lookup fI = some ⟨oc, od, .func (ksFn "__init__" qual params body scope .none kV doc pm an (.ref cda) ct cc), osl⟩ ∧ codeIn K (.ref cda) qual = true ∧ K.lookup cda = some ⟨ccl, cdd, .fields vs, ccs⟩ ∧ vs[2]? = some (.str file tf) ∧
      ((prog.main.file : Str) == file) = true ∧ K.lookup cc = some ⟨cl, cld, .cell (some (.ref C)), csl⟩
  sup : ks_superIn K C C "__init__" = some (some (.builtin "ValueError.__init__"))
  sbV : subIn K (.ref C) (.type "ValueError") = some true
  slf : mroIn K C (.ref C) = some true
  opq : nsIn K cStatics "thirdparty.any" = some none
  glo : nsIn K mainGlobals "super" = some none
  top : (prog.main.scope.names.lookup ("super" : Str)).isSome = false
  xf : XfC K C

/-- the scope of such an __init__ -/
structure ScI (params : Arguments) (scope : Scope) (fs : List Str) : Prop where
  hd : ∃ ar, (params.posonlyargs ++ params.args).head? = some ar ∧ ar.arg = ("self" : Str)
  ks : scope.names.lookup ("super" : Str) = some .globalImplicit
  kc : scope.names.lookup ("__class__" : Str) = some .free
  ka : scope.names.lookup ("self" : Str) = some .local
  kf : ∀ f ∈ fs, scope.names.lookup f = some .local
  cell : ∀ x ∈ scope.names, x.2 ≠ .cell
  kind : scope.kind = .function
  co : scope.isCoroutine = false
  gen : scope.isGenerator = false

def sSuper (msg : Str) (j : Nat) (p0 p1 p2 p3 p4 p5 : Pos) : Stmt := .Expr (.Call (.Attribute (.Call (.Name "super" p0) [] [] p1) "__init__" p2) [.Constant (.str msg) j p3] [] p4) p5
def sPut (f : Str) (q0 q1 q2 q3 : Pos) : Stmt := .Assign [.Attribute (.Name "self" q0) f q1] (.Name f q2) q3

section
variable {X : Cx} {pins : List (Addr × Obj)} {σ : L2.St} {H : Hp} {s : Shared} {a C fI : Addr} {A : Around} {E : Value → Shared → Prop}

/-- the record of an exception that is being made, behind super().__init__(..) -/
theorem call_up {u : Addr} {rest : List Value} {Q : Value → Shared → Prop} (T : OexC X.K C) (I : Inv X pins σ H s) (e : H a = some (exo a C none)) (hu : s.heap.get? u = some (kxs_mw "ValueError.__init__" a)) (hl : rest.length ≤ sizeLine)
    (h : ∀ s', Inv X pins σ H s' → (∀ b o, b ≠ a → s.heap.get? b = some o → s'.heap.get? b = some o) → Q .none s') : wpAny (model X.prog X.w) A (call (.ref u) rest) Q E s := by
  obtain ⟨nm, q, N, bs, bm, sn, sub, ab, col, dd, k0, k1, k2, k3, k5, hC, hbm⟩ := T.cls
  obtain ⟨t1, ho⟩ := exo_at I.hok e
  have hCs := I.kIn _ _ hC
  obtain ⟨hp, g, d, t, os⟩ := s
  refine wpAny_call (codeAny_of_tree ?_)
  show wpAny _ A.in1 (callAny (.ref u) ⟨rest, []⟩) _ _ _
  simp only [callAny]
  refine wpAny_bind (wpAny_load hu ?_)
  simp only [kxs_mw, show (Value.type "method-wrapper" == Value.type "method" || Value.type "method-wrapper" == Value.type "builtin_function_or_method" || Value.type "method-wrapper" == Value.type "method-wrapper") = true by decide, if_true]
  refine KFB.if_so (by decide) ?_
  refine wpAny_bind (check_bound_init F.excBase_ValueError.toExcCallFacts hCs ho rfl ?_)
  refine wpAny_bind (wpAny_pure (wpAny_pure ?_))
  refine ⟨plainId_quiet F.excBase_ValueError.init.plain _, codeAny_builtin F.excBase_ValueError.initEntry ?_⟩
  refine exc_init_tree (cls := .ref C) (t0 := t1) (dv := none) (c2 := .none) (c3 := .none) (b4 := .bool false) ho hl (fun h' k e' _ => ?_)
  have J := I.write (t' := t) (x := a) (e := a) (o := exo a C none) (by rw [e]; exact True.intro) (.inl rfl) k ⟨_, e'⟩ (exo_ok e')
  have eu : upd H a (exo a C none) = H := by
    funext b
    by_cases hb : b = a
    · rw [hb, upd_same, e]
    · rw [upd_ne hb]
  rw [eu] at J
  exact h _ J k

/-- a pin more: the dict of a callee's locals -/
theorem pinned {L : Addr} {m : Str → Option Value} (I : Inv X pins σ H s) (hn : s.heap.Ns L m) (hH : H L = none) (h1 : L ≠ X.env.locals) (h2 : L ∉ X.fs) :
    ∃ oL, Inv X ((L, oL) :: pins) σ H s ∧ (∃ es ep, oL.data = .dict es ep ∧ ∀ s' : Shared, s'.heap.get? L = some oL → s'.heap.Ns L m) := by
  obtain ⟨oL, es, ep, hL, hd, r⟩ := hn
  refine ⟨oL, I.pins_of fun p hp => ?_, es, ep, hd, fun s' e => ⟨oL, es, ep, e, hd, r⟩⟩
  rcases List.mem_cons.mp hp with rfl | hp
  · exact ⟨hL, hH, h1, h2, fun v z => by rw [hd] at z; cases z⟩
  · exact I.pin p (List.mem_append_right _ hp)
theorem unpin {q : Addr × Obj} (I : Inv X (q :: pins) σ H s) : Inv X pins σ H s := I.pins_of fun p hp => I.pin p (List.mem_append_right _ (List.mem_cons_of_mem _ hp))

theorem ev_super {msg : Str} {j : Nat} {p0 p1 p2 p3 p4 : Pos} (hm : (p2.endLine == p4.line) = true) (env : Env) :
    eval (.Call (.Attribute (.Call (.Name "super" p0) [] [] p1) "__init__" p2) [.Constant (.str msg) j p3] [] p4) env = (do
      let ov ← attributeBase (.Call (.Name "super" p0) [] [] p1) "__init__" env (eval (.Call (.Name "super" p0) [] [] p1) env)
      standAt p2.atName
      let (f, first) ← holding [ov] (getMethod ov "__init__" (do return (← importBound (.Call (.Name "super" p0) [] [] p1) env).getD true))
      callWith p4 f first (backTo p4 (starEach [.Constant (.str msg) j p3] env)) []) := by
  have e : methodCallPos true (.Call (.Name "super" p0) [] [] p1) env p2 p4 = pure p4 := by
    unfold methodCallPos
    rw [hm]
    rfl
  show (attributeBase _ _ _ _ >>= fun ov => standAt p2.atName >>= fun _ => holding [ov] (calleeOf true (.Call (.Name "super" p0) [] [] p1) env ov "__init__") >>= fun fx => methodCallPos true (.Call (.Name "super" p0) [] [] p1) env p2 p4 >>= fun q => callWith q fx.1 fx.2 _ _) = _
  rw [e]
  rfl
/-- an own __init__ to where super().__init__(text) is done -/
theorem init_pre {qual : Str} {params : Arguments} {scope : Scope} {msg : Str} {j : Nat} {p0 p1 p2 p3 p4 p5 : Pos} {fs : List Str} {rest : List Stmt} {R : Result → Shared → Prop} {args : Args} {binds : List (Str × Value)}
    (hm : (p2.endLine == p4.line) = true) (T : XF X.prog X.K C fI qual params (sSuper msg j p0 p1 p2 p3 p4 p5 :: rest) scope) (S : ScI params scope fs) (I : Inv X pins σ H s) (e : H a = some (exo a C none)) (hroom : A.depth < recursionLimit)
    (hbind : ∀ (kV doc pm : Value) (an : Option Addr) (cdv ct : Value) (cc : Addr), bindArgs (ksFn "__init__" qual params (sSuper msg j p0 p1 p2 p3 p4 p5 :: rest) scope .none kV doc pm an cdv ct cc) args = pure binds)
    (hloc : ∀ x ∈ binds, scope.names.lookup x.1 = some .local) (hs : binds.reverse.lookup ("self" : Str) = some (.ref a))
    (h : ∀ (env : Env) (oL : Obj) (s' : Shared), env.scope.kind = .function → (∀ x, env.kindOf x = scope.names.lookup x) → (∀ s2 : Shared, s2.heap.get? env.locals = some oL → s2.heap.Ns env.locals (fun x => binds.reverse.lookup x)) → Inv X ((env.locals, oL) :: pins) σ H s' →
      wpAny (model X.prog X.w) (A.deeper env) (execs rest env) (fun fl s' => R (.ok (.ret (match fl with | .ret v => v | _ => .none))) s') (fun e s' => wpAny (model X.prog X.w) (A.deeper env) (leaving env e) (fun _ s'' => R (.error e) s'') (fun e' s'' => R (.error e') s'') s') s') :
    codeAny (model X.prog X.w) A (.call (.ref fI) args) R s := by
  obtain ⟨oc, od, kV, doc, pm, an, cda, ct, osl, cc, ccl, cdd, vs, ccs, file, tf, cl, cld, csl, lk, hcd, lcd, hvs, hfile, lcc⟩ := T.fn
  obtain ⟨ar, hh1, hh2⟩ := S.hd
  obtain ⟨mb, bl1, bl2⟩ := I.mod.blt
  refine ks_codeAny_call_defAt (fd := ksFn "__init__" qual params (sSuper msg j p0 p1 p2 p3 p4 p5 :: rest) scope .none kV doc pm an (.ref cda) ct cc) hroom (I.kIn _ _ lk) rfl I.nolimit (codeRec_of I.kIn hcd) rfl (.of_eq (hbind kV doc pm an (.ref cda) ct cc)) S.cell hloc
    (fun h₁ hns kp => ?_) S.co S.gen S.kind
  have I1 : Inv X pins σ H { s with heap := h₁, toks := s.toks + binds.length } := I.kept kp
  have nX : s.heap.objs.size ≠ X.env.locals := Nat.ne_of_gt I.lt
  have nF : s.heap.objs.size ∉ X.fs := I.nofs (Nat.le_refl _)
  let fdI := ksFn "__init__" qual params (sSuper msg j p0 p1 p2 p3 p4 p5 :: rest) scope .none kV doc pm an (.ref cda) ct cc
  have ek : ∀ x, (callEnv fdI s.heap.objs.size fI).kindOf x = scope.names.lookup x := fun x => rfl
  have eK : (callEnv fdI s.heap.objs.size fI).scope.kind = .function := S.kind
  have eI : interactive (callEnv fdI s.heap.objs.size fI) = false := by
    unfold interactive
    rw [eK]
    rfl
  obtain ⟨oL, I1', es, ep, _, back⟩ := pinned I1 hns (I.hok.fresh (Nat.le_refl _)) nX nF
  refine ks_wpAt_execs_cons (ks_wpAt_Expr_any (ks_wpAt_MethodCall ?_ (ev_super hm _)) eI (by rfl))
  refine ks_wpAt_super_base ((ek _).trans S.ks) ((ek _).trans S.kc) (by decide) rfl (I1'.kIn _ _ lk) rfl hh1 rfl (I1'.kIn _ _ lcd) rfl hvs hfile T.top ?_
  refine ks_loadName_global eK ((ek _).trans S.ks) (loadGlobal_builtin (mg := X.mg) (mb := mb) (v := .type "super") (I1'.mod.glob.keeps I1'.bk) (mg_none_of I1'.mod.kin I1'.mod.glob T.glo) (bl1.keeps I1'.bk) ((bl2 _ (by decide +kernel)).trans (by first | rfl | kernel_rfl)) ⟨rfl, ?_⟩)
  refine wpAny_loadName_free eK ((ek _).trans S.kc) rfl ⟨_, I1'.kIn _ _ lcc, rfl⟩ ?_
  rw [hh2]
  refine wpAny_loadName_local eK ((ek _).trans S.ka) hns hs ?_
  obtain ⟨nm, qn, N, bs, bm, sn, sub, ab, col, dd, k0, k1, k2, k3, k5, hC, hbm⟩ := T.oex.cls
  have hC1 := I1'.kIn _ _ hC
  obtain ⟨t1, ho⟩ := exo_at I1'.hok e
  refine ks_wpAny_isType_cls hC1 rfl ⟨rfl, ?_⟩
  refine ks_wpAny_call_super hC1 rfl ho rfl (fun c z => nomatch z) (looks_mroIn I1'.kIn T.slf) (fun h2 e2 kp2 => ?_)
  have I2 : Inv X ((s.heap.objs.size, oL) :: pins) σ H { s with heap := h2, toks := s.toks + binds.length } := I1'.kept kp2
  obtain ⟨t2, ho2⟩ := exo_at I2.hok e
  have hsm := T.sup
  have hcl : clsIn X.K C = some { name := nm, bases := bs, mro := .ref C :: bm, ns := N, qualname := qn, hasDict := true, slotNames := sn, subclasses := sub, abstract := ab, collection := col, hasDel := false } := by unfold clsIn; rw [hC] <;> rfl
  have IA : InstAt h2 a _ C none := ⟨ho2, rfl, rfl, trivial⟩
  unfold ks_superIn at hsm
  rw [hcl] at hsm
  refine kxs_getMethod kxs_ValueError (so := h₁.objs.size) e2 (looks_opaque I2.kIn T.opq) (l₀ := .ref C :: bm) (fun A Q E s k q => wpAny_bind ((looks_clsIn I2.kIn hcl) A _ E s k (wpAny_pure q))) rfl I2.kIn hsm (IA.type.andThen (looks_subIn I2.kIn T.sbV)) (ks_ne I2.kIn IA hcl) (by decide) ?_
  have kp3 : ∀ b o, h2.get? b = some o → (h2.push (kxs_mw "ValueError.__init__" a)).get? b = some o := fun b o z => Heap.get?_push_of_some _ z
  have I3 : Inv X ((s.heap.objs.size, oL) :: pins) σ H { s with heap := h2.push (kxs_mw "ValueError.__init__" a), toks := s.toks + binds.length + 1 } := I2.kept kp3
  have hbw : (h2.push (kxs_mw "ValueError.__init__" a)).get? h2.objs.size = some (kxs_mw "ValueError.__init__" a) := Heap.get?_push_at rfl rfl
  refine kxs_callWith (i := "ValueError.__init__") (x := a) (by rfl) (evalArgs_plain (Calls.spliced_cons (wpAny_Constant_str (k := j) (pos := p3) (Calls.spliced_nil ⟨hbw, ?_⟩))))
  have I4 := I3.tok (s.toks + binds.length + 1 + 1)
  refine call_up T.oex I4 e hbw (by rw [sizeLine_eq]; exact Nat.le_of_ble_eq_true rfl) (fun s5 I5 _ => ?_)
  exact wpAt_of_wpAny (h (callEnv fdI s.heap.objs.size fI) oL s5 eK ek back I5)

theorem pin_at {q : Addr × Obj} (I : Inv X (q :: pins) σ H s) : s.heap.get? q.1 = some q.2 := (I.pin q (List.mem_append_right _ (List.mem_cons_self ..))).1

/-- an own __init__(self, f): super().__init__(text); self.f = f -/
theorem init1 {qual : Str} {params : Arguments} {scope : Scope} {f msg : Str} {j : Nat} {p0 p1 p2 p3 p4 p5 q0 q1 q2 q3 : Pos} {R : Result → Shared → Prop} {args : Args} {y : V} {u : Value}
    (hm : (p2.endLine == p4.line) = true) (T : XF X.prog X.K C fI qual params [sSuper msg j p0 p1 p2 p3 p4 p5, sPut f q0 q1 q2 q3] scope) (S : ScI params scope [f]) (I : Inv X pins σ H s) (e : H a = some (exo a C none)) (ry : RelV y u) (hroom : A.depth < recursionLimit)
    (hbind : ∀ (kV doc pm : Value) (an : Option Addr) (cdv ct : Value) (cc : Addr), bindArgs (ksFn "__init__" qual params [sSuper msg j p0 p1 p2 p3 p4 p5, sPut f q0 q1 q2 q3] scope .none kV doc pm an cdv ct cc) args = pure [(("self" : Str), Value.ref a), (f, u)])
    (hfs : (f == ("self" : Str)) = false) (hfd : (f == ("__debug__" : Str)) = false) (hno : findIn X.K (.ref C) f = some none)
    (h : ∀ (dx : Addr) (s' : Shared), H dx = none → dx ≠ a → Inv X pins σ (upd (upd H dx (exd dx [(f, y)])) a (exo a C (some dx))) s' → R (.ok (.ret .none)) s') :
    codeAny (model X.prog X.w) A (.call (.ref fI) args) R s := by
  have e1 : ([((("self" : Str)), Value.ref a), (f, u)].reverse).lookup ("self" : Str) = some (.ref a) := by
    have q : (("self" : Str) == f) = false := by rw [Bool.beq_comm]; exact hfs
    simp [List.lookup, q]
  have e2 : ([((("self" : Str)), Value.ref a), (f, u)].reverse).lookup f = some u := by simp [List.lookup]
  refine init_pre (binds := [(("self" : Str), Value.ref a), (f, u)]) hm T S I e hroom hbind (fun x hx => ?_) e1 (fun env oL s1 hk ek back I1 => ?_)
  · rcases List.mem_cons.mp hx with rfl | hx
    · exact S.ka
    · rcases List.mem_cons.mp hx with rfl | hx
      · exact S.kf f (List.mem_cons_self ..)
      · cases hx
  · refine wpAny_execs_cons (plainObj_wpAny_Assign_Attribute ?_ (by rfl))
    refine ESX.ldL (back _ (pin_at I1)) e2 ?_ hk ((ek _).trans (S.kf f (List.mem_cons_self ..))) hfd
    refine ESX.ldL (back _ (pin_at I1)) e1 ?_ hk ((ek _).trans S.ka) (by decide)
    refine ost_new T.oex I1 e hno ry (fun dx s2 hd hne I2 => ?_)
    exact wpAny_pure (h dx s2 hd hne (unpin I2))
end
end Kz
namespace Kz
open PySem PySem.W PySem.Calls L2 PySem.HandSPX

section
variable {M : Model} {A : Around} {E : Value → Shared → Prop} {h : Heap} {g : Array GenState} {d : Drawn} {t : Nat} {os : OsState}
variable {nm q : Str} {C N : Addr} {bs bm bmB : List Value} {hdct : Bool} {sn : List Str} {sub : List Value} {ab : Bool} {col : Option Bool} {dd : Option Addr} {k0 k1 k2 k3 k5 : Option Value} {B newId initId : String}
/-- keywords let through: the check of the built-in __new__ -/
theorem kwCheck (FB : ExcBaseFacts B newId initId bmB) (hT : ∀ X : String, bm.contains (.type X) = bmB.contains (.type X)) {us : List Value} {kw : List (Str × Value)} {Q : Unit → Shared → Prop}
    (hC : h.get? C = some (excClassObj nm q C N bs bm hdct sn sub ab col dd k0 k1 k2 k3 k5 newId)) (z : Q () ⟨h, g, d, t, os⟩) : wpAny M A (checkBuiltinCall newId ⟨.ref C :: us, kw⟩) Q E ⟨h, g, d, t, os⟩ := by
  have hin : (Value.ref C :: bm).contains (.type B) = true := by rw [List.contains_cons, hT, FB.hasB, Bool.or_true]
  have hst := FB.noStar
  simp only [checkBuiltinCall, FB.newKind, FB.newSplit, FB.newRow]
  repeat (first | refine wpAny_loadPart_at hC ?_ | (refine wpAny_isSubtype_exc hC ?_; rw [hin]) | refine wpAny_staticBase_exc hC ?_ | refine wpAny_madeBy_exc hC ?_ | simp only [bne_self_eq_false, Bool.false_eq_true, if_false] | wp_step)
  exact z
end
section
variable {prog : Program} {w : World} {A : Around} {E : Value → Shared → Prop} {R : Result → Shared → Prop} {h : Heap} {g : Array GenState} {d : Drawn} {t : Nat} {os : OsState}
variable {nm q : Str} {C N : Addr} {bs bm bmB : List Value} {hdct : Bool} {sn : List Str} {sub : List Value} {ab : Bool} {col : Option Bool} {dd : Option Addr} {k0 k1 k2 k3 k5 : Option Value} {B newId initId : String}
theorem kwNew (FB : ExcBaseFacts B newId initId bmB) (hT : ∀ X : String, bm.contains (.type X) = bmB.contains (.type X)) {us : List Value} {kw : List (Str × Value)}
    (hC : h.get? C = some (excClassObj nm q C N bs bm hdct sn sub ab col dd k0 k1 k2 k3 k5 newId))
    (z : R (.ok (.ret (.ref (h.objs.size + 1)))) ⟨(h.push (W.kdv_tup us)).push (excO C h.objs.size), g, d, t, os⟩) (hl : us.length ≤ sizeLine) :
    codeAny (model prog w) A (.builtin newId ⟨.ref C :: us, kw⟩) R ⟨h, g, d, t, os⟩ := by
  have he := FB.ends
  have c1 : (Value.ref C :: bm).contains (.type B) = true := by rw [List.contains_cons, hT, FB.hasB, Bool.or_true]
  have c2 : (Value.ref C :: bm).contains (.type "AttributeError") = false := by rw [List.contains_cons, hT, FB.noAttr]; rfl
  have c3 : (Value.ref C :: bm).contains (.type "NameError") = false := by rw [List.contains_cons, hT, FB.noName]; rfl
  refine codeAny_builtinAt FB.entry ?_
  unfold Builtin.«BaseException.__new__»
  refine _root_.PySem.wpAt_bind ?_
  show _root_.PySem.wpAt _ _ _ (stack >>= _) _ _ _
  refine _root_.PySem.wpAt_bind (_root_.PySem.wpAt_stack fun _ _ => _root_.PySem.wpAt_of_wpAny ?_)
  wp_walk
  refine _root_.PySem.wpAt_of_wpAny ?_
  rw [FB.owner]
  repeat (first | with_reducible refine wpAny_madeHere_exc FB.canon hC ?_ | with_reducible refine wpAny_loadPart_at hC ?_ | (with_reducible refine wpAny_isSubtype_exc hC ?_; first | rw [c1] | rw [c2] | rw [c3]) | wp_step)
  show R _ _
  rw [Heap.size_push]
  exact z
theorem kwType (FB : ExcBaseFacts B newId initId bmB) (hT : ∀ X : String, bm.contains (.type X) = bmB.contains (.type X)) {us : List Value} {kw : List (Str × Value)} {fI : Addr} {Q : Fin → Shared → Prop}
    (hC : h.get? C = some (excClassObj nm q C N bs bm hdct sn sub ab col dd k0 k1 k2 k3 k5 newId))
    (hi : W.Looks (model prog w) h (typeLookup (.ref C) "__init__") (some (.ref fI))) (hb : ∀ self, W.Looks (model prog w) h (bindSpecial (.ref fI) self) (.ref fI, [self])) (hl : us.length ≤ sizeLine)
    (z : codeAny (model prog w) A (.call (.ref fI) ⟨.ref (h.objs.size + 1) :: us, kw⟩)
      (fun r s' => match r with | .ok (.ret v) => v = .none ∧ Q (.done (.ret (.ref (h.objs.size + 1)))) s' | .ok _ => False | .error e => E e s')
      ⟨(h.push (W.kdv_tup us)).push (excO C h.objs.size), g, d, t, os⟩) :
    wpAny (model prog w) A (Builtin.«type.__call__» ⟨.ref C :: us, kw⟩) Q E ⟨h, g, d, t, os⟩ := by
  repeat (first | with_reducible refine wpAny_loadPart_at hC ?_ | with_reducible refine wpAny_madeBy_exc hC ?_ | wp_step)
  refine codeAny_call_builtin_code (Code.quiet_builtin _ FB.quiet) (kwCheck FB hT hC (kwNew FB hT hC ?_ hl))
  show wpAny _ _ _ _ _ _
  have kp : ∀ b o, h.get? b = some o → ((h.push (W.kdv_tup us)).push (excO C h.objs.size)).get? b = some o := fun b o e => Heap.get?_push_of_some _ (Heap.get?_push_of_some _ e)
  have hC1 := kp _ _ hC
  have hx : ((h.push (W.kdv_tup us)).push (excO C h.objs.size)).get? (h.objs.size + 1) = some (excO C h.objs.size) := by heap_get
  have hcc : (Value.ref C :: bm).contains (.ref C) = true := by simp
  have i1 := hi.keeps kp
  have b1 := (hb (.ref (h.objs.size + 1))).keeps kp
  unfold isInstance
  repeat (first | with_reducible refine wpAny_loadPart_at hx ?_ | (with_reducible refine wpAny_isSubtype_exc hC1 ?_; rw [hcc]) | wp_step)
  show wpAny _ _ (typeLookup (.ref C) _) _ _ _
  refine i1.at (wpAny_holding (wpAny_bind (b1.at (wpAny_bind (wpAny_call (codeAny_mono z fun r s' y => ?_))))))
  rcases r with e | (v | _ | _ | _) <;> first | exact y | exact y.elim | skip
  obtain ⟨rfl, y⟩ := y
  first
    | exact wpAny_pure (wpAny_pure y)
    | (wp_walk; exact y)
theorem kwCall (FB : ExcBaseFacts B newId initId bmB) (hT : ∀ X : String, bm.contains (.type X) = bmB.contains (.type X)) {us : List Value} {kw : List (Str × Value)} {fI : Addr}
    (hC : h.get? C = some (excClassObj nm q C N bs bm hdct sn sub ab col dd k0 k1 k2 k3 k5 newId))
    (hi : W.Looks (model prog w) h (typeLookup (.ref C) "__init__") (some (.ref fI))) (hb : ∀ self, W.Looks (model prog w) h (bindSpecial (.ref fI) self) (.ref fI, [self])) (hl : us.length ≤ sizeLine)
    (z : codeAny (model prog w) (A.under (.builtin "type.__call__" ⟨.ref C :: us, kw⟩)) (.call (.ref fI) ⟨.ref (h.objs.size + 1) :: us, kw⟩) (W.InitBack (h.objs.size + 1) R)
      ⟨(h.push (W.kdv_tup us)).push (excO C h.objs.size), g, d, t, os⟩) :
    codeAny (model prog w) A (.call (.ref C) ⟨us, kw⟩) R ⟨h, g, d, t, os⟩ := by
  have f1 := tc_lookup
  have f2 := tc_bind (.ref C)
  have hTy : (⟨h, g, d, t, os⟩ : Shared).TypeIs (.ref C) "type" := ⟨_, hC, rfl⟩
  refine codeAny_of_tree (show wpAny _ _ (callAny (.ref C) _) _ _ _ from ?_)
  repeat (any_goals (first | assumption | with_reducible refine wpAny_loadPart_at hC ?_ | wp_step))
  refine ⟨rfl, codeAny_call_builtin_at (Code.quiet_builtin _ (by decide +kernel)) entry_typeCall (wpAny_check_type_call_sub hC (kwType FB hT hC hi hb hl (codeAny_mono z fun r s' y => ?_)))⟩
  rcases r with e | (v | _ | _ | _) <;> exact y
end
end Kz
namespace Kz
open PySem PySem.W PySem.Calls PyProof.Rows L2

section
variable {X : Cx} {pins : List (Addr × Obj)} {σ : L2.St} {H : Hp} {s : Shared} {a C fI : Addr} {A : Around} {E : Value → Shared → Prop}

/-- the heap behind the making of an error: at a the error, at dx its dict -/
def mkH (H : Hp) (a C dx : Addr) (fs : List (Str × V)) : Hp := upd (upd H dx (exd dx fs)) a (exo a C (some dx))
theorem mkH_over {fs : List (Str × V)} {dx : Addr} {o : HO} : mkH (upd H a o) a C dx fs = mkH H a C dx fs := by
  funext b
  unfold mkH upd
  by_cases hb : b = a
  · simp [hb]
  · simp [hb]

end

/-! ### the rules -/
/-- the texts of an own error class with one field -/
structure X1 (prog : Program) (K : Frag) (C : Addr) (f : Str) : Prop where
  ex : ∃ (fI : Addr) (qual : Str) (params : Arguments) (scope : Scope) (msg : Str) (j : Nat) (p0 p1 p2 p3 p4 p5 q0 q1 q2 q3 : Pos), (p2.endLine == p4.line) = true ∧ XF prog K C fI qual params [sSuper msg j p0 p1 p2 p3 p4 p5, sPut f q0 q1 q2 q3] scope ∧ ScI params scope [f] ∧
    (∀ (kV doc pm : Value) (an : Option Addr) (cdv ct : Value) (cc : Addr) (a u : Value), bindArgs (ksFn "__init__" qual params [sSuper msg j p0 p1 p2 p3 p4 p5, sPut f q0 q1 q2 q3] scope .none kV doc pm an cdv ct cc) ⟨[a, u], []⟩ = pure [(("self" : Str), a), (f, u)]) ∧
    (∀ (kV doc pm : Value) (an : Option Addr) (cdv ct : Value) (cc : Addr) (a u : Value), bindArgs (ksFn "__init__" qual params [sSuper msg j p0 p1 p2 p3 p4 p5, sPut f q0 q1 q2 q3] scope .none kV doc pm an cdv ct cc) ⟨[a], [(f, u)]⟩ = pure [(("self" : Str), a), (f, u)])
  fs : (f == ("self" : Str)) = false
  fd : (f == ("__debug__" : Str)) = false
  no : findIn K (.ref C) f = some none
  kC : keepIn K (.ref C) = true
theorem under_depth {A : Around} {C : Addr} {us : List Value} {kw : List (Str × Value)} {k : Nat} (hr : Room k A) : (A.under (.builtin "type.__call__" ⟨.ref C :: us, kw⟩)).depth < recursionLimit := by
  rw [make_depth]
  have := hr.dp
  omega

section
variable {X : Cx} {C : Addr} {f x : Str} {e : Expr} {te : TE} {p pos kp : Pos} {pins : List (Addr × Obj)} {σ : L2.St} {H : Hp} {s : Shared} {E : Value → Shared → Prop}
end
end Kz
namespace Kz
open PySem PySem.W PySem.Calls PyProof.Rows L2
section
variable {X : Cx} {C : Addr} {f x : Str} {e : Expr} {te : TE} {p pos kp : Pos} {pins : List (Addr × Obj)} {σ : L2.St} {H : Hp} {s : Shared} {E : Value → Shared → Prop}
end

/-! ### two fields -/
section
variable {X : Cx} {C : Addr} {f g x : Str} {e e2 : Expr} {te th : TE} {p pos kp kp2 : Pos} {pins : List (Addr × Obj)} {σ : L2.St} {H : Hp} {s : Shared} {E : Value → Shared → Prop}
end
end Kz
namespace Kz
open PySem PySem.W PySem.Calls PyProof.Rows L2 LamX

section
variable {X : Cx} {pins : List (Addr × Obj)} {σ : L2.St} {H : Hp} {s : Shared} {a C dx : Addr} {A : Around} {E : Value → Shared → Prop} {fs : List (Str × V)}

end

/-! ### a lambda of one parameter e that hands back a list of e's fields -/
section
variable {X : Cx} {pins : List (Addr × Obj)} {σ : L2.St} {H : Hp} {s : Shared} {a C dx : Addr} {A : Around} {E : Value → Shared → Prop} {fs : List (Str × V)}
end
end Kz
namespace Kz
open PySem PySem.W PySem.Calls PyProof.Rows L2 LamX

section
variable {X : Cx} {pins : List (Addr × Obj)} {σ : L2.St} {H : Hp} {s : Shared} {a C dx f c' : Addr} {A : Around} {E : Value → Shared → Prop} {fs : List (Str × V)}
/-! ### isinstance of an own error -/
end
end Kz
namespace Kz
open PySem PySem.W PySem.Calls PyProof.Rows L2 LamX

/-! ### plain data over the abstract heap, and repr -/
mutual
inductive Rd (H : Hp) : V → PyData → List Addr → Prop
  | non : Rd H .non .none []
  | bl (b : Bool) : Rd H (.bl b) (.bool b) []
  | int (i : Int) : Rd H (.int i) (.int i) []
  | str (x : Str) : Rd H (.str x) (.str x) []
  | lst {a : Addr} {xs : List V} {ds : List PyData} {as : List Addr} : H a = some (.lst xs) → RdAll H xs ds as → Rd H (.ref a) (.list ds) (a :: as)
  | tup {a : Addr} {xs : List V} {ds : List PyData} {as : List Addr} : H a = some (.tup xs) → RdAll H xs ds as → Rd H (.ref a) (.tuple ds) as
  | dct {a : Addr} {k : Str} {v : V} {d : PyData} {as : List Addr} : H a = some (.dK [(.inr k, v)]) → Rd H v d as → Rd H (.ref a) (.dict [(.str k, d)]) (a :: (([] : List Addr) ++ []) ++ (as ++ []))
inductive RdAll (H : Hp) : List V → List PyData → List Addr → Prop
  | nil : RdAll H [] [] []
  | cons {v : V} {vs : List V} {d : PyData} {ds : List PyData} {as bs : List Addr} : Rd H v d as → RdAll H vs ds bs → RdAll H (v :: vs) (d :: ds) (as ++ bs)
end
mutual
theorem Rd.ext {H H1 : Hp} (e : ExtN H H1) : ∀ {v : V} {d : PyData} {as : List Addr}, Rd H v d as → Rd H1 v d as
  | _, _, _, .non => .non
  | _, _, _, .bl b => .bl b
  | _, _, _, .int i => .int i
  | _, _, _, .str x => .str x
  | _, _, _, .lst h r => .lst (e _ _ h fun ps z => by cases z) (RdAll.ext e r)
  | _, _, _, .tup h r => .tup (e _ _ h fun ps z => by cases z) (RdAll.ext e r)
  | _, _, _, .dct h r => .dct (e _ _ h fun ps z => by cases z) (Rd.ext e r)
theorem RdAll.ext {H H1 : Hp} (e : ExtN H H1) : ∀ {v : List V} {d : List PyData} {as : List Addr}, RdAll H v d as → RdAll H1 v d as
  | _, _, _, .nil => .nil
  | _, _, _, .cons h r => .cons (Rd.ext e h) (RdAll.ext e r)
end
section
variable {P : Program} {w : World} {H : Hp} {h : Heap}
mutual
theorem Rd.reads (hok : HOk P w H h) : ∀ {v : V} {d : PyData} {as : List Addr} {u : Value}, Rd H v d as → RelV v u → Reads h u d as
  | _, _, _, u, .non, r => by
    obtain rfl : u = Value.none := r
    exact .none
  | _, _, _, u, .bl b, r => by
    obtain rfl : u = Value.bool b := r
    exact .bool b
  | _, _, _, u, .int i, r => by
    obtain ⟨t, rfl⟩ : ∃ t, u = Value.int i t := r
    exact .int i t
  | _, _, _, u, .str x, r => by
    obtain ⟨t, rfl⟩ : ∃ t, u = Value.str x t := r
    exact .str x t
  | _, _, _, u, @Rd.lst _ a xs ds as e q, r => by
    obtain rfl : u = Value.ref a := r
    obtain ⟨_, its, n, rv, e1⟩ := (show ObjOk P w H h a (.lst xs) from hok a _ e)
    exact .list e1 rfl rfl (RdAll.reads hok q rv)
  | _, _, _, u, @Rd.tup _ a xs ds as e q, r => by
    obtain rfl : u = Value.ref a := r
    obtain ⟨_, its, rv, o, e1, e2, n, e3⟩ := (show ObjOk P w H h a (.tup xs) from hok a _ e)
    exact .tuple e1 e2 e3 (RdAll.reads hok q rv)
  | _, _, _, u, @Rd.dct _ a k v d as e q, r => by
    obtain rfl : u = Value.ref a := r
    obtain ⟨_, _, vs, rv, o, es, ep, e1, e2, e3, _, e4, _⟩ := (show ObjOk P w H h a (.dK [(.inr k, v)]) from hok a _ e)
    cases rv with
    | @cons _ p _ ps r1 r2 =>
      cases r2
      obtain ⟨k2, w2⟩ := p
      obtain ⟨q1, q2⟩ := r1
      have q1 : (Sum.inr k : Key) = k2 := q1
      have q2 : RelV v w2 := q2
      subst q1
      obtain ⟨en, hes, p1, p2⟩ : ∃ en : DictEntry, es.toList = [en] ∧ (mixKind P w).is (.inr k) en.key = true ∧ en.val = w2 := by
        revert e4
        generalize es.toList = l
        intro e4
        match l, e4 with
        | [en], .cons p1 p2 .nil => exact ⟨en, rfl, p1, p2⟩
      obtain ⟨tk, hk⟩ := Value.isStrOf_shape (x := k) (v := en.key) p1
      have f1 : ReadsAll h (es.toList.map (·.key)) [PyData.str k] ([] ++ []) := by
        rw [hes]
        show ReadsAll h [en.key] _ _
        rw [hk]
        exact .cons (.str k tk) .nil
      have f2 : ReadsAll h (es.toList.map (·.val)) [d] (as ++ []) := by
        rw [hes]
        show ReadsAll h [en.val] _ _
        rw [p2]
        exact .cons (Rd.reads hok q q2) .nil
      exact .dict e1 e2.1 e3 f1 f2
theorem RdAll.reads (hok : HOk P w H h) : ∀ {v : List V} {d : List PyData} {as : List Addr} {u : List Value}, RdAll H v d as → Vals v u → ReadsAll h u d as
  | _, _, _, _, .nil, .nil => .nil
  | _, _, _, _, .cons q qs, .cons r rs => .cons (Rd.reads hok q r) (RdAll.reads hok qs rs)
end
end
section
variable {X : Cx}
def rRepr : List V → Hp → VK → Prop := fun xs H Q => ∃ (a : Addr) (d : PyData) (as : List Addr), xs = [.ref a] ∧ Rd H (.ref a) d as ∧ d.showable = true ∧ (d.hasDict = true → sysModules ∉ as) ∧ d.depth ≤ 20 ∧ d.shown.length ≤ sizeLine ∧ Q (.str d.shown) H
theorem call_repr (hg : X.A.guards = some []) (hr : Room 0 X.A) : CallR X (.builtin "repr") rRepr := by
  intro pins s σ H xs us Q I r h
  obtain ⟨a, d, as, rfl, rd, hs, hsm, hd, hz, q⟩ := h
  cases r with
  | @cons _ u _ ur r1 r2 =>
    cases r2
    obtain rfl : u = Value.ref a := r1
    refine repr_of_reads' (h₀ := s.heap) (rd.reads I.hok rfl) hs hsm hg (by have := hr.un; omega) (fun _ _ e => e) (fun h' u tk hk => ⟨.str d.shown, H, I.kept hk, ⟨_, rfl⟩, q⟩) hz
end
end Kz
namespace Kz
open PySem PySem.W PySem.Calls PyProof.Rows L2 LamX

section
variable {X : Cx} {es : List Expr} {t : TA} {pos : Pos}
end

theorem mkH_a {H : Hp} {a C dx : Addr} {fs : List (Str × V)} : mkH H a C dx fs a = some (exo a C (some dx)) := upd_same
theorem mkH_d {H : Hp} {a C dx : Addr} {fs : List (Str × V)} (ne : dx ≠ a) : mkH H a C dx fs dx = some (exd dx fs) := by
  unfold mkH
  rw [upd_ne ne, upd_same]
theorem new_ext {H : Hp} {a : Addr} {o : HO} (n : H a = none) : ∀ b u, H b = some u → upd H a o b = some u := fun b u e => by
  rw [upd_ne (ne_of_none e n)]
  exact e

theorem small4 (n : Nat) (h : n ≤ 1000 := by decide) : n ≤ sizeLine := by
  rw [sizeLine_eq]
  omega
section
variable {X : Cx}
end
end Kz
namespace Kz
open PySem PySem.W PySem.Calls PyProof.Rows L2 LamX

theorem boot_isi : bootBuiltins "isinstance" = some (.builtin "isinstance") := by decide +kernel

section
variable {X : Cx}
end
end Kz
namespace Kz
open PySem PySem.W PySem.Calls PyProof.Rows L2 LamX
open He (ga)

/-! ### the text -/
theorem PSs.of_eq {X : Cx} {a b : List Stmt} {t : TS} (e : b = a) (h : PSs X a t) : PSs X b t := by
  rw [e]
  exact h
section
variable {P : Program} {w : World} {K : Frag} {mg : Str → Option Value} {base : Heap}

end
end Kz
namespace Kz
open PySem PySem.W PySem.Calls PyProof.Rows L2 LamX
open He (ga)

theorem same_new {H : Hp} {p : Addr} {o : HO} (h : H p = none) : Same H (upd H p o) := new_ext h

section
variable {P : Program} {w : World} {K : Frag} {mg : Str → Option Value} {base : Heap}
/-! ### lists of truths -/
end
end Kz
namespace Kz
open PySem PySem.W PySem.Calls PyProof.Rows L2 LamX
open He (ga)

theorem boot_rp : bootBuiltins "repr" = some (.builtin "repr") := by decide +kernel

section
variable {P : Program} {w : World} {K : Frag} {mg : Str → Option Value} {base : Heap}
end
end Kz
namespace Kz
open PySem PySem.W PySem.Calls PyProof.Rows L2 LamX
open He (ga)
theorem boot_in : bootBuiltins "int" = some (.type "int") := by decide +kernel
theorem boot_li : bootBuiltins "list" = some (.type "list") := by decide +kernel

/-- the spring of draws -/
structure SS (H : Hp) (l li : Addr) (ns : List Int) (b c d : Int) : Prop where
  l1 : H l = some (.lst [.ref li, .int b, .int c, .int d])
  l2 : H li = some (.lst (ns.map V.int))
  ne : l ≠ li
  b0 : 0 ≤ b
  c0 : 0 ≤ c
  d0 : 0 ≤ d
  d1 : d < 2147483647
/-- all but the spring stands -/
def ExtS (l li : Addr) (H H' : Hp) : Prop := ∀ x o, H x = some o → x ≠ l → x ≠ li → H' x = some o
theorem ExtS.trans {l li : Addr} {H H1 H2 : Hp} (a : ExtS l li H H1) (b : ExtS l li H1 H2) : ExtS l li H H2 := fun x o e h1 h2 => b x o (a x o e h1 h2) h1 h2
theorem ExtS.refl {l li : Addr} {H : Hp} : ExtS l li H H := fun _ _ e _ _ => e
theorem SS.set {H : Hp} {l li : Addr} {ns : List Int} {b c d b' c' d' : Int} (s : SS H l li ns b c d) (hb : 0 ≤ b') (hc : 0 ≤ c') (hd : 0 ≤ d') (hd1 : d' < 2147483647) : SS (upd H l (.lst [.ref li, .int b', .int c', .int d'])) l li ns b' c' d' ∧ ExtS l li H (upd H l (.lst [.ref li, .int b', .int c', .int d'])) :=
  ⟨⟨upd_same, by rw [upd_ne s.ne.symm]; exact s.l2, s.ne, hb, hc, hd, hd1⟩, fun x o e h1 _ => by rw [upd_ne h1]; exact e⟩
theorem SS.pop {H : Hp} {l li : Addr} {n : Int} {ns : List Int} {b c d : Int} (s : SS H l li (n :: ns) b c d) : SS (upd H li (.lst (ns.map V.int))) l li ns b c d ∧ ExtS l li H (upd H li (.lst (ns.map V.int))) :=
  ⟨⟨by rw [upd_ne s.ne]; exact s.l1, upd_same, s.ne, s.b0, s.c0, s.d0, s.d1⟩, fun x o e _ h2 => by rw [upd_ne h2]; exact e⟩
theorem SS.new {H : Hp} {l li p : Addr} {ns : List Int} {b c d : Int} {o : HO} (s : SS H l li ns b c d) (n : H p = none) : SS (upd H p o) l li ns b c d ∧ ExtS l li H (upd H p o) :=
  ⟨⟨new_ext n _ _ s.l1, new_ext n _ _ s.l2, s.ne, s.b0, s.c0, s.d0, s.d1⟩, fun x o e _ _ => new_ext n _ _ e⟩

theorem tWhile_split {c : TT} {tb : TS} {D : Ends} {σ : L2.St} {H : Hp} (Ok : L2.St → Hp → Prop) (a : ∀ σ H, Ok σ H → D.nx σ H) (k : (∀ σ H, Ok σ H → D.nx σ H) → tWhile c tb D σ H) : tWhile c tb D σ H := k a
theorem seq0 {α : Type} (x : α) (r : List α) : seqIndex? 0 (x :: r).length = some 0 := by
  unfold seqIndex?
  simp
theorem canLay_int : ∀ bs : List Int, PyData.canLayAll0 (bs.map PyData.int) = true
  | [] => rfl
  | b :: r => by
    show (PyData.canLay0 (.int b) && PyData.canLayAll0 _) = true
    rw [canLay_int r]
    rfl
theorem depth_int : ∀ bs : List Int, PyData.depthAll (bs.map PyData.int) = 0
  | [] => rfl
  | b :: r => by
    simp only [List.map_cons, PyData.depthAll, PyData.depth, depth_int r]
    rfl
theorem shaped_int (bs : List Int) : SeqAt.shaped (.list (bs.map PyData.int)) = true := by
  unfold SeqAt.shaped
  rw [Bool.and_eq_true]
  constructor
  · simp only [PyData.canLay0, canLay_int]
  · simp only [PyData.depth, depth_int]
    rfl
theorem dpAll_int {K : Frag} {H : Hp} : ∀ bs : List Int, DpAll K H (bs.map V.int) (bs.map PyData.int)
  | [] => .nil
  | b :: r => .cons (.int b) (dpAll_int r)
section
variable {P : Program} {w : World} {K : Frag} {mg : Str → Option Value} {base : Heap}
def spStart (K : Frag) : Sp := fun vs H Q _ => ∃ (a : Addr) (ns : List Int), vs = [.ref a] ∧ SqL K H a (ns.map V.int) ∧ ∀ (H' : Hp) (l li : Addr), Same H H' → H l = none → H li = none → SS H' l li ns 0 0 19 → Q (.ref l) H'
end
end Kz
namespace Kz
open PySem PySem.W PySem.Calls PyProof.Rows L2 LamX
open He (ga)

/-! ### a def that is only called where nothing is being shown -/
structure FnG (P : Program) (w : World) (K : PySem.W.Frag) (mg : Str → Option Value) (base : Heap) (CX : CXT) (k : Nat) (f : Addr) (fd : FuncData) (ps : List Str) (sp : Sp) : Prop where
  len : ∀ vs H Q E, sp vs H Q E → vs.length = ps.length
  run : ∀ (A : Around) (outer : List Env) (s : Shared) (H : Hp) (args : Args) (us : List Value) (vs : List V) (Q : VK) (E : XK), A.guards = some [] → Room k A → Env0 P w K mg base A outer s H → BindsTo s fd args (ps.zip us) → Vals vs us → sp vs H Q E →
    codeAny (model P w) A (.call (.ref f) args) (CR CX outer P w H s Q E) s
theorem FunD.okG {CX : CXT} {P : Program} {w : World} {K : PySem.W.Frag} {mg : Str → Option Value} {base : Heap} {x qual : Str} {params : Arguments} {body : List Stmt} {scope : Scope} {dvs : List V} {kws : List (Str × V)} {f : Addr} {fd : FuncData} {N ps : List Str} {k : Nat} {sp : Sp}
    (F : FunD K x qual params body scope dvs kws f fd) (S : FnScope N ps scope) (len : ∀ vs H Q E, sp vs H Q E → vs.length = ps.length)
    (hbody : ∀ (cdv : Value) (A : Around) (outer : List Env) (s : Shared) (H : Hp) (vs : List V) (Q : VK) (E : XK), (A.deeper (envOfC qual scope s.heap.objs.size f cdv)).guards = some [] → Room k (A.deeper (envOfC qual scope s.heap.objs.size f cdv)) → sp vs H Q E →
      ∃ t, PSs (cxOf CX P w K mg base N qual scope f cdv A outer s H E) body t ∧ t { nx := fun _ H' => Q .non H', rt := Q } (start N vs) H) : FnG P w K mg base CX (k + 1) f fd ps sp := by
  obtain ⟨oc, od, dV, kV, doc, pm, an, cdv, ct, osl, rfl, lk, hcd, _, _⟩ := F.ex
  exact ⟨len, fun A outer s H args us vs Q E hg hr e0 hb r hsp => LamX.run_ofS lk hcd S hr e0 hb r (len _ _ _ _ hsp) fun hr' => hbody cdv A outer s H vs Q E hg hr' hsp⟩
section
variable {X : Cx} {CX : CXT} {k : Nat} {f : Addr} {fd : FuncData} {ps : List Str} {sp : Sp} {dvs : List V} {ds : List Value} {E : XK} {x : Str} {p pos : Pos} {e : Expr} {es : List Expr} {t : TA}
theorem pe_callG (hgd : X.A.guards = some []) (F : FnG X.prog X.w X.K X.mg X.base CX k f fd ps sp) (hr : Room k X.A) (hg : Gl X x) (hm : X.mg x = some (.ref f)) (hk : PySem.W.keepIn X.K (.ref f) = true) (hb : Binds X.K fd ps ds) (hd : Vals dvs ds) (hx : Passes CX X E)
    (ha : PA X (e :: es) t) (hdb : (x == ("__debug__" : Str)) = false := by decide) (he : starEach (e :: es) X.env = (false, eval e X.env) :: starEach es X.env := by rfl) (hpl : (backTo pos (starEach es X.env)).any (·.1) = false := by rfl) :
    PE X (.Call (.Name x p) (e :: es) [] pos) (tCall sp dvs E t) := by
  refine ⟨fun pins s σ H Q I h => wpAny_Call_Name_kw (ld_glob I hg hm ?_ hdb)⟩
  refine PySem.W.callWith_K (h₀ := X.base) I.ok.mod.kin hk (thn (ha.run pos pins s σ H _ I h) fun us s1 ⟨vs, H1, I1, r, q⟩ => ⟨I1.kIn, ?_⟩) he hpl
  have r2 : Vals (vs ++ dvs) (us ++ ds) := r.append hd
  have hl : (us ++ ds).length = ps.length := r2.length.symm.trans (F.len _ _ _ _ q)
  refine wpAny_call (codeAny_mono (F.run X.A X.stack s1 H1 ⟨us, []⟩ (us ++ ds) (vs ++ dvs) Q E hgd hr I1.env0 (hb s1 us I1.kIn hl) r2 q) fun r s' hq => ?_)
  cases r with
  | error e => exact hx pins σ H1 s1 e s' I1 hq
  | ok fl =>
    cases fl with
    | ret u => exact I1.after hq
    | _ => exact hq.elim
end

/-! ### repr, the dicts known to be no table of modules -/
section
variable {X : Cx}
end
end Kz
namespace Kz
open PySem PySem.W PySem.Calls PyProof.Rows L2 LamX
open He (ga)
def rLen (K : Frag) : List V → Hp → VK → Prop := fun xs H Q => ∃ p ys, xs = [.ref p] ∧ (SqL K H p ys ∨ SqT K H p ys) ∧ Q (.int ys.length) H
section
variable {P : Program} {w : World} {K : Frag} {mg : Str → Option Value} {base : Heap}
end
end Kz
namespace Kz
open PySem PySem.W PySem.Calls PyProof.Rows L2 LamX
open He (ga)

/-! ### the values that are passed -/
/-! ### all but the spring -/
/-! ### the base error, made of nothing -/
section
variable {X : Cx}
end
end Kz
namespace Kz
open PySem PySem.W PySem.Calls PyProof.Rows L2 LamX
open He (ga)
/-! ### the rows told of -/
end Kz
namespace Kz
open PySem PySem.W PySem.Calls PyProof.Rows L2 LamX
open He (ga)
end Kz
namespace Kz
open PySem PySem.W PySem.Calls PyProof.Rows L2 LamX
open He (ga)
def Has (P : Program) (w : World) (K : Frag) (mg : Str → Option Value) (base : Heap) (x : Str) (k : Nat) (ps : List Str) (sp : Sp) : Prop := ∃ f fd, mg x = some (.ref f) ∧ keepIn K (.ref f) = true ∧ L2.Binds K fd ps [] ∧ FnOk P w K mg base CX0 k f fd ps sp
def HasG (P : Program) (w : World) (K : Frag) (mg : Str → Option Value) (base : Heap) (x : Str) (k : Nat) (ps : List Str) (sp : Sp) : Prop := ∃ f fd, mg x = some (.ref f) ∧ keepIn K (.ref f) = true ∧ L2.Binds K fd ps [] ∧ FnG P w K mg base CX0 k f fd ps sp
abbrev noE : XK := fun _ _ _ => False
section
variable {X : Cx} {x : Str} {p pos : Pos} {e : Expr} {es : List Expr} {ps : List Str} {sp : Sp} {k : Nat} {t : TA}
theorem pe_has (h : Has X.prog X.w X.K X.mg X.base x k ps sp) (hr : Room k X.A) (hg : Gl X x) (ha : PA X (e :: es) t) (hdb : (x == ("__debug__" : Str)) = false := by decide) (he : starEach (e :: es) X.env = (false, eval e X.env) :: starEach es X.env := by rfl) (hpl : (backTo pos (starEach es X.env)).any (·.1) = false := by rfl) :
    PE X (.Call (.Name x p) (e :: es) [] pos) (tCall sp [] noE t) := by
  obtain ⟨f, fd, h1, h2, h3, h4⟩ := h
  exact pe_call h4 hr hg h1 h2 h3 .nil pass0 ha hdb he hpl
theorem pe_hasG (hgd : X.A.guards = some []) (h : HasG X.prog X.w X.K X.mg X.base x k ps sp) (hr : Room k X.A) (hg : Gl X x) (ha : PA X (e :: es) t) (hdb : (x == ("__debug__" : Str)) = false := by decide) (he : starEach (e :: es) X.env = (false, eval e X.env) :: starEach es X.env := by rfl) (hpl : (backTo pos (starEach es X.env)).any (·.1) = false := by rfl) :
    PE X (.Call (.Name x p) (e :: es) [] pos) (tCall sp [] noE t) := by
  obtain ⟨f, fd, h1, h2, h3, h4⟩ := h
  exact pe_callG hgd h4 hr hg h1 h2 h3 .nil pass0 ha hdb he hpl
end
section
variable {P : Program} {w : World} {K : Frag} {mg : Str → Option Value} {base : Heap}
end
end Kz
namespace Kz
open PySem PySem.W PySem.Calls PyProof.Rows L2 LamX

/-! ### the end: the script's list and the tables alone are followed -/
section
variable {P : Program} {w : World} {K : Frag} {mg mb : Str → Option Value} {s : Shared} {cs : List (Addr × Addr)} {a : Addr} {vs : List Value} {ns : List Int}
/-- the script's list as it stands -/
abbrev scO (vs : List Value) : Obj := { cls := .type "list", data := .seq vs.toArray }
abbrev emO : Obj := { cls := .none, data := .fields #[] }
/-- what is followed at the law's start: fr, whether the script's list is (it isn't where the written part holds it) -/
def endH (cs : List (Addr × Addr)) (a : Addr) (vs : List Value) (ns : List Int) (fr : Bool) : Hp := fun b => if b ∈ cs.map (·.2) then some (.tbl #[]) else if fr = true ∧ b = a then some (.frz (scO vs) (.lst (ns.map V.int))) else none
theorem endH_tab {fr : Bool} {p : Addr × Addr} (hp : p ∈ cs) : endH cs a vs ns fr p.2 = some (.tbl #[]) := if_pos (List.mem_map.mpr ⟨p, hp, rfl⟩)
theorem endH_cases {fr : Bool} {b : Addr} {o : HO} (h : endH cs a vs ns fr b = some o) : (b ∈ cs.map (·.2) ∧ o = .tbl #[]) ∨ (fr = true ∧ b = a ∧ o = .frz (scO vs) (.lst (ns.map V.int))) := by
  unfold endH at h
  by_cases h1 : b ∈ cs.map (·.2)
  · rw [if_pos h1] at h
    exact .inl ⟨h1, (Option.some.inj h).symm⟩
  · rw [if_neg h1] at h
    by_cases h2 : fr = true ∧ b = a
    · rw [if_pos h2] at h
      exact .inr ⟨h2.1, h2.2, (Option.some.inj h).symm⟩
    · rw [if_neg h2] at h
      cases h
theorem end_law {CX : CXT} {k : Nat} {fa : Addr} {fd : FuncData} {x : Str} {sp : Sp} (KX : K.In s.heap) (hns : s.heap.Ns mainGlobals mg) (hb : s.heap.Ns builtinsNs mb) (hbb : ∀ y : Str, y ≠ "__name__" → mb y = bootBuiltins y) (hlim : s.heap.NoLimit) (hg : s.gens = #[])
    (hT : ∀ p ∈ cs, s.heap.get? p.2 = some emO) (nT : ∀ p ∈ cs, K.lookup p.2 = none) (C : ∀ p ∈ cs, CodeHd s.heap p.1 p.2)
    (hbm : ∃ (bm : Addr) (ob : Obj), mg "__builtins__" = some (.ref bm) ∧ bm ≠ builtinsNs ∧ s.heap.get? bm = some ob ∧ ob.cls = .type "module" ∧ ob.dict = some builtinsNs ∧ ob.data = .plain)
    (ha : s.heap.get? a = some (scO vs)) (hi : IntsAre vs ns) (hl : ns.length ≤ sizeLine) (hr : Room k callerA)
    (G : ∀ base : Heap, K.In base → base.Ns mainGlobals mg → (∀ p ∈ cs, TabB base mg p.1 p.2) → FnG P w K mg base CX k fa fd [x] sp) (hbind : ∀ (s : Shared) (u : Value), BindsTo s fd ⟨[u], []⟩ [(x, u)])
    (hsp : ∀ H : Hp, (∀ p ∈ cs, H p.2 = some (.tbl #[])) → SqL K H a (ns.map V.int) → sp [.ref a] H (fun v _ => v = .bl true) fun _ _ _ => False) (hCX : ∀ H e s', CX [] H s (fun _ _ _ => False) e s' → False) :
    codeAny (model P w) callerA (.call (.ref fa) ⟨[.ref a], []⟩) (fun r s' => r = .ok (.ret (.bool true)) ∧ OldK s.heap s'.heap ∧ s'.os = s.os ∧ AllBare s'.gens) s := by
  have rv := vals_ints hi
  have lv := hi.length
  have tabAt : ∀ b, b ∈ cs.map (·.2) → s.heap.get? b = some emO := fun b hb => by
    obtain ⟨p, hp, rfl⟩ := List.mem_map.mp hb
    exact hT p hp
  have tabK : ∀ b, b ∈ cs.map (·.2) → K.lookup b = none := fun b hb => by
    obtain ⟨p, hp, rfl⟩ := List.mem_map.mp hb
    exact nT p hp
  have aN : a ∉ cs.map (·.2) := fun z => by
    have q := (tabAt a z).symm.trans ha
    cases congrArg (fun o : Option Obj => o.map (·.data)) q
  generalize hfr : (K.lookup a).isNone = fr
  have eA : fr = true → K.lookup a = none := fun z => by
    rw [z] at hfr
    exact Option.isNone_iff_eq_none.mp hfr
  have hS : SqL K (endH cs a vs ns fr) a (ns.map V.int) := by
    cases fr with
    | true => exact .inl (.inr ⟨scO vs, by unfold endH; rw [if_neg aN, if_pos ⟨rfl, rfl⟩]⟩)
    | false =>
      cases q : K.lookup a with
      | none => rw [q] at hfr; cases hfr
      | some o =>
        obtain rfl : scO vs = o := Option.some.inj (ha.symm.trans (KX a o q))
        exact .inr ⟨_, vs.toArray, _, q, rfl, rfl, rfl, by rw [List.size_toArray, lv]; exact hl, by simpa using rv⟩
  have hok : HOk P w (endH cs a vs ns fr) s.heap := fun b o e => by
    rcases endH_cases e with ⟨h1, rfl⟩ | ⟨h1, rfl, rfl⟩
    · exact tabAt b h1
    · exact ⟨ha, by rw [List.length_map]; exact hl, vs, _, rv, ha⟩
  -- what is not followed stands in the base
  have toB : ∀ {b : Addr} {o : Obj}, s.heap.get? b = some o → (∀ vs n, o.data ≠ .seq vs n) → o.data ≠ .fields #[] → (hidT s.heap (endH cs a vs ns fr)).get? b = some o := fun {b o} e h1 h2 => hidT_get e (by
    cases q : endH cs a vs ns fr b with
    | none => rfl
    | some u =>
      rcases endH_cases q with ⟨z, _⟩ | ⟨_, rfl, _⟩
      · exact absurd (congrArg Obj.data (Option.some.inj (e.symm.trans (tabAt b z)))) h2
      · exact absurd (congrArg Obj.data (Option.some.inj (e.symm.trans ha))) (h1 _ _))
  have nsB : ∀ {b : Addr} {m : Str → Option Value}, s.heap.Ns b m → (hidT s.heap (endH cs a vs ns fr)).Ns b m := fun {b m} ⟨o, es, ep, e, d, r⟩ => ⟨o, es, ep, toB e (fun _ _ z => by rw [d] at z; cases z) (fun z => by rw [d] at z; cases z), d, r⟩
  have kB : K.In (hidT s.heap (endH cs a vs ns fr)) := fun b o e => hidT_get (KX b o e) (by
    cases q : endH cs a vs ns fr b with
    | none => rfl
    | some u =>
      rcases endH_cases q with ⟨z, _⟩ | ⟨z, rfl, _⟩
      · rw [tabK b z] at e; cases e
      · rw [eA z] at e; cases e)
  have M : L2.Mod K mg (hidT s.heap (endH cs a vs ns fr)) := ⟨kB, nsB hns, ⟨mb, nsB hb, hbb⟩, let ⟨mc, h1, h2⟩ := hlim; ⟨mc, nsB h1, h2⟩⟩
  have TB : ∀ p ∈ cs, TabB (hidT s.heap (endH cs a vs ns fr)) mg p.1 p.2 := fun p hp => by
    have tp := hT p hp
    refine ⟨?_, ?_, fun z => ?_⟩
    · obtain ⟨o, us, file, tf, flags, tg, inF, text, tt, e1, e2, e3, e4, r⟩ := C p hp
      exact ⟨o, us, file, tf, flags, tg, inF, text, tt, toB e1 (fun _ _ z => by rw [e3] at z; cases z) (fun z => by rw [e3] at z; cases z; simp at e4), e2, e3, e4, r⟩
    · obtain ⟨bm, ob, b1, b2, b3, b4, b5, b6⟩ := hbm
      refine ⟨bm, ob, b1, b2, fun q => ?_, fun q => ?_, toB b3 (fun _ _ z => by rw [b6] at z; cases z) (fun z => by rw [b6] at z; cases z), b4, b5, b6⟩
      · obtain ⟨o, es, ep, e, hd, _⟩ := hns
        rw [q, e] at b3
        cases b3
        rw [hd] at b6
        cases b6
      · rw [q, tp] at b3
        cases b3
        cases b6
    · obtain ⟨o, es, ep, e, hd, _⟩ := hns
      rw [z, tp] at e
      cases e
      cases hd
  have E0 : Env0 P w K mg (hidT s.heap (endH cs a vs ns fr)) callerA [] s (endH cs a vs ns fr) := ⟨rfl, M, fun b o e => of_hidT e, Nat.le_of_eq (hidT_size _ _), trivial, fun b hb => (nomatch (show b ∈ ([] : List Addr) from hb)), hok, .of_eq hg⟩
  refine codeAny_mono ((G _ kB (nsB hns) TB).run callerA [] s _ ⟨[.ref a], []⟩ [.ref a] [.ref a] _ _ rfl hr E0 (hbind s (.ref a)) (.cons rfl .nil) (hsp _ (fun p hp => endH_tab hp) hS)) fun r s' h => ?_
  cases r with
  | error e => exact (hCX _ e s' h).elim
  | ok fl =>
    cases fl with
    | ret u =>
      obtain ⟨v, H', os, bare, un, hok', r', q⟩ := h
      obtain rfl : v = .bl true := q
      obtain rfl : u = Value.bool true := r'
      have keep : ∀ b o, b ∉ cs.map (·.2) → s.heap.get? b = some o → s'.heap.get? b = some o := fun b o nb e => by
        cases q : endH cs a vs ns fr b with
        | none => exact un.keep b o e q (fun z => nomatch (show b ∈ ([] : List Addr) from z)) (by simp)
        | some u =>
          rcases endH_cases q with ⟨z, _⟩ | ⟨_, _, rfl⟩
          · exact absurd z nb
          · have e1 := (hok b _ q).1
            rw [Option.some.inj (e.symm.trans e1)]
            exact (hok' b _ (un.frzs b _ _ q)).1
      have grow : ∀ b, b ∈ cs.map (·.2) → ∃ c, CodeHd s.heap c b ∧ ∃ more : Array Value, s'.heap.get? b = some { cls := .none, data := .fields more } := fun b hb => by
        obtain ⟨p, hp, rfl⟩ := List.mem_map.mp hb
        obtain ⟨more, z⟩ := un.tbls p.2 #[] (endH_tab hp)
        exact ⟨p.1, C p hp, _, hok' p.2 _ z⟩
      refine ⟨rfl, ⟨fun b o e => ?_, fun b o e => ?_⟩, os, bare⟩
      · by_cases hb : b ∈ cs.map (·.2)
        · obtain ⟨c, hc, more, hm⟩ := grow b hb
          obtain rfl : emO = o := Option.some.inj ((tabAt b hb).symm.trans e)
          exact .inr (.inl ⟨(hc.tab (tabAt b hb)).isCodeTable, rfl, #[], more, rfl, by rw [Array.empty_append]; exact hm⟩)
        · exact .inl (keep b o hb e)
      · by_cases hb : b ∈ cs.map (·.2)
        · obtain ⟨c, hc, more, hm⟩ := grow b hb
          exact ⟨_, hm⟩
        · exact ⟨o, keep b o hb e⟩
    | _ => exact h.elim
end
end Kz
namespace Kz
open PySem PySem.W PySem.Calls PyProof.Rows L2 LamX
open He (ga ma eqO eqO_ok ba)
theorem walk_G {l : OpenLaw} {n k : Nat} {q : Program} {loose : List Str} {XP : (Str → Option Value) → Heap → Prop} {YP : World → Heap → Prop} {d : DefRec} {CX : World → CXT} {x : Str} (hn : l.most = some n) (hn2 : n ≤ sizeLine) (hdf : d.params.defaults = []) (hr : Room k callerA)
    (F : ∀ (w : World) (mg : Str → Option Value) (fa : Addr) (h : Heap), YP w h → h.Ns mainGlobals mg → mg d.name = some (.ref fa) → ∃ (K : Frag) (fd : FuncData) (cs : List (Addr × Addr)) (sp : Sp), K.In h ∧ (∀ p ∈ cs, h.get? p.2 = some emO) ∧ (∀ p ∈ cs, K.lookup p.2 = none) ∧ (∀ p ∈ cs, CodeHd h p.1 p.2) ∧
      (∀ (s : Shared) (u : Value), BindsTo s fd ⟨[u], []⟩ [(x, u)]) ∧ (∀ (H : Hp) (a : Addr) (ns : List Int), ns.length ≤ n → (∀ p ∈ cs, H p.2 = some (.tbl #[])) → SqL K H a (ns.map V.int) → sp [.ref a] H (fun v _ => v = .bl true) fun _ _ _ => False) ∧
      ∀ base : Heap, K.In base → base.Ns mainGlobals mg → (∀ p ∈ cs, TabB base mg p.1 p.2) → FnG l.prog w K mg base (CX w) k fa fd [x] sp)
    (hCX : ∀ (w : World) (H : Hp) (s : Shared) (e : Value) (s' : Shared), CX w [] H s (fun _ _ _ => False) e s' → False) : WalkO q loose XP YP l.row.toRowW d [] (fun f vs => PySem.call f vs) := by
  refine Att.attach_callB hn hdf fun w s0 s1 mg mb fa o pm cd doc a vs ns G Y ho hd hcd hmg hobj hints hlen hbits hg => ?_
  obtain ⟨K, fd, cs, sp, KX, hT, nT, C, hb, hsp, hF⟩ := F w mg fa _ Y G.T.g hmg
  exact end_law KX G.T.g G.T.b G.T.builtins G.T.nolimit hg hT nT C G.T.bmain hobj hints (Nat.le_trans hlen hn2) hr hF hb (fun H hH hS => hsp H a ns hlen hH hS) fun H e s' => hCX w H s1 e s'

/-! ### what the looks say of a class -/
section
variable {K : Frag} {FE C : Addr} {fs : List Str}
end
end Kz
namespace K14
open PySem PySem.W PySem.Calls PyProof.Rows L2 LamX
open He (ga)
open Kz (SS ExtS ExtS.trans ExtS.refl spStart small4 same_new boot_in boot_li tWhile_split shaped_int dpAll_int seq0 new_ext)
def topS (i : Nat) : Stmt := PySem.Challenge.pw_twinforks_k14_whole_endless_rows.main.body.getD i (.Pass ⟨0, 0, 0, 0⟩)
abbrev sSt : Stmt := topS 33
abbrev sDr : Stmt := topS 34
abbrev sMx : Stmt := topS 35
theorem scSt : FnScope ["script"] ["script"] (defScope sSt) := ⟨rfl, rfl, rfl, by decide +kernel, rfl, by decide +kernel, by decide +kernel⟩
theorem scDr : FnScope ["stream", "many", "cell", "digit", "mixed"] ["stream", "many"] (defScope sDr) := ⟨rfl, rfl, rfl, by decide +kernel, rfl, by decide +kernel, by decide +kernel⟩
theorem scMx : FnScope ["stream", "some", "left", "k"] ["stream", "some"] (defScope sMx) := ⟨rfl, rfl, rfl, by decide +kernel, rfl, by decide +kernel, by decide +kernel⟩
def scOf : List Stmt → Scope
  | [_, .Return (some (.ListComp _ _ sc _)) _] => sc
  | _ => defScope sMx
def mxSc : Scope := scOf (defBody sMx)
section
variable {P : Program} {w : World} {K : Frag} {mg : Str → Option Value} {base : Heap}
theorem ok_st {f : Addr} {fd : FuncData} (F : FunD K "_law_start" "_law_start" (defArgs sSt) (defBody sSt) (defScope sSt) [] [] f fd) (ml : mg "list" = none) : FnOk P w K mg base CX0 1 f fd ["script"] (spStart K) := by
  refine F.ok scSt (fun vs H Q E h => ?_) (fun cdv A outer s H vs Q XE hr h => ?_)
  · obtain ⟨a, ns, rfl, _⟩ := h
    rfl
  · obtain ⟨a, ns, rfl, hS, k⟩ := h
    refine ⟨_, PSs.nox (pss_one (ps_ret (pe_lst (pa_cons (pe_callTy call_list_of (by rfl) ml boot_li (pa_cons (pv 0) pa_nil)) (pa_cons pe_int (pa_cons pe_int (pa_cons pe_int pa_nil))))))), ?_⟩
    refine ⟨.ref a, rfl, a, _, rfl, .inl hS, fun li n1 => ⟨small4 4, fun l n2 => ?_⟩⟩
    have ne : l ≠ li := fun z => by
      rw [z, upd_same] at n2
      cases n2
    refine k _ l li ((same_new n1).trans (same_new n2)) ((same_new n1).free n2) n1 ⟨upd_same, by rw [upd_ne ne.symm, upd_same], ne, by decide, by decide, by decide, by decide⟩
end
end K14
namespace K14
open PySem PySem.W PySem.Calls PyProof.Rows L2 LamX
open He (ga)
open Kz (boot_isi same_new small4 new_ext boot_li boot_in)
/-! ### any thing that the law passes -/
def kd : Key → PyData
  | .inl i => .int i
  | .inr x => .str x
mutual
inductive Th (H : Hp) : V → PyData → Prop
  | non : Th H .non .none
  | bl (b : Bool) : Th H (.bl b) (.bool b)
  | int (i : Int) : Th H (.int i) (.int i)
  | str (x : Str) : Th H (.str x) (.str x)
  | lst {a : Addr} {xs : List V} {ds : List PyData} : H a = some (.lst xs) → ThAll H xs ds → Th H (.ref a) (.list ds)
  | tup {a : Addr} {xs : List V} {ds : List PyData} : H a = some (.tup xs) → ThAll H xs ds → Th H (.ref a) (.tuple ds)
  | dct {a : Addr} {kvs : List (Key × V)} {ps : List (PyData × PyData)} : H a = some (.dK kvs) → ThKv H kvs ps → Th H (.ref a) (.dict ps)
inductive ThAll (H : Hp) : List V → List PyData → Prop
  | nil : ThAll H [] []
  | cons {v : V} {vs : List V} {d : PyData} {ds : List PyData} : Th H v d → ThAll H vs ds → ThAll H (v :: vs) (d :: ds)
inductive ThKv (H : Hp) : List (Key × V) → List (PyData × PyData) → Prop
  | nil : ThKv H [] []
  | cons {k : Key} {v : V} {vs : List (Key × V)} {d : PyData} {ds : List (PyData × PyData)} : Th H v d → ThKv H vs ds → ThKv H ((k, v) :: vs) ((kd k, d) :: ds)
end
mutual
theorem Th.ext {H H1 : Hp} (e : L2.Same H H1) : ∀ {v : V} {d : PyData}, Th H v d → Th H1 v d
  | _, _, .non => .non
  | _, _, .bl b => .bl b
  | _, _, .int i => .int i
  | _, _, .str x => .str x
  | _, _, .lst h r => .lst (e _ _ h) (ThAll.ext e r)
  | _, _, .tup h r => .tup (e _ _ h) (ThAll.ext e r)
  | _, _, .dct h r => .dct (e _ _ h) (ThKv.ext e r)
theorem ThAll.ext {H H1 : Hp} (e : L2.Same H H1) : ∀ {v : List V} {d : List PyData}, ThAll H v d → ThAll H1 v d
  | _, _, .nil => .nil
  | _, _, .cons h r => .cons (Th.ext e h) (ThAll.ext e r)
theorem ThKv.ext {H H1 : Hp} (e : L2.Same H H1) : ∀ {v : List (Key × V)} {d : List (PyData × PyData)}, ThKv H v d → ThKv H1 v d
  | _, _, .nil => .nil
  | _, _, .cons h r => .cons (Th.ext e h) (ThKv.ext e r)
end
theorem ThAll.length {H : Hp} : ∀ {vs : List V} {ds : List PyData}, ThAll H vs ds → vs.length = ds.length
  | _, _, .nil => rfl
  | _, _, .cons _ r => by rw [List.length_cons, List.length_cons, r.length]
def isL : PyData → Bool
  | .list _ => true
  | .tuple _ => true
  | _ => false
def isN : PyData → Bool
  | .int i => decide (0 ≤ i)
  | _ => false
def tyN : PyData → String
  | .none => "NoneType"
  | .bool _ => "bool"
  | .int _ => "int"
  | .str _ => "str"
  | .list _ => "list"
  | .tuple _ => "tuple"
  | .dict _ => "dict"
theorem Th.ty {K : Frag} {H : Hp} {v : V} {d : PyData} (h : Th H v d) : TyX K H v (.type (tyN d)) := by
  cases h with
  | non => exact .base .non
  | bl b => exact .base (.bl b)
  | int i => exact .base (.int i)
  | str x => exact .base (.str x)
  | lst h r => exact .base (.lst h)
  | tup h r => exact .base (.tup h)
  | dct h r => exact .base (.dK h)
theorem boot_tu : bootBuiltins "tuple" = some (.type "tuple") := by decide +kernel
theorem boot_bo : bootBuiltins "bool" = some (.type "bool") := by decide +kernel
theorem is_lt {K : Frag} (d : PyData) : kitAny K (.type (tyN d)) [.type "list", .type "tuple"] = some (isL d) := by
  cases d <;> rfl
theorem is_in {K : Frag} (d : PyData) : kitOne K (.type (tyN d)) (.type "int") = some (match d with | .int _ => true | .bool _ => true | _ => false) := by
  cases d <;> rfl
theorem is_bo {K : Frag} (d : PyData) : kitOne K (.type (tyN d)) (.type "bool") = some (match d with | .bool _ => true | _ => false) := by
  cases d <;> rfl
abbrev sIl : Stmt := topS 7
abbrev sIp : Stmt := topS 8
abbrev sIn : Stmt := topS 9
abbrev sIf : Stmt := topS 11
theorem scIl : FnScope ["thing"] ["thing"] (defScope sIl) := ⟨rfl, rfl, rfl, by decide +kernel, rfl, by decide +kernel, by decide +kernel⟩
theorem scIp : FnScope ["thing"] ["thing"] (defScope sIp) := ⟨rfl, rfl, rfl, by decide +kernel, rfl, by decide +kernel, by decide +kernel⟩
theorem scIn : FnScope ["thing"] ["thing"] (defScope sIn) := ⟨rfl, rfl, rfl, by decide +kernel, rfl, by decide +kernel, by decide +kernel⟩
section
variable {P : Program} {w : World} {K : Frag} {mg : Str → Option Value} {base : Heap}
/-- a look at any thing -/
def spLook (f : PyData → Bool) : Sp := fun vs H Q _ => ∃ (v : V) (d : PyData), vs = [v] ∧ Th H v d ∧ ∀ H', L2.Same H H' → Q (.bl (f d)) H'
theorem ok_il {f : Addr} {fd : FuncData} (F : FunD K "is_list" "is_list" (defArgs sIl) (defBody sIl) (defScope sIl) [] [] f fd) (mi : mg "isinstance" = none) (ml : mg "list" = none) (mt : mg "tuple" = none) : FnOk P w K mg base CX0 1 f fd ["thing"] (spLook isL) := by
  refine F.ok scIl (fun vs H Q E h => ?_) (fun cdv A outer s H vs Q XE hr h => ?_)
  · obtain ⟨v, d, rfl, _⟩ := h
    rfl
  · obtain ⟨v, d, rfl, hv, k⟩ := h
    refine ⟨_, PSs.nox (pss_one (ps_ret (pe_callB call_isiT (by rfl) mi boot_isi (pa_cons (pv 0) (pa_cons (pe_tup (pa_cons (pe_bltn (by rfl) ml boot_li (v := .ty "list") rfl) (pa_cons (pe_bltn (by rfl) mt boot_tu (v := .ty "tuple") rfl) pa_nil))) pa_nil))))), ?_⟩
    refine ⟨v, rfl, small4 2, fun p np => ⟨v, p, _, _, _, _, rfl, upd_same, .cons (.ty _) (.cons (.ty _) .nil), (hv.ext (same_new np)).ty, is_lt d, k _ (same_new np)⟩⟩
theorem ok_in {f : Addr} {fd : FuncData} (F : FunD K "is_number" "is_number" (defArgs sIn) (defBody sIn) (defScope sIn) [] [] f fd) (mi : mg "isinstance" = none) (mn : mg "int" = none) (mb : mg "bool" = none) : FnOk P w K mg base CX0 1 f fd ["thing"] (spLook isN) := by
  refine F.ok scIn (fun vs H Q E h => ?_) (fun cdv A outer s H vs Q XE hr h => ?_)
  · obtain ⟨v, d, rfl, _⟩ := h
    rfl
  · obtain ⟨v, d, rfl, hv, k⟩ := h
    refine ⟨_, PSs.nox (pss_one (ps_ret (pe_and (pe_callB call_isi (by rfl) mi boot_isi (pa_cons (pv 0) (pa_cons (pe_bltn (by rfl) mn boot_in (v := .ty "int") rfl) pa_nil))) (pe_and (pe_not (pe_callB call_isi (by rfl) mi boot_isi (pa_cons (pv 0) (pa_cons (pe_bltn (by rfl) mb boot_bo (v := .ty "bool") rfl) pa_nil)))) (pe_one (pe_cmpR op_ge (pv 0) pe_int (nomark _))))))), ?_⟩
    refine ⟨v, rfl, v, _, _, _, _, rfl, .ty _, hv.ty, is_in d, _, rfl, ?_⟩
    cases hv with
    | int i =>
      refine iteT ⟨.int i, rfl, .int i, _, _, _, _, rfl, .ty _, .base (.int i), is_bo (.int i), _, rfl, _, rfl, iteT ⟨.int i, rfl, i, 0, rfl, rfl, ?_⟩⟩
      have e := k H (fun _ _ e => e)
      exact e
    | bl b =>
      refine iteT ⟨.bl b, rfl, .bl b, _, _, _, _, rfl, .ty _, .base (.bl b), is_bo (.bool b), _, rfl, _, rfl, iteF ?_⟩
      exact k H (fun _ _ e => e)
    | _ => exact iteF (k H (fun _ _ e => e))
end
end K14
namespace K14
open PySem PySem.W PySem.Calls PyProof.Rows L2 LamX
open He (ga)
open Kz (boot_isi same_new small4 new_ext boot_li boot_in Has pe_has noE)
def its : PyData → List PyData
  | .list ds => ds
  | .tuple ds => ds
  | _ => []
def isF : PyData → Bool
  | .int i => decide (0 ≤ i) && decide (i ≤ 1)
  | _ => false
def isR (d : PyData) : Bool := isL d && (its d).all isF
def isP (d : PyData) : Bool := isL d && decide ((its d).length = 2)
def isE (d : PyData) : Bool := match its d with
  | [x, y] => isL d && (isR x && (isR y && decide (0 < (its y).length)))
  | _ => false
/-- a list or a tuple, as a list of values -/
theorem Th.seq {K : Frag} {H : Hp} {v : V} {d : PyData} (h : Th H v d) (l : isL d = true) : ∃ a xs, v = .ref a ∧ ThAll H xs (its d) ∧ (H a = some (.lst xs) ∨ H a = some (.tup xs)) := by
  cases h with
  | lst h r => exact ⟨_, _, rfl, r, .inl h⟩
  | tup h r => exact ⟨_, _, rfl, r, .inr h⟩
  | _ => cases l
theorem ThAll.get {H : Hp} : ∀ {vs : List V} {ds : List PyData}, ThAll H vs ds → ∀ {i : Nat} {v : V}, vs[i]? = some v → ∃ d, ds[i]? = some d ∧ Th H v d
  | _, _, .nil, i, v, e => by simp at e
  | _, _, .cons h r, i, v, e => by
    cases i with
    | zero => obtain rfl := Option.some.inj e; exact ⟨_, rfl, h⟩
    | succ i => exact r.get e
section
variable {X : Cx} {tg e : Expr} {w1 w2 : TI}
theorem pi_or (h1 : PI X tg e w1) (h2 : PI X tg e w2) : PI X tg e (fun σ H R => w1 σ H R ∨ w2 σ H R) := ⟨fun pins s σ H R I h => h.elim (h1.run pins s σ H R I) (h2.run pins s σ H R I)⟩
end
abbrev sIr : Stmt := topS 12
abbrev sIe : Stmt := topS 13
theorem scIf : FnScope ["thing"] ["thing"] (defScope sIf) := ⟨rfl, rfl, rfl, by decide +kernel, rfl, by decide +kernel, by decide +kernel⟩
theorem scIr : FnScope ["thing", "figure"] ["thing"] (defScope sIr) := ⟨rfl, rfl, rfl, by decide +kernel, rfl, by decide +kernel, by decide +kernel⟩
theorem scIe : FnScope ["thing"] ["thing"] (defScope sIe) := ⟨rfl, rfl, rfl, by decide +kernel, rfl, by decide +kernel, by decide +kernel⟩
def scOfA : List Stmt → Scope
  | [.Return (some (.BoolOp _ [_, .Call _ [.ListComp _ _ sc _] _ _] _)) _] => sc
  | _ => defScope sIr
def irSc : Scope := scOfA (defBody sIr)
theorem boot_all : bootBuiltins "all" = some (.builtin "all") := by decide +kernel
/-- a look at any thing with bounded lists -/
def spLookB (f : PyData → Bool) : Sp := fun vs H Q _ => ∃ (v : V) (d : PyData), vs = [v] ∧ Th H v d ∧ (its d).length ≤ 100000 ∧ (∀ x ∈ its d, (its x).length ≤ 100000) ∧ ∀ H', L2.Same H H' → Q (.bl (f d)) H'
section
variable {P : Program} {w : World} {K : Frag} {mg : Str → Option Value} {base : Heap}
theorem ok_ip {f : Addr} {fd : FuncData} (F : FunD K "is_pair" "is_pair" (defArgs sIp) (defBody sIp) (defScope sIp) [] [] f fd) (L : Has P w K mg base "is_list" 1 ["thing"] (spLook isL)) (mn : mg "len" = none) : FnOk P w K mg base CX0 2 f fd ["thing"] (spLook isP) := by
  refine F.ok scIp (fun vs H Q E h => ?_) (fun cdv A outer s H vs Q XE hr h => ?_)
  · obtain ⟨v, d, rfl, _⟩ := h
    rfl
  · obtain ⟨v, d, rfl, hv, k⟩ := h
    refine ⟨_, PSs.nox (pss_one (ps_ret (pe_and (pe_has L hr (by rfl) (pa_cons (pv 0) pa_nil)) (pe_one (pe_cmpR op_eq (pe_callB call_len_seq (by rfl) mn boot_len (pa_cons (pv 0) pa_nil)) pe_int (nomark _)))))), ?_⟩
    refine ⟨v, rfl, v, d, rfl, hv, fun H1 s1 => ⟨isL d, rfl, ?_⟩⟩
    cases l : isL d with
    | false =>
      refine iteF ?_
      have e := k H1 s1
      unfold isP at e
      rw [l] at e
      exact e
    | true =>
      obtain ⟨a, xs, rfl, r, hx⟩ := (hv.ext s1).seq (K := K) l
      refine iteT ⟨.ref a, rfl, a, xs, rfl, ?_, rfl, ?_⟩
      · rcases hx with hx | hx
        · exact .inl (.inl (.inl hx))
        · exact .inr (.inl (.inl hx))
      · have e := k H1 s1
        unfold isP at e
        rw [l, Bool.true_and, ← r.length] at e
        have e2 : (decide (V.int (xs.length : Int) = V.int 2)) = decide (xs.length = 2) := by
          by_cases q : xs.length = 2
          · rw [q]; rfl
          · rw [decide_eq_false q, decide_eq_false (fun z => q (by have := V.int.inj z; omega))]
        show Q (.bl (decide (V.int (xs.length : Int) = V.int 2))) H1
        rw [e2]
        exact e
theorem ok_if {f : Addr} {fd : FuncData} (F : FunD K "is_figure" "is_figure" (defArgs sIf) (defBody sIf) (defScope sIf) [] [] f fd) (L : Has P w K mg base "is_number" 1 ["thing"] (spLook isN)) : FnOk P w K mg base CX0 2 f fd ["thing"] (spLook isF) := by
  refine F.ok scIf (fun vs H Q E h => ?_) (fun cdv A outer s H vs Q XE hr h => ?_)
  · obtain ⟨v, d, rfl, _⟩ := h
    rfl
  · obtain ⟨v, d, rfl, hv, k⟩ := h
    refine ⟨_, PSs.nox (pss_one (ps_ret (pe_and (pe_has L hr (by rfl) (pa_cons (pv 0) pa_nil)) (pe_one (pe_cmpR op_le (pv 0) pe_int (nomark _)))))), ?_⟩
    refine ⟨v, rfl, v, d, rfl, hv, fun H1 s1 => ⟨isN d, rfl, ?_⟩⟩
    have e := k H1 s1
    cases hv with
    | int i =>
      have e : Q (.bl (decide (0 ≤ i) && decide (i ≤ 1))) H1 := e
      cases l : isN (.int i) with
      | false =>
        refine iteF ?_
        have l2 : decide (0 ≤ i) = false := l
        rw [l2] at e
        exact e
      | true =>
        have l2 : decide (0 ≤ i) = true := l
        rw [l2, Bool.true_and] at e
        exact iteT ⟨.int i, rfl, i, 1, rfl, rfl, e⟩
    | _ => exact iteF e
theorem ok_ir {f : Addr} {fd : FuncData} (F : FunD K "is_row" "is_row" (defArgs sIr) (defBody sIr) (defScope sIr) [] [] f fd) (L : Has P w K mg base "is_list" 1 ["thing"] (spLook isL)) (G : Has P w K mg base "is_figure" 2 ["thing"] (spLook isF)) (ma : mg "all" = none) :
    FnOk P w K mg base CX0 3 f fd ["thing"] (fun vs H Q E => ∃ (v : V) (d : PyData), vs = [v] ∧ Th H v d ∧ (its d).length ≤ 100000 ∧ ∀ H', L2.Same H H' → Q (.bl (isR d)) H') := by
  refine F.ok scIr (fun vs H Q E h => ?_) (fun cdv A outer s H vs Q XE hr h => ?_)
  · obtain ⟨v, d, rfl, _⟩ := h
    rfl
  · obtain ⟨v, d, rfl, hv, hl, k⟩ := h
    refine ⟨_, PSs.nox (pss_one (ps_ret (pe_and (pe_has L (hr.mono (by decide)) (by rfl) (pa_cons (pv 0) pa_nil)) (pe_one (pe_callB (cr_all rfl) (by rfl) ma boot_all (pa_cons (pe_lc (X := (cxOf CX0 P w K mg base ["thing", "figure"] "is_row" (defScope sIr) f cdv A outer s H XE).nox) (scope := irSc) (te := tCall (spLook isF) [] noE (tCons (tVar 1) tNil)) (own := [("figure", 1)]) (g := gName 1) (tt := tYes) rfl scIr.nd
      (pi_or (pi_list (pv 0)) (pi_tup (pv 0))) (blkOk_by (N := ["thing", "figure"]) (sc := defScope sIr) (by decide +kernel)) (fun _ _ _ _ _ => pg_name (i := 1) scIr.nd rfl (Or.inl rfl)) (fun _ _ _ _ _ => pts_nil)
      (fun s0 H0 C0 cl0 fp0 => pe_has (X := Cx.blk ((cxOf CX0 P w K mg base ["thing", "figure"] "is_row" (defScope sIr) f cdv A outer s H XE).nox) s0 H0 irSc (compEnvC irSc cl0 C0 (Cx.env ((cxOf CX0 P w K mg base ["thing", "figure"] "is_row" (defScope sIr) f cdv A outer s H XE).nox))) fp0) G hr (by rfl) (pa_cons (pv 1) pa_nil))) pa_nil)))))), ?_⟩
    refine ⟨v, rfl, v, d, rfl, hv, fun H1 s1 => ⟨isL d, rfl, ?_⟩⟩
    cases l : isL d with
    | false =>
      refine iteF ?_
      have e := k H1 s1
      unfold isR at e
      rw [l] at e
      exact e
    | true =>
      obtain ⟨a, xs, rfl, r, hx⟩ := (hv.ext s1).seq (K := K) l
      have lx : xs.length = (its d).length := r.length
      have step : ∀ (D : Addr), H1 D = none → ∀ (i : Nat) (x : V) (H2 : Hp), xs[i]? = some x → (L2.Same H1 H2 ∧ H2 D = some (.lst (((its d).take i).map fun z => V.bl (isF z)))) → ∀ (σ2 : L2.St), σ2[1]? = some (some x) →
          tCall (spLook isF) [] noE (tCons (tVar 1) tNil) σ2 H2 fun y H4 => ∃ acc, H4 D = some (.lst acc) ∧ acc.length < sizeLine ∧ (L2.Same H1 (upd H4 D (.lst (acc ++ [y]))) ∧ (upd H4 D (.lst (acc ++ [y]))) D = some (.lst (((its d).take (i + 1)).map fun z => V.bl (isF z)))) := by
        intro D hD i x H2 hi ⟨S, hA⟩ σ2 h2
        obtain ⟨z, hz, tz⟩ := r.get hi
        refine ⟨x, h2, x, z, rfl, tz.ext S, fun H4 s4 => ⟨_, s4 _ _ hA, ?_, fun b o e => ?_, ?_⟩⟩
        · rw [List.length_map, List.length_take, sizeLine_eq]
          omega
        · rw [upd_ne (ne_of_none e hD)]
          exact s4 _ _ (S _ _ e)
        · rw [upd_same]
          have et : (its d).take (i + 1) = (its d).take i ++ [z] := by
            rw [List.take_add_one, hz]
            rfl
          rw [et, List.map_append]
          rfl
      have fin : ∀ (D : Addr) (H2 : Hp), (L2.Same H1 H2 ∧ H2 D = some (.lst (((its d).take xs.length).map fun z => V.bl (isF z)))) → rAll K [.ref D] H2 Q := by
        intro D H2 ⟨S, hA⟩
        refine ⟨D, ((its d).take xs.length).map isF, rfl, .inl (.inl (by rw [List.map_map]; exact hA)), ?_⟩
        rw [lx, List.take_length, List.all_map]
        have e := k H2 (s1.trans S)
        unfold isR at e
        rw [l, Bool.true_and] at e
        exact e
      refine iteT ?_
      rcases hx with hx | hx
      · refine .inl ⟨.ref a, rfl, a, rfl, ⟨xs, .inl (.inl hx)⟩, fun D hD => lc_list (xs := xs) (fun i H2 => L2.Same H1 H2 ∧ H2 D = some (.lst (((its d).take i).map fun z => V.bl (isF z)))) ⟨same_new hD, upd_same⟩ (fun i H2 _ e => .inl (.inl (e.1 _ _ hx))) (fun i x H2 hi e => ?_) (fun H2 e => fin D H2 e)⟩
        refine ⟨rfl, ?_⟩
        unfold tYes
        show (if true = true then _ else _)
        rw [if_pos rfl]
        exact step D hD i x H2 hi e _ rfl
      · refine .inr ⟨.ref a, rfl, a, rfl, ⟨xs, .inl (.inl hx)⟩, fun D hD => lc_tup (xs := xs) (fun i H2 => L2.Same H1 H2 ∧ H2 D = some (.lst (((its d).take i).map fun z => V.bl (isF z)))) ⟨same_new hD, upd_same⟩ (fun i H2 _ e => .inl (.inl (e.1 _ _ hx))) (fun i x H2 hi e => ?_) (fun H2 e => fin D H2 e)⟩
        refine ⟨rfl, ?_⟩
        unfold tYes
        show (if true = true then _ else _)
        rw [if_pos rfl]
        exact step D hD i x H2 hi e _ rfl
end
end K14
namespace K14
open PySem PySem.W PySem.Calls PyProof.Rows L2 LamX
open He (ga)
open Kz (boot_isi same_new small4 new_ext boot_li boot_in Has pe_has noE)
section
variable {P : Program} {w : World} {K : Frag} {mg : Str → Option Value} {base : Heap}
def spRow : Sp := fun vs H Q _ => ∃ (v : V) (d : PyData), vs = [v] ∧ Th H v d ∧ (its d).length ≤ 100000 ∧ ∀ H', L2.Same H H' → Q (.bl (isR d)) H'
theorem seq_ix {H : Hp} {v : V} {d : PyData} {x y : PyData} (h : Th H v d) (l : isL d = true) (e : its d = [x, y]) : ∃ a p q, v = .ref a ∧ Th H p x ∧ Th H q y ∧ (H a = some (.lst [p, q]) ∨ H a = some (.tup [p, q])) := by
  obtain ⟨a, xs, rfl, r, hx⟩ := h.seq (K := []) l
  rw [e] at r
  cases r with
  | cons r1 r2 =>
    cases r2 with
    | cons r2 r3 =>
      cases r3
      exact ⟨a, _, _, rfl, r1, r2, hx⟩
theorem ok_ie {f : Addr} {fd : FuncData} (F : FunD K "is_endless" "is_endless" (defArgs sIe) (defBody sIe) (defScope sIe) [] [] f fd) (L : Has P w K mg base "is_pair" 2 ["thing"] (spLook isP)) (G : Has P w K mg base "is_row" 3 ["thing"] spRow) (mn : mg "len" = none) : FnOk P w K mg base CX0 4 f fd ["thing"] (spLookB isE) := by
  refine F.ok scIe (fun vs H Q E h => ?_) (fun cdv A outer s H vs Q XE hr h => ?_)
  · obtain ⟨v, d, rfl, _⟩ := h
    rfl
  · obtain ⟨v, d, rfl, hv, hl, hl2, k⟩ := h
    refine ⟨_, PSs.nox (pss_one (ps_ret (pe_and (pe_has L (hr.mono (by decide)) (by rfl) (pa_cons (pv 0) pa_nil)) (pe_and (pe_has G hr (by rfl) (pa_cons (pe_ix ix_seq (pv 0) pe_int (fun _ _ => rfl)) pa_nil)) (pe_and (pe_has G hr (by rfl) (pa_cons (pe_ix ix_seq (pv 0) pe_int (fun _ _ => rfl)) pa_nil))
      (pe_one (pe_cmpR op_gt (pe_callB call_len_seq (by rfl) mn boot_len (pa_cons (pe_ix ix_seq (pv 0) pe_int (fun _ _ => rfl)) pa_nil)) pe_int (nomark _)))))))), ?_⟩
    refine ⟨v, rfl, v, d, rfl, hv, fun H1 s1 => ⟨isP d, rfl, ?_⟩⟩
    cases l : isP d with
    | false =>
      refine iteF ?_
      have e := k H1 s1
      have z : isE d = false := by
        unfold isE
        split
        · rename_i x y q
          unfold isP at l
          rw [q] at l
          have l2 : isL d = false := by simpa using l
          rw [l2]
          rfl
        · rfl
      rw [z] at e
      exact e
    | true =>
      obtain ⟨l1, l2⟩ := Bool.and_eq_true_iff.mp (show (isL d && decide ((its d).length = 2)) = true from l)
      have l3 := of_decide_eq_true l2
      obtain ⟨x, y, q⟩ : ∃ x y, its d = [x, y] := by
        match its d, l3 with
        | [x, y], _ => exact ⟨x, y, rfl⟩
      have zE : isE d = (isR x && (isR y && decide (0 < (its y).length))) := by
        unfold isE
        rw [q, l1]
        rfl
      obtain ⟨a, p, r, rfl, tx, ty, hx⟩ := seq_ix hv l1 q
      have bx : (its x).length ≤ 100000 := hl2 x (by rw [q]; simp)
      have by' : (its y).length ≤ 100000 := hl2 y (by rw [q]; simp)
      have ix0 : ∀ {G : Hp} {Q' : VK}, L2.Same H G → Q' p G → rIx K (.ref a) (.int 0) G Q' := fun {G Q'} S hq => by
        rcases hx with hx | hx
        · exact .inl ⟨a, [p, r], 0, p, rfl, rfl, .inl (.inl (S _ _ hx)), atI_nat (j := 0) rfl, hq⟩
        · exact .inr (.inl ⟨a, [p, r], 0, p, rfl, rfl, .inl (.inl (S _ _ hx)), atI_nat (j := 0) rfl, hq⟩)
      have ix1 : ∀ {G : Hp} {Q' : VK}, L2.Same H G → Q' r G → rIx K (.ref a) (.int 1) G Q' := fun {G Q'} S hq => by
        rcases hx with hx | hx
        · exact .inl ⟨a, [p, r], 1, r, rfl, rfl, .inl (.inl (S _ _ hx)), atI_nat (j := 1) rfl, hq⟩
        · exact .inr (.inl ⟨a, [p, r], 1, r, rfl, rfl, .inl (.inl (S _ _ hx)), atI_nat (j := 1) rfl, hq⟩)
      refine iteT ⟨.ref a, rfl, ix0 s1 ⟨p, x, rfl, tx.ext s1, bx, fun H2 s2 => ⟨isR x, rfl, ?_⟩⟩⟩
      have S2 := s1.trans s2
      cases gx : isR x with
      | false =>
        refine iteF ?_
        have e := k H2 S2
        rw [zE, gx] at e
        exact e
      | true =>
        refine iteT ⟨.ref a, rfl, ix1 S2 ⟨r, y, rfl, ty.ext S2, by', fun H3 s3 => ⟨isR y, rfl, ?_⟩⟩⟩
        have S3 := S2.trans s3
        cases gy : isR y with
        | false =>
          refine iteF ?_
          have e := k H3 S3
          rw [zE, gx, gy] at e
          exact e
        | true =>
          have ly : isL y = true := (Bool.and_eq_true_iff.mp (show (isL y && _) = true from gy)).1
          obtain ⟨b, ys, rfl, ry, hy⟩ := (ty.ext S3).seq (K := K) ly
          refine iteT ⟨.ref a, rfl, ix1 S3 ⟨b, ys, rfl, ?_, ?_⟩⟩
          · rcases hy with hy | hy
            · exact .inl (.inl (.inl hy))
            · exact .inr (.inl (.inl hy))
          · have e := k H3 S3
            rw [zE, gx, gy, ← ry.length] at e
            have z : decide ((0 : Int) < (ys.length : Int)) = decide (0 < ys.length) := by
              by_cases c : 0 < ys.length
              · rw [decide_eq_true c, decide_eq_true (by omega)]
              · rw [decide_eq_false c, decide_eq_false (by omega)]
            refine ⟨(ys.length : Int), 0, rfl, rfl, ?_⟩
            rw [← z] at e
            exact e
end
end K14
namespace K14
open PySem PySem.W PySem.Calls PyProof.Rows L2 LamX
open He (ga)
open Kz (boot_isi same_new small4 new_ext boot_li boot_in Has pe_has noE shaped_int dpAll_int)
abbrev sSr : Stmt := topS 15
theorem scSr : FnScope ["figures", "many", "length"] ["figures"] (defScope sSr) := ⟨rfl, rfl, rfl, by decide +kernel, rfl, by decide +kernel, by decide +kernel⟩
theorem cutV_take {xs : List V} {l : Nat} (h : l ≤ xs.length) : cutV xs none (some (l : Int)) = xs.take l := by
  unfold cutV
  have e1 : HT.sIx xs.length 0 none = 0 := rfl
  have e2 : HT.sIx xs.length xs.length (some (l : Int)) = l := by
    rw [HT.sIx_nat]
    omega
  rw [e1, e2]
  rfl
theorem eqv_ints : ∀ xs ys : List Int, PyData.eqvAll (xs.map PyData.int) (ys.map PyData.int) = decide (xs = ys)
  | [], [] => rfl
  | [], y :: ys => rfl
  | x :: xs, [] => rfl
  | x :: xs, y :: ys => by
    show (PyData.eqv (.int x) (.int y) && PyData.eqvAll (xs.map PyData.int) (ys.map PyData.int)) = _
    rw [eqv_ints xs ys]
    have e : PyData.eqv (.int x) (.int y) = decide (x = y) := rfl
    rw [e]
    by_cases h1 : x = y
    · by_cases h2 : xs = ys
      · simp [h1, h2]
      · simp [h1, h2]
    · simp [h1]
theorem eqv_il (xs ys : List Int) : PyData.eqv (.list (xs.map PyData.int)) (.list (ys.map PyData.int)) = decide (xs = ys) := eqv_ints xs ys
def condR (ns : List Int) (l : Nat) : Prop := ns.length % l = 0 ∧ (List.replicate (ns.length / l) (ns.take l)).flatten = ns
/-- rs is the shortest round of ns -/
def IsShort (ns rs : List Int) : Prop := ∃ l, 1 ≤ l ∧ l ≤ ns.length ∧ condR ns l ∧ (∀ m, 1 ≤ m → m < l → ¬ condR ns m) ∧ rs = ns.take l
theorem flat_map (k : Nat) (xs : List Int) : (List.replicate k (xs.map V.int)).flatten = ((List.replicate k xs).flatten).map V.int := by
  rw [List.map_flatten, List.map_replicate]
section
variable {P : Program} {w : World} {K : Frag} {mg : Str → Option Value} {base : Heap}
def spShort : Sp := fun vs H Q _ => ∃ (a : Addr) (ns : List Int), vs = [.ref a] ∧ H a = some (.lst (ns.map V.int)) ∧ 0 < ns.length ∧ ns.length ≤ 1000 ∧ ∀ (H' : Hp) (p : Addr) (rs : List Int), L2.Same H H' → H' p = some (.lst (rs.map V.int)) → IsShort ns rs → Q (.ref p) H'
theorem ok_sr {f : Addr} {fd : FuncData} (F : FunD K "shortest_round" "shortest_round" (defArgs sSr) (defBody sSr) (defScope sSr) [] [] f fd) (mn : mg "len" = none) (mr : mg "range" = none) : FnOk P w K mg base CX0 1 f fd ["figures"] spShort := by
  refine F.ok scSr (fun vs H Q E h => ?_) (fun cdv A outer s H vs Q XE hr h => ?_)
  · obtain ⟨a, ns, rfl, _⟩ := h
    rfl
  · obtain ⟨a, ns, rfl, ha, n0, n1, k⟩ := h
    refine ⟨_, PSs.nox (pss_cons (ps_set (i := 1) scSr.nd rfl (.inl rfl) (pe_callB call_len_seq (by rfl) mn boot_len (pa_cons (pv 0) pa_nil)))
      (pss_cons (ps_for PassesOwn.never rfl (pi_range2 (by rfl) mr (pa_cons pe_int (pa_cons (pv 1) pa_nil))) (pg_name (i := 2) scSr.nd rfl (.inl rfl)) (pss_one (ps_if ((pw_and (pt_cmpR op_eq (pe_op op_mod (pv 1) (pv 2)) pe_int (nomark _)) (pw_and1 (pt_cmpR (op_eqD hr.units) (pe_op op_rep (pe_slice sl_list (pv 0) po_none (po_some (pv 2))) (pe_op op_fdiv (pv 1) (pv 2))) (pv 0) (nomark _)))).pt)
        (pss_one (ps_ret (pe_slice sl_list (pv 0) po_none (po_some (pv 2))))) pss_nil)))
      (pss_one (ps_ret (pv 0))))), ?_⟩
    have ln : (ns.map V.int).length = ns.length := List.length_map ..
    refine ⟨.ref a, rfl, a, _, rfl, .inl (.inl (.inl ha)), ?_⟩
    refine ⟨.int (ns.map V.int).length, rfl, 1, _, rfl, ⟨by decide, by decide, by omega, by omega⟩, ?_⟩
    refine for_range (lo := 1) (n := (((ns.map V.int).length : Int) - 1).toNat) (fun j σ H' => (∃ x, σ = [some (.ref a), some (.int (ns.map V.int).length), x]) ∧ L2.Same H H' ∧ ∀ m, 1 ≤ m → m < j + 1 → ¬ condR ns m) ⟨⟨none, rfl⟩, fun _ _ e => e, fun m h1 h2 => by omega⟩ (fun j σ H' hj e => ?_) (fun σ H' e => ?_)
    · obtain ⟨⟨x, rfl⟩, S, no⟩ := e
      have ha' := S _ _ ha
      have jl : j + 1 < ns.length := by omega
      refine ⟨.int (ns.map V.int).length, rfl, .int (1 + (j : Nat)), rfl, _, _, rfl, rfl, (show (0 : Int) < 1 + (j : Nat) by omega), rfl, _, rfl, ite2 (fun c => ?_) (fun c => ?_)⟩
      · have c1 : ((ns.map V.int).length : Int) % (1 + (j : Nat)) = 0 := by
          have z := of_decide_eq_true c
          exact V.int.inj z
        have c2 : ns.length % (j + 1) = 0 := by
          rw [ln] at c1
          have e : ((ns.length % (j + 1) : Nat) : Int) = (ns.length : Int) % (1 + (j : Nat)) := by
            rw [Int.natCast_emod]
            congr 1
            omega
          omega
        have cl : (ns.map V.int).take (j + 1) = (ns.take (j + 1)).map V.int := by rw [List.map_take]
        have cut : cutV (ns.map V.int) none (some (1 + (j : Nat))) = (ns.take (j + 1)).map V.int := by
          have e : (1 + (j : Nat) : Int) = ((j + 1 : Nat) : Int) := by omega
          rw [e, cutV_take (by omega), cl]
        have dv : ((ns.map V.int).length : Int) / (1 + (j : Nat)) = ((ns.length / (j + 1) : Nat) : Int) := by
          rw [ln, Int.natCast_ediv]
          congr 1
          omega
        have dle : ns.length / (j + 1) ≤ ns.length := Nat.div_le_self _ _
        refine ⟨.ref a, rfl, .int (1 + (j : Nat)), rfl, 1 + (j : Nat), rfl, a, _, rfl, .inl (.inl ha'), fun p np => ?_⟩
        rw [cut]
        refine ⟨.int (ns.map V.int).length, rfl, .int (1 + (j : Nat)), rfl, _, _, rfl, rfl, ⟨by omega, by show (1 : Int) + (j : Nat) < 1073741824; omega⟩, p, _, _, rfl, rfl, upd_same, ?_, ?_, ?_, fun q nq => ?_⟩
        · rw [dv]
          exact Int.le_trans (by decide) (Int.natCast_nonneg _)
        · rw [dv]
          exact Int.lt_of_le_of_lt (Int.ofNat_le.mpr (Nat.le_trans dle n1)) (by decide)
        · rw [dv, List.length_map, List.length_take, sizeLine_eq, Int.toNat_natCast]
          have h1 : min (j + 1) ns.length ≤ 1000 := by omega
          have h2 : ns.length / (j + 1) ≤ 1000 := by omega
          have h3 := Nat.mul_le_mul h1 h2
          omega
        · have S1 := same_new (o := .lst ((ns.take (j + 1)).map V.int)) np
          have S2 := same_new (o := .lst (List.replicate (((ns.map V.int).length : Int) / (1 + (j : Nat))).toNat ((ns.take (j + 1)).map V.int)).flatten) nq
          rw [dv, Int.toNat_natCast, flat_map] at S2 ⊢
          refine ⟨.ref a, rfl, .list (((List.replicate (ns.length / (j + 1)) (ns.take (j + 1))).flatten).map PyData.int), .list (ns.map PyData.int), .lst (.inl (.inl upd_same)) (dpAll_int _), .lst (.inl (.inl (S2 _ _ (S1 _ _ ha')))) (dpAll_int _), shaped_int _, shaped_int _, ?_⟩
          rw [eqv_il]
          refine ⟨_, rfl, ite2 (fun d => ?_) (fun d => ?_)⟩
          · refine ⟨.ref a, rfl, .int (1 + (j : Nat)), rfl, 1 + (j : Nat), rfl, a, _, rfl, .inl (.inl (S2 _ _ (S1 _ _ ha'))), fun r nr => ?_⟩
            rw [cut]
            exact k _ r (ns.take (j + 1)) ((S.trans (S1.trans S2)).trans (same_new nr)) upd_same ⟨j + 1, by omega, by omega, ⟨c2, of_decide_eq_true d⟩, fun m h1 h2 => no m h1 h2, rfl⟩
          · refine ⟨⟨_, rfl⟩, S.trans (S1.trans S2), fun m h1 h2 => ?_⟩
            rcases Nat.lt_or_ge m (j + 1) with h | h
            · exact no m h1 h
            · obtain rfl : m = j + 1 := by omega
              exact fun z => d (decide_eq_true z.2)
      · refine iteF ⟨⟨_, rfl⟩, S, fun m h1 h2 => ?_⟩
        rcases Nat.lt_or_ge m (j + 1) with h | h
        · exact no m h1 h
        · obtain rfl : m = j + 1 := by omega
          refine fun z => c (decide_eq_true ?_)
          have e : ((ns.length % (j + 1) : Nat) : Int) = (ns.length : Int) % (1 + (j : Nat)) := by
            rw [Int.natCast_emod]
            congr 1
            omega
          show V.int (((ns.map V.int).length : Int) % (1 + (j : Nat))) = V.int 0
          rw [ln, ← e, z.1]
          rfl
    · obtain ⟨⟨x, rfl⟩, S, no⟩ := e
      refine ⟨.ref a, rfl, k H' a ns S (S _ _ ha) ⟨ns.length, n0, Nat.le_refl _, ⟨Nat.mod_self _, ?_⟩, fun m h1 h2 => no m h1 (by omega), (List.take_length).symm⟩⟩
      rw [Nat.div_self n0, List.take_length]
      simp
end
end K14
namespace K14
open PySem PySem.W PySem.Calls PyProof.Rows L2 LamX
open He (ga)
open Kz (boot_isi same_new small4 new_ext boot_li boot_in Has pe_has noE shaped_int dpAll_int)
abbrev sCe : Stmt := topS 14
abbrev sLe : Stmt := topS 16
theorem scCe : FnScope ["endless"] ["endless"] (defScope sCe) := ⟨rfl, rfl, rfl, by decide +kernel, rfl, by decide +kernel, by decide +kernel⟩
theorem scLe : FnScope ["endless", "head", "again", "rolled", "turn"] ["endless"] (defScope sLe) := ⟨rfl, rfl, rfl, by decide +kernel, rfl, by decide +kernel, by decide +kernel⟩
/-- a statement that is never come to -/
def tNever : TS := fun _ _ _ => False
theorem ps_never {X : Cx} {st : Stmt} : PS X st tNever := ⟨fun _ _ _ _ _ _ h => h.elim⟩
section
variable {P : Program} {w : World} {K : Frag} {mg : Str → Option Value} {base : Heap}
/-- asked of what is right -/
def spRight (f : PyData → Bool) : Sp := fun vs H Q _ => ∃ (v : V) (d : PyData), vs = [v] ∧ Th H v d ∧ f d = true ∧ (its d).length ≤ 100000 ∧ (∀ x ∈ its d, (its x).length ≤ 100000) ∧ ∀ H', L2.Same H H' → Q .non H'
theorem ok_ce {f : Addr} {fd : FuncData} (F : FunD K "check_endless" "check_endless" (defArgs sCe) (defBody sCe) (defScope sCe) [] [] f fd) (L : Has P w K mg base "is_endless" 4 ["thing"] (spLookB isE)) : FnOk P w K mg base CX0 5 f fd ["endless"] (spRight isE) := by
  refine F.ok scCe (fun vs H Q E h => ?_) (fun cdv A outer s H vs Q XE hr h => ?_)
  · obtain ⟨v, d, rfl, _⟩ := h
    rfl
  · obtain ⟨v, d, rfl, hv, g, b1, b2, k⟩ := h
    refine ⟨_, PSs.nox (pss_one (ps_if (pt_not (pt_val (pe_has L hr (by rfl) (pa_cons (pv 0) pa_nil)))) (pss_one ps_never) pss_nil)), ?_⟩
    refine ⟨v, rfl, v, d, rfl, hv, b1, b2, fun H1 s1 => ⟨true, by rw [g], iteF (k H1 s1)⟩⟩
end
end K14
namespace K14
open PySem PySem.W PySem.Calls PyProof.Rows L2 LamX
open He (ga)
open Kz (boot_isi same_new small4 new_ext boot_li boot_in Has pe_has noE shaped_int dpAll_int)
theorem row_ints : ∀ {ds : List PyData}, ds.all isF = true → ∃ ns : List Int, ds = ns.map PyData.int ∧ ∀ n ∈ ns, 0 ≤ n ∧ n ≤ 1
  | [], _ => ⟨[], rfl, fun n h => nomatch h⟩
  | d :: ds, h => by
    obtain ⟨h1, h2⟩ := Bool.and_eq_true_iff.mp (show (isF d && ds.all isF) = true from h)
    obtain ⟨ns, rfl, hn⟩ := row_ints h2
    cases d with
    | int i =>
      obtain ⟨a, b⟩ := Bool.and_eq_true_iff.mp (show (decide (0 ≤ i) && decide (i ≤ 1)) = true from h1)
      refine ⟨i :: ns, rfl, fun n hm => ?_⟩
      rcases List.mem_cons.mp hm with rfl | hm
      · exact ⟨of_decide_eq_true a, of_decide_eq_true b⟩
      · exact hn n hm
    | _ => cases h1
theorem th_ints {H : Hp} : ∀ {xs : List V} {ns : List Int}, ThAll H xs (ns.map PyData.int) → xs = ns.map V.int
  | _, [], h => by cases h; rfl
  | _, n :: ns, h => by
    cases h with
    | cons h1 h2 =>
      cases h1
      rw [th_ints h2]
      rfl
theorem atI_back {α : Type} {xs : List α} {k : Nat} (h : k < xs.length) : atI xs (-1 - (k : Int)) = xs[xs.length - 1 - k]? := by
  unfold atI ixN
  rw [if_neg (by omega), if_pos (by omega)]
  have e : (-1 - (k : Int) + (xs.length : Int)).toNat = xs.length - 1 - k := by omega
  rw [e]
  rfl
/-- k of the last figures of hs go on from the round's end -/
def Rolls (hs rs : List Int) (k : Nat) : Prop := ∀ i, i < k → hs[hs.length - 1 - i]? = rs[rs.length - 1 - i % rs.length]?
def IsLeast (hs as hs' as' : List Int) : Prop := ∃ (rs : List Int) (k : Nat), IsShort as rs ∧ k ≤ hs.length ∧ Rolls hs rs k ∧ (k = hs.length ∨ hs[hs.length - 1 - k]? ≠ rs[rs.length - 1 - k % rs.length]?) ∧
  hs' = hs.take (hs.length - k) ∧ as' = rs.drop (rs.length - k % rs.length) ++ rs.take (rs.length - k % rs.length)
theorem short_len {as rs : List Int} (h : IsShort as rs) (h0 : 0 < as.length) : 0 < rs.length ∧ rs.length ≤ as.length := by
  obtain ⟨l, h1, h2, _, _, rfl⟩ := h
  rw [List.length_take]
  omega
theorem cut_drop {xs : List V} {l : Nat} (h : l ≤ xs.length) : cutV xs (some (l : Int)) none = xs.drop l := by
  unfold cutV
  rw [HT.sIx_nat, HT.sIx_none]
  have e : min l xs.length = l := by omega
  rw [e]
  exact List.take_of_length_le (by rw [List.length_drop]; omega)
section
variable {P : Program} {w : World} {K : Frag} {mg : Str → Option Value} {base : Heap}
/-- an endless row: hs, then as for ever -/
def EndV (H : Hp) (v : V) (hs as : List Int) : Prop := ∃ (x y : PyData) (d : PyData), Th H v d ∧ isE d = true ∧ its d = [x, y] ∧ its x = hs.map PyData.int ∧ its y = as.map PyData.int ∧ 0 < as.length ∧ hs.length ≤ 500 ∧ as.length ≤ 500
theorem EndV.look {H : Hp} {v : V} {hs as : List Int} (h : EndV H v hs as) : ∃ d, Th H v d ∧ isE d = true ∧ (its d).length ≤ 100000 ∧ ∀ x ∈ its d, (its x).length ≤ 100000 := by
  obtain ⟨x, y, d, t, e, q, hx, hy, p0, p1, p2⟩ := h
  refine ⟨d, t, e, by rw [q]; exact Nat.le_of_ble_eq_true rfl, fun z hz => ?_⟩
  rw [q] at hz
  rcases List.mem_cons.mp hz with rfl | hz
  · rw [hx, List.length_map]; omega
  · rcases List.mem_singleton.mp hz with rfl
    rw [hy, List.length_map]; omega
/-- its parts, where they stand -/
theorem EndV.parts {H : Hp} {v : V} {hs as : List Int} (h : EndV H v hs as) : ∃ a p q, v = .ref a ∧ (H a = some (.lst [.ref p, .ref q]) ∨ H a = some (.tup [.ref p, .ref q])) ∧ (H p = some (.lst (hs.map V.int)) ∨ H p = some (.tup (hs.map V.int))) ∧ (H q = some (.lst (as.map V.int)) ∨ H q = some (.tup (as.map V.int))) := by
  obtain ⟨x, y, d, t, e, q, hx, hy, p0, p1, p2⟩ := h
  have e' : (isL d && (isR x && (isR y && decide (0 < (its y).length)))) = true := by
    unfold isE at e
    rw [q] at e
    exact e
  obtain ⟨e1, e2⟩ := Bool.and_eq_true_iff.mp e'
  obtain ⟨e3, e4⟩ := Bool.and_eq_true_iff.mp e2
  obtain ⟨e5, e6⟩ := Bool.and_eq_true_iff.mp e4
  obtain ⟨a, u, v', rfl, tu, tv, ha⟩ := seq_ix t e1 q
  obtain ⟨p, ps, rfl, rp, hp⟩ := tu.seq (K := []) (Bool.and_eq_true_iff.mp (show (isL x && _) = true from e3)).1
  obtain ⟨r, rs, rfl, rr, hr⟩ := tv.seq (K := []) (Bool.and_eq_true_iff.mp (show (isL y && _) = true from e5)).1
  rw [hx] at rp
  rw [hy] at rr
  rw [th_ints rp] at hp
  rw [th_ints rr] at hr
  exact ⟨a, p, r, rfl, ha, hp, hr⟩
theorem EndV.ext {H H1 : Hp} {v : V} {hs as : List Int} (h : EndV H v hs as) (e : L2.Same H H1) : EndV H1 v hs as := by
  obtain ⟨x, y, d, t, r⟩ := h
  exact ⟨x, y, d, t.ext e, r⟩
theorem ix_p0 {H : Hp} {a p q : Addr} {Q : VK} (h : H a = some (.lst [.ref p, .ref q]) ∨ H a = some (.tup [.ref p, .ref q])) (k : Q (.ref p) H) : rIx K (.ref a) (.int 0) H Q :=
  h.elim (fun h => .inl ⟨a, _, 0, .ref p, rfl, rfl, .inl (.inl h), atI_nat (j := 0) rfl, k⟩) fun h => .inr (.inl ⟨a, _, 0, .ref p, rfl, rfl, .inl (.inl h), atI_nat (j := 0) rfl, k⟩)
theorem ix_p1 {H : Hp} {a p q : Addr} {Q : VK} (h : H a = some (.lst [.ref p, .ref q]) ∨ H a = some (.tup [.ref p, .ref q])) (k : Q (.ref q) H) : rIx K (.ref a) (.int 1) H Q :=
  h.elim (fun h => .inl ⟨a, _, 1, .ref q, rfl, rfl, .inl (.inl h), atI_nat (j := 1) rfl, k⟩) fun h => .inr (.inl ⟨a, _, 1, .ref q, rfl, rfl, .inl (.inl h), atI_nat (j := 1) rfl, k⟩)
theorem st_or {H H1 : Hp} {a : Addr} {o u : HO} (e : L2.Same H H1) (h : H a = some o ∨ H a = some u) : H1 a = some o ∨ H1 a = some u := h.elim (fun h => .inl (e _ _ h)) fun h => .inr (e _ _ h)
theorem sl_of {H : Hp} {a : Addr} {xs : List V} (h : H a = some (.lst xs) ∨ H a = some (.tup xs)) : SqL K H a xs ∨ SqT K H a xs := h.elim (fun h => .inl (.inl (.inl h))) fun h => .inr (.inl (.inl h))
def spLeast (K : Frag) : Sp := fun vs H Q _ => ∃ (v : V) (hs as : List Int), vs = [v] ∧ EndV H v hs as ∧ ∀ (H' : Hp) (p q r : Addr) (hs' as' : List Int), L2.Same H H' → H' p = some (.tup [.ref q, .ref r]) → H' q = some (.lst (hs'.map V.int)) → H' r = some (.lst (as'.map V.int)) → H q = none → H r = none → q ≠ r → IsLeast hs as hs' as' → Q (.ref p) H'
theorem ok_le {f : Addr} {fd : FuncData} (F : FunD K "least_endless" "least_endless" (defArgs sLe) (defBody sLe) (defScope sLe) [] [] f fd) (C : Has P w K mg base "check_endless" 5 ["endless"] (spRight isE)) (R : Has P w K mg base "shortest_round" 1 ["figures"] spShort) (mn : mg "len" = none) (ml : mg "list" = none) :
    FnOk P w K mg base CX0 6 f fd ["endless"] (spLeast K) := by
  refine F.ok scLe (fun vs H Q E h => ?_) (fun cdv A outer s H vs Q XE hr h => ?_)
  · obtain ⟨v, hs, as, rfl, _⟩ := h
    rfl
  · obtain ⟨v, hs, as, rfl, hv, k⟩ := h
    refine ⟨_, PSs.nox (pss_cons (ps_expr (pe_has C hr (by rfl) (pa_cons (pv 0) pa_nil)))
      (pss_cons (ps_set (i := 1) scLe.nd rfl (.inl rfl) (pe_callTy call_list_of (by rfl) ml boot_li (pa_cons (pe_ix ix_seq (pv 0) pe_int (fun _ _ => rfl)) pa_nil)))
      (pss_cons (ps_set (i := 2) scLe.nd rfl (.inl rfl) (pe_has R (hr.mono (by decide)) (by rfl) (pa_cons (pe_callTy call_list_of (by rfl) ml boot_li (pa_cons (pe_ix ix_seq (pv 0) pe_int (fun _ _ => rfl)) pa_nil)) pa_nil)))
      (pss_cons (ps_set (i := 3) scLe.nd rfl (.inl rfl) pe_int)
      (pss_cons (ps_while PassesOwn.never ((pw_and (pt_cmp (pc_lt (pv 3) (pe_callB call_len_seq (by rfl) mn boot_len (pa_cons (pv 1) pa_nil)))) (pw_and1 (pt_cmpR op_eq (pe_ix ix_list (pv 1) (pe_op op_sub (pe_un un_neg pe_int) (pv 3)) (fun _ _ => rfl)) (pe_ix ix_list (pv 2) (pe_op op_sub (pe_un un_neg pe_int) (pe_op op_mod (pv 3) (pe_callB call_len_seq (by rfl) mn boot_len (pa_cons (pv 2) pa_nil)))) (fun _ _ => rfl)) (nomark _)))).pt)
        (pss_one (ps_aug (i := 3) scLe.nd rfl (.inl rfl) pe_int ip_add)))
      (pss_cons (ps_set (i := 4) scLe.nd rfl (.inl rfl) (pe_op op_sub (pe_callB call_len_seq (by rfl) mn boot_len (pa_cons (pv 2) pa_nil)) (pe_op op_mod (pv 3) (pe_callB call_len_seq (by rfl) mn boot_len (pa_cons (pv 2) pa_nil)))))
      (pss_one (ps_ret (pe_tup (pa_cons (pe_slice sl_list (pv 1) po_none (po_some (pe_op op_sub (pe_callB call_len_seq (by rfl) mn boot_len (pa_cons (pv 1) pa_nil)) (pv 3)))) (pa_cons (pe_op op_cat (pe_slice sl_list (pv 2) (po_some (pv 4)) po_none) (pe_slice sl_list (pv 2) po_none (po_some (pv 4)))) pa_nil))))))))))), ?_⟩
    obtain ⟨d, td, ed, bd1, bd2⟩ := hv.look
    have la : 0 < as.length ∧ hs.length ≤ 500 ∧ as.length ≤ 500 := by
      obtain ⟨_, _, _, _, _, _, _, _, z⟩ := hv
      exact z
    refine ⟨v, rfl, v, d, rfl, td, ed, bd1, bd2, fun H1 s1 => ?_⟩
    obtain ⟨a, p, q, rfl, ha, hp, hq⟩ := (hv.ext s1).parts
    refine ⟨.ref a, rfl, ix_p0 ha ⟨p, _, rfl, sl_of hp, fun h nh => ?_⟩⟩
    have s2 := same_new (o := .lst (hs.map V.int)) nh
    refine ⟨.ref a, rfl, ix_p1 (st_or s2 ha) ⟨q, _, rfl, sl_of (st_or s2 hq), fun g ng => ?_⟩⟩
    have s3 := same_new (o := .lst (as.map V.int)) ng
    refine ⟨g, as, rfl, upd_same, la.1, by omega, fun H4 r rs s4 hr sh => ?_⟩
    have hh : H4 h = some (.lst (hs.map V.int)) := s4 _ _ (s3 _ _ upd_same)
    have S4 := ((s1.trans s2).trans s3).trans s4
    obtain ⟨r0, r1⟩ := short_len sh la.1
    have lh : (hs.map V.int).length = hs.length := List.length_map ..
    have lr : (rs.map V.int).length = rs.length := List.length_map ..
    refine Kz.tWhile_split (fun σ H' => ∃ n : Nat, σ = [some (.ref a), some (.ref h), some (.ref r), some (.int (n : Nat)), none] ∧ H' = H4 ∧ n ≤ hs.length ∧ Rolls hs rs n ∧ (n = hs.length ∨ hs[hs.length - 1 - n]? ≠ rs[rs.length - 1 - n % rs.length]?)) (fun σ H' e => ?_) (fun after => ?_)
    · obtain ⟨n, rfl, rfl, nle, ro, nd⟩ := e
      have nm : n % rs.length < rs.length := Nat.mod_lt _ r0
      have em : ((n : Nat) : Int) % ((rs.map V.int).length : Int) = ((n % rs.length : Nat) : Int) := by rw [lr, Int.natCast_emod]
      have et : ((rs.map V.int).length : Int) - ((n : Nat) : Int) % ((rs.map V.int).length : Int) = ((rs.length - n % rs.length : Nat) : Int) := by rw [em, lr]; omega
      have eh : ((hs.map V.int).length : Int) - ((n : Nat) : Int) = ((hs.length - n : Nat) : Int) := by rw [lh]; omega
      refine ⟨.ref r, rfl, r, _, rfl, .inl (.inl (.inl hr)), .int (n : Nat), rfl, .ref r, rfl, r, _, rfl, .inl (.inl (.inl hr)), n, _, rfl, rfl, (show (0 : Int) < ((rs.map V.int).length : Int) by omega), _, _, rfl, rfl, ?_⟩
      refine ⟨.ref h, rfl, .ref h, rfl, h, _, rfl, .inl (.inl (.inl hh)), .int (n : Nat), rfl, _, _, rfl, rfl, _, rfl, h, _, rfl, .inl (.inl hh), fun u nu => ?_⟩
      rw [eh, cutV_take (by omega)]
      have t1 := same_new (o := .lst ((hs.map V.int).take (hs.length - n))) nu
      refine ⟨.ref r, rfl, _, rfl, _, rfl, r, _, rfl, .inl (.inl (t1 _ _ hr)), fun x nx => ?_⟩
      first | rw [et, cut_drop (by omega)] | rw [cut_drop (by omega)]
      have t2 := same_new (o := .lst ((rs.map V.int).drop (rs.length - n % rs.length))) nx
      refine ⟨.ref r, rfl, _, rfl, _, rfl, r, _, rfl, .inl (.inl (t2 _ _ (t1 _ _ hr))), fun y ny => ?_⟩
      first | rw [et, cutV_take (by omega)] | rw [cutV_take (by omega)]
      have t3 := same_new (o := .lst ((rs.map V.int).take (rs.length - n % rs.length))) ny
      refine ⟨x, y, _, _, rfl, rfl, t3 _ _ upd_same, upd_same, ?_, fun z nz => ?_⟩
      · rw [List.length_drop, List.length_take, lr, sizeLine_eq]
        omega
      have t4 := same_new (o := .lst ((rs.map V.int).drop (rs.length - n % rs.length) ++ (rs.map V.int).take (rs.length - n % rs.length))) nz
      refine ⟨small4 2, fun pt npt => ?_⟩
      have t5 := same_new (o := .tup [.ref u, .ref z]) npt
      refine k _ pt u z (hs.take (hs.length - n)) (rs.drop (rs.length - n % rs.length) ++ rs.take (rs.length - n % rs.length)) (S4.trans (t1.trans (t2.trans (t3.trans (t4.trans t5))))) upd_same (t5 _ _ (t4 _ _ (t3 _ _ (t2 _ _ ?_)))) (t5 _ _ ?_) (S4.free nu) ((S4.trans (t1.trans (t2.trans t3))).free nz) (ne_of_none (t3 _ _ (t2 _ _ upd_same)) nz) ⟨rs, n, sh, nle, ro, nd, rfl, rfl⟩
      · rw [List.map_take]
        exact upd_same
      · rw [List.map_append, List.map_drop, List.map_take]
        exact upd_same
    refine ⟨fun m σ H' => ∃ k : Nat, σ = [some (.ref a), some (.ref h), some (.ref r), some (.int (k : Nat)), none] ∧ H' = H4 ∧ k ≤ hs.length ∧ Rolls hs rs k ∧ m = hs.length - k, ⟨hs.length, 0, rfl, rfl, Nat.zero_le _, fun i hi => absurd hi (Nat.not_lt_zero _), rfl⟩, fun m σ H' hW => ?_⟩
    obtain ⟨n, rfl, rfl, nle, ro, rfl⟩ := hW
    refine ⟨.int (n : Nat), rfl, .ref h, rfl, h, _, rfl, .inl (.inl (.inl hh)), n, _, rfl, rfl, _, rfl, ite2 (fun c => ?_) (fun c => ?_)⟩
    · have nl : n < hs.length := by
        have z := of_decide_eq_true c
        rw [lh] at z
        omega
      have nm : n % rs.length < rs.length := Nat.mod_lt _ r0
      have em : ((n : Nat) : Int) % ((rs.map V.int).length : Int) = ((n % rs.length : Nat) : Int) := by rw [lr, Int.natCast_emod]
      refine ⟨.ref h, rfl, 1, rfl, .int (n : Nat), rfl, -1, n, rfl, rfl, h, _, _, V.int (hs[hs.length - 1 - n]'(by omega)), rfl, rfl, .inl (.inl hh), ?_, ?_⟩
      · show atI (hs.map V.int) (-1 - (n : Int)) = _
        rw [atI_back (by omega), lh]
        simp
      refine ⟨.ref r, rfl, 1, rfl, .int (n : Nat), rfl, .ref r, rfl, r, _, rfl, .inl (.inl (.inl hr)), n, _, rfl, rfl, (show (0 : Int) < ((rs.map V.int).length : Int) by omega), -1, _, rfl, rfl, r, _, _, V.int (rs[rs.length - 1 - n % rs.length]'(by omega)), rfl, rfl, .inl (.inl hr), ?_, rfl, _, rfl, ite2 (fun e => ?_) (fun e => ?_)⟩
      · show atI (rs.map V.int) (-1 - (((n : Nat) : Int) % ((rs.map V.int).length : Int))) = _
        rw [em, atI_back (by omega), lr]
        simp
      · refine ⟨fun σ' H' => σ' = [some (.ref a), some (.ref h), some (.ref r), some (.int ((n + 1 : Nat) : Int)), none] ∧ H' = _, fun σ' H' e1 => ⟨hs.length - (n + 1), by omega, n + 1, e1.1, e1.2, by omega, fun i hi => ?_, rfl⟩, ?_⟩
        · rcases Nat.lt_or_ge i n with z | z
          · exact ro i z
          · obtain rfl : i = n := by omega
            have z2 := V.int.inj (of_decide_eq_true e)
            rw [List.getElem?_eq_getElem (by omega), List.getElem?_eq_getElem (by omega), z2]
        · exact ⟨.int (n : Nat), rfl, n, 1, rfl, rfl, rfl, rfl⟩
      · refine after _ _ ⟨n, rfl, rfl, nle, ro, .inr fun z => e (decide_eq_true ?_)⟩
        rw [List.getElem?_eq_getElem (by omega), List.getElem?_eq_getElem (by omega)] at z
        rw [Option.some.inj z]
    · have z : ¬ (n : Int) < ((hs.map V.int).length : Int) := fun z => c (decide_eq_true z)
      rw [lh] at z
      exact iteF (after _ _ ⟨n, rfl, rfl, nle, ro, .inl (by omega)⟩)
end
end K14
namespace K14
open PySem PySem.W PySem.Calls PyProof.Rows L2 LamX
open He (ga)
open Kz (boot_isi same_new small4 new_ext boot_li boot_in Has pe_has noE shaped_int dpAll_int)
abbrev sFt : Stmt := topS 17
abbrev sCm : Stmt := topS 19
abbrev sTp : Stmt := topS 21
theorem scFt : FnScope ["endless", "index", "head", "again"] ["endless", "index"] (defScope sFt) := ⟨rfl, rfl, rfl, by decide +kernel, rfl, by decide +kernel, by decide +kernel⟩
theorem scCm : FnScope ["many"] ["many"] (defScope sCm) := ⟨rfl, rfl, rfl, by decide +kernel, rfl, by decide +kernel, by decide +kernel⟩
theorem scTp : FnScope ["endless", "many", "head", "again", "lacking"] ["endless", "many"] (defScope sTp) := ⟨rfl, rfl, rfl, by decide +kernel, rfl, by decide +kernel, by decide +kernel⟩
section
variable {X : Cx} {tg : Expr} {g1 g2 : TG}
theorem pg_or (h1 : PG X tg g1) (h2 : PG X tg g2) : PG X tg (fun v σ H Q => g1 v σ H Q ∨ g2 v σ H Q) := ⟨fun pins s σ H v u Q I r h => h.elim (h1.run pins s σ H v u Q I r) (h2.run pins s σ H v u Q I r)⟩
end
/-- the figure of the endless row at a place -/
def figAt (hs as : List Int) (i : Nat) : Int := if i < hs.length then hs.getD i 0 else as.getD ((i - hs.length) % as.length) 0
theorem getD_some {xs : List Int} {i : Nat} (h : i < xs.length) : (xs.map V.int)[i]? = some (.int (xs.getD i 0)) := by
  rw [List.getElem?_map, List.getElem?_eq_getElem h]
  simp [List.getD, List.getElem?_eq_getElem h]
section
variable {P : Program} {w : World} {K : Frag} {mg : Str → Option Value} {base : Heap}
theorem ix_any {H : Hp} {a : Addr} {xs : List Int} {i : Nat} {Q : VK} (h : H a = some (.lst (xs.map V.int)) ∨ H a = some (.tup (xs.map V.int))) (hi : i < xs.length) (k : Q (.int (xs.getD i 0)) H) : rIx K (.ref a) (.int (i : Nat)) H Q :=
  h.elim (fun h => .inl ⟨a, _, _, _, rfl, rfl, .inl (.inl h), atI_nat (getD_some hi), k⟩) fun h => .inr (.inl ⟨a, _, _, _, rfl, rfl, .inl (.inl h), atI_nat (getD_some hi), k⟩)
def spFig : Sp := fun vs H Q _ => ∃ (v : V) (hs as : List Int) (i : Nat), vs = [v, .int (i : Nat)] ∧ EndV H v hs as ∧ Q (.int (figAt hs as i)) H
theorem ok_ft {f : Addr} {fd : FuncData} (F : FunD K "figure_there" "figure_there" (defArgs sFt) (defBody sFt) (defScope sFt) [] [] f fd) (mn : mg "len" = none) : FnOk P w K mg base CX0 1 f fd ["endless", "index"] spFig := by
  refine F.ok scFt (fun vs H Q E h => ?_) (fun cdv A outer s H vs Q XE hr h => ?_)
  · obtain ⟨v, hs, as, i, rfl, _⟩ := h
    rfl
  · obtain ⟨v, hs, as, i, rfl, hv, k⟩ := h
    have la : 0 < as.length ∧ hs.length ≤ 500 ∧ as.length ≤ 500 := by
      obtain ⟨_, _, _, _, _, _, _, _, z⟩ := hv
      exact z
    obtain ⟨a, p, q, rfl, ha, hp, hq⟩ := hv.parts
    refine ⟨_, PSs.nox (pss_cons (ps_asg (pv 0) (pg_or (pg_tup rfl (pgs_cons (pg_name (i := 2) scFt.nd rfl (.inl rfl)) (pgs_cons (pg_name (i := 3) scFt.nd rfl (.inl rfl)) pgs_nil))) (pg_lst rfl (pgs_cons (pg_name (i := 2) scFt.nd rfl (.inl rfl)) (pgs_cons (pg_name (i := 3) scFt.nd rfl (.inl rfl)) pgs_nil)))))
      (pss_cons (ps_if (pt_cmp (pc_lt (pv 1) (pe_callB call_len_seq (by rfl) mn boot_len (pa_cons (pv 2) pa_nil)))) (pss_one (ps_ret (pe_ix ix_seq (pv 2) (pv 1) (fun _ _ => rfl)))) pss_nil)
      (pss_one (ps_ret (pe_ix ix_seq (pv 3) (pe_op op_mod (pe_op op_sub (pv 1) (pe_callB call_len_seq (by rfl) mn boot_len (pa_cons (pv 2) pa_nil))) (pe_callB call_len_seq (by rfl) mn boot_len (pa_cons (pv 3) pa_nil))) (fun _ _ => rfl)))))), ?_⟩
    have lh : (hs.map V.int).length = hs.length := List.length_map ..
    have lq : (as.map V.int).length = as.length := List.length_map ..
    rcases ha with ha | ha <;> first
      | refine ⟨.ref a, rfl, .inr ⟨a, _, rfl, .inl (.inl ha), rfl, .ref p, _, rfl, .ref q, _, rfl, rfl, ?_⟩⟩
      | refine ⟨.ref a, rfl, .inl ⟨a, _, rfl, .inl (.inl ha), rfl, .ref p, _, rfl, .ref q, _, rfl, rfl, ?_⟩⟩
    all_goals
      refine ⟨.int (i : Nat), rfl, .ref p, rfl, p, _, rfl, sl_of hp, i, _, rfl, rfl, _, rfl, ite2 (fun c => ?_) (fun c => ?_)⟩
      · have il : i < hs.length := by
          have z := of_decide_eq_true c
          rw [lh] at z
          omega
        refine ⟨.ref p, rfl, .int (i : Nat), rfl, ix_any hp il ?_⟩
        unfold figAt at k
        rw [if_pos il] at k
        exact k
      · have il : ¬ i < hs.length := fun z => c (decide_eq_true (by rw [lh]; omega))
        have e1 : ((i : Nat) : Int) - ((hs.map V.int).length : Int) = ((i - hs.length : Nat) : Int) := by rw [lh]; omega
        have e2 : ((i : Nat) : Int) - ((hs.map V.int).length : Int) = ((i - hs.length : Nat) : Int) → (((i : Nat) : Int) - ((hs.map V.int).length : Int)) % ((as.map V.int).length : Int) = (((i - hs.length) % as.length : Nat) : Int) := fun z => by rw [z, lq, Int.natCast_emod]
        refine ⟨.ref q, rfl, .int (i : Nat), rfl, .ref p, rfl, p, _, rfl, sl_of hp, _, _, rfl, rfl, .ref q, rfl, q, _, rfl, sl_of hq, _, _, rfl, rfl, (show (0 : Int) < ((as.map V.int).length : Int) by omega), ?_⟩
        show rIx K (.ref q) (.int ((((i : Nat) : Int) - ((hs.map V.int).length : Int)) % ((as.map V.int).length : Int))) H _
        rw [e2 e1]
        refine ix_any hq (Nat.mod_lt _ la.1) ?_
        unfold figAt at k
        rw [if_neg il] at k
        exact k
theorem ok_cm {f : Addr} {fd : FuncData} (F : FunD K "check_many" "check_many" (defArgs sCm) (defBody sCm) (defScope sCm) [] [] f fd) (L : Has P w K mg base "is_number" 1 ["thing"] (spLook isN)) : FnOk P w K mg base CX0 2 f fd ["many"] (fun vs H Q E => ∃ i : Nat, vs = [.int (i : Nat)] ∧ ∀ H', L2.Same H H' → Q .non H') := by
  refine F.ok scCm (fun vs H Q E h => ?_) (fun cdv A outer s H vs Q XE hr h => ?_)
  · obtain ⟨i, rfl, _⟩ := h
    rfl
  · obtain ⟨i, rfl, k⟩ := h
    refine ⟨_, PSs.nox (pss_one (ps_if (pt_not (pt_val (pe_has L hr (by rfl) (pa_cons (pv 0) pa_nil)))) (pss_one ps_never) pss_nil)), ?_⟩
    have e : isN (.int (i : Nat)) = true := decide_eq_true (Int.natCast_nonneg i)
    exact ⟨.int (i : Nat), rfl, .int (i : Nat), .int (i : Nat), rfl, .int _, fun H1 s1 => ⟨true, by rw [e], iteF (k H1 s1)⟩⟩
end
end K14
namespace K14
open PySem PySem.W PySem.Calls PyProof.Rows L2 LamX
open He (ga)
open Kz (boot_isi same_new small4 new_ext boot_li boot_in Has pe_has noE shaped_int dpAll_int)
theorem boot_max : bootBuiltins "max" = some (.builtin "max") := by decide +kernel
def topsOf (hs as : List Int) (m : Nat) : List Int := (hs ++ (List.replicate ((m - hs.length) / as.length + 1) as).flatten).take m
section
variable {P : Program} {w : World} {K : Frag} {mg : Str → Option Value} {base : Heap}
def spMany : Sp := fun vs H Q _ => ∃ i : Nat, vs = [.int (i : Nat)] ∧ ∀ H', L2.Same H H' → Q .non H'
def spTops : Sp := fun vs H Q _ => ∃ (v : V) (hs as : List Int) (m : Nat), vs = [v, .int (m : Nat)] ∧ EndV H v hs as ∧ m ≤ 1000 ∧ ∀ (H' : Hp) (r : Addr), L2.Same H H' → H r = none → H' r = some (.lst ((topsOf hs as m).map V.int)) → Q (.ref r) H'
theorem ok_tp {f : Addr} {fd : FuncData} (F : FunD K "tops" "tops" (defArgs sTp) (defBody sTp) (defScope sTp) [] [] f fd) (C : Has P w K mg base "check_endless" 5 ["endless"] (spRight isE)) (M : Has P w K mg base "check_many" 2 ["many"] spMany) (mn : mg "len" = none) (ml : mg "list" = none) (mx : mg "max" = none) :
    FnOk P w K mg base CX0 6 f fd ["endless", "many"] spTops := by
  refine F.ok scTp (fun vs H Q E h => ?_) (fun cdv A outer s H vs Q XE hr h => ?_)
  · obtain ⟨v, hs, as, m, rfl, _⟩ := h
    rfl
  · obtain ⟨v, hs, as, m, rfl, hv, hm, k⟩ := h
    have la : 0 < as.length ∧ hs.length ≤ 500 ∧ as.length ≤ 500 := by
      obtain ⟨_, _, _, _, _, _, _, _, z⟩ := hv
      exact z
    obtain ⟨d, td, ed, bd1, bd2⟩ := hv.look
    refine ⟨_, PSs.nox (pss_cons (ps_expr (pe_has C hr (by rfl) (pa_cons (pv 0) pa_nil)))
      (pss_cons (ps_expr (pe_has M (hr.mono (by decide)) (by rfl) (pa_cons (pv 1) pa_nil)))
      (pss_cons (ps_par (i := 2) (j := 3) rfl scTp.nd rfl rfl (by decide) rfl rfl (pa_cons (pe_callTy call_list_of (by rfl) ml boot_li (pa_cons (pe_ix ix_seq (pv 0) pe_int (fun _ _ => rfl)) pa_nil)) (pa_cons (pe_callTy call_list_of (by rfl) ml boot_li (pa_cons (pe_ix ix_seq (pv 0) pe_int (fun _ _ => rfl)) pa_nil)) pa_nil)) (by rfl))
      (pss_cons (ps_set (i := 4) scTp.nd rfl (.inl rfl) (pe_callB (call_max2 rfl) (by rfl) mx boot_max (pa_cons (pe_op op_sub (pv 1) (pe_callB call_len_seq (by rfl) mn boot_len (pa_cons (pv 2) pa_nil))) (pa_cons pe_int pa_nil))))
      (pss_one (ps_ret (pe_slice sl_list (pe_op op_cat (pv 2) (pe_op op_rep (pv 3) (pe_op op_add (pe_op op_fdiv (pv 4) (pe_callB call_len_seq (by rfl) mn boot_len (pa_cons (pv 3) pa_nil))) pe_int))) po_none (po_some (pv 1))))))))), ?_⟩
    have lh : (hs.map V.int).length = hs.length := List.length_map ..
    have lq : (as.map V.int).length = as.length := List.length_map ..
    refine ⟨v, rfl, v, d, rfl, td, ed, bd1, bd2, fun H1 s1 => ?_⟩
    refine ⟨.int (m : Nat), rfl, m, rfl, fun H2 s2 => ?_⟩
    have S2 := s1.trans s2
    obtain ⟨a, p, q, rfl, ha, hp, hq⟩ := (hv.ext S2).parts
    refine ⟨.ref a, rfl, ix_p0 ha ⟨p, _, rfl, sl_of hp, fun h nh => ?_⟩⟩
    have t1 := same_new (o := .lst (hs.map V.int)) nh
    refine ⟨.ref a, rfl, ix_p1 (st_or t1 ha) ⟨q, _, rfl, sl_of (st_or t1 hq), fun g ng => ?_⟩⟩
    have t2 := same_new (o := .lst (as.map V.int)) ng
    have hh := t2 _ _ (upd_same (H := H2) (a := h) (o := .lst (hs.map V.int)))
    have lk : (if (0 : Int) > ((m : Nat) : Int) - ((hs.map V.int).length : Int) then (0 : Int) else ((m : Nat) : Int) - ((hs.map V.int).length : Int)) = ((m - hs.length : Nat) : Int) := by
      rw [lh]
      split <;> omega
    have dv : ((m - hs.length : Nat) : Int) / ((as.map V.int).length : Int) + 1 = (((m - hs.length) / as.length + 1 : Nat) : Int) := by
      rw [lq, ← Int.natCast_ediv]
      omega
    have dl : (m - hs.length) / as.length + 1 ≤ 1001 := by
      have := Nat.div_le_self (m - hs.length) as.length
      omega
    refine ⟨_, _, rfl, ?_⟩
    refine ⟨.int (m : Nat), rfl, .ref h, rfl, h, _, rfl, .inl (.inl (.inl hh)), _, _, rfl, rfl, _, _, rfl, ?_⟩
    rw [lk]
    refine ⟨.ref h, rfl, .ref g, rfl, .int ((m - hs.length : Nat) : Int), rfl, .ref g, rfl, g, _, rfl, .inl (.inl (.inl upd_same)), _, _, rfl, rfl, ⟨by omega, by omega⟩, _, 1, rfl, rfl, g, _, _, rfl, rfl, upd_same, ?_, ?_, ?_, fun r nr => ?_⟩
    · rw [dv]
      exact Int.le_trans (by decide) (Int.natCast_nonneg _)
    · rw [dv]
      exact Int.lt_of_le_of_lt (Int.ofNat_le.mpr dl) (by decide)
    · rw [dv, Int.toNat_natCast, lq, sizeLine_eq]
      have h3 := Nat.mul_le_mul la.2.2 dl
      omega
    have t3 := same_new (o := .lst (List.replicate (((m - hs.length : Nat) : Int) / ((as.map V.int).length : Int) + 1).toNat (as.map V.int)).flatten) nr
    rw [dv, Int.toNat_natCast, flat_map] at t3 ⊢
    have len3 : ((List.replicate ((m - hs.length) / as.length + 1) as).flatten).length = ((m - hs.length) / as.length + 1) * as.length := by
      simp [List.length_flatten, List.map_replicate]
    refine ⟨h, r, _, _, rfl, rfl, t3 _ _ hh, upd_same, ?_, fun u nu => ?_⟩
    · rw [List.length_map, List.length_map, len3, sizeLine_eq]
      have h3 := Nat.mul_le_mul dl la.2.2
      omega
    rw [← List.map_append]
    have t4 := same_new (o := .lst ((hs ++ (List.replicate ((m - hs.length) / as.length + 1) as).flatten).map V.int)) nu
    refine ⟨.int (m : Nat), rfl, (m : Nat), rfl, u, _, rfl, .inl (.inl upd_same), fun z nz => ?_⟩
    have big : m ≤ (hs ++ (List.replicate ((m - hs.length) / as.length + 1) as).flatten).length := by
      rw [List.length_append, len3, Nat.add_mul, Nat.one_mul]
      have e1 := Nat.div_add_mod (m - hs.length) as.length
      have e2 := Nat.mod_lt (m - hs.length) la.1
      rw [Nat.mul_comm] at e1
      omega
    rw [cutV_take (by rw [List.length_map]; exact big), ← List.map_take]
    have S9 := S2.trans (t1.trans (t2.trans (t3.trans t4)))
    exact k _ z (S9.trans (same_new nz)) (S9.free nz) upd_same
end
end K14
namespace K14
open PySem PySem.W PySem.Calls PyProof.Rows L2 LamX
open He (ga)
open Kz (boot_isi same_new small4 new_ext boot_li boot_in Has pe_has noE shaped_int dpAll_int)
abbrev sCf : Stmt := topS 20
abbrev sPa : Stmt := topS 23
theorem scCf : FnScope ["figures"] ["figures"] (defScope sCf) := ⟨rfl, rfl, rfl, by decide +kernel, rfl, by decide +kernel, by decide +kernel⟩
theorem scPa : FnScope ["figures", "endless"] ["figures", "endless"] (defScope sPa) := ⟨rfl, rfl, rfl, by decide +kernel, rfl, by decide +kernel, by decide +kernel⟩
/-- a row of figures -/
def RowV (H : Hp) (v : V) (ns : List Int) : Prop := ∃ d, Th H v d ∧ isR d = true ∧ its d = ns.map PyData.int ∧ ns.length ≤ 500
theorem RowV.ext {H H1 : Hp} {v : V} {ns : List Int} (h : RowV H v ns) (e : L2.Same H H1) : RowV H1 v ns := by
  obtain ⟨d, t, r⟩ := h
  exact ⟨d, t.ext e, r⟩
theorem RowV.at {H : Hp} {v : V} {ns : List Int} (h : RowV H v ns) : ∃ a, v = .ref a ∧ (H a = some (.lst (ns.map V.int)) ∨ H a = some (.tup (ns.map V.int))) := by
  obtain ⟨d, t, e, q, _⟩ := h
  obtain ⟨a, xs, rfl, r, hx⟩ := t.seq (K := []) (Bool.and_eq_true_iff.mp (show (isL d && _) = true from e)).1
  rw [q] at r
  rw [th_ints r] at hx
  exact ⟨a, rfl, hx⟩
theorem all_figs {d : PyData} (h : isR d = true) {ns : List Int} (q : its d = ns.map PyData.int) : (ns.map PyData.int).all isF = true := by
  rw [← q]
  exact (Bool.and_eq_true_iff.mp (show (isL d && (its d).all isF) = true from h)).2
theorem th_list {H : Hp} : ∀ ns : List Int, ThAll H (ns.map V.int) (ns.map PyData.int)
  | [] => .nil
  | n :: ns => .cons (.int n) (th_list ns)
/-- a new pair of a new list of figures and what an endless row's round is -/
theorem endV_new {H : Hp} {v : V} {hs as : List Int} {fs : List Int} {a p q t u : Addr} (hv : EndV H v hs as) (ev : v = .ref a) (ha : H a = some (.lst [.ref p, .ref q]) ∨ H a = some (.tup [.ref p, .ref q])) (hf : (fs.map PyData.int).all isF = true) (lf : fs.length ≤ 500) (hu : H u = some (.lst (fs.map V.int))) (ht : H t = some (.tup [.ref u, .ref q])) : EndV H (.ref t) fs as := by
  obtain ⟨x, y, d, td, e, hq, hx, hy, p0, p1, p2⟩ := hv
  have e' : (isL d && (isR x && (isR y && decide (0 < (its y).length)))) = true := by
    unfold isE at e
    rw [hq] at e
    exact e
  obtain ⟨e1, e2⟩ := Bool.and_eq_true_iff.mp e'
  obtain ⟨e3, e4⟩ := Bool.and_eq_true_iff.mp e2
  obtain ⟨a', u', v', ea, tu, tv, ha'⟩ := seq_ix td e1 hq
  rw [ev] at ea
  obtain rfl : a = a' := V.ref.inj ea
  have eq' : v' = .ref q := by
    rcases ha with ha | ha <;> rcases ha' with ha' | ha' <;> rw [ha] at ha'
    · have z := HO.lst.inj (Option.some.inj ha')
      injection z with z1 z2
      injection z2 with z3
      exact z3.symm
    · cases ha'
    · cases ha'
    · have z := HO.tup.inj (Option.some.inj ha')
      injection z with z1 z2
      injection z2 with z3
      exact z3.symm
  rw [eq'] at tv
  refine ⟨.list (fs.map PyData.int), y, .tuple [.list (fs.map PyData.int), y], .tup ht (.cons (.lst hu (th_list fs)) (.cons tv .nil)), ?_, rfl, rfl, hy, p0, lf, p2⟩
  have r1 : isR (.list (fs.map PyData.int)) = true := by
    show (true && (fs.map PyData.int).all isF) = true
    rw [hf]
    rfl
  show (isL (.tuple [.list (fs.map PyData.int), y]) && (isR (.list (fs.map PyData.int)) && (isR y && decide (0 < (its y).length)))) = true
  rw [r1, e4]
  rfl
section
variable {P : Program} {w : World} {K : Frag} {mg : Str → Option Value} {base : Heap}
def spFigs : Sp := fun vs H Q _ => ∃ (v : V) (ns : List Int), vs = [v] ∧ RowV H v ns ∧ ∀ H', L2.Same H H' → Q .non H'
theorem ok_cf {f : Addr} {fd : FuncData} (F : FunD K "check_figures" "check_figures" (defArgs sCf) (defBody sCf) (defScope sCf) [] [] f fd) (L : Has P w K mg base "is_row" 3 ["thing"] spRow) : FnOk P w K mg base CX0 4 f fd ["figures"] spFigs := by
  refine F.ok scCf (fun vs H Q E h => ?_) (fun cdv A outer s H vs Q XE hr h => ?_)
  · obtain ⟨v, ns, rfl, _⟩ := h
    rfl
  · obtain ⟨v, ns, rfl, ⟨d, t, e, q, l⟩, k⟩ := h
    refine ⟨_, PSs.nox (pss_one (ps_if (pt_not (pt_val (pe_has L hr (by rfl) (pa_cons (pv 0) pa_nil)))) (pss_one ps_never) pss_nil)), ?_⟩
    exact ⟨v, rfl, v, d, rfl, t, by rw [q, List.length_map]; omega, fun H1 s1 => ⟨true, by rw [e], iteF (k H1 s1)⟩⟩
def spPut (K : Frag) : Sp := fun vs H Q _ => ∃ (v v2 : V) (fs hs as : List Int), vs = [v, v2] ∧ RowV H v fs ∧ EndV H v2 hs as ∧ fs.length + hs.length ≤ 500 ∧
  ∀ (H' : Hp) (p q r : Addr) (hs' as' : List Int), L2.Same H H' → H' p = some (.tup [.ref q, .ref r]) → H' q = some (.lst (hs'.map V.int)) → H' r = some (.lst (as'.map V.int)) → H q = none → H r = none → q ≠ r → IsLeast (fs ++ hs) as hs' as' → Q (.ref p) H'
theorem ok_pa {f : Addr} {fd : FuncData} (F : FunD K "put_all" "put_all" (defArgs sPa) (defBody sPa) (defScope sPa) [] [] f fd) (G : Has P w K mg base "check_figures" 4 ["figures"] spFigs) (C : Has P w K mg base "check_endless" 5 ["endless"] (spRight isE)) (L : Has P w K mg base "least_endless" 6 ["endless"] (spLeast K)) (ml : mg "list" = none) :
    FnOk P w K mg base CX0 7 f fd ["figures", "endless"] (spPut K) := by
  refine F.ok scPa (fun vs H Q E h => ?_) (fun cdv A outer s H vs Q XE hr h => ?_)
  · obtain ⟨v, v2, fs, hs, as, rfl, _⟩ := h
    rfl
  · obtain ⟨v, v2, fs, hs, as, rfl, hf, hv, lb, k⟩ := h
    obtain ⟨d, td, ed, bd1, bd2⟩ := hv.look
    refine ⟨_, PSs.nox (pss_cons (ps_expr (pe_has G (hr.mono (by decide)) (by rfl) (pa_cons (pv 0) pa_nil))) (pss_cons (ps_expr (pe_has C (hr.mono (by decide)) (by rfl) (pa_cons (pv 1) pa_nil)))
      (pss_one (ps_ret (pe_has L hr (by rfl) (pa_cons (pe_tup (pa_cons (pe_op op_cat (pe_callTy call_list_of (by rfl) ml boot_li (pa_cons (pv 0) pa_nil)) (pe_callTy call_list_of (by rfl) ml boot_li (pa_cons (pe_ix ix_seq (pv 1) pe_int (fun _ _ => rfl)) pa_nil))) (pa_cons (pe_ix ix_seq (pv 1) pe_int (fun _ _ => rfl)) pa_nil))) pa_nil)))))), ?_⟩
    refine ⟨v, rfl, v, fs, rfl, hf, fun H1 s1 => ?_⟩
    refine ⟨v2, rfl, v2, d, rfl, td.ext s1, ed, bd1, bd2, fun H2 s2 => ?_⟩
    have S2 := s1.trans s2
    obtain ⟨b, rfl, hb⟩ := (hf.ext S2).at
    obtain ⟨a, p, q, rfl, ha, hp, hq⟩ := (hv.ext S2).parts
    refine ⟨.ref b, rfl, b, _, rfl, sl_of hb, fun x nx => ?_⟩
    have t1 := same_new (o := .lst (fs.map V.int)) nx
    refine ⟨.ref a, rfl, ix_p0 (st_or t1 ha) ⟨p, _, rfl, sl_of (st_or t1 hp), fun y ny => ?_⟩⟩
    have t2 := same_new (o := .lst (hs.map V.int)) ny
    refine ⟨x, y, _, _, rfl, rfl, t2 _ _ upd_same, upd_same, by rw [List.length_map, List.length_map, sizeLine_eq]; omega, fun u nu => ?_⟩
    rw [← List.map_append]
    have t3 := same_new (o := .lst ((fs ++ hs).map V.int)) nu
    refine ⟨.ref a, rfl, ix_p1 (st_or t3 (st_or t2 (st_or t1 ha))) ⟨small4 2, fun t nt => ?_⟩⟩
    have t4 := same_new (o := .tup [.ref u, .ref q]) nt
    have S3 := S2.trans (t1.trans (t2.trans (t3.trans t4)))
    have allF : ((fs ++ hs).map PyData.int).all isF = true := by
      rw [List.map_append, List.all_append]
      obtain ⟨df, _, rf, qf, _⟩ := hf
      obtain ⟨x', y', d', td', e', hq', hx', _⟩ := hv
      have e2 : (isL d' && (isR x' && (isR y' && decide (0 < (its y').length)))) = true := by
        unfold isE at e'
        rw [hq'] at e'
        exact e'
      obtain ⟨_, e3⟩ := Bool.and_eq_true_iff.mp e2
      obtain ⟨e4, _⟩ := Bool.and_eq_true_iff.mp e3
      rw [all_figs rf qf, all_figs e4 hx']
      rfl
    refine ⟨.ref t, fs ++ hs, as, rfl, endV_new (hv.ext S3) rfl (st_or t4 (st_or t3 (st_or t2 (st_or t1 ha)))) allF (by rw [List.length_append]; exact lb) (t4 _ _ upd_same) upd_same, fun H9 p9 q9 r9 hs' as' s9 e1 e2 e3 n1 n2 ne il => ?_⟩
    exact k H9 p9 q9 r9 hs' as' (S3.trans s9) e1 e2 e3 (S3.free n1) (S3.free n2) ne il
end
end K14
namespace K14
open PySem PySem.W PySem.Calls PyProof.Rows L2 LamX
open He (ga)
open Kz (boot_isi same_new small4 new_ext boot_li boot_in Has pe_has noE shaped_int dpAll_int)
abbrev sDt : Stmt := topS 22
theorem scDt : FnScope ["endless", "many", "head", "again", "turn"] ["endless", "many"] (defScope sDt) := ⟨rfl, rfl, rfl, by decide +kernel, rfl, by decide +kernel, by decide +kernel⟩
theorem cut_any {xs : List V} (l : Nat) : cutV xs (some (l : Int)) none = xs.drop l := by
  unfold cutV
  rw [HT.sIx_nat, HT.sIx_none]
  rcases Nat.lt_or_ge xs.length l with h | h
  · have e : min l xs.length = xs.length := by omega
    rw [e, List.drop_length, List.drop_eq_nil_of_le (Nat.le_of_lt h), List.take_nil]
  · have e : min l xs.length = l := by omega
    rw [e]
    exact List.take_of_length_le (by rw [List.length_drop]; omega)
theorem isF_all {ns : List Int} (h : (ns.map PyData.int).all isF = true) : ∀ n ∈ ns, isF (.int n) = true := fun n hn => List.all_eq_true.mp h _ (List.mem_map.mpr ⟨n, hn, rfl⟩)
theorem all_isF {ns : List Int} (h : ∀ n ∈ ns, isF (.int n) = true) : (ns.map PyData.int).all isF = true := List.all_eq_true.mpr fun d hd => by
  obtain ⟨n, hn, rfl⟩ := List.mem_map.mp hd
  exact h n hn
theorem EndV.figs {H : Hp} {v : V} {hs as : List Int} (hv : EndV H v hs as) : (∀ n ∈ hs, isF (.int n) = true) ∧ ∀ n ∈ as, isF (.int n) = true := by
  obtain ⟨x', y', d', td', e', hq', hx', hy', _⟩ := hv
  have e2 : (isL d' && (isR x' && (isR y' && decide (0 < (its y').length)))) = true := by
    unfold isE at e'
    rw [hq'] at e'
    exact e'
  obtain ⟨_, e3⟩ := Bool.and_eq_true_iff.mp e2
  obtain ⟨e4, e5⟩ := Bool.and_eq_true_iff.mp e3
  obtain ⟨e6, _⟩ := Bool.and_eq_true_iff.mp e5
  exact ⟨isF_all (all_figs e4 hx'), isF_all (all_figs e6 hy')⟩
theorem endV_two {H : Hp} {fs gs : List Int} {t u x : Addr} (hf : ∀ n ∈ fs, isF (.int n) = true) (hg : ∀ n ∈ gs, isF (.int n) = true) (lf : fs.length ≤ 500) (lg : 0 < gs.length ∧ gs.length ≤ 500) (hu : H u = some (.lst (fs.map V.int))) (hx : H x = some (.lst (gs.map V.int))) (ht : H t = some (.tup [.ref u, .ref x])) : EndV H (.ref t) fs gs := by
  refine ⟨.list (fs.map PyData.int), .list (gs.map PyData.int), .tuple [.list (fs.map PyData.int), .list (gs.map PyData.int)], .tup ht (.cons (.lst hu (th_list fs)) (.cons (.lst hx (th_list gs)) .nil)), ?_, rfl, rfl, rfl, lg.1, lf, lg.2⟩
  show (true && ((true && (fs.map PyData.int).all isF) && ((true && (gs.map PyData.int).all isF) && decide (0 < (gs.map PyData.int).length)))) = true
  rw [all_isF hf, all_isF hg, List.length_map, decide_eq_true lg.1]
  rfl
section
variable {P : Program} {w : World} {K : Frag} {mg : Str → Option Value} {base : Heap}
def spDrop (K : Frag) : Sp := fun vs H Q _ => ∃ (v : V) (hs as : List Int) (m : Nat), vs = [v, .int (m : Nat)] ∧ EndV H v hs as ∧ m ≤ 4000000000 ∧
  ∀ (H' : Hp) (p q r : Addr) (hs' as' : List Int), L2.Same H H' → H' p = some (.tup [.ref q, .ref r]) → H' q = some (.lst (hs'.map V.int)) → H' r = some (.lst (as'.map V.int)) → H q = none → H r = none → q ≠ r →
    IsLeast (hs.drop m) (as.drop ((m - hs.length) % as.length) ++ as.take ((m - hs.length) % as.length)) hs' as' → Q (.ref p) H'
theorem ok_dt {f : Addr} {fd : FuncData} (F : FunD K "drop_tops" "drop_tops" (defArgs sDt) (defBody sDt) (defScope sDt) [] [] f fd) (C : Has P w K mg base "check_endless" 5 ["endless"] (spRight isE)) (M : Has P w K mg base "check_many" 2 ["many"] spMany) (L : Has P w K mg base "least_endless" 6 ["endless"] (spLeast K)) (mn : mg "len" = none) (ml : mg "list" = none) (mx : mg "max" = none) :
    FnOk P w K mg base CX0 7 f fd ["endless", "many"] (spDrop K) := by
  refine F.ok scDt (fun vs H Q E h => ?_) (fun cdv A outer s H vs Q XE hr h => ?_)
  · obtain ⟨v, hs, as, m, rfl, _⟩ := h
    rfl
  · obtain ⟨v, hs, as, m, rfl, hv, hm, k⟩ := h
    have la : 0 < as.length ∧ hs.length ≤ 500 ∧ as.length ≤ 500 := by
      obtain ⟨_, _, _, _, _, _, _, _, z⟩ := hv
      exact z
    obtain ⟨d, td, ed, bd1, bd2⟩ := hv.look
    refine ⟨_, PSs.nox (pss_cons (ps_expr (pe_has C (hr.mono (by decide)) (by rfl) (pa_cons (pv 0) pa_nil)))
      (pss_cons (ps_expr (pe_has M (hr.mono (by decide)) (by rfl) (pa_cons (pv 1) pa_nil)))
      (pss_cons (ps_par (i := 2) (j := 3) rfl scDt.nd rfl rfl (by decide) rfl rfl (pa_cons (pe_callTy call_list_of (by rfl) ml boot_li (pa_cons (pe_ix ix_seq (pv 0) pe_int (fun _ _ => rfl)) pa_nil)) (pa_cons (pe_callTy call_list_of (by rfl) ml boot_li (pa_cons (pe_ix ix_seq (pv 0) pe_int (fun _ _ => rfl)) pa_nil)) pa_nil)) (by rfl))
      (pss_cons (ps_set (i := 4) scDt.nd rfl (.inl rfl) (pe_op op_mod (pe_callB (call_max2 rfl) (by rfl) mx boot_max (pa_cons (pe_op op_sub (pv 1) (pe_callB call_len_seq (by rfl) mn boot_len (pa_cons (pv 2) pa_nil))) (pa_cons pe_int pa_nil))) (pe_callB call_len_seq (by rfl) mn boot_len (pa_cons (pv 3) pa_nil))))
      (pss_one (ps_ret (pe_has L hr (by rfl) (pa_cons (pe_tup (pa_cons (pe_slice sl_list (pv 2) (po_some (pv 1)) po_none) (pa_cons (pe_op op_cat (pe_slice sl_list (pv 3) (po_some (pv 4)) po_none) (pe_slice sl_list (pv 3) po_none (po_some (pv 4)))) pa_nil))) pa_nil)))))))), ?_⟩
    have lh : (hs.map V.int).length = hs.length := List.length_map ..
    have lq : (as.map V.int).length = as.length := List.length_map ..
    refine ⟨v, rfl, v, d, rfl, td, ed, bd1, bd2, fun H1 s1 => ?_⟩
    refine ⟨.int (m : Nat), rfl, m, rfl, fun H2 s2 => ?_⟩
    have S2 := s1.trans s2
    obtain ⟨a, p, q, rfl, ha, hp, hq⟩ := (hv.ext S2).parts
    refine ⟨.ref a, rfl, ix_p0 ha ⟨p, _, rfl, sl_of hp, fun h nh => ?_⟩⟩
    have t1 := same_new (o := .lst (hs.map V.int)) nh
    refine ⟨.ref a, rfl, ix_p1 (st_or t1 ha) ⟨q, _, rfl, sl_of (st_or t1 hq), fun g ng => ?_⟩⟩
    have t2 := same_new (o := .lst (as.map V.int)) ng
    have hh := t2 _ _ (upd_same (H := H2) (a := h) (o := .lst (hs.map V.int)))
    have lk : (if (0 : Int) > ((m : Nat) : Int) - ((hs.map V.int).length : Int) then (0 : Int) else ((m : Nat) : Int) - ((hs.map V.int).length : Int)) = ((m - hs.length : Nat) : Int) := by
      rw [lh]
      split <;> omega
    have md : ((m - hs.length : Nat) : Int) % ((as.map V.int).length : Int) = (((m - hs.length) % as.length : Nat) : Int) := by
      rw [lq, ← Int.natCast_emod]
    have tl : (m - hs.length) % as.length < as.length := Nat.mod_lt _ la.1
    refine ⟨_, _, rfl, ?_⟩
    refine ⟨.int (m : Nat), rfl, .ref h, rfl, h, _, rfl, .inl (.inl (.inl hh)), _, _, rfl, rfl, _, _, rfl, ?_⟩
    rw [lk]
    refine ⟨.ref g, rfl, g, _, rfl, .inl (.inl (.inl upd_same)), _, _, rfl, rfl, (show (0 : Int) < ((as.map V.int).length : Int) by omega), ?_⟩
    refine ⟨.ref h, rfl, .int (m : Nat), rfl, (m : Nat), rfl, h, _, rfl, .inl (.inl hh), fun u nu => ?_⟩
    rw [cut_any, ← List.map_drop]
    have t3 := same_new (o := .lst ((hs.drop m).map V.int)) nu
    refine ⟨.ref g, rfl, _, rfl, _, rfl, g, _, rfl, .inl (.inl (t3 _ _ upd_same)), fun x nx => ?_⟩
    first | rw [md, cut_any, ← List.map_drop] | rw [cut_any, ← List.map_drop]
    have t4 := same_new (o := .lst ((as.drop ((m - hs.length) % as.length)).map V.int)) nx
    refine ⟨.ref g, rfl, _, rfl, _, rfl, g, _, rfl, .inl (.inl (t4 _ _ (t3 _ _ upd_same))), fun y ny => ?_⟩
    first | rw [md, cutV_take (by omega), ← List.map_take] | rw [cutV_take (by omega), ← List.map_take]
    have t5 := same_new (o := .lst ((as.take ((m - hs.length) % as.length)).map V.int)) ny
    refine ⟨x, y, _, _, rfl, rfl, t5 _ _ upd_same, upd_same, by rw [List.length_map, List.length_map, List.length_drop, List.length_take, sizeLine_eq]; omega, fun z nz => ?_⟩
    rw [← List.map_append]
    have t6 := same_new (o := .lst ((as.drop ((m - hs.length) % as.length) ++ as.take ((m - hs.length) % as.length)).map V.int)) nz
    refine ⟨small4 2, fun t nt => ?_⟩
    have t7 := same_new (o := .tup [.ref u, .ref z]) nt
    have S3 := S2.trans (t1.trans (t2.trans (t3.trans (t4.trans (t5.trans (t6.trans t7))))))
    obtain ⟨fh, fa⟩ := hv.figs
    have lg : 0 < (as.drop ((m - hs.length) % as.length) ++ as.take ((m - hs.length) % as.length)).length ∧ (as.drop ((m - hs.length) % as.length) ++ as.take ((m - hs.length) % as.length)).length ≤ 500 := by
      rw [List.length_append, List.length_drop, List.length_take]
      omega
    refine ⟨.ref t, hs.drop m, as.drop ((m - hs.length) % as.length) ++ as.take ((m - hs.length) % as.length), rfl, endV_two (fun n hn => fh n (List.mem_of_mem_drop hn)) (fun n hn => ?_) (by rw [List.length_drop]; omega) lg (t7 _ _ (t6 _ _ (t5 _ _ (t4 _ _ upd_same)))) (t7 _ _ upd_same) upd_same, fun H9 p9 q9 r9 hs' as' s9 e1 e2 e3 n1 n2 ne il => ?_⟩
    · rcases List.mem_append.mp hn with hn | hn
      · exact fa n (List.mem_of_mem_drop hn)
      · exact fa n (List.mem_of_mem_take hn)
    · exact k H9 p9 q9 r9 hs' as' (S3.trans s9) e1 e2 e3 (S3.free n1) (S3.free n2) ne il
end
end K14
namespace K14
open PySem PySem.W PySem.Calls PyProof.Rows L2 LamX
open He (ga)
open Kz (boot_isi same_new small4 new_ext boot_li boot_in Has pe_has noE shaped_int dpAll_int)
abbrev sFu : Stmt := topS 24
theorem scFu : FnScope ["endless", "other", "bound", "index"] ["endless", "other"] (defScope sFu) := ⟨rfl, rfl, rfl, by decide +kernel, rfl, by decide +kernel, by decide +kernel⟩
/-- how far is looked -/
def bnd (hs as hs2 as2 : List Int) : Nat := max hs.length hs2.length + as.length + as2.length
def IsUnlike (hs as hs2 as2 : List Int) (r : V) : Prop := (∃ i : Nat, r = .int (i : Nat) ∧ i < bnd hs as hs2 as2 ∧ figAt hs as i ≠ figAt hs2 as2 i ∧ ∀ j, j < i → figAt hs as j = figAt hs2 as2 j) ∨ (r = .non ∧ ∀ j, j < bnd hs as hs2 as2 → figAt hs as j = figAt hs2 as2 j)
section
variable {P : Program} {w : World} {K : Frag} {mg : Str → Option Value} {base : Heap}
def spUnl : Sp := fun vs H Q _ => ∃ (v v2 : V) (hs as hs2 as2 : List Int), vs = [v, v2] ∧ EndV H v hs as ∧ EndV H v2 hs2 as2 ∧ ∀ (H' : Hp) (r : V), L2.Same H H' → IsUnlike hs as hs2 as2 r → Q r H'
theorem ok_fu {f : Addr} {fd : FuncData} (F : FunD K "first_unlike" "first_unlike" (defArgs sFu) (defBody sFu) (defScope sFu) [] [] f fd) (C : Has P w K mg base "check_endless" 5 ["endless"] (spRight isE)) (I : Has P w K mg base "is_endless" 4 ["thing"] (spLookB isE)) (G : Has P w K mg base "figure_there" 1 ["endless", "index"] spFig) (mn : mg "len" = none) (mx : mg "max" = none) (mr : mg "range" = none) :
    FnOk P w K mg base CX0 6 f fd ["endless", "other"] spUnl := by
  refine F.ok scFu (fun vs H Q E h => ?_) (fun cdv A outer s H vs Q XE hr h => ?_)
  · obtain ⟨v, v2, hs, as, hs2, as2, rfl, _⟩ := h
    rfl
  · obtain ⟨v, v2, hs, as, hs2, as2, rfl, hv, hv2, k⟩ := h
    have la : 0 < as.length ∧ hs.length ≤ 500 ∧ as.length ≤ 500 := by
      obtain ⟨_, _, _, _, _, _, _, _, z⟩ := hv
      exact z
    have la2 : 0 < as2.length ∧ hs2.length ≤ 500 ∧ as2.length ≤ 500 := by
      obtain ⟨_, _, _, _, _, _, _, _, z⟩ := hv2
      exact z
    obtain ⟨d, td, ed, bd1, bd2⟩ := hv.look
    obtain ⟨d2, td2, ed2, be1, be2⟩ := hv2.look
    refine ⟨_, PSs.nox (pss_cons (ps_expr (pe_has C hr (by rfl) (pa_cons (pv 0) pa_nil)))
      (pss_cons (ps_if (pt_not (pt_val (pe_has I (hr.mono (by decide)) (by rfl) (pa_cons (pv 1) pa_nil)))) (pss_one ps_never) pss_nil)
      (pss_cons (ps_set (i := 2) scFu.nd rfl (.inl rfl) (pe_op op_add (pe_op op_add (pe_callB (call_max2 rfl) (by rfl) mx boot_max (pa_cons (pe_callB call_len_seq (by rfl) mn boot_len (pa_cons (pe_ix ix_seq (pv 0) pe_int (fun _ _ => rfl)) pa_nil)) (pa_cons (pe_callB call_len_seq (by rfl) mn boot_len (pa_cons (pe_ix ix_seq (pv 1) pe_int (fun _ _ => rfl)) pa_nil)) pa_nil)))
        (pe_callB call_len_seq (by rfl) mn boot_len (pa_cons (pe_ix ix_seq (pv 0) pe_int (fun _ _ => rfl)) pa_nil))) (pe_callB call_len_seq (by rfl) mn boot_len (pa_cons (pe_ix ix_seq (pv 1) pe_int (fun _ _ => rfl)) pa_nil))))
      (pss_cons (ps_for PassesOwn.never rfl (pi_range1 (by rfl) mr (pa_cons (pv 2) pa_nil)) (pg_name (i := 3) scFu.nd rfl (.inl rfl)) (pss_one (ps_if (pt_cmpR op_ne (pe_has G (hr.mono (by decide)) (by rfl) (pa_cons (pv 0) (pa_cons (pv 3) pa_nil))) (pe_has G (hr.mono (by decide)) (by rfl) (pa_cons (pv 1) (pa_cons (pv 3) pa_nil))) (nomark _)) (pss_one (ps_ret (pv 3))) pss_nil)))
      (pss_one (ps_ret pe_non)))))), ?_⟩
    refine ⟨v, rfl, v, d, rfl, td, ed, bd1, bd2, fun H1 s1 => ?_⟩
    refine ⟨v2, rfl, v2, d2, rfl, td2.ext s1, be1, be2, fun H2 s2 => ⟨true, by rw [ed2], iteF ?_⟩⟩
    have S2 := s1.trans s2
    have hw := hv.ext S2
    have hw2 := hv2.ext S2
    obtain ⟨a, p, q, rfl, ha, hp, hq⟩ := hw.parts
    obtain ⟨a2, p2, q2, rfl, ha2, hp2, hq2⟩ := hw2.parts
    refine ⟨.ref a, rfl, ix_p0 ha ⟨p, _, rfl, sl_of hp, .ref a2, rfl, ix_p0 ha2 ⟨p2, _, rfl, sl_of hp2, _, _, rfl, .ref a, rfl, ix_p1 ha ⟨q, _, rfl, sl_of hq, _, _, rfl, rfl, .ref a2, rfl, ix_p1 ha2 ⟨q2, _, rfl, sl_of hq2, _, _, rfl, rfl, ?_⟩⟩⟩⟩⟩
    have eb : (if ((hs2.map V.int).length : Int) > ((hs.map V.int).length : Int) then ((hs2.map V.int).length : Int) else ((hs.map V.int).length : Int)) + ((as.map V.int).length : Int) + ((as2.map V.int).length : Int) = ((bnd hs as hs2 as2 : Nat) : Int) := by
      unfold bnd
      simp only [List.length_map]
      split <;> omega
    have bb : bnd hs as hs2 as2 ≤ 2000 := by
      unfold bnd
      omega
    refine ⟨_, rfl, ((bnd hs as hs2 as2 : Nat) : Int), ?_, by omega, by omega, ?_⟩
    · exact congrArg (fun z : Int => [V.int z]) eb
    refine for_range (lo := 0) (n := ((bnd hs as hs2 as2 : Nat) : Int).toNat) (fun j σ H' => (∃ x b, σ = [some (.ref a), some (.ref a2), some b, x]) ∧ L2.Same H2 H' ∧ ∀ i, i < j → figAt hs as i = figAt hs2 as2 i) ⟨⟨none, _, rfl⟩, fun _ _ e => e, fun i hi => absurd hi (Nat.not_lt_zero _)⟩ (fun j σ H' hj e => ?_) (fun σ H' e => ?_)
    · obtain ⟨⟨x, b, rfl⟩, S, no⟩ := e
      have jb : j < bnd hs as hs2 as2 := by omega
      have ez : ∀ z : V, [z, V.int (0 + (j : Nat))] = [z, V.int ((j : Nat) : Int)] := fun z => by rw [Int.zero_add]
      refine ⟨.ref a, rfl, .int (0 + (j : Nat)), rfl, .ref a, hs, as, j, ez _, hw.ext S, .ref a2, rfl, .int (0 + (j : Nat)), rfl, .ref a2, hs2, as2, j, ez _, hw2.ext S, rfl, _, rfl, ite2 (fun c => ?_) (fun c => ?_)⟩
      · refine ⟨.int (0 + (j : Nat)), rfl, k H' _ (S2.trans S) (.inl ⟨j, by rw [Int.zero_add], jb, fun z => ?_, no⟩)⟩
        rw [z] at c
        simp at c
      · refine ⟨⟨_, _, rfl⟩, S, fun i hi => ?_⟩
        rcases Nat.lt_or_ge i j with z | z
        · exact no i z
        · obtain rfl : i = j := by omega
          by_cases y : figAt hs as i = figAt hs2 as2 i
          · exact y
          · exact absurd (show (!decide (V.int (figAt hs as i) = V.int (figAt hs2 as2 i))) = true by rw [decide_eq_false (fun q => y (V.int.inj q))]; rfl) c
    · obtain ⟨⟨x, b, rfl⟩, S, no⟩ := e
      exact k H' .non (S2.trans S) (.inr ⟨rfl, fun j hj => no j (by omega)⟩)
end
end K14
namespace K14
open PySem PySem.W PySem.Calls PyProof.Rows L2 LamX
open He (ga)
open Kz (boot_isi same_new small4 new_ext boot_li boot_in Has pe_has noE shaped_int dpAll_int)
abbrev sLt : Stmt := topS 27
abbrev sLb : Stmt := topS 28
theorem scLt : FnScope ["row", "many", "head", "again"] ["row", "many"] (defScope sLt) := ⟨rfl, rfl, rfl, by decide +kernel, rfl, by decide +kernel, by decide +kernel⟩
theorem scLb : FnScope ["row", "many", "head", "again", "at"] ["row", "many"] (defScope sLb) := ⟨rfl, rfl, rfl, by decide +kernel, rfl, by decide +kernel, by decide +kernel⟩
/-- what the law's own writing out tells -/
def lawTops (hs as : List Int) (m : Nat) : List Int := (hs ++ (List.replicate m as).flatten).take m
section
variable {P : Program} {w : World} {K : Frag} {mg : Str → Option Value} {base : Heap}
def spLtops : Sp := fun vs H Q _ => ∃ (v : V) (hs as : List Int) (m : Nat), vs = [v, .int (m : Nat)] ∧ EndV H v hs as ∧ m ≤ 300 ∧ ∀ (H' : Hp) (r : Addr), L2.Same H H' → H r = none → H' r = some (.lst ((lawTops hs as m).map V.int)) → Q (.ref r) H'
theorem ok_lt {f : Addr} {fd : FuncData} (F : FunD K "_law_f_tops" "_law_f_tops" (defArgs sLt) (defBody sLt) (defScope sLt) [] [] f fd) (ml : mg "list" = none) : FnOk P w K mg base CX0 1 f fd ["row", "many"] spLtops := by
  refine F.ok scLt (fun vs H Q E h => ?_) (fun cdv A outer s H vs Q XE hr h => ?_)
  · obtain ⟨v, hs, as, m, rfl, _⟩ := h
    rfl
  · obtain ⟨v, hs, as, m, rfl, hv, hm, k⟩ := h
    have la : 0 < as.length ∧ hs.length ≤ 500 ∧ as.length ≤ 500 := by
      obtain ⟨_, _, _, _, _, _, _, _, z⟩ := hv
      exact z
    obtain ⟨a, p, q, rfl, ha, hp, hq⟩ := hv.parts
    refine ⟨_, PSs.nox (pss_cons (ps_asg (pv 0) (pg_or (pg_tup rfl (pgs_cons (pg_name (i := 2) scLt.nd rfl (.inl rfl)) (pgs_cons (pg_name (i := 3) scLt.nd rfl (.inl rfl)) pgs_nil))) (pg_lst rfl (pgs_cons (pg_name (i := 2) scLt.nd rfl (.inl rfl)) (pgs_cons (pg_name (i := 3) scLt.nd rfl (.inl rfl)) pgs_nil)))))
      (pss_one (ps_ret (pe_slice sl_list (pe_op op_cat (pe_callTy call_list_of (by rfl) ml boot_li (pa_cons (pv 2) pa_nil)) (pe_op op_rep (pe_callTy call_list_of (by rfl) ml boot_li (pa_cons (pv 3) pa_nil)) (pv 1))) po_none (po_some (pv 1)))))), ?_⟩
    have lh : (hs.map V.int).length = hs.length := List.length_map ..
    have lq : (as.map V.int).length = as.length := List.length_map ..
    rcases ha with ha | ha <;> first
      | refine ⟨.ref a, rfl, .inr ⟨a, _, rfl, .inl (.inl ha), rfl, .ref p, _, rfl, .ref q, _, rfl, rfl, ?_⟩⟩
      | refine ⟨.ref a, rfl, .inl ⟨a, _, rfl, .inl (.inl ha), rfl, .ref p, _, rfl, .ref q, _, rfl, rfl, ?_⟩⟩
    all_goals
      refine ⟨.ref p, rfl, p, _, rfl, sl_of hp, fun h nh => ?_⟩
      have t1 := same_new (o := .lst (hs.map V.int)) nh
      refine ⟨.ref q, rfl, q, _, rfl, sl_of (st_or t1 hq), fun g ng => ?_⟩
      have t2 := same_new (o := .lst (as.map V.int)) ng
      refine ⟨.int (m : Nat), rfl, g, (m : Nat), _, rfl, rfl, upd_same, by omega, by omega, ?_, fun r nr => ?_⟩
      · rw [Int.toNat_natCast, lq, sizeLine_eq]
        have h3 := Nat.mul_le_mul la.2.2 hm
        omega
      have t3 := same_new (o := .lst (List.replicate ((m : Nat) : Int).toNat (as.map V.int)).flatten) nr
      rw [Int.toNat_natCast, flat_map] at t3 ⊢
      have len3 : ((List.replicate m as).flatten).length = m * as.length := by
        simp [List.length_flatten, List.map_replicate]
      refine ⟨h, r, _, _, rfl, rfl, t3 _ _ (t2 _ _ upd_same), upd_same, ?_, fun u nu => ?_⟩
      · rw [List.length_map, List.length_map, len3, sizeLine_eq]
        have h3 := Nat.mul_le_mul hm la.2.2
        omega
      rw [← List.map_append]
      have t4 := same_new (o := .lst ((hs ++ (List.replicate m as).flatten).map V.int)) nu
      refine ⟨.int (m : Nat), rfl, (m : Nat), rfl, u, _, rfl, .inl (.inl upd_same), fun z nz => ?_⟩
      have big : m ≤ (hs ++ (List.replicate m as).flatten).length := by
        rw [List.length_append, len3]
        have := Nat.mul_le_mul (Nat.le_refl m) la.1
        omega
      rw [cutV_take (by rw [List.length_map]; exact big), ← List.map_take]
      have S9 := t1.trans (t2.trans (t3.trans t4))
      exact k _ z (S9.trans (same_new nz)) (S9.free nz) upd_same
end
/-! ### the two tops are one -/
theorem rep_get {as : List Int} (h0 : 0 < as.length) : ∀ (n i : Nat), i < n * as.length → (List.replicate n as).flatten[i]? = some (as.getD (i % as.length) 0)
  | 0, i, h => by omega
  | n + 1, i, h => by
    rw [List.replicate_succ, List.flatten_cons]
    rcases Nat.lt_or_ge i as.length with z | z
    · rw [List.getElem?_append_left z, Nat.mod_eq_of_lt z]
      simp [List.getD, List.getElem?_eq_getElem z]
    · rw [List.getElem?_append_right z, rep_get h0 n (i - as.length) (by rw [Nat.add_mul, Nat.one_mul] at h; omega)]
      have e : i % as.length = (i - as.length) % as.length := by
        rw [Nat.mod_eq_sub_mod z]
      rw [e]
theorem tops_get {hs as : List Int} (h0 : 0 < as.length) {n m : Nat} (hb : m ≤ hs.length + n * as.length) : (hs ++ (List.replicate n as).flatten).take m = (List.range m).map (figAt hs as) := by
  apply List.ext_getElem?
  intro i
  rcases Nat.lt_or_ge i m with z | z
  · rw [List.getElem?_take_of_lt z, List.getElem?_map, List.getElem?_range z]
    unfold figAt
    rcases Nat.lt_or_ge i hs.length with y | y
    · rw [List.getElem?_append_left y]
      simp [y, List.getD, List.getElem?_eq_getElem y]
    · rw [List.getElem?_append_right y, rep_get h0 n _ (by omega)]
      have ny : ¬ i < hs.length := by omega
      simp [ny]
  · rw [List.getElem?_eq_none (by rw [List.length_take]; omega), List.getElem?_eq_none (by simpa using z)]
theorem tops_eq {hs as : List Int} (h0 : 0 < as.length) (m : Nat) : topsOf hs as m = (List.range m).map (figAt hs as) := by
  unfold topsOf
  refine tops_get h0 ?_
  rw [Nat.add_mul, Nat.one_mul]
  have e1 := Nat.div_add_mod (m - hs.length) as.length
  have e2 := Nat.mod_lt (m - hs.length) h0
  rw [Nat.mul_comm] at e1
  omega
theorem lawTops_eq {hs as : List Int} (h0 : 0 < as.length) (m : Nat) : lawTops hs as m = (List.range m).map (figAt hs as) := by
  unfold lawTops
  refine tops_get h0 ?_
  have := Nat.mul_le_mul (Nat.le_refl m) h0
  omega
end K14
namespace K14
open PySem PySem.W PySem.Calls PyProof.Rows L2 LamX
open He (ga)
open Kz (boot_isi same_new small4 new_ext boot_li boot_in Has pe_has noE shaped_int dpAll_int)
theorem short_one {as r1 r2 : List Int} (h1 : IsShort as r1) (h2 : IsShort as r2) : r1 = r2 := by
  obtain ⟨l1, a1, b1, c1, d1, rfl⟩ := h1
  obtain ⟨l2, a2, b2, c2, d2, rfl⟩ := h2
  rcases Nat.lt_trichotomy l1 l2 with h | h | h
  · exact absurd c1 (d2 l1 a1 h)
  · rw [h]
  · exact absurd c2 (d1 l2 a2 h)
theorem least_one {hs as h1 a1 h2 a2 : List Int} (x : IsLeast hs as h1 a1) (y : IsLeast hs as h2 a2) : h1 = h2 ∧ a1 = a2 := by
  obtain ⟨r1, k1, s1, n1, o1, e1, rfl, rfl⟩ := x
  obtain ⟨r2, k2, s2, n2, o2, e2, rfl, rfl⟩ := y
  obtain rfl := short_one s1 s2
  have ek : k1 = k2 := by
    rcases Nat.lt_trichotomy k1 k2 with h | h | h
    · rcases e1 with z | z
      · omega
      · exact absurd (o2 k1 h) z
    · exact h
    · rcases e2 with z | z
      · omega
      · exact absurd (o1 k2 h) z
  rw [ek]
  exact ⟨rfl, rfl⟩
theorem least_is {hs as : List Int} (h0 : 0 < as.length) : ∃ h a, IsLeast hs as h a := by
  -- the shortest round
  have ex : ∃ l, 1 ≤ l ∧ l ≤ as.length ∧ condR as l ∧ ∀ m, 1 ≤ m → m < l → ¬ condR as m := by
    have base : condR as as.length := ⟨Nat.mod_self _, by rw [Nat.div_self h0, List.take_length]; simp⟩
    have go : ∀ n, ∀ l, l ≤ n → 1 ≤ l → l ≤ as.length → condR as l → ∃ l, 1 ≤ l ∧ l ≤ as.length ∧ condR as l ∧ ∀ m, 1 ≤ m → m < l → ¬ condR as m := by
      intro n
      induction n with
      | zero => intro l h1 h2; omega
      | succ n ih =>
        intro l h1 h2 h3 h4
        by_cases c : ∃ m, 1 ≤ m ∧ m < l ∧ condR as m
        · obtain ⟨m, c1, c2, c3⟩ := c
          exact ih m (by omega) c1 (by omega) c3
        · exact ⟨l, h2, h3, h4, fun m q1 q2 q3 => c ⟨m, q1, q2, q3⟩⟩
    exact go as.length as.length (Nat.le_refl _) h0 (Nat.le_refl _) base
  obtain ⟨l, l1, l2, l3, l4⟩ := ex
  have go : ∀ n, ∃ k, k ≤ n ∧ Rolls hs (as.take l) k ∧ (k = n ∨ hs[hs.length - 1 - k]? ≠ (as.take l)[(as.take l).length - 1 - k % (as.take l).length]?) := by
    intro n
    induction n with
    | zero => exact ⟨0, Nat.le_refl _, fun i hi => absurd hi (Nat.not_lt_zero _), .inl rfl⟩
    | succ n ih =>
      obtain ⟨k, k1, k2, k3⟩ := ih
      rcases k3 with rfl | k3
      · by_cases c : hs[hs.length - 1 - k]? = (as.take l)[(as.take l).length - 1 - k % (as.take l).length]?
        · refine ⟨k + 1, Nat.le_refl _, fun i hi => ?_, .inl rfl⟩
          rcases Nat.lt_or_ge i k with z | z
          · exact k2 i z
          · obtain rfl : i = k := by omega
            exact c
        · exact ⟨k, Nat.le_succ _, k2, .inr c⟩
      · exact ⟨k, Nat.le_succ_of_le k1, k2, .inr k3⟩
  obtain ⟨k, k1, k2, k3⟩ := go hs.length
  exact ⟨_, _, as.take l, k, ⟨l, l1, l2, l3, l4, rfl⟩, k1, k2, k3, rfl, rfl⟩
end K14
namespace K14
open PySem PySem.W PySem.Calls PyProof.Rows L2 LamX
/-- rs, its last k taken to the front -/
def turned (rs : List Int) (k : Nat) : List Int := rs.drop (rs.length - k % rs.length) ++ rs.take (rs.length - k % rs.length)
/-- its last one taken to the front -/
def rot (xs : List Int) : List Int := xs.drop (xs.length - 1) ++ xs.take (xs.length - 1)
theorem turned_len (rs : List Int) (k : Nat) : (turned rs k).length = rs.length := by
  unfold turned
  rw [List.length_append, List.length_drop, List.length_take]
  omega
theorem turned_zero (rs : List Int) : turned rs 0 = rs := by
  unfold turned
  rw [Nat.zero_mod, Nat.sub_zero, List.drop_length, List.take_length]
  rfl
theorem rot_app {as bs : List Int} {b : Int} : rot (as ++ (bs ++ [b])) = b :: (as ++ bs) := by
  unfold rot
  have e : (as ++ (bs ++ [b])).length - 1 = (as ++ bs).length := by
    simp only [List.length_append, List.length_singleton]
    omega
  rw [e, ← List.append_assoc, List.drop_left, List.take_left]
  rfl
theorem rot_turned {rs : List Int} (h : 0 < rs.length) (k : Nat) : rot (turned rs k) = turned rs (k + 1) := by
  have hc : k % rs.length < rs.length := Nat.mod_lt _ h
  have e2 : (k + 1) % rs.length = (k % rs.length + 1) % rs.length := by rw [Nat.mod_add_mod]
  unfold turned
  rcases Nat.lt_or_ge (k % rs.length + 1) rs.length with c | c
  · rw [e2, Nat.mod_eq_of_lt c]
    have t1 : rs.length - k % rs.length = (rs.length - (k % rs.length + 1)) + 1 := by omega
    have lt : rs.length - (k % rs.length + 1) < rs.length := by omega
    rw [t1, List.take_add_one, List.getElem?_eq_getElem lt]
    show rot (_ ++ (_ ++ [_])) = _
    rw [rot_app, List.drop_eq_getElem_cons lt]
    rfl
  · have ek : k % rs.length = rs.length - 1 := by omega
    have e3 : (k + 1) % rs.length = 0 := by
      rw [e2, ek]
      have : rs.length - 1 + 1 = rs.length := by omega
      rw [this, Nat.mod_self]
    rw [e3, ek, Nat.sub_zero, List.drop_length, List.take_length]
    have t1 : rs.length - (rs.length - 1) = 0 + 1 := by omega
    rw [t1, List.take_add_one, List.getElem?_eq_getElem h]
    show rot (_ ++ (_ ++ [_])) = _
    rw [rot_app]
    have e4 : rs = rs[0] :: rs.drop 1 := by
      rw [← List.drop_eq_getElem_cons h]
      rfl
    simp only [List.take_zero, List.append_nil, List.nil_append]
    exact e4.symm
theorem turned_last {rs : List Int} (h : 0 < rs.length) (k : Nat) : (turned rs k)[rs.length - 1]? = rs[rs.length - 1 - k % rs.length]? := by
  have hc : k % rs.length < rs.length := Nat.mod_lt _ h
  unfold turned
  rw [List.getElem?_append_right (by rw [List.length_drop]; omega), List.length_drop, List.getElem?_take_of_lt (by omega)]
  congr 1
  omega
/-- behind k rounds of the law's loop: head without its last k, the round turned by k; the loop stops at the same k -/
theorem least_of {hs as rs : List Int} {k : Nat} (s : IsShort as rs) (h : k ≤ hs.length) (r : Rolls hs rs k) (n : k = hs.length ∨ hs[hs.length - 1 - k]? ≠ (turned rs k)[rs.length - 1]?) (h0 : 0 < rs.length) : IsLeast hs as (hs.take (hs.length - k)) (turned rs k) := by
  refine ⟨rs, k, s, h, r, ?_, rfl, rfl⟩
  rw [turned_last h0] at n
  exact n
end K14
namespace K14
open PySem PySem.W PySem.Calls PyProof.Rows L2 LamX
open He (ga)
open Kz (boot_isi same_new small4 new_ext boot_li boot_in Has pe_has noE shaped_int dpAll_int)
section
variable {P : Program} {w : World} {K : Frag} {mg : Str → Option Value} {base : Heap}
def spBen : Sp := fun vs H Q _ => ∃ (v : V) (hs as : List Int) (m : Nat), vs = [v, .int (m : Nat)] ∧ EndV H v hs as ∧ hs.length ≤ m ∧ m ≤ 4000000000 ∧
  ∀ (H' : Hp) (p q r : Addr), L2.Same H H' → H' p = some (.tup [.ref q, .ref r]) → H' q = some (.lst []) → H' r = some (.lst ((as.drop ((m - hs.length) % as.length) ++ as.take ((m - hs.length) % as.length)).map V.int)) → Q (.ref p) H'
theorem ok_lb {f : Addr} {fd : FuncData} (F : FunD K "_law_f_beneath" "_law_f_beneath" (defArgs sLb) (defBody sLb) (defScope sLb) [] [] f fd) (ml : mg "list" = none) (mn : mg "len" = none) (mi : mg "int" = none) : FnOk P w K mg base CX0 1 f fd ["row", "many"] spBen := by
  refine F.ok scLb (fun vs H Q E h => ?_) (fun cdv A outer s H vs Q XE hr h => ?_)
  · obtain ⟨v, hs, as, m, rfl, _⟩ := h
    rfl
  · obtain ⟨v, hs, as, m, rfl, hv, hm0, hm, k⟩ := h
    have la : 0 < as.length ∧ hs.length ≤ 500 ∧ as.length ≤ 500 := by
      obtain ⟨_, _, _, _, _, _, _, _, z⟩ := hv
      exact z
    obtain ⟨a, p, q, rfl, ha, hp, hq⟩ := hv.parts
    refine ⟨_, PSs.nox (pss_cons (ps_asg (pv 0) (pg_or (pg_tup rfl (pgs_cons (pg_name (i := 2) scLb.nd rfl (.inl rfl)) (pgs_cons (pg_name (i := 3) scLb.nd rfl (.inl rfl)) pgs_nil))) (pg_lst rfl (pgs_cons (pg_name (i := 2) scLb.nd rfl (.inl rfl)) (pgs_cons (pg_name (i := 3) scLb.nd rfl (.inl rfl)) pgs_nil)))))
      (pss_cons (ps_set (i := 4) scLb.nd rfl (.inl rfl) (pe_op op_mod (pe_callTy call_int1 (by rfl) mi boot_in (pa_cons (pe_op op_sub (pv 1) (pe_callB call_len_seq (by rfl) mn boot_len (pa_cons (pv 2) pa_nil))) pa_nil)) (pe_callB call_len_seq (by rfl) mn boot_len (pa_cons (pv 3) pa_nil))))
      (pss_one (ps_ret (pe_tup (pa_cons (pe_lst pa_nil) (pa_cons (pe_op op_cat (pe_slice sl_list (pe_callTy call_list_of (by rfl) ml boot_li (pa_cons (pv 3) pa_nil)) (po_some (pv 4)) po_none) (pe_slice sl_list (pe_callTy call_list_of (by rfl) ml boot_li (pa_cons (pv 3) pa_nil)) po_none (po_some (pv 4)))) pa_nil))))))), ?_⟩
    have lh : (hs.map V.int).length = hs.length := List.length_map ..
    have lq : (as.map V.int).length = as.length := List.length_map ..
    have md : (((m : Nat) : Int) - ((hs.map V.int).length : Int)) % ((as.map V.int).length : Int) = (((m - hs.length) % as.length : Nat) : Int) := by
      have e : ((m : Nat) : Int) - ((hs.map V.int).length : Int) = ((m - hs.length : Nat) : Int) := by rw [lh]; omega
      rw [e, lq, ← Int.natCast_emod]
    have tl : (m - hs.length) % as.length < as.length := Nat.mod_lt _ la.1
    rcases ha with ha | ha <;> first
      | refine ⟨.ref a, rfl, .inr ⟨a, _, rfl, .inl (.inl ha), rfl, .ref p, _, rfl, .ref q, _, rfl, rfl, ?_⟩⟩
      | refine ⟨.ref a, rfl, .inl ⟨a, _, rfl, .inl (.inl ha), rfl, .ref p, _, rfl, .ref q, _, rfl, rfl, ?_⟩⟩
    all_goals
      refine ⟨.int (m : Nat), rfl, .ref p, rfl, p, _, rfl, sl_of hp, _, _, rfl, rfl, .inl ⟨_, rfl, .ref q, rfl, q, _, rfl, sl_of hq, _, _, rfl, rfl, (show (0 : Int) < ((as.map V.int).length : Int) by omega), ?_⟩⟩
      refine ⟨small4 0, fun e ne => ?_⟩
      have t1 := same_new (o := .lst []) ne
      refine ⟨.ref q, rfl, q, _, rfl, sl_of (st_or t1 hq), fun g ng => ?_⟩
      have t2 := same_new (o := .lst (as.map V.int)) ng
      refine ⟨_, rfl, _, rfl, g, _, rfl, .inl (.inl upd_same), fun x nx => ?_⟩
      first | rw [md, cut_any, ← List.map_drop] | rw [cut_any, ← List.map_drop]
      have t3 := same_new (o := .lst ((as.drop ((m - hs.length) % as.length)).map V.int)) nx
      refine ⟨.ref q, rfl, q, _, rfl, sl_of (st_or t3 (st_or t2 (st_or t1 hq))), fun g2 ng2 => ?_⟩
      have t4 := same_new (o := .lst (as.map V.int)) ng2
      refine ⟨_, rfl, _, rfl, g2, _, rfl, .inl (.inl upd_same), fun y ny => ?_⟩
      first | rw [md, cutV_take (by omega), ← List.map_take] | rw [cutV_take (by omega), ← List.map_take]
      have t5 := same_new (o := .lst ((as.take ((m - hs.length) % as.length)).map V.int)) ny
      refine ⟨x, y, _, _, rfl, rfl, t5 _ _ (t4 _ _ upd_same), upd_same, by rw [List.length_map, List.length_map, List.length_drop, List.length_take, sizeLine_eq]; omega, fun z nz => ?_⟩
      rw [← List.map_append]
      have t6 := same_new (o := .lst ((as.drop ((m - hs.length) % as.length) ++ as.take ((m - hs.length) % as.length)).map V.int)) nz
      refine ⟨small4 2, fun t nt => ?_⟩
      have t7 := same_new (o := .tup [.ref e, .ref z]) nt
      exact k _ t e z (t1.trans (t2.trans (t3.trans (t4.trans (t5.trans (t6.trans t7)))))) upd_same (t7 _ _ (t6 _ _ (t5 _ _ (t4 _ _ (t3 _ _ (t2 _ _ upd_same)))))) (t7 _ _ upd_same)
end
end K14
namespace K14
open PySem PySem.W PySem.Calls PyProof.Rows L2 LamX
open He (ga)
open Kz (boot_isi same_new small4 new_ext boot_li boot_in Has pe_has noE shaped_int dpAll_int)
abbrev sLs : Stmt := topS 26
abbrev NLs : List Str := ["head", "again", "many", "k", "size"]
theorem scLs : FnScope NLs ["head", "again"] (defScope sLs) := ⟨rfl, rfl, rfl, by decide +kernel, rfl, by decide +kernel, by decide +kernel⟩
def lsSc : Scope := match defBody sLs with
  | [_, .Assign _ (.Subscript (.ListComp _ _ sc _) _ _) _, _, _, _] => sc
  | _ => defScope sLs
theorem tFor_split {wi : TI} {g : TG} {tb u : TS} {D : Ends} {σ : L2.St} {H : Hp} (Ok : L2.St → Hp → Prop) (a : ∀ σ H, Ok σ H → u D σ H) (k : (∀ σ H, Ok σ H → u D σ H) → tFor wi g tb { D with nx := u D } σ H) : tSeq (tFor wi g tb) u D σ H := k a
theorem cut_last {xs : List V} (h : 0 < xs.length) : cutV xs (some (-1)) none = xs.drop (xs.length - 1) := by
  unfold cutV
  have e1 : HT.sIx xs.length 0 (some (-1)) = xs.length - 1 := by
    show (if (-1 : Int) < 0 then ((-1 : Int) + (xs.length : Int)).toNat else min (-1 : Int).toNat xs.length) = _
    rw [if_pos (by decide)]
    omega
  rw [e1, HT.sIx_none]
  exact List.take_of_length_le (by rw [List.length_drop]; omega)
theorem cut_init {xs : List V} (h : 0 < xs.length) : cutV xs none (some (-1)) = xs.take (xs.length - 1) := by
  unfold cutV
  have e1 : HT.sIx xs.length xs.length (some (-1)) = xs.length - 1 := by
    show (if (-1 : Int) < 0 then ((-1 : Int) + (xs.length : Int)).toNat else min (-1 : Int).toNat xs.length) = _
    rw [if_pos (by decide)]
    omega
  rw [e1, HT.sIx_none]
  rfl
theorem atI_last {α : Type} {xs : List α} (h : 0 < xs.length) : atI xs (-1) = xs[xs.length - 1]? := by
  have e := atI_back (xs := xs) (k := 0) h
  simpa using e
def okL (as : List Int) (l : Nat) : Bool := decide ((List.replicate (as.length / l) (as.take l)).flatten = as)
def sizes (as : List Int) (j : Nat) : List Nat := ((List.range j).map (· + 1)).filter (okL as)
theorem okL_cond {as : List Int} {l : Nat} (h1 : 1 ≤ l) (h2 : l ≤ as.length) : okL as l = true ↔ condR as l := by
  unfold okL condR
  rw [decide_eq_true_iff]
  refine ⟨fun h => ⟨?_, h⟩, fun h => h.2⟩
  have e := congrArg List.length h
  have e2 : ((List.replicate (as.length / l) (as.take l)).flatten).length = (as.length / l) * l := by
    simp [List.length_flatten, List.map_replicate, Nat.min_eq_left h2]
  rw [e2] at e
  have e3 := Nat.div_add_mod as.length l
  rw [Nat.mul_comm] at e3
  omega
theorem sizes_head {as : List Int} (h0 : 0 < as.length) : ∃ l r, sizes as as.length = l :: r ∧ 1 ≤ l ∧ l ≤ as.length ∧ IsShort as (as.take l) := by
  have mem : ∀ m, m ∈ sizes as as.length ↔ (1 ≤ m ∧ m ≤ as.length) ∧ okL as m = true := fun m => by
    unfold sizes
    rw [List.mem_filter, List.mem_map]
    refine ⟨fun ⟨⟨i, hi, e⟩, h⟩ => ⟨?_, h⟩, fun ⟨⟨h1, h2⟩, h⟩ => ⟨⟨m - 1, ?_, ?_⟩, h⟩⟩
    · have := List.mem_range.mp hi
      have e : i + 1 = m := e
      omega
    · exact List.mem_range.mpr (by omega)
    · show m - 1 + 1 = m
      omega
  have srt : (sizes as as.length).Pairwise (· < ·) := by
    unfold sizes
    refine List.Pairwise.filter _ ?_
    rw [List.pairwise_map]
    exact List.pairwise_lt_range.imp fun h => Nat.succ_lt_succ h
  have last : as.length ∈ sizes as as.length := (mem _).mpr ⟨⟨h0, Nat.le_refl _⟩, (okL_cond h0 (Nat.le_refl _)).mpr ⟨Nat.mod_self _, by rw [Nat.div_self h0, List.take_length]; simp⟩⟩
  cases e : sizes as as.length with
  | nil => rw [e] at last; cases last
  | cons l r =>
    have hl := (mem l).mp (by rw [e]; exact List.mem_cons_self)
    refine ⟨l, r, rfl, hl.1.1, hl.1.2, l, hl.1.1, hl.1.2, (okL_cond hl.1.1 hl.1.2).mp hl.2, fun m m1 m2 c => ?_, rfl⟩
    have hm := (mem m).mpr ⟨⟨m1, by omega⟩, (okL_cond m1 (by omega)).mpr c⟩
    rw [e] at hm srt
    rcases List.mem_cons.mp hm with z | z
    · omega
    · have := (List.pairwise_cons.mp srt).1 m z
      omega
section
variable {P : Program} {w : World} {K : Frag} {mg : Str → Option Value} {base : Heap}
def tSize (K : Frag) : TT := tTest (tOp (rEqD K) (tOp rRep (tSl (rSlL K) (tVar 1) tNoPart (tPart (tVar 4))) (tOp (rI CDiv fun i j => .int (i / j)) (tCB (Kz.rLen K) (tCons (tVar 1) tNil)) (tVar 4))) (tVar 1))
def spLst (K : Frag) : Sp := fun vs H Q _ => ∃ (p q : Addr) (hs as : List Int), vs = [.ref p, .ref q] ∧ (H p = some (.lst (hs.map V.int)) ∨ H p = some (.tup (hs.map V.int))) ∧ (H q = some (.lst (as.map V.int)) ∨ H q = some (.tup (as.map V.int))) ∧ 0 < as.length ∧ as.length ≤ 500 ∧ hs.length ≤ 500 ∧
  ∀ (H' : Hp) (t x y : Addr) (hs' as' : List Int), L2.Same H H' → H' t = some (.tup [.ref x, .ref y]) → H' x = some (.lst (hs'.map V.int)) → H' y = some (.lst (as'.map V.int)) → H x = none → H y = none → IsLeast hs as hs' as' → Q (.ref t) H'
theorem ok_ls {f : Addr} {fd : FuncData} (F : FunD K "_law_f_least" "_law_f_least" (defArgs sLs) (defBody sLs) (defScope sLs) [] [] f fd) (ml : mg "list" = none) (mn : mg "len" = none) (mr : mg "range" = none) : FnOk P w K mg base CX0 1 f fd ["head", "again"] (spLst K) := by
  refine F.ok scLs (fun vs H Q E h => ?_) (fun cdv A outer s H vs Q XE hr h => ?_)
  · obtain ⟨p, q, hs, as, rfl, _⟩ := h
    rfl
  · obtain ⟨p, q, hs, as, rfl, hp, hq, a0, a1, b1, k⟩ := h
    refine ⟨_, PSs.nox (pss_cons (ps_asg (pe_tup (pa_cons (pe_callTy call_list_of (by rfl) ml boot_li (pa_cons (pv 0) pa_nil)) (pa_cons (pe_callTy call_list_of (by rfl) ml boot_li (pa_cons (pv 1) pa_nil)) pa_nil))) (pg_tup rfl (pgs_cons (pg_name (i := 0) scLs.nd rfl (.inl rfl)) (pgs_cons (pg_name (i := 1) scLs.nd rfl (.inr rfl)) pgs_nil))))
      (pss_cons (ps_set (i := 2) scLs.nd rfl (.inl rfl) (pe_ix ix_list (pe_lc (X := (cxOf CX0 P w K mg base NLs "_law_f_least" (defScope sLs) f cdv A outer s H XE).nox) (scope := lsSc) (te := tVar 4) (tt := tSize K) (own := [("size", 4)]) (g := gName 4) rfl scLs.nd (pi_range2 (by rfl) mr (pa_cons pe_int (pa_cons (pe_op op_add (pe_callB call_len_seq (by rfl) mn boot_len (pa_cons (pv 1) pa_nil)) pe_int) pa_nil)))
        (blkOk_by (N := NLs) (sc := defScope sLs) (by decide +kernel)) (fun _ _ _ _ _ => pg_name (i := 4) scLs.nd rfl (Or.inl rfl))
        (fun s0 H0 C0 cl0 fp0 => pts_one (pt_cmpR (X := Cx.blk ((cxOf CX0 P w K mg base NLs "_law_f_least" (defScope sLs) f cdv A outer s H XE).nox) s0 H0 lsSc (compEnvC lsSc cl0 C0 (Cx.env ((cxOf CX0 P w K mg base NLs "_law_f_least" (defScope sLs) f cdv A outer s H XE).nox))) fp0) (op_eqD hr.units) (pe_op op_rep (pe_slice sl_list (pv 1) po_none (po_some (pv 4))) (pe_op op_fdiv (pe_callB call_len_seq (by rfl) mn boot_len (pa_cons (pv 1) pa_nil)) (pv 4))) (pv 1) (nomark _)))
        (fun _ _ _ _ _ => pv 4)) pe_int (fun _ _ => rfl)))
      (pss_cons (ps_set (i := 1) scLs.nd rfl (.inr rfl) (pe_slice sl_list (pv 1) po_none (po_some (pv 2))))
      (pss_cons (ps_for PassesOwn.never rfl (pi_range1 (by rfl) mr (pa_cons (pe_callB call_len_seq (by rfl) mn boot_len (pa_cons (pv 0) pa_nil)) pa_nil)) (pg_name (i := 3) scLs.nd rfl (.inl rfl))
        (pss_cons (ps_if (pt_cmpR op_ne (pe_ix ix_list (pv 0) (pe_un un_neg pe_int) (fun _ _ => rfl)) (pe_ix ix_list (pv 1) (pe_un un_neg pe_int) (fun _ _ => rfl)) (nomark _)) (pss_one ps_break) pss_nil)
        (pss_cons (ps_set (i := 1) scLs.nd rfl (.inr rfl) (pe_op op_cat (pe_slice sl_list (pv 1) (po_some (pe_un un_neg pe_int)) po_none) (pe_slice sl_list (pv 1) po_none (po_some (pe_un un_neg pe_int)))))
        (pss_one (ps_expr (pe_bm0 PySem.F.plainAttrs_list PySem.F.slot_list_pop PySem.F.type_list_pop mt_pop (pv 0)))))))
      (pss_one (ps_ret (pe_tup (pa_cons (pv 0) (pa_cons (pv 1) pa_nil))))))))), ?_⟩
    refine ⟨.ref p, rfl, p, _, rfl, sl_of hp, fun h nh => ?_⟩
    have t1 := same_new (o := .lst (hs.map V.int)) nh
    refine ⟨.ref q, rfl, q, _, rfl, sl_of (st_or t1 hq), fun g ng => ?_⟩
    have t2 := same_new (o := .lst (as.map V.int)) ng
    refine ⟨small4 2, fun t nt => ⟨t, _, rfl, .inl (.inl upd_same), rfl, .ref h, _, rfl, .ref g, _, rfl, rfl, ?_⟩⟩
    have t3 := same_new (o := .tup [.ref h, .ref g]) nt
    have hg := t3 _ _ (upd_same (H := upd H h (.lst (hs.map V.int))) (a := g) (o := .lst (as.map V.int)))
    have hh := t3 _ _ (t2 _ _ (upd_same (H := H) (a := h) (o := .lst (hs.map V.int))))
    have gh : g ≠ h := Ne.symm (ne_of_none upd_same ng)
    have S3 := t1.trans (t2.trans t3)
    clear t1 t2 t3 nt ng
    revert hg hh S3
    generalize upd (upd (upd H h (.lst (hs.map V.int))) g (.lst (as.map V.int))) t (.tup [.ref h, .ref g]) = H3
    intro hg hh S3
    have lh : (hs.map V.int).length = hs.length := List.length_map ..
    have lq : (as.map V.int).length = as.length := List.length_map ..
    refine ⟨.ref g, rfl, g, _, rfl, .inl (.inl (.inl hg)), _, 1, rfl, rfl, 1, _, rfl, ⟨by decide, by decide, by omega, by omega⟩, fun D hD => ?_⟩
    refine lc_range (lo := 1) (n := ((((as.map V.int).length : Int) + 1) - 1).toNat) (fun j H' => L2.Same H3 H' ∧ H' D = some (.lst ((sizes as j).map fun (l : Nat) => V.int (l : Int)))) ⟨same_new hD, upd_same⟩ (fun j H' hj e => ?_) (fun H' e => ?_)
    · obtain ⟨S, hA⟩ := e
      have jl : j < as.length := by omega
      have hg' := S _ _ hg
      have eL : (1 + (j : Nat) : Int) = ((j + 1 : Nat) : Int) := by omega
      have cl : (as.map V.int).take (j + 1) = (as.take (j + 1)).map V.int := by rw [List.map_take]
      have cut : cutV (as.map V.int) none (some (1 + (j : Nat))) = (as.take (j + 1)).map V.int := by
        rw [eL, cutV_take (by omega), cl]
      have dv : ((as.map V.int).length : Int) / (1 + (j : Nat)) = ((as.length / (j + 1) : Nat) : Int) := by
        rw [lq, eL, Int.natCast_ediv]
      have dle : as.length / (j + 1) ≤ as.length := Nat.div_le_self _ _
      have sS : sizes as (j + 1) = sizes as j ++ (if okL as (j + 1) = true then [j + 1] else []) := by
        unfold sizes
        rw [List.range_succ, List.map_append, List.filter_append]
        show _ ++ List.filter (okL as) [j + 1] = _
        rw [List.filter_cons, List.filter_nil]
      have sl : (sizes as j).length ≤ 500 := by
        unfold sizes
        refine Nat.le_trans (List.length_filter_le _ _) ?_
        rw [List.length_map, List.length_range]
        omega
      refine ⟨rfl, .ref g, rfl, .int (1 + (j : Nat)), rfl, 1 + (j : Nat), rfl, g, _, rfl, .inl (.inl hg'), fun x nx => ?_⟩
      rw [cut]
      have u1 := same_new (o := .lst ((as.take (j + 1)).map V.int)) nx
      refine ⟨.ref g, rfl, g, _, rfl, .inl (.inl (.inl (u1 _ _ hg'))), .int (1 + (j : Nat)), rfl, _, _, rfl, rfl, ⟨by omega, by show (1 : Int) + (j : Nat) < 1073741824; omega⟩, x, _, _, rfl, rfl, upd_same, ?_, ?_, ?_, fun y ny => ?_⟩
      · rw [dv]
        exact Int.le_trans (by decide) (Int.natCast_nonneg _)
      · rw [dv]
        exact Int.lt_of_le_of_lt (Int.ofNat_le.mpr (Nat.le_trans dle a1)) (by decide)
      · rw [dv, List.length_map, List.length_take, sizeLine_eq, Int.toNat_natCast]
        have h1 : min (j + 1) as.length ≤ 1000 := by omega
        have h2 : as.length / (j + 1) ≤ 1000 := by omega
        have h3 := Nat.mul_le_mul h1 h2
        omega
      have u2 := same_new (o := .lst (List.replicate (((as.map V.int).length : Int) / (1 + (j : Nat))).toNat ((as.take (j + 1)).map V.int)).flatten) ny
      rw [dv, Int.toNat_natCast, flat_map] at u2 ⊢
      have SS' := S.trans (u1.trans u2)
      have hA' := u2 _ _ (u1 _ _ hA)
      refine ⟨.ref g, rfl, .list (((List.replicate (as.length / (j + 1)) (as.take (j + 1))).flatten).map PyData.int), .list (as.map PyData.int), .lst (.inl (.inl upd_same)) (dpAll_int _), .lst (.inl (.inl (u2 _ _ (u1 _ _ hg')))) (dpAll_int _), shaped_int _, shaped_int _, _, rfl, ?_⟩
      rw [eqv_il]
      refine ite2 (fun c => ?_) (fun c => ?_)
      · refine ⟨.int (1 + (j : Nat)), rfl, _, hA', by rw [List.length_map, sizeLine_eq]; omega, fun b o eb => ?_, ?_⟩
        · rw [upd_ne (ne_of_none eb hD)]
          exact SS' _ _ eb
        · rw [upd_same, sS, if_pos (show okL as (j + 1) = true from c), List.map_append, eL]
          rfl
      · refine ⟨SS', ?_⟩
        rw [hA', sS, if_neg (show ¬ okL as (j + 1) = true from c), List.append_nil]
    · obtain ⟨S, hA⟩ := e
      obtain ⟨l, r, es, l1, l2, sh⟩ := sizes_head a0
      have en : ((((as.map V.int).length : Int) + 1) - 1).toNat = as.length := by omega
      rw [en, es] at hA
      refine ⟨D, _, 0, .int (l : Nat), rfl, rfl, .inl (.inl hA), atI_nat (j := 0) rfl, ?_⟩
      refine ⟨.ref g, rfl, .int (l : Nat), rfl, (l : Nat), rfl, g, _, rfl, .inl (.inl (S _ _ hg)), fun u nu => ?_⟩
      rw [cutV_take (by omega), ← List.map_take]
      have u1 := same_new (o := .lst ((as.take l).map V.int)) nu
      have hh1 := u1 _ _ (S _ _ hh)
      have S5 := (S3.trans S).trans u1
      have hu : (upd H' u (.lst ((as.take l).map V.int))) u = some (.lst ((as.take l).map V.int)) := upd_same
      have uh : u ≠ h := Ne.symm (ne_of_none (S _ _ hh) nu)
      have nu0 : H u = none := (S3.trans S).free nu
      revert hh1 S5 hu
      generalize upd H' u (.lst ((as.take l).map V.int)) = H5
      intro hh1 S5 hu
      have r0 : 0 < (as.take l).length := by rw [List.length_take]; omega
      have r5 : (as.take l).length ≤ 500 := by rw [List.length_take]; omega
      revert sh hu r0 r5
      generalize as.take l = rs
      intro sh hu r0 r5
      dsimp only [gName]
      refine tFor_split (fun σ G => ∃ (x : Addr) (a3 : Option V) (n : Nat), σ = [some (.ref h), some (.ref x), some (.int (l : Nat)), a3, none] ∧ L2.Same H G ∧ H x = none ∧ G h = some (.lst ((hs.take (hs.length - n)).map V.int)) ∧ G x = some (.lst ((turned rs n).map V.int)) ∧ n ≤ hs.length ∧ Rolls hs rs n ∧ (n = hs.length ∨ hs[hs.length - 1 - n]? ≠ (turned rs n)[rs.length - 1]?)) (fun σ G e => ?_) (fun after => ?_)
      · obtain ⟨x, a3, n, rfl, SG, nx0, g1, g2, nle, ro, nd⟩ := e
        refine ⟨.ref h, rfl, .ref x, rfl, small4 2, fun t nt => ?_⟩
        exact k _ t h x _ _ (SG.trans (same_new nt)) upd_same (same_new nt _ _ g1) (same_new nt _ _ g2) nh nx0 (least_of sh nle ro nd r0)
      refine ⟨.ref h, rfl, h, _, rfl, .inl (.inl (.inl hh1)), _, rfl, by omega, by omega, ?_⟩
      refine for_range (lo := 0) (n := ((hs.map V.int).length : Int).toNat) (fun j σ G => ∃ (x : Addr) (a3 : Option V), σ = [some (.ref h), some (.ref x), some (.int (l : Nat)), a3, none] ∧ L2.Same H G ∧ H x = none ∧ x ≠ h ∧ G h = some (.lst ((hs.take (hs.length - j)).map V.int)) ∧ G x = some (.lst ((turned rs j).map V.int)) ∧ Rolls hs rs j)
        ⟨u, none, rfl, S5, nu0, uh, by rw [Nat.sub_zero, List.take_length]; exact hh1, by rw [turned_zero]; exact hu, fun i hi => absurd hi (Nat.not_lt_zero _)⟩ (fun j σ G hj e => ?_) (fun σ G e => ?_)
      · obtain ⟨x, a3, rfl, SG, nx0, xh, g1, g2, ro⟩ := e
        have jl : j < hs.length := by omega
        have len1 : ((hs.take (hs.length - j)).map V.int).length = hs.length - j := by rw [List.length_map, List.length_take]; omega
        have len2 : ((turned rs j).map V.int).length = rs.length := by rw [List.length_map, turned_len]
        have lt2 : rs.length - 1 < (turned rs j).length := by rw [turned_len]; omega
        refine ⟨.ref h, rfl, 1, rfl, h, _, _, V.int (hs[hs.length - 1 - j]'(by omega)), rfl, rfl, .inl (.inl g1), ?_, .ref x, rfl, 1, rfl, x, _, _, V.int ((turned rs j)[rs.length - 1]'lt2), rfl, rfl, .inl (.inl g2), ?_, rfl, _, rfl, ite2 (fun c => ?_) (fun c => ?_)⟩
        · show atI _ (-1) = _
          rw [atI_last (by omega), len1, List.getElem?_map, List.getElem?_take_of_lt (by omega)]
          have e : hs.length - j - 1 = hs.length - 1 - j := by omega
          rw [e, List.getElem?_eq_getElem (by omega)]
          rfl
        · show atI _ (-1) = _
          rw [atI_last (by omega), len2, List.getElem?_map, List.getElem?_eq_getElem lt2]
          rfl
        · refine after _ _ ⟨x, _, j, rfl, SG, nx0, g1, g2, by omega, ro, .inr fun z => ?_⟩
          rw [List.getElem?_eq_getElem (by omega), List.getElem?_eq_getElem lt2] at z
          rw [Option.some.inj z] at c
          simp at c
        · refine ⟨.ref x, rfl, 1, rfl, _, rfl, x, _, rfl, .inl (.inl g2), fun y ny => ?_⟩
          rw [cut_last (by omega), len2]
          have v1 := same_new (o := .lst (((turned rs j).map V.int).drop (rs.length - 1))) ny
          refine ⟨.ref x, rfl, 1, rfl, _, rfl, x, _, rfl, .inl (.inl (v1 _ _ g2)), fun z nz => ?_⟩
          rw [cut_init (by omega), len2]
          have v2 := same_new (o := .lst (((turned rs j).map V.int).take (rs.length - 1))) nz
          refine ⟨y, z, _, _, rfl, rfl, v2 _ _ upd_same, upd_same, by rw [List.length_drop, List.length_take, len2, sizeLine_eq]; omega, fun x2 nx2 => ?_⟩
          have er : ((turned rs j).map V.int).drop (rs.length - 1) ++ ((turned rs j).map V.int).take (rs.length - 1) = (turned rs (j + 1)).map V.int := by
            rw [← rot_turned r0 j]
            unfold rot
            rw [turned_len, List.map_append, List.map_drop, List.map_take]
          rw [er]
          have v3 := same_new (o := .lst ((turned rs (j + 1)).map V.int)) nx2
          have V3 := v1.trans (v2.trans v3)
          have g1' := V3 _ _ g1
          have x2h : x2 ≠ h := Ne.symm (ne_of_none (v2 _ _ (v1 _ _ g1)) nx2)
          refine ⟨.ref h, rfl, .inl ⟨rfl, _, .inl (.inl g1')⟩, h, _, V.int (hs[hs.length - 1 - j]'(by omega)), rfl, rfl, g1', ?_, x2, _, rfl, fun b o eb => ?_, SG.free ((v1.trans v2).free nx2), x2h, ?_, ?_, fun i hi => ?_⟩
          · rw [len1, List.getElem?_map, List.getElem?_take_of_lt (by omega)]
            have e : hs.length - j - 1 = hs.length - 1 - j := by omega
            rw [e, List.getElem?_eq_getElem (by omega)]
            rfl
          · rw [upd_ne (ne_of_none eb nh)]
            exact V3 _ _ (SG _ _ eb)
          · rw [upd_same]
            have e : ((hs.take (hs.length - j)).map V.int).dropLast = (hs.take (hs.length - (j + 1))).map V.int := by
              rw [List.dropLast_eq_take, len1, ← List.map_take, List.take_take]
              congr 2
              omega
            rw [e]
          · rw [upd_ne x2h]
            exact upd_same
          · rcases Nat.lt_or_ge i j with q | q
            · exact ro i q
            · obtain rfl : i = j := by omega
              rw [← turned_last r0 i, List.getElem?_eq_getElem (by omega), List.getElem?_eq_getElem lt2]
              by_cases y1 : hs[hs.length - 1 - i]'(by omega) = (turned rs i)[rs.length - 1]'lt2
              · rw [y1]
              · exact absurd (show (!decide (V.int (hs[hs.length - 1 - i]'(by omega)) = V.int ((turned rs i)[rs.length - 1]'lt2))) = true by rw [decide_eq_false (fun q => y1 (V.int.inj q))]; rfl) c
      · obtain ⟨x, a3, rfl, SG, nx0, xh, g1, g2, ro⟩ := e
        have e1 : ((hs.map V.int).length : Int).toNat = hs.length := by omega
        rw [e1] at g1 g2 ro
        exact after _ _ ⟨x, a3, hs.length, rfl, SG, nx0, g1, g2, Nat.le_refl _, ro, .inl rfl⟩
end
end K14
namespace K14
open PySem PySem.W PySem.Calls PyProof.Rows L2 LamX
open Kz (XF X1 mkH mkH_over mkH_a mkH_d kwCall init1 under_depth)
section
variable {X : Cx} {pins : List (Addr × Obj)} {σ : L2.St} {H : Hp} {s : Shared} {a C fI d : Addr} {E : Value → Shared → Prop} {fs : List (Str × V)}
theorem not_exo {o : HO} {b : Addr} (ea : H a = some (exo a C (some d))) (eb : H b = some o) (n : ∀ φ, o ≠ .ext φ) : b ≠ a := fun z => by
  rw [z, ea] at eb
  exact n _ (Option.some.inj eb).symm
theorem not_exd {o : HO} {b : Addr} (ed : H d = some (exd d fs)) (eb : H b = some o) (n : ∀ φ, o ≠ .ext φ) : b ≠ d := fun z => by
  rw [z, ed] at eb
  exact n _ (Option.some.inj eb).symm
/-- an exception that was made since the def began is let go: its dict is kept -/
theorem let_go (I : Inv X pins σ H s) (ea : H a = some (exo a C (some d))) (ed : H d = some (exd d fs)) (n0 : X.s_0.heap.get? a = none) (nda : d ≠ a) :
    ∃ (t0 : Addr) (G : Heap), Inv X pins σ (upd (del H a) d (.xd fs)) { s with heap := G } ∧ (∀ b o, G.get? b = some o → s.heap.get? b = some o) ∧ G.get? a = none ∧
      s.heap.get? a = some ({ cls := .ref C, dict := some d, data := .fields #[.ref t0, .none, .none, .none, .bool false, .none] } : Obj) := by
  obtain ⟨t0, h0⟩ := exo_at I.hok ea
  obtain ⟨mA, hns, rel⟩ := exd_at I.hok ed
  obtain ⟨G, g1, g2⟩ := restrict s.heap fun b => decide (b ≠ a)
  have on : ∀ b, b ≠ a → G.get? b = s.heap.get? b := fun b q => g1 b (decide_eq_true q)
  have off : G.get? a = none := g2 a (by simp)
  have bef : ∀ {b : Addr} {o : Obj}, X.s_0.heap.get? b = some o → b ≠ a := fun e z => by
    rw [z, n0] at e
    cases e
  have un := I.base
  have U : Un X.fs X.ex X.H_0 (upd (del H a) d (.xd fs)) X.s_0.heap G := {
    keep := fun b o e n f x => (on b (bef e)).trans (un.keep b o e n f x)
    slot := fun b o e n f x => by
      obtain ⟨sl, q⟩ := un.slot b o e n f x
      exact ⟨sl, (on b (bef e)).trans q⟩
    free := fun b o e n x => by
      have q := un.free b o e n x
      rw [upd_ne (fun z => by rw [z, ed] at q; cases q), del_ne (bef e)]
      exact q
    there := fun b o e x => by
      obtain ⟨o', q⟩ := un.there b o e x
      exact ⟨o', (on b (bef e)).trans q⟩
    tups := fun b xs e => by
      have q := un.tups b xs e
      rw [upd_ne (not_exd ed q (fun φ z => nomatch z)), del_ne (not_exo ea q (fun φ z => nomatch z))]
      exact q
    frzs := fun b o u e => by
      have q := un.frzs b o u e
      rw [upd_ne (not_exd ed q (fun φ z => nomatch z)), del_ne (not_exo ea q (fun φ z => nomatch z))]
      exact q
    tbls := fun b ps e => by
      obtain ⟨more, q⟩ := un.tbls b ps e
      exact ⟨more, by rw [upd_ne (not_exd ed q (fun φ z => nomatch z)), del_ne (not_exo ea q (fun φ z => nomatch z))]; exact q⟩ }
  have gone : ∀ {b : Addr}, H b = none → upd (del H a) d (.xd fs) b = none := fun {b} q => by
    rw [upd_ne (fun z => by rw [z, ed] at q; cases q)]
    unfold del
    split
    · rfl
    · exact q
  have nfree : ∀ {b : Addr}, H b = none → b ≠ a := fun q z => by
    rw [z, ea] at q
    cases q
  refine ⟨t0, G, ⟨I.ok, I.os, I.bare, U, ?_, fun x c e => ?_, gone I.free, fun x c e => gone (I.freeC x c e), fun p hp => ?_, fun b o z => ?_, I.len⟩, fun b o q => ?_, off, h0⟩
  · obtain ⟨m, hn, hl⟩ := I.loc
    refine ⟨m, hn.at fun o y => (on _ (nfree I.free)).trans y, fun i x v e1 e2 e3 => ?_⟩
    obtain ⟨u, ru, q⟩ := hl i x v e1 e2 e3
    refine ⟨u, ru, ?_⟩
    rcases q with q | ⟨k, c, e, z⟩
    · exact .inl q
    · refine .inr ⟨k, c, e, ?_⟩
      obtain ⟨oc, e1, e2⟩ := z
      exact ⟨oc, (on c (nfree (I.freeC x c e))).trans e1, e2⟩
  · obtain ⟨v, oc, e1, e2⟩ := I.cell x c e
    exact ⟨v, oc, (on c (nfree (I.freeC x c e))).trans e1, e2⟩
  · obtain ⟨q1, q2, q3, q4, q5⟩ := I.pin p hp
    exact ⟨(on _ (nfree q2)).trans q1, gone q2, q3, q4, q5⟩
  · by_cases hb : b = d
    · subst hb
      rw [upd_same] at z
      cases z
      exact ⟨mA, hns.at fun o y => (on b nda).trans y, rel⟩
    · rw [upd_ne hb] at z
      have hba : b ≠ a := fun e => by
        rw [e, del_same] at z
        cases z
      rw [del_ne hba] at z
      have oa : ∀ {c : Addr}, H c = some (.own b) → c ≠ a := fun q => not_exo ea q (fun φ z => nomatch z)
      refine (I.hok b o z).stay (fun c v hc y => ?_) (fun c hc => ?_) fun c xs hc => ?_
      · have hca : c ≠ a := hc.elim (fun q => by rw [q]; exact hba) oa
        exact (on c hca).trans y
      · rw [upd_ne (not_exd ed hc (fun φ z => nomatch z)), del_ne (oa hc)]
        exact hc
      · rw [upd_ne (not_exd ed hc (fun φ z => nomatch z)), del_ne (not_exo ea hc (fun φ z => nomatch z))]
        exact hc
  · by_cases hba : b = a
    · rw [hba, off] at q
      cases q
    · exact (on b hba).symm.trans q
/-- C(..) of an own error class; where it stands there was nothing -/
theorem call_mk3 {qual : Str} {params : Arguments} {body : List Stmt} {scope : Scope} {us : List Value} {Q : Value → Shared → Prop}
    (T : XF X.prog X.K C fI qual params body scope) (I : Inv X pins σ H s) (hl : us.length ≤ sizeLine)
    (hini : ∀ (b : Addr) (s1 : Shared) (R : Result → Shared → Prop), Inv X pins σ (upd H b (exo b C none)) s1 → H b = none → (∀ (dx : Addr) (s' : Shared), (upd H b (exo b C none)) dx = none → dx ≠ b → Inv X pins σ (mkH (upd H b (exo b C none)) b C dx fs) s' → R (.ok (.ret .none)) s') →
      codeAny (model X.prog X.w) (X.A.under (.builtin "type.__call__" ⟨.ref C :: us, []⟩)) (.call (.ref fI) ⟨.ref b :: us, []⟩) R s1)
    (h : ∀ (b dx : Addr) (s' : Shared), s.heap.get? b = none → H b = none → H dx = none → dx ≠ b → Inv X pins σ (mkH H b C dx fs) s' → Q (.ref b) s') :
    wpAny (model X.prog X.w) X.A (call (.ref C) us []) Q E s := by
  obtain ⟨nm, q, N, bs, bm, sn, sub, ab, col, dd, k0, k1, k2, k3, k5, hC, hbm⟩ := T.oex.cls
  obtain ⟨hp, g, dr, tk, os⟩ := s
  have hn : H (hp.objs.size + 1) = none := I.hok.fresh (Nat.le_succ _)
  have h0 : hp.get? (hp.objs.size + 1) = none := by
    cases e : hp.get? (hp.objs.size + 1) with
    | none => rfl
    | some o =>
      exact absurd (Heap.lt_size e) (Nat.not_lt_of_le (Nat.le_succ _))
  have stay2 : ∀ b o, hp.get? b = some o → ((hp.push (kdv_tup us)).push (HandSPX.excO C hp.objs.size)).get? b = some o := fun b o e => Heap.get?_push_of_some _ (Heap.get?_push_of_some _ e)
  have at2 : ((hp.push (kdv_tup us)).push (HandSPX.excO C hp.objs.size)).get? (hp.objs.size + 1) = some (HandSPX.excO C hp.objs.size) := by heap_get
  have I2 : Inv X pins σ (upd H (hp.objs.size + 1) (exo (hp.objs.size + 1) C none)) ⟨(hp.push (kdv_tup us)).push (HandSPX.excO C hp.objs.size), g, dr, tk, os⟩ := I.laid (t' := tk) (a := hp.objs.size + 1) stay2 (Nat.le_succ _) (exo_ok at2)
  refine wpAny_call (kwCall F.excBase_ValueError (fun Y => HandSPX.refsVE_contains Y bm hbm) (I.kIn _ _ hC) (looks_findIn I.kIn T.ini) (fun self => bind_fn I.kIn self T.tyI) hl (hini _ _ _ I2 hn fun dx s' hd hne I3 => ?_))
  rw [mkH_over] at I3
  exact ⟨rfl, h _ dx s' h0 hn (by rw [upd_ne hne] at hd; exact hd) hne I3⟩
end
/-- raise C(e): its reading -/
def tRs1 (C : Addr) (f : Str) (te : TE) : L2.St → Hp → XK → Prop := fun σ H Q => te σ H fun y H1 => ∀ d : Addr, H1 d = none → Q (.ref C) (some d) (upd H1 d (.xd [(f, y)]))
theorem pmk_x1 {X : Cx} {C : Addr} {f x : Str} {e : Expr} {te : TE} {p pos : Pos} (T : X1 X.prog X.K C f) (hr : Room 1 X.A) (hex : X.ex = []) (hg : Gl X x) (hm : X.mg x = some (.ref C)) (he : PE X e te) (hdb : (x == ("__debug__" : Str)) = false := by decide)
    (hs : starEach [e] X.env = (false, eval e X.env) :: starEach [] X.env := by rfl) : PMk X (.Call (.Name x p) [e] [] pos) (tRs1 C f te) := by
  intro pins s σ H Q I h
  refine wpAny_Call_Name_kw (ld_glob I hg hm ?_ hdb)
  refine callWith_K (h₀ := X.base) I.ok.mod.kin T.kC ?_ hs (by rfl)
  rw [hs]
  refine Calls.spliced_cons (thn (he.run pins s σ H _ I h) fun u s1 ⟨y, H1, I1, ry, q1⟩ => Calls.spliced_nil ⟨I1.kIn, ?_⟩)
  show wpAny _ _ (call (.ref C) [u]) _ _ _
  obtain ⟨fI, qual, params, scope, msg, j, p0, p1, p2, p3, p4, p5, q0, q1', q2, q3, hpos, T1, S, b1, b2⟩ := T.ex
  refine call_mk3 (fs := [(f, y)]) T1 I1 (by rw [sizeLine_eq]; exact Nat.le_of_ble_eq_true rfl) (fun b s1 R I1 hb k => init1 hpos T1 S I1 upd_same ry (under_depth hr) (fun kV doc pm an cdv ct cc => b1 kV doc pm an cdv ct cc _ _) T.fs T.fd T.no k) fun b dx s' nb n1 n2 ne J => ?_
  have n0 : X.s_0.heap.get? b = none := by
    cases z : X.s_0.heap.get? b with
    | none => rfl
    | some o =>
      obtain ⟨o', q⟩ := I1.base.there b o z (by rw [hex]; exact fun q => nomatch q)
      rw [nb] at q
      cases q
  obtain ⟨t0, G, J2, kG, ge, hoe⟩ := let_go J mkH_a (mkH_d ne) n0 ne
  have eH : upd (del (mkH H1 b C dx [(f, y)]) b) dx (.xd [(f, y)]) = upd H1 dx (.xd [(f, y)]) := by
    funext c
    unfold mkH upd del
    by_cases h1 : c = dx
    · simp [h1]
    · by_cases h2 : c = b
      · subst h2
        simp [h1, n1]
      · simp [h1, h2]
  rw [eH] at J2
  have ox := T1.oex
  exact ⟨b, _, _, { s' with heap := G }, _, .ref C, some dx, rfl, J2, kG, ge, hoe, ⟨rfl, rfl⟩, rfl, rfl, by rw [upd_ne (Ne.symm ne)]; exact n1, rfl, J.bare, raises_own ox.exC ox.tyC, q1 dx n2⟩
end K14
namespace K14
open PySem PySem.W PySem.Calls PyProof.Rows L2 LamX
/-! ### try with several clauses, each with a name -/
abbrev Suite := Addr → Value → Option Addr → TS
/-- the ends of a suite whose name stands in slot i -/
def endsOf (D : Ends) (i : Nat) : Ends := { nx := fun σ H => D.nx (σ.set i none) H, rt := D.rt, bk := fun σ H => D.bk (σ.set i none) H, ct := fun σ H => D.ct (σ.set i none) H }
def wEach (K : Frag) (n : Nat) (Wout : WX) (D : Ends) : List (Value × Nat × Suite) → WX
  | [] => Wout
  | (c, i, ts) :: r => fun cls d σ H => ∃ b, exmOne K cls c = some b ∧ (b = true → ∀ a, H a = none → σ.length = n → ts a cls d (endsOf D i) (σ.set i (some (.ref a))) H) ∧ (b = false → wEach K n Wout D r cls d σ H)
structure Clause (X : Cx) (x n : Str) (c : Value) (i : Nat) (b0 : Stmt) (rest : List Stmt) (ts : Suite) : Prop where
  hi : X.N[i]? = some n
  lo : X.env.kindOf n = some .local
  nm : Names X x c
  su : ∀ (a : Addr) (oe : Obj) (cls : Value) (d : Option Addr) (pn : List (Addr × Obj)), Zc cls d oe → (∃ vs, oe.data = .fields vs) → PSs (X.suite a ((a, oe) :: pn)) (b0 :: rest) (ts a cls d)
inductive Clauses (X : Cx) : List ExceptHandler → List (Value × Nat × Suite) → Prop
  | nil : Clauses X [] []
  | cons {x n : Str} {c : Value} {i : Nat} {ts : Suite} {b0 : Stmt} {rest : List Stmt} {q1 q2 : Pos} {hs : List ExceptHandler} {l : List (Value × Nat × Suite)} : Clause X x n c i b0 rest ts → Clauses X hs l → Clauses X (.ExceptHandler (some (.Name x q1)) (some n) (b0 :: rest) q2 :: hs) ((c, i, ts) :: l)
section
variable {X : Cx} {pins : List (Addr × Obj)} {σ : L2.St} {H : Hp} {sI s : Shared} {B : Heap} {a : Addr} {cls : Value} {d : Option Addr} {Wout : WX} {D : Ends}
/-- what is known where clauses are tried -/
structure Caught (X : Cx) (pins : List (Addr × Obj)) (σ : L2.St) (H : Hp) (sI s : Shared) (B : Heap) (a : Addr) (cls : Value) (d : Option Addr) : Prop where
  inv : Inv X pins σ H sI
  nb : ∀ b o, sI.heap.get? b = some o → b ∉ frs X.stack → B.get? b = some o
  up : sI.heap.UpToSlots s.heap
  fl : HandSPX.FlyingZ B (X.env :: X.outer) a (Zc cls d) s.heap
  na : H a = none
  nL : a ≠ X.env.locals
  nF : a ∉ X.fs
  os : s.os = sI.os
  ag : AllBare s.gens
/-- the clauses, one behind another -/
theorem clauses_run (hs : X.stack = X.env :: X.outer) (hf : X.env.frame = some X.env.locals) (nd : X.N.Nodup) (tk : Takes X Wout) :
    ∀ {hds : List ExceptHandler} {l : List (Value × Nat × Suite)}, Clauses X hds l → Caught X pins σ H sI s B a cls d → wEach X.K X.N.length Wout D l cls d σ H → wpAny (model X.prog X.w) X.A (handleBy (.ref a) X.env hds) (SP X pins D) X.xe s := by
  intro hds l C
  induction C with
  | nil =>
    intro G w
    obtain ⟨oe, vs, T, oT, ts, e1, e2, e3, e4, _⟩ := G.fl.2.2.2
    refine wpAny_handleBy_nil ?_
    have go : wpAny (model X.prog X.w) X.A (setFlight (.ref a) X.env.frame) (fun _ s4 => wpAny (model X.prog X.w) X.A (throw (.ref a) : Sem Flow) (SP X pins D) X.xe s4) X.xe s := by
      rw [hf]
      exact HandSPX.setFlight_upZ G.fl fun h4 hh up => wpAny_throw (tk _ _ ⟨a, B, sI, pins, σ, H, cls, d, rfl, G.inv, G.nb, G.up.trans up, .inr (.inr (by rw [hs]; exact hh)), G.na, G.os, G.ag, w⟩)
    unfold PySem.passOn
    refine wpAny_bind (wpAny_field e1 e3 e4 ?_)
    rw [if_neg (by simp : ¬ (Value.ref T == Value.none) = true)]
    first
      | exact wpAny_bind (wpAny_pure (wpAny_bind go))
      | exact wpAny_bind go
  | @cons x n c i ts b0 rest q1 q2 hs' l' cl r ih =>
    intro G w
    obtain ⟨b, hb, yes, no⟩ := w
    obtain ⟨oe, vs, he, hz, hd⟩ := G.fl.there
    have J := G.inv.landed G.nb G.fl.1 G.up G.os G.ag
    have S := J.suite he hd G.na G.nL G.nF
    refine wpAny_handleBy_cons (codeAny_handlers_test ?_) (fun q => nomatch q)
    have ty : Looks (model X.prog X.w) s.heap (typeOf (.ref a)) cls := fun A Q E s' k q => wpAny_typeOf_ref (k _ _ he) (by rw [hz.1]; exact q)
    have is := exm_one (M := model X.prog X.w) J.kIn ty hb
    have ask : ∀ {Q E : Value → Shared → Prop}, Q c s → wpAny (model X.prog X.w) (X.A.mark (some (.ref a))) (eval (.Name x q1) X.env) Q E s := fun {Q E} q => by
      obtain ⟨g, gd, m | ⟨m, v, nn⟩⟩ := cl.nm
      · exact ld_glob (X := X.suite a ((a, oe) :: (X.pn ++ pins))) S g m q gd
      · exact ld_blt (X := X.suite a ((a, oe) :: (X.pn ++ pins))) S g m v q nn gd
    refine ask (is.here ?_)
    cases b with
    | false => exact ih G (no rfl)
    | true =>
      refine codeAny_handlers_suite_as (HandSPX.lands_againZ G.fl fun h4 fl4 up4 => ?_)
      obtain ⟨oe4, vs4, he4, hz4, hd4⟩ := fl4.there
      have J4 : Inv X pins σ H { s with heap := h4 } := G.inv.landed G.nb fl4.1 (G.up.trans up4) G.os G.ag
      have S4 := J4.suite he4 hd4 G.na G.nL G.nF
      refine store_ok (X := X.suite a ((a, oe4) :: (X.pn ++ pins))) (v := .ref a) S4 nd cl.hi (.inl cl.lo) rfl (fun s5 S5 => ?_) (.inr cl.lo)
      have run := (cl.su a oe4 cls d (X.pn ++ pins) hz4 ⟨_, hd4⟩).run [] s5 _ H (endsOf D i) S5 (yes rfl a G.na G.inv.len)
      refine wpAny_mono run (fun f s6 out => ?_) (fun _ _ z => z.elim)
      cases f with
      | ret u =>
        obtain ⟨v6, σ6, H6, S6, r6, q6⟩ := out
        exact gone_ok (S6.unsuite G.inv.ok) nd cl.hi cl.lo fun s7 J7 => ⟨v6, _, _, J7, r6, q6⟩
      | next =>
        obtain ⟨σ6, H6, S6, q6⟩ := out
        exact gone_ok (S6.unsuite G.inv.ok) nd cl.hi cl.lo fun s7 J7 => ⟨_, _, J7, q6⟩
      | brk =>
        obtain ⟨σ6, H6, S6, q6⟩ := out
        exact gone_ok (S6.unsuite G.inv.ok) nd cl.hi cl.lo fun s7 J7 => ⟨_, _, J7, q6⟩
      | cont =>
        obtain ⟨σ6, H6, S6, q6⟩ := out
        exact gone_ok (S6.unsuite G.inv.ok) nd cl.hi cl.lo fun s7 J7 => ⟨_, _, J7, q6⟩
end
section
variable {X : Cx} {body : List Stmt} {h0 : ExceptHandler} {hds : List ExceptHandler} {l : List (Value × Nat × Suite)} {pos : Pos} {tb : WX → TS} {Wout : WX}
/-- try: body, except A as e: .., except B as e: .. -/
theorem ps_try_each (hs : X.stack = X.env :: X.outer) (hf : X.env.frame = some X.env.locals) (nd : X.N.Nodup) (tk : Takes X Wout)
    (hb : ∀ (W : WX) (pn : List (Addr × Obj)) (xe : Value → Shared → Prop), Takes (X.tr pn xe) W → PassesOwn (model X.prog X.w) X.A X.env xe → PSs (X.tr pn xe) body (tb W))
    (C : Clauses X (h0 :: hds) l) : PS X (.Try body (h0 :: hds) [] [] pos) (fun D σ H => tb (wEach X.K X.N.length Wout D l) D σ H) := by
  refine ⟨fun pins s σ H D I h => wpAny_Try_except ?_⟩
  have ok := I.ok
  have fr : X.A.frames = some (X.env :: X.outer) := by rw [ok.frames, hs]
  refine wpAny_mono ((hb (wEach X.K X.N.length Wout D l) (X.pn ++ pins) (fun e s1 => wpAny (model X.prog X.w) X.A (noteFrame e X.env) (fun _ s2 => wpAny (model X.prog X.w) X.A (setFlight e none) (fun _ s3 =>
    wpAny (model X.prog X.w) X.A (handleBy e X.env (h0 :: hds)) (SP X pins D) X.xe s3) X.xe s2) X.xe s1) (fun u s' xx => ?_) PassesOwn.looking).run [] s σ H D (I.toTry _) h) (fun f s1 out => ?_) (fun _ _ z => z)
  · obtain ⟨a, B, sI, pins', σ', H', cls, d, rfl, J', nb, up, sky, na, os, ag, w⟩ := xx
    have J : Inv X pins σ' H' sI := J'.ofTry ok
    rw [show (X.tr (X.pn ++ pins) _).stack = X.env :: X.outer from hs] at sky
    refine Sky.land Zc.steady fr hf sky fun h3 fl up3 => ?_
    obtain ⟨oe, vs, he, hz, hd⟩ := fl.there
    have nfr : a ∉ frs (X.env :: X.outer) := fun m => by
      obtain ⟨_, o, eo, no⟩ := fl.2.2.1.mem m
      rw [he] at eo
      cases eo
      exact no _ hd
    refine clauses_run (sI := sI) (B := B) hs hf nd tk C ⟨J, nb, up.trans up3, fl, na, fun z => nfr (List.mem_filterMap.mpr ⟨X.env, List.mem_cons_self, by rw [hf, z]⟩), fun m => ?_, os, ag⟩ w
    obtain ⟨e, me, q⟩ := List.mem_filterMap.mp m
    exact nfr (List.mem_filterMap.mpr ⟨e, List.mem_cons_of_mem _ me, q⟩)
  · cases f with
    | ret u =>
      obtain ⟨v, σ', H', J, r, q⟩ := out
      exact ⟨v, σ', H', J.ofTry ok, r, q⟩
    | next =>
      obtain ⟨σ', H', J, q⟩ := out
      exact wpAny_execs_nil ⟨σ', H', J.ofTry ok, q⟩
    | brk =>
      obtain ⟨σ', H', J, q⟩ := out
      exact ⟨σ', H', J.ofTry ok, q⟩
    | cont =>
      obtain ⟨σ', H', J, q⟩ := out
      exact ⟨σ', H', J.ofTry ok, q⟩
end
end K14
namespace K14
open PySem PySem.W PySem.Calls PyProof.Rows L2 LamX
open He (ga)
open Kz (boot_isi same_new small4 new_ext boot_li boot_in Has pe_has noE X1)
def HasX (P : Program) (w : World) (K : Frag) (mg : Str → Option Value) (base : Heap) (x : Str) (k : Nat) (ps : List Str) (sp : Sp) : Prop := ∃ f fd, mg x = some (.ref f) ∧ keepIn K (.ref f) = true ∧ L2.Binds K fd ps [] ∧ FnOk P w K mg base (L2.CX P w) k f fd ps sp
section
variable {X : Cx} {x : Str} {p pos : Pos} {e : Expr} {es : List Expr} {ps : List Str} {sp : Sp} {k : Nat} {t : TA} {E : XK}
theorem pe_hasX (h : HasX X.prog X.w X.K X.mg X.base x k ps sp) (hr : Room k X.A) (hg : Gl X x) (hx : Passes (L2.CX X.prog X.w) X E) (ha : PA X (e :: es) t) (hdb : (x == ("__debug__" : Str)) = false := by decide) (he : starEach (e :: es) X.env = (false, eval e X.env) :: starEach es X.env := by rfl) (hpl : (backTo pos (starEach es X.env)).any (·.1) = false := by rfl) :
    PE X (.Call (.Name x p) (e :: es) [] pos) (tCall sp [] E t) := by
  obtain ⟨f, fd, h1, h2, h3, h4⟩ := h
  exact pe_call h4 hr hg h1 h2 h3 .nil hx ha hdb he hpl
theorem pss_never {X : Cx} {b : List Stmt} : PSs X b tNever := ⟨fun _ _ _ _ _ _ h => h.elim⟩
end
/-- a thing that is not so -/
def Odd (f : PyData → Bool) (H : Hp) (v : V) : Prop := ∃ d, Th H v d ∧ f d = false ∧ (its d).length ≤ 100000 ∧ ∀ x ∈ its d, (its x).length ≤ 100000
theorem Odd.ext {f : PyData → Bool} {H H1 : Hp} {v : V} (h : Odd f H v) (e : L2.Same H H1) : Odd f H1 v := by
  obtain ⟨d, t, r⟩ := h
  exact ⟨d, t.ext e, r⟩
/-- the error of the class C that holds v is let out -/
def Says (C : Addr) (v : V) (H : Hp) (E : XK) : Prop := ∀ (H' : Hp) (dx : Addr), L2.Same H H' → H' dx = some (.xd [("thing", v)]) → E (.ref C) (some dx) H'
theorem Says.ext {C : Addr} {v : V} {H H1 : Hp} {E : XK} (h : Says C v H E) (e : L2.Same H H1) : Says C v H1 E := fun H' dx s q => h H' dx (e.trans s) q
def spOdd (f : PyData → Bool) (C : Addr) : Sp := fun vs H Q E => ∃ v, vs = [v] ∧ Odd f H v ∧ Says C v H E
def spTpX (K : Frag) : Sp := fun vs H Q E => (∃ v u, vs = [v, u] ∧ Odd isE H v ∧ Says (ga K "BadEndless") v H E) ∨ ∃ v u hs as, vs = [v, u] ∧ EndV H v hs as ∧ Odd isN H u ∧ Says (ga K "BadMany") u H E
def spPaX (K : Frag) : Sp := fun vs H Q E => (∃ v u, vs = [v, u] ∧ Odd isR H v ∧ Says (ga K "BadFigures") v H E) ∨ ∃ v u ns, vs = [v, u] ∧ RowV H v ns ∧ Odd isE H u ∧ Says (ga K "BadEndless") u H E
def spFuX (K : Frag) : Sp := fun vs H Q E => (∃ v u, vs = [v, u] ∧ Odd isE H v ∧ Says (ga K "BadEndless") v H E) ∨ ∃ v u hs as, vs = [v, u] ∧ EndV H v hs as ∧ Odd isE H u ∧ Says (ga K "BadOther") u H E
/-- what is known of an error of the program -/
def ErK (P : Program) (K : Frag) (mg : Str → Option Value) (x : Str) : Prop := mg x = some (.ref (ga K x)) ∧ X1 P K (ga K x) "thing"
section
variable {P : Program} {w : World} {K : Frag} {mg : Str → Option Value} {base : Heap}
theorem okx_ce {f : Addr} {fd : FuncData} (F : FunD K "check_endless" "check_endless" (defArgs sCe) (defBody sCe) (defScope sCe) [] [] f fd) (L : Has P w K mg base "is_endless" 4 ["thing"] (spLookB isE)) (T : ErK P K mg "BadEndless") : FnOk P w K mg base (L2.CX P w) 5 f fd ["endless"] (spOdd isE (ga K "BadEndless")) := by
  refine F.ok scCe (fun vs H Q E h => ?_) (fun cdv A outer s H vs Q XE hr h => ?_)
  · obtain ⟨v, rfl, _⟩ := h
    rfl
  · obtain ⟨v, rfl, ⟨d, hv, g, b1, b2⟩, k⟩ := h
    refine ⟨_, pss_one (ps_if (pt_not (pt_val (pe_has L hr (by rfl) (pa_cons (pv 0) pa_nil)))) (pss_one (ps_raise rfl (takes_of rfl rfl rfl rfl) (pmk_x1 T.2 (hr.mono (by decide)) rfl (by rfl) T.1 (pv 0)))) pss_nil), ?_⟩
    refine ⟨v, rfl, v, d, rfl, hv, b1, b2, fun H1 s1 => ⟨false, by rw [g], iteT ⟨v, rfl, fun dx n => k _ dx (s1.trans (same_new n)) upd_same⟩⟩⟩
theorem okx_cm {f : Addr} {fd : FuncData} (F : FunD K "check_many" "check_many" (defArgs sCm) (defBody sCm) (defScope sCm) [] [] f fd) (L : Has P w K mg base "is_number" 1 ["thing"] (spLook isN)) (T : ErK P K mg "BadMany") : FnOk P w K mg base (L2.CX P w) 2 f fd ["many"] (spOdd isN (ga K "BadMany")) := by
  refine F.ok scCm (fun vs H Q E h => ?_) (fun cdv A outer s H vs Q XE hr h => ?_)
  · obtain ⟨v, rfl, _⟩ := h
    rfl
  · obtain ⟨v, rfl, ⟨d, hv, g, b1, b2⟩, k⟩ := h
    refine ⟨_, pss_one (ps_if (pt_not (pt_val (pe_has L hr (by rfl) (pa_cons (pv 0) pa_nil)))) (pss_one (ps_raise rfl (takes_of rfl rfl rfl rfl) (pmk_x1 T.2 (hr.mono (by decide)) rfl (by rfl) T.1 (pv 0)))) pss_nil), ?_⟩
    refine ⟨v, rfl, v, d, rfl, hv, fun H1 s1 => ⟨false, by rw [g], iteT ⟨v, rfl, fun dx n => k _ dx (s1.trans (same_new n)) upd_same⟩⟩⟩
theorem okx_cf {f : Addr} {fd : FuncData} (F : FunD K "check_figures" "check_figures" (defArgs sCf) (defBody sCf) (defScope sCf) [] [] f fd) (L : Has P w K mg base "is_row" 3 ["thing"] spRow) (T : ErK P K mg "BadFigures") : FnOk P w K mg base (L2.CX P w) 4 f fd ["figures"] (spOdd isR (ga K "BadFigures")) := by
  refine F.ok scCf (fun vs H Q E h => ?_) (fun cdv A outer s H vs Q XE hr h => ?_)
  · obtain ⟨v, rfl, _⟩ := h
    rfl
  · obtain ⟨v, rfl, ⟨d, hv, g, b1, b2⟩, k⟩ := h
    refine ⟨_, pss_one (ps_if (pt_not (pt_val (pe_has L hr (by rfl) (pa_cons (pv 0) pa_nil)))) (pss_one (ps_raise rfl (takes_of rfl rfl rfl rfl) (pmk_x1 T.2 (hr.mono (by decide)) rfl (by rfl) T.1 (pv 0)))) pss_nil), ?_⟩
    refine ⟨v, rfl, v, d, rfl, hv, b1, fun H1 s1 => ⟨false, by rw [g], iteT ⟨v, rfl, fun dx n => k _ dx (s1.trans (same_new n)) upd_same⟩⟩⟩
theorem noX {P : Program} {w : World} {K : Frag} {mg : Str → Option Value} {base : Heap} {N : List Str} {x : Str} {sc : Scope} {f : Addr} {cdv : Value} {A : Around} {outer : List Env} {s : Shared} {H : Hp} {XE : XK} : Passes (L2.CX P w) (cxOf (L2.CX P w) P w K mg base N x sc f cdv A outer s H XE) XE := passes_call (takes_of rfl rfl rfl rfl) (fun _ _ _ _ h => h)
theorem okx_tp {f : Addr} {fd : FuncData} (F : FunD K "tops" "tops" (defArgs sTp) (defBody sTp) (defScope sTp) [] [] f fd) (C : Has P w K mg base "check_endless" 5 ["endless"] (spRight isE)) (CX : HasX P w K mg base "check_endless" 5 ["endless"] (spOdd isE (ga K "BadEndless"))) (MX : HasX P w K mg base "check_many" 2 ["many"] (spOdd isN (ga K "BadMany"))) :
    FnOk P w K mg base (L2.CX P w) 6 f fd ["endless", "many"] (spTpX K) := by
  refine F.ok scTp (fun vs H Q E h => ?_) (fun cdv A outer s H vs Q XE hr h => ?_)
  · obtain ⟨v, u, rfl, _⟩ | ⟨v, u, _, _, rfl, _⟩ := h <;> rfl
  · obtain ⟨v, u, rfl, o, k⟩ | ⟨v, u, hs, as, rfl, hv, o, k⟩ := h
    · refine ⟨_, pss_cons (ps_expr (pe_hasX CX hr (by rfl) noX (pa_cons (pv 0) pa_nil))) pss_never, ?_⟩
      exact ⟨v, rfl, v, rfl, o, k⟩
    · obtain ⟨d, td, ed, bd1, bd2⟩ := hv.look
      refine ⟨_, pss_cons (ps_expr (pe_has C hr (by rfl) (pa_cons (pv 0) pa_nil))) (pss_cons (ps_expr (pe_hasX MX (hr.mono (by decide)) (by rfl) noX (pa_cons (pv 1) pa_nil))) pss_never), ?_⟩
      exact ⟨v, rfl, v, d, rfl, td, ed, bd1, bd2, fun H1 s1 => ⟨u, rfl, u, rfl, o.ext s1, k.ext s1⟩⟩
theorem okx_dt {f : Addr} {fd : FuncData} (F : FunD K "drop_tops" "drop_tops" (defArgs sDt) (defBody sDt) (defScope sDt) [] [] f fd) (C : Has P w K mg base "check_endless" 5 ["endless"] (spRight isE)) (CX : HasX P w K mg base "check_endless" 5 ["endless"] (spOdd isE (ga K "BadEndless"))) (MX : HasX P w K mg base "check_many" 2 ["many"] (spOdd isN (ga K "BadMany"))) :
    FnOk P w K mg base (L2.CX P w) 6 f fd ["endless", "many"] (spTpX K) := by
  refine F.ok scDt (fun vs H Q E h => ?_) (fun cdv A outer s H vs Q XE hr h => ?_)
  · obtain ⟨v, u, rfl, _⟩ | ⟨v, u, _, _, rfl, _⟩ := h <;> rfl
  · obtain ⟨v, u, rfl, o, k⟩ | ⟨v, u, hs, as, rfl, hv, o, k⟩ := h
    · refine ⟨_, pss_cons (ps_expr (pe_hasX CX hr (by rfl) noX (pa_cons (pv 0) pa_nil))) pss_never, ?_⟩
      exact ⟨v, rfl, v, rfl, o, k⟩
    · obtain ⟨d, td, ed, bd1, bd2⟩ := hv.look
      refine ⟨_, pss_cons (ps_expr (pe_has C hr (by rfl) (pa_cons (pv 0) pa_nil))) (pss_cons (ps_expr (pe_hasX MX (hr.mono (by decide)) (by rfl) noX (pa_cons (pv 1) pa_nil))) pss_never), ?_⟩
      exact ⟨v, rfl, v, d, rfl, td, ed, bd1, bd2, fun H1 s1 => ⟨u, rfl, u, rfl, o.ext s1, k.ext s1⟩⟩
theorem okx_pa {f : Addr} {fd : FuncData} (F : FunD K "put_all" "put_all" (defArgs sPa) (defBody sPa) (defScope sPa) [] [] f fd) (G : Has P w K mg base "check_figures" 4 ["figures"] (spRight isR)) (GX : HasX P w K mg base "check_figures" 4 ["figures"] (spOdd isR (ga K "BadFigures"))) (CX : HasX P w K mg base "check_endless" 5 ["endless"] (spOdd isE (ga K "BadEndless"))) :
    FnOk P w K mg base (L2.CX P w) 6 f fd ["figures", "endless"] (spPaX K) := by
  refine F.ok scPa (fun vs H Q E h => ?_) (fun cdv A outer s H vs Q XE hr h => ?_)
  · obtain ⟨v, u, rfl, _⟩ | ⟨v, u, _, rfl, _⟩ := h <;> rfl
  · obtain ⟨v, u, rfl, o, k⟩ | ⟨v, u, ns, rfl, hv, o, k⟩ := h
    · refine ⟨_, pss_cons (ps_expr (pe_hasX GX (hr.mono (by decide)) (by rfl) noX (pa_cons (pv 0) pa_nil))) pss_never, ?_⟩
      exact ⟨v, rfl, v, rfl, o, k⟩
    · obtain ⟨d, td, ed, q, bd⟩ := hv
      refine ⟨_, pss_cons (ps_expr (pe_has G (hr.mono (by decide)) (by rfl) (pa_cons (pv 0) pa_nil))) (pss_cons (ps_expr (pe_hasX CX hr (by rfl) noX (pa_cons (pv 1) pa_nil))) pss_never), ?_⟩
      refine ⟨v, rfl, v, d, rfl, td, ed, by rw [q, List.length_map]; omega, fun x hx => ?_, fun H1 s1 => ⟨u, rfl, u, rfl, o.ext s1, k.ext s1⟩⟩
      rw [q] at hx
      obtain ⟨n, _, rfl⟩ := List.mem_map.mp hx
      exact Nat.zero_le _
theorem okx_fu {f : Addr} {fd : FuncData} (F : FunD K "first_unlike" "first_unlike" (defArgs sFu) (defBody sFu) (defScope sFu) [] [] f fd) (C : Has P w K mg base "check_endless" 5 ["endless"] (spRight isE)) (CX : HasX P w K mg base "check_endless" 5 ["endless"] (spOdd isE (ga K "BadEndless"))) (I : Has P w K mg base "is_endless" 4 ["thing"] (spLookB isE)) (T : ErK P K mg "BadOther") :
    FnOk P w K mg base (L2.CX P w) 6 f fd ["endless", "other"] (spFuX K) := by
  refine F.ok scFu (fun vs H Q E h => ?_) (fun cdv A outer s H vs Q XE hr h => ?_)
  · obtain ⟨v, u, rfl, _⟩ | ⟨v, u, _, _, rfl, _⟩ := h <;> rfl
  · obtain ⟨v, u, rfl, o, k⟩ | ⟨v, u, hs, as, rfl, hv, o, k⟩ := h
    · refine ⟨_, pss_cons (ps_expr (pe_hasX CX hr (by rfl) noX (pa_cons (pv 0) pa_nil))) pss_never, ?_⟩
      exact ⟨v, rfl, v, rfl, o, k⟩
    · obtain ⟨d, td, ed, bd1, bd2⟩ := hv.look
      refine ⟨_, pss_cons (ps_expr (pe_has C hr (by rfl) (pa_cons (pv 0) pa_nil))) (pss_cons (ps_if (pt_not (pt_val (pe_has I (hr.mono (by decide)) (by rfl) (pa_cons (pv 1) pa_nil)))) (pss_one (ps_raise rfl (takes_of rfl rfl rfl rfl) (pmk_x1 T.2 (hr.mono (by decide)) rfl (by rfl) T.1 (pv 1)))) pss_nil) pss_never), ?_⟩
      refine ⟨v, rfl, v, d, rfl, td, ed, bd1, bd2, fun H1 s1 => ?_⟩
      obtain ⟨d2, td2, e2, be1, be2⟩ := o.ext s1
      exact ⟨u, rfl, u, d2, rfl, td2, be1, be2, fun H2 s2 => ⟨false, by rw [e2], iteT ⟨u, rfl, fun dx n => k _ dx ((s1.trans s2).trans (same_new n)) upd_same⟩⟩⟩
end
end K14
namespace K14
open PySem PySem.W PySem.Calls PyProof.Rows L2 LamX
open He (ga)
open Kz (boot_isi same_new small4 new_ext boot_li boot_in Has pe_has noE X1)
abbrev sRo : Stmt := topS 38
abbrev Nro : List Str := ["ask", "e"]
theorem scRo : FnScope Nro ["ask"] (defScope sRo) := ⟨rfl, rfl, rfl, by decide +kernel, rfl, by decide +kernel, by decide +kernel⟩
/-- the four errors, and the words that the law has for them -/
def four : List (Str × Str) := [("BadEndless", "endless"), ("BadMany", "many"), ("BadFigures", "figures"), ("BadOther", "other")]
/-- what the law's try does with an error -/
def Eo (K : Frag) (Q : VK) : XK := fun cls d H' => ∃ p ∈ four, cls = .ref (ga K p.1) ∧ ∃ (dx : Addr) (v : V), d = some dx ∧ H' dx = some (.xd [("thing", v)]) ∧ ∀ (H'' : Hp) (t : Addr), L2.Same H' H'' → H'' t = some (.tup [.str p.2, v]) → Q (.ref t) H''
structure RoK (P : Program) (K : Frag) (mg : Str → Option Value) : Prop where
  er : ∀ p ∈ four, ErK P K mg p.1
  ex : ∀ p ∈ four, ∀ q ∈ four, exmOne K (.ref (ga K p.1)) (.ref (ga K q.1)) = some (decide (p.1 = q.1))
def tlX (K : Frag) : (XK → Hp → VK → Prop) → Hp → VK → Prop := fun tl H Q => ∀ Q' : VK, tl (Eo K Q) H Q'
theorem x1_xf {P : Program} {K : Frag} {C : Addr} {f : Str} (T : X1 P K C f) : XfC K C := by
  obtain ⟨fI, qual, params, scope, msg, j, p0, p1, p2, p3, p4, p5, q0, q1, q2, q3, _, T1, _⟩ := T.ex
  exact T1.xf
section
variable {X : Cx} {g : Addr} {cdg : Value} {q : Str}
theorem ro_gives (R : RoK X.prog X.K X.mg) : GivesTo X Nro "_law_row_or" (defScope sRo) g cdg (defBody sRo) "ask" q (tlX X.K) := by
  intro f c' s H Q tl act hc h
  have cl : ∀ p ∈ four, ∀ {b0 : Stmt} {q1 q2 q3 q4 q5 : Pos} {j k : Nat}, b0 = .Return (some (.Tuple [.Constant (.str p.2) j q1, .Attribute (.Name "e" q2) "thing" q3] k q4)) q5 →
      Clause (cxOf C8.CX0 X.prog X.w X.K X.mg X.base Nro "_law_row_or" (defScope sRo) g cdg X.A X.stack s H C8.E0).nox p.1 "e" (.ref (ga X.K p.1)) 1 b0 [] (fun a cls d => tRet (tTup (tCons (fun σ H Q => Q (.str p.2) H) (tCons (tXf a cls d (ga X.K p.1) "thing" (tVar 1)) tNil)))) := fun p hp b0 q1 q2 q3 q4 q5 j k e => by
    subst e
    have glo : ∀ p ∈ four, Gl (cxOf C8.CX0 X.prog X.w X.K X.mg X.base Nro "_law_row_or" (defScope sRo) g cdg X.A X.stack s H C8.E0).nox p.1 ∧ (p.1 == ("__debug__" : Str)) = false := fun p hp => by
      simp only [four, List.mem_cons, List.not_mem_nil, or_false] at hp
      rcases hp with rfl | rfl | rfl | rfl <;> exact ⟨rfl, by decide⟩
    refine ⟨rfl, rfl, ⟨(glo p hp).1, (glo p hp).2, .inl (R.er p hp).1⟩, fun a oe cls d pn hz hf => ?_⟩
    exact pss_one (ps_ret (pe_tup (pa_cons pe_str (pa_cons (pe_xf (x1_xf (R.er p hp).2) (R.er p hp).2.no hz hf (pv 1)) pa_nil))))
  have m0 : (("BadEndless", "endless") : Str × Str) ∈ four := by simp [four]
  have m1 : (("BadMany", "many") : Str × Str) ∈ four := by simp [four]
  have m2 : (("BadFigures", "figures") : Str × Str) ∈ four := by simp [four]
  have m3 : (("BadOther", "other") : Str × Str) ∈ four := by simp [four]
  refine ⟨_, pss_one (ps_try_each (X := (cxOf C8.CX0 X.prog X.w X.K X.mg X.base Nro "_law_row_or" (defScope sRo) g cdg X.A X.stack s H C8.E0).nox)
    (tb := fun W D σ H => ∃ Ech : XK, (∀ cls d σ' H', Ech cls d H' → W cls d σ' H') ∧ σ[0]? = some (some (.ref f)) ∧ H c' = some (CodeO c' q) ∧ ∀ Q', tl Ech H Q')
    rfl rfl scRo.nd takes0 (fun W pn xe tk _ => ⟨fun pins s' σ H' D I h' => ?_⟩) (.cons (cl _ m0 rfl) (.cons (cl _ m1 rfl) (.cons (cl _ m2 rfl) (.cons (cl _ m3 rfl) .nil))))), ?_⟩
  · obtain ⟨Ech, hW, h1, h2, h3⟩ := h'
    exact (pss_one (ps_ret (pe_tup (pa_cons pe_str (pa_cons (act W pn xe Ech _ _ tk hW) pa_nil))))).run pins s' σ H' D I ⟨h1, h2, h3 _⟩
  · refine ⟨Eo X.K Q, fun cls d σ' H' ⟨p, hp, ec, dx, v, ed, hx, k⟩ => ?_, rfl, hc, h⟩
    subst ec
    subst ed
    have fin : ∀ (a : Addr), σ'.length = 2 → tRet (tTup (tCons (fun σ H Q => Q (.str p.2) H) (tCons (tXf a (.ref (ga X.K p.1)) (some dx) (ga X.K p.1) "thing" (tVar 1)) tNil))) (endsOf { nx := fun _ H' => Q .non H', rt := Q } 1) (σ'.set 1 (some (.ref a))) H' := fun a l => by
      obtain ⟨x0, x1, rfl⟩ : ∃ x0 x1, σ' = [x0, x1] := by
        match σ', l with
        | [x0, x1], _ => exact ⟨x0, x1, rfl⟩
      exact ⟨.ref a, rfl, rfl, rfl, dx, _, v, rfl, hx, rfl, small4 2, fun t nt => k _ t (same_new nt) upd_same⟩
    have ex := R.ex p hp
    simp only [four, List.mem_cons, List.not_mem_nil, or_false] at hp
    rcases hp with rfl | rfl | rfl | rfl
    · exact ⟨true, ex _ m0, fun _ a _ l => fin a l, fun z => nomatch z⟩
    · exact ⟨false, ex _ m0, (fun z => nomatch z), fun _ => ⟨true, ex _ m1, fun _ a _ l => fin a l, fun z => nomatch z⟩⟩
    · exact ⟨false, ex _ m0, (fun z => nomatch z), fun _ => ⟨false, ex _ m1, (fun z => nomatch z), fun _ => ⟨true, ex _ m2, fun _ a _ l => fin a l, fun z => nomatch z⟩⟩⟩
    · exact ⟨false, ex _ m0, (fun z => nomatch z), fun _ => ⟨false, ex _ m1, (fun z => nomatch z), fun _ => ⟨false, ex _ m2, (fun z => nomatch z), fun _ => ⟨true, ex _ m3, fun _ a _ l => fin a l, fun z => nomatch z⟩⟩⟩⟩
end
end K14
namespace K14
open PySem PySem.W PySem.Calls PyProof.Rows L2 LamX
open He (ga)
open Kz (SS ExtS ExtS.trans ExtS.refl small4 same_new boot_in boot_li tWhile_split shaped_int dpAll_int seq0 new_ext Has pe_has noE)
/-! ### the spring, for many draws -/
def Spr (H : Hp) (l li : Addr) (c : Int) : Prop := ∃ (ns : List Int) (b d : Int), SS H l li ns b c d ∧ ns.length ≤ 1000
def spDrW : Sp := fun vs H Q _ => ∃ (l li : Addr) (c many : Int), vs = [.ref l, .int many] ∧ Spr H l li c ∧ 0 < many ∧ many < 1073741824 ∧ c < 1000000000 ∧ ∀ (H' : Hp) (r : Int), ExtS l li H H' → Spr H' l li (c + 1) → 0 ≤ r → r < many → Q (.int r) H'
section
variable {P : Program} {w : World} {K : Frag} {mg : Str → Option Value} {base : Heap}
theorem ok_drw {f : Addr} {fd : FuncData} (F : FunD K "_law_draw" "_law_draw" (defArgs sDr) (defBody sDr) (defScope sDr) [] [] f fd) (mi : mg "int" = none) : FnOk P w K mg base CX0 1 f fd ["stream", "many"] spDrW := by
  refine F.ok scDr (fun vs H Q E h => ?_) (fun cdv A outer s H vs Q XE hr h => ?_)
  · obtain ⟨l, li, c, many, rfl, _⟩ := h
    rfl
  · obtain ⟨l, li, c, many, rfl, ⟨ns, b, d, hs, nl⟩, m0, m1, c1, k0⟩ := h
    have k : ∀ (H' : Hp) (ns' : List Int) (b' d' r : Int), ExtS l li H H' → SS H' l li ns' b' (c + 1) d' → ns'.length ≤ 1000 → 0 ≤ r → r < many → Q (.int r) H' := fun H' ns' b' d' r e s n a1 a2 => k0 H' r e ⟨ns', b', d', s, n⟩ a1 a2
    refine ⟨_, PSs.nox (pss_cons (ps_asg (pe_op op_add (pe_ix ix_list (pv 0) pe_int (fun _ _ => rfl)) pe_int) (pg_sub (pv 0) pe_int set_list))
      (pss_cons (ps_while PassesOwn.never ((pw_and (pt_cmpR op_eq (pe_ix ix_list (pv 0) pe_int (fun _ _ => rfl)) pe_int (nomark _)) (pw_and1 (pt_cmpR (op_neD hr.units) (pe_ix ix_list (pv 0) pe_int (fun _ _ => rfl)) (pe_lst pa_nil) (nomark _)))).pt)
        (pss_cons (ps_set (i := 2) scDr.nd rfl (.inl rfl) (pe_bm PySem.F.plainAttrs_list PySem.F.slot_list_pop PySem.F.type_list_pop mt_popAt (pe_ix ix_list (pv 0) pe_int (fun _ _ => rfl)) (pa_cons pe_int pa_nil)))
        (pss_cons (ps_asg (pe_op op_mod (pe_callTy call_int1 (by rfl) mi boot_in (pa_cons (pe_op op_add (pe_op op_add (pe_op op_mul (pe_ix ix_list (pv 0) pe_int (fun _ _ => rfl)) pe_int) (pv 2)) pe_int) pa_nil)) pe_int) (pg_sub (pv 0) pe_int set_list))
        (pss_one (ps_asg (pe_ifExp (pt_cmpR op_ge (pv 2) (pe_op op_pow pe_int pe_int) (nomark _)) (pv 2) pe_int) (pg_sub (pv 0) pe_int set_list))))))
      (pss_cons (ps_if (pt_cmpR op_gt (pe_ix ix_list (pv 0) pe_int (fun _ _ => rfl)) pe_int (nomark _))
        (pss_cons (ps_set (i := 3) scDr.nd rfl (.inl rfl) (pe_op op_mod (pe_callTy call_int1 (by rfl) mi boot_in (pa_cons (pe_ix ix_list (pv 0) pe_int (fun _ _ => rfl)) pa_nil)) (pv 1)))
        (pss_cons (ps_asg (pe_op op_fdiv (pe_ix ix_list (pv 0) pe_int (fun _ _ => rfl)) (pv 1)) (pg_sub (pv 0) pe_int set_list))
        (pss_one (ps_ret (pv 3))))) pss_nil)
      (pss_cons (ps_set (i := 4) scDr.nd rfl (.inl rfl) (pe_op op_mod (pe_callTy call_int1 (by rfl) mi boot_in (pa_cons (pe_op op_pow (pe_op op_add (pe_op op_add (pe_ix ix_list (pv 0) pe_int (fun _ _ => rfl)) (pe_op op_mul pe_int (pe_ix ix_list (pv 0) pe_int (fun _ _ => rfl)))) pe_int) pe_int) pa_nil)) pe_int))
      (pss_one (ps_ret (pe_op op_mod (pe_op op_mod (pe_callTy call_int1 (by rfl) mi boot_in (pa_cons (pe_op op_pow (pe_op op_add (pe_op op_add (pe_op op_mul (pv 4) pe_int) (pe_op op_mul pe_int (pe_ix ix_list (pv 0) pe_int (fun _ _ => rfl)))) pe_int) pe_int) pa_nil)) pe_int) (pv 1)))))))), ?_⟩
    have q2 := hs.set (b' := b) (c' := c + 1) (d' := d) hs.b0 (by have := hs.c0; omega) hs.d0 hs.d1
    refine ⟨.ref l, rfl, l, _, 2, .int c, rfl, rfl, .inl (.inl hs.l1), atI_nat (j := 2) rfl, c, 1, rfl, rfl, .ref l, rfl, l, _, 2, 2, rfl, rfl, hs.l1, rfl, ?_⟩
    refine tWhile_split (fun σ H' => ∃ (x2 : Option V) (ns' : List Int) (b' d' : Int), σ = [some (.ref l), some (.int many), x2, none, none] ∧ SS H' l li ns' b' (c + 1) d' ∧ ExtS l li H H' ∧ ns'.length ≤ 1000) (fun σ H' ⟨x2, ns', b', d', e, s, ex, nl'⟩ => ?_) (fun after => ?_)
    · subst e
      have c0 := s.c0
      have d0 := s.d0
      have d1 := s.d1
      have c00 := hs.c0
      refine ⟨.ref l, rfl, l, _, 1, .int b', rfl, rfl, .inl (.inl s.l1), atI_nat (j := 1) rfl, b', 0, rfl, rfl, _, rfl, ite2 (fun e => ?_) (fun e => ?_)⟩
      · refine ⟨.ref l, rfl, l, _, 1, .int b', rfl, rfl, .inl (.inl s.l1), atI_nat (j := 1) rfl, .inl ⟨_, rfl, .int many, rfl, b', many, rfl, rfl, m0, ?_⟩⟩
        obtain ⟨s2, ex2⟩ := s.set (b' := b' / many) (c' := c + 1) (d' := d') (Int.ediv_nonneg s.b0 (Int.le_of_lt m0)) c0 d0 d1
        refine ⟨.ref l, rfl, l, _, 1, .int b', rfl, rfl, .inl (.inl s.l1), atI_nat (j := 1) rfl, .int many, rfl, b', many, rfl, rfl, ⟨m0, by show many < 1073741824; omega⟩, .ref l, rfl, l, _, 1, 1, rfl, rfl, s.l1, rfl, .int (b' % many), rfl, ?_⟩
        exact k _ ns' _ d' _ (ex.trans ex2) s2 nl' (Int.emod_nonneg _ (by omega)) (Int.emod_lt_of_pos _ m0)
      · have t1 : (6151 : Int) * (c + 1) = 6151 * c + 6151 := by omega
        have t2 : (40009 : Int) * (c + 1) = 40009 * c + 40009 := by omega
        refine ⟨.ref l, rfl, l, _, 3, .int d', rfl, rfl, .inl (.inl s.l1), atI_nat (j := 3) rfl, .ref l, rfl, l, _, 2, .int (c + 1), rfl, rfl, .inl (.inl s.l1), atI_nat (j := 2) rfl, 6151, c + 1, rfl, rfl, .inl ⟨by decide, by decide⟩, d', _, rfl, rfl, _, 130003, rfl, rfl, _, 5, rfl, rfl,
          ⟨by decide, by decide, ?_⟩, .inl ⟨_, rfl, _, 2147483629, rfl, rfl, (show (0:Int) < 2147483629 by decide), ?_⟩⟩
        · rw [t1]
          show Int.natAbs _ < 18446744073709551616
          omega
        · have x0 : ∀ z : Int, 0 ≤ z % 2147483629 := fun z => Int.emod_nonneg _ (by decide)
          have x1 : ∀ z : Int, z % 2147483629 < 2147483629 := fun z => Int.emod_lt_of_pos _ (by decide)
          have x2 := x0 ((d' + 6151 * (c + 1) + 130003) ^ (5 : Int).toNat)
          have x3 := x1 ((d' + 6151 * (c + 1) + 130003) ^ (5 : Int).toNat)
          refine ⟨_, rfl, _, 69621, rfl, rfl, .inl ⟨by omega, by omega⟩, .ref l, rfl, l, _, 2, .int (c + 1), rfl, rfl, .inl (.inl s.l1), atI_nat (j := 2) rfl, 40009, c + 1, rfl, rfl, .inl ⟨by decide, by decide⟩, _, _, rfl, rfl, _, 31, rfl, rfl, _, 3, rfl, rfl, ⟨by decide, by decide, ?_⟩,
            .inl ⟨_, rfl, _, 1000000007, rfl, rfl, (show (0:Int) < 1000000007 by decide), .int many, rfl, _, many, rfl, rfl, m0, ?_⟩⟩
          · rw [t2]
            show Int.natAbs _ < 18446744073709551616
            omega
          · exact k _ ns' b' d' _ ex s nl' (Int.emod_nonneg _ (by omega)) (Int.emod_lt_of_pos _ m0)
    · refine ⟨fun m σ H' => ∃ x2, σ = [some (.ref l), some (.int many), x2, none, none] ∧ ∃ (ns' : List Int) (b' d' : Int), SS H' l li ns' b' (c + 1) d' ∧ ExtS l li H H' ∧ ns'.length ≤ 1000 ∧ m = ns'.length, ⟨ns.length, none, rfl, ns, b, d, q2.1, q2.2, nl, rfl⟩, fun m σ H' hW => ?_⟩
      obtain ⟨x2, rfl, ns', b', d', s, ex, nl', rfl⟩ := hW
      have c0 := s.c0
      have d0 := s.d0
      have d1 := s.d1
      refine ⟨.ref l, rfl, l, _, 1, .int b', rfl, rfl, .inl (.inl s.l1), atI_nat (j := 1) rfl, rfl, _, rfl, ite2 (fun e => ?_) (fun e => ?_)⟩
      · refine ⟨.ref l, rfl, l, _, 0, .ref li, rfl, rfl, .inl (.inl s.l1), atI_nat (j := 0) rfl, Nat.zero_le _, fun p np => ?_⟩
        obtain ⟨s2, ex2⟩ := s.new (o := .lst []) np
        refine ⟨.list (ns'.map PyData.int), .list [], .lst (.inl (.inl s2.l2)) (dpAll_int _), .lst (.inl (.inl upd_same)) .nil, shaped_int _ , rfl, _, rfl, ?_⟩
        cases ns' with
        | nil => exact iteF (after _ _ ⟨x2, [], b', d', rfl, s2, ex.trans ex2, nl'⟩)
        | cons n r =>
          obtain ⟨s3, ex3⟩ := s2.pop
          refine iteT ⟨fun σ' H' => ∃ x2, σ' = [some (.ref l), some (.int many), x2, none, none] ∧ ∃ (b' d' : Int), SS H' l li r b' (c + 1) d' ∧ ExtS l li H H', fun σ' H' ⟨y2, e1, b2, d2, e2, e3⟩ => ⟨r.length, Nat.lt_succ_self _, y2, e1, r, b2, d2, e2, e3, by simp at nl'; omega, rfl⟩, ?_⟩
          refine ⟨.ref l, rfl, l, _, 0, .ref li, rfl, rfl, .inl (.inl s2.l1), atI_nat (j := 0) rfl, .inl ⟨rfl, _, .inl (.inl s2.l2)⟩, li, _, 0, 0, .int n, rfl, rfl, s2.l2, by decide, by decide, seq0 _ _, rfl, ?_⟩
          have hd : 0 ≤ (d' * 65599 + n + 7) % 2147483647 := Int.emod_nonneg _ (by decide)
          have hd1 : (d' * 65599 + n + 7) % 2147483647 < 2147483647 := Int.emod_lt_of_pos _ (by decide)
          obtain ⟨s4, ex4⟩ := s3.set (b' := b') (c' := c + 1) (d' := (d' * 65599 + n + 7) % 2147483647) s.b0 c0 hd hd1
          refine ⟨.ref l, rfl, l, _, 3, .int d', rfl, rfl, .inl (.inl s3.l1), atI_nat (j := 3) rfl, d', 65599, rfl, rfl, .inl ⟨by omega, by omega⟩, .int n, rfl, _, n, rfl, rfl, _, 7, rfl, rfl, .inl ⟨_, rfl, _, 2147483647, rfl, rfl, (show (0:Int) < 2147483647 by decide), .ref l, rfl, l, _, 3, 3, rfl, rfl, s3.l1, rfl, ?_⟩⟩
          have exx := ((ex.trans ex2).trans ex3).trans ex4
          refine ⟨.int n, rfl, 10, 18, rfl, rfl, ⟨by decide, by decide, by decide⟩, n, _, rfl, rfl, _, rfl, ite2 (fun g => ?_) (fun g => ?_)⟩
          · have n0 : 0 ≤ n := by
              have g1 := of_decide_eq_true g
              have g2 : ((10 : Int) ^ (18 : Int).toNat) = 1000000000000000000 := by decide
              rw [g2] at g1
              omega
            obtain ⟨s5, ex5⟩ := s4.set (b' := n) (c' := c + 1) (d' := (d' * 65599 + n + 7) % 2147483647) n0 c0 hd hd1
            exact ⟨.int n, rfl, .ref l, rfl, l, _, 1, 1, rfl, rfl, s4.l1, rfl, _, rfl, n, _, s5, exx.trans ex5⟩
          · obtain ⟨s5, ex5⟩ := s4.set (b' := 0) (c' := c + 1) (d' := (d' * 65599 + n + 7) % 2147483647) (Int.le_refl _) c0 hd hd1
            exact ⟨.ref l, rfl, l, _, 1, 1, rfl, rfl, s4.l1, rfl, _, rfl, 0, _, s5, exx.trans ex5⟩
      · exact iteF (after _ _ ⟨x2, ns', b', d', rfl, s, ex, nl'⟩)
end
/-! ### all but some objects and the tables of code -/
def Hid (S : List Addr) (H : Hp) : Hp := fun b => if b ∈ S then none else match H b with
  | some (.tbl _) => none
  | o => o
/-- all of them stand -/
def Ins (S : List Addr) (H : Hp) : Prop := ∀ b ∈ S, ∃ o, H b = some o
section
variable {S : List Addr} {l li b : Addr} {H H1 : Hp} {o : HO}
theorem hid_at (h : Hid S H b = some o) : b ∉ S ∧ H b = some o ∧ ∀ ps, o ≠ .tbl ps := by
  unfold Hid at h
  split at h
  · cases h
  · rename_i n
    refine ⟨n, ?_⟩
    split at h
    · cases h
    · rename_i q
      exact ⟨h, fun ps z => q ps (by rw [h, z])⟩
theorem hid_of (h1 : b ∉ S) (h : H b = some o) (n : ∀ ps, o ≠ .tbl ps) : Hid S H b = some o := by
  unfold Hid
  rw [if_neg h1]
  split
  · rename_i ps q
    exact absurd (Option.some.inj (h.symm.trans q)) (n ps)
  · exact h
theorem hid_up : L2.Same (Hid S H) H := fun b o h => (hid_at h).2.1
theorem hid_less {S1 : List Addr} (e : ∀ b ∈ S, b ∈ S1) : L2.Same (Hid S1 H) (Hid S H) := fun b o h => by
  obtain ⟨h1, h2, h3⟩ := hid_at h
  exact hid_of (fun z => h1 (e b z)) h2 h3
theorem hid_same (e : L2.Same H H1) : L2.Same (Hid S H) (Hid S H1) := fun b o h => by
  obtain ⟨h1, h2, h3⟩ := hid_at h
  exact hid_of h1 (e b o h2) h3
theorem hid_upd {a : Addr} {u : HO} (m : a ∈ S) : L2.Same (Hid S H) (Hid S (upd H a u)) := fun b o h => by
  obtain ⟨h1, h2, h3⟩ := hid_at h
  exact hid_of h1 (by rw [upd_ne (fun z => h1 (by rw [z]; exact m))]; exact h2) h3
theorem hid_S (m : l ∈ S) (mi : li ∈ S) (e : ExtS l li H H1) : L2.Same (Hid S H) (Hid S H1) := fun b o h => by
  obtain ⟨h1, h2, h3⟩ := hid_at h
  exact hid_of h1 (e b o h2 (fun z => h1 (by rw [z]; exact m)) (fun z => h1 (by rw [z]; exact mi))) h3
theorem hid_N (e : ExtN H H1) : L2.Same (Hid S H) (Hid S H1) := fun b o h => by
  obtain ⟨h1, h2, h3⟩ := hid_at h
  exact hid_of h1 (e b o h2 h3) h3
theorem Ins.new {p : Addr} (i : Ins S H) (n : H p = none) : p ∉ S := fun m => by
  obtain ⟨o, q⟩ := i p m
  rw [q] at n
  cases n
theorem Ins.same (i : Ins S H) (e : L2.Same H H1) : Ins S H1 := fun b m => by
  obtain ⟨o, q⟩ := i b m
  exact ⟨o, e _ _ q⟩
theorem Ins.cons {p : Addr} (i : Ins S H) (q : H p = some o) : Ins (p :: S) H := fun b m => by
  rcases List.mem_cons.mp m with rfl | m
  · exact ⟨o, q⟩
  · exact i b m
theorem Ins.upd {a : Addr} {u : HO} (i : Ins S H) : Ins S (L2.upd H a u) := fun b m => by
  by_cases z : b = a
  · rw [z]
    exact ⟨u, upd_same⟩
  · obtain ⟨o, q⟩ := i b m
    exact ⟨o, by rw [upd_ne z]; exact q⟩
theorem same_S (e : L2.Same H H1) : ExtS l li H H1 := fun b o h _ _ => e b o h
theorem Spr.same {c : Int} (s : Spr H l li c) (e : L2.Same H H1) : Spr H1 l li c := by
  obtain ⟨ns, b, d, s, n⟩ := s
  exact ⟨ns, b, d, ⟨e _ _ s.l1, e _ _ s.l2, s.ne, s.b0, s.c0, s.d0, s.d1⟩, n⟩
theorem Spr.extN {c : Int} (s : Spr H l li c) (e : ExtN H H1) : Spr H1 l li c := by
  obtain ⟨ns, b, d, s, n⟩ := s
  exact ⟨ns, b, d, ⟨e _ _ s.l1 (fun ps z => nomatch z), e _ _ s.l2 (fun ps z => nomatch z), s.ne, s.b0, s.c0, s.d0, s.d1⟩, n⟩
theorem Spr.new {c : Int} (s : Spr H l li c) {p : Addr} (n : H p = none) : p ≠ l ∧ p ≠ li := by
  obtain ⟨ns, b, d, s, _⟩ := s
  exact ⟨Ne.symm (ne_of_none s.l1 n), Ne.symm (ne_of_none s.l2 n)⟩
theorem Spr.ins {c : Int} (s : Spr H l li c) : Ins [l, li] H := fun b m => by
  obtain ⟨ns, b', d, s, _⟩ := s
  rcases List.mem_cons.mp m with rfl | m
  · exact ⟨_, s.l1⟩
  · rw [List.mem_singleton.mp m]
    exact ⟨_, s.l2⟩
theorem ins_S {c : Int} (i : Ins S H) (e : ExtS l li H H1) (s : Spr H1 l li c) : Ins S H1 := fun b m => by
  obtain ⟨o, q⟩ := i b m
  by_cases z : b = l
  · rw [z]
    exact s.ins l (by simp)
  · by_cases y : b = li
    · rw [y]
      exact s.ins li (by simp)
    · exact ⟨o, e b o q z y⟩
theorem Spr.upd {c : Int} {a : Addr} {u : HO} (s : Spr H l li c) (h1 : a ≠ l) (h2 : a ≠ li) : Spr (L2.upd H a u) l li c := by
  obtain ⟨ns, b, d, s, n⟩ := s
  exact ⟨ns, b, d, ⟨by rw [upd_ne h1.symm]; exact s.l1, by rw [upd_ne h2.symm]; exact s.l2, s.ne, s.b0, s.c0, s.d0, s.d1⟩, n⟩
theorem Spr.c0 {c : Int} (s : Spr H l li c) : 0 ≤ c := by
  obtain ⟨ns, b, d, s, _⟩ := s
  exact s.c0
end
end K14
namespace K14
open PySem PySem.W PySem.Calls PyProof.Rows L2 LamX
open He (ga)
open Kz (SS ExtS ExtS.trans ExtS.refl small4 same_new boot_in boot_li new_ext Has pe_has noE)
abbrev sFr : Stmt := topS 29
abbrev sFe : Stmt := topS 30
abbrev Nfr : List Str := ["stream", "many", "k"]
theorem scFr : FnScope Nfr ["stream", "many"] (defScope sFr) := ⟨rfl, rfl, rfl, by decide +kernel, rfl, by decide +kernel, by decide +kernel⟩
theorem scFe : FnScope ["stream"] ["stream"] (defScope sFe) := ⟨rfl, rfl, rfl, by decide +kernel, rfl, by decide +kernel, by decide +kernel⟩
def scOfB : List Stmt → Scope
  | [.Return (some (.ListComp _ _ sc _)) _] => sc
  | _ => defScope sFr
def frSc : Scope := scOfB (defBody sFr)
theorem ext_none {l li p : Addr} {H H1 : Hp} (e : ExtS l li H H1) (n : H1 p = none) (h1 : p ≠ l) (h2 : p ≠ li) : H p = none := by
  cases q : H p with
  | none => rfl
  | some o =>
    rw [e p o q h1 h2] at n
    cases n
theorem fig2 {r : Int} (h0 : 0 ≤ r) (h1 : r < 2) : isF (.int r) = true := by
  show (decide (0 ≤ r) && decide (r ≤ 1)) = true
  rw [decide_eq_true h0, decide_eq_true (by omega : r ≤ 1)]
  rfl
section
variable {P : Program} {w : World} {K : Frag} {mg : Str → Option Value} {base : Heap}
def spFr : Sp := fun vs H Q _ => ∃ (l li : Addr) (c : Int) (m : Nat), vs = [.ref l, .int (m : Nat)] ∧ Spr H l li c ∧ m ≤ 100 ∧ c < 900000000 ∧
  ∀ (H' : Hp) (p : Addr) (ns : List Int) (c' : Int), ExtS l li H H' → Spr H' l li c' → c' ≤ c + m + 1 → H p = none → p ≠ l → p ≠ li → H' p = some (.lst (ns.map V.int)) → ns.length ≤ m → (∀ n ∈ ns, isF (.int n) = true) → Q (.ref p) H'
theorem ok_fr {f : Addr} {fd : FuncData} (F : FunD K "_law_f_row" "_law_f_row" (defArgs sFr) (defBody sFr) (defScope sFr) [] [] f fd) (D : Has P w K mg base "_law_draw" 1 ["stream", "many"] spDrW) (mr : mg "range" = none) : FnOk P w K mg base CX0 2 f fd ["stream", "many"] spFr := by
  refine F.ok scFr (fun vs H Q E h => ?_) (fun cdv A outer s H vs Q XE hr h => ?_)
  · obtain ⟨l, li, c, m, rfl, _⟩ := h
    rfl
  · obtain ⟨l, li, c, m, rfl, hs, hm, hc, k⟩ := h
    refine ⟨_, PSs.nox (pss_one (ps_ret (pe_lc (X := (cxOf CX0 P w K mg base Nfr "_law_f_row" (defScope sFr) f cdv A outer s H XE).nox) (te := tCall spDrW [] noE (tCons (tVar 0) (tCons (tC (.int 2)) tNil))) (scope := frSc) (own := [("k", 2)]) (g := gName 2) (tt := tYes) rfl scFr.nd
      (pi_range1 (by rfl) mr (pa_cons (pe_has D hr (by rfl) (pa_cons (pv 0) (pa_cons (pe_op op_add (pv 1) pe_int) pa_nil))) pa_nil)) (blkOk_by (N := Nfr) (sc := defScope sFr) (by decide +kernel)) (fun _ _ _ _ _ => pg_name (i := 2) scFr.nd rfl (Or.inl rfl)) (fun _ _ _ _ _ => pts_nil)
      (fun s0 H0 C0 cl0 fp0 => pe_has (X := Cx.blk ((cxOf CX0 P w K mg base Nfr "_law_f_row" (defScope sFr) f cdv A outer s H XE).nox) s0 H0 frSc (compEnvC frSc cl0 C0 (Cx.env ((cxOf CX0 P w K mg base Nfr "_law_f_row" (defScope sFr) f cdv A outer s H XE).nox))) fp0) D hr (by rfl) (pa_cons (pv 0) (pa_cons pe_int pa_nil)))))), ?_⟩
    refine ⟨.ref l, rfl, .int (m : Nat), rfl, m, 1, rfl, rfl, l, li, c, (m : Nat) + 1, rfl, hs, by omega, by omega, by omega, fun H1 r e1 s1 r0 r1 => ?_⟩
    refine ⟨r, rfl, by omega, by omega, fun D0 hD => ?_⟩
    have nD := s1.new hD
    have HD : H D0 = none := ext_none e1 hD nD.1 nD.2
    refine lc_range (n := r.toNat) (fun j H' => ∃ (ns : List Int), H' D0 = some (.lst (ns.map V.int)) ∧ ns.length = j ∧ (∀ n ∈ ns, isF (.int n) = true) ∧ Spr H' l li (c + 1 + (j : Nat)) ∧ ExtS l li H H') ⟨[], upd_same, rfl, (fun n h => nomatch h), by simpa using s1.same (same_new hD), e1.trans (same_S (same_new hD))⟩ (fun j H' hj e => ?_) fun H' e => ?_
    · obtain ⟨ns, h1, h2, h3, h4, h5⟩ := e
      refine ⟨rfl, ?_⟩
      unfold tYes
      show (if true = true then _ else _)
      rw [if_pos rfl]
      refine ⟨.ref l, rfl, l, li, _, 2, rfl, h4, by decide, by decide, by omega, fun H4 q e4 s4 q0 q1 => ?_⟩
      have hD4 := e4 _ _ h1 nD.1 nD.2
      refine ⟨_, hD4, by rw [List.length_map, sizeLine_eq]; omega, ns ++ [q], by rw [upd_same, List.map_append]; rfl, by rw [List.length_append, h2]; rfl, fun n hn => ?_, ?_, fun b o eb z1 z2 => ?_⟩
      · rcases List.mem_append.mp hn with hn | hn
        · exact h3 n hn
        · rw [List.mem_singleton.mp hn]
          exact fig2 q0 q1
      · have ec : c + 1 + ((j + 1 : Nat) : Int) = c + 1 + (j : Nat) + 1 := by omega
        rw [ec]
        exact s4.upd nD.1 nD.2
      · rw [upd_ne (ne_of_none eb HD)]
        exact e4 b o (h5 b o eb z1 z2) z1 z2
    · obtain ⟨ns, h1, h2, h3, h4, h5⟩ := e
      exact k H' D0 ns _ h5 h4 (by omega) HD nD.1 nD.2 h1 (by omega) h3
/-- a new endless row: a tuple of two new lists -/
def spFe : Sp := fun vs H Q _ => ∃ (l li : Addr) (c : Int), vs = [.ref l] ∧ Spr H l li c ∧ c < 800000000 ∧
  ∀ (H' : Hp) (t u x : Addr) (hs as : List Int) (c' : Int), ExtS l li H H' → Spr H' l li c' → c' ≤ c + 20 → (Hid [l, li] H') t = some (.tup [.ref u, .ref x]) → (Hid [l, li] H') u = some (.lst (hs.map V.int)) → (Hid [l, li] H') x = some (.lst (as.map V.int)) → hs.length ≤ 4 → 0 < as.length → as.length ≤ 4 → (∀ n ∈ hs, isF (.int n) = true) → (∀ n ∈ as, isF (.int n) = true) → Q (.ref t) H'
theorem ok_fe {f : Addr} {fd : FuncData} (F : FunD K "_law_f_endless" "_law_f_endless" (defArgs sFe) (defBody sFe) (defScope sFe) [] [] f fd) (D : Has P w K mg base "_law_draw" 1 ["stream", "many"] spDrW) (R : Has P w K mg base "_law_f_row" 2 ["stream", "many"] spFr) : FnOk P w K mg base CX0 3 f fd ["stream"] spFe := by
  refine F.ok scFe (fun vs H Q E h => ?_) (fun cdv A outer s H vs Q XE hr h => ?_)
  · obtain ⟨l, li, c, rfl, _⟩ := h
    rfl
  · obtain ⟨l, li, c, rfl, hs, hc, k⟩ := h
    refine ⟨_, PSs.nox (pss_one (ps_ret (pe_tup (pa_cons (pe_has R hr (by rfl) (pa_cons (pv 0) (pa_cons pe_int pa_nil))) (pa_cons (pe_op op_cat (pe_lst (pa_cons (pe_has D (hr.mono (by decide)) (by rfl) (pa_cons (pv 0) (pa_cons pe_int pa_nil))) pa_nil)) (pe_has R hr (by rfl) (pa_cons (pv 0) (pa_cons pe_int pa_nil)))) pa_nil))))), ?_⟩
    refine ⟨.ref l, rfl, l, li, c, 4, rfl, hs, by decide, by omega, fun H1 u ns c1 e1 s1 l1 n1 u1 u2 h1 b1 f1 => ?_⟩
    refine ⟨.ref l, rfl, l, li, c1, 2, rfl, s1, by decide, by decide, by omega, fun H2 q e2 s2 q0 q1 => ?_⟩
    refine ⟨small4 1, fun y ny => ?_⟩
    have ly := s2.new ny
    have s3 := s2.same (same_new (o := .lst [.int q]) ny)
    refine ⟨.ref l, rfl, l, li, c1 + 1, 3, rfl, s3, by decide, by omega, fun H4 z ms c4 e4 s4 l4 n4 z1 z2 h4 b4 f4 => ?_⟩
    have hy := e4 _ _ (upd_same (H := H2) (a := y) (o := .lst [.int q])) ly.1 ly.2
    have E1 := e1.trans (e2.trans ((same_S (same_new ny)).trans e4))
    refine ⟨y, z, _, _, rfl, rfl, hy, h4, ?_, fun x nx => ⟨small4 2, fun t nt => ?_⟩⟩
    · rw [List.length_map, sizeLine_eq]
      show 1 + ms.length ≤ _
      omega
    have lx := s4.new nx
    have s5 := s4.same (same_new (o := .lst ([V.int q] ++ ms.map V.int)) nx)
    have lt := s5.new nt
    have hu : (upd (upd H4 x (.lst ([V.int q] ++ ms.map V.int))) t (.tup [.ref u, .ref x])) u = some (.lst (ns.map V.int)) := by
      refine same_new nt _ _ (same_new nx _ _ ?_)
      exact e4 _ _ (same_new ny _ _ (e2 _ _ h1 u1 u2)) u1 u2
    refine k _ t u x ns (q :: ms) c4 (E1.trans ((same_S (same_new nx)).trans (same_S (same_new nt)))) (s5.same (same_new nt)) (by omega) (hid_of (by simp [lt.1, lt.2]) upd_same (fun ps z => nomatch z)) (hid_of (by simp [u1, u2]) hu (fun ps z => nomatch z)) (hid_of (by simp [lx.1, lx.2]) (same_new nt _ _ upd_same) (fun ps z => nomatch z)) b1 (Nat.succ_pos _) (by rw [List.length_cons]; omega) f1 (fun n hn => ?_)
    rcases List.mem_cons.mp hn with rfl | hn
    · exact fig2 q0 q1
    · exact f4 n hn
end
end K14
namespace K14
open PySem PySem.W PySem.Calls PyProof.Rows L2 LamX
open He (ga)
open Kz (SS ExtS ExtS.trans ExtS.refl small4 same_new boot_in boot_li new_ext Has pe_has noE boot_isi)
abbrev sLo : Stmt := topS 37
abbrev Nlo : List Str := ["stream", "thing", "found", "part"]
theorem scLo : FnScope Nlo ["stream", "thing"] (defScope sLo) := ⟨rfl, rfl, rfl, by decide +kernel, rfl, by decide +kernel, by decide +kernel⟩
def scOfC : List Stmt → Scope
  | [_, _, .Assign _ (.ListComp _ _ sc _) _, _] => sc
  | _ => defScope sLo
def loSc : Scope := scOfC (defBody sLo)
theorem boot_di : bootBuiltins "dict" = some (.type "dict") := by decide +kernel
/-! ### lists told as tuples, tuples as lists -/
mutual
inductive Ld : PyData → PyData → Prop
  | non : Ld .none .none
  | bl (b : Bool) : Ld (.bool b) (.bool b)
  | int (i : Int) : Ld (.int i) (.int i)
  | str (x : Str) : Ld (.str x) (.str x)
  | ll {xs ys : List PyData} : LdAll xs ys → Ld (.list xs) (.list ys)
  | lt {xs ys : List PyData} : LdAll xs ys → Ld (.list xs) (.tuple ys)
  | tl {xs ys : List PyData} : LdAll xs ys → Ld (.tuple xs) (.list ys)
  | tt {xs ys : List PyData} : LdAll xs ys → Ld (.tuple xs) (.tuple ys)
inductive LdAll : List PyData → List PyData → Prop
  | nil : LdAll [] []
  | cons {x y : PyData} {xs ys : List PyData} : Ld x y → LdAll xs ys → LdAll (x :: xs) (y :: ys)
end
theorem LdAll.snoc {x y : PyData} (h : Ld x y) : ∀ {xs ys : List PyData}, LdAll xs ys → LdAll (xs ++ [x]) (ys ++ [y])
  | _, _, .nil => .cons h .nil
  | _, _, .cons a r => .cons a (r.snoc h)
theorem ThAll.snoc {H : Hp} {v : V} {d : PyData} (h : Th H v d) : ∀ {vs : List V} {ds : List PyData}, ThAll H vs ds → ThAll H (vs ++ [v]) (ds ++ [d])
  | _, _, .nil => .cons h .nil
  | _, _, .cons a r => .cons a (r.snoc h)
/-- lists within lists, n deep, no dicts -/
def fitD : Nat → PyData → Bool
  | n + 1, .list xs => decide (xs.length ≤ 1000) && xs.all (fitD n)
  | n + 1, .tuple xs => decide (xs.length ≤ 1000) && xs.all (fitD n)
  | _, .none => true
  | _, .bool _ => true
  | _, .int _ => true
  | _, .str _ => true
  | _, _ => false
def szD : Nat → PyData → Nat
  | n + 1, .list xs => 1 + (xs.map (szD n)).sum
  | n + 1, .tuple xs => 1 + (xs.map (szD n)).sum
  | _, _ => 0
theorem fit_seq {n : Nat} {d : PyData} (l : isL d = true) (h : fitD n d = true) : ∃ m, n = m + 1 ∧ (its d).length ≤ 1000 ∧ (∀ x ∈ its d, fitD m x = true) ∧ szD n d = 1 + ((its d).map (szD m)).sum := by
  cases n with
  | zero => cases d <;> first | exact absurd (show false = true from h) Bool.false_ne_true | exact absurd (show false = true from l) Bool.false_ne_true
  | succ m =>
    refine ⟨m, rfl, ?_⟩
    cases d with
    | list xs =>
      obtain ⟨h1, h2⟩ := Bool.and_eq_true_iff.mp (show (decide (xs.length ≤ 1000) && xs.all (fitD m)) = true from h)
      exact ⟨of_decide_eq_true h1, fun x hx => List.all_eq_true.mp h2 x hx, rfl⟩
    | tuple xs =>
      obtain ⟨h1, h2⟩ := Bool.and_eq_true_iff.mp (show (decide (xs.length ≤ 1000) && xs.all (fitD m)) = true from h)
      exact ⟨of_decide_eq_true h1, fun x hx => List.all_eq_true.mp h2 x hx, rfl⟩
    | _ => cases l
def isD : PyData → Bool
  | .dict _ => true
  | _ => false
theorem no_dict {n : Nat} {d : PyData} (h : fitD n d = true) : isD d = false := by
  cases d with
  | dict ps => cases n <;> cases h
  | _ => rfl
theorem Ld.flat {n : Nat} {d : PyData} (l : isL d = false) (h : fitD n d = true) : Ld d d := by
  cases d with
  | none => exact .non
  | bool b => exact .bl b
  | int i => exact .int i
  | str x => exact .str x
  | dict ps => cases n <;> cases h
  | _ => cases l
theorem is_di {K : Frag} (d : PyData) : kitOne K (.type (tyN d)) (.type "dict") = some (isD d) := by
  cases d <;> rfl
theorem ld_seq {d : PyData} {ys : List PyData} (l : isL d = true) (h : LdAll (its d) ys) : Ld d (.list ys) ∧ Ld d (.tuple ys) := by
  cases d with
  | list xs => exact ⟨.ll h, .lt h⟩
  | tuple xs => exact ⟨.tl h, .tt h⟩
  | _ => cases l
theorem hid_D {S : List Addr} {l li D : Addr} {H H2 : Hp} (m : l ∈ S) (mi : li ∈ S) (n : H D = none) (e : ExtS l li H H2) : L2.Same (Hid S H) (Hid (D :: S) H2) := fun b o h => by
  obtain ⟨h1, h2, h3⟩ := hid_at h
  refine hid_of (fun z => ?_) (e b o h2 (fun z => h1 (by rw [z]; exact m)) (fun z => h1 (by rw [z]; exact mi))) h3
  rcases List.mem_cons.mp z with z | z
  · exact ne_of_none h2 n z
  · exact h1 z
section
variable {P : Program} {w : World} {K : Frag} {mg : Str → Option Value} {base : Heap}
def spLo (n : Nat) : Sp := fun vs H Q _ => ∃ (S : List Addr) (l li : Addr) (c : Int) (v : V) (d : PyData), vs = [.ref l, v] ∧ l ∈ S ∧ li ∈ S ∧ Ins S H ∧ Th (Hid S H) v d ∧ fitD n d = true ∧ Spr H l li c ∧ c + (szD n d : Nat) < 900000000 ∧
  ∀ (H' : Hp) (v' : V) (d' : PyData) (c' : Int), ExtS l li H H' → Spr H' l li c' → c' ≤ c + (szD n d : Nat) → Th (Hid S H') v' d' → Ld d d' → Q v' H'
theorem lo_len {n : Nat} {vs : List V} {H : Hp} {Q : VK} {E : XK} (h : spLo n vs H Q E) : vs.length = 2 := by
  obtain ⟨S, l, li, c, v, d, rfl, _⟩ := h
  rfl
theorem ok_lo {f : Addr} {fd : FuncData} (F : FunD K "_law_loose" "_law_loose" (defArgs sLo) (defBody sLo) (defScope sLo) [] [] f fd) (D : Has P w K mg base "_law_draw" 1 ["stream", "many"] spDrW) (mm : mg "_law_loose" = some (.ref f)) (kp : keepIn K (.ref f) = true) (bd : L2.Binds K fd ["stream", "thing"] [])
    (mi : mg "isinstance" = none) (ml : mg "list" = none) (mt : mg "tuple" = none) (md : mg "dict" = none) : ∀ n, FnOk P w K mg base CX0 (n + 2) f fd ["stream", "thing"] (spLo n) := by
  intro n
  induction n with
  | zero =>
    refine F.ok scLo (fun vs H Q E h => lo_len h) (fun cdv A outer s H vs Q XE hr h => ?_)
    obtain ⟨S, l, li, c, v, d, rfl, m1, m2, ins, hv, hf, hs, hc, k⟩ := h
    have l0 : isL d = false := by
      cases q : isL d with
      | false => rfl
      | true =>
        obtain ⟨m, z, _⟩ := fit_seq q hf
        cases z
    have hV := hv.ext hid_up
    refine ⟨_, PSs.nox (pss_cons (ps_if (pt_val (pe_callB call_isi (by rfl) mi boot_isi (pa_cons (pv 1) (pa_cons (pe_bltn (by rfl) md boot_di (v := .ty "dict") rfl) pa_nil)))) (pss_one ps_never) pss_nil)
      (pss_cons (ps_if (pt_not (pt_val (pe_callB call_isiT (by rfl) mi boot_isi (pa_cons (pv 1) (pa_cons (pe_tup (pa_cons (pe_bltn (by rfl) ml boot_li (v := .ty "list") rfl) (pa_cons (pe_bltn (by rfl) mt boot_tu (v := .ty "tuple") rfl) pa_nil))) pa_nil))))) (pss_one (ps_ret (pv 1))) pss_nil) pss_never)), ?_⟩
    refine ⟨v, rfl, v, _, _, _, _, rfl, .ty _, hV.ty, is_di d, _, rfl, ?_⟩
    rw [no_dict hf]
    refine iteF ⟨v, rfl, small4 2, fun p np => ⟨v, p, _, _, _, _, rfl, upd_same, .cons (.ty _) (.cons (.ty _) .nil), (hV.ext (same_new np)).ty, is_lt d, _, rfl, ?_⟩⟩
    rw [l0]
    exact iteT ⟨v, rfl, k _ v d c (same_S (same_new np)) (hs.same (same_new np)) (by omega) (hv.ext (hid_same (same_new np))) (Ld.flat l0 hf)⟩
  | succ n ih =>
    have SELF : Has P w K mg base "_law_loose" (n + 2) ["stream", "thing"] (spLo n) := ⟨f, fd, mm, kp, bd, ih⟩
    refine F.ok scLo (fun vs H Q E h => lo_len h) (fun cdv A outer s H vs Q XE hr h => ?_)
    obtain ⟨S, l, li, c, v, d, rfl, m1, m2, ins, hv, hf, hs, hc, k⟩ := h
    have hV := hv.ext hid_up
    refine ⟨_, PSs.nox (pss_cons (ps_if (pt_val (pe_callB call_isi (by rfl) mi boot_isi (pa_cons (pv 1) (pa_cons (pe_bltn (by rfl) md boot_di (v := .ty "dict") rfl) pa_nil)))) (pss_one ps_never) pss_nil)
      (pss_cons (ps_if (pt_not (pt_val (pe_callB call_isiT (by rfl) mi boot_isi (pa_cons (pv 1) (pa_cons (pe_tup (pa_cons (pe_bltn (by rfl) ml boot_li (v := .ty "list") rfl) (pa_cons (pe_bltn (by rfl) mt boot_tu (v := .ty "tuple") rfl) pa_nil))) pa_nil))))) (pss_one (ps_ret (pv 1))) pss_nil)
      (pss_cons (ps_setLc (X := (cxOf CX0 P w K mg base Nlo "_law_loose" (defScope sLo) f cdv A outer s H XE).nox) (i := 2) (te := tCall (spLo n) [] noE (tCons (tVar 0) (tCons (tVar 3) tNil))) (scope := loSc) (own := [("part", 3)]) (g := gName 3) (tt := tYes) rfl scLo.nd rfl rfl (sw_true rfl rfl rfl (by decide +kernel)) (pi_or (pi_list (pv 1)) (pi_tup (pv 1))) (blkOk_by (N := Nlo) (sc := defScope sLo) (by decide +kernel)) (fun _ _ _ _ _ => pg_name (i := 3) scLo.nd rfl (Or.inl rfl)) (fun _ _ _ _ _ => pts_nil)
        (fun s0 H0 C0 cl0 fp0 => pe_has (X := Cx.blk ((cxOf CX0 P w K mg base Nlo "_law_loose" (defScope sLo) f cdv A outer s H XE).nox) s0 H0 loSc (compEnvC loSc cl0 C0 (Cx.env ((cxOf CX0 P w K mg base Nlo "_law_loose" (defScope sLo) f cdv A outer s H XE).nox))) fp0) SELF hr (by rfl) (pa_cons (pv 0) (pa_cons (pv 3) pa_nil))))
      (pss_one (ps_ret (pe_ifExp (pt_cmpR op_eq (pe_has D (hr.mono (by omega)) (by rfl) (pa_cons (pv 0) (pa_cons pe_int pa_nil))) pe_int (nomark _)) (pv 2) (pe_callTy call_tuple_of (by rfl) mt boot_tu (pa_cons (pv 2) pa_nil)))))))), ?_⟩
    refine ⟨v, rfl, v, _, _, _, _, rfl, .ty _, hV.ty, is_di d, _, rfl, ?_⟩
    rw [no_dict hf]
    refine iteF ⟨v, rfl, small4 2, fun p np => ⟨v, p, _, _, _, _, rfl, upd_same, .cons (.ty _) (.cons (.ty _) .nil), (hV.ext (same_new np)).ty, is_lt d, _, rfl, ?_⟩⟩
    have e1 : ExtS l li H (upd H p (.tup [.ty "list", .ty "tuple"])) := same_S (same_new np)
    have s1 := hs.same (same_new (o := .tup [.ty "list", .ty "tuple"]) np)
    cases l0 : isL d with
    | false => exact iteT ⟨v, rfl, k _ v d c e1 s1 (by omega) (hv.ext (hid_same (same_new np))) (Ld.flat l0 hf)⟩
    | true =>
      obtain ⟨m, em, len, fits, esz⟩ := fit_seq l0 hf
      obtain rfl : n = m := Nat.succ.inj em
      rw [esz] at hc k
      refine iteF ?_
      clear hV
      obtain ⟨a, xs, rfl, r, hx⟩ := hv.seq (K := K) l0
      have lx : xs.length = (its d).length := r.length
      have kind : (∀ {G : Hp}, ExtS l li H G → G a = some (.lst xs)) ∨ (∀ {G : Hp}, ExtS l li H G → G a = some (.tup xs)) := by
        rcases hx with q | q
        · obtain ⟨q1, q2, _⟩ := hid_at q
          exact .inl fun e => e _ _ q2 (fun z => q1 (by rw [z]; exact m1)) (fun z => q1 (by rw [z]; exact m2))
        · obtain ⟨q1, q2, _⟩ := hid_at q
          exact .inr fun e => e _ _ q2 (fun z => q1 (by rw [z]; exact m1)) (fun z => q1 (by rw [z]; exact m2))
      generalize upd H p (.tup [.ty "list", .ty "tuple"]) = H1 at e1 s1 ⊢
      let Pv (D0 : Addr) (j : Nat) (H2 : Hp) : Prop := ∃ (ys : List V) (ds : List PyData) (c2 : Int), H2 D0 = some (.lst ys) ∧ ys.length = j ∧ ThAll (Hid (D0 :: S) H2) ys ds ∧ LdAll ((its d).take j) ds ∧ ExtS l li H H2 ∧ Spr H2 l li c2 ∧ c2 ≤ c + ((((its d).take j).map (szD n)).sum : Nat)
      have start : ∀ D0, H1 D0 = none → Pv D0 0 (upd H1 D0 (.lst [])) := fun D0 hD => ⟨[], [], c, upd_same, rfl, .nil, .nil, e1.trans (same_S (same_new hD)), s1.same (same_new hD), by simp⟩
      have turn : ∀ D0, H1 D0 = none → ∀ (j : Nat) (x : V) (H2 : Hp), xs[j]? = some x → Pv D0 j H2 → ∀ (σ2 : L2.St), σ2[0]? = some (some (.ref l)) → σ2[3]? = some (some x) →
          tCall (spLo n) [] noE (tCons (tVar 0) (tCons (tVar 3) tNil)) σ2 H2 fun y H4 => ∃ acc, H4 D0 = some (.lst acc) ∧ acc.length < sizeLine ∧ Pv D0 (j + 1) (upd H4 D0 (.lst (acc ++ [y]))) := by
        intro D0 hD j x H2 hj hp σ2 g0 g3
        obtain ⟨ys, ds, c2, q1, q2, q3, q4, q5, q6, q7⟩ := hp
        have nD := s1.new hD
        have HD : H D0 = none := ext_none e1 hD nD.1 nD.2
        obtain ⟨z, hz, tz⟩ := r.get hj
        have jl : j < (its d).length := by
          rcases Nat.lt_or_ge j (its d).length with q | q
          · exact q
          · rw [List.getElem?_eq_none q] at hz
            cases hz
        have et : (its d).take (j + 1) = (its d).take j ++ [z] := by
          rw [List.take_add_one, hz]
          rfl
        have esum : (((its d).take (j + 1)).map (szD n)).sum = (((its d).take j).map (szD n)).sum + szD n z := by
          rw [et, List.map_append, List.sum_append]
          simp
        have eall : (((its d).take (j + 1)).map (szD n)).sum ≤ ((its d).map (szD n)).sum := by
          have e := List.take_append_drop (j + 1) (its d)
          calc (((its d).take (j + 1)).map (szD n)).sum ≤ (((its d).take (j + 1)).map (szD n)).sum + (((its d).drop (j + 1)).map (szD n)).sum := Nat.le_add_right _ _
            _ = ((its d).map (szD n)).sum := by rw [← List.sum_append, ← List.map_append, e]
        refine ⟨.ref l, g0, x, g3, D0 :: S, l, li, c2, x, z, rfl, List.mem_cons_of_mem _ m1, List.mem_cons_of_mem _ m2, (ins_S ins q5 q6).cons q1, tz.ext (hid_D m1 m2 HD q5), fits z (List.mem_of_getElem? hz), q6, by omega, fun H4 v4 d4 c4 e4 s4 b4 t4 ld4 => ?_⟩
        have hD4 := e4 _ _ q1 nD.1 nD.2
        refine ⟨ys, hD4, by rw [q2, sizeLine_eq]; omega, ys ++ [v4], ds ++ [d4], c4, upd_same, by rw [List.length_append, q2]; rfl, ?_, by rw [et]; exact q4.snoc ld4, fun b o eb z1 z2 => ?_, s4.upd nD.1 nD.2, by rw [esum]; omega⟩
        · refine ThAll.snoc (t4.ext (hid_upd (List.mem_cons_self ..))) ((q3.ext (hid_S (List.mem_cons_of_mem _ m1) (List.mem_cons_of_mem _ m2) e4)).ext (hid_upd (List.mem_cons_self ..)))
        · rw [upd_ne (ne_of_none eb HD)]
          exact e4 b o (q5 b o eb z1 z2) z1 z2
      have post : ∀ D0, H1 D0 = none → ∀ H2, Pv D0 xs.length H2 → ∃ c2, Spr H2 l li c2 ∧ c2 < 900000000 ∧ ∀ (H5 : Hp), ExtS l li H2 H5 → Spr H5 l li (c2 + 1) → Q (.ref D0) H5 ∧ ∃ ys, H5 D0 = some (.lst ys) ∧ ∀ t, H5 t = none → Q (.ref t) (upd H5 t (.tup ys)) := by
        intro D0 hD H2 hp
        obtain ⟨ys, ds, c2, q1, q2, q3, q4, q5, q6, q7⟩ := hp
        have nD := s1.new hD
        have HD : H D0 = none := ext_none e1 hD nD.1 nD.2
        rw [lx, List.take_length] at q4 q7
        obtain ⟨g1, g2⟩ := ld_seq l0 q4
        refine ⟨c2, q6, by omega, fun H5 e5 s5 => ?_⟩
        have nS : D0 ∉ S := fun z => by
          obtain ⟨o, q⟩ := ins D0 z
          rw [HD] at q
          cases q
        have hD5 := e5 _ _ q1 nD.1 nD.2
        have t5 := (q3.ext (hid_S (List.mem_cons_of_mem _ m1) (List.mem_cons_of_mem _ m2) e5)).ext (hid_less (S := S) (fun b m => List.mem_cons_of_mem _ m))
        refine ⟨k H5 _ _ _ (q5.trans e5) s5 (by omega) (.lst (hid_of nS hD5 (fun ps z => nomatch z)) t5) g1, ys, hD5, fun t nt => ?_⟩
        have nT := s5.new nt
        exact k _ _ _ _ ((q5.trans e5).trans (same_S (same_new nt))) (s5.same (same_new nt)) (by omega) (.tup (hid_of ((ins_S (ins_S ins q5 q6) e5 s5).new nt) upd_same (fun ps z => nomatch z)) (t5.ext (hid_same (same_new nt)))) g2
      rcases kind with kd | kd
      · refine .inl ⟨.ref a, rfl, a, rfl, ⟨xs, .inl (.inl (kd e1))⟩, fun D0 hD => lc_list (xs := xs) (Pv D0) (start D0 hD) (fun i H2 _ e => ?_) (fun i x H2 hi e => ?_) (fun H2 e => ?_)⟩
        · obtain ⟨_, _, _, _, _, _, _, q5, _⟩ := e
          exact .inl (.inl (kd q5))
        · refine ⟨rfl, ?_⟩
          unfold tYes
          show (if true = true then _ else _)
          rw [if_pos rfl]
          exact turn D0 hD i x H2 hi e _ rfl rfl
        · obtain ⟨c2, w1, w2, w3⟩ := post D0 hD H2 e
          refine ⟨.ref l, rfl, l, li, c2, 3, rfl, w1, by decide, by decide, by omega, fun H5 q e5 s5 q0 q1 => ?_⟩
          obtain ⟨z1, ys, z2, z3⟩ := w3 H5 e5 s5
          exact ⟨rfl, _, rfl, ite2 (fun _ => ⟨.ref D0, rfl, z1⟩) (fun _ => ⟨.ref D0, rfl, D0, ys, rfl, .inl ⟨.inl (.inl z2), z3⟩⟩)⟩
      · refine .inr ⟨.ref a, rfl, a, rfl, ⟨xs, .inl (.inl (kd e1))⟩, fun D0 hD => lc_tup (xs := xs) (Pv D0) (start D0 hD) (fun i H2 _ e => ?_) (fun i x H2 hi e => ?_) (fun H2 e => ?_)⟩
        · obtain ⟨_, _, _, _, _, _, _, q5, _⟩ := e
          exact .inl (.inl (kd q5))
        · refine ⟨rfl, ?_⟩
          unfold tYes
          show (if true = true then _ else _)
          rw [if_pos rfl]
          exact turn D0 hD i x H2 hi e _ rfl rfl
        · obtain ⟨c2, w1, w2, w3⟩ := post D0 hD H2 e
          refine ⟨.ref l, rfl, l, li, c2, 3, rfl, w1, by decide, by decide, by omega, fun H5 q e5 s5 q0 q1 => ?_⟩
          obtain ⟨z1, ys, z2, z3⟩ := w3 H5 e5 s5
          exact ⟨rfl, _, rfl, ite2 (fun _ => ⟨.ref D0, rfl, z1⟩) (fun _ => ⟨.ref D0, rfl, D0, ys, rfl, .inl ⟨.inl (.inl z2), z3⟩⟩)⟩
end
end K14
namespace K14
open PySem PySem.W PySem.Calls PyProof.Rows L2 LamX
open He (ga)
open Kz (small4 same_new boot_in boot_li new_ext Has pe_has noE boot_isi)
open RZ
open LiI
abbrev sSm : Stmt := topS 36
abbrev Nsm : List Str := ["found", "due", "x", "y"]
theorem scSm : FnScope Nsm ["found", "due"] (defScope sSm) := ⟨rfl, rfl, rfl, by decide +kernel, rfl, by decide +kernel, by decide +kernel⟩
def scOfD : List Stmt → Scope
  | .If _ (_ :: .Return (some (.BoolOp _ [_, .Call _ [.ListComp _ _ sc _] _ _] _)) _ :: _) _ _ :: _ => sc
  | _ => defScope sSm
def smSc : Scope := scOfD (defBody sSm)
def fitS : Nat → PyData → Bool
  | n + 1, .list xs => decide (xs.length ≤ 1000) && xs.all (fitS n)
  | n + 1, .tuple xs => decide (xs.length ≤ 1000) && xs.all (fitS n)
  | n + 1, .dict ps => decide (ps.length ≤ 1000) && fitS n (.list (ps.map fun p => .tuple [p.1, p.2]))
  | _, .none => true
  | _, .bool _ => true
  | _, .int _ => true
  | _, .str _ => true
  | _, _ => false
def isLs : PyData → Bool
  | .list _ => true
  | _ => false
def isTu : PyData → Bool
  | .tuple _ => true
  | _ => false
def isIn : PyData → Bool
  | .int _ => true
  | .bool _ => true
  | _ => false
def isBo : PyData → Bool
  | .bool _ => true
  | _ => false
def isAny : PyData → Bool
  | .none => false
  | .str _ => false
  | _ => true
section
variable {K : Frag}
theorem kit_ls (d : PyData) : kitOne K (.type (tyN d)) (.type "list") = some (isLs d) := by cases d <;> rfl
theorem kit_tu (d : PyData) : kitOne K (.type (tyN d)) (.type "tuple") = some (isTu d) := by cases d <;> rfl
theorem kit_in (d : PyData) : kitOne K (.type (tyN d)) (.type "int") = some (isIn d) := by cases d <;> rfl
theorem kit_bo (d : PyData) : kitOne K (.type (tyN d)) (.type "bool") = some (isBo d) := by cases d <;> rfl
theorem kit_an (d : PyData) : kitAny K (.type (tyN d)) [.type "int", .type "list", .type "tuple", .type "dict"] = some (isAny d) := by cases d <;> rfl
theorem walk_zipT {a b : Addr} {xs ys : List V} {n : Nat} (hn : n = min xs.length ys.length) : Walk (ItzT K a b) n (fun H => SqT K H a xs ∧ SqT K H b ys) (YPair (fun i => xs[i]?) (fun i => ys[i]?)) := by
  subst hn
  refine ⟨fun i _ hi q => ?_, fun _ q => ⟨xs, ys, q.1, q.2, by omega⟩, fun i H v H' _ q ⟨T, x, z, h1, h2, h3, h4, h5⟩ => ⟨T, x, z, h1, h2, h3, h4 xs q.1, h5 ys q.2⟩⟩
  have l1 : i < xs.length := by omega
  have l2 : i < ys.length := by omega
  exact ⟨xs, ys, xs[i], ys[i], q.1, q.2, by simp [l1], by simp [l2]⟩
end
theorem th_key {H : Hp} : ∀ k : Key, Th H (kV k) (kd k)
  | .inl i => .int i
  | .inr x => .str x
theorem th_items {H H' : Hp} (e : L2.Same H H') : ∀ {ts : List Addr} {kvs : List (Key × V)} {ps : List (PyData × PyData)}, Paired (fun (t : Addr) (q : Key × V) => H' t = some (.tup [kV q.1, q.2])) ts kvs → ThKv H kvs ps → ThAll H' (ts.map V.ref) (ps.map fun p => .tuple [p.1, p.2])
  | _, _, _, .nil, .nil => .nil
  | _, _, _, .cons h r, .cons t q => .cons (.tup h (.cons (th_key _) (.cons (t.ext e) .nil))) (th_items e r q)
section
variable {P : Program} {w : World} {K : Frag} {mg : Str → Option Value} {base : Heap}
def spSm (n : Nat) : Sp := fun vs H Q _ => ∃ (v u : V) (d : PyData), vs = [v, u] ∧ Th H v d ∧ Th H u d ∧ fitS n d = true ∧ ∀ H', L2.Same H H' → Q (.bl true) H'
theorem sm_len {n : Nat} {vs : List V} {H : Hp} {Q : VK} {E : XK} (h : spSm n vs H Q E) : vs.length = 2 := by
  obtain ⟨v, u, d, rfl, _⟩ := h
  rfl
/-- what is asked of the builtins -/
structure BtK (mg : Str → Option Value) : Prop where
  is : mg "isinstance" = none
  li : mg "list" = none
  tu : mg "tuple" = none
  di : mg "dict" = none
  it : mg "int" = none
  bo : mg "bool" = none
  ln : mg "len" = none
  al : mg "all" = none
  zi : mg "zip" = none
/-- things that are no lists and no dicts -/
theorem sm_flat (B : BtK mg) {f : Addr} {cdv : Value} {A : Around} {outer : List Env} {s : Shared} {H : Hp} {Q : VK} {XE : XK} {v u : V} {d : PyData} (hv : Th H v d) (hu : Th H u d) (l0 : isL d = false) (d0 : isD d = false) (k : ∀ H', L2.Same H H' → Q (.bl true) H') :
    ∃ t, PSs (cxOf CX0 P w K mg base Nsm "_law_same" (defScope sSm) f cdv A outer s H XE) (defBody sSm) t ∧ t { nx := fun _ H' => Q .non H', rt := Q } (L2.start Nsm [v, u]) H := by
  refine ⟨_, PSs.nox (pss_cons (ps_if (pt_val (pe_callB call_isiT (by rfl) B.is boot_isi (pa_cons (pv 1) (pa_cons (pe_tup (pa_cons (pe_bltn (by rfl) B.li boot_li (v := .ty "list") rfl) (pa_cons (pe_bltn (by rfl) B.tu boot_tu (v := .ty "tuple") rfl) pa_nil))) pa_nil)))) pss_never pss_nil)
    (pss_cons (ps_if (pt_val (pe_callB call_isi (by rfl) B.is boot_isi (pa_cons (pv 1) (pa_cons (pe_bltn (by rfl) B.di boot_di (v := .ty "dict") rfl) pa_nil)))) pss_never pss_nil)
    (pss_cons (ps_if (pt_val (pe_callB call_isi (by rfl) B.is boot_isi (pa_cons (pv 1) (pa_cons (pe_bltn (by rfl) B.it boot_in (v := .ty "int") rfl) pa_nil))))
      (pss_one (ps_ret (pe_and (pe_callB call_isi (by rfl) B.is boot_isi (pa_cons (pv 0) (pa_cons (pe_bltn (by rfl) B.it boot_in (v := .ty "int") rfl) pa_nil))) (pe_and (pe_cmpR op_eq (pe_callB call_isi (by rfl) B.is boot_isi (pa_cons (pv 0) (pa_cons (pe_bltn (by rfl) B.bo boot_bo (v := .ty "bool") rfl) pa_nil))) (pe_callB call_isi (by rfl) B.is boot_isi (pa_cons (pv 1) (pa_cons (pe_bltn (by rfl) B.bo boot_bo (v := .ty "bool") rfl) pa_nil))) (nomark _))
        (pe_one (pe_cmpR op_eq (pv 0) (pv 1) (nomark _))))))) pss_nil)
    (pss_one (ps_ret (pe_and (pe_not (pe_callB call_isiT (by rfl) B.is boot_isi (pa_cons (pv 0) (pa_cons (pe_tup (pa_cons (pe_bltn (by rfl) B.it boot_in (v := .ty "int") rfl) (pa_cons (pe_bltn (by rfl) B.li boot_li (v := .ty "list") rfl) (pa_cons (pe_bltn (by rfl) B.tu boot_tu (v := .ty "tuple") rfl) (pa_cons (pe_bltn (by rfl) B.di boot_di (v := .ty "dict") rfl) pa_nil))))) pa_nil)))) (pe_one (pe_cmpR op_eq (pv 0) (pv 1) (nomark _))))))))), ?_⟩
  refine ⟨u, rfl, small4 2, fun p np => ⟨u, p, _, _, _, _, rfl, upd_same, .cons (.ty _) (.cons (.ty _) .nil), (hu.ext (same_new np)).ty, is_lt d, _, rfl, ?_⟩⟩
  rw [l0]
  have e1 : L2.Same H (upd H p (.tup [.ty "list", .ty "tuple"])) := same_new np
  generalize upd H p (.tup [.ty "list", .ty "tuple"]) = H1 at e1 ⊢
  have hv1 := hv.ext e1
  have hu1 := hu.ext e1
  refine iteF ⟨u, rfl, u, _, _, _, _, rfl, .ty _, hu1.ty, is_di d, _, rfl, ?_⟩
  rw [d0]
  refine iteF ⟨u, rfl, u, _, _, _, _, rfl, .ty _, hu1.ty, kit_in d, _, rfl, ?_⟩
  cases li : isIn d with
  | true =>
    have sc : v = u ∧ scal v u = true := by
      cases hv1 <;> cases hu1 <;> first | exact ⟨rfl, rfl⟩ | exact absurd (show false = true from li) Bool.false_ne_true
    refine iteT ⟨v, rfl, v, _, _, _, _, rfl, .ty _, hv1.ty, kit_in d, _, rfl, ?_⟩
    rw [li]
    refine iteT ⟨v, rfl, v, _, _, _, _, rfl, .ty _, hv1.ty, kit_bo d, u, rfl, u, _, _, _, _, rfl, .ty _, hu1.ty, kit_bo d, rfl, _, rfl, ?_⟩
    rw [decide_eq_true rfl]
    refine iteT ⟨v, rfl, u, rfl, sc.2, ?_⟩
    rw [decide_eq_true sc.1]
    exact k _ e1
  | false =>
    have sc : v = u ∧ scal v u = true ∧ isAny d = false := by
      cases hv1 <;> cases hu1 <;> first | exact ⟨rfl, rfl, rfl⟩ | exact absurd (show true = false from li) (fun z => nomatch z) | exact absurd (show true = false from l0) (fun z => nomatch z) | exact absurd (show true = false from d0) (fun z => nomatch z)
    refine iteF ⟨v, rfl, small4 4, fun q nq => ⟨v, q, _, _, _, _, rfl, upd_same, .cons (.ty _) (.cons (.ty _) (.cons (.ty _) (.cons (.ty _) .nil))), (hv1.ext (same_new nq)).ty, kit_an d, _, rfl, _, rfl, ?_⟩⟩
    rw [sc.2.2]
    refine iteT ⟨v, rfl, u, rfl, sc.2.1, ?_⟩
    rw [decide_eq_true sc.1]
    exact k _ (e1.trans (same_new nq))
/-- the found and the due thing are of one data: the answer is True -/
theorem ok_sm {f : Addr} {fd : FuncData} (F : FunD K "_law_same" "_law_same" (defArgs sSm) (defBody sSm) (defScope sSm) [] [] f fd) (mm : mg "_law_same" = some (.ref f)) (kp : keepIn K (.ref f) = true) (bd : L2.Binds K fd ["found", "due"] []) (B : BtK mg) : ∀ n, FnOk P w K mg base CX0 (n + 1) f fd ["found", "due"] (spSm n) := by
  intro n
  induction n with
  | zero =>
    refine F.ok scSm (fun vs H Q E h => sm_len h) (fun cdv A outer s H vs Q XE hr h => ?_)
    obtain ⟨v, u, d, rfl, hv, hu, hf, k⟩ := h
    refine sm_flat B hv hu ?_ ?_ k
    · cases d <;> first | rfl | exact absurd (show false = true from hf) Bool.false_ne_true
    · cases d <;> first | rfl | exact absurd (show false = true from hf) Bool.false_ne_true
  | succ n ih =>
    have SELF : Has P w K mg base "_law_same" (n + 1) ["found", "due"] (spSm n) := ⟨f, fd, mm, kp, bd, ih⟩
    refine F.ok scSm (fun vs H Q E h => sm_len h) (fun cdv A outer s H vs Q XE hr h => ?_)
    obtain ⟨v, u, d, rfl, hv, hu, hf, k⟩ := h
    have t0 : ∀ {G : Hp} (p : Addr), G p = none → L2.Same G (upd G p (.tup [.ty "list", .ty "tuple"])) := fun p n => same_new n
    cases l0 : isL d with
    | true =>
      refine ⟨_, PSs.nox (pss_cons (ps_if (pt_val (pe_callB call_isiT (by rfl) B.is boot_isi (pa_cons (pv 1) (pa_cons (pe_tup (pa_cons (pe_bltn (by rfl) B.li boot_li (v := .ty "list") rfl) (pa_cons (pe_bltn (by rfl) B.tu boot_tu (v := .ty "tuple") rfl) pa_nil))) pa_nil))))
        (pss_cons (ps_if ((pw_or (pt_cmpR op_ne (pe_callB call_isi (by rfl) B.is boot_isi (pa_cons (pv 0) (pa_cons (pe_bltn (by rfl) B.li boot_li (v := .ty "list") rfl) pa_nil))) (pe_callB call_isi (by rfl) B.is boot_isi (pa_cons (pv 1) (pa_cons (pe_bltn (by rfl) B.li boot_li (v := .ty "list") rfl) pa_nil))) (nomark _))
          (pw_or1 (pt_cmpR op_ne (pe_callB call_isi (by rfl) B.is boot_isi (pa_cons (pv 0) (pa_cons (pe_bltn (by rfl) B.tu boot_tu (v := .ty "tuple") rfl) pa_nil))) (pe_callB call_isi (by rfl) B.is boot_isi (pa_cons (pv 1) (pa_cons (pe_bltn (by rfl) B.tu boot_tu (v := .ty "tuple") rfl) pa_nil))) (nomark _)))).pt) (pss_one (ps_ret pe_bl)) pss_nil)
        (pss_one (ps_ret (pe_and (pe_cmpR op_eq (pe_callB call_len_seq (by rfl) B.ln boot_len (pa_cons (pv 0) pa_nil)) (pe_callB call_len_seq (by rfl) B.ln boot_len (pa_cons (pv 1) pa_nil)) (nomark _)) (pe_one (pe_callB (cr_all rfl) (by rfl) B.al boot_all (pa_cons
          (pe_lc (X := (cxOf CX0 P w K mg base Nsm "_law_same" (defScope sSm) f cdv A outer s H XE).nox) (te := tCall (spSm n) [] noE (tCons (tVar 2) (tCons (tVar 3) tNil))) (scope := smSc) (own := [("x", 2), ("y", 3)]) (g := gTup K 2 (gCons (gName 2) (gCons (gName 3) gNil))) (tt := tYes) rfl scSm.nd (pi_zipA (by rfl) B.zi (pa_cons (pv 0) (pa_cons (pv 1) pa_nil))) (blkOk_by (N := Nsm) (sc := defScope sSm) (by decide +kernel))
            (fun _ _ _ _ _ => pg_tup rfl (pgs_cons (pg_name (i := 2) scSm.nd rfl (Or.inl rfl)) (pgs_cons (pg_name (i := 3) scSm.nd rfl (Or.inl rfl)) pgs_nil))) (fun _ _ _ _ _ => pts_nil)
            (fun s0 H0 C0 cl0 fp0 => pe_has (X := Cx.blk ((cxOf CX0 P w K mg base Nsm "_law_same" (defScope sSm) f cdv A outer s H XE).nox) s0 H0 smSc (compEnvC smSc cl0 C0 (Cx.env ((cxOf CX0 P w K mg base Nsm "_law_same" (defScope sSm) f cdv A outer s H XE).nox))) fp0) SELF hr (by rfl) (pa_cons (pv 2) (pa_cons (pv 3) pa_nil)))) pa_nil))))))) pss_nil) pss_never), ?_⟩
      obtain ⟨m, em, len, fits⟩ : ∃ m, n + 1 = m + 1 ∧ (its d).length ≤ 1000 ∧ ∀ x ∈ its d, fitS m x = true := by
        cases d with
        | list xs =>
          obtain ⟨h1, h2⟩ := Bool.and_eq_true_iff.mp (show (decide (xs.length ≤ 1000) && xs.all (fitS n)) = true from hf)
          exact ⟨n, rfl, of_decide_eq_true h1, fun x hx => List.all_eq_true.mp h2 x hx⟩
        | tuple xs =>
          obtain ⟨h1, h2⟩ := Bool.and_eq_true_iff.mp (show (decide (xs.length ≤ 1000) && xs.all (fitS n)) = true from hf)
          exact ⟨n, rfl, of_decide_eq_true h1, fun x hx => List.all_eq_true.mp h2 x hx⟩
        | _ => exact absurd (show false = true from l0) Bool.false_ne_true
      obtain rfl : n = m := Nat.succ.inj em
      refine ⟨u, rfl, small4 2, fun p np => ⟨u, p, _, _, _, _, rfl, upd_same, .cons (.ty _) (.cons (.ty _) .nil), (hu.ext (same_new np)).ty, is_lt d, _, rfl, ?_⟩⟩
      rw [l0]
      have e1 : L2.Same H (upd H p (.tup [.ty "list", .ty "tuple"])) := same_new np
      generalize upd H p (.tup [.ty "list", .ty "tuple"]) = H1 at e1 ⊢
      have hv1 := hv.ext e1
      have hu1 := hu.ext e1
      refine iteT ⟨v, rfl, v, _, _, _, _, rfl, .ty _, hv1.ty, kit_ls d, u, rfl, u, _, _, _, _, rfl, .ty _, hu1.ty, kit_ls d, rfl, _, rfl, ?_⟩
      rw [decide_eq_true rfl]
      refine iteF ⟨v, rfl, v, _, _, _, _, rfl, .ty _, hv1.ty, kit_tu d, u, rfl, u, _, _, _, _, rfl, .ty _, hu1.ty, kit_tu d, rfl, _, rfl, ?_⟩
      rw [decide_eq_true rfl]
      refine iteF ?_
      have kind : ∃ (a b : Addr) (xs ys : List V), v = .ref a ∧ u = .ref b ∧ ThAll H1 xs (its d) ∧ ThAll H1 ys (its d) ∧ ((H1 a = some (.lst xs) ∧ H1 b = some (.lst ys)) ∨ (H1 a = some (.tup xs) ∧ H1 b = some (.tup ys))) := by
        cases hv1 with
        | lst h r => cases hu1 with | lst h2 r2 => exact ⟨_, _, _, _, rfl, rfl, r, r2, .inl ⟨h, h2⟩⟩
        | tup h r => cases hu1 with | tup h2 r2 => exact ⟨_, _, _, _, rfl, rfl, r, r2, .inr ⟨h, h2⟩⟩
        | _ => exact absurd (show false = true from l0) Bool.false_ne_true
      obtain ⟨a, b, xs, ys, rfl, rfl, rx, ry, hk⟩ := kind
      have lx : xs.length = (its d).length := rx.length
      have ly : ys.length = (its d).length := ry.length
      have sA : SqL K H1 a xs ∨ SqT K H1 a xs := hk.elim (fun q => .inl (.inl (.inl q.1))) fun q => .inr (.inl (.inl q.1))
      have sB : SqL K H1 b ys ∨ SqT K H1 b ys := hk.elim (fun q => .inl (.inl (.inl q.2))) fun q => .inr (.inl (.inl q.2))
      refine ⟨.ref a, rfl, a, xs, rfl, sA, .ref b, rfl, b, ys, rfl, sB, rfl, _, rfl, ?_⟩
      rw [lx, ly, decide_eq_true rfl]
      refine iteT ⟨.ref a, rfl, .ref b, rfl, a, b, xs, ys, rfl, ?_⟩
      let Pv (D0 : Addr) (j : Nat) (H2 : Hp) : Prop := L2.Same H1 H2 ∧ H2 D0 = some (.lst ((List.replicate j true).map V.bl))
      have start : ∀ D0, H1 D0 = none → Pv D0 0 (upd H1 D0 (.lst [])) := fun D0 hD => ⟨same_new hD, upd_same⟩
      have turn : ∀ D0, H1 D0 = none → ∀ (j : Nat) (x : V) (H2 H3 : Hp) (σ : L2.St), j < (its d).length → Pv D0 j H2 → YPair (fun i => xs[i]?) (fun i => ys[i]?) j H2 x H3 → σ = [some (.ref a), some (.ref b), none, none] →
          gTup K 2 (gCons (gName 2) (gCons (gName 3) gNil)) x σ H3 fun σ2 H4 => wipe σ2 [2, 3] = wipe σ [2, 3] ∧ tYes σ2 H4 fun c H5 => if c = true then tCall (spSm n) [] noE (tCons (tVar 2) (tCons (tVar 3) tNil)) σ2 H5 fun y H6 => ∃ acc, H6 D0 = some (.lst acc) ∧ acc.length < sizeLine ∧ Pv D0 (j + 1) (upd H6 D0 (.lst (acc ++ [y]))) else Pv D0 (j + 1) H5 := by
        intro D0 hD j x H2 H3 σ hj hp hy es
        subst es
        obtain ⟨T, x0, y0, rfl, nT, rfl, g1, g2⟩ := hy
        obtain ⟨q1, q2⟩ := hp
        obtain ⟨z, hz, tz⟩ := rx.get g1
        obtain ⟨z2, hz2, tz2⟩ := ry.get g2
        rw [hz] at hz2
        obtain rfl := Option.some.inj hz2
        have eT : L2.Same H2 (upd H2 T (.tup [x0, y0])) := same_new nT
        refine ⟨T, [x0, y0], rfl, .inl (.inl upd_same), rfl, x0, [y0], rfl, y0, [], rfl, rfl, rfl, ?_⟩
        unfold tYes
        show (if true = true then _ else _)
        rw [if_pos rfl]
        refine ⟨x0, rfl, y0, rfl, x0, y0, z, rfl, tz.ext (q1.trans eT), tz2.ext (q1.trans eT), fits z (List.mem_of_getElem? hz), fun H6 e6 => ⟨_, e6 _ _ (eT _ _ q2), ?_, fun c o ec => ?_, ?_⟩⟩
        · rw [List.length_map, List.length_replicate, sizeLine_eq]
          omega
        · rw [upd_ne (ne_of_none ec hD)]
          exact e6 _ _ (eT _ _ (q1 _ _ ec))
        · rw [upd_same, List.replicate_succ', List.map_append]
          rfl
      have fin : ∀ D0, H1 D0 = none → ∀ H2, Pv D0 (its d).length H2 → rAll K [.ref D0] H2 Q := fun D0 hD H2 ⟨q1, q2⟩ => by
        refine ⟨D0, List.replicate (its d).length true, rfl, .inl (.inl q2), ?_⟩
        have e : (List.replicate (its d).length true).all id = true := List.all_eq_true.mpr fun x hx => (List.mem_replicate.mp hx).2
        rw [e]
        exact k H2 (e1.trans q1)
      rcases hk with ⟨ha, hb⟩ | ⟨ha, hb⟩
      · exact .inl ⟨.inl (.inl ha), .inl (.inl hb), fun D0 hD => lc_it (walk_zip (n := (its d).length) (by omega)) (Pv D0) (start D0 hD) (fun i H2 _ e => ⟨.inl (.inl (e.1 _ _ ha)), .inl (.inl (e.1 _ _ hb))⟩) (fun i x H2 H3 hi e hy => turn D0 hD i x H2 H3 _ hi e hy rfl) (fun H2 e => fin D0 hD H2 e)⟩
      · exact .inr ⟨.inl (.inl ha), .inl (.inl hb), fun D0 hD => lc_it (walk_zipT (n := (its d).length) (by omega)) (Pv D0) (start D0 hD) (fun i H2 _ e => ⟨.inl (.inl (e.1 _ _ ha)), .inl (.inl (e.1 _ _ hb))⟩) (fun i x H2 H3 hi e hy => turn D0 hD i x H2 H3 _ hi e hy rfl) (fun H2 e => fin D0 hD H2 e)⟩
    | false =>
      cases d0 : isD d with
      | false => exact sm_flat B hv hu l0 d0 k
      | true =>
        refine ⟨_, PSs.nox (pss_cons (ps_if (pt_val (pe_callB call_isiT (by rfl) B.is boot_isi (pa_cons (pv 1) (pa_cons (pe_tup (pa_cons (pe_bltn (by rfl) B.li boot_li (v := .ty "list") rfl) (pa_cons (pe_bltn (by rfl) B.tu boot_tu (v := .ty "tuple") rfl) pa_nil))) pa_nil)))) pss_never pss_nil)
          (pss_cons (ps_if (pt_val (pe_callB call_isi (by rfl) B.is boot_isi (pa_cons (pv 1) (pa_cons (pe_bltn (by rfl) B.di boot_di (v := .ty "dict") rfl) pa_nil))))
            (pss_one (ps_ret (pe_and (pe_callB call_isi (by rfl) B.is boot_isi (pa_cons (pv 0) (pa_cons (pe_bltn (by rfl) B.di boot_di (v := .ty "dict") rfl) pa_nil))) (pe_one (pe_has SELF hr (by rfl) (pa_cons (pe_listItems rfl (pv 0) (by rfl) B.li boot_li) (pa_cons (pe_listItems rfl (pv 1) (by rfl) B.li boot_li) pa_nil))))))) pss_nil) pss_never)), ?_⟩
        refine ⟨u, rfl, small4 2, fun p np => ⟨u, p, _, _, _, _, rfl, upd_same, .cons (.ty _) (.cons (.ty _) .nil), (hu.ext (same_new np)).ty, is_lt d, _, rfl, ?_⟩⟩
        rw [l0]
        have e1 : L2.Same H (upd H p (.tup [.ty "list", .ty "tuple"])) := same_new np
        generalize upd H p (.tup [.ty "list", .ty "tuple"]) = H1 at e1 ⊢
        have hv1 := hv.ext e1
        have hu1 := hu.ext e1
        refine iteF ⟨u, rfl, u, _, _, _, _, rfl, .ty _, hu1.ty, is_di d, _, rfl, ?_⟩
        rw [d0]
        refine iteT ⟨v, rfl, v, _, _, _, _, rfl, .ty _, hv1.ty, is_di d, _, rfl, ?_⟩
        rw [d0]
        cases hv1 with
        | @dct a kvs ps h r =>
          cases hu1 with
          | @dct b kvs2 ps2 h2 r2 =>
            obtain ⟨f1, f2⟩ := Bool.and_eq_true_iff.mp (show (decide (ps.length ≤ 1000) && fitS n (.list (ps.map fun p => .tuple [p.1, p.2]))) = true from hf)
            refine iteT ⟨.ref a, rfl, a, kvs, rfl, h, fun H2 q ts e2 nq nt nm hq pr => ?_⟩
            refine ⟨.ref b, rfl, b, kvs2, rfl, e2 _ _ h2, fun H3 q2 ts2 e3 nq2 nt2 nm2 hq2 pr2 => ?_⟩
            have ta : Th H3 (.ref q) (.list (ps.map fun p => .tuple [p.1, p.2])) := (Th.lst hq (th_items e2 pr r)).ext e3
            have tb : Th H3 (.ref q2) (.list (ps.map fun p => .tuple [p.1, p.2])) := .lst hq2 (th_items (fun b o z => e3 b o (e2 b o z)) pr2 r2)
            exact ⟨.ref q, .ref q2, _, rfl, ta, tb, f2, fun H' e => k H' (e1.trans (fun b o z => e b o (e3 b o (e2 b o z))))⟩
        | _ => exact absurd (show false = true from d0) Bool.false_ne_true
end
end K14
namespace K14
/-! ### endless sequences -/
/-- from N on f has the period p -/
def PB (f : Nat → Int) (N p : Nat) : Prop := ∀ i, N ≤ i → f (i + p) = f i
theorem PB.mul {f : Nat → Int} {N p : Nat} (h : PB f N p) : ∀ k, PB f N (p * k)
  | 0 => fun i _ => by rw [Nat.mul_zero, Nat.add_zero]
  | k + 1 => fun i hi => by
    rw [Nat.mul_succ, ← Nat.add_assoc, h (i + p * k) (by omega), h.mul k i hi]
theorem PB.later {f : Nat → Int} {N M p : Nat} (h : PB f N p) (l : N ≤ M) : PB f M p := fun i hi => h i (by omega)
/-- a period from later on is one from where f has any period -/
theorem PB.back {f : Nat → Int} {N M p q : Nat} (h : PB f N p) (hp : 0 < p) (g : PB f M q) : PB f N q := fun i hi => by
  have e1 := (h.mul M) i hi
  have e2 := (h.mul M) (i + q) (by omega)
  have le : M ≤ i + p * M := by
    have := Nat.le_mul_of_pos_left M hp
    omega
  have e3 := g (i + p * M) le
  have e4 : i + p * M + q = i + q + p * M := by omega
  rw [e4] at e3
  rw [← e2, e3, e1]
theorem least_per {f : Nat → Int} {N : Nat} : ∀ (b p : Nat), p ≤ b → 0 < p → PB f N p → ∃ q, 0 < q ∧ q ≤ p ∧ PB f N q ∧ ∀ z, 0 < z → PB f N z → q ≤ z
  | 0, p, h1, h2, _ => by omega
  | b + 1, p, h1, h2, h3 => by
    by_cases c : ∃ z, 0 < z ∧ z < p ∧ PB f N z
    · obtain ⟨z, z1, z2, z3⟩ := c
      obtain ⟨q, q1, q2, q3, q4⟩ := least_per b z (by omega) z1 z3
      exact ⟨q, q1, by omega, q3, q4⟩
    · exact ⟨p, h2, Nat.le_refl _, h3, fun z z1 z2 => Nat.le_of_not_lt fun z3 => c ⟨z, z1, z3, z2⟩⟩
/-- the least period divides each -/
theorem per_dvd {f : Nat → Int} {N p q : Nat} (hq : 0 < q) (h : PB f N q) (least : ∀ z, 0 < z → PB f N z → q ≤ z) (g : PB f N p) : p % q = 0 := by
  rcases Nat.eq_zero_or_pos (p % q) with z | z
  · exact z
  · have per : PB f N (p % q) := fun i hi => by
      have e1 := (h.mul (p / q)) (i + p % q) (by omega)
      have e2 := Nat.mod_add_div p q
      rw [Nat.add_assoc, e2] at e1
      rw [← e1, g i hi]
    have := least _ z per
    have := Nat.mod_lt p hq
    omega
section
variable {hs as rs : List Int} {k : Nat}
theorem fig_tail (i : Nat) (h : hs.length ≤ i) : figAt hs as i = as.getD ((i - hs.length) % as.length) 0 := by
  unfold figAt
  rw [if_neg (by omega)]
theorem fig_head (i : Nat) (h : i < hs.length) : figAt hs as i = hs.getD i 0 := by
  unfold figAt
  rw [if_pos h]
theorem pb_tail (h0 : 0 < as.length) : PB (figAt hs as) hs.length as.length := fun i hi => by
  rw [fig_tail (hs := hs) (as := as) (i + as.length) (by omega), fig_tail (hs := hs) (as := as) i hi]
  have e : i + as.length - hs.length = i - hs.length + as.length := by omega
  rw [e, Nat.add_mod_right]
/-- as is a power of its first l, told place by place -/
theorem cond_get (h0 : 0 < as.length) {l : Nat} (l1 : 1 ≤ l) (l2 : l ≤ as.length) : condR as l ↔ as.length % l = 0 ∧ ∀ i, i < as.length → as.getD i 0 = as.getD (i % l) 0 := by
  have tl : (as.take l).length = l := by rw [List.length_take]; omega
  have tg : ∀ j, j < l → (as.take l).getD j 0 = as.getD j 0 := fun j hj => by
    simp only [List.getD]
    rw [List.getElem?_take_of_lt hj]
  constructor
  · rintro ⟨e1, e2⟩
    refine ⟨e1, fun i hi => ?_⟩
    have e3 : as.length / l * l = as.length := Nat.div_mul_cancel (Nat.dvd_of_mod_eq_zero e1)
    have e4 := rep_get (as := as.take l) (by omega) (as.length / l) i (by rw [tl]; omega)
    rw [e2, tl, tg _ (Nat.mod_lt _ l1)] at e4
    simp only [List.getD, e4]
    rfl
  · rintro ⟨e1, e2⟩
    have e3 : as.length / l * l = as.length := Nat.div_mul_cancel (Nat.dvd_of_mod_eq_zero e1)
    refine ⟨e1, List.ext_getElem? fun i => ?_⟩
    rcases Nat.lt_or_ge i as.length with hi | hi
    · rw [rep_get (as := as.take l) (by omega) (as.length / l) i (by rw [tl]; omega), tl, tg _ (Nat.mod_lt _ l1), ← e2 i hi]
      simp [List.getD, List.getElem?_eq_getElem hi]
    · rw [List.getElem?_eq_none hi, List.getElem?_eq_none (by simp [List.length_flatten, List.map_replicate, tl]; omega)]
theorem short_get (h0 : 0 < as.length) (s : IsShort as rs) : 0 < rs.length ∧ as.length % rs.length = 0 ∧ (∀ i, as.getD (i % as.length) 0 = rs.getD (i % rs.length) 0) ∧ ∀ m, 1 ≤ m → m < rs.length → ¬ condR as m := by
  obtain ⟨l, l1, l2, c, no, rfl⟩ := s
  have tl : (as.take l).length = l := by rw [List.length_take]; omega
  obtain ⟨c1, c2⟩ := (cond_get h0 l1 l2).mp c
  rw [tl]
  refine ⟨l1, c1, fun i => ?_, no⟩
  rw [c2 _ (Nat.mod_lt _ h0), Nat.mod_mod_of_dvd _ (Nat.dvd_of_mod_eq_zero c1)]
  simp only [List.getD]
  rw [List.getElem?_take_of_lt (Nat.mod_lt _ l1)]
/-- the figures from the k-th last of the head on, if k of the last roll -/
theorem roll_fig (h0 : 0 < as.length) (s : IsShort as rs) (kl : k ≤ hs.length) (r : Rolls hs rs k) (i : Nat) (hi : hs.length - k ≤ i) : figAt hs as i = rs.getD ((i + hs.length * rs.length - hs.length) % rs.length) 0 := by
  obtain ⟨r0, _, sg, _⟩ := short_get h0 s
  have big : hs.length ≤ hs.length * rs.length := Nat.le_mul_of_pos_right _ r0
  rcases Nat.lt_or_ge i hs.length with c | c
  · obtain ⟨j, hj, ej⟩ : ∃ j, j < k ∧ i = hs.length - 1 - j := ⟨hs.length - 1 - i, by omega, by omega⟩
    have e := r j hj
    have q1 := Nat.div_add_mod j rs.length
    have q2 := Nat.mod_lt j r0
    have q3 : j / rs.length ≤ j := Nat.div_le_self _ _
    obtain ⟨a, ea⟩ : ∃ a, hs.length = a + 1 + j / rs.length := ⟨hs.length - 1 - j / rs.length, by omega⟩
    have q4 : hs.length * rs.length = a * rs.length + rs.length + rs.length * (j / rs.length) := by
      rw [ea, Nat.add_mul, Nat.add_mul, Nat.one_mul, Nat.mul_comm (j / rs.length)]
    have q5 : i + hs.length * rs.length - hs.length = (rs.length - 1 - j % rs.length) + rs.length * a := by
      rw [Nat.mul_comm rs.length a]
      omega
    rw [q5, Nat.add_mul_mod_self_left, Nat.mod_eq_of_lt (by omega), fig_head (hs := hs) (as := as) i c]
    simp only [List.getD]
    rw [ej, e]
  · rw [fig_tail (hs := hs) (as := as) i c, sg]
    have q5 : i + hs.length * rs.length - hs.length = (i - hs.length) + rs.length * hs.length := by
      rw [Nat.mul_comm rs.length]
      omega
    rw [q5, Nat.add_mul_mod_self_left]
theorem roll_per (h0 : 0 < as.length) (s : IsShort as rs) (kl : k ≤ hs.length) (r : Rolls hs rs k) : PB (figAt hs as) (hs.length - k) rs.length := fun i hi => by
  obtain ⟨r0, _⟩ := short_get h0 s
  have big : hs.length ≤ hs.length * rs.length := Nat.le_mul_of_pos_right _ r0
  rw [roll_fig h0 s kl r i hi, roll_fig h0 s kl r (i + rs.length) (by omega)]
  have e : i + rs.length + hs.length * rs.length - hs.length = i + hs.length * rs.length - hs.length + rs.length := by omega
  rw [e, Nat.add_mod_right]
theorem roll_get (h0 : 0 < as.length) (s : IsShort as rs) (kl : k ≤ hs.length) (r : Rolls hs rs k) (j : Nat) (hj : j < rs.length) : figAt hs as (hs.length - k + j) = (turned rs k).getD j 0 := by
  obtain ⟨r0, _⟩ := short_get h0 s
  rw [roll_fig h0 s kl r (hs.length - k + j) (by omega)]
  have q1 := Nat.div_add_mod k rs.length
  have q2 := Nat.mod_lt k r0
  have big : hs.length ≤ hs.length * rs.length := Nat.le_mul_of_pos_right _ r0
  have lc : k / rs.length ≤ hs.length := Nat.le_trans (Nat.div_le_self _ _) kl
  have q3 : hs.length * rs.length = (hs.length - k / rs.length) * rs.length + rs.length * (k / rs.length) := by
    rw [Nat.mul_comm rs.length, ← Nat.add_mul]
    congr 1
    omega
  unfold turned
  simp only [List.getD]
  rcases Nat.lt_or_ge j (k % rs.length) with c | c
  · rw [List.getElem?_append_left (by rw [List.length_drop]; omega), List.getElem?_drop]
    have l1 : k / rs.length < hs.length := by
      have : k / rs.length ≤ rs.length * (k / rs.length) := Nat.le_mul_of_pos_left _ r0
      omega
    obtain ⟨a, ea⟩ : ∃ a, hs.length - k / rs.length = a + 1 := ⟨hs.length - k / rs.length - 1, by omega⟩
    rw [ea, Nat.add_mul, Nat.one_mul] at q3
    have e : hs.length - k + j + hs.length * rs.length - hs.length = (rs.length - k % rs.length + j) + rs.length * a := by
      rw [Nat.mul_comm rs.length a]
      omega
    rw [e, Nat.add_mul_mod_self_left, Nat.mod_eq_of_lt (by omega)]
  · rw [List.getElem?_append_right (by rw [List.length_drop]; omega), List.length_drop, List.getElem?_take_of_lt (by omega)]
    have e : hs.length - k + j + hs.length * rs.length - hs.length = (j - k % rs.length) + rs.length * (hs.length - k / rs.length) := by
      rw [Nat.mul_comm rs.length (hs.length - _)]
      omega
    rw [e, Nat.add_mul_mod_self_left, Nat.mod_eq_of_lt (by omega)]
    have e2 : j - (rs.length - (rs.length - k % rs.length)) = j - k % rs.length := by omega
    rw [e2]
/-- the least pair, told by the figures alone -/
structure LeastOf (f : Nat → Int) (h a : List Int) : Prop where
  pos : 0 < a.length
  per : PB f h.length a.length
  low : ∀ N q, 0 < q → PB f N q → a.length ≤ q
  far : ∀ N, PB f N a.length → h.length ≤ N
  hd : ∀ i, i < h.length → h.getD i 0 = f i
  rd : ∀ j, j < a.length → a.getD j 0 = f (h.length + j)
theorem least_fig {h a : List Int} (h0 : 0 < as.length) (x : IsLeast hs as h a) : LeastOf (figAt hs as) h a := by
  obtain ⟨rs, k, s, kl, r, stop, rfl, e⟩ := x
  have et : a = turned rs k := e
  subst et
  obtain ⟨r0, rdv, sg, no⟩ := short_get h0 s
  have lh : (hs.take (hs.length - k)).length = hs.length - k := by rw [List.length_take]; omega
  have per := roll_per h0 s kl r
  have tail := pb_tail (hs := hs) h0
  have low : ∀ N q, 0 < q → PB (figAt hs as) N q → rs.length ≤ q := fun N q q0 hq => by
    obtain ⟨z, z1, z2, z3, z4⟩ := least_per (f := figAt hs as) (N := hs.length) q q (Nat.le_refl _) q0 (tail.back h0 hq)
    have dv := per_dvd z1 z3 z4 tail
    have zl : z ≤ as.length := Nat.le_of_dvd h0 (Nat.dvd_of_mod_eq_zero dv)
    refine Nat.le_trans (Nat.le_of_not_lt fun c => no z z1 c ?_) z2
    refine (cond_get h0 z1 zl).mpr ⟨dv, fun i hi => ?_⟩
    have e1 := (z3.mul (i / z)) (hs.length + i % z) (by omega)
    have e2 := Nat.mod_add_div i z
    rw [Nat.add_assoc, e2, fig_tail (hs := hs) (as := as) _ (by omega), fig_tail (hs := hs) (as := as) _ (by omega), Nat.add_sub_cancel_left, Nat.add_sub_cancel_left, Nat.mod_eq_of_lt hi, Nat.mod_eq_of_lt (Nat.lt_of_le_of_lt (Nat.mod_le i z) hi)] at e1
    exact e1
  refine ⟨by rw [turned_len]; exact r0, by rw [lh, turned_len]; exact per, fun N q q0 hq => by rw [turned_len]; exact low N q q0 hq, fun N hN => ?_, fun i hi => ?_, fun j hj => ?_⟩
  · rw [lh]
    rw [turned_len] at hN
    rcases stop with c | c
    · omega
    · refine Nat.le_of_not_lt fun l => c ?_
      have kn : k < hs.length := by omega
      have e1 := hN (hs.length - 1 - k) (by omega)
      have e2 : hs.length - 1 - k + rs.length = hs.length - k + (rs.length - 1) := by omega
      rw [e2, roll_get h0 s kl r _ (by omega), fig_head (hs := hs) (as := as) _ (by omega)] at e1
      have e3 := turned_last r0 k
      simp only [List.getD] at e1
      rw [e3] at e1
      rw [List.getElem?_eq_getElem (by omega), List.getElem?_eq_getElem (by omega)] at e1 ⊢
      simp only [Option.getD_some] at e1
      rw [e1]
  · rw [lh] at hi
    rw [fig_head (hs := hs) (as := as) i (by omega)]
    simp only [List.getD]
    rw [List.getElem?_take_of_lt hi]
  · rw [turned_len] at hj
    rw [lh, roll_get h0 s kl r j hj]
theorem LeastOf.one {f : Nat → Int} {h a h2 a2 : List Int} (x : LeastOf f h a) (y : LeastOf f h2 a2) : h = h2 ∧ a = a2 := by
  have ea : a.length = a2.length := Nat.le_antisymm (x.low _ _ y.pos y.per) (y.low _ _ x.pos x.per)
  have eh : h.length = h2.length := Nat.le_antisymm (x.far _ (ea ▸ y.per)) (y.far _ (ea ▸ x.per))
  constructor
  · refine List.ext_getElem eh fun i h1 h3 => ?_
    have q1 := x.hd i h1
    have q2 := y.hd i h3
    simp only [List.getD, List.getElem?_eq_getElem h1, List.getElem?_eq_getElem h3, Option.getD_some] at q1 q2
    rw [q1, q2]
  · refine List.ext_getElem ea fun j h1 h3 => ?_
    have q1 := x.rd j h1
    have q2 := y.rd j h3
    simp only [List.getD, List.getElem?_eq_getElem h1, List.getElem?_eq_getElem h3, Option.getD_some] at q1 q2
    rw [q1, q2, eh]
/-- two pairs that tell the same have one least pair -/
theorem least_same {hs2 as2 h a h2 a2 : List Int} (h0 : 0 < as.length) (h1 : 0 < as2.length) (e : ∀ i, figAt hs as i = figAt hs2 as2 i) (x : IsLeast hs as h a) (y : IsLeast hs2 as2 h2 a2) : h = h2 ∧ a = a2 := by
  have l1 := least_fig h0 x
  have l2 := least_fig h1 y
  rw [← funext e] at l2
  exact l1.one l2
theorem LeastOf.fig {f : Nat → Int} {h a : List Int} (x : LeastOf f h a) (i : Nat) : figAt h a i = f i := by
  rcases Nat.lt_or_ge i h.length with c | c
  · rw [fig_head (hs := h) (as := a) i c, x.hd i c]
  · rw [fig_tail (hs := h) (as := a) i c, x.rd _ (Nat.mod_lt _ x.pos)]
    have e1 := (x.per.mul ((i - h.length) / a.length)) (h.length + (i - h.length) % a.length) (by omega)
    have e2 := Nat.mod_add_div (i - h.length) a.length
    rw [Nat.add_assoc, e2] at e1
    rw [← e1]
    congr 1
    omega
/-! ### figures of rows put together and cut -/
theorem fig_app {xs : List Int} (i : Nat) : figAt (xs ++ hs) as i = if i < xs.length then xs.getD i 0 else figAt hs as (i - xs.length) := by
  unfold figAt
  simp only [List.length_append, List.getD]
  by_cases c : i < xs.length
  · rw [if_pos c, if_pos (by omega), List.getElem?_append_left c]
  · rw [if_neg c]
    by_cases d : i - xs.length < hs.length
    · rw [if_pos d, if_pos (by omega), List.getElem?_append_right (by omega)]
    · rw [if_neg d, if_neg (by omega)]
      have e : i - (xs.length + hs.length) = i - xs.length - hs.length := by omega
      rw [e]
theorem turn_get {t q j : Nat} (ht : t < as.length) (hj : j < as.length) : (as.drop t ++ as.take t).getD j 0 = as.getD ((j + (as.length * q + t)) % as.length) 0 := by
  simp only [List.getD]
  rcases Nat.lt_or_ge j (as.length - t) with c | c
  · rw [List.getElem?_append_left (by rw [List.length_drop]; omega), List.getElem?_drop]
    have e : j + (as.length * q + t) = t + j + as.length * q := by omega
    rw [e, Nat.add_mul_mod_self_left, Nat.mod_eq_of_lt (by omega)]
  · rw [List.getElem?_append_right (by rw [List.length_drop]; omega), List.length_drop, List.getElem?_take_of_lt (by omega)]
    have e : j + (as.length * q + t) = (j - (as.length - t)) + as.length * (q + 1) := by
      rw [Nat.mul_add, Nat.mul_one]
      omega
    rw [e, Nat.add_mul_mod_self_left, Nat.mod_eq_of_lt (by omega)]
/-- what lies beneath the first m -/
theorem fig_drop (h0 : 0 < as.length) (m i : Nat) : figAt (hs.drop m) (as.drop ((m - hs.length) % as.length) ++ as.take ((m - hs.length) % as.length)) i = figAt hs as (m + i) := by
  have tl : (m - hs.length) % as.length < as.length := Nat.mod_lt _ h0
  have la : (as.drop ((m - hs.length) % as.length) ++ as.take ((m - hs.length) % as.length)).length = as.length := by
    rw [List.length_append, List.length_drop, List.length_take]
    omega
  have rot : ∀ j, j < as.length → (as.drop ((m - hs.length) % as.length) ++ as.take ((m - hs.length) % as.length)).getD j 0 = as.getD ((j + (m - hs.length)) % as.length) 0 := fun j hj => by
    have e := turn_get (q := (m - hs.length) / as.length) tl hj
    rw [Nat.div_add_mod] at e
    exact e
  unfold figAt
  rw [List.length_drop, la]
  by_cases c : i < hs.length - m
  · rw [if_pos c, if_pos (by omega)]
    simp only [List.getD]
    rw [List.getElem?_drop]
  · rw [if_neg c, if_neg (by omega), rot _ (Nat.mod_lt _ h0), Nat.mod_add_mod]
    have e : i - (hs.length - m) + (m - hs.length) = m + i - hs.length := by omega
    rw [e]
/-- once round: the first of the round goes to the head's end -/
theorem fig_roll {x : Int} {xs : List Int} (i : Nat) : figAt (hs ++ [x]) (xs ++ [x]) i = figAt hs (x :: xs) i := by
  unfold figAt
  simp only [List.length_append, List.length_nil, Nat.zero_add, List.length_cons, List.getD]
  rcases Nat.lt_trichotomy i hs.length with c | c | c
  · rw [if_pos (by omega), if_pos c, List.getElem?_append_left c]
  · rw [if_pos (by omega), if_neg (by omega), c, List.getElem?_append_right (Nat.le_refl _), Nat.sub_self, Nat.zero_mod]
    rfl
  · rw [if_neg (by omega), if_neg (by omega)]
    obtain ⟨t, ht⟩ : ∃ t, i - hs.length = t + 1 := ⟨i - hs.length - 1, by omega⟩
    have e : i - (hs.length + 1) = t := by omega
    rw [ht, e]
    have q : t % (xs.length + 1) < xs.length + 1 := Nat.mod_lt t (Nat.succ_pos xs.length)
    rcases Nat.lt_or_ge (t % (xs.length + 1)) xs.length with d | d
    · have z : (t + 1) % (xs.length + 1) = t % (xs.length + 1) + 1 := by
        rw [← Nat.mod_add_mod, Nat.mod_eq_of_lt (by omega)]
      rw [z, List.getElem?_append_left d, List.getElem?_cons_succ]
    · have z2 : t % (xs.length + 1) = xs.length := by omega
      have z : (t + 1) % (xs.length + 1) = 0 := by
        rw [← Nat.mod_add_mod, z2, Nat.mod_self]
      rw [z, z2, List.getElem?_append_right (Nat.le_refl _), Nat.sub_self]
      rfl
theorem fig_twice (h0 : 0 < as.length) (i : Nat) : figAt hs (as ++ as) i = figAt hs as i := by
  unfold figAt
  by_cases c : i < hs.length
  · rw [if_pos c, if_pos c]
  · rw [if_neg c, if_neg c, List.length_append]
    simp only [List.getD]
    have q := Nat.mod_lt (i - hs.length) (show 0 < as.length + as.length by omega)
    have e : (i - hs.length) % as.length = ((i - hs.length) % (as.length + as.length)) % as.length := by
      rw [Nat.mod_mod_of_dvd _ (by exact ⟨2, by omega⟩)]
    rw [e]
    generalize (i - hs.length) % (as.length + as.length) = t at q ⊢
    rcases Nat.lt_or_ge t as.length with d | d
    · rw [List.getElem?_append_left d, Nat.mod_eq_of_lt d]
    · rw [List.getElem?_append_right d, Nat.mod_eq_sub_mod d, Nat.mod_eq_of_lt (by omega)]
/-- rows that agree that far are one row -/
theorem agree {hs2 as2 : List Int} (h0 : 0 < as.length) (h1 : 0 < as2.length) (e : ∀ j, j < bnd hs as hs2 as2 → figAt hs as j = figAt hs2 as2 j) : ∀ i, figAt hs as i = figAt hs2 as2 i := by
  have p1 := pb_tail (hs := hs) h0
  have p2 := pb_tail (hs := hs2) h1
  have go : ∀ n i, i ≤ n → figAt hs as i = figAt hs2 as2 i := by
    intro n
    induction n with
    | zero => exact fun i hi => e i (by unfold bnd; omega)
    | succ n ih =>
      intro i hi
      rcases Nat.lt_or_ge i (bnd hs as hs2 as2) with c | c
      · exact e i c
      · unfold bnd at c
        have m1 : hs.length ≤ max hs.length hs2.length := Nat.le_max_left _ _
        have m2 : hs2.length ≤ max hs.length hs2.length := Nat.le_max_right _ _
        obtain ⟨t, rfl⟩ : ∃ t, i = t + as.length + as2.length := ⟨i - as.length - as2.length, by omega⟩
        have a1 := p1 (t + as2.length) (by omega)
        have a2 := ih (t + as2.length) (by omega)
        have a3 := p2 t (by omega)
        have a4 := ih t (by omega)
        have a5 := p1 t (by omega)
        have a6 := ih (t + as.length) (by omega)
        have a7 := p2 (t + as.length) (by omega)
        have w : t + as2.length + as.length = t + as.length + as2.length := by omega
        rw [w] at a1
        rw [a1, a2, a3, a7, ← a6, a5, a4]
  exact fun i => go i i (Nat.le_refl _)
end
end K14
namespace K14
open PySem PySem.W PySem.Calls PyProof.Rows L2 LamX
open He (ga)
open Kz (SS ExtS ExtS.trans ExtS.refl small4 same_new boot_in boot_li new_ext Has pe_has noE)
/-- a tuple of two lists of figures -/
def RowT (H : Hp) (t : Addr) (hs as : List Int) : Prop := ∃ u x, H t = some (.tup [.ref u, .ref x]) ∧ H u = some (.lst (hs.map V.int)) ∧ H x = some (.lst (as.map V.int))
/-- its lists are new -/
def RowN (H H' : Hp) (t : Addr) (hs as : List Int) : Prop := ∃ u x, H' t = some (.tup [.ref u, .ref x]) ∧ H' u = some (.lst (hs.map V.int)) ∧ H' x = some (.lst (as.map V.int)) ∧ H u = none ∧ H x = none
/-- figures, not too many -/
structure Figs (b : Nat) (hs as : List Int) : Prop where
  fh : ∀ n ∈ hs, isF (.int n) = true
  fa : ∀ n ∈ as, isF (.int n) = true
  lh : hs.length ≤ b
  la : as.length ≤ b
  a0 : 0 < as.length
theorem RowT.ext {H H1 : Hp} {t : Addr} {hs as : List Int} (r : RowT H t hs as) (e : L2.Same H H1) : RowT H1 t hs as := by
  obtain ⟨u, x, h1, h2, h3⟩ := r
  exact ⟨u, x, e _ _ h1, e _ _ h2, e _ _ h3⟩
theorem RowN.row {H H' : Hp} {t : Addr} {hs as : List Int} (r : RowN H H' t hs as) : RowT H' t hs as := by
  obtain ⟨u, x, h1, h2, h3, _⟩ := r
  exact ⟨u, x, h1, h2, h3⟩
theorem RowN.back {H0 H H' : Hp} {t : Addr} {hs as : List Int} (r : RowN H H' t hs as) (e : L2.Same H0 H) : RowN H0 H' t hs as := by
  obtain ⟨u, x, h1, h2, h3, h4, h5⟩ := r
  exact ⟨u, x, h1, h2, h3, e.free h4, e.free h5⟩
theorem RowT.end_ {H : Hp} {t : Addr} {hs as : List Int} {b : Nat} (r : RowT H t hs as) (g : Figs b hs as) (hb : b ≤ 500 := by decide) : EndV H (.ref t) hs as := by
  obtain ⟨u, x, h1, h2, h3⟩ := r
  exact endV_two g.fh g.fa (Nat.le_trans g.lh hb) ⟨g.a0, Nat.le_trans g.la hb⟩ h2 h3 h1
/-- the least pair's figures -/
theorem least_figs {hs as h a : List Int} {b : Nat} (g : Figs b hs as) (x : IsLeast hs as h a) : Figs b h a := by
  obtain ⟨rs, k, ⟨l, l1, l2, _, _, rfl⟩, kl, r, stop, rfl, rfl⟩ := x
  have tl : (as.take l).length = l := by rw [List.length_take]; omega
  refine ⟨fun n hn => g.fh n (List.mem_of_mem_take hn), fun n hn => ?_, by rw [List.length_take]; have := g.lh; omega, ?_, ?_⟩
  · rcases List.mem_append.mp hn with hn | hn
    · exact g.fa n (List.mem_of_mem_take (List.mem_of_mem_drop hn))
    · exact g.fa n (List.mem_of_mem_take (List.mem_of_mem_take hn))
  · have := turned_len (as.take l) k
    unfold turned at this
    rw [this, tl]
    exact Nat.le_trans l2 g.la
  · have := turned_len (as.take l) k
    unfold turned at this
    rw [this, tl]
    exact l1
/-- what lies beneath the first m, as a pair -/
def dropH (hs : List Int) (m : Nat) : List Int := hs.drop m
def dropA (hs as : List Int) (m : Nat) : List Int := as.drop ((m - hs.length) % as.length) ++ as.take ((m - hs.length) % as.length)
theorem drop_figs {hs as : List Int} {b m : Nat} (g : Figs b hs as) : Figs b (dropH hs m) (dropA hs as m) := by
  have tl : (m - hs.length) % as.length < as.length := Nat.mod_lt _ g.a0
  have la : (dropA hs as m).length = as.length := by
    unfold dropA
    rw [List.length_append, List.length_drop, List.length_take]
    omega
  refine ⟨fun n hn => g.fh n (List.mem_of_mem_drop hn), fun n hn => ?_, by unfold dropH; rw [List.length_drop]; have := g.lh; omega, by rw [la]; exact g.la, by rw [la]; exact g.a0⟩
  rcases List.mem_append.mp hn with hn | hn
  · exact g.fa n (List.mem_of_mem_drop hn)
  · exact g.fa n (List.mem_of_mem_take hn)
abbrev sBe : Stmt := topS 39
theorem scBe : FnScope ["row", "many", "below"] ["row", "many"] (defScope sBe) := ⟨rfl, rfl, rfl, by decide +kernel, rfl, by decide +kernel, by decide +kernel⟩
section
variable {P : Program} {w : World} {K : Frag} {mg : Str → Option Value} {base : Heap}
def spBe : Sp := fun vs H Q _ => ∃ (t : Addr) (hs as : List Int) (m : Nat), vs = [.ref t, .int (m : Nat)] ∧ RowT H t hs as ∧ Figs 400 hs as ∧ m ≤ 4000000000 ∧ ∀ (H' : Hp) (t' : Addr) (hs' as' : List Int), L2.Same H H' → RowN H H' t' hs' as' → IsLeast (dropH hs m) (dropA hs as m) hs' as' → Q (.ref t') H'
theorem ok_be {f : Addr} {fd : FuncData} (F : FunD K "_law_below" "_law_below" (defArgs sBe) (defBody sBe) (defScope sBe) [] [] f fd) (L : Has P w K mg base "_law_f_least" 1 ["head", "again"] (spLst K)) (N : Has P w K mg base "_law_f_beneath" 1 ["row", "many"] spBen) (mn : mg "len" = none) : FnOk P w K mg base CX0 2 f fd ["row", "many"] spBe := by
  refine F.ok scBe (fun vs H Q E h => ?_) (fun cdv A outer s H vs Q XE hr h => ?_)
  · obtain ⟨t, hs, as, m, rfl, _⟩ := h
    rfl
  · obtain ⟨t, hs, as, m, rfl, hrow, g, hm, k⟩ := h
    refine ⟨_, PSs.nox (pss_cons (ps_if (pt_cmpR op_le (pv 1) (pe_callB call_len_seq (by rfl) mn boot_len (pa_cons (pe_ix ix_seq (pv 0) pe_int (fun _ _ => rfl)) pa_nil)) (nomark _)) (pss_one (ps_ret (pe_has L hr (by rfl) (pa_cons (pe_slice sl_list (pe_ix ix_seq (pv 0) pe_int (fun _ _ => rfl)) (po_some (pv 1)) po_none) (pa_cons (pe_ix ix_seq (pv 0) pe_int (fun _ _ => rfl)) pa_nil))))) pss_nil)
      (pss_cons (ps_set (i := 2) scBe.nd rfl (.inl rfl) (pe_has N hr (by rfl) (pa_cons (pv 0) (pa_cons (pv 1) pa_nil))))
      (pss_one (ps_ret (pe_has L hr (by rfl) (pa_cons (pe_ix ix_seq (pv 2) pe_int (fun _ _ => rfl)) (pa_cons (pe_ix ix_seq (pv 2) pe_int (fun _ _ => rfl)) pa_nil))))))), ?_⟩
    have hE := hrow.end_ g
    obtain ⟨u, x, h1, h2, h3⟩ := hrow
    have lh : (hs.map V.int).length = hs.length := List.length_map ..
    have g1 := g.lh
    have g2 := g.la
    refine ⟨.int (m : Nat), rfl, .ref t, rfl, ix_p0 (.inr h1) ⟨u, _, rfl, .inl (.inl (.inl h2)), _, _, rfl, rfl, _, rfl, ite2 (fun c => ?_) (fun c => ?_)⟩⟩
    · have ml : m ≤ hs.length := by
        have z := of_decide_eq_true c
        rw [lh] at z
        omega
      refine ⟨.ref t, rfl, ix_p0 (.inr h1) ⟨.int (m : Nat), rfl, _, rfl, u, _, rfl, .inl (.inl h2), fun p np => ?_⟩⟩
      rw [cut_any, ← List.map_drop]
      have e1 := same_new (o := .lst ((hs.drop m).map V.int)) np
      refine ⟨.ref t, rfl, ix_p1 (.inr (e1 _ _ h1)) ⟨p, x, hs.drop m, as, rfl, .inl upd_same, .inl (e1 _ _ h3), g.a0, by omega, by rw [List.length_drop]; omega, fun H' t' x' y' hs' as' e2 q1 q2 q3 n1 n2 il => ?_⟩⟩
      have z : dropA hs as m = as := by
        unfold dropA
        rw [Nat.sub_eq_zero_of_le ml, Nat.zero_mod]
        simp
      exact k H' t' hs' as' (e1.trans e2) ⟨x', y', q1, q2, q3, e1.free n1, e1.free n2⟩ (by rw [z]; exact il)
    · have ml : hs.length < m := by
        have z : ¬ ((m : Nat) : Int) ≤ ((hs.map V.int).length : Int) := fun z => c (decide_eq_true z)
        rw [lh] at z
        omega
      refine ⟨.ref t, rfl, .int (m : Nat), rfl, .ref t, hs, as, m, rfl, hE, Nat.le_of_lt ml, hm, fun H1 p q r e1 q1 q2 q3 => ?_⟩
      have z : dropH hs m = [] := List.drop_eq_nil_of_le (Nat.le_of_lt ml)
      have tl : (m - hs.length) % as.length < as.length := Nat.mod_lt _ g.a0
      have la : (dropA hs as m).length = as.length := by
        unfold dropA
        rw [List.length_append, List.length_drop, List.length_take]
        omega
      have a0 := g.a0
      refine ⟨.ref p, rfl, ix_p0 (.inr q1) ⟨.ref p, rfl, ix_p1 (.inr q1) ⟨q, r, [], dropA hs as m, rfl, .inl q2, .inl q3, by omega, by omega, Nat.zero_le _, fun H' t' x' y' hs' as' e2 w1 w2 w3 n1 n2 il => ?_⟩⟩⟩
      exact k H' t' hs' as' (e1.trans e2) ⟨x', y', w1, w2, w3, e1.free n1, e1.free n2⟩ (by rw [z]; exact il)
end
end K14
namespace K14
open PySem PySem.W PySem.Calls PyProof.Rows L2 LamX
open He (ga)
open Kz (SS ExtS ExtS.trans ExtS.refl small4 same_new boot_in boot_li new_ext Has pe_has noE)
abbrev sAt : Stmt := topS 31
abbrev Nat_ : List Str := ["stream", "row", "head", "again", "k"]
theorem scAt : FnScope Nat_ ["stream", "row"] (defScope sAt) := ⟨rfl, rfl, rfl, by decide +kernel, rfl, by decide +kernel, by decide +kernel⟩
theorem ld_ints : ∀ {ns : List Int} {ds : List PyData}, LdAll (ns.map PyData.int) ds → ds = ns.map PyData.int
  | [], _, h => by cases h; rfl
  | n :: ns, _, h => by
    cases h with
    | cons a r =>
      cases a
      rw [ld_ints r]
      rfl
theorem ld_row {ns : List Int} {d : PyData} (h : Ld (.list (ns.map PyData.int)) d) : isL d = true ∧ its d = ns.map PyData.int := by
  cases h with
  | ll r => exact ⟨rfl, ld_ints r⟩
  | lt r => exact ⟨rfl, ld_ints r⟩
theorem ld_pair {hs as : List Int} {d : PyData} (h : Ld (.tuple [.list (hs.map PyData.int), .list (as.map PyData.int)]) d) : ∃ x y, isL d = true ∧ its d = [x, y] ∧ isL x = true ∧ its x = hs.map PyData.int ∧ isL y = true ∧ its y = as.map PyData.int := by
  have go : ∀ {ys : List PyData}, LdAll [.list (hs.map PyData.int), .list (as.map PyData.int)] ys → ∃ x y, ys = [x, y] ∧ isL x = true ∧ its x = hs.map PyData.int ∧ isL y = true ∧ its y = as.map PyData.int := fun r => by
    cases r with
    | cons a r =>
      cases r with
      | cons b r =>
        cases r
        exact ⟨_, _, rfl, (ld_row a).1, (ld_row a).2, (ld_row b).1, (ld_row b).2⟩
  cases h with
  | tl r =>
    obtain ⟨x, y, rfl, q⟩ := go r
    exact ⟨x, y, rfl, rfl, q⟩
  | tt r =>
    obtain ⟨x, y, rfl, q⟩ := go r
    exact ⟨x, y, rfl, rfl, q⟩
theorem ld_end {H : Hp} {v : V} {hs as : List Int} {d : PyData} {b : Nat} (t : Th H v d) (h : Ld (.tuple [.list (hs.map PyData.int), .list (as.map PyData.int)]) d) (g : Figs b hs as) (hb : b ≤ 500) : EndV H v hs as := by
  obtain ⟨x, y, e1, e2, x1, x2, y1, y2⟩ := ld_pair h
  refine ⟨x, y, d, t, ?_, e2, x2, y2, g.a0, Nat.le_trans g.lh hb, Nat.le_trans g.la hb⟩
  unfold isE
  rw [e2]
  show (isL d && ((isL x && (its x).all isF) && ((isL y && (its y).all isF) && decide (0 < (its y).length)))) = true
  rw [e1, x1, y1, x2, y2, all_isF g.fh, all_isF g.fa, List.length_map, decide_eq_true g.a0]
  rfl
theorem fit_ints (n : Nat) : ∀ ns : List Int, (ns.map PyData.int).all (fitD n) = true := fun ns => List.all_eq_true.mpr fun d hd => by
  obtain ⟨m, _, rfl⟩ := List.mem_map.mp hd
  cases n <;> rfl
theorem sz_ints (n : Nat) : ∀ ns : List Int, ((ns.map PyData.int).map (szD n)).sum = 0
  | [] => rfl
  | m :: ns => by
    have e : szD n (.int m) = 0 := by cases n <;> rfl
    rw [List.map_cons, List.map_cons, List.sum_cons, e, sz_ints n ns]
theorem fit_pair {hs as : List Int} (h1 : hs.length ≤ 1000) (h2 : as.length ≤ 1000) : fitD 2 (.tuple [.list (hs.map PyData.int), .list (as.map PyData.int)]) = true ∧ szD 2 (.tuple [.list (hs.map PyData.int), .list (as.map PyData.int)]) = 3 := by
  constructor
  · show (decide (2 ≤ 1000) && ((decide ((hs.map PyData.int).length ≤ 1000) && (hs.map PyData.int).all (fitD 0)) && ((decide ((as.map PyData.int).length ≤ 1000) && (as.map PyData.int).all (fitD 0)) && true))) = true
    rw [fit_ints, fit_ints, List.length_map, List.length_map, decide_eq_true h1, decide_eq_true h2]
    rfl
  · show 1 + ((1 + ((hs.map PyData.int).map (szD 0)).sum) + ((1 + ((as.map PyData.int).map (szD 0)).sum) + 0)) = 3
    rw [sz_ints, sz_ints]
section
variable {P : Program} {w : World} {K : Frag} {mg : Str → Option Value} {base : Heap}
/-- the same row told otherwise -/
def spAt : Sp := fun vs H Q _ => ∃ (S : List Addr) (l li t : Addr) (c : Int) (hs as : List Int), vs = [.ref l, .ref t] ∧ l ∈ S ∧ li ∈ S ∧ Ins S H ∧ RowT (Hid S H) t hs as ∧ Figs 100 hs as ∧ Spr H l li c ∧ c < 800000000 ∧
  ∀ (H' : Hp) (v' : V) (hs2 as2 : List Int) (c' : Int), ExtS l li H H' → Spr H' l li c' → c' ≤ c + 10 → EndV (Hid S H') v' hs2 as2 → (∀ i, figAt hs2 as2 i = figAt hs as i) → Figs 210 hs2 as2 → hs2.length ≤ hs.length + 2 → as2.length ≤ as.length + as.length → Q v' H'
theorem ok_at {f : Addr} {fd : FuncData} (F : FunD K "_law_f_as_told" "_law_f_as_told" (defArgs sAt) (defBody sAt) (defScope sAt) [] [] f fd) (D : Has P w K mg base "_law_draw" 1 ["stream", "many"] spDrW) (L : Has P w K mg base "_law_loose" 4 ["stream", "thing"] (spLo 2)) (ml : mg "list" = none) (mr : mg "range" = none) : FnOk P w K mg base CX0 5 f fd ["stream", "row"] spAt := by
  refine F.ok scAt (fun vs H Q E h => ?_) (fun cdv A outer s H vs Q XE hr h => ?_)
  · obtain ⟨S, l, li, t, c, hs, as, rfl, _⟩ := h
    rfl
  · obtain ⟨S, l, li, t, c, hs, as, rfl, m1, m2, ins, hrow, g, hsp, hc, k⟩ := h
    refine ⟨_, PSs.nox (pss_cons (ps_par (i := 2) (j := 3) rfl scAt.nd rfl rfl (by decide) rfl rfl (pa_cons (pe_callTy call_list_of (by rfl) ml boot_li (pa_cons (pe_ix ix_seq (pv 1) pe_int (fun _ _ => rfl)) pa_nil)) (pa_cons (pe_callTy call_list_of (by rfl) ml boot_li (pa_cons (pe_ix ix_seq (pv 1) pe_int (fun _ _ => rfl)) pa_nil)) pa_nil)) (by rfl))
      (pss_cons (ps_for PassesOwn.never rfl (pi_range1 (by rfl) mr (pa_cons (pe_has D (hr.mono (by decide)) (by rfl) (pa_cons (pv 0) (pa_cons pe_int pa_nil))) pa_nil)) (pg_name (i := 4) scAt.nd rfl (.inl rfl))
        (pss_one (ps_par (i := 2) (j := 3) rfl scAt.nd rfl rfl (by decide) rfl rfl (pa_cons (pe_op op_cat (pv 2) (pe_slice sl_list (pv 3) po_none (po_some pe_int))) (pa_cons (pe_op op_cat (pe_slice sl_list (pv 3) (po_some pe_int) po_none) (pe_slice sl_list (pv 3) po_none (po_some pe_int))) pa_nil)) (by rfl))))
      (pss_one (ps_ret (pe_has L hr (by rfl) (pa_cons (pv 0) (pa_cons (pe_tup (pa_cons (pv 2) (pa_cons (pe_op op_rep (pv 3) (pe_op op_add pe_int (pe_has D (hr.mono (by decide)) (by rfl) (pa_cons (pv 0) (pa_cons pe_int pa_nil))))) pa_nil))) pa_nil))))))), ?_⟩
    obtain ⟨u, x, h1, h2, h3⟩ := hrow.ext hid_up
    have g1 := g.lh
    have g2 := g.la
    have g0 := g.a0
    refine ⟨.ref t, rfl, ix_p0 (.inr h1) ⟨u, _, rfl, sl_of (.inl h2), fun p np => ?_⟩⟩
    have e1 := same_new (o := .lst (hs.map V.int)) np
    refine ⟨.ref t, rfl, ix_p1 (.inr (e1 _ _ h1)) ⟨x, _, rfl, sl_of (.inl (e1 _ _ h3)), fun q nq => ?_⟩⟩
    have e2 := same_new (o := .lst (as.map V.int)) nq
    refine ⟨_, _, rfl, ?_⟩
    have s2 := (hsp.same e1).same e2
    have hp := e2 _ _ (upd_same (H := H) (a := p) (o := .lst (hs.map V.int)))
    refine ⟨.ref l, rfl, l, li, c, 3, rfl, s2, by decide, by decide, by omega, fun H3 r e3 s3 r0 r1 => ?_⟩
    have nl : ∀ {z : Addr} {xs : List Int}, (upd (upd H p (.lst (hs.map V.int))) q (.lst (as.map V.int))) z = some (.lst (xs.map V.int)) → H z = none → z ≠ l ∧ z ≠ li := fun {z xs} h n => hsp.new n
    have np' : H q = none := e1.free nq
    refine ⟨r, rfl, by omega, by omega, ?_⟩
    have E3 : ExtS l li H H3 := (same_S (e1.trans e2)).trans e3
    refine for_range (lo := 0) (n := r.toNat) (fun j σ H' => ∃ (hp ap : Addr) (a4 : Option V) (hj aj : List Int), σ = [some (.ref l), some (.ref t), some (.ref hp), some (.ref ap), a4] ∧ L2.Same H3 H' ∧ H' hp = some (.lst (hj.map V.int)) ∧ H' ap = some (.lst (aj.map V.int)) ∧ H hp = none ∧ H ap = none ∧ (∀ i, figAt hj aj i = figAt hs as i) ∧ Figs 110 hj aj ∧ hj.length = hs.length + j ∧ aj.length = as.length)
      ⟨p, q, none, hs, as, rfl, fun _ _ e => e, e3 _ _ hp (hsp.new np).1 (hsp.new np).2, e3 _ _ upd_same (hsp.new np').1 (hsp.new np').2, np, np', fun _ => rfl, ⟨g.fh, g.fa, by omega, by omega, g0⟩, rfl, rfl⟩ (fun j σ H' hj e => ?_) (fun σ H' e => ?_)
    · obtain ⟨hp, ap, a4, hj, aj, rfl, S', q1, q2, n1, n2, fg, gg, l1, l2⟩ := e
      obtain ⟨y, ys, rfl⟩ : ∃ y ys, aj = y :: ys := by
        cases aj with
        | nil => exact absurd gg.a0 (by decide)
        | cons y ys => exact ⟨y, ys, rfl⟩
      have j2 : j < 2 := by omega
      refine ⟨.ref hp, rfl, .ref ap, rfl, 1, rfl, ap, _, rfl, .inl (.inl q2), fun p1 b1 => ?_⟩
      have c1 : cutV ((y :: ys).map V.int) none (some (1 : Int)) = [V.int y] := by
        have := cutV_take (xs := (y :: ys).map V.int) (l := 1) (by rw [List.length_map]; exact Nat.succ_le_succ (Nat.zero_le _))
        exact this
      have c2 : cutV ((y :: ys).map V.int) (some (1 : Int)) none = ys.map V.int := by
        have := cut_any (xs := (y :: ys).map V.int) 1
        exact this
      rw [c1]
      have t1 := same_new (o := .lst [V.int y]) b1
      refine ⟨hp, p1, _, _, rfl, rfl, t1 _ _ q1, upd_same, ?_, fun p2 b2 => ?_⟩
      · rw [List.length_map, sizeLine_eq]
        show hj.length + 1 ≤ _
        omega
      have t2 := same_new (o := .lst (hj.map V.int ++ [V.int y])) b2
      refine ⟨.ref ap, rfl, 1, rfl, ap, _, rfl, .inl (.inl (t2 _ _ (t1 _ _ q2))), fun p3 b3 => ?_⟩
      rw [c2]
      have t3 := same_new (o := .lst (ys.map V.int)) b3
      refine ⟨.ref ap, rfl, 1, rfl, ap, _, rfl, .inl (.inl (t3 _ _ (t2 _ _ (t1 _ _ q2)))), fun p4 b4 => ?_⟩
      rw [c1]
      have t4 := same_new (o := .lst [V.int y]) b4
      refine ⟨p3, p4, _, _, rfl, rfl, t4 _ _ upd_same, upd_same, ?_, fun p5 b5 => ?_⟩
      · rw [List.length_map, sizeLine_eq]
        show ys.length + 1 ≤ _
        have := gg.la
        rw [List.length_cons] at this
        omega
      have t5 := same_new (o := .lst (ys.map V.int ++ [V.int y])) b5
      have T := t1.trans (t2.trans (t3.trans (t4.trans t5)))
      have hne : ∀ {z : Addr} {G : Hp}, ExtS l li H G → Spr G l li (c + 1) → G z = none → H z = none := fun e s n => ext_none e n (s.new n).1 (s.new n).2
      have E' : ExtS l li H H' := E3.trans (same_S S')
      refine ⟨_, _, rfl, p2, p5, _, hj ++ [y], ys ++ [y], rfl, S'.trans T, ?_, ?_, ?_, ?_, fun i => by rw [fig_roll, fg], ⟨fun n hn => ?_, fun n hn => ?_, by rw [List.length_append, l1]; show hs.length + j + 1 ≤ 110; omega, ?_, by simp⟩, by rw [List.length_append, l1]; rfl, ?_⟩
      · rw [List.map_append]
        exact t5 _ _ (t4 _ _ (t3 _ _ upd_same))
      · rw [List.map_append]
        exact upd_same
      · exact hne (E'.trans (same_S t1)) ((s3.same S').same t1) b2
      · exact hne (E'.trans (same_S (t1.trans (t2.trans (t3.trans t4))))) ((s3.same S').same (t1.trans (t2.trans (t3.trans t4)))) b5
      · rcases List.mem_append.mp hn with hn | hn
        · exact gg.fh n hn
        · rw [List.mem_singleton.mp hn]
          exact gg.fa y (List.mem_cons_self ..)
      · rcases List.mem_append.mp hn with hn | hn
        · exact gg.fa n (List.mem_cons_of_mem _ hn)
        · rw [List.mem_singleton.mp hn]
          exact gg.fa y (List.mem_cons_self ..)
      · rw [List.length_append]
        show ys.length + 1 ≤ 110
        have := gg.la
        rw [List.length_cons] at this
        omega
      · rw [List.length_append]
        rw [List.length_cons] at l2
        exact l2
    · obtain ⟨hp, ap, a4, hj, aj, rfl, S', q1, q2, n1, n2, fg, gg, l1, l2⟩ := e
      have hpn := hsp.new n1
      have apn := hsp.new n2
      have sH := s3.same S'
      have E' : ExtS l li H H' := E3.trans (same_S S')
      refine ⟨.ref l, rfl, .ref hp, rfl, .ref ap, rfl, .ref l, rfl, l, li, c + 1, 2, rfl, sH, by decide, by decide, by omega, fun H5 r2 e5 s5 w0 w1 => ?_⟩
      have qa := e5 _ _ q2 apn.1 apn.2
      have qh := e5 _ _ q1 hpn.1 hpn.2
      have ag := gg.la
      have hg := gg.lh
      refine ⟨1, r2, rfl, rfl, ap, 1 + r2, _, rfl, rfl, qa, by omega, by omega, ?_, fun z nz => ⟨small4 2, fun t2 nt => ?_⟩⟩
      · rw [List.length_map, sizeLine_eq]
        have q : (1 + r2).toNat ≤ 2 := by omega
        have := Nat.mul_le_mul ag q
        omega
      obtain ⟨bs, eb, fb, lb1, lb2⟩ : ∃ bs : List Int, (List.replicate (1 + r2).toNat (aj.map V.int)).flatten = bs.map V.int ∧ (∀ i, figAt hj bs i = figAt hs as i) ∧ bs.length ≤ as.length + as.length ∧ ((∀ n ∈ bs, isF (.int n) = true) ∧ 0 < bs.length) := by
        rcases Int.lt_or_le r2 1 with c0 | c0
        · have q : (1 + r2).toNat = 1 := by omega
          rw [q]
          exact ⟨aj, by simp, fg, by omega, gg.fa, gg.a0⟩
        · have q : (1 + r2).toNat = 2 := by omega
          rw [q]
          refine ⟨aj ++ aj, by simp [List.replicate], fun i => by rw [fig_twice gg.a0, fg], by rw [List.length_append]; omega, fun n hn => ?_, by rw [List.length_append]; have := gg.a0; omega⟩
          rcases List.mem_append.mp hn with hn | hn <;> exact gg.fa n hn
      rw [eb] at nt ⊢
      have t1 := same_new (o := .lst (bs.map V.int)) nz
      have t2' := same_new (o := .tup [.ref hp, .ref z]) nt
      have E5 : ExtS l li H (upd (upd H5 z (.lst (bs.map V.int))) t2 (.tup [.ref hp, .ref z])) := (E'.trans e5).trans (same_S (t1.trans t2'))
      have s6 := (s5.same t1).same t2'
      have ins6 := ins_S ins E5 s6
      have ins5 := ins_S ins (E'.trans e5) s5
      have jl : hj.length ≤ hs.length + 2 := by rw [l1]; omega
      have gb : Figs 210 hj bs := ⟨gg.fh, lb2.1, by omega, by omega, lb2.2⟩
      have th : Th (Hid S (upd (upd H5 z (.lst (bs.map V.int))) t2 (.tup [.ref hp, .ref z]))) (.ref t2) (.tuple [.list (hj.map PyData.int), .list (bs.map PyData.int)]) := by
        refine .tup (hid_of ((ins5.same t1).new nt) upd_same (fun ps y => nomatch y)) (.cons (.lst (hid_of (fun m => ?_) (t2' _ _ (t1 _ _ qh)) (fun ps y => nomatch y)) (th_list hj)) (.cons (.lst (hid_of (ins5.new nz) (t2' _ _ upd_same) (fun ps y => nomatch y)) (th_list bs)) .nil))
        obtain ⟨o, q⟩ := ins hp m
        rw [n1] at q
        cases q
      obtain ⟨fit, sz⟩ := fit_pair (hs := hj) (as := bs) (by omega) (by omega)
      refine ⟨S, l, li, c + 1 + 1, .ref t2, _, rfl, m1, m2, ins6, th, fit, s6, by rw [sz]; omega, fun H7 v' d' c7 e7 s7 b7 t7 ld => ?_⟩
      rw [sz] at b7
      exact k H7 v' hj bs c7 (E5.trans e7) s7 (by omega) (ld_end t7 ld gb (by decide)) fb gb jl lb1
end
end K14
namespace K14
open PySem PySem.W PySem.Calls PyProof.Rows L2 LamX
open He (ga)
open Kz (SS ExtS ExtS.trans ExtS.refl small4 same_new boot_in boot_li new_ext Has pe_has noE Rd RdAll HasG pe_hasG FnG)
/-! ### calls by keywords alone, both turned about -/
def revG : List Value → List Value → List Value
  | [], ws => ws.reverse
  | _, _ => []
def revV : List V → List V → List V
  | [], zs => zs.reverse
  | _, _ => []
theorem vals_snoc {v : V} {u : Value} (r : RelV v u) : ∀ {vs : List V} {us : List Value}, Vals vs us → Vals (vs ++ [v]) (us ++ [u])
  | _, _, .nil => .cons r .nil
  | _, _, .cons a t => .cons a (vals_snoc r t)
theorem vals_rev : ∀ {vs : List V} {us : List Value}, Vals vs us → Vals vs.reverse us.reverse
  | _, _, .nil => .nil
  | _, _, .cons a t => by
    rw [List.reverse_cons, List.reverse_cons]
    exact vals_snoc a (vals_rev t)
theorem kb_rev {K : Frag} {x qual : Str} {params : Arguments} {body : List Stmt} {scope : Scope} {f : Addr} {fd : FuncData} {p1 p2 : Str} (F : FunD K x qual params body scope [] [] f fd)
    (h : ∀ (kV doc pm : Value) (an : Option Addr) (cdv ct a b : Value), bindArgs (fnOf x qual params body scope .none kV doc pm an cdv ct) ⟨[], [(p2, a), (p1, b)]⟩ = pure [(p1, b), (p2, a)]) : KBinds K fd [p1, p2] [p2, p1] revG revV := by
  obtain ⟨oc, od, dV, kV, doc, pm, an, cdv, ct, osl, rfl, lk, hcd, hD, hK⟩ := F.ex
  rcases hD with ⟨_, rfl⟩ | ⟨e, _⟩
  · refine ⟨fun s us ws _ hl => ?_, fun {vs us zs ws} r1 r2 => ?_⟩
    · cases us with
      | cons _ _ => exact absurd (show 0 = 2 from hl) (by decide)
      | nil =>
        have hl : ws.reverse.length = 2 := hl
        rw [List.length_reverse] at hl
        match ws, hl with
        | [a, b], _ => exact .of_eq (h kV doc pm an cdv ct a b)
    · cases r1 with
      | nil => exact vals_rev r2
      | cons _ _ => exact .nil
  · exact absurd rfl e
def HasK (P : Program) (w : World) (K : Frag) (mg : Str → Option Value) (base : Heap) (x : Str) (k : Nat) (p1 p2 : Str) (sp : Sp) : Prop := ∃ f fd, mg x = some (.ref f) ∧ keepIn K (.ref f) = true ∧ KBinds K fd [p1, p2] [p2, p1] revG revV ∧ FnOk P w K mg base CX0 k f fd [p1, p2] sp
def tCallR (sp : Sp) (t1 t2 : TE) : TE := fun σ H Q => t2 σ H fun b H1 => t1 σ H1 fun a H2 => sp [a, b] H2 Q noE
theorem pe_hasK {X : Cx} {x p1 p2 : Str} {k : Nat} {sp : Sp} {e1 e2 : Expr} {t1 t2 : TE} {p pos q1 q2 : Pos} (h : HasK X.prog X.w X.K X.mg X.base x k p1 p2 sp) (hr : Room k X.A) (hg : Gl X x) (h2 : PE X e2 t2) (h1 : PE X e1 t1) (hdb : (x == ("__debug__" : Str)) = false := by decide) :
    PE X (.Call (.Name x p) [] [⟨some p2, e2, q2⟩, ⟨some p1, e1, q1⟩] pos) (tCallR sp t1 t2) := by
  obtain ⟨f, fd, hm, hk, hb, F⟩ := h
  refine ⟨fun pins s σ H Q I q => ?_⟩
  refine wpAny_Call_Name_kw (ld_glob I hg hm ?_ hdb)
  refine callWith_KW0 (h₀ := X.base) I.ok.mod.kin hk (by rfl) ?_ (by rfl)
  refine thn ((pk_cons h2 (pk_cons h1 pk_nil)).run pos pins s σ H (fun zs H2 => sp zs.reverse H2 Q noE) I q) fun ws s2 ⟨zs, H2, I2, rz, q2⟩ => ⟨I2.kIn, ?_⟩
  exact run_fnk (us := []) (vs := []) F hr hb pass0 I2 .nil rz q2
/-! ### what repr shows of a row -/
/-- d may be shown -/
structure Shows (H : Hp) (v : V) (d : PyData) : Prop where
  rd : ∃ as, Rd H v d as
  ok : d.showable = true
  nd : d.hasDict = false
  dp : d.depth ≤ 20
  sz : d.shown.length ≤ sizeLine
theorem Shows.ext {H H1 : Hp} {v : V} {d : PyData} (s : Shows H v d) (e : L2.Same H H1) : Shows H1 v d := by
  obtain ⟨as, r⟩ := s.rd
  exact ⟨⟨as, r.ext fun b o h _ => e b o h⟩, s.ok, s.nd, s.dp, s.sz⟩
theorem rd_ints {H : Hp} : ∀ ns : List Int, RdAll H (ns.map V.int) (ns.map PyData.int) (ns.map fun _ => ([] : List Addr)).flatten
  | [] => .nil
  | n :: ns => .cons (.int n) (rd_ints ns)
theorem small_fig {n : Int} (h : isF (.int n) = true) : n = 0 ∨ n = 1 := by
  obtain ⟨a, b⟩ := Bool.and_eq_true_iff.mp (show (decide (0 ≤ n) && decide (n ≤ 1)) = true from h)
  have := of_decide_eq_true a
  have := of_decide_eq_true b
  omega
theorem show_ints : ∀ {ns : List Int}, (∀ n ∈ ns, isF (.int n) = true) → PyData.showableAll (ns.map PyData.int) = true ∧ PyData.hasDictAll (ns.map PyData.int) = false ∧ PyData.leavesShortAll 8 (ns.map PyData.int) = true ∧ PyData.depthAll (ns.map PyData.int) = 0
  | [], _ => ⟨rfl, rfl, rfl, rfl⟩
  | n :: ns, h => by
    obtain ⟨a, b, c, d⟩ := show_ints fun m hm => h m (List.mem_cons_of_mem _ hm)
    have q := small_fig (h n (List.mem_cons_self ..))
    refine ⟨?_, ?_, ?_, ?_⟩
    · show (PyData.showable (.int n) && PyData.showableAll (ns.map PyData.int)) = true
      rw [a, Bool.and_true]
      rcases q with rfl | rfl <;> decide
    · show (PyData.hasDict (.int n) || PyData.hasDictAll (ns.map PyData.int)) = false
      rw [b]
      rfl
    · show (PyData.leavesShort 8 (.int n) && PyData.leavesShortAll 8 (ns.map PyData.int)) = true
      rw [c, Bool.and_true]
      rcases q with rfl | rfl <;> decide +kernel
    · simp only [List.map_cons, PyData.depthAll, PyData.depth, d]
      rfl
theorem weight_ints : ∀ {ns : List Int}, (∀ n ∈ ns, isF (.int n) = true) → PyData.weightAll (ns.map PyData.int) ≤ 2 * ns.length
  | [], _ => by simp [PyData.weightAll]
  | n :: ns, h => by
    have := weight_ints fun m hm => h m (List.mem_cons_of_mem _ hm)
    have q : (PyData.int n).weight ≤ 1 := by
      rcases small_fig (h n (List.mem_cons_self ..)) with rfl | rfl <;> decide
    simp only [List.map_cons, PyData.weightAll, List.length_cons]
    omega
theorem row_shows {H : Hp} {v : V} {x : PyData} {ns : List Int} (t : Th H v x) (l : isL x = true) (e : its x = ns.map PyData.int) (f : ∀ n ∈ ns, isF (.int n) = true) : (∃ as, Rd H v x as) ∧ x.showable = true ∧ x.hasDict = false ∧ x.leavesShort 8 = true ∧ x.depth ≤ 1 ∧ x.weight ≤ 2 * ns.length := by
  obtain ⟨a, b, c, d⟩ := show_ints f
  have w := weight_ints f
  cases t with
  | lst h r =>
    have e : _ = ns.map PyData.int := e
    subst e
    rw [th_ints r] at h
    exact ⟨⟨_, .lst h (rd_ints ns)⟩, a, b, c, by simp only [PyData.depth, d]; omega, by simpa only [PyData.weight] using w⟩
  | tup h r =>
    have e : _ = ns.map PyData.int := e
    subst e
    rw [th_ints r] at h
    exact ⟨⟨_, .tup h (rd_ints ns)⟩, a, b, c, by simp only [PyData.depth, d]; omega, by simpa only [PyData.weight] using w⟩
  | _ => exact absurd (show false = true from l) Bool.false_ne_true
theorem end_shows {H : Hp} {v : V} {hs as : List Int} {b : Nat} (h : EndV H v hs as) (g : Figs b hs as) (hb : b ≤ 500) : ∃ d, Shows H v d := by
  obtain ⟨x, y, d, t, e, q, hx, hy, p0, p1, p2⟩ := h
  have e' : (isL d && (isR x && (isR y && decide (0 < (its y).length)))) = true := by
    unfold isE at e
    rw [q] at e
    exact e
  obtain ⟨e1, e2⟩ := Bool.and_eq_true_iff.mp e'
  obtain ⟨e3, e4⟩ := Bool.and_eq_true_iff.mp e2
  obtain ⟨e5, e6⟩ := Bool.and_eq_true_iff.mp e4
  have lx := (Bool.and_eq_true_iff.mp (show (isL x && _) = true from e3)).1
  have ly := (Bool.and_eq_true_iff.mp (show (isL y && _) = true from e5)).1
  have g1 := g.lh
  have g2 := g.la
  have go : ∀ {p r : V}, Th H p x → Th H r y → (∃ as, Rd H p x as) ∧ (∃ as, Rd H r y as) ∧ (x.showable && (y.showable && true)) = true ∧ (x.hasDict || (y.hasDict || false)) = false ∧ (x.leavesShort 8 && (y.leavesShort 8 && true)) = true ∧ x.depth ≤ 1 ∧ y.depth ≤ 1 ∧ x.weight ≤ 2 * hs.length ∧ y.weight ≤ 2 * as.length := fun tx ty => by
    obtain ⟨a1, a2, a3, a4, a5, a6⟩ := row_shows tx lx hx g.fh
    obtain ⟨b1, b2, b3, b4, b5, b6⟩ := row_shows ty ly hy g.fa
    exact ⟨a1, b1, by rw [a2, b2]; rfl, by rw [a3, b3]; rfl, by rw [a4, b4]; rfl, a5, b5, a6, b6⟩
  refine ⟨d, ?_⟩
  cases t with
  | lst h r =>
    have q : _ = [x, y] := q
    subst q
    cases r with
    | cons tx r =>
      cases r with
      | cons ty r =>
        cases r
        obtain ⟨⟨a1, w1⟩, ⟨b1, w2⟩, s1, s2, s3, s4, s5, s6, s7⟩ := go tx ty
        refine ⟨⟨_, .lst h (.cons w1 (.cons w2 .nil))⟩, s1, s2, by simp only [PyData.depth, PyData.depthAll]; omega, PyData.shown_fits (B := 8) (by decide) (by decide) s3 ?_⟩
        simp only [PyData.weight, PyData.weightAll]
        omega
  | tup h r =>
    have q : _ = [x, y] := q
    subst q
    cases r with
    | cons tx r =>
      cases r with
      | cons ty r =>
        cases r
        obtain ⟨⟨a1, w1⟩, ⟨b1, w2⟩, s1, s2, s3, s4, s5, s6, s7⟩ := go tx ty
        refine ⟨⟨_, .tup h (.cons w1 (.cons w2 .nil))⟩, s1, s2, by simp only [PyData.depth, PyData.depthAll]; omega, PyData.shown_fits (B := 8) (by decide) (by decide) s3 ?_⟩
        simp only [PyData.weight, PyData.weightAll]
        omega
  | _ => exact absurd (show false = true from e1) Bool.false_ne_true
end K14
namespace K14
open PySem PySem.W PySem.Calls PyProof.Rows L2 LamX
open He (ga)
open Kz (SS ExtS ExtS.trans ExtS.refl small4 same_new boot_in boot_li new_ext Has pe_has noE HasG pe_hasG FnG call_repr boot_rp PSs.of_eq)
abbrev sRr : Stmt := topS 40
abbrev Nrr : List Str := ["stream", "row", "many", "passed", "kept", "found", "figures", "due"]
theorem scRr : FnScope Nrr ["stream", "row"] (defScope sRr) := ⟨rfl, rfl, rfl, by decide +kernel, rfl, by decide +kernel, by decide +kernel⟩
def bodyOf : Stmt → List Stmt
  | .For _ _ b .. => b
  | _ => []
def stR (i : Nat) : Stmt := (defBody sRr).getD i (.Pass ⟨0, 0, 0, 0⟩)
def stB (i : Nat) : Stmt := (bodyOf (stR 0)).getD i (.Pass ⟨0, 0, 0, 0⟩)
theorem bdR : defBody sRr = [stR 0, stR 1, stR 2] := by rfl
theorem bdB : bodyOf (stR 0) = [stB 0, stB 1, stB 2, stB 3, stB 4, stB 5, stB 6, stB 7, stB 8] := by rfl
/-- what the law's tests call -/
structure RrK (P : Program) (w : World) (K : Frag) (mg : Str → Option Value) (base : Heap) : Prop where
  dr : Has P w K mg base "_law_draw" 1 ["stream", "many"] spDrW
  fr : Has P w K mg base "_law_f_row" 2 ["stream", "many"] spFr
  at_ : Has P w K mg base "_law_f_as_told" 5 ["stream", "row"] spAt
  lo : Has P w K mg base "_law_loose" 4 ["stream", "thing"] (spLo 2)
  sm : Has P w K mg base "_law_same" 7 ["found", "due"] (spSm 6)
  be : Has P w K mg base "_law_below" 2 ["row", "many"] spBe
  ls : Has P w K mg base "_law_f_least" 1 ["head", "again"] (spLst K)
  lt : Has P w K mg base "_law_f_tops" 1 ["row", "many"] spLtops
  tp : Has P w K mg base "tops" 6 ["endless", "many"] spTops
  dt : Has P w K mg base "drop_tops" 7 ["endless", "many"] (spDrop K)
  pa : Has P w K mg base "put_all" 7 ["figures", "endless"] (spPut K)
  fu : Has P w K mg base "first_unlike" 6 ["endless", "other"] spUnl
  tpk : HasK P w K mg base "tops" 6 "endless" "many" spTops
  dtk : HasK P w K mg base "drop_tops" 7 "endless" "many" (spDrop K)
  pak : HasK P w K mg base "put_all" 7 "figures" "endless" (spPut K)
  fuk : HasK P w K mg base "first_unlike" 6 "endless" "other" spUnl
  nl : mg "len" = none
  np : mg "repr" = none
  nr : mg "range" = none
theorem fitS_int (n : Nat) (i : Int) : fitS n (.int i) = true := by cases n <;> rfl
theorem fitS_ints (n : Nat) {ns : List Int} (h : ns.length ≤ 1000) : fitS (n + 1) (.list (ns.map .int)) = true := by
  show (decide ((ns.map PyData.int).length ≤ 1000) && (ns.map PyData.int).all (fitS n)) = true
  rw [List.length_map, decide_eq_true h, Bool.true_and]
  refine List.all_eq_true.mpr fun d hd => ?_
  obtain ⟨i, _, rfl⟩ := List.mem_map.mp hd
  exact fitS_int n i
theorem fitS_pair (n : Nat) {hs as : List Int} (h1 : hs.length ≤ 1000) (h2 : as.length ≤ 1000) : fitS (n + 2) (.tuple [.list (hs.map .int), .list (as.map .int)]) = true := by
  show (decide (2 ≤ 1000) && (fitS (n + 1) (.list (hs.map .int)) && (fitS (n + 1) (.list (as.map .int)) && true))) = true
  rw [fitS_ints n h1, fitS_ints n h2]
  rfl
theorem fig_isF {hs as : List Int} {b : Nat} (g : Figs b hs as) (i : Nat) : isF (.int (figAt hs as i)) = true := by
  unfold figAt
  split
  · rename_i h
    rw [List.getD_eq_getElem?_getD, List.getElem?_eq_getElem h]
    exact g.fh _ (List.getElem_mem _)
  · have h := Nat.mod_lt (i - hs.length) g.a0
    rw [List.getD_eq_getElem?_getD, List.getElem?_eq_getElem h]
    exact g.fa _ (List.getElem_mem _)
theorem tops_isF {hs as : List Int} {b : Nat} (g : Figs b hs as) (m : Nat) : ∀ n ∈ lawTops hs as m, isF (.int n) = true := fun n hn => by
  rw [lawTops_eq g.a0] at hn
  obtain ⟨i, _, rfl⟩ := List.mem_map.mp hn
  exact fig_isF g i
theorem tops_len {hs as : List Int} {b : Nat} (g : Figs b hs as) (m : Nat) : (lawTops hs as m).length = m := by rw [lawTops_eq g.a0, List.length_map, List.length_range]
/-- the first m put on what lies beneath them -/
theorem tops_drop {hs as h a : List Int} {b m : Nat} (g : Figs b hs as) (il : IsLeast (dropH hs m) (dropA hs as m) h a) (i : Nat) : figAt (lawTops hs as m ++ h) a i = figAt hs as i := by
  have d := drop_figs (m := m) g
  rw [fig_app, tops_len g]
  split
  · rename_i c
    rw [lawTops_eq g.a0, List.getD_eq_getElem?_getD, List.getElem?_map, List.getElem?_range c]
    rfl
  · rename_i c
    rw [(least_fig d.a0 il).fig]
    unfold dropH dropA
    rw [fig_drop g.a0]
    congr 1
    omega
section
variable {P : Program} {w : World} {K : Frag} {mg : Str → Option Value} {base : Heap}
abbrev XRr (P : Program) (w : World) (K : Frag) (mg : Str → Option Value) (base : Heap) (f : Addr) (cdv : Value) (A : Around) (outer : List Env) (s : Shared) (H : Hp) (XE : XK) : Cx := (cxOf CX0 P w K mg base Nrr "_law_row_right" (defScope sRr) f cdv A outer s H XE).nox
def spRr : Sp := fun vs H Q _ => ∃ (l li t : Addr) (c : Int) (hs as : List Int), vs = [.ref l, .ref t] ∧ RowT (Hid [l, li] H) t hs as ∧ Figs 4 hs as ∧ Spr H l li c ∧ c < 500000000 ∧ ∀ (H' : Hp) (c' : Int), ExtS l li H H' → Spr H' l li c' → c' ≤ c + 500 → Q (.bl true) H'
theorem ok_rr {f : Addr} {fd : FuncData} (F : FunD K "_law_row_right" "_law_row_right" (defArgs sRr) (defBody sRr) (defScope sRr) [] [] f fd) (L : RrK P w K mg base) : FnG P w K mg base CX0 8 f fd ["stream", "row"] spRr := by
  refine Kz.FunD.okG F scRr (fun vs H Q E h => ?_) (fun cdv A outer s H vs Q XE hg hr h => ?_)
  · obtain ⟨l, li, t, c, hs, as, rfl, _⟩ := h
    rfl
  · obtain ⟨l, li, t, c, hs, as, rfl, hrow, g, hsp, hc, k⟩ := h
    have hr0 := hr.mono (j := 0) (by decide)
    have b0 : PS (XRr P w K mg base f cdv A outer s H XE) (stB 0) _ := ps_set (i := 3) scRr.nd rfl (.inl rfl) (pe_has L.at_ (hr.mono (by decide)) (by rfl) (pa_cons (pv 0) (pa_cons (pv 1) pa_nil)))
    have b1 : PS (XRr P w K mg base f cdv A outer s H XE) (stB 1) _ := ps_set (i := 4) scRr.nd rfl (.inl rfl) (pe_callB (call_repr hg hr0) (by rfl) L.np boot_rp (pa_cons (pv 3) pa_nil))
    have b2 : PS (XRr P w K mg base f cdv A outer s H XE) (stB 2) _ := ps_set (i := 5) scRr.nd rfl (.inl rfl) (pe_lst (pa_cons (pe_has L.tp (hr.mono (by decide)) (by rfl) (pa_cons (pv 3) (pa_cons (pv 2) pa_nil))) (pa_cons (pe_hasK L.tpk (hr.mono (by decide)) (by rfl) (pv 2) (pv 1)) (pa_cons (pe_has L.dt hr (by rfl) (pa_cons (pv 3) (pa_cons (pv 2) pa_nil))) pa_nil))))
    have b3 : PS (XRr P w K mg base f cdv A outer s H XE) (stB 3) _ := ps_if ((pw_or (pt_not (pt_val (pe_has L.sm hr (by rfl) (pa_cons (pv 5) (pa_cons (pe_op op_cat (pe_op op_rep (pe_lst (pa_cons (pe_has L.lt (hr.mono (by decide)) (by rfl) (pa_cons (pv 1) (pa_cons (pv 2) pa_nil))) pa_nil)) pe_int) (pe_lst (pa_cons (pe_has L.be (hr.mono (by decide)) (by rfl) (pa_cons (pv 1) (pa_cons (pv 2) pa_nil))) pa_nil))) pa_nil)))))
      (pw_or1 (pt_cmpR op_ne (pe_callB (call_repr hg hr0) (by rfl) L.np boot_rp (pa_cons (pv 3) pa_nil)) (pv 4) (nomark _)))).pt) (pss_one (ps_ret pe_bl)) pss_nil
    have b4 : PS (XRr P w K mg base f cdv A outer s H XE) (stB 4) _ := ps_set (i := 6) scRr.nd rfl (.inl rfl) (pe_has L.fr (hr.mono (by decide)) (by rfl) (pa_cons (pv 0) (pa_cons pe_int pa_nil)))
    have b5 : PS (XRr P w K mg base f cdv A outer s H XE) (stB 5) _ := ps_set (i := 7) scRr.nd rfl (.inl rfl) (pe_has L.ls (hr.mono (by decide)) (by rfl) (pa_cons (pe_op op_cat (pv 6) (pe_ix ix_seq (pv 1) pe_int (fun _ _ => rfl))) (pa_cons (pe_ix ix_seq (pv 1) pe_int (fun _ _ => rfl)) pa_nil)))
    have b6 : PS (XRr P w K mg base f cdv A outer s H XE) (stB 6) _ := ps_set (i := 5) scRr.nd rfl (.inl rfl) (pe_lst (pa_cons (pe_has L.pa hr (by rfl) (pa_cons (pe_has L.lo (hr.mono (by decide)) (by rfl) (pa_cons (pv 0) (pa_cons (pv 6) pa_nil))) (pa_cons (pv 3) pa_nil))) (pa_cons (pe_hasK L.pak hr (by rfl) (pv 1) (pv 6)) pa_nil)))
    have b7 : PS (XRr P w K mg base f cdv A outer s H XE) (stB 7) _ := ps_if (pt_not (pt_val (pe_has L.sm hr (by rfl) (pa_cons (pv 5) (pa_cons (pe_op op_rep (pe_lst (pa_cons (pv 7) pa_nil)) pe_int) pa_nil))))) (pss_one (ps_ret pe_bl)) pss_nil
    have b8 : PS (XRr P w K mg base f cdv A outer s H XE) (stB 8) _ := ps_if (pt_not (pt_val (pe_has L.sm hr (by rfl) (pa_cons (pe_has L.pa hr (by rfl) (pa_cons (pe_has L.lt (hr.mono (by decide)) (by rfl) (pa_cons (pv 1) (pa_cons (pv 2) pa_nil))) (pa_cons (pe_has L.be (hr.mono (by decide)) (by rfl) (pa_cons (pv 1) (pa_cons (pv 2) pa_nil))) pa_nil)))
      (pa_cons (pe_has L.ls (hr.mono (by decide)) (by rfl) (pa_cons (pe_ix ix_seq (pv 1) pe_int (fun _ _ => rfl)) (pa_cons (pe_ix ix_seq (pv 1) pe_int (fun _ _ => rfl)) pa_nil))) pa_nil))))) (pss_one (ps_ret pe_bl)) pss_nil
    have r0 : PS (XRr P w K mg base f cdv A outer s H XE) (stR 0) _ := ps_for PassesOwn.never rfl (pi_tup (pe_tup (pa_cons pe_int (pa_cons pe_int (pa_cons (pe_has L.dr (hr.mono (by decide)) (by rfl) (pa_cons (pv 0) (pa_cons pe_int pa_nil))) (pa_cons (pe_has L.dr (hr.mono (by decide)) (by rfl) (pa_cons (pv 0) (pa_cons pe_int pa_nil))) (pa_cons (pe_callB call_len_seq (by rfl) L.nl boot_len (pa_cons (pe_ix ix_seq (pv 1) pe_int (fun _ _ => rfl)) pa_nil)) pa_nil))))))) (pg_name (i := 2) scRr.nd rfl (.inl rfl))
      (PSs.of_eq bdB (pss_cons b0 (pss_cons b1 (pss_cons b2 (pss_cons b3 (pss_cons b4 (pss_cons b5 (pss_cons b6 (pss_cons b7 (pss_one b8))))))))))
    have r1 : PS (XRr P w K mg base f cdv A outer s H XE) (stR 1) _ := ps_set (i := 2) scRr.nd rfl (.inl rfl) (pe_op op_add pe_int (pe_has L.dr (hr.mono (by decide)) (by rfl) (pa_cons (pv 0) (pa_cons pe_int pa_nil))))
    have r2 : PS (XRr P w K mg base f cdv A outer s H XE) (stR 2) _ := ps_ret (pe_has L.sm hr (by rfl) (pa_cons (pe_hasK L.dtk hr (by rfl) (pv 2) (pv 1)) (pa_cons (pe_has L.be (hr.mono (by decide)) (by rfl) (pa_cons (pv 1) (pa_cons (pv 2) pa_nil))) pa_nil)))
    have PP := PSs.of_eq bdR (pss_cons r0 (pss_cons r1 (pss_one r2)))
    clear r0 r1 r2 b0 b1 b2 b3 b4 b5 b6 b7 b8
    refine ⟨_, PSs.nox PP, ?_⟩
    clear PP
    have m1 : l ∈ [l, li] := by simp
    have m2 : li ∈ [l, li] := by simp
    have a0 := g.a0
    have lh := g.lh
    have la := g.la
    have rowE : ∀ {G : Hp}, ExtS l li H G → EndV G (.ref t) hs as := fun e => ((hrow.ext (hid_S m1 m2 e)).ext hid_up).end_ g
    have rowT : ∀ {G : Hp}, ExtS l li H G → RowT G t hs as := fun e => (hrow.ext (hid_S m1 m2 e)).ext hid_up
    have g400 : Figs 400 hs as := ⟨g.fh, g.fa, by omega, by omega, a0⟩
    have dg : ∀ m, Figs 400 (dropH hs m) (dropA hs as m) := fun m => drop_figs g400
    -- the tuple of numbers
    refine ⟨.ref l, rfl, l, li, c, 12, rfl, hsp, by decide, by decide, by omega, fun H1 q1 e1 s1 q10 q11 => ?_⟩
    refine ⟨.ref l, rfl, l, li, c + 1, 200, rfl, s1, by decide, by decide, by omega, fun H2 q2 e2 s2 q20 q21 => ?_⟩
    have E2 := e1.trans e2
    obtain ⟨u, x, h1, h2, h3⟩ := rowT E2
    refine ⟨.ref t, rfl, ix_p0 (.inr h1) ⟨u, _, rfl, .inl (.inl (.inl h2)), small4 5, fun tp ntp => ⟨tp, rfl, ⟨_, .inl (.inl upd_same)⟩, ?_⟩⟩⟩
    have lhm : (hs.map V.int).length = hs.length := List.length_map ..
    have nums : ∀ y ∈ ([.int 0, .int 1, .int q1, .int q2, .int ((hs.map V.int).length : Int)] : List V), ∃ m : Nat, y = .int (m : Nat) ∧ m ≤ 200 := fun y hy => by
      simp only [List.mem_cons, List.not_mem_nil, or_false] at hy
      rcases hy with rfl | rfl | rfl | rfl | rfl
      · exact ⟨0, rfl, by decide⟩
      · exact ⟨1, rfl, by decide⟩
      · exact ⟨q1.toNat, by rw [Int.toNat_of_nonneg q10], by omega⟩
      · exact ⟨q2.toNat, by rw [Int.toNat_of_nonneg q20], by omega⟩
      · exact ⟨hs.length, by rw [lhm], by omega⟩
    have ltp := s2.new ntp
    have ln : ([.int 0, .int 1, .int q1, .int q2, .int ((hs.map V.int).length : Int)] : List V).length = 5 := rfl
    generalize ([.int 0, .int 1, .int q1, .int q2, .int ((hs.map V.int).length : Int)] : List V) = nms at nums ln ⊢
    have eT : ExtS l li H (upd H2 tp (.tup nms)) := E2.trans (same_S (same_new ntp))
    have sT := s2.same (same_new (o := .tup nms) ntp)
    have qT := upd_same (H := H2) (a := tp) (o := .tup nms)
    have rowE' := fun {G : Hp} (e : ExtS l li (upd H2 tp (.tup nms)) G) => rowE (eT.trans e)
    have rowT' := fun {G : Hp} (e : ExtS l li (upd H2 tp (.tup nms)) G) => rowT (eT.trans e)
    have hrow' := hrow.ext (hid_S m1 m2 eT)
    clear rowE rowT hrow
    generalize upd H2 tp (.tup nms) = HT at eT sT qT rowE' rowT' hrow' ⊢
    refine for_tup (xs := nms) (fun j σ G => ∃ (a2 a3 a4 a5 a6 a7 : Option V) (c' : Int), σ = [some (.ref l), some (.ref t), a2, a3, a4, a5, a6, a7] ∧ ExtS l li HT G ∧ Spr G l li c' ∧ c' ≤ c + 2 + 60 * (j : Nat))
      ⟨none, none, none, none, none, none, c + 1 + 1, rfl, .refl, sT, by omega⟩ (fun j σ G _ e => ?_) (fun j y σ G hy e => ?_) (fun σ G e => ?_)
    · obtain ⟨_, _, _, _, _, _, _, _, e, _⟩ := e
      exact .inl (.inl (e _ _ qT ltp.1 ltp.2))
    · obtain ⟨a2, a3, a4, a5, a6, a7, c0, rfl, E0, s0, b0⟩ := e
      obtain ⟨m, rfl, hm⟩ := nums y (List.mem_of_getElem? hy)
      have j5 : j < 5 := by
        rcases Nat.lt_or_ge j nms.length with z | z
        · omega
        · rw [List.getElem?_eq_none z] at hy
          cases hy
      have g100 : Figs 100 hs as := ⟨g.fh, g.fa, by omega, by omega, a0⟩
      -- passed
      refine ⟨.ref l, rfl, .ref t, rfl, [l, li], l, li, t, c0, hs, as, rfl, m1, m2, s0.ins, hrow'.ext (hid_S m1 m2 E0), g100, s0, by omega, fun G1 v hs2 as2 c1 e1' s1' b1' hE fb g2 l1 l2 => ?_⟩
      have E1 := E0.trans e1'
      obtain ⟨d, sh⟩ := end_shows hE g2 (by decide)
      have sh1 := sh.ext hid_up
      have hE1 := hE.ext hid_up
      obtain ⟨pa, _, _, rfl, _, _, _⟩ := hE1.parts
      obtain ⟨ads, rd1⟩ := sh1.rd
      have z0 := g2.a0
      -- kept
      refine ⟨.ref pa, rfl, pa, d, ads, rfl, rd1, sh1.ok, (fun z => absurd (sh1.nd.symm.trans z) (fun y => nomatch y)), sh1.dp, sh1.sz, ?_⟩
      -- found
      refine ⟨.ref pa, rfl, .int (m : Nat), rfl, .ref pa, hs2, as2, m, rfl, hE1, by omega, fun G2 t1 e2' n1 q1' => ?_⟩
      refine ⟨.int (m : Nat), rfl, .ref t, rfl, .ref t, hs, as, m, rfl, rowE' (E1.trans (same_S e2')), by omega, fun G3 t2 e3' n2 q2' => ?_⟩
      have S3 := e2'.trans e3'
      refine ⟨.ref pa, rfl, .int (m : Nat), rfl, .ref pa, hs2, as2, m, rfl, hE1.ext S3, by omega, fun G4 t3 u3 x3 hs3 as3 e4' w1 w2 w3 n3 n4 n5 il => ?_⟩
      have S4 := S3.trans e4'
      refine ⟨small4 3, fun F0 nF => ?_⟩
      have e5' := same_new (o := .lst [.ref t1, .ref t2, .ref t3]) nF
      have S5 := S4.trans e5'
      generalize hG5 : upd G4 F0 (.lst [.ref t1, .ref t2, .ref t3]) = G5 at e5' S5 ⊢
      have qF : G5 F0 = some (.lst [.ref t1, .ref t2, .ref t3]) := by rw [← hG5]; exact upd_same
      -- due
      refine ⟨.ref F0, rfl, .ref t, rfl, .int (m : Nat), rfl, .ref t, hs, as, m, rfl, rowE' (E1.trans (same_S S5)), by omega, fun G6 t4 e6' n6 q6' => ⟨small4 1, fun F1 nF1 => ?_⟩⟩
      have e7' := same_new (o := .lst [.ref t4]) nF1
      refine ⟨F1, 2, _, rfl, rfl, upd_same, by decide, by decide, ?_, fun F2 nF2 => ?_⟩
      · rw [sizeLine_eq]
        show 2 ≤ 16777216
        decide
      have e8' := same_new (o := .lst (List.replicate (2 : Int).toNat [V.ref t4]).flatten) nF2
      have S8 := S5.trans (e6'.trans (e7'.trans e8'))
      refine ⟨.ref t, rfl, .int (m : Nat), rfl, t, hs, as, m, rfl, rowT' (E1.trans (same_S S8)), g400, by omega, fun G9 t5 hs5 as5 e9' rn5 il5 => ⟨small4 1, fun F3 nF3 => ?_⟩⟩
      have eA' := same_new (o := .lst [.ref t5]) nF3
      refine ⟨F2, F3, _, _, rfl, rfl, eA' _ _ (e9' _ _ upd_same), upd_same, ?_, fun F4 nF4 => ?_⟩
      · rw [sizeLine_eq]
        show 3 ≤ 16777216
        decide
      have eB' := same_new (o := .lst ((List.replicate (2 : Int).toNat [V.ref t4]).flatten ++ [.ref t5])) nF4
      have S9 := S8.trans (e9'.trans (eA'.trans eB'))
      -- they are the same
      have tops1 : topsOf hs2 as2 m = lawTops hs as m := by
        rw [tops_eq z0, lawTops_eq a0]
        exact List.map_congr_left fun i _ => fb i
      have tops2 : topsOf hs as m = lawTops hs as m := by rw [tops_eq a0, lawTops_eq a0]
      have drp : hs3 = hs5 ∧ as3 = as5 := by
        refine least_same ?_ (dg m).a0 (fun i => ?_) il il5
        · have tl : (m - hs2.length) % as2.length < as2.length := Nat.mod_lt _ z0
          rw [List.length_append, List.length_drop, List.length_take]
          omega
        · unfold dropH dropA
          rw [fig_drop z0, fig_drop a0, fb]
      obtain ⟨rfl, rfl⟩ := drp
      have S5' : L2.Same G5 (upd G9 F3 (.lst [.ref t5])) := fun b o z => eA' _ _ (e9' _ _ (e8' _ _ (e7' _ _ (e6' _ _ z))))
      obtain ⟨u5, x5, v1, v2, v3, _, _⟩ := rn5
      have thF : ∀ {Z : Hp}, L2.Same G5 Z → Th Z (.ref F0) (.list [.list ((lawTops hs as m).map .int), .list ((lawTops hs as m).map .int), .tuple [.list (hs3.map .int), .list (as3.map .int)]]) := fun {Z} e => by
        have k1 : G5 t1 = some (.lst ((lawTops hs as m).map V.int)) := by
          rw [← hG5, ← tops1]
          exact same_new nF _ _ (e4' _ _ (e3' _ _ q1'))
        have k2 : G5 t2 = some (.lst ((lawTops hs as m).map V.int)) := by
          rw [← hG5, ← tops2]
          exact same_new nF _ _ (e4' _ _ q2')
        have k3 : G5 t3 = some (.tup [.ref u3, .ref x3]) ∧ G5 u3 = some (.lst (hs3.map V.int)) ∧ G5 x3 = some (.lst (as3.map V.int)) := by
          rw [← hG5]
          exact ⟨same_new nF _ _ w1, same_new nF _ _ w2, same_new nF _ _ w3⟩
        exact (Th.lst qF (.cons (.lst k1 (th_list _)) (.cons (.lst k2 (th_list _)) (.cons (.tup k3.1 (.cons (.lst k3.2.1 (th_list _)) (.cons (.lst k3.2.2 (th_list _)) .nil))) .nil)))).ext e
      have thD : Th (upd (upd G9 F3 (.lst [.ref t5])) F4 (.lst ((List.replicate (2 : Int).toNat [V.ref t4]).flatten ++ [.ref t5]))) (.ref F4) (.list [.list ((lawTops hs as m).map .int), .list ((lawTops hs as m).map .int), .tuple [.list (hs3.map .int), .list (as3.map .int)]]) := by
        have k4 := eB' _ _ (eA' _ _ (e9' _ _ (e8' _ _ (e7' _ _ q6'))))
        have k5 := eB' _ _ (eA' _ _ v1)
        have k6 := eB' _ _ (eA' _ _ v2)
        have k7 := eB' _ _ (eA' _ _ v3)
        have er : (List.replicate (2 : Int).toNat [V.ref t4]).flatten ++ [.ref t5] = [.ref t4, .ref t4, .ref t5] := rfl
        rw [er] at k4 k5 k6 k7 ⊢
        exact .lst upd_same (.cons (.lst k4 (th_list _)) (.cons (.lst k4 (th_list _)) (.cons (.tup k5 (.cons (.lst k6 (th_list _)) (.cons (.lst k7 (th_list _)) .nil))) .nil)))
      have lT : (lawTops hs as m).length ≤ 1000 := by
        rw [lawTops_eq a0, List.length_map, List.length_range]
        omega
      have gd5 := least_figs (dg m) il5
      have l3 := gd5.lh
      have l4 := gd5.la
      refine ⟨.ref F0, .ref F4, _, rfl, thF (S5'.trans eB'), thD, ?_, fun Ga ea => ⟨true, rfl, iteF ?_⟩⟩
      · show (decide (3 ≤ 1000) && (fitS 5 (.list ((lawTops hs as m).map .int)) && (fitS 5 (.list ((lawTops hs as m).map .int)) && (fitS 5 (.tuple [.list (hs3.map .int), .list (as3.map .int)]) && true)))) = true
        rw [fitS_ints 4 lT, fitS_pair 3 (by omega) (by omega)]
        rfl
      have Sa : L2.Same G1 Ga := S9.trans ea
      have sha := sh1.ext Sa
      obtain ⟨ads2, rd2⟩ := sha.rd
      refine ⟨.ref pa, rfl, pa, d, ads2, rfl, rd2, sha.ok, (fun z => absurd (sha.nd.symm.trans z) (fun y => nomatch y)), sha.dp, sha.sz, .str d.shown, rfl, rfl, _, rfl, ?_⟩
      rw [decide_eq_true rfl]
      refine iteF ?_
      clear thF thD k ea
      have Ea : ExtS l li HT Ga := E1.trans (same_S Sa)
      have sa := s1'.same Sa
      have hEa := hE.ext (hid_same Sa)
      clear rd1 rd2 sh1 sha sh S9 S8 S5 S5' S4 S3
      -- figures
      refine ⟨.ref l, rfl, l, li, c1, 5, rfl, sa, by decide, by omega, fun Gb p6 fs c2 eb s2' b2 np nl ni q6 lf ff => ?_⟩
      have Eb := Ea.trans eb
      obtain ⟨u6, x6, y1, y2, y3⟩ := rowT' Eb
      refine ⟨.ref p6, rfl, .ref t, rfl, ix_p0 (.inr y1) ⟨p6, u6, _, _, rfl, rfl, q6, y2, ?_, fun p7 n7 => ?_⟩⟩
      · rw [List.length_map, List.length_map, sizeLine_eq]
        omega
      rw [← List.map_append]
      have e7b := same_new (o := .lst ((fs ++ hs).map V.int)) n7
      refine ⟨.ref t, rfl, ix_p1 (.inr (e7b _ _ y1)) ⟨p7, x6, fs ++ hs, as, rfl, .inl upd_same, .inl (e7b _ _ y3), a0, by omega, by rw [List.length_append]; omega, fun Gc t6 u7 x7 hs6 as6 ec w4 w5 w6 n6' n7' il6 => ?_⟩⟩
      have Sc := e7b.trans ec
      have Ec := Eb.trans (same_S Sc)
      have sc := s2'.same Sc
      have hEc := (hEa.ext (hid_S m1 m2 eb)).ext (hid_same Sc)
      -- found
      have nS6 : p6 ∉ [l, li] := by simp [nl, ni]
      have thfs : Th (Hid [l, li] Gc) (.ref p6) (.list (fs.map .int)) := .lst (hid_of nS6 (Sc _ _ q6) (fun ps z => nomatch z)) (th_list fs)
      have fitf : fitD 2 (.list (fs.map .int)) = true ∧ szD 2 (.list (fs.map .int)) = 1 := by
        constructor
        · show (decide ((fs.map PyData.int).length ≤ 1000) && (fs.map PyData.int).all (fitD 1)) = true
          rw [fit_ints, List.length_map, decide_eq_true (by omega : fs.length ≤ 1000)]
          rfl
        · show 1 + ((fs.map PyData.int).map (szD 1)).sum = 1
          rw [sz_ints]
      refine ⟨.ref l, rfl, .ref p6, rfl, [l, li], l, li, c2, .ref p6, _, rfl, m1, m2, sc.ins, thfs, fitf.1, sc, by rw [fitf.2]; omega, fun Gd v6 d6 c3 ed s3' b3 t6' ld6 => ?_⟩
      rw [fitf.2] at b3
      have Ed := Ec.trans ed
      obtain ⟨lr, lq⟩ := ld_row ld6
      have rowv : RowV (Hid [l, li] Gd) v6 fs := ⟨d6, t6', by
        show (isL d6 && (its d6).all isF) = true
        rw [lr, lq, all_isF ff]
        rfl, lq, by omega⟩
      have hEd := hEc.ext (hid_S m1 m2 ed)
      refine ⟨.ref pa, rfl, v6, .ref pa, fs, hs2, as2, rfl, rowv.ext hid_up, hEd.ext hid_up, by omega, fun Ge t7 u8 x8 hs7 as7 ee w7 w8 w9 n8 n9 ne8 il7 => ?_⟩
      have rowp : RowV (Hid [l, li] Ge) (.ref p6) fs := ⟨_, (thfs.ext (hid_S m1 m2 ed)).ext (hid_same ee), by
        show (true && (fs.map PyData.int).all isF) = true
        rw [all_isF ff]
        rfl, rfl, by omega⟩
      have Ee := Ed.trans (same_S ee)
      refine ⟨.ref t, rfl, .ref p6, rfl, .ref p6, .ref t, fs, hs, as, rfl, rowp.ext hid_up, rowE' Ee, by omega, fun Gf t8 u9 x9 hs8 as8 ef w10 w11 w12 n10 n11 ne9 il8 => ⟨small4 2, fun Fx nFx => ?_⟩⟩
      have q7 : hs7 = hs6 ∧ as7 = as6 := least_same z0 a0 (fun i => by rw [fig_app, fig_app, fb]) il7 il6
      have q8 : hs8 = hs6 ∧ as8 = as6 := least_one il8 il6
      obtain ⟨rfl, rfl⟩ := q7
      obtain ⟨rfl, rfl⟩ := q8
      have eg := same_new (o := .lst [.ref t7, .ref t8]) nFx
      have nd6 : t6 ≠ l ∧ t6 ≠ li ∧ u7 ≠ l ∧ u7 ≠ li ∧ x7 ≠ l ∧ x7 ≠ li := by
        obtain ⟨ns, b, d, ss, _⟩ := sc
        have z1 := s2'.new (e7b.free n6')
        have z2 := s2'.new (e7b.free n7')
        exact ⟨fun z => (by rw [z, ss.l1] at w4; cases w4), fun z => (by rw [z, ss.l2] at w4; cases w4), z1.1, z1.2, z2.1, z2.2⟩
      have dueT : Th Gf (.ref t6) (.tuple [.list (hs8.map .int), .list (as8.map .int)]) :=
        .tup (ef _ _ (ee _ _ (ed _ _ w4 nd6.1 nd6.2.1))) (.cons (.lst (ef _ _ (ee _ _ (ed _ _ w5 nd6.2.2.1 nd6.2.2.2.1))) (th_list _)) (.cons (.lst (ef _ _ (ee _ _ (ed _ _ w6 nd6.2.2.2.2.1 nd6.2.2.2.2.2))) (th_list _)) .nil))
      have f7 : Th Gf (.ref t7) (.tuple [.list (hs8.map .int), .list (as8.map .int)]) := .tup (ef _ _ w7) (.cons (.lst (ef _ _ w8) (th_list _)) (.cons (.lst (ef _ _ w9) (th_list _)) .nil))
      have f8 : Th Gf (.ref t8) (.tuple [.list (hs8.map .int), .list (as8.map .int)]) := .tup w10 (.cons (.lst w11 (th_list _)) (.cons (.lst w12 (th_list _)) .nil))
      have fF := (Th.lst (upd_same (H := Gf) (a := Fx) (o := .lst [.ref t7, .ref t8])) (.cons (f7.ext eg) (.cons (f8.ext eg) .nil)))
      have dF := dueT.ext eg
      have Eg := (Ee.trans (same_S ef)).trans (same_S eg)
      have sg := ((s3'.same ee).same ef).same eg
      generalize upd Gf Fx (.lst [.ref t7, .ref t8]) = Gg at fF dF Eg sg ⊢
      have gb6 : Figs 100 hs8 as8 := by
        refine least_figs ⟨fun n hn => ?_, g.fa, by rw [List.length_append]; omega, by omega, a0⟩ il6
        rcases List.mem_append.mp hn with hn | hn
        · exact ff n hn
        · exact g.fh n hn
      have lg6 := gb6.lh
      have lg7 := gb6.la
      refine ⟨.ref Fx, rfl, .ref t6, rfl, small4 1, fun Fy nFy => ?_⟩
      have eh := same_new (o := .lst [.ref t6]) nFy
      refine ⟨Fy, 2, _, rfl, rfl, upd_same, by decide, by decide, by rw [sizeLine_eq]; show 2 ≤ 16777216; decide, fun Fz nFz => ?_⟩
      have ei := same_new (o := .lst (List.replicate (2 : Int).toNat [V.ref t6]).flatten) nFz
      have dZ : Th (upd (upd Gg Fy (.lst [.ref t6])) Fz (.lst (List.replicate (2 : Int).toNat [V.ref t6]).flatten)) (.ref Fz) (.list [.tuple [.list (hs8.map .int), .list (as8.map .int)], .tuple [.list (hs8.map .int), .list (as8.map .int)]]) :=
        .lst upd_same (.cons ((dF.ext eh).ext ei) (.cons ((dF.ext eh).ext ei) .nil))
      refine ⟨.ref Fx, .ref Fz, _, rfl, (fF.ext eh).ext ei, dZ, ?_, fun Gi eI => ⟨true, rfl, iteF ?_⟩⟩
      · show (decide (2 ≤ 1000) && (fitS 5 (.tuple [.list (hs8.map .int), .list (as8.map .int)]) && (fitS 5 (.tuple [.list (hs8.map .int), .list (as8.map .int)]) && true))) = true
        rw [fitS_pair 3 (by omega) (by omega)]
        rfl
      have Ei := Eg.trans (same_S (eh.trans (ei.trans eI)))
      have si := sg.same (eh.trans (ei.trans eI))
      clear fF dF dZ eI ei eh f7 f8 dueT il7 il8 il6
      -- put on again
      have dg4 := drop_figs (m := m) g
      refine ⟨.ref t, rfl, .int (m : Nat), rfl, .ref t, hs, as, m, rfl, rowE' Ei, by omega, fun Gj t9 ej n12 q12 => ?_⟩
      refine ⟨.ref t, rfl, .int (m : Nat), rfl, t, hs, as, m, rfl, rowT' (Ei.trans (same_S ej)), g400, by omega, fun Gk t10 hs10 as10 ek rn10 il10 => ?_⟩
      have gb10 := least_figs dg4 il10
      have lh10 := gb10.lh
      have la10 := gb10.la
      have rt9 : RowV Gk (.ref t9) (lawTops hs as m) := ⟨_, .lst (ek _ _ q12) (th_list _), by
        show (true && ((lawTops hs as m).map PyData.int).all isF) = true
        rw [all_isF (tops_isF g m)]
        rfl, rfl, by rw [tops_len g]; omega⟩
      refine ⟨.ref t9, .ref t10, lawTops hs as m, hs10, as10, rfl, rt9, rn10.row.end_ gb10, by rw [tops_len g]; omega, fun Gl t11 u11 x11 hs11 as11 el w13 w14 w15 n13 n14 ne11 il11 => ?_⟩
      have El := Ei.trans (same_S (ej.trans (ek.trans el)))
      have sl := si.same (ej.trans (ek.trans el))
      obtain ⟨u12, x12, y4, y5, y6⟩ := rowT' El
      refine ⟨.ref t, rfl, ix_p0 (.inr y4) ⟨.ref t, rfl, ix_p1 (.inr y4) ⟨u12, x12, hs, as, rfl, .inl y5, .inl y6, a0, by omega, by omega, fun Gm t12 u13 x13 hs12 as12 em w16 w17 w18 n16 n17 il12 => ?_⟩⟩⟩
      have q11 : hs11 = hs12 ∧ as11 = as12 := least_same gb10.a0 a0 (tops_drop g il10) il11 il12
      obtain ⟨rfl, rfl⟩ := q11
      have gb12 := least_figs g il12
      have lh12 := gb12.lh
      have la12 := gb12.la
      refine ⟨.ref t11, .ref t12, .tuple [.list (hs11.map .int), .list (as11.map .int)], rfl, .tup (em _ _ w13) (.cons (.lst (em _ _ w14) (th_list _)) (.cons (.lst (em _ _ w15) (th_list _)) .nil)), .tup w16 (.cons (.lst w17 (th_list _)) (.cons (.lst w18 (th_list _)) .nil)), fitS_pair 4 (by omega) (by omega), fun Gn en => ⟨true, rfl, iteF ?_⟩⟩
      have En := El.trans (same_S (em.trans en))
      exact ⟨_, _, _, _, _, _, c3, rfl, En, sl.same (em.trans en), by omega⟩
    · obtain ⟨a2, a3, a4, a5, a6, a7, c0, rfl, E0, s0, b0⟩ := e
      rw [ln] at b0
      refine ⟨.ref l, rfl, l, li, c0, 999999000, rfl, s0, by decide, by decide, by omega, fun G1 q3 e3 s3 q30 q31 => ?_⟩
      have E1 := E0.trans e3
      refine ⟨200, q3, rfl, rfl, ?_⟩
      obtain ⟨m, em⟩ : ∃ m : Nat, (200 : Int) + q3 = (m : Nat) := ⟨(200 + q3).toNat, by omega⟩
      show gName 2 (V.int (200 + q3)) _ _ _
      rw [em]
      have hm : m ≤ 4000000000 := by omega
      refine ⟨.int (m : Nat), rfl, .ref t, rfl, .ref t, hs, as, m, rfl, rowE' E1, hm, fun G2 t1 u1 x1 hs1 as1 e4 w1 w2 w3 n1 n2 ne il => ?_⟩
      refine ⟨.ref t, rfl, .int (m : Nat), rfl, t, hs, as, m, rfl, rowT' (E1.trans (same_S e4)), g400, hm, fun G3 t2 hs2 as2 e5 rn il2 => ?_⟩
      obtain ⟨rfl, rfl⟩ := least_one il il2
      have gb := least_figs (drop_figs (m := m) g) il2
      have l1 := gb.lh
      have l2 := gb.la
      obtain ⟨u2, x2, v1, v2, v3, _, _⟩ := rn
      exact ⟨.ref t1, .ref t2, .tuple [.list (hs1.map .int), .list (as1.map .int)], rfl, .tup (e5 _ _ w1) (.cons (.lst (e5 _ _ w2) (th_list _)) (.cons (.lst (e5 _ _ w3) (th_list _)) .nil)), .tup v1 (.cons (.lst v2 (th_list _)) (.cons (.lst v3 (th_list _)) .nil)), fitS_pair 4 (by omega) (by omega), fun G4 e6 => k G4 _ ((eT.trans E1).trans (same_S (e4.trans (e5.trans e6)))) (s3.same (e4.trans (e5.trans e6))) (by omega)⟩
end
end K14
namespace K14
open PySem PySem.W PySem.Calls PyProof.Rows L2 LamX
open He (ga)
open Kz (SS ExtS ExtS.trans ExtS.refl small4 same_new boot_in boot_li new_ext Has pe_has noE PSs.of_eq shaped_int dpAll_int)
abbrev sUr : Stmt := topS 41
abbrev Nur : List Str := ["stream", "row", "other", "many", "one", "two", "at", "places", "due", "found", "first", "below", "bent"]
theorem scUr : FnScope Nur ["stream", "row", "other"] (defScope sUr) := ⟨rfl, rfl, rfl, by decide +kernel, rfl, by decide +kernel, by decide +kernel⟩
def stU (i : Nat) : Stmt := (defBody sUr).getD i (.Pass ⟨0, 0, 0, 0⟩)
theorem bdU : defBody sUr = [stU 0, stU 1, stU 2, stU 3, stU 4, stU 5, stU 6, stU 7, stU 8, stU 9, stU 10] := by rfl
def scOfE : Stmt → Scope
  | .Assign _ (.ListComp _ _ sc _) _ => sc
  | _ => defScope sUr
def urSc : Scope := scOfE (stU 2)
/-- where two rows of figures first differ, of forty places -/
def dueV (f g : Nat → Int) : V := match (List.range 40).find? (fun i => decide (f i ≠ g i)) with
  | some i => .int (i : Nat)
  | none => .non
def dueD (f g : Nat → Int) : PyData := match (List.range 40).find? (fun i => decide (f i ≠ g i)) with
  | some i => .int (i : Nat)
  | none => .none
theorem due_th (H : Hp) (f g : Nat → Int) : Th H (dueV f g) (dueD f g) := by
  unfold dueV dueD
  split
  · exact .int _
  · exact .non
theorem due_fit (n : Nat) (f g : Nat → Int) : fitS n (dueD f g) = true := by
  unfold dueD
  split
  · exact fitS_int n _
  · cases n <;> rfl
theorem unl_due {hs as hs2 as2 : List Int} {f g : Nat → Int} {r : V} (h0 : 0 < as.length) (h1 : 0 < as2.length) (hf : ∀ i, figAt hs as i = f i) (hg : ∀ i, figAt hs2 as2 i = g i) (hb : bnd hs as hs2 as2 ≤ 40) (u : IsUnlike hs as hs2 as2 r) : r = dueV f g := by
  unfold dueV
  rcases u with ⟨i, rfl, il, ne, eq⟩ | ⟨rfl, eq⟩
  · have e : (List.range 40).find? (fun i => decide (f i ≠ g i)) = some i := by
      rw [List.find?_range_eq_some]
      refine ⟨decide_eq_true ?_, List.mem_range.mpr (by omega), fun j hj => ?_⟩
      · rw [← hf, ← hg]
        exact ne
      · have := eq j hj
        rw [hf, hg] at this
        simp [this]
    rw [e]
  · have all := agree h0 h1 eq
    have e : (List.range 40).find? (fun i => decide (f i ≠ g i)) = none := by
      rw [List.find?_eq_none]
      intro i _
      have := all i
      rw [hf, hg] at this
      simp [this]
    rw [e]
/-- the places at which they differ -/
def plc (f g : Nat → Int) (j : Nat) : List Int := ((List.range j).filter fun i => decide (f i ≠ g i)).map fun (i : Nat) => (i : Int)
theorem plc_succ (f g : Nat → Int) (j : Nat) : plc f g (j + 1) = plc f g j ++ (if decide (f j ≠ g j) = true then [(j : Int)] else []) := by
  unfold plc
  rw [List.range_succ, List.filter_append, List.map_append]
  congr 1
  rw [List.filter_cons, List.filter_nil]
  split <;> rfl
theorem plc_len (f g : Nat → Int) (j : Nat) : (plc f g j).length ≤ j := by
  unfold plc
  rw [List.length_map]
  exact Nat.le_trans (List.length_filter_le _ _) (by rw [List.length_range]; exact Nat.le_refl _)
def headV : List Int → V
  | [] => .non
  | z :: _ => .int z
theorem plc_due (f g : Nat → Int) : dueV f g = headV (plc f g 40) := by
  unfold dueV plc
  rw [← List.head?_filter]
  cases (List.range 40).filter fun i => decide (f i ≠ g i) <;> rfl
theorem due_comm (f g : Nat → Int) : dueV g f = dueV f g := by
  unfold dueV
  have e : (fun i => decide (g i ≠ f i)) = fun i => decide (f i ≠ g i) := by
    funext i
    by_cases h : f i = g i
    · rw [h]
    · rw [decide_eq_true h, decide_eq_true (Ne.symm h)]
  rw [e]
/-- the figure at n told otherwise -/
theorem bent_fig {hs as h a : List Int} {b n : Nat} {z : Int} (g : Figs b hs as) (il : IsLeast (dropH hs (n + 1)) (dropA hs as (n + 1)) h a) (i : Nat) : figAt ((((lawTops hs as (n + 1)).take n) ++ [z]) ++ h) a i = if i = n then z else figAt hs as i := by
  have d := drop_figs (m := n + 1) g
  have ln : ((lawTops hs as (n + 1)).take n).length = n := by rw [List.length_take, tops_len g]; omega
  rw [fig_app, List.length_append, ln, List.length_singleton]
  rcases Nat.lt_trichotomy i n with c | c | c
  · rw [if_pos (by omega), if_neg (by omega), List.getD_eq_getElem?_getD, List.getElem?_append_left (by omega), List.getElem?_take_of_lt c, lawTops_eq g.a0, List.getElem?_map, List.getElem?_range (by omega)]
    rfl
  · rw [if_pos (by omega), if_pos c, c, List.getD_eq_getElem?_getD, List.getElem?_append_right (by omega), ln, Nat.sub_self]
    rfl
  · rw [if_neg (by omega), if_neg (by omega), (least_fig d.a0 il).fig]
    unfold dropH dropA
    rw [fig_drop g.a0]
    congr 1
    omega
theorem isF_not {n : Int} (h : isF (.int n) = true) : isF (.int (1 - n)) = true ∧ 1 - n ≠ n := by
  rcases small_fig h with rfl | rfl <;> exact ⟨rfl, by decide⟩
/-- x[0] if x != [] else None, of a list of ints -/
theorem te_due {K : Frag} {σ : L2.St} {H : Hp} {Q : VK} {D : Addr} {zs : List Int} (h7 : σ[7]? = some (some (.ref D))) (hD : H D = some (.lst (zs.map V.int))) (k : ∀ H', L2.Same H H' → Q (headV zs) H') :
    tIf (tTest (tOp (rNeD K) (tVar 7) (tLst tNil))) (tOp (rIxL K) (tVar 7) (tC (.int 0))) (tC .non) σ H Q := by
  refine ⟨.ref D, h7, Nat.zero_le _, fun p np => ?_⟩
  have e := same_new (o := .lst []) np
  refine ⟨.list (zs.map PyData.int), .list [], .lst (.inl (.inl (e _ _ hD))) (dpAll_int _), .lst (.inl (.inl upd_same)) .nil, shaped_int _, rfl, _, rfl, ?_⟩
  have k' := k _ e
  cases zs with
  | nil => exact iteF k'
  | cons z r => exact iteT ⟨.ref D, h7, D, _, 0, .int z, rfl, rfl, .inl (.inl (e _ _ hD)), atI_nat (j := 0) rfl, k'⟩
theorem law_get {hs as : List Int} (h0 : 0 < as.length) {m j : Nat} (h : j < m) : ((lawTops hs as m).map V.int)[j]? = some (.int (figAt hs as j)) := by
  rw [lawTops_eq h0, List.getElem?_map, List.getElem?_map, List.getElem?_range h]
  rfl
theorem IsUnlike.at_ {hs as hs2 as2 : List Int} {n : Nat} {r : V} (u : IsUnlike hs as hs2 as2 r) (hn : n < bnd hs as hs2 as2) (ne : figAt hs as n ≠ figAt hs2 as2 n) (eq : ∀ i, i ≠ n → figAt hs as i = figAt hs2 as2 i) : r = .int (n : Nat) := by
  rcases u with ⟨i, rfl, il, ne2, _⟩ | ⟨rfl, eq2⟩
  · by_cases c : i = n
    · rw [c]
    · exact absurd (eq i c) ne2
  · exact absurd (eq2 n hn) ne
section
variable {P : Program} {w : World} {K : Frag} {mg : Str → Option Value} {base : Heap}
abbrev XUr (P : Program) (w : World) (K : Frag) (mg : Str → Option Value) (base : Heap) (f : Addr) (cdv : Value) (A : Around) (outer : List Env) (s : Shared) (H : Hp) (XE : XK) : Cx := (cxOf CX0 P w K mg base Nur "_law_unlike_right" (defScope sUr) f cdv A outer s H XE).nox
def spUr : Sp := fun vs H Q _ => ∃ (l li t o : Addr) (c : Int) (hs as hs2 as2 : List Int), vs = [.ref l, .ref t, .ref o] ∧ RowT (Hid [l, li] H) t hs as ∧ RowT (Hid [l, li] H) o hs2 as2 ∧ Figs 4 hs as ∧ Figs 4 hs2 as2 ∧ Spr H l li c ∧ c < 500000000 ∧ ∀ (H' : Hp) (c' : Int), ExtS l li H H' → Spr H' l li c' → c' ≤ c + 100 → Q (.bl true) H'
theorem ok_ur {f : Addr} {fd : FuncData} (F : FunD K "_law_unlike_right" "_law_unlike_right" (defArgs sUr) (defBody sUr) (defScope sUr) [] [] f fd) (L : RrK P w K mg base) : FnOk P w K mg base CX0 8 f fd ["stream", "row", "other"] spUr := by
  refine F.ok scUr (fun vs H Q E h => ?_) (fun cdv A outer s H vs Q XE hr h => ?_)
  · obtain ⟨l, li, t, o, c, hs, as, hs2, as2, rfl, _⟩ := h
    rfl
  · obtain ⟨l, li, t, o, c, hs, as, hs2, as2, rfl, hrow, hoth, g, g2, hsp, hc, k⟩ := h
    have s0 : PS (XUr P w K mg base f cdv A outer s H XE) (stU 0) _ := ps_set (i := 3) scUr.nd rfl (.inl rfl) pe_int
    have s1 : PS (XUr P w K mg base f cdv A outer s H XE) (stU 1) _ := ps_asg (pe_tup (pa_cons (pe_has L.lt (hr.mono (by decide)) (by rfl) (pa_cons (pv 1) (pa_cons (pv 3) pa_nil))) (pa_cons (pe_has L.lt (hr.mono (by decide)) (by rfl) (pa_cons (pv 2) (pa_cons (pv 3) pa_nil))) pa_nil))) (pg_tup rfl (pgs_cons (pg_name (i := 4) scUr.nd rfl (.inr rfl)) (pgs_cons (pg_name (i := 5) scUr.nd rfl (.inr rfl)) pgs_nil)))
    have s2 : PS (XUr P w K mg base f cdv A outer s H XE) (stU 2) _ := ps_setLc (X := XUr P w K mg base f cdv A outer s H XE) (i := 7) (te := tVar 6) (scope := urSc) (own := [("at", 6)]) (g := gName 6) (tt := tTest (tOp rNe (tOp (rIxL K) (tVar 4) (tVar 6)) (tOp (rIxL K) (tVar 5) (tVar 6)))) rfl scUr.nd rfl rfl (sw_true rfl rfl rfl (by decide +kernel)) (pi_range1 (by rfl) L.nr (pa_cons (pv 3) pa_nil)) (blkOk_by (N := Nur) (sc := defScope sUr) (by decide +kernel)) (fun _ _ _ _ _ => pg_name (i := 6) scUr.nd rfl (Or.inl rfl))
      (fun s0 H0 C0 cl0 fp0 => pts_one (pt_cmpR (X := Cx.blk (XUr P w K mg base f cdv A outer s H XE) s0 H0 urSc (compEnvC urSc cl0 C0 (Cx.env (XUr P w K mg base f cdv A outer s H XE))) fp0) op_ne (pe_ix ix_list (pv 4) (pv 6) (fun _ _ => rfl)) (pe_ix ix_list (pv 5) (pv 6) (fun _ _ => rfl)) (nomark _))) (fun _ _ _ _ _ => pv 6)
    have s3 : PS (XUr P w K mg base f cdv A outer s H XE) (stU 3) _ := ps_set (i := 8) scUr.nd rfl (.inl rfl) (pe_ifExp (pt_cmpR (op_neD hr.units) (pv 7) (pe_lst pa_nil) (nomark _)) (pe_ix ix_list (pv 7) pe_int (fun _ _ => rfl)) pe_non)
    have s4 : PS (XUr P w K mg base f cdv A outer s H XE) (stU 4) _ := ps_set (i := 9) scUr.nd rfl (.inl rfl) (pe_lst (pa_cons (pe_has L.fu (hr.mono (by decide)) (by rfl) (pa_cons (pe_has L.at_ (hr.mono (by decide)) (by rfl) (pa_cons (pv 0) (pa_cons (pv 1) pa_nil))) (pa_cons (pv 2) pa_nil))) (pa_cons (pe_hasK L.fuk (hr.mono (by decide)) (by rfl) (pv 1) (pv 2)) pa_nil)))
    have s5 : PS (XUr P w K mg base f cdv A outer s H XE) (stU 5) _ := ps_if (pt_not (pt_val (pe_has L.sm hr (by rfl) (pa_cons (pv 9) (pa_cons (pe_op op_rep (pe_lst (pa_cons (pv 8) pa_nil)) pe_int) pa_nil))))) (pss_one (ps_ret pe_bl)) pss_nil
    have s6 : PS (XUr P w K mg base f cdv A outer s H XE) (stU 6) _ := ps_set (i := 6) scUr.nd rfl (.inl rfl) (pe_has L.dr (hr.mono (by decide)) (by rfl) (pa_cons (pv 0) (pa_cons pe_int pa_nil)))
    have s7 : PS (XUr P w K mg base f cdv A outer s H XE) (stU 7) _ := ps_par (i := 10) (j := 11) rfl scUr.nd rfl rfl (by decide) rfl rfl (pa_cons (pe_has L.lt (hr.mono (by decide)) (by rfl) (pa_cons (pv 1) (pa_cons (pe_op op_add (pv 6) pe_int) pa_nil))) (pa_cons (pe_has L.be (hr.mono (by decide)) (by rfl) (pa_cons (pv 1) (pa_cons (pe_op op_add (pv 6) pe_int) pa_nil))) pa_nil)) (by rfl)
    have s8 : PS (XUr P w K mg base f cdv A outer s H XE) (stU 8) _ := ps_set (i := 12) scUr.nd rfl (.inl rfl) (pe_tup (pa_cons (pe_op op_cat (pe_op op_cat (pe_slice sl_list (pv 10) po_none (po_some (pv 6))) (pe_lst (pa_cons (pe_op op_sub pe_int (pe_ix ix_list (pv 10) (pv 6) (fun _ _ => rfl))) pa_nil))) (pe_ix ix_seq (pv 11) pe_int (fun _ _ => rfl))) (pa_cons (pe_ix ix_seq (pv 11) pe_int (fun _ _ => rfl)) pa_nil)))
    have s9 : PS (XUr P w K mg base f cdv A outer s H XE) (stU 9) _ := ps_set (i := 9) scUr.nd rfl (.inl rfl) (pe_lst (pa_cons (pe_has L.fu (hr.mono (by decide)) (by rfl) (pa_cons (pv 1) (pa_cons (pv 12) pa_nil))) (pa_cons (pe_has L.fu (hr.mono (by decide)) (by rfl) (pa_cons (pv 12) (pa_cons (pe_has L.at_ (hr.mono (by decide)) (by rfl) (pa_cons (pv 0) (pa_cons (pv 1) pa_nil))) pa_nil)))
      (pa_cons (pe_has L.fu (hr.mono (by decide)) (by rfl) (pa_cons (pv 12) (pa_cons (pv 12) pa_nil))) pa_nil))))
    have sA : PS (XUr P w K mg base f cdv A outer s H XE) (stU 10) _ := ps_ret (pe_has L.sm hr (by rfl) (pa_cons (pv 9) (pa_cons (pe_lst (pa_cons (pv 6) (pa_cons (pv 6) (pa_cons pe_non pa_nil)))) pa_nil)))
    have PP := PSs.of_eq bdU (pss_cons s0 (pss_cons s1 (pss_cons s2 (pss_cons s3 (pss_cons s4 (pss_cons s5 (pss_cons s6 (pss_cons s7 (pss_cons s8 (pss_cons s9 (pss_one sA)))))))))))
    clear s0 s1 s2 s3 s4 s5 s6 s7 s8 s9 sA
    refine ⟨_, PSs.nox PP, ?_⟩
    clear PP
    have m1 : l ∈ [l, li] := by simp
    have m2 : li ∈ [l, li] := by simp
    have a0 := g.a0
    have lh := g.lh
    have la := g.la
    have b0 := g2.a0
    have mh := g2.lh
    have ma := g2.la
    have rowE : ∀ {G : Hp}, ExtS l li H G → EndV G (.ref t) hs as := fun e => ((hrow.ext (hid_S m1 m2 e)).ext hid_up).end_ g
    have othE : ∀ {G : Hp}, ExtS l li H G → EndV G (.ref o) hs2 as2 := fun e => ((hoth.ext (hid_S m1 m2 e)).ext hid_up).end_ g2
    have rowT : ∀ {G : Hp}, ExtS l li H G → RowT G t hs as := fun e => (hrow.ext (hid_S m1 m2 e)).ext hid_up
    have g400 : Figs 400 hs as := ⟨g.fh, g.fa, by omega, by omega, a0⟩
    have g100 : Figs 100 hs as := ⟨g.fh, g.fa, by omega, by omega, a0⟩
    -- forty figures of each
    refine ⟨.ref t, rfl, .int 40, rfl, .ref t, hs, as, 40, rfl, rowE .refl, by decide, fun H1 t1 e1 n1 q1 => ?_⟩
    refine ⟨.ref o, rfl, .int 40, rfl, .ref o, hs2, as2, 40, rfl, othE (same_S e1), by decide, fun H2 t2 e2 n2 q2 => ?_⟩
    refine ⟨small4 2, fun t3 n3 => ⟨t3, _, rfl, .inl (.inl upd_same), rfl, .ref t1, _, rfl, .ref t2, _, rfl, rfl, ?_⟩⟩
    have e3 := same_new (o := .tup [.ref t1, .ref t2]) n3
    have k1 := e3 _ _ (e2 _ _ q1)
    have k2 := e3 _ _ q2
    have E3 := e1.trans (e2.trans e3)
    generalize upd H2 t3 (.tup [.ref t1, .ref t2]) = H3 at k1 k2 E3 ⊢
    -- the places
    refine ⟨.int 40, rfl, 40, rfl, by decide, by decide, fun D hD => ?_⟩
    refine lc_range (n := (40 : Int).toNat) (fun j G => L2.Same H3 G ∧ G D = some (.lst ((plc (figAt hs as) (figAt hs2 as2) j).map V.int))) ⟨same_new hD, upd_same⟩ (fun j G hj e => ?_) (fun G e => ?_)
    · obtain ⟨S, hA⟩ := e
      have j40 : j < 40 := hj
      have ix : ∀ {h a : List Int}, 0 < a.length → atI ((lawTops h a 40).map V.int) (0 + ((j : Nat) : Int)) = some (.int (figAt h a j)) := fun z => by
        rw [Int.zero_add]
        exact atI_nat (law_get z j40)
      refine ⟨rfl, .ref t1, rfl, .int (0 + (j : Nat)), rfl, t1, _, _, _, rfl, rfl, .inl (.inl (S _ _ k1)), ix a0, .ref t2, rfl, .int (0 + (j : Nat)), rfl, t2, _, _, _, rfl, rfl, .inl (.inl (S _ _ k2)), ix b0, rfl, _, rfl, ite2 (fun q => ?_) (fun q => ?_)⟩
      · have dq : decide (figAt hs as j ≠ figAt hs2 as2 j) = true := by
          rw [decide_eq_true]
          intro z
          rw [z] at q
          simp at q
        have pl := plc_len (figAt hs as) (figAt hs2 as2) j
        refine ⟨.int (0 + (j : Nat)), rfl, _, hA, by rw [List.length_map, sizeLine_eq]; omega, fun b o eb => ?_, ?_⟩
        · rw [upd_ne (ne_of_none eb hD)]
          exact S _ _ eb
        · rw [upd_same, plc_succ, if_pos dq, List.map_append, Int.zero_add]
          rfl
      · have dq : ¬ decide (figAt hs as j ≠ figAt hs2 as2 j) = true := fun z => by
          have z1 := of_decide_eq_true z
          exact q (by rw [decide_eq_false (fun y => z1 (V.int.inj y))]; rfl)
        refine ⟨S, ?_⟩
        rw [plc_succ, if_neg dq, List.append_nil]
        exact hA
    · obtain ⟨S, hA⟩ := e
      have hA : G D = some (.lst ((plc (figAt hs as) (figAt hs2 as2) 40).map V.int)) := hA
      -- the first of them
      refine te_due rfl hA (fun G4 e4 => ?_)
      rw [← plc_due]
      have E4 : ExtS l li H G4 := same_S (E3.trans (S.trans e4))
      have s4 := hsp.same (E3.trans (S.trans e4))
      show tSeq _ _ _ [some (.ref l), some (.ref t), some (.ref o), some (.int 40), some (.ref t1), some (.ref t2), none, some (.ref D), some (dueV (figAt hs as) (figAt hs2 as2)), none, none, none, none] G4
      clear S hA e4 E3 k1 k2
      -- found
      refine ⟨.ref l, rfl, .ref t, rfl, [l, li], l, li, t, c, hs, as, rfl, m1, m2, s4.ins, hrow.ext (hid_S m1 m2 E4), g100, s4, by omega, fun G5 v ha aa c5 e5 s5 b5 hE fb gv l1 l2 => ?_⟩
      have E5 := E4.trans e5
      have va := gv.a0
      refine ⟨.ref o, rfl, v, .ref o, ha, aa, hs2, as2, rfl, hE.ext hid_up, othE E5, fun G6 r1 e6 u1 => ?_⟩
      have w1 := unl_due va b0 (fun i => fb i) (fun _ => rfl) (by unfold bnd; omega) u1
      subst w1
      have E6 := E5.trans (same_S e6)
      refine ⟨.ref t, rfl, .ref o, rfl, .ref o, .ref t, hs2, as2, hs, as, rfl, othE E6, rowE E6, fun G7 r2 e7 u2 => ?_⟩
      have w2 := unl_due b0 a0 (fun _ => rfl) (fun _ => rfl) (by unfold bnd; omega) u2
      rw [due_comm] at w2
      subst w2
      refine ⟨small4 2, fun F0 nF => ?_⟩
      have e8 := same_new (o := .lst [dueV (figAt hs as) (figAt hs2 as2), dueV (figAt hs as) (figAt hs2 as2)]) nF
      have S8 := e6.trans (e7.trans e8)
      have qF := upd_same (H := G7) (a := F0) (o := .lst [dueV (figAt hs as) (figAt hs2 as2), dueV (figAt hs as) (figAt hs2 as2)])
      have E8 := E5.trans (same_S S8)
      have s8 := s5.same S8
      generalize upd G7 F0 (.lst [dueV (figAt hs as) (figAt hs2 as2), dueV (figAt hs as) (figAt hs2 as2)]) = G8 at qF E8 s8 ⊢
      refine ⟨.ref F0, rfl, dueV (figAt hs as) (figAt hs2 as2), rfl, small4 1, fun F1 nF1 => ?_⟩
      have e9 := same_new (o := .lst [dueV (figAt hs as) (figAt hs2 as2)]) nF1
      refine ⟨F1, 2, _, rfl, rfl, upd_same, by decide, by decide, by rw [sizeLine_eq]; show 2 ≤ 16777216; decide, fun F2 nF2 => ?_⟩
      have e10 := same_new (o := .lst (List.replicate (2 : Int).toNat [dueV (figAt hs as) (figAt hs2 as2)]).flatten) nF2
      refine ⟨.ref F0, .ref F2, .list [dueD (figAt hs as) (figAt hs2 as2), dueD (figAt hs as) (figAt hs2 as2)], rfl, .lst (e10 _ _ (e9 _ _ qF)) (.cons (due_th _ _ _) (.cons (due_th _ _ _) .nil)), .lst upd_same (.cons (due_th _ _ _) (.cons (due_th _ _ _) .nil)), ?_, fun G9 e11 => ⟨true, rfl, iteF ?_⟩⟩
      · show (decide (2 ≤ 1000) && (fitS 5 (dueD (figAt hs as) (figAt hs2 as2)) && (fitS 5 (dueD (figAt hs as) (figAt hs2 as2)) && true))) = true
        rw [due_fit]
        rfl
      have E9 := E8.trans (same_S (e9.trans (e10.trans e11)))
      have s9 := s8.same (e9.trans (e10.trans e11))
      clear qF u1 u2 e11 e10 e9 S8 E8 s8
      -- a place
      refine ⟨.ref l, rfl, l, li, c5, 60, rfl, s9, by decide, by decide, by omega, fun Ga r ea sa r0 r1 => ?_⟩
      have Ea := E9.trans ea
      obtain ⟨n, rfl⟩ : ∃ n : Nat, r = (n : Nat) := ⟨r.toNat, by omega⟩
      have n60 : n < 60 := by omega
      refine ⟨.ref t, rfl, .int (n : Nat), rfl, (n : Nat), 1, rfl, rfl, .ref t, hs, as, n + 1, rfl, rowE Ea, by omega, fun Gb r3 eb n3 q3 => ?_⟩
      refine ⟨.ref t, rfl, .int (n : Nat), rfl, (n : Nat), 1, rfl, rfl, t, hs, as, n + 1, rfl, rowT (Ea.trans (same_S eb)), g400, by omega, fun Gc t5 hs5 as5 ec rn il => ?_⟩
      refine ⟨_, _, rfl, ?_⟩
      have gb := least_figs (drop_figs (m := n + 1) g) il
      have gl1 := gb.lh
      have gl2 := gb.la
      obtain ⟨u5, x5, v1, v2, v3, nu5, nx5⟩ := rn
      have q3 := ec _ _ q3
      have lT : (lawTops hs as (n + 1)).length = n + 1 := tops_len g (n + 1)
      have Sc := eb.trans ec
      -- bent
      refine ⟨.ref r3, rfl, .int (n : Nat), rfl, (n : Nat), rfl, r3, _, rfl, .inl (.inl q3), fun p1 np1 => ?_⟩
      rw [cutV_take (by rw [List.length_map, lT]; omega), ← List.map_take]
      have i1 := same_new (o := .lst (((lawTops hs as (n + 1)).take n).map V.int)) np1
      refine ⟨.ref r3, rfl, .int (n : Nat), rfl, r3, _, _, _, rfl, rfl, .inl (.inl (i1 _ _ q3)), atI_nat (law_get a0 (Nat.lt_succ_self n)), 1, _, rfl, rfl, small4 1, fun p2 np2 => ?_⟩
      have i2 := same_new (o := .lst [V.int (1 - figAt hs as n)]) np2
      refine ⟨p1, p2, _, _, rfl, rfl, i2 _ _ upd_same, upd_same, ?_, fun p3 np3 => ?_⟩
      · rw [List.length_map, List.length_take, sizeLine_eq]
        show min n _ + 1 ≤ _
        omega
      have i3 := same_new (o := .lst (((lawTops hs as (n + 1)).take n).map V.int ++ [V.int (1 - figAt hs as n)])) np3
      refine ⟨.ref t5, rfl, ix_p0 (.inr (i3 _ _ (i2 _ _ (i1 _ _ v1)))) ⟨p3, u5, _, _, rfl, rfl, upd_same, i3 _ _ (i2 _ _ (i1 _ _ v2)), ?_, fun p4 np4 => ?_⟩⟩
      · rw [List.length_append, List.length_map, List.length_take, List.length_map, sizeLine_eq]
        show min n _ + 1 + _ ≤ _
        omega
      have eB : (((lawTops hs as (n + 1)).take n).map V.int ++ [V.int (1 - figAt hs as n)]) ++ hs5.map V.int = ((((lawTops hs as (n + 1)).take n) ++ [1 - figAt hs as n]) ++ hs5).map V.int := by simp
      rw [eB]
      have i4 := same_new (o := .lst (((((lawTops hs as (n + 1)).take n) ++ [1 - figAt hs as n]) ++ hs5).map V.int)) np4
      refine ⟨.ref t5, rfl, ix_p1 (.inr (i4 _ _ (i3 _ _ (i2 _ _ (i1 _ _ v1))))) ⟨small4 2, fun bt nbt => ?_⟩⟩
      have i5 := same_new (o := .tup [.ref p4, .ref x5]) nbt
      have S5 := Sc.trans (i1.trans (i2.trans (i3.trans (i4.trans i5))))
      have Ef := Ea.trans (same_S S5)
      have sf := sa.same S5
      have nf := isF_not (fig_isF g n)
      have gB : Figs 100 ((((lawTops hs as (n + 1)).take n) ++ [1 - figAt hs as n]) ++ hs5) as5 := by
        refine ⟨fun m hm => ?_, gb.fa, ?_, by omega, gb.a0⟩
        · rcases List.mem_append.mp hm with hm | hm
          · rcases List.mem_append.mp hm with hm | hm
            · exact tops_isF g _ m (List.mem_of_mem_take hm)
            · rw [List.mem_singleton.mp hm]
              exact nf.1
          · exact gb.fh m hm
        · rw [List.length_append, List.length_append, List.length_take]
          show min n _ + 1 + _ ≤ 100
          omega
      have S4 := Sc.trans (i1.trans (i2.trans i3))
      have mB : ∀ {z : Addr} {G : Hp}, L2.Same Ga G → G z = none → z ∉ [l, li] := fun e n => by
        have := (sa.same e).new n
        simp [this.1, this.2]
      have rB : RowT (Hid [l, li] (upd (upd (upd (upd (upd Gc p1 (.lst (((lawTops hs as (n + 1)).take n).map V.int))) p2 (.lst [V.int (1 - figAt hs as n)])) p3 (.lst (((lawTops hs as (n + 1)).take n).map V.int ++ [V.int (1 - figAt hs as n)]))) p4 (.lst (((((lawTops hs as (n + 1)).take n) ++ [1 - figAt hs as n]) ++ hs5).map V.int))) bt (.tup [.ref p4, .ref x5]))) bt ((((lawTops hs as (n + 1)).take n) ++ [1 - figAt hs as n]) ++ hs5) as5 :=
        ⟨p4, x5, hid_of (mB (S4.trans i4) nbt) upd_same (fun ps z => nomatch z), hid_of (mB S4 np4) (i5 _ _ upd_same) (fun ps z => nomatch z), hid_of (mB eb nx5) (i5 _ _ (i4 _ _ (i3 _ _ (i2 _ _ (i1 _ _ v3))))) (fun ps z => nomatch z)⟩
      have bf := bent_fig (z := 1 - figAt hs as n) g il
      have bl : ((((lawTops hs as (n + 1)).take n) ++ [1 - figAt hs as n]) ++ hs5).length = n + 1 + hs5.length := by
        rw [List.length_append, List.length_append, List.length_take, lT]
        show min n (n + 1) + 1 + _ = _
        omega
      show tSeq _ _ _ [some (.ref l), some (.ref t), some (.ref o), some (.int 40), some (.ref t1), some (.ref t2), some (.int (n : Nat)), some (.ref D), some (dueV (figAt hs as) (figAt hs2 as2)), some (.ref F0), some (.ref r3), some (.ref t5), some (.ref bt)] _
      generalize upd (upd (upd (upd (upd Gc p1 (.lst (((lawTops hs as (n + 1)).take n).map V.int))) p2 (.lst [V.int (1 - figAt hs as n)])) p3 (.lst (((lawTops hs as (n + 1)).take n).map V.int ++ [V.int (1 - figAt hs as n)]))) p4 (.lst (((((lawTops hs as (n + 1)).take n) ++ [1 - figAt hs as n]) ++ hs5).map V.int))) bt (.tup [.ref p4, .ref x5]) = Gf at rB Ef sf ⊢
      generalize ((((lawTops hs as (n + 1)).take n) ++ [1 - figAt hs as n]) ++ hs5) = bH at rB gB bf bl ⊢
      clear i1 i2 i3 i4 i5 S5 S4 mB eB v1 v2 v3 Sc q3 il
      have bE : ∀ {G : Hp}, ExtS l li Gf G → EndV G (.ref bt) bH as5 := fun e => ((rB.ext (hid_S m1 m2 e)).ext hid_up).end_ gB
      -- the last ones
      refine ⟨.ref t, rfl, .ref bt, rfl, .ref t, .ref bt, hs, as, bH, as5, rfl, rowE Ef, bE .refl, fun Gg x1 eg u1 => ?_⟩
      have k1 := u1.at_ (n := n) (by unfold bnd; omega) (by rw [bf, if_pos rfl]; exact fun z => nf.2 z.symm) (fun i hi => by rw [bf, if_neg hi])
      subst k1
      have sg := sf.same eg
      have Eg := Ef.trans (same_S eg)
      refine ⟨.ref bt, rfl, .ref l, rfl, .ref t, rfl, [l, li], l, li, t, c5 + 1, hs, as, rfl, m1, m2, sg.ins, hrow.ext (hid_S m1 m2 Eg), g100, sg, by omega, fun Gh v2 hb ab ch eh sh bh hE2 fb2 gv2 l3 l4 => ?_⟩
      have Eh := Eg.trans eh
      refine ⟨.ref bt, v2, bH, as5, hb, ab, rfl, bE ((same_S eg).trans eh), hE2.ext hid_up, fun Gi x2 ei u2 => ?_⟩
      have k2 := u2.at_ (n := n) (by unfold bnd; omega) (by rw [bf, if_pos rfl, fb2]; exact nf.2) (fun i hi => by rw [bf, if_neg hi, fb2])
      subst k2
      refine ⟨.ref bt, rfl, .ref bt, rfl, .ref bt, .ref bt, bH, as5, bH, as5, rfl, bE (((same_S eg).trans eh).trans (same_S ei)), bE (((same_S eg).trans eh).trans (same_S ei)), fun Gj x3 ej u3 => ?_⟩
      have k3 : x3 = .non := by
        rcases u3 with ⟨i, _, _, ne, _⟩ | ⟨z, _⟩
        · exact absurd rfl ne
        · exact z
      subst k3
      refine ⟨small4 3, fun F3 nF3 => ?_⟩
      have e12 := same_new (o := .lst [.int (n : Nat), .int (n : Nat), .non]) nF3
      refine ⟨.ref F3, rfl, .int (n : Nat), rfl, .int (n : Nat), rfl, small4 3, fun F4 nF4 => ?_⟩
      have e13 := same_new (o := .lst [.int (n : Nat), .int (n : Nat), .non]) nF4
      refine ⟨.ref F3, .ref F4, .list [.int (n : Nat), .int (n : Nat), .none], rfl, .lst (e13 _ _ upd_same) (.cons (.int _) (.cons (.int _) (.cons .non .nil))), .lst upd_same (.cons (.int _) (.cons (.int _) (.cons .non .nil))), ?_, fun Gk e14 => ?_⟩
      · show (decide (3 ≤ 1000) && (fitS 5 (.int (n : Nat)) && (fitS 5 (.int (n : Nat)) && (fitS 5 .none && true)))) = true
        rw [fitS_int]
        rfl
      · exact k Gk ch (Eh.trans (same_S (ei.trans (ej.trans (e12.trans (e13.trans e14)))))) (sh.same (ei.trans (ej.trans (e12.trans (e13.trans e14))))) (by omega)
end
end K14
namespace K14
open PySem PySem.W PySem.Calls PyProof.Rows L2 LamX
open He (ga)
open Kz (small4 same_new boot_in boot_li new_ext Has pe_has noE PSs.of_eq)
/-! ### displays of data -/
/-- the expression makes a new thing that is d -/
def Mk (te : TE) (d : PyData) : Prop := ∀ (σ : L2.St) (H : Hp) (Q : VK), (∀ (v : V) (H' : Hp), L2.Same H H' → Th H' v d → Q v H') → te σ H Q
def MkA (ta : TA) (ds : List PyData) : Prop := ∀ (σ : L2.St) (H : Hp) (Q : List V → Hp → Prop), (∀ (vs : List V) (H' : Hp), L2.Same H H' → ThAll H' vs ds → Q vs H') → ta σ H Q
theorem mk_non : Mk (tC .non) .none := fun σ H Q k => k _ H (fun _ _ e => e) .non
theorem mk_int {i : Int} : Mk (tC (.int i)) (.int i) := fun σ H Q k => k _ H (fun _ _ e => e) (.int i)
theorem mk_bl {b : Bool} : Mk (tC (.bl b)) (.bool b) := fun σ H Q k => k _ H (fun _ _ e => e) (.bl b)
theorem mk_str {x : Str} : Mk (tC (.str x)) (.str x) := fun σ H Q k => k _ H (fun _ _ e => e) (.str x)
theorem mka_nil : MkA tNil [] := fun σ H Q k => k [] H (fun _ _ e => e) .nil
theorem mka_cons {te : TE} {ta : TA} {d : PyData} {ds : List PyData} (h1 : Mk te d) (h2 : MkA ta ds) : MkA (tCons te ta) (d :: ds) := fun σ H Q k => h1 σ H _ fun v H1 e1 t1 => h2 σ H1 _ fun vs H2 e2 t2 => k (v :: vs) H2 (e1.trans e2) (.cons (t1.ext e2) t2)
theorem mk_lst {ta : TA} {ds : List PyData} (h : MkA ta ds) (l : ds.length ≤ 1000 := by exact Nat.le_of_ble_eq_true rfl) : Mk (tLst ta) (.list ds) := fun σ H Q k => h σ H _ fun vs H1 e1 t1 => ⟨by rw [t1.length, sizeLine_eq]; omega, fun p np => k _ _ (e1.trans (same_new np)) (.lst upd_same (t1.ext (same_new np)))⟩
theorem mk_tup {ta : TA} {ds : List PyData} (h : MkA ta ds) (l : ds.length ≤ 1000 := by exact Nat.le_of_ble_eq_true rfl) : Mk (tTup ta) (.tuple ds) := fun σ H Q k => h σ H _ fun vs H1 e1 t1 => ⟨by rw [t1.length, sizeLine_eq]; omega, fun p np => k _ _ (e1.trans (same_new np)) (.tup upd_same (t1.ext (same_new np)))⟩
theorem mk_dict {i j : Int} : Mk (tDisp [(tC (.int i), tLst (tCons (tC (.int j)) tNil))]) (.dict [(.int i, .list [.int j])]) := fun σ H Q k => fun p np => ⟨small4 1, fun q nq => by
  have qp : q ≠ p := Ne.symm (ne_of_none upd_same nq)
  refine ⟨by rw [upd_ne qp.symm]; exact upd_same, [(.inl i, .ref q)], rfl, Nat.le_of_ble_eq_true rfl, ?_⟩
  refine k _ _ (fun b o e => ?_) (.dct upd_same (.cons (k := .inl i) (.lst (by rw [upd_ne qp]; exact upd_same) (.cons (.int j) .nil)) .nil))
  rw [upd_ne (ne_of_none e np)]
  exact same_new nq _ _ (same_new np _ _ e)⟩
/-- what is a thing in H is one where the tables aren't looked at -/
theorem Th.hid {H : Hp} : ∀ {v : V} {d : PyData}, Th H v d → Th (Hid [] H) v d := fun {v d} t => by
  refine Th.rec (motive_1 := fun v d _ => Th (Hid [] H) v d) (motive_2 := fun vs ds _ => ThAll (Hid [] H) vs ds) (motive_3 := fun kvs ps _ => ThKv (Hid [] H) kvs ps) .non .bl .int .str (fun h _ r => .lst (hid_of (fun z => nomatch z) h (fun ps z => nomatch z)) r) (fun h _ r => .tup (hid_of (fun z => nomatch z) h (fun ps z => nomatch z)) r) (fun h _ r => .dct (hid_of (fun z => nomatch z) h (fun ps z => nomatch z)) r) .nil (fun _ _ a b => .cons a b) .nil (fun _ _ a b => .cons a b) t
abbrev sOd : Stmt := topS 32
theorem scOd : FnScope ["odds"] [] (defScope sOd) := ⟨rfl, rfl, rfl, by decide +kernel, rfl, by decide +kernel, by decide +kernel⟩
def odd1 : List PyData := [.none, .int 5, .str "0(1)", .list [], .tuple [], .list [.list [], .list []], .tuple [.list [.int 0, .int 1]], .tuple [.list [.int 0], .list [.int 1], .list [.int 0]], .tuple [.list [.int 2], .list [.int 0]], .tuple [.list [.int 0], .list [.bool true]], .tuple [.list [.bool false], .list [.int 1]]]
def odd2 : List PyData := [.tuple [.list [.int 0], .str "1"], .tuple [.int 0, .list [.int 1]], .tuple [.list [], .list [.list [.int 1]]], .tuple [.list [.none], .list [.int 1]], .dict [(.int 0, .list [.int 1])]]
theorem odd_all : (odd1 ++ odd2).all (fun d => !isE d && (decide ((its d).length ≤ 100000) && ((its d).all (fun x => decide ((its x).length ≤ 100000)) && fitS 4 d))) = true := by decide +kernel
theorem app_all {H : Hp} : ∀ {x1 x2 : List V} {d1 d2 : List PyData}, ThAll H x1 d1 → ThAll H x2 d2 → ThAll H (x1 ++ x2) (d1 ++ d2)
  | [], _, _, _, h1, h2 => by cases h1; exact h2
  | _ :: _, _, _, _, h1, h2 => by cases h1 with | cons a b => exact .cons a (app_all b h2)
theorem od_run {t1 t2 : TE} (o1 : Mk t1 (.list odd1)) (o2 : Mk t2 (.list odd2)) {D : Ends} {σ : L2.St} {H : Hp} (hs : σ.length = 1) (k : ∀ (H' : Hp) (p : Addr) (xs : List V), L2.Same H H' → H' p = some (.lst xs) → ThAll H' xs (odd1 ++ odd2) → D.rt (.ref p) H') : tSeq (tAsg t1 (gName 0)) (tRet (tOp rCat (tVar 0) t2)) D σ H := by
  show t1 _ _ _
  refine o1 _ _ _ (fun v H1 s1 r1 => ?_)
  obtain ⟨x, rfl⟩ : ∃ x, σ = [x] := by match σ, hs with | [x], _ => exact ⟨x, rfl⟩
  cases r1 with
  | @lst a xs _ ha r1 =>
    refine ⟨.ref a, rfl, o2 _ _ _ (fun v2 H2 s2 r2 => ?_)⟩
    cases r2 with
    | @lst b ys _ hb r2 =>
      have l1 : xs.length = 11 := r1.length
      have l2 : ys.length = 5 := r2.length
      refine ⟨a, b, xs, ys, rfl, rfl, s2 _ _ ha, hb, by rw [l1, l2]; exact small4 16, fun p np => ?_⟩
      exact k _ p _ ((s1.trans s2).trans (same_new np)) upd_same ((app_all (r1.ext s2) r2).ext (same_new np))
section
variable {P : Program} {w : World} {K : Frag} {mg : Str → Option Value} {base : Heap}
def spOd : Sp := fun vs H Q _ => vs = [] ∧ ∀ (H' : Hp) (p : Addr) (xs : List V), L2.Same H H' → H' p = some (.lst xs) → ThAll H' xs (odd1 ++ odd2) → Q (.ref p) H'
theorem ok_od {f : Addr} {fd : FuncData} (F : FunD K "_law_f_odd_rows" "_law_f_odd_rows" (defArgs sOd) (defBody sOd) (defScope sOd) [] [] f fd) : FnOk P w K mg base CX0 1 f fd [] spOd := by
  refine F.ok scOd (fun vs H Q E h => ?_) (fun cdv A outer s H vs Q XE hr h => ?_)
  · obtain ⟨rfl, _⟩ := h
    rfl
  · obtain ⟨rfl, k⟩ := h
    refine ⟨_, PSs.nox (pss_cons (ps_set (i := 0) scOd.nd rfl (.inl rfl) (pe_lst (pa_cons pe_non (pa_cons pe_int (pa_cons pe_str (pa_cons (pe_lst pa_nil) (pa_cons (pe_tup pa_nil) (pa_cons (pe_lst (pa_cons (pe_lst pa_nil) (pa_cons (pe_lst pa_nil) pa_nil))) (pa_cons (pe_tup (pa_cons (pe_lst (pa_cons pe_int (pa_cons pe_int pa_nil))) pa_nil))
        (pa_cons (pe_tup (pa_cons (pe_lst (pa_cons pe_int pa_nil)) (pa_cons (pe_lst (pa_cons pe_int pa_nil)) (pa_cons (pe_lst (pa_cons pe_int pa_nil)) pa_nil)))) (pa_cons (pe_tup (pa_cons (pe_lst (pa_cons pe_int pa_nil)) (pa_cons (pe_lst (pa_cons pe_int pa_nil)) pa_nil))) (pa_cons (pe_tup (pa_cons (pe_lst (pa_cons pe_int pa_nil)) (pa_cons (pe_lst (pa_cons pe_bl pa_nil)) pa_nil))) (pa_cons (pe_tup (pa_cons (pe_lst (pa_cons pe_bl pa_nil)) (pa_cons (pe_lst (pa_cons pe_int pa_nil)) pa_nil))) pa_nil)))))))))))))
      (pss_one (ps_ret (pe_op op_cat (pv 0) (pe_lst (pa_cons (pe_tup (pa_cons (pe_lst (pa_cons pe_int pa_nil)) (pa_cons pe_str pa_nil))) (pa_cons (pe_tup (pa_cons pe_int (pa_cons (pe_lst (pa_cons pe_int pa_nil)) pa_nil))) (pa_cons (pe_tup (pa_cons (pe_lst pa_nil) (pa_cons (pe_lst (pa_cons (pe_lst (pa_cons pe_int pa_nil)) pa_nil)) pa_nil)))
        (pa_cons (pe_tup (pa_cons (pe_lst (pa_cons pe_non pa_nil)) (pa_cons (pe_lst (pa_cons pe_int pa_nil)) pa_nil))) (pa_cons (pe_disp (pps_cons pe_int (pe_lst (pa_cons pe_int pa_nil)) pps_nil) rfl rfl (by simp) (by decide)) pa_nil)))))))))), ?_⟩
    have i1 : ∀ {i : Int}, Mk (tLst (tCons (tC (.int i)) tNil)) (.list [.int i]) := mk_lst (mka_cons mk_int mka_nil)
    have b1 : ∀ {b : Bool}, Mk (tLst (tCons (tC (.bl b)) tNil)) (.list [.bool b]) := mk_lst (mka_cons mk_bl mka_nil)
    have e0 : Mk (tLst tNil) (.list []) := mk_lst mka_nil
    have two : ∀ {t1 t2 : TE} {d1 d2 : PyData}, Mk t1 d1 → Mk t2 d2 → Mk (tTup (tCons t1 (tCons t2 tNil))) (.tuple [d1, d2]) := fun a b => mk_tup (mka_cons a (mka_cons b mka_nil))
    have o1 := mk_lst (ds := odd1) (mka_cons mk_non (mka_cons mk_int (mka_cons mk_str (mka_cons e0 (mka_cons (mk_tup mka_nil) (mka_cons (mk_lst (mka_cons e0 (mka_cons e0 mka_nil))) (mka_cons (mk_tup (mka_cons (mk_lst (mka_cons mk_int (mka_cons mk_int mka_nil))) mka_nil)) (mka_cons (mk_tup (mka_cons i1 (mka_cons i1 (mka_cons i1 mka_nil)))) (mka_cons (two i1 i1) (mka_cons (two i1 b1) (mka_cons (two b1 i1) mka_nil)))))))))))
    have o2 := mk_lst (ds := odd2) (mka_cons (two i1 mk_str) (mka_cons (two mk_int i1) (mka_cons (two e0 (mk_lst (mka_cons i1 mka_nil))) (mka_cons (two (mk_lst (mka_cons mk_non mka_nil)) i1) (mka_cons mk_dict mka_nil)))))
    exact od_run o1 o2 rfl (fun H' p xs e h r => k _ p _ e h r)
end
end K14
namespace K14
open PySem PySem.W PySem.Calls PyProof.Rows L2 LamX
open He (ga)
open Kz (SS ExtS ExtS.trans ExtS.refl small4 same_new boot_in boot_li new_ext Has pe_has noE PSs.of_eq)
/-! ### asks: _law_row_or(lambda: ..) -/
theorem same_N {H H1 : Hp} (e : L2.Same H H1) : ExtN H H1 := ExtN.of e
def Gives (T : List (Addr × Str)) (te : TE) (S : L2.St → Prop) (H0 : Hp) (w : Str) (v : V) : Prop := ∀ (σ : L2.St) (H : Hp) (Q : VK), S σ → ExtN H0 H → Tabs T H → (∀ (H' : Hp) (t : Addr), ExtN H H' → Tabs T H' → H' t = some (.tup [.str w, v]) → Q (.ref t) H') → te σ H Q
theorem gives_of {K : Frag} {T : List (Addr × Str)} {t : XK → TE} {S : L2.St → Prop} {H0 : Hp} {w : Str} {v : V} (h : ∀ (σ : L2.St) (H1 : Hp) (Q Q' : VK), S σ → ExtN H0 H1 → (∀ (H' : Hp) (t' : Addr), L2.Same H1 H' → H' t' = some (.tup [.str w, v]) → Q (.ref t') H') → t (Eo K Q) σ H1 Q') : Gives T (tLam T (tlX K) t) S H0 w v :=
  fun σ H Q hS e hT k => ⟨hT, fun H1 e1 T1 Q' => h σ H1 Q Q' hS (e.trans e1) fun H' t' s q => k H' t' (e1.trans (ExtN.of s)) (T1.ext s) q⟩
theorem says_eo {K : Frag} (p : Str × Str) (hp : p ∈ four) {v : V} {H1 : Hp} {Q : VK} (k : ∀ (H' : Hp) (t : Addr), L2.Same H1 H' → H' t = some (.tup [.str p.2, v]) → Q (.ref t) H') : Says (ga K p.1) v H1 (Eo K Q) :=
  fun H' dx s q => ⟨p, hp, rfl, dx, v, rfl, q, fun H'' t e h => k H'' t (s.trans e) h⟩
theorem tabS_lst {H : Hp} {P F : Addr} {q : Str} {xs ys : List V} (t : TabS H P q) (hF : H F = some (.lst xs)) : TabS (upd H F (.lst ys)) P q := by
  obtain ⟨ps, h1, h2, h3⟩ := t
  refine ⟨ps, ?_, h2, fun pos cv hc => ?_⟩
  · rw [upd_ne (fun z => by rw [z, hF] at h1; cases h1)]
    exact h1
  · obtain ⟨c, e, h⟩ := h3 pos cv hc
    refine ⟨c, e, ?_⟩
    rw [upd_ne (fun z => by
      rw [z, hF] at h
      unfold CodeO at h
      cases h)]
    exact h
theorem tabs_lst {T : List (Addr × Str)} {H : Hp} {F : Addr} {xs ys : List V} (t : Tabs T H) (hF : H F = some (.lst xs)) : Tabs T (upd H F (.lst ys)) := fun p hp => tabS_lst (t p hp) hF
/-- found, n of them -/
structure Fnd (T : List (Addr × Str)) (H0 : Hp) (w : Str) (v : V) (F : Addr) (n : Nat) (H : Hp) : Prop where
  n0 : ∀ o, H0 F = some o → ∃ ps, o = .tbl ps
  ex : ExtN H0 H
  tb : Tabs T H
  li : ∃ ts : List Addr, H F = some (.lst (ts.map V.ref)) ∧ ts.length = n ∧ ∀ t ∈ ts, H t = some (.tup [.str w, v])
theorem ext_lst {H0 H : Hp} {F : Addr} {u : HO} (n : ∀ o, H0 F = some o → ∃ ps, o = .tbl ps) (e : ExtN H0 H) : ExtN H0 (upd H F u) := fun b o h t => by
  rw [upd_ne (fun z => by
    rw [z] at h
    obtain ⟨ps, q⟩ := n o h
    exact t ps q)]
  exact e b o h t
theorem none_tbl {H0 H : Hp} {F : Addr} (e : ExtN H0 H) (n : H F = none) : ∀ o, H0 F = some o → ∃ ps, o = .tbl ps := fun o h => by
  cases o with
  | tbl ps => exact ⟨ps, rfl⟩
  | _ =>
    rw [e _ _ h (fun ps z => nomatch z)] at n
    cases n
theorem fit_mono : ∀ {n : Nat} {d : PyData}, fitS n d = true → fitS (n + 1) d = true := by
  intro n
  induction n with
  | zero => intro d h; cases d <;> first | rfl | exact absurd (show false = true from h) Bool.false_ne_true
  | succ n ih =>
    intro d h
    have go : ∀ xs : List PyData, (decide (xs.length ≤ 1000) && xs.all (fitS n)) = true → (decide (xs.length ≤ 1000) && xs.all (fitS (n + 1))) = true := fun xs h => by
      obtain ⟨h1, h2⟩ := Bool.and_eq_true_iff.mp h
      rw [h1, Bool.true_and]
      exact List.all_eq_true.mpr fun x hx => ih (List.all_eq_true.mp h2 x hx)
    cases d with
    | list xs => exact go xs h
    | tuple xs => exact go xs h
    | dict ps =>
      obtain ⟨h1, h2⟩ := Bool.and_eq_true_iff.mp (show (decide (ps.length ≤ 1000) && fitS n (.list (ps.map fun p => .tuple [p.1, p.2]))) = true from h)
      show (decide (ps.length ≤ 1000) && fitS (n + 1) (.list (ps.map fun p => .tuple [p.1, p.2]))) = true
      rw [h1, Bool.true_and]
      exact ih h2
    | _ => rfl
section
variable {K : Frag} {T : List (Addr × Str)} {te : TE} {S : L2.St → Prop} {H0 H : Hp} {w : Str} {v : V} {σ : L2.St} {D : Ends} {F : Addr} {n : Nat}
theorem first_ask (hG : Gives T te S H0 w v) (hS : S σ) (e : ExtN H0 H) (hT : Tabs T H) (k : ∀ (H' : Hp) (F : Addr), Fnd T H0 w v F 1 H' → D.nx (σ.set 2 (some (.ref F))) H') : tAsg (tLst (tCons te tNil)) (gName 2) D σ H :=
  hG σ H _ hS e hT fun H' t e1 T1 q => ⟨small4 1, fun F nF => k _ F ⟨none_tbl (e.trans e1) nF, (e.trans e1).trans (same_N (same_new nF)), T1.ext (same_new nF), [t], upd_same, rfl, fun t' ht => by
    rw [List.mem_singleton.mp ht]
    exact same_new nF _ _ q⟩⟩
theorem next_ask (hG : Gives T te S H0 w v) (hS : S σ) (h2 : σ[2]? = some (some (.ref F))) (hn : n < 1000) (f : Fnd T H0 w v F n H) (k : ∀ H', Fnd T H0 w v F (n + 1) H' → D.nx σ H') : tDrop (tBM K "list" rAppend (tVar 2) (tCons te tNil)) D σ H := by
  obtain ⟨n0, ex, tb, ts, l1, l2, l3⟩ := f
  refine ⟨.ref F, h2, .inl ⟨rfl, _, .inl (.inl l1)⟩, hG σ H _ hS ex tb fun H' t e1 T1 q => ?_⟩
  have q1 := e1 _ _ l1 (fun ps z => nomatch z)
  refine ⟨F, _, .ref t, rfl, rfl, q1, by rw [List.length_map, sizeLine_eq]; omega, k _ ⟨n0, ext_lst n0 (ex.trans e1), tabs_lst T1 q1, ts ++ [t], by rw [upd_same, List.map_append]; rfl, by rw [List.length_append, l2]; rfl, fun t' ht => ?_⟩⟩
  have at_ : H' t' = some (.tup [.str w, v]) := by
    rcases List.mem_append.mp ht with ht | ht
    · exact e1 _ _ (l3 t' ht) (fun ps z => nomatch z)
    · rw [List.mem_singleton.mp ht]
      exact q
  rw [upd_ne (fun z => by rw [z, q1] at at_; cases at_)]
  exact at_
theorem th_rep {H : Hp} {v : V} {d : PyData} {ts : List V} (h : ∀ t ∈ ts, Th H t d) : ThAll H ts (List.replicate ts.length d) := by
  induction ts with
  | nil => exact .nil
  | cons t r ih => exact .cons (h t (List.mem_cons_self ..)) (ih fun t' h' => h t' (List.mem_cons_of_mem _ h'))
theorem rep_one (x : V) : ∀ n : Nat, (List.replicate n [x]).flatten = List.replicate n x
  | 0 => rfl
  | n + 1 => by rw [List.replicate_succ, List.flatten_cons, rep_one x n]; rfl
theorem fit_rep {m : Nat} {d : PyData} (hd : fitS m d = true) (n : Nat) (hn : n ≤ 1000) : fitS (m + 1) (.list (List.replicate n d)) = true := by
  show (decide ((List.replicate n d).length ≤ 1000) && (List.replicate n d).all (fitS m)) = true
  rw [List.length_replicate, decide_eq_true hn, Bool.true_and]
  exact List.all_eq_true.mpr fun x hx => by rw [List.eq_of_mem_replicate hx]; exact hd
theorem fit_say {m : Nat} {d : PyData} (hd : fitS m d = true) : fitS (m + 1) (.tuple [.str w, d]) = true := by
  show (decide (2 ≤ 1000) && (fitS m (.str w) && (fitS m d && true))) = true
  rw [hd]
  cases m <;> rfl
/-- if not _law_same(found, [(w, odd)] * n): return False -/
theorem asked_same {d : PyData} {A : TS} (h2 : σ[2]? = some (some (.ref F))) (h4 : σ[4]? = some (some v)) (hn : n ≤ 1000) (f : Fnd T H0 w v F n H) (tv : Th (Hid [] H0) v d) (hd : fitS 4 d = true) (k : ∀ H', ExtN H0 H' → Tabs T H' → D.nx σ H') :
    tIfS (tNot (tB (tCall (spSm 6) [] noE (tCons (tVar 2) (tCons (tOp rRep (tLst (tCons (tTup (tCons (tC (.str w)) (tCons (tVar 4) tNil))) tNil)) (tC (.int (n : Nat)))) tNil))))) A tNext D σ H := by
  obtain ⟨n0, ex, tb, ts, l1, l2, l3⟩ := f
  refine ⟨.ref F, h2, v, h4, small4 2, fun p np => ⟨small4 1, fun p1 np1 => ⟨p1, (n : Nat), _, rfl, rfl, upd_same, by omega, by omega, ?_, fun p2 np2 => ?_⟩⟩⟩
  · rw [sizeLine_eq]
    show 1 * (Int.toNat (n : Nat)) ≤ _
    omega
  have e1 := same_new (o := .tup [.str w, v]) np
  have e2 := same_new (o := .lst [.ref p]) np1
  have e3 := same_new (o := .lst (List.replicate (Int.toNat (n : Nat)) [V.ref p]).flatten) np2
  have E := e1.trans (e2.trans e3)
  have tv1 : Th H v d := (tv.ext (hid_N ex)).ext hid_up
  have en : Int.toNat (n : Nat) = n := Int.toNat_natCast n
  refine ⟨.ref F, .ref p2, .list (List.replicate n (.tuple [.str w, d])), rfl, .lst (E _ _ l1) ?_, .lst upd_same ?_, fit_rep (fit_say hd) n hn, fun H' e4 => ⟨true, rfl, iteF (k H' (ex.trans (same_N (E.trans e4))) (tb.ext (E.trans e4)))⟩⟩
  · have := th_rep (v := v) (d := .tuple [.str w, d]) (ts := ts.map V.ref) (H := H) fun t ht => by
      obtain ⟨a, ha, rfl⟩ := List.mem_map.mp ht
      exact .tup (l3 a ha) (.cons (.str w) (.cons tv1 .nil))
    rw [List.length_map, l2] at this
    exact this.ext E
  · rw [en, rep_one]
    have := th_rep (v := v) (d := .tuple [.str w, d]) (ts := List.replicate n (V.ref p)) (H := upd H p (.tup [.str w, v])) fun t ht => by
      rw [List.eq_of_mem_replicate ht]
      exact .tup upd_same (.cons (.str w) (.cons (tv1.ext e1) .nil))
    rw [List.length_replicate] at this
    have r := (this.ext e2).ext e3
    rw [en, rep_one] at r
    exact r
/-- if not _law_same(_law_row_or(..), (w, odd)): return False -/
theorem asked_one {d : PyData} {A : TS} (hG : Gives T te S H0 w v) (hS : S σ) (h4 : σ[4]? = some (some v)) (ex : ExtN H0 H) (hT : Tabs T H) (tv : Th (Hid [] H0) v d) (hd : fitS 4 d = true) (k : ∀ H', ExtN H0 H' → Tabs T H' → D.nx σ H') :
    tIfS (tNot (tB (tCall (spSm 6) [] noE (tCons te (tCons (tTup (tCons (tC (.str w)) (tCons (tVar 4) tNil))) tNil))))) A tNext D σ H := by
  refine hG σ H _ hS ex hT fun H1 t e1 T1 q => ⟨v, h4, small4 2, fun p np => ?_⟩
  have tv1 : Th H1 v d := (tv.ext (hid_N (ex.trans e1))).ext hid_up
  have e2 := same_new (o := .tup [.str w, v]) np
  refine ⟨.ref t, .ref p, .tuple [.str w, d], rfl, .tup (e2 _ _ q) (.cons (.str w) (.cons (tv1.ext e2) .nil)), .tup upd_same (.cons (.str w) (.cons (tv1.ext e2) .nil)), ?_, fun H' e4 => ⟨true, rfl, iteF (k H' ((ex.trans e1).trans (same_N (e2.trans e4))) (T1.ext (e2.trans e4)))⟩⟩
  exact fit_mono (fit_say hd)
end
end K14
namespace K14
open PySem PySem.W PySem.Calls PyProof.Rows L2 LamX
open He (ga)
open Kz (SS ExtS ExtS.trans ExtS.refl small4 same_new boot_in boot_li new_ext Has pe_has noE PSs.of_eq)
abbrev sRf : Stmt := topS 42
abbrev Nrf : List Str := ["stream", "row", "found", "held", "odd"]
theorem scRf : FnScope Nrf ["stream", "row"] (defScope sRf) := ⟨rfl, rfl, rfl, by decide +kernel, rfl, by decide +kernel, by decide +kernel⟩
def stF (i : Nat) : Stmt := (defBody sRf).getD i (.Pass ⟨0, 0, 0, 0⟩)
theorem bdF : defBody sRf = [stF 0, stF 1, stF 2, stF 3, stF 4, stF 5, stF 6] := by rfl
def stFb (j i : Nat) : Stmt := (bodyOf (stF j)).getD i (.Pass ⟨0, 0, 0, 0⟩)
theorem bdF0 : bodyOf (stF 0) = [stFb 0 0, stFb 0 1, stFb 0 2, stFb 0 3, stFb 0 4, stFb 0 5] := by rfl
theorem bdF1 : bodyOf (stF 1) = [stFb 1 0, stFb 1 1, stFb 1 2] := by rfl
theorem bdF2 : bodyOf (stF 2) = [stFb 2 0, stFb 2 1, stFb 2 2] := by rfl
def qRf : Str := (("_law_refused_right" : Str) ++ ".<locals>.") ++ "<lambda>"
def lamOf : Stmt → Arguments × Expr × Scope
  | .Assign _ (.List [.Call _ [.Lambda a b s _] _ _] _) _ => (a, b, s)
  | .Assign _ (.Call _ [.Lambda a b s _] _ _) _ => (a, b, s)
  | .Expr (.Call _ [.Call _ [.Lambda a b s _] _ _] _ _) _ => (a, b, s)
  | .If (.UnaryOp _ (.Call _ [.Call _ [.Lambda a b s _] _ _, _] _ _) _) _ _ _ => (a, b, s)
  | _ => (defArgs sRf, .Name "x" ⟨0, 0, 0, 0⟩, defScope sRf)
def lamBd (s : Stmt) : Expr := (lamOf s).2.1
def lamSc (s : Stmt) : Scope := (lamOf s).2.2
section
variable {K : Frag} {T : List (Addr × Str)} {te : TE} {S : L2.St → Prop} {H0 H : Hp} {w : Str} {v : V} {σ : L2.St} {D : Ends} {F : Addr} {n : Nat} {u A : TS}
theorem first_askS (hG : Gives T te S H0 w v) (hS : S σ) (e : ExtN H0 H) (hT : Tabs T H) (k : ∀ (H' : Hp) (F : Addr), Fnd T H0 w v F 1 H' → u D (σ.set 2 (some (.ref F))) H') : tSeq (tAsg (tLst (tCons te tNil)) (gName 2)) u D σ H := first_ask (D := { nx := u D, rt := D.rt, bk := D.bk, ct := D.ct }) hG hS e hT k
theorem next_askS (n : Nat) (hG : Gives T te S H0 w v) (hS : S σ) (h2 : σ[2]? = some (some (.ref F))) (hn : n < 1000) (f : Fnd T H0 w v F n H) (k : ∀ H', Fnd T H0 w v F (n + 1) H' → u D σ H') : tSeq (tDrop (tBM K "list" rAppend (tVar 2) (tCons te tNil))) u D σ H := next_ask (D := { nx := u D, rt := D.rt, bk := D.bk, ct := D.ct }) hG hS h2 hn f k
theorem asked_sameS (n : Nat) {d : PyData} (h2 : σ[2]? = some (some (.ref F))) (h4 : σ[4]? = some (some v)) (hn : n ≤ 1000) (f : Fnd T H0 w v F n H) (tv : Th (Hid [] H0) v d) (hd : fitS 4 d = true) (k : ∀ H', ExtN H0 H' → Tabs T H' → u D σ H') :
    tSeq (tIfS (tNot (tB (tCall (spSm 6) [] noE (tCons (tVar 2) (tCons (tOp rRep (tLst (tCons (tTup (tCons (tC (.str w)) (tCons (tVar 4) tNil))) tNil)) (tC (.int (n : Nat)))) tNil))))) A tNext) u D σ H := asked_same (D := { nx := u D, rt := D.rt, bk := D.bk, ct := D.ct }) h2 h4 hn f tv hd k
theorem mk_neg {i : Int} : Mk (tUn (rU fun i => .int (-i)) (tC (.int i))) (.int (-i)) := fun σ H Q k => ⟨i, rfl, k _ H (fun _ _ e => e) (.int _)⟩
theorem mk_d0 : Mk tDNewK (.dict []) := fun σ H Q k p np => k _ _ (same_new np) (.dct upd_same .nil)
theorem run_tup {ds : List PyData} {R : It → Hp → Prop} (m : Mk te (.tuple ds)) (k : ∀ (H' : Hp) (a : Addr) (xs : List V), L2.Same H H' → H' a = some (.tup xs) → ThAll H' xs ds → R (Itt K a) H') : iTup K te σ H R := m σ H _ fun v H' e t => by
  cases t with
  | tup h r => exact ⟨_, rfl, ⟨_, .inl (.inl h)⟩, k H' _ _ e h r⟩
theorem tup_for {ds : List PyData} {g : TG} {tb : TS} (m : Mk te (.tuple ds)) (Pv : Hp → L2.St → Hp → Prop) (h0 : ∀ H', L2.Same H H' → Pv H' σ H') (hk : ∀ HU σ' G, Pv HU σ' G → ExtN HU G)
    (hs : ∀ HU y d σ' G, L2.Same H HU → d ∈ ds → Th (Hid [] HU) y d → Pv HU σ' G → g y σ' G fun σ2 H2 => tb { nx := Pv HU, rt := D.rt, bk := u D, ct := Pv HU } σ2 H2) (he : ∀ HU σ' G, L2.Same H HU → Pv HU σ' G → u D σ' G) : tSeq (tFor (iTup K te) g tb) u D σ H := by
  unfold tSeq tFor
  refine run_tup m fun HU pu us eU qU rU => ?_
  refine for_tup (D := { nx := u D, rt := D.rt, bk := D.bk, ct := D.ct }) (xs := us) (fun _ => Pv HU) (h0 HU eU) (fun j σ G _ e => .inl (.inl (hk HU σ G e _ _ qU (fun ps z => nomatch z)))) (fun j y σ G hy e => ?_) (fun σ G e => he HU σ G eU e)
  obtain ⟨d, hd, ty⟩ := rU.get hy
  exact hs HU y d σ G eU (List.mem_of_getElem? hd) ty.hid e
end
structure RfK (P : Program) (w : World) (K : Frag) (mg : Str → Option Value) (base : Heap) : Prop where
  sm : Has P w K mg base "_law_same" 7 ["found", "due"] (spSm 6)
  od : ∃ f fd, mg "_law_f_odd_rows" = some (.ref f) ∧ keepIn K (.ref f) = true ∧ L2.Binds K fd [] [] ∧ FnOk P w K mg base CX0 1 f fd [] spOd
  tp : HasX P w K mg base "tops" 6 ["endless", "many"] (spTpX K)
  dt : HasX P w K mg base "drop_tops" 6 ["endless", "many"] (spTpX K)
  pa : HasX P w K mg base "put_all" 6 ["figures", "endless"] (spPaX K)
  fu : HasX P w K mg base "first_unlike" 6 ["endless", "other"] (spFuX K)
def spRf (T : List (Addr × Str)) : Sp := fun vs H Q _ => ∃ (v0 : V) (t : Addr) (hs as : List Int), vs = [v0, .ref t] ∧ RowT (Hid [] H) t hs as ∧ Figs 4 hs as ∧ Tabs T H ∧ ∀ H', ExtN H H' → Tabs T H' → Q (.bl true) H'
def odds2 : List PyData := [.none, .int (-1), .bool true, .bool false, .str "3", .list [.int 2]]
def odds3 : List PyData := [.none, .int 0, .str "01", .dict [], .list [.int 2], .list [.int 0, .bool true], .list [.list [.int 0]], .list [.int 0, .none], .tuple [.int (-1)]]
theorem odds2_all : odds2.all (fun d => !isN d && (decide ((its d).length ≤ 100000) && ((its d).all (fun x => decide ((its x).length ≤ 100000)) && fitS 4 d))) = true := by decide +kernel
theorem odds3_all : odds3.all (fun d => !isR d && (decide ((its d).length ≤ 100000) && ((its d).all (fun x => decide ((its x).length ≤ 100000)) && fitS 4 d))) = true := by decide +kernel
theorem odd_at {f : PyData → Bool} {l : List PyData} (h : l.all (fun d => !f d && (decide ((its d).length ≤ 100000) && ((its d).all (fun x => decide ((its x).length ≤ 100000)) && fitS 4 d))) = true) {d : PyData} (m : d ∈ l) {H : Hp} {v : V} (t : Th H v d) : Odd f H v ∧ fitS 4 d = true := by
  have q := List.all_eq_true.mp h d m
  obtain ⟨h1, q⟩ := Bool.and_eq_true_iff.mp q
  obtain ⟨h2, q⟩ := Bool.and_eq_true_iff.mp q
  obtain ⟨h3, h4⟩ := Bool.and_eq_true_iff.mp q
  exact ⟨⟨d, t, (by simpa using h1), of_decide_eq_true h2, fun x hx => of_decide_eq_true (List.all_eq_true.mp h3 x hx)⟩, h4⟩
theorem fun_code {K : Frag} {x : Str} {params : Arguments} {body : List Stmt} {scope : Scope} {f : Addr} {fd : FuncData} (F : FunD K x x params body scope [] [] f fd) : ∃ (oc : Value) (od : Option Addr) (kV doc pm : Value) (an : Option Addr) (c : Addr) (ct : Value) (osl : Array (Option Value)),
    fd = fnOf x x params body scope .none kV doc pm an (.ref c) ct ∧ K.lookup f = some ⟨oc, od, .func (fnOf x x params body scope .none kV doc pm an (.ref c) ct), osl⟩ ∧ codeIn K (.ref c) x = true := by
  obtain ⟨oc, od, dV, kV, doc, pm, an, cdv, ct, osl, rfl, lk, hcd, hD, _⟩ := F.ex
  obtain ⟨c, rfl⟩ := He.codeIn_ref hcd
  rcases hD with ⟨_, rfl⟩ | ⟨e, _⟩
  · exact ⟨oc, od, kV, doc, pm, an, c, ct, osl, rfl, lk, hcd⟩
  · exact absurd rfl e
section
variable {P : Program} {w : World} {K : Frag} {mg : Str → Option Value} {base : Heap}
abbrev XRf (P : Program) (w : World) (K : Frag) (mg : Str → Option Value) (base : Heap) (f : Addr) (cdv : Value) (A : Around) (outer : List Env) (s : Shared) (H : Hp) (XE : XK) : Cx := (cxOf CX0 P w K mg base Nrf "_law_refused_right" (defScope sRf) f cdv A outer s H XE).nox
theorem noXl {f : Addr} {cdv : Value} {A : Around} {outer : List Env} {s : Shared} {H : Hp} {XE : XK} {A' : Around} {outer' : List Env} {s' : Shared} {H' : Hp} {E : XK} {scope : Scope} {f' c' : Addr} : Passes (L2.CX P w) (lamCx (XRf P w K mg base f cdv A outer s H XE) A' outer' s' H' E scope f' c') E := passes_call (takes_of rfl rfl rfl rfl) (fun _ _ _ _ h => h)
theorem ok_rf {f c Pt g : Addr} {gd : FuncData} {T : List (Addr × Str)} {oc kV doc pm ct : Value} {od an : Option Addr} {osl : Array (Option Value)} (lk : K.lookup f = some ⟨oc, od, .func (fnOf "_law_refused_right" "_law_refused_right" (defArgs sRf) (defBody sRf) (defScope sRf) .none kV doc pm an (.ref c) ct), osl⟩) (hcd : codeIn K (.ref c) "_law_refused_right" = true)
    (TB : TabB base mg c Pt) (hmT : (Pt, qRf) ∈ T) (hu : ∀ p ∈ T, p.1 = Pt → p.2 = qRf)
    (G : FunD K "_law_row_or" "_law_row_or" (defArgs sRo) (defBody sRo) (defScope sRo) [] [] g gd) (mo : mg "_law_row_or" = some (.ref g)) (kp : keepIn K (.ref g) = true) (bd : L2.Binds K gd ["ask"] []) (R : RoK P K mg) (L : RfK P w K mg base) :
    FnOk P w K mg base CX0 9 f (fnOf "_law_refused_right" "_law_refused_right" (defArgs sRf) (defBody sRf) (defScope sRf) .none kV doc pm an (.ref c) ct) ["stream", "row"] (spRf T) := by
  obtain ⟨og, odg, kVg, docg, pmg, ang, cg, ctg, oslg, rfl, lkg, hcg⟩ := fun_code G
  refine fn_of (CX := CX0) (P := P) (w := w) (mg := mg) (base := base) (k := 8) (N := Nrf) lk hcd scRf (fun vs H Q E h => ?_) (fun A outer s H vs Q XE hr hsp => ?_)
  · obtain ⟨v0, t, hs, as, rfl, _⟩ := h
    rfl
  · obtain ⟨v0, t, hs, as, rfl, hrow, gf, hT, k⟩ := hsp
    have gl : Gl (XRf P w K mg base f (.ref c) A outer s H XE) "_law_row_or" := rfl
    have gv := ro_gives (X := XRf P w K mg base f (.ref c) A outer s H XE) (g := g) (cdg := .ref cg) (q := qRf) R
    have ask : ∀ {params : Arguments} {body : Expr} {scope : Scope} {p lpos pos : Pos} {t : XK → TE}, LamS (defScope sRf) scope → defaultsOf params (XRf P w K mg base f (.ref c) A outer s H XE).env = ([], []) → (∀ (q : Str) (cl : List (Str × Addr)) (pm cv ctv : Value), bindArgs (kla_fn "<lambda>" q params body scope cl pm cv ctv) ⟨[], []⟩ = pure []) →
        (∀ (A' : Around) (outer' : List Env) (s' : Shared) (H' : Hp) (E : XK) (f' c' : Addr), Room 6 (A'.deeper (lamEnv (XRf P w K mg base f (.ref c) A outer s H XE) scope s'.heap.objs.size f' c')) → PE (lamCx (XRf P w K mg base f (.ref c) A outer s H XE) A' outer' s' H' E scope f' c') body (t E)) →
        PE (XRf P w K mg base f (.ref c) A outer s H XE) (.Call (.Name "_law_row_or" p) [.Lambda params body scope lpos] [] pos) (tLam T (tlX K) t) :=
      fun hL hd hb hbody => pe_lamcall gl mo kp lkg hcg bd scRo rfl (.inl rfl) gv TB rfl hmT hu hr hL hd hb hbody
    have a00 : PS (XRf P w K mg base f (.ref c) A outer s H XE) (stFb 0 0) _ := ps_set (i := 2) scRf.nd rfl (.inl rfl) (pe_lst (pa_cons (ask (lamS_by (by decide +kernel)) rfl (fun _ _ _ _ _ => rfl) (fun A' o' s' H' E f' c' hr2 => pe_hasX L.tp hr2 (by rfl) noXl (pa_cons (pv 4) (pa_cons pe_non pa_nil)))) pa_nil))
    have a01 : PS (XRf P w K mg base f (.ref c) A outer s H XE) (stFb 0 1) _ := ps_expr (pe_bm PySem.F.plainAttrs_list PySem.F.slot_list_append PySem.F.type_list_append mt_append (pv 2) (pa_cons (ask (lamS_by (by decide +kernel)) rfl (fun _ _ _ _ _ => rfl) (fun A' o' s' H' E f' c' hr2 => pe_hasX L.dt hr2 (by rfl) noXl (pa_cons (pv 4) (pa_cons (pe_un un_neg pe_int) pa_nil)))) pa_nil))
    have a02 : PS (XRf P w K mg base f (.ref c) A outer s H XE) (stFb 0 2) _ := ps_expr (pe_bm PySem.F.plainAttrs_list PySem.F.slot_list_append PySem.F.type_list_append mt_append (pv 2) (pa_cons (ask (lamS_by (by decide +kernel)) rfl (fun _ _ _ _ _ => rfl) (fun A' o' s' H' E f' c' hr2 => pe_hasX L.pa hr2 (by rfl) noXl (pa_cons (pe_lst pa_nil) (pa_cons (pv 4) pa_nil)))) pa_nil))
    have a03 : PS (XRf P w K mg base f (.ref c) A outer s H XE) (stFb 0 3) _ := ps_expr (pe_bm PySem.F.plainAttrs_list PySem.F.slot_list_append PySem.F.type_list_append mt_append (pv 2) (pa_cons (ask (lamS_by (by decide +kernel)) rfl (fun _ _ _ _ _ => rfl) (fun A' o' s' H' E f' c' hr2 => pe_hasX L.fu hr2 (by rfl) noXl (pa_cons (pv 4) (pa_cons pe_non pa_nil)))) pa_nil))
    have a04 : PS (XRf P w K mg base f (.ref c) A outer s H XE) (stFb 0 4) _ := ps_if (pt_not (pt_val (pe_has L.sm (hr.mono (by decide)) (by rfl) (pa_cons (pv 2) (pa_cons (pe_op op_rep (pe_lst (pa_cons (pe_tup (pa_cons pe_str (pa_cons (pv 4) pa_nil))) pa_nil)) pe_int) pa_nil))))) (pss_one (ps_ret pe_bl)) pss_nil
    have a05 : PS (XRf P w K mg base f (.ref c) A outer s H XE) (stFb 0 5) _ := ps_if (pt_not (pt_val (pe_has L.sm (hr.mono (by decide)) (by rfl) (pa_cons (ask (lamS_by (by decide +kernel)) rfl (fun _ _ _ _ _ => rfl) (fun A' o' s' H' E f' c' hr2 => pe_hasX L.fu hr2 (by rfl) noXl (pa_cons (pv 1) (pa_cons (pv 4) pa_nil)))) (pa_cons (pe_tup (pa_cons pe_str (pa_cons (pv 4) pa_nil))) pa_nil))))) (pss_one (ps_ret pe_bl)) pss_nil
    have a10 : PS (XRf P w K mg base f (.ref c) A outer s H XE) (stFb 1 0) _ := ps_set (i := 2) scRf.nd rfl (.inl rfl) (pe_lst (pa_cons (ask (lamS_by (by decide +kernel)) rfl (fun _ _ _ _ _ => rfl) (fun A' o' s' H' E f' c' hr2 => pe_hasX L.tp hr2 (by rfl) noXl (pa_cons (pv 1) (pa_cons (pv 4) pa_nil)))) pa_nil))
    have a11 : PS (XRf P w K mg base f (.ref c) A outer s H XE) (stFb 1 1) _ := ps_expr (pe_bm PySem.F.plainAttrs_list PySem.F.slot_list_append PySem.F.type_list_append mt_append (pv 2) (pa_cons (ask (lamS_by (by decide +kernel)) rfl (fun _ _ _ _ _ => rfl) (fun A' o' s' H' E f' c' hr2 => pe_hasX L.dt hr2 (by rfl) noXl (pa_cons (pv 1) (pa_cons (pv 4) pa_nil)))) pa_nil))
    have a12 : PS (XRf P w K mg base f (.ref c) A outer s H XE) (stFb 1 2) _ := ps_if (pt_not (pt_val (pe_has L.sm (hr.mono (by decide)) (by rfl) (pa_cons (pv 2) (pa_cons (pe_op op_rep (pe_lst (pa_cons (pe_tup (pa_cons pe_str (pa_cons (pv 4) pa_nil))) pa_nil)) pe_int) pa_nil))))) (pss_one (ps_ret pe_bl)) pss_nil
    have a20 : PS (XRf P w K mg base f (.ref c) A outer s H XE) (stFb 2 0) _ := ps_set (i := 2) scRf.nd rfl (.inl rfl) (pe_lst (pa_cons (ask (lamS_by (by decide +kernel)) rfl (fun _ _ _ _ _ => rfl) (fun A' o' s' H' E f' c' hr2 => pe_hasX L.pa hr2 (by rfl) noXl (pa_cons (pv 4) (pa_cons (pv 1) pa_nil)))) pa_nil))
    have a21 : PS (XRf P w K mg base f (.ref c) A outer s H XE) (stFb 2 1) _ := ps_expr (pe_bm PySem.F.plainAttrs_list PySem.F.slot_list_append PySem.F.type_list_append mt_append (pv 2) (pa_cons (ask (lamS_by (by decide +kernel)) rfl (fun _ _ _ _ _ => rfl) (fun A' o' s' H' E f' c' hr2 => pe_hasX L.pa hr2 (by rfl) noXl (pa_cons (pv 4) (pa_cons pe_non pa_nil)))) pa_nil))
    have a22 : PS (XRf P w K mg base f (.ref c) A outer s H XE) (stFb 2 2) _ := ps_if (pt_not (pt_val (pe_has L.sm (hr.mono (by decide)) (by rfl) (pa_cons (pv 2) (pa_cons (pe_op op_rep (pe_lst (pa_cons (pe_tup (pa_cons pe_str (pa_cons (pv 4) pa_nil))) pa_nil)) pe_int) pa_nil))))) (pss_one (ps_ret pe_bl)) pss_nil
    obtain ⟨fo, fdo, ho1, ho2, ho3, ho4⟩ := L.od
    have r0 : PS (XRf P w K mg base f (.ref c) A outer s H XE) (stF 0) _ := ps_for PassesOwn.never rfl (pi_list (pe_call0 ho4 (hr.mono (by decide)) (by rfl) ho1 ho2 ho3 .nil pass0)) (pg_name (i := 4) scRf.nd rfl (.inr rfl)) (PSs.of_eq bdF0 (pss_cons a00 (pss_cons a01 (pss_cons a02 (pss_cons a03 (pss_cons a04 (pss_one a05)))))))
    have r1 : PS (XRf P w K mg base f (.ref c) A outer s H XE) (stF 1) _ := ps_for PassesOwn.never rfl (pi_tup (pe_tup (pa_cons pe_non (pa_cons (pe_un un_neg pe_int) (pa_cons pe_bl (pa_cons pe_bl (pa_cons pe_str (pa_cons (pe_lst (pa_cons pe_int pa_nil)) pa_nil)))))))) (pg_name (i := 4) scRf.nd rfl (.inr rfl)) (PSs.of_eq bdF1 (pss_cons a10 (pss_cons a11 (pss_one a12))))
    have r2 : PS (XRf P w K mg base f (.ref c) A outer s H XE) (stF 2) _ := ps_for PassesOwn.never rfl (pi_tup (pe_tup (pa_cons pe_non (pa_cons pe_int (pa_cons pe_str (pa_cons pe_dnewK (pa_cons (pe_lst (pa_cons pe_int pa_nil)) (pa_cons (pe_lst (pa_cons pe_int (pa_cons pe_bl pa_nil))) (pa_cons (pe_lst (pa_cons (pe_lst (pa_cons pe_int pa_nil)) pa_nil)) (pa_cons (pe_lst (pa_cons pe_int (pa_cons pe_non pa_nil))) (pa_cons (pe_tup (pa_cons (pe_un un_neg pe_int) pa_nil)) pa_nil))))))))))) (pg_name (i := 4) scRf.nd rfl (.inr rfl)) (PSs.of_eq bdF2 (pss_cons a20 (pss_cons a21 (pss_one a22))))
    have r3 : PS (XRf P w K mg base f (.ref c) A outer s H XE) (stF 3) _ := ps_set (i := 3) scRf.nd rfl (.inr rfl) (pe_lst (pa_cons pe_int (pa_cons pe_int pa_nil)))
    have r4 : PS (XRf P w K mg base f (.ref c) A outer s H XE) (stF 4) _ := ps_set (i := 2) scRf.nd rfl (.inl rfl) (ask (lamS_by (by decide +kernel)) rfl (fun _ _ _ _ _ => rfl) (fun A' o' s' H' E f' c' hr2 => pe_hasX L.pa hr2 (by rfl) noXl (pa_cons (pv 3) (pa_cons (pv 1) pa_nil))))
    have r5 : PS (XRf P w K mg base f (.ref c) A outer s H XE) (stF 5) _ := ps_expr (pe_bm PySem.F.plainAttrs_list PySem.F.slot_list_append PySem.F.type_list_append mt_append (pv 3) (pa_cons pe_str pa_nil))
    have r6 : PS (XRf P w K mg base f (.ref c) A outer s H XE) (stF 6) _ := ps_ret (pe_has L.sm (hr.mono (by decide)) (by rfl) (pa_cons (pv 2) (pa_cons (pe_tup (pa_cons pe_str (pa_cons (pe_lst (pa_cons pe_int (pa_cons pe_int (pa_cons pe_str pa_nil)))) pa_nil))) pa_nil)))
    have PP := PSs.of_eq bdF (pss_cons r0 (pss_cons r1 (pss_cons r2 (pss_cons r3 (pss_cons r4 (pss_cons r5 (pss_one r6)))))))
    clear r0 r1 r2 r3 r4 r5 r6 a00 a01 a02 a03 a04 a05 a10 a11 a12 a20 a21 a22 ask gv
    refine ⟨_, PSs.nox PP, ?_⟩
    clear PP
    have m0 : (("BadEndless", "endless") : Str × Str) ∈ four := by simp [four]
    have m1 : (("BadMany", "many") : Str × Str) ∈ four := by simp [four]
    have m2 : (("BadFigures", "figures") : Str × Str) ∈ four := by simp [four]
    have m3 : (("BadOther", "other") : Str × Str) ∈ four := by simp [four]
    have rowE : ∀ {G G1 : Hp}, ExtN H G → ExtN G G1 → EndV G1 (.ref t) hs as := fun e e1 => ((hrow.ext (hid_N (e.trans e1))).ext hid_up).end_ gf
    -- the rows that are none
    refine ⟨rfl, fun HT p xs eT qT rT => ⟨p, rfl, ⟨_, .inl (.inl qT)⟩, ?_⟩⟩
    refine for_list (xs := xs) (fun j σ G => ∃ (a2 a4 : Option V), σ = [some v0, some (.ref t), a2, none, a4] ∧ ExtN HT G ∧ Tabs T G) ⟨none, none, rfl, .refl _, hT.ext eT⟩ (fun j σ G _ e => ?_) (fun j y σ G hy e => ?_) (fun σ G e => ?_)
    · obtain ⟨_, _, _, e, _⟩ := e
      exact .inl (.inl (e _ _ qT (fun ps z => nomatch z)))
    · obtain ⟨a2, a4, rfl, E0, T0⟩ := e
      obtain ⟨d, hd, ty⟩ := rT.get hy
      have tv : Th (Hid [] G) y d := ty.hid.ext (hid_N E0)
      have od : ∀ {G1 : Hp}, ExtN G G1 → Odd isE G1 y := fun e => (odd_at odd_all (List.mem_of_getElem? hd) ((tv.ext (hid_N e)).ext hid_up)).1
      have fit := (odd_at odd_all (List.mem_of_getElem? hd) (tv.ext hid_up)).2
      have EG := (same_N eT).trans E0
      have S0 : ∀ {a : Option V}, (fun σ : L2.St => σ[1]? = some (some (.ref t)) ∧ σ[4]? = some (some y)) [some v0, some (.ref t), a, none, some y] := ⟨rfl, rfl⟩
      refine first_askS (H0 := G) (S := fun σ : L2.St => σ[1]? = some (some (.ref t)) ∧ σ[4]? = some (some y)) (w := "endless") (v := y) (gives_of fun σ H1 Q Q' hS e k => ⟨y, hS.2, .inl ⟨y, .non, rfl, od e, says_eo _ m0 k⟩⟩) S0 (.refl _) T0 fun H1 F f1 => ?_
      refine next_askS 1 (H0 := G) (S := fun σ : L2.St => σ[1]? = some (some (.ref t)) ∧ σ[4]? = some (some y)) (gives_of fun σ H1 Q Q' hS e k => ⟨y, hS.2, 1, rfl, .inl ⟨y, _, rfl, od e, says_eo _ m0 k⟩⟩) S0 rfl (by decide) f1 fun H2 f2 => ?_
      refine next_askS 2 (H0 := G) (S := fun σ : L2.St => σ[1]? = some (some (.ref t)) ∧ σ[4]? = some (some y)) (gives_of fun σ H1 Q Q' hS e k => ⟨Nat.zero_le _, fun p1 np1 => ⟨y, hS.2, .inr ⟨.ref p1, y, [], rfl, ⟨.list [], .lst upd_same .nil, rfl, rfl, Nat.zero_le _⟩, od (e.trans (same_N (same_new np1))), says_eo _ m0 fun H' t' s q => k H' t' ((same_new np1).trans s) q⟩⟩⟩) S0 rfl (by decide) f2 fun H3 f3 => ?_
      refine next_askS 3 (H0 := G) (S := fun σ : L2.St => σ[1]? = some (some (.ref t)) ∧ σ[4]? = some (some y)) (gives_of fun σ H1 Q Q' hS e k => ⟨y, hS.2, .inl ⟨y, .non, rfl, od e, says_eo _ m0 k⟩⟩) S0 rfl (by decide) f3 fun H4 f4 => ?_
      refine asked_sameS 4 rfl rfl (by decide) f4 tv fit fun H5 e5 T5 => ?_
      refine asked_one (H0 := G) (S := fun σ : L2.St => σ[1]? = some (some (.ref t)) ∧ σ[4]? = some (some y)) (w := "other") (v := y) (gives_of fun σ H1 Q Q' hS e k => ⟨.ref t, hS.1, y, hS.2, .inr ⟨.ref t, y, hs, as, rfl, rowE EG e, od e, says_eo _ m3 k⟩⟩) S0 rfl e5 T5 tv fit fun H6 e6 T6 => ?_
      exact ⟨_, _, rfl, E0.trans e6, T6⟩
    · obtain ⟨b2, b4, rfl, E1, T1⟩ := e
      have EH := (same_N eT).trans E1
      clear rT qT
      -- what is no number
      show tSeq _ _ _ _ _
      refine tup_for (ds := odds2) (mk_tup (mka_cons mk_non (mka_cons mk_neg (mka_cons mk_bl (mka_cons mk_bl (mka_cons mk_str (mka_cons (mk_lst (mka_cons mk_int mka_nil)) mka_nil))))))) (fun HU σ G => ∃ (a2 a4 : Option V), σ = [some v0, some (.ref t), a2, none, a4] ∧ ExtN HU G ∧ Tabs T G) (fun HU eU => ⟨_, _, rfl, .refl _, T1.ext eU⟩) (fun HU σ G e => ?_) (fun HU y d σ G eU hd ty e => ?_) (fun HU σ G eU e => ?_)
      · obtain ⟨_, _, _, e, _⟩ := e
        exact e
      · obtain ⟨a2, a4, rfl, E0, T0⟩ := e
        have tv : Th (Hid [] G) y d := ty.ext (hid_N E0)
        have od : ∀ {G1 : Hp}, ExtN G G1 → Odd isN G1 y := fun e => (odd_at odds2_all hd ((tv.ext (hid_N e)).ext hid_up)).1
        have fit := (odd_at odds2_all hd (tv.ext hid_up)).2
        have EG := (EH.trans (same_N eU)).trans E0
        have S0 : ∀ {a : Option V}, (fun σ : L2.St => σ[1]? = some (some (.ref t)) ∧ σ[4]? = some (some y)) [some v0, some (.ref t), a, none, some y] := ⟨rfl, rfl⟩
        refine first_askS (H0 := G) (S := fun σ : L2.St => σ[1]? = some (some (.ref t)) ∧ σ[4]? = some (some y)) (w := "many") (v := y) (gives_of fun σ H1 Q Q' hS e k => ⟨.ref t, hS.1, y, hS.2, .inr ⟨.ref t, y, hs, as, rfl, rowE EG e, od e, says_eo _ m1 k⟩⟩) S0 (.refl _) T0 fun H1 F f1 => ?_
        refine next_askS 1 (H0 := G) (S := fun σ : L2.St => σ[1]? = some (some (.ref t)) ∧ σ[4]? = some (some y)) (gives_of fun σ H1 Q Q' hS e k => ⟨.ref t, hS.1, y, hS.2, .inr ⟨.ref t, y, hs, as, rfl, rowE EG e, od e, says_eo _ m1 k⟩⟩) S0 rfl (by decide) f1 fun H2 f2 => ?_
        refine asked_same (n := 2) rfl rfl (by decide) f2 tv fit fun H5 e5 T5 => ?_
        exact ⟨_, _, rfl, E0.trans e5, T5⟩
      · obtain ⟨b2, b4, rfl, E2, T2⟩ := e
        have EJ := (EH.trans (same_N eU)).trans E2
                -- what is no row of figures
        show tSeq _ _ _ _ _
        refine tup_for (ds := odds3) (mk_tup (mka_cons mk_non (mka_cons mk_int (mka_cons mk_str (mka_cons mk_d0 (mka_cons (mk_lst (mka_cons mk_int mka_nil)) (mka_cons (mk_lst (mka_cons mk_int (mka_cons mk_bl mka_nil))) (mka_cons (mk_lst (mka_cons (mk_lst (mka_cons mk_int mka_nil)) mka_nil)) (mka_cons (mk_lst (mka_cons mk_int (mka_cons mk_non mka_nil))) (mka_cons (mk_tup (mka_cons mk_neg mka_nil)) mka_nil)))))))))) (fun HU σ G => ∃ (a2 a4 : Option V), σ = [some v0, some (.ref t), a2, none, a4] ∧ ExtN HU G ∧ Tabs T G) (fun HU eU => ⟨_, _, rfl, .refl _, T2.ext eU⟩) (fun HU σ G e => ?_) (fun HU y d σ G eU hd ty e => ?_) (fun HU σ G eU e => ?_)
        · obtain ⟨_, _, _, e, _⟩ := e
          exact e
        · obtain ⟨a2, a4, rfl, E0, T0⟩ := e
          have tv : Th (Hid [] G) y d := ty.ext (hid_N E0)
          have od : ∀ {G1 : Hp}, ExtN G G1 → Odd isR G1 y := fun e => (odd_at odds3_all hd ((tv.ext (hid_N e)).ext hid_up)).1
          have fit := (odd_at odds3_all hd (tv.ext hid_up)).2
          have S0 : ∀ {a : Option V}, (fun σ : L2.St => σ[1]? = some (some (.ref t)) ∧ σ[4]? = some (some y)) [some v0, some (.ref t), a, none, some y] := ⟨rfl, rfl⟩
          refine first_askS (H0 := G) (S := fun σ : L2.St => σ[1]? = some (some (.ref t)) ∧ σ[4]? = some (some y)) (w := "figures") (v := y) (gives_of fun σ H1 Q Q' hS e k => ⟨y, hS.2, .ref t, hS.1, .inl ⟨y, .ref t, rfl, od e, says_eo _ m2 k⟩⟩) S0 (.refl _) T0 fun H1 F f1 => ?_
          refine next_askS 1 (H0 := G) (S := fun σ : L2.St => σ[1]? = some (some (.ref t)) ∧ σ[4]? = some (some y)) (gives_of fun σ H1 Q Q' hS e k => ⟨y, hS.2, .inl ⟨y, .non, rfl, od e, says_eo _ m2 k⟩⟩) S0 rfl (by decide) f1 fun H2 f2 => ?_
          refine asked_same (n := 2) rfl rfl (by decide) f2 tv fit fun H5 e5 T5 => ?_
          exact ⟨_, _, rfl, E0.trans e5, T5⟩
        · obtain ⟨b2, b4, rfl, E3, T3⟩ := e
          have EL := (EJ.trans (same_N eU)).trans E3
                    -- a row that is held
          refine ⟨small4 2, fun p1 np1 => ?_⟩
          have n1 := none_tbl EL np1
          have e1 := same_new (o := .lst [.int 0, .int 2]) np1
          have q1 := upd_same (H := G) (a := p1) (o := .lst [.int 0, .int 2])
          have ES := EL.trans (same_N e1)
          have TS := T3.ext e1
          generalize upd G p1 (.lst [.int 0, .int 2]) = HS at q1 ES TS ⊢
          have gv : Gives T (tLam T (tlX K) (fun E => tCall (spPaX K) [] E (tCons (tVar 3) (tCons (tVar 1) tNil)))) (fun σ : L2.St => σ[1]? = some (some (.ref t)) ∧ σ[3]? = some (some (.ref p1))) HS "figures" (.ref p1) := gives_of fun σ H1 Q Q' hS e k =>
            ⟨.ref p1, hS.2, .ref t, hS.1, .inl ⟨.ref p1, .ref t, rfl, ⟨.list [.int 0, .int 2], .lst (e _ _ q1 (fun ps z => nomatch z)) (.cons (.int 0) (.cons (.int 2) .nil)), by decide +kernel, by decide +kernel, by decide +kernel⟩, says_eo _ m2 k⟩⟩
          refine gv _ _ _ ⟨rfl, rfl⟩ (.refl _) TS fun H2 t2 e2 T2 q2 => ?_
          have k1 := e2 _ _ q1 (fun ps z => nomatch z)
          refine ⟨.ref p1, rfl, .inl ⟨rfl, _, .inl (.inl k1)⟩, p1, _, .str "late", rfl, rfl, k1, small4 3, ?_⟩
          have n2 : t2 ≠ p1 := fun z => by
            rw [z, k1] at q2
            cases q2
          have E6 : ExtN H (upd H2 p1 (.lst ([.int 0, .int 2] ++ [.str "late"]))) := ext_lst n1 (ES.trans e2)
          have T6 : Tabs T (upd H2 p1 (.lst ([.int 0, .int 2] ++ [.str "late"]))) := tabs_lst T2 k1
          have k2 := upd_same (H := H2) (a := p1) (o := .lst ([.int 0, .int 2] ++ [.str "late"]))
          have k3 : (upd H2 p1 (.lst ([.int 0, .int 2] ++ [.str "late"]))) t2 = some (.tup [.str "figures", .ref p1]) := by rw [upd_ne n2]; exact q2
          generalize upd H2 p1 (.lst ([.int 0, .int 2] ++ [.str "late"])) = H6 at E6 T6 k2 k3 ⊢
          refine ⟨.ref t2, rfl, small4 3, fun p2 np2 => ⟨small4 2, fun p3 np3 => ?_⟩⟩
          have e7 := same_new (o := .lst [.int 0, .int 2, .str "late"]) np2
          have e8 := same_new (o := .tup [.str "figures", .ref p2]) np3
          have th : ∀ {H : Hp}, ThAll H [.int 0, .int 2, .str "late"] [.int 0, .int 2, .str "late"] := .cons (.int 0) (.cons (.int 2) (.cons (.str "late") .nil))
          exact ⟨.ref t2, .ref p3, .tuple [.str "figures", .list [.int 0, .int 2, .str "late"]], rfl, .tup (e8 _ _ (e7 _ _ k3)) (.cons (.str _) (.cons (.lst (e8 _ _ (e7 _ _ k2)) th) .nil)), .tup upd_same (.cons (.str _) (.cons (.lst (e8 _ _ upd_same) th) .nil)), by decide +kernel, fun H9 e9 => k H9 (E6.trans (same_N ((e7.trans e8).trans e9))) (T6.ext ((e7.trans e8).trans e9))⟩
end
end K14
namespace K14
open PySem PySem.W PySem.Calls PyProof.Rows L2 LamX
open He (ga)
open Kz (SS ExtS ExtS.trans ExtS.refl spStart small4 same_new boot_in boot_li new_ext Has pe_has noE HasG pe_hasG FnG PSs.of_eq)
abbrev sLw : Stmt := topS 43
abbrev NLw : List Str := ["script", "stream", "turn", "row", "other", "told", "many"]
theorem scLw : FnScope NLw ["script"] (defScope sLw) := ⟨rfl, rfl, rfl, by decide +kernel, rfl, by decide +kernel, by decide +kernel⟩
def stW (i : Nat) : Stmt := (defBody sLw).getD i (.Pass ⟨0, 0, 0, 0⟩)
def stV (i : Nat) : Stmt := (bodyOf (stW 1)).getD i (.Pass ⟨0, 0, 0, 0⟩)
theorem bdW : defBody sLw = [stW 0, stW 1, stW 2] := by rfl
theorem bdV : bodyOf (stW 1) = [stV 0, stV 1, stV 2, stV 3, stV 4, stV 5, stV 6] := by rfl
theorem tabs_S {T : List (Addr × Str)} {H H1 : Hp} {l li : Addr} {c : Int} (t : Tabs T H) (s : Spr H l li c) (e : ExtS l li H H1) : Tabs T H1 := fun p hp => by
  obtain ⟨ps, h1, h2, h3⟩ := t p hp
  obtain ⟨ns, b, d, ss, _⟩ := s
  have nl : ∀ {a : Addr} {o : HO}, H a = some o → (∀ xs, o ≠ .lst xs) → a ≠ l ∧ a ≠ li := fun h n => ⟨fun z => (by rw [z, ss.l1] at h; exact n _ (Option.some.inj h).symm), fun z => (by rw [z, ss.l2] at h; exact n _ (Option.some.inj h).symm)⟩
  have n1 := nl h1 (fun xs z => nomatch z)
  refine ⟨ps, e _ _ h1 n1.1 n1.2, h2, fun pos cv hc => ?_⟩
  obtain ⟨c, ec, h⟩ := h3 pos cv hc
  have n2 := nl h (fun xs z => by
    unfold CodeO at z
    cases z)
  exact ⟨c, ec, e _ _ h n2.1 n2.2⟩
structure LwK (P : Program) (w : World) (K : Frag) (mg : Str → Option Value) (base : Heap) (T : List (Addr × Str)) : Prop where
  st : Has P w K mg base "_law_start" 1 ["script"] (spStart K)
  fe : Has P w K mg base "_law_f_endless" 3 ["stream"] spFe
  rr : HasG P w K mg base "_law_row_right" 8 ["stream", "row"] spRr
  ur : Has P w K mg base "_law_unlike_right" 8 ["stream", "row", "other"] spUr
  rf : Has P w K mg base "_law_refused_right" 9 ["stream", "row"] (spRf T)
  al : RrK P w K mg base
def spLw (K : Frag) (T : List (Addr × Str)) : Sp := fun vs H Q _ => ∃ (a : Addr) (ns : List Int), vs = [.ref a] ∧ SqL K H a (ns.map V.int) ∧ ns.length ≤ 1000 ∧ Tabs T H ∧ ∀ H', Q (.bl true) H'
section
variable {P : Program} {w : World} {K : Frag} {mg : Str → Option Value} {base : Heap}
abbrev XLw (P : Program) (w : World) (K : Frag) (mg : Str → Option Value) (base : Heap) (f : Addr) (cdv : Value) (A : Around) (outer : List Env) (s : Shared) (H : Hp) (XE : XK) : Cx := (cxOf CX0 P w K mg base NLw "law" (defScope sLw) f cdv A outer s H XE).nox
theorem ok_lw {T : List (Addr × Str)} {f : Addr} {fd : FuncData} (Fn : FunD K "law" "law" (defArgs sLw) (defBody sLw) (defScope sLw) [] [] f fd) (L : LwK P w K mg base T) : FnG P w K mg base CX0 10 f fd ["script"] (spLw K T) := by
  refine Kz.FunD.okG Fn scLw (fun vs H Q E h => ?_) (fun cdv A outer s H vs Q XE hg hr h => ?_)
  · obtain ⟨a, ns, rfl, _⟩ := h
    rfl
  · obtain ⟨a, ns, rfl, hS, hn, hT, k⟩ := h
    have v0 : PS (XLw P w K mg base f cdv A outer s H XE) (stV 0) _ := ps_par (i := 3) (j := 4) rfl scLw.nd rfl rfl (by decide) rfl rfl (pa_cons (pe_has L.fe (hr.mono (by decide)) (by rfl) (pa_cons (pv 1) pa_nil)) (pa_cons (pe_has L.fe (hr.mono (by decide)) (by rfl) (pa_cons (pv 1) pa_nil)) pa_nil)) (by rfl)
    have v1 : PS (XLw P w K mg base f cdv A outer s H XE) (stV 1) _ := ps_if ((pw_or (pt_not (pt_val (pe_hasG hg L.rr (hr.mono (by decide)) (by rfl) (pa_cons (pv 1) (pa_cons (pv 3) pa_nil)))))
      (pw_or1 (pt_not (pt_val (pe_has L.ur (hr.mono (by decide)) (by rfl) (pa_cons (pv 1) (pa_cons (pv 3) (pa_cons (pv 4) pa_nil)))))))).pt) (pss_one (ps_ret pe_bl)) pss_nil
    have v2 : PS (XLw P w K mg base f cdv A outer s H XE) (stV 2) _ := ps_if ((pw_or (pt_not (pt_val (pe_has L.ur (hr.mono (by decide)) (by rfl) (pa_cons (pv 1) (pa_cons (pv 3) (pa_cons (pv 3) pa_nil))))))
      (pw_or1 (pt_not (pt_val (pe_has L.rf hr (by rfl) (pa_cons (pv 1) (pa_cons (pv 3) pa_nil))))))).pt) (pss_one (ps_ret pe_bl)) pss_nil
    have v3 : PS (XLw P w K mg base f cdv A outer s H XE) (stV 3) _ := ps_par (i := 5) (j := 6) rfl scLw.nd rfl rfl (by decide) rfl rfl (pa_cons (pe_has L.al.tp (hr.mono (by decide)) (by rfl) (pa_cons (pv 3) (pa_cons pe_int pa_nil))) (pa_cons (pe_has L.al.dt (hr.mono (by decide)) (by rfl) (pa_cons (pv 3) (pa_cons pe_int pa_nil))) pa_nil)) (by rfl)
    have v4 : PS (XLw P w K mg base f cdv A outer s H XE) (stV 4) _ := ps_expr (pe_bm PySem.F.plainAttrs_list PySem.F.slot_list_append PySem.F.type_list_append mt_append (pv 5) (pa_cons pe_str pa_nil))
    have v5 : PS (XLw P w K mg base f cdv A outer s H XE) (stV 5) _ := ps_expr (pe_bm PySem.F.plainAttrs_list PySem.F.slot_list_append PySem.F.type_list_append mt_append (pe_ix ix_seq (pv 6) pe_int (fun _ _ => rfl)) (pa_cons pe_str pa_nil))
    have v6 : PS (XLw P w K mg base f cdv A outer s H XE) (stV 6) _ := ps_if (pt_not (pt_val (pe_has L.al.sm (hr.mono (by decide)) (by rfl) (pa_cons (pe_lst (pa_cons (pe_has L.al.tp (hr.mono (by decide)) (by rfl) (pa_cons (pv 3) (pa_cons pe_int pa_nil))) (pa_cons (pe_has L.al.dt (hr.mono (by decide)) (by rfl) (pa_cons (pv 3) (pa_cons pe_int pa_nil))) pa_nil)))
      (pa_cons (pe_lst (pa_cons (pe_has L.al.lt (hr.mono (by decide)) (by rfl) (pa_cons (pv 3) (pa_cons pe_int pa_nil))) (pa_cons (pe_has L.al.be (hr.mono (by decide)) (by rfl) (pa_cons (pv 3) (pa_cons pe_int pa_nil))) pa_nil))) pa_nil))))) (pss_one (ps_ret pe_bl)) pss_nil
    have w0 : PS (XLw P w K mg base f cdv A outer s H XE) (stW 0) _ := ps_set (i := 1) scLw.nd rfl (.inl rfl) (pe_has L.st (hr.mono (by decide)) (by rfl) (pa_cons (pv 0) pa_nil))
    have w1 : PS (XLw P w K mg base f cdv A outer s H XE) (stW 1) _ := ps_for PassesOwn.never rfl (pi_range1 (by rfl) L.al.nr (pa_cons pe_int pa_nil)) (pg_name (i := 2) scLw.nd rfl (.inl rfl)) (PSs.of_eq bdV (pss_cons v0 (pss_cons v1 (pss_cons v2 (pss_cons v3 (pss_cons v4 (pss_cons v5 (pss_one v6))))))))
    have w2 : PS (XLw P w K mg base f cdv A outer s H XE) (stW 2) _ := ps_ret pe_bl
    have PP := PSs.of_eq bdW (pss_cons w0 (pss_cons w1 (pss_one w2)))
    clear v0 v1 v2 v3 v4 v5 v6 w0 w1 w2
    refine ⟨_, PSs.nox PP, ?_⟩
    clear PP
    refine ⟨.ref a, rfl, a, ns, rfl, hS, fun H1 l li e1 n1 n2 ss => ?_⟩
    have s1 : Spr H1 l li 0 := ⟨ns, 0, 19, ss, hn⟩
    have m1 : l ∈ [l, li] := by simp
    have m2 : li ∈ [l, li] := by simp
    refine ⟨4, rfl, by decide, by decide, for_range (lo := 0) (n := (4 : Int).toNat) (fun j σ G => ∃ (a2 a3 a4 a5 a6 : Option V) (c : Int), σ = [some (.ref a), some (.ref l), a2, a3, a4, a5, a6] ∧ Spr G l li c ∧ c ≤ 1000 * (j : Nat) ∧ Tabs T G) ⟨none, none, none, none, none, 0, rfl, s1, by decide, hT.ext e1⟩ (fun j σ G hj e => ?_) (fun σ G e => k G)⟩
    obtain ⟨a2, a3, a4, a5, a6, c, rfl, sp, cb, TG⟩ := e
    have j4 : j < 4 := hj
    refine ⟨.ref l, rfl, l, li, c, rfl, sp, by omega, fun G1 t u x hs as c1 e1 s1 b1 h1 h2 h3 l1 p1 l2 f1 f2 => ?_⟩
    have T1 := tabs_S TG sp e1
    refine ⟨.ref l, rfl, l, li, c1, rfl, s1, by omega, fun G2 t2 u2 x2 hs2 as2 c2 e2 s2 b2 k1 k2 k3 l3 p2 l4 f3 f4 => ?_⟩
    have T2 := tabs_S T1 s1 e2
    have r1 : RowT (Hid [l, li] G2) t hs as := RowT.ext ⟨u, x, h1, h2, h3⟩ (hid_S m1 m2 e2)
    have r2 : RowT (Hid [l, li] G2) t2 hs2 as2 := ⟨u2, x2, k1, k2, k3⟩
    have g1 : Figs 4 hs as := ⟨f1, f2, l1, l2, p1⟩
    have g2 : Figs 4 hs2 as2 := ⟨f3, f4, l3, l4, p2⟩
    refine ⟨_, _, rfl, ?_⟩
    clear h1 h2 h3 k1 k2 k3 e1 e2 TG T1 sp
    -- the law's tests of the rows
    refine ⟨.ref l, rfl, .ref t, rfl, l, li, t, c2, hs, as, rfl, r1, g1, s2, by omega, fun G4 c4 e4 s4 b4 => ⟨true, rfl, iteF ?_⟩⟩
    have T4 := tabs_S T2 s2 e4
    refine ⟨.ref l, rfl, .ref t, rfl, .ref t2, rfl, l, li, t, t2, c4, hs, as, hs2, as2, rfl, r1.ext (hid_S m1 m2 e4), r2.ext (hid_S m1 m2 e4), g1, g2, s4, by omega, fun G5 c5 e5 s5 b5 => ⟨true, rfl, iteF ?_⟩⟩
    have T5 := tabs_S T4 s4 e5
    have r5 := (r1.ext (hid_S m1 m2 e4)).ext (hid_S m1 m2 e5)
    refine ⟨.ref l, rfl, .ref t, rfl, .ref t, rfl, l, li, t, t, c5, hs, as, hs, as, rfl, r5, r5, g1, g1, s5, by omega, fun G6 c6 e6 s6 b6 => ⟨true, rfl, iteF ?_⟩⟩
    have T6 := tabs_S T5 s5 e6
    have r6 := r5.ext (hid_S m1 m2 e6)
    refine ⟨.ref l, rfl, .ref t, rfl, .ref l, t, hs, as, rfl, r6.ext (hid_less (S := []) (fun b m => nomatch m)), g1, T6, fun G7 e7 T7 => ⟨true, rfl, iteF ?_⟩⟩
    have s7 := s6.extN e7
    have r7 := r6.ext (hid_N e7)
    clear r1 r2 r5 r6 T2 T4 T5 T6 s2 s4 s5 e4 e5 e6 e7 s6
    have rowT : ∀ {Z : Hp}, ExtN G7 Z → RowT Z t hs as := fun e => (r7.ext (hid_N e)).ext hid_up
    have rowE : ∀ {Z : Hp}, ExtN G7 Z → EndV Z (.ref t) hs as := fun e => (rowT e).end_ g1
    have g400 : Figs 400 hs as := ⟨g1.fh, g1.fa, by omega, by omega, p1⟩
    -- what is told is new
    refine ⟨.ref t, rfl, .ref t, hs, as, 9, rfl, rowE (.refl _), by decide, fun H1 p3 x1 y1 z1 => ?_⟩
    refine ⟨.ref t, rfl, .ref t, hs, as, 2, rfl, rowE (same_N x1), by decide, fun H2 p4 p5 p6 h4 a4 x2 y2 y3 y4 y5 y6 y7 il => ?_⟩
    refine ⟨_, _, rfl, ?_⟩
    have E3 : ExtN G7 H2 := same_N (x1.trans x2)
    have T8 := T7.ext (x1.trans x2)
    have z3 := x2 _ _ z1
    have n3 := none_tbl (.refl G7) y1
    have n6 := none_tbl (same_N x1) y6
    have ne : p6 ≠ p3 := fun z => by
      rw [z, z1] at y6
      cases y6
    have ne4 : p4 ≠ p3 := fun z => by
      rw [z, z3] at y2
      cases y2
    have lt9 : (topsOf hs as 9).length ≤ 100 := by rw [tops_eq p1, List.length_map, List.length_range]; decide
    have il' : IsLeast (dropH hs 2) (dropA hs as 2) h4 a4 := il
    have gb := least_figs (drop_figs (m := 2) g1) il'
    have la4 := gb.la
    have lh4 := gb.lh
    refine ⟨.ref p3, rfl, .inl ⟨rfl, _, .inl (.inl z3)⟩, p3, _, .str "late", rfl, rfl, z3, by rw [List.length_map, sizeLine_eq]; omega, ?_⟩
    have E4 : ExtN G7 (upd H2 p3 (.lst ((topsOf hs as 9).map V.int ++ [.str "late"]))) := ext_lst n3 E3
    have T9 : Tabs T (upd H2 p3 (.lst ((topsOf hs as 9).map V.int ++ [.str "late"]))) := tabs_lst T8 z3
    have w4 : (upd H2 p3 (.lst ((topsOf hs as 9).map V.int ++ [.str "late"]))) p4 = some (.tup [.ref p5, .ref p6]) := by rw [upd_ne ne4]; exact y2
    have w6 : (upd H2 p3 (.lst ((topsOf hs as 9).map V.int ++ [.str "late"]))) p6 = some (.lst (a4.map V.int)) := by rw [upd_ne ne]; exact y4
    generalize upd H2 p3 (.lst ((topsOf hs as 9).map V.int ++ [.str "late"])) = H5 at E4 T9 w4 w6 ⊢
    refine ⟨.ref p4, rfl, ix_p1 (.inr w4) ⟨.inl ⟨rfl, _, .inl (.inl w6)⟩, p6, _, .str "late", rfl, rfl, w6, by rw [List.length_map, sizeLine_eq]; omega, ?_⟩⟩
    have E6 : ExtN G7 (upd H5 p6 (.lst (a4.map V.int ++ [.str "late"]))) := ext_lst n6 E4
    have TA : Tabs T (upd H5 p6 (.lst (a4.map V.int ++ [.str "late"]))) := tabs_lst T9 w6
    generalize upd H5 p6 (.lst (a4.map V.int ++ [.str "late"])) = H6 at E6 TA ⊢
    clear E3 E4 T8 T9 w4 w6 z1 z3 y1 y2 y3 y4 y5 y6 y7 n3 n6 il il' x1 x2
    -- told again
    refine ⟨.ref t, rfl, .ref t, hs, as, 9, rfl, rowE E6, by decide, fun H1 q1 x1 y1 z1 => ?_⟩
    refine ⟨.ref t, rfl, .ref t, hs, as, 2, rfl, rowE (E6.trans (same_N x1)), by decide, fun H2 q2 q3 q4 h5 a5 x2 z2 z3 z4 y5 y6 y7 il => ⟨small4 2, fun F0 nF => ?_⟩⟩
    have x3 := same_new (o := .lst [.ref q1, .ref q2]) nF
    have X3 := x1.trans (x2.trans x3)
    refine ⟨.ref t, rfl, .ref t, hs, as, 9, rfl, rowE (E6.trans (same_N X3)), by decide, fun H3 q5 x4 y8 z5 => ?_⟩
    refine ⟨.ref t, rfl, t, hs, as, 2, rfl, rowT ((E6.trans (same_N X3)).trans (same_N x4)), g400, by decide, fun H4 q6 h6 a6 x5 rn il2 => ⟨small4 2, fun F1 nF1 => ?_⟩⟩
    have x6 := same_new (o := .lst [.ref q5, .ref q6]) nF1
    have il' : IsLeast (dropH hs 2) (dropA hs as 2) h5 a5 := il
    obtain ⟨rfl, rfl⟩ := least_one il' il2
    obtain ⟨u5, x7, v1, v2, v3, _, _⟩ := rn
    have gb5 := least_figs (drop_figs (m := 2) g1) il2
    have la5 := gb5.la
    have lh5 := gb5.lh
    have te : topsOf hs as 9 = lawTops hs as 9 := by rw [tops_eq p1, lawTops_eq p1]
    have X6 := x4.trans (x5.trans x6)
    have fF : Th _ (.ref F0) (.list [.list ((lawTops hs as 9).map .int), .tuple [.list (h5.map .int), .list (a5.map .int)]]) :=
      (Th.lst (upd_same (H := H2) (a := F0) (o := .lst [.ref q1, .ref q2])) (.cons (.lst (x3 _ _ (x2 _ _ (by rw [← te]; exact z1))) (th_list _)) (.cons (.tup (x3 _ _ z2) (.cons (.lst (x3 _ _ z3) (th_list _)) (.cons (.lst (x3 _ _ z4) (th_list _)) .nil))) .nil))).ext X6
    refine ⟨.ref F0, .ref F1, _, rfl, fF, .lst upd_same (.cons (.lst (x6 _ _ (x5 _ _ z5)) (th_list _)) (.cons (.tup (x6 _ _ v1) (.cons (.lst (x6 _ _ v2) (th_list _)) (.cons (.lst (x6 _ _ v3) (th_list _)) .nil))) .nil)), ?_, fun H7 x8 => ⟨true, rfl, iteF ?_⟩⟩
    · show (decide (2 ≤ 1000) && (fitS 5 (.list ((lawTops hs as 9).map .int)) && (fitS 5 (.tuple [.list (h5.map .int), .list (a5.map .int)]) && true))) = true
      rw [fitS_ints 4 (by rw [← te]; omega), fitS_pair 3 (by omega) (by omega)]
      rfl
    have E9 := E6.trans (same_N (X3.trans (X6.trans x8)))
    exact ⟨_, _, _, _, _, c6, rfl, s7.extN E9, by omega, TA.ext (X3.trans (X6.trans x8))⟩
end
end K14
namespace K14
open PySem PySem.W PySem.Calls PyProof.Rows L2 LamX
open He (ga ma eqO ba frT fAd cT codeOf tabOf emptyTab)
def pgm : Program := PySem.Challenge.pw_twinforks_k14_whole_endless_rows
def FEa (K : Frag) : Addr := ga K "ForkError"
def veT : List Value := [.type "ValueError", .type "Exception", .type "BaseException", .type "object"]
def shapeB (K : Frag) (FE C : Addr) : Bool := match K.lookup C with
  | some ⟨.type t, _, .cls cd, sl⟩ => decide (t = "type") && (decide (cd.mro = .ref C :: .ref FE :: veT) && (cd.hasDict && (!cd.hasDel && (match sl.toList with | [_, _, _, _, some (.builtin n), _] => decide (n = "ValueError.__new__") | _ => false))))
  | _ => false
def initB (K : Frag) (C : Addr) : Bool := match K.lookup (ma K C "__init__") with
  | some ⟨cl, _, .func fd, _⟩ => decide (cl = .type "function") && ((match fd.code with
    | .ref c => codeIn K (.ref c) fd.qualname && (match K.lookup c with
      | some ⟨_, _, .fields vs, _⟩ => (match (vs[2]? : Option Value) with | some (.str file _) => (pgm.main.file : Str) == file | _ => false)
      | _ => false)
    | _ => false) && (match fd.closure with
    | [(_, cc)] => (match K.lookup cc with | some ⟨_, _, .cell (some v), _⟩ => decide (v = .ref C) | _ => false)
    | _ => false))
  | _ => false
def xiB (K : Frag) (C : Addr) : Bool := xfB K C && ((clsIn K C).isSome && (eqO (findIn K (.ref C) "__class__") (some (some (.builtin "object.__class__"))) && decide (mroIn K C (.type "object") = some true)))
def clsB (K : Frag) (FE C : Addr) (fs : List Str) : Bool :=
  shapeB K FE C && (initB K C && (xiB K C && (eqO (findIn K (.ref C) "__setattr__") (some (some (.builtin "object.__setattr__"))) && (keepIn K (.ref C) && (eqO (findIn K (.ref C) "__init__") (some (some (.ref (ma K C "__init__")))) &&
    (decide (ks_superIn K C C "__init__" = some (some (.builtin "ValueError.__init__"))) && (decide (subIn K (.ref C) (.type "ValueError") = some true) && (decide (mroIn K C (.ref C) = some true) &&
    (decide (kitOne K (.ref C) (.ref FE) = some true) && (decide (kitOne K (.ref C) (.type "ValueError") = some true) && (decide (kitOne K (.ref C) (.type "LookupError") = some false) && fs.all fun f => eqO (findIn K (.ref C) f) (some none))))))))))))
def feB (K : Frag) (FE : Addr) : Bool := xiB K FE && (keepIn K (.ref FE) && (excIn K FE veT "ValueError.__new__" && (decide (kitOne K (.ref FE) (.type "ValueError") = some true) && (match K.lookup FE with
  | some ⟨_, _, .cls cd, _⟩ => decide (cd.mro = .ref FE :: veT)
  | _ => false))))
def oncB (K : Frag) : Bool := decide (nsIn K cStatics "thirdparty.any" = some none) && (decide (specialIn K (.builtin "object.__class__") "__get__" = some (some (.builtin "getset_descriptor.__get__"))) && decide (takesIn K (.builtin "object.__class__") = some true))
def ones : List (Str × Str) := [("BadEndless", "thing"), ("BadFigures", "thing"), ("BadMany", "thing"), ("BadOther", "thing")]
def dsAll (K : Frag) : List Addr := ones.map fun p => ga K p.1
def exZ (K : Frag) : Bool := oncB K && (feB K (FEa K) && (decide ((FEa K :: dsAll K).Nodup) && (ones.all fun p => clsB K (FEa K) (ga K p.1) [p.2])))
/-! the texts of the classes' own -/
abbrev FnI : Type := Option (Str × Str × Arguments × FuncBody × Scope × Addr × Value × Addr × List Str)
def fnI (K : Frag) (C : Addr) : FnI := match K.lookup (ma K C "__init__") with
  | some ⟨_, _, .func fd, _⟩ => some (fd.name, fd.qualname, fd.params, fd.body, fd.scope, fd.globals, fd.defaults, fd.builtins, fd.closure.map (·.1))
  | _ => none
def initS : Stmt → Stmt
  | .ClassDef _ _ _ (i :: _) _ _ _ _ _ _ _ => i
  | s => s
/-- the class that the top's i-th statement makes -/
def clsName : Stmt → Str
  | .ClassDef n _ _ _ _ _ _ _ _ _ _ => n
  | _ => ""
def valI (st : Stmt) : FnI := some ("__init__", clsName st ++ ".__init__", defArgs (initS st), .stmts (defBody (initS st)), defScope (initS st), mainGlobals, .none, builtinsNs, ["__class__"])

/-! ### what the head looks at -/
def glG (g : Addr → Option Obj) (x : Str) : Addr := match g mainGlobals with
  | some ⟨_, _, .dict es _, _⟩ => (match es.toList.find? (·.key.isStr x) with | some e => (match e.val with | .ref a => a | _ => 0) | none => 0)
  | _ => 0
def fnG (g : Addr → Option Obj) (f : Addr) : List Addr := match g f with
  | some ⟨_, _, .func fd, _⟩ => (match fd.code with | .ref c => [c] | _ => []) ++ fd.closure.map (·.2)
  | _ => []
def moreG (g : Addr → Option Obj) (a : Addr) : List Addr := match g a with
  | some ⟨_, _, .cls cd, _⟩ => cd.ns :: (match g cd.ns with
    | some ⟨_, _, .dict es _, _⟩ => es.toList.flatMap fun e => match e.val with | .ref f => f :: fnG g f | _ => []
    | _ => [])
  | some ⟨_, _, .func _, _⟩ => fnG g a
  | _ => []
def clsNames : List Str := ones.map (·.1)
def defNames1 : List Str := ["is_list", "is_pair", "is_number", "is_figure", "is_row", "is_endless", "check_endless", "shortest_round", "least_endless", "figure_there", "check_many", "check_figures", "tops", "drop_tops", "put_all", "first_unlike", "_law_f_least", "_law_f_tops", "_law_f_beneath", "_law_f_row"]
def defNames2 : List Str := ["_law_f_endless", "_law_f_as_told", "_law_f_odd_rows", "_law_start", "_law_draw", "_law_mixed", "_law_same", "_law_loose", "_law_row_or", "_law_below", "_law_row_right", "_law_unlike_right", "_law_refused_right", "law"]
def defNames : List Str := defNames1 ++ defNames2
def allNames : List Str := ("ForkError" : Str) :: (clsNames ++ defNames)
def needs (g : Addr → Option Obj) : List Addr := mainGlobals :: cStatics :: allNames.flatMap fun x => glG g x :: moreG g (glG g x)
def defAt (i : Nat) : He.DefD := match topS i with
  | .FunctionDef n a b _ _ _ sc _ _ _ => ⟨(n, none), n, n, a, b, sc, [], []⟩
  | _ => ⟨("", none), "", "", ⟨[], [], none, [], [], none, []⟩, [], ⟨.function, [], false, false, []⟩, [], []⟩
def fns : List He.DefD := [defAt 7, defAt 8, defAt 9, defAt 11, defAt 12, defAt 13, defAt 14, defAt 15, defAt 16, defAt 17, defAt 19, defAt 20, defAt 21, defAt 22, defAt 23, defAt 24, defAt 26, defAt 27, defAt 28, defAt 29, defAt 30, defAt 31, defAt 32, defAt 33, defAt 34, defAt 35, defAt 36, defAt 37, defAt 38, defAt 39, defAt 40, defAt 41, defAt 42, defAt 43]
def fas : List He.Fa := allNames.map He.Fa.glo ++ [.free "super", .free "list", .free "int", .free "len", .free "range", .free "isinstance", .free "repr", .free "max", .free "tuple", .free "dict", .free "zip", .free "all", .free "bool"]
def tfs : List He.Defn := [("_law_refused_right", none)]
def stsI : List Stmt := [topS 2, topS 3, topS 4, topS 5]
abbrev AlZ : Type := He.AlD × (List FnI × Bool)
def obsK (g : Addr → Option Obj) (K : Frag) : AlZ := (He.obsD fas fns K, (clsNames.map fun x => fnI K (ga K x)), exZ K && He.tabsB g tfs K)
def obsZ (g : Addr → Option Obj) : AlZ := obsK g (frT g (needs g))
def valZ : AlZ := (He.valD fns, stsI.map valI, true)
def hookZ : Hook where
  α := AlZ
  obs := fun s => obsZ s.heap.get?
  val := fun _ => valZ
  says := fun _ h => ∃ K : Frag, K.In h ∧ ((He.obsD fas fns K = He.valD fns ∧ (clsNames.map fun x => fnI K (ga K x)) = stsI.map valI) ∧ exZ K = true ∧ (∀ p ∈ tfs, codeHdIn K (cT K p).1 (cT K p).2 = true) ∧ (∀ p ∈ tfs, K.lookup (cT K p).2 = none) ∧ ∀ p ∈ tfs, h.get? (cT K p).2 = some { cls := .none, data := .fields #[] })
  of := fun _ h e => by
    have e1 := congrArg (fun z : AlZ => z.1) e
    have e2 := congrArg (fun z : AlZ => z.2.1) e
    have e3 : (exZ (frT h.heap.get? (needs h.heap.get?)) && He.tabsB h.heap.get? tfs (frT h.heap.get? (needs h.heap.get?))) = true := congrArg (fun z : AlZ => z.2.2) e
    obtain ⟨h1, h2⟩ := ba e3
    have key : ∀ p ∈ tfs, codeHdIn (frT h.heap.get? (needs h.heap.get?)) (cT (frT h.heap.get? (needs h.heap.get?)) p).1 (cT (frT h.heap.get? (needs h.heap.get?)) p).2 = true ∧ ∃ o, h.heap.get? (cT (frT h.heap.get? (needs h.heap.get?)) p).2 = some o ∧ emptyTab o = true := fun p hp => by
      obtain ⟨k1, k2⟩ := ba (List.all_eq_true.mp h2 p hp)
      refine ⟨k1, ?_⟩
      cases q : h.heap.get? (cT (frT h.heap.get? (needs h.heap.get?)) p).2 with
      | none => rw [q] at k2; cases k2
      | some o => rw [q] at k2; exact ⟨o, rfl, k2⟩
    refine ⟨_, He.frT_in, ⟨e1, e2⟩, h1, fun p hp => (key p hp).1, fun p hp => ?_, fun p hp => ?_⟩
    · obtain ⟨_, o, q, z⟩ := key p hp
      exact He.frT_none q z
    · obtain ⟨_, o, q, z⟩ := key p hp
      rw [q, He.emptyTab_eq z]
  keeps := fun _ _ _ ⟨K, hK, c, c2, c3, c4, c5⟩ k => ⟨K, Frag.In.keeps hK k, c, c2, c3, c4, fun p hp => k _ _ (c5 p hp)⟩
def obZ (s : SharedT) : AlZ := obsZ (HandSHeadRun.getT s)
theorem obZ_eq (s : SharedT) : obZ s = hookZ.obs s.abs := by
  have e : HandSHeadRun.getT s = s.abs.heap.get? := funext (HandSHeadRun.getT_eq s)
  show obsZ (HandSHeadRun.getT s) = obsZ s.abs.heap.get?
  rw [e]
abbrev RZ : OpenRow := OpenLaw.row PySem.Challenge.rw_twinforks_k14_whole_endless_rows
def nms1 : List Str := ["ForkError", "BadEndless", "BadFigures", "BadMany", "BadOther", "is_list", "is_pair", "is_number", "is_figure", "is_row", "is_endless", "check_endless", "shortest_round", "least_endless", "figure_there", "check_many", "check_figures", "tops", "drop_tops", "put_all"]
def nms2 : List Str := ["first_unlike", "_law_f_least", "_law_f_tops", "_law_f_beneath", "_law_f_row", "_law_f_endless", "_law_f_as_told", "_law_f_odd_rows", "_law_start", "_law_draw", "_law_mixed", "_law_same", "_law_loose", "_law_row_or", "_law_below", "_law_row_right", "_law_unlike_right", "_law_refused_right"]
def nms : List Str := nms1 ++ nms2
end K14
namespace K14
open PySem PySem.W PySem.Calls PyProof.Rows
theorem runZ (w : World) : HandSHeadRun.RunEq RZ (view RZ.prog [43]) hookZ obZ 20000 nms w := by
  intro os
  kernel_rfl
end K14
namespace K14
open PySem PySem.W PySem.Calls PyProof.Rows L2 LamX
open He (ga ma eqO eqO_ok ba cT codeOf tabOf)
open Kz (XF X1 ScI sSuper sPut)
/-! ### what the looks say of a class -/
section
variable {K : Frag} {FE C : Addr} {fs : List Str}
theorem shape_ok (h : shapeB K FE C = true) : (∃ nm q N bs sn sub ab col dd k0 k1 k2 k3 k5, K.lookup C = some (excClassObj nm q C N bs (.ref FE :: veT) true sn sub ab col dd k0 k1 k2 k3 k5 "ValueError.__new__")) := by
  unfold shapeB at h
  split at h
  · rename_i t od cd sl q
    obtain ⟨h1, h2⟩ := ba h
    obtain ⟨h3, h4⟩ := ba h2
    obtain ⟨h5, h6⟩ := ba h4
    obtain ⟨h7, h8⟩ := ba h6
    split at h8
    · rename_i k0 k1 k2 k3 n k5 e
      obtain ⟨nm, bs, mro, N, qn, hd, sn, sub, ab, col, hdel⟩ := cd
      have e1 : t = "type" := of_decide_eq_true h1
      have e2 : mro = .ref C :: .ref FE :: veT := of_decide_eq_true h3
      have e3 : hd = true := h5
      have e4 : hdel = false := by simpa using h7
      have e5 : n = "ValueError.__new__" := of_decide_eq_true h8
      obtain ⟨sl⟩ := sl
      have e6 : sl = [k0, k1, k2, k3, some (.builtin n), k5] := e
      subst e1 e2 e3 e4 e5 e6
      exact ⟨nm, qn, N, bs, sn, sub, ab, col, od, k0, k1, k2, k3, k5, q⟩
    · cases h8
  · cases h
/-- all that clsB says -/
structure CB (K : Frag) (FE C : Addr) (fs : List Str) : Prop where
  sh : shapeB K FE C = true
  ib : initB K C = true
  xi : xiB K C = true
  sa : findIn K (.ref C) "__setattr__" = some (some (.builtin "object.__setattr__"))
  kp : keepIn K (.ref C) = true
  ini : findIn K (.ref C) "__init__" = some (some (.ref (ma K C "__init__")))
  sup : ks_superIn K C C "__init__" = some (some (.builtin "ValueError.__init__"))
  sv : subIn K (.ref C) (.type "ValueError") = some true
  slf : mroIn K C (.ref C) = some true
  kF : kitOne K (.ref C) (.ref FE) = some true
  kV : kitOne K (.ref C) (.type "ValueError") = some true
  kL : kitOne K (.ref C) (.type "LookupError") = some false
  no : ∀ f ∈ fs, findIn K (.ref C) f = some none
theorem cb_ok (h : clsB K FE C fs = true) : CB K FE C fs := by
  obtain ⟨a1, h⟩ := ba h
  obtain ⟨a2, h⟩ := ba h
  obtain ⟨a3, h⟩ := ba h
  obtain ⟨a4, h⟩ := ba h
  obtain ⟨a5, h⟩ := ba h
  obtain ⟨a6, h⟩ := ba h
  obtain ⟨a7, h⟩ := ba h
  obtain ⟨a8, h⟩ := ba h
  obtain ⟨a9, h⟩ := ba h
  obtain ⟨b1, h⟩ := ba h
  obtain ⟨b2, h⟩ := ba h
  obtain ⟨b3, h⟩ := ba h
  exact ⟨a1, a2, a3, eqO_ok a4, a5, eqO_ok a6, of_decide_eq_true a7, of_decide_eq_true a8, of_decide_eq_true a9, of_decide_eq_true b1, of_decide_eq_true b2, of_decide_eq_true b3, fun f hf => eqO_ok (List.all_eq_true.mp h f hf)⟩
theorem CB.oex (c : CB K FE C fs) : OexC K C := by
  obtain ⟨nm, q, N, bs, sn, sub, ab, col, dd, k0, k1, k2, k3, k5, e⟩ := shape_ok c.sh
  exact ⟨⟨nm, q, N, bs, _, sn, sub, ab, col, dd, k0, k1, k2, k3, k5, e, rfl⟩, c.sa, (xfB_ok (ba c.xi).1).exC, (show (K.lookup C).map (·.cls) = some (.type "type") by rw [e]; rfl), c.kp⟩
theorem CB.mro (c : CB K FE C fs) (v : Value) : subIn K (.ref C) v = some ((.ref C :: .ref FE :: veT : List Value).contains v) := by
  obtain ⟨nm, q, N, bs, sn, sub, ab, col, dd, k0, k1, k2, k3, k5, e⟩ := shape_ok c.sh
  show mroIn K C v = _
  unfold mroIn clsIn
  rw [e]
  rfl
theorem CB.is (c : CB K FE C fs) {d : Addr} {gs : List Str} (cd : CB K FE d gs) (nf : FE ≠ d) : kitOne K (.ref C) (.ref d) = some (decide (C = d)) := by
  unfold kitOne
  by_cases e : C = d
  · rw [e, if_pos (by simp), decide_eq_true rfl]
  · rw [if_neg (by simpa using e), decide_eq_false e]
    unfold kitCls
    obtain ⟨nm, q, N, bs, sn, sub, ab, col, dd, k0, k1, k2, k3, k5, ed⟩ := shape_ok cd.sh
    have e1 : ((clsIn K d).isSome && typeIn K (.ref d) == some (.type "type")) = true := by
      show ((clsIn K d).isSome && (K.lookup d).map (·.cls) == some (.type "type")) = true
      unfold clsIn
      rw [ed]
      rfl
    show (if ((clsIn K d).isSome && typeIn K (.ref d) == some (.type "type")) = true then subIn K (.ref C) (.ref d) else none) = _
    rw [if_pos e1, c.mro]
    have n1 : ((Value.ref d) == Value.ref C) = false := by simpa using fun z => e z.symm
    have n2 : ((Value.ref d) == Value.ref FE) = false := by simpa using fun z => nf z.symm
    show some ((Value.ref d == Value.ref C) || ((Value.ref d == Value.ref FE) || veT.contains (Value.ref d))) = _
    rw [n1, n2]
    rfl
theorem CB.ex (c : CB K FE C fs) {d : Addr} {gs : List Str} (cd : CB K FE d gs) (nf : FE ≠ d) : exmOne K (.ref C) (.ref d) = some (decide (C = d)) := by
  have b : subIn K (.ref d) (.type "BaseException") = some true := by
    rw [cd.mro]
    rfl
  unfold exmOne
  rw [b, if_pos (by rfl)]
  unfold kitCls
  obtain ⟨nm, q, N, bs, sn, sub, ab, col, dd, k0, k1, k2, k3, k5, ed⟩ := shape_ok cd.sh
  have e1 : ((clsIn K d).isSome && typeIn K (.ref d) == some (.type "type")) = true := by
    show ((clsIn K d).isSome && (K.lookup d).map (·.cls) == some (.type "type")) = true
    unfold clsIn
    rw [ed]
    rfl
  show (if ((clsIn K d).isSome && typeIn K (.ref d) == some (.type "type")) = true then subIn K (.ref C) (.ref d) else none) = _
  rw [if_pos e1, c.mro]
  by_cases e : C = d
  · rw [decide_eq_true e, e]
    simp
  · rw [decide_eq_false e]
    have n1 : ((Value.ref d) == Value.ref C) = false := by simpa using fun z => e z.symm
    have n2 : ((Value.ref d) == Value.ref FE) = false := by simpa using fun z => nf z.symm
    show some ((Value.ref d == Value.ref C) || ((Value.ref d == Value.ref FE) || veT.contains (Value.ref d))) = _
    rw [n1, n2]
    rfl
end
section
variable {K : Frag} {FE C : Addr} {fs : List Str} {st : Stmt}
/-- the facts of an own __init__, its text in hand -/
theorem xf_of (c : CB K FE C fs) (hI : fnI K C = valI st) {params : Arguments} {body : List Stmt} {scope : Scope} (hp : defArgs (initS st) = params) (hb : defBody (initS st) = body) (hs : defScope (initS st) = scope) (on : oncB K = true) (glo : nsIn K mainGlobals "super" = some none) :
    XF pgm K C (ma K C "__init__") (clsName st ++ ".__init__") params body scope := by
  have hi := c.ib
  unfold initB at hi
  unfold fnI valI at hI
  cases q : K.lookup (ma K C "__init__") with
  | none =>
    rw [q] at hi
    cases hi
  | some o =>
    obtain ⟨cl, od, dt, sl⟩ := o
    rw [q] at hi hI
    cases dt with
    | func fd =>
      obtain ⟨n1, n2, n3, n4, n5, n6, n7, n8, n9, n10, n11, n12, n13, n14, n15⟩ := fd
      have e2 : (some (n1, n2, n3, n4, n5, n6, n8, n15, n7.map (·.1)) : FnI) = (some ("__init__", clsName st ++ ".__init__", defArgs (initS st), FuncBody.stmts (defBody (initS st)), defScope (initS st), mainGlobals, Value.none, builtinsNs, ["__class__"]) : FnI) := hI
      simp only [FnI, Option.some.injEq, Prod.mk.injEq] at e2
      obtain ⟨g1, g2, g3, g4, g5, g6, g7, g8, g9⟩ := e2
      subst g1 g2 g3 g4 g5 g6 g7 g8
      obtain ⟨j1, j2⟩ := ba hi
      obtain ⟨j3, j4⟩ := ba j2
      obtain rfl : cl = .type "function" := of_decide_eq_true j1
      rw [hp, hb, hs] at q
      obtain ⟨o1, _⟩ := ba on
      cases n13 with
      | ref cda =>
        obtain ⟨j5, j6⟩ := ba (show (codeIn K (.ref cda) (clsName st ++ ".__init__") && _) = true from j3)
        cases qc : K.lookup cda with
        | none =>
          rw [qc] at j6
          cases j6
        | some oc =>
          obtain ⟨ccl, cdd, cdt, ccs⟩ := oc
          rw [qc] at j6
          cases cdt with
          | fields vs =>
            cases q2 : (vs[2]? : Option Value) with
            | none =>
              have j7 : (match (vs[2]? : Option Value) with | some (.str file _) => (pgm.main.file : Str) == file | _ => false) = true := j6
              rw [q2] at j7
              cases j7
            | some fv =>
              have j7 : (match (vs[2]? : Option Value) with | some (.str file _) => (pgm.main.file : Str) == file | _ => false) = true := j6
              rw [q2] at j7
              cases fv with
              | str file tf =>
                cases n7 with
                | nil => cases g9
                | cons p r =>
                  cases r with
                  | cons p2 r2 => simp at g9
                  | nil =>
                    obtain ⟨x, cc⟩ := p
                    obtain rfl : x = "__class__" := by simpa using g9
                    have j8 : (match K.lookup cc with | some ⟨_, _, .cell (some v), _⟩ => decide (v = .ref C) | _ => false) = true := j4
                    cases qd : K.lookup cc with
                    | none =>
                      rw [qd] at j8
                      cases j8
                    | some od2 =>
                      obtain ⟨dcl, ddd, ddt, dsl⟩ := od2
                      rw [qd] at j8
                      cases ddt with
                      | cell ov =>
                        cases ov with
                        | none => cases j8
                        | some v =>
                          obtain rfl : v = .ref C := of_decide_eq_true j8
                          exact ⟨c.oex, c.ini, (show (K.lookup (ma K C "__init__")).map (·.cls) = some (.type "function") by rw [q]; rfl), ⟨_, _, _, _, _, _, cda, _, _, cc, ccl, cdd, vs, ccs, file, tf, _, _, _, q, j5, qc, q2, j7, qd⟩, c.sup, c.sv, c.slf, of_decide_eq_true o1, glo, by decide +kernel, xfB_ok (ba c.xi).1⟩
                      | _ => cases j8
              | _ => cases j7
          | _ => cases j6
      | _ => cases j3
    | _ => cases hi
end
/-- the text of an own error class with one field: what must be seen of it -/
structure T1 (st : Stmt) (f : Str) : Prop where
  ex : ∃ (params : Arguments) (scope : Scope) (msg : Str) (j : Nat) (p0 p1 p2 p3 p4 p5 q0 q1 q2 q3 : Pos), defArgs (initS st) = params ∧ defBody (initS st) = [sSuper msg j p0 p1 p2 p3 p4 p5, sPut f q0 q1 q2 q3] ∧ defScope (initS st) = scope ∧ (p2.endLine == p4.line) = true ∧ ScI params scope [f] ∧
    (∀ (qual : Str) (kV doc pm : Value) (an : Option Addr) (cdv ct : Value) (cc : Addr) (a u : Value), bindArgs (ksFn "__init__" qual params [sSuper msg j p0 p1 p2 p3 p4 p5, sPut f q0 q1 q2 q3] scope .none kV doc pm an cdv ct cc) ⟨[a, u], []⟩ = pure [(("self" : Str), a), (f, u)]) ∧
    (∀ (qual : Str) (kV doc pm : Value) (an : Option Addr) (cdv ct : Value) (cc : Addr) (a u : Value), bindArgs (ksFn "__init__" qual params [sSuper msg j p0 p1 p2 p3 p4 p5, sPut f q0 q1 q2 q3] scope .none kV doc pm an cdv ct cc) ⟨[a], [(f, u)]⟩ = pure [(("self" : Str), a), (f, u)])
  fs : (f == ("self" : Str)) = false
  fd : (f == ("__debug__" : Str)) = false
theorem x1_of {K : Frag} {FE C : Addr} {f : Str} {st : Stmt} (t : T1 st f) (c : CB K FE C [f]) (hI : fnI K C = valI st) (on : oncB K = true) (glo : nsIn K mainGlobals "super" = some none) : X1 pgm K C f := by
  obtain ⟨params, scope, msg, j, p0, p1, p2, p3, p4, p5, q0, q1, q2, q3, e1, e2, e3, e4, e5, e6, e7⟩ := t.ex
  exact ⟨⟨_, _, params, scope, msg, j, p0, p1, p2, p3, p4, p5, q0, q1, q2, q3, e4, xf_of c hI e1 e2 e3 on glo, e5, e6 _, e7 _⟩, t.fs, t.fd, c.no f (by simp), c.kp⟩
theorem t1_0 : T1 (topS 2) "thing" := ⟨⟨_, _, _, _, _, _, _, _, _, _, _, _, _, _, rfl, rfl, rfl, rfl, ⟨⟨_, rfl, rfl⟩, rfl, rfl, rfl, by decide +kernel, by decide +kernel, rfl, rfl, rfl⟩, fun _ _ _ _ _ _ _ _ _ _ => rfl, fun _ _ _ _ _ _ _ _ _ _ => rfl⟩, by decide, by decide⟩
theorem t1_1 : T1 (topS 3) "thing" := ⟨⟨_, _, _, _, _, _, _, _, _, _, _, _, _, _, rfl, rfl, rfl, rfl, ⟨⟨_, rfl, rfl⟩, rfl, rfl, rfl, by decide +kernel, by decide +kernel, rfl, rfl, rfl⟩, fun _ _ _ _ _ _ _ _ _ _ => rfl, fun _ _ _ _ _ _ _ _ _ _ => rfl⟩, by decide, by decide⟩
theorem t1_2 : T1 (topS 4) "thing" := ⟨⟨_, _, _, _, _, _, _, _, _, _, _, _, _, _, rfl, rfl, rfl, rfl, ⟨⟨_, rfl, rfl⟩, rfl, rfl, rfl, by decide +kernel, by decide +kernel, rfl, rfl, rfl⟩, fun _ _ _ _ _ _ _ _ _ _ => rfl, fun _ _ _ _ _ _ _ _ _ _ => rfl⟩, by decide, by decide⟩
theorem t1_3 : T1 (topS 5) "thing" := ⟨⟨_, _, _, _, _, _, _, _, _, _, _, _, _, _, rfl, rfl, rfl, rfl, ⟨⟨_, rfl, rfl⟩, rfl, rfl, rfl, by decide +kernel, by decide +kernel, rfl, rfl, rfl⟩, fun _ _ _ _ _ _ _ _ _ _ => rfl, fun _ _ _ _ _ _ _ _ _ _ => rfl⟩, by decide, by decide⟩
theorem t1_all : ∀ (i : Nat) (p : Str × Str), ones[i]? = some p → T1 (topS (i + 2)) p.2 := fun i p h => by
  have hi : i < 4 := by
    have := List.getElem?_eq_some_iff.mp h
    exact this.1
  match i, hi, h with
  | 0, _, h => cases h; exact t1_0
  | 1, _, h => cases h; exact t1_1
  | 2, _, h => cases h; exact t1_2
  | 3, _, h => cases h; exact t1_3
/-- what the head says, together -/
structure Sy (K : Frag) : Prop where
  d : He.SaysD fas fns K
  i : (clsNames.map fun x => fnI K (ga K x)) = stsI.map valI
  on : oncB K = true
  nd : (FEa K :: dsAll K).Nodup
  one : ∀ p ∈ ones, clsB K (FEa K) (ga K p.1) [p.2] = true
theorem sy_of {K : Frag} (h1 : He.obsD fas fns K = He.valD fns) (h2 : (clsNames.map fun x => fnI K (ga K x)) = stsI.map valI) (h3 : exZ K = true) : Sy K := by
  obtain ⟨b1, b2⟩ := ba h3
  obtain ⟨c1, c2⟩ := ba b2
  obtain ⟨d1, d2⟩ := ba c2
  exact ⟨h1, h2, b1, of_decide_eq_true d1, fun p hp => List.all_eq_true.mp d2 p hp⟩
section
variable {K : Frag}
theorem Sy.fa (S : Sy K) {f : He.Fa} (h : f ∈ fas) : f.ok K = true := He.SaysD.facts S.d h
theorem glo_mem {x : Str} (h : x ∈ allNames) : He.Fa.glo x ∈ fas := List.mem_append_left _ (List.mem_map.mpr ⟨x, h, rfl⟩)
theorem cls_mem {x : Str} (h : x ∈ clsNames) : x ∈ allNames := List.mem_cons_of_mem _ (List.mem_append_left _ h)
theorem def_mem {x : Str} (h : x ∈ defNames) : x ∈ allNames := List.mem_cons_of_mem _ (List.mem_append_right _ h)
theorem Sy.free (S : Sy K) (i : Nat) {x : Str} (h : fas[i]? = some (.free x) := by rfl) : (He.Fa.free x).ok K = true := S.fa (List.mem_of_getElem? h)
theorem Sy.at (S : Sy K) (i : Nat) {p : Str × Str} (h : ones[i]? = some p) : fnI K (ga K p.1) = valI (topS (i + 2)) := by
  have hi : i < 4 := (List.getElem?_eq_some_iff.mp h).1
  have e1 : clsNames[i]? = some p.1 := by
    unfold clsNames
    rw [List.getElem?_map, h]
    rfl
  have e2 : stsI[i]? = some (topS (i + 2)) := by
    match i, hi with
    | 0, _ => rfl
    | 1, _ => rfl
    | 2, _ => rfl
    | 3, _ => rfl
  have e := congrArg (fun l : List FnI => l[i]?) S.i
  have e3 : (clsNames.map fun x => fnI K (ga K x))[i]? = (stsI.map valI)[i]? := e
  rw [List.getElem?_map, List.getElem?_map, e1, e2] at e3
  exact Option.some.inj e3
theorem Sy.fn (S : Sy K) {p : Str × Str} (h : p ∈ ones) : FEa K ≠ ga K p.1 := fun z => by
  have h' := (List.nodup_cons.mp S.nd).1
  rw [z] at h'
  exact h' (List.mem_map.mpr ⟨p, h, rfl⟩)
theorem Sy.inj (S : Sy K) {p q : Str × Str} (hp : p ∈ ones) (hq : q ∈ ones) : decide (ga K p.1 = ga K q.1) = decide (p.1 = q.1) := by
  have h := (List.nodup_cons.mp S.nd).2
  have h : ([ga K "BadEndless", ga K "BadFigures", ga K "BadMany", ga K "BadOther"] : List Addr).Nodup := h
  simp only [List.nodup_cons, List.mem_cons, List.not_mem_nil, or_false, not_or, List.nodup_nil, and_true, not_false_eq_true] at h
  obtain ⟨⟨n1, n2, n3⟩, ⟨n4, n5⟩, n6⟩ := h
  simp only [ones, List.mem_cons, List.not_mem_nil, or_false] at hp hq
  rcases hp with rfl | rfl | rfl | rfl <;> rcases hq with rfl | rfl | rfl | rfl <;> first
    | (rw [decide_eq_true rfl]; rfl)
    | (rw [decide_eq_false (by assumption)]; decide)
    | (rw [decide_eq_false (Ne.symm (by assumption))]; decide)
end
section
variable {K : Frag} {mg : Str → Option Value} {h : Heap}
theorem Sy.mgC (S : Sy K) (X : K.In h) (G : h.Ns mainGlobals mg) {x : Str} (hx : x ∈ allNames) : mg x = some (.ref (ga K x)) := He.glo_ok X G (S.fa (glo_mem hx))
theorem four_ones {p : Str × Str} (h : p ∈ four) : ((p.1, ("thing" : Str)) : Str × Str) ∈ ones := by
  simp only [four, List.mem_cons, List.not_mem_nil, or_false] at h
  rcases h with rfl | rfl | rfl | rfl <;> simp [ones]
theorem Sy.ro (S : Sy K) (X : K.In h) (G : h.Ns mainGlobals mg) : RoK pgm K mg := by
  have glo : nsIn K mainGlobals "super" = some none := eqO_ok (S.free 39 (x := "super"))
  refine ⟨fun p hp => ?_, fun p hp q hq => ?_⟩
  · have hm := four_ones hp
    obtain ⟨i, hi, e⟩ := List.mem_iff_getElem.mp hm
    have e' : ones[i]? = some ((p.1, ("thing" : Str)) : Str × Str) := by rw [List.getElem?_eq_getElem hi, e]
    exact ⟨S.mgC X G (cls_mem (List.mem_map.mpr ⟨_, hm, rfl⟩)), x1_of (t1_all i _ e') (cb_ok (S.one _ hm)) (S.at (p := ((p.1, ("thing" : Str)) : Str × Str)) i e') S.on glo⟩
  · have hm := four_ones hp
    have hn := four_ones hq
    rw [(cb_ok (S.one _ hm)).ex (cb_ok (S.one _ hn)) (S.fn hn)]
    exact congrArg some (S.inj hm hn)
end
end K14
namespace K14
open PySem PySem.W PySem.Calls PyProof.Rows L2 LamX
open He (ga ma eqO eqO_ok ba cT codeOf tabOf)
open Kz (Has HasG pe_has FnG spStart)
theorem ok_cfR {P : Program} {w : World} {K : Frag} {mg : Str → Option Value} {base : Heap} {f : Addr} {fd : FuncData} (F : FunD K "check_figures" "check_figures" (defArgs sCf) (defBody sCf) (defScope sCf) [] [] f fd) (L : Has P w K mg base "is_row" 3 ["thing"] spRow) : FnOk P w K mg base CX0 4 f fd ["figures"] (spRight isR) := by
  refine F.ok scCf (fun vs H Q E h => ?_) (fun cdv A outer s H vs Q XE hr h => ?_)
  · obtain ⟨v, d, rfl, _⟩ := h
    rfl
  · obtain ⟨v, d, rfl, hv, g, b1, b2, k⟩ := h
    refine ⟨_, PSs.nox (pss_one (ps_if (pt_not (pt_val (pe_has L hr (by rfl) (pa_cons (pv 0) pa_nil)))) (pss_one ps_never) pss_nil)), ?_⟩
    refine ⟨v, rfl, v, d, rfl, hv, b1, fun H1 s1 => ⟨true, by rw [g], iteF (k H1 s1)⟩⟩
def tbR (K : Frag) : Addr := (cT K ("_law_refused_right", none)).2
def TT (K : Frag) : List (Addr × Str) := [(tbR K, qRf)]
theorem lk_of {K : Frag} {mg : Str → Option Value} {w : World} {base : Heap} (S : Sy K) (X : K.In base) (G : base.Ns mainGlobals mg) (TB : ∀ p ∈ tfs.map (cT K), TabB base mg p.1 p.2) : LwK pgm w K mg base (TT K) := by
  have R := S.ro X G
  have er : ∀ p ∈ four, ErK pgm K mg p.1 := R.er
  have e0 : ErK pgm K mg "BadEndless" := er ("BadEndless", "endless") (by simp [four])
  have e1 : ErK pgm K mg "BadMany" := er ("BadMany", "many") (by simp [four])
  have e2 : ErK pgm K mg "BadFigures" := er ("BadFigures", "figures") (by simp [four])
  have e3 : ErK pgm K mg "BadOther" := er ("BadOther", "other") (by simp [four])
  have fr : ∀ (i : Nat) {x : Str}, fas[i]? = some (.free x) → mg x = none := fun i x h => He.free_ok X G (S.free i h)
  have gm : ∀ (i : Nat) {x : Str}, defNames[i]? = some x → mg x = some (.ref (ga K x)) := fun i x h => S.mgC X G (def_mem (List.mem_of_getElem? h))
  have q_list := fr 40 (x := "list") rfl
  have q_int := fr 41 (x := "int") rfl
  have q_len := fr 42 (x := "len") rfl
  have q_range := fr 43 (x := "range") rfl
  have q_isinstance := fr 44 (x := "isinstance") rfl
  have q_repr := fr 45 (x := "repr") rfl
  have q_max := fr 46 (x := "max") rfl
  have q_tuple := fr 47 (x := "tuple") rfl
  have q_dict := fr 48 (x := "dict") rfl
  have q_zip := fr 49 (x := "zip") rfl
  have q_all := fr 50 (x := "all") rfl
  have q_bool := fr 51 (x := "bool") rfl
  obtain ⟨g0, F0⟩ := S.d.def_ 0 (d := defAt 7) rfl
  have F0 : FunD K "is_list" "is_list" (defArgs sIl) (defBody sIl) (defScope sIl) [] [] (ga K "is_list") g0 := F0
  have b0 : L2.Binds K g0 ["thing"] [] := F0.bindsN fun _ _ _ _ _ _ us hl => match us, hl with | [_], _ => rfl
  obtain ⟨g1, F1⟩ := S.d.def_ 1 (d := defAt 8) rfl
  have F1 : FunD K "is_pair" "is_pair" (defArgs sIp) (defBody sIp) (defScope sIp) [] [] (ga K "is_pair") g1 := F1
  have b1 : L2.Binds K g1 ["thing"] [] := F1.bindsN fun _ _ _ _ _ _ us hl => match us, hl with | [_], _ => rfl
  obtain ⟨g2, F2⟩ := S.d.def_ 2 (d := defAt 9) rfl
  have F2 : FunD K "is_number" "is_number" (defArgs sIn) (defBody sIn) (defScope sIn) [] [] (ga K "is_number") g2 := F2
  have b2 : L2.Binds K g2 ["thing"] [] := F2.bindsN fun _ _ _ _ _ _ us hl => match us, hl with | [_], _ => rfl
  obtain ⟨g3, F3⟩ := S.d.def_ 3 (d := defAt 11) rfl
  have F3 : FunD K "is_figure" "is_figure" (defArgs sIf) (defBody sIf) (defScope sIf) [] [] (ga K "is_figure") g3 := F3
  have b3 : L2.Binds K g3 ["thing"] [] := F3.bindsN fun _ _ _ _ _ _ us hl => match us, hl with | [_], _ => rfl
  obtain ⟨g4, F4⟩ := S.d.def_ 4 (d := defAt 12) rfl
  have F4 : FunD K "is_row" "is_row" (defArgs sIr) (defBody sIr) (defScope sIr) [] [] (ga K "is_row") g4 := F4
  have b4 : L2.Binds K g4 ["thing"] [] := F4.bindsN fun _ _ _ _ _ _ us hl => match us, hl with | [_], _ => rfl
  obtain ⟨g5, F5⟩ := S.d.def_ 5 (d := defAt 13) rfl
  have F5 : FunD K "is_endless" "is_endless" (defArgs sIe) (defBody sIe) (defScope sIe) [] [] (ga K "is_endless") g5 := F5
  have b5 : L2.Binds K g5 ["thing"] [] := F5.bindsN fun _ _ _ _ _ _ us hl => match us, hl with | [_], _ => rfl
  obtain ⟨g6, F6⟩ := S.d.def_ 6 (d := defAt 14) rfl
  have F6 : FunD K "check_endless" "check_endless" (defArgs sCe) (defBody sCe) (defScope sCe) [] [] (ga K "check_endless") g6 := F6
  have b6 : L2.Binds K g6 ["endless"] [] := F6.bindsN fun _ _ _ _ _ _ us hl => match us, hl with | [_], _ => rfl
  obtain ⟨g7, F7⟩ := S.d.def_ 7 (d := defAt 15) rfl
  have F7 : FunD K "shortest_round" "shortest_round" (defArgs sSr) (defBody sSr) (defScope sSr) [] [] (ga K "shortest_round") g7 := F7
  have b7 : L2.Binds K g7 ["figures"] [] := F7.bindsN fun _ _ _ _ _ _ us hl => match us, hl with | [_], _ => rfl
  obtain ⟨g8, F8⟩ := S.d.def_ 8 (d := defAt 16) rfl
  have F8 : FunD K "least_endless" "least_endless" (defArgs sLe) (defBody sLe) (defScope sLe) [] [] (ga K "least_endless") g8 := F8
  have b8 : L2.Binds K g8 ["endless"] [] := F8.bindsN fun _ _ _ _ _ _ us hl => match us, hl with | [_], _ => rfl
  obtain ⟨g9, F9⟩ := S.d.def_ 9 (d := defAt 17) rfl
  have F9 : FunD K "figure_there" "figure_there" (defArgs sFt) (defBody sFt) (defScope sFt) [] [] (ga K "figure_there") g9 := F9
  have b9 : L2.Binds K g9 ["endless", "index"] [] := F9.bindsN fun _ _ _ _ _ _ us hl => match us, hl with | [_, _], _ => rfl
  obtain ⟨g10, F10⟩ := S.d.def_ 10 (d := defAt 19) rfl
  have F10 : FunD K "check_many" "check_many" (defArgs sCm) (defBody sCm) (defScope sCm) [] [] (ga K "check_many") g10 := F10
  have b10 : L2.Binds K g10 ["many"] [] := F10.bindsN fun _ _ _ _ _ _ us hl => match us, hl with | [_], _ => rfl
  obtain ⟨g11, F11⟩ := S.d.def_ 11 (d := defAt 20) rfl
  have F11 : FunD K "check_figures" "check_figures" (defArgs sCf) (defBody sCf) (defScope sCf) [] [] (ga K "check_figures") g11 := F11
  have b11 : L2.Binds K g11 ["figures"] [] := F11.bindsN fun _ _ _ _ _ _ us hl => match us, hl with | [_], _ => rfl
  obtain ⟨g12, F12⟩ := S.d.def_ 12 (d := defAt 21) rfl
  have F12 : FunD K "tops" "tops" (defArgs sTp) (defBody sTp) (defScope sTp) [] [] (ga K "tops") g12 := F12
  have b12 : L2.Binds K g12 ["endless", "many"] [] := F12.bindsN fun _ _ _ _ _ _ us hl => match us, hl with | [_, _], _ => rfl
  obtain ⟨g13, F13⟩ := S.d.def_ 13 (d := defAt 22) rfl
  have F13 : FunD K "drop_tops" "drop_tops" (defArgs sDt) (defBody sDt) (defScope sDt) [] [] (ga K "drop_tops") g13 := F13
  have b13 : L2.Binds K g13 ["endless", "many"] [] := F13.bindsN fun _ _ _ _ _ _ us hl => match us, hl with | [_, _], _ => rfl
  obtain ⟨g14, F14⟩ := S.d.def_ 14 (d := defAt 23) rfl
  have F14 : FunD K "put_all" "put_all" (defArgs sPa) (defBody sPa) (defScope sPa) [] [] (ga K "put_all") g14 := F14
  have b14 : L2.Binds K g14 ["figures", "endless"] [] := F14.bindsN fun _ _ _ _ _ _ us hl => match us, hl with | [_, _], _ => rfl
  obtain ⟨g15, F15⟩ := S.d.def_ 15 (d := defAt 24) rfl
  have F15 : FunD K "first_unlike" "first_unlike" (defArgs sFu) (defBody sFu) (defScope sFu) [] [] (ga K "first_unlike") g15 := F15
  have b15 : L2.Binds K g15 ["endless", "other"] [] := F15.bindsN fun _ _ _ _ _ _ us hl => match us, hl with | [_, _], _ => rfl
  obtain ⟨g16, F16⟩ := S.d.def_ 16 (d := defAt 26) rfl
  have F16 : FunD K "_law_f_least" "_law_f_least" (defArgs sLs) (defBody sLs) (defScope sLs) [] [] (ga K "_law_f_least") g16 := F16
  have b16 : L2.Binds K g16 ["head", "again"] [] := F16.bindsN fun _ _ _ _ _ _ us hl => match us, hl with | [_, _], _ => rfl
  obtain ⟨g17, F17⟩ := S.d.def_ 17 (d := defAt 27) rfl
  have F17 : FunD K "_law_f_tops" "_law_f_tops" (defArgs sLt) (defBody sLt) (defScope sLt) [] [] (ga K "_law_f_tops") g17 := F17
  have b17 : L2.Binds K g17 ["row", "many"] [] := F17.bindsN fun _ _ _ _ _ _ us hl => match us, hl with | [_, _], _ => rfl
  obtain ⟨g18, F18⟩ := S.d.def_ 18 (d := defAt 28) rfl
  have F18 : FunD K "_law_f_beneath" "_law_f_beneath" (defArgs sLb) (defBody sLb) (defScope sLb) [] [] (ga K "_law_f_beneath") g18 := F18
  have b18 : L2.Binds K g18 ["row", "many"] [] := F18.bindsN fun _ _ _ _ _ _ us hl => match us, hl with | [_, _], _ => rfl
  obtain ⟨g19, F19⟩ := S.d.def_ 19 (d := defAt 29) rfl
  have F19 : FunD K "_law_f_row" "_law_f_row" (defArgs sFr) (defBody sFr) (defScope sFr) [] [] (ga K "_law_f_row") g19 := F19
  have b19 : L2.Binds K g19 ["stream", "many"] [] := F19.bindsN fun _ _ _ _ _ _ us hl => match us, hl with | [_, _], _ => rfl
  obtain ⟨g20, F20⟩ := S.d.def_ 20 (d := defAt 30) rfl
  have F20 : FunD K "_law_f_endless" "_law_f_endless" (defArgs sFe) (defBody sFe) (defScope sFe) [] [] (ga K "_law_f_endless") g20 := F20
  have b20 : L2.Binds K g20 ["stream"] [] := F20.bindsN fun _ _ _ _ _ _ us hl => match us, hl with | [_], _ => rfl
  obtain ⟨g21, F21⟩ := S.d.def_ 21 (d := defAt 31) rfl
  have F21 : FunD K "_law_f_as_told" "_law_f_as_told" (defArgs sAt) (defBody sAt) (defScope sAt) [] [] (ga K "_law_f_as_told") g21 := F21
  have b21 : L2.Binds K g21 ["stream", "row"] [] := F21.bindsN fun _ _ _ _ _ _ us hl => match us, hl with | [_, _], _ => rfl
  obtain ⟨g22, F22⟩ := S.d.def_ 22 (d := defAt 32) rfl
  have F22 : FunD K "_law_f_odd_rows" "_law_f_odd_rows" (defArgs sOd) (defBody sOd) (defScope sOd) [] [] (ga K "_law_f_odd_rows") g22 := F22
  have b22 : L2.Binds K g22 [] [] := F22.bindsN fun _ _ _ _ _ _ us hl => match us, hl with | [], _ => rfl
  obtain ⟨g23, F23⟩ := S.d.def_ 23 (d := defAt 33) rfl
  have F23 : FunD K "_law_start" "_law_start" (defArgs sSt) (defBody sSt) (defScope sSt) [] [] (ga K "_law_start") g23 := F23
  have b23 : L2.Binds K g23 ["script"] [] := F23.bindsN fun _ _ _ _ _ _ us hl => match us, hl with | [_], _ => rfl
  obtain ⟨g24, F24⟩ := S.d.def_ 24 (d := defAt 34) rfl
  have F24 : FunD K "_law_draw" "_law_draw" (defArgs sDr) (defBody sDr) (defScope sDr) [] [] (ga K "_law_draw") g24 := F24
  have b24 : L2.Binds K g24 ["stream", "many"] [] := F24.bindsN fun _ _ _ _ _ _ us hl => match us, hl with | [_, _], _ => rfl
  obtain ⟨g26, F26⟩ := S.d.def_ 26 (d := defAt 36) rfl
  have F26 : FunD K "_law_same" "_law_same" (defArgs sSm) (defBody sSm) (defScope sSm) [] [] (ga K "_law_same") g26 := F26
  have b26 : L2.Binds K g26 ["found", "due"] [] := F26.bindsN fun _ _ _ _ _ _ us hl => match us, hl with | [_, _], _ => rfl
  obtain ⟨g27, F27⟩ := S.d.def_ 27 (d := defAt 37) rfl
  have F27 : FunD K "_law_loose" "_law_loose" (defArgs sLo) (defBody sLo) (defScope sLo) [] [] (ga K "_law_loose") g27 := F27
  have b27 : L2.Binds K g27 ["stream", "thing"] [] := F27.bindsN fun _ _ _ _ _ _ us hl => match us, hl with | [_, _], _ => rfl
  obtain ⟨g28, F28⟩ := S.d.def_ 28 (d := defAt 38) rfl
  have F28 : FunD K "_law_row_or" "_law_row_or" (defArgs sRo) (defBody sRo) (defScope sRo) [] [] (ga K "_law_row_or") g28 := F28
  have b28 : L2.Binds K g28 ["ask"] [] := F28.bindsN fun _ _ _ _ _ _ us hl => match us, hl with | [_], _ => rfl
  obtain ⟨g29, F29⟩ := S.d.def_ 29 (d := defAt 39) rfl
  have F29 : FunD K "_law_below" "_law_below" (defArgs sBe) (defBody sBe) (defScope sBe) [] [] (ga K "_law_below") g29 := F29
  have b29 : L2.Binds K g29 ["row", "many"] [] := F29.bindsN fun _ _ _ _ _ _ us hl => match us, hl with | [_, _], _ => rfl
  obtain ⟨g30, F30⟩ := S.d.def_ 30 (d := defAt 40) rfl
  have F30 : FunD K "_law_row_right" "_law_row_right" (defArgs sRr) (defBody sRr) (defScope sRr) [] [] (ga K "_law_row_right") g30 := F30
  have b30 : L2.Binds K g30 ["stream", "row"] [] := F30.bindsN fun _ _ _ _ _ _ us hl => match us, hl with | [_, _], _ => rfl
  obtain ⟨g31, F31⟩ := S.d.def_ 31 (d := defAt 41) rfl
  have F31 : FunD K "_law_unlike_right" "_law_unlike_right" (defArgs sUr) (defBody sUr) (defScope sUr) [] [] (ga K "_law_unlike_right") g31 := F31
  have b31 : L2.Binds K g31 ["stream", "row", "other"] [] := F31.bindsN fun _ _ _ _ _ _ us hl => match us, hl with | [_, _, _], _ => rfl
  obtain ⟨g32, F32⟩ := S.d.def_ 32 (d := defAt 42) rfl
  have F32 : FunD K "_law_refused_right" "_law_refused_right" (defArgs sRf) (defBody sRf) (defScope sRf) [] [] (ga K "_law_refused_right") g32 := F32
  have b32 : L2.Binds K g32 ["stream", "row"] [] := F32.bindsN fun _ _ _ _ _ _ us hl => match us, hl with | [_, _], _ => rfl
  have hil : Has pgm w K mg base "is_list" 1 ["thing"] (spLook isL) := ⟨_, g0, gm 0 rfl, F0.kp, b0, ok_il F0 q_isinstance q_list q_tuple⟩
  have hin : Has pgm w K mg base "is_number" 1 ["thing"] (spLook isN) := ⟨_, g2, gm 2 rfl, F2.kp, b2, ok_in F2 q_isinstance q_int q_bool⟩
  have hip : Has pgm w K mg base "is_pair" 2 ["thing"] (spLook isP) := ⟨_, g1, gm 1 rfl, F1.kp, b1, ok_ip F1 hil q_len⟩
  have hif : Has pgm w K mg base "is_figure" 2 ["thing"] (spLook isF) := ⟨_, g3, gm 3 rfl, F3.kp, b3, ok_if F3 hin⟩
  have hir : Has pgm w K mg base "is_row" 3 ["thing"] (spRow) := ⟨_, g4, gm 4 rfl, F4.kp, b4, ok_ir F4 hil hif q_all⟩
  have hie : Has pgm w K mg base "is_endless" 4 ["thing"] (spLookB isE) := ⟨_, g5, gm 5 rfl, F5.kp, b5, ok_ie F5 hip hir q_len⟩
  have hce : Has pgm w K mg base "check_endless" 5 ["endless"] (spRight isE) := ⟨_, g6, gm 6 rfl, F6.kp, b6, ok_ce F6 hie⟩
  have xce : HasX pgm w K mg base "check_endless" 5 ["endless"] (spOdd isE (ga K "BadEndless")) := ⟨_, g6, gm 6 rfl, F6.kp, b6, okx_ce F6 hie e0⟩
  have hsr : Has pgm w K mg base "shortest_round" 1 ["figures"] (spShort) := ⟨_, g7, gm 7 rfl, F7.kp, b7, ok_sr F7 q_len q_range⟩
  have hle : Has pgm w K mg base "least_endless" 6 ["endless"] (spLeast K) := ⟨_, g8, gm 8 rfl, F8.kp, b8, ok_le F8 hce hsr q_len q_list⟩
  have hft : Has pgm w K mg base "figure_there" 1 ["endless", "index"] (spFig) := ⟨_, g9, gm 9 rfl, F9.kp, b9, ok_ft F9 q_len⟩
  have hcm : Has pgm w K mg base "check_many" 2 ["many"] (spMany) := ⟨_, g10, gm 10 rfl, F10.kp, b10, ok_cm F10 hin⟩
  have xcm : HasX pgm w K mg base "check_many" 2 ["many"] (spOdd isN (ga K "BadMany")) := ⟨_, g10, gm 10 rfl, F10.kp, b10, okx_cm F10 hin e1⟩
  have hcf : Has pgm w K mg base "check_figures" 4 ["figures"] (spFigs) := ⟨_, g11, gm 11 rfl, F11.kp, b11, ok_cf F11 hir⟩
  have hcr : Has pgm w K mg base "check_figures" 4 ["figures"] (spRight isR) := ⟨_, g11, gm 11 rfl, F11.kp, b11, ok_cfR F11 hir⟩
  have xcf : HasX pgm w K mg base "check_figures" 4 ["figures"] (spOdd isR (ga K "BadFigures")) := ⟨_, g11, gm 11 rfl, F11.kp, b11, okx_cf F11 hir e2⟩
  have htp : Has pgm w K mg base "tops" 6 ["endless", "many"] (spTops) := ⟨_, g12, gm 12 rfl, F12.kp, b12, ok_tp F12 hce hcm q_len q_list q_max⟩
  have ktp : HasK pgm w K mg base "tops" 6 "endless" "many" (spTops) := ⟨_, g12, gm 12 rfl, F12.kp, kb_rev F12 (fun _ _ _ _ _ _ _ _ => rfl), ok_tp F12 hce hcm q_len q_list q_max⟩
  have hdt : Has pgm w K mg base "drop_tops" 7 ["endless", "many"] (spDrop K) := ⟨_, g13, gm 13 rfl, F13.kp, b13, ok_dt F13 hce hcm hle q_len q_list q_max⟩
  have kdt : HasK pgm w K mg base "drop_tops" 7 "endless" "many" (spDrop K) := ⟨_, g13, gm 13 rfl, F13.kp, kb_rev F13 (fun _ _ _ _ _ _ _ _ => rfl), ok_dt F13 hce hcm hle q_len q_list q_max⟩
  have hpa : Has pgm w K mg base "put_all" 7 ["figures", "endless"] (spPut K) := ⟨_, g14, gm 14 rfl, F14.kp, b14, ok_pa F14 hcf hce hle q_list⟩
  have kpa : HasK pgm w K mg base "put_all" 7 "figures" "endless" (spPut K) := ⟨_, g14, gm 14 rfl, F14.kp, kb_rev F14 (fun _ _ _ _ _ _ _ _ => rfl), ok_pa F14 hcf hce hle q_list⟩
  have hfu : Has pgm w K mg base "first_unlike" 6 ["endless", "other"] (spUnl) := ⟨_, g15, gm 15 rfl, F15.kp, b15, ok_fu F15 hce hie hft q_len q_max q_range⟩
  have kfu : HasK pgm w K mg base "first_unlike" 6 "endless" "other" (spUnl) := ⟨_, g15, gm 15 rfl, F15.kp, kb_rev F15 (fun _ _ _ _ _ _ _ _ => rfl), ok_fu F15 hce hie hft q_len q_max q_range⟩
  have xtp : HasX pgm w K mg base "tops" 6 ["endless", "many"] (spTpX K) := ⟨_, g12, gm 12 rfl, F12.kp, b12, okx_tp F12 hce xce xcm⟩
  have xdt : HasX pgm w K mg base "drop_tops" 6 ["endless", "many"] (spTpX K) := ⟨_, g13, gm 13 rfl, F13.kp, b13, okx_dt F13 hce xce xcm⟩
  have xpa : HasX pgm w K mg base "put_all" 6 ["figures", "endless"] (spPaX K) := ⟨_, g14, gm 14 rfl, F14.kp, b14, okx_pa F14 hcr xcf xce⟩
  have xfu : HasX pgm w K mg base "first_unlike" 6 ["endless", "other"] (spFuX K) := ⟨_, g15, gm 15 rfl, F15.kp, b15, okx_fu F15 hce xce hie e3⟩
  have hls : Has pgm w K mg base "_law_f_least" 1 ["head", "again"] (spLst K) := ⟨_, g16, gm 16 rfl, F16.kp, b16, ok_ls F16 q_list q_len q_range⟩
  have hlt : Has pgm w K mg base "_law_f_tops" 1 ["row", "many"] (spLtops) := ⟨_, g17, gm 17 rfl, F17.kp, b17, ok_lt F17 q_list⟩
  have hlb : Has pgm w K mg base "_law_f_beneath" 1 ["row", "many"] (spBen) := ⟨_, g18, gm 18 rfl, F18.kp, b18, ok_lb F18 q_list q_len q_int⟩
  have hst : Has pgm w K mg base "_law_start" 1 ["script"] (spStart K) := ⟨_, g23, gm 23 rfl, F23.kp, b23, ok_st F23 q_list⟩
  have hdr : Has pgm w K mg base "_law_draw" 1 ["stream", "many"] (spDrW) := ⟨_, g24, gm 24 rfl, F24.kp, b24, ok_drw F24 q_int⟩
  have hfr : Has pgm w K mg base "_law_f_row" 2 ["stream", "many"] (spFr) := ⟨_, g19, gm 19 rfl, F19.kp, b19, ok_fr F19 hdr q_range⟩
  have hfe : Has pgm w K mg base "_law_f_endless" 3 ["stream"] (spFe) := ⟨_, g20, gm 20 rfl, F20.kp, b20, ok_fe F20 hdr hfr⟩
  have hlo : Has pgm w K mg base "_law_loose" 4 ["stream", "thing"] (spLo 2) := ⟨_, g27, gm 27 rfl, F27.kp, b27, ok_lo F27 hdr (gm 27 rfl) F27.kp b27 q_isinstance q_list q_tuple q_dict 2⟩
  have hsm : Has pgm w K mg base "_law_same" 7 ["found", "due"] (spSm 6) := ⟨_, g26, gm 26 rfl, F26.kp, b26, ok_sm F26 (gm 26 rfl) F26.kp b26 ⟨q_isinstance, q_list, q_tuple, q_dict, q_int, q_bool, q_len, q_all, q_zip⟩ 6⟩
  have hbe : Has pgm w K mg base "_law_below" 2 ["row", "many"] (spBe) := ⟨_, g29, gm 29 rfl, F29.kp, b29, ok_be F29 hls hlb q_len⟩
  have hat : Has pgm w K mg base "_law_f_as_told" 5 ["stream", "row"] (spAt) := ⟨_, g21, gm 21 rfl, F21.kp, b21, ok_at F21 hdr hlo q_list q_range⟩
  have RR : RrK pgm w K mg base := { dr := hdr, fr := hfr, at_ := hat, lo := hlo, sm := hsm, be := hbe, ls := hls, lt := hlt, tp := htp, dt := hdt, pa := hpa, fu := hfu, tpk := ktp, dtk := kdt, pak := kpa, fuk := kfu, nl := q_len, np := q_repr, nr := q_range }
  have RF : RfK pgm w K mg base := { sm := hsm, od := ⟨_, g22, gm 22 rfl, F22.kp, b22, ok_od F22⟩, tp := xtp, dt := xdt, pa := xpa, fu := xfu }
  have hrr : HasG pgm w K mg base "_law_row_right" 8 ["stream", "row"] (spRr) := ⟨_, g30, gm 30 rfl, F30.kp, b30, ok_rr F30 RR⟩
  have hur : Has pgm w K mg base "_law_unlike_right" 8 ["stream", "row", "other"] (spUr) := ⟨_, g31, gm 31 rfl, F31.kp, b31, ok_ur F31 RR⟩
  have tR : TabB base mg (codeOf K ("_law_refused_right", none)) (tbR K) := TB (cT K ("_law_refused_right", none)) (List.mem_map.mpr ⟨("_law_refused_right", none), by decide, rfl⟩)
  have hrf : Has pgm w K mg base "_law_refused_right" 9 ["stream", "row"] (spRf (TT K)) := by
    refine ⟨_, g32, gm 32 rfl, F32.kp, b32, ?_⟩
    obtain ⟨oc, od, kV, doc, pm, an, c, ct, osl, rfl, lk, hcd⟩ := fun_code F32
    have ec : codeOf K ("_law_refused_right", none) = c := He.codeOf_eq (p := ("_law_refused_right", none)) lk rfl
    rw [ec] at tR
    refine ok_rf lk hcd tR List.mem_cons_self (fun p hp e => ?_) F28 (gm 28 rfl) F28.kp b28 R RF
    rw [List.mem_singleton.mp hp]
  exact ⟨hst, hfe, hrr, hur, hrf, RR⟩
end K14
namespace K14
open PySem PySem.W PySem.Calls PyProof.Rows L2 LamX
open He (ga ma eqO eqO_ok ba cT codeOf tabOf)
theorem tabs_new {K : Frag} {H : Hp} (h : ∀ p ∈ tfs.map (cT K), H p.2 = some (.tbl #[])) : Tabs (TT K) H := fun p hp => by
  rw [List.mem_singleton.mp hp]
  exact ⟨#[], h (cT K ("_law_refused_right", none)) (List.mem_map.mpr ⟨("_law_refused_right", none), by decide, rfl⟩), by first | exact trivial | simp [TriplesOk], fun pos cv z => by simp [codeAmong] at z⟩
theorem nm_law : (HandSHeadRun.topDef RZ.prog 43).name = ("law" : PySem.Str) := by kernel_rfl
theorem walk : WalkO (view RZ.prog [43]) nms (XL (view RZ.prog [43]) []) hookZ.says (PySem.Challenge.rw_twinforks_k14_whole_endless_rows.row).toRowW (HandSHeadRun.topDef RZ.prog 43) [] (fun f vs => PySem.call f vs) := by
  refine Kz.walk_G (l := PySem.Challenge.rw_twinforks_k14_whole_endless_rows) (n := 63) (k := 10) (x := "script") (CX := fun _ => CX0) rfl (by decide) (by kernel_rfl) ⟨rfl, by decide, by decide⟩ ?_ (fun _ _ _ _ _ z => z)
  intro w mg fa h Y G hmg0
  obtain ⟨K, KX, ⟨c1, c2⟩, c3, c4, c5, c6⟩ := Y
  have S := sy_of c1 c2 c3
  have hmg : mg ("law" : PySem.Str) = some (.ref fa) := by
    rw [← nm_law]
    exact hmg0
  obtain rfl : ga K "law" = fa := by
    have e := (S.mgC KX G (def_mem (x := "law") (List.mem_of_getElem? (i := 33) rfl))).symm.trans hmg
    injection e with e
    injection e
  obtain ⟨g, F⟩ := S.d.def_ 33 (d := defAt 43) rfl
  have F : FunD K "law" "law" (defArgs sLw) (defBody sLw) (defScope sLw) [] [] (ga K "law") g := F
  have bL := FunD.bindsA (ps := ["script"]) F fun _ _ _ _ _ _ us hl => match us, hl with | [_], _ => rfl
  refine ⟨K, g, tfs.map (cT K), spLw K (TT K), KX, fun p hp => ?_, fun p hp => ?_, fun p hp => ?_, fun s v => bL s [v] rfl, fun H a ns hl hT hS => ⟨a, ns, rfl, hS, Nat.le_trans hl (by decide), tabs_new hT, fun _ => rfl⟩, fun base X0 G0 TB => ok_lw F (lk_of S X0 G0 TB)⟩
  · obtain ⟨q, hq, rfl⟩ := List.mem_map.mp hp
    exact c6 q hq
  · obtain ⟨q, hq, rfl⟩ := List.mem_map.mp hp
    exact c5 q hq
  · obtain ⟨q, hq, rfl⟩ := List.mem_map.mp hp
    exact codeHd_of_K KX (c4 q hq)
end K14
open PySem PySem.W PySem.Calls PyProof.Rows
theorem PySem.Challenge.cw_twinforks_k14_whole_endless_rows_holds : PySem.Challenge.rw_twinforks_k14_whole_endless_rows.Holds := by
  w_on; o_law
  refine HandSHeadRun.head_any (r := OpenLaw.row PySem.Challenge.rw_twinforks_k14_whole_endless_rows) (q := view K14.RZ.prog [43]) (H := K14.hookZ) (ob := K14.obZ) (M := 20000) (loose := K14.nms) (d := HandSHeadRun.topDef K14.RZ.prog 43) (kwd := []) K14.obZ_eq
    (by kernel_rfl) (fun s => by kernel_rfl) K14.runZ (by kernel_rfl) (by kernel_rfl) (by kernel_rfl) (by rfl) (by first | assumption | decide +kernel) (by decide +kernel) ⟨rfl, rfl, rfl, rfl, rfl, by decide +kernel⟩ ?hw ?hc
  case hw => w_witness2
  case hc => exact K14.walk
