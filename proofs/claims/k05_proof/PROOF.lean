import PyProof.Rows.All
import Wide.All
import OpenK.AllK
import Wide.FinOn
import HandS.ExcValue
import HandS.ExcInit
import HandS.ExcField
import HandS.List
import HandS.IsInst
import HandS.Words
import KE.KExcSuper
import HandS.ExcSuper
import HandS.Defaults
import HandS.Lambda
import KE.KExcIs
import HandS.CallLocal
import HandS.Dict
import PyProof.Rows.ReprR
import HandS.HeadHook4
import HandS.ForMost
import HandS.EndTab
import HandS.NoneIn
import HandS.TryOnly
import HandS.Iter
import HandS.Walk
import HandS.TryMany
import HandS.Zip
import HandS.ListItems
import KE.GoesEnum
import HandS.Small
import HandS.TupAny
import HandS.Star
import KE.KDictZip
import KE.KItemsList
import PyProof.ReprLen
import HandS.Conv
import HandS.Style
import HandS.More
import HandS.Text
import HandS.FStr
import HandS.LawCells
import PyProof.StrOps2
import HandS.RaiseMore
import PyProof.Rows.StrSplitJoin
import PyProof.Rows.StrItems
import Flt.Len
import PyProof.Rows.ReprOcc
import PyProof.ListStr
import PySem.Challenge.RW_twinforks_k05_whole_plans_refused
import HandS.Nested
import HandS.HeadEnd
import HandS.HeadWalk
import HandS.Head2
import KE.KStateDown
set_option Elab.async false
set_option linter.all false
set_option maxRecDepth 100000
set_option maxHeartbeats 0
namespace Kz
open PySem PySem.W PySem.Calls PyProof.Rows L2

/-- what the written part says of an own error class and of its __init__ -/
structure XF (prog : Program) (K : Frag) (C fI : Addr) (qual : Str) (params : Arguments) (body : List Stmt) (scope : Scope) : Prop where
  oex : OexC K C
  ini : findIn K (.ref C) "__init__" = some (some (.ref fI))
  tyI : typeIn K (.ref fI) = some (.type "function")
  fn : ∃ (oc : Value) (od : Option Addr) (kV doc pm : Value) (an : Option Addr) (cda : Addr) (ct : Value) (osl : Array (Option Value)) (cc : Addr) (ccl : Value) (cdd : Option Addr) (vs : Array Value) (ccs : Array (Option Value)) (file : Str) (tf : Tok)
      (cl : Value) (cld : Option Addr) (csl : Array (Option Value)),
    K.lookup fI = some ⟨oc, od, .func (ksFn "__init__" qual params body scope .none kV doc pm an (.ref cda) ct cc), osl⟩ ∧ codeIn K (.ref cda) qual = true ∧ K.lookup cda = some ⟨ccl, cdd, .fields vs, ccs⟩ ∧ vs[2]? = some (.str file tf) ∧
      ((prog.main.file : Str) == file) = true ∧ K.lookup cc = some ⟨cl, cld, .cell (some (.ref C)), csl⟩
  sup : ks_superIn K C C "__init__" = some (some (.builtin "ValueError.__init__"))
  sbV : subIn K (.ref C) (.type "ValueError") = some true
  slf : mroIn K C (.ref C) = some true
  opq : nsIn K cStatics "thirdparty.any" = some none
  glo : nsIn K mainGlobals "super" = some none
  top : (prog.main.scope.names.lookup ("super" : Str)).isSome = false
  xf : XfC K C

/-- the scope of such an __init__ -/
structure ScI (params : Arguments) (scope : Scope) (fs : List Str) : Prop where
  hd : ∃ ar, (params.posonlyargs ++ params.args).head? = some ar ∧ ar.arg = ("self" : Str)
  ks : scope.names.lookup ("super" : Str) = some .globalImplicit
  kc : scope.names.lookup ("__class__" : Str) = some .free
  ka : scope.names.lookup ("self" : Str) = some .local
  kf : ∀ f ∈ fs, scope.names.lookup f = some .local
  cell : ∀ x ∈ scope.names, x.2 ≠ .cell
  kind : scope.kind = .function
  co : scope.isCoroutine = false
  gen : scope.isGenerator = false

def sSuper (msg : Str) (j : Nat) (p0 p1 p2 p3 p4 p5 : Pos) : Stmt := .Expr (.Call (.Attribute (.Call (.Name "super" p0) [] [] p1) "__init__" p2) [.Constant (.str msg) j p3] [] p4) p5
def sPut (f : Str) (q0 q1 q2 q3 : Pos) : Stmt := .Assign [.Attribute (.Name "self" q0) f q1] (.Name f q2) q3

section
variable {X : Cx} {pins : List (Addr × Obj)} {σ : L2.St} {H : Hp} {s : Shared} {a C fI : Addr} {A : Around} {E : Value → Shared → Prop}

/-- the record of an exception that is being made, behind super().__init__(..) -/
theorem call_up {u : Addr} {rest : List Value} {Q : Value → Shared → Prop} (T : OexC X.K C) (I : Inv X pins σ H s) (e : H a = some (exo a C none)) (hu : s.heap.get? u = some (kxs_mw "ValueError.__init__" a)) (hl : rest.length ≤ sizeLine)
    (h : ∀ s', Inv X pins σ H s' → (∀ b o, b ≠ a → s.heap.get? b = some o → s'.heap.get? b = some o) → Q .none s') : wpAny (model X.prog X.w) A (call (.ref u) rest) Q E s := by
  obtain ⟨nm, q, N, bs, bm, sn, sub, ab, col, dd, k0, k1, k2, k3, k5, hC, hbm⟩ := T.cls
  obtain ⟨t1, ho⟩ := exo_at I.hok e
  have hCs := I.kIn _ _ hC
  obtain ⟨hp, g, d, t, os⟩ := s
  refine wpAny_call (codeAny_of_tree ?_)
  show wpAny _ A.in1 (callAny (.ref u) ⟨rest, []⟩) _ _ _
  simp only [callAny]
  refine wpAny_bind (wpAny_load hu ?_)
  simp only [kxs_mw, show (Value.type "method-wrapper" == Value.type "method" || Value.type "method-wrapper" == Value.type "builtin_function_or_method" || Value.type "method-wrapper" == Value.type "method-wrapper") = true by decide, if_true]
  refine KFB.if_so (by decide) ?_
  refine wpAny_bind (check_bound_init F.excBase_ValueError.toExcCallFacts hCs ho rfl ?_)
  refine wpAny_bind (wpAny_pure (wpAny_pure ?_))
  refine ⟨plainId_quiet F.excBase_ValueError.init.plain _, codeAny_builtin F.excBase_ValueError.initEntry ?_⟩
  refine exc_init_tree (cls := .ref C) (t0 := t1) (dv := none) (c2 := .none) (c3 := .none) (b4 := .bool false) ho hl (fun h' k e' _ => ?_)
  have J := I.write (t' := t) (x := a) (e := a) (o := exo a C none) (by rw [e]; exact True.intro) (.inl rfl) k ⟨_, e'⟩ (exo_ok e')
  have eu : upd H a (exo a C none) = H := by
    funext b
    by_cases hb : b = a
    · rw [hb, upd_same, e]
    · rw [upd_ne hb]
  rw [eu] at J
  exact h _ J k

/-- a pin more: the dict of a callee's locals -/
theorem pinned {L : Addr} {m : Str → Option Value} (I : Inv X pins σ H s) (hn : s.heap.Ns L m) (hH : H L = none) (h1 : L ≠ X.env.locals) (h2 : L ∉ X.fs) :
    ∃ oL, Inv X ((L, oL) :: pins) σ H s ∧ (∃ es ep, oL.data = .dict es ep ∧ ∀ s' : Shared, s'.heap.get? L = some oL → s'.heap.Ns L m) := by
  obtain ⟨oL, es, ep, hL, hd, r⟩ := hn
  refine ⟨oL, I.pins_of fun p hp => ?_, es, ep, hd, fun s' e => ⟨oL, es, ep, e, hd, r⟩⟩
  rcases List.mem_cons.mp hp with rfl | hp
  · exact ⟨hL, hH, h1, h2, fun v z => by rw [hd] at z; cases z⟩
  · exact I.pin p (List.mem_append_right _ hp)
theorem unpin {q : Addr × Obj} (I : Inv X (q :: pins) σ H s) : Inv X pins σ H s := I.pins_of fun p hp => I.pin p (List.mem_append_right _ (List.mem_cons_of_mem _ hp))

theorem ev_super {msg : Str} {j : Nat} {p0 p1 p2 p3 p4 : Pos} (hm : (p2.endLine == p4.line) = true) (env : Env) :
    eval (.Call (.Attribute (.Call (.Name "super" p0) [] [] p1) "__init__" p2) [.Constant (.str msg) j p3] [] p4) env = (do
      let ov ← attributeBase (.Call (.Name "super" p0) [] [] p1) "__init__" env (eval (.Call (.Name "super" p0) [] [] p1) env)
      standAt p2.atName
      let (f, first) ← holding [ov] (getMethod ov "__init__" (do return (← importBound (.Call (.Name "super" p0) [] [] p1) env).getD true))
      callWith p4 f first (backTo p4 (starEach [.Constant (.str msg) j p3] env)) []) := by
  have e : methodCallPos true (.Call (.Name "super" p0) [] [] p1) env p2 p4 = pure p4 := by
    unfold methodCallPos
    rw [hm]
    rfl
  show (attributeBase _ _ _ _ >>= fun ov => standAt p2.atName >>= fun _ => holding [ov] (calleeOf true (.Call (.Name "super" p0) [] [] p1) env ov "__init__") >>= fun fx => methodCallPos true (.Call (.Name "super" p0) [] [] p1) env p2 p4 >>= fun q => callWith q fx.1 fx.2 _ _) = _
  rw [e]
  rfl
/-- an own __init__ to where super().__init__(text) is done -/
theorem init_pre {qual : Str} {params : Arguments} {scope : Scope} {msg : Str} {j : Nat} {p0 p1 p2 p3 p4 p5 : Pos} {fs : List Str} {rest : List Stmt} {R : Result → Shared → Prop} {args : Args} {binds : List (Str × Value)}
    (hm : (p2.endLine == p4.line) = true) (T : XF X.prog X.K C fI qual params (sSuper msg j p0 p1 p2 p3 p4 p5 :: rest) scope) (S : ScI params scope fs) (I : Inv X pins σ H s) (e : H a = some (exo a C none)) (hroom : A.depth < recursionLimit)
    (hbind : ∀ (kV doc pm : Value) (an : Option Addr) (cdv ct : Value) (cc : Addr), bindArgs (ksFn "__init__" qual params (sSuper msg j p0 p1 p2 p3 p4 p5 :: rest) scope .none kV doc pm an cdv ct cc) args = pure binds)
    (hloc : ∀ x ∈ binds, scope.names.lookup x.1 = some .local) (hs : binds.reverse.lookup ("self" : Str) = some (.ref a))
    (h : ∀ (env : Env) (oL : Obj) (s' : Shared), env.scope.kind = .function → (∀ x, env.kindOf x = scope.names.lookup x) → (∀ s2 : Shared, s2.heap.get? env.locals = some oL → s2.heap.Ns env.locals (fun x => binds.reverse.lookup x)) → Inv X ((env.locals, oL) :: pins) σ H s' →
      wpAny (model X.prog X.w) (A.deeper env) (execs rest env) (fun fl s' => R (.ok (.ret (match fl with | .ret v => v | _ => .none))) s') (fun e s' => wpAny (model X.prog X.w) (A.deeper env) (leaving env e) (fun _ s'' => R (.error e) s'') (fun e' s'' => R (.error e') s'') s') s') :
    codeAny (model X.prog X.w) A (.call (.ref fI) args) R s := by
  obtain ⟨oc, od, kV, doc, pm, an, cda, ct, osl, cc, ccl, cdd, vs, ccs, file, tf, cl, cld, csl, lk, hcd, lcd, hvs, hfile, lcc⟩ := T.fn
  obtain ⟨ar, hh1, hh2⟩ := S.hd
  obtain ⟨mb, bl1, bl2⟩ := I.mod.blt
  refine ks_codeAny_call_defAt (fd := ksFn "__init__" qual params (sSuper msg j p0 p1 p2 p3 p4 p5 :: rest) scope .none kV doc pm an (.ref cda) ct cc) hroom (I.kIn _ _ lk) rfl I.nolimit (codeRec_of I.kIn hcd) rfl (.of_eq (hbind kV doc pm an (.ref cda) ct cc)) S.cell hloc
    (fun h₁ hns kp => ?_) S.co S.gen S.kind
  have I1 : Inv X pins σ H { s with heap := h₁, toks := s.toks + binds.length } := I.kept kp
  have nX : s.heap.objs.size ≠ X.env.locals := Nat.ne_of_gt I.lt
  have nF : s.heap.objs.size ∉ X.fs := I.nofs (Nat.le_refl _)
  let fdI := ksFn "__init__" qual params (sSuper msg j p0 p1 p2 p3 p4 p5 :: rest) scope .none kV doc pm an (.ref cda) ct cc
  have ek : ∀ x, (callEnv fdI s.heap.objs.size fI).kindOf x = scope.names.lookup x := fun x => rfl
  have eK : (callEnv fdI s.heap.objs.size fI).scope.kind = .function := S.kind
  have eI : interactive (callEnv fdI s.heap.objs.size fI) = false := by
    unfold interactive
    rw [eK]
    rfl
  obtain ⟨oL, I1', es, ep, _, back⟩ := pinned I1 hns (I.hok.fresh (Nat.le_refl _)) nX nF
  refine ks_wpAt_execs_cons (ks_wpAt_Expr_any (ks_wpAt_MethodCall ?_ (ev_super hm _)) eI (by rfl))
  refine ks_wpAt_super_base ((ek _).trans S.ks) ((ek _).trans S.kc) (by decide) rfl (I1'.kIn _ _ lk) rfl hh1 rfl (I1'.kIn _ _ lcd) rfl hvs hfile T.top ?_
  refine ks_loadName_global eK ((ek _).trans S.ks) (loadGlobal_builtin (mg := X.mg) (mb := mb) (v := .type "super") (I1'.mod.glob.keeps I1'.bk) (mg_none_of I1'.mod.kin I1'.mod.glob T.glo) (bl1.keeps I1'.bk) ((bl2 _ (by decide +kernel)).trans (by first | rfl | kernel_rfl)) ⟨rfl, ?_⟩)
  refine wpAny_loadName_free eK ((ek _).trans S.kc) rfl ⟨_, I1'.kIn _ _ lcc, rfl⟩ ?_
  rw [hh2]
  refine wpAny_loadName_local eK ((ek _).trans S.ka) hns hs ?_
  obtain ⟨nm, qn, N, bs, bm, sn, sub, ab, col, dd, k0, k1, k2, k3, k5, hC, hbm⟩ := T.oex.cls
  have hC1 := I1'.kIn _ _ hC
  obtain ⟨t1, ho⟩ := exo_at I1'.hok e
  refine ks_wpAny_isType_cls hC1 rfl ⟨rfl, ?_⟩
  refine ks_wpAny_call_super hC1 rfl ho rfl (fun c z => nomatch z) (looks_mroIn I1'.kIn T.slf) (fun h2 e2 kp2 => ?_)
  have I2 : Inv X ((s.heap.objs.size, oL) :: pins) σ H { s with heap := h2, toks := s.toks + binds.length } := I1'.kept kp2
  obtain ⟨t2, ho2⟩ := exo_at I2.hok e
  have hsm := T.sup
  have hcl : clsIn X.K C = some { name := nm, bases := bs, mro := .ref C :: bm, ns := N, qualname := qn, hasDict := true, slotNames := sn, subclasses := sub, abstract := ab, collection := col, hasDel := false } := by unfold clsIn; rw [hC] <;> rfl
  have IA : InstAt h2 a _ C none := ⟨ho2, rfl, rfl, trivial⟩
  unfold ks_superIn at hsm
  rw [hcl] at hsm
  refine kxs_getMethod kxs_ValueError (so := h₁.objs.size) e2 (looks_opaque I2.kIn T.opq) (l₀ := .ref C :: bm) (fun A Q E s k q => wpAny_bind ((looks_clsIn I2.kIn hcl) A _ E s k (wpAny_pure q))) rfl I2.kIn hsm (IA.type.andThen (looks_subIn I2.kIn T.sbV)) (ks_ne I2.kIn IA hcl) (by decide) ?_
  have kp3 : ∀ b o, h2.get? b = some o → (h2.push (kxs_mw "ValueError.__init__" a)).get? b = some o := fun b o z => Heap.get?_push_of_some _ z
  have I3 : Inv X ((s.heap.objs.size, oL) :: pins) σ H { s with heap := h2.push (kxs_mw "ValueError.__init__" a), toks := s.toks + binds.length + 1 } := I2.kept kp3
  have hbw : (h2.push (kxs_mw "ValueError.__init__" a)).get? h2.objs.size = some (kxs_mw "ValueError.__init__" a) := Heap.get?_push_at rfl rfl
  refine kxs_callWith (i := "ValueError.__init__") (x := a) (by rfl) (evalArgs_plain (Calls.spliced_cons (wpAny_Constant_str (k := j) (pos := p3) (Calls.spliced_nil ⟨hbw, ?_⟩))))
  have I4 := I3.tok (s.toks + binds.length + 1 + 1)
  refine call_up T.oex I4 e hbw (by rw [sizeLine_eq]; exact Nat.le_of_ble_eq_true rfl) (fun s5 I5 _ => ?_)
  exact wpAt_of_wpAny (h (callEnv fdI s.heap.objs.size fI) oL s5 eK ek back I5)

theorem pin_at {q : Addr × Obj} (I : Inv X (q :: pins) σ H s) : s.heap.get? q.1 = some q.2 := (I.pin q (List.mem_append_right _ (List.mem_cons_self ..))).1

/-- an own __init__(self, f): super().__init__(text); self.f = f -/
theorem init1 {qual : Str} {params : Arguments} {scope : Scope} {f msg : Str} {j : Nat} {p0 p1 p2 p3 p4 p5 q0 q1 q2 q3 : Pos} {R : Result → Shared → Prop} {args : Args} {y : V} {u : Value}
    (hm : (p2.endLine == p4.line) = true) (T : XF X.prog X.K C fI qual params [sSuper msg j p0 p1 p2 p3 p4 p5, sPut f q0 q1 q2 q3] scope) (S : ScI params scope [f]) (I : Inv X pins σ H s) (e : H a = some (exo a C none)) (ry : RelV y u) (hroom : A.depth < recursionLimit)
    (hbind : ∀ (kV doc pm : Value) (an : Option Addr) (cdv ct : Value) (cc : Addr), bindArgs (ksFn "__init__" qual params [sSuper msg j p0 p1 p2 p3 p4 p5, sPut f q0 q1 q2 q3] scope .none kV doc pm an cdv ct cc) args = pure [(("self" : Str), Value.ref a), (f, u)])
    (hfs : (f == ("self" : Str)) = false) (hfd : (f == ("__debug__" : Str)) = false) (hno : findIn X.K (.ref C) f = some none)
    (h : ∀ (dx : Addr) (s' : Shared), H dx = none → dx ≠ a → Inv X pins σ (upd (upd H dx (exd dx [(f, y)])) a (exo a C (some dx))) s' → R (.ok (.ret .none)) s') :
    codeAny (model X.prog X.w) A (.call (.ref fI) args) R s := by
  have e1 : ([((("self" : Str)), Value.ref a), (f, u)].reverse).lookup ("self" : Str) = some (.ref a) := by
    have q : (("self" : Str) == f) = false := by rw [Bool.beq_comm]; exact hfs
    simp [List.lookup, q]
  have e2 : ([((("self" : Str)), Value.ref a), (f, u)].reverse).lookup f = some u := by simp [List.lookup]
  refine init_pre (binds := [(("self" : Str), Value.ref a), (f, u)]) hm T S I e hroom hbind (fun x hx => ?_) e1 (fun env oL s1 hk ek back I1 => ?_)
  · rcases List.mem_cons.mp hx with rfl | hx
    · exact S.ka
    · rcases List.mem_cons.mp hx with rfl | hx
      · exact S.kf f (List.mem_cons_self ..)
      · cases hx
  · refine wpAny_execs_cons (plainObj_wpAny_Assign_Attribute ?_ (by rfl))
    refine ESX.ldL (back _ (pin_at I1)) e2 ?_ hk ((ek _).trans (S.kf f (List.mem_cons_self ..))) hfd
    refine ESX.ldL (back _ (pin_at I1)) e1 ?_ hk ((ek _).trans S.ka) (by decide)
    refine ost_new T.oex I1 e hno ry (fun dx s2 hd hne I2 => ?_)
    exact wpAny_pure (h dx s2 hd hne (unpin I2))
end
end Kz
namespace Kz
open PySem PySem.W PySem.Calls L2 PySem.HandSPX

section
variable {M : Model} {A : Around} {E : Value → Shared → Prop} {h : Heap} {g : Array GenState} {d : Drawn} {t : Nat} {os : OsState}
variable {nm q : Str} {C N : Addr} {bs bm bmB : List Value} {hdct : Bool} {sn : List Str} {sub : List Value} {ab : Bool} {col : Option Bool} {dd : Option Addr} {k0 k1 k2 k3 k5 : Option Value} {B newId initId : String}
/-- keywords let through: the check of the built-in __new__ -/
theorem kwCheck (FB : ExcBaseFacts B newId initId bmB) (hT : ∀ X : String, bm.contains (.type X) = bmB.contains (.type X)) {us : List Value} {kw : List (Str × Value)} {Q : Unit → Shared → Prop}
    (hC : h.get? C = some (excClassObj nm q C N bs bm hdct sn sub ab col dd k0 k1 k2 k3 k5 newId)) (z : Q () ⟨h, g, d, t, os⟩) : wpAny M A (checkBuiltinCall newId ⟨.ref C :: us, kw⟩) Q E ⟨h, g, d, t, os⟩ := by
  have hin : (Value.ref C :: bm).contains (.type B) = true := by rw [List.contains_cons, hT, FB.hasB, Bool.or_true]
  have hst := FB.noStar
  simp only [checkBuiltinCall, FB.newKind, FB.newSplit, FB.newRow]
  repeat (first | refine wpAny_loadPart_at hC ?_ | (refine wpAny_isSubtype_exc hC ?_; rw [hin]) | refine wpAny_staticBase_exc hC ?_ | refine wpAny_madeBy_exc hC ?_ | simp only [bne_self_eq_false, Bool.false_eq_true, if_false] | wp_step)
  exact z
end
section
variable {prog : Program} {w : World} {A : Around} {E : Value → Shared → Prop} {R : Result → Shared → Prop} {h : Heap} {g : Array GenState} {d : Drawn} {t : Nat} {os : OsState}
variable {nm q : Str} {C N : Addr} {bs bm bmB : List Value} {hdct : Bool} {sn : List Str} {sub : List Value} {ab : Bool} {col : Option Bool} {dd : Option Addr} {k0 k1 k2 k3 k5 : Option Value} {B newId initId : String}
theorem kwNew (FB : ExcBaseFacts B newId initId bmB) (hT : ∀ X : String, bm.contains (.type X) = bmB.contains (.type X)) {us : List Value} {kw : List (Str × Value)}
    (hC : h.get? C = some (excClassObj nm q C N bs bm hdct sn sub ab col dd k0 k1 k2 k3 k5 newId))
    (z : R (.ok (.ret (.ref (h.objs.size + 1)))) ⟨(h.push (W.kdv_tup us)).push (excO C h.objs.size), g, d, t, os⟩) (hl : us.length ≤ sizeLine) :
    codeAny (model prog w) A (.builtin newId ⟨.ref C :: us, kw⟩) R ⟨h, g, d, t, os⟩ := by
  have he := FB.ends
  have c1 : (Value.ref C :: bm).contains (.type B) = true := by rw [List.contains_cons, hT, FB.hasB, Bool.or_true]
  have c2 : (Value.ref C :: bm).contains (.type "AttributeError") = false := by rw [List.contains_cons, hT, FB.noAttr]; rfl
  have c3 : (Value.ref C :: bm).contains (.type "NameError") = false := by rw [List.contains_cons, hT, FB.noName]; rfl
  refine codeAny_builtinAt FB.entry ?_
  unfold Builtin.«BaseException.__new__»
  refine _root_.PySem.wpAt_bind ?_
  show _root_.PySem.wpAt _ _ _ (stack >>= _) _ _ _
  refine _root_.PySem.wpAt_bind (_root_.PySem.wpAt_stack fun _ _ => _root_.PySem.wpAt_of_wpAny ?_)
  wp_walk
  refine _root_.PySem.wpAt_of_wpAny ?_
  rw [FB.owner]
  repeat (first | with_reducible refine wpAny_madeHere_exc FB.canon hC ?_ | with_reducible refine wpAny_loadPart_at hC ?_ | (with_reducible refine wpAny_isSubtype_exc hC ?_; first | rw [c1] | rw [c2] | rw [c3]) | wp_step)
  show R _ _
  rw [Heap.size_push]
  exact z
theorem kwType (FB : ExcBaseFacts B newId initId bmB) (hT : ∀ X : String, bm.contains (.type X) = bmB.contains (.type X)) {us : List Value} {kw : List (Str × Value)} {fI : Addr} {Q : Fin → Shared → Prop}
    (hC : h.get? C = some (excClassObj nm q C N bs bm hdct sn sub ab col dd k0 k1 k2 k3 k5 newId))
    (hi : W.Looks (model prog w) h (typeLookup (.ref C) "__init__") (some (.ref fI))) (hb : ∀ self, W.Looks (model prog w) h (bindSpecial (.ref fI) self) (.ref fI, [self])) (hl : us.length ≤ sizeLine)
    (z : codeAny (model prog w) A (.call (.ref fI) ⟨.ref (h.objs.size + 1) :: us, kw⟩)
      (fun r s' => match r with | .ok (.ret v) => v = .none ∧ Q (.done (.ret (.ref (h.objs.size + 1)))) s' | .ok _ => False | .error e => E e s')
      ⟨(h.push (W.kdv_tup us)).push (excO C h.objs.size), g, d, t, os⟩) :
    wpAny (model prog w) A (Builtin.«type.__call__» ⟨.ref C :: us, kw⟩) Q E ⟨h, g, d, t, os⟩ := by
  repeat (first | with_reducible refine wpAny_loadPart_at hC ?_ | with_reducible refine wpAny_madeBy_exc hC ?_ | wp_step)
  refine codeAny_call_builtin_code (Code.quiet_builtin _ FB.quiet) (kwCheck FB hT hC (kwNew FB hT hC ?_ hl))
  show wpAny _ _ _ _ _ _
  have kp : ∀ b o, h.get? b = some o → ((h.push (W.kdv_tup us)).push (excO C h.objs.size)).get? b = some o := fun b o e => Heap.get?_push_of_some _ (Heap.get?_push_of_some _ e)
  have hC1 := kp _ _ hC
  have hx : ((h.push (W.kdv_tup us)).push (excO C h.objs.size)).get? (h.objs.size + 1) = some (excO C h.objs.size) := by heap_get
  have hcc : (Value.ref C :: bm).contains (.ref C) = true := by simp
  have i1 := hi.keeps kp
  have b1 := (hb (.ref (h.objs.size + 1))).keeps kp
  unfold isInstance
  repeat (first | with_reducible refine wpAny_loadPart_at hx ?_ | (with_reducible refine wpAny_isSubtype_exc hC1 ?_; rw [hcc]) | wp_step)
  show wpAny _ _ (typeLookup (.ref C) _) _ _ _
  refine i1.at (wpAny_holding (wpAny_bind (b1.at (wpAny_bind (wpAny_call (codeAny_mono z fun r s' y => ?_))))))
  rcases r with e | (v | _ | _ | _) <;> first | exact y | exact y.elim | skip
  obtain ⟨rfl, y⟩ := y
  first
    | exact wpAny_pure (wpAny_pure y)
    | (wp_walk; exact y)
theorem kwCall (FB : ExcBaseFacts B newId initId bmB) (hT : ∀ X : String, bm.contains (.type X) = bmB.contains (.type X)) {us : List Value} {kw : List (Str × Value)} {fI : Addr}
    (hC : h.get? C = some (excClassObj nm q C N bs bm hdct sn sub ab col dd k0 k1 k2 k3 k5 newId))
    (hi : W.Looks (model prog w) h (typeLookup (.ref C) "__init__") (some (.ref fI))) (hb : ∀ self, W.Looks (model prog w) h (bindSpecial (.ref fI) self) (.ref fI, [self])) (hl : us.length ≤ sizeLine)
    (z : codeAny (model prog w) (A.under (.builtin "type.__call__" ⟨.ref C :: us, kw⟩)) (.call (.ref fI) ⟨.ref (h.objs.size + 1) :: us, kw⟩) (W.InitBack (h.objs.size + 1) R)
      ⟨(h.push (W.kdv_tup us)).push (excO C h.objs.size), g, d, t, os⟩) :
    codeAny (model prog w) A (.call (.ref C) ⟨us, kw⟩) R ⟨h, g, d, t, os⟩ := by
  have f1 := tc_lookup
  have f2 := tc_bind (.ref C)
  have hTy : (⟨h, g, d, t, os⟩ : Shared).TypeIs (.ref C) "type" := ⟨_, hC, rfl⟩
  refine codeAny_of_tree (show wpAny _ _ (callAny (.ref C) _) _ _ _ from ?_)
  repeat (any_goals (first | assumption | with_reducible refine wpAny_loadPart_at hC ?_ | wp_step))
  refine ⟨rfl, codeAny_call_builtin_at (Code.quiet_builtin _ (by decide +kernel)) entry_typeCall (wpAny_check_type_call_sub hC (kwType FB hT hC hi hb hl (codeAny_mono z fun r s' y => ?_)))⟩
  rcases r with e | (v | _ | _ | _) <;> exact y
end
end Kz
namespace Kz
open PySem PySem.W PySem.Calls PyProof.Rows L2

section
variable {X : Cx} {pins : List (Addr × Obj)} {σ : L2.St} {H : Hp} {s : Shared} {a C fI : Addr} {A : Around} {E : Value → Shared → Prop}

/-- the heap behind the making of an error: at a the error, at dx its dict -/
def mkH (H : Hp) (a C dx : Addr) (fs : List (Str × V)) : Hp := upd (upd H dx (exd dx fs)) a (exo a C (some dx))
theorem mkH_over {fs : List (Str × V)} {dx : Addr} {o : HO} : mkH (upd H a o) a C dx fs = mkH H a C dx fs := by
  funext b
  unfold mkH upd
  by_cases hb : b = a
  · simp [hb]
  · simp [hb]

end

/-! ### the rules -/
/-- the texts of an own error class with one field -/
structure X1 (prog : Program) (K : Frag) (C : Addr) (f : Str) : Prop where
  ex : ∃ (fI : Addr) (qual : Str) (params : Arguments) (scope : Scope) (msg : Str) (j : Nat) (p0 p1 p2 p3 p4 p5 q0 q1 q2 q3 : Pos), (p2.endLine == p4.line) = true ∧ XF prog K C fI qual params [sSuper msg j p0 p1 p2 p3 p4 p5, sPut f q0 q1 q2 q3] scope ∧ ScI params scope [f] ∧
    (∀ (kV doc pm : Value) (an : Option Addr) (cdv ct : Value) (cc : Addr) (a u : Value), bindArgs (ksFn "__init__" qual params [sSuper msg j p0 p1 p2 p3 p4 p5, sPut f q0 q1 q2 q3] scope .none kV doc pm an cdv ct cc) ⟨[a, u], []⟩ = pure [(("self" : Str), a), (f, u)]) ∧
    (∀ (kV doc pm : Value) (an : Option Addr) (cdv ct : Value) (cc : Addr) (a u : Value), bindArgs (ksFn "__init__" qual params [sSuper msg j p0 p1 p2 p3 p4 p5, sPut f q0 q1 q2 q3] scope .none kV doc pm an cdv ct cc) ⟨[a], [(f, u)]⟩ = pure [(("self" : Str), a), (f, u)])
  fs : (f == ("self" : Str)) = false
  fd : (f == ("__debug__" : Str)) = false
  no : findIn K (.ref C) f = some none
  kC : keepIn K (.ref C) = true
theorem under_depth {A : Around} {C : Addr} {us : List Value} {kw : List (Str × Value)} {k : Nat} (hr : Room k A) : (A.under (.builtin "type.__call__" ⟨.ref C :: us, kw⟩)).depth < recursionLimit := by
  rw [make_depth]
  have := hr.dp
  omega

end Kz
namespace Kz
open PySem PySem.W PySem.Calls PyProof.Rows L2 LamX


theorem mkH_a {H : Hp} {a C dx : Addr} {fs : List (Str × V)} : mkH H a C dx fs a = some (exo a C (some dx)) := upd_same
theorem mkH_d {H : Hp} {a C dx : Addr} {fs : List (Str × V)} (ne : dx ≠ a) : mkH H a C dx fs dx = some (exd dx fs) := by
  unfold mkH
  rw [upd_ne ne, upd_same]
theorem new_ext {H : Hp} {a : Addr} {o : HO} (n : H a = none) : ∀ b u, H b = some u → upd H a o b = some u := fun b u e => by
  rw [upd_ne (ne_of_none e n)]
  exact e

theorem small4 (n : Nat) (h : n ≤ 1000 := by decide) : n ≤ sizeLine := by
  rw [sizeLine_eq]
  omega
end Kz
namespace Kz
open PySem PySem.W PySem.Calls PyProof.Rows L2 LamX

theorem boot_isi : bootBuiltins "isinstance" = some (.builtin "isinstance") := by decide +kernel

end Kz
namespace Kz
open PySem PySem.W PySem.Calls PyProof.Rows L2 LamX
open He (ga)

/-! ### the text -/
theorem PSs.of_eq {X : Cx} {a b : List Stmt} {t : TS} (e : b = a) (h : PSs X a t) : PSs X b t := by
  rw [e]
  exact h
section
variable {P : Program} {w : World} {K : Frag} {mg : Str → Option Value} {base : Heap}

end
end Kz
namespace Kz
open PySem PySem.W PySem.Calls PyProof.Rows L2 LamX
open He (ga)

theorem same_new {H : Hp} {p : Addr} {o : HO} (h : H p = none) : Same H (upd H p o) := new_ext h

section
variable {P : Program} {w : World} {K : Frag} {mg : Str → Option Value} {base : Heap}
/-! ### lists of truths -/
end
end Kz
namespace Kz
open PySem PySem.W PySem.Calls PyProof.Rows L2 LamX
open He (ga)

theorem boot_rp : bootBuiltins "repr" = some (.builtin "repr") := by decide +kernel

end Kz
namespace Kz
open PySem PySem.W PySem.Calls PyProof.Rows L2 LamX
open He (ga)
theorem boot_in : bootBuiltins "int" = some (.type "int") := by decide +kernel
theorem boot_li : bootBuiltins "list" = some (.type "list") := by decide +kernel

/-- the spring of draws -/
structure SS (H : Hp) (l li : Addr) (ns : List Int) (b c d : Int) : Prop where
  l1 : H l = some (.lst [.ref li, .int b, .int c, .int d])
  l2 : H li = some (.lst (ns.map V.int))
  ne : l ≠ li
  b0 : 0 ≤ b
  c0 : 0 ≤ c
  d0 : 0 ≤ d
  d1 : d < 2147483647
/-- all but the spring stands -/
def ExtS (l li : Addr) (H H' : Hp) : Prop := ∀ x o, H x = some o → x ≠ l → x ≠ li → H' x = some o
theorem ExtS.trans {l li : Addr} {H H1 H2 : Hp} (a : ExtS l li H H1) (b : ExtS l li H1 H2) : ExtS l li H H2 := fun x o e h1 h2 => b x o (a x o e h1 h2) h1 h2
theorem SS.set {H : Hp} {l li : Addr} {ns : List Int} {b c d b' c' d' : Int} (s : SS H l li ns b c d) (hb : 0 ≤ b') (hc : 0 ≤ c') (hd : 0 ≤ d') (hd1 : d' < 2147483647) : SS (upd H l (.lst [.ref li, .int b', .int c', .int d'])) l li ns b' c' d' ∧ ExtS l li H (upd H l (.lst [.ref li, .int b', .int c', .int d'])) :=
  ⟨⟨upd_same, by rw [upd_ne s.ne.symm]; exact s.l2, s.ne, hb, hc, hd, hd1⟩, fun x o e h1 _ => by rw [upd_ne h1]; exact e⟩
theorem SS.pop {H : Hp} {l li : Addr} {n : Int} {ns : List Int} {b c d : Int} (s : SS H l li (n :: ns) b c d) : SS (upd H li (.lst (ns.map V.int))) l li ns b c d ∧ ExtS l li H (upd H li (.lst (ns.map V.int))) :=
  ⟨⟨by rw [upd_ne s.ne]; exact s.l1, upd_same, s.ne, s.b0, s.c0, s.d0, s.d1⟩, fun x o e _ h2 => by rw [upd_ne h2]; exact e⟩
theorem SS.new {H : Hp} {l li p : Addr} {ns : List Int} {b c d : Int} {o : HO} (s : SS H l li ns b c d) (n : H p = none) : SS (upd H p o) l li ns b c d ∧ ExtS l li H (upd H p o) :=
  ⟨⟨new_ext n _ _ s.l1, new_ext n _ _ s.l2, s.ne, s.b0, s.c0, s.d0, s.d1⟩, fun x o e _ _ => new_ext n _ _ e⟩

theorem tWhile_split {c : TT} {tb : TS} {D : Ends} {σ : L2.St} {H : Hp} (Ok : L2.St → Hp → Prop) (a : ∀ σ H, Ok σ H → D.nx σ H) (k : (∀ σ H, Ok σ H → D.nx σ H) → tWhile c tb D σ H) : tWhile c tb D σ H := k a
theorem seq0 {α : Type} (x : α) (r : List α) : seqIndex? 0 (x :: r).length = some 0 := by
  unfold seqIndex?
  simp
theorem canLay_int : ∀ bs : List Int, PyData.canLayAll0 (bs.map PyData.int) = true
  | [] => rfl
  | b :: r => by
    show (PyData.canLay0 (.int b) && PyData.canLayAll0 _) = true
    rw [canLay_int r]
    rfl
theorem depth_int : ∀ bs : List Int, PyData.depthAll (bs.map PyData.int) = 0
  | [] => rfl
  | b :: r => by
    simp only [List.map_cons, PyData.depthAll, PyData.depth, depth_int r]
    rfl
theorem shaped_int (bs : List Int) : SeqAt.shaped (.list (bs.map PyData.int)) = true := by
  unfold SeqAt.shaped
  rw [Bool.and_eq_true]
  constructor
  · simp only [PyData.canLay0, canLay_int]
  · simp only [PyData.depth, depth_int]
    rfl
theorem dpAll_int {K : Frag} {H : Hp} : ∀ bs : List Int, DpAll K H (bs.map V.int) (bs.map PyData.int)
  | [] => .nil
  | b :: r => .cons (.int b) (dpAll_int r)
section
variable {P : Program} {w : World} {K : Frag} {mg : Str → Option Value} {base : Heap}
def spStart (K : Frag) : Sp := fun vs H Q _ => ∃ (a : Addr) (ns : List Int), vs = [.ref a] ∧ SqL K H a (ns.map V.int) ∧ ∀ (H' : Hp) (l li : Addr), Same H H' → H l = none → H li = none → SS H' l li ns 0 0 19 → Q (.ref l) H'
end
end Kz
namespace Kz
open PySem PySem.W PySem.Calls PyProof.Rows L2 LamX
open He (ga)

/-! ### a def that is only called where nothing is being shown -/
structure FnG (P : Program) (w : World) (K : PySem.W.Frag) (mg : Str → Option Value) (base : Heap) (CX : CXT) (k : Nat) (f : Addr) (fd : FuncData) (ps : List Str) (sp : Sp) : Prop where
  len : ∀ vs H Q E, sp vs H Q E → vs.length = ps.length
  run : ∀ (A : Around) (outer : List Env) (s : Shared) (H : Hp) (args : Args) (us : List Value) (vs : List V) (Q : VK) (E : XK), A.guards = some [] → Room k A → Env0 P w K mg base A outer s H → BindsTo s fd args (ps.zip us) → Vals vs us → sp vs H Q E →
    codeAny (model P w) A (.call (.ref f) args) (CR CX outer P w H s Q E) s
theorem FunD.okG {CX : CXT} {P : Program} {w : World} {K : PySem.W.Frag} {mg : Str → Option Value} {base : Heap} {x qual : Str} {params : Arguments} {body : List Stmt} {scope : Scope} {dvs : List V} {kws : List (Str × V)} {f : Addr} {fd : FuncData} {N ps : List Str} {k : Nat} {sp : Sp}
    (F : FunD K x qual params body scope dvs kws f fd) (S : FnScope N ps scope) (len : ∀ vs H Q E, sp vs H Q E → vs.length = ps.length)
    (hbody : ∀ (cdv : Value) (A : Around) (outer : List Env) (s : Shared) (H : Hp) (vs : List V) (Q : VK) (E : XK), (A.deeper (envOfC qual scope s.heap.objs.size f cdv)).guards = some [] → Room k (A.deeper (envOfC qual scope s.heap.objs.size f cdv)) → sp vs H Q E →
      ∃ t, PSs (cxOf CX P w K mg base N qual scope f cdv A outer s H E) body t ∧ t { nx := fun _ H' => Q .non H', rt := Q } (start N vs) H) : FnG P w K mg base CX (k + 1) f fd ps sp := by
  obtain ⟨oc, od, dV, kV, doc, pm, an, cdv, ct, osl, rfl, lk, hcd, _, _⟩ := F.ex
  exact ⟨len, fun A outer s H args us vs Q E hg hr e0 hb r hsp => LamX.run_ofS lk hcd S hr e0 hb r (len _ _ _ _ hsp) fun hr' => hbody cdv A outer s H vs Q E hg hr' hsp⟩
section
variable {X : Cx} {CX : CXT} {k : Nat} {f : Addr} {fd : FuncData} {ps : List Str} {sp : Sp} {dvs : List V} {ds : List Value} {E : XK} {x : Str} {p pos : Pos} {e : Expr} {es : List Expr} {t : TA}
theorem pe_callG (hgd : X.A.guards = some []) (F : FnG X.prog X.w X.K X.mg X.base CX k f fd ps sp) (hr : Room k X.A) (hg : Gl X x) (hm : X.mg x = some (.ref f)) (hk : PySem.W.keepIn X.K (.ref f) = true) (hb : Binds X.K fd ps ds) (hd : Vals dvs ds) (hx : Passes CX X E)
    (ha : PA X (e :: es) t) (hdb : (x == ("__debug__" : Str)) = false := by decide) (he : starEach (e :: es) X.env = (false, eval e X.env) :: starEach es X.env := by rfl) (hpl : (backTo pos (starEach es X.env)).any (·.1) = false := by rfl) :
    PE X (.Call (.Name x p) (e :: es) [] pos) (tCall sp dvs E t) := by
  refine ⟨fun pins s σ H Q I h => wpAny_Call_Name_kw (ld_glob I hg hm ?_ hdb)⟩
  refine PySem.W.callWith_K (h₀ := X.base) I.ok.mod.kin hk (thn (ha.run pos pins s σ H _ I h) fun us s1 ⟨vs, H1, I1, r, q⟩ => ⟨I1.kIn, ?_⟩) he hpl
  have r2 : Vals (vs ++ dvs) (us ++ ds) := r.append hd
  have hl : (us ++ ds).length = ps.length := r2.length.symm.trans (F.len _ _ _ _ q)
  refine wpAny_call (codeAny_mono (F.run X.A X.stack s1 H1 ⟨us, []⟩ (us ++ ds) (vs ++ dvs) Q E hgd hr I1.env0 (hb s1 us I1.kIn hl) r2 q) fun r s' hq => ?_)
  cases r with
  | error e => exact hx pins σ H1 s1 e s' I1 hq
  | ok fl =>
    cases fl with
    | ret u => exact I1.after hq
    | _ => exact hq.elim
end

/-! ### repr, the dicts known to be no table of modules -/
end Kz
namespace Kz
open PySem PySem.W PySem.Calls PyProof.Rows L2 LamX
open He (ga)
theorem seqI {r : Int} {n : Nat} (h0 : 0 ≤ r) (h1 : r < n) : seqIndex? r n = some r.toNat := by
  unfold seqIndex?
  have a1 : ¬ r < 0 := by omega
  simp [a1]
  omega
def rLen (K : Frag) : List V → Hp → VK → Prop := fun xs H Q => ∃ p ys, xs = [.ref p] ∧ (SqL K H p ys ∨ SqT K H p ys) ∧ Q (.int ys.length) H
end Kz
namespace K14
open PySem PySem.W PySem.Calls PyProof.Rows L2 LamX
open He (ga)
open Kz (boot_isi same_new small4 new_ext boot_li boot_in)
/-! ### any thing that the law passes -/
def kd : Key → PyData
  | .inl i => .int i
  | .inr x => .str x
mutual
inductive Th (H : Hp) : V → PyData → Prop
  | non : Th H .non .none
  | bl (b : Bool) : Th H (.bl b) (.bool b)
  | int (i : Int) : Th H (.int i) (.int i)
  | str (x : Str) : Th H (.str x) (.str x)
  | lst {a : Addr} {xs : List V} {ds : List PyData} : H a = some (.lst xs) → ThAll H xs ds → Th H (.ref a) (.list ds)
  | tup {a : Addr} {xs : List V} {ds : List PyData} : H a = some (.tup xs) → ThAll H xs ds → Th H (.ref a) (.tuple ds)
  | dct {a : Addr} {kvs : List (Key × V)} {ps : List (PyData × PyData)} : H a = some (.dK kvs) → ThKv H kvs ps → Th H (.ref a) (.dict ps)
inductive ThAll (H : Hp) : List V → List PyData → Prop
  | nil : ThAll H [] []
  | cons {v : V} {vs : List V} {d : PyData} {ds : List PyData} : Th H v d → ThAll H vs ds → ThAll H (v :: vs) (d :: ds)
inductive ThKv (H : Hp) : List (Key × V) → List (PyData × PyData) → Prop
  | nil : ThKv H [] []
  | cons {k : Key} {v : V} {vs : List (Key × V)} {d : PyData} {ds : List (PyData × PyData)} : Th H v d → ThKv H vs ds → ThKv H ((k, v) :: vs) ((kd k, d) :: ds)
end
mutual
theorem Th.ext {H H1 : Hp} (e : L2.Same H H1) : ∀ {v : V} {d : PyData}, Th H v d → Th H1 v d
  | _, _, .non => .non
  | _, _, .bl b => .bl b
  | _, _, .int i => .int i
  | _, _, .str x => .str x
  | _, _, .lst h r => .lst (e _ _ h) (ThAll.ext e r)
  | _, _, .tup h r => .tup (e _ _ h) (ThAll.ext e r)
  | _, _, .dct h r => .dct (e _ _ h) (ThKv.ext e r)
theorem ThAll.ext {H H1 : Hp} (e : L2.Same H H1) : ∀ {v : List V} {d : List PyData}, ThAll H v d → ThAll H1 v d
  | _, _, .nil => .nil
  | _, _, .cons h r => .cons (Th.ext e h) (ThAll.ext e r)
theorem ThKv.ext {H H1 : Hp} (e : L2.Same H H1) : ∀ {v : List (Key × V)} {d : List (PyData × PyData)}, ThKv H v d → ThKv H1 v d
  | _, _, .nil => .nil
  | _, _, .cons h r => .cons (Th.ext e h) (ThKv.ext e r)
end
theorem ThAll.length {H : Hp} : ∀ {vs : List V} {ds : List PyData}, ThAll H vs ds → vs.length = ds.length
  | _, _, .nil => rfl
  | _, _, .cons _ r => by rw [List.length_cons, List.length_cons, r.length]
def isL : PyData → Bool
  | .list _ => true
  | .tuple _ => true
  | _ => false
def tyN : PyData → String
  | .none => "NoneType"
  | .bool _ => "bool"
  | .int _ => "int"
  | .str _ => "str"
  | .list _ => "list"
  | .tuple _ => "tuple"
  | .dict _ => "dict"
theorem Th.ty {K : Frag} {H : Hp} {v : V} {d : PyData} (h : Th H v d) : TyX K H v (.type (tyN d)) := by
  cases h with
  | non => exact .base .non
  | bl b => exact .base (.bl b)
  | int i => exact .base (.int i)
  | str x => exact .base (.str x)
  | lst h r => exact .base (.lst h)
  | tup h r => exact .base (.tup h)
  | dct h r => exact .base (.dK h)
theorem boot_tu : bootBuiltins "tuple" = some (.type "tuple") := by decide +kernel
theorem boot_bo : bootBuiltins "bool" = some (.type "bool") := by decide +kernel
theorem is_lt {K : Frag} (d : PyData) : kitAny K (.type (tyN d)) [.type "list", .type "tuple"] = some (isL d) := by
  cases d <;> rfl
section
variable {P : Program} {w : World} {K : Frag} {mg : Str → Option Value} {base : Heap}
/-- a look at any thing -/
def spLook (f : PyData → Bool) : Sp := fun vs H Q _ => ∃ (v : V) (d : PyData), vs = [v] ∧ Th H v d ∧ ∀ H', L2.Same H H' → Q (.bl (f d)) H'
end
end K14
namespace Kz
open PySem PySem.W PySem.Calls PyProof.Rows L2 LamX
open He (ga)
def Has (P : Program) (w : World) (K : Frag) (mg : Str → Option Value) (base : Heap) (x : Str) (k : Nat) (ps : List Str) (sp : Sp) : Prop := ∃ f fd, mg x = some (.ref f) ∧ keepIn K (.ref f) = true ∧ L2.Binds K fd ps [] ∧ FnOk P w K mg base CX0 k f fd ps sp
def HasG (P : Program) (w : World) (K : Frag) (mg : Str → Option Value) (base : Heap) (x : Str) (k : Nat) (ps : List Str) (sp : Sp) : Prop := ∃ f fd, mg x = some (.ref f) ∧ keepIn K (.ref f) = true ∧ L2.Binds K fd ps [] ∧ FnG P w K mg base CX0 k f fd ps sp
abbrev noE : XK := fun _ _ _ => False
section
variable {X : Cx} {x : Str} {p pos : Pos} {e : Expr} {es : List Expr} {ps : List Str} {sp : Sp} {k : Nat} {t : TA}
theorem pe_has (h : Has X.prog X.w X.K X.mg X.base x k ps sp) (hr : Room k X.A) (hg : Gl X x) (ha : PA X (e :: es) t) (hdb : (x == ("__debug__" : Str)) = false := by decide) (he : starEach (e :: es) X.env = (false, eval e X.env) :: starEach es X.env := by rfl) (hpl : (backTo pos (starEach es X.env)).any (·.1) = false := by rfl) :
    PE X (.Call (.Name x p) (e :: es) [] pos) (tCall sp [] noE t) := by
  obtain ⟨f, fd, h1, h2, h3, h4⟩ := h
  exact pe_call h4 hr hg h1 h2 h3 .nil pass0 ha hdb he hpl
theorem pe_hasG (hgd : X.A.guards = some []) (h : HasG X.prog X.w X.K X.mg X.base x k ps sp) (hr : Room k X.A) (hg : Gl X x) (ha : PA X (e :: es) t) (hdb : (x == ("__debug__" : Str)) = false := by decide) (he : starEach (e :: es) X.env = (false, eval e X.env) :: starEach es X.env := by rfl) (hpl : (backTo pos (starEach es X.env)).any (·.1) = false := by rfl) :
    PE X (.Call (.Name x p) (e :: es) [] pos) (tCall sp [] noE t) := by
  obtain ⟨f, fd, h1, h2, h3, h4⟩ := h
  exact pe_callG hgd h4 hr hg h1 h2 h3 .nil pass0 ha hdb he hpl
end
end Kz
namespace K14
open PySem PySem.W PySem.Calls PyProof.Rows L2 LamX
open He (ga)
open Kz (boot_isi same_new small4 new_ext boot_li boot_in Has pe_has noE)
def its : PyData → List PyData
  | .list ds => ds
  | .tuple ds => ds
  | _ => []
/-- a list or a tuple, as a list of values -/
theorem Th.seq {K : Frag} {H : Hp} {v : V} {d : PyData} (h : Th H v d) (l : isL d = true) : ∃ a xs, v = .ref a ∧ ThAll H xs (its d) ∧ (H a = some (.lst xs) ∨ H a = some (.tup xs)) := by
  cases h with
  | lst h r => exact ⟨_, _, rfl, r, .inl h⟩
  | tup h r => exact ⟨_, _, rfl, r, .inr h⟩
  | _ => cases l
theorem ThAll.get {H : Hp} : ∀ {vs : List V} {ds : List PyData}, ThAll H vs ds → ∀ {i : Nat} {v : V}, vs[i]? = some v → ∃ d, ds[i]? = some d ∧ Th H v d
  | _, _, .nil, i, v, e => by simp at e
  | _, _, .cons h r, i, v, e => by
    cases i with
    | zero => obtain rfl := Option.some.inj e; exact ⟨_, rfl, h⟩
    | succ i => exact r.get e
section
variable {X : Cx} {tg e : Expr} {w1 w2 : TI}
theorem pi_or (h1 : PI X tg e w1) (h2 : PI X tg e w2) : PI X tg e (fun σ H R => w1 σ H R ∨ w2 σ H R) := ⟨fun pins s σ H R I h => h.elim (h1.run pins s σ H R I) (h2.run pins s σ H R I)⟩
end
theorem boot_all : bootBuiltins "all" = some (.builtin "all") := by decide +kernel
end K14
namespace K14
open PySem PySem.W PySem.Calls PyProof.Rows L2 LamX
open He (ga)
open Kz (boot_isi same_new small4 new_ext boot_li boot_in Has pe_has noE shaped_int dpAll_int)
theorem cutV_take {xs : List V} {l : Nat} (h : l ≤ xs.length) : cutV xs none (some (l : Int)) = xs.take l := by
  unfold cutV
  have e1 : HT.sIx xs.length 0 none = 0 := rfl
  have e2 : HT.sIx xs.length xs.length (some (l : Int)) = l := by
    rw [HT.sIx_nat]
    omega
  rw [e1, e2]
  rfl
end K14
namespace K14
open PySem PySem.W PySem.Calls PyProof.Rows L2 LamX
open He (ga)
open Kz (boot_isi same_new small4 new_ext boot_li boot_in Has pe_has noE shaped_int dpAll_int)
/-- a statement that is never come to -/
def tNever : TS := fun _ _ _ => False
theorem ps_never {X : Cx} {st : Stmt} : PS X st tNever := ⟨fun _ _ _ _ _ _ h => h.elim⟩
end K14
namespace K14
open PySem PySem.W PySem.Calls PyProof.Rows L2 LamX
open He (ga)
open Kz (boot_isi same_new small4 new_ext boot_li boot_in Has pe_has noE shaped_int dpAll_int)
theorem atI_back {α : Type} {xs : List α} {k : Nat} (h : k < xs.length) : atI xs (-1 - (k : Int)) = xs[xs.length - 1 - k]? := by
  unfold atI ixN
  rw [if_neg (by omega), if_pos (by omega)]
  have e : (-1 - (k : Int) + (xs.length : Int)).toNat = xs.length - 1 - k := by omega
  rw [e]
  rfl
end K14
namespace K14
open PySem PySem.W PySem.Calls PyProof.Rows L2 LamX
open He (ga)
open Kz (boot_isi same_new small4 new_ext boot_li boot_in Has pe_has noE shaped_int dpAll_int)
section
variable {X : Cx} {tg : Expr} {g1 g2 : TG}
theorem pg_or (h1 : PG X tg g1) (h2 : PG X tg g2) : PG X tg (fun v σ H Q => g1 v σ H Q ∨ g2 v σ H Q) := ⟨fun pins s σ H v u Q I r h => h.elim (h1.run pins s σ H v u Q I r) (h2.run pins s σ H v u Q I r)⟩
end
end K14
namespace K14
open PySem PySem.W PySem.Calls PyProof.Rows L2 LamX
open He (ga)
open Kz (boot_isi same_new small4 new_ext boot_li boot_in Has pe_has noE shaped_int dpAll_int)
theorem atI_last {α : Type} {xs : List α} (h : 0 < xs.length) : atI xs (-1) = xs[xs.length - 1]? := by
  have e := atI_back (xs := xs) (k := 0) h
  simpa using e
end K14
namespace K14
open PySem PySem.W PySem.Calls PyProof.Rows L2 LamX
open Kz (XF X1 mkH mkH_over mkH_a mkH_d kwCall init1 under_depth)
section
variable {X : Cx} {pins : List (Addr × Obj)} {σ : L2.St} {H : Hp} {s : Shared} {a C fI d : Addr} {E : Value → Shared → Prop} {fs : List (Str × V)}
theorem not_exo {o : HO} {b : Addr} (ea : H a = some (exo a C (some d))) (eb : H b = some o) (n : ∀ φ, o ≠ .ext φ) : b ≠ a := fun z => by
  rw [z, ea] at eb
  exact n _ (Option.some.inj eb).symm
theorem not_exd {o : HO} {b : Addr} (ed : H d = some (exd d fs)) (eb : H b = some o) (n : ∀ φ, o ≠ .ext φ) : b ≠ d := fun z => by
  rw [z, ed] at eb
  exact n _ (Option.some.inj eb).symm
/-- an exception that was made since the def began is let go: its dict is kept -/
theorem let_go (I : Inv X pins σ H s) (ea : H a = some (exo a C (some d))) (ed : H d = some (exd d fs)) (n0 : X.s_0.heap.get? a = none) (nda : d ≠ a) :
    ∃ (t0 : Addr) (G : Heap), Inv X pins σ (upd (del H a) d (.xd fs)) { s with heap := G } ∧ (∀ b o, G.get? b = some o → s.heap.get? b = some o) ∧ G.get? a = none ∧
      s.heap.get? a = some ({ cls := .ref C, dict := some d, data := .fields #[.ref t0, .none, .none, .none, .bool false, .none] } : Obj) := by
  obtain ⟨t0, h0⟩ := exo_at I.hok ea
  obtain ⟨mA, hns, rel⟩ := exd_at I.hok ed
  obtain ⟨G, g1, g2⟩ := restrict s.heap fun b => decide (b ≠ a)
  have on : ∀ b, b ≠ a → G.get? b = s.heap.get? b := fun b q => g1 b (decide_eq_true q)
  have off : G.get? a = none := g2 a (by simp)
  have bef : ∀ {b : Addr} {o : Obj}, X.s_0.heap.get? b = some o → b ≠ a := fun e z => by
    rw [z, n0] at e
    cases e
  have un := I.base
  have U : Un X.fs X.ex X.H_0 (upd (del H a) d (.xd fs)) X.s_0.heap G := {
    keep := fun b o e n f x => (on b (bef e)).trans (un.keep b o e n f x)
    slot := fun b o e n f x => by
      obtain ⟨sl, q⟩ := un.slot b o e n f x
      exact ⟨sl, (on b (bef e)).trans q⟩
    free := fun b o e n x => by
      have q := un.free b o e n x
      rw [upd_ne (fun z => by rw [z, ed] at q; cases q), del_ne (bef e)]
      exact q
    there := fun b o e x => by
      obtain ⟨o', q⟩ := un.there b o e x
      exact ⟨o', (on b (bef e)).trans q⟩
    tups := fun b xs e => by
      have q := un.tups b xs e
      rw [upd_ne (not_exd ed q (fun φ z => nomatch z)), del_ne (not_exo ea q (fun φ z => nomatch z))]
      exact q
    frzs := fun b o u e => by
      have q := un.frzs b o u e
      rw [upd_ne (not_exd ed q (fun φ z => nomatch z)), del_ne (not_exo ea q (fun φ z => nomatch z))]
      exact q
    tbls := fun b ps e => by
      obtain ⟨more, q⟩ := un.tbls b ps e
      exact ⟨more, by rw [upd_ne (not_exd ed q (fun φ z => nomatch z)), del_ne (not_exo ea q (fun φ z => nomatch z))]; exact q⟩ }
  have gone : ∀ {b : Addr}, H b = none → upd (del H a) d (.xd fs) b = none := fun {b} q => by
    rw [upd_ne (fun z => by rw [z, ed] at q; cases q)]
    unfold del
    split
    · rfl
    · exact q
  have nfree : ∀ {b : Addr}, H b = none → b ≠ a := fun q z => by
    rw [z, ea] at q
    cases q
  refine ⟨t0, G, ⟨I.ok, I.os, I.bare, U, ?_, fun x c e => ?_, gone I.free, fun x c e => gone (I.freeC x c e), fun p hp => ?_, fun b o z => ?_, I.len⟩, fun b o q => ?_, off, h0⟩
  · obtain ⟨m, hn, hl⟩ := I.loc
    refine ⟨m, hn.at fun o y => (on _ (nfree I.free)).trans y, fun i x v e1 e2 e3 => ?_⟩
    obtain ⟨u, ru, q⟩ := hl i x v e1 e2 e3
    refine ⟨u, ru, ?_⟩
    rcases q with q | ⟨k, c, e, z⟩
    · exact .inl q
    · refine .inr ⟨k, c, e, ?_⟩
      obtain ⟨oc, e1, e2⟩ := z
      exact ⟨oc, (on c (nfree (I.freeC x c e))).trans e1, e2⟩
  · obtain ⟨v, oc, e1, e2⟩ := I.cell x c e
    exact ⟨v, oc, (on c (nfree (I.freeC x c e))).trans e1, e2⟩
  · obtain ⟨q1, q2, q3, q4, q5⟩ := I.pin p hp
    exact ⟨(on _ (nfree q2)).trans q1, gone q2, q3, q4, q5⟩
  · by_cases hb : b = d
    · subst hb
      rw [upd_same] at z
      cases z
      exact ⟨mA, hns.at fun o y => (on b nda).trans y, rel⟩
    · rw [upd_ne hb] at z
      have hba : b ≠ a := fun e => by
        rw [e, del_same] at z
        cases z
      rw [del_ne hba] at z
      have oa : ∀ {c : Addr}, H c = some (.own b) → c ≠ a := fun q => not_exo ea q (fun φ z => nomatch z)
      refine (I.hok b o z).stay (fun c v hc y => ?_) (fun c hc => ?_) fun c xs hc => ?_
      · have hca : c ≠ a := hc.elim (fun q => by rw [q]; exact hba) oa
        exact (on c hca).trans y
      · rw [upd_ne (not_exd ed hc (fun φ z => nomatch z)), del_ne (oa hc)]
        exact hc
      · rw [upd_ne (not_exd ed hc (fun φ z => nomatch z)), del_ne (not_exo ea hc (fun φ z => nomatch z))]
        exact hc
  · by_cases hba : b = a
    · rw [hba, off] at q
      cases q
    · exact (on b hba).symm.trans q
/-- C(..) of an own error class; where it stands there was nothing -/
theorem call_mk3 {qual : Str} {params : Arguments} {body : List Stmt} {scope : Scope} {us : List Value} {Q : Value → Shared → Prop}
    (T : XF X.prog X.K C fI qual params body scope) (I : Inv X pins σ H s) (hl : us.length ≤ sizeLine)
    (hini : ∀ (b : Addr) (s1 : Shared) (R : Result → Shared → Prop), Inv X pins σ (upd H b (exo b C none)) s1 → H b = none → (∀ (dx : Addr) (s' : Shared), (upd H b (exo b C none)) dx = none → dx ≠ b → Inv X pins σ (mkH (upd H b (exo b C none)) b C dx fs) s' → R (.ok (.ret .none)) s') →
      codeAny (model X.prog X.w) (X.A.under (.builtin "type.__call__" ⟨.ref C :: us, []⟩)) (.call (.ref fI) ⟨.ref b :: us, []⟩) R s1)
    (h : ∀ (b dx : Addr) (s' : Shared), s.heap.get? b = none → H b = none → H dx = none → dx ≠ b → Inv X pins σ (mkH H b C dx fs) s' → Q (.ref b) s') :
    wpAny (model X.prog X.w) X.A (call (.ref C) us []) Q E s := by
  obtain ⟨nm, q, N, bs, bm, sn, sub, ab, col, dd, k0, k1, k2, k3, k5, hC, hbm⟩ := T.oex.cls
  obtain ⟨hp, g, dr, tk, os⟩ := s
  have hn : H (hp.objs.size + 1) = none := I.hok.fresh (Nat.le_succ _)
  have h0 : hp.get? (hp.objs.size + 1) = none := by
    cases e : hp.get? (hp.objs.size + 1) with
    | none => rfl
    | some o =>
      exact absurd (Heap.lt_size e) (Nat.not_lt_of_le (Nat.le_succ _))
  have stay2 : ∀ b o, hp.get? b = some o → ((hp.push (kdv_tup us)).push (HandSPX.excO C hp.objs.size)).get? b = some o := fun b o e => Heap.get?_push_of_some _ (Heap.get?_push_of_some _ e)
  have at2 : ((hp.push (kdv_tup us)).push (HandSPX.excO C hp.objs.size)).get? (hp.objs.size + 1) = some (HandSPX.excO C hp.objs.size) := by heap_get
  have I2 : Inv X pins σ (upd H (hp.objs.size + 1) (exo (hp.objs.size + 1) C none)) ⟨(hp.push (kdv_tup us)).push (HandSPX.excO C hp.objs.size), g, dr, tk, os⟩ := I.laid (t' := tk) (a := hp.objs.size + 1) stay2 (Nat.le_succ _) (exo_ok at2)
  refine wpAny_call (kwCall F.excBase_ValueError (fun Y => HandSPX.refsVE_contains Y bm hbm) (I.kIn _ _ hC) (looks_findIn I.kIn T.ini) (fun self => bind_fn I.kIn self T.tyI) hl (hini _ _ _ I2 hn fun dx s' hd hne I3 => ?_))
  rw [mkH_over] at I3
  exact ⟨rfl, h _ dx s' h0 hn (by rw [upd_ne hne] at hd; exact hd) hne I3⟩
end
/-- raise C(e): its reading -/
def tRs1 (C : Addr) (f : Str) (te : TE) : L2.St → Hp → XK → Prop := fun σ H Q => te σ H fun y H1 => ∀ d : Addr, H1 d = none → Q (.ref C) (some d) (upd H1 d (.xd [(f, y)]))
theorem pmk_x1 {X : Cx} {C : Addr} {f x : Str} {e : Expr} {te : TE} {p pos : Pos} (T : X1 X.prog X.K C f) (hr : Room 1 X.A) (hex : X.ex = []) (hg : Gl X x) (hm : X.mg x = some (.ref C)) (he : PE X e te) (hdb : (x == ("__debug__" : Str)) = false := by decide)
    (hs : starEach [e] X.env = (false, eval e X.env) :: starEach [] X.env := by rfl) : PMk X (.Call (.Name x p) [e] [] pos) (tRs1 C f te) := by
  intro pins s σ H Q I h
  refine wpAny_Call_Name_kw (ld_glob I hg hm ?_ hdb)
  refine callWith_K (h₀ := X.base) I.ok.mod.kin T.kC ?_ hs (by rfl)
  rw [hs]
  refine Calls.spliced_cons (thn (he.run pins s σ H _ I h) fun u s1 ⟨y, H1, I1, ry, q1⟩ => Calls.spliced_nil ⟨I1.kIn, ?_⟩)
  show wpAny _ _ (call (.ref C) [u]) _ _ _
  obtain ⟨fI, qual, params, scope, msg, j, p0, p1, p2, p3, p4, p5, q0, q1', q2, q3, hpos, T1, S, b1, b2⟩ := T.ex
  refine call_mk3 (fs := [(f, y)]) T1 I1 (by rw [sizeLine_eq]; exact Nat.le_of_ble_eq_true rfl) (fun b s1 R I1 hb k => init1 hpos T1 S I1 upd_same ry (under_depth hr) (fun kV doc pm an cdv ct cc => b1 kV doc pm an cdv ct cc _ _) T.fs T.fd T.no k) fun b dx s' nb n1 n2 ne J => ?_
  have n0 : X.s_0.heap.get? b = none := by
    cases z : X.s_0.heap.get? b with
    | none => rfl
    | some o =>
      obtain ⟨o', q⟩ := I1.base.there b o z (by rw [hex]; exact fun q => nomatch q)
      rw [nb] at q
      cases q
  obtain ⟨t0, G, J2, kG, ge, hoe⟩ := let_go J mkH_a (mkH_d ne) n0 ne
  have eH : upd (del (mkH H1 b C dx [(f, y)]) b) dx (.xd [(f, y)]) = upd H1 dx (.xd [(f, y)]) := by
    funext c
    unfold mkH upd del
    by_cases h1 : c = dx
    · simp [h1]
    · by_cases h2 : c = b
      · subst h2
        simp [h1, n1]
      · simp [h1, h2]
  rw [eH] at J2
  have ox := T1.oex
  exact ⟨b, _, _, { s' with heap := G }, _, .ref C, some dx, rfl, J2, kG, ge, hoe, ⟨rfl, rfl⟩, rfl, rfl, by rw [upd_ne (Ne.symm ne)]; exact n1, rfl, J.bare, raises_own ox.exC ox.tyC, q1 dx n2⟩
end K14
namespace K14
open PySem PySem.W PySem.Calls PyProof.Rows L2 LamX
/-! ### try with several clauses, each with a name -/
abbrev Suite := Addr → Value → Option Addr → TS
/-- the ends of a suite whose name stands in slot i -/
def endsOf (D : Ends) (i : Nat) : Ends := { nx := fun σ H => D.nx (σ.set i none) H, rt := D.rt, bk := fun σ H => D.bk (σ.set i none) H, ct := fun σ H => D.ct (σ.set i none) H }
def wEach (K : Frag) (n : Nat) (Wout : WX) (D : Ends) : List (Value × Nat × Suite) → WX
  | [] => Wout
  | (c, i, ts) :: r => fun cls d σ H => ∃ b, exmOne K cls c = some b ∧ (b = true → ∀ a, H a = none → σ.length = n → ts a cls d (endsOf D i) (σ.set i (some (.ref a))) H) ∧ (b = false → wEach K n Wout D r cls d σ H)
structure Clause (X : Cx) (x n : Str) (c : Value) (i : Nat) (b0 : Stmt) (rest : List Stmt) (ts : Suite) : Prop where
  hi : X.N[i]? = some n
  lo : X.env.kindOf n = some .local
  nm : Names X x c
  su : ∀ (a : Addr) (oe : Obj) (cls : Value) (d : Option Addr) (pn : List (Addr × Obj)), Zc cls d oe → (∃ vs, oe.data = .fields vs) → PSs (X.suite a ((a, oe) :: pn)) (b0 :: rest) (ts a cls d)
inductive Clauses (X : Cx) : List ExceptHandler → List (Value × Nat × Suite) → Prop
  | nil : Clauses X [] []
  | cons {x n : Str} {c : Value} {i : Nat} {ts : Suite} {b0 : Stmt} {rest : List Stmt} {q1 q2 : Pos} {hs : List ExceptHandler} {l : List (Value × Nat × Suite)} : Clause X x n c i b0 rest ts → Clauses X hs l → Clauses X (.ExceptHandler (some (.Name x q1)) (some n) (b0 :: rest) q2 :: hs) ((c, i, ts) :: l)
section
variable {X : Cx} {pins : List (Addr × Obj)} {σ : L2.St} {H : Hp} {sI s : Shared} {B : Heap} {a : Addr} {cls : Value} {d : Option Addr} {Wout : WX} {D : Ends}
/-- what is known where clauses are tried -/
structure Caught (X : Cx) (pins : List (Addr × Obj)) (σ : L2.St) (H : Hp) (sI s : Shared) (B : Heap) (a : Addr) (cls : Value) (d : Option Addr) : Prop where
  inv : Inv X pins σ H sI
  nb : ∀ b o, sI.heap.get? b = some o → b ∉ frs X.stack → B.get? b = some o
  up : sI.heap.UpToSlots s.heap
  fl : HandSPX.FlyingZ B (X.env :: X.outer) a (Zc cls d) s.heap
  na : H a = none
  nL : a ≠ X.env.locals
  nF : a ∉ X.fs
  os : s.os = sI.os
  ag : AllBare s.gens
/-- the clauses, one behind another -/
theorem clauses_run (hs : X.stack = X.env :: X.outer) (hf : X.env.frame = some X.env.locals) (nd : X.N.Nodup) (tk : Takes X Wout) :
    ∀ {hds : List ExceptHandler} {l : List (Value × Nat × Suite)}, Clauses X hds l → Caught X pins σ H sI s B a cls d → wEach X.K X.N.length Wout D l cls d σ H → wpAny (model X.prog X.w) X.A (handleBy (.ref a) X.env hds) (SP X pins D) X.xe s := by
  intro hds l C
  induction C with
  | nil =>
    intro G w
    obtain ⟨oe, vs, T, oT, ts, e1, e2, e3, e4, _⟩ := G.fl.2.2.2
    refine wpAny_handleBy_nil ?_
    have go : wpAny (model X.prog X.w) X.A (setFlight (.ref a) X.env.frame) (fun _ s4 => wpAny (model X.prog X.w) X.A (throw (.ref a) : Sem Flow) (SP X pins D) X.xe s4) X.xe s := by
      rw [hf]
      exact HandSPX.setFlight_upZ G.fl fun h4 hh up => wpAny_throw (tk _ _ ⟨a, B, sI, pins, σ, H, cls, d, rfl, G.inv, G.nb, G.up.trans up, .inr (.inr (by rw [hs]; exact hh)), G.na, G.os, G.ag, w⟩)
    unfold PySem.passOn
    refine wpAny_bind (wpAny_field e1 e3 e4 ?_)
    rw [if_neg (by simp : ¬ (Value.ref T == Value.none) = true)]
    first
      | exact wpAny_bind (wpAny_pure (wpAny_bind go))
      | exact wpAny_bind go
  | @cons x n c i ts b0 rest q1 q2 hs' l' cl r ih =>
    intro G w
    obtain ⟨b, hb, yes, no⟩ := w
    obtain ⟨oe, vs, he, hz, hd⟩ := G.fl.there
    have J := G.inv.landed G.nb G.fl.1 G.up G.os G.ag
    have S := J.suite he hd G.na G.nL G.nF
    refine wpAny_handleBy_cons (codeAny_handlers_test ?_) (fun q => nomatch q)
    have ty : Looks (model X.prog X.w) s.heap (typeOf (.ref a)) cls := fun A Q E s' k q => wpAny_typeOf_ref (k _ _ he) (by rw [hz.1]; exact q)
    have is := exm_one (M := model X.prog X.w) J.kIn ty hb
    have ask : ∀ {Q E : Value → Shared → Prop}, Q c s → wpAny (model X.prog X.w) (X.A.mark (some (.ref a))) (eval (.Name x q1) X.env) Q E s := fun {Q E} q => by
      obtain ⟨g, gd, m | ⟨m, v, nn⟩⟩ := cl.nm
      · exact ld_glob (X := X.suite a ((a, oe) :: (X.pn ++ pins))) S g m q gd
      · exact ld_blt (X := X.suite a ((a, oe) :: (X.pn ++ pins))) S g m v q nn gd
    refine ask (is.here ?_)
    cases b with
    | false => exact ih G (no rfl)
    | true =>
      refine codeAny_handlers_suite_as (HandSPX.lands_againZ G.fl fun h4 fl4 up4 => ?_)
      obtain ⟨oe4, vs4, he4, hz4, hd4⟩ := fl4.there
      have J4 : Inv X pins σ H { s with heap := h4 } := G.inv.landed G.nb fl4.1 (G.up.trans up4) G.os G.ag
      have S4 := J4.suite he4 hd4 G.na G.nL G.nF
      refine store_ok (X := X.suite a ((a, oe4) :: (X.pn ++ pins))) (v := .ref a) S4 nd cl.hi (.inl cl.lo) rfl (fun s5 S5 => ?_) (.inr cl.lo)
      have run := (cl.su a oe4 cls d (X.pn ++ pins) hz4 ⟨_, hd4⟩).run [] s5 _ H (endsOf D i) S5 (yes rfl a G.na G.inv.len)
      refine wpAny_mono run (fun f s6 out => ?_) (fun _ _ z => z.elim)
      cases f with
      | ret u =>
        obtain ⟨v6, σ6, H6, S6, r6, q6⟩ := out
        exact gone_ok (S6.unsuite G.inv.ok) nd cl.hi cl.lo fun s7 J7 => ⟨v6, _, _, J7, r6, q6⟩
      | next =>
        obtain ⟨σ6, H6, S6, q6⟩ := out
        exact gone_ok (S6.unsuite G.inv.ok) nd cl.hi cl.lo fun s7 J7 => ⟨_, _, J7, q6⟩
      | brk =>
        obtain ⟨σ6, H6, S6, q6⟩ := out
        exact gone_ok (S6.unsuite G.inv.ok) nd cl.hi cl.lo fun s7 J7 => ⟨_, _, J7, q6⟩
      | cont =>
        obtain ⟨σ6, H6, S6, q6⟩ := out
        exact gone_ok (S6.unsuite G.inv.ok) nd cl.hi cl.lo fun s7 J7 => ⟨_, _, J7, q6⟩
end
section
variable {X : Cx} {body : List Stmt} {h0 : ExceptHandler} {hds : List ExceptHandler} {l : List (Value × Nat × Suite)} {pos : Pos} {tb : WX → TS} {Wout : WX}
/-- try: body, except A as e: .., except B as e: .. -/
theorem ps_try_each (hs : X.stack = X.env :: X.outer) (hf : X.env.frame = some X.env.locals) (nd : X.N.Nodup) (tk : Takes X Wout)
    (hb : ∀ (W : WX) (pn : List (Addr × Obj)) (xe : Value → Shared → Prop), Takes (X.tr pn xe) W → PassesOwn (model X.prog X.w) X.A X.env xe → PSs (X.tr pn xe) body (tb W))
    (C : Clauses X (h0 :: hds) l) : PS X (.Try body (h0 :: hds) [] [] pos) (fun D σ H => tb (wEach X.K X.N.length Wout D l) D σ H) := by
  refine ⟨fun pins s σ H D I h => wpAny_Try_except ?_⟩
  have ok := I.ok
  have fr : X.A.frames = some (X.env :: X.outer) := by rw [ok.frames, hs]
  refine wpAny_mono ((hb (wEach X.K X.N.length Wout D l) (X.pn ++ pins) (fun e s1 => wpAny (model X.prog X.w) X.A (noteFrame e X.env) (fun _ s2 => wpAny (model X.prog X.w) X.A (setFlight e none) (fun _ s3 =>
    wpAny (model X.prog X.w) X.A (handleBy e X.env (h0 :: hds)) (SP X pins D) X.xe s3) X.xe s2) X.xe s1) (fun u s' xx => ?_) PassesOwn.looking).run [] s σ H D (I.toTry _) h) (fun f s1 out => ?_) (fun _ _ z => z)
  · obtain ⟨a, B, sI, pins', σ', H', cls, d, rfl, J', nb, up, sky, na, os, ag, w⟩ := xx
    have J : Inv X pins σ' H' sI := J'.ofTry ok
    rw [show (X.tr (X.pn ++ pins) _).stack = X.env :: X.outer from hs] at sky
    refine Sky.land Zc.steady fr hf sky fun h3 fl up3 => ?_
    obtain ⟨oe, vs, he, hz, hd⟩ := fl.there
    have nfr : a ∉ frs (X.env :: X.outer) := fun m => by
      obtain ⟨_, o, eo, no⟩ := fl.2.2.1.mem m
      rw [he] at eo
      cases eo
      exact no _ hd
    refine clauses_run (sI := sI) (B := B) hs hf nd tk C ⟨J, nb, up.trans up3, fl, na, fun z => nfr (List.mem_filterMap.mpr ⟨X.env, List.mem_cons_self, by rw [hf, z]⟩), fun m => ?_, os, ag⟩ w
    obtain ⟨e, me, q⟩ := List.mem_filterMap.mp m
    exact nfr (List.mem_filterMap.mpr ⟨e, List.mem_cons_of_mem _ me, q⟩)
  · cases f with
    | ret u =>
      obtain ⟨v, σ', H', J, r, q⟩ := out
      exact ⟨v, σ', H', J.ofTry ok, r, q⟩
    | next =>
      obtain ⟨σ', H', J, q⟩ := out
      exact wpAny_execs_nil ⟨σ', H', J.ofTry ok, q⟩
    | brk =>
      obtain ⟨σ', H', J, q⟩ := out
      exact ⟨σ', H', J.ofTry ok, q⟩
    | cont =>
      obtain ⟨σ', H', J, q⟩ := out
      exact ⟨σ', H', J.ofTry ok, q⟩
end
end K14
namespace K14
open PySem PySem.W PySem.Calls PyProof.Rows L2 LamX
open He (ga)
open Kz (boot_isi same_new small4 new_ext boot_li boot_in Has pe_has noE X1)
def HasX (P : Program) (w : World) (K : Frag) (mg : Str → Option Value) (base : Heap) (x : Str) (k : Nat) (ps : List Str) (sp : Sp) : Prop := ∃ f fd, mg x = some (.ref f) ∧ keepIn K (.ref f) = true ∧ L2.Binds K fd ps [] ∧ FnOk P w K mg base (L2.CX P w) k f fd ps sp
section
variable {X : Cx} {x : Str} {p pos : Pos} {e : Expr} {es : List Expr} {ps : List Str} {sp : Sp} {k : Nat} {t : TA} {E : XK}
theorem pe_hasX (h : HasX X.prog X.w X.K X.mg X.base x k ps sp) (hr : Room k X.A) (hg : Gl X x) (hx : Passes (L2.CX X.prog X.w) X E) (ha : PA X (e :: es) t) (hdb : (x == ("__debug__" : Str)) = false := by decide) (he : starEach (e :: es) X.env = (false, eval e X.env) :: starEach es X.env := by rfl) (hpl : (backTo pos (starEach es X.env)).any (·.1) = false := by rfl) :
    PE X (.Call (.Name x p) (e :: es) [] pos) (tCall sp [] E t) := by
  obtain ⟨f, fd, h1, h2, h3, h4⟩ := h
  exact pe_call h4 hr hg h1 h2 h3 .nil hx ha hdb he hpl
theorem pss_never {X : Cx} {b : List Stmt} : PSs X b tNever := ⟨fun _ _ _ _ _ _ h => h.elim⟩
end
section
variable {P : Program} {w : World} {K : Frag} {mg : Str → Option Value} {base : Heap}
theorem noX {P : Program} {w : World} {K : Frag} {mg : Str → Option Value} {base : Heap} {N : List Str} {x : Str} {sc : Scope} {f : Addr} {cdv : Value} {A : Around} {outer : List Env} {s : Shared} {H : Hp} {XE : XK} : Passes (L2.CX P w) (cxOf (L2.CX P w) P w K mg base N x sc f cdv A outer s H XE) XE := passes_call (takes_of rfl rfl rfl rfl) (fun _ _ _ _ h => h)
end
end K14
namespace K14
open PySem PySem.W PySem.Calls PyProof.Rows L2 LamX
open He (ga)
open Kz (boot_isi same_new small4 new_ext boot_li boot_in Has pe_has noE X1)
theorem x1_xf {P : Program} {K : Frag} {C : Addr} {f : Str} (T : X1 P K C f) : XfC K C := by
  obtain ⟨fI, qual, params, scope, msg, j, p0, p1, p2, p3, p4, p5, q0, q1, q2, q3, _, T1, _⟩ := T.ex
  exact T1.xf
end K14
namespace K14
open PySem PySem.W PySem.Calls PyProof.Rows L2 LamX
open He (ga)
open Kz (SS ExtS ExtS.trans small4 same_new boot_in boot_li tWhile_split shaped_int dpAll_int seq0 new_ext Has pe_has noE)
/-! ### the spring, for many draws -/
def Spr (H : Hp) (l li : Addr) (c : Int) : Prop := ∃ (ns : List Int) (b d : Int), SS H l li ns b c d ∧ ns.length ≤ 1000
def spDrW : Sp := fun vs H Q _ => ∃ (l li : Addr) (c many : Int), vs = [.ref l, .int many] ∧ Spr H l li c ∧ 0 < many ∧ many < 1073741824 ∧ c < 1000000000 ∧ ∀ (H' : Hp) (r : Int), ExtS l li H H' → Spr H' l li (c + 1) → 0 ≤ r → r < many → Q (.int r) H'
/-! ### all but some objects and the tables of code -/
def Hid (S : List Addr) (H : Hp) : Hp := fun b => if b ∈ S then none else match H b with
  | some (.tbl _) => none
  | o => o
/-- all of them stand -/
def Ins (S : List Addr) (H : Hp) : Prop := ∀ b ∈ S, ∃ o, H b = some o
section
variable {S : List Addr} {l li b : Addr} {H H1 : Hp} {o : HO}
theorem hid_at (h : Hid S H b = some o) : b ∉ S ∧ H b = some o ∧ ∀ ps, o ≠ .tbl ps := by
  unfold Hid at h
  split at h
  · cases h
  · rename_i n
    refine ⟨n, ?_⟩
    split at h
    · cases h
    · rename_i q
      exact ⟨h, fun ps z => q ps (by rw [h, z])⟩
theorem hid_of (h1 : b ∉ S) (h : H b = some o) (n : ∀ ps, o ≠ .tbl ps) : Hid S H b = some o := by
  unfold Hid
  rw [if_neg h1]
  split
  · rename_i ps q
    exact absurd (Option.some.inj (h.symm.trans q)) (n ps)
  · exact h
theorem hid_up : L2.Same (Hid S H) H := fun b o h => (hid_at h).2.1
theorem hid_less {S1 : List Addr} (e : ∀ b ∈ S, b ∈ S1) : L2.Same (Hid S1 H) (Hid S H) := fun b o h => by
  obtain ⟨h1, h2, h3⟩ := hid_at h
  exact hid_of (fun z => h1 (e b z)) h2 h3
theorem hid_same (e : L2.Same H H1) : L2.Same (Hid S H) (Hid S H1) := fun b o h => by
  obtain ⟨h1, h2, h3⟩ := hid_at h
  exact hid_of h1 (e b o h2) h3
theorem hid_upd {a : Addr} {u : HO} (m : a ∈ S) : L2.Same (Hid S H) (Hid S (upd H a u)) := fun b o h => by
  obtain ⟨h1, h2, h3⟩ := hid_at h
  exact hid_of h1 (by rw [upd_ne (fun z => h1 (by rw [z]; exact m))]; exact h2) h3
theorem hid_S (m : l ∈ S) (mi : li ∈ S) (e : ExtS l li H H1) : L2.Same (Hid S H) (Hid S H1) := fun b o h => by
  obtain ⟨h1, h2, h3⟩ := hid_at h
  exact hid_of h1 (e b o h2 (fun z => h1 (by rw [z]; exact m)) (fun z => h1 (by rw [z]; exact mi))) h3
theorem hid_N (e : ExtN H H1) : L2.Same (Hid S H) (Hid S H1) := fun b o h => by
  obtain ⟨h1, h2, h3⟩ := hid_at h
  exact hid_of h1 (e b o h2 h3) h3
theorem Ins.new {p : Addr} (i : Ins S H) (n : H p = none) : p ∉ S := fun m => by
  obtain ⟨o, q⟩ := i p m
  rw [q] at n
  cases n
theorem Ins.same (i : Ins S H) (e : L2.Same H H1) : Ins S H1 := fun b m => by
  obtain ⟨o, q⟩ := i b m
  exact ⟨o, e _ _ q⟩
theorem Ins.cons {p : Addr} (i : Ins S H) (q : H p = some o) : Ins (p :: S) H := fun b m => by
  rcases List.mem_cons.mp m with rfl | m
  · exact ⟨o, q⟩
  · exact i b m
theorem same_S (e : L2.Same H H1) : ExtS l li H H1 := fun b o h _ _ => e b o h
theorem Spr.same {c : Int} (s : Spr H l li c) (e : L2.Same H H1) : Spr H1 l li c := by
  obtain ⟨ns, b, d, s, n⟩ := s
  exact ⟨ns, b, d, ⟨e _ _ s.l1, e _ _ s.l2, s.ne, s.b0, s.c0, s.d0, s.d1⟩, n⟩
theorem Spr.extN {c : Int} (s : Spr H l li c) (e : ExtN H H1) : Spr H1 l li c := by
  obtain ⟨ns, b, d, s, n⟩ := s
  exact ⟨ns, b, d, ⟨e _ _ s.l1 (fun ps z => nomatch z), e _ _ s.l2 (fun ps z => nomatch z), s.ne, s.b0, s.c0, s.d0, s.d1⟩, n⟩
theorem Spr.new {c : Int} (s : Spr H l li c) {p : Addr} (n : H p = none) : p ≠ l ∧ p ≠ li := by
  obtain ⟨ns, b, d, s, _⟩ := s
  exact ⟨Ne.symm (ne_of_none s.l1 n), Ne.symm (ne_of_none s.l2 n)⟩
theorem Spr.ins {c : Int} (s : Spr H l li c) : Ins [l, li] H := fun b m => by
  obtain ⟨ns, b', d, s, _⟩ := s
  rcases List.mem_cons.mp m with rfl | m
  · exact ⟨_, s.l1⟩
  · rw [List.mem_singleton.mp m]
    exact ⟨_, s.l2⟩
theorem ins_S {c : Int} (i : Ins S H) (e : ExtS l li H H1) (s : Spr H1 l li c) : Ins S H1 := fun b m => by
  obtain ⟨o, q⟩ := i b m
  by_cases z : b = l
  · rw [z]
    exact s.ins l (by simp)
  · by_cases y : b = li
    · rw [y]
      exact s.ins li (by simp)
    · exact ⟨o, e b o q z y⟩
theorem Spr.upd {c : Int} {a : Addr} {u : HO} (s : Spr H l li c) (h1 : a ≠ l) (h2 : a ≠ li) : Spr (L2.upd H a u) l li c := by
  obtain ⟨ns, b, d, s, n⟩ := s
  exact ⟨ns, b, d, ⟨by rw [upd_ne h1.symm]; exact s.l1, by rw [upd_ne h2.symm]; exact s.l2, s.ne, s.b0, s.c0, s.d0, s.d1⟩, n⟩
end
end K14
namespace K14
open PySem PySem.W PySem.Calls PyProof.Rows L2 LamX
open He (ga)
open Kz (SS ExtS ExtS.trans small4 same_new boot_in boot_li new_ext Has pe_has noE)
theorem ext_none {l li p : Addr} {H H1 : Hp} (e : ExtS l li H H1) (n : H1 p = none) (h1 : p ≠ l) (h2 : p ≠ li) : H p = none := by
  cases q : H p with
  | none => rfl
  | some o =>
    rw [e p o q h1 h2] at n
    cases n
end K14
namespace K14
open PySem PySem.W PySem.Calls PyProof.Rows L2 LamX
open He (ga)
open Kz (SS ExtS ExtS.trans small4 same_new boot_in boot_li new_ext Has pe_has noE boot_isi)
theorem boot_di : bootBuiltins "dict" = some (.type "dict") := by decide +kernel
/-! ### lists told as tuples, tuples as lists -/
theorem ThAll.snoc {H : Hp} {v : V} {d : PyData} (h : Th H v d) : ∀ {vs : List V} {ds : List PyData}, ThAll H vs ds → ThAll H (vs ++ [v]) (ds ++ [d])
  | _, _, .nil => .cons h .nil
  | _, _, .cons a r => .cons a (r.snoc h)
/-- lists within lists, n deep, no dicts -/
def fitD : Nat → PyData → Bool
  | n + 1, .list xs => decide (xs.length ≤ 1000) && xs.all (fitD n)
  | n + 1, .tuple xs => decide (xs.length ≤ 1000) && xs.all (fitD n)
  | _, .none => true
  | _, .bool _ => true
  | _, .int _ => true
  | _, .str _ => true
  | _, _ => false
def szD : Nat → PyData → Nat
  | n + 1, .list xs => 1 + (xs.map (szD n)).sum
  | n + 1, .tuple xs => 1 + (xs.map (szD n)).sum
  | _, _ => 0
def isD : PyData → Bool
  | .dict _ => true
  | _ => false
theorem is_di {K : Frag} (d : PyData) : kitOne K (.type (tyN d)) (.type "dict") = some (isD d) := by
  cases d <;> rfl
theorem hid_D {S : List Addr} {l li D : Addr} {H H2 : Hp} (m : l ∈ S) (mi : li ∈ S) (n : H D = none) (e : ExtS l li H H2) : L2.Same (Hid S H) (Hid (D :: S) H2) := fun b o h => by
  obtain ⟨h1, h2, h3⟩ := hid_at h
  refine hid_of (fun z => ?_) (e b o h2 (fun z => h1 (by rw [z]; exact m)) (fun z => h1 (by rw [z]; exact mi))) h3
  rcases List.mem_cons.mp z with z | z
  · exact ne_of_none h2 n z
  · exact h1 z
end K14
namespace K14
open PySem PySem.W PySem.Calls PyProof.Rows L2 LamX
open He (ga)
open Kz (small4 same_new boot_in boot_li new_ext Has pe_has noE boot_isi)
open RZ
open LiI
abbrev Nsm : List Str := ["found", "due", "x", "y"]
def fitS : Nat → PyData → Bool
  | n + 1, .list xs => decide (xs.length ≤ 1000) && xs.all (fitS n)
  | n + 1, .tuple xs => decide (xs.length ≤ 1000) && xs.all (fitS n)
  | n + 1, .dict ps => decide (ps.length ≤ 1000) && fitS n (.list (ps.map fun p => .tuple [p.1, p.2]))
  | _, .none => true
  | _, .bool _ => true
  | _, .int _ => true
  | _, .str _ => true
  | _, _ => false
def isLs : PyData → Bool
  | .list _ => true
  | _ => false
def isTu : PyData → Bool
  | .tuple _ => true
  | _ => false
def isIn : PyData → Bool
  | .int _ => true
  | .bool _ => true
  | _ => false
def isBo : PyData → Bool
  | .bool _ => true
  | _ => false
def isAny : PyData → Bool
  | .none => false
  | .str _ => false
  | _ => true
section
variable {K : Frag}
theorem kit_ls (d : PyData) : kitOne K (.type (tyN d)) (.type "list") = some (isLs d) := by cases d <;> rfl
theorem kit_tu (d : PyData) : kitOne K (.type (tyN d)) (.type "tuple") = some (isTu d) := by cases d <;> rfl
theorem kit_in (d : PyData) : kitOne K (.type (tyN d)) (.type "int") = some (isIn d) := by cases d <;> rfl
theorem kit_bo (d : PyData) : kitOne K (.type (tyN d)) (.type "bool") = some (isBo d) := by cases d <;> rfl
theorem kit_an (d : PyData) : kitAny K (.type (tyN d)) [.type "int", .type "list", .type "tuple", .type "dict"] = some (isAny d) := by cases d <;> rfl
theorem walk_zipT {a b : Addr} {xs ys : List V} {n : Nat} (hn : n = min xs.length ys.length) : Walk (ItzT K a b) n (fun H => SqT K H a xs ∧ SqT K H b ys) (YPair (fun i => xs[i]?) (fun i => ys[i]?)) := by
  subst hn
  refine ⟨fun i _ hi q => ?_, fun _ q => ⟨xs, ys, q.1, q.2, by omega⟩, fun i H v H' _ q ⟨T, x, z, h1, h2, h3, h4, h5⟩ => ⟨T, x, z, h1, h2, h3, h4 xs q.1, h5 ys q.2⟩⟩
  have l1 : i < xs.length := by omega
  have l2 : i < ys.length := by omega
  exact ⟨xs, ys, xs[i], ys[i], q.1, q.2, by simp [l1], by simp [l2]⟩
end
theorem th_key {H : Hp} : ∀ k : Key, Th H (kV k) (kd k)
  | .inl i => .int i
  | .inr x => .str x
theorem th_items {H H' : Hp} (e : L2.Same H H') : ∀ {ts : List Addr} {kvs : List (Key × V)} {ps : List (PyData × PyData)}, Paired (fun (t : Addr) (q : Key × V) => H' t = some (.tup [kV q.1, q.2])) ts kvs → ThKv H kvs ps → ThAll H' (ts.map V.ref) (ps.map fun p => .tuple [p.1, p.2])
  | _, _, _, .nil, .nil => .nil
  | _, _, _, .cons h r, .cons t q => .cons (.tup h (.cons (th_key _) (.cons (t.ext e) .nil))) (th_items e r q)
section
variable {P : Program} {w : World} {K : Frag} {mg : Str → Option Value} {base : Heap}
def spSm (n : Nat) : Sp := fun vs H Q _ => ∃ (v u : V) (d : PyData), vs = [v, u] ∧ Th H v d ∧ Th H u d ∧ fitS n d = true ∧ ∀ H', L2.Same H H' → Q (.bl true) H'
theorem sm_len {n : Nat} {vs : List V} {H : Hp} {Q : VK} {E : XK} (h : spSm n vs H Q E) : vs.length = 2 := by
  obtain ⟨v, u, d, rfl, _⟩ := h
  rfl
/-- what is asked of the builtins -/
structure BtK (mg : Str → Option Value) : Prop where
  is : mg "isinstance" = none
  li : mg "list" = none
  tu : mg "tuple" = none
  di : mg "dict" = none
  it : mg "int" = none
  bo : mg "bool" = none
  ln : mg "len" = none
  al : mg "all" = none
  zi : mg "zip" = none
end
end K14
namespace K14.EnT
open PySem PySem.W PySem.Calls PyProof.Rows L2
/-! ### enumerate over a tuple, one argument -/
theorem meets_one {src : Value} {ob : Obj} {Hs : Heap → Prop} (B : Begins src ob Hs) :
    Meets (Builtin.«enumerate.__new__» ⟨[.type "enumerate", src], []⟩) (fun _ R z => Hs z.heap ∧
      R (.ok (.ret (.ref (z.heap.push ob).objs.size)))
        { z with heap := (z.heap.push ob).push { cls := .type "enumerate", data := .fields #[.none, .bool false, .ref z.heap.objs.size, rawInt 0, .none, .none] } }) :=
  .of_wp fun pr wo Ar R z hz => by
    obtain ⟨hp, gs, dr, tk, os⟩ := z
    obtain ⟨b1, b2⟩ := hz
    have sub1 := sub_enumerate
    have it1 : ∀ {Ar' : Around} {E' : Value → Shared → Prop} {Q' : Value → Shared → Prop}, Q' (.ref hp.objs.size) ⟨hp.push ob, gs, dr, tk, os⟩ → wpAny (model pr wo) Ar' (pyIter src) Q' E' ⟨hp, gs, dr, tk, os⟩ := fun q' => B.iter pr wo _ _ ⟨hp, gs, dr, tk, os⟩ _ b1 q'
    wp_walk using it1
    refine wpAny_stack_any fun st1 => wpAny_pure ?_
    split
    · rename_i cx _ _ _ _ _
      cases (cx == Value.type "enumerate")
      · wp_walk using it1
        exact ⟨_, rfl, b2⟩
      · wp_walk using it1
        exact ⟨_, rfl, b2⟩
    · wp_walk using it1
      exact ⟨_, rfl, b2⟩
section
variable {pr : Program} {wo : World} {Ar : Around} {E' : Value → Shared → Prop} {z : Shared}
theorem new_enum {src : Value} {ob : Obj} {Hs : Heap → Prop} {Q' : Value → Shared → Prop} (B : Begins src ob Hs) (b1 : Hs z.heap)
    (k : ∀ g, IsEnum g (z.heap.objs.size + 1) z.heap.objs.size 0 .none → g.get? z.heap.objs.size = some ob → g.objs.size = z.heap.objs.size + 2 → (∀ b o, z.heap.get? b = some o → g.get? b = some o) → Q' (.ref (z.heap.objs.size + 1)) { z with heap := g }) :
    wpAny (model pr wo) Ar (call (.type "enumerate") [src]) Q' E' z := by
  refine callType_new F.called_enumerate (by decide) (F.typeCall_enumerate_1 _) (F.newCall_enumerate_1 _) (fun obj => F.args_object_init_2 obj _) F.entry_enumerate_new (meets_one B) ⟨b1, ?_⟩
  have sz : (z.heap.push ob).objs.size = z.heap.objs.size + 1 := Heap.size_push ..
  show _ ∧ _
  rw [sz]
  have en : IsEnum ((z.heap.push ob).push { cls := .type "enumerate", data := .fields #[.none, .bool false, .ref z.heap.objs.size, rawInt 0, .none, .none] }) (z.heap.objs.size + 1) z.heap.objs.size 0 .none := by
    have q := Heap.get?_push_size (z.heap.push ob) (o := { cls := .type "enumerate", data := .fields #[.none, .bool false, .ref z.heap.objs.size, rawInt 0, .none, .none] }) rfl
    rw [sz] at q
    exact q
  exact ⟨⟨_, en, rfl⟩, k _ en (Heap.get?_push_of_some _ (Heap.get?_push_size _ B.free)) (by rw [Heap.size_push, sz]) fun b o q => Heap.get?_push_of_some _ (Heap.get?_push_of_some _ q)⟩
end
def IteT (K : Frag) (a : Addr) : It :=
  ⟨fun j G => ∃ (vs : List V) (y : V), SqT K G a vs ∧ vs[j]? = some y, fun j G r G' => ∃ T y, r = .ref T ∧ G T = none ∧ G' = upd G T (.tup [.int (j : Nat), y]) ∧ ∀ vs, SqT K G a vs → vs[j]? = some y, fun j G => ∃ vs : List V, SqT K G a vs ∧ vs.length = j⟩
theorem turn_enT {P : Program} {w : World} {K : Frag} {elts : List Expr} {kk : Nat} {tpos : Pos} (a e it : Addr) :
    Turn P w K (.Tuple elts kk tpos) (IteT K a) [e, it] e (fun j g => (∃ prev, IsEnum g e it ((j : Nat) : Int) prev) ∧ g.IsTupleIter it a j ∧ e ≠ it ∧ e ≠ a ∧ a ≠ it) where
  mem := by simp
  obj := fun j g st b hb => by
    obtain ⟨⟨prev, en⟩, ⟨o, ho, hc, hd⟩, _⟩ := st
    have c2 : b = e ∨ b = it := by simpa using hb
    rcases c2 with q | q
    · rw [q]
      exact ⟨_, en, fun v y => nomatch y⟩
    · rw [q]
      exact ⟨o, ho, fun v y => by rw [hd] at y; cases y⟩
  keep := fun j g g' st k => by
    obtain ⟨⟨prev, en⟩, ti, r⟩ := st
    exact ⟨⟨prev, k e (by simp) _ en⟩, ti.at fun o q => k it (by simp) o q, r⟩
  item := by
    intro X hP hw hK hc j pins s σ H E I fp st hg
    subst hP hw hK
    obtain ⟨⟨prev, en⟩, ti, n1, n2, n3⟩ := st
    obtain ⟨vs, y, hq, hy⟩ := hg
    obtain ⟨its, rv, p, _⟩ := I.tuple hq
    obtain ⟨u, hu, ru⟩ := rv.get hy
    have le : e < s.heap.objs.size := Heap.lt_size en
    have li : it < s.heap.objs.size := by
      obtain ⟨_, q, _⟩ := ti
      exact Heap.lt_size q
    have jl : j < its.toArray.size := by
      have := (List.getElem?_eq_some_iff.mp hu).1
      simpa using this
    refine wpAny_pyNext_enum_itemD (Draws.tuple (prog := X.prog) (w := X.w) (A := X.A.in1) (show X.A.in1.handled = none from I.ok.hd hc) it a n3 its.toArray) en ⟨ti, p⟩ jl n1 (by simp [n1, n2]) fun x g tk hx eo tg hT sz hk => ?_
    obtain rfl : x = u := by
      have hx : its.toArray[j]? = some x := hx
      rw [List.getElem?_toArray, hu] at hx
      exact (Option.some.inj hx).symm
    refine ⟨_, rfl, wpAny_letOwnedTupleGo_enum (s := { s with heap := g, toks := tk + 1 }) eo fun g2 en2 sb => ?_⟩
    have hT2 : g2.get? s.heap.objs.size = some { cls := .type "tuple", data := .seq #[.int j tk, x] } := (sb.2 _ (Nat.ne_of_gt le)).trans hT
    have ok2 : ObjOk X.prog X.w (upd H s.heap.objs.size (.tup [.int (j : Nat), y])) g2 s.heap.objs.size (.tup [.int (j : Nat), y]) :=
      ⟨by show 2 ≤ sizeLine; decide, [.int j tk, x], .cons ⟨_, rfl⟩ (.cons ru .nil), ⟨_, hT2, rfl, _, rfl⟩⟩
    have I2 : Inv X pins σ (upd H s.heap.objs.size (.tup [.int (j : Nat), y])) { s with heap := g2, toks := tk + 1 } :=
      I.turnedNew (ch := [e, it]) (fun b ob hb q => (sb.2 b (fun y => hb (by simp [y]))).trans (hk b ob (fun y => hb (by simp [y])) (fun y => hb (by simp [y])) q)) fp (Nat.le_refl _) ok2
    refine ⟨.ref s.heap.objs.size, _, I2, rfl, ⟨_, y, rfl, I.hok.fresh (Nat.le_refl _), rfl, fun ys h => by rw [I.tuple_inj h hq]; exact hy⟩, ⟨⟨x, ?_⟩, tg.1.at fun o q => (sb.2 it (Ne.symm n1)).trans q, n1, n2, n3⟩, fun b hb => ?_⟩
    · have c1 : ((j + 1 : Nat) : Int) = (j : Int) + 1 := by omega
      rw [c1]
      exact en2
    · have c2 : b < s.heap.objs.size := by
        have c3 : b = e ∨ b = it := by simpa using hb
        rcases c3 with q | q
        · rw [q]; exact le
        · rw [q]; exact li
      rw [upd_ne (Nat.ne_of_lt c2)]
      exact (fp b hb).1
  done := by
    intro X hP hw hK hc j pins s σ H E I fp st hg
    subst hP hw hK
    obtain ⟨⟨prev, en⟩, ti, n1, n2, n3⟩ := st
    obtain ⟨vs, hq, hl⟩ := hg
    obtain ⟨its, rv, p, _⟩ := I.tuple hq
    obtain ⟨f0, f1, f2, f3, f4, f5⟩ := fp it (by simp)
    have el := rv.length
    have ej : j = its.toArray.size := by
      rw [List.size_toArray, ← el]
      exact hl.symm
    rw [ej] at ti
    exact wpAny_pyNext_enum_endD (Draws.tuple (prog := X.prog) (w := X.w) (A := X.A.in1) (show X.A.in1.handled = none from I.ok.hd hc) it a n3 its.toArray) en ⟨ti, p⟩ fun g eb => ⟨rfl, I.turned (t' := s.toks) (fun b o hb q => eb b o hb q) f0 f1 f3 f4 f5⟩
  self := fun Ar j s Q E st k => by
    obtain ⟨⟨_, en⟩, _⟩ := st
    exact wpAny_pyIter_enum en k
theorem walk_enT {K : Frag} {a : Addr} {xs : List V} : Walk (IteT K a) xs.length (fun G => SqT K G a xs) (YPair (fun j => some (.int (j : Nat))) (fun j => xs[j]?)) := by
  refine ⟨fun j _ hj q => ⟨xs, xs[j], q, by simp [hj]⟩, fun _ q => ⟨xs, q, rfl⟩, fun j G r G' _ q y => ?_⟩
  obtain ⟨T, x, h1, h2, h3, h4⟩ := y
  exact ⟨T, .int (j : Nat), x, h1, h2, h3, rfl, h4 xs q⟩
/-- enumerate of a list or of a tuple -/
def iEnB (K : Frag) (ta : TA) : TI := fun σ H R => ta σ H fun vs G => ∃ a xs, vs = [.ref a] ∧ ((SqL K G a xs ∧ R (Ite K a) G) ∨ (SqT K G a xs ∧ R (IteT K a) G))
theorem pi_enB {X : Cx} {e : Expr} {ta : TA} {p pos tpos : Pos} {elts : List Expr} {kk : Nat} (hg : Gl X "enumerate") (hm : X.mg "enumerate" = none) (ha : PA X [e] ta) (hs : starEach [e] X.env = [(false, eval e X.env)] := by rfl) :
    PI X (.Tuple elts kk tpos) (.Call (.Name "enumerate" p) [e] [] pos) (iEnB X.K ta) := by
  refine ⟨fun pins s σ H R I h => ?_⟩
  refine Call_ (ld_blt I hg hm boot_enumerate (PyProof.Rows.callWith_type1 (thn (ha.run pos pins s σ H _ I h) fun us z ⟨vs, G, J, r1, q1⟩ => ?_) hs rfl))
  obtain ⟨a, xs, ex, q1⟩ := q1
  subst ex
  cases r1 with
  | cons r rr =>
    cases rr
    cases r
    have big : ∀ b, b ∈ [z.heap.objs.size + 1, z.heap.objs.size] → z.heap.objs.size ≤ b := fun b hb => by
      have c3 : b = z.heap.objs.size + 1 ∨ b = z.heap.objs.size := by simpa using hb
      rcases c3 with q | q
      · rw [q]; exact Nat.le_add_right _ _
      · rw [q]; exact Nat.le_refl _
    rcases q1 with ⟨hq, q⟩ | ⟨hq, q⟩
    · obtain ⟨its, rv, p', _⟩ := J.list hq
      refine call_enumerate_list p'.isList fun g en li sz hk => wpAny_pyIter_enum en ?_
      exact ⟨z.heap.objs.size + 1, [z.heap.objs.size + 1, z.heap.objs.size], _, _, G, rfl, J.kept (t' := z.toks) hk, turn_enum a (z.heap.objs.size + 1) z.heap.objs.size, ⟨⟨.none, en⟩, li, Nat.succ_ne_self _⟩, fun b hb => J.fpOk (big b hb) (J.hok.fresh (big b hb)), q⟩
    · obtain ⟨its, rv, p', _⟩ := J.tuple hq
      have la : a < z.heap.objs.size := by
        obtain ⟨_, q, _⟩ := p'
        exact Heap.lt_size q
      refine new_enum (begins_tuple a its.toArray) p' fun g en ob sz hk => wpAny_pyIter_enum en ?_
      exact ⟨z.heap.objs.size + 1, [z.heap.objs.size + 1, z.heap.objs.size], _, _, G, rfl, J.kept (t' := z.toks) hk, turn_enT a (z.heap.objs.size + 1) z.heap.objs.size, ⟨⟨.none, en⟩, ⟨_, ob, rfl, rfl⟩, Nat.succ_ne_self _, Nat.ne_of_gt (Nat.lt_succ_of_lt la), Nat.ne_of_lt la⟩, fun b hb => J.fpOk (big b hb) (J.hok.fresh (big b hb)), q⟩
end K14.EnT
namespace K14.Gn
open PySem PySem.W PySem.Calls PyProof.Rows L2 LamX
open Kz (same_new small4)
/-! ### going over a list or a tuple -/
def iSq (K : Frag) (tl : TE) : TI := fun σ H R => iList K tl σ H R ∨ iTup K tl σ H R
theorem pi_sq {X : Cx} {tg e : Expr} {tl : TE} (h : PE X e tl) : PI X tg e (iSq X.K tl) := pi_or (pi_list h) (pi_tup h)
/-- a comprehension over data, each element a truth that is told by the item -/
theorem lc_bl {K : Frag} {k : Nat} {v : V} {d : PyData} {σ : L2.St} {H : Hp} {tl te : TE} {vs : List Nat} {b : PyData → Bool} {Q : VK} (ht : ∀ R : VK, R v H → tl σ H R) (t : Th H v d) (l : isL d = true) (len : (its d).length ≤ 100000)
    (hw : ∀ x : V, wipe ((wipe σ vs).set k (some x)) vs = wipe σ vs)
    (hs : ∀ (j : Nat) (z : PyData) (x : V) (G : Hp) (Q' : VK), (its d)[j]? = some z → L2.Same H G → Th G x z → (∀ G', L2.Same G G' → Q' (.bl (b z)) G') → te ((wipe σ vs).set k (some x)) G Q')
    (hq : ∀ (G : Hp) (D : Addr), L2.Same H G → G D = some (.lst ((its d).map fun z => V.bl (b z))) → Q (.ref D) G) : tLc (iSq K tl) (gName k) tYes te vs σ H Q := by
  obtain ⟨a, xs, rfl, r, hx⟩ := t.seq (K := K) l
  have lx : xs.length = (its d).length := r.length
  have step : ∀ (D : Addr), H D = none → ∀ (i : Nat) (x : V) (H2 : Hp), xs[i]? = some x → (L2.Same H H2 ∧ H2 D = some (.lst (((its d).take i).map fun z => V.bl (b z)))) →
      (wipe ((wipe σ vs).set k (some x)) vs = wipe σ vs ∧ tYes ((wipe σ vs).set k (some x)) H2 fun c H3 => if c = true then te ((wipe σ vs).set k (some x)) H3 fun y H4 => ∃ acc, H4 D = some (.lst acc) ∧ acc.length < sizeLine ∧ (L2.Same H (upd H4 D (.lst (acc ++ [y]))) ∧ (upd H4 D (.lst (acc ++ [y]))) D = some (.lst (((its d).take (i + 1)).map fun z => V.bl (b z)))) else
        (L2.Same H H3 ∧ H3 D = some (.lst (((its d).take (i + 1)).map fun z => V.bl (b z))))) := by
    intro D hD i x H2 hi ⟨S, hA⟩
    obtain ⟨z, hz, tz⟩ := r.get hi
    refine ⟨hw x, ?_⟩
    unfold tYes
    show (if true = true then _ else _)
    rw [if_pos rfl]
    refine hs i z x H2 _ hz S (tz.ext S) fun H4 s4 => ⟨_, s4 _ _ hA, ?_, fun c o e => ?_, ?_⟩
    · rw [List.length_map, List.length_take, sizeLine_eq]
      omega
    · rw [upd_ne (ne_of_none e hD)]
      exact s4 _ _ (S _ _ e)
    · rw [upd_same]
      have et : (its d).take (i + 1) = (its d).take i ++ [z] := by
        rw [List.take_add_one, hz]
        rfl
      rw [et, List.map_append]
      rfl
  have fin : ∀ (D : Addr) (H2 : Hp), (L2.Same H H2 ∧ H2 D = some (.lst (((its d).take xs.length).map fun z => V.bl (b z)))) → Q (.ref D) H2 := fun D H2 ⟨S, hA⟩ => by
    rw [lx, List.take_length] at hA
    exact hq H2 D S hA
  rcases hx with hx | hx
  · exact .inl (ht _ ⟨a, rfl, ⟨xs, .inl (.inl hx)⟩, fun D hD => lc_list (xs := xs) (fun i H2 => L2.Same H H2 ∧ H2 D = some (.lst (((its d).take i).map fun z => V.bl (b z)))) ⟨same_new hD, upd_same⟩ (fun i H2 _ e => .inl (.inl (e.1 _ _ hx))) (fun i x H2 hi e => step D hD i x H2 hi e) (fun H2 e => fin D H2 e)⟩)
  · exact .inr (ht _ ⟨a, rfl, ⟨xs, .inl (.inl hx)⟩, fun D hD => lc_tup (xs := xs) (fun i H2 => L2.Same H H2 ∧ H2 D = some (.lst (((its d).take i).map fun z => V.bl (b z)))) ⟨same_new hD, upd_same⟩ (fun i H2 _ e => .inl (.inl (e.1 _ _ hx))) (fun i x H2 hi e => step D hD i x H2 hi e) (fun H2 e => fin D H2 e)⟩)
theorem lc_all {K : Frag} {k : Nat} {v : V} {d : PyData} {σ : L2.St} {H : Hp} {tl te : TE} {vs : List Nat} (b : PyData → Bool) {Q : VK} (ht : ∀ R : VK, R v H → tl σ H R) (t : Th H v d) (l : isL d = true) (len : (its d).length ≤ 100000)
    (hw : ∀ x : V, wipe ((wipe σ vs).set k (some x)) vs = wipe σ vs)
    (hs : ∀ (j : Nat) (z : PyData) (x : V) (G : Hp) (Q' : VK), (its d)[j]? = some z → L2.Same H G → Th G x z → (∀ G', L2.Same G G' → Q' (.bl (b z)) G') → te ((wipe σ vs).set k (some x)) G Q')
    (hq : ∀ G : Hp, L2.Same H G → Q (.bl ((its d).all b)) G) : tCB (rAll K) (tCons (tLc (iSq K tl) (gName k) tYes te vs) tNil) σ H Q := by
  unfold tCB tCons tNil
  exact lc_bl (b := b) ht t l len hw hs fun G D S hA => ⟨D, (its d).map b, rfl, .inl (.inl (by rw [List.map_map]; exact hA)), by rw [List.all_map]; exact hq G S⟩
/-- for j, y in enumerate(data) -/
theorem for_en {K : Frag} {i1 i2 : Nat} {v : V} {d : PyData} {σ : L2.St} {H H0 : Hp} {tl : TE} {tb : TS} {D : Ends} (ht : ∀ R : VK, R v H → tl σ H R) (t : Th H0 v d) (l : isL d = true) (Pv : Nat → L2.St → Hp → Prop) (h0 : Pv 0 σ H) (hx : ∀ j σ G, Pv j σ G → L2.Same H0 G)
    (hs : ∀ (j : Nat) (z : PyData) (x : V) (σ' : L2.St) (G : Hp), (its d)[j]? = some z → Th G x z → Pv j σ' G → ∀ G', L2.Same G G' → tb { nx := Pv (j + 1), rt := D.rt, bk := D.nx, ct := Pv (j + 1) } ((σ'.set i1 (some (.int (j : Nat)))).set i2 (some x)) G')
    (hd : ∀ σ' G, Pv (its d).length σ' G → D.nx σ' G) : tFor (EnT.iEnB K (tCons tl tNil)) (gTup K 2 (gCons (gName i1) (gCons (gName i2) gNil))) tb D σ H := by
  obtain ⟨a, xs, rfl, r, hq⟩ := t.seq (K := K) l
  have lx : xs.length = (its d).length := r.length
  have go : ∀ (j : Nat) (x : V) (σ' : L2.St) (G G' : Hp), j < xs.length → Pv j σ' G → YPair (fun j => some (.int (j : Nat))) (fun j => xs[j]?) j G x G' → gTup K 2 (gCons (gName i1) (gCons (gName i2) gNil)) x σ' G' fun σ2 H2 => tb { nx := Pv (j + 1), rt := D.rt, bk := D.nx, ct := Pv (j + 1) } σ2 H2 := by
    intro j x σ' G G' hj hp ⟨T, p, y, ex, nT, eG, ep, ey⟩
    obtain ⟨z, hz, tz⟩ := r.get ey
    subst ex eG
    obtain rfl : V.int (j : Nat) = p := Option.some.inj ep
    refine ⟨T, _, rfl, .inl (.inl upd_same), rfl, _, _, rfl, _, _, rfl, rfl, ?_⟩
    exact hs j z y σ' G hz (tz.ext (hx j σ' G hp)) hp _ (same_new nT)
  refine ht _ ⟨a, xs, rfl, ?_⟩
  have q0 := hx 0 σ H h0
  rcases hq with hq | hq
  · exact .inl ⟨.inl (.inl (q0 _ _ hq)), for_it walk_enum Pv h0 (fun j σ' G _ p => .inl (.inl (hx j σ' G p _ _ hq))) go (fun σ' G p => hd σ' G (by rw [← lx]; exact p))⟩
  · exact .inr ⟨.inl (.inl (q0 _ _ hq)), for_it EnT.walk_enT Pv h0 (fun j σ' G _ p => .inl (.inl (hx j σ' G p _ _ hq))) go (fun σ' G p => hd σ' G (by rw [← lx]; exact p))⟩
theorem nx_intro {nx bk ct : L2.St → Hp → Prop} {rt : VK} {σ : L2.St} {H : Hp} (h : nx σ H) : Ends.nx { nx := nx, rt := rt, bk := bk, ct := ct } σ H := h
theorem gset {i : Nat} {v : V} {σ : L2.St} {H : Hp} {Q : L2.St → Hp → Prop} (h : Q (List.set σ i (some v)) H) : gName i v σ H Q := h
theorem for_enS {K : Frag} {i1 i2 : Nat} {v : V} {d : PyData} {σ : L2.St} {H H0 : Hp} {tl : TE} {tb u : TS} {D : Ends} (ht : ∀ R : VK, R v H → tl σ H R) (t : Th H0 v d) (l : isL d = true) (Pv : Nat → L2.St → Hp → Prop) (h0 : Pv 0 σ H) (hx : ∀ j σ G, Pv j σ G → L2.Same H0 G)
    (hs : ∀ (j : Nat) (z : PyData) (x : V) (σ' : L2.St) (G : Hp), (its d)[j]? = some z → Th G x z → Pv j σ' G → ∀ G', L2.Same G G' → tb { nx := Pv (j + 1), rt := D.rt, bk := u D, ct := Pv (j + 1) } ((σ'.set i1 (some (.int (j : Nat)))).set i2 (some x)) G')
    (hd : ∀ σ' G, Pv (its d).length σ' G → u D σ' G) : tSeq (tFor (EnT.iEnB K (tCons tl tNil)) (gTup K 2 (gCons (gName i1) (gCons (gName i2) gNil))) tb) u D σ H :=
  for_en (D := { nx := u D, rt := D.rt, bk := D.bk, ct := D.ct }) ht t l Pv h0 hx hs hd
theorem for_sqS {K : Frag} {i : Nat} {v : V} {d : PyData} {σ : L2.St} {H H0 : Hp} {tl : TE} {tb u : TS} {D : Ends} (ht : ∀ R : VK, R v H → tl σ H R) (t : Th H0 v d) (l : isL d = true) (Pv : Nat → L2.St → Hp → Prop) (h0 : Pv 0 σ H) (hx : ∀ j σ G, Pv j σ G → L2.Same H0 G)
    (hs : ∀ (j : Nat) (z : PyData) (x : V) (σ' : L2.St) (G : Hp), (its d)[j]? = some z → Th G x z → Th H0 x z → Pv j σ' G → tb { nx := Pv (j + 1), rt := D.rt, bk := u D, ct := Pv (j + 1) } (σ'.set i (some x)) G)
    (hd : ∀ σ' G, Pv (its d).length σ' G → u D σ' G) : tSeq (tFor (iSq K tl) (gName i) tb) u D σ H := by
  obtain ⟨a, xs, rfl, r, hq⟩ := t.seq (K := K) l
  have lx : xs.length = (its d).length := r.length
  have go : ∀ (j : Nat) (x : V) (σ' : L2.St) (G G' : Hp), j < xs.length → Pv j σ' G → YAt xs j G x G' → gName i x σ' G' fun σ2 H2 => tb { nx := Pv (j + 1), rt := D.rt, bk := u D, ct := Pv (j + 1) } σ2 H2 := by
    intro j x σ' G G' hj hp ⟨eG, ey⟩
    obtain ⟨z, hz, tz⟩ := r.get ey
    subst eG
    exact hs j z x σ' _ hz (tz.ext (hx j σ' _ hp)) tz hp
  have q0 := hx 0 σ H h0
  unfold tSeq tFor
  rcases hq with hq | hq
  · exact .inl (ht _ ⟨a, rfl, ⟨xs, .inl (.inl (q0 _ _ hq))⟩, for_it (D := { nx := u D, rt := D.rt, bk := D.bk, ct := D.ct }) walk_list Pv h0 (fun j σ' G _ p => .inl (.inl (hx j σ' G p _ _ hq))) go (fun σ' G p => hd σ' G (by rw [← lx]; exact p))⟩)
  · exact .inr (ht _ ⟨a, rfl, ⟨xs, .inl (.inl (q0 _ _ hq))⟩, for_it (D := { nx := u D, rt := D.rt, bk := D.bk, ct := D.ct }) walk_tup Pv h0 (fun j σ' G _ p => .inl (.inl (hx j σ' G p _ _ hq))) go (fun σ' G p => hd σ' G (by rw [← lx]; exact p))⟩)
theorem drop_get {ds : List PyData} {j : Nat} {z : PyData} (h : ds[j]? = some z) : ds.drop j = z :: ds.drop (j + 1) := by
  obtain ⟨hl, e⟩ := List.getElem?_eq_some_iff.mp h
  rw [List.drop_eq_getElem_cons hl, e]
end K14.Gn
namespace K14.T27
open PySem PySem.W PySem.Calls PyProof.Rows L2 LamX
open He (ga)
open Kz (small4 same_new boot_in boot_li boot_isi Has pe_has noE)
open K14.Gn
def stOf (s : Stmt) (i : Nat) : Stmt := (defBody s).getD i (.Pass ⟨0, 0, 0, 0⟩)
def letters : Str := "abcdefghijklmnopqrstuvwxyz"
def signs : Str := "abcdefghijklmnopqrstuvwxyz0123456789"
def kept : List Str := ["x", "y", "stop", "join", "loop", "use", "part", "net", "to", "shut"]
def bnB (s : Str) : Bool := match s.cps.toList with
  | [] => false
  | c :: r => decide (s.length ≤ 8) && (decide (c ∈ letters.cps.toList) && (c :: r).all fun c => decide (c ∈ signs.cps.toList))
def isSt : PyData → Bool
  | .str _ => true
  | _ => false
def keptB (s : Str) : Bool := (kept.map V.str).any fun y => eqV y (.str s)
def nameB : PyData → Bool
  | .str s => bnB s && !keptB s
  | _ => false
theorem is_st {K : Frag} (d : PyData) : kitOne K (.type (tyN d)) (.type "str") = some (isSt d) := by cases d <;> rfl
theorem boot_st : bootBuiltins "str" = some (.type "str") := by decide +kernel
/-- the program's own names -/
structure NmK (K : Frag) (mg : Str → Option Value) : Prop where
  ll : ∃ t, mg "LETTERS" = some (.str letters t)
  ns : ∃ t, mg "NAME_SIGNS" = some (.str signs t)
  ln : ∃ t, mg "LONGEST_NAME" = some (.int 8 t)
  kp : ∃ a, mg "KEPT" = some (.ref a) ∧ ∀ H : Hp, SqT K H a (kept.map V.str)
  len : mg "len" = none
  all : mg "all" = none
  isi : mg "isinstance" = none
  str : mg "str" = none
  enu : mg "enumerate" = none
section
variable {P : Program} {w : World} {K : Frag} {mg : Str → Option Value} {base : Heap}
def spBn : Sp := fun vs H Q _ => ∃ s : Str, vs = [.str s] ∧ s.length ≤ 100000 ∧ ∀ H', L2.Same H H' → Q (.bl (bnB s)) H'
def spNm : Sp := fun vs H Q _ => ∃ (v : V) (d : PyData), vs = [v] ∧ Th H v d ∧ (∀ s, d = .str s → s.length ≤ 100000) ∧ ∀ H', L2.Same H H' → Q (.bl (nameB d)) H'
/-! ### the first that is no end -/
def fneL : List PyData → List Str → Nat → Option Nat
  | [], _, _ => none
  | .str s :: r, st, j => if (nameB (.str s) && !st.contains s) = true then fneL r (st ++ [s]) (j + 1) else some j
  | _ :: _, _, j => some j
def fne (d : PyData) : Option Nat := if isL d = true then fneL (its d) [] 0 else some 0
def oV : Option Nat → V
  | none => .non
  | some j => .int (j : Nat)
def spFn : Sp := fun vs H Q _ => ∃ (v : V) (d : PyData), vs = [v] ∧ Th H v d ∧ (its d).length ≤ 1000 ∧ (∀ s, .str s ∈ its d → s.length ≤ 100000) ∧ ∀ H', L2.Same H H' → Q (oV (fne d)) H'
def forBody : Stmt → List Stmt
  | .For _ _ b .. => b
  | _ => []
end
end K14.T27
namespace K14.T27
open PySem PySem.W PySem.Calls PyProof.Rows L2 LamX
open He (ga)
open Kz (small4 same_new boot_in boot_li boot_isi Has pe_has noE X1 PSs.of_eq)
open K14.Gn
/-! ### check_ends -/
/-- the error of the class C that holds v, in the field f, is let out -/
def SaysF (C : Addr) (f : Str) (v : V) (H : Hp) (E : XK) : Prop := ∀ (H' : Hp) (dx : Addr), L2.Same H H' → H' dx = some (.xd [(f, v)]) → E (.ref C) (some dx) H'
def EndsOk (H : Hp) (v : V) (d : PyData) : Prop := Th H v d ∧ (its d).length ≤ 1000 ∧ ∀ s, .str s ∈ its d → s.length ≤ 100000
section
variable {P : Program} {w : World} {K : Frag} {mg : Str → Option Value} {base : Heap}
def spCk : Sp := fun vs H Q _ => ∃ (v : V) (d : PyData), vs = [v] ∧ EndsOk H v d ∧ fne d = none ∧ ∀ H', L2.Same H H' → Q .non H'
def spCkX (K : Frag) : Sp := fun vs H Q E => ∃ (v : V) (d : PyData) (j : Nat), vs = [v] ∧ EndsOk H v d ∧ fne d = some j ∧ SaysF (ga K "BadEnds") "index" (.int (j : Nat)) H E
end
end K14.T27
namespace K14.T27
open PySem PySem.W PySem.Calls PyProof.Rows L2 LamX
open He (ga)
open Kz (small4 same_new boot_in boot_li boot_isi Has pe_has noE PSs.of_eq shaped_int dpAll_int)
open K14.Gn
/-! ### boxes apart -/
theorem th_cut {K : Frag} {H : Hp} {v : V} {d : PyData} {m : Nat} {Q : VK} (t : Th H v d) (l : isL d = true) (hm : m ≤ (its d).length) (k : ∀ (y : V) (G : Hp) (d' : PyData), L2.Same H G → Th G y d' → isL d' = true → its d' = (its d).take m → Q y G) :
    rSlL K v none (some (m : Int)) H Q ∨ rSlA K v none (some (m : Int)) H Q := by
  obtain ⟨a, xs, rfl, r, hx⟩ := t.seq (K := K) l
  have lx := r.length
  have cut : cutV xs none (some (m : Int)) = xs.take m := cutV_take (by omega)
  have rt : ThAll H (xs.take m) ((its d).take m) := by
    clear cut hx lx hm k t
    generalize its d = ds at r
    induction m generalizing xs ds with
    | zero => exact .nil
    | succ m ih =>
      cases r with
      | nil => exact .nil
      | cons h1 h2 => exact .cons h1 (ih _ _ h2)
  rcases hx with hx | hx
  · refine .inl ⟨a, xs, rfl, .inl (.inl hx), fun p np => ?_⟩
    rw [cut]
    exact k _ _ (.list ((its d).take m)) (same_new np) (.lst upd_same (rt.ext (same_new np))) rfl rfl
  · refine .inr ⟨a, xs, rfl, .inl (.inl hx), fun hw => ?_, fun _ p np => ?_⟩
    · have e : xs.take m = xs := by
        rw [← cut]
        unfold cutV
        rw [hw.1, hw.2]
        simp
      have em : (its d).take m = its d := by
        have : (xs.take m).length = xs.length := by rw [e]
        rw [List.length_take] at this
        rw [List.take_of_length_le (by omega)]
      exact k _ _ d (fun _ _ e => e) t l em.symm
    · rw [cut]
      exact k _ _ (.tuple ((its d).take m)) (same_new np) (.tup upd_same (rt.ext (same_new np))) rfl rfl
end K14.T27
namespace K14.T27
open PySem PySem.W PySem.Calls PyProof.Rows L2 LamX
open He (ga)
open Kz (small4 same_new boot_in boot_li boot_isi Has pe_has noE PSs.of_eq)
open K14.Gn
open StX
/-! ### pairs of boxes -/
theorem th_app {H : Hp} : ∀ {x1 x2 : List V} {d1 d2 : List PyData}, ThAll H x1 d1 → ThAll H x2 d2 → ThAll H (x1 ++ x2) (d1 ++ d2)
  | [], _, _, _, h1, h2 => by cases h1; exact h2
  | _ :: _, _, _, _, h1, h2 => by cases h1 with | cons a b => exact .cons a (th_app b h2)
end K14.T27
namespace K14.Gn
open PySem PySem.W PySem.Calls PyProof.Rows L2 LamX
open Kz (same_new small4)
/-- as lc_bl, over data that the row itself makes -/
theorem lc_blG {K : Frag} {k : Nat} {d : PyData} {σ : L2.St} {H : Hp} {tl te : TE} {vs : List Nat} {b : PyData → Bool} {Q : VK} (ht : ∀ R : VK, (∀ (v' : V) (G0 : Hp), L2.Same H G0 → Th G0 v' d → R v' G0) → tl σ H R) (l : isL d = true) (len : (its d).length ≤ 100000)
    (hw : ∀ x : V, wipe ((wipe σ vs).set k (some x)) vs = wipe σ vs)
    (hs : ∀ (j : Nat) (z : PyData) (x : V) (G : Hp) (Q' : VK), (its d)[j]? = some z → L2.Same H G → Th G x z → (∀ G', L2.Same G G' → Q' (.bl (b z)) G') → te ((wipe σ vs).set k (some x)) G Q')
    (hq : ∀ (G : Hp) (D : Addr), L2.Same H G → G D = some (.lst ((its d).map fun z => V.bl (b z))) → Q (.ref D) G) : tLc (iSq K tl) (gName k) tYes te vs σ H Q := by
  have step : ∀ (G0 : Hp) (xs : List V), L2.Same H G0 → ThAll G0 xs (its d) → ∀ (D : Addr), G0 D = none → ∀ (i : Nat) (x : V) (H2 : Hp), xs[i]? = some x → (L2.Same G0 H2 ∧ H2 D = some (.lst (((its d).take i).map fun z => V.bl (b z)))) →
      (wipe ((wipe σ vs).set k (some x)) vs = wipe σ vs ∧ tYes ((wipe σ vs).set k (some x)) H2 fun c H3 => if c = true then te ((wipe σ vs).set k (some x)) H3 fun y H4 => ∃ acc, H4 D = some (.lst acc) ∧ acc.length < sizeLine ∧ (L2.Same G0 (upd H4 D (.lst (acc ++ [y]))) ∧ (upd H4 D (.lst (acc ++ [y]))) D = some (.lst (((its d).take (i + 1)).map fun z => V.bl (b z)))) else
        (L2.Same G0 H3 ∧ H3 D = some (.lst (((its d).take (i + 1)).map fun z => V.bl (b z))))) := by
    intro G0 xs s0 r D hD i x H2 hi ⟨S, hA⟩
    obtain ⟨z, hz, tz⟩ := r.get hi
    refine ⟨hw x, ?_⟩
    unfold tYes
    show (if true = true then _ else _)
    rw [if_pos rfl]
    refine hs i z x H2 _ hz (s0.trans S) (tz.ext S) fun H4 s4 => ⟨_, s4 _ _ hA, ?_, fun c o e => ?_, ?_⟩
    · rw [List.length_map, List.length_take, sizeLine_eq]
      omega
    · rw [upd_ne (ne_of_none e hD)]
      exact s4 _ _ (S _ _ e)
    · rw [upd_same]
      have et : (its d).take (i + 1) = (its d).take i ++ [z] := by
        rw [List.take_add_one, hz]
        rfl
      rw [et, List.map_append]
      rfl
  have fin : ∀ (G0 : Hp) (xs : List V), L2.Same H G0 → ThAll G0 xs (its d) → ∀ (D : Addr) (H2 : Hp), (L2.Same G0 H2 ∧ H2 D = some (.lst (((its d).take xs.length).map fun z => V.bl (b z)))) → Q (.ref D) H2 := fun G0 xs s0 r D H2 ⟨S, hA⟩ => by
    rw [r.length, List.take_length] at hA
    exact hq H2 D (s0.trans S) hA
  cases d with
  | list ds =>
    refine .inl (ht _ fun v' G0 s0 t0 => ?_)
    cases t0 with
    | @lst a xs _ hx r => exact ⟨a, rfl, ⟨xs, .inl (.inl hx)⟩, fun D hD => lc_list (xs := xs) (fun i H2 => L2.Same G0 H2 ∧ H2 D = some (.lst ((ds.take i).map fun z => V.bl (b z)))) ⟨same_new hD, upd_same⟩ (fun i H2 _ e => .inl (.inl (e.1 _ _ hx))) (fun i x H2 hi e => step G0 xs s0 r D hD i x H2 hi e) (fun H2 e => fin G0 xs s0 r D H2 e)⟩
  | tuple ds =>
    refine .inr (ht _ fun v' G0 s0 t0 => ?_)
    cases t0 with
    | @tup a xs _ hx r => exact ⟨a, rfl, ⟨xs, .inl (.inl hx)⟩, fun D hD => lc_tup (xs := xs) (fun i H2 => L2.Same G0 H2 ∧ H2 D = some (.lst ((ds.take i).map fun z => V.bl (b z)))) ⟨same_new hD, upd_same⟩ (fun i H2 _ e => .inl (.inl (e.1 _ _ hx))) (fun i x H2 hi e => step G0 xs s0 r D hD i x H2 hi e) (fun H2 e => fin G0 xs s0 r D H2 e)⟩
  | _ => exact absurd (show false = true from l) Bool.false_ne_true
theorem lc_allG {K : Frag} {k : Nat} {d : PyData} {σ : L2.St} {H : Hp} {tl te : TE} {vs : List Nat} (b : PyData → Bool) {Q : VK} (ht : ∀ R : VK, (∀ (v' : V) (G0 : Hp), L2.Same H G0 → Th G0 v' d → R v' G0) → tl σ H R) (l : isL d = true) (len : (its d).length ≤ 100000)
    (hw : ∀ x : V, wipe ((wipe σ vs).set k (some x)) vs = wipe σ vs)
    (hs : ∀ (j : Nat) (z : PyData) (x : V) (G : Hp) (Q' : VK), (its d)[j]? = some z → L2.Same H G → Th G x z → (∀ G', L2.Same G G' → Q' (.bl (b z)) G') → te ((wipe σ vs).set k (some x)) G Q')
    (hq : ∀ G : Hp, L2.Same H G → Q (.bl ((its d).all b)) G) : tCB (rAll K) (tCons (tLc (iSq K tl) (gName k) tYes te vs) tNil) σ H Q := by
  unfold tCB tCons tNil
  exact lc_blG (b := b) ht l len hw hs fun G D S hA => ⟨D, (its d).map b, rfl, .inl (.inl (by rw [List.map_map]; exact hA)), by rw [List.all_map]; exact hq G S⟩
theorem ifS_intro {tc : TT} {A B u : TS} {D : Ends} {σ : L2.St} {H : Hp} (h : tc σ H fun c G => if c = true then A { nx := u D, rt := D.rt, bk := D.bk, ct := D.ct } σ G else B { nx := u D, rt := D.rt, bk := D.bk, ct := D.ct } σ G) : tSeq (tIfS tc A B) u D σ H := h
theorem ret_intro {te : TE} {D : Ends} {σ : L2.St} {H : Hp} (h : te σ H D.rt) : tRet te D σ H := h
end K14.Gn
namespace K14.T27
open PySem PySem.W PySem.Calls PyProof.Rows L2 LamX
open He (ga)
open Kz (small4 same_new boot_in boot_li boot_isi Has pe_has noE PSs.of_eq)
open K14.Gn
open StX
/-! ### the law's own box -/
/-- a list as a list, a tuple as a tuple -/
def reSeq (d : PyData) (ds : List PyData) : PyData := match d with
  | .tuple _ => .tuple ds
  | _ => .list ds
theorem reSeq_its (d : PyData) (ds : List PyData) : its (reSeq d ds) = ds ∧ isL (reSeq d ds) = true := by
  cases d <;> exact ⟨rfl, rfl⟩
theorem thAll_drop {H : Hp} {m : Nat} {xs : List V} {ds : List PyData} (h : ThAll H xs ds) : ThAll H (xs.drop m) (ds.drop m) := by
  induction m generalizing xs ds with
  | zero => exact h
  | succ m ih =>
    cases h with
    | nil => exact .nil
    | cons a r => exact ih r
theorem cutV_drop {xs : List V} {m : Nat} (h : m ≤ xs.length) : cutV xs (some (m : Int)) none = xs.drop m := by
  unfold cutV
  have e1 : HT.sIx xs.length 0 (some (m : Int)) = m := by
    rw [HT.sIx_nat]
    omega
  have e2 : HT.sIx xs.length xs.length none = xs.length := rfl
  rw [e1, e2]
  exact List.take_of_length_le (by rw [List.length_drop]; exact Nat.le_refl _)
theorem th_from {K : Frag} {H : Hp} {v : V} {d : PyData} {m : Nat} {Q : VK} (t : Th H v d) (l : isL d = true) (hm : m ≤ (its d).length) (k : ∀ (y : V) (G : Hp), L2.Same H G → Th G y (reSeq d ((its d).drop m)) → Q y G) :
    rSlL K v (some (m : Int)) none H Q ∨ rSlA K v (some (m : Int)) none H Q := by
  cases t with
  | @lst a xs ds hx r =>
    have lx := r.length
    have hm : m ≤ ds.length := hm
    refine .inl ⟨a, xs, rfl, .inl (.inl hx), fun p np => ?_⟩
    rw [cutV_drop (by omega)]
    exact k _ _ (same_new np) (.lst upd_same ((thAll_drop r).ext (same_new np)))
  | @tup a xs ds hx r =>
    have lx := r.length
    have hm : m ≤ ds.length := hm
    have cut := cutV_drop (xs := xs) (m := m) (by omega)
    refine .inr ⟨a, xs, rfl, .inl (.inl hx), fun hw => ?_, fun _ p np => ?_⟩
    · have e : xs.drop m = xs := by
        rw [← cut]
        unfold cutV
        rw [hw.1, hw.2]
        simp
      have m0 : m = 0 ∨ xs.length = 0 := by
        have : (xs.drop m).length = xs.length := by rw [e]
        rw [List.length_drop] at this
        omega
      have ed : ds.drop m = ds := by
        rcases m0 with q | q
        · rw [q]; rfl
        · rw [lx] at q
          rw [List.eq_nil_of_length_eq_zero q]
          exact List.drop_nil
      exact k _ _ (fun _ _ e => e) (by show Th H _ (.tuple (ds.drop m)); rw [ed]; exact .tup hx r)
    · rw [cut]
      exact k _ _ (same_new np) (.tup upd_same ((thAll_drop r).ext (same_new np)))
  | _ => exact absurd (show false = true from l) Bool.false_ne_true
end K14.T27
namespace K14.T27
open PySem PySem.W PySem.Calls PyProof.Rows L2 LamX
open He (ga)
open Kz (SS ExtS ExtS.trans small4 same_new boot_in boot_li boot_isi Has pe_has noE PSs.of_eq seqI new_ext)
open K14.Gn
/-! ### _law_pick, _law_mixed -/
section
variable {P : Program} {w : World} {K : Frag} {mg : Str → Option Value} {base : Heap}
def spPk : Sp := fun vs H Q _ => ∃ (l li sa : Addr) (c : Int) (xs : List V), vs = [.ref l, .ref sa] ∧ Spr H l li c ∧ H sa = some (.lst xs) ∧ sa ≠ l ∧ sa ≠ li ∧ 0 < xs.length ∧ xs.length ≤ 1000 ∧ c < 900000000 ∧ ∀ (H' : Hp) (x : V), ExtS l li H H' → Spr H' l li (c + 1) → x ∈ xs → Q x H'
def spMxW : Sp := fun vs H Q _ => ∃ (l li sa : Addr) (c : Int) (xs : List V), vs = [.ref l, .ref sa] ∧ Spr H l li c ∧ H sa = some (.lst xs) ∧ xs.length ≤ 1000 ∧ c < 900000000 ∧
  ∀ (H' : Hp) (r : Addr) (ys : List V), ExtS l li H H' → Spr H' l li (c + (xs.length : Nat)) → H r = none → r ≠ l → r ≠ li → H' r = some (.lst ys) → ys.Perm xs → Q (.ref r) H'
theorem perm_pop {zs ys xs : List V} {i : Nat} (h : i < zs.length) (p : (zs ++ ys).Perm xs) : (zs.eraseIdx i ++ (ys ++ [zs[i]])).Perm xs := by
  refine List.Perm.trans ?_ p
  have e : (zs[i] :: zs.eraseIdx i).Perm zs := by
    rw [List.eraseIdx_eq_take_drop_succ]
    have e2 : zs.take i ++ zs[i] :: zs.drop (i + 1) = zs := by rw [← List.drop_eq_getElem_cons h, List.take_append_drop]
    exact (List.perm_middle.symm).trans (List.Perm.of_eq e2)
  calc (zs.eraseIdx i ++ (ys ++ [zs[i]])).Perm (zs.eraseIdx i ++ ([zs[i]] ++ ys)) := List.Perm.append_left _ List.perm_append_comm
    _ |>.Perm ((zs[i] :: zs.eraseIdx i) ++ ys) := by
      rw [← List.append_assoc]
      exact List.Perm.append_right _ (List.perm_append_singleton _ _)
    _ |>.Perm (zs ++ ys) := List.Perm.append_right _ e
end
end K14.T27
namespace K14.T27
open PySem PySem.W PySem.Calls PyProof.Rows L2 LamX
open He (ga)
open Kz (SS ExtS ExtS.trans small4 same_new boot_in boot_li boot_isi Has pe_has noE PSs.of_eq seqI new_ext)
open K14.Gn
def endNames : List Str := ["a", "b", "c", "d", "e", "w1", "w2", "in", "out", "in1", "w10", "ends", "lastname", "x0", "y1", "z"]
def unS : V → Str
  | .str s => s
  | _ => ""
theorem strs_of {ys : List V} {ns : List Str} (p : ys.Perm (ns.map V.str)) : ∃ ms : List Str, ys = ms.map V.str ∧ ms.Perm ns := by
  refine ⟨ys.map unS, ?_, ?_⟩
  · rw [List.map_map]
    have all : ∀ y ∈ ys, V.str (unS y) = y := fun y hy => by
      obtain ⟨s, _, rfl⟩ := List.mem_map.mp (p.mem_iff.mp hy)
      rfl
    clear p
    induction ys with
    | nil => rfl
    | cons y r ih =>
      rw [List.map_cons, ← ih fun z hz => all z (List.mem_cons_of_mem _ hz)]
      show y :: r = V.str (unS y) :: r
      rw [all y (List.mem_cons_self ..)]
  · have := p.map unS
    rw [List.map_map] at this
    have e : ns.map (unS ∘ V.str) = ns := (List.map_congr_left (g := id) fun _ _ => rfl).trans (List.map_id ns)
    rw [e] at this
    exact this
section
variable {P : Program} {w : World} {K : Frag} {mg : Str → Option Value} {base : Heap}
def spEn : Sp := fun vs H Q _ => ∃ (l li : Addr) (c : Int) (m : Nat), vs = [.ref l, .int (m : Nat)] ∧ Spr H l li c ∧ m ≤ 16 ∧ c < 800000000 ∧
  ∀ (H' : Hp) (r : Addr) (ns : List Str), ExtS l li H H' → Spr H' l li (c + 16) → H r = none → r ≠ l → r ≠ li → H' r = some (.lst (ns.map V.str)) → ns.length = m → ns.Nodup → (∀ s ∈ ns, s ∈ endNames) → Q (.ref r) H'
end
theorem names_all : endNames.all (fun s => nameB (.str s)) = true := by decide +kernel
theorem fne_names : ∀ {ns st : List Str} {j : Nat}, ns.Nodup → (∀ s ∈ ns, s ∈ endNames) → (∀ s ∈ ns, s ∉ st) → fneL (ns.map PyData.str) st j = none
  | [], _, _, _, _, _ => rfl
  | s :: r, st, j, nd, hm, hn => by
    have n0 : nameB (.str s) = true := List.all_eq_true.mp names_all s (hm s (List.mem_cons_self ..))
    have c0 : st.contains s = false := by
      cases q : st.contains s with
      | false => rfl
      | true => exact absurd (List.contains_iff_mem.mp q) (hn s (List.mem_cons_self ..))
    obtain ⟨d1, d2⟩ := List.nodup_cons.mp nd
    have ef : fneL ((s :: r).map PyData.str) st j = if (nameB (.str s) && !st.contains s) = true then fneL (r.map PyData.str) (st ++ [s]) (j + 1) else some j := rfl
    rw [ef, n0, c0]
    refine fne_names d2 (fun x hx => hm x (List.mem_cons_of_mem _ hx)) (fun x hx hs => ?_)
    rcases List.mem_append.mp hs with hs | hs
    · exact hn x (List.mem_cons_of_mem _ hx) hs
    · rw [List.mem_singleton.mp hs] at hx
      exact d1 hx
theorem th_strs {H : Hp} : ∀ ns : List Str, ThAll H (ns.map V.str) (ns.map PyData.str)
  | [] => .nil
  | s :: r => .cons (.str s) (th_strs r)
end K14.T27
namespace K14.T27
open PySem PySem.W PySem.Calls PyProof.Rows L2 LamX
open K14.Gn
/-! ### lists told as tuples, tuples as lists: nothing that is told of a table changes -/
mutual
inductive Lq : PyData → PyData → Prop
  | flat {d : PyData} : isL d = false → Lq d d
  | seq {d e : PyData} : isL d = true → isL e = true → LqAll (its d) (its e) → Lq d e
inductive LqAll : List PyData → List PyData → Prop
  | nil : LqAll [] []
  | cons {d e : PyData} {ds es : List PyData} : Lq d e → LqAll ds es → LqAll (d :: ds) (e :: es)
end
theorem LqAll.len : ∀ {ds es : List PyData}, LqAll ds es → ds.length = es.length
  | _, _, .nil => rfl
  | _, _, .cons _ r => congrArg (· + 1) r.len
theorem LqAll.app : ∀ {a b c d : List PyData}, LqAll a b → LqAll c d → LqAll (a ++ c) (b ++ d)
  | _, _, _, _, .nil, h => h
  | _, _, _, _, .cons x r, h => .cons x (r.app h)
theorem Lq.isL {d e : PyData} (h : Lq d e) : K14.isL d = K14.isL e := by
  cases h with
  | flat => rfl
  | seq a b _ => rw [a, b]
theorem Lq.its {d e : PyData} (h : Lq d e) : LqAll (K14.its d) (K14.its e) := by
  cases h with
  | flat l =>
    cases d with
    | list ds => cases l
    | tuple ds => cases l
    | _ => exact .nil
  | seq _ _ r => exact r
end K14.T27
namespace K14.Gn
open PySem PySem.W PySem.Calls PyProof.Rows L2 LamX
open Kz (same_new small4)
mutual
/-- data never stands in a table of code, nor in a place that was free -/
theorem Th.hid {D : Addr} {H H2 : Hp} (n : H D = none) (e : L2.Same H H2) : ∀ {v : V} {d : PyData}, Th H v d → Th (Hid [D] H2) v d
  | _, _, .non => .non
  | _, _, .bl b => .bl b
  | _, _, .int i => .int i
  | _, _, .str x => .str x
  | _, _, .lst h r => .lst (hid_of (by simpa using ne_of_none h n) (e _ _ h) fun ps z => nomatch z) (ThAll.hid n e r)
  | _, _, .tup h r => .tup (hid_of (by simpa using ne_of_none h n) (e _ _ h) fun ps z => nomatch z) (ThAll.hid n e r)
  | _, _, .dct h r => .dct (hid_of (by simpa using ne_of_none h n) (e _ _ h) fun ps z => nomatch z) (ThKv.hid n e r)
theorem ThAll.hid {D : Addr} {H H2 : Hp} (n : H D = none) (e : L2.Same H H2) : ∀ {v : List V} {d : List PyData}, ThAll H v d → ThAll (Hid [D] H2) v d
  | _, _, .nil => .nil
  | _, _, .cons h r => .cons (Th.hid n e h) (ThAll.hid n e r)
theorem ThKv.hid {D : Addr} {H H2 : Hp} (n : H D = none) (e : L2.Same H H2) : ∀ {v : List (Key × V)} {d : List (PyData × PyData)}, ThKv H v d → ThKv (Hid [D] H2) v d
  | _, _, .nil => .nil
  | _, _, .cons h r => .cons (Th.hid n e h) (ThKv.hid n e r)
end
end K14.Gn
namespace K14.Gn
open PySem PySem.W PySem.Calls PyProof.Rows L2 LamX
open Kz (same_new small4)
theorem thAll_take {H : Hp} : ∀ {m : Nat} {xs : List V} {ds : List PyData}, ThAll H xs ds → ThAll H (xs.take m) (ds.take m)
  | 0, _, _, _ => .nil
  | m + 1, _, _, .nil => .nil
  | m + 1, _, _, .cons a r => .cons a (thAll_take r)
end K14.Gn
namespace K14.Gn
open PySem PySem.W PySem.Calls PyProof.Rows L2 LamX
/-! ### good data: small numbers, short texts, at most empty dicts -/
def gdS (x : Str) : Bool := (x.cps.toList.all fun c => c < 16 ^ 8) && (PyData.strOk x && decide (x.cps.size ≤ 10))
mutual
def gd (e : Bool) : PyData → Bool
  | .none => true
  | .bool _ => true
  | .int i => decide (0 ≤ i) && decide (i ≤ 9)
  | .str x => gdS x
  | .list xs => gdA e xs
  | .tuple xs => gdA e xs
  | .dict ps => e && ps.isEmpty
def gdA (e : Bool) : List PyData → Bool
  | [] => true
  | x :: xs => gd e x && gdA e xs
end
theorem gdA_all {e : Bool} : ∀ {xs : List PyData}, gdA e xs = true ↔ ∀ x ∈ xs, gd e x = true
  | [] => ⟨(fun _ x h => nomatch h), fun _ => rfl⟩
  | x :: xs => by
    show (gd e x && gdA e xs) = true ↔ _
    rw [Bool.and_eq_true, gdA_all]
    exact ⟨fun h y hy => (List.mem_cons.mp hy).elim (fun q => by rw [q]; exact h.1) fun q => h.2 y q, fun h => ⟨h x (List.mem_cons_self ..), fun y hy => h y (List.mem_cons_of_mem _ hy)⟩⟩
mutual
theorem gd_mono : ∀ (d : PyData), gd false d = true → gd true d = true
  | .none, _ => rfl
  | .bool _, _ => rfl
  | .int _, h => h
  | .str _, h => h
  | .list xs, h => gdA_mono xs h
  | .tuple xs, h => gdA_mono xs h
  | .dict _, h => absurd (show false = true from h) Bool.false_ne_true
theorem gdA_mono : ∀ (xs : List PyData), gdA false xs = true → gdA true xs = true
  | [], _ => rfl
  | x :: xs, h => by
    obtain ⟨a, b⟩ := Bool.and_eq_true_iff.mp (show (gd false x && gdA false xs) = true from h)
    show (gd true x && gdA true xs) = true
    rw [gd_mono x a, gdA_mono xs b]
    rfl
end
mutual
theorem gd_lay : ∀ (d : PyData), gd false d = true → PyData.canLay0 d = true
  | .none, _ => rfl
  | .bool _, _ => rfl
  | .int _, _ => rfl
  | .str x, h => (Bool.and_eq_true_iff.mp (Bool.and_eq_true_iff.mp (show (_ && (PyData.strOk x && _)) = true from h)).2).1
  | .list xs, h => gdA_lay xs h
  | .tuple xs, h => gdA_lay xs h
  | .dict _, h => absurd (show false = true from h) Bool.false_ne_true
theorem gdA_lay : ∀ (xs : List PyData), gdA false xs = true → PyData.canLayAll0 xs = true
  | [], _ => rfl
  | x :: xs, h => by
    obtain ⟨a, b⟩ := Bool.and_eq_true_iff.mp (show (gd false x && gdA false xs) = true from h)
    show (PyData.canLay0 x && PyData.canLayAll0 xs) = true
    rw [gd_lay x a, gdA_lay xs b]
    rfl
end
theorem small_int : ∀ i : Int, 0 ≤ i → i ≤ 9 → (PyData.leavesShort 8 (.int i)) = true := fun i h0 h1 => by
  obtain ⟨n, rfl⟩ : ∃ n : Nat, i = (n : Nat) := ⟨i.toNat, by omega⟩
  have hn : n < 10 := by omega
  match n, hn with
  | 0, _ => decide +kernel
  | 1, _ => decide +kernel
  | 2, _ => decide +kernel
  | 3, _ => decide +kernel
  | 4, _ => decide +kernel
  | 5, _ => decide +kernel
  | 6, _ => decide +kernel
  | 7, _ => decide +kernel
  | 8, _ => decide +kernel
  | 9, _ => decide +kernel
mutual
theorem gd_short {e : Bool} : ∀ (d : PyData), gd e d = true → PyData.leavesShort 8 d = true
  | .none, _ => rfl
  | .bool _, _ => rfl
  | .int i, h => by
    obtain ⟨a, b⟩ := Bool.and_eq_true_iff.mp (show (decide (0 ≤ i) && decide (i ≤ 9)) = true from h)
    exact small_int i (of_decide_eq_true a) (of_decide_eq_true b)
  | .str x, h => (Bool.and_eq_true_iff.mp (show (_ && _) = true from h)).1
  | .list xs, h => gdA_short xs h
  | .tuple xs, h => gdA_short xs h
  | .dict ps, h => by
    obtain ⟨_, b⟩ := Bool.and_eq_true_iff.mp (show (e && ps.isEmpty) = true from h)
    have : ps = [] := List.isEmpty_iff.mp b
    subst this
    rfl
theorem gdA_short {e : Bool} : ∀ (xs : List PyData), gdA e xs = true → PyData.leavesShortAll 8 xs = true
  | [], _ => rfl
  | x :: xs, h => by
    obtain ⟨a, b⟩ := Bool.and_eq_true_iff.mp (show (gd e x && gdA e xs) = true from h)
    show (PyData.leavesShort 8 x && PyData.leavesShortAll 8 xs) = true
    rw [gd_short x a, gdA_short xs b]
    rfl
end
mutual
theorem gd_show {e : Bool} : ∀ (d : PyData), gd e d = true → PyData.showable d = true
  | .none, _ => rfl
  | .bool _, _ => rfl
  | .int i, h => by
    obtain ⟨a, b⟩ := Bool.and_eq_true_iff.mp (show (decide (0 ≤ i) && decide (i ≤ 9)) = true from h)
    have := of_decide_eq_true a
    have := of_decide_eq_true b
    obtain ⟨n, rfl⟩ : ∃ n : Nat, i = (n : Nat) := ⟨i.toNat, by omega⟩
    have hn : n < 10 := by omega
    match n, hn with
    | 0, _ => decide
    | 1, _ => decide
    | 2, _ => decide
    | 3, _ => decide
    | 4, _ => decide
    | 5, _ => decide
    | 6, _ => decide
    | 7, _ => decide
    | 8, _ => decide
    | 9, _ => decide
  | .str x, h => rfl
  | .list xs, h => gdA_show xs h
  | .tuple xs, h => gdA_show xs h
  | .dict ps, h => by
    obtain ⟨_, b⟩ := Bool.and_eq_true_iff.mp (show (e && ps.isEmpty) = true from h)
    have : ps = [] := List.isEmpty_iff.mp b
    subst this
    rfl
theorem gdA_show {e : Bool} : ∀ (xs : List PyData), gdA e xs = true → PyData.showableAll xs = true
  | [], _ => rfl
  | x :: xs, h => by
    obtain ⟨a, b⟩ := Bool.and_eq_true_iff.mp (show (gd e x && gdA e xs) = true from h)
    show (PyData.showable x && PyData.showableAll xs) = true
    rw [gd_show x a, gdA_show xs b]
    rfl
end
mutual
theorem Th.dp {K : Frag} {H : Hp} : ∀ {v : V} {d : PyData}, Th H v d → gd false d = true → Dp K H v d
  | _, _, .non, _ => .non
  | _, _, .bl b, _ => .bl b
  | _, _, .int i, _ => .int i
  | _, _, .str x, _ => .str x
  | _, _, .lst h r, g => .lst (.inl (.inl h)) (ThAll.dp r g)
  | _, _, .tup h r, g => .tup (.inl (.inl h)) (ThAll.dp r g)
  | _, _, .dct h r, g => absurd (show false = true from g) Bool.false_ne_true
theorem ThAll.dp {K : Frag} {H : Hp} : ∀ {v : List V} {d : List PyData}, ThAll H v d → gdA false d = true → DpAll K H v d
  | _, _, .nil, _ => .nil
  | _, _, .cons h r, g => by
    obtain ⟨a, b⟩ := Bool.and_eq_true_iff.mp (show (gd false _ && gdA false _) = true from g)
    exact .cons (Th.dp h a) (ThAll.dp r b)
end
theorem gd_shaped {d : PyData} (g : gd false d = true) (h : PyData.depth d ≤ 64) : SeqAt.shaped d = true := by
  unfold SeqAt.shaped
  rw [gd_lay d g, Bool.true_and]
  exact decide_eq_true h
end K14.Gn
namespace K14.T27
open PySem PySem.W PySem.Calls PyProof.Rows L2 LamX
open He (ga)
open Kz (SS ExtS ExtS.trans small4 same_new boot_in boot_li boot_isi Has pe_has noE PSs.of_eq seqI new_ext)
open K14.Gn
abbrev NLo : List Str := ["stream", "thing", "found", "part", "key"]
theorem pe_never {X : Cx} {e : Expr} : PE X e (fun _ _ _ => False) := ⟨fun _ _ _ _ _ _ h => h.elim⟩
/-- lists within lists, n deep, dicts that are empty -/
def fitX : Nat → PyData → Bool
  | n + 1, .list xs => decide (xs.length ≤ 1000) && xs.all (fitX n)
  | n + 1, .tuple xs => decide (xs.length ≤ 1000) && xs.all (fitX n)
  | _, .none => true
  | _, .bool _ => true
  | _, .int _ => true
  | _, .str _ => true
  | _, .dict ps => ps.isEmpty
  | _, _ => false
theorem fitX_seq {n : Nat} {d : PyData} (l : isL d = true) (h : fitX n d = true) : ∃ m, n = m + 1 ∧ (its d).length ≤ 1000 ∧ (∀ x ∈ its d, fitX m x = true) ∧ szD n d = 1 + ((its d).map (szD m)).sum := by
  cases n with
  | zero => cases d <;> first | exact absurd (show false = true from h) Bool.false_ne_true | exact absurd (show false = true from l) Bool.false_ne_true
  | succ m =>
    refine ⟨m, rfl, ?_⟩
    cases d with
    | list xs =>
      obtain ⟨h1, h2⟩ := Bool.and_eq_true_iff.mp (show (decide (xs.length ≤ 1000) && xs.all (fitX m)) = true from h)
      exact ⟨of_decide_eq_true h1, fun x hx => List.all_eq_true.mp h2 x hx, rfl⟩
    | tuple xs =>
      obtain ⟨h1, h2⟩ := Bool.and_eq_true_iff.mp (show (decide (xs.length ≤ 1000) && xs.all (fitX m)) = true from h)
      exact ⟨of_decide_eq_true h1, fun x hx => List.all_eq_true.mp h2 x hx, rfl⟩
    | _ => cases l
theorem fitX_dict {n : Nat} {d : PyData} (l : isD d = true) (h : fitX n d = true) : d = .dict [] := by
  cases d with
  | dict ps =>
    have : ps.isEmpty = true := by cases n <;> exact h
    rw [List.isEmpty_iff.mp this]
  | _ => cases l
theorem lq_seq {d : PyData} {ys : List PyData} (l : isL d = true) (h : LqAll (its d) ys) : Lq d (.list ys) ∧ Lq d (.tuple ys) := ⟨.seq l rfl h, .seq l rfl h⟩
theorem LqAll.snoc {x y : PyData} (h : Lq x y) {xs ys : List PyData} (r : LqAll xs ys) : LqAll (xs ++ [x]) (ys ++ [y]) := r.app (.cons h .nil)
section
variable {P : Program} {w : World} {K : Frag} {mg : Str → Option Value} {base : Heap}
def spLo (n : Nat) : Sp := fun vs H Q _ => ∃ (S : List Addr) (l li : Addr) (c : Int) (v : V) (d : PyData), vs = [.ref l, v] ∧ l ∈ S ∧ li ∈ S ∧ Ins S H ∧ Th (Hid S H) v d ∧ fitX n d = true ∧ Spr H l li c ∧ c + (szD n d : Nat) < 900000000 ∧
  ∀ (H' : Hp) (v' : V) (d' : PyData) (c' : Int), ExtS l li H H' → Spr H' l li c' → c' ≤ c + (szD n d : Nat) → Th (Hid S H') v' d' → Lq d d' → Q v' H'
theorem lo_len {n : Nat} {vs : List V} {H : Hp} {Q : VK} {E : XK} (h : spLo n vs H Q E) : vs.length = 2 := by
  obtain ⟨S, l, li, c, v, d, rfl, _⟩ := h
  rfl
end
end K14.T27
namespace K14.T27
open PySem PySem.W PySem.Calls PyProof.Rows L2 LamX
open He (ga)
open Kz (SS ExtS ExtS.trans small4 same_new boot_in boot_li boot_isi Has pe_has noE PSs.of_eq seqI new_ext FnG HasG pe_hasG)
open K14.Gn
/-! ### three keywords, turned about -/
/-! ### repr of data, empty dicts and all -/
theorem thAll_get_dict {P : Program} {w : World} {H : Hp} {h : Heap} {a : Addr} (hok : HOk P w H h) (e : H a = some (.dK [])) : a ≠ sysModules ∧ ∃ o n, h.get? a = some o ∧ o.cls = .type "dict" ∧ o.data = .dict #[] n := by
  obtain ⟨_, hs, vs, rv, o, es, ep, e1, e2, e3, _, e4, _⟩ := (show ObjOk P w H h a (.dK []) from hok a _ e)
  cases rv
  have : es.toList = [] := by
    cases q : es.toList with
    | nil => rfl
    | cons x r => rw [q] at e4; cases e4
  have : es = #[] := by
    cases es
    simp at this
    rw [this]
  subst this
  refine ⟨?_, o, ep, e1, e2.1, e3⟩
  simpa using hs
section
variable {P : Program} {w : World} {H : Hp} {h : Heap}
mutual
theorem Th.reads (hok : HOk P w H h) : ∀ {v : V} {d : PyData} {u : Value}, Th H v d → gd true d = true → RelV v u → ∃ as, Reads h u d as ∧ ∀ a ∈ as, (∃ xs, H a = some (.lst xs)) ∨ H a = some (.dK [])
  | _, _, u, .non, _, r => by
    obtain rfl : u = Value.none := r
    exact ⟨_, .none, fun a h => nomatch h⟩
  | _, _, u, .bl b, _, r => by
    obtain rfl : u = Value.bool b := r
    exact ⟨_, .bool b, fun a h => nomatch h⟩
  | _, _, u, .int i, _, r => by
    obtain ⟨t, rfl⟩ : ∃ t, u = Value.int i t := r
    exact ⟨_, .int i t, fun a h => nomatch h⟩
  | _, _, u, .str x, _, r => by
    obtain ⟨t, rfl⟩ : ∃ t, u = Value.str x t := r
    exact ⟨_, .str x t, fun a h => nomatch h⟩
  | _, _, u, @Th.lst _ a xs ds e q, g, r => by
    obtain rfl : u = Value.ref a := r
    obtain ⟨_, its, n, rv, e1⟩ := (show ObjOk P w H h a (.lst xs) from hok a _ e)
    obtain ⟨as, r1, r2⟩ := ThAll.reads hok q g rv
    exact ⟨_, .list e1 rfl rfl r1, fun b hb => (List.mem_cons.mp hb).elim (fun z => by rw [z]; exact .inl ⟨_, e⟩) (r2 b)⟩
  | _, _, u, @Th.tup _ a xs ds e q, g, r => by
    obtain rfl : u = Value.ref a := r
    obtain ⟨_, its, rv, o, e1, e2, n, e3⟩ := (show ObjOk P w H h a (.tup xs) from hok a _ e)
    obtain ⟨as, r1, r2⟩ := ThAll.reads hok q g rv
    exact ⟨_, .tuple e1 e2 e3 r1, r2⟩
  | _, _, u, @Th.dct _ a kvs ps e q, g, r => by
    obtain rfl : u = Value.ref a := r
    obtain ⟨_, b⟩ := Bool.and_eq_true_iff.mp (show (true && ps.isEmpty) = true from g)
    obtain rfl : ps = [] := List.isEmpty_iff.mp b
    cases q
    obtain ⟨_, o, n, e1, e2, e3⟩ := thAll_get_dict hok e
    refine ⟨_, .dict (kvs := []) (as := []) (bs := []) e1 e2 e3 .nil .nil, fun b hb => ?_⟩
    have : b = a := by simpa using hb
    rw [this]
    exact .inr e
theorem ThAll.reads (hok : HOk P w H h) : ∀ {v : List V} {d : List PyData} {u : List Value}, ThAll H v d → gdA true d = true → Vals v u → ∃ as, ReadsAll h u d as ∧ ∀ a ∈ as, (∃ xs, H a = some (.lst xs)) ∨ H a = some (.dK [])
  | _, _, _, .nil, _, .nil => ⟨_, .nil, fun a h => nomatch h⟩
  | _, _, _, .cons q qs, g, .cons r rs => by
    obtain ⟨a, b⟩ := Bool.and_eq_true_iff.mp (show (gd true _ && gdA true _) = true from g)
    obtain ⟨as, r1, r2⟩ := Th.reads hok q a r
    obtain ⟨bs, r3, r4⟩ := ThAll.reads hok qs b rs
    exact ⟨_, .cons r1 r3, fun x hx => (List.mem_append.mp hx).elim (r2 x) (r4 x)⟩
end
end
/-- sys.modules is a dict, and stays what it is -/
def SysK (K : Frag) : Prop := ∃ o, K.lookup sysModules = some o ∧ o.cls = .type "dict"
def rReprT : List V → Hp → VK → Prop := fun xs H Q => ∃ (a : Addr) (d : PyData), xs = [.ref a] ∧ Th H (.ref a) d ∧ gd true d = true ∧ PyData.depth d ≤ 20 ∧ PyData.weight d ≤ 1000000 ∧ Q (.str d.shown) H
theorem call_reprT {X : Cx} (hK : SysK X.K) (hg : X.A.guards = some []) (hr : Room 0 X.A) : CallR X (.builtin "repr") rReprT := by
  intro pins s σ H xs us Q I r h
  obtain ⟨a, d, rfl, th, g, hd, hw, q⟩ := h
  cases r with
  | @cons _ u _ ur r1 r2 =>
    cases r2
    obtain rfl : u = Value.ref a := r1
    obtain ⟨as, rd, ra⟩ := Th.reads I.hok th g rfl
    refine repr_of_reads' (h₀ := s.heap) rd (gd_show d g) (fun _ hm => ?_) hg (by have := hr.un; omega) (fun _ _ e => e) (fun h' u tk hk => ⟨.str d.shown, H, I.kept hk, ⟨_, rfl⟩, q⟩) (PyData.shown_fits (B := 8) (by decide) (by decide) (gd_short d g) ?_)
    · rcases ra _ hm with ⟨xs, e⟩ | e
      · obtain ⟨_, its, n, rv, e1⟩ := (show ObjOk X.prog X.w H s.heap sysModules (.lst xs) from I.hok _ _ e)
        obtain ⟨o, k1, k2⟩ := hK
        have e2 := I.kIn _ _ k1
        rw [e1] at e2
        obtain rfl := Option.some.inj e2
        exact absurd (show Value.type "list" = Value.type "dict" from k2) (by decide)
      · exact (thAll_get_dict I.hok e).1 rfl
    · have : (2 : Nat) ^ 20 = 1048576 := by decide
      omega
end K14.T27
namespace K14.T27
open PySem PySem.W PySem.Calls PyProof.Rows L2 LamX
open He (ga)
open Kz (SS ExtS ExtS.trans small4 same_new boot_in boot_li boot_isi Has pe_has noE PSs.of_eq seqI new_ext FnG HasG pe_hasG)
open K14.Gn
/-! ### what stays, however lists are told -/
mutual
theorem Lq.gd {b : Bool} : ∀ {d e : PyData}, Lq d e → gd b d = gd b e
  | _, _, .flat _ => rfl
  | d, e, .seq l1 l2 r => by
    have h1 : ∀ x : PyData, isL x = true → Gn.gd b x = gdA b (its x) := fun x hx => by
      cases x with
      | list _ => rfl
      | tuple _ => rfl
      | _ => exact absurd (show false = true from hx) Bool.false_ne_true
    rw [h1 d l1, h1 e l2]
    exact LqAll.gd r
theorem LqAll.gd {b : Bool} : ∀ {d e : List PyData}, LqAll d e → gdA b d = gdA b e
  | _, _, .nil => rfl
  | _, _, .cons (d := d) (e := e) (ds := ds) (es := es) h r => by
    show (Gn.gd b d && gdA b ds) = (Gn.gd b e && gdA b es)
    rw [Lq.gd h, LqAll.gd r]
end
mutual
theorem Lq.dep : ∀ {d e : PyData}, Lq d e → PyData.depth d = PyData.depth e
  | _, _, .flat _ => rfl
  | d, e, .seq l1 l2 r => by
    have h1 : ∀ x : PyData, isL x = true → PyData.depth x = PyData.depthAll (its x) + 1 := fun x hx => by
      cases x with
      | list _ => rfl
      | tuple _ => rfl
      | _ => exact absurd (show false = true from hx) Bool.false_ne_true
    rw [h1 d l1, h1 e l2, LqAll.dep r]
theorem LqAll.dep : ∀ {d e : List PyData}, LqAll d e → PyData.depthAll d = PyData.depthAll e
  | _, _, .nil => rfl
  | _, _, .cons (d := d) (e := e) (ds := ds) (es := es) h r => by
    show max (PyData.depth d) (PyData.depthAll ds) = max (PyData.depth e) (PyData.depthAll es)
    rw [Lq.dep h, LqAll.dep r]
end
mutual
theorem Lq.wei : ∀ {d e : PyData}, Lq d e → PyData.weight d = PyData.weight e
  | _, _, .flat _ => rfl
  | d, e, .seq l1 l2 r => by
    have h1 : ∀ x : PyData, isL x = true → PyData.weight x = PyData.weightAll (its x) := fun x hx => by
      cases x with
      | list _ => rfl
      | tuple _ => rfl
      | _ => exact absurd (show false = true from hx) Bool.false_ne_true
    rw [h1 d l1, h1 e l2, LqAll.wei r]
theorem LqAll.wei : ∀ {d e : List PyData}, LqAll d e → PyData.weightAll d = PyData.weightAll e
  | _, _, .nil => rfl
  | _, _, .cons (d := d) (e := e) (ds := ds) (es := es) h r => by
    show PyData.weight d + 1 + PyData.weightAll ds = PyData.weight e + 1 + PyData.weightAll es
    rw [Lq.wei h, LqAll.wei r]
end
theorem fit_strs (n : Nat) (ns : List Str) : (ns.map PyData.str).all (fitX n) = true := List.all_eq_true.mpr fun z hz => by
  obtain ⟨s, _, rfl⟩ := List.mem_map.mp hz
  cases n <;> rfl
end K14.T27
namespace K14.T27
open PySem PySem.W PySem.Calls PyProof.Rows L2 LamX
open He (ga)
open Kz (SS ExtS ExtS.trans small4 same_new boot_in boot_li boot_isi Has pe_has noE PSs.of_eq seqI new_ext FnG HasG pe_hasG)
open K14.Gn
/-! ### how much there is of data -/
/-! ### expressions that make data, some places left out of sight -/
def Gv (S : List Addr) (σ : L2.St) (H0 : Hp) (te : TE) (z : PyData) : Prop := ∀ (H : Hp) (Q : VK), L2.Same H0 H → Ins S H → (∀ (H' : Hp) (v : V), L2.Same H H' → Th (Hid S H') v z → Q v H') → te σ H Q
def GvA (S : List Addr) (σ : L2.St) (H0 : Hp) (ta : TA) (zs : List PyData) : Prop := ∀ (H : Hp) (Q : List V → Hp → Prop), L2.Same H0 H → Ins S H → (∀ (H' : Hp) (vs : List V), L2.Same H H' → ThAll (Hid S H') vs zs → Q vs H') → ta σ H Q
section
variable {S : List Addr} {σ : L2.St} {H0 : Hp}
theorem gv_var {i : Nat} {v : V} {z : PyData} (e : σ[i]? = some (some v)) (t : Th (Hid S H0) v z) : Gv S σ H0 (tVar i) z := fun H Q s ins k => ⟨v, e, k H v (fun _ _ q => q) (t.ext (hid_same s))⟩
theorem gv_int {i : Int} : Gv S σ H0 (tC (.int i)) (.int i) := fun H Q s ins k => k H _ (fun _ _ q => q) (.int i)
theorem gv_non : Gv S σ H0 (tC .non) .none := fun H Q s ins k => k H _ (fun _ _ q => q) .non
theorem gv_bl {b : Bool} : Gv S σ H0 (tC (.bl b)) (.bool b) := fun H Q s ins k => k H _ (fun _ _ q => q) (.bl b)
theorem gv_str {x : Str} : Gv S σ H0 (tC (.str x)) (.str x) := fun H Q s ins k => k H _ (fun _ _ q => q) (.str x)
theorem gva_nil : GvA S σ H0 tNil [] := fun H Q s ins k => k H [] (fun _ _ q => q) .nil
theorem gva_cons {te : TE} {ta : TA} {z : PyData} {zs : List PyData} (h : Gv S σ H0 te z) (r : GvA S σ H0 ta zs) : GvA S σ H0 (tCons te ta) (z :: zs) := fun H Q s ins k =>
  h H _ s ins fun H1 v s1 t1 => r H1 _ (s.trans s1) (ins.same s1) fun H2 vs s2 t2 => k H2 (v :: vs) (s1.trans s2) (.cons (t1.ext (hid_same s2)) t2)
theorem gv_lst {ta : TA} {zs : List PyData} (h : GvA S σ H0 ta zs) (l : zs.length ≤ 1000 := by simp) : Gv S σ H0 (tLst ta) (.list zs) := fun H Q s ins k =>
  h H _ s ins fun H1 vs s1 t1 => ⟨by rw [t1.length, sizeLine_eq]; omega, fun p np => k _ _ (s1.trans (same_new np)) (.lst (hid_of ((ins.same s1).new np) upd_same fun ps z => nomatch z) (t1.ext (hid_same (same_new np))))⟩
theorem gv_tup {ta : TA} {zs : List PyData} (h : GvA S σ H0 ta zs) (l : zs.length ≤ 1000 := by simp) : Gv S σ H0 (tTup ta) (.tuple zs) := fun H Q s ins k =>
  h H _ s ins fun H1 vs s1 t1 => ⟨by rw [t1.length, sizeLine_eq]; omega, fun p np => k _ _ (s1.trans (same_new np)) (.tup (hid_of ((ins.same s1).new np) upd_same fun ps z => nomatch z) (t1.ext (hid_same (same_new np))))⟩
theorem gv_dict : Gv S σ H0 tDNewK (.dict []) := fun H Q s ins k p np => k _ _ (same_new np) (.dct (hid_of (ins.new np) upd_same fun ps z => nomatch z) .nil)
theorem gv_cat {t1 t2 : TE} {x y : List PyData} (h1 : Gv S σ H0 t1 (.list x)) (h2 : Gv S σ H0 t2 (.list y)) (l : x.length + y.length ≤ 1000) : Gv S σ H0 (tOp rCat t1 t2) (.list (x ++ y)) := fun H Q s ins k =>
  h1 H _ s ins fun H1 v s1 q1 => h2 H1 _ (s.trans s1) (ins.same s1) fun H2 u s2 q2 => by
    cases q1 with
    | @lst a xs _ ha r1 =>
      cases q2 with
      | @lst b ys _ hb r2 =>
        refine ⟨a, b, xs, ys, rfl, rfl, s2 _ _ (hid_up _ _ ha), hid_up _ _ hb, by rw [r1.length, r2.length, sizeLine_eq]; omega, fun p np => ?_⟩
        have s3 := same_new (o := .lst (xs ++ ys)) np
        exact k _ _ (s1.trans (s2.trans s3)) (.lst (hid_of (((ins.same s1).same s2).new np) upd_same fun ps z => nomatch z) (th_app ((r1.ext (hid_same s2)).ext (hid_same s3)) (r2.ext (hid_same s3))))
end
end K14.T27
namespace K14.T27
open PySem PySem.W PySem.Calls PyProof.Rows L2 LamX
open He (ga)
open Kz (SS ExtS ExtS.trans small4 same_new boot_in boot_li boot_isi Has pe_has noE PSs.of_eq seqI new_ext FnG HasG pe_hasG)
open K14.Gn
theorem thAll_mem {H : Hp} {x : V} : ∀ {vs : List V} {zs : List PyData}, ThAll H vs zs → x ∈ vs → ∃ z ∈ zs, Th H x z
  | _, _, .nil, h => nomatch h
  | _, _, .cons (d := d) t r, h => by
    rcases List.mem_cons.mp h with rfl | h
    · exact ⟨_, List.mem_cons_self .., t⟩
    · obtain ⟨z, hz, q⟩ := thAll_mem r h
      exact ⟨z, List.mem_cons_of_mem _ hz, q⟩
/-- all but one place stays -/
def Exc (fd : Addr) (H H' : Hp) : Prop := ∀ b o, H b = some o → b ≠ fd → H' b = some o
theorem Exc.trans {fd : Addr} {H H1 H2 : Hp} (h : Exc fd H H1) (r : Exc fd H1 H2) : Exc fd H H2 := fun b o e n => r b o (h b o e n) n
theorem Exc.of {fd : Addr} {H H1 : Hp} (h : L2.Same H H1) : Exc fd H H1 := fun b o e _ => h b o e
theorem Exc.upd {fd : Addr} {H : Hp} {u : HO} : Exc fd H (upd H fd u) := fun b o e n => by rw [upd_ne n]; exact e
theorem Exc.hid {fd : Addr} {S : List Addr} {H H1 : Hp} (h : Exc fd H H1) (m : fd ∈ S) : L2.Same (Hid S H) (Hid S H1) := fun b o e => by
  obtain ⟨h1, h2, h3⟩ := hid_at e
  exact hid_of h1 (h b o h2 fun z => h1 (by rw [z]; exact m)) h3
theorem Exc.spr {fd l li : Addr} {c : Int} {H H1 : Hp} (h : Exc fd H H1) (n1 : fd ≠ l) (n2 : fd ≠ li) (s : Spr H l li c) : Spr H1 l li c := by
  obtain ⟨ns, b, d, s, n⟩ := s
  exact ⟨ns, b, d, ⟨h _ _ s.l1 n1.symm, h _ _ s.l2 n2.symm, s.ne, s.b0, s.c0, s.d0, s.d1⟩, n⟩
end K14.T27
namespace K14.T27
open PySem PySem.W PySem.Calls PyProof.Rows L2 LamX
open He (ga)
open Kz (SS ExtS ExtS.trans small4 same_new boot_in boot_li boot_isi Has pe_has noE PSs.of_eq seqI new_ext FnG HasG pe_hasG)
open K14.Gn
section
variable {l li en t1 l1 : Addr} {ns : List Str} {H G G' : Hp} {S : List Addr} {c c' : Int} {xs ys : List V} {ds es : List PyData}
theorem ne_nil {K : Frag} {i : Nat} {a : Addr} {σ : L2.St} {Q : Bool → Hp → Prop} (e : σ[i]? = some (some (.ref a))) (h : G a = some (.lst xs)) (t : ThAll (Hid S G) xs ds) (g : gdA false ds = true) (d : PyData.depth (.list ds) ≤ 64) (k : ∀ p, G p = none → Q (!ds.isEmpty) (upd G p (.lst []))) : tTest (tOp (rNeD K) (tVar i) (tLst tNil)) σ G Q :=
  ⟨.ref a, e, Nat.zero_le _, fun p np => ⟨.list ds, .list [], .lst (.inl (.inl (same_new np _ _ h))) (ThAll.dp ((t.ext hid_up).ext (same_new np)) g), .lst (.inl (.inl upd_same)) .nil, gd_shaped (show gd false (.list ds) = true from g) d, rfl, _, rfl, by
    have : PyData.eqv (.list ds) (.list []) = ds.isEmpty := by cases ds <;> rfl
    rw [this]
    exact k p np⟩⟩
end
end K14.T27
namespace K14.T3
open T27
open K14.Gn
open PySem PySem.W PySem.Calls PyProof.Rows L2 LamX
open He (ga)
open Kz (SS ExtS ExtS.trans small4 same_new boot_in boot_li boot_isi Has pe_has noE PSs.of_eq seqI new_ext X1)
/-! ### figures as signs -/
theorem th_strsV {H : Hp} : ∀ {vs : List V} {ss : List Str}, ThAll H vs (ss.map PyData.str) → vs = ss.map V.str
  | _, [], .nil => rfl
  | _, s :: r, .cons h q => by
    cases h
    rw [th_strsV q]
    rfl
end K14.T3
namespace K14.T3
open T27
open K14.Gn
open PySem PySem.W PySem.Calls PyProof.Rows L2 LamX
open He (ga)
open Kz (SS ExtS ExtS.trans small4 same_new boot_in boot_li boot_isi Has pe_has noE PSs.of_eq seqI new_ext X1)
theorem op_in {r : R2} {ta tb : TE} {σ : L2.St} {H : Hp} {Q : VK} (h : ta σ H fun x H1 => tb σ H1 fun y H2 => r x y H2 Q) : tOp r ta tb σ H Q := h
end K14.T3
namespace K14.Gn
open PySem PySem.W PySem.Calls PyProof.Rows L2
/-! ### l.count(a text), the things of l being numbers, truths, None, texts, lists, tuples -/
def eqK (k : Str) : Value → Bool
  | .str x _ => x == k
  | _ => false
def plnV (H : Hp) (v : V) : Prop := v = .non ∨ (∃ b, v = .bl b) ∨ (∃ i, v = .int i) ∨ (∃ x, v = .str x) ∨ ∃ a xs, v = .ref a ∧ (H a = some (.lst xs) ∨ H a = some (.tup xs))
def rCount : V → List V → Hp → VK → Prop := fun x vs H Q => ∃ l xs k, x = .ref l ∧ vs = [.str k] ∧ H l = some (.lst xs) ∧ (∀ y ∈ xs, plnV H y) ∧ Q (.int (xs.countP (fun y => decide (y = V.str k)) : Nat)) H
theorem vals_mem : ∀ {xs : List V} {us : List Value}, Vals xs us → ∀ y ∈ us, ∃ x ∈ xs, RelV x y
  | _, _, .nil, y, h => nomatch h
  | _, _, .cons r t, y, h => by
    rcases List.mem_cons.mp h with rfl | h
    · exact ⟨_, List.mem_cons_self, r⟩
    · obtain ⟨x, hx, q⟩ := vals_mem t y h
      exact ⟨x, List.mem_cons_of_mem _ hx, q⟩
theorem relK {k : Str} {x : V} {y : Value} (r : RelV x y) : eqK k y = decide (x = V.str k) := by
  cases x with
  | str z =>
    obtain ⟨t, rfl⟩ := r
    show (z == k) = _
    by_cases h : z = k
    · subst h
      simp
    · rw [decide_eq_false (fun q => h (V.str.inj q))]
      exact beq_eq_false_iff_ne.mpr h
  | non => cases r; rfl
  | bl b => cases r; rfl
  | int i => obtain ⟨t, rfl⟩ := r; rfl
  | byt b => obtain ⟨t, rfl⟩ := r; rfl
  | flt b => obtain ⟨t, rfl⟩ := r; rfl
  | ref a => cases r; rfl
  | ty n => cases r; rfl
theorem vals_count {k : Str} : ∀ {xs : List V} {us : List Value}, Vals xs us → us.countP (eqK k) = xs.countP fun y => decide (y = V.str k)
  | _, _, .nil => rfl
  | _, _, .cons r t => by
    rw [List.countP_cons, List.countP_cons, vals_count t, relK r]
theorem mt_count {X : Cx} (hu : X.A.units + 64 < cLine) : MtR X "list.count" rCount := by
  intro pins s σ H x vs v us Q I rx rv h
  obtain ⟨l, xs, k, rfl, rfl, hH, hp, q⟩ := h
  cases rx
  obtain ⟨u, rfl, ru⟩ := rv.one
  obtain ⟨t, rfl⟩ := ru
  obtain ⟨z, its, n, r, hl, e⟩ := I.lstM hH
  have hu1 : X.A.in1.units < cLine := by
    show X.A.units + 1 < cLine
    omega
  refine call_meets F.slot_list_count ⟨_, e, rfl⟩ F.entry_list_count (F.args_list_count_2 _ _) (SeqAt.list_countAt l its.toArray n none #[] (.str k t) (eqK k)) ⟨e, fun y hy => ?_, ?_⟩
  · obtain ⟨x, hx, rl⟩ := vals_mem r y (by simpa using hy)
    rcases hp x hx with rfl | ⟨b, rfl⟩ | ⟨i, rfl⟩ | ⟨w, rfl⟩ | ⟨a, ys, rfl, ha | ha⟩
    · cases rl
      exact SeqAt.EqAt.none_str _ _
    · cases rl
      exact SeqAt.EqAt.bool_str _ _ _
    · obtain ⟨t2, rfl⟩ := rl
      exact SeqAt.EqAt.int_str _ _ _ _
    · obtain ⟨t2, rfl⟩ := rl
      exact SeqAt.EqAt.str_str _ _ _ _
    · cases rl
      obtain ⟨_, its2, n2, _, _, e2⟩ := I.lstM ha
      exact SeqAt.EqAt.list_str _ _ ⟨_, e2, rfl, n2, rfl⟩ hu1
    · cases rl
      obtain ⟨its2, _, ⟨o2, h2, c2, n2, d2⟩, _⟩ := I.tuple (.inl (.inl ha))
      exact SeqAt.EqAt.tuple_str _ _ ⟨o2, h2, c2, n2, d2⟩ hu1
  · refine ⟨.int _, H, I.tok _, ⟨_, rfl⟩, ?_⟩
    rw [show its.toArray.toList = its from rfl, vals_count r]
    exact q
end K14.Gn
namespace K14
open PySem PySem.W PySem.Calls PyProof.Rows L2 LamX
open He (ga)
open Kz (SS ExtS ExtS.trans small4 same_new boot_in boot_li new_ext Has pe_has noE PSs.of_eq)
theorem fun_code {K : Frag} {x : Str} {params : Arguments} {body : List Stmt} {scope : Scope} {f : Addr} {fd : FuncData} (F : FunD K x x params body scope [] [] f fd) : ∃ (oc : Value) (od : Option Addr) (kV doc pm : Value) (an : Option Addr) (c : Addr) (ct : Value) (osl : Array (Option Value)),
    fd = fnOf x x params body scope .none kV doc pm an (.ref c) ct ∧ K.lookup f = some ⟨oc, od, .func (fnOf x x params body scope .none kV doc pm an (.ref c) ct), osl⟩ ∧ codeIn K (.ref c) x = true := by
  obtain ⟨oc, od, dV, kV, doc, pm, an, cdv, ct, osl, rfl, lk, hcd, hD, _⟩ := F.ex
  obtain ⟨c, rfl⟩ := He.codeIn_ref hcd
  rcases hD with ⟨_, rfl⟩ | ⟨e, _⟩
  · exact ⟨oc, od, kV, doc, pm, an, c, ct, osl, rfl, lk, hcd⟩
  · exact absurd rfl e
end K14
namespace K14
open PySem PySem.W PySem.Calls PyProof.Rows L2 LamX
open He (ga)
open Kz (SS ExtS ExtS.trans spStart small4 same_new boot_in boot_li new_ext Has pe_has noE HasG pe_hasG FnG PSs.of_eq)
theorem tabs_S {T : List (Addr × Str)} {H H1 : Hp} {l li : Addr} {c : Int} (t : Tabs T H) (s : Spr H l li c) (e : ExtS l li H H1) : Tabs T H1 := fun p hp => by
  obtain ⟨ps, h1, h2, h3⟩ := t p hp
  obtain ⟨ns, b, d, ss, _⟩ := s
  have nl : ∀ {a : Addr} {o : HO}, H a = some o → (∀ xs, o ≠ .lst xs) → a ≠ l ∧ a ≠ li := fun h n => ⟨fun z => (by rw [z, ss.l1] at h; exact n _ (Option.some.inj h).symm), fun z => (by rw [z, ss.l2] at h; exact n _ (Option.some.inj h).symm)⟩
  have n1 := nl h1 (fun xs z => nomatch z)
  refine ⟨ps, e _ _ h1 n1.1 n1.2, h2, fun pos cv hc => ?_⟩
  obtain ⟨c, ec, h⟩ := h3 pos cv hc
  have n2 := nl h (fun xs z => by
    unfold CodeO at z
    cases z)
  exact ⟨c, ec, e _ _ h n2.1 n2.2⟩
def spLw (K : Frag) (T : List (Addr × Str)) : Sp := fun vs H Q _ => ∃ (a : Addr) (ns : List Int), vs = [.ref a] ∧ SqL K H a (ns.map V.int) ∧ ns.length ≤ 1000 ∧ Tabs T H ∧ ∀ H', Q (.bl true) H'
end K14
namespace K14.T3
open T27
open K14.Gn
open PySem PySem.W PySem.Calls PyProof.Rows L2 LamX
open He (ga)
open Kz (SS ExtS ExtS.trans small4 same_new boot_in boot_li boot_isi Has pe_has noE PSs.of_eq seqI new_ext X1)
/-! ### _law_texts_right -/
section
variable {P : Program} {w : World} {K : Frag} {mg : Str → Option Value} {base : Heap}
/-- what stays: all but the stream, and the tables of codes -/
def ExtL (l li : Addr) (H H' : Hp) : Prop := ∀ b o, H b = some o → (∀ ps, o ≠ .tbl ps) → b ≠ l → b ≠ li → H' b = some o
theorem ExtL.trans {l li : Addr} {H H1 H2 : Hp} (a : ExtL l li H H1) (b : ExtL l li H1 H2) : ExtL l li H H2 := fun x o e t n1 n2 => b x o (a x o e t n1 n2) t n1 n2
theorem ExtL.ofN {l li : Addr} {H H1 : Hp} (a : ExtN H H1) : ExtL l li H H1 := fun x o e t _ _ => a x o e t
theorem ExtL.ofS {l li : Addr} {H H1 : Hp} (a : ExtS l li H H1) : ExtL l li H H1 := fun x o e _ n1 n2 => a x o e n1 n2
theorem ExtL.hid {l li : Addr} {H H1 : Hp} (e : ExtL l li H H1) : L2.Same (Hid [l, li] H) (Hid [l, li] H1) := fun b o h => by
  obtain ⟨h1, h2, h3⟩ := hid_at h
  exact hid_of h1 (e b o h2 h3 (fun z => h1 (by rw [z]; simp)) (fun z => h1 (by rw [z]; simp))) h3
end
end K14.T3
namespace K14.T3
open T27
open K14.Gn
open PySem PySem.W PySem.Calls PyProof.Rows L2 LamX
open He (ga)
open Kz (SS ExtS ExtS.trans small4 same_new boot_in boot_li boot_isi Has pe_has noE PSs.of_eq seqI new_ext X1)
/-! ### drawn data for _law_boxes_right -/
/-- a statement that sets a name -/
theorem set_intro {i : Nat} {te : TE} {u : TS} {D : Ends} {σ : L2.St} {H : Hp} (h : te σ H fun v G => u D (List.set σ i (some v)) G) : tSeq (tAsg te (gName i)) u D σ H := h
theorem par_intro {i j : Nat} {ta : TA} {u : TS} {D : Ends} {σ : L2.St} {H : Hp} (h : ta σ H fun vs G => ∃ v w, vs = [v, w] ∧ u D ((List.set σ i (some v)).set j (some w)) G) : tSeq (tPar i j ta) u D σ H := h
theorem cons2_intro {t1 t2 : TE} {σ : L2.St} {H : Hp} {Q : List V → Hp → Prop} (h : t1 σ H fun v G => t2 σ G fun w G' => Q [v, w] G') : tCons t1 (tCons t2 tNil) σ H Q := h
theorem if_intro {tc : TT} {A B : TS} {D : Ends} {σ : L2.St} {H : Hp} (h : tc σ H fun c G => if c = true then A D σ G else B D σ G) : tIfS tc A B D σ H := h
/-- _law_pick(stream, a list of data) -/
theorem pick_gv {S : List Addr} {σ : L2.St} {H0 H : Hp} {te : TE} {zs : List PyData} {l li : Addr} {c : Int} {Q : VK} (h0 : σ[0]? = some (some (.ref l))) (g : Gv S σ H0 te (.list zs)) (s : L2.Same H0 H) (ins : Ins S H) (m1 : l ∈ S) (m2 : li ∈ S) (sp : Spr H l li c) (z0 : 0 < zs.length) (z1 : zs.length ≤ 1000) (hc : c < 900000000)
    (k : ∀ (H' : Hp) (x : V) (z : PyData), ExtS l li H H' → Spr H' l li (c + 1) → z ∈ zs → Th (Hid S H') x z → Q x H') : tCall spPk [] noE (tCons (tVar 0) (tCons te tNil)) σ H Q := by
  refine ⟨.ref l, h0, g H _ s ins fun H1 v s1 t1 => ?_⟩
  cases t1 with
  | @lst a xs _ ha r1 =>
    have nm := (hid_at ha).1
    refine ⟨l, li, a, c, xs, rfl, sp.same s1, hid_up _ _ ha, fun z => nm (by rw [z]; exact m1), fun z => nm (by rw [z]; exact m2), by rw [r1.length]; exact z0, by rw [r1.length]; exact z1, hc, fun H2 x e2 sp2 hx => ?_⟩
    obtain ⟨z, hz, tz⟩ := thAll_mem r1 hx
    exact k H2 x z ((same_S s1).trans e2) sp2 hz (tz.ext (hid_S m1 m2 e2))
/-! slices of a list of data -/
section
variable {S : List Addr} {σ : L2.St} {H0 : Hp} {K : Frag}
def PureI (ti : TE) (σ : L2.St) (m : Nat) : Prop := ∀ (H : Hp) (Q : VK), Q (.int (m : Nat)) H → ti σ H Q
theorem cut_takeA (xs : List V) (m : Nat) : cutV xs none (some (m : Int)) = xs.take m := by
  unfold cutV
  have e1 : HT.sIx xs.length 0 none = 0 := rfl
  have e2 : HT.sIx xs.length xs.length (some (m : Int)) = min m xs.length := HT.sIx_nat ..
  rw [e1, e2, List.drop_zero, Nat.sub_zero, ← List.take_take, List.take_length]
theorem gv_take {t1 ti : TE} {x : List PyData} {m : Nat} (h1 : Gv S σ H0 t1 (.list x)) (hi : PureI ti σ m) : Gv S σ H0 (tSl (rSlL K) t1 tNoPart (tPart ti)) (.list (x.take m)) := fun H Q s ins k =>
  h1 H _ s ins fun H1 v s1 q1 => hi H1 _ ⟨m, rfl, by
    cases q1 with
    | @lst a xs _ ha r1 =>
      refine ⟨a, xs, rfl, .inl (.inl (hid_up _ _ ha)), fun p np => ?_⟩
      rw [cut_takeA]
      have s2 := same_new (o := .lst (xs.take m)) np
      exact k _ _ (s1.trans s2) (.lst (hid_of ((ins.same s1).new np) upd_same fun ps z => nomatch z) (thAll_take (r1.ext (hid_same s2))))⟩
end
/-! the lists of data, made -/
end K14.T3
namespace K14.T3
open T27
open K14.Gn
open PySem PySem.W PySem.Calls PyProof.Rows L2 LamX
open He (ga)
open Kz (SS ExtS ExtS.trans small4 same_new boot_in boot_li boot_isi Has pe_has noE PSs.of_eq seqI new_ext X1)
/-! ### what is due of a thing -/
end K14.T3
namespace K14.T3
open T27
open K14.Gn
open PySem PySem.W PySem.Calls PyProof.Rows L2 LamX
open He (ga)
open Kz (SS ExtS ExtS.trans spStart small4 same_new boot_in boot_li boot_isi Has pe_has noE PSs.of_eq seqI new_ext X1 FnG HasG pe_hasG)
/-! ### the law -/
def spLw (K : Frag) (T : List (Addr × Str)) : Sp := fun vs H Q _ => ∃ (a : Addr) (ns : List Int), vs = [.ref a] ∧ SqL K H a (ns.map V.int) ∧ ns.length ≤ 1000 ∧ Tabs T H ∧ ∀ H', Q (.bl true) H'
/-! what is drawn, told loosely -/
end K14.T3
namespace K14.T69
open T27 T3
open K14.Gn
open PySem PySem.W PySem.Calls PyProof.Rows L2 LamX
open SX (S)
open TL (tl pre)
open PySem.NumText (digitsVal AllDigits)
/-! ### texts of courses and steps, sign by sign: what a reader does, what the law does -/
theorem S_len (a : List Nat) : (S a).length = a.length := TL.len_tl _
/-! the readers -/
/-! the law's own -/
end K14.T69
namespace K14.Gn
open PySem PySem.W PySem.Calls PyProof.Rows L2 LamX
open Kz (same_new small4)
/-! ### comprehensions over anything that is walked over -/
section
variable {J : It} {n : Nat} {Gd : Hp → Prop} {Y : Nat → Hp → V → Hp → Prop} {g : TG} {tt : TT} {te : TE} {vs : List Nat} {σ : L2.St} {H : Hp} {D : Addr} {Qd : Hp → Prop}
/-- what is made so far is known by A (of the heap without the list that is made, and without S) -/
theorem lc_acc (w : Walk J n Gd Y) (S : List Addr) (ins : Ins S H) (hD : H D = none) (len : n ≤ 100000) (hG : ∀ H', L2.Same H H' → Gd H') (A : Nat → List V → Hp → Prop) (mono : ∀ i ys G G', A i ys G → L2.Same G G' → A i ys G') (A0 : A 0 [] (Hid (D :: S) H))
    (hs : ∀ (i : Nat) (x : V) (G1 G2 : Hp) (ys : List V) (Qy : V → Hp → Prop) (Qn : Hp → Prop), i < n → L2.Same H G1 → Ins (D :: S) G1 → A i ys (Hid (D :: S) G1) → Y i G1 x G2 →
      (∀ (y : V) (H4 : Hp), L2.Same G1 H4 → A (i + 1) (ys ++ [y]) (Hid (D :: S) H4) → Qy y H4) → (∀ H3 : Hp, L2.Same G1 H3 → A (i + 1) ys (Hid (D :: S) H3) → Qn H3) →
      g x (wipe σ vs) G2 fun σ2 H2 => wipe σ2 vs = wipe σ vs ∧ tt σ2 H2 fun b H3 => if b = true then te σ2 H3 Qy else Qn H3)
    (hq : ∀ (G : Hp) (ys : List V), L2.Same H G → G D = some (.lst ys) → A n ys (Hid (D :: S) G) → Qd G) :
    ∃ W : Nat → Nat → Hp → Prop, (∃ m, W 0 m (upd H D (.lst []))) ∧ ∀ i m H, W i m H →
      (J.stop i H ∧ Qd H) ∨ (J.go i H ∧ ∃ Nx : Hp → Prop, (∀ H', Nx H' → ∃ m', m' < m ∧ W (i + 1) m' H') ∧ ∀ x H', J.yld i H x H' → g x (wipe σ vs) H' fun σ2 H2 => wipe σ2 vs = wipe σ vs ∧ tt σ2 H2 fun b H3 =>
        if b = true then te σ2 H3 fun y H4 => ∃ acc, H4 D = some (.lst acc) ∧ acc.length < sizeLine ∧ Nx (upd H4 D (.lst (acc ++ [y]))) else Nx H3) := by
  have nS : D ∉ S := ins.new hD
  have hid0 : L2.Same (Hid (D :: S) H) (Hid (D :: S) (upd H D (.lst []))) := hid_upd (List.mem_cons_self ..)
  refine lc_it w (fun i H2 => L2.Same H H2 ∧ ∃ ys, H2 D = some (.lst ys) ∧ ys.length ≤ i ∧ A i ys (Hid (D :: S) H2)) ⟨same_new hD, [], upd_same, Nat.le_refl _, mono _ _ _ _ A0 hid0⟩ (fun i H2 _ e => hG _ e.1) (fun i x G1 G2 hi e y => ?_) (fun G e => ?_)
  · obtain ⟨s1, ys, hA, ly, a⟩ := e
    have insG : Ins (D :: S) G1 := (ins.same s1).cons hA
    refine hs i x G1 G2 ys _ _ hi s1 insG a y (fun y H4 s4 a4 => ?_) (fun H3 s3 a3 => ⟨s1.trans s3, ys, s3 _ _ hA, by omega, a3⟩)
    refine ⟨ys, s4 _ _ hA, by rw [sizeLine_eq]; omega, fun b o e => ?_, ys ++ [y], upd_same, by rw [List.length_append, List.length_singleton]; omega, mono _ _ _ _ a4 (hid_upd (List.mem_cons_self ..))⟩
    rw [upd_ne (ne_of_none e hD)]
    exact s4 _ _ (s1 _ _ e)
  · obtain ⟨s1, ys, hA, ly, a⟩ := e
    exact hq G ys s1 hA a
end
/-- for each sign of a text, a flat value: no test -/
theorem lc_strF {K : Frag} {k : Nat} {x : Str} {σ : L2.St} {H : Hp} {tl te : TE} {vs : List Nat} (f : Nat → V) {Q : VK} (ht : ∀ R : VK, R (.str x) H → tl σ H R) (len : x.length ≤ 100000) (hw : ∀ y : V, wipe ((wipe σ vs).set k (some y)) vs = wipe σ vs)
    (hs : ∀ (c : Nat) (G : Hp) (Q' : VK), c ∈ x.cps.toList → L2.Same H G → (∀ G', L2.Same G G' → Q' (f c) G') → te ((wipe σ vs).set k (some (.str ⟨#[c]⟩))) G Q')
    (hq : ∀ (G : Hp) (D : Addr), L2.Same H G → G D = some (.lst (x.cps.toList.map f)) → Q (.ref D) G) : tLc (iStr tl) (gName k) tYes te vs σ H Q := by
  refine ht _ ⟨x, rfl, fun D hD => lc_acc (S := []) walk_str (fun b h => nomatch h) hD (by have : x.length = x.cps.size := rfl; omega) (fun _ _ => trivial) (fun i ys _ => ys = (x.cps.toList.take i).map f) (fun i ys G G' e _ => e) rfl (fun i v G1 G2 ys Qy Qn hi s1 insG a y ky kn => ?_) (fun G ys s1 hA a => ?_)⟩
  · obtain ⟨rfl, c, hc, rfl⟩ := y
    have hc' : x.cps.toList[i]? = some c := by rw [Array.getElem?_toList]; exact hc
    refine ⟨hw _, ?_⟩
    unfold tYes
    show (if true = true then _ else _)
    rw [if_pos rfl]
    refine hs c G2 Qy (List.mem_of_getElem? hc') s1 fun G' s' => ky _ _ s' ?_
    rw [a, List.take_add_one, hc', List.map_append]
    rfl
  · rw [show x.cps.size = x.cps.toList.length from (Array.length_toList).symm, List.take_length] at a
    rw [a] at hA
    exact hq G D s1 hA
theorem all_strG {K : Frag} {k : Nat} {x : Str} {σ : L2.St} {H : Hp} {tl te : TE} {vs : List Nat} (b : Nat → Bool) {Q : VK} (ht : ∀ R : VK, R (.str x) H → tl σ H R) (len : x.length ≤ 100000) (hw : ∀ y : V, wipe ((wipe σ vs).set k (some y)) vs = wipe σ vs)
    (hs : ∀ (c : Nat) (G : Hp) (Q' : VK), c ∈ x.cps.toList → L2.Same H G → (∀ G', L2.Same G G' → Q' (.bl (b c)) G') → te ((wipe σ vs).set k (some (.str ⟨#[c]⟩))) G Q')
    (hq : ∀ G : Hp, L2.Same H G → Q (.bl (x.cps.toList.all b)) G) : tCB (rAll K) (tCons (tLc (iStr tl) (gName k) tYes te vs) tNil) σ H Q := by
  unfold tCB tCons tNil
  exact lc_strF (K := K) (fun c => .bl (b c)) ht len hw hs fun G D s hA => ⟨D, x.cps.toList.map b, rfl, .inl (.inl (by rw [List.map_map]; exact hA)), by rw [List.all_map]; exact hq G s⟩
end K14.Gn
namespace K14.Gn
open PySem PySem.W PySem.Calls PyProof.Rows L2 LamX
open Kz (noE)
/-! ### methods of own classes -/
end K14.Gn
namespace K14.T69
open T27 T3
open K14.Gn
open PySem PySem.W PySem.Calls PyProof.Rows L2 LamX
open He (ga)
open SX (S)
open TL (tl pre joinL)
open Kz (SS ExtS ExtS.trans small4 same_new boot_in boot_li boot_isi Has pe_has noE PSs.of_eq seqI new_ext X1)
/-! ### the readers, as they stand -/
section
variable {P : Program} {w : World} {K : Frag} {mg : Str → Option Value} {base : Heap}
abbrev XCo (P : Program) (w : World) (K : Frag) (mg : Str → Option Value) (base : Heap) (N : List Str) (q : Str) (st : Stmt) (f : Addr) (cdv : Value) (A : Around) (outer : List Env) (s : Shared) (H : Hp) (XE : XK) : Cx := (cxOf CX0 P w K mg base N q (defScope st) f cdv A outer s H XE).nox
end
end K14.T69
namespace K14.Gn
open PySem PySem.W PySem.Calls PyProof.Rows L2 LamX
open Kz (same_new small4)
open T27 T3
/-! ### texts among anything -/
def rInP (K : Frag) : R2 := fun x y H Q => ∃ (p : Addr) (ss : List Str), y = .ref p ∧ SqT K H p (ss.map V.str) ∧ plnV H x ∧ Q (.bl (inV x (ss.map V.str))) H
theorem flat_strs : ∀ ss : List Str, (ss.map V.str).all flatV = true
  | [] => rfl
  | s :: ss => flat_strs ss
theorem inV_ref (a : Addr) : ∀ ss : List Str, inV (.ref a) (ss.map V.str) = false
  | [] => rfl
  | s :: ss => inV_ref a ss
theorem op_inP {X : Cx} (hu : X.A.units + 64 < cLine) : OpR X (compareOp .In) (rInP X.K) := by
  intro pins s σ H x y v u Q I rx ry h
  obtain ⟨p, ss, rfl, hq, hp, q⟩ := h
  have fl : flatV x = true → wpAny (model X.prog X.w) X.A (compareOp .In v u) (EP X pins σ Q) X.xe s := fun f =>
    op_in_seq pins s σ H x (.ref p) v u Q I rx ry ⟨p, _, rfl, .inr hq, f, flat_strs ss, q⟩
  have hu1 : X.A.in1.units < cLine := by
    show X.A.units + 1 < cLine
    omega
  have rf : ∀ a, x = .ref a → (∀ (its : List Value) (z : Value), z ∈ its → ∀ k t, z = .str k t → SeqAt.EqAt X.A.in1 s z v false) → wpAny (model X.prog X.w) X.A (compareOp .In v u) (EP X pins σ Q) X.xe s := fun a ea hh => by
    subst ea
    cases ry
    obtain ⟨its, r, pl, hz⟩ := I.tuple hq
    refine SeqAt.in_tupleAt (fun _ => false) pl (fun w hw => ?_) ⟨.bl _, H, I, rfl, ?_⟩
    · obtain ⟨y, hy, ry⟩ := vals_mem r w (by simpa using hw)
      obtain ⟨k, _, rfl⟩ := List.mem_map.mp hy
      obtain ⟨t, rfl⟩ := ry
      exact hh its _ (by simpa using hw) k t rfl
    · rw [inV_ref] at q
      have e : (its.toArray.any fun _ => false) = false := by simp
      rw [e]
      exact q
  rcases hp with rfl | ⟨b, rfl⟩ | ⟨i, rfl⟩ | ⟨w, rfl⟩ | ⟨a, ys, rfl, ha | ha⟩
  · exact fl rfl
  · exact fl rfl
  · exact fl rfl
  · exact fl rfl
  · cases rx
    obtain ⟨_, its2, n2, _, _, e2⟩ := I.lstM ha
    exact rf a rfl fun its z _ k t e => by subst e; exact SeqAt.EqAt.str_list _ _ ⟨_, e2, rfl, n2, rfl⟩ hu1
  · cases rx
    obtain ⟨its2, _, ⟨o2, h2, c2, n2, d2⟩, _⟩ := I.tuple (.inl (.inl ha))
    exact rf a rfl fun its z _ k t e => by subst e; exact SeqAt.EqAt.str_tuple _ _ ⟨o2, h2, c2, n2, d2⟩ hu1
def rEqP : R2 := fun x y H Q => ∃ k, y = .str k ∧ plnV H x ∧ Q (.bl (decide (x = V.str k))) H
theorem op_eqP {X : Cx} (hu : X.A.units + 64 < cLine) : OpR X (compareOp .Eq) rEqP := by
  intro pins s σ H x y v u Q I rx ry h
  obtain ⟨k, rfl, hp, q⟩ := h
  have hu1 : X.A.units < cLine := by omega
  rcases hp with rfl | ⟨b, rfl⟩ | ⟨i, rfl⟩ | ⟨w, rfl⟩ | ⟨a, ys, rfl, ha | ha⟩
  · exact op_eq pins s σ H _ _ v u Q I rx ry ⟨rfl, q⟩
  · exact op_eq pins s σ H _ _ v u Q I rx ry ⟨rfl, q⟩
  · exact op_eq pins s σ H _ _ v u Q I rx ry ⟨rfl, q⟩
  · exact op_eq pins s σ H _ _ v u Q I rx ry ⟨rfl, q⟩
  · cases rx
    obtain ⟨t, rfl⟩ := ry
    obtain ⟨_, its2, n2, _, _, e2⟩ := I.lstM ha
    rw [decide_eq_false (by intro z; cases z)] at q
    exact SeqAt.RcAt.list_str k t ⟨_, e2, rfl, n2, rfl⟩ hu1 _ _ _ _ ⟨.bl false, H, I, rfl, q⟩
  · cases rx
    obtain ⟨t, rfl⟩ := ry
    obtain ⟨its2, _, ⟨o2, h2, c2, n2, d2⟩, _⟩ := I.tuple (.inl (.inl ha))
    rw [decide_eq_false (by intro z; cases z)] at q
    exact SeqAt.RcAt.tuple_str k t ⟨o2, h2, c2, n2, d2⟩ hu1 _ _ _ _ ⟨.bl false, H, I, rfl, q⟩
theorem th_pln {H : Hp} {v : V} {d : PyData} (h : Th H v d) (n : isD d = false) : plnV H v := by
  cases h with
  | non => exact .inl rfl
  | bl b => exact .inr (.inl ⟨b, rfl⟩)
  | int i => exact .inr (.inr (.inl ⟨i, rfl⟩))
  | str x => exact .inr (.inr (.inr (.inl ⟨x, rfl⟩)))
  | lst h r => exact .inr (.inr (.inr (.inr ⟨_, _, rfl, .inl h⟩)))
  | tup h r => exact .inr (.inr (.inr (.inr ⟨_, _, rfl, .inr h⟩)))
  | dct h r => exact absurd (show true = false from n) (by decide)
def txtIn (ss : List Str) : PyData → Bool
  | .str s => inV (.str s) (ss.map V.str)
  | _ => false
theorem inV_th {H : Hp} {v : V} {d : PyData} (h : Th H v d) (n : isD d = false) (ss : List Str) : inV v (ss.map V.str) = txtIn ss d := by
  have e : ∀ v : V, (∀ s : Str, eqV (.str s) v = false) → inV v (ss.map V.str) = false := fun v hv => by
    unfold inV
    induction ss with
    | nil => rfl
    | cons s ss ih =>
      rw [List.map_cons, List.any_cons, hv s, ih]
      rfl
  cases h with
  | str x => rfl
  | dct h r => exact absurd (show true = false from n) (by decide)
  | _ => exact e _ fun s => rfl
theorem ix_any2 {K : Frag} {H : Hp} {a : Addr} {xs : List V} {x : V} {i : Nat} {Q : VK} (h : H a = some (.lst xs) ∨ H a = some (.tup xs)) (hi : xs[i]? = some x) (k : Q x H) : rIx K (.ref a) (.int (i : Nat)) H Q :=
  h.elim (fun h => .inl ⟨a, _, _, _, rfl, rfl, .inl (.inl h), atI_nat hi, k⟩) fun h => .inr (.inl ⟨a, _, _, _, rfl, rfl, .inl (.inl h), atI_nat hi, k⟩)
end K14.Gn
namespace K14.T69
open T27 T3
open K14.Gn
open PySem PySem.W PySem.Calls PyProof.Rows L2 LamX
open He (ga)
open SX (S)
open TL (tl pre joinL)
open Kz (SS ExtS ExtS.trans small4 same_new boot_in boot_li boot_isi Has pe_has noE PSs.of_eq seqI new_ext X1)
/-! ### is_index, is_course_form, is_step_form -/
end K14.T69
namespace K14.T69
open T27 T3
open K14.Gn
open PySem PySem.W PySem.Calls PyProof.Rows L2 LamX
open He (ga)
open SX (S)
open TL (tl pre joinL)
open Kz (SS ExtS ExtS.trans small4 same_new boot_in boot_li boot_isi Has pe_has noE PSs.of_eq seqI new_ext X1)
/-! ### course_text, steps_text -/
section
variable {P : Program} {w : World} {K : Frag} {mg : Str → Option Value} {base : Heap}
abbrev rAddS : R2 := fun x y H Q => ∃ i j, x = .str i ∧ y = .str j ∧ i.length + j.length ≤ sizeLine ∧ Q (.str (i ++ j)) H
end
end K14.T69
namespace K14.T69
open T27 T3
open K14.Gn
open PySem PySem.W PySem.Calls PyProof.Rows L2 LamX
open He (ga)
open SX (S)
open TL (tl pre joinL)
open Kz (SS ExtS ExtS.trans small4 same_new boot_in boot_li boot_isi Has pe_has noE PSs.of_eq seqI new_ext X1)
/-! ### _law_is_name, _law_line, _law_each_once, _law_may_be_name -/
abbrev NLn : List Str := ["thing", "letters", "sign"]
section
variable {P : Program} {w : World} {K : Frag} {mg : Str → Option Value} {base : Heap}
/-- a sign among letters and figures -/
abbrev teSig (i j : Nat) : TE := tOp (fun x y H Q => ∃ (c : Nat) (z : Str), x = .str ⟨#[c]⟩ ∧ y = .str z ∧ Q (.bl (decide (c ∈ z.cps.toList))) H) (tVar i) (tOp rAddS (tVar j) (tC (.str "0123456789")))
theorem sig_eq : T27.letters ++ ("0123456789" : Str) = T27.signs := by decide +kernel
theorem tC_intro {v : V} {σ : L2.St} {H : Hp} {F : VK} (h : F v H) : tC v σ H F := h
def spLn : Sp := fun vs H Q _ => ∃ x : List Nat, vs = [.str (S x)] ∧ x.length ≤ 100000 ∧ ∀ H', L2.Same H H' → Q (.bl (nameB (.str (S x)))) H'
end
end K14.T69
namespace K14.T69
open T27 T3
open K14.Gn
open PySem PySem.W PySem.Calls PyProof.Rows L2 LamX
open He (ga)
open SX (S)
open TL (tl pre joinL)
open Kz (SS ExtS ExtS.trans small4 same_new boot_in boot_li boot_isi Has pe_has noE PSs.of_eq seqI new_ext X1)
/-! ### _law_asked -/
/-! ### _law_odd_rows -/
theorem ext_step {K : Frag} {S : List Addr} {i : Nat} {f : Addr} {xs : List V} {ds ds2 : List PyData} {σ : L2.St} {G : Hp} {te : TE} {D : Ends} (hi : σ[i]? = some (some (.ref f))) (hf : G f = some (.lst xs)) (tx : ThAll (Hid (f :: S) G) xs ds) (ins : Ins (f :: S) G) (g : Gv (f :: S) σ G te (.list ds2)) (l1 : ds.length ≤ 100) (l2 : ds2.length ≤ 100)
    (k : ∀ (G' : Hp) (ys : List V), (∀ b o, G b = some o → b ≠ f → G' b = some o) → G' f = some (.lst ys) → ThAll (Hid (f :: S) G') ys (ds ++ ds2) → Ins (f :: S) G' → D.nx σ G') : tDrop (tBM K "list" rExtend (tVar i) (tCons te tNil)) D σ G := by
  refine ⟨.ref f, hi, .inl ⟨rfl, _, .inl (.inl hf)⟩, g G _ (fun _ _ e => e) ins fun G1 v s1 t1 => ?_⟩
  cases t1 with
  | @lst b zs _ hb r =>
    have tx1 := tx.ext (hid_same s1)
    refine ⟨f, b, xs, zs, rfl, rfl, s1 _ _ hf, hid_up _ _ hb, by rw [tx.length, r.length, sizeLine_eq]; omega, ?_⟩
    have mf : f ∈ f :: S := List.mem_cons_self
    refine k _ (xs ++ zs) (fun b o e nb => by rw [upd_ne nb]; exact s1 _ _ e) upd_same (th_app (tx1.ext (hid_upd mf)) (r.ext (hid_upd mf))) fun b m => ?_
    by_cases e : b = f
    · rw [e]
      exact ⟨_, upd_same⟩
    · obtain ⟨o, ho⟩ := ins b m
      exact ⟨o, by rw [upd_ne e]; exact s1 _ _ ho⟩
end K14.T69
namespace K14.T69
open T27 T3
open K14.Gn
open PySem PySem.W PySem.Calls PyProof.Rows L2 LamX
open He (ga)
open SX (S)
open TL (tl pre joinL)
open Kz (SS ExtS ExtS.trans small4 same_new boot_in boot_li boot_isi Has pe_has noE PSs.of_eq seqI new_ext X1)
section
variable {P : Program} {w : World} {K : Frag} {mg : Str → Option Value} {base : Heap}
theorem dropS {te : TE} {u : TS} {D : Ends} {σ : L2.St} {H : Hp} (h : tDrop te { nx := u D, rt := D.rt, bk := D.bk, ct := D.ct } σ H) : tSeq (tDrop te) u D σ H := h
theorem lst_intro {t : TA} {σ : L2.St} {H : Hp} {Q : VK} (h : t σ H fun xs H1 => xs.length ≤ sizeLine ∧ ∀ p, H1 p = none → Q (.ref p) (upd H1 p (.lst xs))) : tLst t σ H Q := h
end
end K14.T69
namespace K14.T69
open T27 T3
open K14.Gn
open PySem PySem.W PySem.Calls PyProof.Rows L2 LamX
open He (ga)
open SX (S)
open TL (tl pre joinL)
open Kz (SS ExtS ExtS.trans small4 same_new boot_in boot_li boot_isi Has pe_has noE PSs.of_eq seqI new_ext X1)
/-! ### _law_bent_text -/
/-- lists of texts, each a list of its own -/
structure LsA (G : Hp) (ls : List Addr) (wss : List (List Str)) : Prop where
  len : ls.length = wss.length
  nd : ls.Nodup
  at_ : ∀ (i : Nat) (a : Addr), ls[i]? = some a → ∃ ws, wss[i]? = some ws ∧ G a = some (.lst (ws.map V.str))
theorem LsA.nil {G : Hp} : LsA G [] [] := ⟨rfl, .nil, fun i a h => by simp at h⟩
theorem LsA.ext {G G' : Hp} {ls : List Addr} {wss : List (List Str)} (h : LsA G ls wss) (e : L2.Same G G') : LsA G' ls wss :=
  ⟨h.len, h.nd, fun i a ha => by obtain ⟨ws, h1, h2⟩ := h.at_ i a ha; exact ⟨ws, h1, e _ _ h2⟩⟩
theorem LsA.snoc {G : Hp} {ls : List Addr} {wss : List (List Str)} {p : Addr} {ws : List Str} (h : LsA G ls wss) (np : p ∉ ls) (hp : G p = some (.lst (ws.map V.str))) : LsA G (ls ++ [p]) (wss ++ [ws]) := by
  refine ⟨by simp [h.len], List.nodup_append.mpr ⟨h.nd, by simp, fun a ha b hb => ?_⟩, fun i a ha => ?_⟩
  · rw [List.mem_singleton.mp hb]
    exact fun z => np (z ▸ ha)
  · rcases Nat.lt_or_ge i ls.length with hi | hi
    · rw [List.getElem?_append_left hi] at ha
      obtain ⟨w, h1, h2⟩ := h.at_ i a ha
      exact ⟨w, by rw [List.getElem?_append_left (by rw [← h.len]; exact hi)]; exact h1, h2⟩
    · have : i = ls.length := by
        have := (List.getElem?_eq_some_iff.mp ha).1
        simp at this
        omega
      subst this
      rw [List.getElem?_concat_length] at ha
      cases ha
      exact ⟨ws, by rw [h.len]; exact List.getElem?_concat_length, hp⟩
theorem LsA.set {G : Hp} {ls : List Addr} {wss : List (List Str)} {a : Addr} {ws : List Str} {i : Nat} (h : LsA G ls wss) (hi : ls[i]? = some a) : LsA (upd G a (.lst (ws.map V.str))) ls (wss.set i ws) := by
  have il : i < ls.length := (List.getElem?_eq_some_iff.mp hi).1
  refine ⟨by simp [h.len], h.nd, fun j b hb => ?_⟩
  by_cases e : i = j
  · subst e
    rw [hi] at hb
    cases hb
    exact ⟨ws, by rw [List.getElem?_set_self (by rw [← h.len]; exact il)], upd_same⟩
  · obtain ⟨w, h1, h2⟩ := h.at_ j b hb
    refine ⟨w, by rw [List.getElem?_set_ne e]; exact h1, ?_⟩
    rw [upd_ne]
    · exact h2
    · rintro rfl
      exact e ((List.getElem?_inj il h.nd).mp (by rw [hi, hb]))
/-! lengths -/
end K14.T69
namespace K14.T69
open T27 T3
open K14.Gn
open PySem PySem.W PySem.Calls PyProof.Rows L2 LamX
open He (ga)
open SX (S)
open TL (tl pre joinL)
open Kz (SS ExtS ExtS.trans small4 same_new boot_in boot_li boot_isi Has pe_has noE PSs.of_eq seqI new_ext X1)
/-! ### _law_bent_text -/
theorem asg_intro {te : TE} {g : TG} {u : TS} {D : Ends} {σ : L2.St} {H : Hp} (h : te σ H fun v G => g v σ G (u D)) : tSeq (tAsg te g) u D σ H := h
end K14.T69
namespace K14.Gn
open PySem PySem.W PySem.Calls PyProof.Rows L2 LamX
open Kz (FnG same_new)
/-- for j, y in enumerate(data), while tables may grow -/
theorem for_enN {K : Frag} {i1 i2 : Nat} {v : V} {d : PyData} {σ : L2.St} {H H0 : Hp} {tl : TE} {tb u : TS} {D : Ends} (ht : ∀ R : VK, R v H → tl σ H R) (t : Th (Hid [] H0) v d) (l : isL d = true) (Pv : Nat → L2.St → Hp → Prop) (h0 : Pv 0 σ H) (hx : ∀ j σ G, Pv j σ G → ExtN H0 G)
    (hs : ∀ (j : Nat) (z : PyData) (x : V) (σ' : L2.St) (G : Hp), (its d)[j]? = some z → Th (Hid [] G) x z → Pv j σ' G → ∀ G', L2.Same G G' → tb { nx := Pv (j + 1), rt := D.rt, bk := u D, ct := Pv (j + 1) } ((σ'.set i1 (some (.int (j : Nat)))).set i2 (some x)) G')
    (hd : ∀ σ' G, Pv (its d).length σ' G → u D σ' G) : tSeq (tFor (EnT.iEnB K (tCons tl tNil)) (gTup K 2 (gCons (gName i1) (gCons (gName i2) gNil))) tb) u D σ H := by
  obtain ⟨a, xs, rfl, r, hq⟩ := t.seq (K := K) l
  have lx : xs.length = (its d).length := r.length
  have go : ∀ (j : Nat) (x : V) (σ' : L2.St) (G G' : Hp), j < xs.length → Pv j σ' G → YPair (fun j => some (.int (j : Nat))) (fun j => xs[j]?) j G x G' → gTup K 2 (gCons (gName i1) (gCons (gName i2) gNil)) x σ' G' fun σ2 H2 => tb { nx := Pv (j + 1), rt := D.rt, bk := u D, ct := Pv (j + 1) } σ2 H2 := by
    intro j x σ' G G' hj hp ⟨T, p, y, ex, nT, eG, ep, ey⟩
    obtain ⟨z, hz, tz⟩ := r.get ey
    subst ex eG
    obtain rfl : V.int (j : Nat) = p := Option.some.inj ep
    refine ⟨T, _, rfl, .inl (.inl upd_same), rfl, _, _, rfl, _, _, rfl, rfl, ?_⟩
    exact hs j z y σ' G hz (tz.ext (hid_N (hx j σ' G hp))) hp _ (same_new nT)
  have keep : ∀ (j : Nat) (σ' : L2.St) (G : Hp) {o : HO}, Pv j σ' G → (Hid [] H0) a = some o → G a = some o := fun j σ' G o p h => by
    obtain ⟨_, h2, h3⟩ := hid_at h
    exact hx j σ' G p _ _ h2 h3
  refine ht _ ⟨a, xs, rfl, ?_⟩
  rcases hq with hq | hq
  · exact .inl ⟨.inl (.inl (keep 0 σ H h0 hq)), for_it walk_enum Pv h0 (fun j σ' G _ p => .inl (.inl (keep j σ' G p hq))) go (fun σ' G p => hd σ' G (by rw [← lx]; exact p))⟩
  · exact .inr ⟨.inl (.inl (keep 0 σ H h0 hq)), for_it EnT.walk_enT Pv h0 (fun j σ' G _ p => .inl (.inl (keep j σ' G p hq))) go (fun σ' G p => hd σ' G (by rw [← lx]; exact p))⟩
end K14.Gn
namespace K14.T69
open T27 T3
open K14.Gn
open PySem PySem.W PySem.Calls PyProof.Rows L2 LamX
open SX (S)
open TL (tl pre joinL)
/-! ### the texts that are written in the law -/
/-! ### the pieces -/
end K14.T69
namespace K14.T5
open T27 T3
open K14.Gn
open PySem PySem.W PySem.Calls PyProof.Rows L2 LamX
open He (ga)
open Kz (SS ExtS ExtS.trans small4 same_new boot_in boot_li new_ext Has pe_has noE boot_isi)
def topS (i : Nat) : Stmt := PySem.Challenge.pw_twinforks_k05_whole_plans_refused.main.body.getD i (.Pass ⟨0, 0, 0, 0⟩)
abbrev sIl : Stmt := topS 12
abbrev sBn : Stmt := topS 13
abbrev sNm : Stmt := topS 14
abbrev sFn : Stmt := topS 16
abbrev sCk : Stmt := topS 17
abbrev sEn : Stmt := topS 38
abbrev sLn : Stmt := topS 40
abbrev sSt : Stmt := topS 46
abbrev sDr : Stmt := topS 47
abbrev sPk : Stmt := topS 48
abbrev sMx : Stmt := topS 49
abbrev sSm : Stmt := topS 50
abbrev sLo : Stmt := topS 51
end K14.T5
namespace K14.T5
open T27 T3
open K14.Gn
open PySem PySem.W PySem.Calls PyProof.Rows L2 LamX RZ LiI
open He (ga)
open Kz (SS ExtS ExtS.trans spStart small4 same_new boot_in boot_li boot_isi tWhile_split shaped_int dpAll_int seq0 new_ext seqI Has pe_has noE rLen)
theorem scSt : FnScope ["script"] ["script"] (defScope sSt) := ⟨rfl, rfl, rfl, by decide +kernel, rfl, by decide +kernel, by decide +kernel⟩
theorem scDr : FnScope ["stream", "many", "cell", "digit", "mixed"] ["stream", "many"] (defScope sDr) := ⟨rfl, rfl, rfl, by decide +kernel, rfl, by decide +kernel, by decide +kernel⟩
theorem scMx : FnScope ["stream", "some", "left", "k"] ["stream", "some"] (defScope sMx) := ⟨rfl, rfl, rfl, by decide +kernel, rfl, by decide +kernel, by decide +kernel⟩
def scOf : List Stmt → Scope
  | [_, .Return (some (.ListComp _ _ sc _)) _] => sc
  | _ => defScope sMx
def mxSc : Scope := scOf (defBody sMx)
theorem scIl : FnScope ["thing"] ["thing"] (defScope sIl) := ⟨rfl, rfl, rfl, by decide +kernel, rfl, by decide +kernel, by decide +kernel⟩
theorem scSm : FnScope Nsm ["found", "due"] (defScope sSm) := ⟨rfl, rfl, rfl, by decide +kernel, rfl, by decide +kernel, by decide +kernel⟩
def scOfD : List Stmt → Scope
  | .If _ (_ :: .Return (some (.BoolOp _ [_, .Call _ [.ListComp _ _ sc _] _ _] _)) _ :: _) _ _ :: _ => sc
  | _ => defScope sSm
def smSc : Scope := scOfD (defBody sSm)
section
variable {P : Program} {w : World} {K : Frag} {mg : Str → Option Value} {base : Heap}
theorem ok_st {f : Addr} {fd : FuncData} (F : FunD K "_law_start" "_law_start" (defArgs sSt) (defBody sSt) (defScope sSt) [] [] f fd) (ml : mg "list" = none) : FnOk P w K mg base CX0 1 f fd ["script"] (spStart K) := by
  refine F.ok scSt (fun vs H Q E h => ?_) (fun cdv A outer s H vs Q XE hr h => ?_)
  · obtain ⟨a, ns, rfl, _⟩ := h
    rfl
  · obtain ⟨a, ns, rfl, hS, k⟩ := h
    refine ⟨_, PSs.nox (pss_one (ps_ret (pe_lst (pa_cons (pe_callTy call_list_of (by rfl) ml boot_li (pa_cons (pv 0) pa_nil)) (pa_cons pe_int (pa_cons pe_int (pa_cons pe_int pa_nil))))))), ?_⟩
    refine ⟨.ref a, rfl, a, _, rfl, .inl hS, fun li n1 => ⟨small4 4, fun l n2 => ?_⟩⟩
    have ne : l ≠ li := fun z => by
      rw [z, upd_same] at n2
      cases n2
    refine k _ l li ((same_new n1).trans (same_new n2)) ((same_new n1).free n2) n1 ⟨upd_same, by rw [upd_ne ne.symm, upd_same], ne, by decide, by decide, by decide, by decide⟩
theorem ok_drw {f : Addr} {fd : FuncData} (F : FunD K "_law_draw" "_law_draw" (defArgs sDr) (defBody sDr) (defScope sDr) [] [] f fd) (mi : mg "int" = none) : FnOk P w K mg base CX0 1 f fd ["stream", "many"] spDrW := by
  refine F.ok scDr (fun vs H Q E h => ?_) (fun cdv A outer s H vs Q XE hr h => ?_)
  · obtain ⟨l, li, c, many, rfl, _⟩ := h
    rfl
  · obtain ⟨l, li, c, many, rfl, ⟨ns, b, d, hs, nl⟩, m0, m1, c1, k0⟩ := h
    have k : ∀ (H' : Hp) (ns' : List Int) (b' d' r : Int), ExtS l li H H' → SS H' l li ns' b' (c + 1) d' → ns'.length ≤ 1000 → 0 ≤ r → r < many → Q (.int r) H' := fun H' ns' b' d' r e s n a1 a2 => k0 H' r e ⟨ns', b', d', s, n⟩ a1 a2
    refine ⟨_, PSs.nox (pss_cons (ps_asg (pe_op op_add (pe_ix ix_list (pv 0) pe_int (fun _ _ => rfl)) pe_int) (pg_sub (pv 0) pe_int set_list))
      (pss_cons (ps_while PassesOwn.never ((pw_and (pt_cmpR op_eq (pe_ix ix_list (pv 0) pe_int (fun _ _ => rfl)) pe_int (nomark _)) (pw_and1 (pt_cmpR (op_neD hr.units) (pe_ix ix_list (pv 0) pe_int (fun _ _ => rfl)) (pe_lst pa_nil) (nomark _)))).pt)
        (pss_cons (ps_set (i := 2) scDr.nd rfl (.inl rfl) (pe_bm PySem.F.plainAttrs_list PySem.F.slot_list_pop PySem.F.type_list_pop mt_popAt (pe_ix ix_list (pv 0) pe_int (fun _ _ => rfl)) (pa_cons pe_int pa_nil)))
        (pss_cons (ps_asg (pe_op op_mod (pe_callTy call_int1 (by rfl) mi boot_in (pa_cons (pe_op op_add (pe_op op_add (pe_op op_mul (pe_ix ix_list (pv 0) pe_int (fun _ _ => rfl)) pe_int) (pv 2)) pe_int) pa_nil)) pe_int) (pg_sub (pv 0) pe_int set_list))
        (pss_one (ps_asg (pe_ifExp (pt_cmpR op_ge (pv 2) (pe_op op_pow pe_int pe_int) (nomark _)) (pv 2) pe_int) (pg_sub (pv 0) pe_int set_list))))))
      (pss_cons (ps_if (pt_cmpR op_gt (pe_ix ix_list (pv 0) pe_int (fun _ _ => rfl)) pe_int (nomark _))
        (pss_cons (ps_set (i := 3) scDr.nd rfl (.inl rfl) (pe_op op_mod (pe_callTy call_int1 (by rfl) mi boot_in (pa_cons (pe_ix ix_list (pv 0) pe_int (fun _ _ => rfl)) pa_nil)) (pv 1)))
        (pss_cons (ps_asg (pe_op op_fdiv (pe_ix ix_list (pv 0) pe_int (fun _ _ => rfl)) (pv 1)) (pg_sub (pv 0) pe_int set_list))
        (pss_one (ps_ret (pv 3))))) pss_nil)
      (pss_cons (ps_set (i := 4) scDr.nd rfl (.inl rfl) (pe_op op_mod (pe_callTy call_int1 (by rfl) mi boot_in (pa_cons (pe_op op_pow (pe_op op_add (pe_op op_add (pe_ix ix_list (pv 0) pe_int (fun _ _ => rfl)) (pe_op op_mul pe_int (pe_ix ix_list (pv 0) pe_int (fun _ _ => rfl)))) pe_int) pe_int) pa_nil)) pe_int))
      (pss_one (ps_ret (pe_op op_mod (pe_op op_mod (pe_callTy call_int1 (by rfl) mi boot_in (pa_cons (pe_op op_pow (pe_op op_add (pe_op op_add (pe_op op_mul (pv 4) pe_int) (pe_op op_mul pe_int (pe_ix ix_list (pv 0) pe_int (fun _ _ => rfl)))) pe_int) pe_int) pa_nil)) pe_int) (pv 1)))))))), ?_⟩
    have q2 := hs.set (b' := b) (c' := c + 1) (d' := d) hs.b0 (by have := hs.c0; omega) hs.d0 hs.d1
    refine ⟨.ref l, rfl, l, _, 2, .int c, rfl, rfl, .inl (.inl hs.l1), atI_nat (j := 2) rfl, c, 1, rfl, rfl, .ref l, rfl, l, _, 2, 2, rfl, rfl, hs.l1, rfl, ?_⟩
    refine tWhile_split (fun σ H' => ∃ (x2 : Option V) (ns' : List Int) (b' d' : Int), σ = [some (.ref l), some (.int many), x2, none, none] ∧ SS H' l li ns' b' (c + 1) d' ∧ ExtS l li H H' ∧ ns'.length ≤ 1000) (fun σ H' ⟨x2, ns', b', d', e, s, ex, nl'⟩ => ?_) (fun after => ?_)
    · subst e
      have c0 := s.c0
      have d0 := s.d0
      have d1 := s.d1
      have c00 := hs.c0
      refine ⟨.ref l, rfl, l, _, 1, .int b', rfl, rfl, .inl (.inl s.l1), atI_nat (j := 1) rfl, b', 0, rfl, rfl, _, rfl, ite2 (fun e => ?_) (fun e => ?_)⟩
      · refine ⟨.ref l, rfl, l, _, 1, .int b', rfl, rfl, .inl (.inl s.l1), atI_nat (j := 1) rfl, .inl ⟨_, rfl, .int many, rfl, b', many, rfl, rfl, m0, ?_⟩⟩
        obtain ⟨s2, ex2⟩ := s.set (b' := b' / many) (c' := c + 1) (d' := d') (Int.ediv_nonneg s.b0 (Int.le_of_lt m0)) c0 d0 d1
        refine ⟨.ref l, rfl, l, _, 1, .int b', rfl, rfl, .inl (.inl s.l1), atI_nat (j := 1) rfl, .int many, rfl, b', many, rfl, rfl, ⟨m0, by show many < 1073741824; omega⟩, .ref l, rfl, l, _, 1, 1, rfl, rfl, s.l1, rfl, .int (b' % many), rfl, ?_⟩
        exact k _ ns' _ d' _ (ex.trans ex2) s2 nl' (Int.emod_nonneg _ (by omega)) (Int.emod_lt_of_pos _ m0)
      · have t1 : (6151 : Int) * (c + 1) = 6151 * c + 6151 := by omega
        have t2 : (40009 : Int) * (c + 1) = 40009 * c + 40009 := by omega
        refine ⟨.ref l, rfl, l, _, 3, .int d', rfl, rfl, .inl (.inl s.l1), atI_nat (j := 3) rfl, .ref l, rfl, l, _, 2, .int (c + 1), rfl, rfl, .inl (.inl s.l1), atI_nat (j := 2) rfl, 6151, c + 1, rfl, rfl, .inl ⟨by decide, by decide⟩, d', _, rfl, rfl, _, 130003, rfl, rfl, _, 5, rfl, rfl,
          ⟨by decide, by decide, ?_⟩, .inl ⟨_, rfl, _, 2147483629, rfl, rfl, (show (0:Int) < 2147483629 by decide), ?_⟩⟩
        · rw [t1]
          show Int.natAbs _ < 18446744073709551616
          omega
        · have x0 : ∀ z : Int, 0 ≤ z % 2147483629 := fun z => Int.emod_nonneg _ (by decide)
          have x1 : ∀ z : Int, z % 2147483629 < 2147483629 := fun z => Int.emod_lt_of_pos _ (by decide)
          have x2 := x0 ((d' + 6151 * (c + 1) + 130003) ^ (5 : Int).toNat)
          have x3 := x1 ((d' + 6151 * (c + 1) + 130003) ^ (5 : Int).toNat)
          refine ⟨_, rfl, _, 69621, rfl, rfl, .inl ⟨by omega, by omega⟩, .ref l, rfl, l, _, 2, .int (c + 1), rfl, rfl, .inl (.inl s.l1), atI_nat (j := 2) rfl, 40009, c + 1, rfl, rfl, .inl ⟨by decide, by decide⟩, _, _, rfl, rfl, _, 31, rfl, rfl, _, 3, rfl, rfl, ⟨by decide, by decide, ?_⟩,
            .inl ⟨_, rfl, _, 1000000007, rfl, rfl, (show (0:Int) < 1000000007 by decide), .int many, rfl, _, many, rfl, rfl, m0, ?_⟩⟩
          · rw [t2]
            show Int.natAbs _ < 18446744073709551616
            omega
          · exact k _ ns' b' d' _ ex s nl' (Int.emod_nonneg _ (by omega)) (Int.emod_lt_of_pos _ m0)
    · refine ⟨fun m σ H' => ∃ x2, σ = [some (.ref l), some (.int many), x2, none, none] ∧ ∃ (ns' : List Int) (b' d' : Int), SS H' l li ns' b' (c + 1) d' ∧ ExtS l li H H' ∧ ns'.length ≤ 1000 ∧ m = ns'.length, ⟨ns.length, none, rfl, ns, b, d, q2.1, q2.2, nl, rfl⟩, fun m σ H' hW => ?_⟩
      obtain ⟨x2, rfl, ns', b', d', s, ex, nl', rfl⟩ := hW
      have c0 := s.c0
      have d0 := s.d0
      have d1 := s.d1
      refine ⟨.ref l, rfl, l, _, 1, .int b', rfl, rfl, .inl (.inl s.l1), atI_nat (j := 1) rfl, rfl, _, rfl, ite2 (fun e => ?_) (fun e => ?_)⟩
      · refine ⟨.ref l, rfl, l, _, 0, .ref li, rfl, rfl, .inl (.inl s.l1), atI_nat (j := 0) rfl, Nat.zero_le _, fun p np => ?_⟩
        obtain ⟨s2, ex2⟩ := s.new (o := .lst []) np
        refine ⟨.list (ns'.map PyData.int), .list [], .lst (.inl (.inl s2.l2)) (dpAll_int _), .lst (.inl (.inl upd_same)) .nil, shaped_int _ , rfl, _, rfl, ?_⟩
        cases ns' with
        | nil => exact iteF (after _ _ ⟨x2, [], b', d', rfl, s2, ex.trans ex2, nl'⟩)
        | cons n r =>
          obtain ⟨s3, ex3⟩ := s2.pop
          refine iteT ⟨fun σ' H' => ∃ x2, σ' = [some (.ref l), some (.int many), x2, none, none] ∧ ∃ (b' d' : Int), SS H' l li r b' (c + 1) d' ∧ ExtS l li H H', fun σ' H' ⟨y2, e1, b2, d2, e2, e3⟩ => ⟨r.length, Nat.lt_succ_self _, y2, e1, r, b2, d2, e2, e3, by simp at nl'; omega, rfl⟩, ?_⟩
          refine ⟨.ref l, rfl, l, _, 0, .ref li, rfl, rfl, .inl (.inl s2.l1), atI_nat (j := 0) rfl, .inl ⟨rfl, _, .inl (.inl s2.l2)⟩, li, _, 0, 0, .int n, rfl, rfl, s2.l2, by decide, by decide, seq0 _ _, rfl, ?_⟩
          have hd : 0 ≤ (d' * 65599 + n + 7) % 2147483647 := Int.emod_nonneg _ (by decide)
          have hd1 : (d' * 65599 + n + 7) % 2147483647 < 2147483647 := Int.emod_lt_of_pos _ (by decide)
          obtain ⟨s4, ex4⟩ := s3.set (b' := b') (c' := c + 1) (d' := (d' * 65599 + n + 7) % 2147483647) s.b0 c0 hd hd1
          refine ⟨.ref l, rfl, l, _, 3, .int d', rfl, rfl, .inl (.inl s3.l1), atI_nat (j := 3) rfl, d', 65599, rfl, rfl, .inl ⟨by omega, by omega⟩, .int n, rfl, _, n, rfl, rfl, _, 7, rfl, rfl, .inl ⟨_, rfl, _, 2147483647, rfl, rfl, (show (0:Int) < 2147483647 by decide), .ref l, rfl, l, _, 3, 3, rfl, rfl, s3.l1, rfl, ?_⟩⟩
          have exx := ((ex.trans ex2).trans ex3).trans ex4
          refine ⟨.int n, rfl, 10, 18, rfl, rfl, ⟨by decide, by decide, by decide⟩, n, _, rfl, rfl, _, rfl, ite2 (fun g => ?_) (fun g => ?_)⟩
          · have n0 : 0 ≤ n := by
              have g1 := of_decide_eq_true g
              have g2 : ((10 : Int) ^ (18 : Int).toNat) = 1000000000000000000 := by decide
              rw [g2] at g1
              omega
            obtain ⟨s5, ex5⟩ := s4.set (b' := n) (c' := c + 1) (d' := (d' * 65599 + n + 7) % 2147483647) n0 c0 hd hd1
            exact ⟨.int n, rfl, .ref l, rfl, l, _, 1, 1, rfl, rfl, s4.l1, rfl, _, rfl, n, _, s5, exx.trans ex5⟩
          · obtain ⟨s5, ex5⟩ := s4.set (b' := 0) (c' := c + 1) (d' := (d' * 65599 + n + 7) % 2147483647) (Int.le_refl _) c0 hd hd1
            exact ⟨.ref l, rfl, l, _, 1, 1, rfl, rfl, s4.l1, rfl, _, rfl, 0, _, s5, exx.trans ex5⟩
      · exact iteF (after _ _ ⟨x2, ns', b', d', rfl, s, ex, nl'⟩)
theorem ok_il {f : Addr} {fd : FuncData} (F : FunD K "is_list" "is_list" (defArgs sIl) (defBody sIl) (defScope sIl) [] [] f fd) (mi : mg "isinstance" = none) (ml : mg "list" = none) (mt : mg "tuple" = none) : FnOk P w K mg base CX0 1 f fd ["thing"] (spLook isL) := by
  refine F.ok scIl (fun vs H Q E h => ?_) (fun cdv A outer s H vs Q XE hr h => ?_)
  · obtain ⟨v, d, rfl, _⟩ := h
    rfl
  · obtain ⟨v, d, rfl, hv, k⟩ := h
    refine ⟨_, PSs.nox (pss_one (ps_ret (pe_callB call_isiT (by rfl) mi boot_isi (pa_cons (pv 0) (pa_cons (pe_tup (pa_cons (pe_bltn (by rfl) ml boot_li (v := .ty "list") rfl) (pa_cons (pe_bltn (by rfl) mt boot_tu (v := .ty "tuple") rfl) pa_nil))) pa_nil))))), ?_⟩
    refine ⟨v, rfl, small4 2, fun p np => ⟨v, p, _, _, _, _, rfl, upd_same, .cons (.ty _) (.cons (.ty _) .nil), (hv.ext (same_new np)).ty, is_lt d, k _ (same_new np)⟩⟩
/-- things that are no lists and no dicts -/
theorem sm_flat (B : BtK mg) {f : Addr} {cdv : Value} {A : Around} {outer : List Env} {s : Shared} {H : Hp} {Q : VK} {XE : XK} {v u : V} {d : PyData} (hv : Th H v d) (hu : Th H u d) (l0 : isL d = false) (d0 : isD d = false) (k : ∀ H', L2.Same H H' → Q (.bl true) H') :
    ∃ t, PSs (cxOf CX0 P w K mg base Nsm "_law_same" (defScope sSm) f cdv A outer s H XE) (defBody sSm) t ∧ t { nx := fun _ H' => Q .non H', rt := Q } (L2.start Nsm [v, u]) H := by
  refine ⟨_, PSs.nox (pss_cons (ps_if (pt_val (pe_callB call_isiT (by rfl) B.is boot_isi (pa_cons (pv 1) (pa_cons (pe_tup (pa_cons (pe_bltn (by rfl) B.li boot_li (v := .ty "list") rfl) (pa_cons (pe_bltn (by rfl) B.tu boot_tu (v := .ty "tuple") rfl) pa_nil))) pa_nil)))) pss_never pss_nil)
    (pss_cons (ps_if (pt_val (pe_callB call_isi (by rfl) B.is boot_isi (pa_cons (pv 1) (pa_cons (pe_bltn (by rfl) B.di boot_di (v := .ty "dict") rfl) pa_nil)))) pss_never pss_nil)
    (pss_cons (ps_if (pt_val (pe_callB call_isi (by rfl) B.is boot_isi (pa_cons (pv 1) (pa_cons (pe_bltn (by rfl) B.it boot_in (v := .ty "int") rfl) pa_nil))))
      (pss_one (ps_ret (pe_and (pe_callB call_isi (by rfl) B.is boot_isi (pa_cons (pv 0) (pa_cons (pe_bltn (by rfl) B.it boot_in (v := .ty "int") rfl) pa_nil))) (pe_and (pe_cmpR op_eq (pe_callB call_isi (by rfl) B.is boot_isi (pa_cons (pv 0) (pa_cons (pe_bltn (by rfl) B.bo boot_bo (v := .ty "bool") rfl) pa_nil))) (pe_callB call_isi (by rfl) B.is boot_isi (pa_cons (pv 1) (pa_cons (pe_bltn (by rfl) B.bo boot_bo (v := .ty "bool") rfl) pa_nil))) (nomark _))
        (pe_one (pe_cmpR op_eq (pv 0) (pv 1) (nomark _))))))) pss_nil)
    (pss_one (ps_ret (pe_and (pe_not (pe_callB call_isiT (by rfl) B.is boot_isi (pa_cons (pv 0) (pa_cons (pe_tup (pa_cons (pe_bltn (by rfl) B.it boot_in (v := .ty "int") rfl) (pa_cons (pe_bltn (by rfl) B.li boot_li (v := .ty "list") rfl) (pa_cons (pe_bltn (by rfl) B.tu boot_tu (v := .ty "tuple") rfl) (pa_cons (pe_bltn (by rfl) B.di boot_di (v := .ty "dict") rfl) pa_nil))))) pa_nil)))) (pe_one (pe_cmpR op_eq (pv 0) (pv 1) (nomark _))))))))), ?_⟩
  refine ⟨u, rfl, small4 2, fun p np => ⟨u, p, _, _, _, _, rfl, upd_same, .cons (.ty _) (.cons (.ty _) .nil), (hu.ext (same_new np)).ty, is_lt d, _, rfl, ?_⟩⟩
  rw [l0]
  have e1 : L2.Same H (upd H p (.tup [.ty "list", .ty "tuple"])) := same_new np
  generalize upd H p (.tup [.ty "list", .ty "tuple"]) = H1 at e1 ⊢
  have hv1 := hv.ext e1
  have hu1 := hu.ext e1
  refine iteF ⟨u, rfl, u, _, _, _, _, rfl, .ty _, hu1.ty, is_di d, _, rfl, ?_⟩
  rw [d0]
  refine iteF ⟨u, rfl, u, _, _, _, _, rfl, .ty _, hu1.ty, kit_in d, _, rfl, ?_⟩
  cases li : isIn d with
  | true =>
    have sc : v = u ∧ scal v u = true := by
      cases hv1 <;> cases hu1 <;> first | exact ⟨rfl, rfl⟩ | exact absurd (show false = true from li) Bool.false_ne_true
    refine iteT ⟨v, rfl, v, _, _, _, _, rfl, .ty _, hv1.ty, kit_in d, _, rfl, ?_⟩
    rw [li]
    refine iteT ⟨v, rfl, v, _, _, _, _, rfl, .ty _, hv1.ty, kit_bo d, u, rfl, u, _, _, _, _, rfl, .ty _, hu1.ty, kit_bo d, rfl, _, rfl, ?_⟩
    rw [decide_eq_true rfl]
    refine iteT ⟨v, rfl, u, rfl, sc.2, ?_⟩
    rw [decide_eq_true sc.1]
    exact k _ e1
  | false =>
    have sc : v = u ∧ scal v u = true ∧ isAny d = false := by
      cases hv1 <;> cases hu1 <;> first | exact ⟨rfl, rfl, rfl⟩ | exact absurd (show true = false from li) (fun z => nomatch z) | exact absurd (show true = false from l0) (fun z => nomatch z) | exact absurd (show true = false from d0) (fun z => nomatch z)
    refine iteF ⟨v, rfl, small4 4, fun q nq => ⟨v, q, _, _, _, _, rfl, upd_same, .cons (.ty _) (.cons (.ty _) (.cons (.ty _) (.cons (.ty _) .nil))), (hv1.ext (same_new nq)).ty, kit_an d, _, rfl, _, rfl, ?_⟩⟩
    rw [sc.2.2]
    refine iteT ⟨v, rfl, u, rfl, sc.2.1, ?_⟩
    rw [decide_eq_true sc.1]
    exact k _ (e1.trans (same_new nq))
/-- the found and the due thing are of one data: the answer is True -/
theorem ok_sm {f : Addr} {fd : FuncData} (F : FunD K "_law_same" "_law_same" (defArgs sSm) (defBody sSm) (defScope sSm) [] [] f fd) (mm : mg "_law_same" = some (.ref f)) (kp : keepIn K (.ref f) = true) (bd : L2.Binds K fd ["found", "due"] []) (B : BtK mg) : ∀ n, FnOk P w K mg base CX0 (n + 1) f fd ["found", "due"] (spSm n) := by
  intro n
  induction n with
  | zero =>
    refine F.ok scSm (fun vs H Q E h => sm_len h) (fun cdv A outer s H vs Q XE hr h => ?_)
    obtain ⟨v, u, d, rfl, hv, hu, hf, k⟩ := h
    refine sm_flat B hv hu ?_ ?_ k
    · cases d <;> first | rfl | exact absurd (show false = true from hf) Bool.false_ne_true
    · cases d <;> first | rfl | exact absurd (show false = true from hf) Bool.false_ne_true
  | succ n ih =>
    have SELF : Has P w K mg base "_law_same" (n + 1) ["found", "due"] (spSm n) := ⟨f, fd, mm, kp, bd, ih⟩
    refine F.ok scSm (fun vs H Q E h => sm_len h) (fun cdv A outer s H vs Q XE hr h => ?_)
    obtain ⟨v, u, d, rfl, hv, hu, hf, k⟩ := h
    have t0 : ∀ {G : Hp} (p : Addr), G p = none → L2.Same G (upd G p (.tup [.ty "list", .ty "tuple"])) := fun p n => same_new n
    cases l0 : isL d with
    | true =>
      refine ⟨_, PSs.nox (pss_cons (ps_if (pt_val (pe_callB call_isiT (by rfl) B.is boot_isi (pa_cons (pv 1) (pa_cons (pe_tup (pa_cons (pe_bltn (by rfl) B.li boot_li (v := .ty "list") rfl) (pa_cons (pe_bltn (by rfl) B.tu boot_tu (v := .ty "tuple") rfl) pa_nil))) pa_nil))))
        (pss_cons (ps_if ((pw_or (pt_cmpR op_ne (pe_callB call_isi (by rfl) B.is boot_isi (pa_cons (pv 0) (pa_cons (pe_bltn (by rfl) B.li boot_li (v := .ty "list") rfl) pa_nil))) (pe_callB call_isi (by rfl) B.is boot_isi (pa_cons (pv 1) (pa_cons (pe_bltn (by rfl) B.li boot_li (v := .ty "list") rfl) pa_nil))) (nomark _))
          (pw_or1 (pt_cmpR op_ne (pe_callB call_isi (by rfl) B.is boot_isi (pa_cons (pv 0) (pa_cons (pe_bltn (by rfl) B.tu boot_tu (v := .ty "tuple") rfl) pa_nil))) (pe_callB call_isi (by rfl) B.is boot_isi (pa_cons (pv 1) (pa_cons (pe_bltn (by rfl) B.tu boot_tu (v := .ty "tuple") rfl) pa_nil))) (nomark _)))).pt) (pss_one (ps_ret pe_bl)) pss_nil)
        (pss_one (ps_ret (pe_and (pe_cmpR op_eq (pe_callB call_len_seq (by rfl) B.ln boot_len (pa_cons (pv 0) pa_nil)) (pe_callB call_len_seq (by rfl) B.ln boot_len (pa_cons (pv 1) pa_nil)) (nomark _)) (pe_one (pe_callB (cr_all rfl) (by rfl) B.al boot_all (pa_cons
          (pe_lc (X := (cxOf CX0 P w K mg base Nsm "_law_same" (defScope sSm) f cdv A outer s H XE).nox) (te := tCall (spSm n) [] noE (tCons (tVar 2) (tCons (tVar 3) tNil))) (scope := smSc) (own := [("x", 2), ("y", 3)]) (g := gTup K 2 (gCons (gName 2) (gCons (gName 3) gNil))) (tt := tYes) rfl scSm.nd (pi_zipA (by rfl) B.zi (pa_cons (pv 0) (pa_cons (pv 1) pa_nil))) (blkOk_by (N := Nsm) (sc := defScope sSm) (by decide +kernel))
            (fun _ _ _ _ _ => pg_tup rfl (pgs_cons (pg_name (i := 2) scSm.nd rfl (Or.inl rfl)) (pgs_cons (pg_name (i := 3) scSm.nd rfl (Or.inl rfl)) pgs_nil))) (fun _ _ _ _ _ => pts_nil)
            (fun s0 H0 C0 cl0 fp0 => pe_has (X := Cx.blk ((cxOf CX0 P w K mg base Nsm "_law_same" (defScope sSm) f cdv A outer s H XE).nox) s0 H0 smSc (compEnvC smSc cl0 C0 (Cx.env ((cxOf CX0 P w K mg base Nsm "_law_same" (defScope sSm) f cdv A outer s H XE).nox))) fp0) SELF hr (by rfl) (pa_cons (pv 2) (pa_cons (pv 3) pa_nil)))) pa_nil))))))) pss_nil) pss_never), ?_⟩
      obtain ⟨m, em, len, fits⟩ : ∃ m, n + 1 = m + 1 ∧ (its d).length ≤ 1000 ∧ ∀ x ∈ its d, fitS m x = true := by
        cases d with
        | list xs =>
          obtain ⟨h1, h2⟩ := Bool.and_eq_true_iff.mp (show (decide (xs.length ≤ 1000) && xs.all (fitS n)) = true from hf)
          exact ⟨n, rfl, of_decide_eq_true h1, fun x hx => List.all_eq_true.mp h2 x hx⟩
        | tuple xs =>
          obtain ⟨h1, h2⟩ := Bool.and_eq_true_iff.mp (show (decide (xs.length ≤ 1000) && xs.all (fitS n)) = true from hf)
          exact ⟨n, rfl, of_decide_eq_true h1, fun x hx => List.all_eq_true.mp h2 x hx⟩
        | _ => exact absurd (show false = true from l0) Bool.false_ne_true
      obtain rfl : n = m := Nat.succ.inj em
      refine ⟨u, rfl, small4 2, fun p np => ⟨u, p, _, _, _, _, rfl, upd_same, .cons (.ty _) (.cons (.ty _) .nil), (hu.ext (same_new np)).ty, is_lt d, _, rfl, ?_⟩⟩
      rw [l0]
      have e1 : L2.Same H (upd H p (.tup [.ty "list", .ty "tuple"])) := same_new np
      generalize upd H p (.tup [.ty "list", .ty "tuple"]) = H1 at e1 ⊢
      have hv1 := hv.ext e1
      have hu1 := hu.ext e1
      refine iteT ⟨v, rfl, v, _, _, _, _, rfl, .ty _, hv1.ty, kit_ls d, u, rfl, u, _, _, _, _, rfl, .ty _, hu1.ty, kit_ls d, rfl, _, rfl, ?_⟩
      rw [decide_eq_true rfl]
      refine iteF ⟨v, rfl, v, _, _, _, _, rfl, .ty _, hv1.ty, kit_tu d, u, rfl, u, _, _, _, _, rfl, .ty _, hu1.ty, kit_tu d, rfl, _, rfl, ?_⟩
      rw [decide_eq_true rfl]
      refine iteF ?_
      have kind : ∃ (a b : Addr) (xs ys : List V), v = .ref a ∧ u = .ref b ∧ ThAll H1 xs (its d) ∧ ThAll H1 ys (its d) ∧ ((H1 a = some (.lst xs) ∧ H1 b = some (.lst ys)) ∨ (H1 a = some (.tup xs) ∧ H1 b = some (.tup ys))) := by
        cases hv1 with
        | lst h r => cases hu1 with | lst h2 r2 => exact ⟨_, _, _, _, rfl, rfl, r, r2, .inl ⟨h, h2⟩⟩
        | tup h r => cases hu1 with | tup h2 r2 => exact ⟨_, _, _, _, rfl, rfl, r, r2, .inr ⟨h, h2⟩⟩
        | _ => exact absurd (show false = true from l0) Bool.false_ne_true
      obtain ⟨a, b, xs, ys, rfl, rfl, rx, ry, hk⟩ := kind
      have lx : xs.length = (its d).length := rx.length
      have ly : ys.length = (its d).length := ry.length
      have sA : SqL K H1 a xs ∨ SqT K H1 a xs := hk.elim (fun q => .inl (.inl (.inl q.1))) fun q => .inr (.inl (.inl q.1))
      have sB : SqL K H1 b ys ∨ SqT K H1 b ys := hk.elim (fun q => .inl (.inl (.inl q.2))) fun q => .inr (.inl (.inl q.2))
      refine ⟨.ref a, rfl, a, xs, rfl, sA, .ref b, rfl, b, ys, rfl, sB, rfl, _, rfl, ?_⟩
      rw [lx, ly, decide_eq_true rfl]
      refine iteT ⟨.ref a, rfl, .ref b, rfl, a, b, xs, ys, rfl, ?_⟩
      let Pv (D0 : Addr) (j : Nat) (H2 : Hp) : Prop := L2.Same H1 H2 ∧ H2 D0 = some (.lst ((List.replicate j true).map V.bl))
      have start : ∀ D0, H1 D0 = none → Pv D0 0 (upd H1 D0 (.lst [])) := fun D0 hD => ⟨same_new hD, upd_same⟩
      have turn : ∀ D0, H1 D0 = none → ∀ (j : Nat) (x : V) (H2 H3 : Hp) (σ : L2.St), j < (its d).length → Pv D0 j H2 → YPair (fun i => xs[i]?) (fun i => ys[i]?) j H2 x H3 → σ = [some (.ref a), some (.ref b), none, none] →
          gTup K 2 (gCons (gName 2) (gCons (gName 3) gNil)) x σ H3 fun σ2 H4 => wipe σ2 [2, 3] = wipe σ [2, 3] ∧ tYes σ2 H4 fun c H5 => if c = true then tCall (spSm n) [] noE (tCons (tVar 2) (tCons (tVar 3) tNil)) σ2 H5 fun y H6 => ∃ acc, H6 D0 = some (.lst acc) ∧ acc.length < sizeLine ∧ Pv D0 (j + 1) (upd H6 D0 (.lst (acc ++ [y]))) else Pv D0 (j + 1) H5 := by
        intro D0 hD j x H2 H3 σ hj hp hy es
        subst es
        obtain ⟨T, x0, y0, rfl, nT, rfl, g1, g2⟩ := hy
        obtain ⟨q1, q2⟩ := hp
        obtain ⟨z, hz, tz⟩ := rx.get g1
        obtain ⟨z2, hz2, tz2⟩ := ry.get g2
        rw [hz] at hz2
        obtain rfl := Option.some.inj hz2
        have eT : L2.Same H2 (upd H2 T (.tup [x0, y0])) := same_new nT
        refine ⟨T, [x0, y0], rfl, .inl (.inl upd_same), rfl, x0, [y0], rfl, y0, [], rfl, rfl, rfl, ?_⟩
        unfold tYes
        show (if true = true then _ else _)
        rw [if_pos rfl]
        refine ⟨x0, rfl, y0, rfl, x0, y0, z, rfl, tz.ext (q1.trans eT), tz2.ext (q1.trans eT), fits z (List.mem_of_getElem? hz), fun H6 e6 => ⟨_, e6 _ _ (eT _ _ q2), ?_, fun c o ec => ?_, ?_⟩⟩
        · rw [List.length_map, List.length_replicate, sizeLine_eq]
          omega
        · rw [upd_ne (ne_of_none ec hD)]
          exact e6 _ _ (eT _ _ (q1 _ _ ec))
        · rw [upd_same, List.replicate_succ', List.map_append]
          rfl
      have fin : ∀ D0, H1 D0 = none → ∀ H2, Pv D0 (its d).length H2 → rAll K [.ref D0] H2 Q := fun D0 hD H2 ⟨q1, q2⟩ => by
        refine ⟨D0, List.replicate (its d).length true, rfl, .inl (.inl q2), ?_⟩
        have e : (List.replicate (its d).length true).all id = true := List.all_eq_true.mpr fun x hx => (List.mem_replicate.mp hx).2
        rw [e]
        exact k H2 (e1.trans q1)
      rcases hk with ⟨ha, hb⟩ | ⟨ha, hb⟩
      · exact .inl ⟨.inl (.inl ha), .inl (.inl hb), fun D0 hD => lc_it (walk_zip (n := (its d).length) (by omega)) (Pv D0) (start D0 hD) (fun i H2 _ e => ⟨.inl (.inl (e.1 _ _ ha)), .inl (.inl (e.1 _ _ hb))⟩) (fun i x H2 H3 hi e hy => turn D0 hD i x H2 H3 _ hi e hy rfl) (fun H2 e => fin D0 hD H2 e)⟩
      · exact .inr ⟨.inl (.inl ha), .inl (.inl hb), fun D0 hD => lc_it (walk_zipT (n := (its d).length) (by omega)) (Pv D0) (start D0 hD) (fun i H2 _ e => ⟨.inl (.inl (e.1 _ _ ha)), .inl (.inl (e.1 _ _ hb))⟩) (fun i x H2 H3 hi e hy => turn D0 hD i x H2 H3 _ hi e hy rfl) (fun H2 e => fin D0 hD H2 e)⟩
    | false =>
      cases d0 : isD d with
      | false => exact sm_flat B hv hu l0 d0 k
      | true =>
        refine ⟨_, PSs.nox (pss_cons (ps_if (pt_val (pe_callB call_isiT (by rfl) B.is boot_isi (pa_cons (pv 1) (pa_cons (pe_tup (pa_cons (pe_bltn (by rfl) B.li boot_li (v := .ty "list") rfl) (pa_cons (pe_bltn (by rfl) B.tu boot_tu (v := .ty "tuple") rfl) pa_nil))) pa_nil)))) pss_never pss_nil)
          (pss_cons (ps_if (pt_val (pe_callB call_isi (by rfl) B.is boot_isi (pa_cons (pv 1) (pa_cons (pe_bltn (by rfl) B.di boot_di (v := .ty "dict") rfl) pa_nil))))
            (pss_one (ps_ret (pe_and (pe_callB call_isi (by rfl) B.is boot_isi (pa_cons (pv 0) (pa_cons (pe_bltn (by rfl) B.di boot_di (v := .ty "dict") rfl) pa_nil))) (pe_one (pe_has SELF hr (by rfl) (pa_cons (pe_listItems rfl (pv 0) (by rfl) B.li boot_li) (pa_cons (pe_listItems rfl (pv 1) (by rfl) B.li boot_li) pa_nil))))))) pss_nil) pss_never)), ?_⟩
        refine ⟨u, rfl, small4 2, fun p np => ⟨u, p, _, _, _, _, rfl, upd_same, .cons (.ty _) (.cons (.ty _) .nil), (hu.ext (same_new np)).ty, is_lt d, _, rfl, ?_⟩⟩
        rw [l0]
        have e1 : L2.Same H (upd H p (.tup [.ty "list", .ty "tuple"])) := same_new np
        generalize upd H p (.tup [.ty "list", .ty "tuple"]) = H1 at e1 ⊢
        have hv1 := hv.ext e1
        have hu1 := hu.ext e1
        refine iteF ⟨u, rfl, u, _, _, _, _, rfl, .ty _, hu1.ty, is_di d, _, rfl, ?_⟩
        rw [d0]
        refine iteT ⟨v, rfl, v, _, _, _, _, rfl, .ty _, hv1.ty, is_di d, _, rfl, ?_⟩
        rw [d0]
        cases hv1 with
        | @dct a kvs ps h r =>
          cases hu1 with
          | @dct b kvs2 ps2 h2 r2 =>
            obtain ⟨f1, f2⟩ := Bool.and_eq_true_iff.mp (show (decide (ps.length ≤ 1000) && fitS n (.list (ps.map fun p => .tuple [p.1, p.2]))) = true from hf)
            refine iteT ⟨.ref a, rfl, a, kvs, rfl, h, fun H2 q ts e2 nq nt nm hq pr => ?_⟩
            refine ⟨.ref b, rfl, b, kvs2, rfl, e2 _ _ h2, fun H3 q2 ts2 e3 nq2 nt2 nm2 hq2 pr2 => ?_⟩
            have ta : Th H3 (.ref q) (.list (ps.map fun p => .tuple [p.1, p.2])) := (Th.lst hq (th_items e2 pr r)).ext e3
            have tb : Th H3 (.ref q2) (.list (ps.map fun p => .tuple [p.1, p.2])) := .lst hq2 (th_items (fun b o z => e3 b o (e2 b o z)) pr2 r2)
            exact ⟨.ref q, .ref q2, _, rfl, ta, tb, f2, fun H' e => k H' (e1.trans (fun b o z => e b o (e3 b o (e2 b o z))))⟩
        | _ => exact absurd (show false = true from d0) Bool.false_ne_true
end
end K14.T5
namespace K14.T5
open T27 T3
open K14.Gn
open PySem PySem.W PySem.Calls PyProof.Rows L2 LamX
open He (ga)
open Kz (small4 same_new boot_in boot_li boot_isi Has pe_has noE)
theorem scBn : FnScope ["word", "sign"] ["word"] (defScope sBn) := ⟨rfl, rfl, rfl, by decide +kernel, rfl, by decide +kernel, by decide +kernel⟩
theorem scNm : FnScope ["thing"] ["thing"] (defScope sNm) := ⟨rfl, rfl, rfl, by decide +kernel, rfl, by decide +kernel, by decide +kernel⟩
theorem scFn : FnScope ["ends", "stood", "at", "end"] ["ends"] (defScope sFn) := ⟨rfl, rfl, rfl, by decide +kernel, rfl, by decide +kernel, by decide +kernel⟩
theorem scCk : FnScope ["ends", "at"] ["ends"] (defScope sCk) := ⟨rfl, rfl, rfl, by decide +kernel, rfl, by decide +kernel, by decide +kernel⟩
def scOfB1 : List Stmt → Scope
  | [_, .Return (some (.Call _ [.ListComp _ _ sc _] _ _)) _] => sc
  | _ => defScope sBn
def bnSc : Scope := scOfB1 (defBody sBn)
theorem bdBn : defBody sBn = [stOf sBn 0, stOf sBn 1] := by rfl
section
variable {P : Program} {w : World} {K : Frag} {mg : Str → Option Value} {base : Heap}
theorem ok_bn {f : Addr} {fd : FuncData} (F : FunD K "begins_name" "begins_name" (defArgs sBn) (defBody sBn) (defScope sBn) [] [] f fd) (N : NmK K mg) : FnOk P w K mg base CX0 1 f fd ["word"] spBn := by
  obtain ⟨t1, g1⟩ := N.ll
  obtain ⟨t2, g2⟩ := N.ns
  obtain ⟨t3, g3⟩ := N.ln
  refine F.ok scBn (fun vs H Q E h => ?_) (fun cdv A outer s H vs Q XE hr h => ?_)
  · obtain ⟨s, rfl, _⟩ := h
    rfl
  · obtain ⟨z, rfl, hz, k⟩ := h
    have h0 : PS (cxOf CX0 P w K mg base ["word", "sign"] "begins_name" (defScope sBn) f cdv A outer s H XE).nox (stOf sBn 0) _ := ps_if ((pw_or (pt_not (pt_chain op_lt op_le pe_int (pe_callB call_len_str (by rfl) N.len boot_len (pa_cons (pv 0) pa_nil)) (pe_glob (v := .int 8) (by rfl) g3 ⟨_, rfl⟩ (by decide)))))
      (pw_or1 (pt_cmpR op_notIn_sign (pe_ix ix_str (pv 0) pe_int (fun _ _ => rfl)) (pe_glob (v := .str letters) (by rfl) g1 ⟨_, rfl⟩ (by decide)) (by rfl)))).pt (pss_one (ps_ret pe_bl)) pss_nil
    have h1 : PS (cxOf CX0 P w K mg base ["word", "sign"] "begins_name" (defScope sBn) f cdv A outer s H XE).nox (stOf sBn 1) _ := ps_ret (pe_callB (cr_all rfl) (by rfl) N.all boot_all (pa_cons (pe_lc (X := (cxOf CX0 P w K mg base ["word", "sign"] "begins_name" (defScope sBn) f cdv A outer s H XE).nox) (scope := bnSc) (own := [("sign", 1)]) (g := gName 1) (tt := tYes)
      (te := tOp (fun x y H Q => ∃ (c : Nat) (z : Str), x = .str ⟨#[c]⟩ ∧ y = .str z ∧ Q (.bl (decide (c ∈ z.cps.toList))) H) (tVar 1) (tC (.str signs))) rfl scBn.nd
      (pi_str (pv 0)) (blkOk_by (N := ["word", "sign"]) (sc := defScope sBn) (by decide +kernel)) (fun _ _ _ _ _ => pg_name (i := 1) scBn.nd rfl (Or.inl rfl)) (fun _ _ _ _ _ => pts_nil)
      (fun s0 H0 C0 cl0 fp0 => pe_cmpR (X := Cx.blk ((cxOf CX0 P w K mg base ["word", "sign"] "begins_name" (defScope sBn) f cdv A outer s H XE).nox) s0 H0 bnSc (compEnvC bnSc cl0 C0 (Cx.env ((cxOf CX0 P w K mg base ["word", "sign"] "begins_name" (defScope sBn) f cdv A outer s H XE).nox))) fp0) op_in_sign (pv 1) (pe_glob (v := .str signs) (by rfl) g2 ⟨_, rfl⟩ (by decide)) (by rfl))) pa_nil))
    refine ⟨_, PSs.nox (Kz.PSs.of_eq bdBn (pss_cons h0 (pss_one h1))), ?_⟩
    clear h0 h1
    have LC : z.length = z.cps.toList.length := by rw [Array.length_toList]; rfl
    refine ⟨.str z, rfl, z, rfl, (by rw [sizeLine_eq]; omega), 0, _, rfl, rfl, _, rfl, ite2 (fun e0 => ?_) (fun e0 => ?_)⟩
    · refine ⟨_, 8, rfl, rfl, _, rfl, ?_⟩
      obtain ⟨c, r, ez⟩ : ∃ c r, z.cps.toList = c :: r := by
        cases q : z.cps.toList with
        | nil =>
          rw [q] at LC
          have := of_decide_eq_true e0
          simp at LC
          omega
        | cons c r => exact ⟨c, r, rfl⟩
      have eb : bnB z = (decide (z.length ≤ 8) && (decide (c ∈ letters.cps.toList) && (c :: r).all fun c => decide (c ∈ signs.cps.toList))) := by
        unfold bnB
        rw [ez]
      by_cases hl : z.length ≤ 8
      · have e8 : decide ((z.length : Int) ≤ 8) = true := decide_eq_true (by omega)
        show (if (!decide ((z.length : Int) ≤ 8)) = true then _ else _)
        rw [e8]
        refine iteF ⟨.str z, rfl, z, 0, c, rfl, rfl, (by rw [sizeLine_eq]; omega), (by rw [ez]; exact atI_nat (j := 0) rfl), c, letters, rfl, rfl, _, rfl, ?_⟩
        rw [decide_eq_true hl, Bool.true_and] at eb
        cases q : decide (c ∈ letters.cps.toList) with
        | false =>
          rw [q] at eb
          refine iteT ?_
          have kk := k H (fun _ _ e => e)
          rw [eb] at kk
          exact kk
        | true =>
          rw [q, Bool.true_and] at eb
          refine iteF ?_
          refine ⟨.str z, rfl, z, rfl, fun D hD => lc_it walk_str (fun j G => L2.Same H G ∧ G D = some (.lst ((z.cps.toList.take j).map fun c => V.bl (decide (c ∈ signs.cps.toList))))) ⟨same_new hD, upd_same⟩ (fun _ _ _ _ => trivial) (fun j x G G' hj hp hy => ?_) (fun G hp => ?_)⟩
          · obtain ⟨rfl, ch, ec, rfl⟩ := hy
            obtain ⟨S, hA⟩ := hp
            refine ⟨rfl, ?_⟩
            unfold tYes
            show (if true = true then _ else _)
            rw [if_pos rfl]
            refine ⟨_, rfl, ch, signs, rfl, rfl, _, hA, ?_, fun b o e => ?_, ?_⟩
            · rw [List.length_map, List.length_take, sizeLine_eq]
              omega
            · rw [upd_ne (ne_of_none e hD)]
              exact S _ _ e
            · rw [upd_same]
              have ec' : z.cps.toList[j]? = some ch := by rw [Array.getElem?_toList]; exact ec
              have et : z.cps.toList.take (j + 1) = z.cps.toList.take j ++ [ch] := by
                rw [List.take_add_one, ec']
                rfl
              rw [et, List.map_append]
              rfl
          · obtain ⟨S, hA⟩ := hp
            have hA : G D = some (.lst ((z.cps.toList.take z.cps.size).map fun c => V.bl (decide (c ∈ signs.cps.toList)))) := hA
            rw [show z.cps.size = z.cps.toList.length from (Array.length_toList).symm, List.take_length] at hA
            refine ⟨D, z.cps.toList.map fun c => decide (c ∈ signs.cps.toList), rfl, .inl (.inl (by rw [List.map_map]; exact hA)), ?_⟩
            rw [List.all_map]
            have kk := k G S
            rw [eb, ← ez] at kk
            exact kk
      · have e8 : decide ((z.length : Int) ≤ 8) = false := decide_eq_false (by omega)
        show (if (!decide ((z.length : Int) ≤ 8)) = true then _ else _)
        rw [e8]
        refine iteT (iteT ?_)
        have kk := k H (fun _ _ e => e)
        rw [eb, decide_eq_false hl, Bool.false_and] at kk
        exact kk
    · refine ⟨false, rfl, iteT (iteT ?_)⟩
      have kk := k H (fun _ _ e => e)
      have eb : bnB z = false := by
        unfold bnB
        cases q : z.cps.toList with
        | nil => rfl
        | cons c r =>
          rw [q] at LC
          exact absurd (decide_eq_true (by rw [LC]; simp)) e0
      rw [eb] at kk
      exact kk
theorem ok_nm {f : Addr} {fd : FuncData} (F : FunD K "is_name" "is_name" (defArgs sNm) (defBody sNm) (defScope sNm) [] [] f fd) (N : NmK K mg) (B : Has P w K mg base "begins_name" 1 ["word"] spBn) : FnOk P w K mg base CX0 2 f fd ["thing"] spNm := by
  obtain ⟨ak, gk, qk⟩ := N.kp
  refine F.ok scNm (fun vs H Q E h => ?_) (fun cdv A outer s H vs Q XE hr h => ?_)
  · obtain ⟨v, d, rfl, _⟩ := h
    rfl
  · obtain ⟨v, d, rfl, hv, hl, k⟩ := h
    refine ⟨_, PSs.nox (pss_one (ps_ret (pe_and (pe_callB call_isi (by rfl) N.isi boot_isi (pa_cons (pv 0) (pa_cons (pe_bltn (by rfl) N.str boot_st (v := .ty "str") rfl) pa_nil))) (pe_and (pe_has B hr (by rfl) (pa_cons (pv 0) pa_nil)) (pe_one (pe_cmpR op_notIn_seq (pv 0) (pe_glob (v := .ref ak) (by rfl) gk rfl (by decide)) (by rfl))))))), ?_⟩
    refine ⟨v, rfl, v, _, _, _, _, rfl, .ty _, hv.ty, is_st d, _, rfl, ?_⟩
    cases hv with
    | str x =>
      refine iteT ⟨.str x, rfl, x, rfl, hl x rfl, fun H1 s1 => ⟨_, rfl, ?_⟩⟩
      have kk := k H1 s1
      have eb : nameB (.str x) = (bnB x && !keptB x) := rfl
      rw [eb] at kk
      cases q : bnB x with
      | false =>
        rw [q] at kk
        exact iteF kk
      | true =>
        rw [q, Bool.true_and] at kk
        exact iteT ⟨.str x, rfl, ak, _, rfl, .inr (qk H1), rfl, rfl, kk⟩
    | _ => exact iteF (k H (fun _ _ e => e))
theorem bdFn : defBody sFn = [stOf sFn 0, stOf sFn 1, stOf sFn 2, stOf sFn 3] := by rfl
theorem bdFn2 : forBody (stOf sFn 2) = [(forBody (stOf sFn 2)).getD 0 (.Pass ⟨0, 0, 0, 0⟩), (forBody (stOf sFn 2)).getD 1 (.Pass ⟨0, 0, 0, 0⟩)] := by rfl
theorem ok_fn {f : Addr} {fd : FuncData} (F : FunD K "first_no_end" "first_no_end" (defArgs sFn) (defBody sFn) (defScope sFn) [] [] f fd) (N : NmK K mg) (L : Has P w K mg base "is_list" 1 ["thing"] (spLook isL)) (M : Has P w K mg base "is_name" 2 ["thing"] spNm) : FnOk P w K mg base CX0 3 f fd ["ends"] spFn := by
  refine F.ok scFn (fun vs H Q E h => ?_) (fun cdv A outer s H vs Q XE hr h => ?_)
  · obtain ⟨v, d, rfl, _⟩ := h
    rfl
  · obtain ⟨v, d, rfl, hv, hl, hss, k⟩ := h
    have hu : (cxOf CX0 P w K mg base ["ends", "stood", "at", "end"] "first_no_end" (defScope sFn) f cdv A outer s H XE).nox.A.units + 1 < cLine := by
      have := hr.units
      show (A.deeper _).units + 1 < cLine
      omega
    have h0 : PS (cxOf CX0 P w K mg base ["ends", "stood", "at", "end"] "first_no_end" (defScope sFn) f cdv A outer s H XE).nox (stOf sFn 0) _ := ps_if (pt_not (pt_val (pe_has L (hr.mono (by decide)) (by rfl) (pa_cons (pv 0) pa_nil)))) (pss_one (ps_ret pe_int)) pss_nil
    have h1 : PS (cxOf CX0 P w K mg base ["ends", "stood", "at", "end"] "first_no_end" (defScope sFn) f cdv A outer s H XE).nox (stOf sFn 1) _ := ps_set (i := 1) scFn.nd rfl (.inl rfl) pe_dnewK
    have b0 : PS (cxOf CX0 P w K mg base ["ends", "stood", "at", "end"] "first_no_end" (defScope sFn) f cdv A outer s H XE).nox ((forBody (stOf sFn 2)).getD 0 (.Pass ⟨0, 0, 0, 0⟩)) _ := ps_if ((pw_or (pt_not (pt_val (pe_has M hr (by rfl) (pa_cons (pv 3) pa_nil))))) (pw_or1 (pt_cmp (pc_din hu (pv 3) (pv 1)) (by rfl)))).pt (pss_one (ps_ret (pv 2))) pss_nil
    have b1 : PS (cxOf CX0 P w K mg base ["ends", "stood", "at", "end"] "first_no_end" (defScope sFn) f cdv A outer s H XE).nox ((forBody (stOf sFn 2)).getD 1 (.Pass ⟨0, 0, 0, 0⟩)) _ := ps_asg pe_bl (pg_sub (pv 1) (pv 3) (_root_.L2.set_dict hu))
    have h2 : PS (cxOf CX0 P w K mg base ["ends", "stood", "at", "end"] "first_no_end" (defScope sFn) f cdv A outer s H XE).nox (stOf sFn 2) _ := ps_for PassesOwn.never rfl (EnT.pi_enB (by rfl) N.enu (pa_cons (pv 0) pa_nil)) (pg_tup (n := 2) rfl (pgs_cons (pg_name (i := 2) scFn.nd rfl (.inl rfl)) (pgs_cons (pg_name (i := 3) scFn.nd rfl (.inl rfl)) pgs_nil))) (Kz.PSs.of_eq bdFn2 (pss_cons b0 (pss_one b1)))
    have h3 : PS (cxOf CX0 P w K mg base ["ends", "stood", "at", "end"] "first_no_end" (defScope sFn) f cdv A outer s H XE).nox (stOf sFn 3) _ := ps_ret pe_non
    refine ⟨_, PSs.nox (Kz.PSs.of_eq bdFn (pss_cons h0 (pss_cons h1 (pss_cons h2 (pss_one h3))))), ?_⟩
    clear h0 h1 h2 h3 b0 b1
    refine ⟨v, rfl, v, d, rfl, hv, fun H1 s1 => ⟨isL d, rfl, ?_⟩⟩
    cases l : isL d with
    | false =>
      refine iteT ?_
      have kk := k H1 s1
      unfold fne at kk
      rw [l] at kk
      exact kk
    | true =>
      refine iteF fun p np => ?_
      have kf : ∀ G, L2.Same H1 G → Q (oV (fneL (its d) [] 0)) G := fun G e => by
        have kk := k G (s1.trans e)
        unfold fne at kk
        rw [l] at kk
        exact kk
      refine gset ?_
      refine nx_intro ?_
      refine for_enS (H0 := H1) (v := v) (d := d) (i1 := 2) (i2 := 3) (fun R h => ⟨v, rfl, h⟩) (hv.ext s1) l (fun j σ G => ∃ (a2 a3 : Option V) (kvs : List (Key × V)) (st : List Str), σ = [some v, some (.ref p), a2, a3] ∧ L2.Same H1 G ∧ G p = some (.dK kvs) ∧ kvs.length ≤ j ∧ (∀ s : Str, (valV kvs (.inr s)).isSome = st.contains s) ∧ fneL (its d) [] 0 = fneL ((its d).drop j) st j)
        ⟨none, none, [], [], rfl, same_new np, upd_same, Nat.le_refl _, fun s => rfl, rfl⟩ (fun j σ G e => ?_) (fun j z x σ' G hz tx e G' e' => ?_) (fun σ G e => ?_)
      · obtain ⟨_, _, _, _, _, e, _⟩ := e
        exact e
      · obtain ⟨a2, a3, kvs, st, rfl, S, hp, hk, hin, hf⟩ := e
        have jl : j < (its d).length := (List.getElem?_eq_some_iff.mp hz).1
        rw [drop_get hz] at hf
        refine ⟨x, rfl, x, z, rfl, tx.ext e', (fun s es => hss s (by rw [← es]; exact List.mem_of_getElem? hz)), fun G2 s2 => ⟨nameB z, rfl, ?_⟩⟩
        have S2 := (S.trans e').trans s2
        cases q : nameB z with
        | false =>
          refine iteT (iteT ⟨.int (j : Nat), rfl, ?_⟩)
          have kk := kf G2 S2
          have ef : fneL (z :: (its d).drop (j + 1)) st j = some j := by
            cases z with
            | str s =>
              unfold fneL
              rw [q]
              rfl
            | _ => rfl
          rw [hf, ef] at kk
          exact kk
        | true =>
          cases z with
          | str s =>
            cases tx with
            | str =>
              have hp2 := s2 _ _ (e' _ _ hp)
              refine iteF ⟨.str s, rfl, .ref p, rfl, p, _, rfl, DGet.k (k := .inr s) hp2, _, rfl, ?_⟩
              rw [hin s]
              have ef : fneL (.str s :: (its d).drop (j + 1)) st j = if (nameB (.str s) && !st.contains s) = true then fneL ((its d).drop (j + 1)) (st ++ [s]) (j + 1) else some j := rfl
              rw [q, Bool.true_and] at ef
              cases c : st.contains s with
              | true =>
                rw [c] at ef
                refine iteT ⟨.int (j : Nat), rfl, ?_⟩
                have kk := kf G2 S2
                rw [hf, ef] at kk
                exact kk
              | false =>
                rw [c] at ef
                refine iteF ⟨.ref p, rfl, .str s, rfl, p, _, rfl, DPut.k (k := .inr s) hp2 (by rw [sizeLine_eq]; omega), ?_⟩
                refine ⟨_, _, _, st ++ [s], rfl, fun b o hb => ?_, upd_same, Nat.le_trans (length_putK _ _ _) (by omega), fun s' => ?_, by rw [hf, ef]; rfl⟩
                · rw [upd_ne (ne_of_none hb np)]
                  exact S2 _ _ hb
                · rw [valV_put, List.contains_append]
                  by_cases es : s' = s
                  · rw [if_pos (by rw [es]), es]
                    simp
                  · rw [if_neg (fun y => es (Sum.inr.inj y)), hin s']
                    simp [es]
          | _ => exact absurd (show false = true from q) Bool.false_ne_true
      · obtain ⟨a2, a3, kvs, st, rfl, S, hp, hk, hin, hf⟩ := e
        rw [List.drop_length] at hf
        have kk := kf G S
        rw [hf] at kk
        exact kk
end
end K14.T5
namespace K14.T5
open T27 T3
open K14.Gn
open PySem PySem.W PySem.Calls PyProof.Rows L2 LamX
open He (ga)
open Kz (small4 same_new boot_in boot_li boot_isi Has pe_has noE X1 PSs.of_eq)
theorem bdCk : defBody sCk = [stOf sCk 0, stOf sCk 1] := by rfl
section
variable {P : Program} {w : World} {K : Frag} {mg : Str → Option Value} {base : Heap}
theorem ok_ck {f : Addr} {fd : FuncData} (F : FunD K "check_ends" "check_ends" (defArgs sCk) (defBody sCk) (defScope sCk) [] [] f fd) (L : Has P w K mg base "first_no_end" 3 ["ends"] spFn) : FnOk P w K mg base CX0 4 f fd ["ends"] spCk := by
  refine F.ok scCk (fun vs H Q E h => ?_) (fun cdv A outer s H vs Q XE hr h => ?_)
  · obtain ⟨v, d, rfl, _⟩ := h
    rfl
  · obtain ⟨v, d, rfl, ⟨t, l1, l2⟩, e, k⟩ := h
    have h0 : PS (cxOf CX0 P w K mg base ["ends", "at"] "check_ends" (defScope sCk) f cdv A outer s H XE).nox (stOf sCk 0) _ := ps_set (i := 1) scCk.nd rfl (.inl rfl) (pe_has L hr (by rfl) (pa_cons (pv 0) pa_nil))
    have h1 : PS (cxOf CX0 P w K mg base ["ends", "at"] "check_ends" (defScope sCk) f cdv A outer s H XE).nox (stOf sCk 1) _ := ps_if (pt_cmp (pc_notN (pv 1)) (by rfl)) (pss_one ps_never) pss_nil
    refine ⟨_, PSs.nox (PSs.of_eq bdCk (pss_cons h0 (pss_one h1))), ?_⟩
    refine ⟨v, rfl, v, d, rfl, t, l1, l2, fun H1 s1 => ?_⟩
    rw [e]
    exact ⟨.non, rfl, _, rfl, iteF (k H1 s1)⟩
theorem okx_ck {f : Addr} {fd : FuncData} (F : FunD K "check_ends" "check_ends" (defArgs sCk) (defBody sCk) (defScope sCk) [] [] f fd) (L : Has P w K mg base "first_no_end" 3 ["ends"] spFn) (T : mg "BadEnds" = some (.ref (ga K "BadEnds")) ∧ X1 P K (ga K "BadEnds") "index") : FnOk P w K mg base (L2.CX P w) 4 f fd ["ends"] (spCkX K) := by
  refine F.ok scCk (fun vs H Q E h => ?_) (fun cdv A outer s H vs Q XE hr h => ?_)
  · obtain ⟨v, d, j, rfl, _⟩ := h
    rfl
  · obtain ⟨v, d, j, rfl, ⟨t, l1, l2⟩, e, k⟩ := h
    refine ⟨_, PSs.of_eq bdCk (pss_cons (ps_set (i := 1) scCk.nd rfl (.inl rfl) (pe_has L hr (by rfl) (pa_cons (pv 0) pa_nil))) (pss_one (ps_if (pt_cmp (pc_notN (pv 1)) (by rfl)) (pss_one (ps_raise rfl (takes_of rfl rfl rfl rfl) (pmk_x1 T.2 (hr.mono (by decide)) rfl (by rfl) T.1 (pv 1)))) pss_nil))), ?_⟩
    refine ⟨v, rfl, v, d, rfl, t, l1, l2, fun H1 s1 => ?_⟩
    rw [e]
    exact ⟨.int (j : Nat), rfl, _, rfl, iteT ⟨.int (j : Nat), rfl, fun dx n => k _ dx (s1.trans (same_new n)) upd_same⟩⟩
end
end K14.T5
namespace K14.T5
open T27 T3
open K14.Gn
open PySem PySem.W PySem.Calls PyProof.Rows L2 LamX
open He (ga)
open Kz (SS ExtS ExtS.trans small4 same_new boot_in boot_li boot_isi Has pe_has noE PSs.of_eq seqI new_ext)
theorem scPk : FnScope ["stream", "some"] ["stream", "some"] (defScope sPk) := ⟨rfl, rfl, rfl, by decide +kernel, rfl, by decide +kernel, by decide +kernel⟩
theorem bdPk : defBody sPk = [stOf sPk 0] := by rfl
theorem bdMx : defBody sMx = [stOf sMx 0, stOf sMx 1] := by rfl
section
variable {P : Program} {w : World} {K : Frag} {mg : Str → Option Value} {base : Heap}
theorem ok_pk {f : Addr} {fd : FuncData} (F : FunD K "_law_pick" "_law_pick" (defArgs sPk) (defBody sPk) (defScope sPk) [] [] f fd) (D : Has P w K mg base "_law_draw" 1 ["stream", "many"] spDrW) (mn : mg "len" = none) : FnOk P w K mg base CX0 2 f fd ["stream", "some"] spPk := by
  refine F.ok scPk (fun vs H Q E h => ?_) (fun cdv A outer s H vs Q XE hr h => ?_)
  · obtain ⟨l, li, sa, c, xs, rfl, _⟩ := h
    rfl
  · obtain ⟨l, li, sa, c, xs, rfl, hs, hsa, n1, n2, x0, x1, c1, k⟩ := h
    have h0 : PS (cxOf CX0 P w K mg base ["stream", "some"] "_law_pick" (defScope sPk) f cdv A outer s H XE).nox (stOf sPk 0) _ := ps_ret (pe_ix ix_seq (pv 1) (pe_has D hr (by rfl) (pa_cons (pv 0) (pa_cons (pe_callB call_len_seq (by rfl) mn boot_len (pa_cons (pv 1) pa_nil)) pa_nil))) (fun _ _ => rfl))
    refine ⟨_, PSs.nox (PSs.of_eq bdPk (pss_one h0)), ?_⟩
    clear h0
    refine ⟨.ref sa, rfl, .ref l, rfl, .ref sa, rfl, sa, xs, rfl, .inl (.inl (.inl hsa)), l, li, c, (xs.length : Nat), rfl, hs, by omega, by omega, by omega, fun H1 r e1 s1 r0 r1 => ?_⟩
    obtain ⟨n, rfl⟩ : ∃ n : Nat, r = (n : Nat) := ⟨r.toNat, by omega⟩
    have rk : n < xs.length := by omega
    exact .inl ⟨sa, xs, _, xs[n], rfl, rfl, .inl (.inl (e1 _ _ hsa n1 n2)), atI_nat (List.getElem?_eq_getElem rk), k H1 _ e1 s1 (List.getElem_mem _)⟩
theorem ok_mxw {f : Addr} {fd : FuncData} (F : FunD K "_law_mixed" "_law_mixed" (defArgs sMx) (defBody sMx) (defScope sMx) [] [] f fd) (D : Has P w K mg base "_law_draw" 1 ["stream", "many"] spDrW) (ml : mg "list" = none) (mn : mg "len" = none) (mr : mg "range" = none) : FnOk P w K mg base CX0 2 f fd ["stream", "some"] spMxW := by
  refine F.ok scMx (fun vs H Q E h => ?_) (fun cdv A outer s H vs Q XE hr h => ?_)
  · obtain ⟨l, li, sa, c, xs, rfl, _⟩ := h
    rfl
  · obtain ⟨l, li, sa, c, xs, rfl, hs, hsa, x1, c1, k⟩ := h
    have h0 : PS (cxOf CX0 P w K mg base ["stream", "some", "left", "k"] "_law_mixed" (defScope sMx) f cdv A outer s H XE).nox (stOf sMx 0) _ := ps_set (i := 2) scMx.nd rfl (.inr rfl) (pe_callTy call_list_of (by rfl) ml boot_li (pa_cons (pv 1) pa_nil))
    have h1 : PS (cxOf CX0 P w K mg base ["stream", "some", "left", "k"] "_law_mixed" (defScope sMx) f cdv A outer s H XE).nox (stOf sMx 1) _ := ps_ret (pe_lc (X := (cxOf CX0 P w K mg base ["stream", "some", "left", "k"] "_law_mixed" (defScope sMx) f cdv A outer s H XE).nox) (te := tBM K "list" rPopAt (tVar 2) (tCons (tCall spDrW [] noE (tCons (tVar 0) (tCons (tCB (Kz.rLen K) (tCons (tVar 2) tNil)) tNil))) tNil)) (scope := mxSc) (own := [("k", 3)]) (g := gName 3) (tt := tYes) rfl scMx.nd
      (pi_range1 (by rfl) mr (pa_cons (pe_callB call_len_seq (by rfl) mn boot_len (pa_cons (pv 2) pa_nil)) pa_nil)) (blkOk_by (N := ["stream", "some", "left", "k"]) (sc := defScope sMx) (by decide +kernel)) (fun _ _ _ _ _ => pg_name (i := 3) scMx.nd rfl (Or.inl rfl)) (fun _ _ _ _ _ => pts_nil)
      (fun s0 H0 C0 cl0 fp0 => pe_bm (X := Cx.blk ((cxOf CX0 P w K mg base ["stream", "some", "left", "k"] "_law_mixed" (defScope sMx) f cdv A outer s H XE).nox) s0 H0 mxSc (compEnvC mxSc cl0 C0 (Cx.env ((cxOf CX0 P w K mg base ["stream", "some", "left", "k"] "_law_mixed" (defScope sMx) f cdv A outer s H XE).nox))) fp0) PySem.F.plainAttrs_list PySem.F.slot_list_pop PySem.F.type_list_pop mt_popAt (pv 2) (pa_cons (pe_has D hr (by rfl) (pa_cons (pv 0) (pa_cons (pe_callB call_len_seq (by rfl) mn boot_len (pa_cons (pv 2) pa_nil)) pa_nil))) pa_nil)))
    refine ⟨_, PSs.nox (PSs.of_eq bdMx (pss_cons h0 (pss_one h1))), ?_⟩
    clear h0 h1
    refine ⟨.ref sa, rfl, sa, xs, rfl, .inl (.inl (.inl hsa)), fun lf nf => ?_⟩
    have nl := hs.new nf
    have s1 := hs.same (same_new (o := .lst xs) nf)
    refine ⟨.ref lf, rfl, lf, xs, rfl, .inl (.inl (.inl upd_same)), (xs.length : Int), rfl, by omega, by omega, fun D0 hD => ?_⟩
    have nD := s1.new hD
    have Df : D0 ≠ lf := Ne.symm (ne_of_none upd_same hD)
    have HD : H D0 = none := ext_none (same_S (l := l) (li := li) (same_new nf)) hD nD.1 nD.2
    refine lc_range (n := ((xs.length : Nat) : Int).toNat) (fun j G => ∃ (zs ys : List V), G lf = some (.lst zs) ∧ G D0 = some (.lst ys) ∧ ys.length = j ∧ (zs ++ ys).Perm xs ∧ Spr G l li (c + (j : Nat)) ∧ ExtS l li H G)
      ⟨xs, [], by rw [upd_ne Df.symm, upd_same], upd_same, rfl, by simp, by simpa using s1.same (same_new hD), same_S ((same_new nf).trans (same_new hD))⟩ (fun j G hj e => ?_) fun G e => ?_
    · obtain ⟨zs, ys, hz, hy, ly, pm, s3, e3⟩ := e
      have hj' : j < xs.length := by simpa using hj
      have lz : zs.length = xs.length - j := by
        have := pm.length_eq
        rw [List.length_append] at this
        omega
      refine ⟨rfl, ?_⟩
      unfold tYes
      show (if true = true then _ else _)
      rw [if_pos rfl]
      refine ⟨.ref lf, rfl, .inl ⟨rfl, _, .inl (.inl hz)⟩, .ref l, rfl, .ref lf, rfl, lf, zs, rfl, .inl (.inl (.inl hz)), ?_⟩
      refine ⟨l, li, c + (j : Nat), (zs.length : Int), rfl, s3, by omega, by omega, by omega, fun H4 r e4 s4 r0 r1 => ?_⟩
      have hz4 := e4 lf _ hz nl.1 nl.2
      have hy4 := e4 D0 _ hy nD.1 nD.2
      have rk : r.toNat < zs.length := by omega
      refine ⟨lf, zs, r, r.toNat, zs[r.toNat], rfl, rfl, hz4, by omega, by omega, seqI r0 r1, by simp [rk], ys, by rw [upd_ne Df]; exact hy4, by rw [sizeLine_eq]; omega, zs.eraseIdx r.toNat, ys ++ [zs[r.toNat]], by rw [upd_ne Df.symm, upd_same], upd_same, by rw [List.length_append, List.length_singleton, ly], perm_pop rk pm, ?_, fun x o ex h1 h2 => ?_⟩
      · have ec : c + ((j + 1 : Nat) : Int) = c + (j : Nat) + 1 := by omega
        rw [ec]
        exact (s4.upd nl.1 nl.2).upd nD.1 nD.2
      · rw [upd_ne (ne_of_none ex HD), upd_ne (ne_of_none ex nf)]
        exact e4 x o (e3 x o ex h1 h2) h1 h2
    · obtain ⟨zs, ys, hz, hy, ly, pm, s3, e3⟩ := e
      have ly' : ys.length = xs.length := by simpa using ly
      have zn : zs = [] := by
        have := pm.length_eq
        rw [List.length_append] at this
        exact List.eq_nil_of_length_eq_zero (by omega)
      rw [zn, List.nil_append] at pm
      exact k G D0 ys e3 (by simpa using s3) HD nD.1 nD.2 hy pm
end
end K14.T5
namespace K14.T5
open T27 T3
open K14.Gn
open PySem PySem.W PySem.Calls PyProof.Rows L2 LamX
open He (ga)
open Kz (SS ExtS ExtS.trans small4 same_new boot_in boot_li boot_isi Has pe_has noE PSs.of_eq seqI new_ext)
theorem scEn : FnScope ["stream", "many", "some"] ["stream", "many"] (defScope sEn) := ⟨rfl, rfl, rfl, by decide +kernel, rfl, by decide +kernel, by decide +kernel⟩
theorem bdEn : defBody sEn = [stOf sEn 0, stOf sEn 1] := by rfl
section
variable {P : Program} {w : World} {K : Frag} {mg : Str → Option Value} {base : Heap}
theorem ok_en {f : Addr} {fd : FuncData} (F : FunD K "_law_ends" "_law_ends" (defArgs sEn) (defBody sEn) (defScope sEn) [] [] f fd) (M : Has P w K mg base "_law_mixed" 2 ["stream", "some"] spMxW) : FnOk P w K mg base CX0 3 f fd ["stream", "many"] spEn := by
  refine F.ok scEn (fun vs H Q E h => ?_) (fun cdv A outer s H vs Q XE hr h => ?_)
  · obtain ⟨l, li, c, m, rfl, _⟩ := h
    rfl
  · obtain ⟨l, li, c, m, rfl, hs, hm, hc, k⟩ := h
    have h0 : PS (cxOf CX0 P w K mg base ["stream", "many", "some"] "_law_ends" (defScope sEn) f cdv A outer s H XE).nox (stOf sEn 0) _ := ps_set (i := 2) scEn.nd rfl (.inl rfl) (pe_lst (pa_cons pe_str (pa_cons pe_str (pa_cons pe_str (pa_cons pe_str (pa_cons pe_str (pa_cons pe_str (pa_cons pe_str (pa_cons pe_str (pa_cons pe_str (pa_cons pe_str (pa_cons pe_str (pa_cons pe_str (pa_cons pe_str (pa_cons pe_str (pa_cons pe_str (pa_cons pe_str pa_nil)))))))))))))))))
    have h1 : PS (cxOf CX0 P w K mg base ["stream", "many", "some"] "_law_ends" (defScope sEn) f cdv A outer s H XE).nox (stOf sEn 1) _ := ps_ret (pe_slice sl_list (pe_has M hr (by rfl) (pa_cons (pv 0) (pa_cons (pv 2) pa_nil))) po_none (po_some (pv 1)))
    refine ⟨_, PSs.nox (PSs.of_eq bdEn (pss_cons h0 (pss_one h1))), ?_⟩
    clear h0 h1
    refine ⟨small4 16, fun sa nsa => ?_⟩
    have na := hs.new nsa
    have s1 := hs.same (same_new (o := .lst (endNames.map V.str)) nsa)
    refine ⟨.ref l, rfl, .ref sa, rfl, l, li, sa, c, endNames.map V.str, rfl, s1, upd_same, by decide, by omega, fun H1 r ys e1 s2 nr r1 r2 hy pm => ?_⟩
    obtain ⟨ms, rfl, pn⟩ := strs_of pm
    have lm : ms.length = 16 := by rw [pn.length_eq]; rfl
    refine ⟨.int (m : Nat), rfl, m, rfl, r, _, rfl, .inl (.inl hy), fun p np => ?_⟩
    rw [cutV_take (by rw [List.length_map, lm]; exact hm), ← List.map_take]
    have E1 : ExtS l li H H1 := (same_S (same_new nsa)).trans e1
    have nP := s2.new np
    have eN : c + ((endNames.map V.str).length : Nat) = c + 16 := rfl
    rw [eN] at s2
    exact k _ p (ms.take m) (E1.trans (same_S (same_new np))) (s2.same (same_new np)) (ext_none E1 np nP.1 nP.2) nP.1 nP.2 upd_same (by rw [List.length_take, lm]; omega) ((pn.nodup_iff.mpr (by decide +kernel)).sublist (List.take_sublist _ _)) (fun s hs => pn.mem_iff.mp (List.mem_of_mem_take hs))
end
end K14.T5
namespace K14.T5
open T27 T3 T69
open K14.Gn
open PySem PySem.W PySem.Calls PyProof.Rows L2 LamX
open He (ga)
open SX (S)
open TL (tl pre joinL)
open Kz (SS ExtS ExtS.trans small4 same_new boot_in boot_li boot_isi Has pe_has noE PSs.of_eq seqI new_ext X1)
abbrev sNl : Stmt := topS 23

end K14.T5
namespace K14.T5
open T27 T3 T69
open K14.Gn
open PySem PySem.W PySem.Calls PyProof.Rows L2 LamX
open He (ga)
open SX (S)
open TL (tl pre joinL)
open Kz (SS ExtS ExtS.trans small4 same_new boot_in boot_li boot_isi Has pe_has noE PSs.of_eq seqI new_ext X1)
theorem scLn : FnScope NLn ["thing"] (defScope sLn) := ⟨rfl, rfl, rfl, by decide +kernel, rfl, by decide +kernel, by decide +kernel⟩
theorem bdLn : defBody sLn = [stOf sLn 0, stOf sLn 1, stOf sLn 2, stOf sLn 3] := by rfl
def scRetB : Stmt → Scope
  | .Return (some (.BoolOp _ [_, .Call _ [.ListComp _ _ sc _] _ _] _)) _ => sc
  | _ => defScope sNl
def lnSc : Scope := scRetB (stOf sLn 3)
section
variable {P : Program} {w : World} {K : Frag} {mg : Str → Option Value} {base : Heap}
theorem ok_ln {f : Addr} {fd : FuncData} (F : FunD K "_law_is_name" "_law_is_name" (defArgs sLn) (defBody sLn) (defScope sLn) [] [] f fd) (N : NmK K mg) : FnOk P w K mg base CX0 1 f fd ["thing"] spLn := by
  refine F.ok scLn (fun vs H Q E h => ?_) (fun cdv A outer s H vs Q XE hr h => ?_)
  · obtain ⟨x, rfl, _⟩ := h
    rfl
  · obtain ⟨x, rfl, hl, k⟩ := h
    have h0 : PS (XCo P w K mg base NLn "_law_is_name" sLn f cdv A outer s H XE) (stOf sLn 0) _ := ps_if ((pw_or (pt_not (pt_val (pe_callB call_isi (by rfl) N.isi boot_isi (pa_cons (pv 0) (pa_cons (pe_bltn (by rfl) N.str boot_st (v := .ty "str") rfl) pa_nil))))) (pw_or (pt_cmpR op_lt (pe_callB call_len_str (by rfl) N.len boot_len (pa_cons (pv 0) pa_nil)) pe_int (nomark _)) (pw_or1 (pt_cmpR op_gt (pe_callB call_len_str (by rfl) N.len boot_len (pa_cons (pv 0) pa_nil)) pe_int (nomark _)))))).pt (pss_one (ps_ret pe_bl)) pss_nil
    have h1 : PS (XCo P w K mg base NLn "_law_is_name" sLn f cdv A outer s H XE) (stOf sLn 1) _ := ps_if (pt_cmpR op_in_seq (pv 0) (pe_tup (pa_cons pe_str (pa_cons pe_str (pa_cons pe_str (pa_cons pe_str (pa_cons pe_str (pa_cons pe_str (pa_cons pe_str (pa_cons pe_str (pa_cons pe_str (pa_cons pe_str pa_nil))))))))))) (by rfl)) (pss_one (ps_ret pe_bl)) pss_nil
    have h2 : PS (XCo P w K mg base NLn "_law_is_name" sLn f cdv A outer s H XE) (stOf sLn 2) _ := ps_set (i := 1) scLn.nd rfl (.inr rfl) pe_str
    have h3 : PS (XCo P w K mg base NLn "_law_is_name" sLn f cdv A outer s H XE) (stOf sLn 3) _ := ps_ret (pe_and (pe_cmpR op_in_sign (pe_ix ix_str (pv 0) pe_int (fun _ _ => rfl)) (pv 1) (by rfl)) (pe_one (pe_callB (cr_all rfl) (by rfl) N.all boot_all (pa_cons (pe_lc (X := XCo P w K mg base NLn "_law_is_name" sLn f cdv A outer s H XE) (scope := lnSc) (own := [("sign", 2)]) (g := gName 2) (tt := tYes) (te := teSig 2 1) rfl scLn.nd
      (pi_str (pv 0)) (blkOk_by (N := NLn) (sc := defScope sLn) (by decide +kernel)) (fun _ _ _ _ _ => pg_name (i := 2) scLn.nd rfl (Or.inl rfl)) (fun _ _ _ _ _ => pts_nil)
      (fun s0 H0 C0 cl0 fp0 => by exact pe_cmpR op_in_sign (pv 2) (pe_op op_add_str (pv 1) pe_str) (by rfl))) pa_nil))))
    refine ⟨_, PSs.nox (PSs.of_eq bdLn (pss_cons h0 (pss_cons h1 (pss_cons h2 (pss_one h3))))), ?_⟩
    clear h0 h1 h2 h3
    have kk := k H (fun _ _ e => e)
    have en : nameB (.str (S x)) = (bnB (S x) && !keptB (S x)) := rfl
    have no : bnB (S x) = false → Q (.bl false) H := fun e => by
      rw [en, e] at kk
      exact kk
    have lS : ((S x).length : Int) = (x.length : Int) := by rw [S_len]
    have sl := sizeLine_eq
    refine T3.if_intro ⟨.str (S x), rfl, .str (S x), _, _, _, _, rfl, .ty _, .base (.str _), is_st (.str (S x)), _, rfl, ?_⟩
    refine iteF ⟨.str (S x), rfl, S x, rfl, by rw [S_len]; omega, _, _, rfl, rfl, _, rfl, ?_⟩
    show (if decide (((S x).length : Int) < 1) = true then _ else _)
    rw [lS]
    cases x with
    | nil => exact iteT (iteT (no rfl))
    | cons c r =>
      have eb : bnB (S (c :: r)) = (decide ((S (c :: r)).length ≤ 8) && (decide (c ∈ T27.letters.cps.toList) && (c :: r).all fun c => decide (c ∈ T27.signs.cps.toList))) := rfl
      rw [decide_eq_false (show ¬ (((c :: r).length : Nat) : Int) < 1 by rw [List.length_cons]; omega)]
      refine iteF ⟨.str (S (c :: r)), rfl, S (c :: r), rfl, by rw [S_len]; omega, _, _, rfl, rfl, _, rfl, ?_⟩
      show (if decide (((S (c :: r)).length : Int) > 8) = true then _ else _)
      by_cases l8 : (S (c :: r)).length ≤ 8
      · rw [decide_eq_false (show ¬ ((S (c :: r)).length : Int) > 8 by omega)]
        refine iteF ?_
        refine nx_intro (ifS_intro ⟨.str (S (c :: r)), rfl, small4 10, fun q nq => ⟨q, kept.map V.str, rfl, .inr (.inl (.inl upd_same)), rfl, rfl, _, rfl, ?_⟩⟩)
        have sq : L2.Same H (upd H q (.tup (kept.map V.str))) := same_new nq
        have kk := k _ sq
        rw [en] at kk k
        have ek : inV (.str (S (c :: r))) (kept.map V.str) = keptB (S (c :: r)) := rfl
        rw [ek]
        cases q1 : keptB (S (c :: r)) with
        | true =>
          rw [q1] at kk
          refine iteT ?_
          have e2 : (bnB (S (c :: r)) && !true) = false := by simp
          rw [e2] at kk
          exact kk
        | false =>
          rw [q1] at k
          have e2 : (bnB (S (c :: r)) && !false) = bnB (S (c :: r)) := by simp
          rw [e2, eb, decide_eq_true l8, Bool.true_and] at k
          refine iteF (nx_intro (set_intro (i := 1) (tC_intro (ret_intro ?_))))
          have e8 : (L2.start NLn [.str (S (c :: r))]).set 1 (some (.str T27.letters)) = [some (.str (S (c :: r))), some (.str T27.letters), none] := rfl
          refine ⟨.str (S (c :: r)), rfl, S (c :: r), 0, c, rfl, rfl, by omega, atI_nat (j := 0) rfl, .str T27.letters, rfl, c, T27.letters, rfl, rfl, _, rfl, ?_⟩
          cases q2 : decide (c ∈ T27.letters.cps.toList) with
          | false =>
            rw [q2] at k
            exact iteF (k _ sq)
          | true =>
            rw [q2, Bool.true_and] at k
            refine iteT (all_strG (K := K) (fun c => decide (c ∈ T27.signs.cps.toList)) (fun R h => ⟨.str (S (c :: r)), rfl, h⟩) (by rw [S_len]; exact hl) (fun _ => rfl) (fun c2 G Q' hc s kq => ?_) fun G1 s1 => k G1 (sq.trans s1))
            refine ⟨_, rfl, T3.op_in ⟨.str T27.letters, rfl, T27.letters, "0123456789", rfl, rfl, small4 36 |> fun _ => ?_, ?_⟩⟩
            · rw [show T27.letters.length = 26 by decide +kernel, show ("0123456789" : Str).length = 10 by decide +kernel]
              exact small4 36
            · rw [sig_eq]
              exact ⟨c2, T27.signs, rfl, rfl, kq G (fun _ _ e => e)⟩
      · rw [decide_eq_true (show ((S (c :: r)).length : Int) > 8 by omega)]
        exact iteT (no (by rw [eb, decide_eq_false l8]; rfl))
end
end K14.T5
namespace K14.Gn
open PySem PySem.W PySem.Calls PyProof.Rows L2 LamX
open Kz (same_new small4)
/-- one promise out of two -/
theorem fnOk_or {P : Program} {w : World} {K : Frag} {mg : Str → Option Value} {base : Heap} {CX : CXT} {k : Nat} {f : Addr} {fd : FuncData} {ps : List Str} {s1 s2 sp : Sp} (F1 : FnOk P w K mg base CX k f fd ps s1) (F2 : FnOk P w K mg base CX k f fd ps s2) (h : ∀ vs H Q E, sp vs H Q E → s1 vs H Q E ∨ s2 vs H Q E) : FnOk P w K mg base CX k f fd ps sp :=
  ⟨fun vs H Q E q => (h vs H Q E q).elim (F1.len vs H Q E) (F2.len vs H Q E), fun A outer s H args us vs Q E hr e0 hb r q => (h vs H Q E q).elim (F1.run A outer s H args us vs Q E hr e0 hb r) (F2.run A outer s H args us vs Q E hr e0 hb r)⟩
section
variable {K : Frag} {te : TE} {σ : L2.St} {G : Hp} {v : V} {d z : PyData} {Q : VK}
theorem tst_in {r : R2} {t1 t2 : TE} {σ : L2.St} {H : Hp} {Q : Bool → Hp → Prop} (h : t1 σ H fun x H1 => t2 σ H1 fun y H2 => r x y H2 fun v H3 => ∃ c, v = .bl c ∧ Q c H3) : tTest (tOp r t1 t2) σ H Q := h
theorem andV_in {ta tb : TE} {σ : L2.St} {H : Hp} {Q : VK} (h : ta σ H fun x H1 => ∃ c, x = .bl c ∧ if c = true then tb σ H1 Q else Q (.bl false) H1) : tAndV ta tb σ H Q := h
theorem orV_in {ta tb : TE} {σ : L2.St} {H : Hp} {Q : VK} (h : ta σ H fun x H1 => ∃ c, x = .bl c ∧ if c = true then Q (.bl true) H1 else tb σ H1 Q) : tOrV ta tb σ H Q := h
theorem call_in {sp : Sp} {E : XK} {te : TE} {σ : L2.St} {H : Hp} {Q : VK} (h : te σ H fun v G => sp [v] G Q E) : tCall sp [] E (tCons te tNil) σ H Q := h
theorem b_in {te : TE} {σ : L2.St} {H : Hp} {Q : Bool → Hp → Prop} (h : te σ H fun v H1 => ∃ c, v = .bl c ∧ Q c H1) : tB te σ H Q := h
theorem not_in {t : TT} {σ : L2.St} {H : Hp} {Q : Bool → Hp → Prop} (h : t σ H fun c H1 => Q (!c) H1) : tNot t σ H Q := h
theorem or_in {t u : TT} {σ : L2.St} {H : Hp} {Q : Bool → Hp → Prop} (h : t σ H fun c H1 => if c = true then Q true H1 else u σ H1 Q) : tOr t u σ H Q := h
theorem and_in {t u : TT} {σ : L2.St} {H : Hp} {Q : Bool → Hp → Prop} (h : t σ H fun c H1 => if c = true then u σ H1 Q else Q false H1) : tAnd t u σ H Q := h
/-- what a reading tells: a thing of that data -/
def Rds (te : TE) (σ : L2.St) (G : Hp) (d : PyData) : Prop := ∀ R : VK, (∀ x : V, Th G x d → R x G) → te σ G R
theorem rds_var {i : Nat} (h : σ[i]? = some (some v)) (t : Th G v d) : Rds (tVar i) σ G d := fun R k => ⟨v, h, k v t⟩
theorem ev_len (ht : Rds te σ G d) (l : isL d = true) (k : Q (.int ((its d).length : Nat)) G) : tCB (fun xs H Q => ∃ p ys, xs = [V.ref p] ∧ (SqL K H p ys ∨ SqT K H p ys) ∧ Q (.int (ys.length : Nat)) H) (tCons te tNil) σ G Q := by
  refine ht _ fun x t => ?_
  obtain ⟨a, xs, rfl, r, hx⟩ := t.seq (K := K) l
  exact ⟨a, xs, rfl, hx.elim (fun h => .inl (.inl (.inl h))) (fun h => .inr (.inl (.inl h))), by rw [r.length]; exact k⟩
theorem rds_ix {n : Nat} (ht : Rds te σ G d) (l : isL d = true) (hz : (its d)[n]? = some z) : Rds (tOp (rIx K) te (tC (.int (n : Nat)))) σ G z := fun R k => by
  refine ht _ fun x t => ?_
  obtain ⟨a, xs, rfl, r, hx⟩ := t.seq (K := K) l
  have il : n < xs.length := by
    rw [r.length]
    exact (List.getElem?_eq_some_iff.mp hz).1
  have hi : xs[n]? = some xs[n] := List.getElem?_eq_getElem il
  obtain ⟨z', hz', tz⟩ := r.get hi
  rw [hz] at hz'
  cases hz'
  exact ix_any2 hx hi (k _ tz)
theorem txt_one {s : Str} {x : V} (t : Th G x z) (n : isD z = false) : decide (x = V.str s) = txtIn [s] z := by
  have h := inV_th t n [s]
  rw [← h]
  unfold inV
  show _ = (eqV (.str s) x || false)
  rw [Bool.or_false]
  cases t with
  | str y =>
    show decide (V.str y = V.str s) = (s == y)
    rw [Bool.eq_iff_iff, decide_eq_true_eq, beq_iff_eq]
    exact ⟨fun e => (V.str.inj e).symm, fun e => by rw [e]⟩
  | dct h r => exact absurd (show true = false from n) (by decide)
  | _ => rfl
theorem ev_eqT {s : Str} (ht : Rds te σ G z) (n : isD z = false) (k : Q (.bl (txtIn [s] z)) G) : tOp rEqP te (tC (.str s)) σ G Q :=
  ht _ fun x t => ⟨s, rfl, th_pln t n, by rw [txt_one t n]; exact k⟩
theorem ev_inT2 {t1 t2 : Str} (ht : Rds te σ G z) (n : isD z = false) (k : ∀ G', L2.Same G G' → Q (.bl (txtIn [t1, t2] z)) G') : tOp (rInP K) te (tTup (tCons (tC (.str t1)) (tCons (tC (.str t2)) tNil))) σ G Q :=
  ht _ fun x t => ⟨small4 2, fun q nq => ⟨q, [t1, t2], rfl, .inl (.inl upd_same), th_pln (t.ext (same_new nq)) n, by rw [inV_th t n [t1, t2]]; exact k _ (same_new nq)⟩⟩
/-- thing[m:], a part of it -/
theorem ev_from {m : Nat} (ht : Rds te σ G d) (l : isL d = true) (hm : m ≤ (its d).length) (k : ∀ (G' : Hp) (x : V) (d' : PyData), L2.Same G G' → Th G' x d' → isL d' = true → its d' = (its d).drop m → Q x G') :
    tSl (fun x lo hi H Q => rSlL K x lo hi H Q ∨ rSlA K x lo hi H Q) te (tPart (tC (.int (m : Nat)))) tNoPart σ G Q := by
  refine ht _ fun x t => ?_
  cases t with
  | @lst a xs ds h r =>
    refine ⟨_, rfl, .inl ⟨a, xs, rfl, .inl (.inl h), fun p np => ?_⟩⟩
    rw [T27.cutV_drop (by rw [r.length]; exact hm)]
    exact k _ _ (.list (ds.drop m)) (same_new np) (.lst upd_same (T27.thAll_drop (r.ext (same_new np)))) rfl rfl
  | @tup a xs ds h r =>
    refine ⟨_, rfl, .inr ⟨a, xs, rfl, .inl (.inl h), fun e => ?_, fun _ p np => ?_⟩⟩
    · have e1 : HT.sIx xs.length 0 (some (m : Int)) = min m xs.length := HT.sIx_nat ..
      have hm' : m ≤ xs.length := by rw [r.length]; exact hm
      have e2 : m = 0 := by
        have := e.1
        rw [e1] at this
        omega
      subst e2
      exact k G _ (.tuple ds) (fun _ _ q => q) (.tup h r) rfl rfl
    · rw [T27.cutV_drop (by rw [r.length]; exact hm)]
      exact k _ _ (.tuple (ds.drop m)) (same_new np) (.tup upd_same (T27.thAll_drop (r.ext (same_new np)))) rfl rfl
  | _ => cases l
end
end K14.Gn
namespace K14.T5
open T27 T3
open K14.Gn
open PySem PySem.W PySem.Calls PyProof.Rows L2 LamX
open He (ga)
open Kz (SS ExtS ExtS.trans small4 same_new boot_in boot_li boot_isi Has pe_has noE PSs.of_eq seqI new_ext X1)
abbrev XC (P : Program) (w : World) (K : Frag) (mg : Str → Option Value) (base : Heap) (N : List Str) (q : Str) (st : Stmt) (f : Addr) (cdv : Value) (A : Around) (outer : List Env) (s : Shared) (H : Hp) (XE : XK) : Cx := (cxOf CX0 P w K mg base N q (defScope st) f cdv A outer s H XE).nox
/-! ### are_names, is_cell, is_use, is_joining -/
abbrev sAn : Stmt := topS 15
abbrev sIc : Stmt := topS 20
abbrev sIu : Stmt := topS 23
abbrev sIj : Stmt := topS 24
theorem scAn : FnScope ["thing", "part"] ["thing"] (defScope sAn) := ⟨rfl, rfl, rfl, by decide +kernel, rfl, by decide +kernel, by decide +kernel⟩
theorem bdAn : defBody sAn = [stOf sAn 0] := by rfl
theorem scIc : FnScope ["thing"] ["thing"] (defScope sIc) := ⟨rfl, rfl, rfl, by decide +kernel, rfl, by decide +kernel, by decide +kernel⟩
theorem bdIc : defBody sIc = [stOf sIc 0, stOf sIc 1, stOf sIc 2] := by rfl
theorem scIu : FnScope ["thing"] ["thing"] (defScope sIu) := ⟨rfl, rfl, rfl, by decide +kernel, rfl, by decide +kernel, by decide +kernel⟩
theorem bdIu : defBody sIu = [stOf sIu 0] := by rfl
theorem scIj : FnScope ["thing"] ["thing"] (defScope sIj) := ⟨rfl, rfl, rfl, by decide +kernel, rfl, by decide +kernel, by decide +kernel⟩
theorem bdIj : defBody sIj = [stOf sIj 0] := by rfl
def anSc : Scope := scRetB (stOf sAn 0)
/-- texts that are not too long -/
def shS : PyData → Bool
  | .str s => decide (s.length ≤ 1000)
  | _ => true
theorem shS_str {s : Str} {y : PyData} (h : shS y = true) (e : y = .str s) : s.length ≤ 1000 := by
  subst e
  exact of_decide_eq_true h
def okNs (d : PyData) : Bool := decide ((its d).length ≤ 1000) && (its d).all shS
theorem okNs_at {d : PyData} (h : okNs d = true) : (its d).length ≤ 1000 ∧ ∀ y ∈ its d, shS y = true := by
  obtain ⟨a, b⟩ := Bool.and_eq_true_iff.mp h
  exact ⟨of_decide_eq_true a, fun y hy => List.all_eq_true.mp b y hy⟩
/-- an item, or what stands in its stead -/
def okIt (d : PyData) : Bool := decide ((its d).length ≤ 1000) && (its d).all fun y => !isD y && (shS y && okNs y)
theorem okIt_at {d : PyData} (h : okIt d = true) : (its d).length ≤ 1000 ∧ ∀ y ∈ its d, isD y = false ∧ shS y = true ∧ okNs y = true := by
  obtain ⟨a, b⟩ := Bool.and_eq_true_iff.mp h
  refine ⟨of_decide_eq_true a, fun y hy => ?_⟩
  obtain ⟨c, e⟩ := Bool.and_eq_true_iff.mp (List.all_eq_true.mp b y hy)
  obtain ⟨e, f⟩ := Bool.and_eq_true_iff.mp e
  exact ⟨by simpa using c, e, f⟩
def namesB (d : PyData) : Bool := isL d && (its d).all nameB
def cellM : List PyData → Bool
  | [a, b] => txtIn ["stop"] a && nameB b
  | [a, b, c, e] => txtIn ["x", "y"] a && [b, c, e].all nameB
  | _ => false
theorem cellM_no : ∀ {ds : List PyData}, ds.length ≠ 4 → ds.length ≠ 2 → cellM ds = false
  | [], _, _ => rfl
  | [_], _, _ => rfl
  | [_, _], _, h => absurd rfl h
  | [_, _, _], _, _ => rfl
  | [_, _, _, _], h, _ => absurd rfl h
  | _ :: _ :: _ :: _ :: _ :: _, _, _ => rfl
def cellB (d : PyData) : Bool := isL d && cellM (its d)
def useM : List PyData → Bool
  | [a, b, c] => txtIn ["use"] a && (nameB b && namesB c)
  | _ => false
def useB (d : PyData) : Bool := useM (its d)
def joinM : List PyData → Bool
  | [a, b, c] => txtIn ["join"] a && [b, c].all nameB
  | _ => false
def joinB (d : PyData) : Bool := joinM (its d)
theorem useM_no : ∀ {ds : List PyData}, ds.length ≠ 3 → useM ds = false ∧ joinM ds = false
  | [], _ => ⟨rfl, rfl⟩
  | [_], _ => ⟨rfl, rfl⟩
  | [_, _], _ => ⟨rfl, rfl⟩
  | [_, _, _], h => absurd rfl h
  | _ :: _ :: _ :: _ :: _, _ => ⟨rfl, rfl⟩
theorem len_dec {n m : Nat} : decide (V.int ((n : Nat) : Int) = V.int ((m : Nat) : Int)) = decide (n = m) := by
  rw [Bool.eq_iff_iff, decide_eq_true_eq, decide_eq_true_eq]
  exact ⟨fun z => by have := V.int.inj z; omega, fun z => by rw [z]⟩
section
variable {P : Program} {w : World} {K : Frag} {mg : Str → Option Value} {base : Heap}
def spAn : Sp := fun vs H Q _ => ∃ (v : V) (d : PyData), vs = [v] ∧ Th H v d ∧ okNs d = true ∧ ∀ H', L2.Same H H' → Q (.bl (namesB d)) H'
theorem ok_an {f : Addr} {fd : FuncData} (F : FunD K "are_names" "are_names" (defArgs sAn) (defBody sAn) (defScope sAn) [] [] f fd) (L : Has P w K mg base "is_list" 1 ["thing"] (spLook isL)) (NM : Has P w K mg base "is_name" 2 ["thing"] spNm) (ma : mg "all" = none) : FnOk P w K mg base CX0 3 f fd ["thing"] spAn := by
  refine F.ok scAn (fun vs H Q E h => ?_) (fun cdv A outer s H vs Q XE hr h => ?_)
  · obtain ⟨v, d, rfl, _⟩ := h
    rfl
  · obtain ⟨v, d, rfl, hv, ok, k⟩ := h
    obtain ⟨o1, o2⟩ := okNs_at ok
    have h0 : PS (XC P w K mg base ["thing", "part"] "are_names" sAn f cdv A outer s H XE) (stOf sAn 0) _ := ps_ret (pe_and (pe_has L (hr.mono (by decide)) (by rfl) (pa_cons (pv 0) pa_nil)) (pe_one (pe_callB (cr_all rfl) (by rfl) ma boot_all (pa_cons (pe_lc (X := XC P w K mg base ["thing", "part"] "are_names" sAn f cdv A outer s H XE) (scope := anSc) (own := [("part", 1)]) (g := gName 1) (tt := tYes)
      (te := tCall spNm [] noE (tCons (tVar 1) tNil)) rfl scAn.nd (pi_sq (pv 0)) (blkOk_by (N := ["thing", "part"]) (sc := defScope sAn) (by decide +kernel)) (fun _ _ _ _ _ => pg_name (i := 1) scAn.nd rfl (Or.inl rfl)) (fun _ _ _ _ _ => pts_nil)
      (fun s0 H0 C0 cl0 fp0 => by exact pe_has NM (hr.mono (by decide)) (by rfl) (pa_cons (pv 1) pa_nil))) pa_nil))))
    refine ⟨_, PSs.nox (PSs.of_eq bdAn (pss_one h0)), ?_⟩
    clear h0
    refine ret_intro ⟨v, rfl, v, d, rfl, hv, fun H1 s1 => ⟨isL d, rfl, ?_⟩⟩
    unfold namesB at k
    cases l : isL d with
    | false =>
      rw [l] at k
      exact iteF (k H1 s1)
    | true =>
      rw [l, Bool.true_and] at k
      refine iteT (lc_all (K := K) nameB (fun R h => ⟨v, rfl, h⟩) (hv.ext s1) l (by omega) (fun _ => rfl) (fun j z x G Q' hz s tz kz => ⟨x, rfl, x, z, rfl, tz, (fun s e => Nat.le_trans (shS_str (o2 z (List.mem_of_getElem? hz)) e) (by decide)), fun G' s' => kz G' s'⟩) fun G1 s2 => k G1 (s1.trans s2))
def spIt (f : PyData → Bool) : Sp := fun vs H Q _ => ∃ (v : V) (d : PyData), vs = [v] ∧ Th H v d ∧ okIt d = true ∧ ∀ H', L2.Same H H' → Q (.bl (f d)) H'
/-- such data, known to be a list or a tuple -/
def spIl (f : PyData → Bool) : Sp := fun vs H Q _ => ∃ (v : V) (d : PyData), vs = [v] ∧ Th H v d ∧ isL d = true ∧ okIt d = true ∧ ∀ H', L2.Same H H' → Q (.bl (f d)) H'
theorem okNs_drop {d d' : PyData} {m : Nat} (h : okIt d = true) (l : isL d' = true) (e : its d' = (its d).drop m) : okNs d' = true := by
  obtain ⟨o1, o2⟩ := okIt_at h
  unfold okNs
  rw [e, decide_eq_true (by rw [List.length_drop]; omega), Bool.true_and]
  exact List.all_eq_true.mpr fun y hy => (o2 y (List.mem_of_mem_drop hy)).2.1
theorem ok_ic {f : Addr} {fd : FuncData} (F : FunD K "is_cell" "is_cell" (defArgs sIc) (defBody sIc) (defScope sIc) [] [] f fd) (L : Has P w K mg base "is_list" 1 ["thing"] (spLook isL)) (NM : Has P w K mg base "is_name" 2 ["thing"] spNm) (AN : Has P w K mg base "are_names" 3 ["thing"] spAn) (ml : mg "len" = none) : FnOk P w K mg base CX0 4 f fd ["thing"] (spIt cellB) := by
  refine F.ok scIc (fun vs H Q E h => ?_) (fun cdv A outer s H vs Q XE hr h => ?_)
  · obtain ⟨v, d, rfl, _⟩ := h
    rfl
  · obtain ⟨v, d, rfl, hv, ok, k⟩ := h
    obtain ⟨o1, o2⟩ := okIt_at ok
    have hu : (XC P w K mg base ["thing"] "is_cell" sIc f cdv A outer s H XE).A.units + 64 < cLine := hr.units
    have h0 : PS (XC P w K mg base ["thing"] "is_cell" sIc f cdv A outer s H XE) (stOf sIc 0) _ := ps_if (pt_not (pt_val (pe_has L (hr.mono (by decide)) (by rfl) (pa_cons (pv 0) pa_nil)))) (pss_one (ps_ret pe_bl)) pss_nil
    have h1 : PS (XC P w K mg base ["thing"] "is_cell" sIc f cdv A outer s H XE) (stOf sIc 1) _ := ps_if (pt_cmpR op_eq (pe_callB call_len_seq (by rfl) ml boot_len (pa_cons (pv 0) pa_nil)) pe_int (nomark _)) (pss_one (ps_ret (pe_and (pe_cmpR (op_inP hu) (pe_ix ix_seq (pv 0) pe_int (fun _ _ => rfl)) (pe_tup (pa_cons pe_str (pa_cons pe_str pa_nil))) (by rfl)) (pe_one (pe_has AN (hr.mono (by decide)) (by rfl) (pa_cons (pe_slice (SlR.or sl_list sl_tupA) (pv 0) (po_some pe_int) po_none) pa_nil)))))) pss_nil
    have h2 : PS (XC P w K mg base ["thing"] "is_cell" sIc f cdv A outer s H XE) (stOf sIc 2) _ := ps_ret (pe_and (pe_cmpR op_eq (pe_callB call_len_seq (by rfl) ml boot_len (pa_cons (pv 0) pa_nil)) pe_int (nomark _)) (pe_and (pe_cmpR (op_eqP hu) (pe_ix ix_seq (pv 0) pe_int (fun _ _ => rfl)) pe_str (nomark _)) (pe_one (pe_has NM (hr.mono (by decide)) (by rfl) (pa_cons (pe_ix ix_seq (pv 0) pe_int (fun _ _ => rfl)) pa_nil)))))
    refine ⟨_, PSs.nox (PSs.of_eq bdIc (pss_cons h0 (pss_cons h1 (pss_one h2)))), ?_⟩
    clear h0 h1 h2 hu
    refine T3.if_intro ⟨v, rfl, v, d, rfl, hv, fun H1 s1 => ⟨isL d, rfl, ?_⟩⟩
    unfold cellB at k
    cases l : isL d with
    | false =>
      rw [l] at k
      exact iteT (k H1 s1)
    | true =>
      rw [l, Bool.true_and] at k
      have hv1 := hv.ext s1
      refine iteF (nx_intro (ifS_intro (tst_in (ev_len (K := K) (rds_var (i := 0) rfl hv1) l ⟨rfl, _, rfl, ?_⟩))))
      show (if decide (V.int (((its d).length : Nat) : Int) = V.int ((4 : Nat) : Int)) = true then _ else _)
      rw [len_dec]
      by_cases c4 : (its d).length = 4
      · rw [decide_eq_true c4]
        obtain ⟨a, b, c, e, eq⟩ : ∃ a b c e, its d = [a, b, c, e] := by
          match its d, c4 with
          | [a, b, c, e], _ => exact ⟨a, b, c, e, rfl⟩
        have ha := o2 a (by rw [eq]; simp)
        refine iteT (ret_intro (andV_in (ev_inT2 (K := K) (rds_ix (n := 0) (rds_var (i := 0) rfl hv1) l (by rw [eq]; rfl)) ha.1 fun G s2 => ⟨_, rfl, ?_⟩)))
        rw [eq] at k
        have ek : cellM [a, b, c, e] = (txtIn ["x", "y"] a && [b, c, e].all nameB) := rfl
        rw [ek] at k
        cases q : txtIn ["x", "y"] a with
        | false =>
          rw [q] at k
          exact iteF (k G (s1.trans s2))
        | true =>
          rw [q, Bool.true_and] at k
          refine iteT (call_in (ev_from (K := K) (m := 1) (rds_var (i := 0) rfl (hv1.ext s2)) l (by omega) fun G' x d' s3 t' l' e' => ⟨x, d', rfl, t', okNs_drop ok l' e', fun G2 s4 => ?_⟩))
          have en : namesB d' = [b, c, e].all nameB := by
            unfold namesB
            rw [l', e', eq]
            rfl
          rw [en]
          exact k G2 (s1.trans (s2.trans (s3.trans s4)))
      · rw [decide_eq_false c4]
        refine iteF (nx_intro (ret_intro (andV_in (T3.op_in (ev_len (K := K) (rds_var (i := 0) rfl hv1) l ⟨rfl, _, rfl, ?_⟩)))))
        show (if decide (V.int (((its d).length : Nat) : Int) = V.int ((2 : Nat) : Int)) = true then _ else _)
        rw [len_dec]
        by_cases c2 : (its d).length = 2
        · rw [decide_eq_true c2]
          obtain ⟨a, b, eq⟩ : ∃ a b, its d = [a, b] := by
            match its d, c2 with
            | [a, b], _ => exact ⟨a, b, rfl⟩
          have ha := o2 a (by rw [eq]; simp)
          have hb := o2 b (by rw [eq]; simp)
          refine iteT (andV_in (ev_eqT (rds_ix (n := 0) (rds_var (i := 0) rfl hv1) l (by rw [eq]; rfl)) ha.1 ⟨_, rfl, ?_⟩))
          rw [eq] at k
          have ek : cellM [a, b] = (txtIn ["stop"] a && nameB b) := rfl
          rw [ek] at k
          cases q : txtIn ["stop"] a with
          | false =>
            rw [q] at k
            exact iteF (k H1 s1)
          | true =>
            rw [q, Bool.true_and] at k
            refine iteT (call_in (rds_ix (K := K) (n := 1) (rds_var (i := 0) rfl hv1) l (by rw [eq]; rfl) _ fun x tx => ⟨x, b, rfl, tx, (fun s e => Nat.le_trans (shS_str hb.2.1 e) (by decide)), fun G2 s4 => k G2 (s1.trans s4)⟩))
        · rw [decide_eq_false c2]
          rw [cellM_no c4 c2] at k
          exact iteF (k H1 s1)
end
end K14.T5
namespace K14.Gn
open PySem PySem.W PySem.Calls PyProof.Rows L2 LamX
open Kz (same_new small4)
/-! ### xs.extend(a tuple) -/
theorem ext_tup (l : Addr) (ys : Array Value) (n : Nat) (b : Addr) (zs : Array Value) (n2 : Nat) (dc : Option Addr) (sl : Array (Option Value))
    (h0 : ¬(!ys.isEmpty && Builtin.List.listTooLong (ys.size + zs.size)) = true)
    (h1 : ys.size ≤ sizeLine) (h2 : ys.size + zs.size ≤ sizeLine + 1) :
    Meets (Builtin.«list.extend» ⟨[.ref l, .ref b], []⟩) (fun _ R s =>
      s.heap.get? l = some { cls := .type "list", dict := none, data := .seq ys n, slots := #[] } ∧
      s.heap.get? b = some ⟨.type "tuple", dc, .seq zs n2, sl⟩ ∧
      R (.ok (.ret Value.none)) { s with heap := s.heap.update l (Obj.mapSeq fun x => x ++ zs), toks := s.toks }) :=
  .of_wp fun prog w A R s h => by
    obtain ⟨hp, g, d, tk, os⟩ := s
    obtain ⟨hl, hb, h⟩ := h
    have i1 := AutoSeq1.idx_int
    have i2 := AutoSeq1.sub_tuple_tuple
    have i3 := AutoSeq1.sub_list_list
    have i4 := AutoSeq1.sub_tuple_list
    have i5 := AutoSeq1.sub_list_tuple
    have sz : (ys ++ zs).size ≤ sizeLine + 1 := by
      rw [Array.size_append]
      exact h2
    wp_walk using (wpAny_updateSeq hl rfl (hz := h1) (_hz' := sz)), AutoSeq1.wpAny_loadPart' hl, AutoSeq1.wpAny_loadPart' hb
    exact ⟨_, rfl, h⟩
def rExtendT : V → List V → Hp → VK → Prop := fun x vs H Q => ∃ l b xs zs, x = .ref l ∧ vs = [.ref b] ∧ H l = some (.lst xs) ∧ H b = some (.tup zs) ∧
  xs.length + zs.length ≤ sizeLine ∧ Q .non (upd H l (.lst (xs ++ zs)))
theorem mt_extendT {X : Cx} : MtM X "list.extend" rExtendT := by
  intro pins s σ H x vs v us Q I rx rv h
  obtain ⟨l, b, xs, zs, rfl, rfl, hl, hb, sz, q⟩ := h
  cases rx
  obtain ⟨u, rfl, ru⟩ := rv.one
  cases ru
  obtain ⟨_, a1, n1, r1, k1, e1⟩ := I.lstM hl
  obtain ⟨a2, r2, ⟨⟨oc, od, dt, sl⟩, e2, (c2 : oc = .type "tuple"), n2, (d2 : dt = .seq a2.toArray n2)⟩, _⟩ := I.tuple (.inl (.inl hb))
  subst c2 d2
  have k2 := r2.length
  have ls : a1.toArray.size + a2.toArray.size ≤ sizeLine := by
    rw [List.size_toArray, List.size_toArray]
    omega
  have nl : ¬(!a1.toArray.isEmpty && Builtin.List.listTooLong (a1.toArray.size + a2.toArray.size)) = true := by
    rw [notLongL ls, Bool.and_false]
    decide
  refine call_meets PySem.F.slot_list_extend ⟨_, e1, rfl⟩ PySem.F.entry_list_extend (PySem.F.args_list_extend_2 _ _)
    (ext_tup l a1.toArray n1 b a2.toArray n2 od sl nl (by omega) (by omega)) ⟨e1, e2, ?_⟩
  refine ⟨.non, _, I.lset (its' := a1 ++ a2) hl e1 (by simp) (r1.append r2) ?_, rfl, q⟩
  rw [List.length_append]
  omega
def rExtendA : V → List V → Hp → VK → Prop := fun x vs H Q => rExtend x vs H Q ∨ rExtendT x vs H Q
theorem mt_extendA {X : Cx} : MtM X "list.extend" rExtendA := fun pins s σ H x vs v us Q I rx rv h => h.elim (mt_extend pins s σ H x vs v us Q I rx rv) (mt_extendT pins s σ H x vs v us Q I rx rv)
end K14.Gn
namespace K14.T5
open T27 T3
open K14.Gn
open PySem PySem.W PySem.Calls PyProof.Rows L2 LamX
open He (ga)
open Kz (SS ExtS ExtS.trans small4 same_new boot_in boot_li boot_isi Has pe_has noE PSs.of_eq seqI new_ext X1)
/-! ### is_use, is_joining, is_item, first_no_item -/
abbrev sIm : Stmt := topS 25
abbrev sFi : Stmt := topS 26
theorem scIm : FnScope ["thing", "ahead"] ["thing", "ahead"] (defScope sIm) := ⟨rfl, rfl, rfl, by decide +kernel, rfl, by decide +kernel, by decide +kernel⟩
theorem bdIm : defBody sIm = [stOf sIm 0, stOf sIm 1, stOf sIm 2] := by rfl
theorem scFi : FnScope ["items", "ahead", "at", "item"] ["items", "ahead"] (defScope sFi) := ⟨rfl, rfl, rfl, by decide +kernel, rfl, by decide +kernel, by decide +kernel⟩
theorem bdFi : defBody sFi = [stOf sFi 0, stOf sFi 1, stOf sFi 2] := by rfl
theorem bdFiF : forBody (stOf sFi 1) = [(forBody (stOf sFi 1)).getD 0 (.Pass ⟨0, 0, 0, 0⟩)] := by rfl
def loopM : List PyData → Bool
  | [a] => txtIn ["loop"] a
  | _ => false
/-- a use fits the part that stands ahead -/
def fitM (ah : Str → Option Nat) : List PyData → Bool
  | [_, .str b, c] => decide (ah b = some (its c).length)
  | _ => false
def itemB (ah : Str → Option Nat) (d : PyData) : Bool := isL d && (if useB d = true then fitM ah (its d) else cellB d || (joinB d || loopM (its d)))
/-- a dict from names to how many ends -/
structure AtD (H : Hp) (p : Addr) (ah : Str → Option Nat) : Prop where
  ex : ∃ kvs : List (Key × V), H p = some (.dK kvs) ∧ kvs.length ≤ 1000 ∧ ∀ s : Str, valV kvs (.inr s) = (ah s).map fun n : Nat => V.int (n : Nat)
theorem AtD.ext {H H1 : Hp} {p : Addr} {ah : Str → Option Nat} (h : AtD H p ah) (e : L2.Same H H1) : AtD H1 p ah := by
  obtain ⟨kvs, h1, h2, h3⟩ := h.ex
  exact ⟨kvs, e _ _ h1, h2, h3⟩
def fniL (ah : Str → Option Nat) : List PyData → Nat → Option Nat
  | [], _ => none
  | z :: r, j => if itemB ah z = true then fniL ah r (j + 1) else some j
def fni (ah : Str → Option Nat) (d : PyData) : Option Nat := if isL d = true then fniL ah (its d) 0 else some 0
def okIts (d : PyData) : Bool := decide ((its d).length ≤ 1000) && (its d).all okIt
theorem din_in {tx td : TE} {σ : L2.St} {H : Hp} {Q : VK} (h : tx σ H fun x H1 => td σ H1 fun y H2 => ∃ a o, y = .ref a ∧ DGet H2 a x o ∧ Q (.bl o.isSome) H2) : tDIn tx td σ H Q := h
section
variable {P : Program} {w : World} {K : Frag} {mg : Str → Option Value} {base : Heap}
theorem ok_iu {f : Addr} {fd : FuncData} (F : FunD K "is_use" "is_use" (defArgs sIu) (defBody sIu) (defScope sIu) [] [] f fd) (NM : Has P w K mg base "is_name" 2 ["thing"] spNm) (AN : Has P w K mg base "are_names" 3 ["thing"] spAn) (ml : mg "len" = none) : FnOk P w K mg base CX0 4 f fd ["thing"] (spIl useB) := by
  refine F.ok scIu (fun vs H Q E h => ?_) (fun cdv A outer s H vs Q XE hr h => ?_)
  · obtain ⟨v, d, rfl, _⟩ := h
    rfl
  · obtain ⟨v, d, rfl, hv, l, ok, k⟩ := h
    obtain ⟨o1, o2⟩ := okIt_at ok
    have hu : (XC P w K mg base ["thing"] "is_use" sIu f cdv A outer s H XE).A.units + 64 < cLine := hr.units
    have h0 : PS (XC P w K mg base ["thing"] "is_use" sIu f cdv A outer s H XE) (stOf sIu 0) _ := ps_ret (pe_and (pe_cmpR op_eq (pe_callB call_len_seq (by rfl) ml boot_len (pa_cons (pv 0) pa_nil)) pe_int (nomark _)) (pe_and (pe_cmpR (op_eqP hu) (pe_ix ix_seq (pv 0) pe_int (fun _ _ => rfl)) pe_str (nomark _)) (pe_and (pe_has NM (hr.mono (by decide)) (by rfl) (pa_cons (pe_ix ix_seq (pv 0) pe_int (fun _ _ => rfl)) pa_nil)) (pe_one (pe_has AN (hr.mono (by decide)) (by rfl) (pa_cons (pe_ix ix_seq (pv 0) pe_int (fun _ _ => rfl)) pa_nil))))))
    refine ⟨_, PSs.nox (PSs.of_eq bdIu (pss_one h0)), ?_⟩
    clear h0 hu
    refine ret_intro (andV_in (T3.op_in (ev_len (K := K) (rds_var (i := 0) rfl hv) l ⟨rfl, _, rfl, ?_⟩)))
    show (if decide (V.int (((its d).length : Nat) : Int) = V.int ((3 : Nat) : Int)) = true then _ else _)
    rw [len_dec]
    have kk : ∀ G, L2.Same H G → Q (.bl (useM (its d))) G := k
    by_cases c3 : (its d).length = 3
    · rw [decide_eq_true c3]
      obtain ⟨a, b, c, eq⟩ : ∃ a b c, its d = [a, b, c] := by
        match its d, c3 with
        | [a, b, c], _ => exact ⟨a, b, c, rfl⟩
      have ha := o2 a (by rw [eq]; simp)
      have hb := o2 b (by rw [eq]; simp)
      have hc := o2 c (by rw [eq]; simp)
      have ek : useM (its d) = (txtIn ["use"] a && (nameB b && namesB c)) := by rw [eq]; rfl
      rw [ek] at kk
      refine iteT (andV_in (ev_eqT (rds_ix (n := 0) (rds_var (i := 0) rfl hv) l (by rw [eq]; rfl)) ha.1 ⟨_, rfl, ?_⟩))
      cases q : txtIn ["use"] a with
      | false =>
        rw [q] at kk
        exact iteF (kk H (fun _ _ e => e))
      | true =>
        rw [q, Bool.true_and] at kk
        refine iteT (andV_in (call_in (rds_ix (K := K) (n := 1) (rds_var (i := 0) rfl hv) l (by rw [eq]; rfl) _ fun x tx => ⟨x, b, rfl, tx, (fun s e => Nat.le_trans (shS_str hb.2.1 e) (by decide)), fun G s1 => ⟨_, rfl, ?_⟩⟩)))
        cases q2 : nameB b with
        | false =>
          rw [q2] at kk
          exact iteF (kk G s1)
        | true =>
          rw [q2, Bool.true_and] at kk
          exact iteT (call_in (rds_ix (K := K) (n := 2) (rds_var (i := 0) rfl (hv.ext s1)) l (by rw [eq]; rfl) _ fun x tx => ⟨x, c, rfl, tx, hc.2.2, fun G s2 => kk G (s1.trans s2)⟩))
    · rw [decide_eq_false c3]
      rw [(useM_no c3).1] at kk
      exact iteF (kk H (fun _ _ e => e))
theorem ok_ij {f : Addr} {fd : FuncData} (F : FunD K "is_joining" "is_joining" (defArgs sIj) (defBody sIj) (defScope sIj) [] [] f fd) (AN : Has P w K mg base "are_names" 3 ["thing"] spAn) (ml : mg "len" = none) : FnOk P w K mg base CX0 4 f fd ["thing"] (spIl joinB) := by
  refine F.ok scIj (fun vs H Q E h => ?_) (fun cdv A outer s H vs Q XE hr h => ?_)
  · obtain ⟨v, d, rfl, _⟩ := h
    rfl
  · obtain ⟨v, d, rfl, hv, l, ok, k⟩ := h
    obtain ⟨o1, o2⟩ := okIt_at ok
    have hu : (XC P w K mg base ["thing"] "is_joining" sIj f cdv A outer s H XE).A.units + 64 < cLine := hr.units
    have h0 : PS (XC P w K mg base ["thing"] "is_joining" sIj f cdv A outer s H XE) (stOf sIj 0) _ := ps_ret (pe_and (pe_cmpR op_eq (pe_callB call_len_seq (by rfl) ml boot_len (pa_cons (pv 0) pa_nil)) pe_int (nomark _)) (pe_and (pe_cmpR (op_eqP hu) (pe_ix ix_seq (pv 0) pe_int (fun _ _ => rfl)) pe_str (nomark _)) (pe_one (pe_has AN (hr.mono (by decide)) (by rfl) (pa_cons (pe_slice (SlR.or sl_list sl_tupA) (pv 0) (po_some pe_int) po_none) pa_nil)))))
    refine ⟨_, PSs.nox (PSs.of_eq bdIj (pss_one h0)), ?_⟩
    clear h0 hu
    refine ret_intro (andV_in (T3.op_in (ev_len (K := K) (rds_var (i := 0) rfl hv) l ⟨rfl, _, rfl, ?_⟩)))
    show (if decide (V.int (((its d).length : Nat) : Int) = V.int ((3 : Nat) : Int)) = true then _ else _)
    rw [len_dec]
    have kk : ∀ G, L2.Same H G → Q (.bl (joinM (its d))) G := k
    by_cases c3 : (its d).length = 3
    · rw [decide_eq_true c3]
      obtain ⟨a, b, c, eq⟩ : ∃ a b c, its d = [a, b, c] := by
        match its d, c3 with
        | [a, b, c], _ => exact ⟨a, b, c, rfl⟩
      have ha := o2 a (by rw [eq]; simp)
      have ek : joinM (its d) = (txtIn ["join"] a && [b, c].all nameB) := by rw [eq]; rfl
      rw [ek] at kk
      refine iteT (andV_in (ev_eqT (rds_ix (n := 0) (rds_var (i := 0) rfl hv) l (by rw [eq]; rfl)) ha.1 ⟨_, rfl, ?_⟩))
      cases q : txtIn ["join"] a with
      | false =>
        rw [q] at kk
        exact iteF (kk H (fun _ _ e => e))
      | true =>
        rw [q, Bool.true_and] at kk
        refine iteT (call_in (ev_from (K := K) (m := 1) (rds_var (i := 0) rfl hv) l (by omega) fun G' x d' s3 t' l' e' => ⟨x, d', rfl, t', okNs_drop ok l' e', fun G2 s4 => ?_⟩))
        have en : namesB d' = [b, c].all nameB := by
          unfold namesB
          rw [l', e', eq]
          rfl
        rw [en]
        exact kk G2 (s3.trans s4)
    · rw [decide_eq_false c3]
      rw [(useM_no c3).2] at kk
      exact iteF (kk H (fun _ _ e => e))
def spIm : Sp := fun vs H Q _ => ∃ (v : V) (d : PyData) (p : Addr) (ah : Str → Option Nat), vs = [v, .ref p] ∧ Th H v d ∧ okIt d = true ∧ AtD H p ah ∧ ∀ H', L2.Same H H' → Q (.bl (itemB ah d)) H'
theorem use_parts {d : PyData} (h : useB d = true) : ∃ a b c, its d = [a, .str b, c] ∧ isL c = true := by
  unfold useB useM at h
  split at h
  · rename_i a b c e
    obtain ⟨_, h⟩ := Bool.and_eq_true_iff.mp h
    obtain ⟨h1, h2⟩ := Bool.and_eq_true_iff.mp h
    cases b with
    | str s => exact ⟨a, s, c, e, (Bool.and_eq_true_iff.mp h2).1⟩
    | _ => cases h1
  · cases h
theorem ok_im {f : Addr} {fd : FuncData} (F : FunD K "is_item" "is_item" (defArgs sIm) (defBody sIm) (defScope sIm) [] [] f fd) (L : Has P w K mg base "is_list" 1 ["thing"] (spLook isL)) (IU : Has P w K mg base "is_use" 4 ["thing"] (spIl useB)) (IC : Has P w K mg base "is_cell" 4 ["thing"] (spIt cellB)) (IJ : Has P w K mg base "is_joining" 4 ["thing"] (spIl joinB)) (ml : mg "len" = none) : FnOk P w K mg base CX0 5 f fd ["thing", "ahead"] spIm := by
  refine F.ok scIm (fun vs H Q E h => ?_) (fun cdv A outer s H vs Q XE hr h => ?_)
  · obtain ⟨v, d, p, ah, rfl, _⟩ := h
    rfl
  · obtain ⟨v, d, p, ah, rfl, hv, ok, hp, k⟩ := h
    obtain ⟨o1, o2⟩ := okIt_at ok
    have hu : (XC P w K mg base ["thing", "ahead"] "is_item" sIm f cdv A outer s H XE).A.units + 64 < cLine := hr.units
    have hu1 : (XC P w K mg base ["thing", "ahead"] "is_item" sIm f cdv A outer s H XE).A.units + 1 < cLine := by omega
    have h0 : PS (XC P w K mg base ["thing", "ahead"] "is_item" sIm f cdv A outer s H XE) (stOf sIm 0) _ := ps_if (pt_not (pt_val (pe_has L (hr.mono (by decide)) (by rfl) (pa_cons (pv 0) pa_nil)))) (pss_one (ps_ret pe_bl)) pss_nil
    have h1 : PS (XC P w K mg base ["thing", "ahead"] "is_item" sIm f cdv A outer s H XE) (stOf sIm 1) _ := ps_if (pt_val (pe_has IU (hr.mono (by decide)) (by rfl) (pa_cons (pv 0) pa_nil))) (pss_one (ps_ret (pe_and (pe_cmp (pc_din hu1 (pe_ix ix_seq (pv 0) pe_int (fun _ _ => rfl)) (pv 1)) (by rfl)) (pe_one (pe_cmpR op_eq (pe_dget hu1 (pv 1) (pe_ix ix_seq (pv 0) pe_int (fun _ _ => rfl)) (fun _ _ => rfl)) (pe_callB call_len_seq (by rfl) ml boot_len (pa_cons (pe_ix ix_seq (pv 0) pe_int (fun _ _ => rfl)) pa_nil)) (nomark _)))))) pss_nil
    have h2 : PS (XC P w K mg base ["thing", "ahead"] "is_item" sIm f cdv A outer s H XE) (stOf sIm 2) _ := ps_ret (pe_or (pe_has IC (hr.mono (by decide)) (by rfl) (pa_cons (pv 0) pa_nil)) (pe_or (pe_has IJ (hr.mono (by decide)) (by rfl) (pa_cons (pv 0) pa_nil)) (pe_one (pe_and (pe_cmpR op_eq (pe_callB call_len_seq (by rfl) ml boot_len (pa_cons (pv 0) pa_nil)) pe_int (nomark _)) (pe_one (pe_cmpR (op_eqP hu) (pe_ix ix_seq (pv 0) pe_int (fun _ _ => rfl)) pe_str (nomark _)))))))
    refine ⟨_, PSs.nox (PSs.of_eq bdIm (pss_cons h0 (pss_cons h1 (pss_one h2)))), ?_⟩
    clear h0 h1 h2 hu hu1
    refine T3.if_intro ⟨v, rfl, v, d, rfl, hv, fun H1 s1 => ⟨isL d, rfl, ?_⟩⟩
    unfold itemB at k
    cases l : isL d with
    | false =>
      rw [l] at k
      exact iteT (k H1 s1)
    | true =>
      rw [l, Bool.true_and] at k
      have hv1 := hv.ext s1
      refine iteF (nx_intro (ifS_intro ⟨v, rfl, v, d, rfl, hv1, l, ok, fun H2 s2 => ⟨useB d, rfl, ?_⟩⟩))
      have hv2 := hv1.ext s2
      have S2 := s1.trans s2
      cases q : useB d with
      | true =>
        obtain ⟨a, b, c, eq, lc⟩ := use_parts q
        have hc := o2 c (by rw [eq]; simp)
        obtain ⟨kvs, p1, p2, p3⟩ := (hp.ext S2).ex
        have ek : (if useB d = true then fitM ah (its d) else cellB d || (joinB d || loopM (its d))) = decide (ah b = some (its c).length) := by
          rw [q, if_pos rfl, eq]
          rfl
        rw [ek] at k
        refine iteT (ret_intro (andV_in (din_in (rds_ix (K := K) (n := 1) (rds_var (i := 0) rfl hv2) l (by rw [eq]; rfl) _ fun x tx => ?_))))
        cases tx with
        | str =>
        refine ⟨.ref p, rfl, p, _, rfl, DGet.k (k := .inr b) p1, _, rfl, ?_⟩
        rw [p3 b]
        cases hb : ah b with
        | none =>
          rw [hb] at k
          exact iteF (k H2 S2)
        | some n =>
          rw [hb] at k
          refine iteT (T3.op_in ⟨.ref p, rfl, rds_ix (K := K) (n := 1) (rds_var (i := 0) rfl hv2) l (by rw [eq]; rfl) _ fun x tx => ?_⟩)
          cases tx with
          | str =>
          have g : DGet H2 p (.str b) (some (.int (n : Nat))) := by
            have := DGet.k (k := .inr b) p1
            rw [p3 b, hb] at this
            exact this
          refine ⟨p, _, rfl, g, ev_len (K := K) (rds_ix (K := K) (n := 2) (rds_var (i := 0) rfl hv2) l (by rw [eq]; rfl)) lc ⟨rfl, ?_⟩⟩
          rw [len_dec]
          have e2 : decide ((some n : Option Nat) = some (its c).length) = decide (n = (its c).length) := by
            rw [Bool.eq_iff_iff, decide_eq_true_eq, decide_eq_true_eq]
            exact ⟨Option.some.inj, congrArg some⟩
          rw [e2] at k
          exact k H2 S2
      | false =>
        have ek : (if useB d = true then fitM ah (its d) else cellB d || (joinB d || loopM (its d))) = (cellB d || (joinB d || loopM (its d))) := by
          rw [q, if_neg Bool.false_ne_true]
        rw [ek] at k
        refine iteF (nx_intro (ret_intro (orV_in ⟨v, rfl, v, d, rfl, hv2, ok, fun H3 s3 => ⟨cellB d, rfl, ?_⟩⟩)))
        have S3 := S2.trans s3
        have hv3 := hv2.ext s3
        cases q1 : cellB d with
        | true =>
          rw [q1] at k
          exact iteT (k H3 S3)
        | false =>
          rw [q1, Bool.false_or] at k
          refine iteF (orV_in ⟨v, rfl, v, d, rfl, hv3, l, ok, fun H4 s4 => ⟨joinB d, rfl, ?_⟩⟩)
          have S4 := S3.trans s4
          have hv4 := hv3.ext s4
          cases q2 : joinB d with
          | true =>
            rw [q2] at k
            exact iteT (k H4 S4)
          | false =>
            rw [q2, Bool.false_or] at k
            refine iteF (andV_in (T3.op_in (ev_len (K := K) (rds_var (i := 0) rfl hv4) l ⟨rfl, _, rfl, ?_⟩)))
            show (if decide (V.int (((its d).length : Nat) : Int) = V.int ((1 : Nat) : Int)) = true then _ else _)
            rw [len_dec]
            by_cases c1 : (its d).length = 1
            · rw [decide_eq_true c1]
              obtain ⟨a, eq⟩ := List.length_eq_one_iff.mp c1
              have ha := o2 a (by rw [eq]; simp)
              have e3 : loopM (its d) = txtIn ["loop"] a := by rw [eq]; rfl
              rw [e3] at k
              exact iteT (ev_eqT (rds_ix (n := 0) (rds_var (i := 0) rfl hv4) l (by rw [eq]; rfl)) ha.1 (k H4 S4))
            · rw [decide_eq_false c1]
              have e3 : loopM (its d) = false := by
                match its d, c1 with
                | [], _ => rfl
                | [_], h => exact absurd rfl h
                | _ :: _ :: _, _ => rfl
              rw [e3] at k
              exact iteF (k H4 S4)
def spFi : Sp := fun vs H Q _ => ∃ (v : V) (d : PyData) (p : Addr) (ah : Str → Option Nat), vs = [v, .ref p] ∧ Th H v d ∧ okIts d = true ∧ AtD H p ah ∧ ∀ H', L2.Same H H' → Q (oV (fni ah d)) H'
theorem ok_fi {f : Addr} {fd : FuncData} (F : FunD K "first_no_item" "first_no_item" (defArgs sFi) (defBody sFi) (defScope sFi) [] [] f fd) (L : Has P w K mg base "is_list" 1 ["thing"] (spLook isL)) (IM : Has P w K mg base "is_item" 5 ["thing", "ahead"] spIm) (men : mg "enumerate" = none) : FnOk P w K mg base CX0 6 f fd ["items", "ahead"] spFi := by
  refine F.ok scFi (fun vs H Q E h => ?_) (fun cdv A outer s H vs Q XE hr h => ?_)
  · obtain ⟨v, d, p, ah, rfl, _⟩ := h
    rfl
  · obtain ⟨v, d, p, ah, rfl, hv, ok, hp, k⟩ := h
    obtain ⟨o1, o2⟩ := Bool.and_eq_true_iff.mp ok
    have h0 : PS (XC P w K mg base ["items", "ahead", "at", "item"] "first_no_item" sFi f cdv A outer s H XE) (stOf sFi 0) _ := ps_if (pt_not (pt_val (pe_has L (hr.mono (by decide)) (by rfl) (pa_cons (pv 0) pa_nil)))) (pss_one (ps_ret pe_int)) pss_nil
    have b0 : PS (XC P w K mg base ["items", "ahead", "at", "item"] "first_no_item" sFi f cdv A outer s H XE) ((forBody (stOf sFi 1)).getD 0 (.Pass ⟨0, 0, 0, 0⟩)) _ := ps_if (pt_not (pt_val (pe_has IM (hr.mono (by decide)) (by rfl) (pa_cons (pv 3) (pa_cons (pv 1) pa_nil))))) (pss_one (ps_ret (pv 2))) pss_nil
    have h1 : PS (XC P w K mg base ["items", "ahead", "at", "item"] "first_no_item" sFi f cdv A outer s H XE) (stOf sFi 1) _ := ps_for PassesOwn.never rfl (EnT.pi_enB (by rfl) men (pa_cons (pv 0) pa_nil)) (pg_tup (n := 2) rfl (pgs_cons (pg_name (i := 2) scFi.nd rfl (.inl rfl)) (pgs_cons (pg_name (i := 3) scFi.nd rfl (.inl rfl)) pgs_nil))) (PSs.of_eq bdFiF (pss_one b0))
    have h2 : PS (XC P w K mg base ["items", "ahead", "at", "item"] "first_no_item" sFi f cdv A outer s H XE) (stOf sFi 2) _ := ps_ret pe_non
    refine ⟨_, PSs.nox (PSs.of_eq bdFi (pss_cons h0 (pss_cons h1 (pss_one h2)))), ?_⟩
    clear h0 h1 h2 b0
    refine T3.if_intro ⟨v, rfl, v, d, rfl, hv, fun H1 s1 => ⟨isL d, rfl, ?_⟩⟩
    unfold fni at k
    cases l : isL d with
    | false =>
      rw [l] at k
      exact iteT (k H1 s1)
    | true =>
      rw [l, if_pos rfl] at k
      refine iteF (nx_intro ?_)
      refine for_enS (H0 := H1) (v := v) (d := d) (i1 := 2) (i2 := 3) (fun R h => ⟨v, rfl, h⟩) (hv.ext s1) l (fun j σ G => ∃ (a2 a3 : Option V), σ = [some v, some (.ref p), a2, a3] ∧ L2.Same H1 G ∧ fniL ah (its d) 0 = fniL ah ((its d).drop j) j) ⟨none, none, rfl, (fun _ _ e => e), rfl⟩ (fun j σ G e => ?_) (fun j z x σ' G hz tx e G' e' => ?_) (fun σ G e => ?_)
      · obtain ⟨_, _, _, e, _⟩ := e
        exact e
      · obtain ⟨a2, a3, rfl, S, hf⟩ := e
        rw [drop_get hz] at hf
        have S1 := s1.trans (S.trans e')
        refine ⟨x, rfl, .ref p, rfl, x, z, p, ah, rfl, tx.ext e', List.all_eq_true.mp o2 z (List.mem_of_getElem? hz), hp.ext S1, fun G2 s2 => ⟨itemB ah z, rfl, ?_⟩⟩
        have ef : fniL ah (z :: (its d).drop (j + 1)) j = if itemB ah z = true then fniL ah ((its d).drop (j + 1)) (j + 1) else some j := rfl
        cases q : itemB ah z with
        | false =>
          rw [q] at ef
          refine iteT ⟨.int (j : Nat), rfl, ?_⟩
          have kk := k G2 (S1.trans s2)
          rw [hf, ef] at kk
          exact kk
        | true =>
          rw [q] at ef
          exact iteF ⟨_, _, rfl, (S.trans e').trans s2, by rw [hf, ef]; rfl⟩
      · obtain ⟨a2, a3, rfl, S, hf⟩ := e
        rw [List.drop_length] at hf
        have kk := k G (s1.trans S)
        rw [hf] at kk
        exact kk
end
end K14.T5
namespace K14.T5
open T27 T3
open K14.Gn
open PySem PySem.W PySem.Calls PyProof.Rows L2 LamX
open He (ga)
open Kz (SS ExtS ExtS.trans small4 same_new boot_in boot_li boot_isi Has pe_has noE PSs.of_eq seqI new_ext X1)
/-! ### wires_of, names_in, first_not_twice -/
abbrev sWo : Stmt := topS 27
abbrev sNi : Stmt := topS 28
abbrev sFt : Stmt := topS 18
theorem scWo : FnScope ["item"] ["item"] (defScope sWo) := ⟨rfl, rfl, rfl, by decide +kernel, rfl, by decide +kernel, by decide +kernel⟩
theorem bdWo : defBody sWo = [stOf sWo 0, stOf sWo 1] := by rfl
theorem scNi : FnScope ["ends", "items", "names", "item"] ["ends", "items"] (defScope sNi) := ⟨rfl, rfl, rfl, by decide +kernel, rfl, by decide +kernel, by decide +kernel⟩
theorem bdNi : defBody sNi = [stOf sNi 0, stOf sNi 1, stOf sNi 2] := by rfl
theorem bdNiF : forBody (stOf sNi 1) = [(forBody (stOf sNi 1)).getD 0 (.Pass ⟨0, 0, 0, 0⟩)] := by rfl
theorem scFt : FnScope ["names", "times", "name"] ["names"] (defScope sFt) := ⟨rfl, rfl, rfl, by decide +kernel, rfl, by decide +kernel, by decide +kernel⟩
theorem bdFt : defBody sFt = [stOf sFt 0, stOf sFt 1, stOf sFt 2, stOf sFt 3] := by rfl
theorem bdFtA : forBody (stOf sFt 1) = [(forBody (stOf sFt 1)).getD 0 (.Pass ⟨0, 0, 0, 0⟩)] := by rfl
theorem bdFtB : forBody (stOf sFt 2) = [(forBody (stOf sFt 2)).getD 0 (.Pass ⟨0, 0, 0, 0⟩)] := by rfl
theorem dropS' {te : TE} {D : Ends} {σ : L2.St} {H : Hp} (h : te σ H fun _ G => D.nx σ G) : tDrop te D σ H := h
theorem drop_getA {α : Type} {l : List α} {j : Nat} {a : α} (h : l[j]? = some a) : l.drop j = a :: l.drop (j + 1) := by
  obtain ⟨hl, he⟩ := List.getElem?_eq_some_iff.mp h
  rw [List.drop_eq_getElem_cons hl, he]
def strD : PyData → Str
  | .str s => s
  | _ => ""
/-- the wires that an item names -/
def wiresD (d : PyData) : List PyData := match its d with
  | a :: r => if txtIn ["use"] a = true then its (r.getD 1 .none) else r
  | [] => []
def wS (d : PyData) : List Str := (wiresD d).map strD
theorem txtIn_mem {ss : List Str} {a : PyData} (h : txtIn ss a = true) : ∃ s ∈ ss, a = .str s := by
  cases a with
  | str x =>
    refine ⟨x, ?_, rfl⟩
    have h : inV (.str x) (ss.map V.str) = true := h
    unfold inV at h
    obtain ⟨y, hy, e⟩ := List.any_eq_true.mp h
    obtain ⟨s, hs, rfl⟩ := List.mem_map.mp hy
    have e : (s == x) = true := e
    rw [beq_iff_eq] at e
    rw [← e]
    exact hs
  | _ => cases h
theorem names_str {ds : List PyData} (h : ds.all nameB = true) : ds = (ds.map strD).map .str := by
  rw [List.map_map]
  have : ∀ z ∈ ds, (PyData.str ∘ strD) z = z := fun z hz => by
    have hz := List.all_eq_true.mp h z hz
    cases z with
    | str s => rfl
    | _ => cases hz
  rw [List.map_congr_left this]
  simp
/-- what a right item is -/
theorem item_cases {ah : Str → Option Nat} {d : PyData} (h : itemB ah d = true) : isL d = true ∧ ∃ a r, its d = a :: r ∧ isD a = false ∧ (wiresD d).all nameB = true ∧
    ((txtIn ["use"] a = true ∧ ∃ b c, r = [.str b, c] ∧ isL c = true ∧ wiresD d = its c) ∨ (txtIn ["use"] a = false ∧ wiresD d = r)) := by
  unfold itemB at h
  obtain ⟨l, h⟩ := Bool.and_eq_true_iff.mp h
  refine ⟨l, ?_⟩
  by_cases q : useB d = true
  · obtain ⟨a, b, c, eq, lc⟩ := use_parts q
    have q2 : useM (its d) = true := q
    rw [eq] at q2
    obtain ⟨q3, q4⟩ := Bool.and_eq_true_iff.mp (show (txtIn ["use"] a && (nameB (.str b) && namesB c)) = true from q2)
    obtain ⟨_, q5⟩ := Bool.and_eq_true_iff.mp q4
    have ew : wiresD d = its c := by
      unfold wiresD
      rw [eq]
      show (if txtIn ["use"] a = true then _ else _) = _
      rw [if_pos q3]
      rfl
    refine ⟨a, [.str b, c], eq, ?_, ?_, .inl ⟨q3, b, c, rfl, lc, ew⟩⟩
    · obtain ⟨s, _, rfl⟩ := txtIn_mem q3
      rfl
    · rw [ew]
      exact (Bool.and_eq_true_iff.mp q5).2
  · rw [if_neg q] at h
    have key : ∀ (a : PyData) (r : List PyData) (ss : List Str), its d = a :: r → txtIn ss a = true → ("use" : Str) ∉ ss → r.all nameB = true → ∃ a r, its d = a :: r ∧ isD a = false ∧ (wiresD d).all nameB = true ∧
        ((txtIn ["use"] a = true ∧ ∃ b c, r = [.str b, c] ∧ isL c = true ∧ wiresD d = its c) ∨ (txtIn ["use"] a = false ∧ wiresD d = r)) := fun a r ss eq ha hn hr => by
      obtain ⟨s, hs, rfl⟩ := txtIn_mem ha
      have hu : txtIn ["use"] (.str s) = false := by
        cases z : txtIn ["use"] (.str s) with
        | false => rfl
        | true =>
          obtain ⟨t, ht, e⟩ := txtIn_mem z
          rw [List.mem_singleton.mp ht] at e
          cases e
          exact absurd hs hn
      have ew : wiresD d = r := by
        unfold wiresD
        rw [eq]
        show (if txtIn ["use"] (.str s) = true then _ else _) = _
        rw [hu]
        rfl
      exact ⟨.str s, r, eq, rfl, by rw [ew]; exact hr, .inr ⟨hu, ew⟩⟩
    rcases Bool.or_eq_true_iff.mp h with h | h
    · obtain ⟨_, h⟩ := Bool.and_eq_true_iff.mp (show (isL d && cellM (its d)) = true from h)
      unfold cellM at h
      split at h
      · rename_i a b e
        obtain ⟨h1, h2⟩ := Bool.and_eq_true_iff.mp h
        exact key a [b] _ e h1 (by decide +kernel) (by rw [List.all_cons, h2]; rfl)
      · rename_i a b c g e
        obtain ⟨h1, h2⟩ := Bool.and_eq_true_iff.mp h
        exact key a _ _ e h1 (by decide +kernel) h2
      · cases h
    · rcases Bool.or_eq_true_iff.mp h with h | h
      · have h : joinM (its d) = true := h
        unfold joinM at h
        split at h
        · rename_i a b c e
          obtain ⟨h1, h2⟩ := Bool.and_eq_true_iff.mp h
          exact key a _ _ e h1 (by decide +kernel) h2
        · cases h
      · unfold loopM at h
        split at h
        · rename_i a e
          exact key a [] _ e h (by decide +kernel) rfl
        · cases h
theorem wires_str {ah : Str → Option Nat} {d : PyData} (h : itemB ah d = true) : wiresD d = (wS d).map .str := by
  obtain ⟨_, _, _, _, _, h, _⟩ := item_cases h
  exact names_str h
/-- the first name that does not stand twice -/
def fnt (ns : List Str) : Option Str := ns.find? fun s => !decide (ns.count s = 2)
def oS : Option Str → V
  | none => .non
  | some s => .str s
section
variable {P : Program} {w : World} {K : Frag} {mg : Str → Option Value} {base : Heap}
def spWo : Sp := fun vs H Q _ => ∃ (v : V) (d : PyData) (ah : Str → Option Nat), vs = [v] ∧ Th H v d ∧ itemB ah d = true ∧ ∀ (H' : Hp) (x : V) (d' : PyData), L2.Same H H' → Th H' x d' → isL d' = true → its d' = wiresD d → Q x H'
theorem ok_wo {f : Addr} {fd : FuncData} (F : FunD K "wires_of" "wires_of" (defArgs sWo) (defBody sWo) (defScope sWo) [] [] f fd) : FnOk P w K mg base CX0 1 f fd ["item"] spWo := by
  refine F.ok scWo (fun vs H Q E h => ?_) (fun cdv A outer s H vs Q XE hr h => ?_)
  · obtain ⟨v, d, ah, rfl, _⟩ := h
    rfl
  · obtain ⟨v, d, ah, rfl, hv, hi, k⟩ := h
    have hu : (XC P w K mg base ["item"] "wires_of" sWo f cdv A outer s H XE).A.units + 64 < cLine := hr.units
    have h0 : PS (XC P w K mg base ["item"] "wires_of" sWo f cdv A outer s H XE) (stOf sWo 0) _ := ps_if (pt_cmpR (op_eqP hu) (pe_ix ix_seq (pv 0) pe_int (fun _ _ => rfl)) pe_str (nomark _)) (pss_one (ps_ret (pe_ix ix_seq (pv 0) pe_int (fun _ _ => rfl)))) pss_nil
    have h1 : PS (XC P w K mg base ["item"] "wires_of" sWo f cdv A outer s H XE) (stOf sWo 1) _ := ps_ret (pe_slice (SlR.or sl_list sl_tupA) (pv 0) (po_some pe_int) po_none)
    refine ⟨_, PSs.nox (PSs.of_eq bdWo (pss_cons h0 (pss_one h1))), ?_⟩
    clear h0 h1 hu
    obtain ⟨l, a, r, eq, nd, _, hc⟩ := item_cases hi
    refine T3.if_intro (tst_in (ev_eqT (rds_ix (K := K) (n := 0) (rds_var (i := 0) rfl hv) l (by rw [eq]; rfl)) nd ⟨_, rfl, ?_⟩))
    rcases hc with ⟨hu, b, c, rfl, lc, ew⟩ | ⟨hu, ew⟩
    · rw [hu]
      exact iteT (ret_intro (rds_ix (K := K) (n := 2) (rds_var (i := 0) rfl hv) l (by rw [eq]; rfl) _ fun x tx => k H x c (fun _ _ e => e) tx lc ew.symm))
    · rw [hu]
      refine iteF (nx_intro (ret_intro (ev_from (K := K) (m := 1) (rds_var (i := 0) rfl hv) l (by rw [eq, List.length_cons]; omega) fun G' x d' s3 t' l' e' => k G' x d' s3 t' l' (by rw [e', eq, ew]; rfl))))
def spNi : Sp := fun vs H Q _ => ∃ (ve vi : V) (de di : PyData) (es : List Str) (ah : Str → Option Nat), vs = [ve, vi] ∧ Th H ve de ∧ isL de = true ∧ its de = es.map .str ∧ Th H vi di ∧ isL di = true ∧ (∀ z ∈ its di, itemB ah z = true) ∧ (es ++ (its di).flatMap wS).length ≤ 2000000 ∧
  ∀ (H' : Hp) (D : Addr), L2.Same H H' → H D = none → H' D = some (.lst ((es ++ (its di).flatMap wS).map V.str)) → Q (.ref D) H'
theorem ok_ni {f : Addr} {fd : FuncData} (F : FunD K "names_in" "names_in" (defArgs sNi) (defBody sNi) (defScope sNi) [] [] f fd) (WO : Has P w K mg base "wires_of" 1 ["item"] spWo) (ml : mg "list" = none) : FnOk P w K mg base CX0 2 f fd ["ends", "items"] spNi := by
  refine F.ok scNi (fun vs H Q E h => ?_) (fun cdv A outer s H vs Q XE hr h => ?_)
  · obtain ⟨ve, vi, de, di, es, ah, rfl, _⟩ := h
    rfl
  · obtain ⟨ve, vi, de, di, es, ah, rfl, te, le, ee, ti, li, hi, hz, k⟩ := h
    have h0 : PS (XC P w K mg base ["ends", "items", "names", "item"] "names_in" sNi f cdv A outer s H XE) (stOf sNi 0) _ := ps_set (i := 2) scNi.nd rfl (.inl rfl) (pe_callTy call_list_of (by rfl) ml boot_li (pa_cons (pv 0) pa_nil))
    have b0 : PS (XC P w K mg base ["ends", "items", "names", "item"] "names_in" sNi f cdv A outer s H XE) ((forBody (stOf sNi 1)).getD 0 (.Pass ⟨0, 0, 0, 0⟩)) _ := ps_expr (pe_bm PySem.F.plainAttrs_list PySem.F.slot_list_extend PySem.F.type_list_extend mt_extendA (pv 2) (pa_cons (pe_has WO (hr.mono (by decide)) (by rfl) (pa_cons (pv 3) pa_nil)) pa_nil))
    have h1 : PS (XC P w K mg base ["ends", "items", "names", "item"] "names_in" sNi f cdv A outer s H XE) (stOf sNi 1) _ := ps_for PassesOwn.never rfl (pi_sq (pv 1)) (pg_name (i := 3) scNi.nd rfl (.inl rfl)) (PSs.of_eq bdNiF (pss_one b0))
    have h2 : PS (XC P w K mg base ["ends", "items", "names", "item"] "names_in" sNi f cdv A outer s H XE) (stOf sNi 2) _ := ps_ret (pv 2)
    refine ⟨_, PSs.nox (PSs.of_eq bdNi (pss_cons h0 (pss_cons h1 (pss_one h2)))), ?_⟩
    clear h0 h1 h2 b0
    obtain ⟨ae, xe, rfl, re, hxe⟩ := te.seq (K := K) le
    rw [ee] at re
    have exe := T3.th_strsV re
    subst exe
    refine T3.set_intro (i := 2) ⟨.ref ae, rfl, ae, es.map V.str, rfl, hxe.elim (fun h => .inl (.inl (.inl h))) (fun h => .inr (.inl (.inl h))), fun D nD => ?_⟩
    have z1 := same_new (o := .lst (es.map V.str)) nD
    have hD := upd_same (H := H) (a := D) (o := .lst (es.map V.str))
    refine for_sqS (K := K) (H0 := H) (v := vi) (d := di) (i := 3) (fun R h => ⟨vi, rfl, h⟩) ti li (fun j σ G => ∃ a3, σ = [some (.ref ae), some vi, some (.ref D), a3] ∧ L2.Same H G ∧ G D = some (.lst ((es ++ ((its di).take j).flatMap wS).map V.str))) ⟨none, rfl, z1, by simpa using hD⟩ (fun j σ G e => ?_) (fun j z x σ' G hzj tx tx0 e => ?_) (fun σ G e => ?_)
    · obtain ⟨_, _, e, _⟩ := e
      exact e
    · obtain ⟨a3, rfl, S, hG⟩ := e
      have iz := hi z (List.mem_of_getElem? hzj)
      have jl : j < (its di).length := (List.getElem?_eq_some_iff.mp hzj).1
      refine dropS' ?_
      refine ⟨.ref D, rfl, .inl ⟨rfl, _, .inl (.inl hG)⟩, x, rfl, x, z, ah, rfl, tx, iz, fun G2 y d' s2 ty ly ey => ?_⟩
      obtain ⟨ay, ys, rfl, ry, hy⟩ := ty.seq (K := K) ly
      rw [ey, wires_str iz] at ry
      have eys := T3.th_strsV ry
      subst eys
      have hG2 := s2 _ _ hG
      have et : (its di).take (j + 1) = (its di).take j ++ [z] := by
        rw [List.take_add_one, hzj]
        rfl
      have el : (es ++ ((its di).take j).flatMap wS).map V.str ++ (wS z).map V.str = (es ++ ((its di).take (j + 1)).flatMap wS).map V.str := by
        rw [et, List.flatMap_append, ← List.map_append, List.append_assoc]
        simp
      have sz : ((es ++ ((its di).take j).flatMap wS).map V.str).length + ((wS z).map V.str).length ≤ sizeLine := by
        rw [← List.length_append, el, List.length_map, List.length_append]
        have h1 : (((its di).take (j + 1)).flatMap wS).length ≤ ((its di).flatMap wS).length := by
          have e3 : (its di).flatMap wS = ((its di).take (j + 1)).flatMap wS ++ ((its di).drop (j + 1)).flatMap wS := by
            rw [← List.flatMap_append, List.take_append_drop]
          rw [e3, List.length_append]
          omega
        rw [List.length_append] at hz
        rw [sizeLine_eq]
        omega
      have fin : ∃ a3, [some (.ref ae), some vi, some (.ref D), some x] = [some (.ref ae), some vi, some (.ref D), a3] ∧ L2.Same H (upd G2 D (.lst ((es ++ ((its di).take (j + 1)).flatMap wS).map V.str))) ∧ (upd G2 D (.lst ((es ++ ((its di).take (j + 1)).flatMap wS).map V.str))) D = some (.lst ((es ++ ((its di).take (j + 1)).flatMap wS).map V.str)) :=
        ⟨_, rfl, fun b o hb => by
          rw [upd_ne (fun z => by rw [z, nD] at hb; cases hb)]
          exact s2 _ _ (S _ _ hb), upd_same⟩
      rcases hy with hy | hy
      · exact .inl ⟨D, ay, _, _, rfl, rfl, hG2, hy, sz, by rw [el]; exact fin⟩
      · exact .inr ⟨D, ay, _, _, rfl, rfl, hG2, hy, sz, by rw [el]; exact fin⟩
    · obtain ⟨a3, rfl, S, hG⟩ := e
      rw [List.take_length] at hG
      exact ⟨.ref D, rfl, k G D S nD hG⟩
def spFt : Sp := fun vs H Q _ => ∃ (a : Addr) (ns : List Str), vs = [.ref a] ∧ H a = some (.lst (ns.map V.str)) ∧ ns.length ≤ 2000000 ∧ ∀ H', L2.Same H H' → Q (oS (fnt ns)) H'
theorem ok_ft {f : Addr} {fd : FuncData} (F : FunD K "first_not_twice" "first_not_twice" (defArgs sFt) (defBody sFt) (defScope sFt) [] [] f fd) : FnOk P w K mg base CX0 1 f fd ["names"] spFt := by
  refine F.ok scFt (fun vs H Q E h => ?_) (fun cdv A outer s H vs Q XE hr h => ?_)
  · obtain ⟨a, ns, rfl, _⟩ := h
    rfl
  · obtain ⟨a, ns, rfl, ha, hn, k⟩ := h
    have hu : (XC P w K mg base ["names", "times", "name"] "first_not_twice" sFt f cdv A outer s H XE).A.units + 64 < cLine := hr.units
    have hu1 : (XC P w K mg base ["names", "times", "name"] "first_not_twice" sFt f cdv A outer s H XE).A.units + 1 < cLine := by omega
    have h0 : PS (XC P w K mg base ["names", "times", "name"] "first_not_twice" sFt f cdv A outer s H XE) (stOf sFt 0) _ := ps_set (i := 1) scFt.nd rfl (.inl rfl) pe_dnewK
    have b0 : PS (XC P w K mg base ["names", "times", "name"] "first_not_twice" sFt f cdv A outer s H XE) ((forBody (stOf sFt 1)).getD 0 (.Pass ⟨0, 0, 0, 0⟩)) _ := ps_asg (pe_op op_add (pe_dget2 hu1 (pv 1) (pv 2) pe_int ⟨rfl, rfl, rfl, rfl⟩) pe_int) (pg_sub (pv 1) (pv 2) (_root_.L2.set_dict hu1))
    have b1 : PS (XC P w K mg base ["names", "times", "name"] "first_not_twice" sFt f cdv A outer s H XE) ((forBody (stOf sFt 2)).getD 0 (.Pass ⟨0, 0, 0, 0⟩)) _ := ps_if (pt_cmpR op_ne (pe_dget hu1 (pv 1) (pv 2) (fun _ _ => rfl)) pe_int (nomark _)) (pss_one (ps_ret (pv 2))) pss_nil
    have h1 : PS (XC P w K mg base ["names", "times", "name"] "first_not_twice" sFt f cdv A outer s H XE) (stOf sFt 1) _ := ps_for PassesOwn.never rfl (pi_list (pv 0)) (pg_name (i := 2) scFt.nd rfl (.inl rfl)) (PSs.of_eq bdFtA (pss_one b0))
    have h2 : PS (XC P w K mg base ["names", "times", "name"] "first_not_twice" sFt f cdv A outer s H XE) (stOf sFt 2) _ := ps_for PassesOwn.never rfl (pi_list (pv 0)) (pg_name (i := 2) scFt.nd rfl (.inl rfl)) (PSs.of_eq bdFtB (pss_one b1))
    have h3 : PS (XC P w K mg base ["names", "times", "name"] "first_not_twice" sFt f cdv A outer s H XE) (stOf sFt 3) _ := ps_ret pe_non
    refine ⟨_, PSs.nox (PSs.of_eq bdFt (pss_cons h0 (pss_cons h1 (pss_cons h2 (pss_one h3))))), ?_⟩
    clear h0 h1 h2 h3 b0 b1 hu hu1
    refine T3.set_intro (i := 1) fun p np => ?_
    have z1 := same_new (o := .dK []) np
    have hp := upd_same (H := H) (a := p) (o := .dK [])
    have npa : a ≠ p := ne_of_none ha np
    refine ⟨.ref a, rfl, a, rfl, ⟨ns.map V.str, .inl (.inl (z1 _ _ ha))⟩, for_list (xs := ns.map V.str) (fun j σ G => ∃ (a2 : Option V) (kvs : List (Key × V)), σ = [some (.ref a), some (.ref p), a2] ∧ L2.Same H G ∧ G p = some (.dK kvs) ∧ kvs.length ≤ j ∧ ∀ s : Str, valV kvs (.inr s) = if (ns.take j).count s = 0 then none else some (.int ((ns.take j).count s : Nat))) ⟨none, [], rfl, z1, hp, Nat.le_refl _, fun s => rfl⟩ (fun j σ G _ e => ?_) (fun j x σ G hx e => ?_) (fun σ G e => ?_)⟩
    · obtain ⟨_, _, _, e, _⟩ := e
      exact .inl (.inl (e _ _ ha))
    · obtain ⟨a2, kvs, rfl, S, hG, lk, hv⟩ := e
      rw [List.getElem?_map] at hx
      cases hs : ns[j]? with
      | none => rw [hs] at hx; cases hx
      | some s =>
        rw [hs] at hx
        cases hx
        have jl : j < ns.length := (List.getElem?_eq_some_iff.mp hs).1
        refine gset ?_
        have g := DGet.k (k := .inr s) hG
        refine ⟨.ref p, rfl, p, rfl, .inl ⟨_, .inl hG⟩, .str s, rfl, _, g, ((ns.take j).count s : Nat), 1, ?_, rfl, ?_⟩
        · rw [hv s]
          by_cases c : (ns.take j).count s = 0
          · rw [if_pos c, c]
            rfl
          · rw [if_neg c]
            rfl
        refine ⟨.ref p, rfl, .str s, rfl, p, _, rfl, DPut.k (k := .inr s) hG (by rw [sizeLine_eq]; omega), ?_⟩
        have et : ns.take (j + 1) = ns.take j ++ [s] := by
          rw [List.take_add_one, hs]
          rfl
        refine ⟨_, _, rfl, fun b o hb => ?_, upd_same, Nat.le_trans (length_putK _ _ _) (by omega), fun s' => ?_⟩
        · rw [upd_ne (ne_of_none hb np)]
          exact S _ _ hb
        · rw [valV_put, et, List.count_append]
          by_cases es : s' = s
          · subst es
            rw [if_pos rfl, List.count_singleton_self, if_neg (by omega)]
            push_cast
            rfl
          · have e0 : List.count s' [s] = 0 := List.count_eq_zero.mpr fun m => es (List.mem_singleton.mp m)
            rw [if_neg (fun y => es (Sum.inr.inj y)), hv s', e0, Nat.add_zero]
    · obtain ⟨a2, kvs, rfl, S, hG, lk, hv⟩ := e
      have lm : (ns.map V.str).length = ns.length := List.length_map ..
      rw [lm, List.take_length] at hv
      refine nx_intro ⟨.ref a, rfl, a, rfl, ⟨ns.map V.str, .inl (.inl (S _ _ ha))⟩, for_list (xs := ns.map V.str) (fun j σ G2 => ∃ (a2 : Option V), σ = [some (.ref a), some (.ref p), a2] ∧ L2.Same G G2 ∧ fnt ns = (ns.drop j).find? fun s => !decide (ns.count s = 2)) ⟨_, rfl, (fun _ _ e => e), rfl⟩ (fun j σ G2 _ e => ?_) (fun j x σ G2 hx e => ?_) (fun σ G2 e => ?_)⟩
      · obtain ⟨_, _, e, _⟩ := e
        exact .inl (.inl (e _ _ (S _ _ ha)))
      · obtain ⟨a2, rfl, S2, hf⟩ := e
        rw [List.getElem?_map] at hx
        cases hs : ns[j]? with
        | none => rw [hs] at hx; cases hx
        | some s =>
          rw [hs] at hx
          cases hx
          refine gset ?_
          have ms : s ∈ ns := List.mem_of_getElem? hs
          have c0 : ns.count s ≠ 0 := fun z => List.count_eq_zero.mp z ms
          have g := DGet.k (k := .inr s) (S2 _ _ hG)
          rw [hv s, if_neg c0] at g
          refine T3.if_intro (tst_in ⟨.ref p, rfl, .str s, rfl, p, _, rfl, g, rfl, _, rfl, ?_⟩)
          show (if (!decide (V.int ((ns.count s : Nat) : Int) = V.int ((2 : Nat) : Int))) = true then _ else _)
          rw [len_dec]
          rw [drop_getA hs, List.find?_cons] at hf
          cases q : decide (ns.count s = 2) with
          | false =>
            rw [q] at hf
            refine iteT (ret_intro ⟨.str s, rfl, ?_⟩)
            have kk := k G2 (S.trans S2)
            rw [hf] at kk
            exact kk
          | true =>
            rw [q] at hf
            exact iteF ⟨_, rfl, S2, hf⟩
      · obtain ⟨a2, rfl, S2, hf⟩ := e
        rw [lm, List.drop_length] at hf
        have kk := k G2 (S.trans S2)
        rw [hf] at kk
        exact nx_intro (ret_intro kk)
end
end K14.T5
namespace K14.T5
open T27 T3
open K14.Gn
open PySem PySem.W PySem.Calls PyProof.Rows L2 LamX
open He (ga)
open Kz (SS ExtS ExtS.trans small4 same_new boot_in boot_li boot_isi Has pe_has noE PSs.of_eq seqI new_ext X1)
/-! ### is_part -/
abbrev sIp : Stmt := topS 29
theorem scIp : FnScope ["thing", "ahead"] ["thing", "ahead"] (defScope sIp) := ⟨rfl, rfl, rfl, by decide +kernel, rfl, by decide +kernel, by decide +kernel⟩
theorem bdIp : defBody sIp = [stOf sIp 0, stOf sIp 1, stOf sIp 2] := by rfl
def wiresAll (b c : PyData) : List Str := (its b).map strD ++ (its c).flatMap wS
def partM (ah : Str → Option Nat) : List PyData → Bool
  | [a, b, c] => nameB a && ((fne b).isNone && ((fni ah c).isNone && (fnt (wiresAll b c)).isNone))
  | _ => false
def partB (ah : Str → Option Nat) (d : PyData) : Bool := isL d && partM ah (its d)
def okPt (d : PyData) : Bool := decide ((its d).length ≤ 1000) && (its d).all fun y => shS y && (okNs y && okIts y)
theorem okPt_at {d y : PyData} (h : okPt d = true) (m : y ∈ its d) : shS y = true ∧ okNs y = true ∧ okIts y = true := by
  obtain ⟨_, b⟩ := Bool.and_eq_true_iff.mp h
  obtain ⟨c, e⟩ := Bool.and_eq_true_iff.mp (List.all_eq_true.mp b y m)
  obtain ⟨e, f⟩ := Bool.and_eq_true_iff.mp e
  exact ⟨c, e, f⟩
theorem fneL_none : ∀ (ds : List PyData) (st : List Str) (j : Nat), fneL ds st j = none → ds.all nameB = true
  | [], _, _, _ => rfl
  | z :: r, st, j, h => by
    cases z with
    | str s =>
      have e : fneL (.str s :: r) st j = if (nameB (.str s) && !st.contains s) = true then fneL r (st ++ [s]) (j + 1) else some j := rfl
      rw [e] at h
      by_cases c : (nameB (.str s) && !st.contains s) = true
      · rw [if_pos c] at h
        rw [List.all_cons, (Bool.and_eq_true_iff.mp c).1, fneL_none r _ _ h]
        rfl
      · rw [if_neg c] at h
        cases h
    | _ => cases (show some j = none from h)
theorem fne_none {d : PyData} (h : fne d = none) : isL d = true ∧ (its d).all nameB = true := by
  unfold fne at h
  cases l : isL d with
  | false =>
    rw [l] at h
    cases h
  | true =>
    rw [l] at h
    exact ⟨rfl, fneL_none _ _ _ h⟩
theorem fniL_none {ah : Str → Option Nat} : ∀ (ds : List PyData) (j : Nat), fniL ah ds j = none → ∀ z ∈ ds, itemB ah z = true
  | [], _, _, z, m => nomatch m
  | y :: r, j, h, z, m => by
    have e : fniL ah (y :: r) j = if itemB ah y = true then fniL ah r (j + 1) else some j := rfl
    rw [e] at h
    by_cases c : itemB ah y = true
    · rw [if_pos c] at h
      rcases List.mem_cons.mp m with rfl | m
      · exact c
      · exact fniL_none r _ h z m
    · rw [if_neg c] at h
      cases h
theorem fni_none {ah : Str → Option Nat} {d : PyData} (h : fni ah d = none) : isL d = true ∧ ∀ z ∈ its d, itemB ah z = true := by
  unfold fni at h
  cases l : isL d with
  | false =>
    rw [l] at h
    cases h
  | true =>
    rw [l, if_pos rfl] at h
    exact ⟨rfl, fniL_none _ _ h⟩
theorem wS_len {z : PyData} (h : okIt z = true) : (wS z).length ≤ 1000 := by
  obtain ⟨o1, o2⟩ := okIt_at h
  unfold wS wiresD
  rw [List.length_map]
  cases e : its z with
  | nil => exact Nat.zero_le _
  | cons a r =>
    rw [e] at o1 o2
    show (if txtIn ["use"] a = true then _ else _ : List PyData).length ≤ 1000
    by_cases c : txtIn ["use"] a = true
    · rw [if_pos c]
      cases r with
      | nil => exact Nat.zero_le _
      | cons b r =>
        cases r with
        | nil => exact Nat.zero_le _
        | cons c r => exact (okNs_at (o2 c (by simp)).2.2).1
    · rw [if_neg c]
      rw [List.length_cons] at o1
      omega
theorem flat_len {ds : List PyData} (h : ∀ z ∈ ds, okIt z = true) : (ds.flatMap wS).length ≤ 1000 * ds.length := by
  induction ds with
  | nil => exact Nat.le_refl _
  | cons a r ih =>
    have h1 := wS_len (h a (List.mem_cons_self ..))
    have h2 := ih fun z hz => h z (List.mem_cons_of_mem _ hz)
    rw [List.flatMap_cons, List.length_append, List.length_cons]
    omega
theorem all_len {b c : PyData} (hb : okNs b = true) (hc : okIts c = true) : (wiresAll b c).length ≤ 2000000 := by
  obtain ⟨o1, _⟩ := okNs_at hb
  obtain ⟨o3, o4⟩ := Bool.and_eq_true_iff.mp hc
  have o3 := of_decide_eq_true o3
  have h := flat_len fun z hz => List.all_eq_true.mp o4 z hz
  unfold wiresAll
  rw [List.length_append, List.length_map]
  omega
section
variable {P : Program} {w : World} {K : Frag} {mg : Str → Option Value} {base : Heap}
def spIpt : Sp := fun vs H Q _ => ∃ (v : V) (d : PyData) (p : Addr) (ah : Str → Option Nat), vs = [v, .ref p] ∧ Th H v d ∧ okPt d = true ∧ AtD H p ah ∧ ∀ H', L2.Same H H' → Q (.bl (partB ah d)) H'
theorem ok_ipt {f : Addr} {fd : FuncData} (F : FunD K "is_part" "is_part" (defArgs sIp) (defBody sIp) (defScope sIp) [] [] f fd) (L : Has P w K mg base "is_list" 1 ["thing"] (spLook isL)) (NM : Has P w K mg base "is_name" 2 ["thing"] spNm) (FN : Has P w K mg base "first_no_end" 3 ["ends"] spFn) (FI : Has P w K mg base "first_no_item" 6 ["items", "ahead"] spFi) (FT : Has P w K mg base "first_not_twice" 1 ["names"] spFt) (NI : Has P w K mg base "names_in" 2 ["ends", "items"] spNi) (ml : mg "len" = none) : FnOk P w K mg base CX0 7 f fd ["thing", "ahead"] spIpt := by
  refine F.ok scIp (fun vs H Q E h => ?_) (fun cdv A outer s H vs Q XE hr h => ?_)
  · obtain ⟨v, d, p, ah, rfl, _⟩ := h
    rfl
  · obtain ⟨v, d, p, ah, rfl, hv, ok, hp, k⟩ := h
    have h0 : PS (XC P w K mg base ["thing", "ahead"] "is_part" sIp f cdv A outer s H XE) (stOf sIp 0) _ := ps_if (PW.pt (pw_or (pt_not (pt_val (pe_has L (hr.mono (by decide)) (by rfl) (pa_cons (pv 0) pa_nil)))) (pw_or (pt_cmpR op_ne (pe_callB call_len_seq (by rfl) ml boot_len (pa_cons (pv 0) pa_nil)) pe_int (nomark _)) (pw_or1 (pt_not (pt_val (pe_has NM (hr.mono (by decide)) (by rfl) (pa_cons (pe_ix ix_seq (pv 0) pe_int (fun _ _ => rfl)) pa_nil)))))))) (pss_one (ps_ret pe_bl)) pss_nil
    have h1 : PS (XC P w K mg base ["thing", "ahead"] "is_part" sIp f cdv A outer s H XE) (stOf sIp 1) _ := ps_if (PW.pt (pw_or (pt_cmp (pc_notN (pe_has FN (hr.mono (by decide)) (by rfl) (pa_cons (pe_ix ix_seq (pv 0) pe_int (fun _ _ => rfl)) pa_nil))) (by rfl)) (pw_or1 (pt_cmp (pc_notN (pe_has FI (hr.mono (by decide)) (by rfl) (pa_cons (pe_ix ix_seq (pv 0) pe_int (fun _ _ => rfl)) (pa_cons (pv 1) pa_nil)))) (by rfl))))) (pss_one (ps_ret pe_bl)) pss_nil
    have h2 : PS (XC P w K mg base ["thing", "ahead"] "is_part" sIp f cdv A outer s H XE) (stOf sIp 2) _ := ps_ret (pe_cmp (pc_isN (pe_has FT (hr.mono (by decide)) (by rfl) (pa_cons (pe_has NI (hr.mono (by decide)) (by rfl) (pa_cons (pe_ix ix_seq (pv 0) pe_int (fun _ _ => rfl)) (pa_cons (pe_ix ix_seq (pv 0) pe_int (fun _ _ => rfl)) pa_nil))) pa_nil))) (by rfl))
    refine ⟨_, PSs.nox (PSs.of_eq bdIp (pss_cons h0 (pss_cons h1 (pss_one h2)))), ?_⟩
    clear h0 h1 h2
    refine T3.if_intro (or_in (not_in (b_in ⟨v, rfl, v, d, rfl, hv, fun H1 s1 => ⟨isL d, rfl, ?_⟩⟩)))
    unfold partB at k
    cases l : isL d with
    | false =>
      rw [l] at k
      exact iteT (iteT (ret_intro (k H1 s1)))
    | true =>
      rw [l, Bool.true_and] at k
      have hv1 := hv.ext s1
      refine iteF (or_in (tst_in (ev_len (K := K) (rds_var (i := 0) rfl hv1) l ⟨rfl, _, rfl, ?_⟩)))
      show (if (!decide (V.int (((its d).length : Nat) : Int) = V.int ((3 : Nat) : Int))) = true then _ else _)
      rw [len_dec]
      by_cases c3 : (its d).length = 3
      · rw [decide_eq_true c3]
        obtain ⟨a, b, c, eq⟩ : ∃ a b c, its d = [a, b, c] := by
          match its d, c3 with
          | [a, b, c], _ => exact ⟨a, b, c, rfl⟩
        have ha := okPt_at ok (y := a) (by rw [eq]; simp)
        have hb := okPt_at ok (y := b) (by rw [eq]; simp)
        have hc := okPt_at ok (y := c) (by rw [eq]; simp)
        have ek : partM ah (its d) = (nameB a && ((fne b).isNone && ((fni ah c).isNone && (fnt (wiresAll b c)).isNone))) := by rw [eq]; rfl
        rw [ek] at k
        refine iteF (not_in (b_in (call_in (rds_ix (K := K) (n := 0) (rds_var (i := 0) rfl hv1) l (by rw [eq]; rfl) _ fun x tx => ⟨x, a, rfl, tx, (fun s e => Nat.le_trans (shS_str ha.1 e) (by decide)), fun H2 s2 => ⟨_, rfl, ?_⟩⟩))))
        have S2 := s1.trans s2
        have hv2 := hv1.ext s2
        cases qa : nameB a with
        | false =>
          rw [qa] at k
          exact iteT (ret_intro (k H2 S2))
        | true =>
          rw [qa, Bool.true_and] at k
          refine iteF (nx_intro (ifS_intro (or_in (b_in ?_))))
          obtain ⟨ob1, ob2⟩ := okNs_at hb.2.1
          refine (rds_ix (K := K) (n := 1) (rds_var (i := 0) rfl hv2) l (by rw [eq]; rfl) _ fun x tx => ⟨x, b, rfl, tx, ob1, (fun s ms => Nat.le_trans (shS_str (ob2 _ ms) rfl) (by decide)), fun H3 s3 => ?_⟩)
          have S3 := S2.trans s3
          have hv3 := hv2.ext s3
          refine ⟨_, rfl, ?_⟩
          cases qb : fne b with
          | some j =>
            rw [qb] at k
            exact iteT (iteT (ret_intro (k H3 S3)))
          | none =>
            rw [qb] at k
            obtain ⟨lb, nb⟩ := fne_none qb
            refine iteF (b_in ?_)
            refine (rds_ix (K := K) (n := 2) (rds_var (i := 0) rfl hv3) l (by rw [eq]; rfl) _ fun x tx => ⟨.ref p, rfl, x, c, p, ah, rfl, tx, hc.2.2, hp.ext S3, fun H4 s4 => ?_⟩)
            have S4 := S3.trans s4
            have hv4 := hv3.ext s4
            refine ⟨_, rfl, ?_⟩
            cases qc : fni ah c with
            | some j =>
              rw [qc] at k
              exact iteT (ret_intro (k H4 S4))
            | none =>
              rw [qc] at k
              obtain ⟨lc, ic⟩ := fni_none qc
              refine iteF (nx_intro (ret_intro ?_))
              refine (rds_ix (K := K) (n := 1) (rds_var (i := 0) rfl hv4) l (by rw [eq]; rfl) _ fun x tx => ?_)
              refine (rds_ix (K := K) (n := 2) (rds_var (i := 0) rfl hv4) l (by rw [eq]; rfl) _ fun y ty => ?_)
              refine ⟨x, y, b, c, (its b).map strD, ah, rfl, tx, lb, names_str nb, ty, lc, ic, all_len hb.2.1 hc.2.2, fun H5 D s5 nD hD => ⟨D, wiresAll b c, rfl, hD, all_len hb.2.1 hc.2.2, fun H6 s6 => ?_⟩⟩
              have kk := k H6 (S4.trans (s5.trans s6))
              cases qf : fnt (wiresAll b c) with
              | none =>
                rw [qf] at kk
                exact kk
              | some s =>
                rw [qf] at kk
                exact kk
      · rw [decide_eq_false c3]
        have ek : partM ah (its d) = false := by
          match its d, c3 with
          | [], _ => rfl
          | [_], _ => rfl
          | [_, _], _ => rfl
          | [_, _, _], h => exact absurd rfl h
          | _ :: _ :: _ :: _ :: _, _ => rfl
        rw [ek] at k
        exact iteT (iteT (ret_intro (k H1 s1)))
end
end K14.T5
namespace K14.T5
open T27 T3
open K14.Gn
open PySem PySem.W PySem.Calls PyProof.Rows L2 LamX
open He (ga)
open Kz (SS ExtS ExtS.trans small4 same_new boot_in boot_li boot_isi Has pe_has noE PSs.of_eq seqI new_ext X1)
/-! ### check_parts, check_items, check_wires -/
abbrev sCp : Stmt := topS 30
abbrev sCi : Stmt := topS 31
abbrev sCw : Stmt := topS 21
theorem scCp : FnScope ["parts", "ahead", "at", "part"] ["parts"] (defScope sCp) := ⟨rfl, rfl, rfl, by decide +kernel, rfl, by decide +kernel, by decide +kernel⟩
theorem bdCp : defBody sCp = [stOf sCp 0, stOf sCp 1, stOf sCp 2, stOf sCp 3] := by rfl
def fbCp (i : Nat) : Stmt := (forBody (stOf sCp 2)).getD i (.Pass ⟨0, 0, 0, 0⟩)
theorem bdCpF : forBody (stOf sCp 2) = [fbCp 0, fbCp 1] := by rfl
theorem scCi : FnScope ["items", "ahead", "at"] ["items", "ahead"] (defScope sCi) := ⟨rfl, rfl, rfl, by decide +kernel, rfl, by decide +kernel, by decide +kernel⟩
theorem bdCi : defBody sCi = [stOf sCi 0, stOf sCi 1] := by rfl
theorem scCw : FnScope ["names", "name"] ["names"] (defScope sCw) := ⟨rfl, rfl, rfl, by decide +kernel, rfl, by decide +kernel, by decide +kernel⟩
theorem bdCw : defBody sCw = [stOf sCw 0, stOf sCw 1] := by rfl
abbrev XX (P : Program) (w : World) (K : Frag) (mg : Str → Option Value) (base : Heap) (N : List Str) (q : Str) (st : Stmt) (f : Addr) (cdv : Value) (A : Around) (outer : List Env) (s : Shared) (H : Hp) (XE : XK) : Cx := cxOf (L2.CX P w) P w K mg base N q (defScope st) f cdv A outer s H XE
def partName (z : PyData) : Str := strD ((its z).headD .none)
def partLen (z : PyData) : Nat := (its ((its z).getD 1 .none)).length
def ahPut (ah : Str → Option Nat) (s : Str) (n : Nat) : Str → Option Nat := fun t => if t = s then some n else ah t
/-- the first part that is not right, or what stands ahead at the end -/
def cpL : List PyData → (Str → Option Nat) → Nat → Option Nat × (Str → Option Nat)
  | [], ah, _ => (none, ah)
  | z :: r, ah, j => if (partB ah z && !(ah (partName z)).isSome) = true then cpL r (ahPut ah (partName z) (partLen z)) (j + 1) else (some j, ah)
def okPts (d : PyData) : Bool := decide ((its d).length ≤ 1000) && (its d).all okPt
def ah0 : Str → Option Nat := fun _ => none
theorem part_parts {ah : Str → Option Nat} {d : PyData} (h : partB ah d = true) : isL d = true ∧ ∃ s b c, its d = [.str s, b, c] ∧ nameB (.str s) = true ∧ fne b = none ∧ fni ah c = none ∧ fnt (wiresAll b c) = none := by
  obtain ⟨l, h⟩ := Bool.and_eq_true_iff.mp (show (isL d && partM ah (its d)) = true from h)
  refine ⟨l, ?_⟩
  unfold partM at h
  split at h
  · rename_i a b c e
    obtain ⟨h1, h⟩ := Bool.and_eq_true_iff.mp h
    obtain ⟨h2, h⟩ := Bool.and_eq_true_iff.mp h
    obtain ⟨h3, h4⟩ := Bool.and_eq_true_iff.mp h
    cases a with
    | str s => exact ⟨s, b, c, e, h1, Option.isNone_iff_eq_none.mp h2, Option.isNone_iff_eq_none.mp h3, Option.isNone_iff_eq_none.mp h4⟩
    | _ => cases h1
  · cases h
abbrev lenR (K : Frag) : List V → Hp → VK → Prop := fun xs H Q => ∃ p ys, xs = [V.ref p] ∧ (SqL K H p ys ∨ SqT K H p ys) ∧ Q (.int (ys.length : Nat)) H
/-- the loop over the parts, whatever is done with a bad one -/
theorem cp_loop {K : Frag} {A u : TS} {D : Ends} {v : V} {d : PyData} {p : Addr} {H1 G : Hp} (hv : Th H1 v d) (l : isL d = true) (ok : okPts d = true) (np : H1 p = none) (hG : L2.Same H1 G) (hp : G p = some (.dK []))
    (bad : ∀ (D' : Ends) (x3 : V) (j : Nat) (ah : Str → Option Nat) (G' : Hp), cpL (its d) ah0 0 = (some j, ah) → L2.Same H1 G' → A D' [some v, some (.ref p), some (.int (j : Nat)), some x3] G')
    (fin : ∀ (a2 a3 : Option V) (ah : Str → Option Nat) (G' : Hp), cpL (its d) ah0 0 = (none, ah) → L2.Same H1 G' → AtD G' p ah → u D [some v, some (.ref p), a2, a3] G') :
    tSeq (tFor (EnT.iEnB K (tCons (tVar 0) tNil)) (gTup K 2 (gCons (gName 2) (gCons (gName 3) gNil)))
      (tSeq (tIfS (tOr (tNot (tB (tCall spIpt [] noE (tCons (tVar 3) (tCons (tVar 1) tNil))))) (tB (tDIn (tOp (rIx K) (tVar 3) (tC (.int 0))) (tVar 1)))) A tNext)
        (tAsg (tCB (lenR K) (tCons (tOp (rIx K) (tVar 3) (tC (.int 1))) tNil)) (gSub (tVar 1) (tOp (rIx K) (tVar 3) (tC (.int 0))) rSetD)))) u D [some v, some (.ref p), none, none] G := by
  obtain ⟨o1, o2⟩ := Bool.and_eq_true_iff.mp ok
  have o1 := of_decide_eq_true o1
  refine for_enS (H0 := H1) (v := v) (d := d) (i1 := 2) (i2 := 3) (fun R h => ⟨v, rfl, h⟩) hv l (fun j σ G => ∃ (a2 a3 : Option V) (kvs : List (Key × V)) (ah : Str → Option Nat), σ = [some v, some (.ref p), a2, a3] ∧ L2.Same H1 G ∧ G p = some (.dK kvs) ∧ kvs.length ≤ j ∧ (∀ s : Str, valV kvs (.inr s) = (ah s).map fun n : Nat => V.int (n : Nat)) ∧ cpL (its d) ah0 0 = cpL ((its d).drop j) ah j)
    ⟨none, none, [], ah0, rfl, hG, hp, Nat.le_refl _, fun s => rfl, rfl⟩ (fun j σ G e => ?_) (fun j z x σ' G hz tx e G' e' => ?_) (fun σ G e => ?_)
  · obtain ⟨_, _, _, _, _, e, _⟩ := e
    exact e
  · obtain ⟨a2, a3, kvs, ah, rfl, S, hp, hk, hin, hf⟩ := e
    have jl : j < (its d).length := (List.getElem?_eq_some_iff.mp hz).1
    rw [drop_get hz] at hf
    have okz := List.all_eq_true.mp o2 z (List.mem_of_getElem? hz)
    have S1 := S.trans e'
    have tx1 := tx.ext e'
    have hp1 := e' _ _ hp
    have aD : AtD G' p ah := ⟨kvs, hp1, by omega, hin⟩
    have ef : cpL (z :: (its d).drop (j + 1)) ah j = if (partB ah z && !(ah (partName z)).isSome) = true then cpL ((its d).drop (j + 1)) (ahPut ah (partName z) (partLen z)) (j + 1) else (some j, ah) := rfl
    refine T3.if_intro (or_in (not_in (b_in ⟨x, rfl, .ref p, rfl, x, z, p, ah, rfl, tx1, okz, aD, fun G2 s2 => ⟨partB ah z, rfl, ?_⟩⟩)))
    have S2 := S1.trans s2
    cases q : partB ah z with
    | false =>
      rw [q] at ef
      refine iteT (iteT (bad _ x j ah G2 ?_ S2))
      rw [hf, ef]
      rfl
    | true =>
      obtain ⟨lz, s, b, c, eq, _, qb, _, _⟩ := part_parts q
      have lb := (fne_none qb).1
      have en : partName z = s := by unfold partName; rw [eq]; rfl
      have el : partLen z = (its b).length := by unfold partLen; rw [eq]; rfl
      have hp2 := s2 _ _ hp1
      have tx2 := tx1.ext s2
      refine iteF (b_in (din_in (rds_ix (K := K) (n := 0) (rds_var (i := 3) rfl tx2) lz (by rw [eq]; rfl) _ fun y ty => ?_)))
      cases ty with
      | str =>
      refine ⟨.ref p, rfl, p, _, rfl, DGet.k (k := .inr s) hp2, _, rfl, ?_⟩
      rw [hin s]
      rw [q, en, el, Bool.true_and] at ef
      cases qs : ah s with
      | some n =>
        rw [qs] at ef
        refine iteT (bad _ x j ah G2 ?_ S2)
        rw [hf, ef]
        rfl
      | none =>
        rw [qs] at ef
        refine iteF (nx_intro ?_)
        refine ev_len (K := K) (rds_ix (K := K) (n := 1) (rds_var (i := 3) rfl tx2) lz (by rw [eq]; rfl)) lb ?_
        refine ⟨.ref p, rfl, rds_ix (K := K) (n := 0) (rds_var (i := 3) rfl tx2) lz (by rw [eq]; rfl) _ fun y ty => ?_⟩
        cases ty with
        | str =>
        refine ⟨p, _, rfl, DPut.k (k := .inr s) hp2 (by rw [sizeLine_eq]; omega), ?_⟩
        refine ⟨_, _, _, ahPut ah s (its b).length, rfl, fun b o hb => ?_, upd_same, Nat.le_trans (length_putK _ _ _) (by omega), fun s' => ?_, by rw [hf, ef]; rfl⟩
        · rw [upd_ne (ne_of_none hb np)]
          exact S2 _ _ hb
        · rw [valV_put]
          unfold ahPut
          by_cases es : s' = s
          · rw [if_pos (by rw [es]), if_pos es]
            rfl
          · rw [if_neg (fun y => es (Sum.inr.inj y)), if_neg es, hin s']
  · obtain ⟨a2, a3, kvs, ah, rfl, S, hp, hk, hin, hf⟩ := e
    rw [List.drop_length] at hf
    exact fin a2 a3 ah G hf S ⟨kvs, hp, by omega, hin⟩
section
variable {P : Program} {w : World} {K : Frag} {mg : Str → Option Value} {base : Heap}
def spCpr : Sp := fun vs H Q _ => ∃ (v : V) (d : PyData) (ah : Str → Option Nat), vs = [v] ∧ Th H v d ∧ isL d = true ∧ okPts d = true ∧ cpL (its d) ah0 0 = (none, ah) ∧ ∀ (H' : Hp) (p : Addr), L2.Same H H' → AtD H' p ah → Q (.ref p) H'
theorem ok_cpr {f : Addr} {fd : FuncData} (F : FunD K "check_parts" "check_parts" (defArgs sCp) (defBody sCp) (defScope sCp) [] [] f fd) (L : Has P w K mg base "is_list" 1 ["thing"] (spLook isL)) (IP : Has P w K mg base "is_part" 7 ["thing", "ahead"] spIpt) (ml : mg "len" = none) (men : mg "enumerate" = none) : FnOk P w K mg base CX0 8 f fd ["parts"] spCpr := by
  refine F.ok scCp (fun vs H Q E h => ?_) (fun cdv A outer s H vs Q XE hr h => ?_)
  · obtain ⟨v, d, ah, rfl, _⟩ := h
    rfl
  · obtain ⟨v, d, ah, rfl, hv, l, ok, hc, k⟩ := h
    have hu : (XC P w K mg base ["parts", "ahead", "at", "part"] "check_parts" sCp f cdv A outer s H XE).A.units + 64 < cLine := hr.units
    have hu1 : (XC P w K mg base ["parts", "ahead", "at", "part"] "check_parts" sCp f cdv A outer s H XE).A.units + 1 < cLine := by omega
    have h0 : PS (XC P w K mg base ["parts", "ahead", "at", "part"] "check_parts" sCp f cdv A outer s H XE) (stOf sCp 0) _ := ps_if (pt_not (pt_val (pe_has L (hr.mono (by decide)) (by rfl) (pa_cons (pv 0) pa_nil)))) (pss_one ps_never) pss_nil
    have h1 : PS (XC P w K mg base ["parts", "ahead", "at", "part"] "check_parts" sCp f cdv A outer s H XE) (stOf sCp 1) _ := ps_set (i := 1) scCp.nd rfl (.inl rfl) pe_dnewK
    have b0 : PS (XC P w K mg base ["parts", "ahead", "at", "part"] "check_parts" sCp f cdv A outer s H XE) (fbCp 0) _ := ps_if (PW.pt (pw_or (pt_not (pt_val (pe_has IP (hr.mono (by decide)) (by rfl) (pa_cons (pv 3) (pa_cons (pv 1) pa_nil))))) (pw_or1 (pt_cmp (pc_din hu1 (pe_ix ix_seq (pv 3) pe_int (fun _ _ => rfl)) (pv 1)) (by rfl))))) (pss_one ps_never) pss_nil
    have b1 : PS (XC P w K mg base ["parts", "ahead", "at", "part"] "check_parts" sCp f cdv A outer s H XE) (fbCp 1) _ := ps_asg (pe_callB call_len_seq (by rfl) ml boot_len (pa_cons (pe_ix ix_seq (pv 3) pe_int (fun _ _ => rfl)) pa_nil)) (pg_sub (pv 1) (pe_ix ix_seq (pv 3) pe_int (fun _ _ => rfl)) (_root_.L2.set_dict hu1))
    have h2 : PS (XC P w K mg base ["parts", "ahead", "at", "part"] "check_parts" sCp f cdv A outer s H XE) (stOf sCp 2) _ := ps_for PassesOwn.never rfl (EnT.pi_enB (by rfl) men (pa_cons (pv 0) pa_nil)) (pg_tup (n := 2) rfl (pgs_cons (pg_name (i := 2) scCp.nd rfl (.inl rfl)) (pgs_cons (pg_name (i := 3) scCp.nd rfl (.inl rfl)) pgs_nil))) (PSs.of_eq bdCpF (pss_cons b0 (pss_one b1)))
    have h3 : PS (XC P w K mg base ["parts", "ahead", "at", "part"] "check_parts" sCp f cdv A outer s H XE) (stOf sCp 3) _ := ps_ret (pv 1)
    refine ⟨_, PSs.nox (PSs.of_eq bdCp (pss_cons h0 (pss_cons h1 (pss_cons h2 (pss_one h3))))), ?_⟩
    clear h0 h1 h2 h3 b0 b1 hu hu1
    refine T3.if_intro (not_in (b_in ⟨v, rfl, v, d, rfl, hv, fun H1 s1 => ⟨isL d, rfl, ?_⟩⟩))
    rw [l]
    refine iteF (nx_intro (T3.set_intro (i := 1) fun p np => ?_))
    refine cp_loop (K := K) (hv.ext s1) l ok np (same_new np) upd_same (fun D' x3 j ah' G' e _ => ?_) (fun a2 a3 ah' G' e S aD => ?_)
    · rw [hc] at e
      cases e
    · rw [hc] at e
      cases e
      exact ⟨.ref p, rfl, k G' p (s1.trans S) aD⟩
def spCprX (K : Frag) : Sp := fun vs H Q E => ∃ (v : V) (d : PyData) (j : Nat), vs = [v] ∧ Th H v d ∧ okPts d = true ∧ ((isL d = false ∧ j = 0) ∨ (isL d = true ∧ (cpL (its d) ah0 0).1 = some j)) ∧ SaysF (ga K "BadParts") "index" (.int (j : Nat)) H E
theorem okx_cpr {f : Addr} {fd : FuncData} (F : FunD K "check_parts" "check_parts" (defArgs sCp) (defBody sCp) (defScope sCp) [] [] f fd) (L : Has P w K mg base "is_list" 1 ["thing"] (spLook isL)) (IP : Has P w K mg base "is_part" 7 ["thing", "ahead"] spIpt) (ml : mg "len" = none) (men : mg "enumerate" = none) (T : mg "BadParts" = some (.ref (ga K "BadParts")) ∧ X1 P K (ga K "BadParts") "index") : FnOk P w K mg base (L2.CX P w) 8 f fd ["parts"] (spCprX K) := by
  refine F.ok scCp (fun vs H Q E h => ?_) (fun cdv A outer s H vs Q XE hr h => ?_)
  · obtain ⟨v, d, j, rfl, _⟩ := h
    rfl
  · obtain ⟨v, d, j, rfl, hv, ok, hc, k⟩ := h
    have hu : (XX P w K mg base ["parts", "ahead", "at", "part"] "check_parts" sCp f cdv A outer s H XE).A.units + 64 < cLine := hr.units
    have hu1 : (XX P w K mg base ["parts", "ahead", "at", "part"] "check_parts" sCp f cdv A outer s H XE).A.units + 1 < cLine := by omega
    have h0 : PS (XX P w K mg base ["parts", "ahead", "at", "part"] "check_parts" sCp f cdv A outer s H XE) (stOf sCp 0) _ := ps_if (pt_not (pt_val (pe_has L (hr.mono (by decide)) (by rfl) (pa_cons (pv 0) pa_nil)))) (pss_one (ps_raise rfl (takes_of rfl rfl rfl rfl) (pmk_x1 T.2 (hr.mono (by decide)) rfl (by rfl) T.1 pe_int))) pss_nil
    have h1 : PS (XX P w K mg base ["parts", "ahead", "at", "part"] "check_parts" sCp f cdv A outer s H XE) (stOf sCp 1) _ := ps_set (i := 1) scCp.nd rfl (.inl rfl) pe_dnewK
    have b0 : PS (XX P w K mg base ["parts", "ahead", "at", "part"] "check_parts" sCp f cdv A outer s H XE) (fbCp 0) _ := ps_if (PW.pt (pw_or (pt_not (pt_val (pe_has IP (hr.mono (by decide)) (by rfl) (pa_cons (pv 3) (pa_cons (pv 1) pa_nil))))) (pw_or1 (pt_cmp (pc_din hu1 (pe_ix ix_seq (pv 3) pe_int (fun _ _ => rfl)) (pv 1)) (by rfl))))) (pss_one (ps_raise rfl (takes_of rfl rfl rfl rfl) (pmk_x1 T.2 (hr.mono (by decide)) rfl (by rfl) T.1 (pv 2)))) pss_nil
    have b1 : PS (XX P w K mg base ["parts", "ahead", "at", "part"] "check_parts" sCp f cdv A outer s H XE) (fbCp 1) _ := ps_asg (pe_callB call_len_seq (by rfl) ml boot_len (pa_cons (pe_ix ix_seq (pv 3) pe_int (fun _ _ => rfl)) pa_nil)) (pg_sub (pv 1) (pe_ix ix_seq (pv 3) pe_int (fun _ _ => rfl)) (_root_.L2.set_dict hu1))
    have h2 : PS (XX P w K mg base ["parts", "ahead", "at", "part"] "check_parts" sCp f cdv A outer s H XE) (stOf sCp 2) _ := ps_for (passes_of rfl) rfl (EnT.pi_enB (by rfl) men (pa_cons (pv 0) pa_nil)) (pg_tup (n := 2) rfl (pgs_cons (pg_name (i := 2) scCp.nd rfl (.inl rfl)) (pgs_cons (pg_name (i := 3) scCp.nd rfl (.inl rfl)) pgs_nil))) (PSs.of_eq bdCpF (pss_cons b0 (pss_one b1)))
    have h3 : PS (XX P w K mg base ["parts", "ahead", "at", "part"] "check_parts" sCp f cdv A outer s H XE) (stOf sCp 3) _ := ps_ret (pv 1)
    refine ⟨_, PSs.of_eq bdCp (pss_cons h0 (pss_cons h1 (pss_cons h2 (pss_one h3)))), ?_⟩
    clear h0 h1 h2 h3 b0 b1 hu hu1
    refine T3.if_intro (not_in (b_in ⟨v, rfl, v, d, rfl, hv, fun H1 s1 => ⟨isL d, rfl, ?_⟩⟩))
    rcases hc with ⟨l, rfl⟩ | ⟨l, hc⟩
    · rw [l]
      exact iteT (fun dx n => k _ dx (s1.trans (same_new n)) upd_same)
    · rw [l]
      refine iteF (nx_intro (T3.set_intro (i := 1) fun p np => ?_))
      refine cp_loop (K := K) (hv.ext s1) l ok np (same_new np) upd_same (fun D' x3 j' ah' G' e S => ?_) (fun a2 a3 ah' G' e S aD => ?_)
      · rw [e] at hc
        cases hc
        exact ⟨.int (j : Nat), rfl, fun dx n => k _ dx ((s1.trans S).trans (same_new n)) upd_same⟩
      · rw [e] at hc
        cases hc
def spCit : Sp := fun vs H Q _ => ∃ (v : V) (d : PyData) (p : Addr) (ah : Str → Option Nat), vs = [v, .ref p] ∧ Th H v d ∧ okIts d = true ∧ AtD H p ah ∧ fni ah d = none ∧ ∀ H', L2.Same H H' → Q .non H'
def spCitX (K : Frag) : Sp := fun vs H Q E => ∃ (v : V) (d : PyData) (p : Addr) (ah : Str → Option Nat) (j : Nat), vs = [v, .ref p] ∧ Th H v d ∧ okIts d = true ∧ AtD H p ah ∧ fni ah d = some j ∧ SaysF (ga K "BadItems") "index" (.int (j : Nat)) H E
theorem ok_cit {f : Addr} {fd : FuncData} (F : FunD K "check_items" "check_items" (defArgs sCi) (defBody sCi) (defScope sCi) [] [] f fd) (FI : Has P w K mg base "first_no_item" 6 ["items", "ahead"] spFi) : FnOk P w K mg base CX0 7 f fd ["items", "ahead"] spCit := by
  refine F.ok scCi (fun vs H Q E h => ?_) (fun cdv A outer s H vs Q XE hr h => ?_)
  · obtain ⟨v, d, p, ah, rfl, _⟩ := h
    rfl
  · obtain ⟨v, d, p, ah, rfl, hv, ok, aD, e, k⟩ := h
    refine ⟨_, PSs.nox (PSs.of_eq bdCi (pss_cons (ps_set (i := 2) scCi.nd rfl (.inl rfl) (pe_has FI hr (by rfl) (pa_cons (pv 0) (pa_cons (pv 1) pa_nil)))) (pss_one (ps_if (pt_cmp (pc_notN (pv 2)) (by rfl)) (pss_one ps_never) pss_nil)))), ?_⟩
    refine ⟨v, rfl, .ref p, rfl, v, d, p, ah, rfl, hv, ok, aD, fun H1 s1 => ?_⟩
    rw [e]
    exact ⟨.non, rfl, _, rfl, iteF (k H1 s1)⟩
theorem okx_cit {f : Addr} {fd : FuncData} (F : FunD K "check_items" "check_items" (defArgs sCi) (defBody sCi) (defScope sCi) [] [] f fd) (FI : Has P w K mg base "first_no_item" 6 ["items", "ahead"] spFi) (T : mg "BadItems" = some (.ref (ga K "BadItems")) ∧ X1 P K (ga K "BadItems") "index") : FnOk P w K mg base (L2.CX P w) 7 f fd ["items", "ahead"] (spCitX K) := by
  refine F.ok scCi (fun vs H Q E h => ?_) (fun cdv A outer s H vs Q XE hr h => ?_)
  · obtain ⟨v, d, p, ah, j, rfl, _⟩ := h
    rfl
  · obtain ⟨v, d, p, ah, j, rfl, hv, ok, aD, e, k⟩ := h
    refine ⟨_, PSs.of_eq bdCi (pss_cons (ps_set (i := 2) scCi.nd rfl (.inl rfl) (pe_has FI hr (by rfl) (pa_cons (pv 0) (pa_cons (pv 1) pa_nil)))) (pss_one (ps_if (pt_cmp (pc_notN (pv 2)) (by rfl)) (pss_one (ps_raise rfl (takes_of rfl rfl rfl rfl) (pmk_x1 T.2 (hr.mono (by decide)) rfl (by rfl) T.1 (pv 2)))) pss_nil))), ?_⟩
    refine ⟨v, rfl, .ref p, rfl, v, d, p, ah, rfl, hv, ok, aD, fun H1 s1 => ?_⟩
    rw [e]
    exact ⟨.int (j : Nat), rfl, _, rfl, iteT ⟨.int (j : Nat), rfl, fun dx n => k _ dx (s1.trans (same_new n)) upd_same⟩⟩
def spCwr : Sp := fun vs H Q _ => ∃ (a : Addr) (ns : List Str), vs = [.ref a] ∧ H a = some (.lst (ns.map V.str)) ∧ ns.length ≤ 2000000 ∧ fnt ns = none ∧ ∀ H', L2.Same H H' → Q .non H'
def spCwrX (K : Frag) : Sp := fun vs H Q E => ∃ (a : Addr) (ns : List Str) (s : Str), vs = [.ref a] ∧ H a = some (.lst (ns.map V.str)) ∧ ns.length ≤ 2000000 ∧ fnt ns = some s ∧ SaysF (ga K "BadWire") "name" (.str s) H E
theorem ok_cwr {f : Addr} {fd : FuncData} (F : FunD K "check_wires" "check_wires" (defArgs sCw) (defBody sCw) (defScope sCw) [] [] f fd) (FT : Has P w K mg base "first_not_twice" 1 ["names"] spFt) : FnOk P w K mg base CX0 2 f fd ["names"] spCwr := by
  refine F.ok scCw (fun vs H Q E h => ?_) (fun cdv A outer s H vs Q XE hr h => ?_)
  · obtain ⟨a, ns, rfl, _⟩ := h
    rfl
  · obtain ⟨a, ns, rfl, ha, hn, e, k⟩ := h
    refine ⟨_, PSs.nox (PSs.of_eq bdCw (pss_cons (ps_set (i := 1) scCw.nd rfl (.inl rfl) (pe_has FT hr (by rfl) (pa_cons (pv 0) pa_nil))) (pss_one (ps_if (pt_cmp (pc_notN (pv 1)) (by rfl)) (pss_one ps_never) pss_nil)))), ?_⟩
    refine ⟨.ref a, rfl, a, ns, rfl, ha, hn, fun H1 s1 => ?_⟩
    rw [e]
    exact ⟨.non, rfl, _, rfl, iteF (k H1 s1)⟩
theorem okx_cwr {f : Addr} {fd : FuncData} (F : FunD K "check_wires" "check_wires" (defArgs sCw) (defBody sCw) (defScope sCw) [] [] f fd) (FT : Has P w K mg base "first_not_twice" 1 ["names"] spFt) (T : mg "BadWire" = some (.ref (ga K "BadWire")) ∧ X1 P K (ga K "BadWire") "name") : FnOk P w K mg base (L2.CX P w) 2 f fd ["names"] (spCwrX K) := by
  refine F.ok scCw (fun vs H Q E h => ?_) (fun cdv A outer s H vs Q XE hr h => ?_)
  · obtain ⟨a, ns, s, rfl, _⟩ := h
    rfl
  · obtain ⟨a, ns, s, rfl, ha, hn, e, k⟩ := h
    refine ⟨_, PSs.of_eq bdCw (pss_cons (ps_set (i := 1) scCw.nd rfl (.inl rfl) (pe_has FT hr (by rfl) (pa_cons (pv 0) pa_nil))) (pss_one (ps_if (pt_cmp (pc_notN (pv 1)) (by rfl)) (pss_one (ps_raise rfl (takes_of rfl rfl rfl rfl) (pmk_x1 T.2 (hr.mono (by decide)) rfl (by rfl) T.1 (pv 1)))) pss_nil))), ?_⟩
    refine ⟨.ref a, rfl, a, ns, rfl, ha, hn, fun H1 s1 => ?_⟩
    rw [e]
    exact ⟨.str s, rfl, _, rfl, iteT ⟨.str s, rfl, fun dx n => k _ dx (s1.trans (same_new n)) upd_same⟩⟩
end
end K14.T5
namespace K14.Gn
open PySem PySem.W PySem.Calls PyProof.Rows L2 LamX
open Kz (noE)
/-- a comprehension over data, whatever its elements come out as -/
theorem lc_anyV {K : Frag} {g : TG} {v : V} {d : PyData} {σ : L2.St} {H : Hp} {tl te : TE} {vs : List Nat} {Q : VK} (ht : ∀ R : VK, R v H → tl σ H R) (t : Th H v d) (l : isL d = true) (len : (its d).length ≤ 100000)
    (hs : ∀ (z : PyData) (x : V) (G : Hp) (Q' : VK) (W : L2.St → Hp → Prop), (∀ σ2 H2, wipe σ2 vs = wipe σ vs → te σ2 H2 Q' → W σ2 H2) → z ∈ its d → L2.Same H G → Th G x z → (∀ (G' : Hp) (y : V), L2.Same G G' → Q' y G') → g x (wipe σ vs) G W)
    (hq : ∀ (G : Hp) (D : Addr) (ys : List V), L2.Same H G → H D = none → G D = some (.lst ys) → ys.length = (its d).length → Q (.ref D) G) : tLc (iSq K tl) g tYes te vs σ H Q := by
  obtain ⟨a, xs, rfl, r, hx⟩ := t.seq (K := K) l
  have hA : ∀ (i : Nat) (x : V) (G1 G2 : Hp) (ys : List V) (Qy : V → Hp → Prop) (Qn : Hp → Prop), L2.Same H G1 → ys.length = i → YAt xs i G1 x G2 → (∀ (y : V) (H4 : Hp), L2.Same G1 H4 → (ys ++ [y]).length = i + 1 → Qy y H4) →
      g x (wipe σ vs) G2 fun σ2 H2 => wipe σ2 vs = wipe σ vs ∧ tYes σ2 H2 fun b H3 => if b = true then te σ2 H3 Qy else Qn H3 := by
    intro i x G1 G2 ys Qy Qn s1 e y ky
    obtain ⟨rfl, hc⟩ := y
    obtain ⟨z, hz, tz⟩ := r.get hc
    refine hs z x G2 Qy _ (fun σ2 H2 e1 e2 => ⟨e1, by unfold tYes; show (if true = true then _ else _); rw [if_pos rfl]; exact e2⟩) (List.mem_of_getElem? hz) s1 (tz.ext s1) fun G' y s' => ky _ _ s' ?_
    rw [List.length_append, e]
    rfl
  rcases hx with hx | hx
  · exact .inl (ht _ ⟨a, rfl, ⟨xs, .inl (.inl hx)⟩, fun D hD => lc_acc (S := []) walk_list (fun b h => nomatch h) hD (by rw [r.length]; exact len) (fun H' e => .inl (.inl (e _ _ hx))) (fun i ys _ => ys.length = i) (fun i ys G G' e _ => e) rfl (fun i v G1 G2 ys Qy Qn hi s1 insG a y ky kn => hA i v G1 G2 ys Qy Qn s1 a y ky) (fun G ys s1 hA a => hq G D ys s1 hD hA (by rw [a, r.length]))⟩)
  · exact .inr (ht _ ⟨a, rfl, ⟨xs, .inl (.inl hx)⟩, fun D hD => lc_acc (S := []) walk_tup (fun b h => nomatch h) hD (by rw [r.length]; exact len) (fun H' e => .inl (.inl (e _ _ hx))) (fun i ys _ => ys.length = i) (fun i ys G G' e _ => e) rfl (fun i v G1 G2 ys Qy Qn hi s1 insG a y ky kn => hA i v G1 G2 ys Qy Qn s1 a y ky) (fun G ys s1 hA a => hq G D ys s1 hD hA (by rw [a, r.length]))⟩)
end K14.Gn
namespace K14.T5
open T27 T3
open K14.Gn
open PySem PySem.W PySem.Calls PyProof.Rows L2 LamX
open He (ga)
open Kz (SS ExtS ExtS.trans small4 same_new boot_in boot_li boot_isi Has pe_has noE PSs.of_eq seqI new_ext X1)
/-! ### told_item, told_items, told_parts: they only need to run -/
abbrev sTi : Stmt := topS 32
abbrev sTs : Stmt := topS 33
abbrev sTp : Stmt := topS 34
theorem scTi : FnScope ["item"] ["item"] (defScope sTi) := ⟨rfl, rfl, rfl, by decide +kernel, rfl, by decide +kernel, by decide +kernel⟩
theorem bdTi : defBody sTi = [stOf sTi 0, stOf sTi 1] := by rfl
theorem scTs : FnScope ["items", "item"] ["items"] (defScope sTs) := ⟨rfl, rfl, rfl, by decide +kernel, rfl, by decide +kernel, by decide +kernel⟩
theorem bdTs : defBody sTs = [stOf sTs 0] := by rfl
theorem scTp : FnScope ["parts", "name", "ends", "items"] ["parts"] (defScope sTp) := ⟨rfl, rfl, rfl, by decide +kernel, rfl, by decide +kernel, by decide +kernel⟩
theorem bdTp : defBody sTp = [stOf sTp 0] := by rfl
def scOfRet : Stmt → Scope
  | .Return (some (.ListComp _ _ sc _)) _ => sc
  | _ => default
section
variable {P : Program} {w : World} {K : Frag} {mg : Str → Option Value} {base : Heap}
def spTi : Sp := fun vs H Q _ => ∃ (v : V) (d : PyData) (ah : Str → Option Nat), vs = [v] ∧ Th H v d ∧ itemB ah d = true ∧ ∀ (H' : Hp) (y : V), L2.Same H H' → Q y H'
theorem ok_ti {f : Addr} {fd : FuncData} (F : FunD K "told_item" "told_item" (defArgs sTi) (defBody sTi) (defScope sTi) [] [] f fd) (ml : mg "list" = none) (mt : mg "tuple" = none) : FnOk P w K mg base CX0 1 f fd ["item"] spTi := by
  refine F.ok scTi (fun vs H Q E h => ?_) (fun cdv A outer s H vs Q XE hr h => ?_)
  · obtain ⟨v, d, ah, rfl, _⟩ := h
    rfl
  · obtain ⟨v, d, ah, rfl, hv, hi, k⟩ := h
    have hu : (XC P w K mg base ["item"] "told_item" sTi f cdv A outer s H XE).A.units + 64 < cLine := hr.units
    have h0 : PS (XC P w K mg base ["item"] "told_item" sTi f cdv A outer s H XE) (stOf sTi 0) _ := ps_if (pt_cmpR (op_eqP hu) (pe_ix ix_seq (pv 0) pe_int (fun _ _ => rfl)) pe_str (nomark _)) (pss_one (ps_ret (pe_tup (pa_cons (pe_ix ix_seq (pv 0) pe_int (fun _ _ => rfl)) (pa_cons (pe_ix ix_seq (pv 0) pe_int (fun _ _ => rfl)) (pa_cons (pe_callTy call_list_of (by rfl) ml boot_li (pa_cons (pe_ix ix_seq (pv 0) pe_int (fun _ _ => rfl)) pa_nil)) pa_nil)))))) pss_nil
    have h1 : PS (XC P w K mg base ["item"] "told_item" sTi f cdv A outer s H XE) (stOf sTi 1) _ := ps_ret (pe_callTy call_tuple_of (by rfl) mt boot_tu (pa_cons (pv 0) pa_nil))
    refine ⟨_, PSs.nox (PSs.of_eq bdTi (pss_cons h0 (pss_one h1))), ?_⟩
    clear h0 h1 hu
    obtain ⟨l, a, r, eq, nd, _, hc⟩ := item_cases hi
    refine T3.if_intro (tst_in (ev_eqT (rds_ix (K := K) (n := 0) (rds_var (i := 0) rfl hv) l (by rw [eq]; rfl)) nd ⟨_, rfl, ?_⟩))
    rcases hc with ⟨hu, b, c, rfl, lc, ew⟩ | ⟨hu, ew⟩
    · rw [hu]
      refine iteT (ret_intro ?_)
      refine (rds_ix (K := K) (n := 0) (rds_var (i := 0) rfl hv) l (by rw [eq]; rfl) _ fun x tx => ?_)
      refine (rds_ix (K := K) (n := 1) (rds_var (i := 0) rfl hv) l (by rw [eq]; rfl) _ fun y ty => ?_)
      refine (rds_ix (K := K) (n := 2) (rds_var (i := 0) rfl hv) l (by rw [eq]; rfl) _ fun z tz => ?_)
      obtain ⟨az, zs, rfl, rz, hz⟩ := tz.seq (K := K) lc
      refine ⟨az, zs, rfl, hz.elim (fun h => .inl (.inl (.inl h))) (fun h => .inr (.inl (.inl h))), fun D nD => ?_⟩
      exact ⟨by rw [sizeLine_eq]; exact (by decide : 3 ≤ 16777216), fun D2 nD2 => k _ _ ((same_new nD).trans (same_new nD2))⟩
    · rw [hu]
      refine iteF (nx_intro (ret_intro ?_))
      obtain ⟨az, zs, rfl, rz, hz⟩ := hv.seq (K := K) l
      exact ⟨.ref az, rfl, az, zs, rfl, hz.elim (fun h => .inl ⟨.inl (.inl h), fun D nD => k _ _ (same_new nD)⟩) (fun h => .inr ⟨.inl (.inl h), k _ _ fun _ _ e => e⟩)⟩
def spTs : Sp := fun vs H Q _ => ∃ (v : V) (d : PyData) (ah : Str → Option Nat), vs = [v] ∧ Th H v d ∧ isL d = true ∧ (its d).length ≤ 100000 ∧ (∀ z ∈ its d, itemB ah z = true) ∧ ∀ (H' : Hp) (y : V), L2.Same H H' → Q y H'
theorem ok_tis {f : Addr} {fd : FuncData} (F : FunD K "told_items" "told_items" (defArgs sTs) (defBody sTs) (defScope sTs) [] [] f fd) (TI : Has P w K mg base "told_item" 1 ["item"] spTi) : FnOk P w K mg base CX0 2 f fd ["items"] spTs := by
  refine F.ok scTs (fun vs H Q E h => ?_) (fun cdv A outer s H vs Q XE hr h => ?_)
  · obtain ⟨v, d, ah, rfl, _⟩ := h
    rfl
  · obtain ⟨v, d, ah, rfl, hv, l, len, hi, k⟩ := h
    have h0 : PS (XC P w K mg base ["items", "item"] "told_items" sTs f cdv A outer s H XE) (stOf sTs 0) _ := ps_ret (pe_lc (X := XC P w K mg base ["items", "item"] "told_items" sTs f cdv A outer s H XE) (scope := scOfRet (stOf sTs 0)) (own := [("item", 1)]) (g := gName 1) (tt := tYes)
      (te := tCall spTi [] noE (tCons (tVar 1) tNil)) rfl scTs.nd (pi_sq (pv 0)) (blkOk_by (N := ["items", "item"]) (sc := defScope sTs) (by decide +kernel)) (fun _ _ _ _ _ => pg_name (i := 1) scTs.nd rfl (Or.inl rfl)) (fun _ _ _ _ _ => pts_nil)
      (fun s0 H0 C0 cl0 fp0 => by exact pe_has TI (hr.mono (by decide)) (by rfl) (pa_cons (pv 1) pa_nil)))
    refine ⟨_, PSs.nox (PSs.of_eq bdTs (pss_one h0)), ?_⟩
    clear h0
    refine ret_intro ?_
    refine lc_anyV (K := K) (fun R h => ⟨v, rfl, h⟩) hv l len (fun z x G Q' W hW hz s tz kz => ?_) (fun G D ys s nD hD _ => k G _ s)
    exact gset (hW _ _ rfl ⟨x, rfl, x, z, ah, rfl, tz, hi z hz, fun H' y s' => kz H' y s'⟩)
def spTp : Sp := fun vs H Q _ => ∃ (v : V) (d : PyData), vs = [v] ∧ Th H v d ∧ isL d = true ∧ okPts d = true ∧ (∀ z ∈ its d, ∃ ah, partB ah z = true) ∧ ∀ (H' : Hp) (y : V), L2.Same H H' → Q y H'
theorem ok_tps {f : Addr} {fd : FuncData} (F : FunD K "told_parts" "told_parts" (defArgs sTp) (defBody sTp) (defScope sTp) [] [] f fd) (TS : Has P w K mg base "told_items" 2 ["items"] spTs) (ml : mg "list" = none) : FnOk P w K mg base CX0 3 f fd ["parts"] spTp := by
  refine F.ok scTp (fun vs H Q E h => ?_) (fun cdv A outer s H vs Q XE hr h => ?_)
  · obtain ⟨v, d, rfl, _⟩ := h
    rfl
  · obtain ⟨v, d, rfl, hv, l, ok, hi, k⟩ := h
    have h0 : PS (XC P w K mg base ["parts", "name", "ends", "items"] "told_parts" sTp f cdv A outer s H XE) (stOf sTp 0) _ := ps_ret (pe_lc (X := XC P w K mg base ["parts", "name", "ends", "items"] "told_parts" sTp f cdv A outer s H XE) (scope := scOfRet (stOf sTp 0)) (own := [("name", 1), ("ends", 2), ("items", 3)])
      (g := fun v σ H Q => gTup K 3 (gCons (gName 1) (gCons (gName 2) (gCons (gName 3) gNil))) v σ H Q ∨ gLst K 3 (gCons (gName 1) (gCons (gName 2) (gCons (gName 3) gNil))) v σ H Q) (tt := tYes)
      (te := tTup (tCons (tVar 1) (tCons (tCB (fun xs H Q => ∃ p ys, xs = [.ref p] ∧ (SqL K H p ys ∨ SqT K H p ys) ∧ ∀ l, H l = none → Q (.ref l) (upd H l (.lst ys))) (tCons (tVar 2) tNil)) (tCons (tCall spTs [] noE (tCons (tVar 3) tNil)) tNil)))) rfl scTp.nd (pi_sq (pv 0)) (blkOk_by (N := ["parts", "name", "ends", "items"]) (sc := defScope sTp) (by decide +kernel))
      (fun _ _ _ _ _ => pg_or (pg_tup (n := 3) rfl (pgs_cons (pg_name (i := 1) scTp.nd rfl (Or.inl rfl)) (pgs_cons (pg_name (i := 2) scTp.nd rfl (Or.inl rfl)) (pgs_cons (pg_name (i := 3) scTp.nd rfl (Or.inl rfl)) pgs_nil)))) (pg_lst (n := 3) rfl (pgs_cons (pg_name (i := 1) scTp.nd rfl (Or.inl rfl)) (pgs_cons (pg_name (i := 2) scTp.nd rfl (Or.inl rfl)) (pgs_cons (pg_name (i := 3) scTp.nd rfl (Or.inl rfl)) pgs_nil))))) (fun _ _ _ _ _ => pts_nil)
      (fun s0 H0 C0 cl0 fp0 => by exact pe_tup (pa_cons (pv 1) (pa_cons (pe_callTy call_list_of (by rfl) ml boot_li (pa_cons (pv 2) pa_nil)) (pa_cons (pe_has TS (hr.mono (by decide)) (by rfl) (pa_cons (pv 3) pa_nil)) pa_nil)))))
    refine ⟨_, PSs.nox (PSs.of_eq bdTp (pss_one h0)), ?_⟩
    clear h0
    refine ret_intro ?_
    obtain ⟨o1, o2⟩ := Bool.and_eq_true_iff.mp ok
    have o1 := of_decide_eq_true o1
    refine lc_anyV (K := K) (fun R h => ⟨v, rfl, h⟩) hv l (by omega) (fun z x G Q' W hW hz s tz kz => ?_) (fun G D ys s nD hD _ => k G _ s)
    obtain ⟨ah, hp⟩ := hi z hz
    obtain ⟨lz, t, b, c, eq, qa, qb, qc, qf⟩ := part_parts hp
    have oz := List.all_eq_true.mp o2 z hz
    have ob := okPt_at oz (y := b) (by rw [eq]; simp)
    have oc := okPt_at oz (y := c) (by rw [eq]; simp)
    obtain ⟨lb, nb⟩ := fne_none qb
    obtain ⟨lc, ic⟩ := fni_none qc
    obtain ⟨az, xs, rfl, r, hx⟩ := tz.seq (K := K) lz
    rw [eq] at r
    match xs, r, hx with
    | [x1, x2, x3], .cons t1 (.cons t2 (.cons t3 .nil)), hx =>
      have go : W ((((wipe (L2.start ["parts", "name", "ends", "items"] [v]) [1, 2, 3]).set 1 (some x1)).set 2 (some x2)).set 3 (some x3)) G → (gTup K 3 (gCons (gName 1) (gCons (gName 2) (gCons (gName 3) gNil))) (.ref az) (wipe (L2.start ["parts", "name", "ends", "items"] [v]) [1, 2, 3]) G W ∨ gLst K 3 (gCons (gName 1) (gCons (gName 2) (gCons (gName 3) gNil))) (.ref az) (wipe (L2.start ["parts", "name", "ends", "items"] [v]) [1, 2, 3]) G W) := fun hw => by
        rcases hx with hx | hx
        · exact .inr ⟨az, _, rfl, .inl (.inl hx), rfl, _, _, rfl, _, _, rfl, _, _, rfl, rfl, hw⟩
        · exact .inl ⟨az, _, rfl, .inl (.inl hx), rfl, _, _, rfl, _, _, rfl, _, _, rfl, rfl, hw⟩
      refine go (hW _ _ rfl ?_)
      obtain ⟨ae, es, rfl, re, he⟩ := t2.seq (K := K) lb
      refine ⟨x1, rfl, .ref ae, rfl, ae, es, rfl, he.elim (fun h => .inl (.inl (.inl h))) (fun h => .inr (.inl (.inl h))), fun D nD => ?_⟩
      obtain ⟨c1, _⟩ := Bool.and_eq_true_iff.mp oc.2.2
      have c1 := of_decide_eq_true c1
      refine ⟨x3, rfl, x3, c, ah, rfl, t3.ext (same_new nD), lc, by omega, ic, fun G2 y s2 => ?_⟩
      exact ⟨by rw [sizeLine_eq]; exact (by decide : 3 ≤ 16777216), fun D2 nD2 => kz _ _ (((same_new nD).trans s2).trans (same_new nD2))⟩
end
end K14.T5
namespace K14.Gn
open PySem PySem.W PySem.Calls PyProof.Rows L2 LamX
open Kz (noE)
theorem pe_orr {X : Cx} {e : Expr} {t1 t2 : TE} (h1 : PE X e t1) (h2 : PE X e t2) : PE X e (fun σ H Q => t1 σ H Q ∨ t2 σ H Q) := ⟨fun pins s σ H Q I h => h.elim (h1.run pins s σ H Q I) (h2.run pins s σ H Q I)⟩
theorem dropN {te : TE} {u : TS} {D : Ends} {σ : L2.St} {H : Hp} (h : te σ H fun _ G => u D σ G) : tSeq (tDrop te) u D σ H := h
/-- C(..) of an own class, which may raise -/
def HasCX (P : Program) (w : World) (K : Frag) (mg : Str → Option Value) (base : Heap) (x : Str) (C : Addr) (k : Nat) (ps : List Str) (sp : Sp) : Prop := ∃ f fd, mg x = some (.ref C) ∧ L2.Mk K C f ∧ L2.Binds K fd ps [] ∧ FnOk P w K mg base (L2.CX P w) k f fd ps sp
theorem pe_hasCX {X : Cx} {x : Str} {e : Expr} {es : List Expr} {t : TA} {C : Addr} {k : Nat} {ps : List Str} {sp : Sp} {p pos : Pos} {E : XK} (h : HasCX X.prog X.w X.K X.mg X.base x C k ps sp) (hr : Room (k + 1) X.A) (hg : Gl X x) (hx : Passes (L2.CX X.prog X.w) X E) (ha : PA X (e :: es) t) (hdb : (x == ("__debug__" : Str)) = false := by decide)
    (hst : starEach (e :: es) X.env = (false, eval e X.env) :: starEach es X.env := by rfl) (hpl : (backTo pos (starEach es X.env)).any (·.1) = false := by rfl) : PE X (.Call (.Name x p) (e :: es) [] pos) (tMake C sp [] E t) := by
  obtain ⟨f, fd, hm, M, hb, F⟩ := h
  exact pe_make M F hr hg hm hb .nil hx ha (hdb := hdb) (he := hst) (hpl := hpl)
end K14.Gn
namespace K14.T5
open T27 T3
open K14.Gn
open PySem PySem.W PySem.Calls PyProof.Rows L2 LamX
open He (ga)
open Kz (SS ExtS ExtS.trans small4 same_new boot_in boot_li boot_isi Has pe_has noE PSs.of_eq seqI new_ext X1)
/-! ### Plan -/
def clsBody : Stmt → List Stmt
  | .ClassDef _ _ _ b _ _ _ _ _ _ _ => b
  | _ => []
def mS (i k : Nat) : Stmt := (clsBody (topS i)).getD k (.Pass ⟨0, 0, 0, 0⟩)
abbrev sPn : Stmt := mS 35 0
theorem scPn : FnScope ["self", "parts", "ends", "items", "ahead"] ["self", "parts", "ends", "items"] (defScope sPn) := ⟨rfl, rfl, rfl, by decide +kernel, rfl, by decide +kernel, by decide +kernel⟩
theorem bdPn : defBody sPn = [stOf sPn 0, stOf sPn 1, stOf sPn 2, stOf sPn 3, stOf sPn 4, stOf sPn 5, stOf sPn 6] := by rfl
inductive PF
  | parts (j : Nat)
  | ends (j : Nat)
  | items (j : Nat)
  | wire (s : Str)
def PF.cls : PF → Str
  | .parts _ => "BadParts"
  | .ends _ => "BadEnds"
  | .items _ => "BadItems"
  | .wire _ => "BadWire"
def PF.fld : PF → Str
  | .wire _ => "name"
  | _ => "index"
def PF.val : PF → V
  | .parts j => .int (j : Nat)
  | .ends j => .int (j : Nat)
  | .items j => .int (j : Nat)
  | .wire s => .str s
def itemsF (ah : Str → Option Nat) (e i : PyData) : Option PF := match fne e with
  | some j => some (.ends j)
  | none => match fni ah i with
    | some j => some (.items j)
    | none => (fnt (wiresAll e i)).map .wire
/-- what is wrong with a plan -/
def planF (p e i : PyData) : Option PF :=
  if isL p = true then match cpL (its p) ah0 0 with
    | (some j, _) => some (.parts j)
    | (none, ah) => itemsF ah e i
  else some (.parts 0)
abbrev PlC (K : Frag) : Addr := ga K "Plan"
structure ClP (K : Frag) : Prop where
  pl : Cls K (PlC K)
  pp : NoAttr K (PlC K) "_parts"
  pe : NoAttr K (PlC K) "_ends"
  pb : NoAttr K (PlC K) "_body"
def okPlan (p e i : PyData) : Bool := okPts p && (okNs e && okIts i)
section
variable {P : Program} {w : World} {K : Frag} {mg : Str → Option Value} {base : Heap}
theorem okNs_ends {H : Hp} {v : V} {d : PyData} (t : Th H v d) (o : okNs d = true) : EndsOk H v d := by
  obtain ⟨o1, o2⟩ := okNs_at o
  exact ⟨t, o1, fun s ms => Nat.le_trans (shS_str (o2 _ ms) rfl) (by decide)⟩
theorem cpL_parts : ∀ (ds : List PyData) (ah ah' : Str → Option Nat) (j : Nat), cpL ds ah j = (none, ah') → ∀ z ∈ ds, ∃ a, partB a z = true
  | [], _, _, _, _, z, m => nomatch m
  | y :: r, ah, ah', j, h, z, m => by
    unfold cpL at h
    by_cases c : (partB ah y && !(ah (partName y)).isSome) = true
    · rw [if_pos c] at h
      rcases List.mem_cons.mp m with rfl | m
      · exact ⟨ah, (Bool.and_eq_true_iff.mp c).1⟩
      · exact cpL_parts r _ _ _ h z m
    · rw [if_neg c] at h
      cases h
def spPn (K : Frag) : Sp := fun vs H Q E => ∃ (p dx : Addr) (vp ve vi : V) (dp de di : PyData), vs = [.ref p, vp, ve, vi] ∧ H p = some (.ins (PlC K) dx []) ∧ Th (Hid [p] H) vp dp ∧ Th (Hid [p] H) ve de ∧ Th (Hid [p] H) vi di ∧ okPlan dp de di = true ∧
  (∀ t, planF dp de di = some t → SaysF (ga K t.cls) t.fld t.val H E) ∧ (planF dp de di = none → ∀ H', Exc p H H' → Q .non H')
theorem okx_pn {f : Addr} {fd : FuncData} (F : FunD K "__init__" "Plan.__init__" (defArgs sPn) (defBody sPn) (defScope sPn) [] [] f fd) (C : ClP K) (CP : Has P w K mg base "check_parts" 8 ["parts"] spCpr) (CPX : HasX P w K mg base "check_parts" 8 ["parts"] (spCprX K)) (CE : Has P w K mg base "check_ends" 4 ["ends"] spCk) (CEX : HasX P w K mg base "check_ends" 4 ["ends"] (spCkX K))
    (CI : Has P w K mg base "check_items" 7 ["items", "ahead"] spCit) (CIX : HasX P w K mg base "check_items" 7 ["items", "ahead"] (spCitX K)) (CW : Has P w K mg base "check_wires" 2 ["names"] spCwr) (CWX : HasX P w K mg base "check_wires" 2 ["names"] (spCwrX K)) (NI : Has P w K mg base "names_in" 2 ["ends", "items"] spNi) (TP : Has P w K mg base "told_parts" 3 ["parts"] spTp) (TS : Has P w K mg base "told_items" 2 ["items"] spTs) (ml : mg "list" = none) :
    FnOk P w K mg base (L2.CX P w) 9 f fd ["self", "parts", "ends", "items"] (spPn K) := by
  refine F.ok scPn (fun vs H Q E h => ?_) (fun cdv A outer s H vs Q XE hr h => ?_)
  · obtain ⟨p, dx, vp, ve, vi, dp, de, di, rfl, _⟩ := h
    rfl
  · obtain ⟨p, dx, vp, ve, vi, dp, de, di, rfl, hp, tp, te, ti, ok, kx, k⟩ := h
    have h0 : PS (XX P w K mg base ["self", "parts", "ends", "items", "ahead"] "Plan.__init__" sPn f cdv A outer s H XE) (stOf sPn 0) _ := ps_set (i := 4) scPn.nd rfl (.inl rfl) (pe_orr (pe_has CP (hr.mono (by decide)) (by rfl) (pa_cons (pv 1) pa_nil)) (pe_hasX CPX (hr.mono (by decide)) (by rfl) noX (pa_cons (pv 1) pa_nil)))
    have h1 : PS (XX P w K mg base ["self", "parts", "ends", "items", "ahead"] "Plan.__init__" sPn f cdv A outer s H XE) (stOf sPn 1) _ := ps_expr (pe_orr (pe_has CE (hr.mono (by decide)) (by rfl) (pa_cons (pv 2) pa_nil)) (pe_hasX CEX (hr.mono (by decide)) (by rfl) noX (pa_cons (pv 2) pa_nil)))
    have h2 : PS (XX P w K mg base ["self", "parts", "ends", "items", "ahead"] "Plan.__init__" sPn f cdv A outer s H XE) (stOf sPn 2) _ := ps_expr (pe_orr (pe_has CI (hr.mono (by decide)) (by rfl) (pa_cons (pv 3) (pa_cons (pv 4) pa_nil))) (pe_hasX CIX (hr.mono (by decide)) (by rfl) noX (pa_cons (pv 3) (pa_cons (pv 4) pa_nil))))
    have h3 : PS (XX P w K mg base ["self", "parts", "ends", "items", "ahead"] "Plan.__init__" sPn f cdv A outer s H XE) (stOf sPn 3) _ := ps_expr (pe_orr (pe_has CW (hr.mono (by decide)) (by rfl) (pa_cons (pe_has NI (hr.mono (by decide)) (by rfl) (pa_cons (pv 2) (pa_cons (pv 3) pa_nil))) pa_nil)) (pe_hasX CWX (hr.mono (by decide)) (by rfl) noX (pa_cons (pe_has NI (hr.mono (by decide)) (by rfl) (pa_cons (pv 2) (pa_cons (pv 3) pa_nil))) pa_nil)))
    have h4 : PS (XX P w K mg base ["self", "parts", "ends", "items", "ahead"] "Plan.__init__" sPn f cdv A outer s H XE) (stOf sPn 4) _ := ps_fld (pv 0) (pe_has TP (hr.mono (by decide)) (by rfl) (pa_cons (pv 1) pa_nil)) rfl
    have h5 : PS (XX P w K mg base ["self", "parts", "ends", "items", "ahead"] "Plan.__init__" sPn f cdv A outer s H XE) (stOf sPn 5) _ := ps_fld (pv 0) (pe_callTy call_list_of (by rfl) ml boot_li (pa_cons (pv 2) pa_nil)) rfl
    have h6 : PS (XX P w K mg base ["self", "parts", "ends", "items", "ahead"] "Plan.__init__" sPn f cdv A outer s H XE) (stOf sPn 6) _ := ps_fld (pv 0) (pe_has TS (hr.mono (by decide)) (by rfl) (pa_cons (pv 3) pa_nil)) rfl
    refine ⟨_, PSs.of_eq bdPn (pss_cons h0 (pss_cons h1 (pss_cons h2 (pss_cons h3 (pss_cons h4 (pss_cons h5 (pss_one h6))))))), ?_⟩
    clear h0 h1 h2 h3 h4 h5 h6
    obtain ⟨okp, ok⟩ := Bool.and_eq_true_iff.mp ok
    obtain ⟨oke, oki⟩ := Bool.and_eq_true_iff.mp ok
    have hid : ∀ {G : Hp} {v : V} {d : PyData}, L2.Same H G → Th (Hid [p] H) v d → Th G v d := fun s t => (t.ext hid_up).ext s
    unfold planF at k kx
    refine T3.set_intro (i := 4) ?_
    by_cases l : isL dp = true
    · rw [if_pos l] at k kx
      cases qp : cpL (its dp) ah0 0 with
      | mk oj ah =>
        rw [qp] at k kx
        cases oj with
        | some j =>
          refine .inr ⟨vp, rfl, vp, dp, j, rfl, hid (fun _ _ e => e) tp, okp, .inr ⟨l, by rw [qp]⟩, kx _ rfl⟩
        | none =>
          refine .inl ⟨vp, rfl, vp, dp, ah, rfl, hid (fun _ _ e => e) tp, l, okp, qp, fun H1 a s1 aD => ?_⟩
          have k : itemsF ah de di = none → ∀ H', Exc p H H' → Q .non H' := k
          have kx : ∀ t, itemsF ah de di = some t → SaysF (ga K t.cls) t.fld t.val H XE := kx
          unfold itemsF at k kx
          refine dropN ?_
          cases qe : fne de with
          | some j =>
            rw [qe] at kx
            exact .inr ⟨ve, rfl, ve, de, j, rfl, okNs_ends (hid s1 te) oke, qe, fun H' dx' s2 q => kx _ rfl H' dx' (s1.trans s2) q⟩
          | none =>
            rw [qe] at k kx
            refine .inl ⟨ve, rfl, ve, de, rfl, okNs_ends (hid s1 te) oke, qe, fun H2 s2 => ?_⟩
            refine dropN ?_
            cases qi : fni ah di with
            | some j =>
              rw [qi] at kx
              exact .inr ⟨vi, rfl, .ref a, rfl, vi, di, a, ah, j, rfl, hid (s1.trans s2) ti, oki, aD.ext s2, qi, fun H' dx' s3 q => kx _ rfl H' dx' ((s1.trans s2).trans s3) q⟩
            | none =>
              rw [qi] at k kx
              refine .inl ⟨vi, rfl, .ref a, rfl, vi, di, a, ah, rfl, hid (s1.trans s2) ti, oki, aD.ext s2, qi, fun H3 s3 => ?_⟩
              refine dropN ?_
              have S3 := (s1.trans s2).trans s3
              obtain ⟨le, ne⟩ := fne_none qe
              obtain ⟨li, ii⟩ := fni_none qi
              have len := all_len oke oki
              cases qf : fnt (wiresAll de di) with
              | some t =>
                rw [qf] at kx
                refine .inr ⟨ve, rfl, vi, rfl, ve, vi, de, di, (its de).map strD, ah, rfl, hid S3 te, le, names_str ne, hid S3 ti, li, ii, len, fun H4 D s4 nD hD => ?_⟩
                exact ⟨D, wiresAll de di, t, rfl, hD, len, qf, fun H' dx' s5 q => kx _ rfl H' dx' ((S3.trans s4).trans s5) q⟩
              | none =>
                rw [qf] at k
                refine .inl ⟨ve, rfl, vi, rfl, ve, vi, de, di, (its de).map strD, ah, rfl, hid S3 te, le, names_str ne, hid S3 ti, li, ii, len, fun H4 D s4 nD hD => ?_⟩
                refine ⟨D, wiresAll de di, rfl, hD, len, qf, fun H5 s5 => ?_⟩
                have S5 := (S3.trans s4).trans s5
                refine ⟨vp, rfl, vp, dp, rfl, hid S5 tp, l, okp, cpL_parts _ _ _ _ qp, fun H6 y s6 => ?_⟩
                have S6 := S5.trans s6
                refine ⟨.ref p, rfl, p, _, dx, _, rfl, S6 _ _ hp, C.pl, C.pp, Nat.le_of_ble_eq_true rfl, ?_⟩
                have np : ∀ {G : Hp} {o : HO} {v : V} {d : PyData}, L2.Same (Hid [p] H) (Hid [p] G) → Th (Hid [p] H) v d → Th (upd G p o) v d := fun s t => (t.ext (s.trans (Exc.hid Exc.upd (by simp)))).ext hid_up
                obtain ⟨ae, es, rfl, re, he⟩ := (np (o := .ins (PlC K) dx (putF "_parts" y [])) (hid_same S6) te).seq (K := K) le
                refine ⟨.ref ae, rfl, ae, es, rfl, he.elim (fun h => .inl (.inl (.inl h))) (fun h => .inr (.inl (.inl h))), fun D2 nD2 => ?_⟩
                have n2 : p ≠ D2 := ne_of_none upd_same nD2
                refine ⟨.ref p, rfl, p, _, dx, _, rfl, by rw [upd_ne n2]; exact upd_same, C.pl, C.pe, Nat.le_of_ble_eq_true rfl, ?_⟩
                have E1 : Exc p H (upd (upd H6 p (.ins (PlC K) dx (putF "_parts" y []))) D2 (.lst es)) := ((Exc.of S6).trans Exc.upd).trans (Exc.of (same_new nD2))
                refine ⟨vi, rfl, vi, di, ah, rfl, np (E1.hid (by simp)) ti, li, ?_, ii, fun H7 y7 s7 => ?_⟩
                · obtain ⟨c1, _⟩ := Bool.and_eq_true_iff.mp oki
                  have c1 := of_decide_eq_true c1
                  omega
                refine ⟨.ref p, rfl, p, _, dx, _, rfl, s7 _ _ upd_same, C.pl, C.pb, Nat.le_of_ble_eq_true rfl, ?_⟩
                exact k rfl _ (((E1.trans Exc.upd).trans (Exc.of s7)).trans Exc.upd)
    · rw [if_neg l] at k kx
      exact .inr ⟨vp, rfl, vp, dp, 0, rfl, hid (fun _ _ e => e) tp, okp, .inl ⟨by simpa using l, rfl⟩, kx _ rfl⟩
end
end K14.T5
namespace K14.Gn
open PySem PySem.W PySem.Calls PyProof.Rows L2 LamX
open Kz (same_new small4)
section
variable {K : Frag} {te : TE} {σ : L2.St} {G : Hp} {v : V} {d z : PyData} {Q : VK}
theorem iff_in {c : TT} {a b : TE} {σ : L2.St} {H : Hp} {Q : VK} (h : c σ H fun q H1 => if q = true then a σ H1 Q else b σ H1 Q) : tIf c a b σ H Q := h
end
end K14.Gn
namespace K14.T5
open T27 T3
open K14.Gn
open PySem PySem.W PySem.Calls PyProof.Rows L2 LamX
open He (ga)
open SX (S)
open Kz (SS ExtS ExtS.trans small4 same_new boot_in boot_li boot_isi Has pe_has noE PSs.of_eq seqI new_ext X1)
/-! ### the law's own names and cells -/
abbrev sLc : Stmt := topS 41
theorem scLc : FnScope ["thing", "name"] ["thing"] (defScope sLc) := ⟨rfl, rfl, rfl, by decide +kernel, rfl, by decide +kernel, by decide +kernel⟩
theorem bdLc : defBody sLc = [stOf sLc 0, stOf sLc 1, stOf sLc 2] := by rfl
def scRetA : Stmt → Scope
  | .Return (some (.Call _ [.ListComp _ _ sc _] _ _)) _ => sc
  | _ => default
/-- what isinstance and the like are called by -/
structure LwK (mg : Str → Option Value) : Prop where
  isi : mg "isinstance" = none
  str : mg "str" = none
  list : mg "list" = none
  tuple : mg "tuple" = none
  len : mg "len" = none
  all : mg "all" = none
section
variable {P : Program} {w : World} {K : Frag} {mg : Str → Option Value} {base : Heap}
theorem ok_lnB {f : Addr} {fd : FuncData} (F : FunD K "_law_is_name" "_law_is_name" (defArgs sLn) (defBody sLn) (defScope sLn) [] [] f fd) (N : NmK K mg) : FnOk P w K mg base CX0 1 f fd ["thing"] (fun vs H Q _ => ∃ (v : V) (d : PyData), vs = [v] ∧ Th H v d ∧ isSt d = false ∧ Q (.bl false) H) := by
  refine F.ok scLn (fun vs H Q E h => ?_) (fun cdv A outer s H vs Q XE hr h => ?_)
  · obtain ⟨x, d, rfl, _⟩ := h
    rfl
  · obtain ⟨v, d, rfl, hv, e, k⟩ := h
    have h0 : PS (XC P w K mg base T69.NLn "_law_is_name" sLn f cdv A outer s H XE) (stOf sLn 0) _ := ps_if ((pw_or (pt_not (pt_val (pe_callB call_isi (by rfl) N.isi boot_isi (pa_cons (pv 0) (pa_cons (pe_bltn (by rfl) N.str boot_st (v := .ty "str") rfl) pa_nil))))) (pw_or (pt_cmpR op_lt (pe_callB call_len_str (by rfl) N.len boot_len (pa_cons (pv 0) pa_nil)) pe_int (nomark _)) (pw_or1 (pt_cmpR op_gt (pe_callB call_len_str (by rfl) N.len boot_len (pa_cons (pv 0) pa_nil)) pe_int (nomark _)))))).pt (pss_one (ps_ret pe_bl)) pss_nil
    refine ⟨_, PSs.nox (PSs.of_eq bdLn (pss_cons h0 pss_never)), ?_⟩
    clear h0
    refine T3.if_intro ⟨v, rfl, v, _, _, _, _, rfl, .ty _, hv.ty, is_st d, _, rfl, ?_⟩
    rw [e]
    exact iteT (iteT k)
theorem ok_lnA {f : Addr} {fd : FuncData} (F : FunD K "_law_is_name" "_law_is_name" (defArgs sLn) (defBody sLn) (defScope sLn) [] [] f fd) (N : NmK K mg) : FnOk P w K mg base CX0 1 f fd ["thing"] spNm := by
  refine fnOk_or (ok_ln F N) (ok_lnB F N) fun vs H Q E h => ?_
  obtain ⟨v, d, rfl, t, l, k⟩ := h
  have kk := k H fun _ _ e => e
  cases d with
  | str s =>
    cases t
    exact .inl ⟨s.cps.toList, rfl, l s rfl, k⟩
  | _ => exact .inr ⟨v, _, rfl, t, rfl, kk⟩
theorem in24 (n : Nat) : inV (.int ((n : Nat) : Int)) [.int 2, .int 4] = (decide (n = 2) || decide (n = 4)) := by
  have e2 : eqV (.int 2) (.int ((n : Nat) : Int)) = decide (n = 2) := by
    rw [Bool.eq_iff_iff, decide_eq_true_eq]
    show ((2 : Int) == (n : Int)) = true ↔ _
    rw [beq_iff_eq]
    omega
  have e4 : eqV (.int 4) (.int ((n : Nat) : Int)) = decide (n = 4) := by
    rw [Bool.eq_iff_iff, decide_eq_true_eq]
    show ((4 : Int) == (n : Int)) = true ↔ _
    rw [beq_iff_eq]
    omega
  rw [← e2, ← e4]
  show (_ || (_ || false)) = _
  rw [Bool.or_false]
theorem st_txt {d : PyData} (h : isSt d = false) (ss : List Str) : txtIn ss d = false := by
  cases d with
  | str s => cases h
  | _ => rfl
theorem ok_lc {f : Addr} {fd : FuncData} (F : FunD K "_law_is_cell" "_law_is_cell" (defArgs sLc) (defBody sLc) (defScope sLc) [] [] f fd) (LN : Has P w K mg base "_law_is_name" 1 ["thing"] spNm) (B : LwK mg) : FnOk P w K mg base CX0 2 f fd ["thing"] (spIt cellB) := by
  refine F.ok scLc (fun vs H Q E h => ?_) (fun cdv A outer s H vs Q XE hr h => ?_)
  · obtain ⟨v, d, rfl, _⟩ := h
    rfl
  · obtain ⟨v, d, rfl, hv, ok, k⟩ := h
    obtain ⟨o1, o2⟩ := okIt_at ok
    have h0 : PS (XC P w K mg base ["thing", "name"] "_law_is_cell" sLc f cdv A outer s H XE) (stOf sLc 0) _ := ps_if (PW.pt (pw_or (pt_not (pt_val (pe_callB call_isiT (by rfl) B.isi boot_isi (pa_cons (pv 0) (pa_cons (pe_tup (pa_cons (pe_bltn (by rfl) B.list boot_li (v := .ty "list") rfl) (pa_cons (pe_bltn (by rfl) B.tuple boot_tu (v := .ty "tuple") rfl) pa_nil))) pa_nil))))) (pw_or (pt_cmpR op_notIn_seq (pe_callB call_len_seq (by rfl) B.len boot_len (pa_cons (pv 0) pa_nil)) (pe_tup (pa_cons pe_int (pa_cons pe_int pa_nil))) (by rfl)) (pw_or1 (pt_not (pt_val (pe_callB call_isi (by rfl) B.isi boot_isi (pa_cons (pe_ix ix_seq (pv 0) pe_int (fun _ _ => rfl)) (pa_cons (pe_bltn (by rfl) B.str boot_st (v := .ty "str") rfl) pa_nil))))))))) (pss_one (ps_ret pe_bl)) pss_nil
    have h1 : PS (XC P w K mg base ["thing", "name"] "_law_is_cell" sLc f cdv A outer s H XE) (stOf sLc 1) _ := ps_if (pt_cmpR op_notIn_seq (pe_ix ix_seq (pv 0) pe_int (fun _ _ => rfl)) (pe_ifExp (pt_cmpR op_eq (pe_callB call_len_seq (by rfl) B.len boot_len (pa_cons (pv 0) pa_nil)) pe_int (nomark _)) (pe_tup (pa_cons pe_str pa_nil)) (pe_tup (pa_cons pe_str (pa_cons pe_str pa_nil)))) (by rfl)) (pss_one (ps_ret pe_bl)) pss_nil
    have h2 : PS (XC P w K mg base ["thing", "name"] "_law_is_cell" sLc f cdv A outer s H XE) (stOf sLc 2) _ := ps_ret (pe_callB (cr_all rfl) (by rfl) B.all boot_all (pa_cons (pe_lc (X := XC P w K mg base ["thing", "name"] "_law_is_cell" sLc f cdv A outer s H XE) (scope := scRetA (stOf sLc 2)) (own := [("name", 1)]) (g := gName 1) (tt := tYes)
      (te := tCall spNm [] noE (tCons (tVar 1) tNil)) rfl scLc.nd (pi_sq (pe_slice (SlR.or sl_list sl_tupA) (pv 0) (po_some pe_int) po_none)) (blkOk_by (N := ["thing", "name"]) (sc := defScope sLc) (by decide +kernel)) (fun _ _ _ _ _ => pg_name (i := 1) scLc.nd rfl (Or.inl rfl)) (fun _ _ _ _ _ => pts_nil)
      (fun s0 H0 C0 cl0 fp0 => by exact pe_has LN (hr.mono (by decide)) (by rfl) (pa_cons (pv 1) pa_nil))) pa_nil))
    refine ⟨_, PSs.nox (PSs.of_eq bdLc (pss_cons h0 (pss_cons h1 (pss_one h2)))), ?_⟩
    clear h0 h1 h2
    unfold cellB at k
    refine T3.if_intro (or_in (not_in (b_in ⟨v, rfl, small4 2, fun p np => ⟨v, p, _, _, _, _, rfl, upd_same, .cons (.ty _) (.cons (.ty _) .nil), (hv.ext (same_new np)).ty, is_lt d, _, rfl, ?_⟩⟩)))
    have s1 : L2.Same H (upd H p (.tup [.ty "list", .ty "tuple"])) := same_new np
    cases l : isL d with
    | false =>
      rw [l] at k
      exact iteT (iteT (k _ s1))
    | true =>
      rw [l, Bool.true_and] at k
      have hv1 := hv.ext s1
      refine iteF (or_in (tst_in (ev_len (K := K) (rds_var (i := 0) rfl hv1) l ⟨small4 2, fun q nq => ⟨q, [.int 2, .int 4], rfl, .inr (.inl (.inl upd_same)), rfl, rfl, _, rfl, ?_⟩⟩)))
      have s2 := s1.trans (same_new (o := .tup [.int 2, .int 4]) nq)
      show (if (!inV (.int (((its d).length : Nat) : Int)) [.int 2, .int 4]) = true then _ else _)
      rw [in24]
      by_cases cl : (its d).length = 2 ∨ (its d).length = 4
      · have e1 : (!(decide ((its d).length = 2) || decide ((its d).length = 4))) = false := by
          rcases cl with e | e <;> rw [e] <;> rfl
        rw [e1]
        have hv2 := hv.ext s2
        obtain ⟨a, r, eq⟩ : ∃ a r, its d = a :: r := by
          cases e : its d with
          | nil =>
            rw [e] at cl
            rcases cl with e | e <;> cases e
          | cons a r => exact ⟨a, r, rfl⟩
        refine iteF (not_in (b_in (rds_ix (K := K) (n := 0) (rds_var (i := 0) rfl hv2) l (by rw [eq]; rfl) _ fun x tx => ⟨x, _, _, _, _, rfl, .ty _, tx.ty, is_st a, _, rfl, ?_⟩)))
        cases qa : isSt a with
        | false =>
          have e2 : cellM (its d) = false := by
            rw [eq]
            unfold cellM
            split
            · rename_i a' b e
              cases e
              rw [st_txt qa]
              rfl
            · rename_i a' b c f e
              cases e
              rw [st_txt qa]
              rfl
            · rfl
          rw [e2] at k
          exact iteT (k _ s2)
        | true =>
          obtain ⟨t, rfl⟩ : ∃ t, a = .str t := by
            cases a with
            | str t => exact ⟨t, rfl⟩
            | _ => cases qa
          refine iteF (nx_intro (ifS_intro (tst_in (rds_ix (K := K) (n := 0) (rds_var (i := 0) rfl hv2) l (by rw [eq]; rfl) _ fun x tx => ?_))))
          cases tx
          refine iff_in (tst_in (ev_len (K := K) (rds_var (i := 0) rfl hv2) l ⟨rfl, _, rfl, ?_⟩))
          show (if decide (V.int (((its d).length : Nat) : Int) = V.int ((2 : Nat) : Int)) = true then _ else _)
          rw [len_dec]
          have last : ∀ (G : Hp), L2.Same H G → ∀ R : VK, (∀ G', L2.Same G G' → R (.bl (r.all nameB)) G') → tCB (rAll K) (tCons (tLc (iSq K (tSl (fun x lo hi H Q => rSlL K x lo hi H Q ∨ rSlA K x lo hi H Q) (tVar 0) (tPart (tC (.int 1))) tNoPart)) (gName 1) tYes (tCall spNm [] noE (tCons (tVar 1) tNil)) [1]) tNil) (L2.start ["thing", "name"] [v]) G R := fun G sG R kR => by
            have rl := reSeq_its d ((its d).drop 1)
            refine lc_allG (K := K) (d := reSeq d ((its d).drop 1)) nameB (fun R h => ⟨v, rfl, 1, rfl, th_from (m := 1) (hv.ext sG) l (by rw [eq, List.length_cons]; omega) (fun y G' s' t => h y G' s' t)⟩) rl.2 (by rw [rl.1, List.length_drop]; omega) (fun _ => rfl) (fun j z x G' Q' hz s tz kz => ?_) fun G1 s2 => ?_
            · have mz : z ∈ its d := by
                have := List.mem_of_getElem? hz
                rw [rl.1] at this
                exact List.mem_of_mem_drop this
              exact ⟨x, rfl, x, z, rfl, tz, (fun s e => Nat.le_trans (shS_str (o2 z mz).2.1 e) (by decide)), fun G' s' => kz G' s'⟩
            · have := kR G1 s2
              rw [rl.1, eq]
              exact this
          rcases cl with c2 | c4
          · rw [decide_eq_true c2]
            refine iteT ⟨small4 1, fun q2 nq2 => ⟨q2, [.str "stop"], rfl, .inr (.inl (.inl upd_same)), rfl, rfl, _, rfl, ?_⟩⟩
            have s3 := s2.trans (same_new (o := .tup [.str "stop"]) nq2)
            have ek : cellM (its d) = (txtIn ["stop"] (.str t) && r.all nameB) := by
              rw [eq] at c2
              match r, c2, eq with
              | [b], _, eq =>
                rw [eq]
                show (_ && _) = (_ && (_ && true))
                rw [Bool.and_true]
            rw [ek] at k
            show (if (!txtIn ["stop"] (.str t)) = true then _ else _)
            cases qt : txtIn ["stop"] (.str t) with
            | false =>
              rw [qt] at k
              exact iteT (k _ s3)
            | true =>
              rw [qt, Bool.true_and] at k
              exact iteF (nx_intro (ret_intro (last _ s3 _ fun G' s4 => k G' (s3.trans s4))))
          · rw [decide_eq_false (by omega)]
            refine iteF ⟨small4 2, fun q2 nq2 => ⟨q2, [.str "x", .str "y"], rfl, .inr (.inl (.inl upd_same)), rfl, rfl, _, rfl, ?_⟩⟩
            have s3 := s2.trans (same_new (o := .tup [.str "x", .str "y"]) nq2)
            have ek : cellM (its d) = (txtIn ["x", "y"] (.str t) && r.all nameB) := by
              rw [eq] at c4
              match r, c4, eq with
              | [b, c, e], _, eq =>
                rw [eq]
                rfl
            rw [ek] at k
            show (if (!txtIn ["x", "y"] (.str t)) = true then _ else _)
            cases qt : txtIn ["x", "y"] (.str t) with
            | false =>
              rw [qt] at k
              exact iteT (k _ s3)
            | true =>
              rw [qt, Bool.true_and] at k
              exact iteF (nx_intro (ret_intro (last _ s3 _ fun G' s4 => k G' (s3.trans s4))))
      · have e1 : (!(decide ((its d).length = 2) || decide ((its d).length = 4))) = true := by
          rw [decide_eq_false (fun e => cl (.inl e)), decide_eq_false (fun e => cl (.inr e))]
          rfl
        rw [e1]
        rw [cellM_no (fun e => cl (.inr e)) (fun e => cl (.inl e))] at k
        exact iteT (iteT (k _ s2))
end
end K14.T5
namespace K14.Gn
open PySem PySem.W PySem.Calls PyProof.Rows L2 LamX NdefX
open Kz (noE)
/-! ### a wider base: the same heap, more of it known to stay -/
def keepAt (h base : Heap) (L : List Addr) : Heap := { objs := Array.ofFn (n := h.objs.size) fun i => if i.1 ∈ L ∨ (base.get? i.1).isSome = true then h.objs[i.1] else { cls := .none, data := .freed }, life := h.life }
theorem keepAt_size (h base : Heap) (L : List Addr) : (keepAt h base L).objs.size = h.objs.size := by simp [keepAt]
theorem keepAt_raw (h base : Heap) (L : List Addr) (b : Addr) : (keepAt h base L).objs[b]? = (h.objs[b]?).map fun o => if b ∈ L ∨ (base.get? b).isSome = true then o else { cls := .none, data := .freed } := by
  unfold keepAt
  rw [Array.getElem?_ofFn]
  by_cases hb : b < h.objs.size
  · rw [dif_pos hb, Array.getElem?_eq_getElem hb]
    rfl
  · rw [dif_neg hb, Array.getElem?_eq_none (Nat.le_of_not_lt hb)]
    rfl
theorem keepAt_in {h base : Heap} {L : List Addr} {b : Addr} (m : b ∈ L ∨ (base.get? b).isSome = true) : (keepAt h base L).get? b = h.get? b := by
  have e : (keepAt h base L).objs[b]? = h.objs[b]? := by
    rw [keepAt_raw]
    cases h.objs[b]? with
    | none => rfl
    | some o =>
      show some (if _ then _ else _) = _
      rw [if_pos m]
  unfold Heap.get?
  rw [e]
theorem keepAt_out {h base : Heap} {L : List Addr} {b : Addr} (m : ¬ (b ∈ L ∨ (base.get? b).isSome = true)) : (keepAt h base L).get? b = none := by
  have e : (keepAt h base L).objs[b]? = none ∨ (keepAt h base L).objs[b]? = some { cls := .none, data := .freed } := by
    rw [keepAt_raw]
    cases h.objs[b]? with
    | none => exact .inl rfl
    | some o =>
      refine .inr ?_
      show some (if _ then _ else _) = _
      rw [if_neg m]
  unfold Heap.get?
  rcases e with e | e <;> rw [e]
theorem keepAt_to {h base : Heap} {L : List Addr} {b : Addr} {o : Obj} (e : (keepAt h base L).get? b = some o) : h.get? b = some o ∧ (b ∈ L ∨ (base.get? b).isSome = true) := by
  by_cases m : b ∈ L ∨ (base.get? b).isSome = true
  · rw [keepAt_in m] at e
    exact ⟨e, m⟩
  · rw [keepAt_out m] at e
    cases e
theorem funFrames_to {h base base' : Heap} : ∀ {l : List Env}, h.FunFrames base l → (∀ b ∈ frs l, base.get? b = none → base'.get? b = none) → h.FunFrames base' l
  | [], _, _ => trivial
  | env :: rest, ⟨k, ⟨L, o, hf, hn, ho, hd⟩, hr⟩, g => by
    have e : frs (env :: rest) = L :: frs rest := by
      unfold frs
      rw [List.filterMap_cons, hf]
    exact ⟨k, ⟨L, o, hf, g L (by rw [e]; exact List.mem_cons_self ..) hn, ho, hd⟩, funFrames_to hr fun b m => g b (by rw [e]; exact List.mem_cons_of_mem _ m)⟩
structure Up (K : Frag) (mg : Str → Option Value) (base base' : Heap) : Prop where
  sub : ∀ b o, base.get? b = some o → base'.get? b = some o
  mod : Mod K mg base
  sz : base.objs.size ≤ base'.objs.size
section
variable {P : Program} {w : World} {K : Frag} {mg : Str → Option Value} {base base' : Heap} {A : Around} {outer : List Env} {s : Shared} {H : Hp}
theorem Up.none (u : Up K mg base base') {b : Addr} (n : base'.get? b = none) : base.get? b = none := by
  cases q : base.get? b with
  | none => rfl
  | some o =>
    rw [u.sub b o q] at n
    cases n
theorem Up.env0 (u : Up K mg base base') (e : Env0 P w K mg base' A outer s H) : Env0 P w K mg base A outer s H :=
  ⟨e.frames, u.mod, fun b o h => e.bs b o (u.sub b o h), Nat.le_trans u.sz e.bsz, funFrames_to e.funs (fun b _ n => u.none n), e.frf, e.hok, e.bare⟩
theorem Up.fnOk (u : Up K mg base base') {CX : CXT} {k : Nat} {f : Addr} {fd : FuncData} {ps : List Str} {sp : Sp} (F : FnOk P w K mg base CX k f fd ps sp) : FnOk P w K mg base' CX k f fd ps sp :=
  ⟨F.len, fun A outer s H args us vs Q E hr e0 hb r q => F.run A outer s H args us vs Q E hr (u.env0 e0) hb r q⟩
theorem Up.has (u : Up K mg base base') {x : Str} {k : Nat} {ps : List Str} {sp : Sp} (h : Kz.Has P w K mg base x k ps sp) : Kz.Has P w K mg base' x k ps sp := by
  obtain ⟨f, fd, h1, h2, h3, F⟩ := h
  exact ⟨f, fd, h1, h2, h3, u.fnOk F⟩
theorem env0_keep (e : Env0 P w K mg base A outer s H) (L : List Addr) (hL : ∀ b ∈ L, H b = none ∧ b ∉ frs outer) : Up K mg base (keepAt s.heap base L) ∧ Env0 P w K mg (keepAt s.heap base L) A outer s H := by
  have sub : ∀ b o, base.get? b = some o → (keepAt s.heap base L).get? b = some o := fun b o h => by
    rw [keepAt_in (.inr (by rw [h]; rfl))]
    exact (e.bs b o h).1
  refine ⟨⟨sub, e.mod, by rw [keepAt_size]; exact e.bsz⟩, e.frames, ?_, fun b o h => ?_, by rw [keepAt_size]; exact Nat.le_refl _, funFrames_to e.funs fun b m n => ?_, e.frf, e.hok, e.bare⟩
  · obtain ⟨k1, k2, ⟨mb, k3, k4⟩, k5⟩ := e.mod
    exact ⟨k1.keeps sub, k2.keeps sub, ⟨mb, k3.keeps sub, k4⟩, k5.keeps sub⟩
  · obtain ⟨h1, h2⟩ := keepAt_to h
    refine ⟨h1, ?_⟩
    rcases h2 with h2 | h2
    · exact (hL b h2).1
    · obtain ⟨o', ho⟩ := Option.isSome_iff_exists.mp h2
      exact (e.bs b o' ho).2
  · refine keepAt_out fun z => ?_
    rcases z with z | z
    · exact (hL b z).2 m
    · rw [n] at z
      cases z
end
/-- the lambda at f, as it stands in the base -/
structure LamIn (base : Heap) (f c' : Addr) (q : Str) (params : Arguments) (body : Expr) (scope : Scope) (cl : List (Str × Addr)) (fr : List Str) (ws : List (Option V)) : Prop where
  obj : ∃ pm ctv, base.get? f = some (PySem.W.kla_obj "<lambda>" q params body scope cl pm c' ctv)
  cells : CellsAt cl fr ws base (fun _ => none)
abbrev lamNF (q : Str) (params : Arguments) (scope : Scope) (cl : List (Str × Addr)) (c' : Addr) : NF := ⟨"<lambda>", q, params, [], scope, cl, c'⟩
theorem CellsAt.up {base : Heap} {cl : List (Str × Addr)} {fr : List Str} {ws : List (Option V)} (C : CellsAt cl fr ws base (fun _ => none)) {h : Heap} {H : Hp} (bs : ∀ b o, base.get? b = some o → h.get? b = some o ∧ H b = none) : CellsAt cl fr ws h H := by
  have cell : ∀ {c v}, base.IsCell c v → h.IsCell c v ∧ H c = none := fun ⟨o, ho, hd⟩ => ⟨⟨o, (bs _ _ ho).1, hd⟩, (bs _ _ ho).2⟩
  refine ⟨C.len, fun y c e => ?_, C.inj, fun i y e => ?_⟩
  · obtain ⟨_, v, q⟩ := C.all y c e
    exact ⟨(cell q).2, v, (cell q).1⟩
  · obtain ⟨c, e1, e2⟩ := C.has i y e
    refine ⟨c, e1, fun v h => ?_⟩
    obtain ⟨u, r, q⟩ := e2 v h
    exact ⟨u, r, (cell q).1⟩
/-- x(..), x a local name that holds a lambda of the base -/
theorem pe_callLam {X : Cx} {i k : Nat} {x : Str} {e : Expr} {es : List Expr} {t : TA} {p pos : Pos} {f c' : Addr} {q : Str} {params : Arguments} {body : Expr} {scope : Scope} {cl : List (Str × Addr)} {N ps fr : List Str} {ws : List (Option V)} {tb : TE}
    (L : LamIn X.base f c' q params body scope cl fr ws) (S : NScope N ps fr scope) (hb : ∀ (pm cv ctv : Value) (us : List Value), us.length = ps.length → bindArgs (PySem.W.kla_fn "<lambda>" q params body scope cl pm cv ctv) ⟨us, []⟩ = pure (ps.zip us))
    (hbody : ∀ (A : Around) (outer : List Env) (s : Shared) (H : Hp), Room k (A.deeper (envF (lamNF q params scope cl c') f s.heap.objs.size)) → PE (ncx C8.CX0 X.prog X.w X.K X.mg X.base N (lamNF q params scope cl c') f A outer s H C8.E0) body tb)
    (hr : Room (k + 1) X.A) (hN : X.N[i]? = some x) (hv : Vis X.env.scope x) (ha : PA X (e :: es) t)
    (hdb : (x == ("__debug__" : Str)) = false := by decide) (hcd : (x == ("__classdict__" : Str)) = false := by decide)
    (he : starEach (e :: es) X.env = (false, eval e X.env) :: starEach es X.env := by rfl) (hpl : (backTo pos (starEach es X.env)).any (·.1) = false := by rfl) :
    PE X (.Call (.Name x p) (e :: es) [] pos) (fun σ H Q => σ[i]? = some (some (.ref f)) ∧ t σ H fun vs H1 => vs.length = ps.length ∧ H1 c' = some (CodeO c' q) ∧ tb (startF N vs ws) H1 Q) := by
  refine ⟨fun pins s σ H Q I h => ?_⟩
  obtain ⟨hs, ht⟩ := h
  obtain ⟨pm, ctv, ho⟩ := L.obj
  refine wpAny_Call_Name_kw (thn ((pe_var (pos := p) (i := i) hN hv hdb hcd).run pins s σ H (fun v H1 => v = .ref f ∧ H1 = H) I ⟨.ref f, hs, rfl, rfl⟩) fun u s1 ⟨v, H1, I1, r1, q1⟩ => ?_)
  obtain ⟨ev, eH⟩ := q1
  subst ev
  rw [eH] at I1
  obtain rfl : u = Value.ref f := r1
  have o1 := (I1.bs f _ ho).1
  refine PySem.W.callWith_F ⟨_, _, _, _, o1⟩ (thn (ha.run pos pins s1 σ H _ I1 ht) fun us s2 ⟨vs, H2, I2, r, hl, hc, hq0⟩ => ?_) he hpl
  have o2 := (I2.bs f _ ho).1
  refine ⟨⟨_, _, _, _, o2⟩, ?_⟩
  have e0 := I2.env0
  have C := CellsAt.up L.cells I2.bs
  obtain ⟨⟨oc, vv, tt, hoc, hdc, hvc⟩, _, _⟩ := I2.hok c' _ hc
  have lim : s2.heap.NoLimit := e0.mod.nolimit.keeps fun b o e => (e0.bs b o e).1
  have rc : codeAny (model X.prog X.w) X.A (.call (.ref f) ⟨us, []⟩) (CR C8.CX0 X.stack X.prog X.w H2 s2 Q C8.E0) s2 := by
    refine PySem.W.kla_callFunE hr.depth o2 rfl S.co S.gen rfl ⟨c', oc, vv, tt, rfl, hoc, hdc, hvc⟩ ?_
    rw [hb pm (.ref c') ctv us (by rw [← r.length]; exact hl)]
    refine wpAny_pure (wpAny_newFunctionEnv S.nocell (fun ⟨n, _⟩ hy => S.par n (List.of_mem_zip hy).1) (fun h₁ hns hsb => ⟨lim.fresh _ hsb, ?_⟩) S.kind)
    show codeAny _ _ (.expr body (envF (lamNF q params scope cl c') f s2.heap.objs.size)) _ _
    have kp : ∀ b o, s2.heap.get? b = some o → h₁.get? b = some o := fun b o e => hsb.extBut b o (Nat.ne_of_lt (Heap.lt_size e)) (Heap.get?_push_of_some _ e)
    have J : Inv (ncx C8.CX0 X.prog X.w X.K X.mg X.base N (lamNF q params scope cl c') f X.A X.stack s2 H2 C8.E0) [] (startF N vs ws) H2 { s2 with heap := h₁, toks := s2.toks + (ps.zip us).length } := inv_startN S hr.hd e0 hl r C hns kp
    refine PySem.W.kla_codeExpr (wpAny_mono ((hbody _ _ s2 H2 (hr.deeper _)).run [] _ _ H2 Q J hq0) (fun v s' hq => ?_) fun e s' hq => hq)
    obtain ⟨w', H', J', rv, q⟩ := hq
    exact ⟨w', H', J'.os, J'.bare, J'.base, J'.hok, rv, q⟩
  refine wpAny_call (codeAny_mono rc fun r s3 hq => ?_)
  cases r with
  | error e => exact (show False from hq).elim
  | ok fl =>
    cases fl with
    | ret u => exact I2.after hq
    | next => exact False.elim hq
    | brk => exact False.elim hq
    | cont => exact False.elim hq
/-- x(e1, lambda ..): the def x's promise sp, told of what the lambda captured -/
theorem pe_lam2 {X : Cx} {x a1 a2 : Str} {g c P : Addr} {gd : FuncData} {k : Nat} {T : List (Addr × Str)} {e1 : Expr} {t1 : TE} {params : Arguments} {body : Expr} {scope : Scope} {fr : List Str} {js : List Nat} {p lpos pos : Pos} {sp : Addr → List (Option V) → Sp}
    (hg : Gl X x) (hm : X.mg x = some (.ref g)) (hk : PySem.W.keepIn X.K (.ref g) = true) (hb : L2.Binds X.K gd [a1, a2] [])
    (hF : ∀ (base' : Heap) (f c' : Addr) (ws : List (Option V)), Up X.K X.mg X.base base' → LamIn base' f c' (X.env.qual ++ "<lambda>") params body scope (cloFrom X.env.cells scope.names []) fr ws → FnOk X.prog X.w X.K X.mg base' C8.CX0 k g gd [a1, a2] (fun vs H Q E => ∃ v, vs = [v, .ref f] ∧ sp c' ws [v] H Q E))
    (TB : TabB X.base X.mg c P) (hcode : X.env.code = .ref c) (hmT : (P, X.env.qual ++ "<lambda>") ∈ T) (hu : ∀ p ∈ T, p.1 = P → p.2 = X.env.qual ++ "<lambda>") (hr : Room k X.A)
    (hdef : defaultsOf params X.env = ([], [])) (hfn : ∀ y, X.fn y = true) (hfree : ∀ y ∈ scope.names, y.2 = .free → X.env.scope.names.lookup y.1 = some .cell ∨ X.env.scope.names.lookup y.1 = some .free)
    (hfr : ∀ y ∈ fr, (y, NameKind.free) ∈ scope.names) (hjs : js.map (fun j => X.N[j]?) = fr.map some) (h1 : PE X e1 t1) (hdb : (x == ("__debug__" : Str)) = false := by decide)
    (he : starEach [e1, .Lambda params body scope lpos] X.env = (false, eval e1 X.env) :: starEach [.Lambda params body scope lpos] X.env := by rfl) (hpl : (backTo pos (starEach [.Lambda params body scope lpos] X.env)).any (·.1) = false := by rfl) :
    PE X (.Call (.Name x p) [e1, .Lambda params body scope lpos] [] pos) (fun σ H Q => t1 σ H fun v H1 => Tabs T H1 ∧ ∀ (c' : Addr) (H2 : Hp), ExtN H1 H2 → Tabs T H2 → H2 c' = some (CodeO c' (X.env.qual ++ "<lambda>")) → sp c' (js.map (slotAt σ)) [v] H2 Q C8.E0) := by
  refine ⟨fun pins s σ H Q I h => ?_⟩
  refine wpAny_Call_Name_kw (ld_glob I hg hm ?_ hdb)
  refine PySem.W.callWith_K (h₀ := X.base) I.ok.mod.kin hk ?_ he hpl
  rw [he]
  refine Calls.spliced_cons (x := eval e1 X.env) (rest := backTo pos (starEach [.Lambda params body scope lpos] X.env)) (thn (h1.run pins s σ H _ I h) fun u1 s1 ⟨v1, H1, I1, r1, hT, q1⟩ => ?_)
  show wpAny _ _ (spliced ((false, eval (.Lambda params body scope lpos) X.env) :: backTo pos (starEach [] X.env))) _ _ s1
  have hh : ∀ y ∈ scope.names, y.2 = .free → ∃ c, X.env.cells.lookup y.1 = some c := fun y hy e => (hfree y hy e).elim (fun z => I.ok.has _ (.inl z)) fun z => I.ok.has _ (.inr z)
  refine Calls.spliced_cons (lam_make2 I1 TB hcode hmT hu hT hdef hh fun f c' pm' ctv H2 s2 I2 eN T2 hf hfF hfr' hco => ?_)
  refine Calls.spliced_nil ⟨I2.kIn, ?_⟩
  have cp : Caps X (cloFrom X.env.cells scope.names []) fr js := Caps.made I.ok hfree hfr hjs
  have C := cells_of I2 cp
  have cl_c : ∀ {y : Str} {c : Addr}, (cloFrom X.env.cells scope.names []).lookup y = some c → X.env.cells.lookup y = some c := fun e => clo_cm hh e
  have cellL : ∀ {b : Addr}, b ∈ (cloFrom X.env.cells scope.names []).filterMap (fun p => (cloFrom X.env.cells scope.names []).lookup p.1) → ∃ y, X.env.cells.lookup y = some b := fun m => by
    obtain ⟨p, _, e⟩ := List.mem_filterMap.mp m
    exact ⟨p.1, cl_c e⟩
  have isf : ∀ b ∈ frs X.stack, b ∉ (cloFrom X.env.cells scope.names []).filterMap (fun p => (cloFrom X.env.cells scope.names []).lookup p.1) := fun b hb m => by
    obtain ⟨y, e⟩ := cellL m
    obtain ⟨v, o, ho, hd⟩ := I2.cell y b e
    rcases List.mem_cons.mp (I2.stkSub _ hb) with z | z
    · obtain ⟨m0, hn, _⟩ := I2.loc
      obtain ⟨o', es, ep, ho', hd', _⟩ := hn
      rw [← z, ho] at ho'
      cases ho'
      rw [hd] at hd'
      cases hd'
    · have h1 := I.ok.cab y b (hfn y) e
      obtain ⟨_, o', ho', _⟩ := I.ok.funs.mem z
      exact absurd (Nat.lt_of_lt_of_le (Heap.lt_size ho') h1) (Nat.lt_irrefl _)
  have memL : ∀ {y : Str} {c : Addr}, (cloFrom X.env.cells scope.names []).lookup y = some c → c ∈ (cloFrom X.env.cells scope.names []).filterMap (fun p => (cloFrom X.env.cells scope.names []).lookup p.1) := fun {y c} e =>
    List.mem_filterMap.mpr ⟨(y, c), PySem.mem_of_lookup e, e⟩
  obtain ⟨up, e0⟩ := env0_keep I2.env0 (f :: (cloFrom X.env.cells scope.names []).filterMap (fun p => (cloFrom X.env.cells scope.names []).lookup p.1)) (fun b m => by
    rcases List.mem_cons.mp m with rfl | m
    · exact ⟨hfF, hfr'⟩
    · obtain ⟨y, e⟩ := cellL m
      exact ⟨I2.freeC y b e, fun z => isf b z m⟩)
  have cellB : ∀ {c : Addr} {v : Option Value}, c ∈ (cloFrom X.env.cells scope.names []).filterMap (fun p => (cloFrom X.env.cells scope.names []).lookup p.1) → s2.heap.IsCell c v → (keepAt s2.heap X.base (f :: (cloFrom X.env.cells scope.names []).filterMap (fun p => (cloFrom X.env.cells scope.names []).lookup p.1))).IsCell c v := fun m ⟨o, ho, hd⟩ =>
    ⟨o, by rw [keepAt_in (.inl (List.mem_cons_of_mem _ m))]; exact ho, hd⟩
  have L : LamIn (keepAt s2.heap X.base (f :: (cloFrom X.env.cells scope.names []).filterMap (fun p => (cloFrom X.env.cells scope.names []).lookup p.1))) f c' (X.env.qual ++ "<lambda>") params body scope (cloFrom X.env.cells scope.names []) fr (js.map (slotAt σ)) := by
    refine ⟨⟨pm', ctv, by rw [keepAt_in (.inl (List.mem_cons_self ..))]; exact hf⟩, C.len, fun y c e => ?_, C.inj, fun i y e => ?_⟩
    · obtain ⟨_, v, q⟩ := C.all y c e
      exact ⟨rfl, v, cellB (memL e) q⟩
    · obtain ⟨c, e1, e2⟩ := C.has i y e
      refine ⟨c, e1, fun v h => ?_⟩
      obtain ⟨u, r, q⟩ := e2 v h
      exact ⟨u, r, cellB (memL e1) q⟩
  have F := hF _ f c' _ up L
  have rc : codeAny (model X.prog X.w) X.A (.call (.ref g) ⟨[u1, .ref f], []⟩) (CR C8.CX0 X.stack X.prog X.w H2 s2 Q C8.E0) s2 :=
    F.run X.A X.stack s2 H2 ⟨[u1, .ref f], []⟩ [u1, .ref f] [v1, .ref f] Q C8.E0 hr e0 (by simpa using hb s2 [u1, .ref f] I2.kIn rfl) (.cons r1 (.cons rfl .nil)) ⟨v1, rfl, q1 c' H2 eN T2 hco⟩
  refine wpAny_call (codeAny_mono rc fun r s3 hq => ?_)
  cases r with
  | error e => exact (show False from hq).elim
  | ok fl =>
    cases fl with
    | ret u => exact I2.after hq
    | next => exact False.elim hq
    | brk => exact False.elim hq
    | cont => exact False.elim hq
end K14.Gn
namespace K14.Gn
open PySem PySem.W PySem.Calls PyProof.Rows L2 LamX
open Kz (noE)
/-- [i for i in range(n) if ..] -/
theorem lc_rngIf {K : Frag} {k n : Nat} {σ : L2.St} {H : Hp} {ta : TA} {tt : TT} {te : TE} {vs : List Nat} (b : Nat → Bool) {Q : VK} (ht : ∀ R : List V → Hp → Prop, R [.int (n : Nat)] H → ta σ H R) (n1 : n ≤ 100000) (hw : ∀ y : V, wipe ((wipe σ vs).set k (some y)) vs = wipe σ vs)
    (hs : ∀ (i : Nat) (G : Hp) (R : Bool → Hp → Prop), i < n → L2.Same H G → (∀ G', L2.Same G G' → R (b i) G') → tt ((wipe σ vs).set k (some (.int (0 + (i : Nat))))) G R)
    (he : ∀ (i : Nat) (G : Hp) (Q' : VK), Q' (.int (i : Nat)) G → te ((wipe σ vs).set k (some (.int (0 + (i : Nat))))) G Q')
    (hq : ∀ (G : Hp) (D : Addr), L2.Same H G → H D = none → G D = some (.lst (((List.range n).filter b).map fun i => V.int (i : Nat))) → Q (.ref D) G) : tLc (iRng1 ta) (gName k) tt te vs σ H Q := by
  refine ht _ ⟨(n : Nat), rfl, by omega, by omega, fun D hD => lc_acc (S := []) walk_range (fun b h => nomatch h) hD (by omega) (fun _ _ => trivial) (fun i ys _ => ys = ((List.range i).filter b).map fun i => V.int (i : Nat)) (fun i ys G G' e _ => e) rfl (fun i v G1 G2 ys Qy Qn hi s1 insG a y ky kn => ?_) (fun G ys s1 hA a => ?_)⟩
  · obtain ⟨rfl, rfl⟩ := y
    refine gset ⟨hw _, hs i _ _ (by omega) s1 fun G' s' => ?_⟩
    have er : ((List.range (i + 1)).filter b).map (fun i => V.int ((i : Nat) : Int)) = ys ++ (if b i = true then [V.int (i : Nat)] else []) := by
      rw [a, List.range_succ, List.filter_append, List.map_append]
      cases q : b i with
      | true => simp [q]
      | false => simp [q]
    cases q : b i with
    | true =>
      rw [q, if_pos rfl] at er
      show (if true = true then _ else _)
      rw [if_pos rfl]
      exact he i _ _ (ky _ _ s' er.symm)
    | false =>
      rw [q, if_neg Bool.false_ne_true, List.append_nil] at er
      show (if false = true then _ else _)
      rw [if_neg Bool.false_ne_true]
      exact kn _ s' er.symm
  · rw [a] at hA
    exact hq G D s1 hD (by simpa using hA)
end K14.Gn
namespace K14.T5
open T27 T3
open K14.Gn
open PySem PySem.W PySem.Calls PyProof.Rows L2 LamX NdefX
open He (ga)
open Kz (SS ExtS ExtS.trans small4 same_new boot_in boot_li boot_isi Has pe_has noE PSs.of_eq seqI new_ext X1 shaped_int dpAll_int)
/-! ### _law_first_odd, told of a lambda -/
abbrev sFo : Stmt := topS 42
abbrev NFo : List Str := ["thing", "is_right", "odd", "at"]
theorem scFo : FnScope NFo ["thing", "is_right"] (defScope sFo) := ⟨rfl, rfl, rfl, by decide +kernel, rfl, by decide +kernel, by decide +kernel⟩
theorem bdFo : defBody sFo = [stOf sFo 0, stOf sFo 1, stOf sFo 2] := by rfl
def scAsg : Stmt → Scope
  | .Assign _ (.ListComp _ _ sc _) _ => sc
  | _ => default
/-- the first place where b is not so, -1 if there is none -/
def foI (b : Nat → Bool) (n : Nat) : Int := match (List.range n).filter fun i => !b i with
  | [] => -1
  | i :: _ => (i : Nat)
section
variable {P : Program} {w : World} {K : Frag} {mg : Str → Option Value} {base : Heap}
def spFo (tb : TE) (N : List Str) (q : Str) (c' : Addr) (ws : List (Option V)) : Sp := fun vs H Q _ => ∃ (v : V) (d : PyData) (b : Nat → Bool), vs = [v] ∧ Th H v d ∧ (its d).length ≤ 100000 ∧ H c' = some (CodeO c' q) ∧
  (isL d = true → ∀ (i : Nat) (G : Hp) (R : VK), i < (its d).length → L2.Same H G → (∀ G', L2.Same G G' → R (.bl (b i)) G') → tb (startF N [v, .int (i : Nat)] ws) G R) ∧
  ∀ H', L2.Same H H' → Q (.int (if isL d = true then foI b (its d).length else 0)) H'
theorem ok_fo {q : Str} {params : Arguments} {body : Expr} {scope : Scope} {cl : List (Str × Addr)} {N ps fr : List Str} {ws : List (Option V)} {tb : TE} {f c' g : Addr} {gd : FuncData} (F : FunD K "_law_first_odd" "_law_first_odd" (defArgs sFo) (defBody sFo) (defScope sFo) [] [] g gd) (B : LwK mg) (mr : mg "range" = none)
    (L : LamIn base f c' q params body scope cl fr ws) (S : NScope N ps fr scope) (lps : ps.length = 2) (hb : ∀ (pm cv ctv : Value) (us : List Value), us.length = ps.length → bindArgs (PySem.W.kla_fn "<lambda>" q params body scope cl pm cv ctv) ⟨us, []⟩ = pure (ps.zip us)) {k : Nat}
    (hbody : ∀ (A : Around) (outer : List Env) (s : Shared) (H : Hp), Room k (A.deeper (envF (lamNF q params scope cl c') f s.heap.objs.size)) → PE (ncx C8.CX0 P w K mg base N (lamNF q params scope cl c') f A outer s H C8.E0) body tb) :
    FnOk P w K mg base CX0 (k + 2) g gd ["thing", "is_right"] (fun vs H Q E => ∃ v, vs = [v, .ref f] ∧ spFo tb N q c' ws [v] H Q E) := by
  refine F.ok scFo (fun vs H Q E h => ?_) (fun cdv A outer s H vs Q XE hr h => ?_)
  · obtain ⟨v, rfl, _⟩ := h
    rfl
  · obtain ⟨v, rfl, v', d, b, e, hv, len, hc, hl, kk⟩ := h
    cases e
    have hu : (XC P w K mg base NFo "_law_first_odd" sFo g cdv A outer s H XE).A.units + 64 < cLine := hr.units
    have h0 : PS (XC P w K mg base NFo "_law_first_odd" sFo g cdv A outer s H XE) (stOf sFo 0) _ := ps_if (pt_not (pt_val (pe_callB call_isiT (by rfl) B.isi boot_isi (pa_cons (pv 0) (pa_cons (pe_tup (pa_cons (pe_bltn (by rfl) B.list boot_li (v := .ty "list") rfl) (pa_cons (pe_bltn (by rfl) B.tuple boot_tu (v := .ty "tuple") rfl) pa_nil))) pa_nil))))) (pss_one (ps_ret pe_int)) pss_nil
    have h1 : PS (XC P w K mg base NFo "_law_first_odd" sFo g cdv A outer s H XE) (stOf sFo 1) _ := ps_setLc (i := 2) (X := XC P w K mg base NFo "_law_first_odd" sFo g cdv A outer s H XE) (scope := scAsg (stOf sFo 1)) (own := [("at", 3)]) (g := gName 3)
      (tt := tNot (tB (fun σ H Q => σ[1]? = some (some (.ref f)) ∧ (tCons (tVar 0) (tCons (tVar 3) tNil)) σ H fun vs H1 => vs.length = ps.length ∧ H1 c' = some (CodeO c' q) ∧ tb (startF N vs ws) H1 Q)))
      (te := tVar 3) rfl scFo.nd rfl rfl (sw_true rfl rfl rfl (by decide +kernel)) (pi_range1 (by rfl) mr (pa_cons (pe_callB call_len_seq (by rfl) B.len boot_len (pa_cons (pv 0) pa_nil)) pa_nil)) (blkOk_by (N := NFo) (sc := defScope sFo) (by decide +kernel)) (fun _ _ _ _ _ => pg_name (i := 3) scFo.nd rfl (Or.inl rfl))
      (fun s0 H0 C0 cl0 fp0 => pts_one (by exact pt_not (pt_val (pe_callLam (X := Cx.blk (XC P w K mg base NFo "_law_first_odd" sFo g cdv A outer s H XE) s0 H0 (scAsg (stOf sFo 1)) (compEnvC (scAsg (stOf sFo 1)) cl0 C0 (Cx.env (XC P w K mg base NFo "_law_first_odd" sFo g cdv A outer s H XE))) fp0) (i := 1) L S hb hbody hr (by rfl) (by first | exact Or.inl rfl | exact Or.inr (Or.inl rfl) | exact Or.inr (Or.inr rfl)) (pa_cons (pv 0) (pa_cons (pv 3) pa_nil))))))
      (fun s0 H0 C0 cl0 fp0 => by exact pv 3)
    have h2 : PS (XC P w K mg base NFo "_law_first_odd" sFo g cdv A outer s H XE) (stOf sFo 2) _ := ps_ret (pe_ifExp (pt_cmpR (op_neD hu) (pv 2) (pe_lst pa_nil) (nomark _)) (pe_ix ix_seq (pv 2) pe_int (fun _ _ => rfl)) (pe_un un_neg pe_int))
    refine ⟨_, PSs.nox (PSs.of_eq bdFo (pss_cons h0 (pss_cons h1 (pss_one h2)))), ?_⟩
    clear h0 h1 h2 hu
    refine T3.if_intro (not_in (b_in ⟨v, rfl, small4 2, fun p np => ⟨v, p, _, _, _, _, rfl, upd_same, .cons (.ty _) (.cons (.ty _) .nil), (hv.ext (same_new np)).ty, is_lt d, _, rfl, ?_⟩⟩))
    have s1 : L2.Same H (upd H p (.tup [.ty "list", .ty "tuple"])) := same_new np
    cases l : isL d with
    | false =>
      rw [l, if_neg Bool.false_ne_true] at kk
      exact iteT (kk _ s1)
    | true =>
      rw [l, if_pos rfl] at kk
      have hv1 := hv.ext s1
      refine iteF (nx_intro (T69.asg_intro ?_))
      refine lc_rngIf (K := K) (n := (its d).length) (fun i => !b i) (fun R h => ?_) len (fun _ => rfl) (fun i G R hi s2 kR => ?_) (fun i G Q' h => ⟨_, rfl, by simpa using h⟩) fun G D s2 nD hD => ?_
      · exact ev_len (K := K) (rds_var (i := 0) rfl hv1) l h
      · refine not_in (b_in ⟨rfl, v, rfl, .int (0 + (i : Nat)), rfl, by rw [lps]; rfl, s2 _ _ (s1 _ _ hc), ?_⟩)
        rw [Int.zero_add]
        exact hl l i G _ hi (s1.trans s2) fun G' s' => ⟨b i, rfl, kR G' s'⟩
      · refine gset ?_
        have hz : G D = some (.lst ((((List.range (its d).length).filter fun i => !b i).map fun i => ((i : Nat) : Int)).map V.int)) := by
          rw [hD, List.map_map]
          rfl
        refine ret_intro (iff_in (tst_in ⟨.ref D, rfl, small4 0, fun q nq => ⟨_, .list [], .lst (.inl (.inl (same_new nq _ _ hz))) (dpAll_int _), .lst (.inl (.inl upd_same)) .nil, shaped_int _, rfl, _, rfl, ?_⟩⟩))
        have s3 := (s1.trans s2).trans (same_new (o := .lst []) nq)
        have hz3 := same_new (o := .lst []) nq _ _ hz
        unfold foI at kk
        cases e : (List.range (its d).length).filter fun i => !b i with
        | nil =>
          rw [e] at kk
          exact iteF ⟨1, rfl, kk _ s3⟩
        | cons i r =>
          rw [e] at kk hz3
          exact iteT ⟨.ref D, rfl, ix_any2 (i := 0) (.inl hz3) rfl (kk _ s3)⟩
end
end K14.T5
namespace K14.T5
open T27 T3
open K14.Gn
open PySem PySem.W PySem.Calls PyProof.Rows L2 LamX NdefX
open He (ga)
open Kz (SS ExtS ExtS.trans small4 same_new boot_in boot_li boot_isi Has pe_has noE PSs.of_eq seqI new_ext X1 shaped_int dpAll_int)
/-! ### _law_is_item -/
abbrev sLi : Stmt := topS 52
abbrev NLi : List Str := ["thing", "known", "wires", "name"]
theorem scLi : FnScope NLi ["thing", "known"] (defScope sLi) := ⟨rfl, rfl, rfl, by decide +kernel, rfl, by decide +kernel, by decide +kernel⟩
theorem bdLi : defBody sLi = [stOf sLi 0, stOf sLi 1, stOf sLi 2, stOf sLi 3, stOf sLi 4] := by rfl
def scRetC : Stmt → Scope
  | .Return (some (.BoolOp _ [_, .Call _ [.ListComp _ _ sc _] _ _] _)) _ => sc
  | _ => default
def ifB (s : Stmt) (i : Nat) : Stmt := match s with
  | .If _ b _ _ => b.getD i (.Pass ⟨0, 0, 0, 0⟩)
  | _ => .Pass ⟨0, 0, 0, 0⟩
def liSc1 : Scope := scRetC (ifB (stOf sLi 2) 1)
def liSc2 : Scope := scRetC (ifB (stOf sLi 3) 0)
theorem txt1 (s t : Str) : txtIn [s] (.str t) = decide (t = s) := by
  show ((s == t) || false) = _
  rw [Bool.or_false, Bool.eq_iff_iff, beq_iff_eq, decide_eq_true_eq]
  exact eq_comm
def itL (ah : Str → Option Nat) : List PyData → Bool
  | [.str t, b, c] => if (decide (t = "use") && (nameB b && isL c)) = true then decide (ah (strD b) = some (its c).length) && (its c).all nameB else if decide (t = "join") = true then [b, c].all nameB else false
  | [.str t] => decide (t = "loop")
  | _ => false
def useQ : List PyData → Bool
  | [.str t, b, c] => decide (t = "use") && (nameB b && isL c)
  | _ => false
theorem nm_str {b : PyData} (h : nameB b = true) : b = .str (strD b) := by
  cases b with
  | str s => rfl
  | _ => cases h
theorem no_txt {a : PyData} (h : isSt a = false) (b c : PyData) (ah : Str → Option Nat) : useM [a, b, c] = false ∧ joinM [a, b, c] = false ∧ loopM [a] = false ∧ itL ah [a, b, c] = false ∧ itL ah [a] = false := by
  refine ⟨?_, ?_, ?_, ?_, ?_⟩
  · show (txtIn ["use"] a && _) = false
    rw [st_txt h]
    rfl
  · show (txtIn ["join"] a && _) = false
    rw [st_txt h]
    rfl
  · exact st_txt h _
  · cases a with
    | str t => cases h
    | _ => rfl
  · cases a with
    | str t => cases h
    | _ => rfl
theorem item_law (ah : Str → Option Nat) (d : PyData) : itemB ah d = (cellB d || (isL d && itL ah (its d))) := by
  unfold itemB cellB useB joinB
  cases l : isL d with
  | false => rfl
  | true =>
    rw [Bool.true_and, Bool.true_and, Bool.true_and]
    match its d with
    | [] => rfl
    | [a] =>
      show (if (false : Bool) = true then _ else (false || (false || loopM [a]))) = (false || itL ah [a])
      rw [if_neg Bool.false_ne_true, Bool.false_or, Bool.false_or, Bool.false_or]
      cases q : isSt a with
      | false => rw [(no_txt q .none .none ah).2.2.1, (no_txt q .none .none ah).2.2.2.2]
      | true =>
        cases a with
        | str t => exact txt1 _ _
        | _ => cases q
    | [a, b] =>
      show (if (false : Bool) = true then _ else (cellM [a, b] || (false || false))) = (cellM [a, b] || itL ah [a, b])
      rw [if_neg Bool.false_ne_true]
      cases a <;> rfl
    | [a, b, c] =>
      show (if useM [a, b, c] = true then fitM ah [a, b, c] else (false || (joinM [a, b, c] || false))) = (false || itL ah [a, b, c])
      rw [Bool.false_or, Bool.or_false, Bool.false_or]
      cases q : isSt a with
      | false =>
        obtain ⟨h1, h2, _, h3, _⟩ := no_txt q b c ah
        rw [h1, h2, h3, if_neg Bool.false_ne_true]
      | true =>
        cases a with
        | str t =>
          have eu : useM [.str t, b, c] = (decide (t = "use") && (nameB b && (isL c && (its c).all nameB))) := by
            show (txtIn ["use"] (.str t) && _) = _
            rw [txt1]
            rfl
          have ej : joinM [.str t, b, c] = (decide (t = "join") && [b, c].all nameB) := by
            show (txtIn ["join"] (.str t) && _) = _
            rw [txt1]
          have ei : itL ah [.str t, b, c] = (if (decide (t = "use") && (nameB b && isL c)) = true then decide (ah (strD b) = some (its c).length) && (its c).all nameB else if decide (t = "join") = true then [b, c].all nameB else false) := rfl
          rw [eu, ej, ei]
          by_cases tu : t = "use"
          · have tj : decide (t = "join") = false := by rw [tu]; rfl
            rw [decide_eq_true tu, tj, Bool.true_and, Bool.true_and, Bool.false_and, if_neg Bool.false_ne_true]
            cases qb : nameB b with
            | false => rfl
            | true =>
              rw [nm_str qb]
              cases qc : isL c with
              | false => rfl
              | true =>
                cases qa : (its c).all nameB with
                | false => simp [qa]
                | true =>
                  simp [qa, fitM, strD]
                  rfl
          · rw [decide_eq_false tu, Bool.false_and, Bool.false_and, if_neg Bool.false_ne_true, if_neg Bool.false_ne_true]
            by_cases tj : t = "join"
            · rw [decide_eq_true tj, if_pos rfl, Bool.true_and]
            · rw [decide_eq_false tj, if_neg Bool.false_ne_true, Bool.false_and]
        | _ => cases q
    | [a, b, c, e] =>
      show (if (false : Bool) = true then _ else (cellM [a, b, c, e] || (false || false))) = (cellM [a, b, c, e] || itL ah [a, b, c, e])
      rw [if_neg Bool.false_ne_true]
      cases a <;> rfl
    | a :: b :: c :: e :: f :: r =>
      show (if (false : Bool) = true then _ else (false || (false || false))) = (false || itL ah (a :: b :: c :: e :: f :: r))
      rw [if_neg Bool.false_ne_true]
      cases a <;> rfl
section
variable {P : Program} {w : World} {K : Frag} {mg : Str → Option Value} {base : Heap}
theorem ok_li {f : Addr} {fd : FuncData} (F : FunD K "_law_is_item" "_law_is_item" (defArgs sLi) (defBody sLi) (defScope sLi) [] [] f fd) (LN : Has P w K mg base "_law_is_name" 1 ["thing"] spNm) (LC : Has P w K mg base "_law_is_cell" 2 ["thing"] (spIt cellB)) (B : LwK mg) : FnOk P w K mg base CX0 3 f fd ["thing", "known"] spIm := by
  refine F.ok scLi (fun vs H Q E h => ?_) (fun cdv A outer s H vs Q XE hr h => ?_)
  · obtain ⟨v, d, p, ah, rfl, _⟩ := h
    rfl
  · obtain ⟨v, d, p, ah, rfl, hv, ok, hp, k⟩ := h
    obtain ⟨o1, o2⟩ := okIt_at ok
    have hu : (XC P w K mg base NLi "_law_is_item" sLi f cdv A outer s H XE).A.units + 64 < cLine := hr.units
    have hu1 : (XC P w K mg base NLi "_law_is_item" sLi f cdv A outer s H XE).A.units + 1 < cLine := by omega
    have h0 : PS (XC P w K mg base NLi "_law_is_item" sLi f cdv A outer s H XE) (stOf sLi 0) _ := ps_if (pt_val (pe_has LC (hr.mono (by decide)) (by rfl) (pa_cons (pv 0) pa_nil))) (pss_one (ps_ret pe_bl)) pss_nil
    have h1 : PS (XC P w K mg base NLi "_law_is_item" sLi f cdv A outer s H XE) (stOf sLi 1) _ := ps_if (PW.pt (pw_or (pt_not (pt_val (pe_callB call_isiT (by rfl) B.isi boot_isi (pa_cons (pv 0) (pa_cons (pe_tup (pa_cons (pe_bltn (by rfl) B.list boot_li (v := .ty "list") rfl) (pa_cons (pe_bltn (by rfl) B.tuple boot_tu (v := .ty "tuple") rfl) pa_nil))) pa_nil))))) (pw_or (pt_cmpR op_eq (pe_callB call_len_seq (by rfl) B.len boot_len (pa_cons (pv 0) pa_nil)) pe_int (nomark _)) (pw_or1 (pt_not (pt_val (pe_callB call_isi (by rfl) B.isi boot_isi (pa_cons (pe_ix ix_seq (pv 0) pe_int (fun _ _ => rfl)) (pa_cons (pe_bltn (by rfl) B.str boot_st (v := .ty "str") rfl) pa_nil))))))))) (pss_one (ps_ret pe_bl)) pss_nil
    have b0 : PS (XC P w K mg base NLi "_law_is_item" sLi f cdv A outer s H XE) (ifB (stOf sLi 2) 0) _ := ps_set (i := 2) scLi.nd rfl (.inl rfl) (pe_callTy call_list_of (by rfl) B.list boot_li (pa_cons (pe_ix ix_seq (pv 0) pe_int (fun _ _ => rfl)) pa_nil))
    have b1 : PS (XC P w K mg base NLi "_law_is_item" sLi f cdv A outer s H XE) (ifB (stOf sLi 2) 1) _ := ps_ret (pe_and (pe_cmpR op_eq (pe_dget2 hu1 (pv 1) (pe_ix ix_seq (pv 0) pe_int (fun _ _ => rfl)) (pe_un un_neg pe_int) ⟨rfl, rfl, rfl, rfl⟩) (pe_callB call_len_seq (by rfl) B.len boot_len (pa_cons (pv 2) pa_nil)) (nomark _)) (pe_one (pe_callB (cr_all rfl) (by rfl) B.all boot_all (pa_cons (pe_lc (X := XC P w K mg base NLi "_law_is_item" sLi f cdv A outer s H XE) (scope := liSc1) (own := [("name", 3)]) (g := gName 3) (tt := tYes)
      (te := tCall spNm [] noE (tCons (tVar 3) tNil)) rfl scLi.nd (pi_sq (pv 2)) (blkOk_by (N := NLi) (sc := defScope sLi) (by decide +kernel)) (fun _ _ _ _ _ => pg_name (i := 3) scLi.nd rfl (Or.inl rfl)) (fun _ _ _ _ _ => pts_nil)
      (fun s0 H0 C0 cl0 fp0 => by exact pe_has LN (hr.mono (by decide)) (by rfl) (pa_cons (pv 3) pa_nil))) pa_nil))))
    have h2 : PS (XC P w K mg base NLi "_law_is_item" sLi f cdv A outer s H XE) (stOf sLi 2) _ := ps_if (PW.pt (pw_and (pt_cmpR (op_eqP hu) (pe_ix ix_seq (pv 0) pe_int (fun _ _ => rfl)) pe_str (nomark _)) (pw_and (pt_cmpR op_eq (pe_callB call_len_seq (by rfl) B.len boot_len (pa_cons (pv 0) pa_nil)) pe_int (nomark _)) (pw_and (pt_val (pe_has LN (hr.mono (by decide)) (by rfl) (pa_cons (pe_ix ix_seq (pv 0) pe_int (fun _ _ => rfl)) pa_nil))) (pw_and1 (pt_val (pe_callB call_isiT (by rfl) B.isi boot_isi (pa_cons (pe_ix ix_seq (pv 0) pe_int (fun _ _ => rfl)) (pa_cons (pe_tup (pa_cons (pe_bltn (by rfl) B.list boot_li (v := .ty "list") rfl) (pa_cons (pe_bltn (by rfl) B.tuple boot_tu (v := .ty "tuple") rfl) pa_nil))) pa_nil)))))))))
      (pss_cons b0 (pss_one b1)) pss_nil
    have c0 : PS (XC P w K mg base NLi "_law_is_item" sLi f cdv A outer s H XE) (ifB (stOf sLi 3) 0) _ := ps_ret (pe_and (pe_cmpR op_eq (pe_callB call_len_seq (by rfl) B.len boot_len (pa_cons (pv 0) pa_nil)) pe_int (nomark _)) (pe_one (pe_callB (cr_all rfl) (by rfl) B.all boot_all (pa_cons (pe_lc (X := XC P w K mg base NLi "_law_is_item" sLi f cdv A outer s H XE) (scope := liSc2) (own := [("name", 3)]) (g := gName 3) (tt := tYes)
      (te := tCall spNm [] noE (tCons (tVar 3) tNil)) rfl scLi.nd (pi_sq (pe_slice (SlR.or sl_list sl_tupA) (pv 0) (po_some pe_int) po_none)) (blkOk_by (N := NLi) (sc := defScope sLi) (by decide +kernel)) (fun _ _ _ _ _ => pg_name (i := 3) scLi.nd rfl (Or.inl rfl)) (fun _ _ _ _ _ => pts_nil)
      (fun s0 H0 C0 cl0 fp0 => by exact pe_has LN (hr.mono (by decide)) (by rfl) (pa_cons (pv 3) pa_nil))) pa_nil))))
    have h3 : PS (XC P w K mg base NLi "_law_is_item" sLi f cdv A outer s H XE) (stOf sLi 3) _ := ps_if (pt_cmpR (op_eqP hu) (pe_ix ix_seq (pv 0) pe_int (fun _ _ => rfl)) pe_str (nomark _)) (pss_one c0) pss_nil
    have h4 : PS (XC P w K mg base NLi "_law_is_item" sLi f cdv A outer s H XE) (stOf sLi 4) _ := ps_ret (pe_and (pe_cmpR (op_eqP hu) (pe_ix ix_seq (pv 0) pe_int (fun _ _ => rfl)) pe_str (nomark _)) (pe_one (pe_cmpR op_eq (pe_callB call_len_seq (by rfl) B.len boot_len (pa_cons (pv 0) pa_nil)) pe_int (nomark _))))
    refine ⟨_, PSs.nox (PSs.of_eq bdLi (pss_cons h0 (pss_cons h1 (pss_cons h2 (pss_cons h3 (pss_one h4)))))), ?_⟩
    clear h0 h1 h2 h3 h4 b0 b1 c0 hu hu1
    refine T3.if_intro (b_in ⟨v, rfl, v, d, rfl, hv, ok, fun H1 s1 => ⟨_, rfl, ?_⟩⟩)
    rw [item_law] at k
    cases qc : cellB d with
    | true =>
      rw [qc] at k
      exact iteT (k H1 s1)
    | false =>
      rw [qc, Bool.false_or] at k
      have hv1 := hv.ext s1
      refine iteF (nx_intro (ifS_intro (or_in (not_in (b_in ⟨v, rfl, small4 2, fun q nq => ⟨v, q, _, _, _, _, rfl, upd_same, .cons (.ty _) (.cons (.ty _) .nil), (hv1.ext (same_new nq)).ty, is_lt d, _, rfl, ?_⟩⟩)))))
      have s2 : L2.Same H1 (upd H1 q (.tup [.ty "list", .ty "tuple"])) := same_new nq
      have S2 := s1.trans s2
      cases l : isL d with
      | false =>
        rw [l] at k
        exact iteT (iteT (k _ S2))
      | true =>
        rw [l, Bool.true_and] at k
        have hv2 := hv1.ext s2
        refine iteF (or_in (tst_in (ev_len (K := K) (rds_var (i := 0) rfl hv2) l ⟨rfl, _, rfl, ?_⟩)))
        show (if decide (V.int (((its d).length : Nat) : Int) = V.int ((0 : Nat) : Int)) = true then _ else _)
        rw [len_dec]
        by_cases c0 : its d = []
        · rw [c0] at k ⊢
          exact iteT (iteT (k _ S2))
        · obtain ⟨a, r, eq⟩ : ∃ a r, its d = a :: r := by
            cases e : its d with
            | nil => exact absurd e c0
            | cons a r => exact ⟨a, r, rfl⟩
          have rd : ∀ {G : Hp} {σ : L2.St} {z : PyData} {n : Nat}, L2.Same H G → σ[0]? = some (some v) → (its d)[n]? = some z → Rds (tOp (rIx K) (tVar 0) (tC (.int (n : Nat)))) σ G z := fun s h0 e => rds_ix (rds_var h0 (hv.ext s)) l e
          rw [decide_eq_false (by rw [eq, List.length_cons]; omega)]
          refine iteF (not_in (b_in (rd (n := 0) S2 rfl (by rw [eq]; rfl) _ fun x tx => ⟨x, _, _, _, _, rfl, .ty _, tx.ty, is_st a, _, rfl, ?_⟩)))
          have ha := o2 a (by rw [eq]; simp)
          cases qa : isSt a with
          | false =>
            have e2 : itL ah (its d) = false := by
              rw [eq]
              unfold itL
              split
              · rename_i t b c e
                cases e
                cases qa
              · rename_i t e
                cases e
                cases qa
              · rfl
            rw [e2] at k
            exact iteT (k _ S2)
          | true =>
            obtain ⟨t, rfl⟩ : ∃ t, a = .str t := by
              cases a with
              | str t => exact ⟨t, rfl⟩
              | _ => cases qa
            have eqT : ∀ {σ : L2.St} {G : Hp} (u : Str) {Q' : VK}, L2.Same H G → σ[0]? = some (some v) → Q' (.bl (decide (t = u))) G → tOp rEqP (tOp (rIx K) (tVar 0) (tC (.int 0))) (tC (.str u)) σ G Q' := fun u _ s h0 kq => ev_eqT (rd (n := 0) s h0 (by rw [eq]; rfl)) rfl (by rw [txt1]; exact kq)
            have lenT : ∀ {σ : L2.St} {G : Hp} (m : Nat) {Q' : VK}, L2.Same H G → σ[0]? = some (some v) → Q' (.bl (decide ((its d).length = m))) G → tOp rEq (tCB (fun xs H Q => ∃ p ys, xs = [V.ref p] ∧ (SqL K H p ys ∨ SqT K H p ys) ∧ Q (.int (ys.length : Nat)) H) (tCons (tVar 0) tNil)) (tC (.int (m : Nat))) σ G Q' := fun m _ s h0 kq => T3.op_in (ev_len (K := K) (rds_var h0 (hv.ext s)) l ⟨rfl, by
              show _
              have e := len_dec (n := (its d).length) (m := m)
              rw [← e] at kq
              exact kq⟩)
            have chain : ∀ (G : Hp) (R : Bool → Hp → Prop), L2.Same H G → (∀ G', L2.Same G G' → R (useQ (its d)) G') → tAnd (tTest (tOp rEqP (tOp (rIx K) (tVar 0) (tC (.int 0))) (tC (.str "use")))) (tAnd (tTest (tOp rEq (tCB (fun xs H Q => ∃ p ys, xs = [V.ref p] ∧ (SqL K H p ys ∨ SqT K H p ys) ∧ Q (.int (ys.length : Nat)) H) (tCons (tVar 0) tNil)) (tC (.int 3)))) (tAnd (tB (tCall spNm [] noE (tCons (tOp (rIx K) (tVar 0) (tC (.int 1))) tNil))) (tB (tCB (rIsiT K) (tCons (tOp (rIx K) (tVar 0) (tC (.int 2))) (tCons (tTup (tCons (tC (.ty "list")) (tCons (tC (.ty "tuple")) tNil))) tNil)))))) (L2.start NLi [v, .ref p]) G R := fun G R sG kR => by
              refine and_in (tst_in (eqT "use" sG rfl ⟨_, rfl, ?_⟩))
              by_cases tu : t = "use"
              · rw [decide_eq_true tu]
                refine iteT (and_in (tst_in (lenT 3 sG rfl ⟨_, rfl, ?_⟩)))
                by_cases c3 : (its d).length = 3
                · rw [decide_eq_true c3]
                  obtain ⟨b, c, er⟩ : ∃ b c, r = [b, c] := by
                    rw [eq] at c3
                    match r, c3 with
                    | [b, c], _ => exact ⟨b, c, rfl⟩
                  have hb := o2 b (by rw [eq, er]; simp)
                  have eu : useQ (its d) = (nameB b && isL c) := by
                    rw [eq, er]
                    show (decide (t = "use") && _) = _
                    rw [decide_eq_true tu, Bool.true_and]
                  rw [eu] at kR
                  refine iteT (and_in (b_in (call_in (rd (n := 1) sG rfl (by rw [eq, er]; rfl) _ fun x tx => ⟨x, b, rfl, tx, (fun s e => Nat.le_trans (shS_str hb.2.1 e) (by decide)), fun G2 s3 => ⟨_, rfl, ?_⟩⟩))))
                  cases qb : nameB b with
                  | false =>
                    rw [qb] at kR
                    exact iteF (kR G2 s3)
                  | true =>
                    rw [qb, Bool.true_and] at kR
                    refine iteT (b_in (rd (n := 2) (sG.trans s3) rfl (by rw [eq, er]; rfl) _ fun x tx => ⟨small4 2, fun q nq => ⟨x, q, _, _, _, _, rfl, upd_same, .cons (.ty _) (.cons (.ty _) .nil), (tx.ext (same_new nq)).ty, is_lt c, _, rfl, kR _ (s3.trans (same_new nq))⟩⟩))
                · rw [decide_eq_false c3]
                  have eu : useQ (its d) = false := by
                    rw [eq] at c3 ⊢
                    match r, c3 with
                    | [], _ => rfl
                    | [_], _ => rfl
                    | [_, _], h => exact absurd rfl h
                    | _ :: _ :: _ :: _, _ => rfl
                  rw [eu] at kR
                  exact iteF (kR G fun _ _ e => e)
              · rw [decide_eq_false tu]
                have eu : useQ (its d) = false := by
                  rw [eq]
                  unfold useQ
                  split
                  · rename_i t' b c e
                    cases e
                    rw [decide_eq_false tu]
                    rfl
                  · rfl
                rw [eu] at kR
                exact iteF (kR G fun _ _ e => e)
            refine iteF (nx_intro (ifS_intro (chain _ _ S2 fun G3 s3 => ?_)))
            have S3 := S2.trans s3
            cases qu : useQ (its d) with
            | true =>
              obtain ⟨b, c, er, qb, qc2, tu⟩ : ∃ b c, r = [b, c] ∧ nameB b = true ∧ isL c = true ∧ t = "use" := by
                rw [eq] at qu
                unfold useQ at qu
                split at qu
                · rename_i t' b c e
                  cases e
                  obtain ⟨h1, h2⟩ := Bool.and_eq_true_iff.mp qu
                  obtain ⟨h2, h3⟩ := Bool.and_eq_true_iff.mp h2
                  exact ⟨b, c, rfl, h2, h3, of_decide_eq_true h1⟩
                · cases qu
              have hb := o2 b (by rw [eq, er]; simp)
              have hcc := o2 c (by rw [eq, er]; simp)
              obtain ⟨on1, on2⟩ := okNs_at hcc.2.2
              have ei : itL ah (its d) = (decide (ah (strD b) = some (its c).length) && (its c).all nameB) := by
                rw [eq, er]
                show (if (decide (t = "use") && (nameB b && isL c)) = true then _ else _) = _
                rw [decide_eq_true tu, qb, qc2]
                rfl
              rw [ei] at k
              refine iteT (T3.set_intro (i := 2) ?_)
              refine rd (n := 2) S3 rfl (by rw [eq, er]; rfl) _ fun x tx => ?_
              obtain ⟨ax, xs, rfl, rx, hx⟩ := tx.seq (K := K) qc2
              refine ⟨ax, xs, rfl, hx.elim (fun h => .inl (.inl (.inl h))) (fun h => .inr (.inl (.inl h))), fun D nD => ?_⟩
              have s4 := same_new (o := .lst xs) nD
              have S4 := S3.trans s4
              have hD := upd_same (H := G3) (a := D) (o := .lst xs)
              have tD : Th (upd G3 D (.lst xs)) (.ref D) (.list (its c)) := .lst hD (rx.ext s4)
              refine ret_intro (andV_in (T3.op_in ?_))
              obtain ⟨kvs, hk, lk, vk⟩ := (hp.ext S4).ex
              refine ⟨.ref p, rfl, p, rfl, .inl ⟨_, .inl hk⟩, ?_⟩
              refine rd (n := 1) S4 rfl (by rw [eq, er]; rfl) _ fun y ty => ?_
              rw [nm_str qb] at ty
              cases ty
              refine ⟨1, rfl, _, DGet.k (k := .inr (strD b)) hk, .ref D, rfl, D, xs, rfl, .inl (.inl (.inl hD)), ?_⟩
              have eD : decide ((valV kvs (.inr (strD b))).getD (V.int (-1)) = V.int (xs.length : Nat)) = decide (ah (strD b) = some (its c).length) := by
                rw [vk, rx.length]
                cases ah (strD b) with
                | none =>
                  rw [decide_eq_false (show ¬ (none : Option Nat) = some _ from fun z => by cases z)]
                  refine decide_eq_false fun z => ?_
                  have z : (-1 : Int) = (((its c).length : Nat) : Int) := V.int.inj z
                  omega
                | some m =>
                  rw [Bool.eq_iff_iff, decide_eq_true_eq, decide_eq_true_eq]
                  constructor
                  · intro z
                    have z : ((m : Nat) : Int) = (((its c).length : Nat) : Int) := V.int.inj z
                    have : m = (its c).length := by omega
                    rw [this]
                  · intro z
                    rw [Option.some.inj z]
                    rfl
              refine ⟨by rw [vk]; cases ah (strD b) <;> rfl, _, rfl, ?_⟩
              show (if decide ((valV kvs (.inr (strD b))).getD (V.int (-1)) = V.int (xs.length : Nat)) = true then _ else _)
              rw [eD]
              cases qd : decide (ah (strD b) = some (its c).length) with
              | false =>
                rw [qd] at k
                exact iteF (k _ S4)
              | true =>
                rw [qd, Bool.true_and] at k
                exact iteT (lc_all (K := K) (d := .list (its c)) nameB (fun R h => ⟨.ref D, rfl, h⟩) tD rfl (by show (its c).length ≤ _; omega) (fun _ => rfl) (fun j z x G Q' hz s tz kz => ⟨x, rfl, x, z, rfl, tz, (fun s e => Nat.le_trans (shS_str (on2 z (List.mem_of_getElem? hz)) e) (by decide)), fun G' s' => kz G' s'⟩) fun G1 s5 => k G1 (S4.trans s5))
            | false =>
              have ei : itL ah (its d) = if decide (t = "join") = true then decide ((its d).length = 3) && r.all nameB else decide (t = "loop") && decide ((its d).length = 1) := by
                rw [eq] at qu ⊢
                match r, qu with
                | [], qu =>
                  show decide (t = "loop") = if decide (t = "join") = true then false else (decide (t = "loop") && true)
                  rw [Bool.and_true]
                  by_cases tj : t = "join"
                  · rw [decide_eq_true tj, if_pos rfl, tj]
                    rfl
                  · rw [decide_eq_false tj, if_neg Bool.false_ne_true]
                | [b], _ =>
                  show false = if decide (t = "join") = true then false else (decide (t = "loop") && false)
                  rw [Bool.and_false]
                  split <;> rfl
                | [b, c], qu =>
                  show (if (decide (t = "use") && (nameB b && isL c)) = true then _ else if decide (t = "join") = true then [b, c].all nameB else false) = if decide (t = "join") = true then (true && [b, c].all nameB) else (decide (t = "loop") && false)
                  have qu : (decide (t = "use") && (nameB b && isL c)) = false := qu
                  rw [qu, if_neg Bool.false_ne_true, Bool.true_and, Bool.and_false]
                | b :: c :: e :: g, _ =>
                  have e3 : decide ((PyData.str t :: b :: c :: e :: g).length = 3) = false := decide_eq_false (by simp only [List.length_cons]; omega)
                  have e1 : decide ((PyData.str t :: b :: c :: e :: g).length = 1) = false := decide_eq_false (by simp only [List.length_cons]; omega)
                  rw [e3, e1, Bool.and_false, Bool.false_and]
                  show false = if decide (t = "join") = true then false else false
                  split <;> rfl
              rw [ei] at k
              refine iteF (nx_intro (ifS_intro (tst_in (eqT "join" S3 rfl ⟨_, rfl, ?_⟩))))
              cases tj : decide (t = "join") with
              | true =>
                rw [tj, if_pos rfl] at k
                refine iteT (ret_intro (andV_in (lenT 3 S3 rfl ⟨_, rfl, ?_⟩)))
                cases c3 : decide ((its d).length = 3) with
                | false =>
                  rw [c3] at k
                  exact iteF (k _ S3)
                | true =>
                  rw [c3, Bool.true_and] at k
                  have rl := reSeq_its d ((its d).drop 1)
                  refine iteT (lc_allG (K := K) (d := reSeq d ((its d).drop 1)) nameB (fun R h => ⟨v, rfl, 1, rfl, th_from (m := 1) (hv.ext S3) l (by rw [eq, List.length_cons]; omega) (fun y G' s' t => h y G' s' t)⟩) rl.2 (by rw [rl.1, List.length_drop]; omega) (fun _ => rfl) (fun j z x G' Q' hz s tz kz => ?_) fun G1 s4 => ?_)
                  · have mz : z ∈ its d := by
                      have := List.mem_of_getElem? hz
                      rw [rl.1] at this
                      exact List.mem_of_mem_drop this
                    exact ⟨x, rfl, x, z, rfl, tz, (fun s e => Nat.le_trans (shS_str (o2 z mz).2.1 e) (by decide)), fun G' s' => kz G' s'⟩
                  · have := k G1 (S3.trans s4)
                    rw [rl.1, eq]
                    exact this
              | false =>
                rw [tj, if_neg Bool.false_ne_true] at k
                refine iteF (nx_intro (ret_intro (andV_in (eqT "loop" S3 rfl ⟨_, rfl, ?_⟩))))
                cases tl : decide (t = "loop") with
                | false =>
                  rw [tl] at k
                  exact iteF (k _ S3)
                | true =>
                  rw [tl, Bool.true_and] at k
                  exact iteT (lenT 1 S3 rfl (k _ S3))
end
end K14.T5
namespace K14.Gn
open PySem PySem.W PySem.Calls PyProof.Rows L2 LamX
open Kz (same_new small4)
section
variable {J : It} {n : Nat} {Gd : Hp → Prop} {Y : Nat → Hp → V → Hp → Prop} {g : TG} {tt : TT} {te : TE} {vs : List Nat} {σ : L2.St} {H : Hp} {D : Addr} {Qd : Hp → Prop}
theorem cons_in {te : TE} {ta : TA} {σ : L2.St} {H : Hp} {Q : List V → Hp → Prop} (h : te σ H fun v H1 => ta σ H1 fun vs H2 => Q (v :: vs) H2) : tCons te ta σ H Q := h
/-- as lc_acc, of longer walks -/
theorem lc_accB (w : Walk J n Gd Y) (hD : H D = none) (len : n < 16000000) (hG : ∀ H', L2.Same H H' → Gd H') (A : Nat → List V → Prop) (A0 : A 0 [])
    (hs : ∀ (i : Nat) (x : V) (G1 G2 : Hp) (ys : List V) (Qy : V → Hp → Prop) (Qn : Hp → Prop), i < n → L2.Same H G1 → A i ys → Y i G1 x G2 →
      (∀ (y : V) (H4 : Hp), L2.Same G1 H4 → A (i + 1) (ys ++ [y]) → Qy y H4) → (∀ H3 : Hp, L2.Same G1 H3 → A (i + 1) ys → Qn H3) →
      g x (wipe σ vs) G2 fun σ2 H2 => wipe σ2 vs = wipe σ vs ∧ tt σ2 H2 fun b H3 => if b = true then te σ2 H3 Qy else Qn H3)
    (hq : ∀ (G : Hp) (ys : List V), L2.Same H G → G D = some (.lst ys) → A n ys → Qd G) :
    ∃ W : Nat → Nat → Hp → Prop, (∃ m, W 0 m (upd H D (.lst []))) ∧ ∀ i m H, W i m H →
      (J.stop i H ∧ Qd H) ∨ (J.go i H ∧ ∃ Nx : Hp → Prop, (∀ H', Nx H' → ∃ m', m' < m ∧ W (i + 1) m' H') ∧ ∀ x H', J.yld i H x H' → g x (wipe σ vs) H' fun σ2 H2 => wipe σ2 vs = wipe σ vs ∧ tt σ2 H2 fun b H3 =>
        if b = true then te σ2 H3 fun y H4 => ∃ acc, H4 D = some (.lst acc) ∧ acc.length < sizeLine ∧ Nx (upd H4 D (.lst (acc ++ [y]))) else Nx H3) := by
  refine lc_it w (fun i H2 => L2.Same H H2 ∧ ∃ ys, H2 D = some (.lst ys) ∧ ys.length ≤ i ∧ A i ys) ⟨same_new hD, [], upd_same, Nat.le_refl _, A0⟩ (fun i H2 _ e => hG _ e.1) (fun i x G1 G2 hi e y => ?_) (fun G e => ?_)
  · obtain ⟨s1, ys, hA, ly, a⟩ := e
    refine hs i x G1 G2 ys _ _ hi s1 a y (fun y H4 s4 a4 => ?_) (fun H3 s3 a3 => ⟨s1.trans s3, ys, s3 _ _ hA, by omega, a3⟩)
    refine ⟨ys, s4 _ _ hA, by rw [sizeLine_eq]; omega, fun b o e => ?_, ys ++ [y], upd_same, by rw [List.length_append, List.length_singleton]; omega, a4⟩
    rw [upd_ne (ne_of_none e hD)]
    exact s4 _ _ (s1 _ _ e)
  · obtain ⟨s1, ys, hA, ly, a⟩ := e
    exact hq G ys s1 hA a
end
/-- [x for x in a list if ..] -/
theorem lc_lstIf {K : Frag} {k : Nat} {a : Addr} {xs : List V} {σ : L2.St} {H : Hp} {tl te : TE} {tt : TT} {vs : List Nat} (b : V → Bool) {Q : VK} (ht : ∀ R : VK, R (.ref a) H → tl σ H R) (ha : H a = some (.lst xs)) (len : xs.length < 16000000) (hw : ∀ y : V, wipe ((wipe σ vs).set k (some y)) vs = wipe σ vs)
    (hs : ∀ (x : V) (G : Hp) (R : Bool → Hp → Prop), x ∈ xs → L2.Same H G → (∀ G', L2.Same G G' → R (b x) G') → tt ((wipe σ vs).set k (some x)) G R)
    (he : ∀ (x : V) (G : Hp) (Q' : VK), Q' x G → te ((wipe σ vs).set k (some x)) G Q')
    (hq : ∀ (G : Hp) (D : Addr), L2.Same H G → H D = none → G D = some (.lst (xs.filter b)) → Q (.ref D) G) : tLc (iList K tl) (gName k) tt te vs σ H Q := by
  refine ht _ ⟨a, rfl, ⟨xs, .inl (.inl ha)⟩, fun D hD => lc_accB walk_list hD len (fun H' e => .inl (.inl (e _ _ ha))) (fun i ys => ys = (xs.take i).filter b) rfl (fun i v G1 G2 ys Qy Qn hi s1 a y ky kn => ?_) (fun G ys s1 hA a => ?_)⟩
  · obtain ⟨rfl, hc⟩ := y
    refine gset ⟨hw _, hs v _ _ (List.mem_of_getElem? hc) s1 fun G' s' => ?_⟩
    have er : (xs.take (i + 1)).filter b = ys ++ (if b v = true then [v] else []) := by
      rw [a, List.take_add_one, hc, List.filter_append]
      cases q : b v with
      | true => simp [q]
      | false => simp [q]
    cases q : b v with
    | true =>
      rw [q, if_pos rfl] at er
      show (if true = true then _ else _)
      rw [if_pos rfl]
      exact he v _ _ (ky _ _ s' er.symm)
    | false =>
      rw [q, if_neg Bool.false_ne_true, List.append_nil] at er
      show (if false = true then _ else _)
      rw [if_neg Bool.false_ne_true]
      exact kn _ s' er.symm
  · rw [List.take_length] at a
    rw [a] at hA
    exact hq G D s1 hD hA
end K14.Gn
namespace K14.T5
open T27 T3
open K14.Gn
open PySem PySem.W PySem.Calls PyProof.Rows L2 LamX NdefX
open He (ga)
open Kz (SS ExtS ExtS.trans small4 same_new boot_in boot_li boot_isi Has pe_has noE PSs.of_eq seqI new_ext X1 shaped_int dpAll_int)
/-! ### _law_odd_wire -/
abbrev sOw : Stmt := topS 53
abbrev NOw : List Str := ["ends", "items", "names", "item", "odd", "name"]
theorem scOw : FnScope NOw ["ends", "items"] (defScope sOw) := ⟨rfl, rfl, rfl, by decide +kernel, rfl, by decide +kernel, by decide +kernel⟩
theorem bdOw : defBody sOw = [stOf sOw 0, stOf sOw 1, stOf sOw 2, stOf sOw 3] := by rfl
def fbOw : Stmt := (forBody (stOf sOw 1)).getD 0 (.Pass ⟨0, 0, 0, 0⟩)
theorem bdOwF : forBody (stOf sOw 1) = [fbOw] := by rfl
section
variable {P : Program} {w : World} {K : Frag} {mg : Str → Option Value} {base : Heap}
/-- texts that may be laid out -/
def cpsB (s : Str) : Bool := s.cps.all (· < 0x110000)
theorem lay_strs' : ∀ {ws : List Str}, ws.all cpsB = true → PyData.canLayAll0 (ws.map PyData.str) = true ∧ PyData.depthAll (ws.map PyData.str) = 0
  | [], _ => ⟨rfl, rfl⟩
  | w :: ws, h => by
    obtain ⟨h1, h2⟩ := Bool.and_eq_true_iff.mp (show (cpsB w && ws.all cpsB) = true from h)
    obtain ⟨a, b⟩ := lay_strs' h2
    refine ⟨?_, ?_⟩
    · show (PyData.canLay0 (.str w) && PyData.canLayAll0 (ws.map PyData.str)) = true
      rw [a]
      show (cpsB w && true) = true
      rw [h1]
      rfl
    · show max (PyData.depth (.str w)) (PyData.depthAll (ws.map PyData.str)) = 0
      rw [b]
      rfl
theorem shaped_strs {ws : List Str} (h : ws.all cpsB = true) : SeqAt.shaped (.list (ws.map PyData.str)) = true := by
  obtain ⟨a, b⟩ := lay_strs' h
  unfold SeqAt.shaped
  show (PyData.canLayAll0 _ && decide (PyData.depthAll _ + 1 ≤ 64)) = true
  rw [a, b]
  rfl
theorem dpAll_strs {H : Hp} : ∀ ws : List Str, DpAll K H (ws.map V.str) (ws.map PyData.str)
  | [] => .nil
  | w :: ws => .cons (.str w) (dpAll_strs ws)
def spOw : Sp := fun vs H Q _ => ∃ (ve vi : V) (de di : PyData) (es : List Str) (ah : Str → Option Nat), vs = [ve, vi] ∧ Th H ve de ∧ isL de = true ∧ its de = es.map .str ∧ Th H vi di ∧ isL di = true ∧ (∀ z ∈ its di, itemB ah z = true) ∧ (es ++ (its di).flatMap wS).length ≤ 2000000 ∧ (es ++ (its di).flatMap wS).all cpsB = true ∧
  ∀ (H' : Hp), L2.Same H H' → Q (.str ((fnt (es ++ (its di).flatMap wS)).getD "")) H'
theorem ok_ow {f : Addr} {fd : FuncData} (F : FunD K "_law_odd_wire" "_law_odd_wire" (defArgs sOw) (defBody sOw) (defScope sOw) [] [] f fd) (B : LwK mg) : FnOk P w K mg base CX0 1 f fd ["ends", "items"] spOw := by
  refine F.ok scOw (fun vs H Q E h => ?_) (fun cdv A outer s H vs Q XE hr h => ?_)
  · obtain ⟨ve, vi, de, di, es, ah, rfl, _⟩ := h
    rfl
  · obtain ⟨ve, vi, de, di, es, ah, rfl, te, le, ee, ti, li, hi, hz, hc, k⟩ := h
    have hu : (XC P w K mg base NOw "_law_odd_wire" sOw f cdv A outer s H XE).A.units + 64 < cLine := hr.units
    have h0 : PS (XC P w K mg base NOw "_law_odd_wire" sOw f cdv A outer s H XE) (stOf sOw 0) _ := ps_set (i := 2) scOw.nd rfl (.inr rfl) (pe_callTy call_list_of (by rfl) B.list boot_li (pa_cons (pv 0) pa_nil))
    have b0 : PS (XC P w K mg base NOw "_law_odd_wire" sOw f cdv A outer s H XE) fbOw _ := ps_expr (pe_bm PySem.F.plainAttrs_list PySem.F.slot_list_extend PySem.F.type_list_extend mt_extendA (pv 2) (pa_cons (pe_ifExp (pt_cmpR (op_eqP hu) (pe_ix ix_seq (pv 3) pe_int (fun _ _ => rfl)) pe_str (nomark _)) (pe_callTy call_list_of (by rfl) B.list boot_li (pa_cons (pe_ix ix_seq (pv 3) pe_int (fun _ _ => rfl)) pa_nil)) (pe_callTy call_list_of (by rfl) B.list boot_li (pa_cons (pe_slice (SlR.or sl_list sl_tupA) (pv 3) (po_some pe_int) po_none) pa_nil))) pa_nil))
    have h1 : PS (XC P w K mg base NOw "_law_odd_wire" sOw f cdv A outer s H XE) (stOf sOw 1) _ := ps_for PassesOwn.never rfl (pi_sq (pv 1)) (pg_name (i := 3) scOw.nd rfl (.inl rfl)) (PSs.of_eq bdOwF (pss_one b0))
    have h2 : PS (XC P w K mg base NOw "_law_odd_wire" sOw f cdv A outer s H XE) (stOf sOw 2) _ := ps_setLc (i := 4) (X := XC P w K mg base NOw "_law_odd_wire" sOw f cdv A outer s H XE) (scope := scAsg (stOf sOw 2)) (own := [("name", 5)]) (g := gName 5)
      (tt := tTest (tOp rNe (tBM K "list" K14.Gn.rCount (tVar 2) (tCons (tVar 5) tNil)) (tC (.int 2)))) (te := tVar 5) rfl scOw.nd rfl rfl (sw_true rfl rfl rfl (by decide +kernel)) (pi_list (pv 2)) (blkOk_by (N := NOw) (sc := defScope sOw) (by decide +kernel)) (fun _ _ _ _ _ => pg_name (i := 5) scOw.nd rfl (Or.inl rfl))
      (fun s0 H0 C0 cl0 fp0 => pts_one (by exact pt_cmpR op_ne (pe_bm PySem.F.plainAttrs_list PySem.F.slot_list_count PySem.F.type_list_count (K14.Gn.mt_count hu) (pv 2) (pa_cons (pv 5) pa_nil)) pe_int (nomark _)))
      (fun s0 H0 C0 cl0 fp0 => by exact pv 5)
    have h3 : PS (XC P w K mg base NOw "_law_odd_wire" sOw f cdv A outer s H XE) (stOf sOw 3) _ := ps_ret (pe_ifExp (pt_cmpR (op_neD hu) (pv 4) (pe_lst pa_nil) (nomark _)) (pe_ix ix_seq (pv 4) pe_int (fun _ _ => rfl)) pe_str)
    refine ⟨_, PSs.nox (PSs.of_eq bdOw (pss_cons h0 (pss_cons h1 (pss_cons h2 (pss_one h3))))), ?_⟩
    clear h0 h1 h2 h3 b0 hu
    obtain ⟨ae, xe, rfl, re, hxe⟩ := te.seq (K := K) le
    rw [ee] at re
    have exe := T3.th_strsV re
    subst exe
    refine T3.set_intro (i := 2) ⟨.ref ae, rfl, ae, es.map V.str, rfl, hxe.elim (fun h => .inl (.inl (.inl h))) (fun h => .inr (.inl (.inl h))), fun D nD => ?_⟩
    have z1 := same_new (o := .lst (es.map V.str)) nD
    have hD := upd_same (H := H) (a := D) (o := .lst (es.map V.str))
    refine for_sqS (K := K) (H0 := H) (v := vi) (d := di) (i := 3) (fun R h => ⟨vi, rfl, h⟩) ti li (fun j σ G => ∃ a3, σ = [some (.ref ae), some vi, some (.ref D), a3, none, none] ∧ L2.Same H G ∧ G D = some (.lst ((es ++ ((its di).take j).flatMap wS).map V.str))) ⟨none, rfl, z1, by simpa using hD⟩ (fun j σ G e => ?_) (fun j z x σ' G hzj tx tx0 e => ?_) (fun σ G e => ?_)
    · obtain ⟨_, _, e, _⟩ := e
      exact e
    · obtain ⟨a3, rfl, S, hG⟩ := e
      have iz := hi z (List.mem_of_getElem? hzj)
      refine dropS' ?_
      refine ⟨.ref D, rfl, .inl ⟨rfl, _, .inl (.inl hG)⟩, ?_⟩
      obtain ⟨lz, a, r, eq, nd, _, hcs⟩ := item_cases iz
      have et : (its di).take (j + 1) = (its di).take j ++ [z] := by
        rw [List.take_add_one, hzj]
        rfl
      have el : (es ++ ((its di).take j).flatMap wS).map V.str ++ (wS z).map V.str = (es ++ ((its di).take (j + 1)).flatMap wS).map V.str := by
        rw [et, List.flatMap_append, ← List.map_append, List.append_assoc]
        simp
      have sz : ((es ++ ((its di).take j).flatMap wS).map V.str).length + ((wS z).map V.str).length ≤ sizeLine := by
        rw [← List.length_append, el, List.length_map, List.length_append]
        have h1 : (((its di).take (j + 1)).flatMap wS).length ≤ ((its di).flatMap wS).length := by
          have e3 : (its di).flatMap wS = ((its di).take (j + 1)).flatMap wS ++ ((its di).drop (j + 1)).flatMap wS := by
            rw [← List.flatMap_append, List.take_append_drop]
          rw [e3, List.length_append]
          omega
        rw [List.length_append] at hz
        rw [sizeLine_eq]
        omega
      have fin : ∀ (G2 : Hp) (E2 : Addr), L2.Same G G2 → G2 E2 = none → rExtendA (.ref D) [.ref E2] (upd G2 E2 (.lst ((wS z).map V.str))) fun v H' => ∃ a3, [some (.ref ae), some vi, some (.ref D), some x, none, none] = [some (.ref ae), some vi, some (.ref D), a3, none, none] ∧ L2.Same H H' ∧ H' D = some (.lst ((es ++ ((its di).take (j + 1)).flatMap wS).map V.str)) := fun G2 E2 s2 nE => by
        have hG2 := (s2.trans (same_new (o := .lst ((wS z).map V.str)) nE)) _ _ hG
        refine .inl ⟨D, E2, _, _, rfl, rfl, hG2, upd_same, sz, ?_⟩
        rw [el]
        exact ⟨_, rfl, fun b o hb => by
          rw [upd_ne (fun z => by rw [z, nD] at hb; cases hb)]
          exact (s2.trans (same_new nE)) _ _ (S _ _ hb), upd_same⟩
      have wz := wires_str iz
      refine cons_in (iff_in (tst_in (ev_eqT (rds_ix (K := K) (n := 0) (rds_var (i := 3) rfl tx) lz (by rw [eq]; rfl)) nd ⟨_, rfl, ?_⟩)))
      rcases hcs with ⟨hu, b, c, rfl, lc, ew⟩ | ⟨hu, ew⟩
      · rw [hu]
        refine iteT (rds_ix (K := K) (n := 2) (rds_var (i := 3) rfl tx) lz (by rw [eq]; rfl) _ fun y ty => ?_)
        obtain ⟨ay, ys, rfl, ry, hy⟩ := ty.seq (K := K) lc
        rw [← ew, wz] at ry
        have eys := T3.th_strsV ry
        subst eys
        exact ⟨ay, _, rfl, hy.elim (fun h => .inl (.inl (.inl h))) (fun h => .inr (.inl (.inl h))), fun E2 nE => fin G E2 (fun _ _ e => e) nE⟩
      · rw [hu]
        refine iteF (ev_from (K := K) (m := 1) (rds_var (i := 3) rfl tx) lz (by rw [eq, List.length_cons]; omega) fun G' y d' s3 ty ly ey => ?_)
        obtain ⟨ay, ys, rfl, ry, hy⟩ := ty.seq (K := K) ly
        rw [ey, eq, List.drop_succ_cons, List.drop_zero, ← ew, wz] at ry
        have eys := T3.th_strsV ry
        subst eys
        exact ⟨ay, _, rfl, hy.elim (fun h => .inl (.inl (.inl h))) (fun h => .inr (.inl (.inl h))), fun E2 nE => fin G' E2 s3 nE⟩
    · obtain ⟨a3, rfl, S, hG⟩ := e
      rw [List.take_length] at hG
      have cnt : ∀ (ns : List Str) (t : Str), (ns.map V.str).countP (fun y => decide (y = V.str t)) = ns.count t := fun ns t => by
        rw [List.countP_map]
        show ns.countP _ = ns.countP _
        refine List.countP_congr fun u _ => ?_
        show decide (V.str u = V.str t) = true ↔ (u == t) = true
        rw [decide_eq_true_eq, beq_iff_eq]
        exact ⟨fun e => V.str.inj e, fun e => by rw [e]⟩
      generalize en : es ++ (its di).flatMap wS = ns at hG hz hc k
      refine T69.asg_intro ?_
      refine lc_lstIf (K := K) (a := D) (xs := ns.map V.str) (fun x => match x with | .str t => !decide (ns.count t = 2) | _ => false) (fun R h => ⟨.ref D, rfl, h⟩) hG (by rw [List.length_map]; omega) (fun _ => rfl) (fun x G2 R hx s2 kR => ?_) (fun x G2 Q' h => ⟨x, rfl, h⟩) fun G2 E2 s2 nE hE => ?_
      · obtain ⟨t, ht, rfl⟩ := List.mem_map.mp hx
        have hG2 := s2 _ _ hG
        refine tst_in ⟨.ref D, rfl, .inl ⟨rfl, _, .inl (.inl hG2)⟩, .str t, rfl, D, _, t, rfl, rfl, hG2, ?_, ?_⟩
        · intro y hy
          obtain ⟨u, _, rfl⟩ := List.mem_map.mp hy
          exact .inr (.inr (.inr (.inl ⟨u, rfl⟩)))
        · rw [cnt]
          refine ⟨rfl, _, rfl, ?_⟩
          have e := len_dec (n := ns.count t) (m := 2)
          show R (!decide (V.int ((ns.count t : Nat) : Int) = V.int ((2 : Nat) : Int))) G2
          rw [e]
          exact kR G2 fun _ _ e => e
      · have ef : (ns.map V.str).filter (fun x => match x with | .str t => !decide (ns.count t = 2) | _ => false) = (ns.filter fun t => !decide (ns.count t = 2)).map V.str := by
          rw [List.filter_map]
          rfl
        rw [ef] at hE
        have hcf : (ns.filter fun t => !decide (ns.count t = 2)).all cpsB = true := List.all_eq_true.mpr fun t m => List.all_eq_true.mp hc t (List.mem_filter.mp m).1
        refine gset (ret_intro (iff_in (tst_in ⟨.ref E2, rfl, small4 0, fun q nq => ⟨_, .list [], .lst (.inl (.inl (same_new nq _ _ hE))) (dpAll_strs _), .lst (.inl (.inl upd_same)) .nil, shaped_strs hcf, rfl, _, rfl, ?_⟩⟩)))
        have S3 := (S.trans s2).trans (same_new (o := .lst []) nq)
        have hE3 := same_new (o := .lst []) nq _ _ hE
        have kk := k _ S3
        unfold fnt at kk
        rw [← List.head?_filter] at kk
        cases e : ns.filter fun t => !decide (ns.count t = 2) with
        | nil =>
          rw [e] at kk
          exact iteF kk
        | cons t r =>
          rw [e] at kk hE3
          exact iteT ⟨.ref E2, rfl, ix_any2 (i := 0) (.inl hE3) rfl kk⟩
end
end K14.T5
namespace K14.T5
open T27 T3
open K14.Gn
open PySem PySem.W PySem.Calls PyProof.Rows L2 LamX NdefX
open He (ga)
open Kz (SS ExtS ExtS.trans small4 same_new boot_in boot_li boot_isi Has pe_has noE PSs.of_eq seqI new_ext X1 shaped_int dpAll_int)
/-! ### the first odd place, as the program and the law look for it -/
def isS (s : Str) : PyData → Bool
  | .str t => t == s
  | _ => false
def b1 (ds : List PyData) (i : Nat) : Bool := match ds[i]? with
  | some z => nameB z && !(ds.take i).any (isS (strD z))
  | none => false
def oI : Option Nat → Int
  | none => -1
  | some j => (j : Nat)
theorem foI_find (b : Nat → Bool) (n : Nat) : foI b n = oI ((List.range n).find? fun i => !b i) := by
  unfold foI
  rw [← List.head?_filter]
  cases (List.range n).filter fun i => !b i <;> rfl
theorem fne_rec (ds : List PyData) : ∀ (suf pre : List PyData), ds = pre ++ suf → pre.all nameB = true → fneL suf (pre.map strD) pre.length = (List.range' pre.length suf.length).find? fun i => !b1 ds i
  | [], pre, _, _ => rfl
  | z :: r, pre, e, hp => by
    have hz : ds[pre.length]? = some z := by
      rw [e, List.getElem?_append_right (Nat.le_refl _), Nat.sub_self]
      rfl
    have ht : ds.take pre.length = pre := by
      rw [e, List.take_left]
    have eb : b1 ds pre.length = (nameB z && !pre.any (isS (strD z))) := by
      unfold b1
      rw [hz, ht]
    have any : ∀ s : Str, pre.any (isS s) = (pre.map strD).contains s := fun s => by
      clear e hz ht eb
      induction pre with
      | nil => rfl
      | cons y q ih =>
        obtain ⟨h1, h2⟩ := Bool.and_eq_true_iff.mp (show (nameB y && q.all nameB) = true from hp)
        rw [List.any_cons, ih h2, nm_str h1, List.map_cons, List.contains_cons]
        congr 1
        show (strD y == s) = (s == strD (.str (strD y)))
        rw [Bool.eq_iff_iff, beq_iff_eq, beq_iff_eq]
        exact eq_comm
    rw [List.length_cons, List.range'_succ, List.find?_cons, eb]
    cases q : nameB z with
    | false =>
      rw [Bool.false_and]
      show _ = some pre.length
      cases z with
      | str s =>
        show (if (nameB (.str s) && _) = true then _ else _) = _
        rw [q, Bool.false_and, if_neg Bool.false_ne_true]
      | _ => rfl
    | true =>
      have es := nm_str q
      rw [Bool.true_and, any]
      rw [es]
      show (if (nameB (.str (strD z)) && !(pre.map strD).contains (strD z)) = true then fneL r (pre.map strD ++ [strD z]) (pre.length + 1) else some pre.length) = match !(!(pre.map strD).contains (strD z)) with
        | true => some pre.length
        | false => _
      rw [← es, q, Bool.true_and]
      cases c : (pre.map strD).contains (strD z) with
      | true => rfl
      | false =>
        show fneL r (pre.map strD ++ [strD z]) (pre.length + 1) = (List.range' (pre.length + 1) r.length).find? fun i => !b1 ds i
        have := fne_rec ds r (pre ++ [z]) (by rw [e, List.append_assoc]; rfl) (by rw [List.all_append, hp]; show (true && (nameB z && true)) = true; rw [q]; rfl)
        rw [List.map_append, List.length_append] at this
        exact this
theorem fne_fo {d : PyData} (l : isL d = true) : foI (b1 (its d)) (its d).length = oI (fne d) := by
  rw [foI_find, List.range_eq_range']
  have := fne_rec (its d) (its d) [] rfl rfl
  unfold fne
  rw [if_pos l]
  exact congrArg oI this.symm
def b2 (ah : Str → Option Nat) (ds : List PyData) (i : Nat) : Bool := match ds[i]? with
  | some z => itemB ah z
  | none => false
theorem fni_rec (ah : Str → Option Nat) (ds : List PyData) : ∀ (suf pre : List PyData), ds = pre ++ suf → fniL ah suf pre.length = (List.range' pre.length suf.length).find? fun i => !b2 ah ds i
  | [], pre, _ => rfl
  | z :: r, pre, e => by
    have hz : ds[pre.length]? = some z := by
      rw [e, List.getElem?_append_right (Nat.le_refl _), Nat.sub_self]
      rfl
    have eb : b2 ah ds pre.length = itemB ah z := by
      unfold b2
      rw [hz]
    rw [List.length_cons, List.range'_succ, List.find?_cons, eb]
    show (if itemB ah z = true then fniL ah r (pre.length + 1) else some pre.length) = _
    cases q : itemB ah z with
    | false => rfl
    | true =>
      have := fni_rec ah ds r (pre ++ [z]) (by rw [e, List.append_assoc]; rfl)
      rw [List.length_append] at this
      exact this
theorem fni_fo {ah : Str → Option Nat} {d : PyData} (l : isL d = true) : foI (b2 ah (its d)) (its d).length = oI (fni ah d) := by
  rw [foI_find, List.range_eq_range']
  have := fni_rec ah (its d) (its d) [] rfl
  unfold fni
  rw [if_pos l]
  exact congrArg oI this.symm
/-- things that hold no others -/
def flD : PyData → Bool
  | .none => true
  | .bool _ => true
  | .int _ => true
  | .str _ => true
  | _ => false
theorem fl_V {H : Hp} : ∀ {xs : List V} {ds : List PyData}, ThAll H xs ds → ds.all flD = true → xs.all flatV = true
  | _, _, .nil, _ => rfl
  | _, _, .cons t r, h => by
    obtain ⟨h1, h2⟩ := Bool.and_eq_true_iff.mp (show (flD _ && List.all _ flD) = true from h)
    rw [List.all_cons, fl_V r h2, Bool.and_true]
    cases t <;> first | rfl | cases h1
theorem in_V {H : Hp} {s : Str} : ∀ {xs : List V} {ds : List PyData}, ThAll H xs ds → ds.all flD = true → inV (.str s) xs = ds.any (isS s)
  | _, _, .nil, _ => rfl
  | _, _, .cons t r, h => by
    obtain ⟨h1, h2⟩ := Bool.and_eq_true_iff.mp (show (flD _ && List.all _ flD) = true from h)
    have ih := in_V (s := s) r h2
    unfold inV at ih ⊢
    rw [List.any_cons, List.any_cons, ih]
    congr 1
    cases t <;> first | rfl | cases h1
theorem nm_cps {z : PyData} (h : nameB z = true) : cpsB (strD z) = true := by
  cases z with
  | str s =>
    obtain ⟨hb, _⟩ := Bool.and_eq_true_iff.mp (show (bnB s && !keptB s) = true from h)
    show s.cps.all (· < 0x110000) = true
    rw [← Array.all_toList]
    unfold bnB at hb
    cases e : s.cps.toList with
    | nil => rfl
    | cons c r =>
      rw [e] at hb
      obtain ⟨_, hb⟩ := Bool.and_eq_true_iff.mp hb
      obtain ⟨_, hb⟩ := Bool.and_eq_true_iff.mp hb
      refine List.all_eq_true.mpr fun x hx => ?_
      have h1 := of_decide_eq_true (List.all_eq_true.mp hb x hx)
      have h2 : signs.cps.toList.all (· < 0x110000) = true := by decide +kernel
      exact List.all_eq_true.mp h2 x h1
  | _ => cases h
theorem nms_cps {ds : List PyData} (h : ds.all nameB = true) : (ds.map strD).all cpsB = true := by
  refine List.all_eq_true.mpr fun s hs => ?_
  obtain ⟨z, hz, rfl⟩ := List.mem_map.mp hs
  exact nm_cps (List.all_eq_true.mp h z hz)
theorem wires_cps {ah : Str → Option Nat} {ds : List PyData} (h : ∀ z ∈ ds, itemB ah z = true) : (ds.flatMap wS).all cpsB = true := by
  refine List.all_eq_true.mpr fun s hs => ?_
  obtain ⟨z, hz, hs⟩ := List.mem_flatMap.mp hs
  obtain ⟨_, _, _, _, _, hw, _⟩ := item_cases (h z hz)
  exact List.all_eq_true.mp (nms_cps hw) s hs
end K14.T5
namespace K14.T5
open T27 T3
open K14.Gn
open PySem PySem.W PySem.Calls PyProof.Rows L2 LamX NdefX
open He (ga)
open Kz (SS ExtS ExtS.trans small4 same_new boot_in boot_li boot_isi Has pe_has noE PSs.of_eq seqI new_ext X1 shaped_int dpAll_int)
/-! ### the law's lambdas -/
section
variable {P : Program} {w : World} {K : Frag} {mg : Str → Option Value} {base : Heap}
abbrev lstR (K : Frag) : List V → Hp → VK → Prop := fun xs H Q => ∃ p ys, xs = [.ref p] ∧ (SqL K H p ys ∨ SqT K H p ys) ∧ ∀ l, H l = none → Q (.ref l) (upd H l (.lst ys))
/-- _law_is_name(row[at]) and row[at] not in list(row[:at]) -/
def tb1 (K : Frag) : TE := tAndV (tCall spNm [] noE (tCons (tOp (rIx K) (tVar 0) (tVar 1)) tNil)) (tOp (rIn K true) (tOp (rIx K) (tVar 0) (tVar 1)) (tCB (lstR K) (tCons (tSl (fun x lo hi H Q => rSlL K x lo hi H Q ∨ rSlA K x lo hi H Q) (tVar 0) tNoPart (tPart (tVar 1))) tNil)))
/-- _law_is_item(row[at], known) -/
def tb2 (K : Frag) : TE := tCall spIm [] noE (tCons (tOp (rIx K) (tVar 0) (tVar 1)) (tCons (tVar 2) tNil))
theorem rd_ix {σ : L2.St} {G : Hp} {v : V} {d z : PyData} {i : Nat} (h0 : σ[0]? = some (some v)) (h1 : σ[1]? = some (some (.int (i : Nat)))) (t : Th G v d) (l : isL d = true) (hz : (its d)[i]? = some z) : Rds (tOp (rIx K) (tVar 0) (tVar 1)) σ G z := fun R k => by
  obtain ⟨a, xs, rfl, r, hx⟩ := t.seq (K := K) l
  have il : i < xs.length := by
    rw [r.length]
    exact (List.getElem?_eq_some_iff.mp hz).1
  have hi : xs[i]? = some xs[i] := List.getElem?_eq_getElem il
  obtain ⟨z', hz', tz⟩ := r.get hi
  rw [hz] at hz'
  cases hz'
  exact ⟨.ref a, h0, .int (i : Nat), h1, ix_any2 hx hi (k _ tz)⟩
theorem lam1_in {r a : Str} {G : Hp} {v : V} {d : PyData} {i : Nat} {R : VK} (t : Th G v d) (l : isL d = true) (ok : okNs d = true) (fl : (its d).all flD = true) (hi : i < (its d).length) (k : ∀ G', L2.Same G G' → R (.bl (b1 (its d) i)) G') : tb1 K (startF [r, a] [v, .int (i : Nat)] []) G R := by
  obtain ⟨o1, o2⟩ := okNs_at ok
  have hz : (its d)[i]? = some (its d)[i] := List.getElem?_eq_getElem hi
  generalize (its d)[i] = z at hz
  have mz := List.mem_of_getElem? hz
  have eb : b1 (its d) i = (nameB z && !((its d).take i).any (isS (strD z))) := by
    unfold b1
    rw [hz]
  rw [eb] at k
  refine andV_in (call_in (rd_ix (K := K) rfl rfl t l hz _ fun x tx => ⟨x, z, rfl, tx, (fun s e => Nat.le_trans (shS_str (o2 z mz) e) (by decide)), fun G2 s2 => ⟨_, rfl, ?_⟩⟩))
  cases q : nameB z with
  | false =>
    rw [q] at k
    exact iteF (k G2 s2)
  | true =>
    rw [q, Bool.true_and] at k
    refine iteT (T3.op_in (rd_ix (K := K) rfl rfl (t.ext s2) l hz _ fun x tx => ?_))
    have ez := nm_str q
    rw [ez] at tx
    cases tx
    refine ⟨v, rfl, .int (i : Nat), rfl, (i : Nat), rfl, ?_⟩
    refine th_cut (K := K) (t.ext s2) l (Nat.le_of_lt hi) fun y G3 d' s3 ty ly ey => ?_
    obtain ⟨a, ys, rfl, ry, hy⟩ := ty.seq (K := K) ly
    rw [ey] at ry
    refine ⟨a, ys, rfl, hy.elim (fun h => .inl (.inl (.inl h))) (fun h => .inr (.inl (.inl h))), fun D nD => ?_⟩
    have tf : ((its d).take i).all flD = true := List.all_eq_true.mpr fun y m => List.all_eq_true.mp fl y (List.mem_of_mem_take m)
    refine ⟨D, ys, rfl, .inl (.inl (.inl upd_same)), rfl, fl_V ry tf, ?_⟩
    rw [in_V ry tf]
    exact k _ ((s2.trans s3).trans (same_new nD))
theorem lam2_in {r a o : Str} {G : Hp} {v : V} {d : PyData} {i : Nat} {p : Addr} {ah : Str → Option Nat} {R : VK} (t : Th G v d) (l : isL d = true) (ok : okIts d = true) (hp : AtD G p ah) (hi : i < (its d).length) (k : ∀ G', L2.Same G G' → R (.bl (b2 ah (its d) i)) G') : tb2 K (startF [r, a, o] [v, .int (i : Nat)] [some (.ref p)]) G R := by
  obtain ⟨o1, o2⟩ := Bool.and_eq_true_iff.mp ok
  have hz : (its d)[i]? = some (its d)[i] := List.getElem?_eq_getElem hi
  generalize (its d)[i] = z at hz
  have mz := List.mem_of_getElem? hz
  have eb : b2 ah (its d) i = itemB ah z := by
    unfold b2
    rw [hz]
  rw [eb] at k
  exact rd_ix (K := K) rfl rfl t l hz _ fun x tx => ⟨.ref p, rfl, x, z, p, ah, rfl, tx, List.all_eq_true.mp o2 z mz, hp, k⟩
end
end K14.T5
namespace K14.Gn
open PySem PySem.W PySem.Calls PyProof.Rows L2 LamX
theorem rds_ixN {K : Frag} {S : List Addr} {σ : L2.St} {G : Hp} {v : V} {d z : PyData} {n i : Nat} (h0 : σ[i]? = some (some v)) (t : Th (Hid S G) v d) (l : isL d = true) (hz : (its d)[n]? = some z) (R : VK) (k : ∀ x : V, Th (Hid S G) x z → R x G) : tOp (rIx K) (tVar i) (tC (.int (n : Nat))) σ G R := by
  obtain ⟨a, xs, rfl, r, hx⟩ := t.seq (K := K) l
  have il : n < xs.length := by
    rw [r.length]
    exact (List.getElem?_eq_some_iff.mp hz).1
  have hi : xs[n]? = some xs[n] := List.getElem?_eq_getElem il
  obtain ⟨z', hz', tz⟩ := r.get hi
  rw [hz] at hz'
  cases hz'
  exact ⟨.ref a, h0, ix_any2 (hx.elim (fun h => .inl (hid_up _ _ h)) fun h => .inr (hid_up _ _ h)) hi (k _ tz)⟩
end K14.Gn
namespace K14.T5
open T27 T3
open K14.Gn
open PySem PySem.W PySem.Calls PyProof.Rows L2 LamX NdefX
open He (ga)
open Kz (SS ExtS ExtS.trans small4 same_new boot_in boot_li boot_isi Has pe_has noE PSs.of_eq seqI new_ext X1 shaped_int dpAll_int)
/-! ### _law_is_part -/
abbrev sLp : Stmt := topS 54
abbrev NLp : List Str := ["thing", "known"]
theorem scLp : FnScope NLp ["thing", "known"] (defScope sLp) := ⟨rfl, rfl, rfl, by decide +kernel, rfl, by decide +kernel, by decide +kernel⟩
theorem bdLp : defBody sLp = [stOf sLp 0, stOf sLp 1, stOf sLp 2, stOf sLp 3] := by rfl
def qLp : Str := (("_law_is_part" : Str) ++ ".<locals>.") ++ "<lambda>"
def lamSc : Stmt → Scope
  | .If (.Compare (.Call _ [_, .Lambda _ _ sc _] _ _) _ _ _) _ _ _ => sc
  | .Assign _ (.Call _ [_, .Lambda _ _ sc _] _ _) _ => sc
  | _ => default
theorem lp1 : nscB ["row", "at"] ["row", "at"] [] (lamSc (stOf sLp 1)) = true := by decide +kernel
theorem lp2 : nscB ["row", "at", "known"] ["row", "at"] ["known"] (lamSc (stOf sLp 2)) = true := by decide +kernel
theorem lp1f : ndefB (defScope sLp) (lamSc (stOf sLp 1)) [] = true := by decide +kernel
theorem lp2f : ndefB (defScope sLp) (lamSc (stOf sLp 2)) ["known"] = true := by decide +kernel
/-- the ends of a part hold no lists -/
def flPt (d : PyData) : Bool := match its d with
  | [_, b, _] => (its b).all flD
  | _ => true
theorem AtD.extN {H H1 : Hp} {p : Addr} {ah : Str → Option Nat} (h : AtD H p ah) (e : ExtN H H1) : AtD H1 p ah := by
  obtain ⟨kvs, h1, h2, h3⟩ := h.ex
  exact ⟨kvs, e _ _ h1 (fun _ z => nomatch z), h2, h3⟩
theorem fne_foV (d : PyData) : (if isL d = true then foI (b1 (its d)) (its d).length else 0) = oI (fne d) := by
  by_cases l : isL d = true
  · rw [if_pos l, fne_fo l]
  · rw [if_neg l]
    unfold fne
    rw [if_neg l]
    rfl
theorem fni_foV (ah : Str → Option Nat) (d : PyData) : (if isL d = true then foI (b2 ah (its d)) (its d).length else 0) = oI (fni ah d) := by
  by_cases l : isL d = true
  · rw [if_pos l, fni_fo l]
  · rw [if_neg l]
    unfold fni
    rw [if_neg l]
    rfl
theorem oI_ge (o : Option Nat) : decide ((0 : Int) ≤ oI o) = o.isSome := by
  cases o with
  | none => rfl
  | some j => exact decide_eq_true (Int.natCast_nonneg j)
theorem odd_emp {o : Option Str} (h : ∀ s, o = some s → s ≠ "") : decide (V.str (o.getD "") = V.str "") = o.isNone := by
  cases o with
  | none => rfl
  | some s => exact decide_eq_false fun z => h s rfl (V.str.inj z)
theorem fnt_ne {ns : List Str} (h : ∀ s ∈ ns, s ≠ "") : ∀ s, fnt ns = some s → s ≠ "" := fun s e => h s (List.mem_of_find?_eq_some e)
theorem nm_ne {z : PyData} (h : nameB z = true) : strD z ≠ "" := by
  intro e
  rw [nm_str h, e] at h
  exact absurd h (by decide +kernel)
theorem wires_ne {ah : Str → Option Nat} {b c : PyData} (hb : (its b).all nameB = true) (hc : ∀ z ∈ its c, itemB ah z = true) : ∀ s ∈ wiresAll b c, s ≠ "" := fun s hs => by
  rcases List.mem_append.mp hs with hs | hs
  · obtain ⟨z, hz, rfl⟩ := List.mem_map.mp hs
    exact nm_ne (List.all_eq_true.mp hb z hz)
  · obtain ⟨z, hz, hs⟩ := List.mem_flatMap.mp hs
    obtain ⟨_, _, _, _, _, hw, _⟩ := item_cases (hc z hz)
    obtain ⟨y, hy, rfl⟩ := List.mem_map.mp hs
    exact nm_ne (List.all_eq_true.mp hw y hy)
theorem wires_all_cps {ah : Str → Option Nat} {b c : PyData} (hb : (its b).all nameB = true) (hc : ∀ z ∈ its c, itemB ah z = true) : (wiresAll b c).all cpsB = true := by
  unfold wiresAll
  rw [List.all_append, nms_cps hb, wires_cps hc]
  rfl
/-- what the law's defs with lambdas ask -/
structure LaK (P : Program) (w : World) (K : Frag) (mg : Str → Option Value) (base : Heap) : Prop where
  lw : LwK mg
  ra : mg "range" = none
  ln : Has P w K mg base "_law_is_name" 1 ["thing"] spNm
  li : Has P w K mg base "_law_is_item" 3 ["thing", "known"] spIm
  ow : Has P w K mg base "_law_odd_wire" 1 ["ends", "items"] spOw
  fo : ∃ g gd, FunD K "_law_first_odd" "_law_first_odd" (defArgs sFo) (defBody sFo) (defScope sFo) [] [] g gd ∧ mg "_law_first_odd" = some (.ref g) ∧ keepIn K (.ref g) = true ∧ L2.Binds K gd ["thing", "is_right"] []
section
variable {P : Program} {w : World} {K : Frag} {mg : Str → Option Value} {base : Heap}
def spLp (T : List (Addr × Str)) : Sp := fun vs H Q _ => ∃ (v : V) (d : PyData) (p : Addr) (ah : Str → Option Nat), vs = [v, .ref p] ∧ Th (Hid [] H) v d ∧ okPt d = true ∧ flPt d = true ∧ AtD H p ah ∧ Tabs T H ∧ ∀ H', ExtN H H' → Tabs T H' → Q (.bl (partB ah d && !(ah (partName d)).isSome)) H'
abbrev XLp (P : Program) (w : World) (K : Frag) (mg : Str → Option Value) (base : Heap) (f : Addr) (cdv : Value) (A : Around) (outer : List Env) (s : Shared) (H : Hp) (XE : XK) : Cx := (cxOf CX0 P w K mg base NLp "_law_is_part" (defScope sLp) f cdv A outer s H XE).nox
theorem ok_lp {f c Pt : Addr} {T : List (Addr × Str)} {oc kV doc pm ct : Value} {od an : Option Addr} {osl : Array (Option Value)} (lk : K.lookup f = some ⟨oc, od, .func (fnOf "_law_is_part" "_law_is_part" (defArgs sLp) (defBody sLp) (defScope sLp) .none kV doc pm an (.ref c) ct), osl⟩) (hcd : codeIn K (.ref c) "_law_is_part" = true)
    (TB : TabB base mg c Pt) (hmT : (Pt, qLp) ∈ T) (hu : ∀ p ∈ T, p.1 = Pt → p.2 = qLp) (L : LaK P w K mg base) :
    FnOk P w K mg base CX0 6 f (fnOf "_law_is_part" "_law_is_part" (defArgs sLp) (defBody sLp) (defScope sLp) .none kV doc pm an (.ref c) ct) ["thing", "known"] (spLp T) := by
  obtain ⟨g, gd, G, mo, kp, bd⟩ := L.fo
  have B := L.lw
  refine fn_of (CX := CX0) (P := P) (w := w) (mg := mg) (base := base) (k := 5) (N := NLp) lk hcd scLp (fun vs H Q E h => ?_) (fun A outer s H vs Q XE hr hsp => ?_)
  · obtain ⟨v, d, p, ah, rfl, _⟩ := h
    rfl
  obtain ⟨v, d, p, ah, rfl, hv0, ok, fl, hp, hT, k⟩ := hsp
  have hu64 : (XLp P w K mg base f (.ref c) A outer s H XE).A.units + 64 < cLine := hr.units
  have hu1 : (XLp P w K mg base f (.ref c) A outer s H XE).A.units + 1 < cLine := by omega
  have h0 : PS (XLp P w K mg base f (.ref c) A outer s H XE) (stOf sLp 0) _ := ps_if (PW.pt (pw_or (pt_not (pt_val (pe_callB call_isiT (by rfl) B.isi boot_isi (pa_cons (pv 0) (pa_cons (pe_tup (pa_cons (pe_bltn (by rfl) B.list boot_li (v := .ty "list") rfl) (pa_cons (pe_bltn (by rfl) B.tuple boot_tu (v := .ty "tuple") rfl) pa_nil))) pa_nil))))) (pw_or (pt_cmpR op_ne (pe_callB call_len_seq (by rfl) B.len boot_len (pa_cons (pv 0) pa_nil)) pe_int (nomark _))
    (pw_or (pt_not (pt_val (pe_has L.ln (hr.mono (by decide)) (by rfl) (pa_cons (pe_ix ix_seq (pv 0) pe_int (fun _ _ => rfl)) pa_nil)))) (pw_or1 (pt_cmp (pc_din hu1 (pe_ix ix_seq (pv 0) pe_int (fun _ _ => rfl)) (pv 1)) (by rfl))))))) (pss_one (ps_ret pe_bl)) pss_nil
  have h1 : PS (XLp P w K mg base f (.ref c) A outer s H XE) (stOf sLp 1) _ := ps_if (pt_cmpR op_ge (pe_lam2 (X := XLp P w K mg base f (.ref c) A outer s H XE) (js := []) (fr := []) (sp := spFo (tb1 K) ["row", "at"] qLp) (by rfl) mo kp bd
    (fun base' f' c' ws up Lm => ok_fo G B L.ra Lm (nscope_by lp1) rfl (fun pm cv ctv us e => by match us, e with | [u1, u2], _ => rfl) (k := 1)
      (fun A' o' s' H' hr2 => by exact pe_and (pe_has (up.has L.ln) (hr2.mono (by decide)) (by rfl) (pa_cons (pe_ix ix_seq (pv 0) (pv 1) (fun _ _ => rfl)) pa_nil)) (pe_one (pe_cmpR op_notIn_seq (pe_ix ix_seq (pv 0) (pv 1) (fun _ _ => rfl)) (pe_callTy call_list_of (by rfl) B.list boot_li (pa_cons (pe_slice (SlR.or sl_list sl_tupA) (pv 0) po_none (po_some (pv 1))) pa_nil)) (by rfl)))))
    TB rfl hmT hu (hr.mono (by decide)) rfl (fun _ => rfl) (ndef_free lp1f) (ndef_fr lp1f) rfl (pe_ix ix_seq (pv 0) pe_int (fun _ _ => rfl))) pe_int (nomark _)) (pss_one (ps_ret pe_bl)) pss_nil
  have h2 : PS (XLp P w K mg base f (.ref c) A outer s H XE) (stOf sLp 2) _ := ps_if (pt_cmpR op_ge (pe_lam2 (X := XLp P w K mg base f (.ref c) A outer s H XE) (js := [1]) (fr := ["known"]) (sp := spFo (tb2 K) ["row", "at", "known"] qLp) (by rfl) mo kp bd
    (fun base' f' c' ws up Lm => ok_fo G B L.ra Lm (nscope_by lp2) rfl (fun pm cv ctv us e => by match us, e with | [u1, u2], _ => rfl) (k := 3)
      (fun A' o' s' H' hr2 => by exact pe_has (up.has L.li) hr2 (by rfl) (pa_cons (pe_ix ix_seq (pv 0) (pv 1) (fun _ _ => rfl)) (pa_cons (pv 2) pa_nil))))
    TB rfl hmT hu (hr.mono (by decide)) rfl (fun _ => rfl) (ndef_free lp2f) (ndef_fr lp2f) rfl (pe_ix ix_seq (pv 0) pe_int (fun _ _ => rfl))) pe_int (nomark _)) (pss_one (ps_ret pe_bl)) pss_nil
  have h3 : PS (XLp P w K mg base f (.ref c) A outer s H XE) (stOf sLp 3) _ := ps_ret (pe_cmpR op_eq (pe_has L.ow (hr.mono (by decide)) (by rfl) (pa_cons (pe_ix ix_seq (pv 0) pe_int (fun _ _ => rfl)) (pa_cons (pe_ix ix_seq (pv 0) pe_int (fun _ _ => rfl)) pa_nil))) pe_str (nomark _))
  refine ⟨_, PSs.nox (PSs.of_eq bdLp (pss_cons h0 (pss_cons h1 (pss_cons h2 (pss_one h3))))), ?_⟩
  clear h0 h1 h2 h3
  have hv := hv0.ext hid_up
  refine T3.if_intro (or_in (not_in (b_in ⟨v, rfl, small4 2, fun q nq => ⟨v, q, _, _, _, _, rfl, upd_same, .cons (.ty _) (.cons (.ty _) .nil), (hv.ext (same_new nq)).ty, is_lt d, _, rfl, ?_⟩⟩)))
  have s1 : L2.Same H (upd H q (.tup [.ty "list", .ty "tuple"])) := same_new nq
  have eN : ∀ {G : Hp}, L2.Same H G → ExtN H G := fun s b o h _ => s b o h
  have kF : ∀ {G : Hp}, L2.Same H G → (partB ah d && !(ah (partName d)).isSome) = false → Q (.bl false) G := fun {G} s e => by
    have := k G (eN s) (hT.ext s)
    rw [e] at this
    exact this
  cases l : isL d with
  | false =>
    refine iteT (iteT (kF s1 ?_))
    unfold partB
    rw [l]
    rfl
  | true =>
    have hv1 := hv.ext s1
    refine iteF (or_in (tst_in (ev_len (K := K) (rds_var (i := 0) rfl hv1) l ⟨rfl, _, rfl, ?_⟩)))
    show (if (!decide (V.int (((its d).length : Nat) : Int) = V.int ((3 : Nat) : Int))) = true then _ else _)
    rw [len_dec]
    by_cases c3 : (its d).length = 3
    · rw [decide_eq_true c3]
      obtain ⟨a, b, c2, eq⟩ : ∃ a b c, its d = [a, b, c] := by
        match its d, c3 with
        | [a, b, c], _ => exact ⟨a, b, c, rfl⟩
      have ha := okPt_at ok (y := a) (by rw [eq]; simp)
      have hb := okPt_at ok (y := b) (by rw [eq]; simp)
      have hc := okPt_at ok (y := c2) (by rw [eq]; simp)
      have fb : (its b).all flD = true := by
        have := fl
        unfold flPt at this
        rw [eq] at this
        exact this
      have ek : partB ah d = (nameB a && ((fne b).isNone && ((fni ah c2).isNone && (fnt (wiresAll b c2)).isNone))) := by
        unfold partB
        rw [l, eq]
        rfl
      refine iteF (or_in (not_in (b_in (call_in (rds_ix (K := K) (n := 0) (rds_var (i := 0) rfl hv1) l (by rw [eq]; rfl) _ fun x tx => ⟨x, a, rfl, tx, (fun s e => Nat.le_trans (shS_str ha.1 e) (by decide)), fun H2 s2 => ⟨_, rfl, ?_⟩⟩)))))
      have S2 := s1.trans s2
      have hv2 := hv1.ext s2
      cases qa : nameB a with
      | false => exact iteT (iteT (kF S2 (by rw [ek, qa]; rfl)))
      | true =>
        rw [qa, Bool.true_and] at ek
        obtain ⟨t, rfl⟩ : ∃ t, a = .str t := ⟨_, nm_str qa⟩
        have en : partName d = t := by
          unfold partName
          rw [eq]
          rfl
        rw [en] at k kF
        obtain ⟨kvs, hk, lk2, vk⟩ := (hp.ext S2).ex
        refine iteF (b_in (din_in (rds_ix (K := K) (n := 0) (rds_var (i := 0) rfl hv2) l (by rw [eq]; rfl) _ fun x tx => ?_)))
        cases tx
        refine ⟨.ref p, rfl, p, _, rfl, DGet.k (k := .inr t) hk, _, rfl, ?_⟩
        have eo : (valV kvs (.inr t)).isSome = (ah t).isSome := by
          rw [vk]
          cases ah t <;> rfl
        rw [eo]
        cases qt : (ah t).isSome with
        | true => exact iteT (kF S2 (by rw [qt]; simp))
        | false =>
          rw [qt] at k kF
          have kF' : ∀ {G : Hp}, ExtN H G → Tabs T G → partB ah d = false → Q (.bl false) G := fun {G} e hT' z => by
            have := k G e hT'
            rw [z] at this
            exact this
          refine iteF (nx_intro (ifS_intro (tst_in ?_)))
          refine rds_ixN (K := K) (n := 1) (i := 0) rfl (hv0.ext (hid_same S2)) l (by rw [eq]; rfl) _ fun x tx => ?_
          refine ⟨hT.ext S2, fun c' G3 e3 T3' hc3 => ?_⟩
          have E3 := (eN S2).trans e3
          have hb3 : Th G3 x b := (tx.ext (hid_N e3)).ext hid_up
          refine ⟨x, b, b1 (its b), rfl, hb3, ?_, hc3, fun lb i G R hi sG kR => lam1_in (hb3.ext sG) lb hb.2.1 fb hi kR, fun G4 s4 => ?_⟩
          · have := (okNs_at hb.2.1).1
            omega
          rw [fne_foV]
          have E4 := E3.trans (fun b o h _ => s4 b o h)
          have T4 := T3'.ext s4
          refine ⟨_, _, rfl, rfl, _, rfl, ?_⟩
          rw [oI_ge]
          cases qb : fne b with
          | some j => exact iteT (kF' E4 T4 (by rw [ek, qb]; rfl))
          | none =>
            rw [qb] at ek
            obtain ⟨lb, nb⟩ := fne_none qb
            refine iteF (nx_intro (ifS_intro (tst_in ?_)))
            refine rds_ixN (K := K) (n := 2) (i := 0) rfl (hv0.ext (hid_N E4)) l (by rw [eq]; rfl) _ fun y ty => ?_
            refine ⟨T4, fun c5 G5 e5 T5' hc5 => ?_⟩
            have E5 := E4.trans e5
            have hc5' : Th G5 y c2 := (ty.ext (hid_N e5)).ext hid_up
            have hp5 := hp.extN E5
            refine ⟨y, c2, b2 ah (its c2), rfl, hc5', ?_, hc5, fun lc i G R hi sG kR => lam2_in (hc5'.ext sG) lc hc.2.2 (hp5.ext sG) hi kR, fun G6 s6 => ?_⟩
            · obtain ⟨o1, _⟩ := Bool.and_eq_true_iff.mp hc.2.2
              have o1 := of_decide_eq_true o1
              omega
            rw [fni_foV]
            have E6 := E5.trans (fun b o h _ => s6 b o h)
            have T6 := T5'.ext s6
            refine ⟨_, _, rfl, rfl, _, rfl, ?_⟩
            rw [oI_ge]
            cases qc : fni ah c2 with
            | some j => exact iteT (kF' E6 T6 (by rw [ek, qc]; rfl))
            | none =>
              rw [qc] at ek
              obtain ⟨lc, ic⟩ := fni_none qc
              refine iteF (nx_intro (ret_intro (T3.op_in ?_)))
              have hv6 : Th G6 v d := (hv0.ext (hid_N E6)).ext hid_up
              refine rds_ix (K := K) (n := 1) (rds_var (i := 0) rfl hv6) l (by rw [eq]; rfl) _ fun x1 tx1 => ?_
              refine rds_ix (K := K) (n := 2) (rds_var (i := 0) rfl hv6) l (by rw [eq]; rfl) _ fun y1 ty1 => ?_
              refine ⟨x1, y1, b, c2, (its b).map strD, ah, rfl, tx1, lb, names_str nb, ty1, lc, ic, all_len hb.2.1 hc.2.2, wires_all_cps nb ic, fun G7 s7 => ⟨rfl, ?_⟩⟩
              have E7 := E6.trans (fun b o h _ => s7 b o h)
              have kk := k G7 E7 (T6.ext s7)
              have ee : decide (V.str ((fnt (wiresAll b c2)).getD "") = V.str "") = (fnt (wiresAll b c2)).isNone := odd_emp (fnt_ne (wires_ne nb ic))
              rw [ek] at kk
              show Q (.bl (decide (V.str ((fnt (wiresAll b c2)).getD "") = V.str ""))) G7
              rw [ee]
              simpa using kk
    · rw [decide_eq_false c3]
      refine iteT (iteT (kF s1 ?_))
      unfold partB partM
      split
      · rename_i a b c2 e
        rw [e] at c3
        exact absurd rfl c3
      · rw [Bool.and_false]
        rfl
end
end K14.T5
namespace K14.T5
open T27 T3
open K14.Gn
open PySem PySem.W PySem.Calls PyProof.Rows L2 LamX NdefX
open He (ga)
open Kz (SS ExtS ExtS.trans small4 same_new boot_in boot_li boot_isi Has pe_has noE PSs.of_eq seqI new_ext X1 shaped_int dpAll_int)
/-! ### _law_plan_fault -/
abbrev sPf : Stmt := topS 55
abbrev NPf : List Str := ["parts", "ends", "items", "known", "at", "part", "odd"]
theorem scPf : FnScope NPf ["parts", "ends", "items"] (defScope sPf) := ⟨rfl, rfl, rfl, by decide +kernel, rfl, by decide +kernel, by decide +kernel⟩
theorem bdPf : defBody sPf = [stOf sPf 0, stOf sPf 1, stOf sPf 2, stOf sPf 3, stOf sPf 4, stOf sPf 5, stOf sPf 6, stOf sPf 7, stOf sPf 8] := by rfl
def fbPf (i : Nat) : Stmt := (forBody (stOf sPf 2)).getD i (.Pass ⟨0, 0, 0, 0⟩)
theorem bdPfF : forBody (stOf sPf 2) = [fbPf 0, fbPf 1] := by rfl
def qPf : Str := (("_law_plan_fault" : Str) ++ ".<locals>.") ++ "<lambda>"
theorem pf1 : nscB ["row", "one"] ["row", "one"] [] (lamSc (stOf sPf 3)) = true := by decide +kernel
theorem pf2 : nscB ["row", "one", "known"] ["row", "one"] ["known"] (lamSc (stOf sPf 5)) = true := by decide +kernel
theorem pf1f : ndefB (defScope sPf) (lamSc (stOf sPf 3)) [] = true := by decide +kernel
theorem pf2f : ndefB (defScope sPf) (lamSc (stOf sPf 5)) ["known"] = true := by decide +kernel
def PF.kind : PF → Str
  | .parts _ => "parts"
  | .ends _ => "ends"
  | .items _ => "items"
  | .wire _ => "wire"
/-- what is told of a fault -/
def TellF (o : Option PF) (H : Hp) (Q : VK) : Prop := match o with
  | none => Q .non H
  | some t => ∀ a, H a = none → Q (.ref a) (upd H a (.tup [.str t.kind, t.val]))
theorem tabs_upd {T : List (Addr × Str)} {H : Hp} {p : Addr} {kvs : List (Key × V)} {o : HO} (t : Tabs T H) (h : H p = some (.dK kvs)) : Tabs T (upd H p o) := fun x hx => by
  obtain ⟨ps, h1, h2, h3⟩ := t x hx
  refine ⟨ps, by rw [upd_ne (fun z => by rw [z, h] at h1; cases h1)]; exact h1, h2, fun pos cv hc => ?_⟩
  obtain ⟨c, e1, e2⟩ := h3 pos cv hc
  refine ⟨c, e1, ?_⟩
  rw [upd_ne (fun z => by
    rw [z, h] at e2
    have e2 := Option.some.inj e2
    unfold CodeO at e2
    cases e2)]
  exact e2
def flPlan (p e : PyData) : Bool := (its p).all flPt && (its e).all flD
section
variable {P : Program} {w : World} {K : Frag} {mg : Str → Option Value} {base : Heap}
def spPf (T : List (Addr × Str)) : Sp := fun vs H Q _ => ∃ (vp ve vi : V) (dp de di : PyData), vs = [vp, ve, vi] ∧ Th (Hid [] H) vp dp ∧ Th (Hid [] H) ve de ∧ Th (Hid [] H) vi di ∧ okPlan dp de di = true ∧ flPlan dp de = true ∧ Tabs T H ∧ ∀ H', ExtN H H' → Tabs T H' → TellF (planF dp de di) H' Q
abbrev XPf (P : Program) (w : World) (K : Frag) (mg : Str → Option Value) (base : Heap) (f : Addr) (cdv : Value) (A : Around) (outer : List Env) (s : Shared) (H : Hp) (XE : XK) : Cx := (cxOf CX0 P w K mg base NPf "_law_plan_fault" (defScope sPf) f cdv A outer s H XE).nox
theorem ok_pf {f c Pt : Addr} {T : List (Addr × Str)} {oc kV doc pm ct : Value} {od an : Option Addr} {osl : Array (Option Value)} (lk : K.lookup f = some ⟨oc, od, .func (fnOf "_law_plan_fault" "_law_plan_fault" (defArgs sPf) (defBody sPf) (defScope sPf) .none kV doc pm an (.ref c) ct), osl⟩) (hcd : codeIn K (.ref c) "_law_plan_fault" = true)
    (TB : TabB base mg c Pt) (hmT : (Pt, qPf) ∈ T) (hu : ∀ p ∈ T, p.1 = Pt → p.2 = qPf) (L : LaK P w K mg base) (IP : Has P w K mg base "_law_is_part" 6 ["thing", "known"] (spLp T)) (men : mg "enumerate" = none) :
    FnOk P w K mg base CX0 7 f (fnOf "_law_plan_fault" "_law_plan_fault" (defArgs sPf) (defBody sPf) (defScope sPf) .none kV doc pm an (.ref c) ct) ["parts", "ends", "items"] (spPf T) := by
  obtain ⟨g, gd, G, mo, kp, bd⟩ := L.fo
  have B := L.lw
  refine fn_of (CX := CX0) (P := P) (w := w) (mg := mg) (base := base) (k := 6) (N := NPf) lk hcd scPf (fun vs H Q E h => ?_) (fun A outer s H vs Q XE hr hsp => ?_)
  · obtain ⟨vp, ve, vi, dp, de, di, rfl, _⟩ := h
    rfl
  obtain ⟨vp, ve, vi, dp, de, di, rfl, tp, te, ti, ok, fl, hT, k⟩ := hsp
  have hu64 : (XPf P w K mg base f (.ref c) A outer s H XE).A.units + 64 < cLine := hr.units
  have hu1 : (XPf P w K mg base f (.ref c) A outer s H XE).A.units + 1 < cLine := by omega
  have h0 : PS (XPf P w K mg base f (.ref c) A outer s H XE) (stOf sPf 0) _ := ps_if (pt_not (pt_val (pe_callB call_isiT (by rfl) B.isi boot_isi (pa_cons (pv 0) (pa_cons (pe_tup (pa_cons (pe_bltn (by rfl) B.list boot_li (v := .ty "list") rfl) (pa_cons (pe_bltn (by rfl) B.tuple boot_tu (v := .ty "tuple") rfl) pa_nil))) pa_nil))))) (pss_one (ps_ret (pe_tup (pa_cons pe_str (pa_cons pe_int pa_nil))))) pss_nil
  have h1 : PS (XPf P w K mg base f (.ref c) A outer s H XE) (stOf sPf 1) _ := ps_set (i := 3) scPf.nd rfl (.inr rfl) pe_dnewK
  have b0 : PS (XPf P w K mg base f (.ref c) A outer s H XE) (fbPf 0) _ := ps_if (pt_not (pt_val (pe_has IP hr (by rfl) (pa_cons (pv 5) (pa_cons (pv 3) pa_nil))))) (pss_one (ps_ret (pe_tup (pa_cons pe_str (pa_cons (pv 4) pa_nil))))) pss_nil
  have b1 : PS (XPf P w K mg base f (.ref c) A outer s H XE) (fbPf 1) _ := ps_asg (pe_callB call_len_seq (by rfl) B.len boot_len (pa_cons (pe_ix ix_seq (pv 5) pe_int (fun _ _ => rfl)) pa_nil)) (pg_sub (pv 3) (pe_ix ix_seq (pv 5) pe_int (fun _ _ => rfl)) (_root_.L2.set_dict hu1))
  have h2 : PS (XPf P w K mg base f (.ref c) A outer s H XE) (stOf sPf 2) _ := ps_for PassesOwn.never rfl (EnT.pi_enB (by rfl) men (pa_cons (pv 0) pa_nil)) (pg_tup (n := 2) rfl (pgs_cons (pg_name (i := 4) scPf.nd rfl (.inl rfl)) (pgs_cons (pg_name (i := 5) scPf.nd rfl (.inl rfl)) pgs_nil))) (PSs.of_eq bdPfF (pss_cons b0 (pss_one b1)))
  have h3 : PS (XPf P w K mg base f (.ref c) A outer s H XE) (stOf sPf 3) _ := ps_set (i := 4) scPf.nd rfl (.inl rfl) (pe_lam2 (X := XPf P w K mg base f (.ref c) A outer s H XE) (js := []) (fr := []) (sp := spFo (tb1 K) ["row", "one"] qPf) (by rfl) mo kp bd
    (fun base' f' c' ws up Lm => ok_fo G B L.ra Lm (nscope_by pf1) rfl (fun pm cv ctv us e => by match us, e with | [u1, u2], _ => rfl) (k := 1)
      (fun A' o' s' H' hr2 => by exact pe_and (pe_has (up.has L.ln) (hr2.mono (by decide)) (by rfl) (pa_cons (pe_ix ix_seq (pv 0) (pv 1) (fun _ _ => rfl)) pa_nil)) (pe_one (pe_cmpR op_notIn_seq (pe_ix ix_seq (pv 0) (pv 1) (fun _ _ => rfl)) (pe_callTy call_list_of (by rfl) B.list boot_li (pa_cons (pe_slice (SlR.or sl_list sl_tupA) (pv 0) po_none (po_some (pv 1))) pa_nil)) (by rfl)))))
    TB rfl hmT hu (hr.mono (by decide)) rfl (fun _ => rfl) (ndef_free pf1f) (ndef_fr pf1f) rfl (pv 1))
  have h4 : PS (XPf P w K mg base f (.ref c) A outer s H XE) (stOf sPf 4) _ := ps_if (pt_cmpR op_ge (pv 4) pe_int (nomark _)) (pss_one (ps_ret (pe_tup (pa_cons pe_str (pa_cons (pv 4) pa_nil))))) pss_nil
  have h5 : PS (XPf P w K mg base f (.ref c) A outer s H XE) (stOf sPf 5) _ := ps_set (i := 4) scPf.nd rfl (.inl rfl) (pe_lam2 (X := XPf P w K mg base f (.ref c) A outer s H XE) (js := [3]) (fr := ["known"]) (sp := spFo (tb2 K) ["row", "one", "known"] qPf) (by rfl) mo kp bd
    (fun base' f' c' ws up Lm => ok_fo G B L.ra Lm (nscope_by pf2) rfl (fun pm cv ctv us e => by match us, e with | [u1, u2], _ => rfl) (k := 3)
      (fun A' o' s' H' hr2 => by exact pe_has (up.has L.li) hr2 (by rfl) (pa_cons (pe_ix ix_seq (pv 0) (pv 1) (fun _ _ => rfl)) (pa_cons (pv 2) pa_nil))))
    TB rfl hmT hu (hr.mono (by decide)) rfl (fun _ => rfl) (ndef_free pf2f) (ndef_fr pf2f) rfl (pv 2))
  have h6 : PS (XPf P w K mg base f (.ref c) A outer s H XE) (stOf sPf 6) _ := ps_if (pt_cmpR op_ge (pv 4) pe_int (nomark _)) (pss_one (ps_ret (pe_tup (pa_cons pe_str (pa_cons (pv 4) pa_nil))))) pss_nil
  have h7 : PS (XPf P w K mg base f (.ref c) A outer s H XE) (stOf sPf 7) _ := ps_set (i := 6) scPf.nd rfl (.inl rfl) (pe_has L.ow (hr.mono (by decide)) (by rfl) (pa_cons (pv 1) (pa_cons (pv 2) pa_nil)))
  have h8 : PS (XPf P w K mg base f (.ref c) A outer s H XE) (stOf sPf 8) _ := ps_ret (pe_ifExp (pt_cmpR op_ne (pv 6) pe_str (nomark _)) (pe_tup (pa_cons pe_str (pa_cons (pv 6) pa_nil))) pe_non)
  refine ⟨_, PSs.nox (PSs.of_eq bdPf (pss_cons h0 (pss_cons h1 (pss_cons h2 (pss_cons h3 (pss_cons h4 (pss_cons h5 (pss_cons h6 (pss_cons h7 (pss_one h8))))))))))  , ?_⟩
  clear h0 h1 h2 h3 h4 h5 h6 h7 h8 b0 b1
  obtain ⟨okp, ok⟩ := Bool.and_eq_true_iff.mp ok
  obtain ⟨oke, oki⟩ := Bool.and_eq_true_iff.mp ok
  obtain ⟨flp, fle⟩ := Bool.and_eq_true_iff.mp fl
  have eN : ∀ {G G' : Hp}, L2.Same G G' → ExtN G G' := fun s b o h _ => s b o h
  have thN : ∀ {G : Hp} {v : V} {d : PyData}, ExtN H G → Th (Hid [] H) v d → Th G v d := fun e t => (t.ext (hid_N e)).ext hid_up
  have tup2 : ∀ {G : Hp} {σ : L2.St} {x : V} {te : TE} {R : VK} (s : Str), (∀ Q' : VK, Q' x G → te σ G Q') → (∀ a, G a = none → R (.ref a) (upd G a (.tup [.str s, x]))) → tTup (tCons (tC (.str s)) (tCons te tNil)) σ G R := fun s h k => h _ ⟨small4 2, k⟩
  unfold planF at k
  refine T3.if_intro (not_in (b_in ⟨vp, rfl, small4 2, fun q nq => ⟨vp, q, _, _, _, _, rfl, upd_same, .cons (.ty _) (.cons (.ty _) .nil), ((tp.ext hid_up).ext (same_new nq)).ty, is_lt dp, _, rfl, ?_⟩⟩))
  have s1 : L2.Same H (upd H q (.tup [.ty "list", .ty "tuple"])) := same_new nq
  cases l : isL dp with
  | false =>
    rw [l, if_neg Bool.false_ne_true] at k
    exact iteT (ret_intro (tup2 "parts" (fun Q' h => h) (k _ (eN s1) (hT.ext s1))))
  | true =>
    rw [l, if_pos rfl] at k
    generalize upd H q (.tup [.ty "list", .ty "tuple"]) = H1 at s1
    refine iteF (nx_intro (T3.set_intro (i := 3) fun p np => ?_))
    obtain ⟨o1, o2⟩ := Bool.and_eq_true_iff.mp okp
    have o1 := of_decide_eq_true o1
    refine for_enN (H0 := H1) (v := vp) (d := dp) (i1 := 4) (i2 := 5) (fun R h => ⟨vp, rfl, h⟩) (tp.ext (hid_same s1)) l (fun j σ G => ∃ (a4 a5 : Option V) (kvs : List (Key × V)) (ah : Str → Option Nat), σ = [some vp, some ve, some vi, some (.ref p), a4, a5, none] ∧ ExtN H1 G ∧ Tabs T G ∧ G p = some (.dK kvs) ∧ kvs.length ≤ j ∧ (∀ s : Str, valV kvs (.inr s) = (ah s).map fun n : Nat => V.int (n : Nat)) ∧ cpL (its dp) ah0 0 = cpL ((its dp).drop j) ah j)
      ⟨none, none, [], ah0, rfl, eN (same_new np), hT.ext (s1.trans (same_new np)), upd_same, Nat.le_refl _, fun s => rfl, rfl⟩ (fun j σ G e => ?_) (fun j z x σ' G hz tx e G' e' => ?_) (fun σ G e => ?_)
    · obtain ⟨_, _, _, _, _, e, _⟩ := e
      exact e
    · obtain ⟨a4, a5, kvs, ah, rfl, S, TG, hp, hk, hin, hf⟩ := e
      have jl : j < (its dp).length := (List.getElem?_eq_some_iff.mp hz).1
      rw [drop_getA hz] at hf
      have mz := List.mem_of_getElem? hz
      have okz := List.all_eq_true.mp o2 z mz
      have flz := List.all_eq_true.mp flp z mz
      have S1 := S.trans (eN e')
      have T1 := TG.ext e'
      have tx1 := tx.ext (hid_same e')
      have hp1 := e' _ _ hp
      have aD : AtD G' p ah := ⟨kvs, hp1, by omega, hin⟩
      have ef : cpL (z :: (its dp).drop (j + 1)) ah j = if (partB ah z && !(ah (partName z)).isSome) = true then cpL ((its dp).drop (j + 1)) (ahPut ah (partName z) (partLen z)) (j + 1) else (some j, ah) := rfl
      refine T3.if_intro (not_in (b_in ⟨x, rfl, .ref p, rfl, x, z, p, ah, rfl, tx1, okz, flz, aD, T1, fun G2 s2 T2 => ⟨_, rfl, ?_⟩⟩))
      have S2 := S1.trans s2
      cases q : (partB ah z && !(ah (partName z)).isSome) with
      | false =>
        rw [q, if_neg Bool.false_ne_true] at ef
        rw [ef] at hf
        have k2 := k G2 ((eN s1).trans S2) T2
        rw [hf] at k2
        exact iteT (ret_intro (tup2 "parts" (fun Q' h => ⟨_, rfl, h⟩) k2))
      | true =>
        rw [q, if_pos rfl] at ef
        obtain ⟨q1, q2⟩ := Bool.and_eq_true_iff.mp q
        obtain ⟨lz, s, b, c', eq, _, qb, _, _⟩ := part_parts q1
        have lb := (fne_none qb).1
        have en : partName z = s := by unfold partName; rw [eq]; rfl
        have el : partLen z = (its b).length := by unfold partLen; rw [eq]; rfl
        have hp2 := s2 _ _ hp1 (fun _ z => nomatch z)
        have tx2 : Th G2 x z := (tx1.ext (hid_N s2)).ext hid_up
        refine iteF (nx_intro ?_)
        refine ev_len (K := K) (rds_ix (K := K) (n := 1) (rds_var (i := 5) rfl tx2) lz (by rw [eq]; rfl)) lb ?_
        refine ⟨.ref p, rfl, rds_ix (K := K) (n := 0) (rds_var (i := 5) rfl tx2) lz (by rw [eq]; rfl) _ fun y ty => ?_⟩
        cases ty with
        | str =>
        refine ⟨p, _, rfl, DPut.k (k := .inr s) hp2 (by rw [sizeLine_eq]; omega), ?_⟩
        have sw : ∀ {o : HO} {bb : Addr} {oo : HO}, H1 bb = some oo → upd G2 p o bb = G2 bb := fun {o bb oo} hb => upd_ne (ne_of_none hb np)
        refine ⟨_, _, _, ahPut ah s (its b).length, rfl, fun bb o hb hn => ?_, ?_, upd_same, Nat.le_trans (length_putK _ _ _) (by omega), fun s' => ?_, by rw [hf, ef, en, el]⟩
        · rw [sw hb]
          exact S2 _ _ hb hn
        · exact tabs_upd T2 hp2
        · rw [valV_put]
          unfold ahPut
          by_cases es : s' = s
          · rw [if_pos (by rw [es]), if_pos es]
            rfl
          · rw [if_neg (fun y => es (Sum.inr.inj y)), if_neg es, hin s']
    · obtain ⟨a4, a5, kvs, ah, rfl, S, TG, hp, hk, hin, hf⟩ := e
      rw [List.drop_length] at hf
      have aD : AtD G p ah := ⟨kvs, hp, by omega, hin⟩
      have k : ∀ H', ExtN H H' → Tabs T H' → TellF (itemsF ah de di) H' Q := fun H' e1 t1 => by
        have := k H' e1 t1
        rw [hf] at this
        exact this
      clear hf hin
      have E0 := (eN s1).trans S
      unfold itemsF at k
      refine T3.set_intro (i := 4) ⟨ve, rfl, TG, fun c3 G3 e3 T3' hc3 => ?_⟩
      have E3 := E0.trans e3
      have te3 := thN E3 te
      refine ⟨ve, de, b1 (its de), rfl, te3, ?_, hc3, fun lb i G R hi sG kR => lam1_in (te3.ext sG) lb oke fle hi kR, fun G4 s4 => ?_⟩
      · have := (okNs_at oke).1
        omega
      rw [fne_foV]
      have E4 := E3.trans (eN s4)
      have T4 := T3'.ext s4
      have aD4 := aD.extN (e3.trans (eN s4))
      refine ifS_intro (tst_in ⟨_, rfl, _, _, rfl, rfl, _, rfl, ?_⟩)
      rw [oI_ge]
      cases qe : fne de with
      | some j =>
        have k2 := k _ E4 T4
        rw [qe] at k2
        exact iteT (ret_intro (tup2 "ends" (fun Q' h => ⟨_, rfl, h⟩) k2))
      | none =>
        rw [qe] at k
        obtain ⟨le, ne⟩ := fne_none qe
        refine iteF (nx_intro (T3.set_intro (i := 4) ⟨vi, rfl, T4, fun c5 G5 e5 T5' hc5 => ?_⟩))
        have E5 := E4.trans e5
        have ti5 := thN E5 ti
        have aD5 := aD4.extN e5
        refine ⟨vi, di, b2 ah (its di), rfl, ti5, ?_, hc5, fun lc i G R hi sG kR => lam2_in (ti5.ext sG) lc oki (aD5.ext sG) hi kR, fun G6 s6 => ?_⟩
        · obtain ⟨o1, _⟩ := Bool.and_eq_true_iff.mp oki
          have o1 := of_decide_eq_true o1
          omega
        rw [fni_foV]
        have E6 := E5.trans (eN s6)
        have T6 := T5'.ext s6
        refine ifS_intro (tst_in ⟨_, rfl, _, _, rfl, rfl, _, rfl, ?_⟩)
        rw [oI_ge]
        cases qi : fni ah di with
        | some j =>
          have k2 := k _ E6 T6
          rw [qi] at k2
          exact iteT (ret_intro (tup2 "items" (fun Q' h => ⟨_, rfl, h⟩) k2))
        | none =>
          rw [qi] at k
          obtain ⟨li, ii⟩ := fni_none qi
          refine iteF (nx_intro (T3.set_intro (i := 6) ?_))
          refine ⟨ve, rfl, vi, rfl, ve, vi, de, di, (its de).map strD, ah, rfl, thN E6 te, le, names_str ne, thN E6 ti, li, ii, all_len oke oki, wires_all_cps ne ii, fun G7 s7 => ?_⟩
          have ee : decide (V.str ((fnt (wiresAll de di)).getD "") = V.str "") = (fnt (wiresAll de di)).isNone := odd_emp (fnt_ne (wires_ne ne ii))
          have k2 := k _ (E6.trans (eN s7)) (T6.ext s7)
          refine ret_intro (iff_in (tst_in ⟨_, rfl, rfl, _, rfl, ?_⟩))
          show (if (!decide (V.str ((fnt (wiresAll de di)).getD "") = V.str "")) = true then _ else _)
          rw [ee]
          cases qf : fnt (wiresAll de di) with
          | none =>
            rw [qf] at k2
            exact iteF k2
          | some t =>
            rw [qf] at k2
            refine iteT (tup2 "wire" (fun Q' h => ⟨_, rfl, ?_⟩) k2)
            show Q' (.str ((fnt (wiresAll de di)).getD "")) G7
            rw [qf]
            exact h
end
end K14.T5
namespace K14.T5
open T27 T3
open K14.Gn
open PySem PySem.W PySem.Calls PyProof.Rows L2 LamX NdefX
open He (ga)
open Kz (SS ExtS ExtS.trans small4 same_new boot_in boot_li boot_isi Has pe_has noE PSs.of_eq seqI new_ext X1 shaped_int dpAll_int)
/-! ### _law_planned -/
abbrev sPd : Stmt := topS 56
abbrev NPd : List Str := ["parts", "ends", "items", "e"]
theorem scPd : FnScope NPd ["parts", "ends", "items"] (defScope sPd) := ⟨rfl, rfl, rfl, by decide +kernel, rfl, by decide +kernel, by decide +kernel⟩
theorem bdPd : defBody sPd = [stOf sPd 0, stOf sPd 1] := by rfl
/-- class, word, field -/
def asks5 : List (Str × Str × Str) := [("BadParts", "parts", "index"), ("BadEnds", "ends", "index"), ("BadItems", "items", "index"), ("BadWire", "wire", "name")]
/-- what the law's try does with an error -/
def E5 (K : Frag) (Q : VK) : XK := fun cls d H' => ∃ t : PF, cls = .ref (ga K t.cls) ∧ ∃ dx : Addr, d = some dx ∧ H' dx = some (.xd [(t.fld, t.val)]) ∧ ∀ (H'' : Hp) (a : Addr), L2.Same H' H'' → H'' a = none → Q (.ref a) (upd H'' a (.tup [.str t.kind, t.val]))
structure PdK (P : Program) (K : Frag) (mg : Str → Option Value) : Prop where
  er : ∀ p ∈ asks5, mg p.1 = some (.ref (ga K p.1)) ∧ X1 P K (ga K p.1) p.2.2
  ex : ∀ p ∈ asks5, ∀ q ∈ asks5, exmOne K (.ref (ga K p.1)) (.ref (ga K q.1)) = some (decide (p.1 = q.1))
section
variable {P : Program} {w : World} {K : Frag} {mg : Str → Option Value} {base : Heap}
def spPd : Sp := fun vs H Q _ => ∃ (vp ve vi : V) (dp de di : PyData), vs = [vp, ve, vi] ∧ Th H vp dp ∧ Th H ve de ∧ Th H vi di ∧ okPlan dp de di = true ∧ ∀ H', L2.Same H H' → TellF (planF dp de di) H' Q
theorem ok_pd {f : Addr} {fd : FuncData} (F : FunD K "_law_planned" "_law_planned" (defArgs sPd) (defBody sPd) (defScope sPd) [] [] f fd) (R : PdK P K mg) (PL : HasCX P w K mg base "Plan" (PlC K) 9 ["self", "parts", "ends", "items"] (spPn K)) : FnOk P w K mg base CX0 11 f fd ["parts", "ends", "items"] spPd := by
  refine F.ok scPd (fun vs H Q E h => ?_) (fun cdv A outer s H vs Q XE hr h => ?_)
  · obtain ⟨vp, ve, vi, dp, de, di, rfl, _⟩ := h
    rfl
  · obtain ⟨vp, ve, vi, dp, de, di, rfl, tp, te, ti, ok, k⟩ := h
    have cl : ∀ p ∈ asks5, ∀ {b0 : Stmt} {q1 q2 q3 q4 q5 : Pos} {j k : Nat}, b0 = .Return (some (.Tuple [.Constant (.str p.2.1) j q1, .Attribute (.Name "e" q2) p.2.2 q3] k q4)) q5 →
        Clause (XC P w K mg base NPd "_law_planned" sPd f cdv A outer s H XE) p.1 "e" (.ref (ga K p.1)) 3 b0 [] (fun a cls d => tRet (tTup (tCons (fun σ H Q => Q (.str p.2.1) H) (tCons (tXf a cls d (ga K p.1) p.2.2 (tVar 3)) tNil)))) := fun p hp b0 q1 q2 q3 q4 q5 j k e => by
      subst e
      have glo : ∀ p ∈ asks5, Gl (XC P w K mg base NPd "_law_planned" sPd f cdv A outer s H XE) p.1 ∧ (p.1 == ("__debug__" : Str)) = false := fun p hp => by
        simp only [asks5, List.mem_cons, List.not_mem_nil, or_false] at hp
        rcases hp with rfl | rfl | rfl | rfl <;> exact ⟨rfl, by decide⟩
      refine ⟨rfl, rfl, ⟨(glo p hp).1, (glo p hp).2, .inl (R.er p hp).1⟩, fun a oe cls d pn hz hf => ?_⟩
      exact pss_one (ps_ret (pe_tup (pa_cons pe_str (pa_cons (pe_xf (x1_xf (R.er p hp).2) (R.er p hp).2.no hz hf (pv 3)) pa_nil))))
    have m0 : (("BadParts", "parts", "index") : Str × Str × Str) ∈ asks5 := by simp [asks5]
    have m1 : (("BadEnds", "ends", "index") : Str × Str × Str) ∈ asks5 := by simp [asks5]
    have m2 : (("BadItems", "items", "index") : Str × Str × Str) ∈ asks5 := by simp [asks5]
    have m3 : (("BadWire", "wire", "name") : Str × Str × Str) ∈ asks5 := by simp [asks5]
    have h0 : PS (XC P w K mg base NPd "_law_planned" sPd f cdv A outer s H XE) (stOf sPd 0) _ := ps_try_each (X := XC P w K mg base NPd "_law_planned" sPd f cdv A outer s H XE)
      (tb := fun W D σ H => ∃ Ech : XK, (∀ cls d σ' H', Ech cls d H' → W cls d σ' H') ∧ tDrop (tMake (PlC K) (spPn K) [] Ech (tCons (tVar 0) (tCons (tVar 1) (tCons (tVar 2) tNil)))) D σ H)
      rfl rfl scPd.nd takes0 (fun W pn xe tk _ => ⟨fun pins s' σ H' D I h' => by
        obtain ⟨Ech, hW, h1⟩ := h'
        exact (pss_one (ps_expr (pe_hasCX PL hr (by rfl) (passes_call tk hW) (pa_cons (pv 0) (pa_cons (pv 1) (pa_cons (pv 2) pa_nil)))))).run pins s' σ H' D I h1⟩)
      (.cons (cl _ m0 rfl) (.cons (cl _ m1 rfl) (.cons (cl _ m2 rfl) (.cons (cl _ m3 rfl) .nil))))
    have h1 : PS (XC P w K mg base NPd "_law_planned" sPd f cdv A outer s H XE) (stOf sPd 1) _ := ps_ret pe_non
    refine ⟨_, PSs.nox (PSs.of_eq bdPd (pss_cons h0 (pss_one h1))), ?_⟩
    clear h0 h1 cl
    refine ⟨E5 K Q, fun cls d σ' H' ⟨t, ec, dx, ed, hx, kt⟩ => ?_, ?_⟩
    · subst ec
      subst ed
      have fin : ∀ (a : Addr), σ'.length = 4 → tRet (tTup (tCons (fun σ H Q => Q (.str t.kind) H) (tCons (tXf a (.ref (ga K t.cls)) (some dx) (ga K t.cls) t.fld (tVar 3)) tNil))) (endsOf { nx := tRet (tC V.non) { nx := fun _ H' => Q .non H', rt := Q }, rt := Q } 3) (σ'.set 3 (some (.ref a))) H' := fun a l => by
        obtain ⟨x0, x1, x2, x3, rfl⟩ : ∃ x0 x1 x2 x3, σ' = [x0, x1, x2, x3] := by
          match σ', l with
          | [x0, x1, x2, x3], _ => exact ⟨x0, x1, x2, x3, rfl⟩
        exact ⟨.ref a, rfl, rfl, rfl, dx, _, t.val, rfl, hx, by simp [List.lookup], small4 2, fun u nu => kt _ u (fun _ _ e => e) nu⟩
      have ex := R.ex
      cases t with
      | parts j => exact ⟨true, ex _ m0 _ m0, fun _ a _ l => fin a l, fun z => nomatch z⟩
      | ends j => exact ⟨false, ex _ m1 _ m0, (fun z => nomatch z), fun _ => ⟨true, ex _ m1 _ m1, fun _ a _ l => fin a l, fun z => nomatch z⟩⟩
      | items j => exact ⟨false, ex _ m2 _ m0, (fun z => nomatch z), fun _ => ⟨false, ex _ m2 _ m1, (fun z => nomatch z), fun _ => ⟨true, ex _ m2 _ m2, fun _ a _ l => fin a l, fun z => nomatch z⟩⟩⟩
      | wire s => exact ⟨false, ex _ m3 _ m0, (fun z => nomatch z), fun _ => ⟨false, ex _ m3 _ m1, (fun z => nomatch z), fun _ => ⟨false, ex _ m3 _ m2, (fun z => nomatch z), fun _ => ⟨true, ex _ m3 _ m3, fun _ a _ l => fin a l, fun z => nomatch z⟩⟩⟩⟩
    · refine ⟨vp, rfl, ve, rfl, vi, rfl, fun x dx nx nd ne => ?_⟩
      have nx1 : upd H dx (.own x) x = none := by
        rw [upd_ne (fun z => ne z.symm)]
        exact nx
      have S : L2.Same H (upd (upd H dx (.own x)) x (.ins (PlC K) dx [])) := (same_new nd).trans (same_new nx1)
      refine ⟨x, dx, vp, ve, vi, dp, de, di, rfl, upd_same, K14.Gn.Th.hid nx S tp, K14.Gn.Th.hid nx S te, K14.Gn.Th.hid nx S ti, ok, fun t e H' dx2 s2 q => ⟨t, rfl, dx2, rfl, q, fun H'' a s3 na => ?_⟩, fun e H' ex => ⟨rfl, ?_⟩⟩
      · have := k H'' ((S.trans s2).trans s3)
        rw [e] at this
        exact this a na
      · have := k H' (fun b o h => ex b o (S _ _ h) (fun z => by rw [z, nx] at h; cases h))
        rw [e] at this
        exact nx_intro (ret_intro this)
end
end K14.T5
namespace K14.T5
open T27 T3
open K14.Gn
open PySem PySem.W PySem.Calls PyProof.Rows L2 LamX
/-! ### planF does not see whether a thing is a list or a tuple -/
theorem isL_cases {d : PyData} (l : isL d = true) : (∃ xs, d = .list xs) ∨ (∃ xs, d = .tuple xs) := by
  cases d with
  | list xs => exact .inl ⟨xs, rfl⟩
  | tuple xs => exact .inr ⟨xs, rfl⟩
  | _ => exact absurd l Bool.false_ne_true
theorem lq_const {α : Type} (f : PyData → α) (c : α) (hl : ∀ xs, f (.list xs) = c) (ht : ∀ xs, f (.tuple xs) = c) {d e : PyData} (h : Lq d e) : f d = f e := by
  cases h with
  | flat => rfl
  | seq a b _ =>
    rcases isL_cases a with ⟨xs, rfl⟩ | ⟨xs, rfl⟩ <;> rcases isL_cases b with ⟨ys, rfl⟩ | ⟨ys, rfl⟩ <;> simp only [hl, ht]
theorem lq_name {d e : PyData} (h : Lq d e) : nameB d = nameB e := lq_const nameB false (fun _ => rfl) (fun _ => rfl) h
theorem lq_strD {d e : PyData} (h : Lq d e) : strD d = strD e := lq_const strD "" (fun _ => rfl) (fun _ => rfl) h
theorem lq_txt {d e : PyData} (h : Lq d e) (ss : List Str) : txtIn ss d = txtIn ss e := lq_const (txtIn ss) false (fun _ => rfl) (fun _ => rfl) h
theorem lq_isD {d e : PyData} (h : Lq d e) : isD d = isD e := lq_const isD false (fun _ => rfl) (fun _ => rfl) h
theorem lq_shS {d e : PyData} (h : Lq d e) : shS d = shS e := lq_const shS true (fun _ => rfl) (fun _ => rfl) h
theorem lq_all {f : PyData → Bool} (hf : ∀ {d e : PyData}, Lq d e → f d = f e) : ∀ {ds es : List PyData}, LqAll ds es → ds.all f = es.all f
  | _, _, .nil => rfl
  | _, _, .cons h r => by rw [List.all_cons, List.all_cons, hf h, lq_all hf r]
theorem lq_names {d e : PyData} (h : Lq d e) : (its d).all nameB = (its e).all nameB := lq_all lq_name h.its
theorem lq_namesB {d e : PyData} (h : Lq d e) : namesB d = namesB e := by
  unfold namesB
  rw [h.isL, lq_names h]
theorem lq_useM : ∀ {ds es : List PyData}, LqAll ds es → useM ds = useM es
  | _, _, .nil => rfl
  | _, _, .cons _ .nil => rfl
  | _, _, .cons _ (.cons _ .nil) => rfl
  | _, _, .cons a (.cons b (.cons c .nil)) => by
    show (txtIn ["use"] _ && (nameB _ && namesB _)) = (txtIn ["use"] _ && (nameB _ && namesB _))
    rw [lq_txt a, lq_name b, lq_namesB c]
  | _, _, .cons _ (.cons _ (.cons _ (.cons _ _))) => rfl
theorem lq_joinM : ∀ {ds es : List PyData}, LqAll ds es → joinM ds = joinM es
  | _, _, .nil => rfl
  | _, _, .cons _ .nil => rfl
  | _, _, .cons _ (.cons _ .nil) => rfl
  | _, _, .cons a (.cons b (.cons c .nil)) => by
    show (txtIn ["join"] _ && [_, _].all nameB) = (txtIn ["join"] _ && [_, _].all nameB)
    rw [lq_txt a, lq_all lq_name (.cons b (.cons c .nil))]
  | _, _, .cons _ (.cons _ (.cons _ (.cons _ _))) => rfl
theorem lq_loopM : ∀ {ds es : List PyData}, LqAll ds es → loopM ds = loopM es
  | _, _, .nil => rfl
  | _, _, .cons a .nil => lq_txt a _
  | _, _, .cons _ (.cons _ _) => rfl
theorem lq_cellM : ∀ {ds es : List PyData}, LqAll ds es → cellM ds = cellM es
  | _, _, .nil => rfl
  | _, _, .cons _ .nil => rfl
  | _, _, .cons a (.cons b .nil) => by
    show (txtIn ["stop"] _ && nameB _) = (txtIn ["stop"] _ && nameB _)
    rw [lq_txt a, lq_name b]
  | _, _, .cons _ (.cons _ (.cons _ .nil)) => rfl
  | _, _, .cons a (.cons b (.cons c (.cons e .nil))) => by
    show (txtIn ["x", "y"] _ && [_, _, _].all nameB) = (txtIn ["x", "y"] _ && [_, _, _].all nameB)
    rw [lq_txt a, lq_all lq_name (.cons b (.cons c (.cons e .nil)))]
  | _, _, .cons _ (.cons _ (.cons _ (.cons _ (.cons _ _)))) => rfl
theorem fit_no {ah : Str → Option Nat} {ds : List PyData} (h : ds.length ≠ 3) : fitM ah ds = false := by
  unfold fitM
  split
  · exact absurd rfl h
  · rfl
theorem lq_fitM {ah : Str → Option Nat} : ∀ {ds es : List PyData}, LqAll ds es → fitM ah ds = fitM ah es
  | _, _, .nil => rfl
  | _, _, .cons _ .nil => by rw [fit_no (by simp), fit_no (by simp)]
  | _, _, .cons _ (.cons _ .nil) => by rw [fit_no (by simp), fit_no (by simp)]
  | _, _, .cons (d := a) (e := a') _ (.cons (d := b) (e := b') hb (.cons (d := c) (e := c') hc .nil)) => by
    cases hb with
    | flat l =>
      cases b with
      | str t =>
        show decide (ah t = some (its c).length) = decide (ah t = some (its c').length)
        rw [hc.its.len]
      | _ => rfl
    | seq l l' _ => rcases isL_cases l with ⟨xs, rfl⟩ | ⟨xs, rfl⟩ <;> rcases isL_cases l' with ⟨ys, rfl⟩ | ⟨ys, rfl⟩ <;> rfl
  | _, _, .cons _ (.cons _ (.cons _ (.cons _ _))) => by
    rw [fit_no (by simp), fit_no (by simp)]
theorem lq_item {ah : Str → Option Nat} {d e : PyData} (h : Lq d e) : itemB ah d = itemB ah e := by
  unfold itemB cellB useB joinB
  rw [h.isL, lq_useM h.its, lq_fitM h.its, lq_cellM h.its, lq_joinM h.its, lq_loopM h.its]
theorem lq_fniL {ah : Str → Option Nat} : ∀ {ds es : List PyData} (j : Nat), LqAll ds es → fniL ah ds j = fniL ah es j
  | _, _, _, .nil => rfl
  | _, _, j, .cons (ds := ds) (es := es) h r => by
    show (if itemB ah _ = true then fniL ah ds (j + 1) else some j) = (if itemB ah _ = true then fniL ah es (j + 1) else some j)
    rw [lq_item h, lq_fniL (j + 1) r]
theorem lq_fni {ah : Str → Option Nat} {d e : PyData} (h : Lq d e) : fni ah d = fni ah e := by
  unfold fni
  rw [h.isL, lq_fniL 0 h.its]
theorem lq_fneL : ∀ {ds es : List PyData} (st : List Str) (j : Nat), LqAll ds es → fneL ds st j = fneL es st j
  | _, _, _, _, .nil => rfl
  | _, _, st, j, .cons (d := d) (e := e) (ds := ds) (es := es) h r => by
    cases h with
    | flat l =>
      cases d with
      | str s =>
        show (if (nameB (.str s) && !st.contains s) = true then fneL ds (st ++ [s]) (j + 1) else some j) = (if (nameB (.str s) && !st.contains s) = true then fneL es (st ++ [s]) (j + 1) else some j)
        rw [lq_fneL _ _ r]
      | _ => rfl
    | seq l l' _ => rcases isL_cases l with ⟨xs, rfl⟩ | ⟨xs, rfl⟩ <;> rcases isL_cases l' with ⟨ys, rfl⟩ | ⟨ys, rfl⟩ <;> rfl
theorem lq_fne {d e : PyData} (h : Lq d e) : fne d = fne e := by
  unfold fne
  rw [h.isL, lq_fneL [] 0 h.its]
theorem lq_map : ∀ {ds es : List PyData}, LqAll ds es → ds.map strD = es.map strD
  | _, _, .nil => rfl
  | _, _, .cons h r => by rw [List.map_cons, List.map_cons, lq_strD h, lq_map r]
theorem lq_wS {d e : PyData} (h : Lq d e) : wS d = wS e := by
  have hi := h.its
  unfold wS wiresD
  generalize its d = ds at hi
  generalize its e = es at hi
  cases hi with
  | nil => rfl
  | cons a r =>
    show (if txtIn ["use"] _ = true then _ else _ : List PyData).map strD = (if txtIn ["use"] _ = true then _ else _ : List PyData).map strD
    rw [lq_txt a]
    split
    · cases r with
      | nil => rfl
      | cons b r =>
        cases r with
        | nil => rfl
        | cons c r => exact lq_map c.its
    · exact lq_map r
theorem lq_wSs : ∀ {ds es : List PyData}, LqAll ds es → ds.flatMap wS = es.flatMap wS
  | _, _, .nil => rfl
  | _, _, .cons h r => by rw [List.flatMap_cons, List.flatMap_cons, lq_wS h, lq_wSs r]
theorem lq_wires {b b' c c' : PyData} (h : Lq b b') (g : Lq c c') : wiresAll b c = wiresAll b' c' := by
  unfold wiresAll
  rw [lq_map h.its, lq_wSs g.its]
theorem lq_partM {ah : Str → Option Nat} : ∀ {ds es : List PyData}, LqAll ds es → partM ah ds = partM ah es
  | _, _, .nil => rfl
  | _, _, .cons _ .nil => rfl
  | _, _, .cons _ (.cons _ .nil) => rfl
  | _, _, .cons a (.cons b (.cons c .nil)) => by
    show (nameB _ && ((fne _).isNone && ((fni ah _).isNone && (fnt (wiresAll _ _)).isNone))) = (nameB _ && ((fne _).isNone && ((fni ah _).isNone && (fnt (wiresAll _ _)).isNone)))
    rw [lq_name a, lq_fne b, lq_fni c, lq_wires b c]
  | _, _, .cons _ (.cons _ (.cons _ (.cons _ _))) => rfl
theorem lq_part {ah : Str → Option Nat} {d e : PyData} (h : Lq d e) : partB ah d = partB ah e := by
  unfold partB
  rw [h.isL, lq_partM h.its]
theorem lq_pName {d e : PyData} (h : Lq d e) : partName d = partName e := by
  have hi := h.its
  unfold partName
  generalize its d = ds at hi
  generalize its e = es at hi
  cases hi with
  | nil => rfl
  | cons a r => exact lq_strD a
theorem lq_pLen {d e : PyData} (h : Lq d e) : partLen d = partLen e := by
  have hi := h.its
  unfold partLen
  generalize its d = ds at hi
  generalize its e = es at hi
  cases hi with
  | nil => rfl
  | cons a r =>
    cases r with
    | nil => rfl
    | cons b r => exact b.its.len
theorem lq_cpL : ∀ {ds es : List PyData} (ah : Str → Option Nat) (j : Nat), LqAll ds es → cpL ds ah j = cpL es ah j
  | _, _, _, _, .nil => rfl
  | _, _, ah, j, .cons (ds := ds) (es := es) h r => by
    show (if (partB ah _ && !(ah (partName _)).isSome) = true then cpL ds (ahPut ah (partName _) (partLen _)) (j + 1) else (some j, ah)) = (if (partB ah _ && !(ah (partName _)).isSome) = true then cpL es (ahPut ah (partName _) (partLen _)) (j + 1) else (some j, ah))
    rw [lq_part h, lq_pName h, lq_pLen h, lq_cpL _ _ r]
theorem planF_lq {p p' e e' i i' : PyData} (hp : Lq p p') (he : Lq e e') (hi : Lq i i') : planF p e i = planF p' e' i' := by
  unfold planF
  rw [hp.isL, lq_cpL ah0 0 hp.its]
  have : ∀ ah, itemsF ah e i = itemsF ah e' i' := fun ah => by
    unfold itemsF
    rw [lq_fne he, lq_fni hi, lq_wires he hi]
  split
  · split
    · rfl
    · exact this _
  · rfl
theorem lq_okNs {d e : PyData} (h : Lq d e) : okNs d = okNs e := by
  unfold okNs
  rw [h.its.len, lq_all lq_shS h.its]
theorem lq_okIt {d e : PyData} (h : Lq d e) : okIt d = okIt e := by
  unfold okIt
  rw [h.its.len, lq_all (f := fun y => !isD y && (shS y && okNs y)) (fun h => by
    show (!isD _ && (shS _ && okNs _)) = (!isD _ && (shS _ && okNs _))
    rw [lq_isD h, lq_shS h, lq_okNs h]) h.its]
theorem lq_okIts {d e : PyData} (h : Lq d e) : okIts d = okIts e := by
  unfold okIts
  rw [h.its.len, lq_all lq_okIt h.its]
theorem lq_okPt {d e : PyData} (h : Lq d e) : okPt d = okPt e := by
  unfold okPt
  rw [h.its.len, lq_all (f := fun y => shS y && (okNs y && okIts y)) (fun h => by
    show (shS _ && (okNs _ && okIts _)) = (shS _ && (okNs _ && okIts _))
    rw [lq_okIts h, lq_shS h, lq_okNs h]) h.its]
theorem okPlan_lq {p p' e e' i i' : PyData} (hp : Lq p p') (he : Lq e e') (hi : Lq i i') : okPlan p e i = okPlan p' e' i' := by
  unfold okPlan okPts
  rw [hp.its.len, lq_all lq_okPt hp.its, lq_okNs he, lq_okIts hi]
end K14.T5
namespace K14.Gn
open PySem PySem.W PySem.Calls PyProof.Rows L2 LamX
open Kz (noE)
/-- [.. for i in range(n)] -/
theorem lc_rngM {K : Frag} {k n : Nat} {σ : L2.St} {H : Hp} {ta : TA} {te : TE} {vs : List Nat} (f : Nat → V) {Q : VK} (ht : ∀ R : List V → Hp → Prop, R [.int (n : Nat)] H → ta σ H R) (n1 : n ≤ 100000) (hw : ∀ y : V, wipe ((wipe σ vs).set k (some y)) vs = wipe σ vs)
    (hs : ∀ (i : Nat) (G : Hp) (Q' : VK), i < n → L2.Same H G → (∀ G', L2.Same G G' → Q' (f i) G') → te ((wipe σ vs).set k (some (.int (0 + (i : Nat))))) G Q')
    (hq : ∀ (G : Hp) (D : Addr), L2.Same H G → H D = none → G D = some (.lst ((List.range n).map f)) → Q (.ref D) G) : tLc (iRng1 ta) (gName k) tYes te vs σ H Q := by
  refine ht _ ⟨(n : Nat), rfl, by omega, by omega, fun D hD => lc_acc (S := []) walk_range (fun b h => nomatch h) hD (by omega) (fun _ _ => trivial) (fun i ys _ => ys = (List.range i).map f) (fun i ys G G' e _ => e) rfl (fun i v G1 G2 ys Qy Qn hi s1 insG a y ky kn => ?_) (fun G ys s1 hA a => ?_)⟩
  · obtain ⟨rfl, rfl⟩ := y
    refine gset ⟨hw _, ?_⟩
    unfold tYes
    show (if true = true then _ else _)
    rw [if_pos rfl]
    refine hs i _ Qy (by omega) s1 fun G' s' => ky _ _ s' ?_
    rw [a, List.range_succ, List.map_append]
    rfl
  · rw [a] at hA
    exact hq G D s1 hD (by simpa using hA)
end K14.Gn
namespace K14.T5
open T27 T3
open K14.Gn
open PySem PySem.W PySem.Calls PyProof.Rows L2 LamX NdefX
open He (ga)
open Kz (SS ExtS ExtS.trans small4 same_new boot_in boot_li boot_isi Has pe_has noE PSs.of_eq seqI new_ext X1 shaped_int dpAll_int)
/-! ### _law_fresh -/
abbrev sFr : Stmt := topS 37
abbrev NFr : List Str := ["stream", "ends", "many", "some", "name", "number"]
theorem scFr : FnScope NFr ["stream", "ends", "many"] (defScope sFr) := ⟨rfl, rfl, rfl, by decide +kernel, rfl, by decide +kernel, by decide +kernel⟩
theorem bdFr : defBody sFr = [stOf sFr 0, stOf sFr 1, stOf sFr 2] := by rfl
def frSc2 : Scope := match stOf sFr 2 with
  | .Return (some (.Subscript (.BinOp _ _ (.ListComp _ _ sc _) _) _ _)) _ => sc
  | _ => default
def pool : List Str := ["p", "q", "r", "w1", "w2", "w3", "w10", "a", "bb", "c0", "eightsgn", "eightsg9", "in", "out", "xy", "w01"]
def vNm (k : Nat) : Str := ("v" : Str) ++ Str.ofString (toString ((k : Nat) : Int))
def vs100 : List Str := (List.range 100).map vNm
theorem pool_ok : (pool ++ vs100).all (fun s => nameB (.str s)) = true ∧ (pool ++ vs100).Nodup ∧ vs100.all (fun s => !endNames.contains s) = true := by
  refine ⟨by decide +kernel, by decide +kernel, by decide +kernel⟩
theorem len_v : (List.range 100).all (fun i => decide (("v" : Str).length + (Str.ofString (toString ((i : Nat) : Int))).length ≤ 16777216)) = true := by decide +kernel
section
variable {P : Program} {w : World} {K : Frag} {mg : Str → Option Value} {base : Heap}
/-- names that are new beside es -/
structure FreshN (es ns : List Str) : Prop where
  nd : ns.Nodup
  nm : ∀ s ∈ ns, nameB (.str s) = true
  ne : ∀ s ∈ ns, s ∉ es
def spFr : Sp := fun vs H Q _ => ∃ (l li ea : Addr) (c : Int) (es : List Str) (m : Nat), vs = [.ref l, .ref ea, .int (m : Nat)] ∧ Spr H l li c ∧ ea ≠ l ∧ ea ≠ li ∧ H ea = some (.lst (es.map V.str)) ∧ (∀ s ∈ es, s ∈ endNames) ∧ m ≤ 100 ∧ c < 800000000 ∧
  ∀ (H' : Hp) (r : Addr) (ns : List Str) (c' : Int), ExtS l li H H' → Spr H' l li c' → c' ≤ c + 16 → H r = none → r ≠ l → r ≠ li → H' r = some (.lst (ns.map V.str)) → ns.length = m → FreshN es ns → Q (.ref r) H'
theorem ok_fr {f : Addr} {fd : FuncData} (F : FunD K "_law_fresh" "_law_fresh" (defArgs sFr) (defBody sFr) (defScope sFr) [] [] f fd) (M : Has P w K mg base "_law_mixed" 2 ["stream", "some"] spMxW) (mr : mg "range" = none) (ms : mg "str" = none) : FnOk P w K mg base CX0 3 f fd ["stream", "ends", "many"] spFr := by
  refine F.ok scFr (fun vs H Q E h => ?_) (fun cdv A outer s H vs Q XE hr h => ?_)
  · obtain ⟨l, li, ea, c, es, m, rfl, _⟩ := h
    rfl
  · obtain ⟨l, li, ea, c, es, m, rfl, hs, e1, e2, he, hm, m1, hc, k⟩ := h
    have h0 : PS (XC P w K mg base NFr "_law_fresh" sFr f cdv A outer s H XE) (stOf sFr 0) _ := ps_set (i := 3) scFr.nd rfl (.inl rfl) (pe_lst (pa_cons pe_str (pa_cons pe_str (pa_cons pe_str (pa_cons pe_str (pa_cons pe_str (pa_cons pe_str (pa_cons pe_str (pa_cons pe_str (pa_cons pe_str (pa_cons pe_str (pa_cons pe_str (pa_cons pe_str (pa_cons pe_str (pa_cons pe_str (pa_cons pe_str (pa_cons pe_str pa_nil)))))))))))))))))
    have h1 : PS (XC P w K mg base NFr "_law_fresh" sFr f cdv A outer s H XE) (stOf sFr 1) _ := ps_setLc (i := 3) (X := XC P w K mg base NFr "_law_fresh" sFr f cdv A outer s H XE) (scope := scAsg (stOf sFr 1)) (own := [("name", 4)]) (g := gName 4) (tt := tTest (tOp (rIn K true) (tVar 4) (tVar 1))) (te := tVar 4) rfl scFr.nd rfl rfl (sw_true rfl rfl rfl (by decide +kernel)) (pi_list (pv 3)) (blkOk_by (N := NFr) (sc := defScope sFr) (by decide +kernel)) (fun _ _ _ _ _ => pg_name (i := 4) scFr.nd rfl (Or.inl rfl))
      (fun s0 H0 C0 cl0 fp0 => pts_one (by exact pt_cmpR op_notIn_seq (pv 4) (pv 1) (by rfl))) (fun s0 H0 C0 cl0 fp0 => by exact pv 4)
    have h2 : PS (XC P w K mg base NFr "_law_fresh" sFr f cdv A outer s H XE) (stOf sFr 2) _ := ps_ret (pe_slice sl_list (pe_op op_cat (pe_has M hr (by rfl) (pa_cons (pv 0) (pa_cons (pv 3) pa_nil))) (pe_lc (X := XC P w K mg base NFr "_law_fresh" sFr f cdv A outer s H XE) (scope := frSc2) (own := [("number", 5)]) (g := gName 5) (tt := tYes)
      (te := tOp (fun x y H Q => ∃ a b, x = .str a ∧ y = .str b ∧ a.length + b.length ≤ sizeLine ∧ Q (.str (a ++ b)) H) (tC (.str "v")) (tCB (fun xs H Q => ∃ i, xs = [.int i] ∧ i.natAbs.log2 < 1920 ∧ Q (.str (toString i)) H) (tCons (tVar 5) tNil))) rfl scFr.nd (pi_range1 (by rfl) mr (pa_cons (pv 2) pa_nil)) (blkOk_by (N := NFr) (sc := defScope sFr) (by decide +kernel)) (fun _ _ _ _ _ => pg_name (i := 5) scFr.nd rfl (Or.inl rfl)) (fun _ _ _ _ _ => pts_nil)
      (fun s0 H0 C0 cl0 fp0 => by exact pe_op op_add_str pe_str (pe_callTy call_str_int (by rfl) ms boot_st (pa_cons (pv 5) pa_nil))))) po_none (po_some (pv 2)))
    refine ⟨_, PSs.nox (PSs.of_eq bdFr (pss_cons h0 (pss_cons h1 (pss_one h2)))), ?_⟩
    clear h0 h1 h2
    refine T3.set_intro (i := 3) ⟨small4 16, fun sa nsa => ?_⟩
    have na := hs.new nsa
    have z1 : L2.Same H (upd H sa (.lst (pool.map V.str))) := same_new nsa
    have s1 := hs.same z1
    refine T69.asg_intro ?_
    refine lc_lstIf (K := K) (a := sa) (xs := pool.map V.str) (fun x => match x with | .str t => !es.contains t | _ => false) (fun R h => ⟨.ref sa, rfl, h⟩) upd_same (by decide) (fun _ => rfl) (fun x G R hx s2 kR => ?_) (fun x G Q' h => ⟨x, rfl, h⟩) fun G D s2 nD hD => ?_
    · obtain ⟨t, ht, rfl⟩ := List.mem_map.mp hx
      refine tst_in ⟨.str t, rfl, .ref ea, rfl, ea, es.map V.str, rfl, .inl (.inl (.inl (s2 _ _ (z1 _ _ he)))), rfl, K14.Gn.flat_strs es, _, rfl, ?_⟩
      have ei : inV (.str t) (es.map V.str) = es.contains t := by
        unfold inV
        rw [List.any_map]
        show es.any (fun y => y == t) = _
        rw [Bool.eq_iff_iff, List.any_eq_true, List.contains_iff_mem]
        exact ⟨fun ⟨y, hy, e⟩ => by rw [← beq_iff_eq.mp e]; exact hy, fun h => ⟨t, h, beq_self_eq_true t⟩⟩
      show R (!inV (.str t) (es.map V.str)) G
      rw [ei]
      exact kR G fun _ _ e => e
    · have ef : (pool.map V.str).filter (fun x => match x with | .str t => !es.contains t | _ => false) = (pool.filter fun t => !es.contains t).map V.str := by
        rw [List.filter_map]
        rfl
      rw [ef] at hD
      generalize ep : pool.filter (fun t => !es.contains t) = ps at hD
      have lp : ps.length ≤ 16 := by
        rw [← ep]
        exact List.length_filter_le _ _
      have hp : ∀ s ∈ ps, s ∈ pool ∧ s ∉ es := fun s hs => by
        rw [← ep] at hs
        obtain ⟨h1, h2⟩ := List.mem_filter.mp hs
        refine ⟨h1, fun h => ?_⟩
        rw [List.contains_iff_mem.mpr h] at h2
        cases h2
      have dp : ps.Nodup := by
        rw [← ep]
        exact (List.nodup_append.mp pool_ok.2.1).1.filter _
      refine gset (ret_intro ?_)
      have S2 := z1.trans s2
      have e0 : ExtS l li H G := same_S S2
      refine ⟨.ref l, rfl, .ref D, rfl, l, li, D, c, ps.map V.str, rfl, hs.same S2, hD, by rw [List.length_map]; omega, by omega, fun H1 r ys x1 sp1 nr r1 r2 hy pm => ?_⟩
      obtain ⟨ms, rfl, pn⟩ := strs_of pm
      have E1 := e0.trans x1
      rw [List.length_map] at sp1
      refine lc_rngM (K := K) (n := m) (fun i => V.str (vNm i)) (fun R h => ⟨.int (m : Nat), rfl, h⟩) (by omega) (fun _ => rfl) (fun i G3 Q' hi s3 kQ => ?_) fun G3 D3 s3 nD3 hD3 => ?_
      · refine T3.op_in ⟨.int (0 + (i : Nat)), rfl, 0 + (i : Nat), rfl, ?_, "v", _, rfl, rfl, ?_, ?_⟩
        · have : (0 + (i : Int)).natAbs = i := by omega
          rw [this]
          have h1 : i.log2 ≤ i := Nat.log2_le_self i
          omega
        · have hl := List.all_eq_true.mp len_v i (List.mem_range.mpr (by omega))
          have hl := of_decide_eq_true hl
          rw [Int.zero_add, sizeLine_eq]
          exact hl
        · rw [Int.zero_add]
          exact kQ G3 fun _ _ e => e
      · have hy3 := s3 _ _ hy
        refine ⟨r, D3, _, _, rfl, rfl, hy3, hD3, ?_, fun p np => ?_⟩
        · rw [List.length_map, List.length_map, List.length_range, pn.length_eq, sizeLine_eq]
          omega
        refine ⟨.int (m : Nat), rfl, m, rfl, p, _, rfl, .inl (.inl upd_same), fun p2 np2 => ?_⟩
        have eS : ms.map V.str ++ (List.range m).map (fun i => V.str (vNm i)) = (ms ++ (List.range m).map vNm).map V.str := by
          rw [List.map_append, List.map_map]
          rfl
        rw [eS, cutV_take (by rw [List.length_map, List.length_append, List.length_map, List.length_range]; omega), ← List.map_take]
        have S3 := (s3.trans (same_new (o := .lst (ms.map V.str ++ (List.range m).map (fun i => V.str (vNm i)))) np))
        rw [eS] at S3 np2
        have S4 := S3.trans (same_new (o := .lst (((ms ++ (List.range m).map vNm).take m).map V.str)) np2)
        have spr4 := sp1.same S4
        have E4 := E1.trans (same_S S4)
        have nP := (sp1.same S3).new np2
        have sub : ∀ s ∈ (List.range m).map vNm, s ∈ vs100 := fun s hs => by
          obtain ⟨i, hi, rfl⟩ := List.mem_map.mp hs
          exact List.mem_map.mpr ⟨i, List.mem_range.mpr (by have := List.mem_range.mp hi; omega), rfl⟩
        have mp : ∀ s ∈ ms, s ∈ pool ∧ s ∉ es := fun s hs => hp s (pn.mem_iff.mp hs)
        obtain ⟨pk1, pk2, pk3⟩ := pool_ok
        obtain ⟨d1, d2, d3⟩ := List.nodup_append.mp pk2
        have nd : (ms ++ (List.range m).map vNm).Nodup := List.nodup_append.mpr ⟨pn.nodup_iff.mpr dp, d2.sublist ((List.range_sublist.mpr m1).map vNm), fun a ha b hb => d3 a (mp a ha).1 b (sub b hb)⟩
        have nm : ∀ s ∈ ms ++ (List.range m).map vNm, nameB (.str s) = true ∧ s ∉ es := fun s hs => by
          rcases List.mem_append.mp hs with h | h
          · exact ⟨List.all_eq_true.mp pk1 s (List.mem_append_left _ (mp s h).1), (mp s h).2⟩
          · refine ⟨List.all_eq_true.mp pk1 s (List.mem_append_right _ (sub s h)), fun z => ?_⟩
            have h1 := List.all_eq_true.mp pk3 s (sub s h)
            rw [List.contains_iff_mem.mpr (hm s z)] at h1
            cases h1
        exact k _ p2 _ _ E4 spr4 (by omega) (ext_none (E1.trans (same_S S3)) np2 nP.1 nP.2) nP.1 nP.2 upd_same (by rw [List.length_take, List.length_append, List.length_map, List.length_range]; omega) ⟨nd.sublist (List.take_sublist _ _), fun s hs => (nm s (List.mem_of_mem_take hs)).1, fun s hs => (nm s (List.mem_of_mem_take hs)).2⟩
end
end K14.T5
namespace K14.T5
open T27 T3
open K14.Gn
open PySem PySem.W PySem.Calls PyProof.Rows L2 LamX NdefX
/-! ### the mathematics of pairing -/
/-- a place: of the ends, or in a row -/
abbrev Pl := Option Nat × Nat
def endOf (es : List Str) (p : Pl) : Option Str := match p.1 with
  | none => es[p.2]?
  | some _ => none
def endsOf (es : List Str) (dn : List Pl) : List Str := dn.filterMap (endOf es)
def setP (rows : List (List Str)) (p : Pl) (a : Str) : List (List Str) := match p.1 with
  | none => rows
  | some i => rows.set i ((rows.getD i []).set p.2 a)
/-- the place is there, and empty -/
def OkP (es : List Str) (rows : List (List Str)) (p : Pl) (a : Str) : Prop := match p.1 with
  | none => es[p.2]? = some a
  | some i => ∃ row, rows[i]? = some row ∧ row[p.2]? = some ""
def tot (es : List Str) (rows : List (List Str)) (js : List Str) (dn : List Pl) (s : Str) : Nat := rows.flatten.count s + js.count s + (endsOf es dn).count s
theorem count_row {s a : Str} (h : s ≠ "") : ∀ {row : List Str} {j : Nat}, row[j]? = some "" → (row.set j a).count s = row.count s + if s = a then 1 else 0
  | [], _, e => by cases e
  | x :: r, 0, e => by
    cases e
    rw [List.set_cons_zero, List.count_cons, List.count_cons]
    have h1 : ((("" : Str) == s) = true) = False := by
      rw [beq_iff_eq]
      exact eq_false fun z => h z.symm
    have h2 : ((a == s) = true) = (s = a) := by
      rw [beq_iff_eq]
      exact propext eq_comm
    simp only [h1, h2, if_false]
    rfl
  | x :: r, j + 1, e => by
    rw [List.set_cons_succ, List.count_cons, List.count_cons, count_row h (row := r) (j := j) (by simpa using e)]
    omega
theorem count_rows {s a : Str} (h : s ≠ "") : ∀ {rows : List (List Str)} {i j : Nat} {row : List Str}, rows[i]? = some row → row[j]? = some "" → (rows.set i (row.set j a)).flatten.count s = rows.flatten.count s + if s = a then 1 else 0
  | [], _, _, _, e, _ => by cases e
  | r :: rs, 0, j, row, e, g => by
    cases e
    rw [List.set_cons_zero, List.flatten_cons, List.flatten_cons, List.count_append, List.count_append, count_row h g]
    omega
  | r :: rs, i + 1, j, row, e, g => by
    rw [List.set_cons_succ, List.flatten_cons, List.flatten_cons, List.count_append, List.count_append, count_rows h (rows := rs) (by simpa using e) g]
    omega
theorem getD_some {α : Type} {l : List α} {i : Nat} {x d : α} (h : l[i]? = some x) : l.getD i d = x := by
  rw [List.getD_eq_getElem?_getD, h]
  rfl
theorem tot_set {es : List Str} {rows : List (List Str)} {js : List Str} {dn : List Pl} {p : Pl} {a s : Str} (h : s ≠ "") (o : OkP es rows p a) : tot es (setP rows p a) js (dn ++ [p]) s = tot es rows js dn s + if s = a then 1 else 0 := by
  obtain ⟨q, j⟩ := p
  unfold tot endsOf
  rw [List.filterMap_append, List.count_append]
  cases q with
  | none =>
    have o : es[j]? = some a := o
    have e1 : [((none : Option Nat), j)].filterMap (endOf es) = [a] := by
      have : endOf es (none, j) = some a := o
      rw [List.filterMap_cons, this]
      rfl
    rw [e1]
    show rows.flatten.count s + js.count s + (_ + [a].count s) = _
    have e2 : [a].count s = if s = a then 1 else 0 := by
      rw [List.count_cons, List.count_nil, Nat.zero_add]
      have h2 : ((a == s) = true) = (s = a) := by
        rw [beq_iff_eq]
        exact propext eq_comm
      simp only [h2]
    rw [e2]
    omega
  | some i =>
    obtain ⟨row, h1, h2⟩ := o
    have e1 : [((some i : Option Nat), j)].filterMap (endOf es) = [] := rfl
    rw [e1]
    show (rows.set i ((rows.getD i []).set j a)).flatten.count s + js.count s + (_ + 0) = _
    rw [getD_some h1, count_rows h h1 h2]
    omega
/-- the names of the ends and the new ones -/
structure Stock5 (es fr : List Str) : Prop where
  nd : es.Nodup
  nf : fr.Nodup
  dj : ∀ s ∈ fr, s ∉ es
  e0 : ("" : Str) ∉ es
  f0 : ("" : Str) ∉ fr
structure PairI (es fr : List Str) (W : List Nat) (dn : List Pl) (u : Nat) (rows : List (List Str)) (js : List Str) : Prop where
  wid : rows.map List.length = W
  emp : ∀ (i j : Nat) (row : List Str) (s : Str), rows[i]? = some row → row[j]? = some s → (s = "" ↔ ((some i, j) : Pl) ∉ dn)
  nm : ∀ row ∈ rows, ∀ s ∈ row, s = "" ∨ s ∈ es ∨ s ∈ fr
  jn : ∀ s ∈ js, s ∈ es ∨ s ∈ fr
  tt : ∀ s : Str, s ≠ "" → tot es rows js dn s = 0 ∨ tot es rows js dn s = 2
  free : ∀ s ∈ fr.drop u, tot es rows js dn s = 0
  ends : ∀ (j : Nat) (s : Str), es[j]? = some s → ((none, j) : Pl) ∉ dn → tot es rows js dn s = 0
/-- a name that these two places may take -/
def Own5 (es fr : List Str) (u u' : Nat) (p0 p1 : Pl) (a : Str) : Prop := (∃ j, (p0 = (none, j) ∨ p1 = (none, j)) ∧ es[j]? = some a) ∨ ∃ i, u ≤ i ∧ i < u' ∧ fr[i]? = some a
theorem Own5.mem {es fr : List Str} {u u' : Nat} {p0 p1 : Pl} {a : Str} (o : Own5 es fr u u' p0 p1 a) : a ∈ es ∨ a ∈ fr := by
  rcases o with ⟨j, _, h⟩ | ⟨i, _, _, h⟩
  · exact .inl (List.mem_of_getElem? h)
  · exact .inr (List.mem_of_getElem? h)
theorem Own5.ne {es fr : List Str} {u u' : Nat} {p0 p1 : Pl} {a : Str} (S : Stock5 es fr) (o : Own5 es fr u u' p0 p1 a) : a ≠ "" := fun z => by
  rcases o.mem with h | h
  · exact S.e0 (z ▸ h)
  · exact S.f0 (z ▸ h)
theorem nodup_at {l : List Str} (nd : l.Nodup) {i j : Nat} {s : Str} (h1 : l[i]? = some s) (h2 : l[j]? = some s) : i = j := by
  obtain ⟨a1, b1⟩ := List.getElem?_eq_some_iff.mp h1
  obtain ⟨a2, b2⟩ := List.getElem?_eq_some_iff.mp h2
  have h := b1.trans b2.symm
  exact (List.getElem_inj nd).mp h
theorem emp_set {es fr : List Str} {dn : List Pl} {rows : List (List Str)} {p : Pl} {a : Str} (ha : a ≠ "") (o : OkP es rows p a) (h : ∀ (i j : Nat) (row : List Str) (s : Str), rows[i]? = some row → row[j]? = some s → (s = "" ↔ ((some i, j) : Pl) ∉ dn)) :
    ∀ (i j : Nat) (row : List Str) (s : Str), (setP rows p a)[i]? = some row → row[j]? = some s → (s = "" ↔ ((some i, j) : Pl) ∉ dn ++ [p]) := by
  obtain ⟨q, jp⟩ := p
  intro i j row s h1 h2
  cases q with
  | none =>
    rw [h i j row s h1 h2]
    constructor
    · intro n m
      rcases List.mem_append.mp m with m | m
      · exact n m
      · have := List.mem_singleton.mp m
        cases this
    · exact fun n m => n (List.mem_append_left _ m)
  | some ip =>
    obtain ⟨r0, g1, g2⟩ := o
    have h1 : (rows.set ip ((rows.getD ip []).set jp a))[i]? = some row := h1
    rw [getD_some g1, List.getElem?_set] at h1
    by_cases e : ip = i
    · subst e
      have il : ip < rows.length := (List.getElem?_eq_some_iff.mp g1).1
      rw [if_pos rfl, if_pos il] at h1
      cases h1
      rw [List.getElem?_set] at h2
      by_cases e : jp = j
      · subst e
        have jl : jp < r0.length := (List.getElem?_eq_some_iff.mp g2).1
        rw [if_pos rfl, if_pos jl] at h2
        cases h2
        constructor
        · exact fun z => absurd z ha
        · exact fun n => absurd (List.mem_append_right _ (List.mem_singleton.mpr rfl)) n
      · rw [if_neg e] at h2
        rw [h ip j r0 s g1 h2]
        constructor
        · intro n m
          rcases List.mem_append.mp m with m | m
          · exact n m
          · have := List.mem_singleton.mp m
            cases this
            exact e rfl
        · exact fun n m => n (List.mem_append_left _ m)
    · rw [if_neg e] at h1
      rw [h i j row s h1 h2]
      constructor
      · intro n m
        rcases List.mem_append.mp m with m | m
        · exact n m
        · have := List.mem_singleton.mp m
          cases this
          exact e rfl
      · exact fun n m => n (List.mem_append_left _ m)
theorem wid_set {rows : List (List Str)} {p : Pl} {a : Str} : (setP rows p a).map List.length = rows.map List.length := by
  obtain ⟨q, j⟩ := p
  cases q with
  | none => rfl
  | some i =>
    show (rows.set i ((rows.getD i []).set j a)).map List.length = _
    rw [List.map_set, List.length_set]
    refine List.ext_getElem? fun k => ?_
    rw [List.getElem?_set]
    by_cases e : i = k
    · subst e
      rw [if_pos rfl, List.getElem?_map, List.length_map]
      by_cases il : i < rows.length
      · rw [if_pos il, List.getElem?_eq_getElem il]
        rw [getD_some (List.getElem?_eq_getElem il)]
        rfl
      · rw [if_neg il, List.getElem?_eq_none (Nat.le_of_not_lt il)]
        rfl
    · rw [if_neg e]
theorem nm_set {Z : Str → Prop} {rows : List (List Str)} {p : Pl} {a : Str} (ha : Z a) (h : ∀ row ∈ rows, ∀ s ∈ row, Z s) : ∀ row ∈ setP rows p a, ∀ s ∈ row, Z s := by
  obtain ⟨q, j⟩ := p
  cases q with
  | none => exact h
  | some i =>
    intro row hr s hs
    have hr : row ∈ rows.set i ((rows.getD i []).set j a) := hr
    rcases List.mem_or_eq_of_mem_set hr with hr | hr
    · exact h row hr s hs
    · subst hr
      rcases List.mem_or_eq_of_mem_set hs with hs | hs
      · rw [List.getD_eq_getElem?_getD] at hs
        cases e : rows[i]? with
        | none =>
          rw [e] at hs
          cases hs
        | some r0 =>
          rw [e] at hs
          exact h r0 (List.mem_of_getElem? e) s hs
      · rw [hs]
        exact ha
/-- one pair more -/
theorem pair_step {es fr : List Str} {W : List Nat} {dn : List Pl} {u u' : Nat} {rows : List (List Str)} {js J : List Str} {p0 p1 : Pl} {a0 a1 : Str} (S : Stock5 es fr) (I : PairI es fr W dn u rows js) (uu : u ≤ u') (n0 : p0 ∉ dn) (n1 : p1 ∉ dn) (ne : p0 ≠ p1) (o0 : OkP es rows p0 a0) (o1 : OkP es (setP rows p0 a0) p1 a1)
    (w0 : Own5 es fr u u' p0 p1 a0) (w1 : Own5 es fr u u' p0 p1 a1) (hJ : (a0 = a1 ∧ J = []) ∨ (a0 ≠ a1 ∧ J.Perm [a0, a1])) : PairI es fr W (dn ++ [p0] ++ [p1]) u' (setP (setP rows p0 a0) p1 a1) (js ++ J) := by
  have t0 : ∀ {a}, Own5 es fr u u' p0 p1 a → tot es rows js dn a = 0 := fun {a} o => by
    rcases o with ⟨j, h, g⟩ | ⟨i, h1, h2, g⟩
    · refine I.ends j a g fun m => ?_
      rcases h with h | h
      · exact n0 (h ▸ m)
      · exact n1 (h ▸ m)
    · refine I.free a ?_
      have : (fr.drop u)[i - u]? = some a := by
        rw [List.getElem?_drop, show u + (i - u) = i by omega]
        exact g
      exact List.mem_of_getElem? this
  have T : ∀ s : Str, s ≠ "" → tot es (setP (setP rows p0 a0) p1 a1) (js ++ J) (dn ++ [p0] ++ [p1]) s = tot es rows js dn s + ((if s = a0 then 1 else 0) + (if s = a1 then 1 else 0) + J.count s) := fun s hs => by
    rw [tot_set hs o1, tot_set hs o0]
    unfold tot
    rw [List.count_append]
    omega
  have out : ∀ s : Str, s ≠ "" → s ≠ a0 → s ≠ a1 → tot es (setP (setP rows p0 a0) p1 a1) (js ++ J) (dn ++ [p0] ++ [p1]) s = tot es rows js dn s := fun s hs h0 h1 => by
    rw [T s hs, if_neg h0, if_neg h1]
    have : J.count s = 0 := by
      rcases hJ with ⟨_, rfl⟩ | ⟨_, q⟩
      · rfl
      · rw [q.count_eq]
        exact List.count_eq_zero.mpr fun m => by
          rcases List.mem_cons.mp m with m | m
          · exact h0 m
          · exact h1 (List.mem_singleton.mp m)
    omega
  have two : ∀ s, s = a0 ∨ s = a1 → tot es (setP (setP rows p0 a0) p1 a1) (js ++ J) (dn ++ [p0] ++ [p1]) s = 2 := fun s h => by
    have hs : s ≠ "" := by
      rcases h with rfl | rfl
      · exact w0.ne S
      · exact w1.ne S
    have z : tot es rows js dn s = 0 := by
      rcases h with rfl | rfl
      · exact t0 w0
      · exact t0 w1
    rw [T s hs, z]
    rcases hJ with ⟨e, rfl⟩ | ⟨e, q⟩
    · subst e
      have h : s = a0 := h.elim id id
      rw [if_pos h]
      rfl
    · rw [q.count_eq]
      rcases h with rfl | rfl
      · rw [if_pos rfl, if_neg e, List.count_cons, List.count_cons, List.count_nil]
        have : (a1 == s) = false := beq_eq_false_iff_ne.mpr fun z => e z.symm
        rw [this]
        simp
      · rw [if_neg (fun z => e z.symm), if_pos rfl, List.count_cons, List.count_cons, List.count_nil]
        have : (a0 == s) = false := beq_eq_false_iff_ne.mpr e
        rw [this]
        simp
  refine ⟨by rw [wid_set, wid_set]; exact I.wid, ?_, ?_, ?_, ?_, ?_, ?_⟩
  · exact emp_set (es := es) (fr := fr) (w1.ne S) o1 (emp_set (es := es) (fr := fr) (w0.ne S) o0 I.emp)
  · exact nm_set (Z := fun s => s = "" ∨ s ∈ es ∨ s ∈ fr) (.inr w1.mem) (nm_set (Z := fun s => s = "" ∨ s ∈ es ∨ s ∈ fr) (.inr w0.mem) I.nm)
  · intro s hs
    rcases List.mem_append.mp hs with hs | hs
    · exact I.jn s hs
    · rcases hJ with ⟨_, rfl⟩ | ⟨_, q⟩
      · cases hs
      · rcases List.mem_cons.mp (q.mem_iff.mp hs) with rfl | m
        · exact w0.mem
        · rw [List.mem_singleton.mp m]
          exact w1.mem
  · intro s hs
    by_cases h0 : s = a0
    · exact .inr (two s (.inl h0))
    · by_cases h1 : s = a1
      · exact .inr (two s (.inr h1))
      · rw [out s hs h0 h1]
        exact I.tt s hs
  · intro s hs
    have hd : ∃ k, fr[u' + k]? = some s := by
      obtain ⟨k, hk⟩ := List.getElem?_of_mem hs
      rw [List.getElem?_drop] at hk
      exact ⟨k, hk⟩
    obtain ⟨k, hk⟩ := hd
    have ms : s ∈ fr := List.mem_of_getElem? hk
    have no : ∀ {a}, Own5 es fr u u' p0 p1 a → s ≠ a := fun {a} o z => by
      subst z
      rcases o with ⟨j, _, g⟩ | ⟨i, _, h2, g⟩
      · exact S.dj s ms (List.mem_of_getElem? g)
      · have := nodup_at S.nf g hk
        omega
    rw [out s (fun z => S.f0 (z ▸ ms)) (no w0) (no w1)]
    refine I.free s ?_
    have : (fr.drop u)[u' + k - u]? = some s := by
      rw [List.getElem?_drop, show u + (u' + k - u) = u' + k by omega]
      exact hk
    exact List.mem_of_getElem? this
  · intro j s g hn
    have ms : s ∈ es := List.mem_of_getElem? g
    have hn0 : ((none, j) : Pl) ∉ dn := fun m => hn (List.mem_append_left _ (List.mem_append_left _ m))
    have hp0 : p0 ≠ (none, j) := fun z => hn (List.mem_append_left _ (List.mem_append_right _ (by rw [z]; simp)))
    have hp1 : p1 ≠ (none, j) := fun z => hn (List.mem_append_right _ (by rw [z]; simp))
    have no : ∀ {a}, Own5 es fr u u' p0 p1 a → s ≠ a := fun {a} o z => by
      subst z
      rcases o with ⟨i, h, g2⟩ | ⟨i, _, _, g2⟩
      · have := nodup_at S.nd g g2
        subst this
        exact h.elim hp0 hp1
      · exact S.dj s (List.mem_of_getElem? g2) ms
    rw [out s (fun z => S.e0 (z ▸ ms)) (no w0) (no w1)]
    exact I.ends j s g hn0
/-- all the places -/
def placesOf (es : List Str) (W : List Nat) : List Pl := (List.range es.length).map (fun j => ((none : Option Nat), j)) ++ (List.range W.length).flatMap fun i => (List.range (W.getD i 0)).map fun j => ((some i : Option Nat), j)
theorem ends_places (es : List Str) (W : List Nat) : endsOf es (placesOf es W) = es := by
  unfold endsOf placesOf
  rw [List.filterMap_append]
  have e2 : ((List.range W.length).flatMap fun i => (List.range (W.getD i 0)).map fun j => ((some i : Option Nat), j)).filterMap (endOf es) = [] := by
    refine List.filterMap_eq_nil_iff.mpr fun p hp => ?_
    obtain ⟨i, _, hp⟩ := List.mem_flatMap.mp hp
    obtain ⟨j, _, rfl⟩ := List.mem_map.mp hp
    rfl
  have e1 : ((List.range es.length).map (fun j => ((none : Option Nat), j))).filterMap (endOf es) = es := by
    rw [List.filterMap_map]
    have e3 : (List.range es.length).map (fun j => es[j]?) = es.map some := by
      refine List.ext_getElem? fun k => ?_
      rw [List.getElem?_map, List.getElem?_map]
      by_cases hk : k < es.length
      · rw [List.getElem?_range hk]
        show some es[k]? = Option.map some es[k]?
        rw [List.getElem?_eq_getElem hk]
        rfl
      · rw [List.getElem?_eq_none (by rw [List.length_range]; omega), List.getElem?_eq_none (Nat.le_of_not_lt hk)]
        rfl
    have e4 : (List.range es.length).filterMap (endOf es ∘ fun j => ((none : Option Nat), j)) = ((List.range es.length).map (fun j => es[j]?)).filterMap id := by
      rw [List.filterMap_map]
      rfl
    rw [e4, e3, List.filterMap_map]
    exact List.filterMap_some
  rw [e1, e2, List.append_nil]
theorem places_box {es : List Str} {W : List Nat} {i j w : Nat} (h : W[i]? = some w) (hj : j < w) : ((some i, j) : Pl) ∈ placesOf es W := by
  refine List.mem_append_right _ (List.mem_flatMap.mpr ⟨i, List.mem_range.mpr (List.getElem?_eq_some_iff.mp h).1, List.mem_map.mpr ⟨j, List.mem_range.mpr ?_, rfl⟩⟩)
  rw [getD_some h]
  exact hj
/-- when all places are done, each name stands twice -/
theorem pair_done {es fr : List Str} {W : List Nat} {dn : List Pl} {u : Nat} {rows : List (List Str)} {js : List Str} (S : Stock5 es fr) (I : PairI es fr W dn u rows js) (hd : dn.Perm (placesOf es W)) : ∀ s ∈ es ++ (rows.flatten ++ js), (es ++ (rows.flatten ++ js)).count s = 2 ∧ (s ∈ es ∨ s ∈ fr) := by
  intro s hs
  have ec : (es ++ (rows.flatten ++ js)).count s = tot es rows js dn s := by
    unfold tot
    have : (endsOf es dn).count s = es.count s := by
      rw [← ends_places es W]
      have := (hd.filterMap (endOf es)).count_eq s
      rw [ends_places es W] at *
      exact this.trans (by rw [show (placesOf es W).filterMap (endOf es) = endsOf es (placesOf es W) from rfl, ends_places])
    rw [this, List.count_append, List.count_append]
    omega
  have mem : s ∈ es ∨ s ∈ fr := by
    rcases List.mem_append.mp hs with h | h
    · exact .inl h
    · rcases List.mem_append.mp h with h | h
      · obtain ⟨row, hr, hm⟩ := List.mem_flatten.mp h
        obtain ⟨i, hi⟩ := List.getElem?_of_mem hr
        obtain ⟨j, hj⟩ := List.getElem?_of_mem hm
        have hw : W[i]? = some row.length := by
          rw [← I.wid, List.getElem?_map, hi]
          rfl
        have hin : ((some i, j) : Pl) ∈ dn := hd.mem_iff.mpr (places_box hw (List.getElem?_eq_some_iff.mp hj).1)
        rcases I.nm row hr s hm with z | z
        · exact absurd hin ((I.emp i j row s hi hj).mp z)
        · exact z
      · exact I.jn s h
  have hne : s ≠ "" := fun z => mem.elim (fun h => S.e0 (z ▸ h)) (fun h => S.f0 (z ▸ h))
  refine ⟨?_, mem⟩
  have pos : 0 < (es ++ (rows.flatten ++ js)).count s := List.count_pos_iff.mpr hs
  rw [ec] at pos ⊢
  rcases I.tt s hne with h | h
  · omega
  · exact h
/-- at the beginning -/
theorem pair_begin {es fr : List Str} {W : List Nat} (S : Stock5 es fr) : PairI es fr W [] 0 (W.map fun n => List.replicate n ("" : Str)) [] := by
  have all : ∀ row ∈ W.map fun n => List.replicate n ("" : Str), ∀ s ∈ row, s = "" := fun row hr s hs => by
    obtain ⟨n, _, rfl⟩ := List.mem_map.mp hr
    exact (List.mem_replicate.mp hs).2
  have zero : ∀ s : Str, s ≠ "" → tot es (W.map fun n => List.replicate n ("" : Str)) [] [] s = 0 := fun s hs => by
    unfold tot
    have : (W.map fun n => List.replicate n ("" : Str)).flatten.count s = 0 := List.count_eq_zero.mpr fun m => by
      obtain ⟨row, hr, hm⟩ := List.mem_flatten.mp m
      exact hs (all row hr s hm)
    rw [this]
    rfl
  refine ⟨?_, fun i j row s h1 h2 => ?_, fun row hr s hs => .inl (all row hr s hs), (fun s hs => nomatch hs), fun s hs => .inl (zero s hs), fun s hs => zero s fun z => S.f0 (z ▸ List.mem_of_mem_drop hs), fun j s h _ => zero s fun z => S.e0 (z ▸ List.mem_of_getElem? h)⟩
  · rw [List.map_map]
    refine (List.map_congr_left (g := id) fun n _ => ?_).trans (List.map_id W)
    exact List.length_replicate
  · exact ⟨(fun _ m => (List.not_mem_nil m).elim), fun _ => all row (List.mem_of_getElem? h1) s (List.mem_of_getElem? h2)⟩
end K14.T5
namespace K14.T5
open T27 T3
open K14.Gn
open PySem PySem.W PySem.Calls PyProof.Rows L2 LamX NdefX
open He (ga)
open Kz (SS ExtS ExtS.trans small4 same_new boot_in boot_li boot_isi Has pe_has noE PSs.of_eq seqI new_ext X1 shaped_int dpAll_int)
/-! ### _law_paired -/
abbrev sPa : Stmt := topS 39
abbrev NPa : List Str := ["stream", "ends", "widths", "places", "at", "wide", "place", "left", "names", "rows", "joins", "pair", "one", "is_split", "side"]
theorem scPa : FnScope NPa ["stream", "ends", "widths"] (defScope sPa) := ⟨rfl, rfl, rfl, by decide +kernel, rfl, by decide +kernel, by decide +kernel⟩
theorem bdPa : defBody sPa = [stOf sPa 0, stOf sPa 1, stOf sPa 2, stOf sPa 3, stOf sPa 4, stOf sPa 5] := by rfl
def fbA : Stmt := (forBody (stOf sPa 1)).getD 0 (.Pass ⟨0, 0, 0, 0⟩)
theorem bdPaA : forBody (stOf sPa 1) = [fbA] := by rfl
def fbB (i : Nat) : Stmt := (forBody (stOf sPa 4)).getD i (.Pass ⟨0, 0, 0, 0⟩)
theorem bdPaB : forBody (stOf sPa 4) = [fbB 0, fbB 1, fbB 2, fbB 3] := by rfl
def fbC (i : Nat) : Stmt := (forBody (fbB 2)).getD i (.Pass ⟨0, 0, 0, 0⟩)
theorem bdPaC : forBody (fbB 2) = [fbC 0, fbC 1, fbC 2, fbC 3] := by rfl
def scArg : Stmt → Scope
  | .Expr (.Call _ [.ListComp _ _ sc _] _ _) _ => sc
  | .Assign _ (.Tuple (.ListComp _ _ sc _ :: _) _ _) _ => sc
  | _ => default
section
variable {P : Program} {w : World} {K : Frag} {mg : Str → Option Value} {base : Heap}
abbrev XPa (P : Program) (w : World) (K : Frag) (mg : Str → Option Value) (base : Heap) (f : Addr) (cdv : Value) (A : Around) (outer : List Env) (s : Shared) (H : Hp) (XE : XK) : Cx := XC P w K mg base NPa "_law_paired" sPa f cdv A outer s H XE
end
end K14.T5
namespace K14.Gn
open PySem PySem.W PySem.Calls PyProof.Rows L2 LamX
open Kz (noE)
theorem ThAll.snoc {H : Hp} : ∀ {ys : List V} {ds : List PyData} {y : V} {d : PyData}, ThAll H ys ds → Th H y d → ThAll H (ys ++ [y]) (ds ++ [d])
  | _, _, _, _, .nil, t => .cons t .nil
  | _, _, _, _, .cons a r, t => .cons a (ThAll.snoc r t)
theorem ThAll.app {H : Hp} : ∀ {xs ys : List V} {ds es : List PyData}, ThAll H xs ds → ThAll H ys es → ThAll H (xs ++ ys) (ds ++ es)
  | _, _, _, _, .nil, h => h
  | _, _, _, _, .cons a r, h => .cons a (ThAll.app r h)
theorem ThAll.perm {H : Hp} {xs ys : List V} (p : ys.Perm xs) : ∀ {ds : List PyData}, ThAll H xs ds → ∃ es, ThAll H ys es ∧ es.Perm ds := by
  induction p with
  | nil => exact fun h => ⟨_, h, .refl _⟩
  | cons x _ ih =>
    intro ds h
    cases h with
    | cons a r =>
      obtain ⟨es, h1, h2⟩ := ih r
      exact ⟨_, .cons a h1, h2.cons _⟩
  | swap x y l =>
    intro ds h
    cases h with
    | cons a r =>
      cases r with
      | cons b r => exact ⟨_, .cons b (.cons a r), .swap _ _ _⟩
  | trans _ _ ih1 ih2 =>
    intro ds h
    obtain ⟨es, h1, h2⟩ := ih2 h
    obtain ⟨es', h3, h4⟩ := ih1 h1
    exact ⟨es', h3, h4.trans h2⟩
/-- [.. for i in range(n)], each a new thing -/
theorem lc_rngT {K : Frag} {k n : Nat} {σ : L2.St} {H : Hp} {ta : TA} {te : TE} {vs : List Nat} (S : List Addr) (ins : Ins S H) (f : Nat → PyData) {Q : VK} (ht : ∀ R : List V → Hp → Prop, R [.int (n : Nat)] H → ta σ H R) (n1 : n ≤ 100000) (hw : ∀ y : V, wipe ((wipe σ vs).set k (some y)) vs = wipe σ vs)
    (hs : ∀ (i : Nat) (D : Addr) (G : Hp) (Q' : VK), i < n → L2.Same H G → Ins (D :: S) G → (∀ (G' : Hp) (y : V), L2.Same G G' → Th (Hid (D :: S) G') y (f i) → Q' y G') → te ((wipe σ vs).set k (some (.int (0 + (i : Nat))))) G Q')
    (hq : ∀ (G : Hp) (D : Addr) (ys : List V), L2.Same H G → H D = none → G D = some (.lst ys) → ThAll (Hid (D :: S) G) ys ((List.range n).map f) → Q (.ref D) G) : tLc (iRng1 ta) (gName k) tYes te vs σ H Q := by
  refine ht _ ⟨(n : Nat), rfl, by omega, by omega, fun D hD => lc_acc (S := S) walk_range ins hD (by omega) (fun _ _ => trivial) (fun i ys G => ThAll G ys ((List.range i).map f)) (fun i ys G G' e s => e.ext s) .nil (fun i v G1 G2 ys Qy Qn hi s1 insG a y ky kn => ?_) (fun G ys s1 hA a => ?_)⟩
  · obtain ⟨rfl, rfl⟩ := y
    refine gset ⟨hw _, ?_⟩
    unfold tYes
    show (if true = true then _ else _)
    rw [if_pos rfl]
    refine hs i D _ Qy (by omega) s1 insG fun G' y s' t => ky _ _ s' ?_
    rw [List.range_succ, List.map_append]
    exact ThAll.snoc (a.ext (hid_same s')) t
  · exact hq G D ys s1 hD hA (by simpa using a)
end K14.Gn
namespace K14.T5
open T27 T3
open K14.Gn
open PySem PySem.W PySem.Calls PyProof.Rows L2 LamX NdefX
open He (ga)
open Kz (SS ExtS ExtS.trans small4 same_new boot_in boot_li boot_isi Has pe_has noE PSs.of_eq seqI new_ext X1 shaped_int dpAll_int)
/-! ### the parts of _law_paired's run -/
/-- a place, as data -/
def pD (p : Pl) : PyData := .tuple [match p.1 with
  | none => .int (-1)
  | some i => .int (i : Nat), .int (p.2 : Nat)]
theorem pD_th {S : List Addr} {G : Hp} {x : V} {p : Pl} (h : Th (Hid S G) x (pD p)) : ∃ a, x = .ref a ∧ a ∉ S ∧ G a = some (.tup [match p.1 with
  | none => V.int (-1)
  | some i => V.int (i : Nat), .int (p.2 : Nat)]) := by
  obtain ⟨q, j⟩ := p
  cases q with
  | none =>
    cases h with
    | tup h r =>
      cases r with
      | cons t r =>
        cases t
        cases r with
        | cons t r =>
          cases t
          cases r
          obtain ⟨h1, h2, _⟩ := hid_at h
          exact ⟨_, rfl, h1, h2⟩
  | some i =>
    cases h with
    | tup h r =>
      cases r with
      | cons t r =>
        cases t
        cases r with
        | cons t r =>
          cases t
          cases r
          obtain ⟨h1, h2, _⟩ := hid_at h
          exact ⟨_, rfl, h1, h2⟩
theorem perm_map {ds : List PyData} {ps : List Pl} (h : ds.Perm (ps.map pD)) : ∃ qs : List Pl, ds = qs.map pD ∧ qs.Perm ps := by
  suffices g : ∀ {as bs : List PyData}, as.Perm bs → ∀ ps : List Pl, bs = ps.map pD → ∃ qs : List Pl, as = qs.map pD ∧ qs.Perm ps from g h ps rfl
  intro as bs p
  induction p with
  | nil =>
    intro ps e
    cases ps with
    | nil => exact ⟨[], rfl, .refl _⟩
    | cons a r => cases e
  | cons x _ ih =>
    intro ps e
    cases ps with
    | nil => cases e
    | cons a r =>
      obtain ⟨e1, e2⟩ := List.cons.inj e
      obtain ⟨qs, h1, h2⟩ := ih r e2
      exact ⟨a :: qs, by rw [h1, e1]; rfl, h2.cons _⟩
  | swap x y l =>
    intro ps e
    match ps, e with
    | a :: b :: r, e =>
      obtain ⟨e1, e2⟩ := List.cons.inj e
      obtain ⟨e2, e3⟩ := List.cons.inj e2
      exact ⟨b :: a :: r, by rw [e1, e2, e3]; rfl, .swap _ _ _⟩
  | trans _ _ ih1 ih2 =>
    intro ps e
    obtain ⟨qs, h1, h2⟩ := ih2 ps e
    obtain ⟨rs, h3, h4⟩ := ih1 qs h1
    exact ⟨rs, h3, h4.trans h2⟩
end K14.T5
namespace K14.T5
open T27 T3
open K14.Gn
open PySem PySem.W PySem.Calls PyProof.Rows L2 LamX NdefX
open He (ga)
open Kz (SS ExtS ExtS.trans small4 same_new boot_in boot_li boot_isi Has pe_has noE PSs.of_eq seqI new_ext X1 shaped_int dpAll_int)
/-! ### one side of a pair -/
def oneV (p : Pl) : V := match p.1 with
  | none => .int (-1)
  | some i => .int (i : Nat)
def oneI (p : Pl) : Int := match p.1 with
  | none => -1
  | some i => (i : Nat)
def boxP (p : Pl) : Bool := p.1.isSome
theorem one_eq (p : Pl) : oneV p = .int (oneI p) := by
  obtain ⟨q, j⟩ := p
  cases q <;> rfl
theorem one_ge (p : Pl) : decide ((0 : Int) ≤ oneI p) = boxP p := by
  obtain ⟨q, j⟩ := p
  cases q with
  | none => rfl
  | some i => exact decide_eq_true (Int.natCast_nonneg i)
theorem one_lt (p : Pl) : decide (oneI p < (0 : Int)) = !boxP p := by
  obtain ⟨q, j⟩ := p
  cases q with
  | none => rfl
  | some i => exact decide_eq_false (by have := Int.natCast_nonneg i; show ¬ ((i : Nat) : Int) < 0; omega)
def PlAt (G : Hp) (xs : List V) (n : Nat) (p : Pl) : Prop := ∃ a, xs[n]? = some (.ref a) ∧ G a = some (.tup [oneV p, .int (p.2 : Nat)])
/-- what the pair holds after side i -/
def prs1 (sp : Bool) (i : Nat) (p z : Pl) (prs : List Str) : List Str := if (boxP p && (!sp && boxP z)) = true then prs.set i (prs.getD 0 "") else prs
def prs2 (sp : Bool) (i : Nat) (p q z : Pl) (prs : List Str) : List Str := if (boxP p && (!sp && !boxP q)) = true then (prs1 sp i p z prs).set i ((prs1 sp i p z prs).getD (1 - i) "") else prs1 sp i p z prs
def t2k : TE := tOp (rI CMul fun i j => V.int (i * j)) (tC (V.int 2)) (tVar 4)
theorem t2k_in {σ : L2.St} {H : Hp} {k : Nat} {Q : VK} (h : σ[4]? = some (some (.int (k : Nat)))) (kb : k ≤ 1000) (hQ : Q (.int ((2 * k : Nat) : Int)) H) : t2k σ H Q := by
  refine ⟨.int (k : Nat), h, 2, k, rfl, rfl, ?_, ?_⟩
  · exact .inl ⟨by decide, by decide⟩
  · have : (2 : Int) * (k : Int) = ((2 * k : Nat) : Int) := by push_cast; rfl
    show Q (.int ((2 : Int) * (k : Int))) H
    rw [this]
    exact hQ
def tS0 (K : Frag) : TS := tAsg (tOp (rIxL K) (tVar 7) (tOp (rI0 fun i j => V.int (i + j)) t2k (tVar 14))) (gTup K 2 (gCons (gName 12) (gCons (gName 6) gNil)))
def tS1 (K : Frag) : TS := tIfS (tAnd (tTest (tOp (rI0 fun i j => V.bl (decide (j ≤ i))) (tVar 12) (tC (V.int 0)))) (tAnd (tNot (tB (tVar 13))) (tTest (tOp (rI0 fun i j => V.bl (decide (j ≤ i))) (tOp (rIx K) (tOp (rIxL K) (tVar 7) t2k) (tC (V.int 0))) (tC (V.int 0)))))) (tAsg (tOp (rIxL K) (tVar 11) (tC (V.int 0))) (gSub (tVar 11) (tVar 14) rSetL)) tNext
def tS2 (K : Frag) : TS := tIfS (tAnd (tTest (tOp (rI0 fun i j => V.bl (decide (j ≤ i))) (tVar 12) (tC (V.int 0)))) (tAnd (tNot (tB (tVar 13))) (tTest (tOp (rI0 fun i j => V.bl (decide (i < j))) (tOp (rIx K) (tOp (rIxL K) (tVar 7) (tOp (rI0 fun i j => V.int (i - j)) (tOp (rI0 fun i j => V.int (i + j)) t2k (tC (V.int 1))) (tVar 14))) (tC (V.int 0))) (tC (V.int 0)))))) (tAsg (tOp (rIxL K) (tVar 11) (tOp (rI0 fun i j => V.int (i - j)) (tC (V.int 1)) (tVar 14))) (gSub (tVar 11) (tVar 14) rSetL)) tNext
def tS3 (K : Frag) : TS := tIfS (tTest (tOp (rI0 fun i j => V.bl (decide (j ≤ i))) (tVar 12) (tC (V.int 0)))) (tAsg (tOp (rIxL K) (tVar 11) (tVar 14)) (gSub (tOp (rIxL K) (tVar 9) (tVar 12)) (tVar 6) rSetL)) tNext
def tSide (K : Frag) : TS := tSeq (tS0 K) (tSeq (tS1 K) (tSeq (tS2 K) (tS3 K)))
theorem rixL {K : Frag} {H : Hp} {a : Addr} {xs : List V} {x : V} {i : Nat} {Q : VK} (h : H a = some (.lst xs)) (hi : xs[i]? = some x) (k : Q x H) : rIxL K (.ref a) (.int (i : Nat)) H Q := ⟨a, _, _, _, rfl, rfl, .inl (.inl h), atI_nat hi, k⟩
theorem rixT {K : Frag} {H : Hp} {a : Addr} {xs : List V} {x : V} {i : Nat} {Q : VK} (h : H a = some (.tup xs)) (hi : xs[i]? = some x) (k : Q x H) : rIx K (.ref a) (.int (i : Nat)) H Q := ix_any2 (.inr h) hi k
section
variable {K : Frag}
/-- the heap but for the pair and the rows -/
def KeepX (Pr : Addr) (ls : List Addr) (G G' : Hp) : Prop := ∀ b o, G b = some o → b ≠ Pr → b ∉ ls → G' b = some o
theorem asg_in {te : TE} {g : TG} {D : Ends} {σ : L2.St} {H : Hp} (h : te σ H fun v G => g v σ G D.nx) : tAsg te g D σ H := h
theorem ixN_n {n j : Nat} (hj : j < n) : ixN n (j : Int) = some j := by
  unfold ixN
  rw [if_pos (by omega), if_pos (by omega)]
  simp
theorem ixC_in {te : TE} {σ : L2.St} {H : Hp} {Q : VK} {i : Int} (h : te σ H fun v G => rIxL K v (.int i) G Q) : tOp (rIxL K) te (tC (.int i)) σ H Q := h
theorem rixLi {H : Hp} {a : Addr} {xs : List V} {x : V} {n : Int} {i : Nat} {Q : VK} (e : n = (i : Nat)) (h : H a = some (.lst xs)) (hi : xs[i]? = some x) (k : Q x H) : rIxL K (.ref a) (.int n) H Q := by
  subst e
  exact rixL h hi k
abbrev sgA (s0 s1 s2 s3 s5 s8 s10 : Option V) (k : Nat) (lf R Pr : Addr) (p : Pl) (sp : Bool) (i : Nat) : L2.St := [s0, s1, s2, s3, some (.int (k : Nat)), s5, some (.int (p.2 : Nat)), some (.ref lf), s8, some (.ref R), s10, some (.ref Pr), some (oneV p), some (.bl sp), some (.int (i : Nat))]
theorem KeepX.refl {Pr : Addr} {ls : List Addr} {G : Hp} : KeepX Pr ls G G := fun _ _ h _ _ => h
theorem KeepX.trans {Pr : Addr} {ls : List Addr} {G G1 G2 : Hp} (a : KeepX Pr ls G G1) (b : KeepX Pr ls G1 G2) : KeepX Pr ls G G2 := fun x o h n m => b x o (a x o h n m) n m
theorem LsA.oth {G : Hp} {ls : List Addr} {wss : List (List Str)} {b : Addr} {o : HO} (h : T69.LsA G ls wss) (n : b ∉ ls) : T69.LsA (upd G b o) ls wss :=
  ⟨h.len, h.nd, fun i a ha => by
    obtain ⟨ws, h1, h2⟩ := h.at_ i a ha
    refine ⟨ws, h1, ?_⟩
    rw [upd_ne (show a ≠ b from fun z => n (z ▸ List.mem_of_getElem? ha))]
    exact h2⟩
variable {D : Ends} {k i : Nat} {sp : Bool} {lf R Pr : Addr} {xs : List V} {p q z : Pl} {prs : List Str} {ls : List Addr} {rows : List (List Str)} {s0 s1 s2 s3 s5 s6 s8 s10 s12 : Option V} {G : Hp}
theorem two_at {prs : List Str} (lp : prs.length = 2) {i : Nat} (hi : i < 2) : prs[i]? = some (prs.getD i "") := by
  rw [List.getD_eq_getElem?_getD, List.getElem?_eq_getElem (by omega)]
  rfl
/-- pair[i] = pair[j] -/
theorem put_in (hi : i < 2) (hPr : G Pr = some (.lst (prs.map V.str))) (lp : prs.length = 2) (nP : Pr ∉ ls) (L : T69.LsA G ls rows) {j : Nat}
    (kk : ∀ G', KeepX Pr ls G G' → G' Pr = some (.lst ((prs.set i (prs.getD j "")).map V.str)) → T69.LsA G' ls rows → D.nx (sgA s0 s1 s2 s3 s5 s8 s10 k lf R Pr p sp i) G') :
    gSub (tVar 11) (tVar 14) rSetL (.str (prs.getD j "")) (sgA s0 s1 s2 s3 s5 s8 s10 k lf R Pr p sp i) G D.nx := by
  refine ⟨.ref Pr, rfl, .int (i : Nat), rfl, Pr, _, (i : Nat), i, rfl, rfl, hPr, ixN_n (by rw [List.length_map]; omega), ?_⟩
  refine kk _ (fun b o h n _ => by rw [upd_ne n]; exact h) ?_ (LsA.oth L nP)
  rw [upd_same, List.map_set]
theorem s1_run (hi : i < 2) (kb : k ≤ 1000) (hl : G lf = some (.lst xs)) (hz : PlAt G xs (2 * k) z) (hPr : G Pr = some (.lst (prs.map V.str))) (lp : prs.length = 2) (nP : Pr ∉ ls) (L : T69.LsA G ls rows)
    (kk : ∀ G', KeepX Pr ls G G' → G' Pr = some (.lst ((prs1 sp i p z prs).map V.str)) → T69.LsA G' ls rows → D.nx (sgA s0 s1 s2 s3 s5 s8 s10 k lf R Pr p sp i) G') :
    tS1 K D (sgA s0 s1 s2 s3 s5 s8 s10 k lf R Pr p sp i) G := by
  obtain ⟨az, hz1, hz2⟩ := hz
  unfold prs1 at kk
  have no : (boxP p && (!sp && boxP z)) = false → tNext D (sgA s0 s1 s2 s3 s5 s8 s10 k lf R Pr p sp i) G := fun e => by
    rw [if_neg (by rw [e]; exact Bool.false_ne_true)] at kk
    exact kk G KeepX.refl hPr L
  refine and_in (tst_in ⟨oneV p, rfl, _, _, one_eq p, rfl, _, rfl, ?_⟩)
  rw [one_ge]
  cases qp : boxP p with
  | false => exact iteF (iteF (no (by rw [qp]; rfl)))
  | true =>
    refine iteT (and_in (not_in (b_in ⟨.bl sp, rfl, sp, rfl, ?_⟩)))
    cases qs : sp with
    | true =>
      subst qs
      exact iteF (iteF (no (by rw [qp]; rfl)))
    | false =>
      subst qs
      refine iteT (tst_in ⟨.ref lf, rfl, t2k_in rfl kb (rixL hl hz1 (rixT hz2 (i := 0) rfl ⟨_, _, one_eq z, rfl, _, rfl, ?_⟩))⟩)
      rw [one_ge]
      cases qz : boxP z with
      | false => exact iteF (no (by rw [qp, qz]; rfl))
      | true =>
        rw [if_pos (by rw [qp, qz]; rfl)] at kk
        refine iteT (asg_in (ixC_in ⟨.ref Pr, rfl, ?_⟩))
        refine rixLi (i := 0) rfl hPr (x := .str (prs.getD 0 "")) (by rw [List.getElem?_map, two_at lp (by omega)]; rfl) ?_
        exact put_in (ls := ls) hi hPr lp nP L kk
theorem s2_run (hi : i < 2) (kb : k ≤ 1000) (hl : G lf = some (.lst xs)) (hq : PlAt G xs (2 * k + 1 - i) q) (hPr : G Pr = some (.lst (prs.map V.str))) (lp : prs.length = 2) (nP : Pr ∉ ls) (L : T69.LsA G ls rows)
    (kk : ∀ G', KeepX Pr ls G G' → G' Pr = some (.lst ((if (boxP p && (!sp && !boxP q)) = true then prs.set i (prs.getD (1 - i) "") else prs).map V.str)) → T69.LsA G' ls rows → D.nx (sgA s0 s1 s2 s3 s5 s8 s10 k lf R Pr p sp i) G') :
    tS2 K D (sgA s0 s1 s2 s3 s5 s8 s10 k lf R Pr p sp i) G := by
  obtain ⟨aq, hq1, hq2⟩ := hq
  have no : (boxP p && (!sp && !boxP q)) = false → tNext D (sgA s0 s1 s2 s3 s5 s8 s10 k lf R Pr p sp i) G := fun e => by
    rw [if_neg (by rw [e]; exact Bool.false_ne_true)] at kk
    exact kk G KeepX.refl hPr L
  refine and_in (tst_in ⟨oneV p, rfl, _, _, one_eq p, rfl, _, rfl, ?_⟩)
  rw [one_ge]
  cases qp : boxP p with
  | false => exact iteF (iteF (no (by rw [qp]; rfl)))
  | true =>
    refine iteT (and_in (not_in (b_in ⟨.bl sp, rfl, sp, rfl, ?_⟩)))
    cases qs : sp with
    | true =>
      subst qs
      exact iteF (iteF (no (by rw [qp]; rfl)))
    | false =>
      subst qs
      refine iteT (tst_in ⟨.ref lf, rfl, T3.op_in (T3.op_in (t2k_in rfl kb ⟨_, _, rfl, rfl, .int (i : Nat), rfl, _, _, rfl, rfl, ?_⟩))⟩)
      refine rixLi (i := 2 * k + 1 - i) (by push_cast [show i ≤ 2 * k + 1 by omega]; omega) hl hq1 (rixT hq2 (i := 0) rfl ⟨_, _, one_eq q, rfl, _, rfl, ?_⟩)
      rw [one_lt]
      cases qq : boxP q with
      | true => exact iteF (no (by rw [qp, qq]; rfl))
      | false =>
        rw [if_pos (by rw [qp, qq]; rfl)] at kk
        refine iteT ⟨.ref Pr, rfl, T3.op_in ⟨.int (i : Nat), rfl, _, _, rfl, rfl, ?_⟩⟩
        refine rixLi (i := 1 - i) (by omega) hPr (x := .str (prs.getD (1 - i) "")) (by rw [List.getElem?_map, two_at lp (by omega)]; rfl) ?_
        exact put_in (ls := ls) hi hPr lp nP L kk
theorem s3_run (hi : i < 2) (hPr : G Pr = some (.lst (prs.map V.str))) (lp : prs.length = 2) (nP : Pr ∉ ls) (hR : G R = some (.lst (ls.map V.ref))) (L : T69.LsA G ls rows) (ok : ∀ i', p.1 = some i' → ∃ row, rows[i']? = some row ∧ p.2 < row.length)
    (kk : ∀ G', KeepX Pr ls G G' → G' Pr = some (.lst (prs.map V.str)) → T69.LsA G' ls (setP rows p (prs.getD i "")) → D.nx (sgA s0 s1 s2 s3 s5 s8 s10 k lf R Pr p sp i) G') :
    tS3 K D (sgA s0 s1 s2 s3 s5 s8 s10 k lf R Pr p sp i) G := by
  obtain ⟨qi, j⟩ := p
  refine tst_in ⟨oneV (qi, j), rfl, _, _, one_eq _, rfl, _, rfl, ?_⟩
  rw [one_ge]
  cases qi with
  | none => exact iteF (kk G KeepX.refl hPr L)
  | some i' =>
    obtain ⟨row, h1, h2⟩ := ok i' rfl
    have il : i' < ls.length := by
      rw [L.len]
      exact (List.getElem?_eq_some_iff.mp h1).1
    have ha : ls[i']? = some ls[i'] := List.getElem?_eq_getElem il
    generalize ls[i'] = a at ha
    obtain ⟨ws, g1, g2⟩ := L.at_ i' a ha
    rw [h1] at g1
    cases g1
    have ma := List.mem_of_getElem? ha
    refine iteT ⟨.ref Pr, rfl, .int (i : Nat), rfl, rixL hPr (i := i) (x := .str (prs.getD i "")) (by rw [List.getElem?_map, two_at lp hi]; rfl) ?_⟩
    refine ⟨.ref R, rfl, .int (i' : Nat), rfl, rixL hR (i := i') (x := .ref a) (by rw [List.getElem?_map, ha]; rfl) ?_⟩
    refine ⟨.int (j : Nat), rfl, a, _, (j : Nat), j, rfl, rfl, g2, ixN_n (by rw [List.length_map]; exact h2), ?_⟩
    rw [← List.map_set]
    refine kk _ (fun b o h _ n => by rw [upd_ne (show b ≠ a from fun z => n (z.symm ▸ ma))]; exact h) ?_ ?_
    · rw [upd_ne (show Pr ≠ a from fun z => nP (z.symm ▸ ma))]
      exact hPr
    · have := L.set (ws := row.set j (prs.getD i "")) ha
      show T69.LsA _ ls (rows.set i' ((rows.getD i' []).set j (prs.getD i "")))
      rw [getD_some h1]
      exact this
end
end K14.T5
namespace K14.T5
open T27 T3
open K14.Gn
open PySem PySem.W PySem.Calls PyProof.Rows L2 LamX NdefX
open He (ga)
open Kz (SS ExtS ExtS.trans small4 same_new boot_in boot_li boot_isi Has pe_has noE PSs.of_eq seqI new_ext X1 shaped_int dpAll_int)
/-! ### both sides of a pair -/
section
variable {K : Frag} {D : Ends} {k i : Nat} {sp : Bool} {lf R Pr : Addr} {xs : List V} {p q z : Pl} {prs : List Str} {ls : List Addr} {rows : List (List Str)} {s0 s1 s2 s3 s5 s6 s8 s10 s12 s14 : Option V} {G : Hp}
theorem PlAt.keep {G' : Hp} {n : Nat} (h : PlAt G xs n p) (hPr : G Pr = some (.lst (prs.map V.str))) (L : T69.LsA G ls rows) (e : KeepX Pr ls G G') : PlAt G' xs n p := by
  obtain ⟨a, h1, h2⟩ := h
  refine ⟨a, h1, e a _ h2 (fun z => ?_) (fun m => ?_)⟩
  · rw [z, hPr] at h2
    cases h2
  · obtain ⟨j, hj⟩ := List.getElem?_of_mem m
    obtain ⟨ws, _, g⟩ := L.at_ j a hj
    rw [g] at h2
    cases h2
theorem prs1_len : (prs1 sp i p z prs).length = prs.length := by
  unfold prs1
  split
  · rw [List.length_set]
  · rfl
theorem prs2_len : (prs2 sp i p q z prs).length = prs.length := by
  unfold prs2
  split
  · rw [List.length_set, prs1_len]
  · rw [prs1_len]
theorem side_run (hi : i < 2) (kb : k ≤ 1000) (hl : G lf = some (.lst xs)) (nl : lf ≠ Pr) (nll : lf ∉ ls) (hp : PlAt G xs (2 * k + i) p) (hq : PlAt G xs (2 * k + 1 - i) q) (hz : PlAt G xs (2 * k) z) (hPr : G Pr = some (.lst (prs.map V.str))) (lp : prs.length = 2)
    (hR : G R = some (.lst (ls.map V.ref))) (nR : R ≠ Pr) (nRl : R ∉ ls) (nP : Pr ∉ ls) (L : T69.LsA G ls rows) (ok : ∀ i', p.1 = some i' → ∃ row, rows[i']? = some row ∧ p.2 < row.length)
    (kk : ∀ G', KeepX Pr ls G G' → G' Pr = some (.lst ((prs2 sp i p q z prs).map V.str)) → T69.LsA G' ls (setP rows p ((prs2 sp i p q z prs).getD i "")) → D.nx (sgA s0 s1 s2 s3 s5 s8 s10 k lf R Pr p sp i) G') :
    tSide K D [s0, s1, s2, s3, some (.int (k : Nat)), s5, s6, some (.ref lf), s8, some (.ref R), s10, some (.ref Pr), s12, some (.bl sp), some (.int (i : Nat))] G := by
  obtain ⟨ap, hp1, hp2⟩ := hp
  unfold tSide tS0
  refine T69.asg_intro ?_
  refine ⟨.ref lf, rfl, T3.op_in (t2k_in rfl kb ⟨.int (i : Nat), rfl, _, _, rfl, rfl, ?_⟩)⟩
  refine rixLi (i := 2 * k + i) (by push_cast; rfl) hl hp1 ?_
  refine ⟨ap, _, rfl, .inl (.inl hp2), rfl, _, _, rfl, _, _, rfl, rfl, ?_⟩
  refine s1_run (K := K) (xs := xs) (z := z) (prs := prs) (ls := ls) (rows := rows) hi kb hl hz hPr lp nP L fun G1 e1 hP1 L1 => ?_
  have hl1 := e1 _ _ hl nl nll
  refine s2_run (K := K) (xs := xs) (q := q) (prs := prs1 sp i p z prs) (ls := ls) (rows := rows) hi kb hl1 (hq.keep hPr L e1) hP1 (by rw [prs1_len, lp]) nP L1 fun G2 e2 hP2 L2 => ?_
  have hR2 := e2 _ _ (e1 _ _ hR nR nRl) nR nRl
  refine s3_run (K := K) (prs := prs2 sp i p q z prs) (ls := ls) (rows := rows) hi hP2 (by rw [prs2_len, lp]) nP hR2 L2 ok fun G3 e3 hP3 L3 => ?_
  exact kk G3 ((e1.trans e2).trans e3) hP3 L3
end
/-! ### what the pair holds at last -/
/-- the names that the two places get -/
def aA (sp : Bool) (p0 p1 : Pl) (A B : Str) : Str := if (boxP p0 && (!sp && !boxP p1)) = true then B else A
def aB (sp : Bool) (p0 p1 : Pl) (A B : Str) : Str := if (boxP p1 && !sp) = true then A else B
theorem prs_side0 (sp : Bool) (p0 p1 : Pl) (A B : Str) : prs2 sp 0 p0 p1 p0 [A, B] = [aA sp p0 p1 A B, B] := by
  unfold prs2 prs1 aA
  cases boxP p0 <;> cases sp <;> cases boxP p1 <;> rfl
theorem prs_side1 (sp : Bool) (p0 p1 : Pl) (A B : Str) : prs2 sp 1 p1 p0 p0 [aA sp p0 p1 A B, B] = [aA sp p0 p1 A B, aB sp p0 p1 A B] := by
  unfold prs2 prs1 aA aB
  cases boxP p0 <;> cases sp <;> cases boxP p1 <;> rfl
section
variable {K : Frag} {D : Ends} {k : Nat} {sp : Bool} {lf R Pr : Addr} {xs : List V} {p0 p1 : Pl} {A B : Str} {ls : List Addr} {rows : List (List Str)} {s0 s1 s2 s3 s5 s6 s8 s10 s12 s14 : Option V} {G : Hp}
def tSides (K : Frag) : TS := tFor (iRng1 (tCons (tC (.int 2)) tNil)) (gName 14) (tSide K)
theorem ok_set {rows : List (List Str)} {p q : Pl} {a : Str} (h : ∀ i', p.1 = some i' → ∃ row, rows[i']? = some row ∧ p.2 < row.length) : ∀ i', p.1 = some i' → ∃ row, (setP rows q a)[i']? = some row ∧ p.2 < row.length := fun i' e => by
  obtain ⟨row, h1, h2⟩ := h i' e
  have hw := wid_set (rows := rows) (p := q) (a := a)
  have h3 : ((setP rows q a).map List.length)[i']? = some row.length := by
    rw [hw, List.getElem?_map, h1]
    rfl
  rw [List.getElem?_map] at h3
  cases e2 : (setP rows q a)[i']? with
  | none =>
    rw [e2] at h3
    cases h3
  | some r =>
    rw [e2] at h3
    have h3 := Option.some.inj h3
    exact ⟨r, rfl, by rw [h3]; exact h2⟩
theorem sides_run (kb : k ≤ 1000) (hl : G lf = some (.lst xs)) (nl : lf ≠ Pr) (nll : lf ∉ ls) (h0 : PlAt G xs (2 * k) p0) (h1 : PlAt G xs (2 * k + 1) p1) (hPr : G Pr = some (.lst [.str A, .str B]))
    (hR : G R = some (.lst (ls.map V.ref))) (nR : R ≠ Pr) (nRl : R ∉ ls) (nP : Pr ∉ ls) (L : T69.LsA G ls rows) (ok0 : ∀ i', p0.1 = some i' → ∃ row, rows[i']? = some row ∧ p0.2 < row.length) (ok1 : ∀ i', p1.1 = some i' → ∃ row, rows[i']? = some row ∧ p1.2 < row.length)
    (kk : ∀ (G' : Hp) (s6 s12 s14 : Option V), KeepX Pr ls G G' → G' Pr = some (.lst [.str (aA sp p0 p1 A B), .str (aB sp p0 p1 A B)]) → T69.LsA G' ls (setP (setP rows p0 (aA sp p0 p1 A B)) p1 (aB sp p0 p1 A B)) →
      D.nx [s0, s1, s2, s3, some (.int (k : Nat)), s5, s6, some (.ref lf), s8, some (.ref R), s10, some (.ref Pr), s12, some (.bl sp), s14] G') :
    tSides K D [s0, s1, s2, s3, some (.int (k : Nat)), s5, s6, some (.ref lf), s8, some (.ref R), s10, some (.ref Pr), s12, some (.bl sp), s14] G := by
  unfold tSides
  refine ⟨2, rfl, by decide, by decide, ?_⟩
  refine for_range (lo := 0) (n := 2) (fun j σ G' => KeepX Pr ls G G' ∧ ∃ (t6 t12 t14 : Option V), σ = [s0, s1, s2, s3, some (.int (k : Nat)), s5, t6, some (.ref lf), s8, some (.ref R), s10, some (.ref Pr), t12, some (.bl sp), t14] ∧
    ((j = 0 ∧ G' Pr = some (.lst [.str A, .str B]) ∧ T69.LsA G' ls rows) ∨ (j = 1 ∧ G' Pr = some (.lst [.str (aA sp p0 p1 A B), .str B]) ∧ T69.LsA G' ls (setP rows p0 (aA sp p0 p1 A B))) ∨ (j = 2 ∧ G' Pr = some (.lst [.str (aA sp p0 p1 A B), .str (aB sp p0 p1 A B)]) ∧ T69.LsA G' ls (setP (setP rows p0 (aA sp p0 p1 A B)) p1 (aB sp p0 p1 A B)))))
    ⟨KeepX.refl, s6, s12, s14, rfl, .inl ⟨rfl, hPr, L⟩⟩ (fun j σ G1 hj e => ?_) (fun σ G1 e => ?_)
  · obtain ⟨e1, t6, t12, t14, rfl, hc⟩ := e
    refine gset ?_
    have hl1 := e1 _ _ hl nl nll
    have hR1 := e1 _ _ hR nR nRl
    have h01 := h0.keep (prs := [A, B]) hPr L e1
    have h11 := h1.keep (prs := [A, B]) hPr L e1
    rcases hc with ⟨rfl, hP, L1⟩ | ⟨rfl, hP, L1⟩ | ⟨rfl, _⟩
    · refine side_run (K := K) (i := 0) (xs := xs) (p := p0) (q := p1) (z := p0) (prs := [A, B]) (ls := ls) (rows := rows) (by decide) kb hl1 nl nll h01 h11 h01 hP rfl hR1 nR nRl nP L1 ok0 fun G2 e2 hP2 L2 => ?_
      rw [prs_side0] at hP2 L2
      exact ⟨e1.trans e2, _, _, _, rfl, .inr (.inl ⟨rfl, hP2, L2⟩)⟩
    · refine side_run (K := K) (i := 1) (xs := xs) (p := p1) (q := p0) (z := p0) (prs := [aA sp p0 p1 A B, B]) (ls := ls) (rows := setP rows p0 (aA sp p0 p1 A B)) (by decide) kb hl1 nl nll h11 h01 h01 hP rfl hR1 nR nRl nP L1 (ok_set ok1) fun G2 e2 hP2 L2 => ?_
      rw [prs_side1] at hP2 L2
      exact ⟨e1.trans e2, _, _, _, rfl, .inr (.inr ⟨rfl, hP2, L2⟩)⟩
    · omega
  · obtain ⟨e1, t6, t12, t14, rfl, hc⟩ := e
    rcases hc with ⟨z, _⟩ | ⟨z, _⟩ | ⟨_, hP, L1⟩
    · cases z
    · cases z
    · exact kk G1 t6 t12 t14 e1 hP L1
end
end K14.T5
namespace K14.T5
open T27 T3
open K14.Gn
open PySem PySem.W PySem.Calls PyProof.Rows L2 LamX NdefX
open He (ga)
open Kz (SS ExtS ExtS.trans small4 same_new boot_in boot_li boot_isi Has pe_has noE PSs.of_eq seqI new_ext X1 shaped_int dpAll_int)
/-! ### the two names of a pair, as they are drawn -/
def bump (p : Pl) : Nat := if boxP p = true then 1 else 0
/-- the name that the place has at first -/
def nameAt (es fr : List Str) (u : Nat) (p : Pl) : Option Str := match p.1 with
  | none => es[p.2]?
  | some _ => fr[u]?
/-- all but one list stays -/
def KeepN (nf : Addr) (G G' : Hp) : Prop := ∀ b o, G b = some o → b ≠ nf → G' b = some o
theorem KeepN.refl {nf : Addr} {G : Hp} : KeepN nf G G := fun _ _ h _ => h
theorem KeepN.trans {nf : Addr} {G G1 G2 : Hp} (a : KeepN nf G G1) (b : KeepN nf G1 G2) : KeepN nf G G2 := fun x o h n => b x o (a x o h n) n
def tNm (K : Frag) : TE := tIf (tTest (tOp (rI0 fun i j => V.bl (decide (i < j))) (tVar 12) (tC (V.int 0)))) (tOp (rIx K) (tVar 1) (tVar 6)) (tBM K "list" rPopAt (tVar 8) (tCons (tC (V.int 0)) tNil))
def tPairC (K : Frag) : TE := tLc (iList K (tSl (rSlL K) (tVar 7) (tPart t2k) (tPart (tOp (rI0 fun i j => V.int (i + j)) t2k (tC (V.int 2)))))) (gTup K 2 (gCons (gName 12) (gCons (gName 6) gNil))) tYes (tNm K) [12, 6]
section
variable {K : Frag} {es fr : List Str} {u k : Nat} {ea nf lf : Addr} {xs : List V} {p p0 p1 : Pl} {A B : Str} {G H : Hp} {Q : VK} {σ : L2.St}
theorem nm_run (h12 : σ[12]? = some (some (oneV p))) (h6 : σ[6]? = some (some (.int (p.2 : Nat)))) (h1 : σ[1]? = some (some (.ref ea))) (h8 : σ[8]? = some (some (.ref nf))) (he : H ea = some (.lst (es.map V.str))) (hn : H nf = some (.lst ((fr.drop u).map V.str))) (hA : nameAt es fr u p = some A)
    (kk : ∀ H', KeepN nf H H' → H' nf = some (.lst ((fr.drop (u + bump p)).map V.str)) → (∀ b, H b = none → H' b = none) → Q (.str A) H') : tNm K σ H Q := by
  unfold tNm
  refine iff_in (tst_in ⟨oneV p, h12, _, _, one_eq p, rfl, _, rfl, ?_⟩)
  rw [one_lt]
  obtain ⟨q, j⟩ := p
  cases q with
  | none =>
    have hA : es[j]? = some A := hA
    refine iteT ⟨.ref ea, h1, .int (j : Nat), h6, ix_any2 (.inl he) (x := .str A) (by rw [List.getElem?_map, hA]; rfl) ?_⟩
    exact kk H KeepN.refl hn fun _ h => h
  | some i =>
    have hA : fr[u]? = some A := hA
    have ed : fr.drop u = A :: fr.drop (u + 1) := drop_getA hA
    rw [ed] at hn
    refine iteF ⟨.ref nf, h8, .inl ⟨rfl, _, .inl (.inl hn)⟩, nf, _, 0, 0, .str A, rfl, rfl, hn, by decide, by decide, ?_, rfl, ?_⟩
    · unfold seqIndex?
      simp
    · refine kk _ (fun b o h n => by rw [upd_ne n]; exact h) (by rw [upd_same]; rfl) fun b h => ?_
      rw [upd_ne (show b ≠ nf from fun z => by rw [z, hn] at h; cases h)]
      exact h
theorem pairC_run {s0 s2 s3 s5 s6 s9 s10 s11 s12 s13 s14 : Option V} (kb : k ≤ 1000) (he : G ea = some (.lst (es.map V.str))) (hl : G lf = some (.lst xs)) (hn : G nf = some (.lst ((fr.drop u).map V.str))) (ne : ea ≠ nf) (nl : lf ≠ nf) (h0 : PlAt G xs (2 * k) p0) (h1 : PlAt G xs (2 * k + 1) p1)
    (hA : nameAt es fr u p0 = some A) (hB : nameAt es fr (u + bump p0) p1 = some B)
    (kk : ∀ (G' : Hp) (D : Addr), KeepN nf G G' → G D = none → G' D = some (.lst [.str A, .str B]) → G' nf = some (.lst ((fr.drop (u + bump p0 + bump p1)).map V.str)) → Q (.ref D) G') :
    tPairC K [s0, some (.ref ea), s2, s3, some (.int (k : Nat)), s5, s6, some (.ref lf), some (.ref nf), s9, s10, s11, s12, s13, s14] G Q := by
  unfold tPairC
  obtain ⟨a0, x0, g0⟩ := h0
  obtain ⟨a1, x1, g1⟩ := h1
  have nn : ∀ {a : Addr} {us : List V}, G a = some (.tup us) → a ≠ nf := fun h z => by
    rw [z, hn] at h
    cases h
  refine ⟨.ref lf, rfl, t2k_in rfl kb ⟨_, rfl, T3.op_in (t2k_in rfl kb ⟨_, _, rfl, rfl, _, rfl, ?_⟩)⟩⟩
  refine ⟨lf, xs, rfl, .inl (.inl hl), fun sl nsl => ?_⟩
  have lx : 2 * k + 1 < xs.length := (List.getElem?_eq_some_iff.mp x1).1
  have cut : cutV xs (some ((2 * k : Nat) : Int)) (some (((2 * k : Nat) : Int) + 2)) = [.ref a0, .ref a1] := by
    unfold cutV
    have e1 : HT.sIx xs.length 0 (some ((2 * k : Nat) : Int)) = 2 * k := by
      rw [HT.sIx_nat]
      omega
    have e2 : HT.sIx xs.length xs.length (some (((2 * k : Nat) : Int) + 2)) = 2 * k + 2 := by
      have : (((2 * k : Nat) : Int) + 2) = ((2 * k + 2 : Nat) : Int) := by push_cast; rfl
      rw [this, HT.sIx_nat]
      omega
    rw [e1, e2, show 2 * k + 2 - 2 * k = 2 by omega]
    rw [drop_getA x0, drop_getA x1]
    rfl
  rw [cut]
  have s1 : L2.Same G (upd G sl (.lst [.ref a0, .ref a1])) := same_new nsl
  generalize hG1 : upd G sl (.lst [.ref a0, .ref a1]) = G1 at s1
  have hsl : G1 sl = some (.lst [.ref a0, .ref a1]) := by rw [← hG1, upd_same]
  refine ⟨sl, rfl, ⟨_, .inl (.inl hsl)⟩, fun D hD => ?_⟩
  have nsn : sl ≠ nf := fun z => by
    rw [z, hn] at nsl
    cases nsl
  have nDn : D ≠ nf := fun z => by
    rw [z, s1 _ _ hn] at hD
    cases hD
  have nDs : D ≠ sl := fun z => by
    rw [z, hsl] at hD
    cases hD
  have hGD : G D = none := by
    cases e : G D with
    | none => rfl
    | some o =>
      rw [s1 _ _ e] at hD
      cases hD
  refine lc_it (walk_list (K := K) (a := sl) (xs := [.ref a0, .ref a1])) (fun i H2 => KeepN nf G H2 ∧ H2 sl = some (.lst [.ref a0, .ref a1]) ∧ ((i = 0 ∧ H2 D = some (.lst []) ∧ H2 nf = some (.lst ((fr.drop u).map V.str))) ∨ (i = 1 ∧ H2 D = some (.lst [.str A]) ∧ H2 nf = some (.lst ((fr.drop (u + bump p0)).map V.str))) ∨ (i = 2 ∧ H2 D = some (.lst [.str A, .str B]) ∧ H2 nf = some (.lst ((fr.drop (u + bump p0 + bump p1)).map V.str)))))
    ⟨fun b o h n => ?_, ?_, .inl ⟨rfl, upd_same, ?_⟩⟩ (fun i H2 _ e => .inl (.inl e.2.1)) (fun i x H2 H3 hi e y => ?_) (fun H2 e => ?_)
  · rw [upd_ne (show b ≠ D from fun z => by rw [z, hGD] at h; cases h)]
    exact s1 _ _ h
  · rw [upd_ne (fun z => nDs z.symm)]
    exact hsl
  · rw [upd_ne (fun z => nDn z.symm)]
    exact s1 _ _ hn
  · obtain ⟨e1, hs2, hc⟩ := e
    obtain ⟨rfl, hx⟩ := y
    have put : ∀ {H4 : Hp} {o : HO}, KeepN nf G H4 → H4 sl = some (.lst [.ref a0, .ref a1]) → KeepN nf G (upd H4 D o) ∧ upd H4 D o sl = some (.lst [.ref a0, .ref a1]) ∧ upd H4 D o nf = H4 nf := fun {H4 o} h1 h2 => by
      refine ⟨fun b u hb n => ?_, ?_, upd_ne (fun z => nDn z.symm)⟩
      · rw [upd_ne (show b ≠ D from fun z => by rw [z, hGD] at hb; cases hb)]
        exact h1 b u hb n
      · rw [upd_ne (fun z => nDs z.symm)]
        exact h2
    rcases hc with ⟨rfl, hP, hN⟩ | ⟨rfl, hP, hN⟩ | ⟨rfl, _⟩
    · cases hx
      refine ⟨a0, _, rfl, .inl (.inl (e1 _ _ g0 (nn g0))), rfl, _, _, rfl, _, _, rfl, rfl, rfl, ?_⟩
      unfold tYes
      show (if true = true then _ else _)
      rw [if_pos rfl]
      refine nm_run (K := K) (es := es) (fr := fr) (u := u) (p := p0) (ea := ea) (nf := nf) rfl rfl rfl rfl (e1 _ _ he ne) hN hA fun H4 e4 hN4 _ => ?_
      obtain ⟨k1, k2, k3⟩ := put (H4 := H4) (o := .lst ([] ++ [.str A])) (e1.trans e4) (e4 _ _ hs2 nsn)
      exact ⟨[], e4 _ _ hP nDn, by rw [sizeLine_eq]; decide, k1, k2, .inr (.inl ⟨rfl, upd_same, by rw [k3]; exact hN4⟩)⟩
    · cases hx
      refine ⟨a1, _, rfl, .inl (.inl (e1 _ _ g1 (nn g1))), rfl, _, _, rfl, _, _, rfl, rfl, rfl, ?_⟩
      unfold tYes
      show (if true = true then _ else _)
      rw [if_pos rfl]
      refine nm_run (K := K) (es := es) (fr := fr) (u := u + bump p0) (p := p1) (ea := ea) (nf := nf) rfl rfl rfl rfl (e1 _ _ he ne) hN hB fun H4 e4 hN4 _ => ?_
      obtain ⟨k1, k2, k3⟩ := put (H4 := H4) (o := .lst ([.str A] ++ [.str B])) (e1.trans e4) (e4 _ _ hs2 nsn)
      exact ⟨[.str A], e4 _ _ hP nDn, by rw [sizeLine_eq]; show 1 < 16777216; decide, k1, k2, .inr (.inr ⟨rfl, upd_same, by rw [k3]; exact hN4⟩)⟩
    · have : (2 : Nat) < 2 := hi
      omega
  · obtain ⟨e1, _, hc⟩ := e
    rcases hc with ⟨z, _⟩ | ⟨z, _⟩ | ⟨_, hP, hN⟩
    · cases z
    · cases z
    · exact kk H2 D e1 hGD hP hN
end
end K14.T5
namespace K14.T5
open T27 T3
open K14.Gn
open PySem PySem.W PySem.Calls PyProof.Rows L2 LamX NdefX
open He (ga)
open Kz (SS ExtS ExtS.trans small4 same_new boot_in boot_li boot_isi Has pe_has noE PSs.of_eq seqI new_ext X1 shaped_int dpAll_int)
/-! ### a pair of places, all of it -/
def KeepM (M : List Addr) (G G' : Hp) : Prop := ∀ b o, G b = some o → b ∉ M → G' b = some o
theorem KeepM.refl {M : List Addr} {G : Hp} : KeepM M G G := fun _ _ h _ => h
theorem KeepM.trans {M : List Addr} {G G1 G2 : Hp} (a : KeepM M G G1) (b : KeepM M G1 G2) : KeepM M G G2 := fun x o h m => b x o (a x o h m) m
theorem KeepM.hid {M : List Addr} {G G' : Hp} (e : KeepM M G G') : L2.Same (Hid M G) (Hid M G') := fun b o h => by
  obtain ⟨h1, h2, h3⟩ := hid_at h
  exact hid_of h1 (e b o h2 h1) h3
theorem spr_keep {G G' : Hp} {l li : Addr} {c : Int} (s : Spr G l li c) (e : ∀ o, (G l = some o → G' l = some o) ∧ (G li = some o → G' li = some o)) : Spr G' l li c := by
  obtain ⟨ns, b, d, s, n⟩ := s
  exact ⟨ns, b, d, ⟨(e _).1 s.l1, (e _).2 s.l2, s.ne, s.b0, s.c0, s.d0, s.d1⟩, n⟩
def jD (p : Str × Str) : PyData := .tuple [.str p.1, .str p.2]
def tSplit : TS := tAsg (tOp rEq (tCall spDrW [] noE (tCons (tVar 0) (tCons (tC (V.int 6)) tNil))) (tC (V.int 0))) (gName 13)
def tJoin (K : Frag) : TS := tIfS (tTest (tOp rNe (tOp (rIxL K) (tVar 11) (tC (V.int 0))) (tOp (rIxL K) (tVar 11) (tC (V.int 1)))))
  (tDrop (tBM K "list" rAppend (tVar 10) (tCons (tCB (fun xs H Q => ∃ p ys, xs = [V.ref p] ∧ ((SqL K H p ys ∧ ∀ l, H l = none → Q (V.ref l) (upd H l (HO.tup ys))) ∨ SqT K H p ys ∧ Q (V.ref p) H)) (tCons (tCall spMxW [] noE (tCons (tVar 0) (tCons (tVar 11) tNil))) tNil)) tNil))) tNext
def tPairB (K : Frag) : TS := tSeq (tAsg (tPairC K) (gName 11)) (tSeq tSplit (tSeq (tSides K) (tJoin K)))
section
variable {K : Frag} {D : Ends} {es fr : List Str} {u k : Nat} {l li ea nf lf R J : Addr} {ls M : List Addr} {xs ys : List V} {p0 p1 : Pl} {A B : Str} {G : Hp} {c : Int} {rows : List (List Str)} {jp : List (Str × Str)}
/-- what is joined beside -/
def JoinOk (a0 a1 : Str) (jq : List (Str × Str)) : Prop := (a0 = a1 ∧ jq = []) ∨ (a0 ≠ a1 ∧ ∃ a b, jq = [(a, b)] ∧ [a, b].Perm [a0, a1])
theorem join_run {s2 s3 s4 s5 s6 s8 s12 s13 s14 : Option V} {Pr : Addr} {a0 a1 : Str} (eM : M = l :: li :: nf :: J :: ls) (nM : M.Nodup) (hs : Spr G l li c) (hc : c < 900000000) (hPr : G Pr = some (.lst [.str a0, .str a1])) (hJ : G J = some (.lst ys)) (tJ : ThAll (Hid M G) ys (jp.map jD)) (ly : ys.length ≤ 1000) (insM : Ins M G)
    (kk : ∀ (G' : Hp) (ys' : List V) (jq : List (Str × Str)) (c' : Int), (∀ b o, G b = some o → b ≠ l → b ≠ li → b ≠ J → G' b = some o) → Spr G' l li c' → c' ≤ c + 2 → G' J = some (.lst ys') → ThAll (Hid M G') ys' ((jp ++ jq).map jD) → ys'.length ≤ ys.length + 1 → JoinOk a0 a1 jq → D.nx [some (.ref l), some (.ref ea), s2, s3, s4, s5, s6, some (.ref lf), s8, some (.ref R), some (.ref J), some (.ref Pr), s12, s13, s14] G') :
    tJoin K D [some (.ref l), some (.ref ea), s2, s3, s4, s5, s6, some (.ref lf), s8, some (.ref R), some (.ref J), some (.ref Pr), s12, s13, s14] G := by
  unfold tJoin
  have i0 : rIxL K (.ref Pr) (.int 0) G = rIxL K (.ref Pr) (.int ((0 : Nat) : Int)) G := rfl
  refine tst_in (ixC_in ⟨.ref Pr, rfl, rixLi (i := 0) rfl hPr (x := .str a0) rfl ?_⟩)
  refine ixC_in ⟨.ref Pr, rfl, rixLi (i := 1) rfl hPr (x := .str a1) rfl ⟨rfl, _, rfl, ?_⟩⟩
  have es : decide (V.str a0 = V.str a1) = decide (a0 = a1) := by
    rw [Bool.eq_iff_iff, decide_eq_true_eq, decide_eq_true_eq]
    exact ⟨fun z => V.str.inj z, fun z => by rw [z]⟩
  show (if (!decide (V.str a0 = V.str a1)) = true then _ else _)
  rw [es]
  by_cases e : a0 = a1
  · rw [decide_eq_true e]
    exact iteF (kk G ys [] c (fun _ _ h _ _ _ => h) hs (by omega) hJ (by rw [List.append_nil]; exact tJ) (by omega) (.inl ⟨e, rfl⟩))
  · rw [decide_eq_false e]
    have nlJ : J ≠ l ∧ J ≠ li := by
      rw [eM] at nM
      obtain ⟨h1, h2⟩ := List.nodup_cons.mp nM
      obtain ⟨h3, h4⟩ := List.nodup_cons.mp h2
      exact ⟨fun z => h1 (z ▸ by simp), fun z => h3 (z ▸ by simp)⟩
    refine iteT (dropS' ⟨.ref J, rfl, .inl ⟨rfl, _, .inl (.inl hJ)⟩, ?_⟩)
    refine cons_in ?_
    refine ⟨.ref l, rfl, .ref Pr, rfl, l, li, Pr, c, [.str a0, .str a1], rfl, hs, hPr, (by show 2 ≤ 1000; decide), hc, fun H1 r zs e1 s1 nr r1 r2 hr pm => ?_⟩
    have pm : zs.Perm ([a0, a1].map V.str) := pm
    obtain ⟨ms, rfl, pn⟩ := strs_of pm
    obtain ⟨a, b, rfl⟩ : ∃ a b, ms = [a, b] := by
      match ms, pn.length_eq with
      | [a, b], _ => exact ⟨a, b, rfl⟩
    refine ⟨r, _, rfl, .inl ⟨.inl (.inl hr), fun t nt => ?_⟩⟩
    have J1 := (same_new (o := .tup ([a, b].map V.str)) nt) _ _ (e1 _ _ hJ nlJ.1 nlJ.2)
    have s2 := s1.same (same_new (o := .tup ([a, b].map V.str)) nt)
    have nJ : J ≠ t := fun z => by
      rw [← z, e1 _ _ hJ nlJ.1 nlJ.2] at nt
      cases nt
    refine ⟨J, ys, .ref t, rfl, rfl, J1, by rw [sizeLine_eq]; omega, ?_⟩
    have keep : ∀ {o : HO}, ∀ b' o', G b' = some o' → b' ≠ l → b' ≠ li → b' ≠ J → upd (upd H1 t (.tup ([a, b].map V.str))) J o b' = some o' := fun {o} b' o' h n1 n2 n3 => by
      rw [upd_ne n3]
      exact (same_new nt) _ _ (e1 _ _ h n1 n2)
    have km : ∀ {o : HO}, KeepM M G (upd (upd H1 t (.tup ([a, b].map V.str))) J o) := fun {o} b' o' h m => keep b' o' h (fun z => m (by rw [z, eM]; simp)) (fun z => m (by rw [z, eM]; simp)) (fun z => m (by rw [z, eM]; simp))
    have tM : t ∉ M := fun m => by
      obtain ⟨o, ho⟩ := insM t m
      rw [eM] at m
      have : H1 t ≠ none := by
        by_cases q1 : t = l
        · rw [q1]
          obtain ⟨_, _, _, ss, _⟩ := s1
          rw [ss.l1]
          exact fun z => nomatch z
        · by_cases q2 : t = li
          · rw [q2]
            obtain ⟨_, _, _, ss, _⟩ := s1
            rw [ss.l2]
            exact fun z => nomatch z
          · rw [e1 _ _ ho q1 q2]
            exact fun z => nomatch z
      exact this nt
    refine kk _ (ys ++ [.ref t]) [(a, b)] (c + 2) keep (Exc.spr Exc.upd nlJ.1 nlJ.2 s2) (Int.le_refl _) upd_same ?_ (by rw [List.length_append]; exact Nat.le_refl _) (.inr ⟨e, a, b, rfl, pn⟩)
    rw [List.map_append]
    refine K14.Gn.ThAll.snoc (tJ.ext km.hid) ?_
    refine .tup (hid_of tM (by rw [upd_ne (fun z => nJ z.symm), upd_same]; rfl) (fun ps z => nomatch z)) (.cons (.str a) (.cons (.str b) .nil))
theorem PlAt.via {G' : Hp} {n : Nat} {p : Pl} (h : PlAt G xs n p) (e : ∀ b us, G b = some (.tup us) → G' b = some (.tup us)) : PlAt G' xs n p := by
  obtain ⟨a, h1, h2⟩ := h
  exact ⟨a, h1, e _ _ h2⟩
theorem LsA_via {G G' : Hp} (h : T69.LsA G ls rows) (e : ∀ a ∈ ls, ∀ o, G a = some o → G' a = some o) : T69.LsA G' ls rows :=
  ⟨h.len, h.nd, fun i a ha => by
    obtain ⟨ws, h1, h2⟩ := h.at_ i a ha
    exact ⟨ws, h1, e a (List.mem_of_getElem? ha) _ h2⟩⟩
theorem body_run {s2 s3 s5 s6 s11 s12 s13 s14 : Option V} (kb : k ≤ 1000) (eM : M = l :: li :: nf :: J :: ls) (nM : M.Nodup) (mea : ea ∉ M) (mlf : lf ∉ M) (mR : R ∉ M) (insM : Ins M G) (hs : Spr G l li c) (hc : c < 800000000) (he : G ea = some (.lst (es.map V.str))) (hl : G lf = some (.lst xs)) (hn : G nf = some (.lst ((fr.drop u).map V.str))) (hR : G R = some (.lst (ls.map V.ref))) (L : T69.LsA G ls rows)
    (hJ : G J = some (.lst ys)) (tJ : ThAll (Hid M G) ys (jp.map jD)) (ly : ys.length ≤ 1000) (h0 : PlAt G xs (2 * k) p0) (h1 : PlAt G xs (2 * k + 1) p1) (hA : nameAt es fr u p0 = some A) (hB : nameAt es fr (u + bump p0) p1 = some B)
    (ok0 : ∀ i', p0.1 = some i' → ∃ row, rows[i']? = some row ∧ p0.2 < row.length) (ok1 : ∀ i', p1.1 = some i' → ∃ row, rows[i']? = some row ∧ p1.2 < row.length)
    (kk : ∀ (G' : Hp) (sp : Bool) (ys' : List V) (jq : List (Str × Str)) (c' : Int) (t6 t11 t12 t13 t14 : Option V), KeepM M G G' → Spr G' l li c' → c' ≤ c + 3 → G' nf = some (.lst ((fr.drop (u + bump p0 + bump p1)).map V.str)) → T69.LsA G' ls (setP (setP rows p0 (aA sp p0 p1 A B)) p1 (aB sp p0 p1 A B)) → G' J = some (.lst ys') → ThAll (Hid M G') ys' ((jp ++ jq).map jD) → ys'.length ≤ ys.length + 1 → JoinOk (aA sp p0 p1 A B) (aB sp p0 p1 A B) jq →
      D.nx [some (.ref l), some (.ref ea), s2, s3, some (.int (k : Nat)), s5, t6, some (.ref lf), some (.ref nf), some (.ref R), some (.ref J), t11, t12, t13, t14] G') :
    tPairB K D [some (.ref l), some (.ref ea), s2, s3, some (.int (k : Nat)), s5, s6, some (.ref lf), some (.ref nf), some (.ref R), some (.ref J), s11, s12, s13, s14] G := by
  have mem : ∀ {b : Addr}, b ∉ M → b ≠ l ∧ b ≠ li ∧ b ≠ nf ∧ b ≠ J ∧ b ∉ ls := fun {b} m => by
    rw [eM] at m
    simp only [List.mem_cons, not_or] at m
    exact ⟨m.1, m.2.1, m.2.2.1, m.2.2.2.1, m.2.2.2.2⟩
  have nd := nM
  rw [eM] at nd
  obtain ⟨d1, nd⟩ := List.nodup_cons.mp nd
  obtain ⟨d2, nd⟩ := List.nodup_cons.mp nd
  obtain ⟨d3, nd⟩ := List.nodup_cons.mp nd
  obtain ⟨d4, nd⟩ := List.nodup_cons.mp nd
  simp only [List.mem_cons, not_or] at d1 d2 d3
  obtain ⟨ea1, ea2, ea3, ea4, ea5⟩ := mem mea
  obtain ⟨lf1, lf2, lf3, lf4, lf5⟩ := mem mlf
  obtain ⟨R1, R2, R3, R4, R5⟩ := mem mR
  unfold tPairB
  refine T69.asg_intro ?_
  refine pairC_run (K := K) (es := es) (fr := fr) (u := u) (xs := xs) (p0 := p0) (p1 := p1) (A := A) (B := B) kb he hl hn ea3 lf3 h0 h1 hA hB fun G1 Pr e1 nPr hPr hn1 => ?_
  refine gset ?_
  have prM : Pr ∉ M := fun m => by
    obtain ⟨o, ho⟩ := insM Pr m
    rw [ho] at nPr
    cases nPr
  obtain ⟨P1, P2, P3, P4, P5⟩ := mem prM
  have neP : ∀ {b : Addr} {o : HO}, G b = some o → b ≠ Pr := fun h z => by
    rw [z, nPr] at h
    cases h
  have lsn : ∀ a ∈ ls, a ≠ l ∧ a ≠ li ∧ a ≠ nf ∧ a ≠ J := fun a m => ⟨fun z => d1.2.2.2 (z ▸ m), fun z => d2.2.2 (z ▸ m), fun z => d3.2 (z ▸ m), fun z => d4 (z ▸ m)⟩
  have hs1 : Spr G1 l li c := Exc.spr e1 (fun z => d1.2.1 z.symm) (fun z => d2.1 z.symm) hs
  refine T69.asg_intro ⟨.ref l, rfl, l, li, c, 6, rfl, hs1, by decide, by decide, by omega, fun G2 r e2 sp2 r0 r1 => ⟨rfl, gset ?_⟩⟩
  generalize decide (V.int r = V.int 0) = sp
  have tupN : ∀ {b : Addr} {us : List V}, G b = some (.tup us) → b ≠ l ∧ b ≠ li ∧ b ≠ nf := fun {b us} h => by
    obtain ⟨_, _, _, ss, _⟩ := hs
    refine ⟨fun z => ?_, fun z => ?_, fun z => ?_⟩
    · rw [z, ss.l1] at h
      cases h
    · rw [z, ss.l2] at h
      cases h
    · rw [z, hn] at h
      cases h
  have to2 : ∀ {b : Addr} {o : HO}, G b = some o → b ≠ nf → b ≠ l → b ≠ li → G2 b = some o := fun h n1 n2 n3 => e2 _ _ (e1 _ _ h n1) n2 n3
  have pl2 : ∀ {n : Nat} {p : Pl}, PlAt G xs n p → PlAt G2 xs n p := fun h => h.via fun b us hb => to2 hb (tupN hb).2.2 (tupN hb).1 (tupN hb).2.1
  have L2' : T69.LsA G2 ls rows := LsA_via L fun a m o h => to2 h (lsn a m).2.2.1 (lsn a m).1 (lsn a m).2.1
  refine sides_run (K := K) (xs := xs) (p0 := p0) (p1 := p1) (A := A) (B := B) (ls := ls) (rows := rows) kb (to2 hl lf3 lf1 lf2) (neP hl) lf5 (pl2 h0) (pl2 h1) (e2 _ _ hPr P1 P2) (to2 hR R3 R1 R2) (neP hR) R5 P5 L2' ok0 ok1 fun G3 t6 t12 t14 e3 hP3 L3 => ?_
  have to3 : ∀ {b : Addr} {o : HO}, G b = some o → b ≠ nf → b ≠ l → b ≠ li → b ∉ ls → G3 b = some o := fun h n1 n2 n3 n4 => e3 _ _ (to2 h n1 n2 n3) (neP h) n4
  have km : KeepM M G G3 := fun b o h m => to3 h (mem m).2.2.1 (mem m).1 (mem m).2.1 (mem m).2.2.2.2
  have hs3 : Spr G3 l li (c + 1) := spr_keep sp2 fun o => ⟨fun h => e3 _ _ h (fun z => P1 z.symm) d1.2.2.2, fun h => e3 _ _ h (fun z => P2 z.symm) d2.2.2⟩
  have hn3 : G3 nf = some (.lst ((fr.drop (u + bump p0 + bump p1)).map V.str)) := e3 _ _ (e2 _ _ hn1 (fun z => d1.2.1 z.symm) (fun z => d2.1 z.symm)) (fun z => P3 z.symm) d3.2
  have hJ3 : G3 J = some (.lst ys) := to3 hJ (fun z => d3.1 z.symm) (fun z => d1.2.2.1 z.symm) (fun z => d2.2.1 z.symm) d4
  have ins3 : Ins M G3 := fun b m => by
    rw [eM] at m
    obtain ⟨_, _, _, ss, _⟩ := hs3
    rcases List.mem_cons.mp m with rfl | m
    · exact ⟨_, ss.l1⟩
    · rcases List.mem_cons.mp m with rfl | m
      · exact ⟨_, ss.l2⟩
      · rcases List.mem_cons.mp m with rfl | m
        · exact ⟨_, hn3⟩
        · rcases List.mem_cons.mp m with rfl | m
          · exact ⟨_, hJ3⟩
          · obtain ⟨i, hi⟩ := List.getElem?_of_mem m
            obtain ⟨ws, _, g⟩ := L3.at_ i b hi
            exact ⟨_, g⟩
  refine join_run (K := K) (li := li) (ls := ls) (M := M) (nf := nf) (ys := ys) (jp := jp) (c := c + 1) eM nM hs3 (by omega) hP3 hJ3 (tJ.ext km.hid) ly ins3 fun G4 ys' jq c' e4 hs4 hc4 hJ4 tJ4 ly4 hj => ?_
  refine kk G4 sp ys' jq c' _ _ _ _ _ (fun b o h m => e4 _ _ (km b o h m) (mem m).1 (mem m).2.1 (mem m).2.2.2.1) hs4 (by omega) (e4 _ _ hn3 (fun z => d1.2.1 z.symm) (fun z => d2.1 z.symm) d3.1) (LsA_via L3 fun a m o h => e4 _ _ h (lsn a m).1 (lsn a m).2.1 (lsn a m).2.2.2) hJ4 tJ4 ly4 hj
end
end K14.T5
namespace K14.T5
open T27 T3
open K14.Gn
open PySem PySem.W PySem.Calls PyProof.Rows L2 LamX NdefX
open He (ga)
open Kz (SS ExtS ExtS.trans small4 same_new boot_in boot_li boot_isi Has pe_has noE PSs.of_eq seqI new_ext X1 shaped_int dpAll_int)
/-! ### one pair more, as PairI has it -/
def jFlat (jp : List (Str × Str)) : List Str := jp.flatMap fun p => [p.1, p.2]
/-- the place is one of those -/
def ValP (es : List Str) (W : List Nat) (p : Pl) : Prop := match p.1 with
  | none => p.2 < es.length
  | some i => ∃ w, W[i]? = some w ∧ p.2 < w
theorem val_places {es : List Str} {W : List Nat} {p : Pl} (h : p ∈ placesOf es W) : ValP es W p := by
  rcases List.mem_append.mp h with h | h
  · obtain ⟨j, hj, rfl⟩ := List.mem_map.mp h
    exact List.mem_range.mp hj
  · obtain ⟨i, hi, h⟩ := List.mem_flatMap.mp h
    obtain ⟨j, hj, rfl⟩ := List.mem_map.mp h
    have il := List.mem_range.mp hi
    have e : W[i]? = some W[i] := List.getElem?_eq_getElem il
    refine ⟨W[i], e, ?_⟩
    have := List.mem_range.mp hj
    rw [getD_some e] at this
    exact this
theorem row_at {W : List Nat} {rows : List (List Str)} {p : Pl} {es : List Str} (w : rows.map List.length = W) (v : ValP es W p) : ∀ i', p.1 = some i' → ∃ row, rows[i']? = some row ∧ p.2 < row.length := fun i' e => by
  obtain ⟨q, j⟩ := p
  cases e
  obtain ⟨n, h1, h2⟩ := v
  rw [← w, List.getElem?_map] at h1
  cases e2 : rows[i']? with
  | none =>
    rw [e2] at h1
    cases h1
  | some r =>
    rw [e2] at h1
    have h1 := Option.some.inj h1
    exact ⟨r, rfl, by rw [h1]; exact h2⟩
theorem name_some {es fr : List Str} {W : List Nat} {u : Nat} {p : Pl} (v : ValP es W p) (hu : u < fr.length) : ∃ A, nameAt es fr u p = some A := by
  obtain ⟨q, j⟩ := p
  cases q with
  | none => exact ⟨_, List.getElem?_eq_getElem v⟩
  | some i => exact ⟨_, List.getElem?_eq_getElem hu⟩
section
variable {es fr : List Str} {W : List Nat} {dn : List Pl} {u : Nat} {rows : List (List Str)} {js : List Str} {p0 p1 : Pl} {A B : Str} {sp : Bool} {jq : List (Str × Str)}
theorem own_A (hA : nameAt es fr u p0 = some A) : Own5 es fr u (u + bump p0 + bump p1) p0 p1 A := by
  obtain ⟨q, j⟩ := p0
  cases q with
  | none => exact .inl ⟨j, .inl rfl, hA⟩
  | some i =>
    refine .inr ⟨u, Nat.le_refl _, ?_, hA⟩
    show u < u + 1 + _
    omega
theorem own_B (hB : nameAt es fr (u + bump p0) p1 = some B) : Own5 es fr u (u + bump p0 + bump p1) p0 p1 B := by
  obtain ⟨q, j⟩ := p1
  cases q with
  | none => exact .inl ⟨j, .inr rfl, hB⟩
  | some i =>
    refine .inr ⟨u + bump p0, by omega, ?_, hB⟩
    show _ < u + bump p0 + 1
    omega
theorem okP_of {a : Str} {p : Pl} {rs : List (List Str)} {dn : List Pl} (e : p.1 = none → es[p.2]? = some a) (rw_ : ∀ i', p.1 = some i' → ∃ row, rs[i']? = some row ∧ p.2 < row.length) (emp : ∀ (i j : Nat) (row : List Str) (s : Str), rs[i]? = some row → row[j]? = some s → (s = "" ↔ ((some i, j) : Pl) ∉ dn)) (n : p ∉ dn) : OkP es rs p a := by
  obtain ⟨q, j⟩ := p
  cases q with
  | none => exact e rfl
  | some i =>
    obtain ⟨row, h1, h2⟩ := rw_ i rfl
    refine ⟨row, h1, ?_⟩
    have h3 : row[j]? = some row[j] := List.getElem?_eq_getElem h2
    rw [h3, (emp i j row _ h1 h3).mpr n]
    rfl
theorem pair_next (S : Stock5 es fr) (I : PairI es fr W dn u rows js) (v0 : ValP es W p0) (v1 : ValP es W p1) (n0 : p0 ∉ dn) (n1 : p1 ∉ dn) (ne : p0 ≠ p1) (hA : nameAt es fr u p0 = some A) (hB : nameAt es fr (u + bump p0) p1 = some B) (hj : JoinOk (aA sp p0 p1 A B) (aB sp p0 p1 A B) jq) :
    PairI es fr W (dn ++ [p0] ++ [p1]) (u + bump p0 + bump p1) (setP (setP rows p0 (aA sp p0 p1 A B)) p1 (aB sp p0 p1 A B)) (js ++ jFlat jq) := by
  have oA : Own5 es fr u (u + bump p0 + bump p1) p0 p1 (aA sp p0 p1 A B) := by
    unfold aA
    split
    · exact own_B hB
    · exact own_A hA
  have oB : Own5 es fr u (u + bump p0 + bump p1) p0 p1 (aB sp p0 p1 A B) := by
    unfold aB
    split
    · exact own_A hA
    · exact own_B hB
  have k0 : OkP es rows p0 (aA sp p0 p1 A B) := okP_of (fun z => by
    obtain ⟨q, j⟩ := p0
    cases z
    exact hA) (row_at I.wid v0) I.emp n0
  have k1 : OkP es (setP rows p0 (aA sp p0 p1 A B)) p1 (aB sp p0 p1 A B) := okP_of (dn := dn ++ [p0]) (fun z => by
    obtain ⟨q, j⟩ := p1
    cases z
    exact hB) (ok_set (row_at I.wid v1)) (emp_set (fr := fr) (oA.ne S) k0 I.emp) (fun m => by
    rcases List.mem_append.mp m with m | m
    · exact n1 m
    · exact ne (List.mem_singleton.mp m).symm)
  refine pair_step S I (by omega) n0 n1 ne k0 k1 oA oB ?_
  rcases hj with ⟨e, rfl⟩ | ⟨e, a, b, rfl, p⟩
  · exact .inl ⟨e, rfl⟩
  · exact .inr ⟨e, p⟩
end
/-! ### all the pairs -/
section
variable {K : Frag} {D : Ends} {es fr : List Str} {W : List Nat} {l li ea nf lf R J : Addr} {ls M : List Addr} {xs : List V} {left : List Pl} {G0 : Hp} {c0 : Int} {m : Nat}
def tPairs (K : Frag) : TS := tFor (iRng1 (tCons (tOp (rI CDiv fun i j => V.int (i / j)) (tCB (fun xs H Q => ∃ p ys, xs = [V.ref p] ∧ (SqL K H p ys ∨ SqT K H p ys) ∧ Q (.int (ys.length : Nat)) H) (tCons (tVar 7) tNil)) (tC (.int 2))) tNil)) (gName 4) (tPairB K)
/-- what stands after k pairs -/
def PvP (es fr : List Str) (W : List Nat) (l li ea nf lf R J : Addr) (ls M : List Addr) (left : List Pl) (G0 : Hp) (c0 : Int) (s2 s3 : Option V) (k : Nat) (σ : L2.St) (G : Hp) : Prop :=
  ∃ (u : Nat) (rows : List (List Str)) (jp : List (Str × Str)) (ys : List V) (c : Int) (t4 t5 t6 t11 t12 t13 t14 : Option V), σ = [some (.ref l), some (.ref ea), s2, s3, t4, t5, t6, some (.ref lf), some (.ref nf), some (.ref R), some (.ref J), t11, t12, t13, t14] ∧
    KeepM M G0 G ∧ PairI es fr W (left.take (2 * k)) u rows (jFlat jp) ∧ u ≤ 2 * k ∧ Spr G l li c ∧ c ≤ c0 + 3 * (k : Nat) ∧ G nf = some (.lst ((fr.drop u).map V.str)) ∧ T69.LsA G ls rows ∧ G J = some (.lst ys) ∧ ThAll (Hid M G) ys (jp.map jD) ∧ ys.length ≤ k
theorem pairs_run {s2 s3 : Option V} {σ : L2.St} (S : Stock5 es fr) (eM : M = l :: li :: nf :: J :: ls) (nM : M.Nodup) (mea : ea ∉ M) (mlf : lf ∉ M) (mR : R ∉ M) (he : G0 ea = some (.lst (es.map V.str))) (hl : G0 lf = some (.lst xs)) (hR : G0 R = some (.lst (ls.map V.ref))) (lx : xs.length = left.length) (ll : left.length = 2 * m) (m1 : m ≤ 500) (pl : ∀ (n : Nat) (p : Pl), left[n]? = some p → PlAt G0 xs n p ∧ ∀ a, xs[n]? = some (.ref a) → a ∉ M)
    (pm : left.Perm (placesOf es W)) (nd : left.Nodup) (lf2 : 2 * left.length ≤ fr.length) (hc : c0 < 700000000) (h0 : PvP es fr W l li ea nf lf R J ls M left G0 c0 s2 s3 0 σ G0)
    (kk : ∀ σ' G, PvP es fr W l li ea nf lf R J ls M left G0 c0 s2 s3 m σ' G → D.nx σ' G) : tPairs K D σ G0 := by
  unfold tPairs
  obtain ⟨u, rows, jp, ys, c, t4, t5, t6, t11, t12, t13, t14, rfl, hh⟩ := h0
  have h0 : PvP es fr W l li ea nf lf R J ls M left G0 c0 s2 s3 0 [some (.ref l), some (.ref ea), s2, s3, t4, t5, t6, some (.ref lf), some (.ref nf), some (.ref R), some (.ref J), t11, t12, t13, t14] G0 := ⟨u, rows, jp, ys, c, t4, t5, t6, t11, t12, t13, t14, rfl, hh⟩
  refine ⟨.ref lf, rfl, lf, xs, rfl, .inl (.inl (.inl hl)), ?_⟩
  refine ⟨_, _, rfl, rfl, ⟨by decide, by decide⟩, (xs.length : Int) / 2, rfl, by omega, by omega, ?_⟩
  have em : ((xs.length : Int) / 2).toNat = m := by omega
  rw [em]
  clear hh
  refine for_range (lo := 0) (n := m) (PvP es fr W l li ea nf lf R J ls M left G0 c0 s2 s3) h0 (fun k σ G hk e => ?_) kk
  obtain ⟨u, rows, jp, ys, c, t4, t5, t6, t11, t12, t13, t14, rfl, km, I, uk, hs, hc2, hn, L, hJ, tJ, ly⟩ := e
  refine gset ?_
  have l0 : left[2 * k]? = some left[2 * k] := List.getElem?_eq_getElem (by omega)
  have l1 : left[2 * k + 1]? = some left[2 * k + 1] := List.getElem?_eq_getElem (by omega)
  generalize left[2 * k] = p0 at l0
  generalize left[2 * k + 1] = p1 at l1
  have v0 := val_places (pm.mem_iff.mp (List.mem_of_getElem? l0))
  have v1 := val_places (pm.mem_iff.mp (List.mem_of_getElem? l1))
  have inj : ∀ {i j : Nat} {p : Pl}, left[i]? = some p → left[j]? = some p → i = j := fun h1 h2 => by
    obtain ⟨a1, b1⟩ := List.getElem?_eq_some_iff.mp h1
    obtain ⟨a2, b2⟩ := List.getElem?_eq_some_iff.mp h2
    exact (List.getElem_inj nd).mp (b1.trans b2.symm)
  have out : ∀ {n : Nat} {p : Pl}, left[n]? = some p → 2 * k ≤ n → p ∉ left.take (2 * k) := fun {n p} h hn m => by
    obtain ⟨j, hj⟩ := List.getElem?_of_mem m
    rw [List.getElem?_take] at hj
    split at hj
    · have := inj h hj
      omega
    · cases hj
  have n0 := out l0 (Nat.le_refl _)
  have n1 := out l1 (by omega)
  have ne : p0 ≠ p1 := fun z => by
    rw [← z] at l1
    have := inj l0 l1
    omega
  have b0 : bump p0 ≤ 1 := by
    unfold bump
    split <;> omega
  have b1 : bump p1 ≤ 1 := by
    unfold bump
    split <;> omega
  obtain ⟨A, hA⟩ := name_some (fr := fr) (u := u) v0 (by omega)
  obtain ⟨B, hB⟩ := name_some (fr := fr) (u := u + bump p0) v1 (by omega)
  have plk : ∀ {n : Nat} {p : Pl}, left[n]? = some p → PlAt G xs n p := fun {n p} h => by
    obtain ⟨⟨a, g1, g2⟩, g3⟩ := pl n p h
    exact ⟨a, g1, km _ _ g2 (g3 a g1)⟩
  have insM : Ins M G := fun b mb => by
    rw [eM] at mb
    obtain ⟨_, _, _, ss, _⟩ := hs
    rcases List.mem_cons.mp mb with rfl | mb
    · exact ⟨_, ss.l1⟩
    · rcases List.mem_cons.mp mb with rfl | mb
      · exact ⟨_, ss.l2⟩
      · rcases List.mem_cons.mp mb with rfl | mb
        · exact ⟨_, hn⟩
        · rcases List.mem_cons.mp mb with rfl | mb
          · exact ⟨_, hJ⟩
          · obtain ⟨i, hi⟩ := List.getElem?_of_mem mb
            obtain ⟨ws, _, g⟩ := L.at_ i b hi
            exact ⟨_, g⟩
  have e0 : (0 : Int) + (k : Nat) = ((k : Nat) : Int) := Int.zero_add _
  show tPairB K _ [some (.ref l), some (.ref ea), s2, s3, some (.int (0 + (k : Nat))), t5, t6, some (.ref lf), some (.ref nf), some (.ref R), some (.ref J), t11, t12, t13, t14] G
  rw [e0]
  refine body_run (K := K) (es := es) (fr := fr) (u := u) (li := li) (ls := ls) (M := M) (xs := xs) (ys := ys) (p0 := p0) (p1 := p1) (A := A) (B := B) (c := c) (rows := rows) (jp := jp) (by omega) eM nM mea mlf mR insM hs (by omega) (km _ _ he mea) (km _ _ hl mlf) hn (km _ _ hR mR) L hJ tJ (by omega) (plk l0) (plk l1) hA hB (row_at I.wid v0) (row_at I.wid v1) fun G' sp ys' jq c' q6 q11 q12 q13 q14 km' hs' hc' hn' L' hJ' tJ' ly' hj => ?_
  have et : left.take (2 * (k + 1)) = left.take (2 * k) ++ [p0] ++ [p1] := by
    rw [show 2 * (k + 1) = 2 * k + 1 + 1 by omega, List.take_add_one, List.take_add_one, l0, l1]
    rfl
  refine ⟨u + bump p0 + bump p1, _, jp ++ jq, ys', c', _, _, _, _, _, _, _, rfl, km.trans km', ?_, by omega, hs', by push_cast; omega, hn', L', hJ', tJ', by omega⟩
  rw [et]
  have ej : jFlat (jp ++ jq) = jFlat jp ++ jFlat jq := List.flatMap_append
  rw [ej]
  exact pair_next S I v0 v1 n0 n1 ne hA hB hj
end
end K14.T5
namespace K14.T5
open T27 T3
open K14.Gn
open PySem PySem.W PySem.Calls PyProof.Rows L2 LamX NdefX
open He (ga)
open Kz (SS ExtS ExtS.trans small4 same_new boot_in boot_li boot_isi Has pe_has noE PSs.of_eq seqI new_ext X1 shaped_int dpAll_int)
/-! ### the rows and the places, as they are made -/
theorem lst_in5 {t : TA} {σ : L2.St} {H : Hp} {Q : VK} (h : t σ H fun xs H1 => xs.length ≤ sizeLine ∧ ∀ p, H1 p = none → Q (.ref p) (upd H1 p (.lst xs))) : tLst t σ H Q := h
section
variable {K : Frag} {G H : Hp} {Q : VK} {σ : L2.St} {W : List Nat} {wa : Addr}
def emptyR (W : List Nat) : List (List Str) := W.map fun n => List.replicate n ("" : Str)
theorem rep_flat (n : Nat) : (List.replicate n [V.str ""]).flatten = (List.replicate n ("" : Str)).map V.str := by
  induction n with
  | zero => rfl
  | succ n ih =>
    rw [List.replicate_succ, List.flatten_cons, ih, List.replicate_succ, List.map_cons]
    rfl
/-- [[''] * wide for wide in widths] -/
theorem lc_rows {tl : TE} (ht : ∀ R : VK, R (.ref wa) H → tl σ H R) (hw : H wa = some (.lst (W.map fun n => V.int (n : Nat)))) (lw : W.length ≤ 1000) (le : ∀ n ∈ W, n ≤ 1000) (h5 : 5 < σ.length)
    (hwp : ∀ y : V, wipe ((wipe σ [5]).set 5 (some y)) [5] = wipe σ [5])
    (hq : ∀ (G : Hp) (R : Addr) (ls : List Addr), L2.Same H G → H R = none → G R = some (.lst (ls.map V.ref)) → T69.LsA G ls (emptyR W) → (∀ a ∈ ls, H a = none ∧ a ≠ R) → Q (.ref R) G) :
    tLc (iList K tl) (gName 5) tYes (tOp rRep (tLst (tCons (tC (.str "")) tNil)) (tVar 5)) [5] σ H Q := by
  refine ht _ ⟨wa, rfl, ⟨_, .inl (.inl hw)⟩, fun D hD => lc_acc (S := []) (walk_list (K := K) (a := wa) (xs := W.map fun n => V.int (n : Nat))) (fun b h => nomatch h) hD (by rw [List.length_map]; omega) (fun H' e => .inl (.inl (e _ _ hw))) (fun i ys G => ∃ ls : List Addr, ys = ls.map V.ref ∧ T69.LsA G ls (emptyR (W.take i)) ∧ ∀ a ∈ ls, H a = none) (fun i ys G G' e s => ?_) ⟨[], rfl, T69.LsA.nil, fun a m => nomatch m⟩ (fun i v G1 G2 ys Qy Qn hi s1 insG a y ky kn => ?_) (fun G ys s1 hA a => ?_)⟩
  · obtain ⟨ls, e1, e2, e3⟩ := e
    exact ⟨ls, e1, e2.ext s, e3⟩
  · obtain ⟨rfl, hc⟩ := y
    obtain ⟨ls, rfl, L, fr⟩ := a
    rw [List.getElem?_map] at hc
    cases hn : W[i]? with
    | none => rw [hn] at hc; cases hc
    | some n =>
      rw [hn] at hc
      cases hc
      refine gset ⟨hwp _, ?_⟩
      unfold tYes
      show (if true = true then _ else _)
      rw [if_pos rfl]
      have nle := le n (List.mem_of_getElem? hn)
      refine T3.op_in (lst_in5 ?_)
      refine ⟨by rw [sizeLine_eq]; decide, fun p np => ?_⟩
      have w5 : (((wipe σ [5]).set 5 (some (V.int (n : Nat)))))[5]? = some (some (V.int (n : Nat))) := by
        rw [List.getElem?_set]
        have : (wipe σ [5]).length = σ.length := by
          simp [wipe]
        rw [if_pos rfl, if_pos (by rw [this]; exact h5)]
      refine ⟨.int (n : Nat), w5, p, (n : Nat), _, rfl, rfl, upd_same, by omega, by omega, ?_, fun p2 np2 => ?_⟩
      · show 1 * (n : Int).toNat ≤ _
        rw [sizeLine_eq]
        omega
      have e1 : ((n : Int)).toNat = n := by omega
      rw [e1, rep_flat]
      have s2 := (same_new (o := .lst [V.str ""]) np).trans (same_new (o := .lst ((List.replicate n ("" : Str)).map V.str)) np2)
      have fresh : H p2 = none := by
        cases e : H p2 with
        | none => rfl
        | some o =>
          rw [(same_new np) _ _ (s1 _ _ e)] at np2
          cases np2
      have p2D : p2 ≠ D := fun z => by
        obtain ⟨o, ho⟩ := insG D (by simp)
        rw [z, (same_new np) _ _ ho] at np2
        cases np2
      refine ky _ _ s2 ⟨ls ++ [p2], by rw [List.map_append]; rfl, ?_, fun a m => ?_⟩
      · have et : emptyR (W.take (i + 1)) = emptyR (W.take i) ++ [List.replicate n ("" : Str)] := by
          unfold emptyR
          rw [List.take_add_one, hn, List.map_append]
          rfl
        rw [et]
        refine T69.LsA.snoc (L.ext (hid_same s2)) (fun m => ?_) (hid_of (by simpa using p2D) upd_same fun ps z => nomatch z)
        obtain ⟨j, hj⟩ := List.getElem?_of_mem m
        obtain ⟨ws, _, g⟩ := L.at_ j p2 hj
        obtain ⟨_, g2, _⟩ := hid_at g
        rw [(same_new np) _ _ g2] at np2
        cases np2
      · rcases List.mem_append.mp m with m | m
        · exact fr a m
        · rw [List.mem_singleton.mp m]
          exact fresh
  · obtain ⟨ls, rfl, L, fr⟩ := a
    rw [List.length_map, List.take_length] at L
    refine hq G D ls s1 hD hA (L.ext hid_up) fun a m => ⟨fr a m, fun z => ?_⟩
    obtain ⟨j, hj⟩ := List.getElem?_of_mem m
    obtain ⟨ws, _, g⟩ := L.at_ j a hj
    obtain ⟨g1, _, _⟩ := hid_at g
    exact g1 (by rw [z]; simp)
end
end K14.T5
namespace K14.T5
open T27 T3
open K14.Gn
open PySem PySem.W PySem.Calls PyProof.Rows L2 LamX NdefX
open He (ga)
open Kz (SS ExtS ExtS.trans small4 same_new boot_in boot_li boot_isi Has pe_has noE PSs.of_eq seqI new_ext X1 shaped_int dpAll_int)
/-! ### _law_paired -/
/-- the names are there, each twice -/
structure PairedOk (es : List Str) (W : List Nat) (rows : List (List Str)) (jp : List (Str × Str)) : Prop where
  wid : rows.map List.length = W
  two : ∀ s ∈ es ++ (rows.flatten ++ jFlat jp), (es ++ (rows.flatten ++ jFlat jp)).count s = 2
  nm : ∀ s ∈ es ++ (rows.flatten ++ jFlat jp), nameB (.str s) = true
def placesTo (es : List Str) (W : List Nat) (j : Nat) : List Pl := (List.range es.length).map (fun j => ((none : Option Nat), j)) ++ (List.range j).flatMap fun i => (List.range (W.getD i 0)).map fun b => ((some i : Option Nat), b)
theorem placesTo_succ (es : List Str) (W : List Nat) (j : Nat) : placesTo es W (j + 1) = placesTo es W j ++ (List.range (W.getD j 0)).map fun b => ((some j : Option Nat), b) := by
  unfold placesTo
  rw [List.range_succ, List.flatMap_append, List.append_assoc]
  simp
theorem par_in5 {i j : Nat} {ta : TA} {u : TS} {D : Ends} {σ : L2.St} {H : Hp} (h : ta σ H fun vs H1 => ∃ v w, vs = [v, w] ∧ u D ((σ.set i (some v)).set j (some w)) H1) : tSeq (tPar i j ta) u D σ H := h
theorem places_nodup (es : List Str) (W : List Nat) : (placesOf es W).Nodup := by
  unfold placesOf
  refine List.nodup_append.mpr ⟨?_, ?_, ?_⟩
  · exact List.pairwise_map.mpr (List.nodup_range.imp fun h z => h (by cases z; rfl))
  · refine List.pairwise_flatMap.mpr ⟨fun i _ => List.pairwise_map.mpr (List.nodup_range.imp fun h z => h (by cases z; rfl)), List.nodup_range.imp fun h x hx y hy z => ?_⟩
    obtain ⟨j, _, rfl⟩ := List.mem_map.mp hx
    obtain ⟨j', _, rfl⟩ := List.mem_map.mp hy
    cases z
    exact h rfl
  · intro a ha b hb z
    subst z
    obtain ⟨j, _, rfl⟩ := List.mem_map.mp ha
    obtain ⟨i, _, hb⟩ := List.mem_flatMap.mp hb
    obtain ⟨j', _, e⟩ := List.mem_map.mp hb
    cases e
theorem ints_th {H : Hp} : ∀ W : List Nat, ThAll H (W.map fun n => V.int (n : Nat)) (W.map fun n => PyData.int (n : Nat))
  | [] => .nil
  | n :: W => .cons (.int _) (ints_th W)
section
variable {P : Program} {w : World} {K : Frag} {mg : Str → Option Value} {base : Heap}
def spPa : Sp := fun vs H Q _ => ∃ (l li ea wa : Addr) (c : Int) (es : List Str) (W : List Nat) (m : Nat), vs = [.ref l, .ref ea, .ref wa] ∧ Spr H l li c ∧ ea ≠ l ∧ ea ≠ li ∧ wa ≠ l ∧ wa ≠ li ∧ H ea = some (.lst (es.map V.str)) ∧ H wa = some (.lst (W.map fun n => V.int (n : Nat))) ∧ es.Nodup ∧ (∀ s ∈ es, s ∈ endNames) ∧ (placesOf es W).length = 2 * m ∧ m ≤ 25 ∧ W.length ≤ 100 ∧ (∀ n ∈ W, n ≤ 100) ∧ c < 600000000 ∧
  ∀ (H' : Hp) (r R J : Addr) (ls : List Addr) (rows : List (List Str)) (ys : List V) (jp : List (Str × Str)) (c' : Int), ExtS l li H H' → Spr H' l li c' → c' ≤ c + 1000 → H' r = some (.tup [.ref R, .ref J]) → H r = none → R ≠ l → R ≠ li → J ≠ l → J ≠ li → H R = none → H J = none → R ≠ J → H' R = some (.lst (ls.map V.ref)) → T69.LsA H' ls rows → (∀ a ∈ ls, H a = none ∧ a ≠ l ∧ a ≠ li) → H' J = some (.lst ys) → ys.length ≤ m → ThAll (Hid [l, li] H') ys (jp.map jD) → PairedOk es W rows jp → Q (.ref r) H'
theorem ok_pa {f : Addr} {fd : FuncData} (F : FunD K "_law_paired" "_law_paired" (defArgs sPa) (defBody sPa) (defScope sPa) [] [] f fd) (M : Has P w K mg base "_law_mixed" 2 ["stream", "some"] spMxW) (FR : Has P w K mg base "_law_fresh" 3 ["stream", "ends", "many"] spFr) (DR : Has P w K mg base "_law_draw" 1 ["stream", "many"] spDrW) (B : LwK mg) (mr : mg "range" = none) (men : mg "enumerate" = none) : FnOk P w K mg base CX0 4 f fd ["stream", "ends", "widths"] spPa := by
  refine F.ok scPa (fun vs H Q E h => ?_) (fun cdv A outer s H vs Q XE hr h => ?_)
  · obtain ⟨l, li, ea, wa, c, es, W, m, rfl, _⟩ := h
    rfl
  · obtain ⟨l, li, ea, wa, c, es, W, m, rfl, hs, ea1, ea2, wa1, wa2, he, hw, nd, hm, lpl, m1, lw, leW, hc, k⟩ := h
    have h0 : PS (XPa P w K mg base f cdv A outer s H XE) (stOf sPa 0) _ := ps_setLc (i := 3) (X := XPa P w K mg base f cdv A outer s H XE) (scope := scAsg (stOf sPa 0)) (own := [("at", 4)]) (g := gName 4) (tt := tYes) (te := tTup (tCons (tUn (rU fun i => V.int (-i)) (tC (.int 1))) (tCons (tVar 4) tNil))) rfl scPa.nd rfl rfl (sw_true rfl rfl rfl (by decide +kernel)) (pi_range1 (by rfl) mr (pa_cons (pe_callB call_len_seq (by rfl) B.len boot_len (pa_cons (pv 1) pa_nil)) pa_nil)) (blkOk_by (N := NPa) (sc := defScope sPa) (by decide +kernel)) (fun _ _ _ _ _ => pg_name (i := 4) scPa.nd rfl (Or.inl rfl)) (fun _ _ _ _ _ => pts_nil)
      (fun s0 H0 C0 cl0 fp0 => by exact pe_tup (pa_cons (pe_un un_neg pe_int) (pa_cons (pv 4) pa_nil)))
    have a0 : PS (XPa P w K mg base f cdv A outer s H XE) fbA _ := ps_expr (pe_bm PySem.F.plainAttrs_list PySem.F.slot_list_extend PySem.F.type_list_extend mt_extend (pv 3) (pa_cons (pe_lc (X := XPa P w K mg base f cdv A outer s H XE) (scope := scArg fbA) (own := [("place", 6)]) (g := gName 6) (tt := tYes) (te := tTup (tCons (tVar 4) (tCons (tVar 6) tNil))) rfl scPa.nd (pi_range1 (by rfl) mr (pa_cons (pv 5) pa_nil)) (blkOk_by (N := NPa) (sc := defScope sPa) (by decide +kernel)) (fun _ _ _ _ _ => pg_name (i := 6) scPa.nd rfl (Or.inl rfl)) (fun _ _ _ _ _ => pts_nil)
      (fun s0 H0 C0 cl0 fp0 => by exact pe_tup (pa_cons (pv 4) (pa_cons (pv 6) pa_nil)))) pa_nil))
    have h1 : PS (XPa P w K mg base f cdv A outer s H XE) (stOf sPa 1) _ := ps_for PassesOwn.never rfl (EnT.pi_enB (by rfl) men (pa_cons (pv 2) pa_nil)) (pg_tup (n := 2) rfl (pgs_cons (pg_name (i := 4) scPa.nd rfl (.inr rfl)) (pgs_cons (pg_name (i := 5) scPa.nd rfl (.inl rfl)) pgs_nil))) (PSs.of_eq bdPaA (pss_one a0))
    have h2 : PS (XPa P w K mg base f cdv A outer s H XE) (stOf sPa 2) _ := ps_asg (pe_tup (pa_cons (pe_has M (hr.mono (by decide)) (by rfl) (pa_cons (pv 0) (pa_cons (pv 3) pa_nil))) (pa_cons (pe_has FR hr (by rfl) (pa_cons (pv 0) (pa_cons (pv 1) (pa_cons (pe_op op_mul pe_int (pe_callB call_len_seq (by rfl) B.len boot_len (pa_cons (pv 3) pa_nil))) pa_nil)))) pa_nil))) (pg_tup rfl (pgs_cons (pg_name (i := 7) scPa.nd rfl (.inl rfl)) (pgs_cons (pg_name (i := 8) scPa.nd rfl (.inr rfl)) pgs_nil)))
    have h3 : PS (XPa P w K mg base f cdv A outer s H XE) (stOf sPa 3) _ := ps_par (i := 9) (j := 10) rfl scPa.nd rfl rfl (by decide) rfl rfl (pa_cons (pe_lc (X := XPa P w K mg base f cdv A outer s H XE) (scope := scArg (stOf sPa 3)) (own := [("wide", 5)]) (g := gName 5) (tt := tYes) (te := tOp rRep (tLst (tCons (tC (.str "")) tNil)) (tVar 5)) rfl scPa.nd (pi_list (pv 2)) (blkOk_by (N := NPa) (sc := defScope sPa) (by decide +kernel)) (fun _ _ _ _ _ => pg_name (i := 5) scPa.nd rfl (Or.inl rfl)) (fun _ _ _ _ _ => pts_nil)
      (fun s0 H0 C0 cl0 fp0 => by exact pe_op op_rep (pe_lst (pa_cons pe_str pa_nil)) (pv 5))) (pa_cons (pe_lst pa_nil) pa_nil)) (by rfl)
    have b0 : PS (XPa P w K mg base f cdv A outer s H XE) (fbB 0) _ := ps_setLc (i := 11) (X := XPa P w K mg base f cdv A outer s H XE) (scope := scAsg (fbB 0)) (own := [("one", 12), ("place", 6)]) (g := gTup K 2 (gCons (gName 12) (gCons (gName 6) gNil))) (tt := tYes)
      (te := tIf (tTest (tOp (rI0 fun i j => .bl (decide (i < j))) (tVar 12) (tC (.int 0)))) (tOp (rIx K) (tVar 1) (tVar 6)) (tBM K "list" rPopAt (tVar 8) (tCons (tC (.int 0)) tNil))) rfl scPa.nd rfl rfl (sw_true rfl rfl rfl (by decide +kernel)) (pi_list (pe_slice sl_list (pv 7) (po_some (pe_op op_mul pe_int (pv 4))) (po_some (pe_op op_add (pe_op op_mul pe_int (pv 4)) pe_int)))) (blkOk_by (N := NPa) (sc := defScope sPa) (by decide +kernel))
      (fun _ _ _ _ _ => pg_tup (n := 2) rfl (pgs_cons (pg_name (i := 12) scPa.nd rfl (Or.inl rfl)) (pgs_cons (pg_name (i := 6) scPa.nd rfl (Or.inl rfl)) pgs_nil))) (fun _ _ _ _ _ => pts_nil)
      (fun s0 H0 C0 cl0 fp0 => by exact pe_ifExp (pt_cmpR op_lt (pv 12) pe_int (nomark _)) (pe_ix ix_seq (pv 1) (pv 6) (fun _ _ => rfl)) (pe_bm PySem.F.plainAttrs_list PySem.F.slot_list_pop PySem.F.type_list_pop mt_popAt (pv 8) (pa_cons pe_int pa_nil)))
    have b1 : PS (XPa P w K mg base f cdv A outer s H XE) (fbB 1) _ := ps_set (i := 13) scPa.nd rfl (.inl rfl) (pe_cmpR op_eq (pe_has DR (hr.mono (by decide)) (by rfl) (pa_cons (pv 0) (pa_cons pe_int pa_nil))) pe_int (nomark _))
    have c0 : PS (XPa P w K mg base f cdv A outer s H XE) (fbC 0) _ := ps_asg (pe_ix ix_list (pv 7) (pe_op op_add (pe_op op_mul pe_int (pv 4)) (pv 14)) (fun _ _ => rfl)) (pg_tup (n := 2) rfl (pgs_cons (pg_name (i := 12) scPa.nd rfl (.inl rfl)) (pgs_cons (pg_name (i := 6) scPa.nd rfl (.inl rfl)) pgs_nil)))
    have c1 : PS (XPa P w K mg base f cdv A outer s H XE) (fbC 1) _ := ps_if (PW.pt (pw_and (pt_cmpR op_ge (pv 12) pe_int (nomark _)) (pw_and (pt_not (pt_val (pv 13))) (pw_and1 (pt_cmpR op_ge (pe_ix ix_seq (pe_ix ix_list (pv 7) (pe_op op_mul pe_int (pv 4)) (fun _ _ => rfl)) pe_int (fun _ _ => rfl)) pe_int (nomark _)))))) (pss_one (ps_asg (pe_ix ix_list (pv 11) pe_int (fun _ _ => rfl)) (pg_sub (pv 11) (pv 14) set_list))) pss_nil
    have c2 : PS (XPa P w K mg base f cdv A outer s H XE) (fbC 2) _ := ps_if (PW.pt (pw_and (pt_cmpR op_ge (pv 12) pe_int (nomark _)) (pw_and (pt_not (pt_val (pv 13))) (pw_and1 (pt_cmpR op_lt (pe_ix ix_seq (pe_ix ix_list (pv 7) (pe_op op_sub (pe_op op_add (pe_op op_mul pe_int (pv 4)) pe_int) (pv 14)) (fun _ _ => rfl)) pe_int (fun _ _ => rfl)) pe_int (nomark _)))))) (pss_one (ps_asg (pe_ix ix_list (pv 11) (pe_op op_sub pe_int (pv 14)) (fun _ _ => rfl)) (pg_sub (pv 11) (pv 14) set_list))) pss_nil
    have c3 : PS (XPa P w K mg base f cdv A outer s H XE) (fbC 3) _ := ps_if (pt_cmpR op_ge (pv 12) pe_int (nomark _)) (pss_one (ps_asg (pe_ix ix_list (pv 11) (pv 14) (fun _ _ => rfl)) (pg_sub (pe_ix ix_list (pv 9) (pv 12) (fun _ _ => rfl)) (pv 6) set_list))) pss_nil
    have b2 : PS (XPa P w K mg base f cdv A outer s H XE) (fbB 2) _ := ps_for PassesOwn.never rfl (pi_range1 (by rfl) mr (pa_cons pe_int pa_nil)) (pg_name (i := 14) scPa.nd rfl (.inl rfl)) (PSs.of_eq bdPaC (pss_cons c0 (pss_cons c1 (pss_cons c2 (pss_one c3)))))
    have b3 : PS (XPa P w K mg base f cdv A outer s H XE) (fbB 3) _ := ps_if (pt_cmpR op_ne (pe_ix ix_list (pv 11) pe_int (fun _ _ => rfl)) (pe_ix ix_list (pv 11) pe_int (fun _ _ => rfl)) (nomark _)) (pss_one (ps_expr (pe_bm PySem.F.plainAttrs_list PySem.F.slot_list_append PySem.F.type_list_append mt_append (pv 10) (pa_cons (pe_callTy call_tuple_of (by rfl) B.tuple boot_tu (pa_cons (pe_has M (hr.mono (by decide)) (by rfl) (pa_cons (pv 0) (pa_cons (pv 11) pa_nil))) pa_nil)) pa_nil)))) pss_nil
    have h4 : PS (XPa P w K mg base f cdv A outer s H XE) (stOf sPa 4) _ := ps_for PassesOwn.never rfl (pi_range1 (by rfl) mr (pa_cons (pe_op op_fdiv (pe_callB call_len_seq (by rfl) B.len boot_len (pa_cons (pv 7) pa_nil)) pe_int) pa_nil)) (pg_name (i := 4) scPa.nd rfl (.inr rfl)) (PSs.of_eq bdPaB (pss_cons b0 (pss_cons b1 (pss_cons b2 (pss_one b3)))))
    have h5 : PS (XPa P w K mg base f cdv A outer s H XE) (stOf sPa 5) _ := ps_ret (pe_tup (pa_cons (pv 9) (pa_cons (pv 10) pa_nil)))
    refine ⟨_, PSs.nox (PSs.of_eq bdPa (pss_cons h0 (pss_cons h1 (pss_cons h2 (pss_cons h3 (pss_cons h4 (pss_one h5))))))), ?_⟩
    clear h0 h1 h2 h3 h4 h5 a0 b0 b1 b2 b3 c0 c1 c2 c3
    have insH : Ins [l, li] H := fun b mb => by
      obtain ⟨_, _, _, ss, _⟩ := hs
      rcases List.mem_cons.mp mb with rfl | mb
      · exact ⟨_, ss.l1⟩
      · rw [List.mem_singleton.mp mb]
        exact ⟨_, ss.l2⟩
    have le16 : es.length ≤ 50 := by
      have := lpl
      unfold placesOf at this
      rw [List.length_append, List.length_map, List.length_range] at this
      omega
    refine T69.asg_intro ?_
    refine lc_rngT (K := K) (n := es.length) [l, li] insH (fun j => pD (none, j)) (fun R h => ⟨.ref ea, rfl, ea, _, rfl, .inl (.inl (.inl he)), by rw [List.length_map]; exact h⟩) (by omega) (fun _ => rfl) (fun i D G Q' hi s1 ins kQ => ?_) fun G0 D xs0 s0 nD hD t0 => ?_
    · refine ⟨1, rfl, .int (0 + (i : Nat)), rfl, small4 2, fun p np => kQ _ _ (same_new np) ?_⟩
      refine .tup (hid_of (fun m => ?_) upd_same fun ps z => nomatch z) (.cons (.int _) (.cons (by rw [Int.zero_add]; exact .int _) .nil))
      obtain ⟨o, ho⟩ := ins p m
      rw [ho] at np
      cases np
    · refine gset ?_
      refine for_enS (K := K) (H0 := H) (v := .ref wa) (d := .list (W.map fun n => .int (n : Nat))) (i1 := 4) (i2 := 5) (fun R h => ⟨.ref wa, rfl, h⟩) (.lst hw (ints_th W)) rfl (fun j σ G => ∃ (a4 a5 a6 : Option V) (xs : List V), σ = [some (.ref l), some (.ref ea), some (.ref wa), some (.ref D), a4, a5, a6, none, none, none, none, none, none, none, none] ∧ L2.Same H G ∧ G D = some (.lst xs) ∧ ThAll (Hid [D, l, li] G) xs ((placesTo es W j).map pD))
        ⟨_, _, _, xs0, rfl, s0, hD, by rw [show (placesTo es W 0).map pD = (List.range es.length).map (fun j => pD (none, j)) by unfold placesTo; simp]; exact t0⟩ (fun j σ G e => ?_) (fun j z x σ' G hz tx e G' e' => ?_) (fun σ G e => ?_)
      · obtain ⟨_, _, _, _, _, e, _⟩ := e
        exact e
      · obtain ⟨a4, a5, a6, xs, rfl, S1, hD1, t1⟩ := e
        have hz : (W.map fun n => PyData.int (n : Nat))[j]? = some z := hz
        rw [List.getElem?_map] at hz
        cases hn : W[j]? with
        | none =>
          rw [hn] at hz
          cases hz
        | some n =>
          rw [hn] at hz
          cases hz
          cases tx
          have nle := leW n (List.mem_of_getElem? hn)
          have hD2 := e' _ _ hD1
          have ins2 : Ins [D, l, li] G' := (insH.same (S1.trans e')).cons hD2
          refine dropS' ⟨.ref D, rfl, .inl ⟨rfl, _, .inl (.inl hD2)⟩, cons_in ?_⟩
          refine lc_rngT (K := K) (n := n) [D, l, li] ins2 (fun b => pD (some j, b)) (fun R h => ⟨.int (n : Nat), rfl, h⟩) (by omega) (fun _ => rfl) (fun i E G2 Q' hi s2 ins kQ => ?_) fun G2 E ys s2 nE hE t2 => ?_
          · refine ⟨.int (j : Nat), rfl, .int (0 + (i : Nat)), rfl, small4 2, fun p np => kQ _ _ (same_new np) ?_⟩
            refine .tup (hid_of (fun mm => ?_) upd_same fun ps z => nomatch z) (.cons (.int _) (.cons (by rw [Int.zero_add]; exact .int _) .nil))
            obtain ⟨o, ho⟩ := ins p mm
            rw [ho] at np
            cases np
          · have hD3 := s2 _ _ hD2
            have lx : xs.length = (placesTo es W j).length := by
              have := t1.length
              rw [List.length_map] at this
              exact this
            refine ⟨D, E, xs, ys, rfl, rfl, hD3, hE, ?_, ?_⟩
            · have ly := t2.length
              rw [List.length_map, List.length_range] at ly
              have jl : j < W.length := (List.getElem?_eq_some_iff.mp hn).1
              have lb : (placesTo es W j).length ≤ (placesOf es W).length := by
                obtain ⟨dd, hd⟩ := Nat.exists_eq_add_of_le (Nat.le_of_lt jl)
                unfold placesTo placesOf
                rw [hd, List.range_add, List.flatMap_append]
                simp only [List.length_append]
                omega
              rw [lx, ly, sizeLine_eq]
              omega
            refine ⟨_, _, _, xs ++ ys, rfl, fun b o hb => ?_, upd_same, ?_⟩
            · rw [upd_ne (show b ≠ D from fun z => by rw [z, nD] at hb; cases hb)]
              exact s2 _ _ (e' _ _ (S1 _ _ hb))
            · rw [placesTo_succ, List.map_append, List.map_map, getD_some hn]
              exact K14.Gn.ThAll.app ((t1.ext (hid_same (e'.trans s2))).ext (hid_upd (List.mem_cons_self ..))) ((t2.ext (hid_less fun b hb => List.mem_cons_of_mem _ hb)).ext (hid_upd (List.mem_cons_self ..)))
      · obtain ⟨a4, a5, a6, xs, rfl, S1, hD1, t1⟩ := e
        have lW : (its (PyData.list (W.map fun n => PyData.int (n : Nat)))).length = W.length := List.length_map ..
        rw [lW] at t1
        have t1 : ThAll (Hid [D, l, li] G) xs ((placesOf es W).map pD) := t1
        have lx : xs.length = 2 * m := by
          have := t1.length
          rw [List.length_map, lpl] at this
          exact this
        have hs1 := hs.same S1
        have nDl := hs.new nD
        refine T69.asg_intro ?_
        refine ⟨.ref l, rfl, .ref D, rfl, l, li, D, c, xs, rfl, hs1, hD1, by omega, by omega, fun G1 lf ys x1 hs2 nlf lf1 lf2 hlf pm => ?_⟩
        have he1 := x1 _ _ (S1 _ _ he) ea1 ea2
        have hD2 := x1 _ _ hD1 nDl.1 nDl.2
        have lD : ys.length = xs.length := pm.length_eq
        obtain ⟨ds, t2, p2⟩ := ThAll.perm pm t1
        obtain ⟨left, rfl, pl⟩ := perm_map p2
        have ll : left.length = 2 * m := by rw [pl.length_eq, lpl]
        have kM : KeepM [D, l, li] G G1 := fun b o h mm => x1 _ _ h (fun z => mm (by rw [z]; simp)) (fun z => mm (by rw [z]; simp))
        have t3 := t2.ext kM.hid
        have insD : Ins [D, l, li] G := (insH.same S1).cons hD1
        refine ⟨.ref l, rfl, .ref ea, rfl, T3.op_in ⟨.ref D, rfl, D, xs, rfl, .inl (.inl (.inl hD2)), 2, _, rfl, rfl, .inl ⟨by decide, by decide⟩, ?_⟩⟩
        refine ⟨l, li, ea, c + (xs.length : Nat), es, 4 * m, by show [V.ref l, V.ref ea, V.int (2 * ((xs.length : Nat) : Int))] = _; rw [show (2 : Int) * ((xs.length : Nat) : Int) = ((4 * m : Nat) : Int) by rw [lx]; push_cast; omega], hs2, ea1, ea2, he1, hm, by omega, by omega, fun G2 nf fr c2 x2 hs3 hc2 nnf nf1 nf2 hnf lfr hfr => ?_⟩
        refine ⟨small4 2, fun tq ntq => ?_⟩
        refine ⟨tq, _, rfl, .inl (.inl upd_same), rfl, _, _, rfl, _, _, rfl, rfl, ?_⟩
        have s3 : L2.Same G2 (upd G2 tq (.tup [.ref lf, .ref nf])) := same_new ntq
        generalize upd G2 tq (.tup [.ref lf, .ref nf]) = G3 at s3
        have hs4 := hs3.same s3
        have x03 : ExtS l li H G3 := ((same_S S1).trans (x1.trans x2)).trans (same_S s3)
        refine par_in5 (cons_in ?_)
        refine lc_rows (K := K) (W := W) (wa := wa) (fun R h => ⟨.ref wa, rfl, h⟩) (x03 _ _ hw wa1 wa2) (by omega) (fun n hn => Nat.le_trans (leW n hn) (by decide)) (by show 5 < 15; decide) (fun _ => rfl) fun G4 R ls s4 nR hR L4 hls => ?_
        refine cons_in (lst_in5 ⟨Nat.zero_le _, fun J nJ => ⟨.ref R, .ref J, rfl, ?_⟩⟩)
        have s5 : L2.Same G4 (upd G4 J (.lst [])) := same_new nJ
        have hJ5 : upd G4 J (.lst []) J = some (.lst []) := upd_same
        generalize upd G4 J (.lst []) = G5 at s5 hJ5
        have s35 := s4.trans s5
        have hs5 := hs4.same s35
        have nRl := hs4.new nR
        have nJl := (hs4.same s4).new nJ
        have old3 : ∀ {b : Addr} {o : HO}, G3 b = some o → b ≠ R ∧ b ≠ J ∧ b ∉ ls := fun {b o} h => ⟨(fun z => by rw [z, nR] at h; cases h), (fun z => by rw [z] at h; rw [s4 _ _ h] at nJ; cases nJ), (fun mm => by rw [(hls b mm).1] at h; cases h)⟩
        have hnf3 := s3 _ _ hnf
        have hlf2 := x2 _ _ hlf lf1 lf2
        have hlf3 := s3 _ _ hlf2
        have he3 := x03 _ _ he ea1 ea2
        have neq : ∀ {b : Addr} {o : HO}, G1 b = some o → b ≠ nf := fun h z => by
          rw [z, nnf] at h
          cases h
        have hne : l ≠ li := by
          obtain ⟨_, _, _, ss, _⟩ := hs5
          exact ss.ne
        have nMd : (l :: li :: nf :: J :: ls).Nodup := by
          obtain ⟨o1, o2, o3⟩ := old3 hnf3
          obtain ⟨_, _, _, ss, _⟩ := hs4
          obtain ⟨p1, p2, p3⟩ := old3 ss.l1
          obtain ⟨q1, q2, q3⟩ := old3 ss.l2
          have nJls : J ∉ ls := fun mm => by
            obtain ⟨i, hi⟩ := List.getElem?_of_mem mm
            obtain ⟨ws, _, g⟩ := L4.at_ i J hi
            rw [g] at nJ
            cases nJ
          refine List.nodup_cons.mpr ⟨?_, List.nodup_cons.mpr ⟨?_, List.nodup_cons.mpr ⟨?_, List.nodup_cons.mpr ⟨nJls, L4.nd⟩⟩⟩⟩
          · simp only [List.mem_cons, not_or]
            exact ⟨hne, fun z => nf1 z.symm, p2, p3⟩
          · simp only [List.mem_cons, not_or]
            exact ⟨fun z => nf2 z.symm, q2, q3⟩
          · simp only [List.mem_cons, not_or]
            exact ⟨o2, o3⟩
        have notM : ∀ {b : Addr} {o : HO}, G3 b = some o → b ≠ l → b ≠ li → b ≠ nf → b ∉ l :: li :: nf :: J :: ls := fun h n1 n2 n3 => by
          obtain ⟨o1, o2, o3⟩ := old3 h
          simp only [List.mem_cons, not_or]
          exact ⟨n1, n2, n3, o2, o3⟩
        have mR : R ∉ l :: li :: nf :: J :: ls := by
          simp only [List.mem_cons, not_or]
          exact ⟨nRl.1, nRl.2, fun z => (old3 hnf3).1 z.symm, (fun z => by rw [z, nJ] at hR; cases hR), fun mm => (hls R mm).2 rfl⟩
        have S5 : Stock5 es fr := ⟨nd, hfr.nd, hfr.ne, fun mm => absurd (hm _ mm) (by decide +kernel), fun mm => absurd (hfr.nm _ mm) (by decide +kernel)⟩
        refine pairs_run (K := K) (es := es) (fr := fr) (W := W) (li := li) (ls := ls) (M := l :: li :: nf :: J :: ls) (xs := ys) (left := left) (c0 := c2) (m := m) (s2 := some (.ref wa)) (s3 := some (.ref D)) S5 rfl nMd (notM he3 ea1 ea2 (neq he1)) (notM hlf3 lf1 lf2 (neq hlf)) mR (s35 _ _ he3) (s35 _ _ hlf3) (s5 _ _ hR) (by rw [lD, lx, ll]) ll (by omega) (fun n p hn => ?_) pl (pl.nodup_iff.mpr (places_nodup es W)) (by omega) (by omega) ⟨0, emptyR W, [], [], c2, _, _, _, _, _, _, _, rfl, KeepM.refl, pair_begin S5, Nat.le_refl _, hs5, by omega, s35 _ _ hnf3, L4.ext s5, hJ5, .nil, Nat.le_refl _⟩ fun σ' G6 hv => ?_
        · have h1 : (left.map pD)[n]? = some (pD p) := by
            rw [List.getElem?_map, hn]
            rfl
          have il : n < ys.length := by
            have := t3.length
            rw [List.length_map] at this
            have := (List.getElem?_eq_some_iff.mp hn).1
            omega
          have hx : ys[n]? = some ys[n] := List.getElem?_eq_getElem il
          obtain ⟨z, hz, tz⟩ := t3.get hx
          rw [h1] at hz
          cases hz
          obtain ⟨a, ea', na, ga⟩ := pD_th tz
          rw [ea'] at hx
          simp only [List.mem_cons, List.not_mem_nil, or_false, not_or] at na
          have ga3 := s3 _ _ (x2 _ _ ga na.2.1 na.2.2)
          refine ⟨⟨a, hx, s35 _ _ ga3⟩, fun b hb => ?_⟩
          rw [hx] at hb
          cases hb
          exact notM ga3 na.2.1 na.2.2 (neq ga)
        · obtain ⟨u, rows, jp, zs, c6, t4, t5, t6, t11, t12, t13, t14, rfl, km, I, uk, hs6, hc6, hn6, L6, hJ6, tJ6, lz6⟩ := hv
          rw [← ll, List.take_length] at I
          have pd := pair_done S5 I pl
          refine nx_intro (ret_intro ?_)
          refine ⟨.ref R, rfl, .ref J, rfl, small4 2, fun r nr => ?_⟩
          have s7 : L2.Same G6 (upd G6 r (.tup [.ref R, .ref J])) := same_new nr
          have hr7 : upd G6 r (.tup [.ref R, .ref J]) r = some (.tup [.ref R, .ref J]) := upd_same
          generalize upd G6 r (.tup [.ref R, .ref J]) = G7 at s7 hr7
          have inH : ∀ {b : Addr} {o : HO}, H b = some o → b ≠ l → b ≠ li → G6 b = some o := fun {b o} h n1 n2 => by
            have h3 := x03 _ _ h n1 n2
            have h1 := x1 _ _ (S1 _ _ h) n1 n2
            exact km _ _ (s35 _ _ h3) (notM h3 n1 n2 (neq h1))
          have nH : ∀ {b : Addr}, G3 b = none → b ≠ l → b ≠ li → H b = none := fun {b} h n1 n2 => by
            cases e : H b with
            | none => rfl
            | some o =>
              rw [x03 _ _ e n1 n2] at h
              cases h
          have nJ3 : G3 J = none := by
            cases e : G3 J with
            | none => rfl
            | some o =>
              rw [s4 _ _ e] at nJ
              cases nJ
          have hs7 := hs6.same s7
          have nrl := hs6.new nr
          have nrH : H r = none := by
            cases e : H r with
            | none => rfl
            | some o =>
              rw [inH e nrl.1 nrl.2] at nr
              cases nr
          refine k G7 r R J ls rows zs jp c6 (fun b o h n1 n2 => s7 _ _ (inH h n1 n2)) hs7 ?_ hr7 nrH nRl.1 nRl.2 nJl.1 nJl.2 (nH nR nRl.1 nRl.2) (nH nJ3 nJl.1 nJl.2) (fun z => by rw [z, nJ] at hR; cases hR) (s7 _ _ (km _ _ (s5 _ _ hR) mR)) (L6.ext s7) (fun a ma => ?_) (s7 _ _ hJ6) lz6 ?_ ⟨I.wid, fun s hs => (pd s hs).1, fun s hs => ?_⟩
          · have h9 : (xs.length : Int) = ((2 * m : Nat) : Int) := by rw [lx]
            omega
          · have h3 := (hls a ma).1
            have n1 : a ≠ l ∧ a ≠ li := hs4.new h3
            exact ⟨nH h3 n1.1 n1.2, n1.1, n1.2⟩
          · refine (tJ6.ext (hid_less fun b hb => ?_)).ext (hid_same s7)
            rcases List.mem_cons.mp hb with rfl | hb
            · simp
            · rw [List.mem_singleton.mp hb]
              simp
          · rcases (pd s hs).2 with h | h
            · exact List.all_eq_true.mp names_all s (hm s h)
            · exact hfr.nm s h
end
end K14.T5
namespace K14.T5
open T27 T3
open K14.Gn
open PySem PySem.W PySem.Calls PyProof.Rows L2 LamX NdefX
open He (ga)
open Kz (SS ExtS ExtS.trans small4 same_new boot_in boot_li boot_isi Has pe_has noE PSs.of_eq seqI new_ext X1 shaped_int dpAll_int)
/-! ### the law's odd items and odd parts, as data (made by gen_odd.py) -/
theorem app_step {K : Frag} {S : List Addr} {i : Nat} {f : Addr} {xs : List V} {ds : List PyData} {d : PyData} {σ : L2.St} {G : Hp} {te : TE} {D : Ends} (hi : σ[i]? = some (some (.ref f))) (hf : G f = some (.lst xs)) (tx : ThAll (Hid (f :: S) G) xs ds) (ins : Ins (f :: S) G) (g : Gv (f :: S) σ G te d) (l1 : ds.length ≤ 100)
    (k : ∀ (G' : Hp) (ys : List V), (∀ b o, G b = some o → b ≠ f → G' b = some o) → G' f = some (.lst ys) → ThAll (Hid (f :: S) G') ys (ds ++ [d]) → Ins (f :: S) G' → D.nx σ G') : tDrop (tBM K "list" rAppend (tVar i) (tCons te tNil)) D σ G := by
  refine ⟨.ref f, hi, .inl ⟨rfl, _, .inl (.inl hf)⟩, g G _ (fun _ _ e => e) ins fun G1 v s1 t1 => ?_⟩
  have tx1 := tx.ext (hid_same s1)
  refine ⟨f, xs, v, rfl, rfl, s1 _ _ hf, by rw [tx.length, sizeLine_eq]; omega, ?_⟩
  have mf : f ∈ f :: S := List.mem_cons_self
  refine k _ (xs ++ [v]) (fun b o e nb => by rw [upd_ne nb]; exact s1 _ _ e) upd_same (K14.Gn.ThAll.snoc (tx1.ext (hid_upd mf)) (t1.ext (hid_upd mf))) fun b m => ?_
  by_cases e : b = f
  · rw [e]
    exact ⟨_, upd_same⟩
  · obtain ⟨o, ho⟩ := ins b m
    exact ⟨o, by rw [upd_ne e]; exact s1 _ _ ho⟩
def spOdd5 (odds : List PyData) : Sp := fun vs H Q _ => ∃ S : List Addr, vs = [] ∧ Ins S H ∧ ∀ (H' : Hp) (r : Addr), L2.Same H H' → Th (Hid S H') (.ref r) (.list odds) → Q (.ref r) H'

def oOi0 : List PyData := [.none, .int 5, .str "loop", .tuple [.str "loop"], .tuple [.str "loop", .str "a"], .tuple [.str "join", .str "a"], .tuple [.str "join", .str "a", .str "b", .str "c"], .tuple [.str "join", .str "x", .str "a"]]
def oOi1 : List PyData := [.tuple [.str "join", .str "q9", .str "q8"], .tuple [.str "join", .str "q9", .str "q9"], .tuple [.str "stop", .str "q9"], .list [.str "x", .str "a", .str "b"], .tuple [.str "use", .str "p"], .tuple [], .list []]
def oOi2 : List PyData := [.tuple [.str "use", .str "p", .list []], .tuple [.str "use", .str "p", .list [.str "a"]], .tuple [.str "use", .str "none9", .list []], .tuple [.str "use", .str "q", .list [.str "a", .str "b"]], .dict [], .bool true]
def oOi3 : List PyData := [.tuple [.str "use", .str "p", .none], .tuple [.str "use", .str "p", .list [.str "x"]], .tuple [.str "use", .str "a", .list [.str "q9", .str "q9"]], .tuple [.str "use", .str "w1", .str "ab"]]
def oOi4 : List PyData := [.tuple [.str "part", .str "a"], .list [.list [.str "loop"]], .tuple [.str "use", .str "pp", .tuple [.str "q9"]], .tuple [.str "net"]]
def oddOi : List PyData := ((((oOi0 ++ oOi1) ++ oOi2) ++ oOi3) ++ oOi4)
abbrev tOi0 : TA := (tCons (tC .non) (tCons (tC (.int 5)) (tCons (tC (.str "loop")) (tCons (tTup (tCons (tC (.str "loop")) tNil)) (tCons (tTup (tCons (tC (.str "loop")) (tCons (tC (.str "a")) tNil))) (tCons (tTup (tCons (tC (.str "join")) (tCons (tC (.str "a")) tNil))) (tCons (tTup (tCons (tC (.str "join")) (tCons (tC (.str "a")) (tCons (tC (.str "b")) (tCons (tC (.str "c")) tNil))))) (tCons (tTup (tCons (tC (.str "join")) (tCons (tC (.str "x")) (tCons (tC (.str "a")) tNil)))) tNil))))))))
abbrev tOi1 : TE := tLst (tCons (tTup (tCons (tC (.str "join")) (tCons (tC (.str "q9")) (tCons (tC (.str "q8")) tNil)))) (tCons (tTup (tCons (tC (.str "join")) (tCons (tC (.str "q9")) (tCons (tC (.str "q9")) tNil)))) (tCons (tTup (tCons (tC (.str "stop")) (tCons (tC (.str "q9")) tNil))) (tCons (tLst (tCons (tC (.str "x")) (tCons (tC (.str "a")) (tCons (tC (.str "b")) tNil)))) (tCons (tTup (tCons (tC (.str "use")) (tCons (tC (.str "p")) tNil))) (tCons (tTup tNil) (tCons (tLst tNil) tNil)))))))
abbrev tOi2 : TE := tLst (tCons (tTup (tCons (tC (.str "use")) (tCons (tC (.str "p")) (tCons (tLst tNil) tNil)))) (tCons (tTup (tCons (tC (.str "use")) (tCons (tC (.str "p")) (tCons (tLst (tCons (tC (.str "a")) tNil)) tNil)))) (tCons (tTup (tCons (tC (.str "use")) (tCons (tC (.str "none9")) (tCons (tLst tNil) tNil)))) (tCons (tTup (tCons (tC (.str "use")) (tCons (tC (.str "q")) (tCons (tLst (tCons (tC (.str "a")) (tCons (tC (.str "b")) tNil))) tNil)))) (tCons (tDNewK) (tCons (tC (.bl true)) tNil))))))
abbrev tOi3 : TE := tLst (tCons (tTup (tCons (tC (.str "use")) (tCons (tC (.str "p")) (tCons (tC .non) tNil)))) (tCons (tTup (tCons (tC (.str "use")) (tCons (tC (.str "p")) (tCons (tLst (tCons (tC (.str "x")) tNil)) tNil)))) (tCons (tTup (tCons (tC (.str "use")) (tCons (tC (.str "a")) (tCons (tLst (tCons (tC (.str "q9")) (tCons (tC (.str "q9")) tNil))) tNil)))) (tCons (tTup (tCons (tC (.str "use")) (tCons (tC (.str "w1")) (tCons (tC (.str "ab")) tNil)))) tNil))))
abbrev tOi4 : TE := tLst (tCons (tTup (tCons (tC (.str "part")) (tCons (tC (.str "a")) tNil))) (tCons (tLst (tCons (tLst (tCons (tC (.str "loop")) tNil)) tNil)) (tCons (tTup (tCons (tC (.str "use")) (tCons (tC (.str "pp")) (tCons (tTup (tCons (tC (.str "q9")) tNil)) tNil)))) (tCons (tTup (tCons (tC (.str "net")) tNil)) tNil))))
section
variable {S : List Addr} {σ : L2.St} {H0 : Hp}
theorem gOi0 : GvA S σ H0 tOi0 oOi0 := (gva_cons gv_non (gva_cons gv_int (gva_cons gv_str (gva_cons (gv_tup (gva_cons gv_str gva_nil) (Nat.le_of_ble_eq_true rfl)) (gva_cons (gv_tup (gva_cons gv_str (gva_cons gv_str gva_nil)) (Nat.le_of_ble_eq_true rfl)) (gva_cons (gv_tup (gva_cons gv_str (gva_cons gv_str gva_nil)) (Nat.le_of_ble_eq_true rfl)) (gva_cons (gv_tup (gva_cons gv_str (gva_cons gv_str (gva_cons gv_str (gva_cons gv_str gva_nil)))) (Nat.le_of_ble_eq_true rfl)) (gva_cons (gv_tup (gva_cons gv_str (gva_cons gv_str (gva_cons gv_str gva_nil))) (Nat.le_of_ble_eq_true rfl)) gva_nil))))))))
theorem gOi1 : Gv S σ H0 tOi1 (.list oOi1) := (gv_lst (gva_cons (gv_tup (gva_cons gv_str (gva_cons gv_str (gva_cons gv_str gva_nil))) (Nat.le_of_ble_eq_true rfl)) (gva_cons (gv_tup (gva_cons gv_str (gva_cons gv_str (gva_cons gv_str gva_nil))) (Nat.le_of_ble_eq_true rfl)) (gva_cons (gv_tup (gva_cons gv_str (gva_cons gv_str gva_nil)) (Nat.le_of_ble_eq_true rfl)) (gva_cons (gv_lst (gva_cons gv_str (gva_cons gv_str (gva_cons gv_str gva_nil))) (Nat.le_of_ble_eq_true rfl)) (gva_cons (gv_tup (gva_cons gv_str (gva_cons gv_str gva_nil)) (Nat.le_of_ble_eq_true rfl)) (gva_cons (gv_tup gva_nil (Nat.le_of_ble_eq_true rfl)) (gva_cons (gv_lst gva_nil (Nat.le_of_ble_eq_true rfl)) gva_nil))))))) (Nat.le_of_ble_eq_true rfl))
theorem gOi2 : Gv S σ H0 tOi2 (.list oOi2) := (gv_lst (gva_cons (gv_tup (gva_cons gv_str (gva_cons gv_str (gva_cons (gv_lst gva_nil (Nat.le_of_ble_eq_true rfl)) gva_nil))) (Nat.le_of_ble_eq_true rfl)) (gva_cons (gv_tup (gva_cons gv_str (gva_cons gv_str (gva_cons (gv_lst (gva_cons gv_str gva_nil) (Nat.le_of_ble_eq_true rfl)) gva_nil))) (Nat.le_of_ble_eq_true rfl)) (gva_cons (gv_tup (gva_cons gv_str (gva_cons gv_str (gva_cons (gv_lst gva_nil (Nat.le_of_ble_eq_true rfl)) gva_nil))) (Nat.le_of_ble_eq_true rfl)) (gva_cons (gv_tup (gva_cons gv_str (gva_cons gv_str (gva_cons (gv_lst (gva_cons gv_str (gva_cons gv_str gva_nil)) (Nat.le_of_ble_eq_true rfl)) gva_nil))) (Nat.le_of_ble_eq_true rfl)) (gva_cons gv_dict (gva_cons gv_bl gva_nil)))))) (Nat.le_of_ble_eq_true rfl))
theorem gOi3 : Gv S σ H0 tOi3 (.list oOi3) := (gv_lst (gva_cons (gv_tup (gva_cons gv_str (gva_cons gv_str (gva_cons gv_non gva_nil))) (Nat.le_of_ble_eq_true rfl)) (gva_cons (gv_tup (gva_cons gv_str (gva_cons gv_str (gva_cons (gv_lst (gva_cons gv_str gva_nil) (Nat.le_of_ble_eq_true rfl)) gva_nil))) (Nat.le_of_ble_eq_true rfl)) (gva_cons (gv_tup (gva_cons gv_str (gva_cons gv_str (gva_cons (gv_lst (gva_cons gv_str (gva_cons gv_str gva_nil)) (Nat.le_of_ble_eq_true rfl)) gva_nil))) (Nat.le_of_ble_eq_true rfl)) (gva_cons (gv_tup (gva_cons gv_str (gva_cons gv_str (gva_cons gv_str gva_nil))) (Nat.le_of_ble_eq_true rfl)) gva_nil)))) (Nat.le_of_ble_eq_true rfl))
theorem gOi4 : Gv S σ H0 tOi4 (.list oOi4) := (gv_lst (gva_cons (gv_tup (gva_cons gv_str (gva_cons gv_str gva_nil)) (Nat.le_of_ble_eq_true rfl)) (gva_cons (gv_lst (gva_cons (gv_lst (gva_cons gv_str gva_nil) (Nat.le_of_ble_eq_true rfl)) gva_nil) (Nat.le_of_ble_eq_true rfl)) (gva_cons (gv_tup (gva_cons gv_str (gva_cons gv_str (gva_cons (gv_tup (gva_cons gv_str gva_nil) (Nat.le_of_ble_eq_true rfl)) gva_nil))) (Nat.le_of_ble_eq_true rfl)) (gva_cons (gv_tup (gva_cons gv_str gva_nil) (Nat.le_of_ble_eq_true rfl)) gva_nil)))) (Nat.le_of_ble_eq_true rfl))
end
abbrev sOi : Stmt := topS 57
theorem scOi : FnScope ["found"] [] (defScope sOi) := ⟨rfl, rfl, rfl, by decide +kernel, rfl, by decide +kernel, by decide +kernel⟩
theorem bdOi : defBody sOi = [stOf sOi 0, stOf sOi 1, stOf sOi 2, stOf sOi 3, stOf sOi 4] := by rfl
section
variable {P : Program} {w : World} {K : Frag} {mg : Str → Option Value} {base : Heap}
theorem ok_oi {f : Addr} {fd : FuncData} (F : FunD K "_law_odd_items" "_law_odd_items" (defArgs sOi) (defBody sOi) (defScope sOi) [] [] f fd) : FnOk P w K mg base CX0 1 f fd [] (spOdd5 oddOi) := by
  refine F.ok scOi (fun vs H Q E h => ?_) (fun cdv A outer s H vs Q XE hr h => ?_)
  · obtain ⟨S, rfl, _⟩ := h
    rfl
  · obtain ⟨S, rfl, ins, k⟩ := h
    have h0 : PS (XC P w K mg base ["found"] "_law_odd_items" sOi f cdv A outer s H XE) (stOf sOi 0) (tAsg (tLst tOi0) (gName 0)) := ps_set (i := 0) scOi.nd rfl (.inl rfl) (pe_lst (pa_cons pe_non (pa_cons pe_int (pa_cons pe_str (pa_cons (pe_tup (pa_cons pe_str pa_nil)) (pa_cons (pe_tup (pa_cons pe_str (pa_cons pe_str pa_nil))) (pa_cons (pe_tup (pa_cons pe_str (pa_cons pe_str pa_nil))) (pa_cons (pe_tup (pa_cons pe_str (pa_cons pe_str (pa_cons pe_str (pa_cons pe_str pa_nil))))) (pa_cons (pe_tup (pa_cons pe_str (pa_cons pe_str (pa_cons pe_str pa_nil)))) pa_nil)))))))))
    have h1 : PS (XC P w K mg base ["found"] "_law_odd_items" sOi f cdv A outer s H XE) (stOf sOi 1) (tDrop (tBM K "list" rExtend (tVar 0) (tCons tOi1 tNil))) := ps_expr (pe_bm PySem.F.plainAttrs_list PySem.F.slot_list_extend PySem.F.type_list_extend mt_extend (pv 0) (pa_cons (pe_lst (pa_cons (pe_tup (pa_cons pe_str (pa_cons pe_str (pa_cons pe_str pa_nil)))) (pa_cons (pe_tup (pa_cons pe_str (pa_cons pe_str (pa_cons pe_str pa_nil)))) (pa_cons (pe_tup (pa_cons pe_str (pa_cons pe_str pa_nil))) (pa_cons (pe_lst (pa_cons pe_str (pa_cons pe_str (pa_cons pe_str pa_nil)))) (pa_cons (pe_tup (pa_cons pe_str (pa_cons pe_str pa_nil))) (pa_cons (pe_tup pa_nil) (pa_cons (pe_lst pa_nil) pa_nil)))))))) pa_nil))
    have h2 : PS (XC P w K mg base ["found"] "_law_odd_items" sOi f cdv A outer s H XE) (stOf sOi 2) (tDrop (tBM K "list" rExtend (tVar 0) (tCons tOi2 tNil))) := ps_expr (pe_bm PySem.F.plainAttrs_list PySem.F.slot_list_extend PySem.F.type_list_extend mt_extend (pv 0) (pa_cons (pe_lst (pa_cons (pe_tup (pa_cons pe_str (pa_cons pe_str (pa_cons (pe_lst pa_nil) pa_nil)))) (pa_cons (pe_tup (pa_cons pe_str (pa_cons pe_str (pa_cons (pe_lst (pa_cons pe_str pa_nil)) pa_nil)))) (pa_cons (pe_tup (pa_cons pe_str (pa_cons pe_str (pa_cons (pe_lst pa_nil) pa_nil)))) (pa_cons (pe_tup (pa_cons pe_str (pa_cons pe_str (pa_cons (pe_lst (pa_cons pe_str (pa_cons pe_str pa_nil))) pa_nil)))) (pa_cons pe_dnewK (pa_cons pe_bl pa_nil))))))) pa_nil))
    have h3 : PS (XC P w K mg base ["found"] "_law_odd_items" sOi f cdv A outer s H XE) (stOf sOi 3) (tDrop (tBM K "list" rExtend (tVar 0) (tCons tOi3 tNil))) := ps_expr (pe_bm PySem.F.plainAttrs_list PySem.F.slot_list_extend PySem.F.type_list_extend mt_extend (pv 0) (pa_cons (pe_lst (pa_cons (pe_tup (pa_cons pe_str (pa_cons pe_str (pa_cons pe_non pa_nil)))) (pa_cons (pe_tup (pa_cons pe_str (pa_cons pe_str (pa_cons (pe_lst (pa_cons pe_str pa_nil)) pa_nil)))) (pa_cons (pe_tup (pa_cons pe_str (pa_cons pe_str (pa_cons (pe_lst (pa_cons pe_str (pa_cons pe_str pa_nil))) pa_nil)))) (pa_cons (pe_tup (pa_cons pe_str (pa_cons pe_str (pa_cons pe_str pa_nil)))) pa_nil))))) pa_nil))
    have h4 : PS (XC P w K mg base ["found"] "_law_odd_items" sOi f cdv A outer s H XE) (stOf sOi 4) (tRet (tOp rCat (tVar 0) tOi4)) := ps_ret (pe_op op_cat (pv 0) (pe_lst (pa_cons (pe_tup (pa_cons pe_str (pa_cons pe_str pa_nil))) (pa_cons (pe_lst (pa_cons (pe_lst (pa_cons pe_str pa_nil)) pa_nil)) (pa_cons (pe_tup (pa_cons pe_str (pa_cons pe_str (pa_cons (pe_tup (pa_cons pe_str pa_nil)) pa_nil)))) (pa_cons (pe_tup (pa_cons pe_str pa_nil)) pa_nil))))))
    have PP := PSs.of_eq bdOi (pss_cons h0 (pss_cons h1 (pss_cons h2 (pss_cons h3 (pss_one h4)))))
    clear h0 h1 h2 h3 h4
    refine ⟨_, PSs.nox PP, ?_⟩
    clear PP
    refine T3.set_intro (i := 0) ?_
    refine T69.lst_intro ?_
    refine gOi0 H _ (fun _ _ e => e) ins ?_
    refine fun H1 xs s1 t1 => ⟨by rw [t1.length]; exact small4 8, fun f0 nf => ?_⟩
    have insH1 : Ins S H1 := ins.same s1
    have nS : f0 ∉ S := insH1.new nf
    have n0 : H f0 = none := s1.free nf
    have t2 : ThAll (Hid (f0 :: S) (upd H1 f0 (.lst xs))) xs oOi0 := t1.ext fun b o h => by
      obtain ⟨h1, h2, h3⟩ := hid_at h
      have nb : b ≠ f0 := ne_of_none h2 nf
      exact hid_of (fun m => (List.mem_cons.mp m).elim nb h1) (by rw [upd_ne nb]; exact h2) h3
    have ins2 : Ins (f0 :: S) (upd H1 f0 (.lst xs)) := (insH1.same (same_new nf)).cons upd_same
    have S2 : L2.Same H (upd H1 f0 (.lst xs)) := s1.trans (same_new nf)
    have kp : ∀ {G G' : Hp}, L2.Same H G → (∀ b o, G b = some o → b ≠ f0 → G' b = some o) → L2.Same H G' := fun s e b o h => e _ _ (s _ _ h) (ne_of_none h n0)
    have h0 : (upd H1 f0 (.lst xs)) f0 = some (.lst xs) := upd_same
    generalize upd H1 f0 (.lst xs) = G1 at t2 ins2 S2 h0 ⊢
    have w1 := h0
    have v1 := t2
    have j1 := ins2
    refine T69.dropS ?_
    refine T69.ext_step rfl w1 v1 j1 gOi1 (by decide) (by decide) ?_
    refine fun G2 ys2 e2 w2 v2 j2 => ?_
    refine nx_intro ?_
    refine T69.dropS ?_
    refine T69.ext_step rfl w2 v2 j2 gOi2 (by decide) (by decide) ?_
    refine fun G3 ys3 e3 w3 v3 j3 => ?_
    refine nx_intro ?_
    refine T69.dropS ?_
    refine T69.ext_step rfl w3 v3 j3 gOi3 (by decide) (by decide) ?_
    refine fun G4 ys4 e4 w4 v4 j4 => ?_
    refine nx_intro (ret_intro (T3.op_in ?_))
    refine ⟨.ref f0, rfl, ?_⟩
    refine gOi4 G4 _ (fun _ _ e => e) j4 ?_
    refine fun G8 v s6 t6 => ?_
    cases t6 with
    | @lst b zs _ hb r6 =>
      refine ⟨f0, b, ys4, zs, rfl, rfl, s6 _ _ w4, hid_up _ _ hb, by rw [v4.length, r6.length]; exact small4 29, fun r nr => ?_⟩
      have sr := same_new (o := .lst (ys4 ++ zs)) nr
      have Sall : L2.Same H G8 := (kp (kp (kp S2 e2) e3) e4).trans s6
      refine k _ r (Sall.trans sr) (.lst (hid_of (ins.same Sall |>.new nr) upd_same (fun ps z => nomatch z)) ?_)
      have less : L2.Same (Hid (f0 :: S) G8) (Hid S (upd G8 r (.lst (ys4 ++ zs)))) := fun b o h => by
        obtain ⟨h1, h2, h3⟩ := hid_at h
        exact hid_of (fun m => h1 (List.mem_cons_of_mem _ m)) (sr _ _ h2) h3
      exact th_app ((v4.ext (hid_same s6)).ext less) (r6.ext less)
end
def oOp0 : List PyData := [.none, .int 5, .str "p", .tuple [.str "p", .list [], .list []], .tuple [.str "x", .list [], .list []], .tuple [.str "late9", .list [.str "a"], .list []], .tuple [.str "late9", .list [.str "a", .str "a"], .list []], .tuple [.str "late9", .list []]]
def oOp1 : List PyData := [.tuple [.str "late9", .list [.str "a", .str "b"], .list [.tuple [.str "join", .str "b", .str "a"]]]]
def oOp2 : List PyData := [.tuple [.str "late9", .list [], .list [.tuple [.str "use", .str "late9", .list []]]], .tuple [.str "late9", .list [], .none], .tuple [.str "late9", .list [], .list []], .list [.str "late9", .list [], .list [.none]]]
def oOp3 : List PyData := [.tuple [.str "late9", .none, .list []], .tuple [.str "late9", .list [.str "a"], .list [.tuple [.str "stop", .str "a"]]], .tuple [.str "late9", .list [.str "to"], .list [.tuple [.str "stop", .str "to"]]], .tuple [], .list []]
def oOp4 : List PyData := [.tuple [.str "late9", .list [.str "a"], .list [.tuple [.str "stop", .str "a"], .tuple [.str "loop"]]], .tuple [.str "late9", .list [], .list [.tuple [.str "stop", .str "a"]]], .tuple [.int 5, .list [], .list []], .dict [], .bool true]
def oddOp : List PyData := ((((oOp0 ++ oOp1) ++ oOp2) ++ oOp3) ++ oOp4)
abbrev tOp0 : TA := (tCons (tC .non) (tCons (tC (.int 5)) (tCons (tC (.str "p")) (tCons (tTup (tCons (tC (.str "p")) (tCons (tLst tNil) (tCons (tLst tNil) tNil)))) (tCons (tTup (tCons (tC (.str "x")) (tCons (tLst tNil) (tCons (tLst tNil) tNil)))) (tCons (tTup (tCons (tC (.str "late9")) (tCons (tLst (tCons (tC (.str "a")) tNil)) (tCons (tLst tNil) tNil)))) (tCons (tTup (tCons (tC (.str "late9")) (tCons (tLst (tCons (tC (.str "a")) (tCons (tC (.str "a")) tNil))) (tCons (tLst tNil) tNil)))) (tCons (tTup (tCons (tC (.str "late9")) (tCons (tLst tNil) tNil))) tNil))))))))
abbrev tOp1 : TE := tTup (tCons (tC (.str "late9")) (tCons (tLst (tCons (tC (.str "a")) (tCons (tC (.str "b")) tNil))) (tCons (tLst (tCons (tTup (tCons (tC (.str "join")) (tCons (tC (.str "b")) (tCons (tC (.str "a")) tNil)))) tNil)) tNil)))
abbrev tOp2 : TE := tLst (tCons (tTup (tCons (tC (.str "late9")) (tCons (tLst tNil) (tCons (tLst (tCons (tTup (tCons (tC (.str "use")) (tCons (tC (.str "late9")) (tCons (tLst tNil) tNil)))) tNil)) tNil)))) (tCons (tTup (tCons (tC (.str "late9")) (tCons (tLst tNil) (tCons (tC .non) tNil)))) (tCons (tTup (tCons (tC (.str "late9")) (tCons (tLst tNil) (tCons (tLst tNil) tNil)))) (tCons (tLst (tCons (tC (.str "late9")) (tCons (tLst tNil) (tCons (tLst (tCons (tC .non) tNil)) tNil)))) tNil))))
abbrev tOp3 : TE := tLst (tCons (tTup (tCons (tC (.str "late9")) (tCons (tC .non) (tCons (tLst tNil) tNil)))) (tCons (tTup (tCons (tC (.str "late9")) (tCons (tLst (tCons (tC (.str "a")) tNil)) (tCons (tLst (tCons (tTup (tCons (tC (.str "stop")) (tCons (tC (.str "a")) tNil))) tNil)) tNil)))) (tCons (tTup (tCons (tC (.str "late9")) (tCons (tLst (tCons (tC (.str "to")) tNil)) (tCons (tLst (tCons (tTup (tCons (tC (.str "stop")) (tCons (tC (.str "to")) tNil))) tNil)) tNil)))) (tCons (tTup tNil) (tCons (tLst tNil) tNil)))))
abbrev tOp4 : TE := tLst (tCons (tTup (tCons (tC (.str "late9")) (tCons (tLst (tCons (tC (.str "a")) tNil)) (tCons (tLst (tCons (tTup (tCons (tC (.str "stop")) (tCons (tC (.str "a")) tNil))) (tCons (tTup (tCons (tC (.str "loop")) tNil)) tNil))) tNil)))) (tCons (tTup (tCons (tC (.str "late9")) (tCons (tLst tNil) (tCons (tLst (tCons (tTup (tCons (tC (.str "stop")) (tCons (tC (.str "a")) tNil))) tNil)) tNil)))) (tCons (tTup (tCons (tC (.int 5)) (tCons (tLst tNil) (tCons (tLst tNil) tNil)))) (tCons (tDNewK) (tCons (tC (.bl true)) tNil)))))
section
variable {S : List Addr} {σ : L2.St} {H0 : Hp}
theorem gOp0 : GvA S σ H0 tOp0 oOp0 := (gva_cons gv_non (gva_cons gv_int (gva_cons gv_str (gva_cons (gv_tup (gva_cons gv_str (gva_cons (gv_lst gva_nil (Nat.le_of_ble_eq_true rfl)) (gva_cons (gv_lst gva_nil (Nat.le_of_ble_eq_true rfl)) gva_nil))) (Nat.le_of_ble_eq_true rfl)) (gva_cons (gv_tup (gva_cons gv_str (gva_cons (gv_lst gva_nil (Nat.le_of_ble_eq_true rfl)) (gva_cons (gv_lst gva_nil (Nat.le_of_ble_eq_true rfl)) gva_nil))) (Nat.le_of_ble_eq_true rfl)) (gva_cons (gv_tup (gva_cons gv_str (gva_cons (gv_lst (gva_cons gv_str gva_nil) (Nat.le_of_ble_eq_true rfl)) (gva_cons (gv_lst gva_nil (Nat.le_of_ble_eq_true rfl)) gva_nil))) (Nat.le_of_ble_eq_true rfl)) (gva_cons (gv_tup (gva_cons gv_str (gva_cons (gv_lst (gva_cons gv_str (gva_cons gv_str gva_nil)) (Nat.le_of_ble_eq_true rfl)) (gva_cons (gv_lst gva_nil (Nat.le_of_ble_eq_true rfl)) gva_nil))) (Nat.le_of_ble_eq_true rfl)) (gva_cons (gv_tup (gva_cons gv_str (gva_cons (gv_lst gva_nil (Nat.le_of_ble_eq_true rfl)) gva_nil)) (Nat.le_of_ble_eq_true rfl)) gva_nil))))))))
theorem gOp1 : Gv S σ H0 tOp1 (.tuple [.str "late9", .list [.str "a", .str "b"], .list [.tuple [.str "join", .str "b", .str "a"]]]) := (gv_tup (gva_cons gv_str (gva_cons (gv_lst (gva_cons gv_str (gva_cons gv_str gva_nil)) (Nat.le_of_ble_eq_true rfl)) (gva_cons (gv_lst (gva_cons (gv_tup (gva_cons gv_str (gva_cons gv_str (gva_cons gv_str gva_nil))) (Nat.le_of_ble_eq_true rfl)) gva_nil) (Nat.le_of_ble_eq_true rfl)) gva_nil))) (Nat.le_of_ble_eq_true rfl))
theorem gOp2 : Gv S σ H0 tOp2 (.list oOp2) := (gv_lst (gva_cons (gv_tup (gva_cons gv_str (gva_cons (gv_lst gva_nil (Nat.le_of_ble_eq_true rfl)) (gva_cons (gv_lst (gva_cons (gv_tup (gva_cons gv_str (gva_cons gv_str (gva_cons (gv_lst gva_nil (Nat.le_of_ble_eq_true rfl)) gva_nil))) (Nat.le_of_ble_eq_true rfl)) gva_nil) (Nat.le_of_ble_eq_true rfl)) gva_nil))) (Nat.le_of_ble_eq_true rfl)) (gva_cons (gv_tup (gva_cons gv_str (gva_cons (gv_lst gva_nil (Nat.le_of_ble_eq_true rfl)) (gva_cons gv_non gva_nil))) (Nat.le_of_ble_eq_true rfl)) (gva_cons (gv_tup (gva_cons gv_str (gva_cons (gv_lst gva_nil (Nat.le_of_ble_eq_true rfl)) (gva_cons (gv_lst gva_nil (Nat.le_of_ble_eq_true rfl)) gva_nil))) (Nat.le_of_ble_eq_true rfl)) (gva_cons (gv_lst (gva_cons gv_str (gva_cons (gv_lst gva_nil (Nat.le_of_ble_eq_true rfl)) (gva_cons (gv_lst (gva_cons gv_non gva_nil) (Nat.le_of_ble_eq_true rfl)) gva_nil))) (Nat.le_of_ble_eq_true rfl)) gva_nil)))) (Nat.le_of_ble_eq_true rfl))
theorem gOp3 : Gv S σ H0 tOp3 (.list oOp3) := (gv_lst (gva_cons (gv_tup (gva_cons gv_str (gva_cons gv_non (gva_cons (gv_lst gva_nil (Nat.le_of_ble_eq_true rfl)) gva_nil))) (Nat.le_of_ble_eq_true rfl)) (gva_cons (gv_tup (gva_cons gv_str (gva_cons (gv_lst (gva_cons gv_str gva_nil) (Nat.le_of_ble_eq_true rfl)) (gva_cons (gv_lst (gva_cons (gv_tup (gva_cons gv_str (gva_cons gv_str gva_nil)) (Nat.le_of_ble_eq_true rfl)) gva_nil) (Nat.le_of_ble_eq_true rfl)) gva_nil))) (Nat.le_of_ble_eq_true rfl)) (gva_cons (gv_tup (gva_cons gv_str (gva_cons (gv_lst (gva_cons gv_str gva_nil) (Nat.le_of_ble_eq_true rfl)) (gva_cons (gv_lst (gva_cons (gv_tup (gva_cons gv_str (gva_cons gv_str gva_nil)) (Nat.le_of_ble_eq_true rfl)) gva_nil) (Nat.le_of_ble_eq_true rfl)) gva_nil))) (Nat.le_of_ble_eq_true rfl)) (gva_cons (gv_tup gva_nil (Nat.le_of_ble_eq_true rfl)) (gva_cons (gv_lst gva_nil (Nat.le_of_ble_eq_true rfl)) gva_nil))))) (Nat.le_of_ble_eq_true rfl))
theorem gOp4 : Gv S σ H0 tOp4 (.list oOp4) := (gv_lst (gva_cons (gv_tup (gva_cons gv_str (gva_cons (gv_lst (gva_cons gv_str gva_nil) (Nat.le_of_ble_eq_true rfl)) (gva_cons (gv_lst (gva_cons (gv_tup (gva_cons gv_str (gva_cons gv_str gva_nil)) (Nat.le_of_ble_eq_true rfl)) (gva_cons (gv_tup (gva_cons gv_str gva_nil) (Nat.le_of_ble_eq_true rfl)) gva_nil)) (Nat.le_of_ble_eq_true rfl)) gva_nil))) (Nat.le_of_ble_eq_true rfl)) (gva_cons (gv_tup (gva_cons gv_str (gva_cons (gv_lst gva_nil (Nat.le_of_ble_eq_true rfl)) (gva_cons (gv_lst (gva_cons (gv_tup (gva_cons gv_str (gva_cons gv_str gva_nil)) (Nat.le_of_ble_eq_true rfl)) gva_nil) (Nat.le_of_ble_eq_true rfl)) gva_nil))) (Nat.le_of_ble_eq_true rfl)) (gva_cons (gv_tup (gva_cons gv_int (gva_cons (gv_lst gva_nil (Nat.le_of_ble_eq_true rfl)) (gva_cons (gv_lst gva_nil (Nat.le_of_ble_eq_true rfl)) gva_nil))) (Nat.le_of_ble_eq_true rfl)) (gva_cons gv_dict (gva_cons gv_bl gva_nil))))) (Nat.le_of_ble_eq_true rfl))
end
abbrev sOp : Stmt := topS 58
theorem scOp : FnScope ["found"] [] (defScope sOp) := ⟨rfl, rfl, rfl, by decide +kernel, rfl, by decide +kernel, by decide +kernel⟩
theorem bdOp : defBody sOp = [stOf sOp 0, stOf sOp 1, stOf sOp 2, stOf sOp 3, stOf sOp 4] := by rfl
section
variable {P : Program} {w : World} {K : Frag} {mg : Str → Option Value} {base : Heap}
theorem ok_op {f : Addr} {fd : FuncData} (F : FunD K "_law_odd_parts" "_law_odd_parts" (defArgs sOp) (defBody sOp) (defScope sOp) [] [] f fd) : FnOk P w K mg base CX0 1 f fd [] (spOdd5 oddOp) := by
  refine F.ok scOp (fun vs H Q E h => ?_) (fun cdv A outer s H vs Q XE hr h => ?_)
  · obtain ⟨S, rfl, _⟩ := h
    rfl
  · obtain ⟨S, rfl, ins, k⟩ := h
    have h0 : PS (XC P w K mg base ["found"] "_law_odd_parts" sOp f cdv A outer s H XE) (stOf sOp 0) (tAsg (tLst tOp0) (gName 0)) := ps_set (i := 0) scOp.nd rfl (.inl rfl) (pe_lst (pa_cons pe_non (pa_cons pe_int (pa_cons pe_str (pa_cons (pe_tup (pa_cons pe_str (pa_cons (pe_lst pa_nil) (pa_cons (pe_lst pa_nil) pa_nil)))) (pa_cons (pe_tup (pa_cons pe_str (pa_cons (pe_lst pa_nil) (pa_cons (pe_lst pa_nil) pa_nil)))) (pa_cons (pe_tup (pa_cons pe_str (pa_cons (pe_lst (pa_cons pe_str pa_nil)) (pa_cons (pe_lst pa_nil) pa_nil)))) (pa_cons (pe_tup (pa_cons pe_str (pa_cons (pe_lst (pa_cons pe_str (pa_cons pe_str pa_nil))) (pa_cons (pe_lst pa_nil) pa_nil)))) (pa_cons (pe_tup (pa_cons pe_str (pa_cons (pe_lst pa_nil) pa_nil))) pa_nil)))))))))
    have h1 : PS (XC P w K mg base ["found"] "_law_odd_parts" sOp f cdv A outer s H XE) (stOf sOp 1) (tDrop (tBM K "list" rAppend (tVar 0) (tCons tOp1 tNil))) := ps_expr (pe_bm PySem.F.plainAttrs_list PySem.F.slot_list_append PySem.F.type_list_append mt_append (pv 0) (pa_cons (pe_tup (pa_cons pe_str (pa_cons (pe_lst (pa_cons pe_str (pa_cons pe_str pa_nil))) (pa_cons (pe_lst (pa_cons (pe_tup (pa_cons pe_str (pa_cons pe_str (pa_cons pe_str pa_nil)))) pa_nil)) pa_nil)))) pa_nil))
    have h2 : PS (XC P w K mg base ["found"] "_law_odd_parts" sOp f cdv A outer s H XE) (stOf sOp 2) (tDrop (tBM K "list" rExtend (tVar 0) (tCons tOp2 tNil))) := ps_expr (pe_bm PySem.F.plainAttrs_list PySem.F.slot_list_extend PySem.F.type_list_extend mt_extend (pv 0) (pa_cons (pe_lst (pa_cons (pe_tup (pa_cons pe_str (pa_cons (pe_lst pa_nil) (pa_cons (pe_lst (pa_cons (pe_tup (pa_cons pe_str (pa_cons pe_str (pa_cons (pe_lst pa_nil) pa_nil)))) pa_nil)) pa_nil)))) (pa_cons (pe_tup (pa_cons pe_str (pa_cons (pe_lst pa_nil) (pa_cons pe_non pa_nil)))) (pa_cons (pe_tup (pa_cons pe_str (pa_cons (pe_lst pa_nil) (pa_cons (pe_lst pa_nil) pa_nil)))) (pa_cons (pe_lst (pa_cons pe_str (pa_cons (pe_lst pa_nil) (pa_cons (pe_lst (pa_cons pe_non pa_nil)) pa_nil)))) pa_nil))))) pa_nil))
    have h3 : PS (XC P w K mg base ["found"] "_law_odd_parts" sOp f cdv A outer s H XE) (stOf sOp 3) (tDrop (tBM K "list" rExtend (tVar 0) (tCons tOp3 tNil))) := ps_expr (pe_bm PySem.F.plainAttrs_list PySem.F.slot_list_extend PySem.F.type_list_extend mt_extend (pv 0) (pa_cons (pe_lst (pa_cons (pe_tup (pa_cons pe_str (pa_cons pe_non (pa_cons (pe_lst pa_nil) pa_nil)))) (pa_cons (pe_tup (pa_cons pe_str (pa_cons (pe_lst (pa_cons pe_str pa_nil)) (pa_cons (pe_lst (pa_cons (pe_tup (pa_cons pe_str (pa_cons pe_str pa_nil))) pa_nil)) pa_nil)))) (pa_cons (pe_tup (pa_cons pe_str (pa_cons (pe_lst (pa_cons pe_str pa_nil)) (pa_cons (pe_lst (pa_cons (pe_tup (pa_cons pe_str (pa_cons pe_str pa_nil))) pa_nil)) pa_nil)))) (pa_cons (pe_tup pa_nil) (pa_cons (pe_lst pa_nil) pa_nil)))))) pa_nil))
    have h4 : PS (XC P w K mg base ["found"] "_law_odd_parts" sOp f cdv A outer s H XE) (stOf sOp 4) (tRet (tOp rCat (tVar 0) tOp4)) := ps_ret (pe_op op_cat (pv 0) (pe_lst (pa_cons (pe_tup (pa_cons pe_str (pa_cons (pe_lst (pa_cons pe_str pa_nil)) (pa_cons (pe_lst (pa_cons (pe_tup (pa_cons pe_str (pa_cons pe_str pa_nil))) (pa_cons (pe_tup (pa_cons pe_str pa_nil)) pa_nil))) pa_nil)))) (pa_cons (pe_tup (pa_cons pe_str (pa_cons (pe_lst pa_nil) (pa_cons (pe_lst (pa_cons (pe_tup (pa_cons pe_str (pa_cons pe_str pa_nil))) pa_nil)) pa_nil)))) (pa_cons (pe_tup (pa_cons pe_int (pa_cons (pe_lst pa_nil) (pa_cons (pe_lst pa_nil) pa_nil)))) (pa_cons pe_dnewK (pa_cons pe_bl pa_nil)))))))
    have PP := PSs.of_eq bdOp (pss_cons h0 (pss_cons h1 (pss_cons h2 (pss_cons h3 (pss_one h4)))))
    clear h0 h1 h2 h3 h4
    refine ⟨_, PSs.nox PP, ?_⟩
    clear PP
    refine T3.set_intro (i := 0) ?_
    refine T69.lst_intro ?_
    refine gOp0 H _ (fun _ _ e => e) ins ?_
    refine fun H1 xs s1 t1 => ⟨by rw [t1.length]; exact small4 8, fun f0 nf => ?_⟩
    have insH1 : Ins S H1 := ins.same s1
    have nS : f0 ∉ S := insH1.new nf
    have n0 : H f0 = none := s1.free nf
    have t2 : ThAll (Hid (f0 :: S) (upd H1 f0 (.lst xs))) xs oOp0 := t1.ext fun b o h => by
      obtain ⟨h1, h2, h3⟩ := hid_at h
      have nb : b ≠ f0 := ne_of_none h2 nf
      exact hid_of (fun m => (List.mem_cons.mp m).elim nb h1) (by rw [upd_ne nb]; exact h2) h3
    have ins2 : Ins (f0 :: S) (upd H1 f0 (.lst xs)) := (insH1.same (same_new nf)).cons upd_same
    have S2 : L2.Same H (upd H1 f0 (.lst xs)) := s1.trans (same_new nf)
    have kp : ∀ {G G' : Hp}, L2.Same H G → (∀ b o, G b = some o → b ≠ f0 → G' b = some o) → L2.Same H G' := fun s e b o h => e _ _ (s _ _ h) (ne_of_none h n0)
    have h0 : (upd H1 f0 (.lst xs)) f0 = some (.lst xs) := upd_same
    generalize upd H1 f0 (.lst xs) = G1 at t2 ins2 S2 h0 ⊢
    have w1 := h0
    have v1 := t2
    have j1 := ins2
    refine T69.dropS ?_
    refine app_step rfl w1 v1 j1 gOp1 (by decide) ?_
    refine fun G2 ys2 e2 w2 v2 j2 => ?_
    refine nx_intro ?_
    refine T69.dropS ?_
    refine T69.ext_step rfl w2 v2 j2 gOp2 (by decide) (by decide) ?_
    refine fun G3 ys3 e3 w3 v3 j3 => ?_
    refine nx_intro ?_
    refine T69.dropS ?_
    refine T69.ext_step rfl w3 v3 j3 gOp3 (by decide) (by decide) ?_
    refine fun G4 ys4 e4 w4 v4 j4 => ?_
    refine nx_intro (ret_intro (T3.op_in ?_))
    refine ⟨.ref f0, rfl, ?_⟩
    refine gOp4 G4 _ (fun _ _ e => e) j4 ?_
    refine fun G8 v s6 t6 => ?_
    cases t6 with
    | @lst b zs _ hb r6 =>
      refine ⟨f0, b, ys4, zs, rfl, rfl, s6 _ _ w4, hid_up _ _ hb, by rw [v4.length, r6.length]; exact small4 23, fun r nr => ?_⟩
      have sr := same_new (o := .lst (ys4 ++ zs)) nr
      have Sall : L2.Same H G8 := (kp (kp (kp S2 e2) e3) e4).trans s6
      refine k _ r (Sall.trans sr) (.lst (hid_of (ins.same Sall |>.new nr) upd_same (fun ps z => nomatch z)) ?_)
      have less : L2.Same (Hid (f0 :: S) G8) (Hid S (upd G8 r (.lst (ys4 ++ zs)))) := fun b o h => by
        obtain ⟨h1, h2, h3⟩ := hid_at h
        exact hid_of (fun m => h1 (List.mem_cons_of_mem _ m)) (sr _ _ h2) h3
      exact th_app ((v4.ext (hid_same s6)).ext less) (r6.ext less)
end
end K14.T5
namespace K14.T5
open T27 T3
open K14.Gn
open PySem PySem.W PySem.Calls PyProof.Rows L2 LamX NdefX
open He (ga)
open Kz (SS ExtS ExtS.trans small4 same_new boot_in boot_li boot_isi Has pe_has noE PSs.of_eq seqI new_ext X1 shaped_int dpAll_int)
/-! ### _law_row_bent -/
section
variable {S : List Addr} {σ : L2.St} {H0 : Hp} {K : Frag}
/-- x[a:b], a and b as they are -/
def cutD (x : List PyData) (a b : Nat) : List PyData := (x.drop (min a x.length)).take (min b x.length - min a x.length)
theorem cutD_sub (x : List PyData) (a b : Nat) : (cutD x a b).Sublist x := (List.take_sublist _ _).trans (List.drop_sublist _ _)
theorem gv_both {t1 ti tj : TE} {x : List PyData} {a b : Nat} (h1 : Gv S σ H0 t1 (.list x)) (hi : PureI ti σ a) (hj : PureI tj σ b) : Gv S σ H0 (tSl (rSlL K) t1 (tPart ti) (tPart tj)) (.list (cutD x a b)) := fun H Q s ins k =>
  h1 H _ s ins fun H1 v s1 q1 => hi H1 _ ⟨a, rfl, hj H1 _ ⟨b, rfl, by
    cases q1 with
    | @lst d xs _ ha r1 =>
      refine ⟨d, xs, rfl, .inl (.inl (hid_up _ _ ha)), fun p np => ?_⟩
      have e : cutV xs (some (a : Int)) (some (b : Int)) = (xs.drop (min a x.length)).take (min b x.length - min a x.length) := by
        unfold cutV
        rw [HT.sIx_nat, HT.sIx_nat, r1.length]
      rw [e]
      have s2 := same_new (o := .lst ((xs.drop (min a x.length)).take (min b x.length - min a x.length))) np
      exact k _ _ (s1.trans s2) (.lst (hid_of ((ins.same s1).new np) upd_same fun ps z => nomatch z) (thAll_take (thAll_drop (r1.ext (hid_same s2)))))⟩⟩
theorem gv_from {t1 ti : TE} {x : List PyData} {a : Nat} (h1 : Gv S σ H0 t1 (.list x)) (hi : PureI ti σ a) : Gv S σ H0 (tSl (rSlL K) t1 (tPart ti) tNoPart) (.list (cutD x a x.length)) := fun H Q s ins k =>
  h1 H _ s ins fun H1 v s1 q1 => hi H1 _ ⟨a, rfl, by
    cases q1 with
    | @lst d xs _ ha r1 =>
      refine ⟨d, xs, rfl, .inl (.inl (hid_up _ _ ha)), fun p np => ?_⟩
      have e : cutV xs (some (a : Int)) none = (xs.drop (min a x.length)).take (min x.length x.length - min a x.length) := by
        unfold cutV
        have e2 : HT.sIx xs.length xs.length none = xs.length := rfl
        rw [HT.sIx_nat, e2, r1.length, Nat.min_self]
      rw [e]
      have s2 := same_new (o := .lst ((xs.drop (min a x.length)).take (min x.length x.length - min a x.length))) np
      exact k _ _ (s1.trans s2) (.lst (hid_of ((ins.same s1).new np) upd_same fun ps z => nomatch z) (thAll_take (thAll_drop (r1.ext (hid_same s2)))))⟩
end
def odd6 : List PyData := [.none, .int 5, .str "ab", .dict [], .bool true, .str ""]
/-- what a bent row may be -/
def BentR (ds os : List PyData) (d : PyData) : Prop := d ∈ odd6 ∨ ∃ es, d = .list es ∧ es.length ≤ 2 * ds.length + 2 ∧ ∀ e ∈ es, e ∈ ds ∨ e ∈ os
abbrev sRb : Stmt := topS 45
abbrev NRb : List Str := ["stream", "row", "odd", "at", "how"]
theorem scRb : FnScope NRb ["stream", "row", "odd"] (defScope sRb) := ⟨rfl, rfl, rfl, by decide +kernel, rfl, by decide +kernel, by decide +kernel⟩
theorem bdRb : defBody sRb = [stOf sRb 0, stOf sRb 1, stOf sRb 2, stOf sRb 3, stOf sRb 4, stOf sRb 5] := by rfl
section
variable {P : Program} {w : World} {K : Frag} {mg : Str → Option Value} {base : Heap}
def spRb : Sp := fun vs H Q _ => ∃ (S : List Addr) (l li : Addr) (c : Int) (v u : V) (ds os : List PyData), vs = [.ref l, v, u] ∧ l ∈ S ∧ li ∈ S ∧ Ins S H ∧ Th (Hid S H) v (.list ds) ∧ Th (Hid S H) u (.list os) ∧ 0 < os.length ∧ os.length ≤ 100 ∧ ds.length ≤ 400 ∧ Spr H l li c ∧ c < 800000000 ∧
  ∀ (H' : Hp) (y : V) (d : PyData) (c' : Int), ExtS l li H H' → Spr H' l li c' → c' ≤ c + 3 → Th (Hid S H') y d → BentR ds os d → Q y H'
theorem ok_rb {f : Addr} {fd : FuncData} (F : FunD K "_law_row_bent" "_law_row_bent" (defArgs sRb) (defBody sRb) (defScope sRb) [] [] f fd) (DR : Has P w K mg base "_law_draw" 1 ["stream", "many"] spDrW) (PK : Has P w K mg base "_law_pick" 2 ["stream", "some"] spPk) (ml : mg "len" = none) : FnOk P w K mg base CX0 3 f fd ["stream", "row", "odd"] spRb := by
  refine F.ok scRb (fun vs H Q E h => ?_) (fun cdv A outer s H vs Q XE hr h => ?_)
  · obtain ⟨S, l, li, c, v, u, ds, os, rfl, _⟩ := h
    rfl
  · obtain ⟨S, l, li, c, v, u, ds, os, rfl, m1, m2, ins, tv, tu, o0, o1, d1, hs, hc, k⟩ := h
    have h0 : PS (XC P w K mg base NRb "_law_row_bent" sRb f cdv A outer s H XE) (stOf sRb 0) _ := ps_par (i := 3) (j := 4) rfl scRb.nd rfl rfl (by decide) rfl rfl (pa_cons (pe_has DR (hr.mono (by decide)) (by rfl) (pa_cons (pv 0) (pa_cons (pe_op op_add (pe_callB call_len_seq (by rfl) ml boot_len (pa_cons (pv 1) pa_nil)) pe_int) pa_nil))) (pa_cons (pe_has DR (hr.mono (by decide)) (by rfl) (pa_cons (pv 0) (pa_cons pe_int pa_nil))) pa_nil)) (by rfl)
    have h1 : PS (XC P w K mg base NRb "_law_row_bent" sRb f cdv A outer s H XE) (stOf sRb 1) _ := ps_if (pt_cmpR op_eq (pv 4) pe_int (nomark _)) (pss_one (ps_ret (pe_op op_cat (pe_slice sl_list (pv 1) po_none (po_some (pv 3))) (pe_slice sl_list (pv 1) (po_some (pe_op op_add (pv 3) pe_int)) po_none)))) pss_nil
    have h2 : PS (XC P w K mg base NRb "_law_row_bent" sRb f cdv A outer s H XE) (stOf sRb 2) _ := ps_if (pt_cmpR op_eq (pv 4) pe_int (nomark _)) (pss_one (ps_ret (pe_op op_cat (pe_op op_cat (pe_slice sl_list (pv 1) po_none (po_some (pv 3))) (pe_slice sl_list (pv 1) po_none (po_some pe_int))) (pe_slice sl_list (pv 1) (po_some (pv 3)) po_none)))) pss_nil
    have h3 : PS (XC P w K mg base NRb "_law_row_bent" sRb f cdv A outer s H XE) (stOf sRb 3) _ := ps_if (pt_cmpR op_eq (pv 4) pe_int (nomark _)) (pss_one (ps_ret (pe_op op_cat (pe_op op_cat (pe_slice sl_list (pv 1) po_none (po_some (pv 3))) (pe_slice sl_list (pv 1) (po_some (pe_op op_add (pv 3) pe_int)) po_none)) (pe_slice sl_list (pv 1) (po_some (pv 3)) (po_some (pe_op op_add (pv 3) pe_int)))))) pss_nil
    have h4 : PS (XC P w K mg base NRb "_law_row_bent" sRb f cdv A outer s H XE) (stOf sRb 4) _ := ps_if (pt_cmpR op_eq (pv 4) pe_int (nomark _)) (pss_one (ps_ret (pe_has PK hr (by rfl) (pa_cons (pv 0) (pa_cons (pe_lst (pa_cons pe_non (pa_cons pe_int (pa_cons pe_str (pa_cons pe_dnewK (pa_cons pe_bl (pa_cons pe_str pa_nil))))))) pa_nil))))) pss_nil
    have h5 : PS (XC P w K mg base NRb "_law_row_bent" sRb f cdv A outer s H XE) (stOf sRb 5) _ := ps_ret (pe_op op_cat (pe_op op_cat (pe_slice sl_list (pv 1) po_none (po_some (pv 3))) (pe_lst (pa_cons (pe_has PK hr (by rfl) (pa_cons (pv 0) (pa_cons (pv 2) pa_nil))) pa_nil))) (pe_slice sl_list (pv 1) (po_some (pe_op op_sub (pe_op op_add (pv 3) (pv 4)) pe_int)) po_none))
    refine ⟨_, PSs.nox (PSs.of_eq bdRb (pss_cons h0 (pss_cons h1 (pss_cons h2 (pss_cons h3 (pss_cons h4 (pss_one h5))))))), ?_⟩
    clear h0 h1 h2 h3 h4 h5
    refine T3.par_intro ?_
    obtain ⟨av, xv, ev, rv, hv⟩ := tv.seq (K := K) rfl
    have ev : v = .ref av := ev
    subst ev
    have hv' : H av = some (.lst xv) ∨ H av = some (.tup xv) := hv.elim (fun h => .inl (hid_up _ _ h)) fun h => .inr (hid_up _ _ h)
    have lv : xv.length = ds.length := rv.length
    refine ⟨.ref l, rfl, ⟨.ref av, rfl, av, xv, rfl, hv'.elim (fun h => .inl (.inl (.inl h))) (fun h => .inr (.inl (.inl h))), ?_⟩⟩
    refine ⟨_, _, rfl, rfl, l, li, c, (xv.length : Int) + 1, rfl, hs, by omega, by omega, by omega, fun H1 a e1 sp1 a0 a1 => ?_⟩
    refine ⟨.ref l, rfl, l, li, c + 1, 6, rfl, sp1, by decide, by decide, by omega, fun H2 b e2 sp2 b0 b1 => ⟨_, _, rfl, ?_⟩⟩
    obtain ⟨an, rfl⟩ := Int.eq_ofNat_of_zero_le a0
    obtain ⟨bn, rfl⟩ := Int.eq_ofNat_of_zero_le b0
    have E2 := e1.trans e2
    have hidE : ∀ {G G' : Hp}, ExtS l li G G' → L2.Same (Hid S G) (Hid S G') := fun e => hid_S m1 m2 e
    have tv2 := tv.ext (hidE E2)
    have tu2 := tu.ext (hidE E2)
    have ins2 : Ins S H2 := fun b mb => by
      obtain ⟨o, ho⟩ := ins b mb
      obtain ⟨_, _, _, ss, _⟩ := sp2
      by_cases q1 : b = l
      · rw [q1]
        exact ⟨_, ss.l1⟩
      · by_cases q2 : b = li
        · rw [q2]
          exact ⟨_, ss.l2⟩
        · exact ⟨o, E2 _ _ ho q1 q2⟩
    show tSeq _ _ _ [some (.ref l), some (.ref av), some u, some (.int (an : Nat)), some (.int (bn : Nat))] H2
    generalize hσ : ([some (.ref l), some (.ref av), some u, some (.int (an : Nat)), some (.int (bn : Nat))] : L2.St) = σ
    have q0 : σ[0]? = some (some (.ref l)) := by rw [← hσ]; rfl
    have q1 : σ[1]? = some (some (.ref av)) := by rw [← hσ]; rfl
    have q2 : σ[2]? = some (some u) := by rw [← hσ]; rfl
    have q3 : σ[3]? = some (some (.int (an : Nat))) := by rw [← hσ]; rfl
    have q4 : σ[4]? = some (some (.int (bn : Nat))) := by rw [← hσ]; rfl
    have g1 : Gv S σ H2 (tVar 1) (.list ds) := gv_var q1 tv2
    have g2 : Gv S σ H2 (tVar 2) (.list os) := gv_var q2 tu2
    have p3 : PureI (tVar 3) σ an := fun H Q h => ⟨_, q3, h⟩
    have p1 : PureI (tC (.int 1)) σ 1 := fun H Q h => h
    have p31 : PureI (tOp (rI0 fun i j => V.int (i + j)) (tVar 3) (tC (.int 1))) σ (an + 1) := fun H Q h => ⟨_, q3, _, _, rfl, rfl, by
      show Q (.int ((an : Int) + 1)) H
      have e : ((an : Int) + 1) = ((an + 1 : Nat) : Int) := by push_cast; rfl
      rw [e]
      exact h⟩
    have fin : ∀ (H' : Hp) (y : V) (es : List PyData), L2.Same H2 H' → Th (Hid S H') y (.list es) → es.length ≤ 2 * ds.length + 2 → (∀ e ∈ es, e ∈ ds ∨ e ∈ os) → Q y H' := fun H' y es s t l1 l2 => k H' y _ (c + 1 + 1) (E2.trans (same_S s)) (sp2.same s) (by omega) t (.inr ⟨es, rfl, l1, l2⟩)
    have cl : ∀ a b, (cutD ds a b).length ≤ ds.length := fun a b => (cutD_sub ds a b).length_le
    have cm : ∀ {a b e}, e ∈ cutD ds a b → e ∈ ds := fun {a b e} m => (cutD_sub ds a b).mem m
    have tl : ∀ n, (ds.take n).length ≤ ds.length := fun n => (List.take_sublist _ _).length_le
    have tm : ∀ {n e}, e ∈ ds.take n → e ∈ ds := fun {n e} m => List.mem_of_mem_take m
    have dec : ∀ n : Nat, decide (V.int ((bn : Nat) : Int) = V.int ((n : Nat) : Int)) = decide (bn = n) := fun n => len_dec
    refine T3.if_intro (tst_in ⟨_, q4, rfl, _, rfl, ?_⟩)
    show (if decide (V.int ((bn : Nat) : Int) = V.int ((0 : Nat) : Int)) = true then _ else _)
    rw [dec]
    by_cases h0 : bn = 0
    · rw [decide_eq_true h0]
      have c1 := cl (an + 1) ds.length
      have c2 := tl an
      refine iteT (ret_intro (gv_cat (gv_take g1 p3) (gv_from g1 p31) (by omega) H2 _ (fun _ _ e => e) ins2 fun H' y s t => fin H' y _ s t (by rw [List.length_append]; omega) fun e m => ?_))
      rcases List.mem_append.mp m with m | m
      · exact .inl (tm m)
      · exact .inl (cm m)
    rw [decide_eq_false h0]
    refine iteF (nx_intro (ifS_intro (tst_in ⟨_, q4, rfl, _, rfl, ?_⟩)))
    show (if decide (V.int ((bn : Nat) : Int) = V.int ((1 : Nat) : Int)) = true then _ else _)
    rw [dec]
    by_cases h1 : bn = 1
    · rw [decide_eq_true h1]
      have c1 := cl an ds.length
      have c2 := tl an
      have c3 : (ds.take 1).length ≤ 1 := by rw [List.length_take]; omega
      refine iteT (ret_intro (gv_cat (gv_cat (gv_take g1 p3) (gv_take g1 p1) (by omega)) (gv_from g1 p3) (by rw [List.length_append]; omega) H2 _ (fun _ _ e => e) ins2 fun H' y s t => fin H' y _ s t (by rw [List.length_append, List.length_append]; omega) fun e m => ?_))
      rcases List.mem_append.mp m with m | m
      · rcases List.mem_append.mp m with m | m
        · exact .inl (tm m)
        · exact .inl (tm m)
      · exact .inl (cm m)
    rw [decide_eq_false h1]
    refine iteF (nx_intro (ifS_intro (tst_in ⟨_, q4, rfl, _, rfl, ?_⟩)))
    show (if decide (V.int ((bn : Nat) : Int) = V.int ((2 : Nat) : Int)) = true then _ else _)
    rw [dec]
    by_cases h2 : bn = 2
    · rw [decide_eq_true h2]
      have c1 := cl (an + 1) ds.length
      have c2 := tl an
      have c3 : (cutD ds an (an + 1)).length ≤ 1 := by
        unfold cutD
        rw [List.length_take]
        omega
      refine iteT (ret_intro (gv_cat (gv_cat (gv_take g1 p3) (gv_from g1 p31) (by omega)) (gv_both g1 p3 p31) (by rw [List.length_append]; omega) H2 _ (fun _ _ e => e) ins2 fun H' y s t => fin H' y _ s t (by rw [List.length_append, List.length_append]; omega) fun e m => ?_))
      rcases List.mem_append.mp m with m | m
      · rcases List.mem_append.mp m with m | m
        · exact .inl (tm m)
        · exact .inl (cm m)
      · exact .inl (cm m)
    rw [decide_eq_false h2]
    refine iteF (nx_intro (ifS_intro (tst_in ⟨_, q4, rfl, _, rfl, ?_⟩)))
    show (if decide (V.int ((bn : Nat) : Int) = V.int ((3 : Nat) : Int)) = true then _ else _)
    rw [dec]
    by_cases h3 : bn = 3
    · rw [decide_eq_true h3]
      have g6 : Gv S σ H2 (tLst (tCons (tC .non) (tCons (tC (.int 5)) (tCons (tC (.str "ab")) (tCons tDNewK (tCons (tC (.bl true)) (tCons (tC (.str "")) tNil))))))) (.list odd6) := gv_lst (gva_cons gv_non (gva_cons gv_int (gva_cons gv_str (gva_cons gv_dict (gva_cons gv_bl (gva_cons gv_str gva_nil)))))) (Nat.le_of_ble_eq_true rfl)
      exact iteT (ret_intro (pick_gv q0 g6 (fun _ _ e => e) ins2 m1 m2 sp2 (by decide) (by decide) (by omega) fun H' x z e3 sp3 hz tz => k H' x z _ (E2.trans e3) sp3 (by omega) tz (.inl hz)))
    rw [decide_eq_false h3]
    refine iteF (nx_intro (ret_intro ?_))
    have b4 : 4 ≤ bn := by omega
    have insE : ∀ {G G' : Hp}, Ins S G → ExtS l li G G' → Spr G' l li (c + 1 + 1 + 1) → Ins S G' := fun {G G'} i e sp b mb => by
      obtain ⟨o, ho⟩ := i b mb
      obtain ⟨_, _, _, ss, _⟩ := sp
      by_cases q1 : b = l
      · rw [q1]
        exact ⟨_, ss.l1⟩
      · by_cases q2 : b = li
        · rw [q2]
          exact ⟨_, ss.l2⟩
        · exact ⟨o, e _ _ ho q1 q2⟩
    refine T3.op_in (T3.op_in (gv_take g1 p3 H2 _ (fun _ _ e => e) ins2 fun H3 y1 s3 t3 => ?_))
    cases t3 with
    | @lst a1 z1 _ ha1 r1 =>
    have na1 := (hid_at ha1).1
    refine T69.lst_intro (cons_in (pick_gv q0 g2 s3 (ins2.same s3) m1 m2 (sp2.same s3) o0 (by omega) (by omega) fun H4 x z e4 sp4 hz tz => ?_))
    have ins4 := insE (ins2.same s3) e4 sp4
    have E4 : ExtS l li H2 H4 := (same_S s3).trans e4
    refine ⟨by rw [sizeLine_eq]; show 1 ≤ 16777216; decide, fun p np => ?_⟩
    have s5 := same_new (o := .lst [x]) np
    have ha4 : H4 a1 = some (.lst z1) := e4 _ _ (hid_up _ _ ha1) (fun z => na1 (z ▸ m1)) (fun z => na1 (z ▸ m2))
    have lz1 : z1.length ≤ ds.length := by
      rw [r1.length]
      exact tl an
    refine ⟨a1, p, z1, [x], rfl, rfl, s5 _ _ ha4, upd_same, by rw [sizeLine_eq]; show z1.length + 1 ≤ _; omega, fun r nr => ?_⟩
    have s6 := s5.trans (same_new (o := .lst (z1 ++ [x])) nr)
    have hr6 : upd (upd H4 p (.lst [x])) r (.lst (z1 ++ [x])) r = some (.lst (z1 ++ [x])) := upd_same
    generalize upd (upd H4 p (.lst [x])) r (.lst (z1 ++ [x])) = H6 at s6 hr6 ⊢
    have g4 : Gv S σ H4 (tVar 1) (.list ds) := gv_var q1 (tv2.ext (hidE E4))
    have pidx : PureI (tOp (rI0 fun i j => V.int (i - j)) (tOp (rI0 fun i j => V.int (i + j)) (tVar 3) (tVar 4)) (tC (.int 4))) σ (an + bn - 4) := fun H Q h => T3.op_in (T3.op_in ⟨_, q3, _, q4, _, _, rfl, rfl, _, _, rfl, rfl, by
      show Q (.int ((an : Int) + (bn : Int) - 4)) H
      have e : ((an : Int) + (bn : Int) - 4) = ((an + bn - 4 : Nat) : Int) := by omega
      rw [e]
      exact h⟩)
    refine gv_from g4 pidx H6 _ s6 (ins4.same s6) fun H7 y7 s7 t7 => ?_
    cases t7 with
    | @lst b7 z7 _ hb7 r7 =>
    have l7 : z7.length ≤ ds.length := by
      rw [r7.length]
      exact cl _ _
    refine ⟨r, b7, z1 ++ [x], z7, rfl, rfl, s7 _ _ hr6, hid_up _ _ hb7, by rw [List.length_append, sizeLine_eq]; show z1.length + 1 + _ ≤ _; omega, fun r2 nr2 => ?_⟩
    have s8 := same_new (o := .lst (z1 ++ [x] ++ z7)) nr2
    have S48 : L2.Same H4 (upd H7 r2 (.lst (z1 ++ [x] ++ z7))) := (s6.trans s7).trans s8
    have ins7 := (ins4.same s6).same s7
    refine k _ _ (.list (ds.take an ++ [z] ++ cutD ds (an + bn - 4) ds.length)) _ ((E2.trans E4).trans (same_S S48)) (sp4.same S48) (by omega) (.lst (hid_of (ins7.new nr2) upd_same fun ps z => nomatch z) ?_) (.inr ⟨_, rfl, ?_, fun e m => ?_⟩)
    · exact th_app (th_app (r1.ext (hidE (e4.trans (same_S S48)))) (.cons (tz.ext (hid_same S48)) .nil)) (r7.ext (hid_same s8))
    · have := tl an
      have := cl (an + bn - 4) ds.length
      rw [List.length_append, List.length_append]
      show (ds.take an).length + 1 + _ ≤ _
      omega
    · rcases List.mem_append.mp m with m | m
      · rcases List.mem_append.mp m with m | m
        · exact .inl (tm m)
        · rw [List.mem_singleton.mp m]
          exact .inr hz
      · exact .inl (cm m)
end
end K14.T5
namespace K14.T5
open T27 T3
open K14.Gn
open PySem PySem.W PySem.Calls PyProof.Rows L2 LamX NdefX
/-! ### items out of paired rows, the mathematics -/
theorem places_len (es : List Str) (W : List Nat) : (placesOf es W).length = es.length + W.sum := by
  unfold placesOf
  rw [List.length_append, List.length_map, List.length_range, List.length_flatMap]
  congr 1
  have : (List.range W.length).map (fun i => ((List.range (W.getD i 0)).map fun j => ((some i : Option Nat), j)).length) = W := by
    refine List.ext_getElem? fun k => ?_
    rw [List.getElem?_map]
    by_cases hk : k < W.length
    · rw [List.getElem?_range hk, List.getElem?_eq_getElem hk]
      show some (((List.range (W.getD k 0)).map fun j => ((some k : Option Nat), j)).length) = some _
      rw [List.length_map, List.length_range, getD_some (List.getElem?_eq_getElem hk)]
    · rw [List.getElem?_eq_none (by rw [List.length_range]; omega), List.getElem?_eq_none (Nat.le_of_not_lt hk)]
      rfl
  rw [this]
theorem fnt_two {ns : List Str} (h : ∀ s ∈ ns, ns.count s = 2) : fnt ns = none := by
  unfold fnt
  rw [List.find?_eq_none]
  intro s hs
  rw [h s hs]
  decide
theorem fnt_perm {ns ms : List Str} (p : ns.Perm ms) (h : ∀ s ∈ ms, ms.count s = 2) : fnt ns = none :=
  fnt_two fun s hs => by rw [p.count_eq]; exact h s (p.mem_iff.mp hs)
theorem fni_all {ah : Str → Option Nat} {ds : List PyData} (h : ∀ z ∈ ds, itemB ah z = true) (d : PyData) (l : isL d = true) (e : its d = ds) : fni ah d = none := by
  have g : ∀ (ds : List PyData) (j : Nat), (∀ z ∈ ds, itemB ah z = true) → fniL ah ds j = none := fun ds => by
    induction ds with
    | nil => exact fun _ _ => rfl
    | cons z r ih =>
      intro j h
      show (if itemB ah z = true then fniL ah r (j + 1) else some j) = none
      rw [if_pos (h z (List.mem_cons_self ..))]
      exact ih _ fun y hy => h y (List.mem_cons_of_mem _ hy)
  unfold fni
  rw [if_pos l, e]
  exact g ds 0 h
/-- the head of an item: a use of a part, or a sort of cell -/
inductive Hd5
  | use (n : Str)
  | cell (s : Str)
def Hd5.item : Hd5 → List Str → PyData
  | .use n, row => .tuple [.str "use", .str n, .list (row.map .str)]
  | .cell s, row => .tuple (.str s :: row.map .str)
/-- it fits what stands ahead, with that many wires -/
def Hd5.ok (ah : Str → Option Nat) : Hd5 → Nat → Prop
  | .use n, w => nameB (.str n) = true ∧ ah n = some w
  | .cell s, w => (s = "stop" ∧ w = 1) ∨ ((s = "x" ∨ s = "y") ∧ w = 3)
theorem nms_all {row : List Str} (h : ∀ s ∈ row, nameB (.str s) = true) : (row.map PyData.str).all nameB = true := List.all_eq_true.mpr fun z hz => by
  obtain ⟨s, hs, rfl⟩ := List.mem_map.mp hz
  exact h s hs
theorem strD_map (row : List Str) : (row.map PyData.str).map strD = row := by
  rw [List.map_map]
  exact (List.map_congr_left (g := id) fun _ _ => rfl).trans (List.map_id row)
theorem hd_item {ah : Str → Option Nat} {h : Hd5} {row : List Str} (o : h.ok ah row.length) (nm : ∀ s ∈ row, nameB (.str s) = true) : itemB ah (h.item row) = true ∧ wS (h.item row) = row := by
  have na := nms_all nm
  cases h with
  | use n =>
    obtain ⟨o1, o2⟩ := o
    refine ⟨?_, ?_⟩
    · rw [item_law]
      show (false || (true && itL ah [.str "use", .str n, .list (row.map .str)])) = true
      rw [Bool.false_or, Bool.true_and]
      show (if (decide (("use" : Str) = "use") && (nameB (.str n) && isL (.list (row.map PyData.str)))) = true then decide (ah n = some (row.map PyData.str).length) && (row.map PyData.str).all nameB else _) = true
      rw [o1, na, o2, List.length_map]
      simp [isL]
    · unfold wS wiresD
      show (if txtIn ["use"] (.str "use") = true then its (.list (row.map PyData.str)) else _ : List PyData).map strD = row
      rw [txt1]
      show (row.map PyData.str).map strD = row
      exact strD_map row
  | cell s =>
    have key : ∀ b : Bool, cellM (.str s :: row.map .str) = true → txtIn ["use"] (.str s) = false → itemB ah (.tuple (.str s :: row.map .str)) = true ∧ wS (.tuple (.str s :: row.map .str)) = row := fun _ c1 c2 => by
      refine ⟨?_, ?_⟩
      · rw [item_law]
        have : cellB (.tuple (.str s :: row.map .str)) = true := by
          show (true && cellM (.str s :: row.map .str)) = true
          rw [c1]
          rfl
        rw [this]
        rfl
      · unfold wS wiresD
        show (if txtIn ["use"] (.str s) = true then _ else row.map PyData.str : List PyData).map strD = row
        rw [c2]
        exact strD_map row
    rcases o with ⟨rfl, l⟩ | ⟨hs, l⟩
    · match row, l, na with
      | [a], _, na =>
        refine key true ?_ (by rw [txt1]; rfl)
        show (txtIn ["stop"] (.str "stop") && nameB (.str a)) = true
        rw [txt1]
        simpa using na
    · match row, l, na with
      | [a, b, d], _, na =>
        refine key true ?_ (by rw [txt1]; rcases hs with rfl | rfl <;> rfl)
        show (txtIn ["x", "y"] (.str s) && [PyData.str a, .str b, .str d].all nameB) = true
        have : txtIn ["x", "y"] (.str s) = true := by rcases hs with rfl | rfl <;> rfl
        rw [this]
        exact na
def jI (p : Str × Str) : PyData := .tuple [.str "join", .str p.1, .str p.2]
def loopI : PyData := .tuple [.str "loop"]
theorem join_item {ah : Str → Option Nat} {p : Str × Str} (h1 : nameB (.str p.1) = true) (h2 : nameB (.str p.2) = true) : itemB ah (jI p) = true ∧ wS (jI p) = [p.1, p.2] := by
  refine ⟨?_, ?_⟩
  · rw [item_law]
    have e1 : decide (("join" : Str) = "use") = false := by decide +kernel
    have ei : itL ah [.str "join", .str p.1, .str p.2] = [PyData.str p.1, .str p.2].all nameB := by
      show (if (decide (("join" : Str) = "use") && (nameB (.str p.1) && isL (.str p.2))) = true then decide (ah (strD (.str p.1)) = some (its (.str p.2)).length) && (its (.str p.2)).all nameB else if decide (("join" : Str) = "join") = true then [PyData.str p.1, .str p.2].all nameB else false) = _
      rw [e1, Bool.false_and, if_neg Bool.false_ne_true, decide_eq_true rfl, if_pos rfl]
    show (false || (true && itL ah [.str "join", .str p.1, .str p.2])) = true
    rw [ei]
    show (false || (true && (nameB (.str p.1) && (nameB (.str p.2) && true)))) = true
    rw [h1, h2]
    rfl
  · unfold wS wiresD
    show (if txtIn ["use"] (.str "join") = true then _ else [PyData.str p.1, .str p.2] : List PyData).map strD = [p.1, p.2]
    have e1 : txtIn ["use"] (.str "join") = false := by decide +kernel
    rw [e1]
    rfl
theorem loop_item {ah : Str → Option Nat} : itemB ah loopI = true ∧ wS loopI = [] := ⟨rfl, rfl⟩
/-- the items as they are put together -/
def itemsOf (hs : List Hd5) (rows : List (List Str)) (jp : List (Str × Str)) (lp : Bool) : List PyData := (jp.map jI ++ (if lp = true then [loopI] else [])) ++ (hs.zip rows).map fun p => p.1.item p.2
theorem mem_zip_at {hs : List Hd5} {rows : List (List Str)} {p : Hd5 × List Str} (h : p ∈ hs.zip rows) : ∃ i : Nat, hs[i]? = some p.1 ∧ rows[i]? = some p.2 := by
  obtain ⟨i, hi⟩ := List.getElem?_of_mem h
  rw [List.getElem?_zip_eq_some] at hi
  exact ⟨i, hi.1, hi.2⟩
theorem items_right {ah : Str → Option Nat} {es : List Str} {W : List Nat} {hs : List Hd5} {rows : List (List Str)} {jp : List (Str × Str)} {lp : Bool} {ds : List PyData} (nd : es.Nodup) (hm : ∀ s ∈ es, s ∈ endNames) (P : PairedOk es W rows jp) (lh : hs.length = W.length) (ok : ∀ (i : Nat) (h : Hd5) (w : Nat), hs[i]? = some h → W[i]? = some w → h.ok ah w) (pm : ds.Perm (itemsOf hs rows jp lp)) :
    itemsF ah (.list (es.map .str)) (.list ds) = none ∧ (∀ z ∈ ds, itemB ah z = true) := by
  have lr : rows.length = W.length := by rw [← P.wid, List.length_map]
  have nmr : ∀ row ∈ rows, ∀ s ∈ row, nameB (.str s) = true := fun row hr s hs => P.nm s (List.mem_append_right _ (List.mem_append_left _ (List.mem_flatten.mpr ⟨row, hr, hs⟩)))
  have nmj : ∀ p ∈ jp, nameB (.str p.1) = true ∧ nameB (.str p.2) = true := fun p hp => by
    have g : ∀ s ∈ [p.1, p.2], nameB (.str s) = true := fun s hs => P.nm s (List.mem_append_right _ (List.mem_append_right _ (List.mem_flatMap.mpr ⟨p, hp, hs⟩)))
    exact ⟨g _ (by simp), g _ (by simp)⟩
  have hz : ∀ p ∈ hs.zip rows, itemB ah (p.1.item p.2) = true ∧ wS (p.1.item p.2) = p.2 := fun p hp => by
    obtain ⟨i, h1, h2⟩ := mem_zip_at hp
    have hw : W[i]? = some p.2.length := by
      rw [← P.wid, List.getElem?_map, h2]
      rfl
    exact hd_item (ok i _ _ h1 hw) (nmr _ (List.mem_of_getElem? h2))
  have right : ∀ z ∈ itemsOf hs rows jp lp, itemB ah z = true := fun z hzm => by
    rcases List.mem_append.mp hzm with h | h
    · rcases List.mem_append.mp h with h | h
      · obtain ⟨p, hp, rfl⟩ := List.mem_map.mp h
        exact (join_item (nmj p hp).1 (nmj p hp).2).1
      · split at h
        · rw [List.mem_singleton.mp h]
          exact loop_item.1
        · cases h
    · obtain ⟨p, hp, rfl⟩ := List.mem_map.mp h
      exact (hz p hp).1
  have wires : (itemsOf hs rows jp lp).flatMap wS = jFlat jp ++ rows.flatten := by
    unfold itemsOf
    rw [List.flatMap_append, List.flatMap_append]
    have e1 : (jp.map jI).flatMap wS = jFlat jp := by
      rw [List.flatMap_map]
      unfold jFlat
      have : ∀ (l : List (Str × Str)), (∀ p ∈ l, p ∈ jp) → l.flatMap (fun a => wS (jI a)) = l.flatMap fun p => [p.1, p.2] := fun l => by
        induction l with
        | nil => exact fun _ => rfl
        | cons a r ih =>
          intro h
          rw [List.flatMap_cons, List.flatMap_cons, ih fun p hp => h p (List.mem_cons_of_mem _ hp), (join_item (ah := ah) (nmj a (h a (List.mem_cons_self ..))).1 (nmj a (h a (List.mem_cons_self ..))).2).2]
      exact this jp fun _ h => h
    have e2 : (if lp = true then [loopI] else []).flatMap wS = [] := by
      split <;> rfl
    have e3 : ((hs.zip rows).map fun p => p.1.item p.2).flatMap wS = rows.flatten := by
      rw [List.flatMap_map]
      have g : ∀ (l : List (Hd5 × List Str)), (∀ p ∈ l, p ∈ hs.zip rows) → l.flatMap (fun a => wS (a.1.item a.2)) = (l.map (·.2)).flatten := fun l => by
        induction l with
        | nil => exact fun _ => rfl
        | cons a r ih =>
          intro h
          rw [List.flatMap_cons, ih fun p hp => h p (List.mem_cons_of_mem _ hp), (hz a (h a (List.mem_cons_self ..))).2, List.map_cons, List.flatten_cons]
      rw [g _ fun _ h => h, List.map_snd_zip (by omega)]
    rw [e1, e2, e3, List.append_nil]
  have all : ∀ z ∈ ds, itemB ah z = true := fun z hz => right z (pm.mem_iff.mp hz)
  refine ⟨?_, all⟩
  unfold itemsF
  have f1 : fne (.list (es.map .str)) = none := fne_names nd hm fun _ _ m => nomatch m
  rw [f1, fni_all all (.list ds) rfl rfl]
  have f2 : fnt (wiresAll (.list (es.map .str)) (.list ds)) = none := by
    refine fnt_perm (ms := es ++ (rows.flatten ++ jFlat jp)) ?_ P.two
    unfold wiresAll
    show ((es.map PyData.str).map strD ++ ds.flatMap wS).Perm _
    rw [strD_map]
    refine List.Perm.append_left _ ?_
    have q : (ds.flatMap wS).Perm ((itemsOf hs rows jp lp).flatMap wS) := pm.flatMap_right _
    rw [wires] at q
    exact q.trans List.perm_append_comm
  show (fnt _).map PF.wire = none
  rw [f2]
  rfl
end K14.T5
namespace K14.T5
open T27 T3
open K14.Gn
open PySem PySem.W PySem.Calls PyProof.Rows L2 LamX NdefX
open He (ga)
open Kz (SS ExtS ExtS.trans small4 same_new boot_in boot_li boot_isi Has pe_has noE PSs.of_eq seqI new_ext X1 shaped_int dpAll_int)
/-! ### _law_items: its readings -/
abbrev sIt : Stmt := topS 43
abbrev NIt : List Str := ["stream", "ends", "known", "most", "heads", "widths", "k", "name", "wide", "rows", "joins", "one", "other", "found", "head", "row"]
theorem scIt : FnScope NIt ["stream", "ends", "known", "most"] (defScope sIt) := ⟨rfl, rfl, rfl, by decide +kernel, rfl, by decide +kernel, by decide +kernel⟩
theorem bdIt : defBody sIt = [stOf sIt 0, stOf sIt 1, stOf sIt 2, stOf sIt 3, stOf sIt 4, stOf sIt 5, stOf sIt 6] := by rfl
def fbI : Stmt := (forBody (stOf sIt 1)).getD 0 (.Pass ⟨0, 0, 0, 0⟩)
theorem bdItA : forBody (stOf sIt 1) = [fbI] := by rfl
def elI (s : Stmt) (i : Nat) : Stmt := match s with
  | .If _ _ b _ => b.getD i (.Pass ⟨0, 0, 0, 0⟩)
  | _ => .Pass ⟨0, 0, 0, 0⟩
def fbJ : Stmt := (forBody (stOf sIt 5)).getD 0 (.Pass ⟨0, 0, 0, 0⟩)
theorem bdItB : forBody (stOf sIt 5) = [fbJ] := by rfl
section
variable {P : Program} {w : World} {K : Frag} {mg : Str → Option Value} {base : Heap}
abbrev XIt (P : Program) (w : World) (K : Frag) (mg : Str → Option Value) (base : Heap) (f : Addr) (cdv : Value) (A : Around) (outer : List Env) (s : Shared) (H : Hp) (XE : XK) : Cx := XC P w K mg base NIt "_law_items" sIt f cdv A outer s H XE
def itSc : Scope := match stOf sIt 4 with
  | .Assign _ (.BinOp _ _ _ _) _ => (match stOf sIt 4 with
    | .Assign _ (.BinOp (.ListComp _ _ sc _) _ _ _) _ => sc
    | _ => default)
  | _ => default
end
end K14.T5
namespace K14.T5
open T27 T3
open K14.Gn
open PySem PySem.W PySem.Calls PyProof.Rows L2 LamX NdefX
/-! ### what is drawn is small, mathematics -/
theorem nm_sg {s : Str} (h : nameB (.str s) = true) : gdS s = true ∧ s.length ≤ 8 := by
  obtain ⟨hb, _⟩ := Bool.and_eq_true_iff.mp (show (bnB s && !keptB s) = true from h)
  have hc := nm_cps h
  have hl : s.length ≤ 8 := by
    unfold bnB at hb
    split at hb
    · cases hb
    · exact of_decide_eq_true (Bool.and_eq_true_iff.mp hb).1
  refine ⟨?_, hl⟩
  have hc : s.cps.all (· < 0x110000) = true := hc
  show (s.cps.toList.all (fun c => decide (c < 16 ^ 8)) && (s.cps.all (· < 0x110000) && decide (s.cps.size ≤ 10))) = true
  have hl' : s.cps.size ≤ 8 := hl
  rw [hc, decide_eq_true (by omega : s.cps.size ≤ 10), Bool.and_true, Bool.and_true]
  rw [← Array.all_toList] at hc
  refine List.all_eq_true.mpr fun x hx => decide_eq_true ?_
  have := of_decide_eq_true (List.all_eq_true.mp hc x hx)
  have e : (16 : Nat) ^ 8 = 4294967296 := by decide
  omega
/-- a thing of an item's size -/
def gI (z : PyData) : Bool := ((okIt z && shS z) && (gd true z && fitX 2 z)) && (decide (PyData.weight z ≤ 100) && decide (PyData.depth z ≤ 3))
theorem gI_at {z : PyData} (h : gI z = true) : (okIt z = true ∧ shS z = true) ∧ (gd true z = true ∧ fitX 2 z = true) ∧ PyData.weight z ≤ 100 ∧ PyData.depth z ≤ 3 := by
  obtain ⟨a, b⟩ := Bool.and_eq_true_iff.mp h
  obtain ⟨a1, a2⟩ := Bool.and_eq_true_iff.mp a
  obtain ⟨b1, b2⟩ := Bool.and_eq_true_iff.mp b
  exact ⟨Bool.and_eq_true_iff.mp a1, Bool.and_eq_true_iff.mp a2, of_decide_eq_true b1, of_decide_eq_true b2⟩
theorem gI_of {z : PyData} (a : okIt z = true) (sh : shS z = true) (b : gd true z = true) (fx : fitX 2 z = true) (c : PyData.weight z ≤ 100) (d : PyData.depth z ≤ 3) : gI z = true := by
  unfold gI
  rw [a, sh, b, fx, decide_eq_true c, decide_eq_true d]
  rfl
/-- names in a row -/
theorem nm_row : ∀ {ns : List Str}, (∀ s ∈ ns, nameB (.str s) = true) → PyData.weightAll (ns.map PyData.str) ≤ 9 * ns.length ∧ (∀ e, gdA e (ns.map PyData.str) = true) ∧ PyData.depthAll (ns.map PyData.str) = 0 ∧ (ns.map PyData.str).all shS = true
  | [], _ => ⟨Nat.zero_le _, fun _ => rfl, rfl, rfl⟩
  | s :: r, h => by
    obtain ⟨a, b, c, d⟩ := nm_row fun x hx => h x (List.mem_cons_of_mem _ hx)
    obtain ⟨g, l⟩ := nm_sg (h s (List.mem_cons_self ..))
    have l' : s.cps.size ≤ 8 := l
    refine ⟨?_, fun e => ?_, ?_, ?_⟩
    · show s.cps.size + 1 + PyData.weightAll (r.map PyData.str) ≤ _
      rw [List.length_cons]
      omega
    · show (gdS s && gdA e (r.map PyData.str)) = true
      rw [g, b e]
      rfl
    · show max 0 (PyData.depthAll (r.map PyData.str)) = 0
      rw [c]
      rfl
    · show (decide (s.length ≤ 1000) && (r.map PyData.str).all shS) = true
      rw [d, decide_eq_true (by omega)]
      rfl
theorem okIt_strs {z : PyData} {ns : List Str} (e : its z = ns.map PyData.str) (l : ns.length ≤ 1000) (h : (ns.map PyData.str).all shS = true) : okIt z = true := by
  unfold okIt
  rw [e, List.length_map, decide_eq_true l, Bool.true_and]
  refine List.all_eq_true.mpr fun y hy => ?_
  have hs := List.all_eq_true.mp h y hy
  obtain ⟨s, _, rfl⟩ := List.mem_map.mp hy
  rw [hs]
  rfl
/-- a word, and names -/
theorem gI_word {w : Str} {ns : List Str} {z : PyData} (hz : z = .tuple (.str w :: ns.map PyData.str)) (g : gdS w = true) (l : w.length ≤ 8) (h : ∀ s ∈ ns, nameB (.str s) = true) (ln : ns.length ≤ 4) : gI z = true ∧ gd false z = true := by
  obtain ⟨a, b, c, d⟩ := nm_row h
  have l' : w.cps.size ≤ 8 := l
  subst hz
  refine ⟨?_, by show (gdS w && gdA false (ns.map PyData.str)) = true; rw [g, b false]; rfl⟩
  have b := b true
  refine gI_of (okIt_strs (ns := w :: ns) rfl (by rw [List.length_cons]; omega) ?_) rfl ?_ ?_ ?_ ?_
  · show (decide (w.length ≤ 1000) && (ns.map PyData.str).all shS) = true
    rw [d, decide_eq_true (by omega)]
    rfl
  · show (gdS w && gdA true (ns.map PyData.str)) = true
    rw [g, b]
    rfl
  · show (decide ((ns.map PyData.str).length + 1 ≤ 1000) && (true && (ns.map PyData.str).all (fitX 1))) = true
    rw [fit_strs 1 ns, List.length_map, decide_eq_true (by omega)]
    rfl
  · show w.cps.size + 1 + PyData.weightAll (ns.map PyData.str) ≤ 100
    omega
  · show max 0 (PyData.depthAll (ns.map PyData.str)) + 1 ≤ 3
    rw [c]
    decide
theorem gI_use {n : Str} {row : List Str} (hn : nameB (.str n) = true) (h : ∀ s ∈ row, nameB (.str s) = true) (l : row.length ≤ 4) : gI ((Hd5.use n).item row) = true ∧ gd false ((Hd5.use n).item row) = true := by
  obtain ⟨a, b, c, d⟩ := nm_row h
  obtain ⟨g, ln⟩ := nm_sg hn
  have ln' : n.cps.size ≤ 8 := ln
  refine ⟨?_, by show (gdS "use" && (gdS n && (gdA false (row.map PyData.str) && true))) = true; rw [g, b false]; decide +kernel⟩
  have b := b true
  refine gI_of ?_ rfl ?_ ?_ ?_ ?_
  · show (decide (3 ≤ 1000) && ((!isD (.str "use") && (shS (.str "use") && okNs (.str "use"))) && ((!isD (.str n) && (shS (.str n) && okNs (.str n))) && ((!isD (.list (row.map PyData.str)) && (shS (.list (row.map PyData.str)) && okNs (.list (row.map PyData.str)))) && true)))) = true
    have e1 : shS (.str n) = true := decide_eq_true (by omega)
    have e2 : okNs (.list (row.map PyData.str)) = true := by
      unfold okNs
      show (decide ((row.map PyData.str).length ≤ 1000) && (row.map PyData.str).all shS) = true
      rw [d, List.length_map, decide_eq_true (by omega)]
      rfl
    rw [e1, e2]
    rfl
  · show (gdS "use" && (gdS n && (gdA true (row.map PyData.str) && true))) = true
    rw [g, b]
    decide +kernel
  · show (decide (3 ≤ 1000) && (true && (true && ((decide ((row.map PyData.str).length ≤ 1000) && (row.map PyData.str).all (fitX 0)) && true)))) = true
    rw [fit_strs 0 row, List.length_map, decide_eq_true (by omega : row.length ≤ 1000)]
    rfl
  · show ("use" : Str).cps.size + 1 + (n.cps.size + 1 + (PyData.weightAll (row.map PyData.str) + 1 + 0)) ≤ 100
    have : ("use" : Str).cps.size = 3 := by decide +kernel
    omega
  · show max 0 (max 0 (max (PyData.depthAll (row.map PyData.str) + 1) 0)) + 1 ≤ 3
    rw [c]
    decide
theorem gI_items {ah : Str → Option Nat} {es : List Str} {W : List Nat} {hs : List Hd5} {rows : List (List Str)} {jp : List (Str × Str)} {lp : Bool} (P : PairedOk es W rows jp) (le : ∀ n ∈ W, n ≤ 3) (lh : hs.length = W.length) (ok : ∀ (i : Nat) (h : Hd5) (w : Nat), hs[i]? = some h → W[i]? = some w → h.ok ah w) : ∀ z ∈ itemsOf hs rows jp lp, gI z = true ∧ gd false z = true := by
  have nmr : ∀ row ∈ rows, ∀ s ∈ row, nameB (.str s) = true := fun row hr s hs => P.nm s (List.mem_append_right _ (List.mem_append_left _ (List.mem_flatten.mpr ⟨row, hr, hs⟩)))
  have nmj : ∀ p ∈ jp, nameB (.str p.1) = true ∧ nameB (.str p.2) = true := fun p hp => by
    have g : ∀ s ∈ [p.1, p.2], nameB (.str s) = true := fun s hs => P.nm s (List.mem_append_right _ (List.mem_append_right _ (List.mem_flatMap.mpr ⟨p, hp, hs⟩)))
    exact ⟨g _ (by simp), g _ (by simp)⟩
  intro z hz
  rcases List.mem_append.mp hz with h | h
  · rcases List.mem_append.mp h with h | h
    · obtain ⟨p, hp, rfl⟩ := List.mem_map.mp h
      refine gI_word (w := "join") (ns := [p.1, p.2]) rfl (by decide +kernel) (by decide +kernel) (fun s hs => ?_) (by show 2 ≤ 4; decide)
      rcases List.mem_cons.mp hs with rfl | hs
      · exact (nmj p hp).1
      · rw [List.mem_singleton.mp hs]
        exact (nmj p hp).2
    · split at h
      · rw [List.mem_singleton.mp h]
        decide +kernel
      · cases h
  · obtain ⟨p, hp, rfl⟩ := List.mem_map.mp h
    obtain ⟨i, h1, h2⟩ := mem_zip_at hp
    have hw : W[i]? = some p.2.length := by
      rw [← P.wid, List.getElem?_map, h2]
      rfl
    have o := ok i _ _ h1 hw
    have l3 := le _ (List.mem_of_getElem? hw)
    have nm := nmr _ (List.mem_of_getElem? h2)
    generalize p.1 = hd at o
    cases hd with
    | use n => exact gI_use o.1 nm (by omega)
    | cell s =>
      have hs : s = "stop" ∨ s = "x" ∨ s = "y" := o.elim (fun h => .inl h.1) fun h => .inr h.1
      refine gI_word (w := s) rfl ?_ ?_ nm (by omega)
      · rcases hs with rfl | rfl | rfl <;> decide +kernel
      · rcases hs with rfl | rfl | rfl <;> decide +kernel
end K14.T5
namespace K14.T5
open T27 T3
open K14.Gn
open PySem PySem.W PySem.Calls PyProof.Rows L2 LamX NdefX
open He (ga)
open Kz (SS ExtS ExtS.trans small4 same_new boot_in boot_li boot_isi Has pe_has noE PSs.of_eq seqI new_ext X1 shaped_int dpAll_int)
/-! ### _law_items, its run -/
/-- a head as it is held -/
def Hd5.pr : Hd5 → Str × Str
  | .use n => ("use", n)
  | .cell s => (s, "")
def hdD (h : Hd5) : PyData := .tuple [.str h.pr.1, .str h.pr.2]
def kD (p : Str × Nat) : PyData := .tuple [.str p.1, .int (p.2 : Nat)]
theorem kD_th {S : List Addr} {G : Hp} {x : V} {p : Str × Nat} (h : Th (Hid S G) x (kD p)) : ∃ a, x = .ref a ∧ a ∉ S ∧ G a = some (.tup [.str p.1, .int (p.2 : Nat)]) := by
  cases h with
  | tup h r =>
    cases r with
    | cons t r =>
      cases t
      cases r with
      | cons t r =>
        cases t
        cases r
        obtain ⟨h1, h2, _⟩ := hid_at h
        exact ⟨_, rfl, h1, h2⟩
theorem hdD_th {S : List Addr} {G : Hp} {x : V} {p : Hd5} (h : Th (Hid S G) x (hdD p)) : ∃ a, x = .ref a ∧ a ∉ S ∧ G a = some (.tup [.str p.pr.1, .str p.pr.2]) := by
  cases h with
  | tup h r =>
    cases r with
    | cons t r =>
      cases t
      cases r with
      | cons t r =>
        cases t
        cases r
        obtain ⟨h1, h2, _⟩ := hid_at h
        exact ⟨_, rfl, h1, h2⟩
theorem kn_gd : ∀ {kn : List (Str × Nat)}, (∀ p ∈ kn, nameB (.str p.1) = true ∧ p.2 ≤ 3) → gdA false (kn.map kD) = true ∧ PyData.depthAll (kn.map kD) ≤ 1
  | [], _ => ⟨rfl, Nat.zero_le _⟩
  | p :: r, h => by
    obtain ⟨a, b⟩ := kn_gd (kn := r) fun x m => h x (List.mem_cons_of_mem _ m)
    obtain ⟨h1, h2⟩ := h p (List.mem_cons_self ..)
    refine ⟨?_, ?_⟩
    · show ((gdS p.1 && (((decide (0 ≤ ((p.2 : Nat) : Int))) && decide (((p.2 : Nat) : Int) ≤ 9)) && true)) && gdA false (r.map kD)) = true
      rw [(nm_sg h1).1, a, decide_eq_true (by omega), decide_eq_true (by omega)]
      rfl
    · show max (max 0 (max 0 0) + 1) (PyData.depthAll (r.map kD)) ≤ 1
      omega
/-- a comprehension over a list that lies there, data made of each -/
theorem lc_lsS {K : Frag} {g : TG} {a : Addr} {xs : List V} {σ : L2.St} {H : Hp} {tl te : TE} {vs : List Nat} {Q : VK} (S : List Addr) (ins : Ins S H) (f : Nat → PyData) (ht : ∀ R : VK, R (.ref a) H → tl σ H R) (ha : H a = some (.lst xs)) (len : xs.length ≤ 100000)
    (hs : ∀ (D : Addr) (i : Nat) (x : V) (G : Hp) (Q' : VK) (W : L2.St → Hp → Prop), (∀ σ2 H2, wipe σ2 vs = wipe σ vs → te σ2 H2 Q' → W σ2 H2) → xs[i]? = some x → L2.Same H G → Ins (D :: S) G → (∀ (G' : Hp) (y : V), L2.Same G G' → Th (Hid (D :: S) G') y (f i) → Q' y G') → g x (wipe σ vs) G W)
    (hq : ∀ (G : Hp) (D : Addr) (ys : List V), L2.Same H G → H D = none → G D = some (.lst ys) → ThAll (Hid (D :: S) G) ys ((List.range xs.length).map f) → Q (.ref D) G) : tLc (iList K tl) g tYes te vs σ H Q := by
  refine ht _ ⟨a, rfl, ⟨_, .inl (.inl ha)⟩, fun D hD => lc_acc (S := S) (walk_list (K := K) (a := a) (xs := xs)) ins hD len (fun H' e => .inl (.inl (e _ _ ha))) (fun i ys G => ThAll G ys ((List.range i).map f)) (fun i ys G G' e s => e.ext s) .nil (fun i v G1 G2 ys Qy Qn hi s1 insG a y ky kn => ?_) (fun G ys s1 hA a => hq G D ys s1 hD hA a)⟩
  obtain ⟨rfl, hc⟩ := y
  refine hs D i v _ Qy _ (fun σ2 H2 e1 e2 => ⟨e1, by unfold tYes; show (if true = true then _ else _); rw [if_pos rfl]; exact e2⟩) hc s1 insG fun G' y' s' t' => ky _ _ s' ?_
  rw [List.range_succ, List.map_append]
  exact K14.Gn.ThAll.app (a.ext (hid_same s')) (.cons t' .nil)
theorem jD_th {S : List Addr} {G : Hp} {x : V} {p : Str × Str} (h : Th (Hid S G) x (jD p)) : ∃ a, x = .ref a ∧ a ∉ S ∧ G a = some (.tup [.str p.1, .str p.2]) := by
  cases h with
  | tup h r =>
    cases r with
    | cons t r =>
      cases t
      cases r with
      | cons t r =>
        cases t
        cases r
        obtain ⟨h1, h2, _⟩ := hid_at h
        exact ⟨_, rfl, h1, h2⟩
theorem range_map {α β : Type} (f : α → β) (z : α) (l : List α) : (List.range l.length).map (fun i => f (l.getD i z)) = l.map f := by
  refine List.ext_getElem? fun k => ?_
  rw [List.getElem?_map, List.getElem?_map]
  by_cases hk : k < l.length
  · rw [List.getElem?_range hk, List.getElem?_eq_getElem hk]
    show some (f (l.getD k z)) = some (f l[k])
    rw [List.getD_eq_getElem?_getD, List.getElem?_eq_getElem hk]
    rfl
  · rw [List.getElem?_eq_none (by rw [List.length_range]; omega), List.getElem?_eq_none (Nat.le_of_not_lt hk)]
    rfl
theorem sum_le3 : ∀ {W : List Nat}, (∀ n ∈ W, n ≤ 3) → W.sum ≤ 3 * W.length
  | [], _ => Nat.zero_le _
  | n :: r, h => by
    have h1 := h n (List.mem_cons_self ..)
    have h2 := sum_le3 (W := r) fun x m => h x (List.mem_cons_of_mem _ m)
    rw [List.sum_cons, List.length_cons]
    omega
section
variable {P : Program} {w : World} {K : Frag} {mg : Str → Option Value} {base : Heap}
/-- the heads and their widths so far -/
structure HdsOk (ah : Str → Option Nat) (hs : List Hd5) (W : List Nat) : Prop where
  len : hs.length = W.length
  ok : ∀ (i : Nat) (h : Hd5) (w : Nat), hs[i]? = some h → W[i]? = some w → h.ok ah w
  le : ∀ n ∈ W, n ≤ 3
theorem HdsOk.nil {ah : Str → Option Nat} : HdsOk ah [] [] := ⟨rfl, fun _ _ _ h => (nomatch h), fun _ m => nomatch m⟩
theorem HdsOk.snoc {ah : Str → Option Nat} {hs : List Hd5} {W : List Nat} {h : Hd5} {w : Nat} (I : HdsOk ah hs W) (o : h.ok ah w) (l : w ≤ 3) : HdsOk ah (hs ++ [h]) (W ++ [w]) := by
  refine ⟨by rw [List.length_append, List.length_append, I.len]; rfl, fun i x y h1 h2 => ?_, fun n m => ?_⟩
  · by_cases q : i < hs.length
    · rw [List.getElem?_append_left q] at h1
      rw [List.getElem?_append_left (by rw [← I.len]; exact q)] at h2
      exact I.ok i x y h1 h2
    · rw [List.getElem?_append_right (Nat.le_of_not_lt q)] at h1
      rw [List.getElem?_append_right (by rw [← I.len]; exact Nat.le_of_not_lt q), ← I.len] at h2
      cases e : i - hs.length with
      | zero =>
        rw [e] at h1 h2
        cases h1
        cases h2
        exact o
      | succ k =>
        rw [e] at h1
        cases h1
  · rcases List.mem_append.mp m with m | m
    · exact I.le n m
    · rw [List.mem_singleton.mp m]
      exact l
def spIts : Sp := fun vs H Q _ => ∃ (S : List Addr) (l li ea ka : Addr) (c : Int) (es : List Str) (ks : List V) (kn : List (Str × Nat)) (most : Nat) (ah : Str → Option Nat), vs = [.ref l, .ref ea, .ref ka, .int (most : Nat)] ∧ l ∈ S ∧ li ∈ S ∧ Ins S H ∧ Spr H l li c ∧ ea ≠ l ∧ ea ≠ li ∧ ka ≠ l ∧ ka ≠ li ∧ H ea = some (.lst (es.map V.str)) ∧ H ka = some (.lst ks) ∧ ThAll (Hid S H) ks (kn.map kD) ∧
  es.Nodup ∧ (∀ s ∈ es, s ∈ endNames) ∧ es.length ≤ 3 ∧ 0 < most ∧ most ≤ 4 ∧ (∀ p ∈ kn, nameB (.str p.1) = true ∧ p.2 ≤ 3) ∧ (∀ p ∈ kn, ah p.1 = some p.2) ∧ kn.length ≤ 8 ∧ c < 500000000 ∧
  ∀ (H' : Hp) (r : Addr) (xs : List V) (ds : List PyData) (c' : Int), ExtS l li H H' → Spr H' l li c' → c' ≤ c + 3000 → H' r = some (.lst xs) → H r = none → r ≠ l → r ≠ li → ThAll (Hid S H') xs ds → ds.length ≤ 32 → (∀ z ∈ ds, gI z = true ∧ gd false z = true) → itemsF ah (.list (es.map .str)) (.list ds) = none → Q (.ref r) H'
theorem if_two {tc : TT} {A B : TS} {D : Ends} {σ : L2.St} {H : Hp} (P : Hp → Prop) (hB : ∀ G, P G → B D σ G) (h : (∀ G, P G → B D σ G) → tc σ H fun c G => if c = true then A D σ G else B D σ G) : tIfS tc A B D σ H := h hB
theorem seq_two {t u : TS} {D : Ends} {σ : L2.St} {H : Hp} (P : L2.St → Hp → Prop) (hB : ∀ σ G, P σ G → u D σ G) (h : (∀ σ G, P σ G → u D σ G) → tSeq t u D σ H) : tSeq t u D σ H := h hB
theorem sum_cast : ∀ W : List Nat, (W.map fun n => ((n : Nat) : Int)).sum = ((W.sum : Nat) : Int)
  | [] => rfl
  | n :: r => by
    rw [List.map_cons, List.sum_cons, sum_cast r, List.sum_cons]
    push_cast
    rfl
theorem dec_str {a b : Str} : decide (V.str a = V.str b) = decide (a = b) := by
  rw [Bool.eq_iff_iff, decide_eq_true_eq, decide_eq_true_eq]
  exact ⟨fun h => V.str.inj h, fun h => by rw [h]⟩
/-- where the heads and the widths lie -/
structure PlI (S : List Addr) (l li hd wd : Addr) (H : Hp) : Prop where
  ml : l ∈ S
  mli : li ∈ S
  ins : Ins S H
  nh : H hd = none
  nw : H wd = none
  ne : hd ≠ wd
  hl : hd ≠ l ∧ hd ≠ li
  wl : wd ≠ l ∧ wd ≠ li
structure StI (S : List Addr) (l li hd wd : Addr) (H : Hp) (c : Int) (hv : List V) (hs : List Hd5) (W : List Nat) (G : Hp) : Prop where
  E : ExtS l li H G
  sp : Spr G l li c
  h : G hd = some (.lst hv)
  t : ThAll (Hid (hd :: wd :: S) G) hv (hs.map hdD)
  w : G wd = some (.lst (W.map fun n => V.int (n : Nat)))
section
variable {S : List Addr} {l li hd wd : Addr} {H G G' : Hp} {c c' : Int} {hv : List V} {hs : List Hd5} {W : List Nat}
theorem PlI.m1 (p : PlI S l li hd wd H) : l ∈ hd :: wd :: S := List.mem_cons_of_mem _ (List.mem_cons_of_mem _ p.ml)
theorem PlI.m2 (p : PlI S l li hd wd H) : li ∈ hd :: wd :: S := List.mem_cons_of_mem _ (List.mem_cons_of_mem _ p.mli)
theorem StI.ext (B : StI S l li hd wd H c hv hs W G) (p : PlI S l li hd wd H) (e : ExtS l li G G') (s : Spr G' l li c') : StI S l li hd wd H c' hv hs W G' :=
  ⟨B.E.trans e, s, e _ _ B.h p.hl.1 p.hl.2, B.t.ext (hid_S p.m1 p.m2 e), e _ _ B.w p.wl.1 p.wl.2⟩
theorem StI.same (B : StI S l li hd wd H c hv hs W G) (p : PlI S l li hd wd H) (e : L2.Same G G') : StI S l li hd wd H c hv hs W G' := B.ext p (same_S e) (B.sp.same e)
theorem StI.ins (B : StI S l li hd wd H c hv hs W G) (p : PlI S l li hd wd H) : Ins (hd :: wd :: S) G := ((ins_S p.ins B.E B.sp).cons B.w).cons B.h
theorem StI.puth {x : V} {h : Hd5} (B : StI S l li hd wd H c hv hs W G) (p : PlI S l li hd wd H) (t : Th (Hid (hd :: wd :: S) G) x (hdD h)) : StI S l li hd wd H c (hv ++ [x]) (hs ++ [h]) W (upd G hd (.lst (hv ++ [x]))) :=
  ⟨fun b o e n1 n2 => by rw [upd_ne (ne_of_none e p.nh)]; exact B.E b o e n1 n2, B.sp.upd p.hl.1 p.hl.2, upd_same, by
    rw [List.map_append]
    exact K14.Gn.ThAll.app (B.t.ext (hid_upd (List.mem_cons_self ..))) (.cons (t.ext (hid_upd (List.mem_cons_self ..))) .nil), by rw [upd_ne (fun z => p.ne z.symm)]; exact B.w⟩
theorem StI.putw {n : Nat} (B : StI S l li hd wd H c hv hs W G) (p : PlI S l li hd wd H) : StI S l li hd wd H c hv hs (W ++ [n]) (upd G wd (.lst ((W.map fun n => V.int (n : Nat)) ++ [.int (n : Nat)]))) :=
  ⟨fun b o e n1 n2 => by rw [upd_ne (ne_of_none e p.nw)]; exact B.E b o e n1 n2, B.sp.upd p.wl.1 p.wl.2, by rw [upd_ne p.ne]; exact B.h, B.t.ext (hid_upd (List.mem_cons_of_mem _ (List.mem_cons_self ..))), by rw [upd_same, List.map_append]; rfl⟩
theorem StI.new {a : Addr} {s1 s2 : Str} (B : StI S l li hd wd H c hv hs W G) (p : PlI S l li hd wd H) (n : G a = none) : Th (Hid (hd :: wd :: S) (upd G a (.tup [.str s1, .str s2]))) (.ref a) (.tuple [.str s1, .str s2]) := .tup (hid_of ((B.ins p).new n) upd_same fun ps z => nomatch z) (.cons (.str _) (.cons (.str _) .nil))
end
/-- what stands after k heads -/
def PvI (ah : Str → Option Nat) (S : List Addr) (l li hd wd : Addr) (s1 s2 s3 : Option V) (H : Hp) (c0 : Int) (k : Nat) (σ : L2.St) (G : Hp) : Prop :=
  ∃ (hs : List Hd5) (W : List Nat) (hv : List V) (c : Int) (a6 a7 a8 : Option V), σ = [some (.ref l), s1, s2, s3, some (.ref hd), some (.ref wd), a6, a7, a8, none, none, none, none, none, none, none] ∧ StI S l li hd wd H c hv hs W G ∧ c ≤ c0 + 3 * (k : Nat) ∧ HdsOk ah hs W ∧ W.length = k
theorem ok_its {f : Addr} {fd : FuncData} (F : FunD K "_law_items" "_law_items" (defArgs sIt) (defBody sIt) (defScope sIt) [] [] f fd) (M : Has P w K mg base "_law_mixed" 2 ["stream", "some"] spMxW) (PK : Has P w K mg base "_law_pick" 2 ["stream", "some"] spPk) (DR : Has P w K mg base "_law_draw" 1 ["stream", "many"] spDrW) (PA : Has P w K mg base "_law_paired" 4 ["stream", "ends", "widths"] spPa) (B : LwK mg) (mr : mg "range" = none) (mi : mg "int" = none) (ms : mg "sum" = none) (mz : mg "zip" = none) : FnOk P w K mg base CX0 5 f fd ["stream", "ends", "known", "most"] spIts := by
  refine F.ok scIt (fun vs H Q E h => ?_) (fun cdv A outer s H vs Q XE hr h => ?_)
  · obtain ⟨S, l, li, ea, ka, c, es, ks, kn, most, ah, rfl, _⟩ := h
    rfl
  · obtain ⟨S, l, li, ea, ka, c, es, ks, kn, most, ah, rfl, ml, mli, ins, hs, ea1, ea2, ka1, ka2, he, hka, tk, nd, hm, les, m0, m1, hkn, hah, lkn, hc, k⟩ := h
    have hu : (XIt P w K mg base f cdv A outer s H XE).A.units + 64 < cLine := hr.units
    have h0 : PS (XIt P w K mg base f cdv A outer s H XE) (stOf sIt 0) _ := ps_par (i := 4) (j := 5) rfl scIt.nd rfl rfl (by decide) rfl rfl (pa_cons (pe_lst pa_nil) (pa_cons (pe_lst pa_nil) pa_nil)) (by rfl)
    have a0 : PS (XIt P w K mg base f cdv A outer s H XE) (ifB fbI 0) _ := ps_asg (pe_has PK (hr.mono (by decide)) (by rfl) (pa_cons (pv 0) (pa_cons (pv 2) pa_nil))) (pg_tup (n := 2) rfl (pgs_cons (pg_name (i := 7) scIt.nd rfl (.inl rfl)) (pgs_cons (pg_name (i := 8) scIt.nd rfl (.inl rfl)) pgs_nil)))
    have a1 : PS (XIt P w K mg base f cdv A outer s H XE) (ifB fbI 1) _ := ps_expr (pe_bm PySem.F.plainAttrs_list PySem.F.slot_list_append PySem.F.type_list_append mt_append (pv 4) (pa_cons (pe_tup (pa_cons pe_str (pa_cons (pv 7) pa_nil))) pa_nil))
    have a2 : PS (XIt P w K mg base f cdv A outer s H XE) (ifB fbI 2) _ := ps_expr (pe_bm PySem.F.plainAttrs_list PySem.F.slot_list_append PySem.F.type_list_append mt_append (pv 5) (pa_cons (pv 8) pa_nil))
    have e0 : PS (XIt P w K mg base f cdv A outer s H XE) (elI fbI 0) _ := ps_expr (pe_bm PySem.F.plainAttrs_list PySem.F.slot_list_append PySem.F.type_list_append mt_append (pv 4) (pa_cons (pe_tup (pa_cons (pe_has PK (hr.mono (by decide)) (by rfl) (pa_cons (pv 0) (pa_cons (pe_lst (pa_cons pe_str (pa_cons pe_str (pa_cons pe_str (pa_cons pe_str (pa_cons pe_str pa_nil)))))) pa_nil))) (pa_cons pe_str pa_nil))) pa_nil))
    have e1 : PS (XIt P w K mg base f cdv A outer s H XE) (elI fbI 1) _ := ps_expr (pe_bm PySem.F.plainAttrs_list PySem.F.slot_list_append PySem.F.type_list_append mt_append (pv 5) (pa_cons (pe_ifExp (pt_cmpR op_eq (pe_ix ix_seq (pe_ix ix_list (pv 4) (pe_un un_neg pe_int) (fun _ _ => rfl)) pe_int (fun _ _ => rfl)) pe_str (nomark _)) pe_int pe_int) pa_nil))
    have b0 : PS (XIt P w K mg base f cdv A outer s H XE) fbI _ := ps_if (PW.pt (pw_and (pt_cmpR (op_neD hu) (pv 2) (pe_lst pa_nil) (nomark _)) (pw_and1 (pt_cmpR op_eq (pe_has DR (hr.mono (by decide)) (by rfl) (pa_cons (pv 0) (pa_cons pe_int pa_nil))) pe_int (nomark _))))) (pss_cons a0 (pss_cons a1 (pss_one a2))) (pss_cons e0 (pss_one e1))
    have h1 : PS (XIt P w K mg base f cdv A outer s H XE) (stOf sIt 1) _ := ps_for PassesOwn.never rfl (pi_range1 (by rfl) mr (pa_cons (pe_has DR (hr.mono (by decide)) (by rfl) (pa_cons (pv 0) (pa_cons (pv 3) pa_nil))) pa_nil)) (pg_name (i := 6) scIt.nd rfl (.inl rfl)) (PSs.of_eq bdItA (pss_one b0))
    have k0 : PS (XIt P w K mg base f cdv A outer s H XE) (ifB (stOf sIt 2) 0) _ := ps_expr (pe_bm PySem.F.plainAttrs_list PySem.F.slot_list_append PySem.F.type_list_append mt_append (pv 4) (pa_cons (pe_tup (pa_cons pe_str (pa_cons pe_str pa_nil))) pa_nil))
    have k1 : PS (XIt P w K mg base f cdv A outer s H XE) (ifB (stOf sIt 2) 1) _ := ps_expr (pe_bm PySem.F.plainAttrs_list PySem.F.slot_list_append PySem.F.type_list_append mt_append (pv 5) (pa_cons pe_int pa_nil))
    have h2 : PS (XIt P w K mg base f cdv A outer s H XE) (stOf sIt 2) _ := ps_if (pt_cmpR op_eq (pe_op op_mod (pe_callTy call_int1 (by rfl) mi boot_in (pa_cons (pe_op op_add (pe_callB call_len_seq (by rfl) B.len boot_len (pa_cons (pv 1) pa_nil)) (pe_callB (cr_sum rfl) (by rfl) ms PyProof.Rows.boot_sum (pa_cons (pv 5) pa_nil))) pa_nil)) pe_int) pe_int (nomark _)) (pss_cons k0 (pss_one k1)) pss_nil
    have h3 : PS (XIt P w K mg base f cdv A outer s H XE) (stOf sIt 3) _ := ps_asg (pe_has PA hr (by rfl) (pa_cons (pv 0) (pa_cons (pv 1) (pa_cons (pv 5) pa_nil)))) (pg_tup (n := 2) rfl (pgs_cons (pg_name (i := 9) scIt.nd rfl (.inl rfl)) (pgs_cons (pg_name (i := 10) scIt.nd rfl (.inl rfl)) pgs_nil)))
    have h4 : PS (XIt P w K mg base f cdv A outer s H XE) (stOf sIt 4) _ := ps_set (i := 13) scIt.nd rfl (.inl rfl) (pe_op op_cat (pe_lc (X := XIt P w K mg base f cdv A outer s H XE) (scope := itSc) (own := [("one", 11), ("other", 12)]) (g := gTup K 2 (gCons (gName 11) (gCons (gName 12) gNil))) (tt := tYes) (te := tTup (tCons (tC (.str "join")) (tCons (tVar 11) (tCons (tVar 12) tNil)))) rfl scIt.nd (pi_list (pv 10)) (blkOk_by (N := NIt) (sc := defScope sIt) (by decide +kernel))
      (fun _ _ _ _ _ => pg_tup (n := 2) rfl (pgs_cons (pg_name (i := 11) scIt.nd rfl (Or.inl rfl)) (pgs_cons (pg_name (i := 12) scIt.nd rfl (Or.inl rfl)) pgs_nil))) (fun _ _ _ _ _ => pts_nil)
      (fun s0 H0 C0 cl0 fp0 => by exact pe_tup (pa_cons pe_str (pa_cons (pv 11) (pa_cons (pv 12) pa_nil))))) (pe_op op_rep (pe_lst (pa_cons (pe_tup (pa_cons pe_str pa_nil)) pa_nil)) (pe_callTy call_int1 (by rfl) mi boot_in (pa_cons (pe_cmpR op_eq (pe_has DR (hr.mono (by decide)) (by rfl) (pa_cons (pv 0) (pa_cons pe_int pa_nil))) pe_int (nomark _)) pa_nil))))
    have j0 : PS (XIt P w K mg base f cdv A outer s H XE) fbJ _ := ps_expr (pe_bm PySem.F.plainAttrs_list PySem.F.slot_list_append PySem.F.type_list_append mt_append (pv 13) (pa_cons (pe_ifExp (pt_cmpR op_eq (pe_ix ix_seq (pv 14) pe_int (fun _ _ => rfl)) pe_str (nomark _)) (pe_tup (pa_cons pe_str (pa_cons (pe_ix ix_seq (pv 14) pe_int (fun _ _ => rfl)) (pa_cons (pv 15) pa_nil)))) (pe_callTy call_tuple_of (by rfl) B.tuple boot_tu (pa_cons (pe_op op_cat (pe_lst (pa_cons (pe_ix ix_seq (pv 14) pe_int (fun _ _ => rfl)) pa_nil)) (pv 15)) pa_nil))) pa_nil))
    have h5 : PS (XIt P w K mg base f cdv A outer s H XE) (stOf sIt 5) _ := ps_for PassesOwn.never rfl (pi_zip (by rfl) mz (pa_cons (pv 4) (pa_cons (pv 9) pa_nil))) (pg_tup (n := 2) rfl (pgs_cons (pg_name (i := 14) scIt.nd rfl (.inl rfl)) (pgs_cons (pg_name (i := 15) scIt.nd rfl (.inl rfl)) pgs_nil))) (PSs.of_eq bdItB (pss_one j0))
    have h6 : PS (XIt P w K mg base f cdv A outer s H XE) (stOf sIt 6) _ := ps_ret (pe_has M (hr.mono (by decide)) (by rfl) (pa_cons (pv 0) (pa_cons (pv 13) pa_nil)))
    refine ⟨_, PSs.nox (PSs.of_eq bdIt (pss_cons h0 (pss_cons h1 (pss_cons h2 (pss_cons h3 (pss_cons h4 (pss_cons h5 (pss_one h6)))))))), ?_⟩
    clear h0 h1 h2 h3 h4 h5 h6 a0 a1 a2 e0 e1 b0 k0 k1 j0
    refine par_in5 (cons_in (lst_in5 ⟨small4 0, fun hd nhd => cons_in (lst_in5 ⟨small4 0, fun wd nwd => ⟨.ref hd, .ref wd, rfl, ?_⟩⟩)⟩))
    have z1 : L2.Same H (upd H hd (.lst [])) := same_new nhd
    have z2 : L2.Same (upd H hd (.lst [])) (upd (upd H hd (.lst [])) wd (.lst [])) := same_new nwd
    have hhd : upd (upd H hd (.lst [])) wd (.lst []) hd = some (.lst []) := z2 _ _ upd_same
    have hwd : upd (upd H hd (.lst [])) wd (.lst []) wd = some (.lst []) := upd_same
    have ne : hd ≠ wd := fun z => by
      rw [← z, upd_same] at nwd
      cases nwd
    have nwH : H wd = none := by
      rw [upd_ne (fun z => ne z.symm)] at nwd
      exact nwd
    have zz := z1.trans z2
    generalize upd (upd H hd (.lst [])) wd (.lst []) = G0 at zz hhd hwd
    clear z1 z2
    have nhl := hs.new nhd
    have nwl := hs.new nwH
    have insN : hd ∉ S := ins.new nhd
    have insW : wd ∉ S := ins.new nwH
    have hs0 := hs.same zz
    refine ⟨.ref l, rfl, .int (most : Nat), rfl, l, li, c, (most : Nat), rfl, hs0, by omega, by omega, by omega, fun G1 r e1 sp1 r0 r1 => ?_⟩
    obtain ⟨rn, rfl⟩ := Int.eq_ofNat_of_zero_le r0
    refine ⟨(rn : Nat), rfl, by omega, by omega, ?_⟩
    have ert : ((rn : Nat) : Int).toNat = rn := rfl
    rw [ert]
    have E1 : ExtS l li H G1 := (same_S zz).trans e1
    have PL : PlI S l li hd wd H := ⟨ml, mli, ins, nhd, nwH, ne, nhl, nwl⟩
    refine for_range (lo := 0) (n := rn) (PvI ah S l li hd wd (some (.ref ea)) (some (.ref ka)) (some (.int (most : Nat))) H (c + 1)) ⟨[], [], [], c + 1, none, none, none, rfl, ⟨E1, sp1, e1 _ _ hhd nhl.1 nhl.2, .nil, e1 _ _ hwd nwl.1 nwl.2⟩, by omega, HdsOk.nil, rfl⟩ (fun kk σ G hk e => ?_) (fun σ G e => ?_)
    · obtain ⟨hs, W, hv, c1, a6, a7, a8, rfl, B, hc1, I, lW⟩ := e
      have lH : hv.length = kk := by
        have h1 := B.t.length
        rw [List.length_map, I.len, lW] at h1
        exact h1
      refine gset ?_
      obtain ⟨gk, dk⟩ := kn_gd hkn
      have dk2 : PyData.depth (.list (kn.map kD)) ≤ 64 := by
        show PyData.depthAll (kn.map kD) + 1 ≤ 64
        omega
      refine if_two (fun G => ∃ c2, StI S l li hd wd H c2 hv hs W G ∧ c2 ≤ c + 1 + 3 * (kk : Nat) + 1) (fun G ⟨c2, B, hc2⟩ => ?_) (fun els => and_in (ne_nil (S := S) (d := dk2) rfl (B.E _ _ hka ka1 ka2) (tk.ext (hid_S ml mli B.E)) gk fun p np => ?_))
      · have lH : hv.length = kk := by
          have h1 := B.t.length
          rw [List.length_map, I.len, lW] at h1
          exact h1
        refine dropN ⟨.ref hd, rfl, .inl ⟨rfl, _, .inl (.inl B.h)⟩, cons_in (cons_in ⟨.ref l, rfl, small4 5, fun q nq => ?_⟩)⟩
        have nql := B.sp.new nq
        have B := B.same PL (same_new (o := .lst [.str "x", .str "y", .str "x", .str "y", .str "stop"]) nq)
        refine ⟨l, li, q, c2, _, rfl, B.sp, upd_same, nql.1, nql.2, by decide, by decide, by omega, fun G2 x e2 sp2 mx => ?_⟩
        have B := B.ext PL e2 sp2
        obtain ⟨s, rfl, hsx⟩ : ∃ s : Str, x = .str s ∧ (s = "stop" ∨ s = "x" ∨ s = "y") := by
          simp only [List.mem_cons, List.not_mem_nil, or_false] at mx
          rcases mx with rfl | rfl | rfl | rfl | rfl
          · exact ⟨_, rfl, .inr (.inl rfl)⟩
          · exact ⟨_, rfl, .inr (.inr rfl)⟩
          · exact ⟨_, rfl, .inr (.inl rfl)⟩
          · exact ⟨_, rfl, .inr (.inr rfl)⟩
          · exact ⟨_, rfl, .inl rfl⟩
        refine cons_in ⟨small4 2, fun t nt => ?_⟩
        have tN := B.new (s1 := s) (s2 := "") PL nt
        have B := B.same PL (same_new (o := .tup [.str s, .str ""]) nt)
        have hT : upd G2 t (.tup [.str s, .str ""]) t = some (.tup [.str s, .str ""]) := upd_same
        generalize upd G2 t (.tup [.str s, .str ""]) = G3 at B hT tN
        have nth : t ≠ hd := fun z => by
          rw [z, B.h] at hT
          cases hT
        refine ⟨hd, hv, .ref t, rfl, rfl, B.h, by rw [lH, sizeLine_eq]; omega, ?_⟩
        have B := B.puth (h := .cell s) PL tN
        have hT : upd G3 hd (.lst (hv ++ [.ref t])) t = some (.tup [.str s, .str ""]) := by
          rw [upd_ne nth]
          exact hT
        generalize upd G3 hd (.lst (hv ++ [.ref t])) = G4 at B hT
        refine dropS' ⟨.ref wd, rfl, .inl ⟨rfl, _, .inl (.inl B.w)⟩, cons_in (iff_in (tst_in ?_))⟩
        have atl : atI (hv ++ [V.ref t]) (-1) = some (.ref t) := by
          rw [atI_last (by rw [List.length_append]; exact Nat.succ_pos _), List.length_append]
          show (hv ++ [V.ref t])[hv.length]? = _
          rw [List.getElem?_append_right (Nat.le_refl _), Nat.sub_self]
          rfl
        refine ⟨.ref hd, rfl, _, rfl, hd, _, -1, _, rfl, rfl, .inl (.inl B.h), atl, ?_⟩
        refine .inr (.inl ⟨t, _, 0, _, rfl, rfl, .inl (.inl hT), rfl, ?_⟩)
        refine ⟨rfl, _, rfl, ?_⟩
        rw [dec_str]
        have fin : ∀ wn : Nat, (Hd5.cell s).ok ah wn → wn ≤ 3 → ∃ aa xs y, V.ref wd = .ref aa ∧ [V.int (wn : Nat)] = [y] ∧ G4 aa = some (.lst xs) ∧ xs.length < sizeLine ∧ PvI ah S l li hd wd (some (.ref ea)) (some (.ref ka)) (some (.int (most : Nat))) H (c + 1) (kk + 1) [some (.ref l), some (.ref ea), some (.ref ka), some (.int (most : Nat)), some (.ref hd), some (.ref wd), some (.int (0 + (kk : Nat))), a7, a8, none, none, none, none, none, none, none] (upd G4 aa (.lst (xs ++ [y]))) := fun wn o l3 => ⟨wd, _, _, rfl, rfl, B.w, by rw [List.length_map, lW, sizeLine_eq]; omega, _, _, _, _, _, _, _, rfl, B.putw PL, by push_cast; omega, I.snoc o l3, by rw [List.length_append, lW]; rfl⟩
        by_cases q : s = "stop"
        · rw [decide_eq_true q]
          exact iteT (fin 1 (.inl ⟨q, rfl⟩) (by decide))
        · rw [decide_eq_false q]
          exact iteF (fin 3 (.inr ⟨hsx.resolve_left q, rfl⟩) (by decide))
      · have B := B.same PL (same_new (o := .lst []) np)
        generalize upd G p (.lst []) = G2 at B
        by_cases epos : 0 < kn.length
        · have eb : (!(kn.map kD).isEmpty) = true := by
            cases kn with
            | nil => cases epos
            | cons => rfl
          rw [eb]
          refine iteT (tst_in ⟨.ref l, rfl, l, li, c1, 2, rfl, B.sp, by decide, by decide, by omega, fun G3 r2 e3 sp3 r20 r21 => ⟨rfl, _, rfl, ?_⟩⟩)
          have B := B.ext PL e3 sp3
          by_cases q : V.int r2 = V.int 0
          · rw [decide_eq_true q]
            have hk3 := B.E _ _ hka ka1 ka2
            have tk3 := tk.ext (hid_S ml mli B.E)
            have lks : ks.length = kn.length := by
              have := tk.length
              rw [List.length_map] at this
              exact this
            refine iteT (T69.asg_intro ⟨.ref l, rfl, .ref ka, rfl, l, li, ka, c1 + 1, ks, rfl, B.sp, hk3, ka1, ka2, by omega, by omega, by omega, fun G4 x e4 sp4 mx => ?_⟩)
            have B := B.ext PL e4 sp4
            obtain ⟨i, hi⟩ := List.getElem?_of_mem mx
            obtain ⟨z, hz, tz⟩ := (tk3.ext (hid_S ml mli e4)).get hi
            rw [List.getElem?_map] at hz
            cases hp : kn[i]? with
            | none =>
              rw [hp] at hz
              cases hz
            | some pr =>
              rw [hp] at hz
              cases hz
              obtain ⟨pa, rfl, _, hpa⟩ := kD_th tz
              have mpr := List.mem_of_getElem? hp
              refine ⟨pa, _, rfl, .inl (.inl hpa), rfl, _, _, rfl, _, _, rfl, rfl, ?_⟩
              refine dropN ⟨.ref hd, rfl, .inl ⟨rfl, _, .inl (.inl B.h)⟩, cons_in (cons_in ⟨.str pr.1, rfl, small4 2, fun t nt => ?_⟩)⟩
              have tN := B.new (s1 := "use") (s2 := pr.1) PL nt
              have B := B.same PL (same_new (o := .tup [.str "use", .str pr.1]) nt)
              generalize upd G4 t (.tup [.str "use", .str pr.1]) = G5 at B tN
              refine ⟨hd, hv, .ref t, rfl, rfl, B.h, by rw [lH, sizeLine_eq]; omega, ?_⟩
              have B := B.puth (h := .use pr.1) PL tN
              generalize upd G5 hd (.lst (hv ++ [.ref t])) = G6 at B
              refine dropS' ⟨.ref wd, rfl, .inl ⟨rfl, _, .inl (.inl B.w)⟩, cons_in ?_⟩
              refine ⟨.int (pr.2 : Nat), rfl, wd, _, _, rfl, rfl, B.w, by rw [List.length_map, lW, sizeLine_eq]; omega, _, _, _, _, _, _, _, rfl, B.putw PL, by push_cast; omega, I.snoc ⟨(hkn pr mpr).1, hah pr mpr⟩ (hkn pr mpr).2, by rw [List.length_append, lW]; rfl⟩
          · rw [decide_eq_false q]
            exact iteF (els _ ⟨_, B, by omega⟩)
        · have : kn = [] := List.length_eq_zero_iff.mp (by omega)
          subst this
          exact iteF (els _ ⟨c1, B, by omega⟩)
    · obtain ⟨hs, W, hv, c1, a6, a7, a8, rfl, B, hc1, I, lW⟩ := e
      have lH : hv.length = rn := by
        have h1 := B.t.length
        rw [List.length_map, I.len, lW] at h1
        exact h1
      refine nx_intro (seq_two (fun σ G => ∃ (hs : List Hd5) (W : List Nat) (hv : List V) (a6 a7 a8 : Option V), σ = [some (.ref l), some (.ref ea), some (.ref ka), some (.int (most : Nat)), some (.ref hd), some (.ref wd), a6, a7, a8, none, none, none, none, none, none, none] ∧ StI S l li hd wd H c1 hv hs W G ∧ HdsOk ah hs W ∧ W.length ≤ 4 ∧ (es.length + W.sum) % 2 = 0) (fun σ G e => ?_) (fun nxt => ifS_intro (tst_in ?_)))
      · clear I lW lH B hs W hv a6 a7 a8
        obtain ⟨hs, W, hv, a6, a7, a8, rfl, B, I, l4, ev⟩ := e
        have s3 := sum_le3 I.le
        have lH : hv.length = W.length := by
          have h1 := B.t.length
          rw [List.length_map, I.len] at h1
          exact h1
        refine T69.asg_intro ⟨.ref l, rfl, .ref ea, rfl, .ref wd, rfl, l, li, ea, wd, c1, es, W, (es.length + W.sum) / 2, rfl, B.sp, ea1, ea2, nwl.1, nwl.2, B.E _ _ he ea1 ea2, B.w, nd, hm, by rw [places_len]; omega, by omega, by omega, fun n hn => Nat.le_trans (I.le n hn) (by decide), by omega, fun H2 r R J ls rows ys jp c2 E2 sp2 hc2 hr2 nr R1 R2 J1 J2 nR nJ RJ hR L nls hJ lJ tJ PO => ?_⟩
        have B0 := B
        have B := B.ext PL E2 sp2
        refine ⟨r, _, rfl, .inl (.inl hr2), rfl, _, _, rfl, _, _, rfl, rfl, ?_⟩
        refine T3.set_intro (i := 13) (T3.op_in ?_)
        have ins2 : Ins S H2 := ins_S ins B.E B.sp
        have lys : ys.length = jp.length := by
          have := tJ.length
          rw [List.length_map] at this
          exact this
        refine lc_lsS (K := K) (a := J) (xs := ys) (hd :: wd :: S) (B.ins PL) (fun i => jI (jp.getD i ("", ""))) (fun R h => ⟨.ref J, rfl, h⟩) hJ (by omega) (fun D i x G3 Q' W hW hx s3 insD kQ => ?_) fun G3 D fs s3 nD hD tD => ?_
        · obtain ⟨z, hz, tz⟩ := (tJ.ext (hid_same s3)).get hx
          rw [List.getElem?_map] at hz
          cases hp : jp[i]? with
          | none =>
            rw [hp] at hz
            cases hz
          | some pr =>
            rw [hp] at hz
            cases hz
            obtain ⟨pa, rfl, _, hpa⟩ := jD_th tz
            refine ⟨pa, _, rfl, .inl (.inl hpa), rfl, _, _, rfl, _, _, rfl, rfl, hW _ _ rfl ?_⟩
            refine ⟨_, rfl, _, rfl, small4 3, fun p np => kQ _ _ (same_new np) ?_⟩
            rw [getD_some hp]
            exact .tup (hid_of (insD.new np) upd_same fun ps z => nomatch z) (.cons (.str _) (.cons (.str _) (.cons (.str _) .nil)))
        · have insG : Ins (hd :: wd :: S) G := B0.ins PL
          have nlsM : ∀ a ∈ ls, a ∉ hd :: wd :: S := fun a ma => insG.new (nls a ma).1
          rw [lys, range_map jI] at tD
          have nDl := B.sp.new nD
          have B := B.same PL s3
          refine T3.op_in (lst_in5 (cons_in ⟨small4 1, fun t nt => ⟨small4 1, fun q nq => ?_⟩⟩))
          have z5 := (same_new (o := .tup [.str "loop"]) nt).trans (same_new (o := .lst [.ref t]) nq)
          have hq5 : upd (upd G3 t (.tup [.str "loop"])) q (.lst [.ref t]) q = some (.lst [.ref t]) := upd_same
          have ht5 : upd (upd G3 t (.tup [.str "loop"])) q (.lst [.ref t]) t = some (.tup [.str "loop"]) := (same_new (o := .lst [.ref t]) nq) _ _ upd_same
          have tM := (B.ins PL).new nt
          have nql := (B.same PL (same_new (o := .tup [.str "loop"]) nt)).sp.new nq
          have ntl := B.sp.new nt
          generalize upd (upd G3 t (.tup [.str "loop"])) q (.lst [.ref t]) = G5 at z5 hq5 ht5
          have B := B.same PL z5
          have hD5 := z5 _ _ hD
          have tD5 := tD.ext (hid_same z5)
          have L5 := (L.ext s3).ext z5
          have hR5 := z5 _ _ (s3 _ _ hR)
          refine ⟨.ref l, rfl, l, li, c2, 5, rfl, B.sp, by decide, by decide, by omega, fun G6 r2 e6 sp6 r20 r21 => ⟨rfl, .inr ⟨_, rfl, ?_⟩⟩⟩
          have B := B.ext PL e6 sp6
          have hD6 := e6 _ _ hD5 nDl.1 nDl.2
          have hq6 := e6 _ _ hq5 nql.1 nql.2
          have ht6 := e6 _ _ ht5 ntl.1 ntl.2
          have hR6 := e6 _ _ hR5 R1 R2
          have L6 : T69.LsA G6 ls rows := LsA_via L5 fun a ma o ho => e6 _ _ ho (nls a ma).2.1 (nls a ma).2.2
          have tD6 : ThAll (Hid (hd :: wd :: S) G6) fs (jp.map jI) := (tD5.ext (hid_less fun b hb => List.mem_cons_of_mem _ hb)).ext (hid_S PL.m1 PL.m2 e6)
          obtain ⟨zs, hz, tz, lz⟩ : ∃ zs : List V, (List.replicate (if decide (V.int r2 = V.int 0) = true then (1 : Int) else 0).toNat [V.ref t]).flatten = zs ∧ ThAll (Hid (hd :: wd :: S) G6) zs (if decide (V.int r2 = V.int 0) = true then [loopI] else []) ∧ zs.length ≤ 1 := by
            cases decide (V.int r2 = V.int 0) with
            | true => exact ⟨[.ref t], rfl, .cons (.tup (hid_of tM ht6 fun ps z => nomatch z) (.cons (.str _) .nil)) .nil, Nat.le_refl _⟩
            | false => exact ⟨[], rfl, .nil, Nat.zero_le _⟩
          generalize decide (V.int r2 = V.int 0) = lp at hz tz
          refine ⟨q, _, _, rfl, rfl, hq6, by cases lp <;> decide, by cases lp <;> decide, by rw [sizeLine_eq]; cases lp <;> simp, fun p np => ?_⟩
          rw [hz]
          have s7 := same_new (o := .lst zs) np
          have hp7 : upd G6 p (.lst zs) p = some (.lst zs) := upd_same
          generalize upd G6 p (.lst zs) = G7 at s7 hp7
          have lfs : fs.length = jp.length := by
            have := tD6.length
            rw [List.length_map] at this
            exact this
          refine ⟨D, p, fs, zs, rfl, rfl, s7 _ _ hD6, hp7, by rw [sizeLine_eq]; omega, fun F nF => ?_⟩
          have B := B.same PL s7
          have nFl := B.sp.new nF
          have FM := (B.ins PL).new nF
          have nHF := ext_none B.E nF nFl.1 nFl.2
          have B := B.same PL (same_new (o := .lst (fs ++ zs)) nF)
          have s8 := s7.trans (same_new (o := .lst (fs ++ zs)) nF)
          have hF8 : upd G7 F (.lst (fs ++ zs)) F = some (.lst (fs ++ zs)) := upd_same
          have t8 : ThAll (Hid (F :: hd :: wd :: S) (upd G7 F (.lst (fs ++ zs)))) (fs ++ zs) (jp.map jI ++ (if lp = true then [loopI] else [])) := (K14.Gn.ThAll.app (tD6.ext (hid_same s7)) (tz.ext (hid_same s7))).ext (fun b o h => by
            obtain ⟨h1, h2, h3⟩ := hid_at h
            have nb : b ≠ F := ne_of_none h2 nF
            exact hid_of (fun m => (List.mem_cons.mp m).elim nb h1) (by rw [upd_ne nb]; exact h2) h3)
          have nFls : F ∉ ls := fun m => by
            obtain ⟨i, hi⟩ := List.getElem?_of_mem m
            obtain ⟨ws, _, g⟩ := L6.at_ i F hi
            rw [s7 _ _ g] at nF
            cases nF
          generalize upd G7 F (.lst (fs ++ zs)) = G8 at B s8 hF8 t8
          have hR8 := s8 _ _ hR6
          have L8 := L6.ext s8
          have nRF : R ≠ F := fun z => by
            rw [← z, s7 _ _ hR6] at nF
            cases nF
          have lls : ls.length = W.length := by
            have h1 := congrArg List.length PO.wid
            rw [List.length_map] at h1
            rw [L8.len, h1]
          have lrw : rows.length = W.length := by rw [← L8.len, lls]
          refine ⟨.ref hd, rfl, .ref R, rfl, hd, R, hv, ls.map V.ref, rfl, .inl (.inl B.h), .inl (.inl hR8), for_it (walk_zip (xs := hv) (ys := ls.map V.ref) (n := W.length) (by rw [List.length_map, lls, lH, Nat.min_self])) (fun j σ G => ∃ (a14 a15 : Option V) (fz : List V), σ = [some (.ref l), some (.ref ea), some (.ref ka), some (.int (most : Nat)), some (.ref hd), some (.ref wd), a6, a7, a8, some (.ref R), some (.ref J), none, none, some (.ref F), a14, a15] ∧ Exc F G8 G ∧ G F = some (.lst fz) ∧ ThAll (Hid (F :: hd :: wd :: S) G) fz ((jp.map jI ++ (if lp = true then [loopI] else [])) ++ ((hs.zip rows).take j).map fun p => p.1.item p.2)) ⟨none, none, fs ++ zs, rfl, fun b o h _ => h, hF8, by rw [List.take_zero, List.map_nil, List.append_nil]; exact t8⟩ (fun j σ G _ e => ?_) (fun j x σ G G' hj e y => ?_) (fun σ G e => ?_)⟩
          · obtain ⟨_, _, _, _, ex, _⟩ := e
            have nhF : hd ≠ F := fun z => FM (by rw [← z]; exact List.mem_cons_self ..)
            exact ⟨.inl (.inl (ex _ _ B.h nhF)), .inl (.inl (ex _ _ hR8 nRF))⟩
          · obtain ⟨a14, a15, fz, rfl, ex, hF9, t9⟩ := e
            obtain ⟨T, x1, y1, rfl, nT, rfl, ex1, ey1⟩ := y
            have ey1 : (ls.map V.ref)[j]? = some y1 := ey1
            have ex1 : hv[j]? = some x1 := ex1
            rw [List.getElem?_map] at ey1
            cases ha : ls[j]? with
            | none =>
              rw [ha] at ey1
              cases ey1
            | some a =>
              rw [ha] at ey1
              cases ey1
              obtain ⟨row, hrow, gRow⟩ := L8.at_ j a ha
              have ma := List.mem_of_getElem? ha
              obtain ⟨z, hz, tz⟩ := B.t.get ex1
              rw [List.getElem?_map] at hz
              cases hh : hs[j]? with
              | none =>
                rw [hh] at hz
                cases hz
              | some h =>
                rw [hh] at hz
                cases hz
                obtain ⟨pa, rfl, pM, hpa⟩ := hdD_th tz
                have pF : pa ≠ F := fun z => by
                  rw [z, hF8] at hpa
                  cases hpa
                have aF : a ≠ F := fun z => nFls (by rw [← z]; exact ma)
                have s10 := same_new (o := .tup [.ref pa, .ref a]) nT
                have hT10 : upd G T (.tup [.ref pa, .ref a]) T = some (.tup [.ref pa, .ref a]) := upd_same
                generalize upd G T (.tup [.ref pa, .ref a]) = G10 at s10 hT10
                have hpa10 := s10 _ _ (ex _ _ hpa pF)
                have ga10 := s10 _ _ (ex _ _ gRow aF)
                have hF10 := s10 _ _ hF9
                have t10 := t9.ext (hid_same s10)
                have ins10 : Ins (F :: hd :: wd :: S) G10 := by
                  have i8 := B.ins PL
                  refine Ins.cons (fun b m => ?_) hF10
                  obtain ⟨o, ho⟩ := i8 b m
                  exact ⟨o, s10 _ _ (ex _ _ ho fun z => FM (by rw [← z]; exact m))⟩
                have lfz : fz.length ≤ 100 := by
                  have := t9.length
                  rw [List.length_append, List.length_append, List.length_map, List.length_map, List.length_take] at this
                  have : (if lp = true then [loopI] else []).length ≤ 1 := by cases lp <;> decide
                  omega
                have fin : ∀ (G' : Hp) (y : V), L2.Same G10 G' → Th (Hid (F :: hd :: wd :: S) G') y (h.item row) → ∃ aa xs y', V.ref F = .ref aa ∧ [y] = [y'] ∧ G' aa = some (.lst xs) ∧ xs.length < sizeLine ∧ (fun (j : Nat) (σ : L2.St) (G : Hp) => ∃ (a14 a15 : Option V) (fz : List V), σ = [some (.ref l), some (.ref ea), some (.ref ka), some (.int (most : Nat)), some (.ref hd), some (.ref wd), a6, a7, a8, some (.ref R), some (.ref J), none, none, some (.ref F), a14, a15] ∧ Exc F G8 G ∧ G F = some (.lst fz) ∧ ThAll (Hid (F :: hd :: wd :: S) G) fz ((jp.map jI ++ (if lp = true then [loopI] else [])) ++ ((hs.zip rows).take j).map fun p => p.1.item p.2)) (j + 1) [some (.ref l), some (.ref ea), some (.ref ka), some (.int (most : Nat)), some (.ref hd), some (.ref wd), a6, a7, a8, some (.ref R), some (.ref J), none, none, some (.ref F), some (.ref pa), some (.ref a)] (upd G' aa (.lst (xs ++ [y']))) := fun G' y s' t' => by
                  refine ⟨F, _, _, rfl, rfl, s' _ _ hF10, by rw [sizeLine_eq]; omega, _, _, _, rfl, fun b o e n => ?_, upd_same, ?_⟩
                  · rw [upd_ne n]
                    exact s' _ _ (s10 _ _ (ex b o e n))
                  · have hz2 : (hs.zip rows)[j]? = some (h, row) := List.getElem?_zip_eq_some.mpr ⟨hh, hrow⟩
                    rw [List.take_add_one, hz2, List.map_append, ← List.append_assoc]
                    have M := List.mem_cons_self (a := F) (l := hd :: wd :: S)
                    exact K14.Gn.ThAll.app ((t10.ext (hid_same s')).ext (hid_upd M)) (.cons (t'.ext (hid_upd M)) .nil)
                refine ⟨T, _, rfl, .inl (.inl hT10), rfl, _, _, rfl, _, _, rfl, rfl, ?_⟩
                refine dropS' ⟨.ref F, rfl, .inl ⟨rfl, _, .inl (.inl hF10)⟩, cons_in (iff_in (tst_in ⟨.ref pa, rfl, .inr (.inl ⟨pa, _, 0, _, rfl, rfl, .inl (.inl hpa10), rfl, rfl, _, rfl, ?_⟩)⟩))⟩
                rw [dec_str]
                have aM : a ∉ F :: hd :: wd :: S := fun m => (List.mem_cons.mp m).elim aF (nlsM a ma)
                have jW : W[j]? = some row.length := by
                  have h1 := congrArg (fun l : List Nat => l[j]?) PO.wid
                  have h1 : (rows.map List.length)[j]? = W[j]? := h1
                  rw [List.getElem?_map, hrow] at h1
                  exact h1.symm
                have r3 := I.le _ (List.mem_of_getElem? jW)
                have hok := I.ok j h _ hh jW
                cases h with
                | use n =>
                  rw [show decide ((Hd5.use n).pr.1 = ("use" : Str)) = true from decide_eq_true rfl]
                  exact iteT ⟨.ref pa, rfl, .inr (.inl ⟨pa, _, 1, _, rfl, rfl, .inl (.inl hpa10), rfl, .ref a, rfl, small4 3, fun p np => fin _ _ (same_new np) (.tup (hid_of (ins10.new np) upd_same fun ps z => nomatch z) (.cons (.str _) (.cons (.str _) (.cons (.lst (hid_of aM (same_new np _ _ ga10) fun ps z => nomatch z) (T27.th_strs row)) .nil))))⟩)⟩
                | cell s =>
                  have nu : s ≠ "use" := by
                    rcases hok with ⟨rfl, _⟩ | ⟨rfl | rfl, _⟩ <;> decide +kernel
                  rw [show decide ((Hd5.cell s).pr.1 = ("use" : Str)) = false from decide_eq_false nu]
                  refine iteF ⟨.ref pa, rfl, .inr (.inl ⟨pa, _, 0, _, rfl, rfl, .inl (.inl hpa10), rfl, small4 1, fun q nq => ⟨.ref a, rfl, q, a, [.str s], row.map V.str, rfl, rfl, upd_same, (same_new nq) _ _ ga10, by rw [List.length_map, sizeLine_eq]; show 1 + _ ≤ _; omega, fun p np => ⟨p, _, rfl, .inl ⟨.inl (.inl upd_same), fun t2 nt2 => fin _ _ (((same_new nq).trans (same_new np)).trans (same_new nt2)) ?_⟩⟩⟩⟩)⟩
                  exact .tup (hid_of ((ins10.same ((same_new nq).trans (same_new np))).new nt2) upd_same fun ps z => nomatch z) (T27.th_strs (s :: row))
          · obtain ⟨a14, a15, fz, rfl, ex, hF9, t9⟩ := e
            have lzr : (hs.zip rows).length = W.length := by rw [List.length_zip, I.len, lrw, Nat.min_self]
            rw [← lzr, List.take_length] at t9
            have t9 : ThAll (Hid (F :: hd :: wd :: S) G) fz (itemsOf hs rows jp lp) := t9
            have lio : (itemsOf hs rows jp lp).length ≤ 32 := by
              unfold itemsOf
              rw [List.length_append, List.length_append, List.length_map, List.length_map, lzr]
              have : (if lp = true then [loopI] else []).length ≤ 1 := by cases lp <;> decide
              omega
            have lfz : fz.length ≤ 32 := by rw [t9.length]; exact lio
            have E9 : ExtS l li H G := fun b o e n1 n2 => ex _ _ (B.E b o e n1 n2) (ne_of_none e nHF)
            have sp9 : Spr G l li (c2 + 1) := by
              obtain ⟨ns, b, d, ss, ln⟩ := B.sp
              exact ⟨ns, b, d, ⟨ex _ _ ss.l1 (Ne.symm nFl.1), ex _ _ ss.l2 (Ne.symm nFl.2), ss.ne, ss.b0, ss.c0, ss.d0, ss.d1⟩, ln⟩
            refine nx_intro (ret_intro ⟨.ref l, rfl, .ref F, rfl, l, li, F, c2 + 1, fz, rfl, sp9, hF9, by omega, by omega, fun H9 r9 xs9 e9 sp10 n9 r91 r92 h9 pm => ?_⟩)
            obtain ⟨ds, tds, pds⟩ := ThAll.perm pm t9
            obtain ⟨q1, q2⟩ := items_right (ah := ah) nd hm PO I.len I.ok pds
            have tS : ThAll (Hid S G) xs9 ds := tds.ext (hid_less fun b hb => List.mem_cons_of_mem _ (List.mem_cons_of_mem _ (List.mem_cons_of_mem _ hb)))
            refine k H9 r9 xs9 ds (c2 + 1 + (fz.length : Nat)) (E9.trans e9) sp10 (by omega) h9 (ext_none E9 n9 r91 r92) r91 r92 (tS.ext (hid_S ml mli e9)) (by rw [pds.length_eq]; exact lio) (fun z hz => gI_items PO I.le I.len I.ok z (pds.mem_iff.mp hz)) q1
      · refine ⟨.ref ea, rfl, ea, es.map V.str, rfl, .inl (.inl (.inl (B.E _ _ he ea1 ea2))), .ref wd, rfl, wd, W.map fun n => ((n : Nat) : Int), rfl, .inl (.inl (by rw [List.map_map]; exact B.w)), _, _, rfl, rfl, .inl ⟨_, rfl, _, _, rfl, rfl, by show (0 : Int) < 2; decide, rfl, _, rfl, ?_⟩⟩
        rw [sum_cast, List.length_map]
        have ev : decide (V.int ((((es.length : Nat) : Int) + ((W.sum : Nat) : Int)) % 2) = V.int 1) = decide ((es.length + W.sum) % 2 = 1) := by
          rw [Bool.eq_iff_iff, decide_eq_true_eq, decide_eq_true_eq]
          constructor
          · intro h
            have := V.int.inj h
            omega
          · intro h
            have : ((((es.length : Nat) : Int) + ((W.sum : Nat) : Int)) % 2) = 1 := by omega
            rw [this]
        rw [ev]
        by_cases q : (es.length + W.sum) % 2 = 1
        · rw [decide_eq_true q]
          refine iteT (dropN ⟨.ref hd, rfl, .inl ⟨rfl, _, .inl (.inl B.h)⟩, cons_in (cons_in ⟨small4 2, fun t nt => ?_⟩)⟩)
          have tN := B.new (s1 := "stop") (s2 := "") PL nt
          have B := B.same PL (same_new (o := .tup [.str "stop", .str ""]) nt)
          generalize upd G t (.tup [.str "stop", .str ""]) = G5 at B tN
          refine ⟨hd, hv, .ref t, rfl, rfl, B.h, by rw [lH, sizeLine_eq]; omega, ?_⟩
          have B := B.puth (h := .cell "stop") PL tN
          generalize upd G5 hd (.lst (hv ++ [.ref t])) = G6 at B
          refine dropS' ⟨.ref wd, rfl, .inl ⟨rfl, _, .inl (.inl B.w)⟩, cons_in ?_⟩
          refine ⟨wd, _, _, rfl, rfl, B.w, by rw [List.length_map, lW, sizeLine_eq]; omega, nxt _ _ ⟨_, _, _, _, _, _, rfl, B.putw (n := 1) PL, I.snoc (.inl ⟨rfl, rfl⟩) (by decide), by rw [List.length_append, lW]; show rn + 1 ≤ 4; omega, ?_⟩⟩
          rw [List.sum_append]
          show (es.length + (W.sum + 1)) % 2 = 0
          omega
        · rw [decide_eq_false q]
          exact iteF (nxt _ _ ⟨_, _, _, _, _, _, rfl, B, I, by omega, by omega⟩)
end
end K14.T5
namespace K14.T5
open T27 T3
open K14.Gn
open PySem PySem.W PySem.Calls PyProof.Rows L2 LamX NdefX
/-! ### plans as they are drawn and bent, mathematics -/
theorem cpL_snoc {z : PyData} {ah' : Str → Option Nat} : ∀ {ps : List PyData} {ah : Str → Option Nat} {j : Nat}, cpL ps ah j = (none, ah') → cpL (ps ++ [z]) ah j = if (partB ah' z && !(ah' (partName z)).isSome) = true then (none, ahPut ah' (partName z) (partLen z)) else (some (j + ps.length), ah')
  | [], ah, j, h => by
    have h : ((none : Option Nat), ah) = (none, ah') := h
    cases h
    rfl
  | y :: r, ah, j, h => by
    unfold cpL at h
    by_cases q : (partB ah y && !(ah (partName y)).isSome) = true
    · rw [if_pos q] at h
      have ih := cpL_snoc (z := z) h
      show cpL (y :: (r ++ [z])) ah j = _
      unfold cpL
      rw [if_pos q, ih]
      congr 2
      rw [List.length_cons]
      congr 1
      omega
    · rw [if_neg q] at h
      cases h
def gE (z : PyData) : Bool := (flD z && shS z) && (gd true z && decide (PyData.weight z ≤ 10))
theorem gE_at {z : PyData} (h : gE z = true) : flD z = true ∧ shS z = true ∧ gd true z = true ∧ PyData.weight z ≤ 10 ∧ PyData.depth z ≤ 1 := by
  obtain ⟨a, b⟩ := Bool.and_eq_true_iff.mp h
  obtain ⟨a1, a2⟩ := Bool.and_eq_true_iff.mp a
  obtain ⟨b1, b2⟩ := Bool.and_eq_true_iff.mp b
  refine ⟨a1, a2, b1, of_decide_eq_true b2, ?_⟩
  cases z <;> first | exact Nat.zero_le _ | cases a1
theorem gE_name {s : Str} (h : nameB (.str s) = true) : gE (.str s) = true := by
  obtain ⟨g, l⟩ := nm_sg h
  have l' : s.cps.size ≤ 8 := l
  have e1 : shS (.str s) = true := decide_eq_true (by omega)
  have e2 : gd true (.str s) = true := g
  have e3 : PyData.weight (.str s) ≤ 10 := by
    show s.cps.size ≤ 10
    omega
  unfold gE
  rw [e1, e2, decide_eq_true e3]
  rfl
/-- a row, or what is put in its place -/
def RowG (f : PyData → Bool) (n : Nat) (d : PyData) : Prop := d ∈ odd6 ∨ ∃ es, d = .list es ∧ es.length ≤ n ∧ ∀ e ∈ es, f e = true
theorem RowG.bent {f : PyData → Bool} {n : Nat} {ds os : List PyData} {d : PyData} (b : BentR ds os d) (h1 : ∀ e ∈ ds, f e = true) (h2 : ∀ e ∈ os, f e = true) (l : 2 * ds.length + 2 ≤ n) : RowG f n d := by
  rcases b with b | ⟨es, e, l1, a⟩
  · exact .inl b
  · exact .inr ⟨es, e, by omega, fun e m => (a e m).elim (h1 e) (h2 e)⟩
theorem RowG.its {f : PyData → Bool} {n : Nat} {d : PyData} (h : RowG f n d) : (its d).length ≤ n ∧ ∀ e ∈ its d, f e = true := by
  rcases h with h | ⟨es, rfl, l, a⟩
  · have e : K14.T5.odd6.all (fun d => (K14.its d).isEmpty) = true := by decide
    have e := List.all_eq_true.mp e d h
    rw [List.isEmpty_iff.mp e]
    exact ⟨Nat.zero_le _, fun _ m => nomatch m⟩
  · exact ⟨l, a⟩
theorem wei_all {w : Nat} : ∀ {xs : List PyData}, (∀ z ∈ xs, PyData.weight z ≤ w) → PyData.weightAll xs ≤ xs.length * (w + 1)
  | [], _ => Nat.zero_le _
  | x :: r, h => by
    have h1 := h x (List.mem_cons_self ..)
    have h2 := wei_all fun z hz => h z (List.mem_cons_of_mem _ hz)
    show PyData.weight x + 1 + PyData.weightAll r ≤ (r.length + 1) * (w + 1)
    rw [Nat.succ_mul]
    omega
theorem dep_all {w : Nat} : ∀ {xs : List PyData}, (∀ z ∈ xs, PyData.depth z ≤ w) → PyData.depthAll xs ≤ w
  | [], _ => Nat.zero_le _
  | x :: r, h => Nat.max_le.mpr ⟨h x (List.mem_cons_self ..), dep_all fun z hz => h z (List.mem_cons_of_mem _ hz)⟩
theorem RowG.sum {f : PyData → Bool} {n w k : Nat} {d : PyData} (h : RowG f n d) (hf : ∀ e, f e = true → gd true e = true ∧ PyData.weight e ≤ w ∧ PyData.depth e ≤ k) : gd true d = true ∧ PyData.weight d ≤ n * (w + 1) + 3 ∧ PyData.depth d ≤ k + 1 := by
  rcases h with h | ⟨es, rfl, l, a⟩
  · have e : odd6.all (fun d => gd true d && (decide (PyData.weight d ≤ 3) && decide (PyData.depth d ≤ 1))) = true := by decide +kernel
    obtain ⟨e1, e2⟩ := Bool.and_eq_true_iff.mp (List.all_eq_true.mp e d h)
    obtain ⟨e2, e3⟩ := Bool.and_eq_true_iff.mp e2
    have e2 := of_decide_eq_true e2
    have e3 := of_decide_eq_true e3
    exact ⟨e1, by omega, by omega⟩
  · refine ⟨gdA_all.mpr fun x m => (hf x (a x m)).1, ?_, ?_⟩
    · have h1 : PyData.weightAll es ≤ es.length * (w + 1) := wei_all fun z m => (hf z (a z m)).2.1
      have h2 : es.length * (w + 1) ≤ n * (w + 1) := Nat.mul_le_mul_right _ l
      show PyData.weightAll es ≤ _
      omega
    · have h1 : PyData.depthAll es ≤ k := dep_all fun z m => (hf z (a z m)).2.2
      show PyData.depthAll es + 1 ≤ _
      omega
def gP (z : PyData) : Bool := (okPt z && (fitX 4 z && flPt z)) && (gd true z && (decide (PyData.weight z ≤ 8000) && decide (PyData.depth z ≤ 6)))
theorem gP_at {z : PyData} (h : gP z = true) : (okPt z = true ∧ fitX 4 z = true) ∧ flPt z = true ∧ gd true z = true ∧ PyData.weight z ≤ 8000 ∧ PyData.depth z ≤ 6 := by
  obtain ⟨a, b⟩ := Bool.and_eq_true_iff.mp h
  obtain ⟨a1, a2⟩ := Bool.and_eq_true_iff.mp a
  obtain ⟨a4, a3⟩ := Bool.and_eq_true_iff.mp a2
  obtain ⟨b1, b2⟩ := Bool.and_eq_true_iff.mp b
  obtain ⟨b2, b3⟩ := Bool.and_eq_true_iff.mp b2
  exact ⟨⟨a1, a4⟩, a3, b1, of_decide_eq_true b2, of_decide_eq_true b3⟩
theorem okNs_row {f : PyData → Bool} {n : Nat} {d : PyData} (h : RowG f n d) (n1 : n ≤ 1000) (hf : ∀ e, f e = true → shS e = true) : okNs d = true := by
  obtain ⟨l, a⟩ := h.its
  unfold okNs
  rw [decide_eq_true (by omega : (its d).length ≤ 1000), Bool.true_and]
  exact List.all_eq_true.mpr fun y m => hf y (a y m)
theorem okIts_row {f : PyData → Bool} {n : Nat} {d : PyData} (h : RowG f n d) (n1 : n ≤ 1000) (hf : ∀ e, f e = true → okIt e = true) : okIts d = true := by
  obtain ⟨l, a⟩ := h.its
  unfold okIts
  rw [decide_eq_true (by omega : (its d).length ≤ 1000), Bool.true_and]
  exact List.all_eq_true.mpr fun y m => hf y (a y m)
theorem okIt_flat {z : PyData} (h : gE z = true) : okIt z = true := by
  obtain ⟨a, _⟩ := gE_at h
  cases z <;> first | rfl | cases a
theorem fit_row {f : PyData → Bool} {n k : Nat} {d : PyData} (h : RowG f n d) (n1 : n ≤ 1000) (hf : ∀ e, f e = true → fitX k e = true) : fitX (k + 1) d = true := by
  rcases h with h | ⟨es, rfl, l, a⟩
  · have e : odd6.all (fun d => !isL d && fitX 0 d) = true := by decide +kernel
    have e := List.all_eq_true.mp e d h
    cases d <;> first | exact e | cases e
  · show (decide (es.length ≤ 1000) && es.all (fitX k)) = true
    rw [decide_eq_true (by omega), Bool.true_and]
    exact List.all_eq_true.mpr fun y m => hf y (a y m)
theorem fit_flat {k : Nat} {z : PyData} (h : gE z = true) : fitX k z = true := by
  obtain ⟨a, _⟩ := gE_at h
  cases z <;> first | (cases k <;> rfl) | cases a
theorem shS_row {f : PyData → Bool} {n : Nat} {d : PyData} (h : RowG f n d) : shS d = true := by
  rcases h with h | ⟨es, rfl, _⟩
  · have e : odd6.all shS = true := by decide +kernel
    exact List.all_eq_true.mp e d h
  · rfl
/-- a part, right or bent -/
theorem gP_of {a b c : PyData} {isl : Bool} (ha : gE a = true) (hb : RowG gE 20 b) (hc : RowG gI 70 c) : gP (.tuple [a, b, c]) = true := by
  have qb := hb.sum (w := 10) (k := 1) fun e h => ⟨(gE_at h).2.2.1, (gE_at h).2.2.2.1, (gE_at h).2.2.2.2⟩
  have qc := hc.sum (w := 100) (k := 3) fun e h => ⟨(gI_at h).2.1.1, (gI_at h).2.2.1, (gI_at h).2.2.2⟩
  obtain ⟨a1, a2, a3, a4, a5⟩ := gE_at ha
  have na : okNs a = true ∧ okIts a = true := by cases a <;> first | exact ⟨rfl, rfl⟩ | cases a1
  have e1 : okPt (.tuple [a, b, c]) = true := by
    show (decide (3 ≤ 1000) && ((shS a && (okNs a && okIts a)) && ((shS b && (okNs b && okIts b)) && ((shS c && (okNs c && okIts c)) && true)))) = true
    rw [a2, na.1, na.2, shS_row hb, shS_row hc, okNs_row hb (by decide) (fun e h => (gE_at h).2.1), okNs_row hc (by decide) (fun e h => (gI_at h).1.2), okIts_row hb (by decide) (fun e h => okIt_flat h), okIts_row hc (by decide) (fun e h => (gI_at h).1.1)]
    rfl
  have e2 : flPt (.tuple [a, b, c]) = true := List.all_eq_true.mpr fun y m => (gE_at (hb.its.2 y m)).1
  have e3 : gd true (.tuple [a, b, c]) = true := by
    show (gd true a && (gd true b && (gd true c && true))) = true
    rw [a3, qb.1, qc.1]
    rfl
  have e4 : PyData.weight (.tuple [a, b, c]) ≤ 8000 := by
    show PyData.weight a + 1 + (PyData.weight b + 1 + (PyData.weight c + 1 + 0)) ≤ 8000
    omega
  have e5 : PyData.depth (.tuple [a, b, c]) ≤ 6 := by
    show max (PyData.depth a) (max (PyData.depth b) (max (PyData.depth c) 0)) + 1 ≤ 6
    omega
  have e6 : fitX 4 (.tuple [a, b, c]) = true := by
    show (decide (3 ≤ 1000) && (fitX 3 a && (fitX 3 b && (fitX 3 c && true)))) = true
    rw [fit_flat ha, fit_row hb (by decide) fun e h => fit_flat h, fit_row hc (by decide) fun e h => (gI_at h).2.1.2]
    rfl
  unfold gP
  rw [e1, e2, e3, e6, decide_eq_true e4, decide_eq_true e5]
  rfl
theorem fit_mono : ∀ {n : Nat} {d : PyData}, fitX n d = true → fitX (n + 1) d = true
  | 0, d, h => by cases d <;> first | rfl | exact h | cases h
  | n + 1, .list xs, h => by
    obtain ⟨h1, h2⟩ := Bool.and_eq_true_iff.mp (show (decide (xs.length ≤ 1000) && xs.all (fitX n)) = true from h)
    show (decide (xs.length ≤ 1000) && xs.all (fitX (n + 1))) = true
    rw [h1, Bool.true_and]
    exact List.all_eq_true.mpr fun y m => fit_mono (List.all_eq_true.mp h2 y m)
  | n + 1, .tuple xs, h => by
    obtain ⟨h1, h2⟩ := Bool.and_eq_true_iff.mp (show (decide (xs.length ≤ 1000) && xs.all (fitX n)) = true from h)
    show (decide (xs.length ≤ 1000) && xs.all (fitX (n + 1))) = true
    rw [h1, Bool.true_and]
    exact List.all_eq_true.mpr fun y m => fit_mono (List.all_eq_true.mp h2 y m)
  | n + 1, .none, _ => rfl
  | n + 1, .bool _, _ => rfl
  | n + 1, .int _, _ => rfl
  | n + 1, .str _, _ => rfl
  | n + 1, .dict ps, h => h
/-- a plan, right or bent -/
structure PlanG (dp de di : PyData) : Prop where
  p : RowG gP 20 dp
  e : RowG gE 20 de
  i : RowG gI 70 di
theorem PlanG.ok {dp de di : PyData} (h : PlanG dp de di) : okPlan dp de di = true ∧ flPlan dp de = true := by
  have e1 : okPts dp = true := by
    obtain ⟨l, a⟩ := h.p.its
    unfold okPts
    rw [decide_eq_true (by omega : (its dp).length ≤ 1000), Bool.true_and]
    exact List.all_eq_true.mpr fun y m => (gP_at (a y m)).1.1
  refine ⟨?_, ?_⟩
  · unfold okPlan
    rw [e1, okNs_row h.e (by decide) (fun e h => (gE_at h).2.1), okIts_row h.i (by decide) (fun e h => (gI_at h).1.1)]
    rfl
  · unfold flPlan
    rw [Bool.and_eq_true]
    exact ⟨List.all_eq_true.mpr fun y m => (gP_at (h.p.its.2 y m)).2.1, List.all_eq_true.mpr fun y m => (gE_at (h.e.its.2 y m)).1⟩
theorem PlanG.big {dp de di : PyData} (h : PlanG dp de di) : gd true (.tuple [dp, de, di]) = true ∧ PyData.weight (.tuple [dp, de, di]) ≤ 1000000 ∧ PyData.depth (.tuple [dp, de, di]) ≤ 20 := by
  have qp := h.p.sum (w := 8000) (k := 6) fun e h => ⟨(gP_at h).2.2.1, (gP_at h).2.2.2.1, (gP_at h).2.2.2.2⟩
  have qe := h.e.sum (w := 10) (k := 1) fun e h => ⟨(gE_at h).2.2.1, (gE_at h).2.2.2.1, (gE_at h).2.2.2.2⟩
  have qi := h.i.sum (w := 100) (k := 3) fun e h => ⟨(gI_at h).2.1.1, (gI_at h).2.2.1, (gI_at h).2.2.2⟩
  refine ⟨?_, ?_, ?_⟩
  · show (gd true dp && (gd true de && (gd true di && true))) = true
    rw [qp.1, qe.1, qi.1]
    rfl
  · show PyData.weight dp + 1 + (PyData.weight de + 1 + (PyData.weight di + 1 + 0)) ≤ _
    omega
  · show max (PyData.depth dp) (max (PyData.depth de) (max (PyData.depth di) 0)) + 1 ≤ 20
    omega
theorem sz_wei : ∀ (n : Nat) (d : PyData), szD n d ≤ PyData.weight d + 1 := fun n => by
  induction n with
  | zero =>
    intro d
    have : szD 0 d = 0 := by cases d <;> rfl
    omega
  | succ n ih =>
    have g : ∀ xs : List PyData, (xs.map (szD n)).sum ≤ PyData.weightAll xs := fun xs => by
      induction xs with
      | nil => exact Nat.zero_le _
      | cons x r ihr =>
        rw [List.map_cons, List.sum_cons]
        have := ih x
        show _ ≤ PyData.weight x + 1 + PyData.weightAll r
        omega
    intro d
    cases d with
    | list xs =>
      show 1 + (xs.map (szD n)).sum ≤ PyData.weightAll xs + 1
      have := g xs
      omega
    | tuple xs =>
      show 1 + (xs.map (szD n)).sum ≤ PyData.weightAll xs + 1
      have := g xs
      omega
    | _ => exact Nat.zero_le _
theorem PlanG.fit {dp de di : PyData} (h : PlanG dp de di) : fitX 5 dp = true ∧ fitX 5 de = true ∧ fitX 5 di = true ∧ szD 5 dp ≤ 200000 ∧ szD 5 de ≤ 200000 ∧ szD 5 di ≤ 200000 := by
  have qp := h.p.sum (w := 8000) (k := 6) fun e h => ⟨(gP_at h).2.2.1, (gP_at h).2.2.2.1, (gP_at h).2.2.2.2⟩
  have qe := h.e.sum (w := 10) (k := 1) fun e h => ⟨(gE_at h).2.2.1, (gE_at h).2.2.2.1, (gE_at h).2.2.2.2⟩
  have qi := h.i.sum (w := 100) (k := 3) fun e h => ⟨(gI_at h).2.1.1, (gI_at h).2.2.1, (gI_at h).2.2.2⟩
  have z1 := sz_wei 5 dp
  have z2 := sz_wei 5 de
  have z3 := sz_wei 5 di
  have m2 : ∀ {e : PyData}, fitX 2 e = true → fitX 4 e = true := fun {e} h => fit_mono (fit_mono h)
  exact ⟨fit_row h.p (by decide) fun e h => (gP_at h).1.2, fit_row h.e (by decide) fun e h => fit_flat h, fit_row h.i (by decide) fun e h => m2 (gI_at h).2.1.2, by omega, by omega, by omega⟩
/-- a part as it is drawn -/
def DrawnP (z : PyData) : Prop := ∃ (n : Str) (es ds : List PyData), z = .tuple [.str n, .list es, .list ds] ∧ nameB (.str n) = true ∧ es.length ≤ 3 ∧ (∀ e ∈ es, gE e = true) ∧ ds.length ≤ 32 ∧ (∀ e ∈ ds, gI e = true) ∧ gd false z = true
theorem DrawnP.g {z : PyData} (h : DrawnP z) : gP z = true := by
  obtain ⟨n, es, ds, rfl, hn, l1, h1, l2, h2, _⟩ := h
  exact gP_of (isl := true) (gE_name hn) (.inr ⟨es, rfl, by omega, h1⟩) (.inr ⟨ds, rfl, by omega, h2⟩)
/-- a plan as it is drawn -/
structure DrawnPlan (ps es ds : List PyData) : Prop where
  p : ps.length ≤ 4 ∧ ∀ z ∈ ps, DrawnP z
  e : es.length ≤ 3 ∧ ∀ z ∈ es, gE z = true
  i : ds.length ≤ 32 ∧ ∀ z ∈ ds, gI z = true
  ok : planF (.list ps) (.list es) (.list ds) = none
theorem odd_its : oddOi.all gI = true ∧ oddOp.all gP = true := by
  constructor <;> decide +kernel
theorem part_right {ah : Str → Option Nat} {n : Str} {es : List Str} {ds : List PyData} (hn : nameB (.str n) = true) (h : itemsF ah (.list (es.map .str)) (.list ds) = none) : partB ah (.tuple [.str n, .list (es.map .str), .list ds]) = true := by
  unfold itemsF at h
  have q1 : fne (.list (es.map .str)) = none := by
    cases q : fne (.list (es.map .str)) with
    | none => rfl
    | some j =>
      rw [q] at h
      cases h
  rw [q1] at h
  have q2 : fni ah (.list ds) = none := by
    cases q : fni ah (.list ds) with
    | none => rfl
    | some j =>
      rw [q] at h
      cases h
  rw [q2] at h
  have q3 : fnt (wiresAll (.list (es.map .str)) (.list ds)) = none := by
    cases q : fnt (wiresAll (.list (es.map .str)) (.list ds)) with
    | none => rfl
    | some j =>
      rw [q] at h
      cases h
  show (true && (nameB (.str n) && ((fne (.list (es.map .str))).isNone && ((fni ah (.list ds)).isNone && (fnt (wiresAll (.list (es.map .str)) (.list ds))).isNone)))) = true
  rw [hn, q1, q2, q3]
  rfl
/-- the parts that are drawn so far, and what is known of them -/
structure PartsOk (ps : List PyData) (kn : List (Str × Nat)) (ah : Str → Option Nat) : Prop where
  run : cpL ps ah0 0 = (none, ah)
  at_ : ∀ p ∈ kn, ah p.1 = some p.2
  no : ∀ s, (∀ p ∈ kn, p.1 ≠ s) → ah s = none
theorem PartsOk.nil : PartsOk [] [] ah0 := ⟨rfl, (fun _ m => nomatch m), fun _ _ => rfl⟩
theorem PartsOk.snoc {ps : List PyData} {kn : List (Str × Nat)} {ah : Str → Option Nat} {n : Str} {es : List Str} {ds : List PyData} (P : PartsOk ps kn ah) (nw : ∀ p ∈ kn, p.1 ≠ n) (hn : nameB (.str n) = true) (h : itemsF ah (.list (es.map .str)) (.list ds) = none) :
    PartsOk (ps ++ [.tuple [.str n, .list (es.map .str), .list ds]]) (kn ++ [(n, es.length)]) (ahPut ah n es.length) := by
  have e2 : partLen (.tuple [.str n, .list (es.map .str), .list ds]) = es.length := List.length_map ..
  refine ⟨?_, fun p m => ?_, fun s h2 => ?_⟩
  · rw [cpL_snoc P.run, if_pos]
    · rw [e2]
      rfl
    · rw [part_right hn h]
      show (true && !(ah n).isSome) = true
      rw [P.no n nw]
      rfl
  · unfold ahPut
    rcases List.mem_append.mp m with m | m
    · rw [if_neg (nw p m)]
      exact P.at_ p m
    · rw [List.mem_singleton.mp m, if_pos rfl]
  · unfold ahPut
    have := h2 (n, es.length) (List.mem_append_right _ (List.mem_singleton.mpr rfl))
    rw [if_neg (fun z => this z.symm)]
    exact P.no s fun p m => h2 p (List.mem_append_left _ m)
end K14.T5
namespace K14.T5
open T27 T3
open K14.Gn
open PySem PySem.W PySem.Calls PyProof.Rows L2 LamX
open He (ga)
open Kz (SS ExtS ExtS.trans small4 same_new boot_in boot_li boot_isi Has pe_has noE PSs.of_eq seqI new_ext)
/-! ### _law_loose, empty dicts among it -/
theorem scLoX : FnScope T27.NLo ["stream", "thing"] (defScope sLo) := ⟨rfl, rfl, rfl, by decide +kernel, rfl, by decide +kernel, by decide +kernel⟩
theorem bdLoX : defBody sLo = [stOf sLo 0, stOf sLo 1, stOf sLo 2, stOf sLo 3] := by rfl
def scOfKX : Stmt → Scope
  | .Assign _ (.ListComp _ _ sc _) _ => sc
  | .If _ [.Return (some (.Call _ [.ListComp _ _ sc _] _ _)) _] _ _ => sc
  | _ => default
def loSc1X : Scope := scOfKX (stOf sLo 0)
def loSc2X : Scope := scOfKX (stOf sLo 2)
theorem chkL1X : blkC T27.NLo (defScope sLo) loSc1X [("key", 4)] = true := by decide +kernel
theorem chkL2X : blkC T27.NLo (defScope sLo) loSc2X [("part", 3)] = true := by decide +kernel
section
variable {P : Program} {w : World} {K : Frag} {mg : Str → Option Value} {base : Heap}
/-- an empty dict -/
theorem lo_dictX {k : Nat} (hk : 2 ≤ k) {n : Nat} {f : Addr} {cdv : Value} {A : Around} {outer : List Env} {s : Shared} {H : Hp} {Q : VK} {XE : XK} (hr : Room k (A.deeper (envOfC "_law_loose" (defScope sLo) s.heap.objs.size f cdv))) (M : Has P w K mg base "_law_mixed" 2 ["stream", "some"] spMxW)
    (mi : mg "isinstance" = none) (ml : mg "list" = none) (md : mg "dict" = none) {S : List Addr} {l li : Addr} {c : Int} {v : V} {d : PyData} (m1 : l ∈ S) (m2 : li ∈ S) (ins : Ins S H) (hv : Th (Hid S H) v d) (hf : fitX n d = true) (hs : Spr H l li c) (hc : c + (szD n d : Nat) < 900000000)
    (k : ∀ (H' : Hp) (v' : V) (d' : PyData) (c' : Int), ExtS l li H H' → Spr H' l li c' → c' ≤ c + (szD n d : Nat) → Th (Hid S H') v' d' → Lq d d' → Q v' H') (di : isD d = true) :
    ∃ t, PSs (cxOf CX0 P w K mg base T27.NLo "_law_loose" (defScope sLo) f cdv A outer s H XE) (defBody sLo) t ∧ t { nx := fun _ H' => Q .non H', rt := Q } (L2.start T27.NLo [.ref l, v]) H := by
  have h0 : PS (cxOf CX0 P w K mg base T27.NLo "_law_loose" (defScope sLo) f cdv A outer s H XE).nox (stOf sLo 0) _ := ps_if (pt_val (pe_callB call_isi (by rfl) mi boot_isi (pa_cons (pv 1) (pa_cons (pe_bltn (by rfl) md boot_di (v := .ty "dict") rfl) pa_nil)))) (pss_one (ps_ret (pe_callTy (call_dictP rfl) (by rfl) md boot_di (pa_cons (pe_lc (X := (cxOf CX0 P w K mg base T27.NLo "_law_loose" (defScope sLo) f cdv A outer s H XE).nox) (scope := loSc1X) (own := [("key", 4)]) (g := gName 4) (tt := tYes) (te := fun _ _ _ => False) rfl scLoX.nd
    (pi_list (pe_has M (hr.mono hk) (by rfl) (pa_cons (pv 0) (pa_cons (pe_callTy (call_list_dK rfl) (by rfl) ml boot_li (pa_cons (pv 1) pa_nil)) pa_nil)))) (blkOk_by chkL1X) (fun _ _ _ _ _ => pg_name (i := 4) scLoX.nd rfl (Or.inl rfl)) (fun _ _ _ _ _ => pts_nil)
    (fun s0 H0 C0 cl0 fp0 => pe_never)) pa_nil)))) pss_nil
  refine ⟨_, PSs.nox (PSs.of_eq bdLoX (pss_cons h0 pss_never)), ?_⟩
  clear h0
  have ed := fitX_dict di hf
  subst ed
  cases hv with
  | @dct a kvs _ ha r =>
    cases r
    have ha' := hid_up _ _ ha
    refine ⟨.ref a, rfl, .ref a, _, _, _, _, rfl, .ty _, .base (.dK ha'), is_di (.dict []), _, rfl, iteT ?_⟩
    refine ⟨.ref l, rfl, .ref a, rfl, a, [], rfl, ha', fun q nq => ?_⟩
    have S1 := same_new (o := .lst []) nq
    refine ⟨l, li, q, c, [], rfl, hs.same S1, upd_same, by decide, by omega, fun H1 r ys e1 s1 nr r1 r2 hy pm => ?_⟩
    obtain rfl := List.Perm.eq_nil pm
    refine ⟨r, rfl, ⟨[], .inl (.inl hy)⟩, fun D hD => lc_list (xs := []) (te := fun _ _ _ => False) (g := gName 4) (tt := tYes) (fun i H2 => i = 0 ∧ H2 = upd H1 D (.lst [])) ⟨rfl, rfl⟩ (fun i H2 hi e => ?_) (fun i x H2 hi e => ?_) (fun H2 e => ?_)⟩
    · obtain ⟨_, rfl⟩ := e
      exact .inl (.inl (same_new hD _ _ hy))
    · simp at hi
    · obtain ⟨_, rfl⟩ := e
      have e0 : c + (([] : List V).length : Nat) = c := by simp
      rw [e0] at s1
      refine ⟨D, [], [], rfl, .inl (.inl upd_same), .nil, fun p np => ?_⟩
      have S2 := same_new (o := .lst []) hD
      have S3 := same_new (o := .dK []) np
      have E1 : ExtS l li H H1 := (same_S S1).trans e1
      have I1 : Ins S H1 := ins_S ins E1 s1
      refine k _ _ (.dict []) c (E1.trans ((same_S S2).trans (same_S S3))) ((s1.same S2).same S3) (by omega) (.dct (hid_of ((I1.same S2).new np) upd_same fun ps z => nomatch z) .nil) (.flat rfl)
theorem okX_lo {f : Addr} {fd : FuncData} (F : FunD K "_law_loose" "_law_loose" (defArgs sLo) (defBody sLo) (defScope sLo) [] [] f fd) (D : Has P w K mg base "_law_draw" 1 ["stream", "many"] spDrW) (M : Has P w K mg base "_law_mixed" 2 ["stream", "some"] spMxW) (mm : mg "_law_loose" = some (.ref f)) (kp : keepIn K (.ref f) = true) (bd : L2.Binds K fd ["stream", "thing"] [])
    (mi : mg "isinstance" = none) (ml : mg "list" = none) (mt : mg "tuple" = none) (md : mg "dict" = none) : ∀ n, FnOk P w K mg base CX0 (n + 3) f fd ["stream", "thing"] (T27.spLo n) := by
  intro n
  induction n with
  | zero =>
    refine F.ok scLoX (fun vs H Q E h => T27.lo_len h) (fun cdv A outer s H vs Q XE hr h => ?_)
    obtain ⟨S, l, li, c, v, d, rfl, m1, m2, ins, hv, hf, hs, hc, k⟩ := h
    cases di : isD d with
    | true => exact lo_dictX (by decide) hr M mi ml md m1 m2 ins hv hf hs hc k di
    | false =>
      have l0 : isL d = false := by
        cases q : isL d with
        | false => rfl
        | true =>
          obtain ⟨m, z, _⟩ := fitX_seq q hf
          cases z
      have hV := hv.ext hid_up
      refine ⟨_, PSs.nox (pss_cons (ps_if (pt_val (pe_callB call_isi (by rfl) mi boot_isi (pa_cons (pv 1) (pa_cons (pe_bltn (by rfl) md boot_di (v := .ty "dict") rfl) pa_nil)))) (pss_one ps_never) pss_nil)
        (pss_cons (ps_if (pt_not (pt_val (pe_callB call_isiT (by rfl) mi boot_isi (pa_cons (pv 1) (pa_cons (pe_tup (pa_cons (pe_bltn (by rfl) ml boot_li (v := .ty "list") rfl) (pa_cons (pe_bltn (by rfl) mt boot_tu (v := .ty "tuple") rfl) pa_nil))) pa_nil))))) (pss_one (ps_ret (pv 1))) pss_nil) pss_never)), ?_⟩
      refine ⟨v, rfl, v, _, _, _, _, rfl, .ty _, hV.ty, is_di d, _, rfl, ?_⟩
      rw [di]
      refine iteF ⟨v, rfl, small4 2, fun p np => ⟨v, p, _, _, _, _, rfl, upd_same, .cons (.ty _) (.cons (.ty _) .nil), (hV.ext (same_new np)).ty, is_lt d, _, rfl, ?_⟩⟩
      rw [l0]
      exact iteT ⟨v, rfl, k _ v d c (same_S (same_new np)) (hs.same (same_new np)) (by omega) (hv.ext (hid_same (same_new np))) (.flat l0)⟩
  | succ n ih =>
    have SELF : Has P w K mg base "_law_loose" (n + 3) ["stream", "thing"] (T27.spLo n) := ⟨f, fd, mm, kp, bd, ih⟩
    refine F.ok scLoX (fun vs H Q E h => T27.lo_len h) (fun cdv A outer s H vs Q XE hr h => ?_)
    obtain ⟨S, l, li, c, v, d, rfl, m1, m2, ins, hv, hf, hs, hc, k⟩ := h
    cases di : isD d with
    | true => exact lo_dictX (by omega) hr M mi ml md m1 m2 ins hv hf hs hc k di
    | false =>
      have hV := hv.ext hid_up
      have h2 : PS (cxOf CX0 P w K mg base T27.NLo "_law_loose" (defScope sLo) f cdv A outer s H XE).nox (stOf sLo 2) _ := ps_setLc (X := (cxOf CX0 P w K mg base T27.NLo "_law_loose" (defScope sLo) f cdv A outer s H XE).nox) (i := 2) (te := tCall (T27.spLo n) [] noE (tCons (tVar 0) (tCons (tVar 3) tNil))) (scope := loSc2X) (own := [("part", 3)]) (g := gName 3) (tt := tYes) rfl scLoX.nd rfl rfl (sw_true rfl rfl rfl (by decide +kernel)) (pi_or (pi_list (pv 1)) (pi_tup (pv 1))) (blkOk_by chkL2X) (fun _ _ _ _ _ => pg_name (i := 3) scLoX.nd rfl (Or.inl rfl)) (fun _ _ _ _ _ => pts_nil)
          (fun s0 H0 C0 cl0 fp0 => by exact pe_has SELF hr (by rfl) (pa_cons (pv 0) (pa_cons (pv 3) pa_nil)))
      have h3 : PS (cxOf CX0 P w K mg base T27.NLo "_law_loose" (defScope sLo) f cdv A outer s H XE).nox (stOf sLo 3) _ := ps_ret (pe_ifExp (pt_cmpR op_eq (pe_has D (hr.mono (by omega)) (by rfl) (pa_cons (pv 0) (pa_cons pe_int pa_nil))) pe_int (nomark _)) (pv 2) (pe_callTy call_tuple_of (by rfl) mt boot_tu (pa_cons (pv 2) pa_nil)))
      refine ⟨_, PSs.nox (PSs.of_eq bdLoX (pss_cons (ps_if (pt_val (pe_callB call_isi (by rfl) mi boot_isi (pa_cons (pv 1) (pa_cons (pe_bltn (by rfl) md boot_di (v := .ty "dict") rfl) pa_nil)))) (pss_one ps_never) pss_nil)
        (pss_cons (ps_if (pt_not (pt_val (pe_callB call_isiT (by rfl) mi boot_isi (pa_cons (pv 1) (pa_cons (pe_tup (pa_cons (pe_bltn (by rfl) ml boot_li (v := .ty "list") rfl) (pa_cons (pe_bltn (by rfl) mt boot_tu (v := .ty "tuple") rfl) pa_nil))) pa_nil))))) (pss_one (ps_ret (pv 1))) pss_nil)
        (pss_cons h2 (pss_one h3))))), ?_⟩
      clear h2 h3
      refine ⟨v, rfl, v, _, _, _, _, rfl, .ty _, hV.ty, is_di d, _, rfl, ?_⟩
      rw [di]
      refine iteF ⟨v, rfl, small4 2, fun p np => ⟨v, p, _, _, _, _, rfl, upd_same, .cons (.ty _) (.cons (.ty _) .nil), (hV.ext (same_new np)).ty, is_lt d, _, rfl, ?_⟩⟩
      have e1 : ExtS l li H (upd H p (.tup [.ty "list", .ty "tuple"])) := same_S (same_new np)
      have s1 := hs.same (same_new (o := .tup [.ty "list", .ty "tuple"]) np)
      cases l0 : isL d with
      | false => exact iteT ⟨v, rfl, k _ v d c e1 s1 (by omega) (hv.ext (hid_same (same_new np))) (.flat l0)⟩
      | true =>
        obtain ⟨m, em, len, fits, esz⟩ := fitX_seq l0 hf
        obtain rfl : n = m := Nat.succ.inj em
        rw [esz] at hc k
        refine iteF ?_
        clear hV
        obtain ⟨a, xs, rfl, r, hx⟩ := hv.seq (K := K) l0
        have lx : xs.length = (its d).length := r.length
        have kind : (∀ {G : Hp}, ExtS l li H G → G a = some (.lst xs)) ∨ (∀ {G : Hp}, ExtS l li H G → G a = some (.tup xs)) := by
          rcases hx with q | q
          · obtain ⟨q1, q2, _⟩ := hid_at q
            exact .inl fun e => e _ _ q2 (fun z => q1 (by rw [z]; exact m1)) (fun z => q1 (by rw [z]; exact m2))
          · obtain ⟨q1, q2, _⟩ := hid_at q
            exact .inr fun e => e _ _ q2 (fun z => q1 (by rw [z]; exact m1)) (fun z => q1 (by rw [z]; exact m2))
        generalize upd H p (.tup [.ty "list", .ty "tuple"]) = H1 at e1 s1 ⊢
        let Pv (D0 : Addr) (j : Nat) (H2 : Hp) : Prop := ∃ (ys : List V) (ds : List PyData) (c2 : Int), H2 D0 = some (.lst ys) ∧ ys.length = j ∧ ThAll (Hid (D0 :: S) H2) ys ds ∧ LqAll ((its d).take j) ds ∧ ExtS l li H H2 ∧ Spr H2 l li c2 ∧ c2 ≤ c + ((((its d).take j).map (szD n)).sum : Nat)
        have start : ∀ D0, H1 D0 = none → Pv D0 0 (upd H1 D0 (.lst [])) := fun D0 hD => ⟨[], [], c, upd_same, rfl, .nil, .nil, e1.trans (same_S (same_new hD)), s1.same (same_new hD), by simp⟩
        have turn : ∀ D0, H1 D0 = none → ∀ (j : Nat) (x : V) (H2 : Hp), xs[j]? = some x → Pv D0 j H2 → ∀ (σ2 : L2.St), σ2[0]? = some (some (.ref l)) → σ2[3]? = some (some x) →
            tCall (T27.spLo n) [] noE (tCons (tVar 0) (tCons (tVar 3) tNil)) σ2 H2 fun y H4 => ∃ acc, H4 D0 = some (.lst acc) ∧ acc.length < sizeLine ∧ Pv D0 (j + 1) (upd H4 D0 (.lst (acc ++ [y]))) := by
          intro D0 hD j x H2 hj hp σ2 g0 g3
          obtain ⟨ys, ds, c2, q1, q2, q3, q4, q5, q6, q7⟩ := hp
          have nD := s1.new hD
          have HD : H D0 = none := ext_none e1 hD nD.1 nD.2
          obtain ⟨z, hz, tz⟩ := r.get hj
          have jl : j < (its d).length := (List.getElem?_eq_some_iff.mp hz).1
          have et : (its d).take (j + 1) = (its d).take j ++ [z] := by
            rw [List.take_add_one, hz]
            rfl
          have esum : (((its d).take (j + 1)).map (szD n)).sum = (((its d).take j).map (szD n)).sum + szD n z := by
            rw [et, List.map_append, List.sum_append]
            simp
          have eall : (((its d).take (j + 1)).map (szD n)).sum ≤ ((its d).map (szD n)).sum := by
            have e := List.take_append_drop (j + 1) (its d)
            calc (((its d).take (j + 1)).map (szD n)).sum ≤ (((its d).take (j + 1)).map (szD n)).sum + (((its d).drop (j + 1)).map (szD n)).sum := Nat.le_add_right _ _
              _ = ((its d).map (szD n)).sum := by rw [← List.sum_append, ← List.map_append, e]
          refine ⟨.ref l, g0, x, g3, D0 :: S, l, li, c2, x, z, rfl, List.mem_cons_of_mem _ m1, List.mem_cons_of_mem _ m2, (ins_S ins q5 q6).cons q1, tz.ext (hid_D m1 m2 HD q5), fits z (List.mem_of_getElem? hz), q6, by omega, fun H4 v4 d4 c4 e4 s4 b4 t4 ld4 => ?_⟩
          have hD4 := e4 _ _ q1 nD.1 nD.2
          refine ⟨ys, hD4, by rw [q2, sizeLine_eq]; omega, ys ++ [v4], ds ++ [d4], c4, upd_same, by rw [List.length_append, q2]; rfl, ?_, by rw [et]; exact q4.snoc ld4, fun b o eb z1 z2 => ?_, s4.upd nD.1 nD.2, by rw [esum]; omega⟩
          · refine ThAll.snoc (t4.ext (hid_upd (List.mem_cons_self ..))) ((q3.ext (hid_S (List.mem_cons_of_mem _ m1) (List.mem_cons_of_mem _ m2) e4)).ext (hid_upd (List.mem_cons_self ..)))
          · rw [upd_ne (ne_of_none eb HD)]
            exact e4 b o (q5 b o eb z1 z2) z1 z2
        have post : ∀ D0, H1 D0 = none → ∀ H2, Pv D0 xs.length H2 → ∃ c2, Spr H2 l li c2 ∧ c2 < 900000000 ∧ ∀ (H5 : Hp), ExtS l li H2 H5 → Spr H5 l li (c2 + 1) → Q (.ref D0) H5 ∧ ∃ ys, H5 D0 = some (.lst ys) ∧ ∀ t, H5 t = none → Q (.ref t) (upd H5 t (.tup ys)) := by
          intro D0 hD H2 hp
          obtain ⟨ys, ds, c2, q1, q2, q3, q4, q5, q6, q7⟩ := hp
          have nD := s1.new hD
          have HD : H D0 = none := ext_none e1 hD nD.1 nD.2
          rw [lx, List.take_length] at q4 q7
          obtain ⟨g1, g2⟩ := lq_seq l0 q4
          refine ⟨c2, q6, by omega, fun H5 e5 s5 => ?_⟩
          have nS : D0 ∉ S := fun z => by
            obtain ⟨o, q⟩ := ins D0 z
            rw [HD] at q
            cases q
          have hD5 := e5 _ _ q1 nD.1 nD.2
          have t5 := (q3.ext (hid_S (List.mem_cons_of_mem _ m1) (List.mem_cons_of_mem _ m2) e5)).ext (hid_less (S := S) (fun b m => List.mem_cons_of_mem _ m))
          refine ⟨k H5 _ _ _ (q5.trans e5) s5 (by omega) (.lst (hid_of nS hD5 (fun ps z => nomatch z)) t5) g1, ys, hD5, fun t nt => ?_⟩
          have nT := s5.new nt
          exact k _ _ _ _ ((q5.trans e5).trans (same_S (same_new nt))) (s5.same (same_new nt)) (by omega) (.tup (hid_of ((ins_S (ins_S ins q5 q6) e5 s5).new nt) upd_same (fun ps z => nomatch z)) (t5.ext (hid_same (same_new nt)))) g2
        rcases kind with kd | kd
        · refine .inl ⟨.ref a, rfl, a, rfl, ⟨xs, .inl (.inl (kd e1))⟩, fun D0 hD => lc_list (xs := xs) (Pv D0) (start D0 hD) (fun i H2 _ e => ?_) (fun i x H2 hi e => ?_) (fun H2 e => ?_)⟩
          · obtain ⟨_, _, _, _, _, _, _, q5, _⟩ := e
            exact .inl (.inl (kd q5))
          · refine ⟨rfl, ?_⟩
            unfold tYes
            show (if true = true then _ else _)
            rw [if_pos rfl]
            exact turn D0 hD i x H2 hi e _ rfl rfl
          · obtain ⟨c2, w1, w2, w3⟩ := post D0 hD H2 e
            refine ⟨.ref l, rfl, l, li, c2, 3, rfl, w1, by decide, by decide, by omega, fun H5 q e5 s5 q0 q1 => ?_⟩
            obtain ⟨z1, ys, z2, z3⟩ := w3 H5 e5 s5
            exact ⟨rfl, _, rfl, ite2 (fun _ => ⟨.ref D0, rfl, z1⟩) (fun _ => ⟨.ref D0, rfl, D0, ys, rfl, .inl ⟨.inl (.inl z2), z3⟩⟩)⟩
        · refine .inr ⟨.ref a, rfl, a, rfl, ⟨xs, .inl (.inl (kd e1))⟩, fun D0 hD => lc_tup (xs := xs) (Pv D0) (start D0 hD) (fun i H2 _ e => ?_) (fun i x H2 hi e => ?_) (fun H2 e => ?_)⟩
          · obtain ⟨_, _, _, _, _, _, _, q5, _⟩ := e
            exact .inl (.inl (kd q5))
          · refine ⟨rfl, ?_⟩
            unfold tYes
            show (if true = true then _ else _)
            rw [if_pos rfl]
            exact turn D0 hD i x H2 hi e _ rfl rfl
          · obtain ⟨c2, w1, w2, w3⟩ := post D0 hD H2 e
            refine ⟨.ref l, rfl, l, li, c2, 3, rfl, w1, by decide, by decide, by omega, fun H5 q e5 s5 q0 q1 => ?_⟩
            obtain ⟨z1, ys, z2, z3⟩ := w3 H5 e5 s5
            exact ⟨rfl, _, rfl, ite2 (fun _ => ⟨.ref D0, rfl, z1⟩) (fun _ => ⟨.ref D0, rfl, D0, ys, rfl, .inl ⟨.inl (.inl z2), z3⟩⟩)⟩
end
end K14.T5
namespace K14.T5
open T27 T3
open K14.Gn
open PySem PySem.W PySem.Calls PyProof.Rows L2 LamX NdefX
open He (ga)
open Kz (SS ExtS ExtS.trans small4 same_new boot_in boot_li boot_isi Has pe_has noE PSs.of_eq seqI new_ext X1 shaped_int dpAll_int)
/-! ### _law_plan_drawn -/
abbrev sDw : Stmt := topS 44
abbrev NDw : List Str := ["stream", "many", "most", "parts", "known", "names", "k", "ends"]
theorem scDw : FnScope NDw ["stream", "many", "most"] (defScope sDw) := ⟨rfl, rfl, rfl, by decide +kernel, rfl, by decide +kernel, by decide +kernel⟩
theorem bdDw : defBody sDw = [stOf sDw 0, stOf sDw 1, stOf sDw 2, stOf sDw 3, stOf sDw 4] := by rfl
def fbDw (i : Nat) : Stmt := (forBody (stOf sDw 2)).getD i (.Pass ⟨0, 0, 0, 0⟩)
theorem bdDwF : forBody (stOf sDw 2) = [fbDw 0, fbDw 1, fbDw 2] := by rfl
def partPool : List Str := ["p", "pp", "q", "part1", "twist", "usednet9", "a", "w1"]
theorem pool_nm : (partPool.all fun s => nameB (.str s)) = true ∧ partPool.Nodup := by
  constructor <;> decide +kernel
section
variable {P : Program} {w : World} {K : Frag} {mg : Str → Option Value} {base : Heap}
abbrev XDw (P : Program) (w : World) (K : Frag) (mg : Str → Option Value) (base : Heap) (f : Addr) (cdv : Value) (A : Around) (outer : List Env) (s : Shared) (H : Hp) (XE : XK) : Cx := XC P w K mg base NDw "_law_plan_drawn" sDw f cdv A outer s H XE
structure StD (S : List Addr) (l li pa ka na : Addr) (H : Hp) (names : List Str) (c : Int) (pw : List V) (ps : List PyData) (kv : List V) (kn : List (Str × Nat)) (G : Hp) : Prop where
  E : ExtS l li H G
  sp : Spr G l li c
  a : G pa = some (.lst pw)
  t : ThAll (Hid (pa :: ka :: S) G) pw ps
  b : G ka = some (.lst kv)
  u : ThAll (Hid (pa :: ka :: S) G) kv (kn.map kD)
  n : G na = some (.lst (names.map V.str))
structure PlD (S : List Addr) (l li pa ka na : Addr) (H : Hp) : Prop extends PlI S l li pa ka H where
  na : na ≠ l ∧ na ≠ li ∧ na ≠ pa ∧ na ≠ ka
section
variable {S : List Addr} {l li pa ka na : Addr} {H G G' : Hp} {names : List Str} {c c' : Int} {pw kv : List V} {ps : List PyData} {kn : List (Str × Nat)}
theorem StD.ext (B : StD S l li pa ka na H names c pw ps kv kn G) (p : PlD S l li pa ka na H) (e : ExtS l li G G') (s : Spr G' l li c') : StD S l li pa ka na H names c' pw ps kv kn G' :=
  ⟨B.E.trans e, s, e _ _ B.a p.hl.1 p.hl.2, B.t.ext (hid_S p.m1 p.m2 e), e _ _ B.b p.wl.1 p.wl.2, B.u.ext (hid_S p.m1 p.m2 e), e _ _ B.n p.na.1 p.na.2.1⟩
theorem StD.same (B : StD S l li pa ka na H names c pw ps kv kn G) (p : PlD S l li pa ka na H) (e : L2.Same G G') : StD S l li pa ka na H names c pw ps kv kn G' := B.ext p (same_S e) (B.sp.same e)
theorem StD.ins (B : StD S l li pa ka na H names c pw ps kv kn G) (p : PlD S l li pa ka na H) : Ins (pa :: ka :: S) G := ((ins_S p.ins B.E B.sp).cons B.b).cons B.a
theorem StD.putp {x : V} {z : PyData} (B : StD S l li pa ka na H names c pw ps kv kn G) (p : PlD S l li pa ka na H) (t : Th (Hid (pa :: ka :: S) G) x z) : StD S l li pa ka na H names c (pw ++ [x]) (ps ++ [z]) kv kn (upd G pa (.lst (pw ++ [x]))) :=
  have m : pa ∈ pa :: ka :: S := List.mem_cons_self ..
  ⟨fun b o e n1 n2 => by rw [upd_ne (ne_of_none e p.nh)]; exact B.E b o e n1 n2, B.sp.upd p.hl.1 p.hl.2, upd_same, K14.Gn.ThAll.app (B.t.ext (hid_upd m)) (.cons (t.ext (hid_upd m)) .nil), by rw [upd_ne (fun z => p.ne z.symm)]; exact B.b, B.u.ext (hid_upd m), by rw [upd_ne p.na.2.2.1]; exact B.n⟩
theorem StD.putk {x : V} {q : Str × Nat} (B : StD S l li pa ka na H names c pw ps kv kn G) (p : PlD S l li pa ka na H) (t : Th (Hid (pa :: ka :: S) G) x (kD q)) : StD S l li pa ka na H names c pw ps (kv ++ [x]) (kn ++ [q]) (upd G ka (.lst (kv ++ [x]))) :=
  have m : ka ∈ pa :: ka :: S := List.mem_cons_of_mem _ (List.mem_cons_self ..)
  ⟨fun b o e n1 n2 => by rw [upd_ne (ne_of_none e p.nw)]; exact B.E b o e n1 n2, B.sp.upd p.wl.1 p.wl.2, by rw [upd_ne p.ne]; exact B.a, B.t.ext (hid_upd m), upd_same, by
    rw [List.map_append]
    exact K14.Gn.ThAll.app (B.u.ext (hid_upd m)) (.cons (t.ext (hid_upd m)) .nil), by rw [upd_ne p.na.2.2.2]; exact B.n⟩
end
/-- what stands after k parts -/
def PvD (S : List Addr) (l li pa ka na : Addr) (H : Hp) (names : List Str) (c0 : Int) (k : Nat) (σ : L2.St) (G : Hp) : Prop :=
  ∃ (c : Int) (pw kv : List V) (ps : List PyData) (kn : List (Str × Nat)) (ah : Str → Option Nat) (a6 a7 : Option V), σ = [some (.ref l), some (.int 4), some (.int 3), some (.ref pa), some (.ref ka), some (.ref na), a6, a7] ∧ StD S l li pa ka na H names c pw ps kv kn G ∧ c ≤ c0 + 5000 * (k : Nat) ∧ PartsOk ps kn ah ∧ (∀ z ∈ ps, DrawnP z) ∧ (∀ p ∈ kn, nameB (.str p.1) = true ∧ p.2 ≤ 3) ∧ kn.map (·.1) = names.take k ∧ ps.length = k
def spDw : Sp := fun vs H Q _ => ∃ (S : List Addr) (l li : Addr) (c : Int), vs = [.ref l, .int 4, .int 3] ∧ l ∈ S ∧ li ∈ S ∧ Ins S H ∧ Spr H l li c ∧ c < 400000000 ∧
  ∀ (H' : Hp) (r : Addr) (ps es ds : List PyData) (c' : Int), ExtS l li H H' → Spr H' l li c' → c' ≤ c + 30000 → Th (Hid S H') (.ref r) (.tuple [.list ps, .list es, .list ds]) → DrawnPlan ps es ds → Q (.ref r) H'
theorem ok_dw {f : Addr} {fd : FuncData} (F : FunD K "_law_plan_drawn" "_law_plan_drawn" (defArgs sDw) (defBody sDw) (defScope sDw) [] [] f fd) (M : Has P w K mg base "_law_mixed" 2 ["stream", "some"] spMxW) (DR : Has P w K mg base "_law_draw" 1 ["stream", "many"] spDrW) (EN : Has P w K mg base "_law_ends" 3 ["stream", "many"] spEn) (IT : Has P w K mg base "_law_items" 5 ["stream", "ends", "known", "most"] spIts) (B : LwK mg) (mr : mg "range" = none) : FnOk P w K mg base CX0 6 f fd ["stream", "many", "most"] spDw := by
  refine F.ok scDw (fun vs H Q E h => ?_) (fun cdv A outer s H vs Q XE hr h => ?_)
  · obtain ⟨S, l, li, c, rfl, _⟩ := h
    rfl
  · obtain ⟨S, l, li, c, rfl, ml, mli, ins, hs, hc, k⟩ := h
    have h0 : PS (XDw P w K mg base f cdv A outer s H XE) (stOf sDw 0) _ := ps_par (i := 3) (j := 4) rfl scDw.nd rfl rfl (by decide) rfl rfl (pa_cons (pe_lst pa_nil) (pa_cons (pe_lst pa_nil) pa_nil)) (by rfl)
    have h1 : PS (XDw P w K mg base f cdv A outer s H XE) (stOf sDw 1) _ := ps_set (i := 5) scDw.nd rfl (.inl rfl) (pe_has M (hr.mono (by decide)) (by rfl) (pa_cons (pv 0) (pa_cons (pe_lst (pa_cons pe_str (pa_cons pe_str (pa_cons pe_str (pa_cons pe_str (pa_cons pe_str (pa_cons pe_str (pa_cons pe_str (pa_cons pe_str pa_nil))))))))) pa_nil)))
    have a0 : PS (XDw P w K mg base f cdv A outer s H XE) (fbDw 0) _ := ps_set (i := 7) scDw.nd rfl (.inl rfl) (pe_has EN (hr.mono (by decide)) (by rfl) (pa_cons (pv 0) (pa_cons (pe_has DR (hr.mono (by decide)) (by rfl) (pa_cons (pv 0) (pa_cons pe_int pa_nil))) pa_nil)))
    have a1 : PS (XDw P w K mg base f cdv A outer s H XE) (fbDw 1) _ := ps_expr (pe_bm PySem.F.plainAttrs_list PySem.F.slot_list_append PySem.F.type_list_append mt_append (pv 3) (pa_cons (pe_tup (pa_cons (pe_ix ix_list (pv 5) (pv 6) (fun _ _ => rfl)) (pa_cons (pv 7) (pa_cons (pe_has IT hr (by rfl) (pa_cons (pv 0) (pa_cons (pv 7) (pa_cons (pv 4) (pa_cons (pv 2) pa_nil))))) pa_nil)))) pa_nil))
    have a2 : PS (XDw P w K mg base f cdv A outer s H XE) (fbDw 2) _ := ps_expr (pe_bm PySem.F.plainAttrs_list PySem.F.slot_list_append PySem.F.type_list_append mt_append (pv 4) (pa_cons (pe_tup (pa_cons (pe_ix ix_list (pv 5) (pv 6) (fun _ _ => rfl)) (pa_cons (pe_callB call_len_seq (by rfl) B.len boot_len (pa_cons (pv 7) pa_nil)) pa_nil))) pa_nil))
    have h2 : PS (XDw P w K mg base f cdv A outer s H XE) (stOf sDw 2) _ := ps_for PassesOwn.never rfl (pi_range1 (by rfl) mr (pa_cons (pe_has DR (hr.mono (by decide)) (by rfl) (pa_cons (pv 0) (pa_cons (pv 1) pa_nil))) pa_nil)) (pg_name (i := 6) scDw.nd rfl (.inl rfl)) (PSs.of_eq bdDwF (pss_cons a0 (pss_cons a1 (pss_one a2))))
    have h3 : PS (XDw P w K mg base f cdv A outer s H XE) (stOf sDw 3) _ := ps_set (i := 7) scDw.nd rfl (.inl rfl) (pe_has EN (hr.mono (by decide)) (by rfl) (pa_cons (pv 0) (pa_cons (pe_has DR (hr.mono (by decide)) (by rfl) (pa_cons (pv 0) (pa_cons pe_int pa_nil))) pa_nil)))
    have h4 : PS (XDw P w K mg base f cdv A outer s H XE) (stOf sDw 4) _ := ps_ret (pe_tup (pa_cons (pv 3) (pa_cons (pv 7) (pa_cons (pe_has IT hr (by rfl) (pa_cons (pv 0) (pa_cons (pv 7) (pa_cons (pv 4) (pa_cons (pe_op op_add (pv 2) pe_int) pa_nil))))) pa_nil))))
    refine ⟨_, PSs.nox (PSs.of_eq bdDw (pss_cons h0 (pss_cons h1 (pss_cons h2 (pss_cons h3 (pss_one h4)))))), ?_⟩
    clear h0 h1 h2 h3 h4 a0 a1 a2
    refine par_in5 (cons_in (lst_in5 ⟨small4 0, fun pa nhd => cons_in (lst_in5 ⟨small4 0, fun ka nwd => ⟨.ref pa, .ref ka, rfl, ?_⟩⟩)⟩))
    have z1 : L2.Same H (upd H pa (.lst [])) := same_new nhd
    have z2 : L2.Same (upd H pa (.lst [])) (upd (upd H pa (.lst [])) ka (.lst [])) := same_new nwd
    have hhd : upd (upd H pa (.lst [])) ka (.lst []) pa = some (.lst []) := z2 _ _ upd_same
    have hwd : upd (upd H pa (.lst [])) ka (.lst []) ka = some (.lst []) := upd_same
    have ne : pa ≠ ka := fun z => by
      rw [← z, upd_same] at nwd
      cases nwd
    have nwH : H ka = none := by
      rw [upd_ne (fun z => ne z.symm)] at nwd
      exact nwd
    have zz := z1.trans z2
    generalize upd (upd H pa (.lst [])) ka (.lst []) = G0 at zz hhd hwd
    clear z1 z2
    have nhl := hs.new nhd
    have nwl := hs.new nwH
    have hs0 := hs.same zz
    refine T3.set_intro (i := 5) ⟨.ref l, rfl, small4 8, fun q nq => ?_⟩
    have nql := hs0.new nq
    have s1 := same_new (o := .lst (partPool.map V.str)) nq
    refine ⟨l, li, q, c, partPool.map V.str, rfl, hs0.same s1, upd_same, by decide, by omega, fun G1 na ys e1 sp1 nna na1 na2 hna pm => ?_⟩
    obtain ⟨names, rfl, pn⟩ := strs_of pm
    have lnm : names.length = 8 := by rw [pn.length_eq]; rfl
    have nnd : names.Nodup := pn.nodup_iff.mpr pool_nm.2
    have nnm : ∀ s ∈ names, nameB (.str s) = true := fun s m => List.all_eq_true.mp pool_nm.1 s (pn.mem_iff.mp m)
    have hpa1 := e1 _ _ (s1 _ _ hhd) nhl.1 nhl.2
    have hka1 := e1 _ _ (s1 _ _ hwd) nwl.1 nwl.2
    have PL : PlD S l li pa ka na H := ⟨⟨ml, mli, ins, nhd, nwH, ne, nhl, nwl⟩, na1, na2, (fun z => by rw [z] at nna; exact absurd ((s1 _ _ hhd).symm.trans nna) (fun e => nomatch e)), fun z => by rw [z] at nna; exact absurd ((s1 _ _ hwd).symm.trans nna) (fun e => nomatch e)⟩
    have B : StD S l li pa ka na H names (c + 8) [] [] [] [] G1 := ⟨((same_S (zz.trans s1)).trans e1), sp1, hpa1, .nil, hka1, .nil, hna⟩
    refine ⟨.ref l, rfl, .int 4, rfl, l, li, c + 8, 4, rfl, B.sp, by decide, by decide, by omega, fun G2 r e2 sp2 r0 r1 => ?_⟩
    have B := B.ext PL e2 sp2
    obtain ⟨rn, rfl⟩ := Int.eq_ofNat_of_zero_le r0
    refine ⟨(rn : Nat), rfl, by omega, by omega, ?_⟩
    have ert : ((rn : Nat) : Int).toNat = rn := rfl
    rw [ert]
    refine for_range (lo := 0) (n := rn) (PvD S l li pa ka na H names (c + 9)) ⟨_, [], [], [], [], ah0, none, none, rfl, B, by omega, PartsOk.nil, (fun _ m => nomatch m), (fun _ m => nomatch m), rfl, rfl⟩ (fun kk σ G hk e => ?_) (fun σ G e => ?_)
    · clear B
      obtain ⟨c1, pw, kv, ps, kn, ah, a6, a7, rfl, B, hc1, PO, hps, hkn, hkm, lps⟩ := e
      refine gset (T3.set_intro (i := 7) ?_)
      refine ⟨.ref l, rfl, .ref l, rfl, l, li, c1, 4, rfl, B.sp, by decide, by decide, by omega, fun G3 r3 e3 sp3 r30 r31 => ?_⟩
      obtain ⟨m, rfl⟩ := Int.eq_ofNat_of_zero_le r30
      have B := B.ext PL e3 sp3
      refine ⟨l, li, c1 + 1, m, rfl, B.sp, by omega, by omega, fun G4 ea es e4 sp4 nea ea1 ea2 hea les nd hm => ?_⟩
      have neaM := (B.ins PL).new nea
      have B := B.ext PL e4 sp4
      have lk8 : kn.length = kk := by
        have := congrArg List.length hkm
        rw [List.length_map, List.length_take] at this
        omega
      have kn8 : kk < names.length := by omega
      have hnk : names[kk]? = some names[kk] := List.getElem?_eq_getElem kn8
      generalize names[kk] = nm at hnk
      have lpw : pw.length = kk := by rw [B.t.length, lps]
      have lkv : kv.length = kk := by
        have := B.u.length
        rw [List.length_map, lk8] at this
        exact this
      have atk : atI (names.map V.str) ((0 : Int) + (kk : Nat)) = some (.str nm) := by
        rw [Int.zero_add]
        refine atI_nat ?_
        rw [List.getElem?_map, hnk]
        rfl
      refine dropN ⟨.ref pa, rfl, .inl ⟨rfl, _, .inl (.inl B.a)⟩, cons_in ?_⟩
      refine ⟨.ref na, rfl, .int (0 + (kk : Nat)), rfl, na, _, _, _, rfl, rfl, .inl (.inl B.n), atk, .ref ea, rfl, ?_⟩
      have M1 := PL.m1
      have M2 := PL.m2
      refine ⟨.ref l, rfl, .ref ea, rfl, .ref ka, rfl, .int 3, rfl, pa :: ka :: S, l, li, ea, ka, c1 + 1 + 16, es, kv, kn, 3, ah, rfl, M1, M2, B.ins PL, B.sp, ea1, ea2, PL.wl.1, PL.wl.2, hea, B.b, B.u, nd, hm, by omega, by decide, by decide, hkn, PO.at_, by omega, by omega, fun G5 r5 xs5 ds c5 e5 sp5 hc5 h5 n5 r51 r52 t5 l5 gi5 if5 => ?_⟩
      have n5M := (B.ins PL).new n5
      have B := B.ext PL e5 sp5
      have hea5 := e5 _ _ hea ea1 ea2
      refine ⟨small4 3, fun t nt => ?_⟩
      have tN : Th (Hid (pa :: ka :: S) (upd G5 t (.tup [.str nm, .ref ea, .ref r5]))) (.ref t) (.tuple [.str nm, .list (es.map .str), .list ds]) := .tup (hid_of ((B.ins PL).new nt) upd_same fun ps z => nomatch z) (.cons (.str _) (.cons (.lst (hid_of neaM (same_new nt _ _ hea5) fun ps z => nomatch z) (T27.th_strs es)) (.cons (.lst (hid_of n5M (same_new nt _ _ h5) fun ps z => nomatch z) (t5.ext (hid_same (same_new nt)))) .nil)))
      have B := B.same PL (same_new (o := .tup [.str nm, .ref ea, .ref r5]) nt)
      have hea6 := (same_new (o := .tup [.str nm, .ref ea, .ref r5]) nt) _ _ hea5
      generalize upd G5 t (.tup [.str nm, .ref ea, .ref r5]) = G6 at B tN hea6
      refine ⟨pa, pw, .ref t, rfl, rfl, B.a, by rw [sizeLine_eq]; omega, ?_⟩
      have B := B.putp PL tN
      have hea7 : upd G6 pa (.lst (pw ++ [.ref t])) ea = some (.lst (es.map V.str)) := by
        rw [upd_ne (fun z => neaM (by rw [z]; exact List.mem_cons_self ..))]
        exact hea6
      generalize upd G6 pa (.lst (pw ++ [.ref t])) = G7 at B hea7
      refine dropS' ⟨.ref ka, rfl, .inl ⟨rfl, _, .inl (.inl B.b)⟩, cons_in ?_⟩
      refine ⟨.ref na, rfl, .int (0 + (kk : Nat)), rfl, na, _, _, _, rfl, rfl, .inl (.inl B.n), atk, .ref ea, rfl, ea, _, rfl, .inl (.inl (.inl hea7)), small4 2, fun u nu => ?_⟩
      have tK : Th (Hid (pa :: ka :: S) (upd G7 u (.tup [.str nm, .int ((es.map V.str).length : Nat)]))) (.ref u) (kD (nm, es.length)) := .tup (hid_of ((B.ins PL).new nu) upd_same fun ps z => nomatch z) (.cons (.str _) (.cons (by rw [List.length_map]; exact .int _) .nil))
      have B := B.same PL (same_new (o := .tup [.str nm, .int ((es.map V.str).length : Nat)]) nu)
      generalize upd G7 u (.tup [.str nm, .int ((es.map V.str).length : Nat)]) = G8 at B tK
      refine ⟨ka, kv, .ref u, rfl, rfl, B.b, by rw [sizeLine_eq]; omega, ?_⟩
      have B := B.putk PL tK
      have nmn : nameB (.str nm) = true := nnm _ (List.mem_of_getElem? hnk)
      have nw : ∀ p ∈ kn, p.1 ≠ nm := fun p mp z => by
        have m1 : nm ∈ names.take kk := by
          rw [← hkm, ← z]
          exact List.mem_map.mpr ⟨p, mp, rfl⟩
        obtain ⟨j, hj⟩ := List.getElem?_of_mem m1
        rw [List.getElem?_take] at hj
        split at hj
        · obtain ⟨p1, q1⟩ := List.getElem?_eq_some_iff.mp hj
          obtain ⟨p2, q2⟩ := List.getElem?_eq_some_iff.mp hnk
          have := (List.getElem_inj nnd).mp (q1.trans q2.symm)
          omega
        · cases hj
      have dp : DrawnP (.tuple [.str nm, .list (es.map .str), .list ds]) := ⟨nm, es.map .str, ds, rfl, nmn, by rw [List.length_map]; omega, fun e he => by
        obtain ⟨s, ms, rfl⟩ := List.mem_map.mp he
        exact gE_name (List.all_eq_true.mp names_all s (hm s ms)), l5, fun e he => (gi5 e he).1, by
        show (gdS nm && (gdA false (es.map .str) && (gdA false ds && true))) = true
        rw [(nm_sg nmn).1, (nm_row fun s ms => List.all_eq_true.mp names_all s (hm s ms)).2.1 false, gdA_all.mpr fun e he => (gi5 e he).2]
        rfl⟩
      refine ⟨c5, _, _, _, _, _, _, _, rfl, B, by push_cast; omega, PO.snoc nw nmn if5, fun z hz => ?_, fun p hp => ?_, ?_, by rw [List.length_append, lps]; rfl⟩
      · rcases List.mem_append.mp hz with hz | hz
        · exact hps z hz
        · rw [List.mem_singleton.mp hz]
          exact dp
      · rcases List.mem_append.mp hp with hp | hp
        · exact hkn p hp
        · rw [List.mem_singleton.mp hp]
          exact ⟨nmn, by show es.length ≤ 3; omega⟩
      · rw [List.map_append, hkm, List.take_add_one, hnk]
        rfl
    · clear B
      obtain ⟨c1, pw, kv, ps, kn, ah, a6, a7, rfl, B, hc1, PO, hps, hkn, hkm, lps⟩ := e
      have lk8 : kn.length = rn := by
        have := congrArg List.length hkm
        rw [List.length_map, List.length_take] at this
        omega
      refine nx_intro (T3.set_intro (i := 7) ?_)
      refine ⟨.ref l, rfl, .ref l, rfl, l, li, c1, 4, rfl, B.sp, by decide, by decide, by omega, fun G3 r3 e3 sp3 r30 r31 => ?_⟩
      obtain ⟨m, rfl⟩ := Int.eq_ofNat_of_zero_le r30
      have B := B.ext PL e3 sp3
      refine ⟨l, li, c1 + 1, m, rfl, B.sp, by omega, by omega, fun G4 ea es e4 sp4 nea ea1 ea2 hea les nd hm => ?_⟩
      have neaM := (B.ins PL).new nea
      have B := B.ext PL e4 sp4
      refine ret_intro ⟨.ref pa, rfl, .ref ea, rfl, .ref l, rfl, .ref ea, rfl, .ref ka, rfl, .int 3, rfl, _, _, rfl, rfl, pa :: ka :: S, l, li, ea, ka, c1 + 1 + 16, es, kv, kn, 4, ah, rfl, PL.m1, PL.m2, B.ins PL, B.sp, ea1, ea2, PL.wl.1, PL.wl.2, hea, B.b, B.u, nd, hm, by omega, by decide, by decide, hkn, PO.at_, by omega, by omega, fun G5 r5 xs5 ds c5 e5 sp5 hc5 h5 n5 r51 r52 t5 l5 gi5 if5 => ⟨small4 3, fun t nt => ?_⟩⟩
      have n5M := (B.ins PL).new n5
      have B := B.ext PL e5 sp5
      have hea5 := e5 _ _ hea ea1 ea2
      have ntM := (B.ins PL).new nt
      have st := same_new (o := .tup [.ref pa, .ref ea, .ref r5]) nt
      have hT : upd G5 t (.tup [.ref pa, .ref ea, .ref r5]) t = some (.tup [.ref pa, .ref ea, .ref r5]) := upd_same
      have B := B.same PL st
      have hea6 := st _ _ hea5
      have h6 := st _ _ h5
      have t6 := t5.ext (hid_same st)
      generalize upd G5 t (.tup [.ref pa, .ref ea, .ref r5]) = G6 at B hT hea6 h6 t6
      have less : L2.Same (Hid (pa :: ka :: S) G6) (Hid S G6) := hid_less fun b mb => List.mem_cons_of_mem _ (List.mem_cons_of_mem _ mb)
      have nS : ∀ {b : Addr}, b ∉ pa :: ka :: S → b ∉ S := fun n m => n (List.mem_cons_of_mem _ (List.mem_cons_of_mem _ m))
      refine k G6 t ps (es.map .str) ds c5 B.E B.sp (by omega) (.tup (hid_of (nS ntM) hT fun ps z => nomatch z) (.cons (.lst (hid_of (PL.ins.new PL.nh) B.a fun ps z => nomatch z) (B.t.ext less)) (.cons (.lst (hid_of (nS neaM) hea6 fun ps z => nomatch z) (T27.th_strs es)) (.cons (.lst (hid_of (nS n5M) h6 fun ps z => nomatch z) (t6.ext less)) .nil)))) ⟨⟨by omega, hps⟩, ⟨by rw [List.length_map]; omega, fun e he => ?_⟩, ⟨l5, fun e he => (gi5 e he).1⟩, ?_⟩
      · obtain ⟨s, ms, rfl⟩ := List.mem_map.mp he
        exact gE_name (List.all_eq_true.mp names_all s (hm s ms))
      · unfold planF
        show (match cpL ps ah0 0 with | (some j, _) => some (PF.parts j) | (none, ah) => itemsF ah (.list (es.map .str)) (.list ds)) = none
        rw [PO.run]
        exact if5
end
end K14.T5
namespace K14.T5
open T27 T3
open K14.Gn
open PySem PySem.W PySem.Calls PyProof.Rows L2 LamX NdefX
open He (ga)
open Kz (SS ExtS ExtS.trans small4 same_new boot_in boot_li boot_isi Has pe_has noE PSs.of_eq seqI new_ext X1 shaped_int dpAll_int)
/-! ### _law_plan_bent -/
abbrev sBp : Stmt := topS 59
abbrev NBp : List Str := ["stream", "plan", "parts", "ends", "items", "which", "at", "name", "some", "row", "how", "part"]
theorem scBp : FnScope NBp ["stream", "plan"] (defScope sBp) := ⟨rfl, rfl, rfl, by decide +kernel, rfl, by decide +kernel, by decide +kernel⟩
theorem bdBp : defBody sBp = [stOf sBp 0, stOf sBp 1, stOf sBp 2, stOf sBp 3, stOf sBp 4, stOf sBp 5, stOf sBp 6, stOf sBp 7, stOf sBp 8, stOf sBp 9, stOf sBp 10, stOf sBp 11] := by rfl
def bpSc : Scope := match ifB (stOf sBp 8) 0 with
  | .Assign _ (.Call _ [_, .BinOp (.ListComp _ _ sc _) _ _ _] _ _) _ => sc
  | _ => default
section
variable {P : Program} {w : World} {K : Frag} {mg : Str → Option Value} {base : Heap}
abbrev XBp (P : Program) (w : World) (K : Frag) (mg : Str → Option Value) (base : Heap) (f : Addr) (cdv : Value) (A : Around) (outer : List Env) (s : Shared) (H : Hp) (XE : XK) : Cx := XC P w K mg base NBp "_law_plan_bent" sBp f cdv A outer s H XE
structure StB (S : List Addr) (l li : Addr) (H : Hp) (c : Int) (vp ve vi : V) (ps es ds : List PyData) (G : Hp) : Prop where
  E : ExtS l li H G
  sp : Spr G l li c
  p : Th (Hid S G) vp (.list ps)
  e : Th (Hid S G) ve (.list es)
  i : Th (Hid S G) vi (.list ds)
  ins : Ins S G
theorem StB.ext {S : List Addr} {l li : Addr} {H G G' : Hp} {c c' : Int} {vp ve vi : V} {ps es ds : List PyData} (B : StB S l li H c vp ve vi ps es ds G) (ml : l ∈ S) (mli : li ∈ S) (e : ExtS l li G G') (s : Spr G' l li c') : StB S l li H c' vp ve vi ps es ds G' :=
  ⟨B.E.trans e, s, B.p.ext (hid_S ml mli e), B.e.ext (hid_S ml mli e), B.i.ext (hid_S ml mli e), ins_S B.ins e s⟩
theorem StB.same {S : List Addr} {l li : Addr} {H G G' : Hp} {c : Int} {vp ve vi : V} {ps es ds : List PyData} (B : StB S l li H c vp ve vi ps es ds G) (ml : l ∈ S) (mli : li ∈ S) (e : L2.Same G G') : StB S l li H c vp ve vi ps es ds G' := B.ext ml mli (same_S e) (B.sp.same e)
theorem eq_nil {K : Frag} {S : List Addr} {G : Hp} {xs : List V} {ds : List PyData} {i : Nat} {a : Addr} {σ : L2.St} {Q : Bool → Hp → Prop} (e : σ[i]? = some (some (.ref a))) (h : G a = some (.lst xs)) (t : ThAll (Hid S G) xs ds) (g : gdA false ds = true) (d : PyData.depth (.list ds) ≤ 64) (k : ∀ p, G p = none → Q ds.isEmpty (upd G p (.lst []))) : tTest (tOp (rEqD K) (tVar i) (tLst tNil)) σ G Q :=
  ⟨.ref a, e, Nat.zero_le _, fun p np => ⟨.list ds, .list [], .lst (.inl (.inl (same_new np _ _ h))) (ThAll.dp ((t.ext hid_up).ext (same_new np)) g), .lst (.inl (.inl upd_same)) .nil, gd_shaped (show gd false (.list ds) = true from g) d, rfl, _, rfl, by
    have : PyData.eqv (.list ds) (.list []) = ds.isEmpty := by cases ds <;> rfl
    rw [this]
    exact k p np⟩⟩
theorem ifS_two {tc : TT} {A B u : TS} {D : Ends} {σ : L2.St} {H : Hp} (P : Hp → Prop) (hA : ∀ G, P G → A { nx := u D, rt := D.rt, bk := D.bk, ct := D.ct } σ G) (h : (∀ G, P G → A { nx := u D, rt := D.rt, bk := D.bk, ct := D.ct } σ G) → tc σ H fun c G => if c = true then A { nx := u D, rt := D.rt, bk := D.bk, ct := D.ct } σ G else B { nx := u D, rt := D.rt, bk := D.bk, ct := D.ct } σ G) : tSeq (tIfS tc A B) u D σ H := h hA
theorem drawn_gd {ps es ds : List PyData} (D : DrawnPlan ps es ds) : gdA false ps = true ∧ PyData.depth (.list ps) ≤ 64 := by
  refine ⟨gdA_all.mpr fun z m => ?_, ?_⟩
  · obtain ⟨n, es, ds, rfl, _, _, _, _, _, g⟩ := D.p.2 z m
    exact g
  · have h : PyData.depthAll ps ≤ 6 := dep_all fun z m => (gP_at (D.p.2 z m).g).2.2.2.2
    show PyData.depthAll ps + 1 ≤ 64
    omega
def oddE : List PyData := [.str "q9", .str "", .str "x", .none, .str "A", .int 5]
def oddE4 : List PyData := [.str "q9", .str "", .str "x", .none]
theorem oddE_g : oddE.all gE = true ∧ oddE4.all gE = true := by
  constructor <;> decide +kernel
theorem seq_th {S : List Addr} {G : Hp} {v : V} {ds : List PyData} (t : Th (Hid S G) v (.list ds)) : ∃ a xs, v = .ref a ∧ a ∉ S ∧ G a = some (.lst xs) ∧ ThAll (Hid S G) xs ds := by
  cases t with
  | lst h r =>
    obtain ⟨h1, h2, _⟩ := hid_at h
    exact ⟨_, _, rfl, h1, h2, r⟩
theorem part_th {S : List Addr} {G : Hp} {x : V} {a b c : PyData} (t : Th (Hid S G) x (.tuple [a, b, c])) : ∃ t u v w, x = .ref t ∧ t ∉ S ∧ G t = some (.tup [u, v, w]) ∧ Th (Hid S G) u a ∧ Th (Hid S G) v b ∧ Th (Hid S G) w c := by
  cases t with
  | tup h r =>
    cases r with
    | cons t1 r =>
      cases r with
      | cons t2 r =>
        cases r with
        | cons t3 r =>
          cases r
          obtain ⟨h1, h2, _⟩ := hid_at h
          exact ⟨_, _, _, _, rfl, h1, h2, t1, t2, t3⟩
def spBp : Sp := fun vs H Q _ => ∃ (S : List Addr) (l li : Addr) (c : Int) (v : V) (ps es ds : List PyData), vs = [.ref l, v] ∧ l ∈ S ∧ li ∈ S ∧ Ins S H ∧ Spr H l li c ∧ c < 700000000 ∧ Th (Hid S H) v (.tuple [.list ps, .list es, .list ds]) ∧ DrawnPlan ps es ds ∧
  ∀ (H' : Hp) (r : Addr) (a b d : V) (dp de di : PyData) (c' : Int), ExtS l li H H' → Spr H' l li c' → c' ≤ c + 20 → (Hid S H') r = some (.tup [a, b, d]) → Th (Hid S H') a dp → Th (Hid S H') b de → Th (Hid S H') d di → PlanG dp de di → Q (.ref r) H'
theorem ok_bp {f : Addr} {fd : FuncData} (F : FunD K "_law_plan_bent" "_law_plan_bent" (defArgs sBp) (defBody sBp) (defScope sBp) [] [] f fd) (PK : Has P w K mg base "_law_pick" 2 ["stream", "some"] spPk) (DR : Has P w K mg base "_law_draw" 1 ["stream", "many"] spDrW) (RB : Has P w K mg base "_law_row_bent" 3 ["stream", "row", "odd"] spRb) (B : LwK mg)
    (OI : ∃ f fd, mg "_law_odd_items" = some (.ref f) ∧ keepIn K (.ref f) = true ∧ L2.Binds K fd [] [] ∧ FnOk P w K mg base CX0 1 f fd [] (spOdd5 oddOi)) (OP : ∃ f fd, mg "_law_odd_parts" = some (.ref f) ∧ keepIn K (.ref f) = true ∧ L2.Binds K fd [] [] ∧ FnOk P w K mg base CX0 1 f fd [] (spOdd5 oddOp)) : FnOk P w K mg base CX0 4 f fd ["stream", "plan"] spBp := by
  obtain ⟨fi, fdi, hi1, hi2, hi3, hi4⟩ := OI
  obtain ⟨fo, fdo, ho1, ho2, ho3, ho4⟩ := OP
  refine F.ok scBp (fun vs H Q E h => ?_) (fun cdv A outer s H vs Q XE hr h => ?_)
  · obtain ⟨S, l, li, c, v, ps, es, ds, rfl, _⟩ := h
    rfl
  · obtain ⟨S, l, li, c, v, ps, es, ds, rfl, ml, mli, ins, hs, hc, tv, DP, k⟩ := h
    have hu : (XBp P w K mg base f cdv A outer s H XE).A.units + 64 < cLine := hr.units
    have odi : ∀ {X : Cx}, True := fun {X} => trivial
    have h0 : PS (XBp P w K mg base f cdv A outer s H XE) (stOf sBp 0) _ := ps_asg (pv 1) (pg_tup (n := 3) rfl (pgs_cons (pg_name (i := 2) scBp.nd rfl (.inl rfl)) (pgs_cons (pg_name (i := 3) scBp.nd rfl (.inl rfl)) (pgs_cons (pg_name (i := 4) scBp.nd rfl (.inl rfl)) pgs_nil))))
    have h1 : PS (XBp P w K mg base f cdv A outer s H XE) (stOf sBp 1) _ := ps_set (i := 5) scBp.nd rfl (.inl rfl) (pe_has DR (hr.mono (by decide)) (by rfl) (pa_cons (pv 0) (pa_cons pe_int pa_nil)))
    have h2 : PS (XBp P w K mg base f cdv A outer s H XE) (stOf sBp 2) _ := ps_if (pt_cmpR op_eq (pv 5) pe_int (nomark _)) (pss_one (ps_ret (pe_tup (pa_cons (pe_has RB (hr.mono (by decide)) (by rfl) (pa_cons (pv 0) (pa_cons (pv 2) (pa_cons (pe_call0 ho4 (hr.mono (by decide)) (by rfl) ho1 ho2 ho3 .nil pass0) pa_nil)))) (pa_cons (pv 3) (pa_cons (pv 4) pa_nil)))))) pss_nil
    have h3 : PS (XBp P w K mg base f cdv A outer s H XE) (stOf sBp 3) _ := ps_if (pt_cmpR op_eq (pv 5) pe_int (nomark _)) (pss_one (ps_ret (pe_tup (pa_cons (pv 2) (pa_cons (pe_has RB (hr.mono (by decide)) (by rfl) (pa_cons (pv 0) (pa_cons (pv 3) (pa_cons (pe_lst (pa_cons pe_str (pa_cons pe_str (pa_cons pe_str (pa_cons pe_non (pa_cons pe_str (pa_cons pe_int pa_nil))))))) pa_nil)))) (pa_cons (pv 4) pa_nil)))))) pss_nil
    have h4 : PS (XBp P w K mg base f cdv A outer s H XE) (stOf sBp 4) _ := ps_if (PW.pt (pw_or (pt_cmpR op_eq (pv 5) pe_int (nomark _)) (pw_or1 (pt_cmpR (op_eqD hu) (pv 2) (pe_lst pa_nil) (nomark _))))) (pss_one (ps_ret (pe_tup (pa_cons (pv 2) (pa_cons (pv 3) (pa_cons (pe_has RB (hr.mono (by decide)) (by rfl) (pa_cons (pv 0) (pa_cons (pv 4) (pa_cons (pe_call0 hi4 (hr.mono (by decide)) (by rfl) hi1 hi2 hi3 .nil pass0) pa_nil)))) pa_nil)))))) pss_nil
    have h5 : PS (XBp P w K mg base f cdv A outer s H XE) (stOf sBp 5) _ := ps_set (i := 6) scBp.nd rfl (.inl rfl) (pe_has DR (hr.mono (by decide)) (by rfl) (pa_cons (pv 0) (pa_cons (pe_callB call_len_seq (by rfl) B.len boot_len (pa_cons (pv 2) pa_nil)) pa_nil)))
    have h6 : PS (XBp P w K mg base f cdv A outer s H XE) (stOf sBp 6) _ := ps_asg (pe_ix ix_list (pv 2) (pv 6) (fun _ _ => rfl)) (pg_tup (n := 3) rfl (pgs_cons (pg_name (i := 7) scBp.nd rfl (.inl rfl)) (pgs_cons (pg_name (i := 8) scBp.nd rfl (.inl rfl)) (pgs_cons (pg_name (i := 9) scBp.nd rfl (.inl rfl)) pgs_nil))))
    have h7 : PS (XBp P w K mg base f cdv A outer s H XE) (stOf sBp 7) _ := ps_set (i := 10) scBp.nd rfl (.inl rfl) (pe_has DR (hr.mono (by decide)) (by rfl) (pa_cons (pv 0) (pa_cons pe_int pa_nil)))
    have h8 : PS (XBp P w K mg base f cdv A outer s H XE) (stOf sBp 8) _ := ps_if (pt_cmpR op_eq (pv 10) pe_int (nomark _)) (pss_one (ps_set (i := 7) scBp.nd rfl (.inl rfl) (pe_has PK (hr.mono (by decide)) (by rfl) (pa_cons (pv 0) (pa_cons (pe_op op_cat (pe_lc (X := XBp P w K mg base f cdv A outer s H XE) (scope := bpSc) (own := [("part", 11)]) (g := gName 11) (tt := tYes) (te := tOp (rIx K) (tVar 11) (tC (.int 0))) rfl scBp.nd (pi_list (pv 2)) (blkOk_by (N := NBp) (sc := defScope sBp) (by decide +kernel)) (fun _ _ _ _ _ => pg_name (i := 11) scBp.nd rfl (Or.inl rfl)) (fun _ _ _ _ _ => pts_nil)
      (fun s0 H0 C0 cl0 fp0 => by exact pe_ix ix_seq (pv 11) pe_int (fun _ _ => rfl))) (pe_lst (pa_cons pe_str (pa_cons pe_str (pa_cons pe_non (pa_cons pe_str pa_nil)))))) pa_nil))))) pss_nil
    have h9 : PS (XBp P w K mg base f cdv A outer s H XE) (stOf sBp 9) _ := ps_if (pt_cmpR op_eq (pv 10) pe_int (nomark _)) (pss_one (ps_set (i := 8) scBp.nd rfl (.inl rfl) (pe_has RB (hr.mono (by decide)) (by rfl) (pa_cons (pv 0) (pa_cons (pv 8) (pa_cons (pe_lst (pa_cons pe_str (pa_cons pe_str (pa_cons pe_str (pa_cons pe_non pa_nil))))) pa_nil)))))) pss_nil
    have h10 : PS (XBp P w K mg base f cdv A outer s H XE) (stOf sBp 10) _ := ps_if (pt_cmpR op_gt (pv 10) pe_int (nomark _)) (pss_one (ps_set (i := 9) scBp.nd rfl (.inl rfl) (pe_has RB (hr.mono (by decide)) (by rfl) (pa_cons (pv 0) (pa_cons (pv 9) (pa_cons (pe_call0 hi4 (hr.mono (by decide)) (by rfl) hi1 hi2 hi3 .nil pass0) pa_nil)))))) pss_nil
    have h11 : PS (XBp P w K mg base f cdv A outer s H XE) (stOf sBp 11) _ := ps_ret (pe_tup (pa_cons (pe_op op_cat (pe_op op_cat (pe_slice sl_list (pv 2) po_none (po_some (pv 6))) (pe_lst (pa_cons (pe_tup (pa_cons (pv 7) (pa_cons (pv 8) (pa_cons (pv 9) pa_nil)))) pa_nil))) (pe_slice sl_list (pv 2) (po_some (pe_op op_add (pv 6) pe_int)) po_none)) (pa_cons (pv 3) (pa_cons (pv 4) pa_nil))))
    refine ⟨_, PSs.nox (PSs.of_eq bdBp (pss_cons h0 (pss_cons h1 (pss_cons h2 (pss_cons h3 (pss_cons h4 (pss_cons h5 (pss_cons h6 (pss_cons h7 (pss_cons h8 (pss_cons h9 (pss_cons h10 (pss_one h11))))))))))))), ?_⟩
    clear h0 h1 h2 h3 h4 h5 h6 h7 h8 h9 h10 h11 hi1 hi2 hi3 hi4 ho1 ho2 ho3 ho4
    obtain ⟨ap, ae, ai, av, vp, ve, vi, rfl, hav, tp, te, ti⟩ : ∃ (ap ae ai av : Addr) (vp ve vi : V), v = .ref av ∧ (Hid S H) av = some (.tup [vp, ve, vi]) ∧ Th (Hid S H) vp (.list ps) ∧ Th (Hid S H) ve (.list es) ∧ Th (Hid S H) vi (.list ds) := by
      cases tv with
      | tup h r =>
        cases r with
        | cons t1 r =>
          cases r with
          | cons t2 r =>
            cases r with
            | cons t3 r =>
              cases r
              exact ⟨0, 0, 0, _, _, _, _, rfl, h, t1, t2, t3⟩
    clear ap ae ai tv
    obtain ⟨gdp, ddp⟩ := drawn_gd DP
    have T0 : StB S l li H c vp ve vi ps es ds H := ⟨fun _ _ e _ _ => e, hs, tp, te, ti, ins⟩
    clear tp te ti
    refine T69.asg_intro ⟨_, rfl, av, _, rfl, .inl (.inl (hid_up _ _ hav)), rfl, _, _, rfl, _, _, rfl, _, _, rfl, rfl, ?_⟩
    refine T3.set_intro (i := 5) ⟨.ref l, rfl, l, li, c, 4, rfl, hs, by decide, by decide, by omega, fun G1 w1 e1 sp1 w10 w11 => ?_⟩
    have T := T0.ext ml mli e1 sp1
    clear T0
    have op4 : oddOp.length ≤ 100 ∧ 0 < oddOp.length ∧ oddOi.length ≤ 100 ∧ 0 < oddOi.length := by decide
    have gPs : ∀ z ∈ ps, gP z = true := fun z m => (DP.p.2 z m).g
    have lps := DP.p.1
    have les := DP.e.1
    have lds := DP.i.1
    have rP : RowG gP 20 (.list ps) := .inr ⟨ps, rfl, by omega, gPs⟩
    have rE : RowG gE 20 (.list es) := .inr ⟨es, rfl, by omega, DP.e.2⟩
    have rI : RowG gI 70 (.list ds) := .inr ⟨ds, rfl, by omega, DP.i.2⟩
    have fin : ∀ {G : Hp} {c' : Int} {a b d : V} {dp de di : PyData}, ExtS l li H G → Spr G l li c' → Ins S G → c' ≤ c + 20 → Th (Hid S G) a dp → Th (Hid S G) b de → Th (Hid S G) d di → PlanG dp de di → ∀ t, G t = none → Q (.ref t) (upd G t (.tup [a, b, d])) := fun {G c' a b d dp de di} E sp ins hc t1 t2 t3 pg t nt => k _ t a b d dp de di c' (E.trans (same_S (same_new nt))) (sp.same (same_new nt)) hc (hid_of (ins.new nt) upd_same fun ps z => nomatch z) (t1.ext (hid_same (same_new nt))) (t2.ext (hid_same (same_new nt))) (t3.ext (hid_same (same_new nt))) pg
    refine ifS_intro (tst_in ⟨_, rfl, rfl, _, rfl, ?_⟩)
    by_cases q0 : V.int w1 = V.int 0
    · rw [decide_eq_true q0]
      refine iteT (ret_intro ⟨.ref l, rfl, vp, rfl, S, rfl, T.ins, fun G2 r s2 tr => ?_⟩)
      have T := T.same ml mli s2
      refine ⟨S, l, li, c + 1, vp, .ref r, ps, oddOp, rfl, ml, mli, T.ins, T.p, tr, op4.2.1, op4.1, by omega, T.sp, by omega, fun G3 y d c3 e3 sp3 hc3 ty br => ?_⟩
      have T := T.ext ml mli e3 sp3
      exact ⟨ve, rfl, vi, rfl, small4 3, fin T.E T.sp T.ins (by omega) ty T.e T.i ⟨RowG.bent br gPs (fun e m => List.all_eq_true.mp odd_its.2 e m) (by omega), rE, rI⟩⟩
    rw [decide_eq_false q0]
    refine iteF (nx_intro (ifS_intro (tst_in ⟨_, rfl, rfl, _, rfl, ?_⟩)))
    by_cases q1 : V.int w1 = V.int 1
    · rw [decide_eq_true q1]
      refine iteT (ret_intro ⟨vp, rfl, .ref l, rfl, ve, rfl, small4 6, fun u nu => ?_⟩)
      have nuS := T.ins.new nu
      have T := T.same ml mli (same_new (o := .lst [.str "q9", .str "", .str "x", .non, .str "A", .int 5]) nu)
      refine ⟨S, l, li, c + 1, ve, .ref u, es, oddE, rfl, ml, mli, T.ins, T.e, .lst (hid_of nuS upd_same fun ps z => nomatch z) (.cons (.str _) (.cons (.str _) (.cons (.str _) (.cons .non (.cons (.str _) (.cons (.int _) .nil)))))), by decide, by decide, by omega, T.sp, by omega, fun G3 y d c3 e3 sp3 hc3 ty br => ?_⟩
      have T := T.ext ml mli e3 sp3
      exact ⟨vi, rfl, small4 3, fin T.E T.sp T.ins (by omega) T.p ty T.i ⟨rP, RowG.bent br DP.e.2 (fun e m => List.all_eq_true.mp oddE_g.1 e m) (by omega), rI⟩⟩
    rw [decide_eq_false q1]
    refine iteF (nx_intro (ifS_two (fun G => StB S l li H (c + 1) vp ve vi ps es ds G) (fun G T => ?_) (fun A => or_in (tst_in ⟨_, rfl, rfl, _, rfl, ?_⟩))))
    · refine ret_intro ⟨vp, rfl, ve, rfl, .ref l, rfl, vi, rfl, S, rfl, T.ins, fun G2 r s2 tr => ?_⟩
      have T := T.same ml mli s2
      refine ⟨S, l, li, c + 1, vi, .ref r, ds, oddOi, rfl, ml, mli, T.ins, T.i, tr, op4.2.2.2, op4.2.2.1, by omega, T.sp, by omega, fun G3 y d c3 e3 sp3 hc3 ty br => ?_⟩
      have T := T.ext ml mli e3 sp3
      exact ⟨small4 3, fin T.E T.sp T.ins (by omega) T.p T.e ty ⟨rP, rE, RowG.bent br DP.i.2 (fun e m => List.all_eq_true.mp odd_its.1 e m) (by omega)⟩⟩
    · by_cases q2 : V.int w1 = V.int 2
      · rw [decide_eq_true q2]
        exact iteT (iteT (A _ T))
      rw [decide_eq_false q2]
      obtain ⟨pa, xs, rfl, npa, hpa, txs⟩ := seq_th T.p
      refine iteF (eq_nil (S := S) rfl hpa txs gdp ddp fun p np => ?_)
      have T := T.same ml mli (same_new (o := .lst []) np)
      generalize upd G1 p (.lst []) = G2 at T
      by_cases lp : ps = []
      · subst lp
        exact iteT (A _ T)
      · have eb : ps.isEmpty = false := by
          cases ps with
          | nil => exact absurd rfl lp
          | cons => rfl
        rw [eb]
        refine iteF (nx_intro ?_)
        clear A
        obtain ⟨pa2, xs2, epa, _, hpa2, txs2⟩ := seq_th T.p
        cases epa
        have lxs : xs2.length = ps.length := txs2.length
        have pps : 0 < ps.length := by
          cases ps with
          | nil => exact absurd rfl lp
          | cons => exact Nat.succ_pos _
        refine T3.set_intro (i := 6) ⟨.ref l, rfl, .ref pa, rfl, pa, xs2, rfl, .inl (.inl (.inl hpa2)), l, li, c + 1, (xs2.length : Nat), rfl, T.sp, by omega, by omega, by omega, fun G3 r3 e3 sp3 r30 r31 => ?_⟩
        obtain ⟨an, rfl⟩ := Int.eq_ofNat_of_zero_le r30
        have T := T.ext ml mli e3 sp3
        obtain ⟨pa3, xs, epa, _, hpa3, txs3⟩ := seq_th T.p
        cases epa
        have lxs3 : xs.length = ps.length := txs3.length
        have hx : xs[an]? = some xs[an] := List.getElem?_eq_getElem (by omega)
        generalize xs[an] = x at hx
        obtain ⟨z, hz, tz⟩ := txs3.get hx
        have mz := List.mem_of_getElem? hz
        obtain ⟨n, es', ds', rfl, hn, le', he', ld', hd', gz⟩ := DP.p.2 z mz
        obtain ⟨t, nv, sv, rv, rfl, _, ht, tn, ts, tr⟩ := part_th tz
        refine T69.asg_intro ⟨.ref pa, rfl, .int (an : Nat), rfl, pa, xs, _, _, rfl, rfl, .inl (.inl hpa3), atI_nat hx, t, _, rfl, .inl (.inl ht), rfl, _, _, rfl, _, _, rfl, _, _, rfl, rfl, ?_⟩
        refine T3.set_intro (i := 10) ⟨.ref l, rfl, l, li, c + 1 + 1, 4, rfl, T.sp, by decide, by decide, by omega, fun G4 w2 e4 sp4 w20 w21 => ?_⟩
        have T := T.ext ml mli e4 sp4
        have tn := tn.ext (hid_S ml mli e4)
        have ts := ts.ext (hid_S ml mli e4)
        have tr := tr.ext (hid_S ml mli e4)
        refine seq_two (fun σ G => ∃ (c' : Int) (nv : V) (nd : PyData), σ = [some (.ref l), some (.ref av), some (.ref pa), some ve, some vi, some (.int w1), some (.int (an : Nat)), some nv, some sv, some rv, some (.int w2), none] ∧ StB S l li H c' (.ref pa) ve vi ps es ds G ∧ c' ≤ c + 6 ∧ Th (Hid S G) nv nd ∧ gE nd = true ∧ Th (Hid S G) sv (.list es') ∧ Th (Hid S G) rv (.list ds')) (fun σ G e => ?_) (fun nxt => ifS_intro (tst_in ⟨_, rfl, rfl, _, rfl, ?_⟩))
        · clear T tn ts tr
          obtain ⟨c1, nv, nd, rfl, T, hc1, tn, gn, ts, tr⟩ := e
          refine seq_two (fun σ G => ∃ (c' : Int) (sv : V) (sd : PyData), σ = [some (.ref l), some (.ref av), some (.ref pa), some ve, some vi, some (.int w1), some (.int (an : Nat)), some nv, some sv, some rv, some (.int w2), none] ∧ StB S l li H c' (.ref pa) ve vi ps es ds G ∧ c' ≤ c + 10 ∧ Th (Hid S G) nv nd ∧ Th (Hid S G) sv sd ∧ RowG gE 20 sd ∧ Th (Hid S G) rv (.list ds')) (fun σ G e => ?_) (fun nxt => ifS_intro (tst_in ⟨_, rfl, rfl, _, rfl, ?_⟩))
          · clear T tn ts tr
            obtain ⟨c2, sv, sd, rfl, T, hc2, tn, ts, gs, tr⟩ := e
            refine seq_two (fun σ G => ∃ (c' : Int) (rv : V) (rd : PyData), σ = [some (.ref l), some (.ref av), some (.ref pa), some ve, some vi, some (.int w1), some (.int (an : Nat)), some nv, some sv, some rv, some (.int w2), none] ∧ StB S l li H c' (.ref pa) ve vi ps es ds G ∧ c' ≤ c + 14 ∧ Th (Hid S G) nv nd ∧ Th (Hid S G) sv sd ∧ Th (Hid S G) rv rd ∧ RowG gI 70 rd) (fun σ G e => ?_) (fun nxt => ifS_intro ⟨_, rfl, _, _, rfl, rfl, _, rfl, ?_⟩)
            · clear T tn ts tr
              obtain ⟨c3, rv, rd, rfl, T, hc3, tn, ts, tr, gr⟩ := e
              generalize hσ : ([some (.ref l), some (.ref av), some (.ref pa), some ve, some vi, some (.int w1), some (.int (an : Nat)), some nv, some sv, some rv, some (.int w2), none] : L2.St) = σ
              have q2 : σ[2]? = some (some (.ref pa)) := by rw [← hσ]; rfl
              have q3 : σ[3]? = some (some ve) := by rw [← hσ]; rfl
              have q4 : σ[4]? = some (some vi) := by rw [← hσ]; rfl
              have q6 : σ[6]? = some (some (.int (an : Nat))) := by rw [← hσ]; rfl
              have q7 : σ[7]? = some (some nv) := by rw [← hσ]; rfl
              have q8 : σ[8]? = some (some sv) := by rw [← hσ]; rfl
              have q9 : σ[9]? = some (some rv) := by rw [← hσ]; rfl
              have g2 : Gv S σ G (tVar 2) (.list ps) := gv_var q2 T.p
              have p6 : PureI (tVar 6) σ an := fun H Q h => ⟨_, q6, h⟩
              have p61 : PureI (tOp (rI0 fun i j => V.int (i + j)) (tVar 6) (tC (.int 1))) σ (an + 1) := fun H Q h => ⟨_, q6, _, _, rfl, rfl, by
                show Q (.int ((an : Int) + 1)) H
                have e : ((an : Int) + 1) = ((an + 1 : Nat) : Int) := by push_cast; rfl
                rw [e]
                exact h⟩
              have gt : Gv S σ G (tLst (tCons (tTup (tCons (tVar 7) (tCons (tVar 8) (tCons (tVar 9) tNil)))) tNil)) (.list [.tuple [nd, sd, rd]]) := gv_lst (gva_cons (gv_tup (gva_cons (gv_var q7 tn) (gva_cons (gv_var q8 ts) (gva_cons (gv_var q9 tr) gva_nil)))) gva_nil)
              have l1 : (ps.take an).length ≤ ps.length := (List.take_sublist _ _).length_le
              have l2 : (cutD ps (an + 1) ps.length).length ≤ ps.length := (cutD_sub ps (an + 1) ps.length).length_le
              refine ret_intro (gv_cat (gv_cat (gv_take g2 p6) gt (by show _ + 1 ≤ 1000; omega)) (gv_from g2 p61) (by rw [List.length_append]; show _ + 1 + _ ≤ 1000; omega) G _ (fun _ _ e => e) T.ins fun G' y s t => ?_)
              have T := T.same ml mli s
              refine ⟨ve, q3, vi, q4, small4 3, fin T.E T.sp T.ins (by omega) t T.e T.i ⟨.inr ⟨_, rfl, by rw [List.length_append, List.length_append]; show _ + 1 + _ ≤ 20; omega, fun e m => ?_⟩, rE, rI⟩⟩
              rcases List.mem_append.mp m with m | m
              · rcases List.mem_append.mp m with m | m
                · exact gPs e (List.mem_of_mem_take m)
                · rw [List.mem_singleton.mp m]
                  exact gP_of (isl := true) gn gs gr
              · exact gPs e ((cutD_sub ps (an + 1) ps.length).mem m)
            · cases decide ((1 : Int) < w2) with
              | true =>
                refine iteT (asg_in ⟨.ref l, rfl, rv, rfl, S, rfl, T.ins, fun G2 r s2 tr2 => ?_⟩)
                have T := T.same ml mli s2
                refine ⟨S, l, li, c2, rv, .ref r, ds', oddOi, rfl, ml, mli, T.ins, tr.ext (hid_same s2), tr2, op4.2.2.2, op4.2.2.1, by omega, T.sp, by omega, fun G3 y d c3 e3 sp3 hc3 ty br => ?_⟩
                have T := T.ext ml mli e3 sp3
                exact gset (nxt _ _ ⟨c3, y, d, rfl, T, by omega, (tn.ext (hid_same s2)).ext (hid_S ml mli e3), (ts.ext (hid_same s2)).ext (hid_S ml mli e3), ty, RowG.bent br hd' (fun e m => List.all_eq_true.mp odd_its.1 e m) (by omega)⟩)
              | false => exact iteF (nxt _ _ ⟨c2, rv, .list ds', rfl, T, by omega, tn, ts, tr, .inr ⟨ds', rfl, by omega, hd'⟩⟩)
          · cases decide (V.int w2 = V.int 1) with
            | true =>
              refine iteT (asg_in ⟨.ref l, rfl, sv, rfl, small4 4, fun u nu => ?_⟩)
              have nuS := T.ins.new nu
              have s2 := same_new (o := .lst [.str "q9", .str "", .str "x", .non]) nu
              have T := T.same ml mli s2
              refine ⟨S, l, li, c1, sv, .ref u, es', oddE4, rfl, ml, mli, T.ins, ts.ext (hid_same s2), .lst (hid_of nuS upd_same fun ps z => nomatch z) (.cons (.str _) (.cons (.str _) (.cons (.str _) (.cons .non .nil)))), by decide, by decide, by omega, T.sp, by omega, fun G3 y d c3 e3 sp3 hc3 ty br => ?_⟩
              have T := T.ext ml mli e3 sp3
              exact gset (nxt _ _ ⟨c3, y, d, rfl, T, by omega, (tn.ext (hid_same s2)).ext (hid_S ml mli e3), ty, RowG.bent br he' (fun e m => List.all_eq_true.mp oddE_g.2 e m) (by omega), (tr.ext (hid_same s2)).ext (hid_S ml mli e3)⟩)
            | false => exact iteF (nxt _ _ ⟨c1, sv, .list es', rfl, T, by omega, tn, ts, .inr ⟨es', rfl, by omega, he'⟩, tr⟩)
        · cases decide (V.int w2 = V.int 0) with
          | true =>
            obtain ⟨pa4, xs4, epa, _, hpa4, txs4⟩ := seq_th T.p
            cases epa
            have lxs4 : xs4.length = ps.length := txs4.length
            refine iteT (asg_in ⟨.ref l, rfl, T3.op_in ?_⟩)
            refine lc_lsS (K := K) (a := pa) (xs := xs4) S T.ins (fun i => .str (partName (ps.getD i .none))) (fun R h => ⟨.ref pa, rfl, h⟩) hpa4 (by omega) (fun D i x G3 Q' W hW hx s3 insD kQ => ?_) fun G3 D fs s3 nD hD tD => ?_
            · obtain ⟨z, hz, tz⟩ := (txs4.ext (hid_same s3)).get hx
              have hg : ps.getD i .none = z := getD_some hz
              rw [hg] at kQ
              obtain ⟨n2, es2, ds2, rfl, _⟩ := DP.p.2 z (List.mem_of_getElem? hz)
              obtain ⟨t2, u2, v2, w2, rfl, _, ht2, tu2, _, _⟩ := part_th tz
              cases tu2
              exact gset (hW _ _ rfl ⟨_, rfl, .inr (.inl ⟨t2, _, 0, _, rfl, rfl, .inl (.inl ht2), rfl, kQ _ _ (fun _ _ e => e) (.str _)⟩)⟩)
            · have nDl := T.sp.new nD
              have T := T.same ml mli s3
              have lfs : fs.length = ps.length := by
                have := tD.length
                rw [List.length_map, List.length_range, lxs4] at this
                exact this
              refine ⟨small4 4, fun u nu => ?_⟩
              have s5 := same_new (o := .lst [.str "x", .str "late9", .non, .str ""]) nu
              have hu5 : upd G3 u (.lst [.str "x", .str "late9", .non, .str ""]) u = some (.lst [.str "x", .str "late9", .non, .str ""]) := upd_same
              have hD5 := s5 _ _ hD
              have T := T.same ml mli s5
              generalize upd G3 u (.lst [.str "x", .str "late9", .non, .str ""]) = G5 at s5 hu5 hD5 T
              refine ⟨D, u, fs, _, rfl, rfl, hD5, hu5, by rw [sizeLine_eq]; show _ + 4 ≤ _; omega, fun F nF => ?_⟩
              have nFl := T.sp.new nF
              have s6 := same_new (o := .lst (fs ++ [.str "x", .str "late9", .non, .str ""])) nF
              have hF6 : upd G5 F (.lst (fs ++ [.str "x", .str "late9", .non, .str ""])) F = some (.lst (fs ++ [.str "x", .str "late9", .non, .str ""])) := upd_same
              have T := T.same ml mli s6
              generalize upd G5 F (.lst (fs ++ [.str "x", .str "late9", .non, .str ""])) = G6 at s6 hF6 T
              refine ⟨l, li, F, c + 1 + 1 + 1, _, rfl, T.sp, hF6, nFl.1, nFl.2, by rw [List.length_append]; exact Nat.lt_of_lt_of_le (by decide : 0 < 4) (Nat.le_add_left _ _), by rw [List.length_append]; show _ + 4 ≤ _; omega, by omega, fun G7 x e7 sp7 mx => ?_⟩
              have T := T.ext ml mli e7 sp7
              have s36 := s3.trans (s5.trans s6)
              have good : ∃ nd : PyData, gE nd = true ∧ Th (Hid S G7) x nd := by
                rcases List.mem_append.mp mx with mx | mx
                · obtain ⟨i, hi⟩ := List.getElem?_of_mem mx
                  obtain ⟨z, hz, tz⟩ := tD.get hi
                  rw [List.getElem?_map] at hz
                  have il : i < ps.length := by
                    have := (List.getElem?_eq_some_iff.mp hi).1
                    omega
                  rw [List.getElem?_range (by omega)] at hz
                  have hz : PyData.str (partName (ps.getD i .none)) = z := Option.some.inj hz
                  obtain ⟨z2, hz2⟩ : ∃ z2, ps[i]? = some z2 := ⟨_, List.getElem?_eq_getElem il⟩
                  rw [getD_some hz2] at hz
                  subst hz
                  obtain ⟨n2, es2, ds2, rfl, hn2, _⟩ := DP.p.2 z2 (List.mem_of_getElem? hz2)
                  cases tz
                  exact ⟨.str n2, gE_name hn2, .str _⟩
                · simp only [List.mem_cons, List.not_mem_nil, or_false] at mx
                  rcases mx with rfl | rfl | rfl | rfl
                  · exact ⟨.str "x", by decide +kernel, .str _⟩
                  · exact ⟨.str "late9", by decide +kernel, .str _⟩
                  · exact ⟨.none, by decide +kernel, .non⟩
                  · exact ⟨.str "", by decide +kernel, .str _⟩
              obtain ⟨nd, gn, tx⟩ := good
              exact gset (nxt _ _ ⟨_, x, nd, rfl, T, by omega, tx, gn, (ts.ext (hid_same s36)).ext (hid_S ml mli e7), (tr.ext (hid_same s36)).ext (hid_S ml mli e7)⟩)
          | false => exact iteF (nxt _ _ ⟨_, nv, .str n, rfl, T, by omega, tn, gE_name hn, ts, tr⟩)
end
end K14.T5
namespace K14.T5
open T27 T3
open K14.Gn
open PySem PySem.W PySem.Calls PyProof.Rows L2 LamX NdefX
open He (ga)
open Kz (SS ExtS ExtS.trans small4 same_new boot_in boot_li boot_isi Has pe_has noE PSs.of_eq seqI new_ext X1 shaped_int dpAll_int HasG pe_hasG FnG)
/-! ### _law_refused_right -/
abbrev sRr : Stmt := topS 60
abbrev NRr : List Str := ["stream", "plan", "k", "bent", "other", "handed", "was", "due"]
theorem scRr : FnScope NRr ["stream", "plan"] (defScope sRr) := ⟨rfl, rfl, rfl, by decide +kernel, rfl, by decide +kernel, by decide +kernel⟩
theorem bdRr : defBody sRr = [stOf sRr 0, stOf sRr 1] := by rfl
def fbRr (i : Nat) : Stmt := (forBody (stOf sRr 0)).getD i (.Pass ⟨0, 0, 0, 0⟩)
theorem bdRrF : forBody (stOf sRr 0) = [fbRr 0, fbRr 1, fbRr 2, fbRr 3, fbRr 4] := by rfl
/-- a fault, as data -/
def PF.dat : PF → PyData
  | .parts j => .int (j : Nat)
  | .ends j => .int (j : Nat)
  | .items j => .int (j : Nat)
  | .wire s => .str s
def fD : Option PF → PyData
  | none => .none
  | some t => .tuple [.str t.kind, t.dat]
theorem fD_fit (o : Option PF) : fitS 4 (fD o) = true := by
  cases o with
  | none => rfl
  | some t => cases t <;> rfl
theorem tell_th {o : Option PF} {H : Hp} {Q : VK} (k : ∀ (v : V) (H' : Hp), L2.Same H H' → Th H' v (fD o) → Q v H') : TellF o H Q := by
  cases o with
  | none => exact k .non H (fun _ _ e => e) .non
  | some t => exact fun a na => k _ _ (same_new na) (.tup upd_same (.cons (.str _) (.cons (by cases t <;> constructor) .nil)))
structure RrK (P : Program) (w : World) (K : Frag) (mg : Str → Option Value) (base : Heap) (T : List (Addr × Str)) : Prop where
  bp : Has P w K mg base "_law_plan_bent" 4 ["stream", "plan"] spBp
  dr : Has P w K mg base "_law_draw" 1 ["stream", "many"] spDrW
  lo : Has P w K mg base "_law_loose" 8 ["stream", "thing"] (T27.spLo 5)
  pf : Has P w K mg base "_law_plan_fault" 7 ["parts", "ends", "items"] (spPf T)
  pd : Has P w K mg base "_law_planned" 11 ["parts", "ends", "items"] spPd
  sm : Has P w K mg base "_law_same" 5 ["found", "due"] (spSm 4)
  sy : SysK K
  np : mg "repr" = none
  nr : mg "range" = none
section
variable {P : Program} {w : World} {K : Frag} {mg : Str → Option Value} {base : Heap} {T : List (Addr × Str)}
abbrev XRr (P : Program) (w : World) (K : Frag) (mg : Str → Option Value) (base : Heap) (f : Addr) (cdv : Value) (A : Around) (outer : List Env) (s : Shared) (H : Hp) (XE : XK) : Cx := (cxOf CX0 P w K mg base NRr "_law_refused_right" (defScope sRr) f cdv A outer s H XE).nox
def spRr (T : List (Addr × Str)) : Sp := fun vs H Q _ => ∃ (S : List Addr) (l li : Addr) (c : Int) (v : V) (ps es ds : List PyData), vs = [.ref l, v] ∧ S = [l, li] ∧ Spr H l li c ∧ c < 500000000 ∧ Th (Hid S H) v (.tuple [.list ps, .list es, .list ds]) ∧ DrawnPlan ps es ds ∧ Tabs T H ∧
  ∀ (H' : Hp) (c' : Int), ExtL l li H H' → Spr H' l li c' → c' ≤ c + 8000000 → Tabs T H' → Q (.bl true) H'
structure StR (S : List Addr) (l li : Addr) (H : Hp) (T : List (Addr × Str)) (c : Int) (v : V) (d : PyData) (G : Hp) : Prop where
  E : ExtL l li H G
  sp : Spr G l li c
  T : Tabs T G
  ins : Ins S G
  t : Th (Hid S G) v d
section
variable {S : List Addr} {l li : Addr} {H G G' : Hp} {c c' : Int} {v : V} {d : PyData}
theorem StR.ext (B : StR S l li H T c v d G) (ml : l ∈ S) (mli : li ∈ S) (e : ExtS l li G G') (s : Spr G' l li c') : StR S l li H T c' v d G' :=
  ⟨B.E.trans (.ofS e), s, tabs_S B.T B.sp e, ins_S B.ins e s, B.t.ext (hid_S ml mli e)⟩
theorem StR.same (B : StR S l li H T c v d G) (e : L2.Same G G') : StR S l li H T c v d G' := ⟨B.E.trans (.ofN (.of e)), B.sp.same e, B.T.ext e, B.ins.same e, B.t.ext (hid_same e)⟩
theorem StR.extN (B : StR S l li H T c v d G) (hS : S = [l, li]) (e : ExtN G G') (t : Tabs T G') : StR S l li H T c v d G' := ⟨B.E.trans (.ofN e), B.sp.extN e, t, by rw [hS]; exact (B.sp.extN e).ins, B.t.ext (hid_N e)⟩
theorem ixT {K : Frag} {i : Nat} {r : Addr} {xs : List V} {x : V} {Q : VK} (h : (Hid S G) r = some (.tup xs)) (hi : xs[i]? = some x) (k : Q x G) : rIx K (.ref r) (.int (i : Nat)) G Q := .inr (.inl ⟨r, xs, _, x, rfl, rfl, .inl (.inl (hid_up _ _ h)), atI_nat hi, k⟩)
end
theorem ok_rr {f : Addr} {fd : FuncData} (Fn : FunD K "_law_refused_right" "_law_refused_right" (defArgs sRr) (defBody sRr) (defScope sRr) [] [] f fd) (L : RrK P w K mg base T) : FnG P w K mg base CX0 12 f fd ["stream", "plan"] (spRr T) := by
  refine Kz.FunD.okG Fn scRr (fun vs H Q E h => ?_) (fun cdv A outer s H vs Q XE hg hr h => ?_)
  · obtain ⟨S, l, li, c, v, ps, es, ds, rfl, _⟩ := h
    rfl
  · obtain ⟨S, l, li, c, v, ps, es, ds, rfl, eS, hs, hc, tv, DP, hT, k⟩ := h
    have ml : l ∈ S := by rw [eS]; simp
    have mli : li ∈ S := by rw [eS]; simp
    have ins : Ins S H := by rw [eS]; exact hs.ins
    have hr0 : Room 0 (A.deeper (envOfC "_law_refused_right" (defScope sRr) s.heap.objs.size f cdv)) := hr.mono (by decide)
    have rp : ∀ {p q r : Pos}, PE (XRr P w K mg base f cdv A outer s H XE) (.Call (.Name "repr" p) [.Name "handed" q] [] r) (tCB rReprT (tCons (tVar 5) tNil)) := fun {p q r} => pe_callB (call_reprT (X := XRr P w K mg base f cdv A outer s H XE) L.sy hg hr0) (by rfl) L.np Kz.boot_rp (pa_cons (pv 5) pa_nil)
    have b0 : PS (XRr P w K mg base f cdv A outer s H XE) (fbRr 0) _ := ps_set (i := 3) scRr.nd rfl (.inl rfl) (pe_has L.bp (hr.mono (by decide)) (by rfl) (pa_cons (pv 0) (pa_cons (pv 1) pa_nil)))
    have b10 : PS (XRr P w K mg base f cdv A outer s H XE) (ifB (fbRr 1) 0) _ := ps_set (i := 4) scRr.nd rfl (.inl rfl) (pe_has L.bp (hr.mono (by decide)) (by rfl) (pa_cons (pv 0) (pa_cons (pv 1) pa_nil)))
    have b11 : PS (XRr P w K mg base f cdv A outer s H XE) (ifB (fbRr 1) 1) _ := ps_set (i := 3) scRr.nd rfl (.inl rfl) (pe_ifExp (pt_cmpR op_eq (pe_has L.dr (hr.mono (by decide)) (by rfl) (pa_cons (pv 0) (pa_cons pe_int pa_nil))) pe_int (nomark _))
      (pe_tup (pa_cons (pe_ix ix_seq (pv 3) pe_int (fun _ _ => rfl)) (pa_cons (pe_ix ix_seq (pv 4) pe_int (fun _ _ => rfl)) (pa_cons (pe_ix ix_seq (pv 4) pe_int (fun _ _ => rfl)) pa_nil))))
      (pe_tup (pa_cons (pe_ix ix_seq (pv 4) pe_int (fun _ _ => rfl)) (pa_cons (pe_ix ix_seq (pv 3) pe_int (fun _ _ => rfl)) (pa_cons (pe_ix ix_seq (pv 4) pe_int (fun _ _ => rfl)) pa_nil)))))
    have b1 : PS (XRr P w K mg base f cdv A outer s H XE) (fbRr 1) _ := ps_if (pt_cmpR op_eq (pe_has L.dr (hr.mono (by decide)) (by rfl) (pa_cons (pv 0) (pa_cons pe_int pa_nil))) pe_int (nomark _)) (pss_cons b10 (pss_one b11)) pss_nil
    have b2 : PS (XRr P w K mg base f cdv A outer s H XE) (fbRr 2) _ := ps_set (i := 5) scRr.nd rfl (.inl rfl) (pe_tup (pa_cons (pe_has L.lo (hr.mono (by decide)) (by rfl) (pa_cons (pv 0) (pa_cons (pe_ix ix_seq (pv 3) pe_int (fun _ _ => rfl)) pa_nil))) (pa_cons (pe_has L.lo (hr.mono (by decide)) (by rfl) (pa_cons (pv 0) (pa_cons (pe_ix ix_seq (pv 3) pe_int (fun _ _ => rfl)) pa_nil))) (pa_cons (pe_has L.lo (hr.mono (by decide)) (by rfl) (pa_cons (pv 0) (pa_cons (pe_ix ix_seq (pv 3) pe_int (fun _ _ => rfl)) pa_nil))) pa_nil))))
    have b3 : PS (XRr P w K mg base f cdv A outer s H XE) (fbRr 3) _ := ps_par (i := 6) (j := 7) rfl scRr.nd rfl rfl (by decide) rfl rfl (pa_cons rp (pa_cons (pe_has L.pf (hr.mono (by decide)) (by rfl) (pa_cons (pe_ix ix_seq (pv 3) pe_int (fun _ _ => rfl)) (pa_cons (pe_ix ix_seq (pv 3) pe_int (fun _ _ => rfl)) (pa_cons (pe_ix ix_seq (pv 3) pe_int (fun _ _ => rfl)) pa_nil)))) pa_nil)) (by rfl)
    have b4 : PS (XRr P w K mg base f cdv A outer s H XE) (fbRr 4) _ := ps_if (PW.pt (pw_or (pt_not (pt_val (pe_has L.sm (hr.mono (by decide)) (by rfl) (pa_cons (pe_has L.pd hr (by rfl) (pa_cons (pe_ix ix_seq (pv 5) pe_int (fun _ _ => rfl)) (pa_cons (pe_ix ix_seq (pv 5) pe_int (fun _ _ => rfl)) (pa_cons (pe_ix ix_seq (pv 5) pe_int (fun _ _ => rfl)) pa_nil)))) (pa_cons (pv 7) pa_nil))))) (pw_or1 (pt_cmpR op_ne rp (pv 6) (nomark _))))) (pss_one (ps_ret pe_bl)) pss_nil
    have h0 : PS (XRr P w K mg base f cdv A outer s H XE) (stOf sRr 0) _ := ps_for PassesOwn.never rfl (pi_range1 (by rfl) L.nr (pa_cons pe_int pa_nil)) (pg_name (i := 2) scRr.nd rfl (.inl rfl)) (PSs.of_eq bdRrF (pss_cons b0 (pss_cons b1 (pss_cons b2 (pss_cons b3 (pss_one b4))))))
    have h1 : PS (XRr P w K mg base f cdv A outer s H XE) (stOf sRr 1) _ := ps_ret pe_bl
    have PP := PSs.of_eq bdRr (pss_cons h0 (pss_one h1))
    clear h0 h1 b0 b10 b11 b1 b2 b3 b4 rp
    refine ⟨_, PSs.nox PP, ?_⟩
    clear PP
    have T0 : StR S l li H T c v (.tuple [.list ps, .list es, .list ds]) H := ⟨fun _ _ e _ _ _ => e, hs, hT, ins, tv⟩
    refine ⟨12, rfl, by decide, by decide, ?_⟩
    refine for_range (lo := 0) (n := 12) (fun k σ G => ∃ (c1 : Int) (s2 s3 s4 s5 s6 s7 : Option V), σ = [some (.ref l), some v, s2, s3, s4, s5, s6, s7] ∧ StR S l li H T c1 v (.tuple [.list ps, .list es, .list ds]) G ∧ c1 ≤ c + 650000 * (k : Nat)) ⟨c, none, none, none, none, none, none, rfl, T0, by omega⟩ (fun kk σ G hk e => ?_) (fun σ G e => ?_)
    · clear T0
      obtain ⟨c1, s2, s3, s4, s5, s6, s7, rfl, B, hc1⟩ := e
      have hkk : (650000 : Int) * (kk : Nat) ≤ 7800000 := by omega
      refine gset (T3.set_intro (i := 3) ⟨.ref l, rfl, v, rfl, S, l, li, c1, v, ps, es, ds, rfl, ml, mli, B.ins, B.sp, by omega, B.t, DP, fun G2 r a b d dp de di c2 e2 sp2 hc2 hr ta tb td pg => ?_⟩)
      have B := B.ext ml mli e2 sp2
      refine seq_two (fun σ G => ∃ (c' : Int) (r : Addr) (a b d : V) (dp de di : PyData) (s4 s5 s6 s7 : Option V), σ = [some (.ref l), some v, some (.int (0 + (kk : Nat))), some (.ref r), s4, s5, s6, s7] ∧ StR S l li H T c' v (.tuple [.list ps, .list es, .list ds]) G ∧ c' ≤ c1 + 50 ∧ (Hid S G) r = some (.tup [a, b, d]) ∧ Th (Hid S G) a dp ∧ Th (Hid S G) b de ∧ Th (Hid S G) d di ∧ PlanG dp de di) (fun σ G e => ?_) (fun nxt => ifS_intro (tst_in ⟨.ref l, rfl, l, li, c2, 3, rfl, B.sp, by decide, by decide, by omega, fun G3 w3 e3 sp3 w30 w31 => ⟨rfl, _, rfl, ?_⟩⟩))
      · clear B hr ta tb td pg
        obtain ⟨c2, r, a, b, d, dp, de, di, s4, s5, s6, s7, rfl, B, hc2, hr, ta, tb, td, pg⟩ := e
        obtain ⟨f1, f2, f3, z1, z2, z3⟩ := pg.fit
        refine T3.set_intro (i := 5) ?_
        refine ⟨.ref l, rfl, .ref r, rfl, ixT (i := 0) hr rfl ⟨S, l, li, c2, a, dp, rfl, ml, mli, B.ins, ta, f1, B.sp, by omega, fun G3 a' da c3 e3 sp3 hc3 ta3 lqa => ?_⟩⟩
        have B := B.ext ml mli e3 sp3
        have hr := hid_S ml mli e3 _ _ hr
        have ta := ta.ext (hid_S ml mli e3)
        have tb := tb.ext (hid_S ml mli e3)
        have td := td.ext (hid_S ml mli e3)
        refine ⟨.ref l, rfl, .ref r, rfl, ixT (i := 1) hr rfl ⟨S, l, li, c3, b, de, rfl, ml, mli, B.ins, tb, f2, B.sp, by omega, fun G4 b' db c4 e4 sp4 hc4 tb4 lqb => ?_⟩⟩
        have B := B.ext ml mli e4 sp4
        have hr := hid_S ml mli e4 _ _ hr
        have ta := ta.ext (hid_S ml mli e4)
        have tb := tb.ext (hid_S ml mli e4)
        have td := td.ext (hid_S ml mli e4)
        have ta4 := ta3.ext (hid_S ml mli e4)
        refine ⟨.ref l, rfl, .ref r, rfl, ixT (i := 2) hr rfl ⟨S, l, li, c4, d, di, rfl, ml, mli, B.ins, td, f3, B.sp, by omega, fun G5 d' dd c5 e5 sp5 hc5 td5 lqd => ⟨small4 3, fun t nt => ?_⟩⟩⟩
        have B := B.ext ml mli e5 sp5
        have S6 := same_new (o := .tup [a', b', d']) nt
        have H6 : L2.Same (Hid S G4) (Hid S (upd G5 t (.tup [a', b', d']))) := (hid_S ml mli e5).trans (hid_same S6)
        have ht6 : (Hid S (upd G5 t (.tup [a', b', d']))) t = some (.tup [a', b', d']) := hid_of (B.ins.new nt) upd_same fun ps z => nomatch z
        have B := B.same S6
        have hr := H6 _ _ hr
        have ta := ta.ext H6
        have tb := tb.ext H6
        have td := td.ext H6
        have ta6 := ta4.ext H6
        have tb6 := tb4.ext H6
        have td6 := td5.ext (hid_same S6)
        generalize upd G5 t (.tup [a', b', d']) = G6 at ht6 B hr ta tb td ta6 tb6 td6
        have lq0 : Lq (.tuple [dp, de, di]) (.tuple [da, db, dd]) := .seq rfl rfl (.cons lqa (.cons lqb (.cons lqd .nil)))
        obtain ⟨g1, g2, g3⟩ := pg.big
        rw [Lq.gd lq0] at g1
        rw [Lq.wei lq0] at g2
        rw [Lq.dep lq0] at g3
        obtain ⟨o1, o2⟩ := pg.ok
        have o3 : okPlan da db dd = true := by rw [← okPlan_lq lqa lqb lqd]; exact o1
        have pe : planF da db dd = planF dp de di := (planF_lq lqa lqb lqd).symm
        have t0 : Th (Hid S G6) (.ref t) (.tuple [da, db, dd]) := .tup ht6 (.cons ta6 (.cons tb6 (.cons td6 .nil)))
        have em : ∀ {G : Hp} {x : V} {z : PyData}, Th (Hid S G) x z → Th (Hid [] G) x z := fun h => h.ext (hid_less (S := []) fun b m => absurd m List.not_mem_nil)
        refine T3.par_intro (i := 6) (j := 7) (cons2_intro ⟨.ref t, rfl, t, _, rfl, t0.ext hid_up, g1, g3, g2, ?_⟩)
        refine ⟨.ref r, rfl, ixT (i := 0) hr rfl ⟨.ref r, rfl, ixT (i := 1) hr rfl ⟨.ref r, rfl, ixT (i := 2) hr rfl ⟨a, b, d, dp, de, di, rfl, em ta, em tb, em td, o1, o2, B.T, fun G7 e7 T7 => tell_th fun dv G8 s8 tdv => ⟨_, _, rfl, ?_⟩⟩⟩⟩⟩
        have E8 := e7.trans (.of s8)
        have B := B.extN eS E8 (T7.ext s8)
        have H8 : L2.Same (Hid S G6) (Hid S G8) := hid_N E8
        have ht8 := H8 _ _ ht6
        have t08 := t0.ext H8
        have ta8 := ta6.ext H8
        have tb8 := tb6.ext H8
        have td8 := td6.ext H8
        refine T3.if_intro (or_in (not_in (b_in ?_)))
        refine ⟨.ref t, rfl, ixT (i := 0) ht8 rfl ⟨.ref t, rfl, ixT (i := 1) ht8 rfl ⟨.ref t, rfl, ixT (i := 2) ht8 rfl ⟨a', b', d', da, db, dd, rfl, ta8.ext hid_up, tb8.ext hid_up, td8.ext hid_up, o3, fun G9 s9 => tell_th fun fv G10 s10 tfv => ⟨dv, rfl, fv, dv, fD (planF dp de di), rfl, by rw [← pe]; exact tfv, tdv.ext (s9.trans s10), fD_fit _, fun G11 s11 => ⟨true, rfl, iteF ?_⟩⟩⟩⟩⟩⟩
        have S11 := s9.trans (s10.trans s11)
        have B := B.same S11
        refine ⟨.ref t, rfl, t, _, rfl, (t08.ext (hid_same S11)).ext hid_up, g1, g3, g2, .str (PyData.shown (.tuple [da, db, dd])), rfl, rfl, _, rfl, ?_⟩
        rw [decide_eq_true rfl]
        exact iteF ⟨_, _, _, _, _, _, _, rfl, B, by push_cast; omega⟩
      · by_cases q : V.int w3 = V.int 0
        · rw [decide_eq_true q]
          have B := B.ext ml mli e3 sp3
          have hr := hid_S ml mli e3 _ _ hr
          have ta := ta.ext (hid_S ml mli e3)
          have tb := tb.ext (hid_S ml mli e3)
          have td := td.ext (hid_S ml mli e3)
          refine iteT (T3.set_intro (i := 4) ⟨.ref l, rfl, v, rfl, S, l, li, _, v, ps, es, ds, rfl, ml, mli, B.ins, B.sp, by omega, B.t, DP, fun G4 r' a' b' d' dp' de' di' c4 e4 sp4 hc4 hr' ta' tb' td' pg' => ?_⟩)
          have B := B.ext ml mli e4 sp4
          have hr := hid_S ml mli e4 _ _ hr
          have ta := ta.ext (hid_S ml mli e4)
          have tb := tb.ext (hid_S ml mli e4)
          have td := td.ext (hid_S ml mli e4)
          refine asg_in (iff_in (tst_in ⟨.ref l, rfl, l, li, c4, 2, rfl, B.sp, by decide, by decide, by omega, fun G5 w5 e5 sp5 w50 w51 => ⟨rfl, _, rfl, ?_⟩⟩))
          have B := B.ext ml mli e5 sp5
          have H5 := hid_S ml mli e5
          have hr := H5 _ _ hr
          have hr' := H5 _ _ hr'
          cases decide (V.int w5 = V.int 0) with
          | true =>
            refine iteT ⟨.ref r, rfl, ixT (i := 0) hr rfl ⟨.ref r', rfl, ixT (i := 1) hr' rfl ⟨.ref r', rfl, ixT (i := 2) hr' rfl ⟨small4 3, fun t nt => ?_⟩⟩⟩⟩
            have z := same_new (o := .tup [a, b', d']) nt
            exact gset (nxt _ _ ⟨_, t, a, b', d', dp, de', di', _, _, _, _, rfl, B.same z, by omega, hid_of (B.ins.new nt) upd_same (fun ps z => nomatch z), (ta.ext H5).ext (hid_same z), (tb'.ext H5).ext (hid_same z), (td'.ext H5).ext (hid_same z), ⟨pg.p, pg'.e, pg'.i⟩⟩)
          | false =>
            refine iteF ⟨.ref r', rfl, ixT (i := 0) hr' rfl ⟨.ref r, rfl, ixT (i := 1) hr rfl ⟨.ref r', rfl, ixT (i := 2) hr' rfl ⟨small4 3, fun t nt => ?_⟩⟩⟩⟩
            have z := same_new (o := .tup [a', b, d']) nt
            exact gset (nxt _ _ ⟨_, t, a', b, d', dp', de, di', _, _, _, _, rfl, B.same z, by omega, hid_of (B.ins.new nt) upd_same (fun ps z => nomatch z), (ta'.ext H5).ext (hid_same z), (tb.ext H5).ext (hid_same z), (td'.ext H5).ext (hid_same z), ⟨pg'.p, pg.e, pg'.i⟩⟩)
        · rw [decide_eq_false q]
          have B := B.ext ml mli e3 sp3
          have H3 := hid_S ml mli e3
          exact iteF (nxt _ _ ⟨_, r, a, b, d, dp, de, di, _, _, _, _, rfl, B, by omega, H3 _ _ hr, ta.ext H3, tb.ext H3, td.ext H3, pg⟩)
    · clear T0
      obtain ⟨c1, s2, s3, s4, s5, s6, s7, rfl, B, hc1⟩ := e
      exact nx_intro (ret_intro (k G c1 B.E B.sp (by omega) B.T))
end
end K14.T5
namespace K14.T5
open T27 T3
open K14.Gn
open PySem PySem.W PySem.Calls PyProof.Rows L2 LamX NdefX
open He (ga)
open Kz (SS ExtS ExtS.trans spStart small4 same_new boot_in boot_li boot_isi Has pe_has noE PSs.of_eq seqI new_ext X1 shaped_int dpAll_int HasG pe_hasG FnG)
/-! ### law -/
abbrev sLw : Stmt := topS 61
abbrev NLw : List Str := ["script", "stream", "turn", "plan"]
theorem scLw : FnScope NLw ["script"] (defScope sLw) := ⟨rfl, rfl, rfl, by decide +kernel, rfl, by decide +kernel, by decide +kernel⟩
theorem bdLw : defBody sLw = [stOf sLw 0, stOf sLw 1, stOf sLw 2] := by rfl
def fbLw (i : Nat) : Stmt := (forBody (stOf sLw 1)).getD i (.Pass ⟨0, 0, 0, 0⟩)
theorem bdLwF : forBody (stOf sLw 1) = [fbLw 0, fbLw 1, fbLw 2] := by rfl
theorem DrawnPlan.g {ps es ds : List PyData} (D : DrawnPlan ps es ds) : PlanG (.list ps) (.list es) (.list ds) := by
  have h1 := D.p.1
  have h2 := D.e.1
  have h3 := D.i.1
  exact ⟨.inr ⟨ps, rfl, by omega, fun z m => (D.p.2 z m).g⟩, .inr ⟨es, rfl, by omega, D.e.2⟩, .inr ⟨ds, rfl, by omega, D.i.2⟩⟩
theorem none_right : planF (.list []) (.list []) (.list []) = none := by rfl
structure LaW (P : Program) (w : World) (K : Frag) (mg : Str → Option Value) (base : Heap) (T : List (Addr × Str)) : Prop where
  st : Has P w K mg base "_law_start" 1 ["script"] (spStart K)
  dw : Has P w K mg base "_law_plan_drawn" 6 ["stream", "many", "most"] spDw
  rr : HasG P w K mg base "_law_refused_right" 12 ["stream", "plan"] (spRr T)
  pd : Has P w K mg base "_law_planned" 11 ["parts", "ends", "items"] spPd
  nr : mg "range" = none
section
variable {P : Program} {w : World} {K : Frag} {mg : Str → Option Value} {base : Heap} {T : List (Addr × Str)}
abbrev XLw5 (P : Program) (w : World) (K : Frag) (mg : Str → Option Value) (base : Heap) (f : Addr) (cdv : Value) (A : Around) (outer : List Env) (s : Shared) (H : Hp) (XE : XK) : Cx := (cxOf CX0 P w K mg base NLw "law" (defScope sLw) f cdv A outer s H XE).nox
theorem ok_lw {f : Addr} {fd : FuncData} (Fn : FunD K "law" "law" (defArgs sLw) (defBody sLw) (defScope sLw) [] [] f fd) (L : LaW P w K mg base T) : FnG P w K mg base CX0 13 f fd ["script"] (T3.spLw K T) := by
  refine Kz.FunD.okG Fn scLw (fun vs H Q E h => ?_) (fun cdv A outer s H vs Q XE hg hr h => ?_)
  · obtain ⟨a, ns, rfl, _⟩ := h
    rfl
  · obtain ⟨a, ns, rfl, hS, hn, hT, k⟩ := h
    have v0 : PS (XLw5 P w K mg base f cdv A outer s H XE) (fbLw 0) _ := ps_set (i := 3) scLw.nd rfl (.inl rfl) (pe_has L.dw (hr.mono (by decide)) (by rfl) (pa_cons (pv 1) (pa_cons pe_int (pa_cons pe_int pa_nil))))
    have v1 : PS (XLw5 P w K mg base f cdv A outer s H XE) (fbLw 1) _ := ps_if (pt_not (pt_val (pe_hasG hg L.rr hr (by rfl) (pa_cons (pv 1) (pa_cons (pv 3) pa_nil))))) (pss_one (ps_ret pe_bl)) pss_nil
    have v2 : PS (XLw5 P w K mg base f cdv A outer s H XE) (fbLw 2) _ := ps_if (pt_cmpR op_notN (pe_has L.pd (hr.mono (by decide)) (by rfl) (pa_cons (pe_ix ix_seq (pv 3) pe_int (fun _ _ => rfl)) (pa_cons (pe_ix ix_seq (pv 3) pe_int (fun _ _ => rfl)) (pa_cons (pe_ix ix_seq (pv 3) pe_int (fun _ _ => rfl)) pa_nil)))) pe_non (nomark _)) (pss_one (ps_ret pe_bl)) pss_nil
    have w0 : PS (XLw5 P w K mg base f cdv A outer s H XE) (stOf sLw 0) _ := ps_set (i := 1) scLw.nd rfl (.inl rfl) (pe_has L.st (hr.mono (by decide)) (by rfl) (pa_cons (pv 0) pa_nil))
    have w1 : PS (XLw5 P w K mg base f cdv A outer s H XE) (stOf sLw 1) _ := ps_for PassesOwn.never rfl (pi_range1 (by rfl) L.nr (pa_cons pe_int pa_nil)) (pg_name (i := 2) scLw.nd rfl (.inl rfl)) (PSs.of_eq bdLwF (pss_cons v0 (pss_cons v1 (pss_one v2))))
    have w2 : PS (XLw5 P w K mg base f cdv A outer s H XE) (stOf sLw 2) _ := ps_ret (pe_cmpR op_isN (pe_has L.pd (hr.mono (by decide)) (by rfl) (pa_cons (pe_lst pa_nil) (pa_cons (pe_lst pa_nil) (pa_cons (pe_lst pa_nil) pa_nil)))) pe_non (nomark _))
    have PP := PSs.of_eq bdLw (pss_cons w0 (pss_cons w1 (pss_one w2)))
    clear v0 v1 v2 w0 w1 w2
    refine ⟨_, PSs.nox PP, ?_⟩
    clear PP
    refine T3.set_intro (i := 1) ⟨.ref a, rfl, a, ns, rfl, hS, fun H1 l li e1 n1 n2 ss => ?_⟩
    have s1 : Spr H1 l li 0 := ⟨ns, 0, 19, ss, hn⟩
    have T1 := hT.ext e1
    have m1 : l ∈ [l, li] := by simp
    have m2 : li ∈ [l, li] := by simp
    refine ⟨4, rfl, by decide, by decide, for_range (lo := 0) (n := 4) (fun j σ G => ∃ (a2 a3 : Option V) (c : Int), σ = [some (.ref a), some (.ref l), a2, a3] ∧ Spr G l li c ∧ Tabs T G ∧ c ≤ 9000000 * (j : Nat)) ⟨none, none, 0, rfl, s1, T1, by decide⟩ (fun j σ G hj e => ?_) (fun σ G e => ?_)⟩
    · clear s1 ss T1 e1 n1 n2
      obtain ⟨a2, a3, c, rfl, sp, TG, cb⟩ := e
      refine gset (T3.set_intro (i := 3) ⟨.ref l, rfl, [l, li], l, li, c, rfl, m1, m2, sp.ins, sp, by omega, fun G1 r ps es ds c1 e1 sp1 hc1 tr DP => ?_⟩)
      have TG1 := tabs_S TG sp e1
      refine seq_two (fun σ G => ∃ (c2 : Int) (a2 : Option V), σ = [some (.ref a), some (.ref l), a2, some (.ref r)] ∧ Spr G l li c2 ∧ Tabs T G ∧ c2 ≤ c + 8900000 ∧ Th (Hid [l, li] G) (.ref r) (.tuple [.list ps, .list es, .list ds])) (fun σ G e => ?_) (fun nxt => ifS_intro (not_in (b_in ⟨.ref l, rfl, .ref r, rfl, [l, li], l, li, c1, .ref r, ps, es, ds, rfl, rfl, sp1, by omega, tr, DP, TG1, fun G2 c2 e2 sp2 hc2 T2 => ⟨true, rfl, iteF (nxt _ _ ⟨c2, _, rfl, sp2, T2, by omega, tr.ext e2.hid⟩)⟩⟩)))
      clear TG1 tr sp1 e1 TG sp
      obtain ⟨c2, a2, rfl, sp, TG, hc2, tr⟩ := e
      obtain ⟨t, u, v, w2, et, _, ht, tu, tv, tw⟩ := part_th tr
      cases et
      have hr : (Hid [l, li] G) r = some (.tup [u, v, w2]) := by
        cases tr with
        | tup h _ =>
          rw [hid_up _ _ h] at ht
          rw [← ht]
          exact h
      refine T3.if_intro (tst_in ⟨.ref r, rfl, ixT (i := 0) hr rfl ⟨.ref r, rfl, ixT (i := 1) hr rfl ⟨.ref r, rfl, ixT (i := 2) hr rfl ⟨u, v, w2, _, _, _, rfl, tu.ext hid_up, tv.ext hid_up, tw.ext hid_up, DP.g.ok.1, fun G3 s3 => ?_⟩⟩⟩⟩)
      rw [DP.ok]
      exact ⟨rfl, _, rfl, iteF ⟨_, _, c2, rfl, sp.same s3, TG.ext s3, by push_cast; omega⟩⟩
    · obtain ⟨a2, a3, c, rfl, sp, TG, cb⟩ := e
      refine nx_intro (ret_intro (T3.op_in ⟨Nat.zero_le _, fun q1 n1 => ⟨Nat.zero_le _, fun q2 n2 => ⟨Nat.zero_le _, fun q3 n3 => ?_⟩⟩⟩))
      have z1 := (same_new (o := .lst []) n2).trans (same_new (o := .lst []) n3)
      refine ⟨.ref q1, .ref q2, .ref q3, .list [], .list [], .list [], rfl, .lst (z1 _ _ upd_same) .nil, .lst (same_new n3 _ _ upd_same) .nil, .lst upd_same .nil, rfl, fun G3 s3 => ?_⟩
      rw [none_right]
      exact ⟨rfl, k _⟩
end
end K14.T5
namespace Kz
open PySem PySem.W PySem.Calls PyProof.Rows L2 LamX

/-! ### the end: the script's list and the tables alone are followed -/
section
variable {P : Program} {w : World} {K : Frag} {mg mb : Str → Option Value} {s : Shared} {cs : List (Addr × Addr)} {a : Addr} {vs : List Value} {ns : List Int}
/-- the script's list as it stands -/
abbrev scO (vs : List Value) : Obj := { cls := .type "list", data := .seq vs.toArray }
abbrev emO : Obj := { cls := .none, data := .fields #[] }
/-- what is followed at the law's start: fr, whether the script's list is (it isn't where the written part holds it) -/
def endH (cs : List (Addr × Addr)) (a : Addr) (vs : List Value) (ns : List Int) (fr : Bool) : Hp := fun b => if b ∈ cs.map (·.2) then some (.tbl #[]) else if fr = true ∧ b = a then some (.frz (scO vs) (.lst (ns.map V.int))) else none
theorem endH_tab {fr : Bool} {p : Addr × Addr} (hp : p ∈ cs) : endH cs a vs ns fr p.2 = some (.tbl #[]) := if_pos (List.mem_map.mpr ⟨p, hp, rfl⟩)
theorem endH_cases {fr : Bool} {b : Addr} {o : HO} (h : endH cs a vs ns fr b = some o) : (b ∈ cs.map (·.2) ∧ o = .tbl #[]) ∨ (fr = true ∧ b = a ∧ o = .frz (scO vs) (.lst (ns.map V.int))) := by
  unfold endH at h
  by_cases h1 : b ∈ cs.map (·.2)
  · rw [if_pos h1] at h
    exact .inl ⟨h1, (Option.some.inj h).symm⟩
  · rw [if_neg h1] at h
    by_cases h2 : fr = true ∧ b = a
    · rw [if_pos h2] at h
      exact .inr ⟨h2.1, h2.2, (Option.some.inj h).symm⟩
    · rw [if_neg h2] at h
      cases h
theorem end_law {CX : CXT} {k : Nat} {fa : Addr} {fd : FuncData} {x : Str} {sp : Sp} (KX : K.In s.heap) (hns : s.heap.Ns mainGlobals mg) (hb : s.heap.Ns builtinsNs mb) (hbb : ∀ y : Str, y ≠ "__name__" → mb y = bootBuiltins y) (hlim : s.heap.NoLimit) (hg : s.gens = #[])
    (hT : ∀ p ∈ cs, s.heap.get? p.2 = some emO) (nT : ∀ p ∈ cs, K.lookup p.2 = none) (C : ∀ p ∈ cs, CodeHd s.heap p.1 p.2)
    (hbm : ∃ (bm : Addr) (ob : Obj), mg "__builtins__" = some (.ref bm) ∧ bm ≠ builtinsNs ∧ s.heap.get? bm = some ob ∧ ob.cls = .type "module" ∧ ob.dict = some builtinsNs ∧ ob.data = .plain)
    (ha : s.heap.get? a = some (scO vs)) (hi : IntsAre vs ns) (hl : ns.length ≤ sizeLine) (hr : Room k callerA)
    (G : ∀ base : Heap, K.In base → base.Ns mainGlobals mg → (∀ p ∈ cs, TabB base mg p.1 p.2) → FnG P w K mg base CX k fa fd [x] sp) (hbind : ∀ (s : Shared) (u : Value), BindsTo s fd ⟨[u], []⟩ [(x, u)])
    (hsp : ∀ H : Hp, (∀ p ∈ cs, H p.2 = some (.tbl #[])) → SqL K H a (ns.map V.int) → sp [.ref a] H (fun v _ => v = .bl true) fun _ _ _ => False) (hCX : ∀ H e s', CX [] H s (fun _ _ _ => False) e s' → False) :
    codeAny (model P w) callerA (.call (.ref fa) ⟨[.ref a], []⟩) (fun r s' => r = .ok (.ret (.bool true)) ∧ OldK s.heap s'.heap ∧ s'.os = s.os ∧ AllBare s'.gens) s := by
  have rv := vals_ints hi
  have lv := hi.length
  have tabAt : ∀ b, b ∈ cs.map (·.2) → s.heap.get? b = some emO := fun b hb => by
    obtain ⟨p, hp, rfl⟩ := List.mem_map.mp hb
    exact hT p hp
  have tabK : ∀ b, b ∈ cs.map (·.2) → K.lookup b = none := fun b hb => by
    obtain ⟨p, hp, rfl⟩ := List.mem_map.mp hb
    exact nT p hp
  have aN : a ∉ cs.map (·.2) := fun z => by
    have q := (tabAt a z).symm.trans ha
    cases congrArg (fun o : Option Obj => o.map (·.data)) q
  generalize hfr : (K.lookup a).isNone = fr
  have eA : fr = true → K.lookup a = none := fun z => by
    rw [z] at hfr
    exact Option.isNone_iff_eq_none.mp hfr
  have hS : SqL K (endH cs a vs ns fr) a (ns.map V.int) := by
    cases fr with
    | true => exact .inl (.inr ⟨scO vs, by unfold endH; rw [if_neg aN, if_pos ⟨rfl, rfl⟩]⟩)
    | false =>
      cases q : K.lookup a with
      | none => rw [q] at hfr; cases hfr
      | some o =>
        obtain rfl : scO vs = o := Option.some.inj (ha.symm.trans (KX a o q))
        exact .inr ⟨_, vs.toArray, _, q, rfl, rfl, rfl, by rw [List.size_toArray, lv]; exact hl, by simpa using rv⟩
  have hok : HOk P w (endH cs a vs ns fr) s.heap := fun b o e => by
    rcases endH_cases e with ⟨h1, rfl⟩ | ⟨h1, rfl, rfl⟩
    · exact tabAt b h1
    · exact ⟨ha, by rw [List.length_map]; exact hl, vs, _, rv, ha⟩
  -- what is not followed stands in the base
  have toB : ∀ {b : Addr} {o : Obj}, s.heap.get? b = some o → (∀ vs n, o.data ≠ .seq vs n) → o.data ≠ .fields #[] → (hidT s.heap (endH cs a vs ns fr)).get? b = some o := fun {b o} e h1 h2 => hidT_get e (by
    cases q : endH cs a vs ns fr b with
    | none => rfl
    | some u =>
      rcases endH_cases q with ⟨z, _⟩ | ⟨_, rfl, _⟩
      · exact absurd (congrArg Obj.data (Option.some.inj (e.symm.trans (tabAt b z)))) h2
      · exact absurd (congrArg Obj.data (Option.some.inj (e.symm.trans ha))) (h1 _ _))
  have nsB : ∀ {b : Addr} {m : Str → Option Value}, s.heap.Ns b m → (hidT s.heap (endH cs a vs ns fr)).Ns b m := fun {b m} ⟨o, es, ep, e, d, r⟩ => ⟨o, es, ep, toB e (fun _ _ z => by rw [d] at z; cases z) (fun z => by rw [d] at z; cases z), d, r⟩
  have kB : K.In (hidT s.heap (endH cs a vs ns fr)) := fun b o e => hidT_get (KX b o e) (by
    cases q : endH cs a vs ns fr b with
    | none => rfl
    | some u =>
      rcases endH_cases q with ⟨z, _⟩ | ⟨z, rfl, _⟩
      · rw [tabK b z] at e; cases e
      · rw [eA z] at e; cases e)
  have M : L2.Mod K mg (hidT s.heap (endH cs a vs ns fr)) := ⟨kB, nsB hns, ⟨mb, nsB hb, hbb⟩, let ⟨mc, h1, h2⟩ := hlim; ⟨mc, nsB h1, h2⟩⟩
  have TB : ∀ p ∈ cs, TabB (hidT s.heap (endH cs a vs ns fr)) mg p.1 p.2 := fun p hp => by
    have tp := hT p hp
    refine ⟨?_, ?_, fun z => ?_⟩
    · obtain ⟨o, us, file, tf, flags, tg, inF, text, tt, e1, e2, e3, e4, r⟩ := C p hp
      exact ⟨o, us, file, tf, flags, tg, inF, text, tt, toB e1 (fun _ _ z => by rw [e3] at z; cases z) (fun z => by rw [e3] at z; cases z; simp at e4), e2, e3, e4, r⟩
    · obtain ⟨bm, ob, b1, b2, b3, b4, b5, b6⟩ := hbm
      refine ⟨bm, ob, b1, b2, fun q => ?_, fun q => ?_, toB b3 (fun _ _ z => by rw [b6] at z; cases z) (fun z => by rw [b6] at z; cases z), b4, b5, b6⟩
      · obtain ⟨o, es, ep, e, hd, _⟩ := hns
        rw [q, e] at b3
        cases b3
        rw [hd] at b6
        cases b6
      · rw [q, tp] at b3
        cases b3
        cases b6
    · obtain ⟨o, es, ep, e, hd, _⟩ := hns
      rw [z, tp] at e
      cases e
      cases hd
  have E0 : Env0 P w K mg (hidT s.heap (endH cs a vs ns fr)) callerA [] s (endH cs a vs ns fr) := ⟨rfl, M, fun b o e => of_hidT e, Nat.le_of_eq (hidT_size _ _), trivial, fun b hb => (nomatch (show b ∈ ([] : List Addr) from hb)), hok, .of_eq hg⟩
  refine codeAny_mono ((G _ kB (nsB hns) TB).run callerA [] s _ ⟨[.ref a], []⟩ [.ref a] [.ref a] _ _ rfl hr E0 (hbind s (.ref a)) (.cons rfl .nil) (hsp _ (fun p hp => endH_tab hp) hS)) fun r s' h => ?_
  cases r with
  | error e => exact (hCX _ e s' h).elim
  | ok fl =>
    cases fl with
    | ret u =>
      obtain ⟨v, H', os, bare, un, hok', r', q⟩ := h
      obtain rfl : v = .bl true := q
      obtain rfl : u = Value.bool true := r'
      have keep : ∀ b o, b ∉ cs.map (·.2) → s.heap.get? b = some o → s'.heap.get? b = some o := fun b o nb e => by
        cases q : endH cs a vs ns fr b with
        | none => exact un.keep b o e q (fun z => nomatch (show b ∈ ([] : List Addr) from z)) (by simp)
        | some u =>
          rcases endH_cases q with ⟨z, _⟩ | ⟨_, _, rfl⟩
          · exact absurd z nb
          · have e1 := (hok b _ q).1
            rw [Option.some.inj (e.symm.trans e1)]
            exact (hok' b _ (un.frzs b _ _ q)).1
      have grow : ∀ b, b ∈ cs.map (·.2) → ∃ c, CodeHd s.heap c b ∧ ∃ more : Array Value, s'.heap.get? b = some { cls := .none, data := .fields more } := fun b hb => by
        obtain ⟨p, hp, rfl⟩ := List.mem_map.mp hb
        obtain ⟨more, z⟩ := un.tbls p.2 #[] (endH_tab hp)
        exact ⟨p.1, C p hp, _, hok' p.2 _ z⟩
      refine ⟨rfl, ⟨fun b o e => ?_, fun b o e => ?_⟩, os, bare⟩
      · by_cases hb : b ∈ cs.map (·.2)
        · obtain ⟨c, hc, more, hm⟩ := grow b hb
          obtain rfl : emO = o := Option.some.inj ((tabAt b hb).symm.trans e)
          exact .inr (.inl ⟨(hc.tab (tabAt b hb)).isCodeTable, rfl, #[], more, rfl, by rw [Array.empty_append]; exact hm⟩)
        · exact .inl (keep b o hb e)
      · by_cases hb : b ∈ cs.map (·.2)
        · obtain ⟨c, hc, more, hm⟩ := grow b hb
          exact ⟨_, hm⟩
        · exact ⟨o, keep b o hb e⟩
    | _ => exact h.elim
end
end Kz
namespace Kz
open PySem PySem.W PySem.Calls PyProof.Rows L2 LamX
open He (ga ma eqO eqO_ok ba)
theorem walk_G {l : OpenLaw} {n k : Nat} {q : Program} {loose : List Str} {XP : (Str → Option Value) → Heap → Prop} {YP : World → Heap → Prop} {d : DefRec} {CX : World → CXT} {x : Str} (hn : l.most = some n) (hn2 : n ≤ sizeLine) (hdf : d.params.defaults = []) (hr : Room k callerA)
    (F : ∀ (w : World) (mg : Str → Option Value) (fa : Addr) (h : Heap), YP w h → h.Ns mainGlobals mg → mg d.name = some (.ref fa) → ∃ (K : Frag) (fd : FuncData) (cs : List (Addr × Addr)) (sp : Sp), K.In h ∧ (∀ p ∈ cs, h.get? p.2 = some emO) ∧ (∀ p ∈ cs, K.lookup p.2 = none) ∧ (∀ p ∈ cs, CodeHd h p.1 p.2) ∧
      (∀ (s : Shared) (u : Value), BindsTo s fd ⟨[u], []⟩ [(x, u)]) ∧ (∀ (H : Hp) (a : Addr) (ns : List Int), ns.length ≤ n → (∀ p ∈ cs, H p.2 = some (.tbl #[])) → SqL K H a (ns.map V.int) → sp [.ref a] H (fun v _ => v = .bl true) fun _ _ _ => False) ∧
      ∀ base : Heap, K.In base → base.Ns mainGlobals mg → (∀ p ∈ cs, TabB base mg p.1 p.2) → FnG l.prog w K mg base (CX w) k fa fd [x] sp)
    (hCX : ∀ (w : World) (H : Hp) (s : Shared) (e : Value) (s' : Shared), CX w [] H s (fun _ _ _ => False) e s' → False) : WalkO q loose XP YP l.row.toRowW d [] (fun f vs => PySem.call f vs) := by
  refine Att.attach_callB hn hdf fun w s0 s1 mg mb fa o pm cd doc a vs ns G Y ho hd hcd hmg hobj hints hlen hbits hg => ?_
  obtain ⟨K, fd, cs, sp, KX, hT, nT, C, hb, hsp, hF⟩ := F w mg fa _ Y G.T.g hmg
  exact end_law KX G.T.g G.T.b G.T.builtins G.T.nolimit hg hT nT C G.T.bmain hobj hints (Nat.le_trans hlen hn2) hr hF hb (fun H hH hS => hsp H a ns hlen hH hS) fun H e s' => hCX w H s1 e s'

/-! ### what the looks say of a class -/
end Kz
namespace K14.T5
open T27 T3
open K14.Gn
open PySem PySem.W PySem.Calls PyProof.Rows L2 LamX
open He (ga ma eqO ba frT fAd cT codeOf tabOf emptyTab)
def pgm : Program := PySem.Challenge.pw_twinforks_k05_whole_plans_refused
def FEa (K : Frag) : Addr := ga K "ForkError"
def veT : List Value := [.type "ValueError", .type "Exception", .type "BaseException", .type "object"]
def shapeB (K : Frag) (FE C : Addr) : Bool := match K.lookup C with
  | some ⟨.type t, _, .cls cd, sl⟩ => decide (t = "type") && (decide (cd.mro = .ref C :: .ref FE :: veT) && (cd.hasDict && (!cd.hasDel && (match sl.toList with | [_, _, _, _, some (.builtin n), _] => decide (n = "ValueError.__new__") | _ => false))))
  | _ => false
def initB (K : Frag) (C : Addr) : Bool := match K.lookup (ma K C "__init__") with
  | some ⟨cl, _, .func fd, _⟩ => decide (cl = .type "function") && ((match fd.code with
    | .ref c => codeIn K (.ref c) fd.qualname && (match K.lookup c with
      | some ⟨_, _, .fields vs, _⟩ => (match (vs[2]? : Option Value) with | some (.str file _) => (pgm.main.file : Str) == file | _ => false)
      | _ => false)
    | _ => false) && (match fd.closure with
    | [(_, cc)] => (match K.lookup cc with | some ⟨_, _, .cell (some v), _⟩ => decide (v = .ref C) | _ => false)
    | _ => false))
  | _ => false
def xiB (K : Frag) (C : Addr) : Bool := xfB K C && ((clsIn K C).isSome && (eqO (findIn K (.ref C) "__class__") (some (some (.builtin "object.__class__"))) && decide (mroIn K C (.type "object") = some true)))
def clsB (K : Frag) (FE C : Addr) (fs : List Str) : Bool :=
  shapeB K FE C && (initB K C && (xiB K C && (eqO (findIn K (.ref C) "__setattr__") (some (some (.builtin "object.__setattr__"))) && (keepIn K (.ref C) && (eqO (findIn K (.ref C) "__init__") (some (some (.ref (ma K C "__init__")))) &&
    (decide (ks_superIn K C C "__init__" = some (some (.builtin "ValueError.__init__"))) && (decide (subIn K (.ref C) (.type "ValueError") = some true) && (decide (mroIn K C (.ref C) = some true) &&
    (decide (kitOne K (.ref C) (.ref FE) = some true) && (decide (kitOne K (.ref C) (.type "ValueError") = some true) && (decide (kitOne K (.ref C) (.type "LookupError") = some false) && fs.all fun f => eqO (findIn K (.ref C) f) (some none))))))))))))
def feB (K : Frag) (FE : Addr) : Bool := xiB K FE && (keepIn K (.ref FE) && (excIn K FE veT "ValueError.__new__" && (decide (kitOne K (.ref FE) (.type "ValueError") = some true) && (match K.lookup FE with
  | some ⟨_, _, .cls cd, _⟩ => decide (cd.mro = .ref FE :: veT)
  | _ => false))))
def oncB (K : Frag) : Bool := decide (nsIn K cStatics "thirdparty.any" = some none) && (decide (specialIn K (.builtin "object.__class__") "__get__" = some (some (.builtin "getset_descriptor.__get__"))) && decide (takesIn K (.builtin "object.__class__") = some true))
def ones : List (Str × Str) := [("BadEnds", "index"), ("BadItems", "index"), ("BadParts", "index"), ("BadWire", "name")]
def tfs : List He.Defn := [("_law_is_part", none), ("_law_plan_fault", none)]
def strV : Value → Option Str
  | .str x _ => some x
  | _ => none
def keptK (K : Frag) : Bool := match K.lookup (ga K "KEPT") with
  | some ⟨cl, _, .seq its _, _⟩ => decide (cl = .type "tuple") && (decide (its.toList.map strV = kept.map some) && decide (its.size ≤ 10))
  | _ => false
def sysB (K : Frag) : Bool := match K.lookup sysModules with
  | some o => decide (o.cls = .type "dict")
  | none => false
def dsAll (K : Frag) : List Addr := ones.map fun p => ga K p.1
def exZ (K : Frag) : Bool := oncB K && (feB K (FEa K) && (decide ((FEa K :: dsAll K).Nodup) && ((ones.all fun p => clsB K (FEa K) (ga K p.1) [p.2]) && ((keptK K && sysB K) && decide ((tfs.map fun p => (cT K p).2).Nodup)))))
/-! a dict of the top, texts to texts -/
def entOf (e : DictEntry) : Option (Str × Int × Str) := match e.key, e.val with
  | .str x _, .str y _ => some (x, e.hash, y)
  | _, _ => none
def dicB (K : Frag) (a : Addr) : Option (List (Option (Str × Int × Str))) := match K.lookup a with
  | some ⟨.type c, none, .dict es _, sl⟩ => (match decide (c = "dict") && (sl.isEmpty && !(a == sysModules)) with
    | true => some (es.toList.map entOf)
    | false => none)
  | _ => none
def dicN : List (Str × List (Str × Str)) := []
def dicV (w : World) (kvs : List (Str × Str)) : Option (List (Option (Str × Int × Str))) := some (kvs.map fun p => some (p.1, PyData.keyHash w.params p.1, p.2))
/-! the texts of the classes' own -/
abbrev FnI : Type := Option (Str × Str × Arguments × FuncBody × Scope × Addr × Value × Addr × List Str)
def fnI (K : Frag) (C : Addr) : FnI := match K.lookup (ma K C "__init__") with
  | some ⟨_, _, .func fd, _⟩ => some (fd.name, fd.qualname, fd.params, fd.body, fd.scope, fd.globals, fd.defaults, fd.builtins, fd.closure.map (·.1))
  | _ => none
def initS : Stmt → Stmt
  | .ClassDef _ _ _ (i :: _) _ _ _ _ _ _ _ => i
  | s => s
/-- the class that the top's i-th statement makes -/
def clsName : Stmt → Str
  | .ClassDef n _ _ _ _ _ _ _ _ _ _ => n
  | _ => ""
def valI (st : Stmt) : FnI := some ("__init__", clsName st ++ ".__init__", defArgs (initS st), .stmts (defBody (initS st)), defScope (initS st), mainGlobals, .none, builtinsNs, ["__class__"])

/-! ### what the head looks at -/
def glG (g : Addr → Option Obj) (x : Str) : Addr := match g mainGlobals with
  | some ⟨_, _, .dict es _, _⟩ => (match es.toList.find? (·.key.isStr x) with | some e => (match e.val with | .ref a => a | _ => 0) | none => 0)
  | _ => 0
def fnG (g : Addr → Option Obj) (f : Addr) : List Addr := match g f with
  | some ⟨_, _, .func fd, _⟩ => (match fd.code with | .ref c => [c] | _ => []) ++ fd.closure.map (·.2)
  | _ => []
def moreG (g : Addr → Option Obj) (a : Addr) : List Addr := match g a with
  | some ⟨_, _, .cls cd, _⟩ => cd.ns :: (match g cd.ns with
    | some ⟨_, _, .dict es _, _⟩ => es.toList.flatMap fun e => match e.val with | .ref f => f :: fnG g f | _ => []
    | _ => [])
  | some ⟨_, _, .func _, _⟩ => fnG g a
  | _ => []
def clsNames : List Str := ones.map (·.1)
def defNames1 : List Str := (["_wall", "is_list", "begins_name", "is_name", "are_names", "first_no_end", "check_ends", "first_not_twice", "is_cell", "check_wires", "is_use", "is_joining", "is_item", "first_no_item", "wires_of", "names_in", "is_part", "check_parts", "check_items", "told_item"] : List Str) ++ (["told_items", "told_parts"] : List Str)
def defNames2 : List Str := (["_law_fresh", "_law_ends", "_law_paired", "_law_is_name", "_law_is_cell", "_law_first_odd", "_law_items", "_law_plan_drawn", "_law_row_bent", "_law_start", "_law_draw", "_law_pick", "_law_mixed", "_law_same", "_law_loose", "_law_is_item", "_law_odd_wire", "_law_is_part", "_law_plan_fault", "_law_planned"] : List Str) ++ (["_law_odd_items", "_law_odd_parts", "_law_plan_bent", "_law_refused_right", "law"] : List Str)
def defNames : List Str := defNames1 ++ defNames2
def conNames : List Str := ["KEPT", "Plan"]
def allNames : List Str := ("ForkError" : Str) :: (conNames ++ (clsNames ++ defNames))
def needs (g : Addr → Option Obj) : List Addr := mainGlobals :: cStatics :: sysModules :: allNames.flatMap fun x => glG g x :: moreG g (glG g x)
def defAt (i : Nat) : He.DefD := match topS i with
  | .FunctionDef n a b _ _ _ sc _ _ _ => ⟨(n, none), n, n, a, b, sc, [], []⟩
  | _ => ⟨("", none), "", "", ⟨[], [], none, [], [], none, []⟩, [], ⟨.function, [], false, false, []⟩, [], []⟩
def mtAt (c q : Str) (i j : Nat) : He.DefD := match mS i j with
  | .FunctionDef n a b _ _ _ sc _ _ _ => ⟨(c, some n), n, q, a, b, sc, [], []⟩
  | _ => ⟨("", none), "", "", ⟨[], [], none, [], [], none, []⟩, [], ⟨.function, [], false, false, []⟩, [], []⟩
def fns : List He.DefD := [defAt 0, defAt 12, defAt 13, defAt 14, defAt 15, defAt 16, defAt 17, defAt 18, defAt 20, defAt 21, defAt 23, defAt 24, defAt 25, defAt 26, defAt 27, defAt 28, defAt 29, defAt 30, defAt 31, defAt 32, defAt 33, defAt 34, defAt 37, defAt 38, defAt 39, defAt 40, defAt 41, defAt 42, defAt 43, defAt 44, defAt 45, defAt 46, defAt 47, defAt 48, defAt 49, defAt 50, defAt 51, defAt 52, defAt 53, defAt 54, defAt 55, defAt 56, defAt 57, defAt 58, defAt 59, defAt 60, defAt 61, mtAt "Plan" "Plan.__init__" 35 0]
def fas : List He.Fa := allNames.map He.Fa.glo ++ [.free "super", .free "list", .free "int", .free "len", .free "range", .free "isinstance", .free "repr", .free "tuple", .free "dict", .free "zip", .free "all", .free "enumerate", .free "bool", .free "str", .free "sum", .str "LETTERS" letters, .str "NAME_SIGNS" signs, .int "LONGEST_NAME" 8, .cls "Plan", .noat "Plan" "_parts", .noat "Plan" "_ends", .noat "Plan" "_body", .mkr "Plan"]
def stsI : List Stmt := [topS 3, topS 4, topS 5, topS 6]
abbrev DiZ : Type := List (Option (List (Option (Str × Int × Str))))
abbrev AlZ : Type := He.AlD × (List FnI × (Bool × DiZ))
def obsK (g : Addr → Option Obj) (K : Frag) : AlZ := (He.obsD fas fns K, (clsNames.map fun x => fnI K (ga K x)), (exZ K && He.tabsB g tfs K, dicN.map fun p => dicB K (ga K p.1)))
def obsZ (g : Addr → Option Obj) : AlZ := obsK g (frT g (needs g))
def valZ (w : World) : AlZ := (He.valD fns, stsI.map valI, (true, dicN.map fun p => dicV w p.2))
structure SaysZ (w : World) (h : Heap) (K : Frag) : Prop where
  i : K.In h
  d : He.obsD fas fns K = He.valD fns
  c : (clsNames.map fun x => fnI K (ga K x)) = stsI.map valI
  e : exZ K = true
  t1 : ∀ p ∈ tfs, codeHdIn K (cT K p).1 (cT K p).2 = true
  t2 : ∀ p ∈ tfs, K.lookup (cT K p).2 = none
  t3 : ∀ p ∈ tfs, h.get? (cT K p).2 = some { cls := .none, data := .fields #[] }
  f : (dicN.map fun p => dicB K (ga K p.1)) = dicN.map fun p => dicV w p.2
def hookZ : Hook where
  α := AlZ
  obs := fun s => obsZ s.heap.get?
  val := fun w => valZ w
  says := fun w h => ∃ K : Frag, SaysZ w h K
  of := fun _ h e => by
    have e1 := congrArg (fun z : AlZ => z.1) e
    have e2 := congrArg (fun z : AlZ => z.2.1) e
    have e3 : (exZ (frT h.heap.get? (needs h.heap.get?)) && He.tabsB h.heap.get? tfs (frT h.heap.get? (needs h.heap.get?))) = true := congrArg (fun z : AlZ => z.2.2.1) e
    have e4 := congrArg (fun z : AlZ => z.2.2.2) e
    obtain ⟨h1, h2⟩ := ba e3
    have key : ∀ p ∈ tfs, codeHdIn (frT h.heap.get? (needs h.heap.get?)) (cT (frT h.heap.get? (needs h.heap.get?)) p).1 (cT (frT h.heap.get? (needs h.heap.get?)) p).2 = true ∧ ∃ o, h.heap.get? (cT (frT h.heap.get? (needs h.heap.get?)) p).2 = some o ∧ emptyTab o = true := fun p hp => by
      obtain ⟨k1, k2⟩ := ba (List.all_eq_true.mp h2 p hp)
      refine ⟨k1, ?_⟩
      cases q : h.heap.get? (cT (frT h.heap.get? (needs h.heap.get?)) p).2 with
      | none => rw [q] at k2; cases k2
      | some o => rw [q] at k2; exact ⟨o, rfl, k2⟩
    refine ⟨_, He.frT_in, e1, e2, h1, fun p hp => (key p hp).1, fun p hp => ?_, fun p hp => ?_, e4⟩
    · obtain ⟨_, o, q, z⟩ := key p hp
      exact He.frT_none q z
    · obtain ⟨_, o, q, z⟩ := key p hp
      rw [q, He.emptyTab_eq z]
  keeps := fun _ _ _ ⟨K, z⟩ k => ⟨K, ⟨Frag.In.keeps z.i k, z.d, z.c, z.e, z.t1, z.t2, fun p hp => k _ _ (z.t3 p hp), z.f⟩⟩
def obZ (s : SharedT) : AlZ := obsZ (HandSHeadRun.getT s)
theorem obZ_eq (s : SharedT) : obZ s = hookZ.obs s.abs := by
  have e : HandSHeadRun.getT s = s.abs.heap.get? := funext (HandSHeadRun.getT_eq s)
  show obsZ (HandSHeadRun.getT s) = obsZ s.abs.heap.get?
  rw [e]
abbrev RZ : OpenRow := OpenLaw.row PySem.Challenge.rw_twinforks_k05_whole_plans_refused
def nms1 : List Str := (["_wall", "ForkError", "BadEnds", "BadItems", "BadParts", "BadWire", "KEPT", "LETTERS", "NAME_SIGNS", "LONGEST_NAME", "is_list", "begins_name", "is_name", "are_names", "first_no_end", "check_ends", "first_not_twice", "is_cell", "check_wires", "is_use"] : List Str) ++ (["is_joining", "is_item", "first_no_item", "wires_of", "names_in", "is_part", "check_parts", "check_items", "told_item", "told_items", "told_parts", "Plan"] : List Str)
def nms2 : List Str := (["_law_fresh", "_law_ends", "_law_paired", "_law_is_name", "_law_is_cell", "_law_first_odd", "_law_items", "_law_plan_drawn", "_law_row_bent", "_law_start", "_law_draw", "_law_pick", "_law_mixed", "_law_same", "_law_loose", "_law_is_item", "_law_odd_wire", "_law_is_part", "_law_plan_fault", "_law_planned"] : List Str) ++ (["_law_odd_items", "_law_odd_parts", "_law_plan_bent", "_law_refused_right"] : List Str)
def nms : List Str := nms1 ++ nms2
end K14.T5
namespace K14.T5
open T27 T3
open K14.Gn
open PySem PySem.W PySem.Calls PyProof.Rows L2 LamX
open He (ga ma eqO eqO_ok ba cT)
open Kz (XF X1 ScI sSuper sPut)
/-! ### what the looks say of a class -/
section
variable {K : Frag} {FE C : Addr} {fs : List Str}
theorem shape_ok (h : shapeB K FE C = true) : (∃ nm q N bs sn sub ab col dd k0 k1 k2 k3 k5, K.lookup C = some (excClassObj nm q C N bs (.ref FE :: veT) true sn sub ab col dd k0 k1 k2 k3 k5 "ValueError.__new__")) := by
  unfold shapeB at h
  split at h
  · rename_i t od cd sl q
    obtain ⟨h1, h2⟩ := ba h
    obtain ⟨h3, h4⟩ := ba h2
    obtain ⟨h5, h6⟩ := ba h4
    obtain ⟨h7, h8⟩ := ba h6
    split at h8
    · rename_i k0 k1 k2 k3 n k5 e
      obtain ⟨nm, bs, mro, N, qn, hd, sn, sub, ab, col, hdel⟩ := cd
      have e1 : t = "type" := of_decide_eq_true h1
      have e2 : mro = .ref C :: .ref FE :: veT := of_decide_eq_true h3
      have e3 : hd = true := h5
      have e4 : hdel = false := by simpa using h7
      have e5 : n = "ValueError.__new__" := of_decide_eq_true h8
      obtain ⟨sl⟩ := sl
      have e6 : sl = [k0, k1, k2, k3, some (.builtin n), k5] := e
      subst e1 e2 e3 e4 e5 e6
      exact ⟨nm, qn, N, bs, sn, sub, ab, col, od, k0, k1, k2, k3, k5, q⟩
    · cases h8
  · cases h
/-- all that clsB says -/
structure CB (K : Frag) (FE C : Addr) (fs : List Str) : Prop where
  sh : shapeB K FE C = true
  ib : initB K C = true
  xi : xiB K C = true
  sa : findIn K (.ref C) "__setattr__" = some (some (.builtin "object.__setattr__"))
  kp : keepIn K (.ref C) = true
  ini : findIn K (.ref C) "__init__" = some (some (.ref (ma K C "__init__")))
  sup : ks_superIn K C C "__init__" = some (some (.builtin "ValueError.__init__"))
  sv : subIn K (.ref C) (.type "ValueError") = some true
  slf : mroIn K C (.ref C) = some true
  kF : kitOne K (.ref C) (.ref FE) = some true
  kV : kitOne K (.ref C) (.type "ValueError") = some true
  kL : kitOne K (.ref C) (.type "LookupError") = some false
  no : ∀ f ∈ fs, findIn K (.ref C) f = some none
theorem cb_ok (h : clsB K FE C fs = true) : CB K FE C fs := by
  obtain ⟨a1, h⟩ := ba h
  obtain ⟨a2, h⟩ := ba h
  obtain ⟨a3, h⟩ := ba h
  obtain ⟨a4, h⟩ := ba h
  obtain ⟨a5, h⟩ := ba h
  obtain ⟨a6, h⟩ := ba h
  obtain ⟨a7, h⟩ := ba h
  obtain ⟨a8, h⟩ := ba h
  obtain ⟨a9, h⟩ := ba h
  obtain ⟨b1, h⟩ := ba h
  obtain ⟨b2, h⟩ := ba h
  obtain ⟨b3, h⟩ := ba h
  exact ⟨a1, a2, a3, eqO_ok a4, a5, eqO_ok a6, of_decide_eq_true a7, of_decide_eq_true a8, of_decide_eq_true a9, of_decide_eq_true b1, of_decide_eq_true b2, of_decide_eq_true b3, fun f hf => eqO_ok (List.all_eq_true.mp h f hf)⟩
theorem CB.oex (c : CB K FE C fs) : OexC K C := by
  obtain ⟨nm, q, N, bs, sn, sub, ab, col, dd, k0, k1, k2, k3, k5, e⟩ := shape_ok c.sh
  exact ⟨⟨nm, q, N, bs, _, sn, sub, ab, col, dd, k0, k1, k2, k3, k5, e, rfl⟩, c.sa, (xfB_ok (ba c.xi).1).exC, (show (K.lookup C).map (·.cls) = some (.type "type") by rw [e]; rfl), c.kp⟩
theorem CB.mro (c : CB K FE C fs) (v : Value) : subIn K (.ref C) v = some ((.ref C :: .ref FE :: veT : List Value).contains v) := by
  obtain ⟨nm, q, N, bs, sn, sub, ab, col, dd, k0, k1, k2, k3, k5, e⟩ := shape_ok c.sh
  show mroIn K C v = _
  unfold mroIn clsIn
  rw [e]
  rfl
theorem CB.ex (c : CB K FE C fs) {d : Addr} {gs : List Str} (cd : CB K FE d gs) (nf : FE ≠ d) : exmOne K (.ref C) (.ref d) = some (decide (C = d)) := by
  have b : subIn K (.ref d) (.type "BaseException") = some true := by
    rw [cd.mro]
    rfl
  unfold exmOne
  rw [b, if_pos (by rfl)]
  unfold kitCls
  obtain ⟨nm, q, N, bs, sn, sub, ab, col, dd, k0, k1, k2, k3, k5, ed⟩ := shape_ok cd.sh
  have e1 : ((clsIn K d).isSome && typeIn K (.ref d) == some (.type "type")) = true := by
    show ((clsIn K d).isSome && (K.lookup d).map (·.cls) == some (.type "type")) = true
    unfold clsIn
    rw [ed]
    rfl
  show (if ((clsIn K d).isSome && typeIn K (.ref d) == some (.type "type")) = true then subIn K (.ref C) (.ref d) else none) = _
  rw [if_pos e1, c.mro]
  by_cases e : C = d
  · rw [decide_eq_true e, e]
    simp
  · rw [decide_eq_false e]
    have n1 : ((Value.ref d) == Value.ref C) = false := by simpa using fun z => e z.symm
    have n2 : ((Value.ref d) == Value.ref FE) = false := by simpa using fun z => nf z.symm
    show some ((Value.ref d == Value.ref C) || ((Value.ref d == Value.ref FE) || veT.contains (Value.ref d))) = _
    rw [n1, n2]
    rfl
end
section
variable {K : Frag} {FE C : Addr} {fs : List Str} {st : Stmt}
/-- the facts of an own __init__, its text in hand -/
theorem xf_of (c : CB K FE C fs) (hI : fnI K C = valI st) {params : Arguments} {body : List Stmt} {scope : Scope} (hp : defArgs (initS st) = params) (hb : defBody (initS st) = body) (hs : defScope (initS st) = scope) (on : oncB K = true) (glo : nsIn K mainGlobals "super" = some none) :
    XF pgm K C (ma K C "__init__") (clsName st ++ ".__init__") params body scope := by
  have hi := c.ib
  unfold initB at hi
  unfold fnI valI at hI
  cases q : K.lookup (ma K C "__init__") with
  | none =>
    rw [q] at hi
    cases hi
  | some o =>
    obtain ⟨cl, od, dt, sl⟩ := o
    rw [q] at hi hI
    cases dt with
    | func fd =>
      obtain ⟨n1, n2, n3, n4, n5, n6, n7, n8, n9, n10, n11, n12, n13, n14, n15⟩ := fd
      have e2 : (some (n1, n2, n3, n4, n5, n6, n8, n15, n7.map (·.1)) : FnI) = (some ("__init__", clsName st ++ ".__init__", defArgs (initS st), FuncBody.stmts (defBody (initS st)), defScope (initS st), mainGlobals, Value.none, builtinsNs, ["__class__"]) : FnI) := hI
      simp only [FnI, Option.some.injEq, Prod.mk.injEq] at e2
      obtain ⟨g1, g2, g3, g4, g5, g6, g7, g8, g9⟩ := e2
      subst g1 g2 g3 g4 g5 g6 g7 g8
      obtain ⟨j1, j2⟩ := ba hi
      obtain ⟨j3, j4⟩ := ba j2
      obtain rfl : cl = .type "function" := of_decide_eq_true j1
      rw [hp, hb, hs] at q
      obtain ⟨o1, _⟩ := ba on
      cases n13 with
      | ref cda =>
        obtain ⟨j5, j6⟩ := ba (show (codeIn K (.ref cda) (clsName st ++ ".__init__") && _) = true from j3)
        cases qc : K.lookup cda with
        | none =>
          rw [qc] at j6
          cases j6
        | some oc =>
          obtain ⟨ccl, cdd, cdt, ccs⟩ := oc
          rw [qc] at j6
          cases cdt with
          | fields vs =>
            cases q2 : (vs[2]? : Option Value) with
            | none =>
              have j7 : (match (vs[2]? : Option Value) with | some (.str file _) => (pgm.main.file : Str) == file | _ => false) = true := j6
              rw [q2] at j7
              cases j7
            | some fv =>
              have j7 : (match (vs[2]? : Option Value) with | some (.str file _) => (pgm.main.file : Str) == file | _ => false) = true := j6
              rw [q2] at j7
              cases fv with
              | str file tf =>
                cases n7 with
                | nil => cases g9
                | cons p r =>
                  cases r with
                  | cons p2 r2 => simp at g9
                  | nil =>
                    obtain ⟨x, cc⟩ := p
                    obtain rfl : x = "__class__" := by simpa using g9
                    have j8 : (match K.lookup cc with | some ⟨_, _, .cell (some v), _⟩ => decide (v = .ref C) | _ => false) = true := j4
                    cases qd : K.lookup cc with
                    | none =>
                      rw [qd] at j8
                      cases j8
                    | some od2 =>
                      obtain ⟨dcl, ddd, ddt, dsl⟩ := od2
                      rw [qd] at j8
                      cases ddt with
                      | cell ov =>
                        cases ov with
                        | none => cases j8
                        | some v =>
                          obtain rfl : v = .ref C := of_decide_eq_true j8
                          exact ⟨c.oex, c.ini, (show (K.lookup (ma K C "__init__")).map (·.cls) = some (.type "function") by rw [q]; rfl), ⟨_, _, _, _, _, _, cda, _, _, cc, ccl, cdd, vs, ccs, file, tf, _, _, _, q, j5, qc, q2, j7, qd⟩, c.sup, c.sv, c.slf, of_decide_eq_true o1, glo, by decide +kernel, xfB_ok (ba c.xi).1⟩
                      | _ => cases j8
              | _ => cases j7
          | _ => cases j6
      | _ => cases j3
    | _ => cases hi
end
/-- the text of an own error class with one field: what must be seen of it -/
structure T1 (st : Stmt) (f : Str) : Prop where
  ex : ∃ (params : Arguments) (scope : Scope) (msg : Str) (j : Nat) (p0 p1 p2 p3 p4 p5 q0 q1 q2 q3 : Pos), defArgs (initS st) = params ∧ defBody (initS st) = [sSuper msg j p0 p1 p2 p3 p4 p5, sPut f q0 q1 q2 q3] ∧ defScope (initS st) = scope ∧ (p2.endLine == p4.line) = true ∧ ScI params scope [f] ∧
    (∀ (qual : Str) (kV doc pm : Value) (an : Option Addr) (cdv ct : Value) (cc : Addr) (a u : Value), bindArgs (ksFn "__init__" qual params [sSuper msg j p0 p1 p2 p3 p4 p5, sPut f q0 q1 q2 q3] scope .none kV doc pm an cdv ct cc) ⟨[a, u], []⟩ = pure [(("self" : Str), a), (f, u)]) ∧
    (∀ (qual : Str) (kV doc pm : Value) (an : Option Addr) (cdv ct : Value) (cc : Addr) (a u : Value), bindArgs (ksFn "__init__" qual params [sSuper msg j p0 p1 p2 p3 p4 p5, sPut f q0 q1 q2 q3] scope .none kV doc pm an cdv ct cc) ⟨[a], [(f, u)]⟩ = pure [(("self" : Str), a), (f, u)])
  fs : (f == ("self" : Str)) = false
  fd : (f == ("__debug__" : Str)) = false
theorem x1_of {K : Frag} {FE C : Addr} {f : Str} {st : Stmt} (t : T1 st f) (c : CB K FE C [f]) (hI : fnI K C = valI st) (on : oncB K = true) (glo : nsIn K mainGlobals "super" = some none) : X1 pgm K C f := by
  obtain ⟨params, scope, msg, j, p0, p1, p2, p3, p4, p5, q0, q1, q2, q3, e1, e2, e3, e4, e5, e6, e7⟩ := t.ex
  exact ⟨⟨_, _, params, scope, msg, j, p0, p1, p2, p3, p4, p5, q0, q1, q2, q3, e4, xf_of c hI e1 e2 e3 on glo, e5, e6 _, e7 _⟩, t.fs, t.fd, c.no f (by simp), c.kp⟩
theorem t1_0 : T1 (topS 3) "index" := ⟨⟨_, _, _, _, _, _, _, _, _, _, _, _, _, _, rfl, rfl, rfl, rfl, ⟨⟨_, rfl, rfl⟩, rfl, rfl, rfl, by decide +kernel, by decide +kernel, rfl, rfl, rfl⟩, fun _ _ _ _ _ _ _ _ _ _ => rfl, fun _ _ _ _ _ _ _ _ _ _ => rfl⟩, by decide, by decide⟩
theorem t1_1 : T1 (topS 4) "index" := ⟨⟨_, _, _, _, _, _, _, _, _, _, _, _, _, _, rfl, rfl, rfl, rfl, ⟨⟨_, rfl, rfl⟩, rfl, rfl, rfl, by decide +kernel, by decide +kernel, rfl, rfl, rfl⟩, fun _ _ _ _ _ _ _ _ _ _ => rfl, fun _ _ _ _ _ _ _ _ _ _ => rfl⟩, by decide, by decide⟩
theorem t1_2 : T1 (topS 5) "index" := ⟨⟨_, _, _, _, _, _, _, _, _, _, _, _, _, _, rfl, rfl, rfl, rfl, ⟨⟨_, rfl, rfl⟩, rfl, rfl, rfl, by decide +kernel, by decide +kernel, rfl, rfl, rfl⟩, fun _ _ _ _ _ _ _ _ _ _ => rfl, fun _ _ _ _ _ _ _ _ _ _ => rfl⟩, by decide, by decide⟩
theorem t1_3 : T1 (topS 6) "name" := ⟨⟨_, _, _, _, _, _, _, _, _, _, _, _, _, _, rfl, rfl, rfl, rfl, ⟨⟨_, rfl, rfl⟩, rfl, rfl, rfl, by decide +kernel, by decide +kernel, rfl, rfl, rfl⟩, fun _ _ _ _ _ _ _ _ _ _ => rfl, fun _ _ _ _ _ _ _ _ _ _ => rfl⟩, by decide, by decide⟩
/-- what the head says, together -/
structure Sy (w : World) (K : Frag) : Prop where
  d : He.SaysD fas fns K
  i : (clsNames.map fun x => fnI K (ga K x)) = stsI.map valI
  on : oncB K = true
  nd : (FEa K :: dsAll K).Nodup
  one : ∀ p ∈ ones, clsB K (FEa K) (ga K p.1) [p.2] = true
  kp : keptK K = true
  sy : sysB K = true
  tn : (tfs.map fun p => (cT K p).2).Nodup
  f : (dicN.map fun p => dicB K (ga K p.1)) = dicN.map fun p => dicV w p.2
theorem sy_of {w : World} {h : Heap} {K : Frag} (z : SaysZ w h K) : Sy w K := by
  obtain ⟨b1, b2⟩ := ba z.e
  obtain ⟨c1, c2⟩ := ba b2
  obtain ⟨d1, d2⟩ := ba c2
  obtain ⟨d2, d3⟩ := ba d2
  obtain ⟨d3, d5⟩ := ba d3
  obtain ⟨d3, d4⟩ := ba d3
  exact ⟨z.d, z.c, b1, of_decide_eq_true d1, fun p hp => List.all_eq_true.mp d2 p hp, d3, d4, of_decide_eq_true d5, z.f⟩
section
variable {w : World} {K : Frag}
theorem Sy.fa (S : Sy w K) {f : He.Fa} (h : f ∈ fas) : f.ok K = true := He.SaysD.facts S.d h
theorem glo_mem {x : Str} (h : x ∈ allNames) : He.Fa.glo x ∈ fas := List.mem_append_left _ (List.mem_map.mpr ⟨x, h, rfl⟩)
theorem con_mem {x : Str} (h : x ∈ conNames) : x ∈ allNames := List.mem_cons_of_mem _ (List.mem_append_left _ h)
theorem cls_mem {x : Str} (h : x ∈ clsNames) : x ∈ allNames := List.mem_cons_of_mem _ (List.mem_append_right _ (List.mem_append_left _ h))
theorem def_mem {x : Str} (h : x ∈ defNames) : x ∈ allNames := List.mem_cons_of_mem _ (List.mem_append_right _ (List.mem_append_right _ h))
theorem Sy.free (S : Sy w K) (i : Nat) {x : Str} (h : fas[i]? = some (.free x) := by rfl) : (He.Fa.free x).ok K = true := S.fa (List.mem_of_getElem? h)
theorem Sy.fn (S : Sy w K) {p : Str × Str} (h : p ∈ ones) : FEa K ≠ ga K p.1 := fun z => by
  have h' := (List.nodup_cons.mp S.nd).1
  rw [z] at h'
  exact h' (List.mem_map.mpr ⟨p, h, rfl⟩)
theorem Sy.at (S : Sy w K) (i : Nat) {p : Str × Str} {s : Stmt} (h : ones[i]? = some p) (hs : stsI[i]? = some s) : fnI K (ga K p.1) = valI s := by
  have e1 : clsNames[i]? = some p.1 := by
    unfold clsNames
    rw [List.getElem?_map, h]
    rfl
  have e := congrArg (fun l : List FnI => l[i]?) S.i
  have e3 : (clsNames.map fun x => fnI K (ga K x))[i]? = (stsI.map valI)[i]? := e
  rw [List.getElem?_map, List.getElem?_map, e1, hs] at e3
  exact Option.some.inj e3
theorem nodup_map_inj {α β : Type} {f : α → β} : ∀ {l : List α}, (l.map f).Nodup → ∀ {x y : α}, x ∈ l → y ∈ l → f x = f y → x = y
  | [], _, _, _, h, _, _ => nomatch h
  | z :: l, h, x, y, hx, hy, e => by
    obtain ⟨h1, h2⟩ := List.nodup_cons.mp h
    rcases List.mem_cons.mp hx with q1 | q1
    · rcases List.mem_cons.mp hy with q2 | q2
      · rw [q1, q2]
      · rw [q1] at e
        exact absurd (List.mem_map.mpr ⟨y, q2, e.symm⟩) h1
    · rcases List.mem_cons.mp hy with q2 | q2
      · rw [q2] at e
        exact absurd (List.mem_map.mpr ⟨x, q1, e⟩) h1
      · exact nodup_map_inj h2 q1 q2 e
theorem Sy.inj (S : Sy w K) {p q : Str × Str} (hp : p ∈ ones) (hq : q ∈ ones) : decide (ga K p.1 = ga K q.1) = decide (p.1 = q.1) := by
  have h := (List.nodup_cons.mp S.nd).2
  by_cases e : p.1 = q.1
  · rw [e, decide_eq_true rfl, decide_eq_true rfl]
  · rw [decide_eq_false e, decide_eq_false fun z => e (congrArg (·.1) (nodup_map_inj h hp hq z))]
theorem Sy.sysK (S : Sy w K) : SysK K := by
  have h := S.sy
  unfold sysB at h
  split at h
  · rename_i o q
    exact ⟨o, q, of_decide_eq_true h⟩
  · cases h
theorem vals_str : ∀ {vs : List Value} {ss : List Str}, vs.map strV = ss.map some → Vals (ss.map V.str) vs
  | [], [], _ => .nil
  | [], _ :: _, h => by cases h
  | _ :: _, [], h => by cases h
  | v :: vs, x :: ss, h => by
    rw [List.map_cons, List.map_cons] at h
    injection h with h1 h2
    refine .cons ?_ (vals_str h2)
    cases v with
    | str y t =>
      obtain rfl : y = x := Option.some.inj h1
      exact ⟨t, rfl⟩
    | _ => cases h1
theorem Sy.kept (S : Sy w K) (H : Hp) : SqT K H (ga K "KEPT") (T27.kept.map V.str) := by
  have h := S.kp
  unfold keptK at h
  split at h
  · rename_i cl od its n sl q
    obtain ⟨h1, h2⟩ := ba h
    obtain ⟨h2, h3⟩ := ba h2
    have h3 := of_decide_eq_true h3
    exact .inr ⟨_, its, n, q, of_decide_eq_true h1, rfl, by rw [sizeLine_eq]; omega, vals_str (of_decide_eq_true h2)⟩
  · cases h
end
section
variable {w : World} {K : Frag} {mg : Str → Option Value} {h : Heap}
theorem Sy.mgC (S : Sy w K) (X : K.In h) (G : h.Ns mainGlobals mg) {x : Str} (hx : x ∈ allNames) : mg x = some (.ref (ga K x)) := He.glo_ok X G (S.fa (glo_mem hx))
theorem Sy.er (S : Sy w K) (X : K.In h) (G : h.Ns mainGlobals mg) (i : Nat) {p : Str × Str} {s : Stmt} (e : ones[i]? = some p) (hs : stsI[i]? = some s) (t : T1 s p.2) : mg p.1 = some (.ref (ga K p.1)) ∧ X1 pgm K (ga K p.1) p.2 := by
  have glo : nsIn K mainGlobals "super" = some none := eqO_ok (S.free 54 (x := "super"))
  have hm := List.mem_of_getElem? e
  exact ⟨S.mgC X G (cls_mem (List.mem_map.mpr ⟨_, hm, rfl⟩)), x1_of t (cb_ok (S.one _ hm)) (S.at i e hs) S.on glo⟩
theorem Sy.ex (S : Sy w K) {p q : Str × Str} (hp : p ∈ ones) (hq : q ∈ ones) : exmOne K (.ref (ga K p.1)) (.ref (ga K q.1)) = some (decide (p.1 = q.1)) := by
  rw [(cb_ok (S.one _ hp)).ex (cb_ok (S.one _ hq)) (S.fn hq)]
  exact congrArg some (S.inj hp hq)
end
end K14.T5
namespace K14.T5
open T27 T3
open K14.Gn
open PySem PySem.W PySem.Calls PyProof.Rows L2 LamX
open He (ga ma eqO eqO_ok ba cT codeOf tabOf)
open Kz (Has HasG pe_has FnG spStart)
theorem ask_ones {p : Str × Str × Str} (h : p ∈ asks5) : ((p.1, p.2.2) : Str × Str) ∈ ones := by
  simp only [asks5, List.mem_cons, List.not_mem_nil, or_false] at h
  rcases h with rfl | rfl | rfl | rfl <;> simp [ones]
theorem ak_er {K : Frag} {mg : Str → Option Value} (h1 : mg "BadParts" = some (.ref (ga K "BadParts")) ∧ Kz.X1 pgm K (ga K "BadParts") "index") (h2 : mg "BadEnds" = some (.ref (ga K "BadEnds")) ∧ Kz.X1 pgm K (ga K "BadEnds") "index") (h3 : mg "BadItems" = some (.ref (ga K "BadItems")) ∧ Kz.X1 pgm K (ga K "BadItems") "index") (h4 : mg "BadWire" = some (.ref (ga K "BadWire")) ∧ Kz.X1 pgm K (ga K "BadWire") "name") : ∀ p ∈ asks5, mg p.1 = some (.ref (ga K p.1)) ∧ Kz.X1 pgm K (ga K p.1) p.2.2 := fun p hp => by
  simp only [asks5, List.mem_cons, List.not_mem_nil, or_false] at hp
  rcases hp with rfl | rfl | rfl | rfl
  · exact h1
  · exact h2
  · exact h3
  · exact h4
def TT (K : Frag) : List (Addr × Str) := [((cT K ("_law_is_part", none)).2, qLp), ((cT K ("_law_plan_fault", none)).2, qPf)]
theorem tt_one {w : World} {K : Frag} (S : Sy w K) : ∀ p ∈ TT K, ∀ p' ∈ TT K, p.1 = p'.1 → p = p' := by
  have h := S.tn
  have e : (TT K).map (·.1) = tfs.map fun p => (cT K p).2 := rfl
  rw [← e] at h
  exact fun p hp p' hp' z => nodup_map_inj h hp hp' z
theorem lk_of {K : Frag} {mg : Str → Option Value} {w : World} {base : Heap} (S : Sy w K) (X : K.In base) (G : base.Ns mainGlobals mg) (TB : ∀ p ∈ tfs.map (cT K), TabB base mg p.1 p.2) {gl : FuncData} (Flw : FunD K "law" "law" (defArgs sLw) (defBody sLw) (defScope sLw) [] [] (ga K "law") gl) : FnG pgm w K mg base CX0 13 (ga K "law") gl ["script"] (T3.spLw K (TT K)) := by
  have e_BadEnds := S.er X G 0 (p := ("BadEnds", "index")) rfl rfl t1_0
  have e_BadItems := S.er X G 1 (p := ("BadItems", "index")) rfl rfl t1_1
  have e_BadParts := S.er X G 2 (p := ("BadParts", "index")) rfl rfl t1_2
  have e_BadWire := S.er X G 3 (p := ("BadWire", "name")) rfl rfl t1_3
  have fr : ∀ (i : Nat) {x : Str}, fas[i]? = some (.free x) → mg x = none := fun i x h => He.free_ok X G (S.free i h)
  have gm : ∀ (i : Nat) {x : Str}, defNames[i]? = some x → mg x = some (.ref (ga K x)) := fun i x h => S.mgC X G (def_mem (List.mem_of_getElem? h))
  have q_list := fr 55 (x := "list") rfl
  have q_int := fr 56 (x := "int") rfl
  have q_len := fr 57 (x := "len") rfl
  have q_range := fr 58 (x := "range") rfl
  have q_isinstance := fr 59 (x := "isinstance") rfl
  have q_repr := fr 60 (x := "repr") rfl
  have q_tuple := fr 61 (x := "tuple") rfl
  have q_dict := fr 62 (x := "dict") rfl
  have q_zip := fr 63 (x := "zip") rfl
  have q_all := fr 64 (x := "all") rfl
  have q_enumerate := fr 65 (x := "enumerate") rfl
  have q_bool := fr 66 (x := "bool") rfl
  have q_str := fr 67 (x := "str") rfl
  have q_sum := fr 68 (x := "sum") rfl
  have N : NmK K mg := { ll := He.str_ok X G (S.fa (f := .str "LETTERS" letters) (List.mem_of_getElem? (i := 69) rfl)), ns := He.str_ok X G (S.fa (f := .str "NAME_SIGNS" signs) (List.mem_of_getElem? (i := 70) rfl)), ln := He.int_ok X G (S.fa (f := .int "LONGEST_NAME" 8) (List.mem_of_getElem? (i := 71) rfl)), kp := ⟨_, S.mgC X G (x := "KEPT") (con_mem (by simp [conNames])), S.kept⟩, len := q_len, all := q_all, isi := q_isinstance, str := q_str, enu := q_enumerate }
  obtain ⟨g1, F1⟩ := S.d.def_ 1 (d := defAt 12) rfl
  have F1 : FunD K "is_list" "is_list" (defArgs sIl) (defBody sIl) (defScope sIl) [] [] (ga K "is_list") g1 := F1
  have b1 : L2.Binds K g1 ["thing"] [] := F1.bindsN fun _ _ _ _ _ _ us hl => match us, hl with | [_], _ => rfl
  obtain ⟨g2, F2⟩ := S.d.def_ 2 (d := defAt 13) rfl
  have F2 : FunD K "begins_name" "begins_name" (defArgs sBn) (defBody sBn) (defScope sBn) [] [] (ga K "begins_name") g2 := F2
  have b2 : L2.Binds K g2 ["word"] [] := F2.bindsN fun _ _ _ _ _ _ us hl => match us, hl with | [_], _ => rfl
  obtain ⟨g3, F3⟩ := S.d.def_ 3 (d := defAt 14) rfl
  have F3 : FunD K "is_name" "is_name" (defArgs sNm) (defBody sNm) (defScope sNm) [] [] (ga K "is_name") g3 := F3
  have b3 : L2.Binds K g3 ["thing"] [] := F3.bindsN fun _ _ _ _ _ _ us hl => match us, hl with | [_], _ => rfl
  obtain ⟨g4, F4⟩ := S.d.def_ 4 (d := defAt 15) rfl
  have F4 : FunD K "are_names" "are_names" (defArgs sAn) (defBody sAn) (defScope sAn) [] [] (ga K "are_names") g4 := F4
  have b4 : L2.Binds K g4 ["thing"] [] := F4.bindsN fun _ _ _ _ _ _ us hl => match us, hl with | [_], _ => rfl
  obtain ⟨g5, F5⟩ := S.d.def_ 5 (d := defAt 16) rfl
  have F5 : FunD K "first_no_end" "first_no_end" (defArgs sFn) (defBody sFn) (defScope sFn) [] [] (ga K "first_no_end") g5 := F5
  have b5 : L2.Binds K g5 ["ends"] [] := F5.bindsN fun _ _ _ _ _ _ us hl => match us, hl with | [_], _ => rfl
  obtain ⟨g6, F6⟩ := S.d.def_ 6 (d := defAt 17) rfl
  have F6 : FunD K "check_ends" "check_ends" (defArgs sCk) (defBody sCk) (defScope sCk) [] [] (ga K "check_ends") g6 := F6
  have b6 : L2.Binds K g6 ["ends"] [] := F6.bindsN fun _ _ _ _ _ _ us hl => match us, hl with | [_], _ => rfl
  obtain ⟨g7, F7⟩ := S.d.def_ 7 (d := defAt 18) rfl
  have F7 : FunD K "first_not_twice" "first_not_twice" (defArgs sFt) (defBody sFt) (defScope sFt) [] [] (ga K "first_not_twice") g7 := F7
  have b7 : L2.Binds K g7 ["names"] [] := F7.bindsN fun _ _ _ _ _ _ us hl => match us, hl with | [_], _ => rfl
  obtain ⟨g8, F8⟩ := S.d.def_ 8 (d := defAt 20) rfl
  have F8 : FunD K "is_cell" "is_cell" (defArgs sIc) (defBody sIc) (defScope sIc) [] [] (ga K "is_cell") g8 := F8
  have b8 : L2.Binds K g8 ["thing"] [] := F8.bindsN fun _ _ _ _ _ _ us hl => match us, hl with | [_], _ => rfl
  obtain ⟨g9, F9⟩ := S.d.def_ 9 (d := defAt 21) rfl
  have F9 : FunD K "check_wires" "check_wires" (defArgs sCw) (defBody sCw) (defScope sCw) [] [] (ga K "check_wires") g9 := F9
  have b9 : L2.Binds K g9 ["names"] [] := F9.bindsN fun _ _ _ _ _ _ us hl => match us, hl with | [_], _ => rfl
  obtain ⟨g10, F10⟩ := S.d.def_ 10 (d := defAt 23) rfl
  have F10 : FunD K "is_use" "is_use" (defArgs sIu) (defBody sIu) (defScope sIu) [] [] (ga K "is_use") g10 := F10
  have b10 : L2.Binds K g10 ["thing"] [] := F10.bindsN fun _ _ _ _ _ _ us hl => match us, hl with | [_], _ => rfl
  obtain ⟨g11, F11⟩ := S.d.def_ 11 (d := defAt 24) rfl
  have F11 : FunD K "is_joining" "is_joining" (defArgs sIj) (defBody sIj) (defScope sIj) [] [] (ga K "is_joining") g11 := F11
  have b11 : L2.Binds K g11 ["thing"] [] := F11.bindsN fun _ _ _ _ _ _ us hl => match us, hl with | [_], _ => rfl
  obtain ⟨g12, F12⟩ := S.d.def_ 12 (d := defAt 25) rfl
  have F12 : FunD K "is_item" "is_item" (defArgs sIm) (defBody sIm) (defScope sIm) [] [] (ga K "is_item") g12 := F12
  have b12 : L2.Binds K g12 ["thing", "ahead"] [] := F12.bindsN fun _ _ _ _ _ _ us hl => match us, hl with | [_, _], _ => rfl
  obtain ⟨g13, F13⟩ := S.d.def_ 13 (d := defAt 26) rfl
  have F13 : FunD K "first_no_item" "first_no_item" (defArgs sFi) (defBody sFi) (defScope sFi) [] [] (ga K "first_no_item") g13 := F13
  have b13 : L2.Binds K g13 ["items", "ahead"] [] := F13.bindsN fun _ _ _ _ _ _ us hl => match us, hl with | [_, _], _ => rfl
  obtain ⟨g14, F14⟩ := S.d.def_ 14 (d := defAt 27) rfl
  have F14 : FunD K "wires_of" "wires_of" (defArgs sWo) (defBody sWo) (defScope sWo) [] [] (ga K "wires_of") g14 := F14
  have b14 : L2.Binds K g14 ["item"] [] := F14.bindsN fun _ _ _ _ _ _ us hl => match us, hl with | [_], _ => rfl
  obtain ⟨g15, F15⟩ := S.d.def_ 15 (d := defAt 28) rfl
  have F15 : FunD K "names_in" "names_in" (defArgs sNi) (defBody sNi) (defScope sNi) [] [] (ga K "names_in") g15 := F15
  have b15 : L2.Binds K g15 ["ends", "items"] [] := F15.bindsN fun _ _ _ _ _ _ us hl => match us, hl with | [_, _], _ => rfl
  obtain ⟨g16, F16⟩ := S.d.def_ 16 (d := defAt 29) rfl
  have F16 : FunD K "is_part" "is_part" (defArgs sIp) (defBody sIp) (defScope sIp) [] [] (ga K "is_part") g16 := F16
  have b16 : L2.Binds K g16 ["thing", "ahead"] [] := F16.bindsN fun _ _ _ _ _ _ us hl => match us, hl with | [_, _], _ => rfl
  obtain ⟨g17, F17⟩ := S.d.def_ 17 (d := defAt 30) rfl
  have F17 : FunD K "check_parts" "check_parts" (defArgs sCp) (defBody sCp) (defScope sCp) [] [] (ga K "check_parts") g17 := F17
  have b17 : L2.Binds K g17 ["parts"] [] := F17.bindsN fun _ _ _ _ _ _ us hl => match us, hl with | [_], _ => rfl
  obtain ⟨g18, F18⟩ := S.d.def_ 18 (d := defAt 31) rfl
  have F18 : FunD K "check_items" "check_items" (defArgs sCi) (defBody sCi) (defScope sCi) [] [] (ga K "check_items") g18 := F18
  have b18 : L2.Binds K g18 ["items", "ahead"] [] := F18.bindsN fun _ _ _ _ _ _ us hl => match us, hl with | [_, _], _ => rfl
  obtain ⟨g19, F19⟩ := S.d.def_ 19 (d := defAt 32) rfl
  have F19 : FunD K "told_item" "told_item" (defArgs sTi) (defBody sTi) (defScope sTi) [] [] (ga K "told_item") g19 := F19
  have b19 : L2.Binds K g19 ["item"] [] := F19.bindsN fun _ _ _ _ _ _ us hl => match us, hl with | [_], _ => rfl
  obtain ⟨g20, F20⟩ := S.d.def_ 20 (d := defAt 33) rfl
  have F20 : FunD K "told_items" "told_items" (defArgs sTs) (defBody sTs) (defScope sTs) [] [] (ga K "told_items") g20 := F20
  have b20 : L2.Binds K g20 ["items"] [] := F20.bindsN fun _ _ _ _ _ _ us hl => match us, hl with | [_], _ => rfl
  obtain ⟨g21, F21⟩ := S.d.def_ 21 (d := defAt 34) rfl
  have F21 : FunD K "told_parts" "told_parts" (defArgs sTp) (defBody sTp) (defScope sTp) [] [] (ga K "told_parts") g21 := F21
  have b21 : L2.Binds K g21 ["parts"] [] := F21.bindsN fun _ _ _ _ _ _ us hl => match us, hl with | [_], _ => rfl
  obtain ⟨g22, F22⟩ := S.d.def_ 22 (d := defAt 37) rfl
  have F22 : FunD K "_law_fresh" "_law_fresh" (defArgs sFr) (defBody sFr) (defScope sFr) [] [] (ga K "_law_fresh") g22 := F22
  have b22 : L2.Binds K g22 ["stream", "ends", "many"] [] := F22.bindsN fun _ _ _ _ _ _ us hl => match us, hl with | [_, _, _], _ => rfl
  obtain ⟨g23, F23⟩ := S.d.def_ 23 (d := defAt 38) rfl
  have F23 : FunD K "_law_ends" "_law_ends" (defArgs sEn) (defBody sEn) (defScope sEn) [] [] (ga K "_law_ends") g23 := F23
  have b23 : L2.Binds K g23 ["stream", "many"] [] := F23.bindsN fun _ _ _ _ _ _ us hl => match us, hl with | [_, _], _ => rfl
  obtain ⟨g24, F24⟩ := S.d.def_ 24 (d := defAt 39) rfl
  have F24 : FunD K "_law_paired" "_law_paired" (defArgs sPa) (defBody sPa) (defScope sPa) [] [] (ga K "_law_paired") g24 := F24
  have b24 : L2.Binds K g24 ["stream", "ends", "widths"] [] := F24.bindsN fun _ _ _ _ _ _ us hl => match us, hl with | [_, _, _], _ => rfl
  obtain ⟨g25, F25⟩ := S.d.def_ 25 (d := defAt 40) rfl
  have F25 : FunD K "_law_is_name" "_law_is_name" (defArgs sLn) (defBody sLn) (defScope sLn) [] [] (ga K "_law_is_name") g25 := F25
  have b25 : L2.Binds K g25 ["thing"] [] := F25.bindsN fun _ _ _ _ _ _ us hl => match us, hl with | [_], _ => rfl
  obtain ⟨g26, F26⟩ := S.d.def_ 26 (d := defAt 41) rfl
  have F26 : FunD K "_law_is_cell" "_law_is_cell" (defArgs sLc) (defBody sLc) (defScope sLc) [] [] (ga K "_law_is_cell") g26 := F26
  have b26 : L2.Binds K g26 ["thing"] [] := F26.bindsN fun _ _ _ _ _ _ us hl => match us, hl with | [_], _ => rfl
  obtain ⟨g27, F27⟩ := S.d.def_ 27 (d := defAt 42) rfl
  have F27 : FunD K "_law_first_odd" "_law_first_odd" (defArgs sFo) (defBody sFo) (defScope sFo) [] [] (ga K "_law_first_odd") g27 := F27
  have b27 : L2.Binds K g27 ["thing", "is_right"] [] := F27.bindsN fun _ _ _ _ _ _ us hl => match us, hl with | [_, _], _ => rfl
  obtain ⟨g28, F28⟩ := S.d.def_ 28 (d := defAt 43) rfl
  have F28 : FunD K "_law_items" "_law_items" (defArgs sIt) (defBody sIt) (defScope sIt) [] [] (ga K "_law_items") g28 := F28
  have b28 : L2.Binds K g28 ["stream", "ends", "known", "most"] [] := F28.bindsN fun _ _ _ _ _ _ us hl => match us, hl with | [_, _, _, _], _ => rfl
  obtain ⟨g29, F29⟩ := S.d.def_ 29 (d := defAt 44) rfl
  have F29 : FunD K "_law_plan_drawn" "_law_plan_drawn" (defArgs sDw) (defBody sDw) (defScope sDw) [] [] (ga K "_law_plan_drawn") g29 := F29
  have b29 : L2.Binds K g29 ["stream", "many", "most"] [] := F29.bindsN fun _ _ _ _ _ _ us hl => match us, hl with | [_, _, _], _ => rfl
  obtain ⟨g30, F30⟩ := S.d.def_ 30 (d := defAt 45) rfl
  have F30 : FunD K "_law_row_bent" "_law_row_bent" (defArgs sRb) (defBody sRb) (defScope sRb) [] [] (ga K "_law_row_bent") g30 := F30
  have b30 : L2.Binds K g30 ["stream", "row", "odd"] [] := F30.bindsN fun _ _ _ _ _ _ us hl => match us, hl with | [_, _, _], _ => rfl
  obtain ⟨g31, F31⟩ := S.d.def_ 31 (d := defAt 46) rfl
  have F31 : FunD K "_law_start" "_law_start" (defArgs sSt) (defBody sSt) (defScope sSt) [] [] (ga K "_law_start") g31 := F31
  have b31 : L2.Binds K g31 ["script"] [] := F31.bindsN fun _ _ _ _ _ _ us hl => match us, hl with | [_], _ => rfl
  obtain ⟨g32, F32⟩ := S.d.def_ 32 (d := defAt 47) rfl
  have F32 : FunD K "_law_draw" "_law_draw" (defArgs sDr) (defBody sDr) (defScope sDr) [] [] (ga K "_law_draw") g32 := F32
  have b32 : L2.Binds K g32 ["stream", "many"] [] := F32.bindsN fun _ _ _ _ _ _ us hl => match us, hl with | [_, _], _ => rfl
  obtain ⟨g33, F33⟩ := S.d.def_ 33 (d := defAt 48) rfl
  have F33 : FunD K "_law_pick" "_law_pick" (defArgs sPk) (defBody sPk) (defScope sPk) [] [] (ga K "_law_pick") g33 := F33
  have b33 : L2.Binds K g33 ["stream", "some"] [] := F33.bindsN fun _ _ _ _ _ _ us hl => match us, hl with | [_, _], _ => rfl
  obtain ⟨g34, F34⟩ := S.d.def_ 34 (d := defAt 49) rfl
  have F34 : FunD K "_law_mixed" "_law_mixed" (defArgs sMx) (defBody sMx) (defScope sMx) [] [] (ga K "_law_mixed") g34 := F34
  have b34 : L2.Binds K g34 ["stream", "some"] [] := F34.bindsN fun _ _ _ _ _ _ us hl => match us, hl with | [_, _], _ => rfl
  obtain ⟨g35, F35⟩ := S.d.def_ 35 (d := defAt 50) rfl
  have F35 : FunD K "_law_same" "_law_same" (defArgs sSm) (defBody sSm) (defScope sSm) [] [] (ga K "_law_same") g35 := F35
  have b35 : L2.Binds K g35 ["found", "due"] [] := F35.bindsN fun _ _ _ _ _ _ us hl => match us, hl with | [_, _], _ => rfl
  obtain ⟨g36, F36⟩ := S.d.def_ 36 (d := defAt 51) rfl
  have F36 : FunD K "_law_loose" "_law_loose" (defArgs sLo) (defBody sLo) (defScope sLo) [] [] (ga K "_law_loose") g36 := F36
  have b36 : L2.Binds K g36 ["stream", "thing"] [] := F36.bindsN fun _ _ _ _ _ _ us hl => match us, hl with | [_, _], _ => rfl
  obtain ⟨g37, F37⟩ := S.d.def_ 37 (d := defAt 52) rfl
  have F37 : FunD K "_law_is_item" "_law_is_item" (defArgs sLi) (defBody sLi) (defScope sLi) [] [] (ga K "_law_is_item") g37 := F37
  have b37 : L2.Binds K g37 ["thing", "known"] [] := F37.bindsN fun _ _ _ _ _ _ us hl => match us, hl with | [_, _], _ => rfl
  obtain ⟨g38, F38⟩ := S.d.def_ 38 (d := defAt 53) rfl
  have F38 : FunD K "_law_odd_wire" "_law_odd_wire" (defArgs sOw) (defBody sOw) (defScope sOw) [] [] (ga K "_law_odd_wire") g38 := F38
  have b38 : L2.Binds K g38 ["ends", "items"] [] := F38.bindsN fun _ _ _ _ _ _ us hl => match us, hl with | [_, _], _ => rfl
  obtain ⟨g39, F39⟩ := S.d.def_ 39 (d := defAt 54) rfl
  have F39 : FunD K "_law_is_part" "_law_is_part" (defArgs sLp) (defBody sLp) (defScope sLp) [] [] (ga K "_law_is_part") g39 := F39
  have b39 : L2.Binds K g39 ["thing", "known"] [] := F39.bindsN fun _ _ _ _ _ _ us hl => match us, hl with | [_, _], _ => rfl
  obtain ⟨g40, F40⟩ := S.d.def_ 40 (d := defAt 55) rfl
  have F40 : FunD K "_law_plan_fault" "_law_plan_fault" (defArgs sPf) (defBody sPf) (defScope sPf) [] [] (ga K "_law_plan_fault") g40 := F40
  have b40 : L2.Binds K g40 ["parts", "ends", "items"] [] := F40.bindsN fun _ _ _ _ _ _ us hl => match us, hl with | [_, _, _], _ => rfl
  obtain ⟨g41, F41⟩ := S.d.def_ 41 (d := defAt 56) rfl
  have F41 : FunD K "_law_planned" "_law_planned" (defArgs sPd) (defBody sPd) (defScope sPd) [] [] (ga K "_law_planned") g41 := F41
  have b41 : L2.Binds K g41 ["parts", "ends", "items"] [] := F41.bindsN fun _ _ _ _ _ _ us hl => match us, hl with | [_, _, _], _ => rfl
  obtain ⟨g42, F42⟩ := S.d.def_ 42 (d := defAt 57) rfl
  have F42 : FunD K "_law_odd_items" "_law_odd_items" (defArgs sOi) (defBody sOi) (defScope sOi) [] [] (ga K "_law_odd_items") g42 := F42
  have b42 : L2.Binds K g42 [] [] := F42.bindsN fun _ _ _ _ _ _ us hl => match us, hl with | [], _ => rfl
  obtain ⟨g43, F43⟩ := S.d.def_ 43 (d := defAt 58) rfl
  have F43 : FunD K "_law_odd_parts" "_law_odd_parts" (defArgs sOp) (defBody sOp) (defScope sOp) [] [] (ga K "_law_odd_parts") g43 := F43
  have b43 : L2.Binds K g43 [] [] := F43.bindsN fun _ _ _ _ _ _ us hl => match us, hl with | [], _ => rfl
  obtain ⟨g44, F44⟩ := S.d.def_ 44 (d := defAt 59) rfl
  have F44 : FunD K "_law_plan_bent" "_law_plan_bent" (defArgs sBp) (defBody sBp) (defScope sBp) [] [] (ga K "_law_plan_bent") g44 := F44
  have b44 : L2.Binds K g44 ["stream", "plan"] [] := F44.bindsN fun _ _ _ _ _ _ us hl => match us, hl with | [_, _], _ => rfl
  obtain ⟨g45, F45⟩ := S.d.def_ 45 (d := defAt 60) rfl
  have F45 : FunD K "_law_refused_right" "_law_refused_right" (defArgs sRr) (defBody sRr) (defScope sRr) [] [] (ga K "_law_refused_right") g45 := F45
  have b45 : L2.Binds K g45 ["stream", "plan"] [] := F45.bindsN fun _ _ _ _ _ _ us hl => match us, hl with | [_, _], _ => rfl
  obtain ⟨g47, F47⟩ := S.d.def_ 47 (d := mtAt "Plan" "Plan.__init__" 35 0) rfl
  have F47 : FunD K "__init__" "Plan.__init__" (defArgs sPn) (defBody sPn) (defScope sPn) [] [] (ma K (ga K "Plan") "__init__") g47 := F47
  have b47 : L2.Binds K g47 ["self", "parts", "ends", "items"] [] := F47.bindsN fun _ _ _ _ _ _ us hl => match us, hl with | [_, _, _, _], _ => rfl
  have oc_Plan : Cls K (ga K "Plan") := He.cls_ok (S.fa (f := .cls "Plan") (List.mem_of_getElem? (i := 72) rfl))
  have on_Plan__parts : NoAttr K (ga K "Plan") "_parts" := He.noat_ok (S.fa (f := .noat "Plan" "_parts") (List.mem_of_getElem? (i := 73) rfl))
  have on_Plan__ends : NoAttr K (ga K "Plan") "_ends" := He.noat_ok (S.fa (f := .noat "Plan" "_ends") (List.mem_of_getElem? (i := 74) rfl))
  have on_Plan__body : NoAttr K (ga K "Plan") "_body" := He.noat_ok (S.fa (f := .noat "Plan" "_body") (List.mem_of_getElem? (i := 75) rfl))
  have hil : Has pgm w K mg base "is_list" 1 ["thing"] (spLook isL) := ⟨_, g1, gm 1 rfl, F1.kp, b1, ok_il F1 q_isinstance q_list q_tuple⟩
  have hbn : Has pgm w K mg base "begins_name" 1 ["word"] (spBn) := ⟨_, g2, gm 2 rfl, F2.kp, b2, ok_bn F2 N⟩
  have hnm : Has pgm w K mg base "is_name" 2 ["thing"] (spNm) := ⟨_, g3, gm 3 rfl, F3.kp, b3, ok_nm F3 N hbn⟩
  have hfn : Has pgm w K mg base "first_no_end" 3 ["ends"] (spFn) := ⟨_, g5, gm 5 rfl, F5.kp, b5, ok_fn F5 N hil hnm⟩
  have hck : Has pgm w K mg base "check_ends" 4 ["ends"] (spCk) := ⟨_, g6, gm 6 rfl, F6.kp, b6, ok_ck F6 hfn⟩
  have xck : HasX pgm w K mg base "check_ends" 4 ["ends"] (spCkX K) := ⟨_, g6, gm 6 rfl, F6.kp, b6, okx_ck F6 hfn e_BadEnds⟩
  have han : Has pgm w K mg base "are_names" 3 ["thing"] (spAn) := ⟨_, g4, gm 4 rfl, F4.kp, b4, ok_an F4 hil hnm q_all⟩
  have hic : Has pgm w K mg base "is_cell" 4 ["thing"] (spIt cellB) := ⟨_, g8, gm 8 rfl, F8.kp, b8, ok_ic F8 hil hnm han q_len⟩
  have hiu : Has pgm w K mg base "is_use" 4 ["thing"] (spIl useB) := ⟨_, g10, gm 10 rfl, F10.kp, b10, ok_iu F10 hnm han q_len⟩
  have hij : Has pgm w K mg base "is_joining" 4 ["thing"] (spIl joinB) := ⟨_, g11, gm 11 rfl, F11.kp, b11, ok_ij F11 han q_len⟩
  have him : Has pgm w K mg base "is_item" 5 ["thing", "ahead"] (spIm) := ⟨_, g12, gm 12 rfl, F12.kp, b12, ok_im F12 hil hiu hic hij q_len⟩
  have hfi : Has pgm w K mg base "first_no_item" 6 ["items", "ahead"] (spFi) := ⟨_, g13, gm 13 rfl, F13.kp, b13, ok_fi F13 hil him q_enumerate⟩
  have hwo : Has pgm w K mg base "wires_of" 1 ["item"] (spWo) := ⟨_, g14, gm 14 rfl, F14.kp, b14, ok_wo F14⟩
  have hni : Has pgm w K mg base "names_in" 2 ["ends", "items"] (spNi) := ⟨_, g15, gm 15 rfl, F15.kp, b15, ok_ni F15 hwo q_list⟩
  have hft : Has pgm w K mg base "first_not_twice" 1 ["names"] (spFt) := ⟨_, g7, gm 7 rfl, F7.kp, b7, ok_ft F7⟩
  have hip : Has pgm w K mg base "is_part" 7 ["thing", "ahead"] (spIpt) := ⟨_, g16, gm 16 rfl, F16.kp, b16, ok_ipt F16 hil hnm hfn hfi hft hni q_len⟩
  have hcp : Has pgm w K mg base "check_parts" 8 ["parts"] (spCpr) := ⟨_, g17, gm 17 rfl, F17.kp, b17, ok_cpr F17 hil hip q_len q_enumerate⟩
  have xcp : HasX pgm w K mg base "check_parts" 8 ["parts"] (spCprX K) := ⟨_, g17, gm 17 rfl, F17.kp, b17, okx_cpr F17 hil hip q_len q_enumerate e_BadParts⟩
  have hci : Has pgm w K mg base "check_items" 7 ["items", "ahead"] (spCit) := ⟨_, g18, gm 18 rfl, F18.kp, b18, ok_cit F18 hfi⟩
  have xci : HasX pgm w K mg base "check_items" 7 ["items", "ahead"] (spCitX K) := ⟨_, g18, gm 18 rfl, F18.kp, b18, okx_cit F18 hfi e_BadItems⟩
  have hcw : Has pgm w K mg base "check_wires" 2 ["names"] (spCwr) := ⟨_, g9, gm 9 rfl, F9.kp, b9, ok_cwr F9 hft⟩
  have xcw : HasX pgm w K mg base "check_wires" 2 ["names"] (spCwrX K) := ⟨_, g9, gm 9 rfl, F9.kp, b9, okx_cwr F9 hft e_BadWire⟩
  have hti : Has pgm w K mg base "told_item" 1 ["item"] (spTi) := ⟨_, g19, gm 19 rfl, F19.kp, b19, ok_ti F19 q_list q_tuple⟩
  have hts : Has pgm w K mg base "told_items" 2 ["items"] (spTs) := ⟨_, g20, gm 20 rfl, F20.kp, b20, ok_tis F20 hti⟩
  have htp : Has pgm w K mg base "told_parts" 3 ["parts"] (spTp) := ⟨_, g21, gm 21 rfl, F21.kp, b21, ok_tps F21 hts q_list⟩
  have CL : ClP K := { pl := oc_Plan, pp := on_Plan__parts, pe := on_Plan__ends, pb := on_Plan__body }
  have hpl : HasCX pgm w K mg base "Plan" (ga K "Plan") 9 ["self", "parts", "ends", "items"] (spPn K) := ⟨_, g47, S.mgC X G (x := "Plan") (con_mem (by simp [conNames])), He.mkr_ok (S.fa (f := .mkr "Plan") (List.mem_of_getElem? (i := 76) rfl)), b47, okx_pn F47 CL hcp xcp hck xck hci xci hcw xcw hni htp hts q_list⟩
  have B : LwK mg := { isi := q_isinstance, str := q_str, list := q_list, tuple := q_tuple, len := q_len, all := q_all }
  have hst : Has pgm w K mg base "_law_start" 1 ["script"] (spStart K) := ⟨_, g31, gm 31 rfl, F31.kp, b31, ok_st F31 q_list⟩
  have hdr : Has pgm w K mg base "_law_draw" 1 ["stream", "many"] (spDrW) := ⟨_, g32, gm 32 rfl, F32.kp, b32, ok_drw F32 q_int⟩
  have hpk : Has pgm w K mg base "_law_pick" 2 ["stream", "some"] (spPk) := ⟨_, g33, gm 33 rfl, F33.kp, b33, ok_pk F33 hdr q_len⟩
  have hmx : Has pgm w K mg base "_law_mixed" 2 ["stream", "some"] (spMxW) := ⟨_, g34, gm 34 rfl, F34.kp, b34, ok_mxw F34 hdr q_list q_len q_range⟩
  have hen : Has pgm w K mg base "_law_ends" 3 ["stream", "many"] (spEn) := ⟨_, g23, gm 23 rfl, F23.kp, b23, ok_en F23 hmx⟩
  have hln : Has pgm w K mg base "_law_is_name" 1 ["thing"] (spNm) := ⟨_, g25, gm 25 rfl, F25.kp, b25, ok_lnA F25 N⟩
  have hlc : Has pgm w K mg base "_law_is_cell" 2 ["thing"] (spIt cellB) := ⟨_, g26, gm 26 rfl, F26.kp, b26, ok_lc F26 hln B⟩
  have hli : Has pgm w K mg base "_law_is_item" 3 ["thing", "known"] (spIm) := ⟨_, g37, gm 37 rfl, F37.kp, b37, ok_li F37 hln hlc B⟩
  have how : Has pgm w K mg base "_law_odd_wire" 1 ["ends", "items"] (spOw) := ⟨_, g38, gm 38 rfl, F38.kp, b38, ok_ow F38 B⟩
  have LA : LaK pgm w K mg base := { lw := B, ra := q_range, ln := hln, li := hli, ow := how, fo := ⟨_, g27, F27, (gm 27 rfl), F27.kp, b27⟩ }
  have t_hlp : TabB base mg (codeOf K ("_law_is_part", none)) ((cT K ("_law_is_part", none)).2) := TB (cT K ("_law_is_part", none)) (List.mem_map.mpr ⟨("_law_is_part", none), by decide, rfl⟩)
  have hlp : Has pgm w K mg base "_law_is_part" 6 ["thing", "known"] (spLp (TT K)) := by
    refine ⟨_, g39, gm 39 rfl, F39.kp, b39, ?_⟩
    obtain ⟨oc, od, kV, doc, pm, an, c, ct, osl, rfl, lk, hcd⟩ := fun_code F39
    have ec : codeOf K ("_law_is_part", none) = c := He.codeOf_eq (p := ("_law_is_part", none)) lk rfl
    rw [ec] at t_hlp
    have mT : ((cT K ("_law_is_part", none)).2, qLp) ∈ TT K := by simp [TT]
    refine ok_lp lk hcd t_hlp mT (fun p hp e => ?_) LA
    exact congrArg (·.2) (tt_one S p hp _ mT e)
  have t_hpf : TabB base mg (codeOf K ("_law_plan_fault", none)) ((cT K ("_law_plan_fault", none)).2) := TB (cT K ("_law_plan_fault", none)) (List.mem_map.mpr ⟨("_law_plan_fault", none), by decide, rfl⟩)
  have hpf : Has pgm w K mg base "_law_plan_fault" 7 ["parts", "ends", "items"] (spPf (TT K)) := by
    refine ⟨_, g40, gm 40 rfl, F40.kp, b40, ?_⟩
    obtain ⟨oc, od, kV, doc, pm, an, c, ct, osl, rfl, lk, hcd⟩ := fun_code F40
    have ec : codeOf K ("_law_plan_fault", none) = c := He.codeOf_eq (p := ("_law_plan_fault", none)) lk rfl
    rw [ec] at t_hpf
    have mT : ((cT K ("_law_plan_fault", none)).2, qPf) ∈ TT K := by simp [TT]
    refine ok_pf lk hcd t_hpf mT (fun p hp e => ?_) LA hlp q_enumerate
    exact congrArg (·.2) (tt_one S p hp _ mT e)
  have R : PdK pgm K mg := ⟨fun p hp => ak_er e_BadParts e_BadEnds e_BadItems e_BadWire p hp, fun p hp q hq => S.ex (ask_ones hp) (ask_ones hq)⟩
  have hpd : Has pgm w K mg base "_law_planned" 11 ["parts", "ends", "items"] (spPd) := ⟨_, g41, gm 41 rfl, F41.kp, b41, ok_pd F41 R hpl⟩
  have hfr : Has pgm w K mg base "_law_fresh" 3 ["stream", "ends", "many"] (spFr) := ⟨_, g22, gm 22 rfl, F22.kp, b22, ok_fr F22 hmx q_range q_str⟩
  have hpa : Has pgm w K mg base "_law_paired" 4 ["stream", "ends", "widths"] (spPa) := ⟨_, g24, gm 24 rfl, F24.kp, b24, ok_pa F24 hmx hfr hdr B q_range q_enumerate⟩
  have hoi : ∃ f fd, mg "_law_odd_items" = some (.ref f) ∧ keepIn K (.ref f) = true ∧ L2.Binds K fd [] [] ∧ FnOk pgm w K mg base CX0 1 f fd [] (spOdd5 oddOi) := ⟨_, g42, gm 42 rfl, F42.kp, b42, ok_oi F42⟩
  have hop : ∃ f fd, mg "_law_odd_parts" = some (.ref f) ∧ keepIn K (.ref f) = true ∧ L2.Binds K fd [] [] ∧ FnOk pgm w K mg base CX0 1 f fd [] (spOdd5 oddOp) := ⟨_, g43, gm 43 rfl, F43.kp, b43, ok_op F43⟩
  have hrb : Has pgm w K mg base "_law_row_bent" 3 ["stream", "row", "odd"] (spRb) := ⟨_, g30, gm 30 rfl, F30.kp, b30, ok_rb F30 hdr hpk q_len⟩
  have hit : Has pgm w K mg base "_law_items" 5 ["stream", "ends", "known", "most"] (spIts) := ⟨_, g28, gm 28 rfl, F28.kp, b28, ok_its F28 hmx hpk hdr hpa B q_range q_int q_sum q_zip⟩
  have hlo : Has pgm w K mg base "_law_loose" 8 ["stream", "thing"] (T27.spLo 5) := ⟨_, g36, gm 36 rfl, F36.kp, b36, okX_lo F36 hdr hmx (gm 36 rfl) F36.kp b36 q_isinstance q_list q_tuple q_dict 5⟩
  have hsm : Has pgm w K mg base "_law_same" 5 ["found", "due"] (spSm 4) := ⟨_, g35, gm 35 rfl, F35.kp, b35, ok_sm F35 (gm 35 rfl) F35.kp b35 ⟨q_isinstance, q_list, q_tuple, q_dict, q_int, q_bool, q_len, q_all, q_zip⟩ 4⟩
  have hdw : Has pgm w K mg base "_law_plan_drawn" 6 ["stream", "many", "most"] (spDw) := ⟨_, g29, gm 29 rfl, F29.kp, b29, ok_dw F29 hmx hdr hen hit B q_range⟩
  have hbp : Has pgm w K mg base "_law_plan_bent" 4 ["stream", "plan"] (spBp) := ⟨_, g44, gm 44 rfl, F44.kp, b44, ok_bp F44 hpk hdr hrb B hoi hop⟩
  have hrr : HasG pgm w K mg base "_law_refused_right" 12 ["stream", "plan"] (spRr (TT K)) := ⟨_, g45, gm 45 rfl, F45.kp, b45, ok_rr F45 { bp := hbp, dr := hdr, lo := hlo, pf := hpf, pd := hpd, sm := hsm, sy := S.sysK, np := q_repr, nr := q_range }⟩
  exact ok_lw Flw { st := hst, dw := hdw, rr := hrr, pd := hpd, nr := q_range }
end K14.T5
namespace K14.T5
open PySem PySem.W PySem.Calls PyProof.Rows
theorem runF (w : World) : HandSHeadRun.RunEq RZ (view RZ.prog [61]) hookZ obZ 20000 nms (w.withFollow "special-get-raises" false) := by
  intro os
  kernel_rfl
theorem runT (w : World) : HandSHeadRun.RunEq RZ (view RZ.prog [61]) hookZ obZ 20000 nms (w.withFollow "special-get-raises" true) := by
  intro os
  kernel_rfl
theorem runZ (w : World) : HandSHeadRun.RunEq RZ (view RZ.prog [61]) hookZ obZ 20000 nms w := byRow2 "special-get-raises" (P := fun w => HandSHeadRun.RunEq RZ (view RZ.prog [61]) hookZ obZ 20000 nms w) runF runT w
end K14.T5
namespace K14.T5
open T27 T3
open K14.Gn
open PySem PySem.W PySem.Calls PyProof.Rows L2 LamX
open He (ga ma eqO eqO_ok ba cT codeOf tabOf)
theorem tabs_new {K : Frag} {H : Hp} (h : ∀ p ∈ tfs.map (cT K), H p.2 = some (.tbl #[])) : Tabs (TT K) H := fun p hp => by
  have m : p.1 ∈ (tfs.map (cT K)).map (·.2) := by
    have e : (TT K).map (·.1) = (tfs.map (cT K)).map (·.2) := rfl
    rw [← e]
    exact List.mem_map.mpr ⟨p, hp, rfl⟩
  obtain ⟨r, hr, e⟩ := List.mem_map.mp m
  exact ⟨#[], by rw [← e]; exact h r hr, by first | exact trivial | simp [TriplesOk], fun pos cv z => by simp [codeAmong] at z⟩
theorem nm_law : (HandSHeadRun.topDef RZ.prog 61).name = ("law" : PySem.Str) := by kernel_rfl
theorem walk : WalkO (view RZ.prog [61]) nms (XL (view RZ.prog [61]) []) hookZ.says (PySem.Challenge.rw_twinforks_k05_whole_plans_refused.row).toRowW (HandSHeadRun.topDef RZ.prog 61) [] (fun f vs => PySem.call f vs) := by
  refine Kz.walk_G (l := PySem.Challenge.rw_twinforks_k05_whole_plans_refused) (n := 63) (k := 13) (x := "script") (CX := fun _ => CX0) rfl (by decide) (by kernel_rfl) ⟨rfl, by decide, by decide⟩ ?_ (fun _ _ _ _ _ z => z)
  intro w mg fa h Y G hmg0
  obtain ⟨K, Z⟩ := Y
  have S := sy_of Z
  have KX := Z.i
  have hmg : mg ("law" : PySem.Str) = some (.ref fa) := by
    rw [← nm_law]
    exact hmg0
  obtain rfl : ga K "law" = fa := by
    have e := (S.mgC KX G (def_mem (x := "law") (List.mem_of_getElem? (i := 46) rfl))).symm.trans hmg
    injection e with e
    injection e
  obtain ⟨g, F⟩ := S.d.def_ 46 (d := defAt 61) rfl
  have F : FunD K "law" "law" (defArgs sLw) (defBody sLw) (defScope sLw) [] [] (ga K "law") g := F
  have bL := FunD.bindsA (ps := ["script"]) F fun _ _ _ _ _ _ us hl => match us, hl with | [_], _ => rfl
  refine ⟨K, g, tfs.map (cT K), spLw K (TT K), KX, fun p hp => ?_, fun p hp => ?_, fun p hp => ?_, fun s v => bL s [v] rfl, fun H a ns hl hT hS => ⟨a, ns, rfl, hS, Nat.le_trans hl (by decide), tabs_new hT, fun _ => rfl⟩, fun base X0 G0 TB => lk_of S X0 G0 TB F⟩
  · obtain ⟨q, hq, rfl⟩ := List.mem_map.mp hp
    exact Z.t3 q hq
  · obtain ⟨q, hq, rfl⟩ := List.mem_map.mp hp
    exact Z.t2 q hq
  · obtain ⟨q, hq, rfl⟩ := List.mem_map.mp hp
    exact codeHd_of_K KX (Z.t1 q hq)
end K14.T5
open PySem PySem.W PySem.Calls PyProof.Rows
theorem PySem.Challenge.cw_twinforks_k05_whole_plans_refused_holds : PySem.Challenge.rw_twinforks_k05_whole_plans_refused.Holds := by
  w_on; o_law
  refine HandSHeadRun.head_any (r := OpenLaw.row PySem.Challenge.rw_twinforks_k05_whole_plans_refused) (q := view K14.T5.RZ.prog [61]) (H := K14.T5.hookZ) (ob := K14.T5.obZ) (M := 20000) (loose := K14.T5.nms) (d := HandSHeadRun.topDef K14.T5.RZ.prog 61) (kwd := []) K14.T5.obZ_eq
    (by kernel_rfl) (fun s => by kernel_rfl) K14.T5.runZ (by kernel_rfl) (by kernel_rfl) (by kernel_rfl) (by rfl) (by first | assumption | decide +kernel) (by decide +kernel) ⟨rfl, rfl, rfl, rfl, rfl, by decide +kernel⟩ ?hw ?hc
  case hw => w_witness2
  case hc => exact K14.T5.walk
