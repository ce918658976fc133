import PyProof.Rows.All
import Wide.All
import OpenK.AllK
import Wide.FinOn
import HandS.ExcValue
import HandS.ExcInit
import HandS.ExcField
import HandS.List
import HandS.IsInst
import HandS.Words
import KE.KExcSuper
import HandS.ExcSuper
import HandS.Defaults
import HandS.Lambda
import KE.KExcIs
import HandS.CallLocal
import HandS.Dict
import PyProof.Rows.ReprR
import HandS.HeadHook4
import HandS.ForMost
import HandS.EndTab
import HandS.NoneIn
import HandS.TryOnly
import HandS.Iter
import HandS.Walk
import HandS.TryMany
import HandS.Zip
import HandS.ListItems
import KE.GoesEnum
import HandS.Small
import HandS.TupAny
import HandS.Star
import KE.KDictZip
import KE.KItemsList
import PyProof.ReprLen
import HandS.Conv
import HandS.Style
import HandS.More
import HandS.Text
import HandS.FStr
import HandS.LawCells
import PySem.Challenge.RW_twinforks_k69_whole_texts_of_courses_and
import PyProof.StrOps2
import HandS.RaiseMore
import PyProof.Rows.StrSplitJoin
import PyProof.Rows.StrItems
import Flt.Len
import PyProof.Rows.ReprOcc
import PyProof.ListStr
import HandS.HeadEnd
import HandS.HeadWalk
import HandS.Head2
import KE.KStateDown
set_option Elab.async false
set_option linter.all false
set_option maxRecDepth 100000
set_option maxHeartbeats 0
namespace Kz
open PySem PySem.W PySem.Calls PyProof.Rows L2

/-- what the written part says of an own error class and of its __init__ -/
structure XF (prog : Program) (K : Frag) (C fI : Addr) (qual : Str) (params : Arguments) (body : List Stmt) (scope : Scope) : Prop where
  oex : OexC K C
  ini : findIn K (.ref C) "__init__" = some (some (.ref fI))
  tyI : typeIn K (.ref fI) = some (.type "function")
  fn : ∃ (oc : Value) (od : Option Addr) (kV doc pm : Value) (an : Option Addr) (cda : Addr) (ct : Value) (osl : Array (Option Value)) (cc : Addr) (ccl : Value) (cdd : Option Addr) (vs : Array Value) (ccs : Array (Option Value)) (file : Str) (tf : Tok)
      (cl : Value) (cld : Option Addr) (csl : Array (Option Value)),
    K.lookup fI = some ⟨oc, od, .func (ksFn "__init__" qual params body scope .none kV doc pm an (.ref cda) ct cc), osl⟩ ∧ codeIn K (.ref cda) qual = true ∧ K.lookup cda = some ⟨ccl, cdd, .fields vs, ccs⟩ ∧ vs[2]? = some (.str file tf) ∧
      ((prog.main.file : Str) == file) = true ∧ K.lookup cc = some ⟨cl, cld, .cell (some (.ref C)), csl⟩
  sup : ks_superIn K C C "__init__" = some (some (.builtin "ValueError.__init__"))
  sbV : subIn K (.ref C) (.type "ValueError") = some true
  slf : mroIn K C (.ref C) = some true
  opq : nsIn K cStatics "thirdparty.any" = some none
  glo : nsIn K mainGlobals "super" = some none
  top : (prog.main.scope.names.lookup ("super" : Str)).isSome = false
  xf : XfC K C

/-- the scope of such an __init__ -/
structure ScI (params : Arguments) (scope : Scope) (fs : List Str) : Prop where
  hd : ∃ ar, (params.posonlyargs ++ params.args).head? = some ar ∧ ar.arg = ("self" : Str)
  ks : scope.names.lookup ("super" : Str) = some .globalImplicit
  kc : scope.names.lookup ("__class__" : Str) = some .free
  ka : scope.names.lookup ("self" : Str) = some .local
  kf : ∀ f ∈ fs, scope.names.lookup f = some .local
  cell : ∀ x ∈ scope.names, x.2 ≠ .cell
  kind : scope.kind = .function
  co : scope.isCoroutine = false
  gen : scope.isGenerator = false

def sSuper (msg : Str) (j : Nat) (p0 p1 p2 p3 p4 p5 : Pos) : Stmt := .Expr (.Call (.Attribute (.Call (.Name "super" p0) [] [] p1) "__init__" p2) [.Constant (.str msg) j p3] [] p4) p5
def sPut (f : Str) (q0 q1 q2 q3 : Pos) : Stmt := .Assign [.Attribute (.Name "self" q0) f q1] (.Name f q2) q3

section
variable {X : Cx} {pins : List (Addr × Obj)} {σ : L2.St} {H : Hp} {s : Shared} {a C fI : Addr} {A : Around} {E : Value → Shared → Prop}

/-- the record of an exception that is being made, behind super().__init__(..) -/
theorem call_up {u : Addr} {rest : List Value} {Q : Value → Shared → Prop} (T : OexC X.K C) (I : Inv X pins σ H s) (e : H a = some (exo a C none)) (hu : s.heap.get? u = some (kxs_mw "ValueError.__init__" a)) (hl : rest.length ≤ sizeLine)
    (h : ∀ s', Inv X pins σ H s' → (∀ b o, b ≠ a → s.heap.get? b = some o → s'.heap.get? b = some o) → Q .none s') : wpAny (model X.prog X.w) A (call (.ref u) rest) Q E s := by
  obtain ⟨nm, q, N, bs, bm, sn, sub, ab, col, dd, k0, k1, k2, k3, k5, hC, hbm⟩ := T.cls
  obtain ⟨t1, ho⟩ := exo_at I.hok e
  have hCs := I.kIn _ _ hC
  obtain ⟨hp, g, d, t, os⟩ := s
  refine wpAny_call (codeAny_of_tree ?_)
  show wpAny _ A.in1 (callAny (.ref u) ⟨rest, []⟩) _ _ _
  simp only [callAny]
  refine wpAny_bind (wpAny_load hu ?_)
  simp only [kxs_mw, show (Value.type "method-wrapper" == Value.type "method" || Value.type "method-wrapper" == Value.type "builtin_function_or_method" || Value.type "method-wrapper" == Value.type "method-wrapper") = true by decide, if_true]
  refine KFB.if_so (by decide) ?_
  refine wpAny_bind (check_bound_init F.excBase_ValueError.toExcCallFacts hCs ho rfl ?_)
  refine wpAny_bind (wpAny_pure (wpAny_pure ?_))
  refine ⟨plainId_quiet F.excBase_ValueError.init.plain _, codeAny_builtin F.excBase_ValueError.initEntry ?_⟩
  refine exc_init_tree (cls := .ref C) (t0 := t1) (dv := none) (c2 := .none) (c3 := .none) (b4 := .bool false) ho hl (fun h' k e' _ => ?_)
  have J := I.write (t' := t) (x := a) (e := a) (o := exo a C none) (by rw [e]; exact True.intro) (.inl rfl) k ⟨_, e'⟩ (exo_ok e')
  have eu : upd H a (exo a C none) = H := by
    funext b
    by_cases hb : b = a
    · rw [hb, upd_same, e]
    · rw [upd_ne hb]
  rw [eu] at J
  exact h _ J k

/-- a pin more: the dict of a callee's locals -/
theorem pinned {L : Addr} {m : Str → Option Value} (I : Inv X pins σ H s) (hn : s.heap.Ns L m) (hH : H L = none) (h1 : L ≠ X.env.locals) (h2 : L ∉ X.fs) :
    ∃ oL, Inv X ((L, oL) :: pins) σ H s ∧ (∃ es ep, oL.data = .dict es ep ∧ ∀ s' : Shared, s'.heap.get? L = some oL → s'.heap.Ns L m) := by
  obtain ⟨oL, es, ep, hL, hd, r⟩ := hn
  refine ⟨oL, I.pins_of fun p hp => ?_, es, ep, hd, fun s' e => ⟨oL, es, ep, e, hd, r⟩⟩
  rcases List.mem_cons.mp hp with rfl | hp
  · exact ⟨hL, hH, h1, h2, fun v z => by rw [hd] at z; cases z⟩
  · exact I.pin p (List.mem_append_right _ hp)
theorem unpin {q : Addr × Obj} (I : Inv X (q :: pins) σ H s) : Inv X pins σ H s := I.pins_of fun p hp => I.pin p (List.mem_append_right _ (List.mem_cons_of_mem _ hp))

theorem ev_super {msg : Str} {j : Nat} {p0 p1 p2 p3 p4 : Pos} (hm : (p2.endLine == p4.line) = true) (env : Env) :
    eval (.Call (.Attribute (.Call (.Name "super" p0) [] [] p1) "__init__" p2) [.Constant (.str msg) j p3] [] p4) env = (do
      let ov ← attributeBase (.Call (.Name "super" p0) [] [] p1) "__init__" env (eval (.Call (.Name "super" p0) [] [] p1) env)
      standAt p2.atName
      let (f, first) ← holding [ov] (getMethod ov "__init__" (do return (← importBound (.Call (.Name "super" p0) [] [] p1) env).getD true))
      callWith p4 f first (backTo p4 (starEach [.Constant (.str msg) j p3] env)) []) := by
  have e : methodCallPos true (.Call (.Name "super" p0) [] [] p1) env p2 p4 = pure p4 := by
    unfold methodCallPos
    rw [hm]
    rfl
  show (attributeBase _ _ _ _ >>= fun ov => standAt p2.atName >>= fun _ => holding [ov] (calleeOf true (.Call (.Name "super" p0) [] [] p1) env ov "__init__") >>= fun fx => methodCallPos true (.Call (.Name "super" p0) [] [] p1) env p2 p4 >>= fun q => callWith q fx.1 fx.2 _ _) = _
  rw [e]
  rfl
/-- an own __init__ to where super().__init__(text) is done -/
theorem init_pre {qual : Str} {params : Arguments} {scope : Scope} {msg : Str} {j : Nat} {p0 p1 p2 p3 p4 p5 : Pos} {fs : List Str} {rest : List Stmt} {R : Result → Shared → Prop} {args : Args} {binds : List (Str × Value)}
    (hm : (p2.endLine == p4.line) = true) (T : XF X.prog X.K C fI qual params (sSuper msg j p0 p1 p2 p3 p4 p5 :: rest) scope) (S : ScI params scope fs) (I : Inv X pins σ H s) (e : H a = some (exo a C none)) (hroom : A.depth < recursionLimit)
    (hbind : ∀ (kV doc pm : Value) (an : Option Addr) (cdv ct : Value) (cc : Addr), bindArgs (ksFn "__init__" qual params (sSuper msg j p0 p1 p2 p3 p4 p5 :: rest) scope .none kV doc pm an cdv ct cc) args = pure binds)
    (hloc : ∀ x ∈ binds, scope.names.lookup x.1 = some .local) (hs : binds.reverse.lookup ("self" : Str) = some (.ref a))
    (h : ∀ (env : Env) (oL : Obj) (s' : Shared), env.scope.kind = .function → (∀ x, env.kindOf x = scope.names.lookup x) → (∀ s2 : Shared, s2.heap.get? env.locals = some oL → s2.heap.Ns env.locals (fun x => binds.reverse.lookup x)) → Inv X ((env.locals, oL) :: pins) σ H s' →
      wpAny (model X.prog X.w) (A.deeper env) (execs rest env) (fun fl s' => R (.ok (.ret (match fl with | .ret v => v | _ => .none))) s') (fun e s' => wpAny (model X.prog X.w) (A.deeper env) (leaving env e) (fun _ s'' => R (.error e) s'') (fun e' s'' => R (.error e') s'') s') s') :
    codeAny (model X.prog X.w) A (.call (.ref fI) args) R s := by
  obtain ⟨oc, od, kV, doc, pm, an, cda, ct, osl, cc, ccl, cdd, vs, ccs, file, tf, cl, cld, csl, lk, hcd, lcd, hvs, hfile, lcc⟩ := T.fn
  obtain ⟨ar, hh1, hh2⟩ := S.hd
  obtain ⟨mb, bl1, bl2⟩ := I.mod.blt
  refine ks_codeAny_call_defAt (fd := ksFn "__init__" qual params (sSuper msg j p0 p1 p2 p3 p4 p5 :: rest) scope .none kV doc pm an (.ref cda) ct cc) hroom (I.kIn _ _ lk) rfl I.nolimit (codeRec_of I.kIn hcd) rfl (.of_eq (hbind kV doc pm an (.ref cda) ct cc)) S.cell hloc
    (fun h₁ hns kp => ?_) S.co S.gen S.kind
  have I1 : Inv X pins σ H { s with heap := h₁, toks := s.toks + binds.length } := I.kept kp
  have nX : s.heap.objs.size ≠ X.env.locals := Nat.ne_of_gt I.lt
  have nF : s.heap.objs.size ∉ X.fs := I.nofs (Nat.le_refl _)
  let fdI := ksFn "__init__" qual params (sSuper msg j p0 p1 p2 p3 p4 p5 :: rest) scope .none kV doc pm an (.ref cda) ct cc
  have ek : ∀ x, (callEnv fdI s.heap.objs.size fI).kindOf x = scope.names.lookup x := fun x => rfl
  have eK : (callEnv fdI s.heap.objs.size fI).scope.kind = .function := S.kind
  have eI : interactive (callEnv fdI s.heap.objs.size fI) = false := by
    unfold interactive
    rw [eK]
    rfl
  obtain ⟨oL, I1', es, ep, _, back⟩ := pinned I1 hns (I.hok.fresh (Nat.le_refl _)) nX nF
  refine ks_wpAt_execs_cons (ks_wpAt_Expr_any (ks_wpAt_MethodCall ?_ (ev_super hm _)) eI (by rfl))
  refine ks_wpAt_super_base ((ek _).trans S.ks) ((ek _).trans S.kc) (by decide) rfl (I1'.kIn _ _ lk) rfl hh1 rfl (I1'.kIn _ _ lcd) rfl hvs hfile T.top ?_
  refine ks_loadName_global eK ((ek _).trans S.ks) (loadGlobal_builtin (mg := X.mg) (mb := mb) (v := .type "super") (I1'.mod.glob.keeps I1'.bk) (mg_none_of I1'.mod.kin I1'.mod.glob T.glo) (bl1.keeps I1'.bk) ((bl2 _ (by decide +kernel)).trans (by first | rfl | kernel_rfl)) ⟨rfl, ?_⟩)
  refine wpAny_loadName_free eK ((ek _).trans S.kc) rfl ⟨_, I1'.kIn _ _ lcc, rfl⟩ ?_
  rw [hh2]
  refine wpAny_loadName_local eK ((ek _).trans S.ka) hns hs ?_
  obtain ⟨nm, qn, N, bs, bm, sn, sub, ab, col, dd, k0, k1, k2, k3, k5, hC, hbm⟩ := T.oex.cls
  have hC1 := I1'.kIn _ _ hC
  obtain ⟨t1, ho⟩ := exo_at I1'.hok e
  refine ks_wpAny_isType_cls hC1 rfl ⟨rfl, ?_⟩
  refine ks_wpAny_call_super hC1 rfl ho rfl (fun c z => nomatch z) (looks_mroIn I1'.kIn T.slf) (fun h2 e2 kp2 => ?_)
  have I2 : Inv X ((s.heap.objs.size, oL) :: pins) σ H { s with heap := h2, toks := s.toks + binds.length } := I1'.kept kp2
  obtain ⟨t2, ho2⟩ := exo_at I2.hok e
  have hsm := T.sup
  have hcl : clsIn X.K C = some { name := nm, bases := bs, mro := .ref C :: bm, ns := N, qualname := qn, hasDict := true, slotNames := sn, subclasses := sub, abstract := ab, collection := col, hasDel := false } := by unfold clsIn; rw [hC] <;> rfl
  have IA : InstAt h2 a _ C none := ⟨ho2, rfl, rfl, trivial⟩
  unfold ks_superIn at hsm
  rw [hcl] at hsm
  refine kxs_getMethod kxs_ValueError (so := h₁.objs.size) e2 (looks_opaque I2.kIn T.opq) (l₀ := .ref C :: bm) (fun A Q E s k q => wpAny_bind ((looks_clsIn I2.kIn hcl) A _ E s k (wpAny_pure q))) rfl I2.kIn hsm (IA.type.andThen (looks_subIn I2.kIn T.sbV)) (ks_ne I2.kIn IA hcl) (by decide) ?_
  have kp3 : ∀ b o, h2.get? b = some o → (h2.push (kxs_mw "ValueError.__init__" a)).get? b = some o := fun b o z => Heap.get?_push_of_some _ z
  have I3 : Inv X ((s.heap.objs.size, oL) :: pins) σ H { s with heap := h2.push (kxs_mw "ValueError.__init__" a), toks := s.toks + binds.length + 1 } := I2.kept kp3
  have hbw : (h2.push (kxs_mw "ValueError.__init__" a)).get? h2.objs.size = some (kxs_mw "ValueError.__init__" a) := Heap.get?_push_at rfl rfl
  refine kxs_callWith (i := "ValueError.__init__") (x := a) (by rfl) (evalArgs_plain (Calls.spliced_cons (wpAny_Constant_str (k := j) (pos := p3) (Calls.spliced_nil ⟨hbw, ?_⟩))))
  have I4 := I3.tok (s.toks + binds.length + 1 + 1)
  refine call_up T.oex I4 e hbw (by rw [sizeLine_eq]; exact Nat.le_of_ble_eq_true rfl) (fun s5 I5 _ => ?_)
  exact wpAt_of_wpAny (h (callEnv fdI s.heap.objs.size fI) oL s5 eK ek back I5)

theorem pin_at {q : Addr × Obj} (I : Inv X (q :: pins) σ H s) : s.heap.get? q.1 = some q.2 := (I.pin q (List.mem_append_right _ (List.mem_cons_self ..))).1

/-- an own __init__(self, f): super().__init__(text); self.f = f -/
theorem init1 {qual : Str} {params : Arguments} {scope : Scope} {f msg : Str} {j : Nat} {p0 p1 p2 p3 p4 p5 q0 q1 q2 q3 : Pos} {R : Result → Shared → Prop} {args : Args} {y : V} {u : Value}
    (hm : (p2.endLine == p4.line) = true) (T : XF X.prog X.K C fI qual params [sSuper msg j p0 p1 p2 p3 p4 p5, sPut f q0 q1 q2 q3] scope) (S : ScI params scope [f]) (I : Inv X pins σ H s) (e : H a = some (exo a C none)) (ry : RelV y u) (hroom : A.depth < recursionLimit)
    (hbind : ∀ (kV doc pm : Value) (an : Option Addr) (cdv ct : Value) (cc : Addr), bindArgs (ksFn "__init__" qual params [sSuper msg j p0 p1 p2 p3 p4 p5, sPut f q0 q1 q2 q3] scope .none kV doc pm an cdv ct cc) args = pure [(("self" : Str), Value.ref a), (f, u)])
    (hfs : (f == ("self" : Str)) = false) (hfd : (f == ("__debug__" : Str)) = false) (hno : findIn X.K (.ref C) f = some none)
    (h : ∀ (dx : Addr) (s' : Shared), H dx = none → dx ≠ a → Inv X pins σ (upd (upd H dx (exd dx [(f, y)])) a (exo a C (some dx))) s' → R (.ok (.ret .none)) s') :
    codeAny (model X.prog X.w) A (.call (.ref fI) args) R s := by
  have e1 : ([((("self" : Str)), Value.ref a), (f, u)].reverse).lookup ("self" : Str) = some (.ref a) := by
    have q : (("self" : Str) == f) = false := by rw [Bool.beq_comm]; exact hfs
    simp [List.lookup, q]
  have e2 : ([((("self" : Str)), Value.ref a), (f, u)].reverse).lookup f = some u := by simp [List.lookup]
  refine init_pre (binds := [(("self" : Str), Value.ref a), (f, u)]) hm T S I e hroom hbind (fun x hx => ?_) e1 (fun env oL s1 hk ek back I1 => ?_)
  · rcases List.mem_cons.mp hx with rfl | hx
    · exact S.ka
    · rcases List.mem_cons.mp hx with rfl | hx
      · exact S.kf f (List.mem_cons_self ..)
      · cases hx
  · refine wpAny_execs_cons (plainObj_wpAny_Assign_Attribute ?_ (by rfl))
    refine ESX.ldL (back _ (pin_at I1)) e2 ?_ hk ((ek _).trans (S.kf f (List.mem_cons_self ..))) hfd
    refine ESX.ldL (back _ (pin_at I1)) e1 ?_ hk ((ek _).trans S.ka) (by decide)
    refine ost_new T.oex I1 e hno ry (fun dx s2 hd hne I2 => ?_)
    exact wpAny_pure (h dx s2 hd hne (unpin I2))
end
end Kz
namespace Kz
open PySem PySem.W PySem.Calls L2 PySem.HandSPX

section
variable {M : Model} {A : Around} {E : Value → Shared → Prop} {h : Heap} {g : Array GenState} {d : Drawn} {t : Nat} {os : OsState}
variable {nm q : Str} {C N : Addr} {bs bm bmB : List Value} {hdct : Bool} {sn : List Str} {sub : List Value} {ab : Bool} {col : Option Bool} {dd : Option Addr} {k0 k1 k2 k3 k5 : Option Value} {B newId initId : String}
/-- keywords let through: the check of the built-in __new__ -/
theorem kwCheck (FB : ExcBaseFacts B newId initId bmB) (hT : ∀ X : String, bm.contains (.type X) = bmB.contains (.type X)) {us : List Value} {kw : List (Str × Value)} {Q : Unit → Shared → Prop}
    (hC : h.get? C = some (excClassObj nm q C N bs bm hdct sn sub ab col dd k0 k1 k2 k3 k5 newId)) (z : Q () ⟨h, g, d, t, os⟩) : wpAny M A (checkBuiltinCall newId ⟨.ref C :: us, kw⟩) Q E ⟨h, g, d, t, os⟩ := by
  have hin : (Value.ref C :: bm).contains (.type B) = true := by rw [List.contains_cons, hT, FB.hasB, Bool.or_true]
  have hst := FB.noStar
  simp only [checkBuiltinCall, FB.newKind, FB.newSplit, FB.newRow]
  repeat (first | refine wpAny_loadPart_at hC ?_ | (refine wpAny_isSubtype_exc hC ?_; rw [hin]) | refine wpAny_staticBase_exc hC ?_ | refine wpAny_madeBy_exc hC ?_ | simp only [bne_self_eq_false, Bool.false_eq_true, if_false] | wp_step)
  exact z
end
section
variable {prog : Program} {w : World} {A : Around} {E : Value → Shared → Prop} {R : Result → Shared → Prop} {h : Heap} {g : Array GenState} {d : Drawn} {t : Nat} {os : OsState}
variable {nm q : Str} {C N : Addr} {bs bm bmB : List Value} {hdct : Bool} {sn : List Str} {sub : List Value} {ab : Bool} {col : Option Bool} {dd : Option Addr} {k0 k1 k2 k3 k5 : Option Value} {B newId initId : String}
theorem kwNew (FB : ExcBaseFacts B newId initId bmB) (hT : ∀ X : String, bm.contains (.type X) = bmB.contains (.type X)) {us : List Value} {kw : List (Str × Value)}
    (hC : h.get? C = some (excClassObj nm q C N bs bm hdct sn sub ab col dd k0 k1 k2 k3 k5 newId))
    (z : R (.ok (.ret (.ref (h.objs.size + 1)))) ⟨(h.push (W.kdv_tup us)).push (excO C h.objs.size), g, d, t, os⟩) (hl : us.length ≤ sizeLine) :
    codeAny (model prog w) A (.builtin newId ⟨.ref C :: us, kw⟩) R ⟨h, g, d, t, os⟩ := by
  have he := FB.ends
  have c1 : (Value.ref C :: bm).contains (.type B) = true := by rw [List.contains_cons, hT, FB.hasB, Bool.or_true]
  have c2 : (Value.ref C :: bm).contains (.type "AttributeError") = false := by rw [List.contains_cons, hT, FB.noAttr]; rfl
  have c3 : (Value.ref C :: bm).contains (.type "NameError") = false := by rw [List.contains_cons, hT, FB.noName]; rfl
  refine codeAny_builtinAt FB.entry ?_
  unfold Builtin.«BaseException.__new__»
  refine _root_.PySem.wpAt_bind ?_
  show _root_.PySem.wpAt _ _ _ (stack >>= _) _ _ _
  refine _root_.PySem.wpAt_bind (_root_.PySem.wpAt_stack fun _ _ => _root_.PySem.wpAt_of_wpAny ?_)
  wp_walk
  refine _root_.PySem.wpAt_of_wpAny ?_
  rw [FB.owner]
  repeat (first | with_reducible refine wpAny_madeHere_exc FB.canon hC ?_ | with_reducible refine wpAny_loadPart_at hC ?_ | (with_reducible refine wpAny_isSubtype_exc hC ?_; first | rw [c1] | rw [c2] | rw [c3]) | wp_step)
  show R _ _
  rw [Heap.size_push]
  exact z
theorem kwType (FB : ExcBaseFacts B newId initId bmB) (hT : ∀ X : String, bm.contains (.type X) = bmB.contains (.type X)) {us : List Value} {kw : List (Str × Value)} {fI : Addr} {Q : Fin → Shared → Prop}
    (hC : h.get? C = some (excClassObj nm q C N bs bm hdct sn sub ab col dd k0 k1 k2 k3 k5 newId))
    (hi : W.Looks (model prog w) h (typeLookup (.ref C) "__init__") (some (.ref fI))) (hb : ∀ self, W.Looks (model prog w) h (bindSpecial (.ref fI) self) (.ref fI, [self])) (hl : us.length ≤ sizeLine)
    (z : codeAny (model prog w) A (.call (.ref fI) ⟨.ref (h.objs.size + 1) :: us, kw⟩)
      (fun r s' => match r with | .ok (.ret v) => v = .none ∧ Q (.done (.ret (.ref (h.objs.size + 1)))) s' | .ok _ => False | .error e => E e s')
      ⟨(h.push (W.kdv_tup us)).push (excO C h.objs.size), g, d, t, os⟩) :
    wpAny (model prog w) A (Builtin.«type.__call__» ⟨.ref C :: us, kw⟩) Q E ⟨h, g, d, t, os⟩ := by
  repeat (first | with_reducible refine wpAny_loadPart_at hC ?_ | with_reducible refine wpAny_madeBy_exc hC ?_ | wp_step)
  refine codeAny_call_builtin_code (Code.quiet_builtin _ FB.quiet) (kwCheck FB hT hC (kwNew FB hT hC ?_ hl))
  show wpAny _ _ _ _ _ _
  have kp : ∀ b o, h.get? b = some o → ((h.push (W.kdv_tup us)).push (excO C h.objs.size)).get? b = some o := fun b o e => Heap.get?_push_of_some _ (Heap.get?_push_of_some _ e)
  have hC1 := kp _ _ hC
  have hx : ((h.push (W.kdv_tup us)).push (excO C h.objs.size)).get? (h.objs.size + 1) = some (excO C h.objs.size) := by heap_get
  have hcc : (Value.ref C :: bm).contains (.ref C) = true := by simp
  have i1 := hi.keeps kp
  have b1 := (hb (.ref (h.objs.size + 1))).keeps kp
  unfold isInstance
  repeat (first | with_reducible refine wpAny_loadPart_at hx ?_ | (with_reducible refine wpAny_isSubtype_exc hC1 ?_; rw [hcc]) | wp_step)
  show wpAny _ _ (typeLookup (.ref C) _) _ _ _
  refine i1.at (wpAny_holding (wpAny_bind (b1.at (wpAny_bind (wpAny_call (codeAny_mono z fun r s' y => ?_))))))
  rcases r with e | (v | _ | _ | _) <;> first | exact y | exact y.elim | skip
  obtain ⟨rfl, y⟩ := y
  first
    | exact wpAny_pure (wpAny_pure y)
    | (wp_walk; exact y)
theorem kwCall (FB : ExcBaseFacts B newId initId bmB) (hT : ∀ X : String, bm.contains (.type X) = bmB.contains (.type X)) {us : List Value} {kw : List (Str × Value)} {fI : Addr}
    (hC : h.get? C = some (excClassObj nm q C N bs bm hdct sn sub ab col dd k0 k1 k2 k3 k5 newId))
    (hi : W.Looks (model prog w) h (typeLookup (.ref C) "__init__") (some (.ref fI))) (hb : ∀ self, W.Looks (model prog w) h (bindSpecial (.ref fI) self) (.ref fI, [self])) (hl : us.length ≤ sizeLine)
    (z : codeAny (model prog w) (A.under (.builtin "type.__call__" ⟨.ref C :: us, kw⟩)) (.call (.ref fI) ⟨.ref (h.objs.size + 1) :: us, kw⟩) (W.InitBack (h.objs.size + 1) R)
      ⟨(h.push (W.kdv_tup us)).push (excO C h.objs.size), g, d, t, os⟩) :
    codeAny (model prog w) A (.call (.ref C) ⟨us, kw⟩) R ⟨h, g, d, t, os⟩ := by
  have f1 := tc_lookup
  have f2 := tc_bind (.ref C)
  have hTy : (⟨h, g, d, t, os⟩ : Shared).TypeIs (.ref C) "type" := ⟨_, hC, rfl⟩
  refine codeAny_of_tree (show wpAny _ _ (callAny (.ref C) _) _ _ _ from ?_)
  repeat (any_goals (first | assumption | with_reducible refine wpAny_loadPart_at hC ?_ | wp_step))
  refine ⟨rfl, codeAny_call_builtin_at (Code.quiet_builtin _ (by decide +kernel)) entry_typeCall (wpAny_check_type_call_sub hC (kwType FB hT hC hi hb hl (codeAny_mono z fun r s' y => ?_)))⟩
  rcases r with e | (v | _ | _ | _) <;> exact y
end
end Kz
namespace Kz
open PySem PySem.W PySem.Calls PyProof.Rows L2

section
variable {X : Cx} {pins : List (Addr × Obj)} {σ : L2.St} {H : Hp} {s : Shared} {a C fI : Addr} {A : Around} {E : Value → Shared → Prop}

/-- the heap behind the making of an error: at a the error, at dx its dict -/
def mkH (H : Hp) (a C dx : Addr) (fs : List (Str × V)) : Hp := upd (upd H dx (exd dx fs)) a (exo a C (some dx))
theorem mkH_over {fs : List (Str × V)} {dx : Addr} {o : HO} : mkH (upd H a o) a C dx fs = mkH H a C dx fs := by
  funext b
  unfold mkH upd
  by_cases hb : b = a
  · simp [hb]
  · simp [hb]

end

/-! ### the rules -/
/-- the texts of an own error class with one field -/
structure X1 (prog : Program) (K : Frag) (C : Addr) (f : Str) : Prop where
  ex : ∃ (fI : Addr) (qual : Str) (params : Arguments) (scope : Scope) (msg : Str) (j : Nat) (p0 p1 p2 p3 p4 p5 q0 q1 q2 q3 : Pos), (p2.endLine == p4.line) = true ∧ XF prog K C fI qual params [sSuper msg j p0 p1 p2 p3 p4 p5, sPut f q0 q1 q2 q3] scope ∧ ScI params scope [f] ∧
    (∀ (kV doc pm : Value) (an : Option Addr) (cdv ct : Value) (cc : Addr) (a u : Value), bindArgs (ksFn "__init__" qual params [sSuper msg j p0 p1 p2 p3 p4 p5, sPut f q0 q1 q2 q3] scope .none kV doc pm an cdv ct cc) ⟨[a, u], []⟩ = pure [(("self" : Str), a), (f, u)]) ∧
    (∀ (kV doc pm : Value) (an : Option Addr) (cdv ct : Value) (cc : Addr) (a u : Value), bindArgs (ksFn "__init__" qual params [sSuper msg j p0 p1 p2 p3 p4 p5, sPut f q0 q1 q2 q3] scope .none kV doc pm an cdv ct cc) ⟨[a], [(f, u)]⟩ = pure [(("self" : Str), a), (f, u)])
  fs : (f == ("self" : Str)) = false
  fd : (f == ("__debug__" : Str)) = false
  no : findIn K (.ref C) f = some none
  kC : keepIn K (.ref C) = true
theorem under_depth {A : Around} {C : Addr} {us : List Value} {kw : List (Str × Value)} {k : Nat} (hr : Room k A) : (A.under (.builtin "type.__call__" ⟨.ref C :: us, kw⟩)).depth < recursionLimit := by
  rw [make_depth]
  have := hr.dp
  omega

end Kz
namespace Kz
open PySem PySem.W PySem.Calls PyProof.Rows L2 LamX

/-! ### plain data over the abstract heap, and repr -/
mutual
inductive Rd (H : Hp) : V → PyData → List Addr → Prop
  | non : Rd H .non .none []
  | bl (b : Bool) : Rd H (.bl b) (.bool b) []
  | int (i : Int) : Rd H (.int i) (.int i) []
  | str (x : Str) : Rd H (.str x) (.str x) []
  | lst {a : Addr} {xs : List V} {ds : List PyData} {as : List Addr} : H a = some (.lst xs) → RdAll H xs ds as → Rd H (.ref a) (.list ds) (a :: as)
  | tup {a : Addr} {xs : List V} {ds : List PyData} {as : List Addr} : H a = some (.tup xs) → RdAll H xs ds as → Rd H (.ref a) (.tuple ds) as
  | dct {a : Addr} {k : Str} {v : V} {d : PyData} {as : List Addr} : H a = some (.dK [(.inr k, v)]) → Rd H v d as → Rd H (.ref a) (.dict [(.str k, d)]) (a :: (([] : List Addr) ++ []) ++ (as ++ []))
inductive RdAll (H : Hp) : List V → List PyData → List Addr → Prop
  | nil : RdAll H [] [] []
  | cons {v : V} {vs : List V} {d : PyData} {ds : List PyData} {as bs : List Addr} : Rd H v d as → RdAll H vs ds bs → RdAll H (v :: vs) (d :: ds) (as ++ bs)
end
section
variable {P : Program} {w : World} {H : Hp} {h : Heap}
mutual
theorem Rd.reads (hok : HOk P w H h) : ∀ {v : V} {d : PyData} {as : List Addr} {u : Value}, Rd H v d as → RelV v u → Reads h u d as
  | _, _, _, u, .non, r => by
    obtain rfl : u = Value.none := r
    exact .none
  | _, _, _, u, .bl b, r => by
    obtain rfl : u = Value.bool b := r
    exact .bool b
  | _, _, _, u, .int i, r => by
    obtain ⟨t, rfl⟩ : ∃ t, u = Value.int i t := r
    exact .int i t
  | _, _, _, u, .str x, r => by
    obtain ⟨t, rfl⟩ : ∃ t, u = Value.str x t := r
    exact .str x t
  | _, _, _, u, @Rd.lst _ a xs ds as e q, r => by
    obtain rfl : u = Value.ref a := r
    obtain ⟨_, its, n, rv, e1⟩ := (show ObjOk P w H h a (.lst xs) from hok a _ e)
    exact .list e1 rfl rfl (RdAll.reads hok q rv)
  | _, _, _, u, @Rd.tup _ a xs ds as e q, r => by
    obtain rfl : u = Value.ref a := r
    obtain ⟨_, its, rv, o, e1, e2, n, e3⟩ := (show ObjOk P w H h a (.tup xs) from hok a _ e)
    exact .tuple e1 e2 e3 (RdAll.reads hok q rv)
  | _, _, _, u, @Rd.dct _ a k v d as e q, r => by
    obtain rfl : u = Value.ref a := r
    obtain ⟨_, _, vs, rv, o, es, ep, e1, e2, e3, _, e4, _⟩ := (show ObjOk P w H h a (.dK [(.inr k, v)]) from hok a _ e)
    cases rv with
    | @cons _ p _ ps r1 r2 =>
      cases r2
      obtain ⟨k2, w2⟩ := p
      obtain ⟨q1, q2⟩ := r1
      have q1 : (Sum.inr k : Key) = k2 := q1
      have q2 : RelV v w2 := q2
      subst q1
      obtain ⟨en, hes, p1, p2⟩ : ∃ en : DictEntry, es.toList = [en] ∧ (mixKind P w).is (.inr k) en.key = true ∧ en.val = w2 := by
        revert e4
        generalize es.toList = l
        intro e4
        match l, e4 with
        | [en], .cons p1 p2 .nil => exact ⟨en, rfl, p1, p2⟩
      obtain ⟨tk, hk⟩ := Value.isStrOf_shape (x := k) (v := en.key) p1
      have f1 : ReadsAll h (es.toList.map (·.key)) [PyData.str k] ([] ++ []) := by
        rw [hes]
        show ReadsAll h [en.key] _ _
        rw [hk]
        exact .cons (.str k tk) .nil
      have f2 : ReadsAll h (es.toList.map (·.val)) [d] (as ++ []) := by
        rw [hes]
        show ReadsAll h [en.val] _ _
        rw [p2]
        exact .cons (Rd.reads hok q q2) .nil
      exact .dict e1 e2.1 e3 f1 f2
theorem RdAll.reads (hok : HOk P w H h) : ∀ {v : List V} {d : List PyData} {as : List Addr} {u : List Value}, RdAll H v d as → Vals v u → ReadsAll h u d as
  | _, _, _, _, .nil, .nil => .nil
  | _, _, _, _, .cons q qs, .cons r rs => .cons (Rd.reads hok q r) (RdAll.reads hok qs rs)
end
end
section
variable {X : Cx}
def rRepr : List V → Hp → VK → Prop := fun xs H Q => ∃ (a : Addr) (d : PyData) (as : List Addr), xs = [.ref a] ∧ Rd H (.ref a) d as ∧ d.showable = true ∧ (d.hasDict = true → sysModules ∉ as) ∧ d.depth ≤ 20 ∧ d.shown.length ≤ sizeLine ∧ Q (.str d.shown) H
theorem call_repr (hg : X.A.guards = some []) (hr : Room 0 X.A) : CallR X (.builtin "repr") rRepr := by
  intro pins s σ H xs us Q I r h
  obtain ⟨a, d, as, rfl, rd, hs, hsm, hd, hz, q⟩ := h
  cases r with
  | @cons _ u _ ur r1 r2 =>
    cases r2
    obtain rfl : u = Value.ref a := r1
    refine repr_of_reads' (h₀ := s.heap) (rd.reads I.hok rfl) hs hsm hg (by have := hr.un; omega) (fun _ _ e => e) (fun h' u tk hk => ⟨.str d.shown, H, I.kept hk, ⟨_, rfl⟩, q⟩) hz
end
end Kz
namespace Kz
open PySem PySem.W PySem.Calls PyProof.Rows L2 LamX


theorem mkH_a {H : Hp} {a C dx : Addr} {fs : List (Str × V)} : mkH H a C dx fs a = some (exo a C (some dx)) := upd_same
theorem mkH_d {H : Hp} {a C dx : Addr} {fs : List (Str × V)} (ne : dx ≠ a) : mkH H a C dx fs dx = some (exd dx fs) := by
  unfold mkH
  rw [upd_ne ne, upd_same]
theorem new_ext {H : Hp} {a : Addr} {o : HO} (n : H a = none) : ∀ b u, H b = some u → upd H a o b = some u := fun b u e => by
  rw [upd_ne (ne_of_none e n)]
  exact e

theorem small4 (n : Nat) (h : n ≤ 1000 := by decide) : n ≤ sizeLine := by
  rw [sizeLine_eq]
  omega
end Kz
namespace Kz
open PySem PySem.W PySem.Calls PyProof.Rows L2 LamX

theorem boot_isi : bootBuiltins "isinstance" = some (.builtin "isinstance") := by decide +kernel

end Kz
namespace Kz
open PySem PySem.W PySem.Calls PyProof.Rows L2 LamX
open He (ga)

/-! ### the text -/
theorem PSs.of_eq {X : Cx} {a b : List Stmt} {t : TS} (e : b = a) (h : PSs X a t) : PSs X b t := by
  rw [e]
  exact h
section
variable {P : Program} {w : World} {K : Frag} {mg : Str → Option Value} {base : Heap}

end
end Kz
namespace Kz
open PySem PySem.W PySem.Calls PyProof.Rows L2 LamX
open He (ga)

theorem same_new {H : Hp} {p : Addr} {o : HO} (h : H p = none) : Same H (upd H p o) := new_ext h

section
variable {P : Program} {w : World} {K : Frag} {mg : Str → Option Value} {base : Heap}
/-! ### lists of truths -/
end
end Kz
namespace Kz
open PySem PySem.W PySem.Calls PyProof.Rows L2 LamX
open He (ga)

theorem boot_rp : bootBuiltins "repr" = some (.builtin "repr") := by decide +kernel

end Kz
namespace Kz
open PySem PySem.W PySem.Calls PyProof.Rows L2 LamX
open He (ga)
theorem boot_in : bootBuiltins "int" = some (.type "int") := by decide +kernel
theorem boot_li : bootBuiltins "list" = some (.type "list") := by decide +kernel

/-- the spring of draws -/
structure SS (H : Hp) (l li : Addr) (ns : List Int) (b c d : Int) : Prop where
  l1 : H l = some (.lst [.ref li, .int b, .int c, .int d])
  l2 : H li = some (.lst (ns.map V.int))
  ne : l ≠ li
  b0 : 0 ≤ b
  c0 : 0 ≤ c
  d0 : 0 ≤ d
  d1 : d < 2147483647
/-- all but the spring stands -/
def ExtS (l li : Addr) (H H' : Hp) : Prop := ∀ x o, H x = some o → x ≠ l → x ≠ li → H' x = some o
theorem ExtS.trans {l li : Addr} {H H1 H2 : Hp} (a : ExtS l li H H1) (b : ExtS l li H1 H2) : ExtS l li H H2 := fun x o e h1 h2 => b x o (a x o e h1 h2) h1 h2
theorem SS.set {H : Hp} {l li : Addr} {ns : List Int} {b c d b' c' d' : Int} (s : SS H l li ns b c d) (hb : 0 ≤ b') (hc : 0 ≤ c') (hd : 0 ≤ d') (hd1 : d' < 2147483647) : SS (upd H l (.lst [.ref li, .int b', .int c', .int d'])) l li ns b' c' d' ∧ ExtS l li H (upd H l (.lst [.ref li, .int b', .int c', .int d'])) :=
  ⟨⟨upd_same, by rw [upd_ne s.ne.symm]; exact s.l2, s.ne, hb, hc, hd, hd1⟩, fun x o e h1 _ => by rw [upd_ne h1]; exact e⟩
theorem SS.pop {H : Hp} {l li : Addr} {n : Int} {ns : List Int} {b c d : Int} (s : SS H l li (n :: ns) b c d) : SS (upd H li (.lst (ns.map V.int))) l li ns b c d ∧ ExtS l li H (upd H li (.lst (ns.map V.int))) :=
  ⟨⟨by rw [upd_ne s.ne]; exact s.l1, upd_same, s.ne, s.b0, s.c0, s.d0, s.d1⟩, fun x o e _ h2 => by rw [upd_ne h2]; exact e⟩
theorem SS.new {H : Hp} {l li p : Addr} {ns : List Int} {b c d : Int} {o : HO} (s : SS H l li ns b c d) (n : H p = none) : SS (upd H p o) l li ns b c d ∧ ExtS l li H (upd H p o) :=
  ⟨⟨new_ext n _ _ s.l1, new_ext n _ _ s.l2, s.ne, s.b0, s.c0, s.d0, s.d1⟩, fun x o e _ _ => new_ext n _ _ e⟩

theorem tWhile_split {c : TT} {tb : TS} {D : Ends} {σ : L2.St} {H : Hp} (Ok : L2.St → Hp → Prop) (a : ∀ σ H, Ok σ H → D.nx σ H) (k : (∀ σ H, Ok σ H → D.nx σ H) → tWhile c tb D σ H) : tWhile c tb D σ H := k a
theorem seq0 {α : Type} (x : α) (r : List α) : seqIndex? 0 (x :: r).length = some 0 := by
  unfold seqIndex?
  simp
theorem canLay_int : ∀ bs : List Int, PyData.canLayAll0 (bs.map PyData.int) = true
  | [] => rfl
  | b :: r => by
    show (PyData.canLay0 (.int b) && PyData.canLayAll0 _) = true
    rw [canLay_int r]
    rfl
theorem depth_int : ∀ bs : List Int, PyData.depthAll (bs.map PyData.int) = 0
  | [] => rfl
  | b :: r => by
    simp only [List.map_cons, PyData.depthAll, PyData.depth, depth_int r]
    rfl
theorem shaped_int (bs : List Int) : SeqAt.shaped (.list (bs.map PyData.int)) = true := by
  unfold SeqAt.shaped
  rw [Bool.and_eq_true]
  constructor
  · simp only [PyData.canLay0, canLay_int]
  · simp only [PyData.depth, depth_int]
    rfl
theorem dpAll_int {K : Frag} {H : Hp} : ∀ bs : List Int, DpAll K H (bs.map V.int) (bs.map PyData.int)
  | [] => .nil
  | b :: r => .cons (.int b) (dpAll_int r)
section
variable {P : Program} {w : World} {K : Frag} {mg : Str → Option Value} {base : Heap}
def spStart (K : Frag) : Sp := fun vs H Q _ => ∃ (a : Addr) (ns : List Int), vs = [.ref a] ∧ SqL K H a (ns.map V.int) ∧ ∀ (H' : Hp) (l li : Addr), Same H H' → H l = none → H li = none → SS H' l li ns 0 0 19 → Q (.ref l) H'
end
end Kz
namespace Kz
open PySem PySem.W PySem.Calls PyProof.Rows L2 LamX
open He (ga)

/-! ### a def that is only called where nothing is being shown -/
structure FnG (P : Program) (w : World) (K : PySem.W.Frag) (mg : Str → Option Value) (base : Heap) (CX : CXT) (k : Nat) (f : Addr) (fd : FuncData) (ps : List Str) (sp : Sp) : Prop where
  len : ∀ vs H Q E, sp vs H Q E → vs.length = ps.length
  run : ∀ (A : Around) (outer : List Env) (s : Shared) (H : Hp) (args : Args) (us : List Value) (vs : List V) (Q : VK) (E : XK), A.guards = some [] → Room k A → Env0 P w K mg base A outer s H → BindsTo s fd args (ps.zip us) → Vals vs us → sp vs H Q E →
    codeAny (model P w) A (.call (.ref f) args) (CR CX outer P w H s Q E) s
theorem FunD.okG {CX : CXT} {P : Program} {w : World} {K : PySem.W.Frag} {mg : Str → Option Value} {base : Heap} {x qual : Str} {params : Arguments} {body : List Stmt} {scope : Scope} {dvs : List V} {kws : List (Str × V)} {f : Addr} {fd : FuncData} {N ps : List Str} {k : Nat} {sp : Sp}
    (F : FunD K x qual params body scope dvs kws f fd) (S : FnScope N ps scope) (len : ∀ vs H Q E, sp vs H Q E → vs.length = ps.length)
    (hbody : ∀ (cdv : Value) (A : Around) (outer : List Env) (s : Shared) (H : Hp) (vs : List V) (Q : VK) (E : XK), (A.deeper (envOfC qual scope s.heap.objs.size f cdv)).guards = some [] → Room k (A.deeper (envOfC qual scope s.heap.objs.size f cdv)) → sp vs H Q E →
      ∃ t, PSs (cxOf CX P w K mg base N qual scope f cdv A outer s H E) body t ∧ t { nx := fun _ H' => Q .non H', rt := Q } (start N vs) H) : FnG P w K mg base CX (k + 1) f fd ps sp := by
  obtain ⟨oc, od, dV, kV, doc, pm, an, cdv, ct, osl, rfl, lk, hcd, _, _⟩ := F.ex
  exact ⟨len, fun A outer s H args us vs Q E hg hr e0 hb r hsp => LamX.run_ofS lk hcd S hr e0 hb r (len _ _ _ _ hsp) fun hr' => hbody cdv A outer s H vs Q E hg hr' hsp⟩
section
variable {X : Cx} {CX : CXT} {k : Nat} {f : Addr} {fd : FuncData} {ps : List Str} {sp : Sp} {dvs : List V} {ds : List Value} {E : XK} {x : Str} {p pos : Pos} {e : Expr} {es : List Expr} {t : TA}
theorem pe_callG (hgd : X.A.guards = some []) (F : FnG X.prog X.w X.K X.mg X.base CX k f fd ps sp) (hr : Room k X.A) (hg : Gl X x) (hm : X.mg x = some (.ref f)) (hk : PySem.W.keepIn X.K (.ref f) = true) (hb : Binds X.K fd ps ds) (hd : Vals dvs ds) (hx : Passes CX X E)
    (ha : PA X (e :: es) t) (hdb : (x == ("__debug__" : Str)) = false := by decide) (he : starEach (e :: es) X.env = (false, eval e X.env) :: starEach es X.env := by rfl) (hpl : (backTo pos (starEach es X.env)).any (·.1) = false := by rfl) :
    PE X (.Call (.Name x p) (e :: es) [] pos) (tCall sp dvs E t) := by
  refine ⟨fun pins s σ H Q I h => wpAny_Call_Name_kw (ld_glob I hg hm ?_ hdb)⟩
  refine PySem.W.callWith_K (h₀ := X.base) I.ok.mod.kin hk (thn (ha.run pos pins s σ H _ I h) fun us s1 ⟨vs, H1, I1, r, q⟩ => ⟨I1.kIn, ?_⟩) he hpl
  have r2 : Vals (vs ++ dvs) (us ++ ds) := r.append hd
  have hl : (us ++ ds).length = ps.length := r2.length.symm.trans (F.len _ _ _ _ q)
  refine wpAny_call (codeAny_mono (F.run X.A X.stack s1 H1 ⟨us, []⟩ (us ++ ds) (vs ++ dvs) Q E hgd hr I1.env0 (hb s1 us I1.kIn hl) r2 q) fun r s' hq => ?_)
  cases r with
  | error e => exact hx pins σ H1 s1 e s' I1 hq
  | ok fl =>
    cases fl with
    | ret u => exact I1.after hq
    | _ => exact hq.elim
end

/-! ### repr, the dicts known to be no table of modules -/
end Kz
namespace Kz
open PySem PySem.W PySem.Calls PyProof.Rows L2 LamX
open He (ga)
def rLen (K : Frag) : List V → Hp → VK → Prop := fun xs H Q => ∃ p ys, xs = [.ref p] ∧ (SqL K H p ys ∨ SqT K H p ys) ∧ Q (.int ys.length) H
end Kz
namespace K14
open PySem PySem.W PySem.Calls PyProof.Rows L2 LamX
open He (ga)
open Kz (boot_isi same_new small4 new_ext boot_li boot_in)
/-! ### any thing that the law passes -/
def kd : Key → PyData
  | .inl i => .int i
  | .inr x => .str x
mutual
inductive Th (H : Hp) : V → PyData → Prop
  | non : Th H .non .none
  | bl (b : Bool) : Th H (.bl b) (.bool b)
  | int (i : Int) : Th H (.int i) (.int i)
  | str (x : Str) : Th H (.str x) (.str x)
  | lst {a : Addr} {xs : List V} {ds : List PyData} : H a = some (.lst xs) → ThAll H xs ds → Th H (.ref a) (.list ds)
  | tup {a : Addr} {xs : List V} {ds : List PyData} : H a = some (.tup xs) → ThAll H xs ds → Th H (.ref a) (.tuple ds)
  | dct {a : Addr} {kvs : List (Key × V)} {ps : List (PyData × PyData)} : H a = some (.dK kvs) → ThKv H kvs ps → Th H (.ref a) (.dict ps)
inductive ThAll (H : Hp) : List V → List PyData → Prop
  | nil : ThAll H [] []
  | cons {v : V} {vs : List V} {d : PyData} {ds : List PyData} : Th H v d → ThAll H vs ds → ThAll H (v :: vs) (d :: ds)
inductive ThKv (H : Hp) : List (Key × V) → List (PyData × PyData) → Prop
  | nil : ThKv H [] []
  | cons {k : Key} {v : V} {vs : List (Key × V)} {d : PyData} {ds : List (PyData × PyData)} : Th H v d → ThKv H vs ds → ThKv H ((k, v) :: vs) ((kd k, d) :: ds)
end
mutual
theorem Th.ext {H H1 : Hp} (e : L2.Same H H1) : ∀ {v : V} {d : PyData}, Th H v d → Th H1 v d
  | _, _, .non => .non
  | _, _, .bl b => .bl b
  | _, _, .int i => .int i
  | _, _, .str x => .str x
  | _, _, .lst h r => .lst (e _ _ h) (ThAll.ext e r)
  | _, _, .tup h r => .tup (e _ _ h) (ThAll.ext e r)
  | _, _, .dct h r => .dct (e _ _ h) (ThKv.ext e r)
theorem ThAll.ext {H H1 : Hp} (e : L2.Same H H1) : ∀ {v : List V} {d : List PyData}, ThAll H v d → ThAll H1 v d
  | _, _, .nil => .nil
  | _, _, .cons h r => .cons (Th.ext e h) (ThAll.ext e r)
theorem ThKv.ext {H H1 : Hp} (e : L2.Same H H1) : ∀ {v : List (Key × V)} {d : List (PyData × PyData)}, ThKv H v d → ThKv H1 v d
  | _, _, .nil => .nil
  | _, _, .cons h r => .cons (Th.ext e h) (ThKv.ext e r)
end
theorem ThAll.length {H : Hp} : ∀ {vs : List V} {ds : List PyData}, ThAll H vs ds → vs.length = ds.length
  | _, _, .nil => rfl
  | _, _, .cons _ r => by rw [List.length_cons, List.length_cons, r.length]
def isL : PyData → Bool
  | .list _ => true
  | .tuple _ => true
  | _ => false
def isN : PyData → Bool
  | .int i => decide (0 ≤ i)
  | _ => false
def tyN : PyData → String
  | .none => "NoneType"
  | .bool _ => "bool"
  | .int _ => "int"
  | .str _ => "str"
  | .list _ => "list"
  | .tuple _ => "tuple"
  | .dict _ => "dict"
theorem Th.ty {K : Frag} {H : Hp} {v : V} {d : PyData} (h : Th H v d) : TyX K H v (.type (tyN d)) := by
  cases h with
  | non => exact .base .non
  | bl b => exact .base (.bl b)
  | int i => exact .base (.int i)
  | str x => exact .base (.str x)
  | lst h r => exact .base (.lst h)
  | tup h r => exact .base (.tup h)
  | dct h r => exact .base (.dK h)
theorem boot_tu : bootBuiltins "tuple" = some (.type "tuple") := by decide +kernel
theorem boot_bo : bootBuiltins "bool" = some (.type "bool") := by decide +kernel
theorem is_lt {K : Frag} (d : PyData) : kitAny K (.type (tyN d)) [.type "list", .type "tuple"] = some (isL d) := by
  cases d <;> rfl
theorem is_in {K : Frag} (d : PyData) : kitOne K (.type (tyN d)) (.type "int") = some (match d with | .int _ => true | .bool _ => true | _ => false) := by
  cases d <;> rfl
theorem is_bo {K : Frag} (d : PyData) : kitOne K (.type (tyN d)) (.type "bool") = some (match d with | .bool _ => true | _ => false) := by
  cases d <;> rfl
section
variable {P : Program} {w : World} {K : Frag} {mg : Str → Option Value} {base : Heap}
/-- a look at any thing -/
def spLook (f : PyData → Bool) : Sp := fun vs H Q _ => ∃ (v : V) (d : PyData), vs = [v] ∧ Th H v d ∧ ∀ H', L2.Same H H' → Q (.bl (f d)) H'
end
end K14
namespace Kz
open PySem PySem.W PySem.Calls PyProof.Rows L2 LamX
open He (ga)
def Has (P : Program) (w : World) (K : Frag) (mg : Str → Option Value) (base : Heap) (x : Str) (k : Nat) (ps : List Str) (sp : Sp) : Prop := ∃ f fd, mg x = some (.ref f) ∧ keepIn K (.ref f) = true ∧ L2.Binds K fd ps [] ∧ FnOk P w K mg base CX0 k f fd ps sp
def HasG (P : Program) (w : World) (K : Frag) (mg : Str → Option Value) (base : Heap) (x : Str) (k : Nat) (ps : List Str) (sp : Sp) : Prop := ∃ f fd, mg x = some (.ref f) ∧ keepIn K (.ref f) = true ∧ L2.Binds K fd ps [] ∧ FnG P w K mg base CX0 k f fd ps sp
abbrev noE : XK := fun _ _ _ => False
section
variable {X : Cx} {x : Str} {p pos : Pos} {e : Expr} {es : List Expr} {ps : List Str} {sp : Sp} {k : Nat} {t : TA}
theorem pe_has (h : Has X.prog X.w X.K X.mg X.base x k ps sp) (hr : Room k X.A) (hg : Gl X x) (ha : PA X (e :: es) t) (hdb : (x == ("__debug__" : Str)) = false := by decide) (he : starEach (e :: es) X.env = (false, eval e X.env) :: starEach es X.env := by rfl) (hpl : (backTo pos (starEach es X.env)).any (·.1) = false := by rfl) :
    PE X (.Call (.Name x p) (e :: es) [] pos) (tCall sp [] noE t) := by
  obtain ⟨f, fd, h1, h2, h3, h4⟩ := h
  exact pe_call h4 hr hg h1 h2 h3 .nil pass0 ha hdb he hpl
theorem pe_hasG (hgd : X.A.guards = some []) (h : HasG X.prog X.w X.K X.mg X.base x k ps sp) (hr : Room k X.A) (hg : Gl X x) (ha : PA X (e :: es) t) (hdb : (x == ("__debug__" : Str)) = false := by decide) (he : starEach (e :: es) X.env = (false, eval e X.env) :: starEach es X.env := by rfl) (hpl : (backTo pos (starEach es X.env)).any (·.1) = false := by rfl) :
    PE X (.Call (.Name x p) (e :: es) [] pos) (tCall sp [] noE t) := by
  obtain ⟨f, fd, h1, h2, h3, h4⟩ := h
  exact pe_callG hgd h4 hr hg h1 h2 h3 .nil pass0 ha hdb he hpl
end
end Kz
namespace K14
open PySem PySem.W PySem.Calls PyProof.Rows L2 LamX
open He (ga)
open Kz (boot_isi same_new small4 new_ext boot_li boot_in Has pe_has noE)
def its : PyData → List PyData
  | .list ds => ds
  | .tuple ds => ds
  | _ => []
def isP (d : PyData) : Bool := isL d && decide ((its d).length = 2)
/-- a list or a tuple, as a list of values -/
theorem Th.seq {K : Frag} {H : Hp} {v : V} {d : PyData} (h : Th H v d) (l : isL d = true) : ∃ a xs, v = .ref a ∧ ThAll H xs (its d) ∧ (H a = some (.lst xs) ∨ H a = some (.tup xs)) := by
  cases h with
  | lst h r => exact ⟨_, _, rfl, r, .inl h⟩
  | tup h r => exact ⟨_, _, rfl, r, .inr h⟩
  | _ => cases l
theorem ThAll.get {H : Hp} : ∀ {vs : List V} {ds : List PyData}, ThAll H vs ds → ∀ {i : Nat} {v : V}, vs[i]? = some v → ∃ d, ds[i]? = some d ∧ Th H v d
  | _, _, .nil, i, v, e => by simp at e
  | _, _, .cons h r, i, v, e => by
    cases i with
    | zero => obtain rfl := Option.some.inj e; exact ⟨_, rfl, h⟩
    | succ i => exact r.get e
section
variable {X : Cx} {tg e : Expr} {w1 w2 : TI}
theorem pi_or (h1 : PI X tg e w1) (h2 : PI X tg e w2) : PI X tg e (fun σ H R => w1 σ H R ∨ w2 σ H R) := ⟨fun pins s σ H R I h => h.elim (h1.run pins s σ H R I) (h2.run pins s σ H R I)⟩
end
theorem boot_all : bootBuiltins "all" = some (.builtin "all") := by decide +kernel
/-- a look at any thing with bounded lists -/
def spLookB (f : PyData → Bool) : Sp := fun vs H Q _ => ∃ (v : V) (d : PyData), vs = [v] ∧ Th H v d ∧ (its d).length ≤ 100000 ∧ (∀ x ∈ its d, (its x).length ≤ 100000) ∧ ∀ H', L2.Same H H' → Q (.bl (f d)) H'
end K14
namespace K14
open PySem PySem.W PySem.Calls PyProof.Rows L2 LamX
open He (ga)
open Kz (boot_isi same_new small4 new_ext boot_li boot_in Has pe_has noE shaped_int dpAll_int)
/-- a statement that is never come to -/
def tNever : TS := fun _ _ _ => False
theorem ps_never {X : Cx} {st : Stmt} : PS X st tNever := ⟨fun _ _ _ _ _ _ h => h.elim⟩
end K14
namespace K14
open PySem PySem.W PySem.Calls PyProof.Rows L2 LamX
open He (ga)
open Kz (boot_isi same_new small4 new_ext boot_li boot_in Has pe_has noE shaped_int dpAll_int)
section
variable {X : Cx} {tg : Expr} {g1 g2 : TG}
theorem pg_or (h1 : PG X tg g1) (h2 : PG X tg g2) : PG X tg (fun v σ H Q => g1 v σ H Q ∨ g2 v σ H Q) := ⟨fun pins s σ H v u Q I r h => h.elim (h1.run pins s σ H v u Q I r) (h2.run pins s σ H v u Q I r)⟩
end
end K14
namespace K14
open PySem PySem.W PySem.Calls PyProof.Rows L2 LamX
open Kz (XF X1 mkH mkH_over mkH_a mkH_d kwCall init1 under_depth)
section
variable {X : Cx} {pins : List (Addr × Obj)} {σ : L2.St} {H : Hp} {s : Shared} {a C fI d : Addr} {E : Value → Shared → Prop} {fs : List (Str × V)}
theorem not_exo {o : HO} {b : Addr} (ea : H a = some (exo a C (some d))) (eb : H b = some o) (n : ∀ φ, o ≠ .ext φ) : b ≠ a := fun z => by
  rw [z, ea] at eb
  exact n _ (Option.some.inj eb).symm
theorem not_exd {o : HO} {b : Addr} (ed : H d = some (exd d fs)) (eb : H b = some o) (n : ∀ φ, o ≠ .ext φ) : b ≠ d := fun z => by
  rw [z, ed] at eb
  exact n _ (Option.some.inj eb).symm
/-- an exception that was made since the def began is let go: its dict is kept -/
theorem let_go (I : Inv X pins σ H s) (ea : H a = some (exo a C (some d))) (ed : H d = some (exd d fs)) (n0 : X.s_0.heap.get? a = none) (nda : d ≠ a) :
    ∃ (t0 : Addr) (G : Heap), Inv X pins σ (upd (del H a) d (.xd fs)) { s with heap := G } ∧ (∀ b o, G.get? b = some o → s.heap.get? b = some o) ∧ G.get? a = none ∧
      s.heap.get? a = some ({ cls := .ref C, dict := some d, data := .fields #[.ref t0, .none, .none, .none, .bool false, .none] } : Obj) := by
  obtain ⟨t0, h0⟩ := exo_at I.hok ea
  obtain ⟨mA, hns, rel⟩ := exd_at I.hok ed
  obtain ⟨G, g1, g2⟩ := restrict s.heap fun b => decide (b ≠ a)
  have on : ∀ b, b ≠ a → G.get? b = s.heap.get? b := fun b q => g1 b (decide_eq_true q)
  have off : G.get? a = none := g2 a (by simp)
  have bef : ∀ {b : Addr} {o : Obj}, X.s_0.heap.get? b = some o → b ≠ a := fun e z => by
    rw [z, n0] at e
    cases e
  have un := I.base
  have U : Un X.fs X.ex X.H_0 (upd (del H a) d (.xd fs)) X.s_0.heap G := {
    keep := fun b o e n f x => (on b (bef e)).trans (un.keep b o e n f x)
    slot := fun b o e n f x => by
      obtain ⟨sl, q⟩ := un.slot b o e n f x
      exact ⟨sl, (on b (bef e)).trans q⟩
    free := fun b o e n x => by
      have q := un.free b o e n x
      rw [upd_ne (fun z => by rw [z, ed] at q; cases q), del_ne (bef e)]
      exact q
    there := fun b o e x => by
      obtain ⟨o', q⟩ := un.there b o e x
      exact ⟨o', (on b (bef e)).trans q⟩
    tups := fun b xs e => by
      have q := un.tups b xs e
      rw [upd_ne (not_exd ed q (fun φ z => nomatch z)), del_ne (not_exo ea q (fun φ z => nomatch z))]
      exact q
    frzs := fun b o u e => by
      have q := un.frzs b o u e
      rw [upd_ne (not_exd ed q (fun φ z => nomatch z)), del_ne (not_exo ea q (fun φ z => nomatch z))]
      exact q
    tbls := fun b ps e => by
      obtain ⟨more, q⟩ := un.tbls b ps e
      exact ⟨more, by rw [upd_ne (not_exd ed q (fun φ z => nomatch z)), del_ne (not_exo ea q (fun φ z => nomatch z))]; exact q⟩ }
  have gone : ∀ {b : Addr}, H b = none → upd (del H a) d (.xd fs) b = none := fun {b} q => by
    rw [upd_ne (fun z => by rw [z, ed] at q; cases q)]
    unfold del
    split
    · rfl
    · exact q
  have nfree : ∀ {b : Addr}, H b = none → b ≠ a := fun q z => by
    rw [z, ea] at q
    cases q
  refine ⟨t0, G, ⟨I.ok, I.os, I.bare, U, ?_, fun x c e => ?_, gone I.free, fun x c e => gone (I.freeC x c e), fun p hp => ?_, fun b o z => ?_, I.len⟩, fun b o q => ?_, off, h0⟩
  · obtain ⟨m, hn, hl⟩ := I.loc
    refine ⟨m, hn.at fun o y => (on _ (nfree I.free)).trans y, fun i x v e1 e2 e3 => ?_⟩
    obtain ⟨u, ru, q⟩ := hl i x v e1 e2 e3
    refine ⟨u, ru, ?_⟩
    rcases q with q | ⟨k, c, e, z⟩
    · exact .inl q
    · refine .inr ⟨k, c, e, ?_⟩
      obtain ⟨oc, e1, e2⟩ := z
      exact ⟨oc, (on c (nfree (I.freeC x c e))).trans e1, e2⟩
  · obtain ⟨v, oc, e1, e2⟩ := I.cell x c e
    exact ⟨v, oc, (on c (nfree (I.freeC x c e))).trans e1, e2⟩
  · obtain ⟨q1, q2, q3, q4, q5⟩ := I.pin p hp
    exact ⟨(on _ (nfree q2)).trans q1, gone q2, q3, q4, q5⟩
  · by_cases hb : b = d
    · subst hb
      rw [upd_same] at z
      cases z
      exact ⟨mA, hns.at fun o y => (on b nda).trans y, rel⟩
    · rw [upd_ne hb] at z
      have hba : b ≠ a := fun e => by
        rw [e, del_same] at z
        cases z
      rw [del_ne hba] at z
      have oa : ∀ {c : Addr}, H c = some (.own b) → c ≠ a := fun q => not_exo ea q (fun φ z => nomatch z)
      refine (I.hok b o z).stay (fun c v hc y => ?_) (fun c hc => ?_) fun c xs hc => ?_
      · have hca : c ≠ a := hc.elim (fun q => by rw [q]; exact hba) oa
        exact (on c hca).trans y
      · rw [upd_ne (not_exd ed hc (fun φ z => nomatch z)), del_ne (oa hc)]
        exact hc
      · rw [upd_ne (not_exd ed hc (fun φ z => nomatch z)), del_ne (not_exo ea hc (fun φ z => nomatch z))]
        exact hc
  · by_cases hba : b = a
    · rw [hba, off] at q
      cases q
    · exact (on b hba).symm.trans q
/-- C(..) of an own error class; where it stands there was nothing -/
theorem call_mk3 {qual : Str} {params : Arguments} {body : List Stmt} {scope : Scope} {us : List Value} {Q : Value → Shared → Prop}
    (T : XF X.prog X.K C fI qual params body scope) (I : Inv X pins σ H s) (hl : us.length ≤ sizeLine)
    (hini : ∀ (b : Addr) (s1 : Shared) (R : Result → Shared → Prop), Inv X pins σ (upd H b (exo b C none)) s1 → H b = none → (∀ (dx : Addr) (s' : Shared), (upd H b (exo b C none)) dx = none → dx ≠ b → Inv X pins σ (mkH (upd H b (exo b C none)) b C dx fs) s' → R (.ok (.ret .none)) s') →
      codeAny (model X.prog X.w) (X.A.under (.builtin "type.__call__" ⟨.ref C :: us, []⟩)) (.call (.ref fI) ⟨.ref b :: us, []⟩) R s1)
    (h : ∀ (b dx : Addr) (s' : Shared), s.heap.get? b = none → H b = none → H dx = none → dx ≠ b → Inv X pins σ (mkH H b C dx fs) s' → Q (.ref b) s') :
    wpAny (model X.prog X.w) X.A (call (.ref C) us []) Q E s := by
  obtain ⟨nm, q, N, bs, bm, sn, sub, ab, col, dd, k0, k1, k2, k3, k5, hC, hbm⟩ := T.oex.cls
  obtain ⟨hp, g, dr, tk, os⟩ := s
  have hn : H (hp.objs.size + 1) = none := I.hok.fresh (Nat.le_succ _)
  have h0 : hp.get? (hp.objs.size + 1) = none := by
    cases e : hp.get? (hp.objs.size + 1) with
    | none => rfl
    | some o =>
      exact absurd (Heap.lt_size e) (Nat.not_lt_of_le (Nat.le_succ _))
  have stay2 : ∀ b o, hp.get? b = some o → ((hp.push (kdv_tup us)).push (HandSPX.excO C hp.objs.size)).get? b = some o := fun b o e => Heap.get?_push_of_some _ (Heap.get?_push_of_some _ e)
  have at2 : ((hp.push (kdv_tup us)).push (HandSPX.excO C hp.objs.size)).get? (hp.objs.size + 1) = some (HandSPX.excO C hp.objs.size) := by heap_get
  have I2 : Inv X pins σ (upd H (hp.objs.size + 1) (exo (hp.objs.size + 1) C none)) ⟨(hp.push (kdv_tup us)).push (HandSPX.excO C hp.objs.size), g, dr, tk, os⟩ := I.laid (t' := tk) (a := hp.objs.size + 1) stay2 (Nat.le_succ _) (exo_ok at2)
  refine wpAny_call (kwCall F.excBase_ValueError (fun Y => HandSPX.refsVE_contains Y bm hbm) (I.kIn _ _ hC) (looks_findIn I.kIn T.ini) (fun self => bind_fn I.kIn self T.tyI) hl (hini _ _ _ I2 hn fun dx s' hd hne I3 => ?_))
  rw [mkH_over] at I3
  exact ⟨rfl, h _ dx s' h0 hn (by rw [upd_ne hne] at hd; exact hd) hne I3⟩
end
/-- raise C(e): its reading -/
def tRs1 (C : Addr) (f : Str) (te : TE) : L2.St → Hp → XK → Prop := fun σ H Q => te σ H fun y H1 => ∀ d : Addr, H1 d = none → Q (.ref C) (some d) (upd H1 d (.xd [(f, y)]))
theorem pmk_x1 {X : Cx} {C : Addr} {f x : Str} {e : Expr} {te : TE} {p pos : Pos} (T : X1 X.prog X.K C f) (hr : Room 1 X.A) (hex : X.ex = []) (hg : Gl X x) (hm : X.mg x = some (.ref C)) (he : PE X e te) (hdb : (x == ("__debug__" : Str)) = false := by decide)
    (hs : starEach [e] X.env = (false, eval e X.env) :: starEach [] X.env := by rfl) : PMk X (.Call (.Name x p) [e] [] pos) (tRs1 C f te) := by
  intro pins s σ H Q I h
  refine wpAny_Call_Name_kw (ld_glob I hg hm ?_ hdb)
  refine callWith_K (h₀ := X.base) I.ok.mod.kin T.kC ?_ hs (by rfl)
  rw [hs]
  refine Calls.spliced_cons (thn (he.run pins s σ H _ I h) fun u s1 ⟨y, H1, I1, ry, q1⟩ => Calls.spliced_nil ⟨I1.kIn, ?_⟩)
  show wpAny _ _ (call (.ref C) [u]) _ _ _
  obtain ⟨fI, qual, params, scope, msg, j, p0, p1, p2, p3, p4, p5, q0, q1', q2, q3, hpos, T1, S, b1, b2⟩ := T.ex
  refine call_mk3 (fs := [(f, y)]) T1 I1 (by rw [sizeLine_eq]; exact Nat.le_of_ble_eq_true rfl) (fun b s1 R I1 hb k => init1 hpos T1 S I1 upd_same ry (under_depth hr) (fun kV doc pm an cdv ct cc => b1 kV doc pm an cdv ct cc _ _) T.fs T.fd T.no k) fun b dx s' nb n1 n2 ne J => ?_
  have n0 : X.s_0.heap.get? b = none := by
    cases z : X.s_0.heap.get? b with
    | none => rfl
    | some o =>
      obtain ⟨o', q⟩ := I1.base.there b o z (by rw [hex]; exact fun q => nomatch q)
      rw [nb] at q
      cases q
  obtain ⟨t0, G, J2, kG, ge, hoe⟩ := let_go J mkH_a (mkH_d ne) n0 ne
  have eH : upd (del (mkH H1 b C dx [(f, y)]) b) dx (.xd [(f, y)]) = upd H1 dx (.xd [(f, y)]) := by
    funext c
    unfold mkH upd del
    by_cases h1 : c = dx
    · simp [h1]
    · by_cases h2 : c = b
      · subst h2
        simp [h1, n1]
      · simp [h1, h2]
  rw [eH] at J2
  have ox := T1.oex
  exact ⟨b, _, _, { s' with heap := G }, _, .ref C, some dx, rfl, J2, kG, ge, hoe, ⟨rfl, rfl⟩, rfl, rfl, by rw [upd_ne (Ne.symm ne)]; exact n1, rfl, J.bare, raises_own ox.exC ox.tyC, q1 dx n2⟩
end K14
namespace K14
open PySem PySem.W PySem.Calls PyProof.Rows L2 LamX
/-! ### try with several clauses, each with a name -/
abbrev Suite := Addr → Value → Option Addr → TS
/-- the ends of a suite whose name stands in slot i -/
def endsOf (D : Ends) (i : Nat) : Ends := { nx := fun σ H => D.nx (σ.set i none) H, rt := D.rt, bk := fun σ H => D.bk (σ.set i none) H, ct := fun σ H => D.ct (σ.set i none) H }
def wEach (K : Frag) (n : Nat) (Wout : WX) (D : Ends) : List (Value × Nat × Suite) → WX
  | [] => Wout
  | (c, i, ts) :: r => fun cls d σ H => ∃ b, exmOne K cls c = some b ∧ (b = true → ∀ a, H a = none → σ.length = n → ts a cls d (endsOf D i) (σ.set i (some (.ref a))) H) ∧ (b = false → wEach K n Wout D r cls d σ H)
structure Clause (X : Cx) (x n : Str) (c : Value) (i : Nat) (b0 : Stmt) (rest : List Stmt) (ts : Suite) : Prop where
  hi : X.N[i]? = some n
  lo : X.env.kindOf n = some .local
  nm : Names X x c
  su : ∀ (a : Addr) (oe : Obj) (cls : Value) (d : Option Addr) (pn : List (Addr × Obj)), Zc cls d oe → (∃ vs, oe.data = .fields vs) → PSs (X.suite a ((a, oe) :: pn)) (b0 :: rest) (ts a cls d)
inductive Clauses (X : Cx) : List ExceptHandler → List (Value × Nat × Suite) → Prop
  | nil : Clauses X [] []
  | cons {x n : Str} {c : Value} {i : Nat} {ts : Suite} {b0 : Stmt} {rest : List Stmt} {q1 q2 : Pos} {hs : List ExceptHandler} {l : List (Value × Nat × Suite)} : Clause X x n c i b0 rest ts → Clauses X hs l → Clauses X (.ExceptHandler (some (.Name x q1)) (some n) (b0 :: rest) q2 :: hs) ((c, i, ts) :: l)
section
variable {X : Cx} {pins : List (Addr × Obj)} {σ : L2.St} {H : Hp} {sI s : Shared} {B : Heap} {a : Addr} {cls : Value} {d : Option Addr} {Wout : WX} {D : Ends}
/-- what is known where clauses are tried -/
structure Caught (X : Cx) (pins : List (Addr × Obj)) (σ : L2.St) (H : Hp) (sI s : Shared) (B : Heap) (a : Addr) (cls : Value) (d : Option Addr) : Prop where
  inv : Inv X pins σ H sI
  nb : ∀ b o, sI.heap.get? b = some o → b ∉ frs X.stack → B.get? b = some o
  up : sI.heap.UpToSlots s.heap
  fl : HandSPX.FlyingZ B (X.env :: X.outer) a (Zc cls d) s.heap
  na : H a = none
  nL : a ≠ X.env.locals
  nF : a ∉ X.fs
  os : s.os = sI.os
  ag : AllBare s.gens
/-- the clauses, one behind another -/
theorem clauses_run (hs : X.stack = X.env :: X.outer) (hf : X.env.frame = some X.env.locals) (nd : X.N.Nodup) (tk : Takes X Wout) :
    ∀ {hds : List ExceptHandler} {l : List (Value × Nat × Suite)}, Clauses X hds l → Caught X pins σ H sI s B a cls d → wEach X.K X.N.length Wout D l cls d σ H → wpAny (model X.prog X.w) X.A (handleBy (.ref a) X.env hds) (SP X pins D) X.xe s := by
  intro hds l C
  induction C with
  | nil =>
    intro G w
    obtain ⟨oe, vs, T, oT, ts, e1, e2, e3, e4, _⟩ := G.fl.2.2.2
    refine wpAny_handleBy_nil ?_
    have go : wpAny (model X.prog X.w) X.A (setFlight (.ref a) X.env.frame) (fun _ s4 => wpAny (model X.prog X.w) X.A (throw (.ref a) : Sem Flow) (SP X pins D) X.xe s4) X.xe s := by
      rw [hf]
      exact HandSPX.setFlight_upZ G.fl fun h4 hh up => wpAny_throw (tk _ _ ⟨a, B, sI, pins, σ, H, cls, d, rfl, G.inv, G.nb, G.up.trans up, .inr (.inr (by rw [hs]; exact hh)), G.na, G.os, G.ag, w⟩)
    unfold PySem.passOn
    refine wpAny_bind (wpAny_field e1 e3 e4 ?_)
    rw [if_neg (by simp : ¬ (Value.ref T == Value.none) = true)]
    first
      | exact wpAny_bind (wpAny_pure (wpAny_bind go))
      | exact wpAny_bind go
  | @cons x n c i ts b0 rest q1 q2 hs' l' cl r ih =>
    intro G w
    obtain ⟨b, hb, yes, no⟩ := w
    obtain ⟨oe, vs, he, hz, hd⟩ := G.fl.there
    have J := G.inv.landed G.nb G.fl.1 G.up G.os G.ag
    have S := J.suite he hd G.na G.nL G.nF
    refine wpAny_handleBy_cons (codeAny_handlers_test ?_) (fun q => nomatch q)
    have ty : Looks (model X.prog X.w) s.heap (typeOf (.ref a)) cls := fun A Q E s' k q => wpAny_typeOf_ref (k _ _ he) (by rw [hz.1]; exact q)
    have is := exm_one (M := model X.prog X.w) J.kIn ty hb
    have ask : ∀ {Q E : Value → Shared → Prop}, Q c s → wpAny (model X.prog X.w) (X.A.mark (some (.ref a))) (eval (.Name x q1) X.env) Q E s := fun {Q E} q => by
      obtain ⟨g, gd, m | ⟨m, v, nn⟩⟩ := cl.nm
      · exact ld_glob (X := X.suite a ((a, oe) :: (X.pn ++ pins))) S g m q gd
      · exact ld_blt (X := X.suite a ((a, oe) :: (X.pn ++ pins))) S g m v q nn gd
    refine ask (is.here ?_)
    cases b with
    | false => exact ih G (no rfl)
    | true =>
      refine codeAny_handlers_suite_as (HandSPX.lands_againZ G.fl fun h4 fl4 up4 => ?_)
      obtain ⟨oe4, vs4, he4, hz4, hd4⟩ := fl4.there
      have J4 : Inv X pins σ H { s with heap := h4 } := G.inv.landed G.nb fl4.1 (G.up.trans up4) G.os G.ag
      have S4 := J4.suite he4 hd4 G.na G.nL G.nF
      refine store_ok (X := X.suite a ((a, oe4) :: (X.pn ++ pins))) (v := .ref a) S4 nd cl.hi (.inl cl.lo) rfl (fun s5 S5 => ?_) (.inr cl.lo)
      have run := (cl.su a oe4 cls d (X.pn ++ pins) hz4 ⟨_, hd4⟩).run [] s5 _ H (endsOf D i) S5 (yes rfl a G.na G.inv.len)
      refine wpAny_mono run (fun f s6 out => ?_) (fun _ _ z => z.elim)
      cases f with
      | ret u =>
        obtain ⟨v6, σ6, H6, S6, r6, q6⟩ := out
        exact gone_ok (S6.unsuite G.inv.ok) nd cl.hi cl.lo fun s7 J7 => ⟨v6, _, _, J7, r6, q6⟩
      | next =>
        obtain ⟨σ6, H6, S6, q6⟩ := out
        exact gone_ok (S6.unsuite G.inv.ok) nd cl.hi cl.lo fun s7 J7 => ⟨_, _, J7, q6⟩
      | brk =>
        obtain ⟨σ6, H6, S6, q6⟩ := out
        exact gone_ok (S6.unsuite G.inv.ok) nd cl.hi cl.lo fun s7 J7 => ⟨_, _, J7, q6⟩
      | cont =>
        obtain ⟨σ6, H6, S6, q6⟩ := out
        exact gone_ok (S6.unsuite G.inv.ok) nd cl.hi cl.lo fun s7 J7 => ⟨_, _, J7, q6⟩
end
section
variable {X : Cx} {body : List Stmt} {h0 : ExceptHandler} {hds : List ExceptHandler} {l : List (Value × Nat × Suite)} {pos : Pos} {tb : WX → TS} {Wout : WX}
/-- try: body, except A as e: .., except B as e: .. -/
theorem ps_try_each (hs : X.stack = X.env :: X.outer) (hf : X.env.frame = some X.env.locals) (nd : X.N.Nodup) (tk : Takes X Wout)
    (hb : ∀ (W : WX) (pn : List (Addr × Obj)) (xe : Value → Shared → Prop), Takes (X.tr pn xe) W → PassesOwn (model X.prog X.w) X.A X.env xe → PSs (X.tr pn xe) body (tb W))
    (C : Clauses X (h0 :: hds) l) : PS X (.Try body (h0 :: hds) [] [] pos) (fun D σ H => tb (wEach X.K X.N.length Wout D l) D σ H) := by
  refine ⟨fun pins s σ H D I h => wpAny_Try_except ?_⟩
  have ok := I.ok
  have fr : X.A.frames = some (X.env :: X.outer) := by rw [ok.frames, hs]
  refine wpAny_mono ((hb (wEach X.K X.N.length Wout D l) (X.pn ++ pins) (fun e s1 => wpAny (model X.prog X.w) X.A (noteFrame e X.env) (fun _ s2 => wpAny (model X.prog X.w) X.A (setFlight e none) (fun _ s3 =>
    wpAny (model X.prog X.w) X.A (handleBy e X.env (h0 :: hds)) (SP X pins D) X.xe s3) X.xe s2) X.xe s1) (fun u s' xx => ?_) PassesOwn.looking).run [] s σ H D (I.toTry _) h) (fun f s1 out => ?_) (fun _ _ z => z)
  · obtain ⟨a, B, sI, pins', σ', H', cls, d, rfl, J', nb, up, sky, na, os, ag, w⟩ := xx
    have J : Inv X pins σ' H' sI := J'.ofTry ok
    rw [show (X.tr (X.pn ++ pins) _).stack = X.env :: X.outer from hs] at sky
    refine Sky.land Zc.steady fr hf sky fun h3 fl up3 => ?_
    obtain ⟨oe, vs, he, hz, hd⟩ := fl.there
    have nfr : a ∉ frs (X.env :: X.outer) := fun m => by
      obtain ⟨_, o, eo, no⟩ := fl.2.2.1.mem m
      rw [he] at eo
      cases eo
      exact no _ hd
    refine clauses_run (sI := sI) (B := B) hs hf nd tk C ⟨J, nb, up.trans up3, fl, na, fun z => nfr (List.mem_filterMap.mpr ⟨X.env, List.mem_cons_self, by rw [hf, z]⟩), fun m => ?_, os, ag⟩ w
    obtain ⟨e, me, q⟩ := List.mem_filterMap.mp m
    exact nfr (List.mem_filterMap.mpr ⟨e, List.mem_cons_of_mem _ me, q⟩)
  · cases f with
    | ret u =>
      obtain ⟨v, σ', H', J, r, q⟩ := out
      exact ⟨v, σ', H', J.ofTry ok, r, q⟩
    | next =>
      obtain ⟨σ', H', J, q⟩ := out
      exact wpAny_execs_nil ⟨σ', H', J.ofTry ok, q⟩
    | brk =>
      obtain ⟨σ', H', J, q⟩ := out
      exact ⟨σ', H', J.ofTry ok, q⟩
    | cont =>
      obtain ⟨σ', H', J, q⟩ := out
      exact ⟨σ', H', J.ofTry ok, q⟩
end
end K14
namespace K14
open PySem PySem.W PySem.Calls PyProof.Rows L2 LamX
open He (ga)
open Kz (boot_isi same_new small4 new_ext boot_li boot_in Has pe_has noE X1)
def HasX (P : Program) (w : World) (K : Frag) (mg : Str → Option Value) (base : Heap) (x : Str) (k : Nat) (ps : List Str) (sp : Sp) : Prop := ∃ f fd, mg x = some (.ref f) ∧ keepIn K (.ref f) = true ∧ L2.Binds K fd ps [] ∧ FnOk P w K mg base (L2.CX P w) k f fd ps sp
section
variable {X : Cx} {x : Str} {p pos : Pos} {e : Expr} {es : List Expr} {ps : List Str} {sp : Sp} {k : Nat} {t : TA} {E : XK}
theorem pe_hasX (h : HasX X.prog X.w X.K X.mg X.base x k ps sp) (hr : Room k X.A) (hg : Gl X x) (hx : Passes (L2.CX X.prog X.w) X E) (ha : PA X (e :: es) t) (hdb : (x == ("__debug__" : Str)) = false := by decide) (he : starEach (e :: es) X.env = (false, eval e X.env) :: starEach es X.env := by rfl) (hpl : (backTo pos (starEach es X.env)).any (·.1) = false := by rfl) :
    PE X (.Call (.Name x p) (e :: es) [] pos) (tCall sp [] E t) := by
  obtain ⟨f, fd, h1, h2, h3, h4⟩ := h
  exact pe_call h4 hr hg h1 h2 h3 .nil hx ha hdb he hpl
theorem pss_never {X : Cx} {b : List Stmt} : PSs X b tNever := ⟨fun _ _ _ _ _ _ h => h.elim⟩
end
/-- the error of the class C that holds v is let out -/
def Says (C : Addr) (v : V) (H : Hp) (E : XK) : Prop := ∀ (H' : Hp) (dx : Addr), L2.Same H H' → H' dx = some (.xd [("thing", v)]) → E (.ref C) (some dx) H'
/-- what is known of an error of the program -/
def ErK (P : Program) (K : Frag) (mg : Str → Option Value) (x : Str) : Prop := mg x = some (.ref (ga K x)) ∧ X1 P K (ga K x) "thing"
section
variable {P : Program} {w : World} {K : Frag} {mg : Str → Option Value} {base : Heap}
theorem noX {P : Program} {w : World} {K : Frag} {mg : Str → Option Value} {base : Heap} {N : List Str} {x : Str} {sc : Scope} {f : Addr} {cdv : Value} {A : Around} {outer : List Env} {s : Shared} {H : Hp} {XE : XK} : Passes (L2.CX P w) (cxOf (L2.CX P w) P w K mg base N x sc f cdv A outer s H XE) XE := passes_call (takes_of rfl rfl rfl rfl) (fun _ _ _ _ h => h)
end
end K14
namespace K14
open PySem PySem.W PySem.Calls PyProof.Rows L2 LamX
open He (ga)
open Kz (boot_isi same_new small4 new_ext boot_li boot_in Has pe_has noE X1)
theorem x1_xf {P : Program} {K : Frag} {C : Addr} {f : Str} (T : X1 P K C f) : XfC K C := by
  obtain ⟨fI, qual, params, scope, msg, j, p0, p1, p2, p3, p4, p5, q0, q1, q2, q3, _, T1, _⟩ := T.ex
  exact T1.xf
end K14
namespace K14
open PySem PySem.W PySem.Calls PyProof.Rows L2 LamX
open He (ga)
open Kz (SS ExtS ExtS.trans small4 same_new boot_in boot_li tWhile_split shaped_int dpAll_int seq0 new_ext Has pe_has noE)
/-! ### the spring, for many draws -/
def Spr (H : Hp) (l li : Addr) (c : Int) : Prop := ∃ (ns : List Int) (b d : Int), SS H l li ns b c d ∧ ns.length ≤ 1000
def spDrW : Sp := fun vs H Q _ => ∃ (l li : Addr) (c many : Int), vs = [.ref l, .int many] ∧ Spr H l li c ∧ 0 < many ∧ many < 1073741824 ∧ c < 1000000000 ∧ ∀ (H' : Hp) (r : Int), ExtS l li H H' → Spr H' l li (c + 1) → 0 ≤ r → r < many → Q (.int r) H'
/-! ### all but some objects and the tables of code -/
def Hid (S : List Addr) (H : Hp) : Hp := fun b => if b ∈ S then none else match H b with
  | some (.tbl _) => none
  | o => o
/-- all of them stand -/
def Ins (S : List Addr) (H : Hp) : Prop := ∀ b ∈ S, ∃ o, H b = some o
section
variable {S : List Addr} {l li b : Addr} {H H1 : Hp} {o : HO}
theorem hid_at (h : Hid S H b = some o) : b ∉ S ∧ H b = some o ∧ ∀ ps, o ≠ .tbl ps := by
  unfold Hid at h
  split at h
  · cases h
  · rename_i n
    refine ⟨n, ?_⟩
    split at h
    · cases h
    · rename_i q
      exact ⟨h, fun ps z => q ps (by rw [h, z])⟩
theorem hid_of (h1 : b ∉ S) (h : H b = some o) (n : ∀ ps, o ≠ .tbl ps) : Hid S H b = some o := by
  unfold Hid
  rw [if_neg h1]
  split
  · rename_i ps q
    exact absurd (Option.some.inj (h.symm.trans q)) (n ps)
  · exact h
theorem hid_up : L2.Same (Hid S H) H := fun b o h => (hid_at h).2.1
theorem hid_less {S1 : List Addr} (e : ∀ b ∈ S, b ∈ S1) : L2.Same (Hid S1 H) (Hid S H) := fun b o h => by
  obtain ⟨h1, h2, h3⟩ := hid_at h
  exact hid_of (fun z => h1 (e b z)) h2 h3
theorem hid_same (e : L2.Same H H1) : L2.Same (Hid S H) (Hid S H1) := fun b o h => by
  obtain ⟨h1, h2, h3⟩ := hid_at h
  exact hid_of h1 (e b o h2) h3
theorem hid_upd {a : Addr} {u : HO} (m : a ∈ S) : L2.Same (Hid S H) (Hid S (upd H a u)) := fun b o h => by
  obtain ⟨h1, h2, h3⟩ := hid_at h
  exact hid_of h1 (by rw [upd_ne (fun z => h1 (by rw [z]; exact m))]; exact h2) h3
theorem hid_S (m : l ∈ S) (mi : li ∈ S) (e : ExtS l li H H1) : L2.Same (Hid S H) (Hid S H1) := fun b o h => by
  obtain ⟨h1, h2, h3⟩ := hid_at h
  exact hid_of h1 (e b o h2 (fun z => h1 (by rw [z]; exact m)) (fun z => h1 (by rw [z]; exact mi))) h3
theorem hid_N (e : ExtN H H1) : L2.Same (Hid S H) (Hid S H1) := fun b o h => by
  obtain ⟨h1, h2, h3⟩ := hid_at h
  exact hid_of h1 (e b o h2 h3) h3
theorem Ins.new {p : Addr} (i : Ins S H) (n : H p = none) : p ∉ S := fun m => by
  obtain ⟨o, q⟩ := i p m
  rw [q] at n
  cases n
theorem Ins.same (i : Ins S H) (e : L2.Same H H1) : Ins S H1 := fun b m => by
  obtain ⟨o, q⟩ := i b m
  exact ⟨o, e _ _ q⟩
theorem Ins.cons {p : Addr} (i : Ins S H) (q : H p = some o) : Ins (p :: S) H := fun b m => by
  rcases List.mem_cons.mp m with rfl | m
  · exact ⟨o, q⟩
  · exact i b m
theorem same_S (e : L2.Same H H1) : ExtS l li H H1 := fun b o h _ _ => e b o h
theorem Spr.same {c : Int} (s : Spr H l li c) (e : L2.Same H H1) : Spr H1 l li c := by
  obtain ⟨ns, b, d, s, n⟩ := s
  exact ⟨ns, b, d, ⟨e _ _ s.l1, e _ _ s.l2, s.ne, s.b0, s.c0, s.d0, s.d1⟩, n⟩
theorem Spr.extN {c : Int} (s : Spr H l li c) (e : ExtN H H1) : Spr H1 l li c := by
  obtain ⟨ns, b, d, s, n⟩ := s
  exact ⟨ns, b, d, ⟨e _ _ s.l1 (fun ps z => nomatch z), e _ _ s.l2 (fun ps z => nomatch z), s.ne, s.b0, s.c0, s.d0, s.d1⟩, n⟩
theorem Spr.new {c : Int} (s : Spr H l li c) {p : Addr} (n : H p = none) : p ≠ l ∧ p ≠ li := by
  obtain ⟨ns, b, d, s, _⟩ := s
  exact ⟨Ne.symm (ne_of_none s.l1 n), Ne.symm (ne_of_none s.l2 n)⟩
theorem Spr.ins {c : Int} (s : Spr H l li c) : Ins [l, li] H := fun b m => by
  obtain ⟨ns, b', d, s, _⟩ := s
  rcases List.mem_cons.mp m with rfl | m
  · exact ⟨_, s.l1⟩
  · rw [List.mem_singleton.mp m]
    exact ⟨_, s.l2⟩
theorem ins_S {c : Int} (i : Ins S H) (e : ExtS l li H H1) (s : Spr H1 l li c) : Ins S H1 := fun b m => by
  obtain ⟨o, q⟩ := i b m
  by_cases z : b = l
  · rw [z]
    exact s.ins l (by simp)
  · by_cases y : b = li
    · rw [y]
      exact s.ins li (by simp)
    · exact ⟨o, e b o q z y⟩
theorem Spr.upd {c : Int} {a : Addr} {u : HO} (s : Spr H l li c) (h1 : a ≠ l) (h2 : a ≠ li) : Spr (L2.upd H a u) l li c := by
  obtain ⟨ns, b, d, s, n⟩ := s
  exact ⟨ns, b, d, ⟨by rw [upd_ne h1.symm]; exact s.l1, by rw [upd_ne h2.symm]; exact s.l2, s.ne, s.b0, s.c0, s.d0, s.d1⟩, n⟩
end
end K14
namespace K14
open PySem PySem.W PySem.Calls PyProof.Rows L2 LamX
open He (ga)
open Kz (SS ExtS ExtS.trans small4 same_new boot_in boot_li new_ext Has pe_has noE)
theorem ext_none {l li p : Addr} {H H1 : Hp} (e : ExtS l li H H1) (n : H1 p = none) (h1 : p ≠ l) (h2 : p ≠ li) : H p = none := by
  cases q : H p with
  | none => rfl
  | some o =>
    rw [e p o q h1 h2] at n
    cases n
end K14
namespace K14
open PySem PySem.W PySem.Calls PyProof.Rows L2 LamX
open He (ga)
open Kz (SS ExtS ExtS.trans small4 same_new boot_in boot_li new_ext Has pe_has noE boot_isi)
abbrev Nlo : List Str := ["stream", "thing", "found", "part"]
theorem boot_di : bootBuiltins "dict" = some (.type "dict") := by decide +kernel
/-! ### lists told as tuples, tuples as lists -/
mutual
inductive Ld : PyData → PyData → Prop
  | non : Ld .none .none
  | bl (b : Bool) : Ld (.bool b) (.bool b)
  | int (i : Int) : Ld (.int i) (.int i)
  | str (x : Str) : Ld (.str x) (.str x)
  | ll {xs ys : List PyData} : LdAll xs ys → Ld (.list xs) (.list ys)
  | lt {xs ys : List PyData} : LdAll xs ys → Ld (.list xs) (.tuple ys)
  | tl {xs ys : List PyData} : LdAll xs ys → Ld (.tuple xs) (.list ys)
  | tt {xs ys : List PyData} : LdAll xs ys → Ld (.tuple xs) (.tuple ys)
inductive LdAll : List PyData → List PyData → Prop
  | nil : LdAll [] []
  | cons {x y : PyData} {xs ys : List PyData} : Ld x y → LdAll xs ys → LdAll (x :: xs) (y :: ys)
end
theorem LdAll.snoc {x y : PyData} (h : Ld x y) : ∀ {xs ys : List PyData}, LdAll xs ys → LdAll (xs ++ [x]) (ys ++ [y])
  | _, _, .nil => .cons h .nil
  | _, _, .cons a r => .cons a (r.snoc h)
theorem ThAll.snoc {H : Hp} {v : V} {d : PyData} (h : Th H v d) : ∀ {vs : List V} {ds : List PyData}, ThAll H vs ds → ThAll H (vs ++ [v]) (ds ++ [d])
  | _, _, .nil => .cons h .nil
  | _, _, .cons a r => .cons a (r.snoc h)
/-- lists within lists, n deep, no dicts -/
def fitD : Nat → PyData → Bool
  | n + 1, .list xs => decide (xs.length ≤ 1000) && xs.all (fitD n)
  | n + 1, .tuple xs => decide (xs.length ≤ 1000) && xs.all (fitD n)
  | _, .none => true
  | _, .bool _ => true
  | _, .int _ => true
  | _, .str _ => true
  | _, _ => false
def szD : Nat → PyData → Nat
  | n + 1, .list xs => 1 + (xs.map (szD n)).sum
  | n + 1, .tuple xs => 1 + (xs.map (szD n)).sum
  | _, _ => 0
theorem fit_seq {n : Nat} {d : PyData} (l : isL d = true) (h : fitD n d = true) : ∃ m, n = m + 1 ∧ (its d).length ≤ 1000 ∧ (∀ x ∈ its d, fitD m x = true) ∧ szD n d = 1 + ((its d).map (szD m)).sum := by
  cases n with
  | zero => cases d <;> first | exact absurd (show false = true from h) Bool.false_ne_true | exact absurd (show false = true from l) Bool.false_ne_true
  | succ m =>
    refine ⟨m, rfl, ?_⟩
    cases d with
    | list xs =>
      obtain ⟨h1, h2⟩ := Bool.and_eq_true_iff.mp (show (decide (xs.length ≤ 1000) && xs.all (fitD m)) = true from h)
      exact ⟨of_decide_eq_true h1, fun x hx => List.all_eq_true.mp h2 x hx, rfl⟩
    | tuple xs =>
      obtain ⟨h1, h2⟩ := Bool.and_eq_true_iff.mp (show (decide (xs.length ≤ 1000) && xs.all (fitD m)) = true from h)
      exact ⟨of_decide_eq_true h1, fun x hx => List.all_eq_true.mp h2 x hx, rfl⟩
    | _ => cases l
def isD : PyData → Bool
  | .dict _ => true
  | _ => false
theorem no_dict {n : Nat} {d : PyData} (h : fitD n d = true) : isD d = false := by
  cases d with
  | dict ps => cases n <;> cases h
  | _ => rfl
theorem Ld.flat {n : Nat} {d : PyData} (l : isL d = false) (h : fitD n d = true) : Ld d d := by
  cases d with
  | none => exact .non
  | bool b => exact .bl b
  | int i => exact .int i
  | str x => exact .str x
  | dict ps => cases n <;> cases h
  | _ => cases l
theorem is_di {K : Frag} (d : PyData) : kitOne K (.type (tyN d)) (.type "dict") = some (isD d) := by
  cases d <;> rfl
theorem ld_seq {d : PyData} {ys : List PyData} (l : isL d = true) (h : LdAll (its d) ys) : Ld d (.list ys) ∧ Ld d (.tuple ys) := by
  cases d with
  | list xs => exact ⟨.ll h, .lt h⟩
  | tuple xs => exact ⟨.tl h, .tt h⟩
  | _ => cases l
theorem hid_D {S : List Addr} {l li D : Addr} {H H2 : Hp} (m : l ∈ S) (mi : li ∈ S) (n : H D = none) (e : ExtS l li H H2) : L2.Same (Hid S H) (Hid (D :: S) H2) := fun b o h => by
  obtain ⟨h1, h2, h3⟩ := hid_at h
  refine hid_of (fun z => ?_) (e b o h2 (fun z => h1 (by rw [z]; exact m)) (fun z => h1 (by rw [z]; exact mi))) h3
  rcases List.mem_cons.mp z with z | z
  · exact ne_of_none h2 n z
  · exact h1 z
section
variable {P : Program} {w : World} {K : Frag} {mg : Str → Option Value} {base : Heap}
def spLo (n : Nat) : Sp := fun vs H Q _ => ∃ (S : List Addr) (l li : Addr) (c : Int) (v : V) (d : PyData), vs = [.ref l, v] ∧ l ∈ S ∧ li ∈ S ∧ Ins S H ∧ Th (Hid S H) v d ∧ fitD n d = true ∧ Spr H l li c ∧ c + (szD n d : Nat) < 900000000 ∧
  ∀ (H' : Hp) (v' : V) (d' : PyData) (c' : Int), ExtS l li H H' → Spr H' l li c' → c' ≤ c + (szD n d : Nat) → Th (Hid S H') v' d' → Ld d d' → Q v' H'
theorem lo_len {n : Nat} {vs : List V} {H : Hp} {Q : VK} {E : XK} (h : spLo n vs H Q E) : vs.length = 2 := by
  obtain ⟨S, l, li, c, v, d, rfl, _⟩ := h
  rfl
end
end K14
namespace K14
open PySem PySem.W PySem.Calls PyProof.Rows L2 LamX
open He (ga)
open Kz (small4 same_new boot_in boot_li new_ext Has pe_has noE boot_isi)
open RZ
open LiI
abbrev Nsm : List Str := ["found", "due", "x", "y"]
def fitS : Nat → PyData → Bool
  | n + 1, .list xs => decide (xs.length ≤ 1000) && xs.all (fitS n)
  | n + 1, .tuple xs => decide (xs.length ≤ 1000) && xs.all (fitS n)
  | n + 1, .dict ps => decide (ps.length ≤ 1000) && fitS n (.list (ps.map fun p => .tuple [p.1, p.2]))
  | _, .none => true
  | _, .bool _ => true
  | _, .int _ => true
  | _, .str _ => true
  | _, _ => false
def isLs : PyData → Bool
  | .list _ => true
  | _ => false
def isTu : PyData → Bool
  | .tuple _ => true
  | _ => false
def isIn : PyData → Bool
  | .int _ => true
  | .bool _ => true
  | _ => false
def isBo : PyData → Bool
  | .bool _ => true
  | _ => false
def isAny : PyData → Bool
  | .none => false
  | .str _ => false
  | _ => true
section
variable {K : Frag}
theorem kit_ls (d : PyData) : kitOne K (.type (tyN d)) (.type "list") = some (isLs d) := by cases d <;> rfl
theorem kit_tu (d : PyData) : kitOne K (.type (tyN d)) (.type "tuple") = some (isTu d) := by cases d <;> rfl
theorem kit_in (d : PyData) : kitOne K (.type (tyN d)) (.type "int") = some (isIn d) := by cases d <;> rfl
theorem kit_bo (d : PyData) : kitOne K (.type (tyN d)) (.type "bool") = some (isBo d) := by cases d <;> rfl
theorem kit_an (d : PyData) : kitAny K (.type (tyN d)) [.type "int", .type "list", .type "tuple", .type "dict"] = some (isAny d) := by cases d <;> rfl
theorem walk_zipT {a b : Addr} {xs ys : List V} {n : Nat} (hn : n = min xs.length ys.length) : Walk (ItzT K a b) n (fun H => SqT K H a xs ∧ SqT K H b ys) (YPair (fun i => xs[i]?) (fun i => ys[i]?)) := by
  subst hn
  refine ⟨fun i _ hi q => ?_, fun _ q => ⟨xs, ys, q.1, q.2, by omega⟩, fun i H v H' _ q ⟨T, x, z, h1, h2, h3, h4, h5⟩ => ⟨T, x, z, h1, h2, h3, h4 xs q.1, h5 ys q.2⟩⟩
  have l1 : i < xs.length := by omega
  have l2 : i < ys.length := by omega
  exact ⟨xs, ys, xs[i], ys[i], q.1, q.2, by simp [l1], by simp [l2]⟩
end
theorem th_key {H : Hp} : ∀ k : Key, Th H (kV k) (kd k)
  | .inl i => .int i
  | .inr x => .str x
theorem th_items {H H' : Hp} (e : L2.Same H H') : ∀ {ts : List Addr} {kvs : List (Key × V)} {ps : List (PyData × PyData)}, Paired (fun (t : Addr) (q : Key × V) => H' t = some (.tup [kV q.1, q.2])) ts kvs → ThKv H kvs ps → ThAll H' (ts.map V.ref) (ps.map fun p => .tuple [p.1, p.2])
  | _, _, _, .nil, .nil => .nil
  | _, _, _, .cons h r, .cons t q => .cons (.tup h (.cons (th_key _) (.cons (t.ext e) .nil))) (th_items e r q)
section
variable {P : Program} {w : World} {K : Frag} {mg : Str → Option Value} {base : Heap}
def spSm (n : Nat) : Sp := fun vs H Q _ => ∃ (v u : V) (d : PyData), vs = [v, u] ∧ Th H v d ∧ Th H u d ∧ fitS n d = true ∧ ∀ H', L2.Same H H' → Q (.bl true) H'
theorem sm_len {n : Nat} {vs : List V} {H : Hp} {Q : VK} {E : XK} (h : spSm n vs H Q E) : vs.length = 2 := by
  obtain ⟨v, u, d, rfl, _⟩ := h
  rfl
/-- what is asked of the builtins -/
structure BtK (mg : Str → Option Value) : Prop where
  is : mg "isinstance" = none
  li : mg "list" = none
  tu : mg "tuple" = none
  di : mg "dict" = none
  it : mg "int" = none
  bo : mg "bool" = none
  ln : mg "len" = none
  al : mg "all" = none
  zi : mg "zip" = none
end
end K14
namespace K14.EnT
open PySem PySem.W PySem.Calls PyProof.Rows L2
/-! ### enumerate over a tuple, one argument -/
theorem meets_one {src : Value} {ob : Obj} {Hs : Heap → Prop} (B : Begins src ob Hs) :
    Meets (Builtin.«enumerate.__new__» ⟨[.type "enumerate", src], []⟩) (fun _ R z => Hs z.heap ∧
      R (.ok (.ret (.ref (z.heap.push ob).objs.size)))
        { z with heap := (z.heap.push ob).push { cls := .type "enumerate", data := .fields #[.none, .bool false, .ref z.heap.objs.size, rawInt 0, .none, .none] } }) :=
  .of_wp fun pr wo Ar R z hz => by
    obtain ⟨hp, gs, dr, tk, os⟩ := z
    obtain ⟨b1, b2⟩ := hz
    have sub1 := sub_enumerate
    have it1 : ∀ {Ar' : Around} {E' : Value → Shared → Prop} {Q' : Value → Shared → Prop}, Q' (.ref hp.objs.size) ⟨hp.push ob, gs, dr, tk, os⟩ → wpAny (model pr wo) Ar' (pyIter src) Q' E' ⟨hp, gs, dr, tk, os⟩ := fun q' => B.iter pr wo _ _ ⟨hp, gs, dr, tk, os⟩ _ b1 q'
    wp_walk using it1
    refine wpAny_stack_any fun st1 => wpAny_pure ?_
    split
    · rename_i cx _ _ _ _ _
      cases (cx == Value.type "enumerate")
      · wp_walk using it1
        exact ⟨_, rfl, b2⟩
      · wp_walk using it1
        exact ⟨_, rfl, b2⟩
    · wp_walk using it1
      exact ⟨_, rfl, b2⟩
section
variable {pr : Program} {wo : World} {Ar : Around} {E' : Value → Shared → Prop} {z : Shared}
theorem new_enum {src : Value} {ob : Obj} {Hs : Heap → Prop} {Q' : Value → Shared → Prop} (B : Begins src ob Hs) (b1 : Hs z.heap)
    (k : ∀ g, IsEnum g (z.heap.objs.size + 1) z.heap.objs.size 0 .none → g.get? z.heap.objs.size = some ob → g.objs.size = z.heap.objs.size + 2 → (∀ b o, z.heap.get? b = some o → g.get? b = some o) → Q' (.ref (z.heap.objs.size + 1)) { z with heap := g }) :
    wpAny (model pr wo) Ar (call (.type "enumerate") [src]) Q' E' z := by
  refine callType_new F.called_enumerate (by decide) (F.typeCall_enumerate_1 _) (F.newCall_enumerate_1 _) (fun obj => F.args_object_init_2 obj _) F.entry_enumerate_new (meets_one B) ⟨b1, ?_⟩
  have sz : (z.heap.push ob).objs.size = z.heap.objs.size + 1 := Heap.size_push ..
  show _ ∧ _
  rw [sz]
  have en : IsEnum ((z.heap.push ob).push { cls := .type "enumerate", data := .fields #[.none, .bool false, .ref z.heap.objs.size, rawInt 0, .none, .none] }) (z.heap.objs.size + 1) z.heap.objs.size 0 .none := by
    have q := Heap.get?_push_size (z.heap.push ob) (o := { cls := .type "enumerate", data := .fields #[.none, .bool false, .ref z.heap.objs.size, rawInt 0, .none, .none] }) rfl
    rw [sz] at q
    exact q
  exact ⟨⟨_, en, rfl⟩, k _ en (Heap.get?_push_of_some _ (Heap.get?_push_size _ B.free)) (by rw [Heap.size_push, sz]) fun b o q => Heap.get?_push_of_some _ (Heap.get?_push_of_some _ q)⟩
end
def IteT (K : Frag) (a : Addr) : It :=
  ⟨fun j G => ∃ (vs : List V) (y : V), SqT K G a vs ∧ vs[j]? = some y, fun j G r G' => ∃ T y, r = .ref T ∧ G T = none ∧ G' = upd G T (.tup [.int (j : Nat), y]) ∧ ∀ vs, SqT K G a vs → vs[j]? = some y, fun j G => ∃ vs : List V, SqT K G a vs ∧ vs.length = j⟩
theorem turn_enT {P : Program} {w : World} {K : Frag} {elts : List Expr} {kk : Nat} {tpos : Pos} (a e it : Addr) :
    Turn P w K (.Tuple elts kk tpos) (IteT K a) [e, it] e (fun j g => (∃ prev, IsEnum g e it ((j : Nat) : Int) prev) ∧ g.IsTupleIter it a j ∧ e ≠ it ∧ e ≠ a ∧ a ≠ it) where
  mem := by simp
  obj := fun j g st b hb => by
    obtain ⟨⟨prev, en⟩, ⟨o, ho, hc, hd⟩, _⟩ := st
    have c2 : b = e ∨ b = it := by simpa using hb
    rcases c2 with q | q
    · rw [q]
      exact ⟨_, en, fun v y => nomatch y⟩
    · rw [q]
      exact ⟨o, ho, fun v y => by rw [hd] at y; cases y⟩
  keep := fun j g g' st k => by
    obtain ⟨⟨prev, en⟩, ti, r⟩ := st
    exact ⟨⟨prev, k e (by simp) _ en⟩, ti.at fun o q => k it (by simp) o q, r⟩
  item := by
    intro X hP hw hK hc j pins s σ H E I fp st hg
    subst hP hw hK
    obtain ⟨⟨prev, en⟩, ti, n1, n2, n3⟩ := st
    obtain ⟨vs, y, hq, hy⟩ := hg
    obtain ⟨its, rv, p, _⟩ := I.tuple hq
    obtain ⟨u, hu, ru⟩ := rv.get hy
    have le : e < s.heap.objs.size := Heap.lt_size en
    have li : it < s.heap.objs.size := by
      obtain ⟨_, q, _⟩ := ti
      exact Heap.lt_size q
    have jl : j < its.toArray.size := by
      have := (List.getElem?_eq_some_iff.mp hu).1
      simpa using this
    refine wpAny_pyNext_enum_itemD (Draws.tuple (prog := X.prog) (w := X.w) (A := X.A.in1) (show X.A.in1.handled = none from I.ok.hd hc) it a n3 its.toArray) en ⟨ti, p⟩ jl n1 (by simp [n1, n2]) fun x g tk hx eo tg hT sz hk => ?_
    obtain rfl : x = u := by
      have hx : its.toArray[j]? = some x := hx
      rw [List.getElem?_toArray, hu] at hx
      exact (Option.some.inj hx).symm
    refine ⟨_, rfl, wpAny_letOwnedTupleGo_enum (s := { s with heap := g, toks := tk + 1 }) eo fun g2 en2 sb => ?_⟩
    have hT2 : g2.get? s.heap.objs.size = some { cls := .type "tuple", data := .seq #[.int j tk, x] } := (sb.2 _ (Nat.ne_of_gt le)).trans hT
    have ok2 : ObjOk X.prog X.w (upd H s.heap.objs.size (.tup [.int (j : Nat), y])) g2 s.heap.objs.size (.tup [.int (j : Nat), y]) :=
      ⟨by show 2 ≤ sizeLine; decide, [.int j tk, x], .cons ⟨_, rfl⟩ (.cons ru .nil), ⟨_, hT2, rfl, _, rfl⟩⟩
    have I2 : Inv X pins σ (upd H s.heap.objs.size (.tup [.int (j : Nat), y])) { s with heap := g2, toks := tk + 1 } :=
      I.turnedNew (ch := [e, it]) (fun b ob hb q => (sb.2 b (fun y => hb (by simp [y]))).trans (hk b ob (fun y => hb (by simp [y])) (fun y => hb (by simp [y])) q)) fp (Nat.le_refl _) ok2
    refine ⟨.ref s.heap.objs.size, _, I2, rfl, ⟨_, y, rfl, I.hok.fresh (Nat.le_refl _), rfl, fun ys h => by rw [I.tuple_inj h hq]; exact hy⟩, ⟨⟨x, ?_⟩, tg.1.at fun o q => (sb.2 it (Ne.symm n1)).trans q, n1, n2, n3⟩, fun b hb => ?_⟩
    · have c1 : ((j + 1 : Nat) : Int) = (j : Int) + 1 := by omega
      rw [c1]
      exact en2
    · have c2 : b < s.heap.objs.size := by
        have c3 : b = e ∨ b = it := by simpa using hb
        rcases c3 with q | q
        · rw [q]; exact le
        · rw [q]; exact li
      rw [upd_ne (Nat.ne_of_lt c2)]
      exact (fp b hb).1
  done := by
    intro X hP hw hK hc j pins s σ H E I fp st hg
    subst hP hw hK
    obtain ⟨⟨prev, en⟩, ti, n1, n2, n3⟩ := st
    obtain ⟨vs, hq, hl⟩ := hg
    obtain ⟨its, rv, p, _⟩ := I.tuple hq
    obtain ⟨f0, f1, f2, f3, f4, f5⟩ := fp it (by simp)
    have el := rv.length
    have ej : j = its.toArray.size := by
      rw [List.size_toArray, ← el]
      exact hl.symm
    rw [ej] at ti
    exact wpAny_pyNext_enum_endD (Draws.tuple (prog := X.prog) (w := X.w) (A := X.A.in1) (show X.A.in1.handled = none from I.ok.hd hc) it a n3 its.toArray) en ⟨ti, p⟩ fun g eb => ⟨rfl, I.turned (t' := s.toks) (fun b o hb q => eb b o hb q) f0 f1 f3 f4 f5⟩
  self := fun Ar j s Q E st k => by
    obtain ⟨⟨_, en⟩, _⟩ := st
    exact wpAny_pyIter_enum en k
theorem walk_enT {K : Frag} {a : Addr} {xs : List V} : Walk (IteT K a) xs.length (fun G => SqT K G a xs) (YPair (fun j => some (.int (j : Nat))) (fun j => xs[j]?)) := by
  refine ⟨fun j _ hj q => ⟨xs, xs[j], q, by simp [hj]⟩, fun _ q => ⟨xs, q, rfl⟩, fun j G r G' _ q y => ?_⟩
  obtain ⟨T, x, h1, h2, h3, h4⟩ := y
  exact ⟨T, .int (j : Nat), x, h1, h2, h3, rfl, h4 xs q⟩
/-- enumerate of a list or of a tuple -/
def iEnB (K : Frag) (ta : TA) : TI := fun σ H R => ta σ H fun vs G => ∃ a xs, vs = [.ref a] ∧ ((SqL K G a xs ∧ R (Ite K a) G) ∨ (SqT K G a xs ∧ R (IteT K a) G))
theorem pi_enB {X : Cx} {e : Expr} {ta : TA} {p pos tpos : Pos} {elts : List Expr} {kk : Nat} (hg : Gl X "enumerate") (hm : X.mg "enumerate" = none) (ha : PA X [e] ta) (hs : starEach [e] X.env = [(false, eval e X.env)] := by rfl) :
    PI X (.Tuple elts kk tpos) (.Call (.Name "enumerate" p) [e] [] pos) (iEnB X.K ta) := by
  refine ⟨fun pins s σ H R I h => ?_⟩
  refine Call_ (ld_blt I hg hm boot_enumerate (PyProof.Rows.callWith_type1 (thn (ha.run pos pins s σ H _ I h) fun us z ⟨vs, G, J, r1, q1⟩ => ?_) hs rfl))
  obtain ⟨a, xs, ex, q1⟩ := q1
  subst ex
  cases r1 with
  | cons r rr =>
    cases rr
    cases r
    have big : ∀ b, b ∈ [z.heap.objs.size + 1, z.heap.objs.size] → z.heap.objs.size ≤ b := fun b hb => by
      have c3 : b = z.heap.objs.size + 1 ∨ b = z.heap.objs.size := by simpa using hb
      rcases c3 with q | q
      · rw [q]; exact Nat.le_add_right _ _
      · rw [q]; exact Nat.le_refl _
    rcases q1 with ⟨hq, q⟩ | ⟨hq, q⟩
    · obtain ⟨its, rv, p', _⟩ := J.list hq
      refine call_enumerate_list p'.isList fun g en li sz hk => wpAny_pyIter_enum en ?_
      exact ⟨z.heap.objs.size + 1, [z.heap.objs.size + 1, z.heap.objs.size], _, _, G, rfl, J.kept (t' := z.toks) hk, turn_enum a (z.heap.objs.size + 1) z.heap.objs.size, ⟨⟨.none, en⟩, li, Nat.succ_ne_self _⟩, fun b hb => J.fpOk (big b hb) (J.hok.fresh (big b hb)), q⟩
    · obtain ⟨its, rv, p', _⟩ := J.tuple hq
      have la : a < z.heap.objs.size := by
        obtain ⟨_, q, _⟩ := p'
        exact Heap.lt_size q
      refine new_enum (begins_tuple a its.toArray) p' fun g en ob sz hk => wpAny_pyIter_enum en ?_
      exact ⟨z.heap.objs.size + 1, [z.heap.objs.size + 1, z.heap.objs.size], _, _, G, rfl, J.kept (t' := z.toks) hk, turn_enT a (z.heap.objs.size + 1) z.heap.objs.size, ⟨⟨.none, en⟩, ⟨_, ob, rfl, rfl⟩, Nat.succ_ne_self _, Nat.ne_of_gt (Nat.lt_succ_of_lt la), Nat.ne_of_lt la⟩, fun b hb => J.fpOk (big b hb) (J.hok.fresh (big b hb)), q⟩
end K14.EnT
namespace K14.Gn
open PySem PySem.W PySem.Calls PyProof.Rows L2 LamX
open Kz (same_new small4)
/-! ### going over a list or a tuple -/
def iSq (K : Frag) (tl : TE) : TI := fun σ H R => iList K tl σ H R ∨ iTup K tl σ H R
theorem pi_sq {X : Cx} {tg e : Expr} {tl : TE} (h : PE X e tl) : PI X tg e (iSq X.K tl) := pi_or (pi_list h) (pi_tup h)
/-- a comprehension over data, each element a truth that is told by the item -/
theorem lc_bl {K : Frag} {k : Nat} {v : V} {d : PyData} {σ : L2.St} {H : Hp} {tl te : TE} {vs : List Nat} {b : PyData → Bool} {Q : VK} (ht : ∀ R : VK, R v H → tl σ H R) (t : Th H v d) (l : isL d = true) (len : (its d).length ≤ 100000)
    (hw : ∀ x : V, wipe ((wipe σ vs).set k (some x)) vs = wipe σ vs)
    (hs : ∀ (j : Nat) (z : PyData) (x : V) (G : Hp) (Q' : VK), (its d)[j]? = some z → L2.Same H G → Th G x z → (∀ G', L2.Same G G' → Q' (.bl (b z)) G') → te ((wipe σ vs).set k (some x)) G Q')
    (hq : ∀ (G : Hp) (D : Addr), L2.Same H G → G D = some (.lst ((its d).map fun z => V.bl (b z))) → Q (.ref D) G) : tLc (iSq K tl) (gName k) tYes te vs σ H Q := by
  obtain ⟨a, xs, rfl, r, hx⟩ := t.seq (K := K) l
  have lx : xs.length = (its d).length := r.length
  have step : ∀ (D : Addr), H D = none → ∀ (i : Nat) (x : V) (H2 : Hp), xs[i]? = some x → (L2.Same H H2 ∧ H2 D = some (.lst (((its d).take i).map fun z => V.bl (b z)))) →
      (wipe ((wipe σ vs).set k (some x)) vs = wipe σ vs ∧ tYes ((wipe σ vs).set k (some x)) H2 fun c H3 => if c = true then te ((wipe σ vs).set k (some x)) H3 fun y H4 => ∃ acc, H4 D = some (.lst acc) ∧ acc.length < sizeLine ∧ (L2.Same H (upd H4 D (.lst (acc ++ [y]))) ∧ (upd H4 D (.lst (acc ++ [y]))) D = some (.lst (((its d).take (i + 1)).map fun z => V.bl (b z)))) else
        (L2.Same H H3 ∧ H3 D = some (.lst (((its d).take (i + 1)).map fun z => V.bl (b z))))) := by
    intro D hD i x H2 hi ⟨S, hA⟩
    obtain ⟨z, hz, tz⟩ := r.get hi
    refine ⟨hw x, ?_⟩
    unfold tYes
    show (if true = true then _ else _)
    rw [if_pos rfl]
    refine hs i z x H2 _ hz S (tz.ext S) fun H4 s4 => ⟨_, s4 _ _ hA, ?_, fun c o e => ?_, ?_⟩
    · rw [List.length_map, List.length_take, sizeLine_eq]
      omega
    · rw [upd_ne (ne_of_none e hD)]
      exact s4 _ _ (S _ _ e)
    · rw [upd_same]
      have et : (its d).take (i + 1) = (its d).take i ++ [z] := by
        rw [List.take_add_one, hz]
        rfl
      rw [et, List.map_append]
      rfl
  have fin : ∀ (D : Addr) (H2 : Hp), (L2.Same H H2 ∧ H2 D = some (.lst (((its d).take xs.length).map fun z => V.bl (b z)))) → Q (.ref D) H2 := fun D H2 ⟨S, hA⟩ => by
    rw [lx, List.take_length] at hA
    exact hq H2 D S hA
  rcases hx with hx | hx
  · exact .inl (ht _ ⟨a, rfl, ⟨xs, .inl (.inl hx)⟩, fun D hD => lc_list (xs := xs) (fun i H2 => L2.Same H H2 ∧ H2 D = some (.lst (((its d).take i).map fun z => V.bl (b z)))) ⟨same_new hD, upd_same⟩ (fun i H2 _ e => .inl (.inl (e.1 _ _ hx))) (fun i x H2 hi e => step D hD i x H2 hi e) (fun H2 e => fin D H2 e)⟩)
  · exact .inr (ht _ ⟨a, rfl, ⟨xs, .inl (.inl hx)⟩, fun D hD => lc_tup (xs := xs) (fun i H2 => L2.Same H H2 ∧ H2 D = some (.lst (((its d).take i).map fun z => V.bl (b z)))) ⟨same_new hD, upd_same⟩ (fun i H2 _ e => .inl (.inl (e.1 _ _ hx))) (fun i x H2 hi e => step D hD i x H2 hi e) (fun H2 e => fin D H2 e)⟩)
theorem lc_all {K : Frag} {k : Nat} {v : V} {d : PyData} {σ : L2.St} {H : Hp} {tl te : TE} {vs : List Nat} (b : PyData → Bool) {Q : VK} (ht : ∀ R : VK, R v H → tl σ H R) (t : Th H v d) (l : isL d = true) (len : (its d).length ≤ 100000)
    (hw : ∀ x : V, wipe ((wipe σ vs).set k (some x)) vs = wipe σ vs)
    (hs : ∀ (j : Nat) (z : PyData) (x : V) (G : Hp) (Q' : VK), (its d)[j]? = some z → L2.Same H G → Th G x z → (∀ G', L2.Same G G' → Q' (.bl (b z)) G') → te ((wipe σ vs).set k (some x)) G Q')
    (hq : ∀ G : Hp, L2.Same H G → Q (.bl ((its d).all b)) G) : tCB (rAll K) (tCons (tLc (iSq K tl) (gName k) tYes te vs) tNil) σ H Q := by
  unfold tCB tCons tNil
  exact lc_bl (b := b) ht t l len hw hs fun G D S hA => ⟨D, (its d).map b, rfl, .inl (.inl (by rw [List.map_map]; exact hA)), by rw [List.all_map]; exact hq G S⟩
theorem nx_intro {nx bk ct : L2.St → Hp → Prop} {rt : VK} {σ : L2.St} {H : Hp} (h : nx σ H) : Ends.nx { nx := nx, rt := rt, bk := bk, ct := ct } σ H := h
theorem gset {i : Nat} {v : V} {σ : L2.St} {H : Hp} {Q : L2.St → Hp → Prop} (h : Q (List.set σ i (some v)) H) : gName i v σ H Q := h
theorem for_sqS {K : Frag} {i : Nat} {v : V} {d : PyData} {σ : L2.St} {H H0 : Hp} {tl : TE} {tb u : TS} {D : Ends} (ht : ∀ R : VK, R v H → tl σ H R) (t : Th H0 v d) (l : isL d = true) (Pv : Nat → L2.St → Hp → Prop) (h0 : Pv 0 σ H) (hx : ∀ j σ G, Pv j σ G → L2.Same H0 G)
    (hs : ∀ (j : Nat) (z : PyData) (x : V) (σ' : L2.St) (G : Hp), (its d)[j]? = some z → Th G x z → Th H0 x z → Pv j σ' G → tb { nx := Pv (j + 1), rt := D.rt, bk := u D, ct := Pv (j + 1) } (σ'.set i (some x)) G)
    (hd : ∀ σ' G, Pv (its d).length σ' G → u D σ' G) : tSeq (tFor (iSq K tl) (gName i) tb) u D σ H := by
  obtain ⟨a, xs, rfl, r, hq⟩ := t.seq (K := K) l
  have lx : xs.length = (its d).length := r.length
  have go : ∀ (j : Nat) (x : V) (σ' : L2.St) (G G' : Hp), j < xs.length → Pv j σ' G → YAt xs j G x G' → gName i x σ' G' fun σ2 H2 => tb { nx := Pv (j + 1), rt := D.rt, bk := u D, ct := Pv (j + 1) } σ2 H2 := by
    intro j x σ' G G' hj hp ⟨eG, ey⟩
    obtain ⟨z, hz, tz⟩ := r.get ey
    subst eG
    exact hs j z x σ' _ hz (tz.ext (hx j σ' _ hp)) tz hp
  have q0 := hx 0 σ H h0
  unfold tSeq tFor
  rcases hq with hq | hq
  · exact .inl (ht _ ⟨a, rfl, ⟨xs, .inl (.inl (q0 _ _ hq))⟩, for_it (D := { nx := u D, rt := D.rt, bk := D.bk, ct := D.ct }) walk_list Pv h0 (fun j σ' G _ p => .inl (.inl (hx j σ' G p _ _ hq))) go (fun σ' G p => hd σ' G (by rw [← lx]; exact p))⟩)
  · exact .inr (ht _ ⟨a, rfl, ⟨xs, .inl (.inl (q0 _ _ hq))⟩, for_it (D := { nx := u D, rt := D.rt, bk := D.bk, ct := D.ct }) walk_tup Pv h0 (fun j σ' G _ p => .inl (.inl (hx j σ' G p _ _ hq))) go (fun σ' G p => hd σ' G (by rw [← lx]; exact p))⟩)
end K14.Gn
namespace K14.T27
open PySem PySem.W PySem.Calls PyProof.Rows L2 LamX
open He (ga)
open Kz (small4 same_new boot_in boot_li boot_isi Has pe_has noE)
open K14.Gn
def stOf (s : Stmt) (i : Nat) : Stmt := (defBody s).getD i (.Pass ⟨0, 0, 0, 0⟩)
def letters : Str := "abcdefghijklmnopqrstuvwxyz"
def signs : Str := "abcdefghijklmnopqrstuvwxyz0123456789"
def kept : List Str := ["x", "y", "stop", "join", "loop", "use", "part", "net", "to", "shut"]
def bnB (s : Str) : Bool := match s.cps.toList with
  | [] => false
  | c :: r => decide (s.length ≤ 8) && (decide (c ∈ letters.cps.toList) && (c :: r).all fun c => decide (c ∈ signs.cps.toList))
def isSt : PyData → Bool
  | .str _ => true
  | _ => false
def keptB (s : Str) : Bool := (kept.map V.str).any fun y => eqV y (.str s)
def nameB : PyData → Bool
  | .str s => bnB s && !keptB s
  | _ => false
theorem is_st {K : Frag} (d : PyData) : kitOne K (.type (tyN d)) (.type "str") = some (isSt d) := by cases d <;> rfl
theorem boot_st : bootBuiltins "str" = some (.type "str") := by decide +kernel
/-- the program's own names -/
structure NmK (K : Frag) (mg : Str → Option Value) : Prop where
  ll : ∃ t, mg "LETTERS" = some (.str letters t)
  ns : ∃ t, mg "NAME_SIGNS" = some (.str signs t)
  ln : ∃ t, mg "LONGEST_NAME" = some (.int 8 t)
  kp : ∃ a, mg "KEPT" = some (.ref a) ∧ ∀ H : Hp, SqT K H a (kept.map V.str)
  len : mg "len" = none
  all : mg "all" = none
  isi : mg "isinstance" = none
  str : mg "str" = none
  enu : mg "enumerate" = none
section
variable {P : Program} {w : World} {K : Frag} {mg : Str → Option Value} {base : Heap}
def spBn : Sp := fun vs H Q _ => ∃ s : Str, vs = [.str s] ∧ s.length ≤ 100000 ∧ ∀ H', L2.Same H H' → Q (.bl (bnB s)) H'
def spNm : Sp := fun vs H Q _ => ∃ (v : V) (d : PyData), vs = [v] ∧ Th H v d ∧ (∀ s, d = .str s → s.length ≤ 100000) ∧ ∀ H', L2.Same H H' → Q (.bl (nameB d)) H'
/-! ### the first that is no end -/
def oV : Option Nat → V
  | none => .non
  | some j => .int (j : Nat)
def forBody : Stmt → List Stmt
  | .For _ _ b .. => b
  | _ => []
end
end K14.T27
namespace K14.T27
open PySem PySem.W PySem.Calls PyProof.Rows L2 LamX
open He (ga)
open Kz (small4 same_new boot_in boot_li boot_isi Has pe_has noE X1 PSs.of_eq)
open K14.Gn
/-! ### check_ends -/
/-- the error of the class C that holds v, in the field f, is let out -/
def SaysF (C : Addr) (f : Str) (v : V) (H : Hp) (E : XK) : Prop := ∀ (H' : Hp) (dx : Addr), L2.Same H H' → H' dx = some (.xd [(f, v)]) → E (.ref C) (some dx) H'
end K14.T27
namespace K14.T27
open PySem PySem.W PySem.Calls PyProof.Rows L2 LamX
open He (ga)
open Kz (small4 same_new boot_in boot_li boot_isi Has pe_has noE PSs.of_eq)
open K14.Gn
open StX
/-! ### pairs of boxes -/
theorem th_app {H : Hp} : ∀ {x1 x2 : List V} {d1 d2 : List PyData}, ThAll H x1 d1 → ThAll H x2 d2 → ThAll H (x1 ++ x2) (d1 ++ d2)
  | [], _, _, _, h1, h2 => by cases h1; exact h2
  | _ :: _, _, _, _, h1, h2 => by cases h1 with | cons a b => exact .cons a (th_app b h2)
end K14.T27
namespace K14.Gn
open PySem PySem.W PySem.Calls PyProof.Rows L2 LamX
open Kz (same_new small4)
/-- as lc_bl, over data that the row itself makes -/
theorem lc_blG {K : Frag} {k : Nat} {d : PyData} {σ : L2.St} {H : Hp} {tl te : TE} {vs : List Nat} {b : PyData → Bool} {Q : VK} (ht : ∀ R : VK, (∀ (v' : V) (G0 : Hp), L2.Same H G0 → Th G0 v' d → R v' G0) → tl σ H R) (l : isL d = true) (len : (its d).length ≤ 100000)
    (hw : ∀ x : V, wipe ((wipe σ vs).set k (some x)) vs = wipe σ vs)
    (hs : ∀ (j : Nat) (z : PyData) (x : V) (G : Hp) (Q' : VK), (its d)[j]? = some z → L2.Same H G → Th G x z → (∀ G', L2.Same G G' → Q' (.bl (b z)) G') → te ((wipe σ vs).set k (some x)) G Q')
    (hq : ∀ (G : Hp) (D : Addr), L2.Same H G → G D = some (.lst ((its d).map fun z => V.bl (b z))) → Q (.ref D) G) : tLc (iSq K tl) (gName k) tYes te vs σ H Q := by
  have step : ∀ (G0 : Hp) (xs : List V), L2.Same H G0 → ThAll G0 xs (its d) → ∀ (D : Addr), G0 D = none → ∀ (i : Nat) (x : V) (H2 : Hp), xs[i]? = some x → (L2.Same G0 H2 ∧ H2 D = some (.lst (((its d).take i).map fun z => V.bl (b z)))) →
      (wipe ((wipe σ vs).set k (some x)) vs = wipe σ vs ∧ tYes ((wipe σ vs).set k (some x)) H2 fun c H3 => if c = true then te ((wipe σ vs).set k (some x)) H3 fun y H4 => ∃ acc, H4 D = some (.lst acc) ∧ acc.length < sizeLine ∧ (L2.Same G0 (upd H4 D (.lst (acc ++ [y]))) ∧ (upd H4 D (.lst (acc ++ [y]))) D = some (.lst (((its d).take (i + 1)).map fun z => V.bl (b z)))) else
        (L2.Same G0 H3 ∧ H3 D = some (.lst (((its d).take (i + 1)).map fun z => V.bl (b z))))) := by
    intro G0 xs s0 r D hD i x H2 hi ⟨S, hA⟩
    obtain ⟨z, hz, tz⟩ := r.get hi
    refine ⟨hw x, ?_⟩
    unfold tYes
    show (if true = true then _ else _)
    rw [if_pos rfl]
    refine hs i z x H2 _ hz (s0.trans S) (tz.ext S) fun H4 s4 => ⟨_, s4 _ _ hA, ?_, fun c o e => ?_, ?_⟩
    · rw [List.length_map, List.length_take, sizeLine_eq]
      omega
    · rw [upd_ne (ne_of_none e hD)]
      exact s4 _ _ (S _ _ e)
    · rw [upd_same]
      have et : (its d).take (i + 1) = (its d).take i ++ [z] := by
        rw [List.take_add_one, hz]
        rfl
      rw [et, List.map_append]
      rfl
  have fin : ∀ (G0 : Hp) (xs : List V), L2.Same H G0 → ThAll G0 xs (its d) → ∀ (D : Addr) (H2 : Hp), (L2.Same G0 H2 ∧ H2 D = some (.lst (((its d).take xs.length).map fun z => V.bl (b z)))) → Q (.ref D) H2 := fun G0 xs s0 r D H2 ⟨S, hA⟩ => by
    rw [r.length, List.take_length] at hA
    exact hq H2 D (s0.trans S) hA
  cases d with
  | list ds =>
    refine .inl (ht _ fun v' G0 s0 t0 => ?_)
    cases t0 with
    | @lst a xs _ hx r => exact ⟨a, rfl, ⟨xs, .inl (.inl hx)⟩, fun D hD => lc_list (xs := xs) (fun i H2 => L2.Same G0 H2 ∧ H2 D = some (.lst ((ds.take i).map fun z => V.bl (b z)))) ⟨same_new hD, upd_same⟩ (fun i H2 _ e => .inl (.inl (e.1 _ _ hx))) (fun i x H2 hi e => step G0 xs s0 r D hD i x H2 hi e) (fun H2 e => fin G0 xs s0 r D H2 e)⟩
  | tuple ds =>
    refine .inr (ht _ fun v' G0 s0 t0 => ?_)
    cases t0 with
    | @tup a xs _ hx r => exact ⟨a, rfl, ⟨xs, .inl (.inl hx)⟩, fun D hD => lc_tup (xs := xs) (fun i H2 => L2.Same G0 H2 ∧ H2 D = some (.lst ((ds.take i).map fun z => V.bl (b z)))) ⟨same_new hD, upd_same⟩ (fun i H2 _ e => .inl (.inl (e.1 _ _ hx))) (fun i x H2 hi e => step G0 xs s0 r D hD i x H2 hi e) (fun H2 e => fin G0 xs s0 r D H2 e)⟩
  | _ => exact absurd (show false = true from l) Bool.false_ne_true
theorem lc_allG {K : Frag} {k : Nat} {d : PyData} {σ : L2.St} {H : Hp} {tl te : TE} {vs : List Nat} (b : PyData → Bool) {Q : VK} (ht : ∀ R : VK, (∀ (v' : V) (G0 : Hp), L2.Same H G0 → Th G0 v' d → R v' G0) → tl σ H R) (l : isL d = true) (len : (its d).length ≤ 100000)
    (hw : ∀ x : V, wipe ((wipe σ vs).set k (some x)) vs = wipe σ vs)
    (hs : ∀ (j : Nat) (z : PyData) (x : V) (G : Hp) (Q' : VK), (its d)[j]? = some z → L2.Same H G → Th G x z → (∀ G', L2.Same G G' → Q' (.bl (b z)) G') → te ((wipe σ vs).set k (some x)) G Q')
    (hq : ∀ G : Hp, L2.Same H G → Q (.bl ((its d).all b)) G) : tCB (rAll K) (tCons (tLc (iSq K tl) (gName k) tYes te vs) tNil) σ H Q := by
  unfold tCB tCons tNil
  exact lc_blG (b := b) ht l len hw hs fun G D S hA => ⟨D, (its d).map b, rfl, .inl (.inl (by rw [List.map_map]; exact hA)), by rw [List.all_map]; exact hq G S⟩
theorem ifS_intro {tc : TT} {A B u : TS} {D : Ends} {σ : L2.St} {H : Hp} (h : tc σ H fun c G => if c = true then A { nx := u D, rt := D.rt, bk := D.bk, ct := D.ct } σ G else B { nx := u D, rt := D.rt, bk := D.bk, ct := D.ct } σ G) : tSeq (tIfS tc A B) u D σ H := h
theorem ret_intro {te : TE} {D : Ends} {σ : L2.St} {H : Hp} (h : te σ H D.rt) : tRet te D σ H := h
end K14.Gn
namespace K14.T27
open PySem PySem.W PySem.Calls PyProof.Rows L2 LamX
open He (ga)
open Kz (small4 same_new boot_in boot_li boot_isi Has pe_has noE PSs.of_eq)
open K14.Gn
open StX
/-! ### the law's own box -/
theorem thAll_drop {H : Hp} {m : Nat} {xs : List V} {ds : List PyData} (h : ThAll H xs ds) : ThAll H (xs.drop m) (ds.drop m) := by
  induction m generalizing xs ds with
  | zero => exact h
  | succ m ih =>
    cases h with
    | nil => exact .nil
    | cons a r => exact ih r
theorem cutV_drop {xs : List V} {m : Nat} (h : m ≤ xs.length) : cutV xs (some (m : Int)) none = xs.drop m := by
  unfold cutV
  have e1 : HT.sIx xs.length 0 (some (m : Int)) = m := by
    rw [HT.sIx_nat]
    omega
  have e2 : HT.sIx xs.length xs.length none = xs.length := rfl
  rw [e1, e2]
  exact List.take_of_length_le (by rw [List.length_drop]; exact Nat.le_refl _)
end K14.T27
namespace K14.T27
open PySem PySem.W PySem.Calls PyProof.Rows L2 LamX
open He (ga)
open Kz (SS ExtS ExtS.trans small4 same_new boot_in boot_li boot_isi Has pe_has noE PSs.of_eq new_ext)
open K14.Gn
/-! ### _law_pick, _law_mixed -/
section
variable {P : Program} {w : World} {K : Frag} {mg : Str → Option Value} {base : Heap}
def spPk : Sp := fun vs H Q _ => ∃ (l li sa : Addr) (c : Int) (xs : List V), vs = [.ref l, .ref sa] ∧ Spr H l li c ∧ H sa = some (.lst xs) ∧ sa ≠ l ∧ sa ≠ li ∧ 0 < xs.length ∧ xs.length ≤ 1000 ∧ c < 900000000 ∧ ∀ (H' : Hp) (x : V), ExtS l li H H' → Spr H' l li (c + 1) → x ∈ xs → Q x H'
end
end K14.T27
namespace K14.Gn
open PySem PySem.W PySem.Calls PyProof.Rows L2 LamX
open Kz (same_new small4)
theorem thAll_take {H : Hp} : ∀ {m : Nat} {xs : List V} {ds : List PyData}, ThAll H xs ds → ThAll H (xs.take m) (ds.take m)
  | 0, _, _, _ => .nil
  | m + 1, _, _, .nil => .nil
  | m + 1, _, _, .cons a r => .cons a (thAll_take r)
end K14.Gn
namespace K14.Gn
open PySem PySem.W PySem.Calls PyProof.Rows L2 LamX
open Kz (same_new small4)
/-- a comprehension over data, some places left out of sight -/
theorem lc_thS {K : Frag} {k : Nat} {d : PyData} {σ : L2.St} {H : Hp} {tl te : TE} {vs : List Nat} {Q : VK} (S : List Addr) (ins : Ins S H) (f : PyData → PyData) (ht : ∀ R : VK, (∀ (v' : V) (G0 : Hp), L2.Same H G0 → Th (Hid S G0) v' d → R v' G0) → tl σ H R) (l : isL d = true) (len : (its d).length ≤ 100000)
    (hw : ∀ x : V, wipe ((wipe σ vs).set k (some x)) vs = wipe σ vs)
    (hs : ∀ (D : Addr) (j : Nat) (z : PyData) (x : V) (G : Hp) (Q' : VK), (its d)[j]? = some z → L2.Same H G → Ins (D :: S) G → Th (Hid (D :: S) G) x z → (∀ (G' : Hp) (y : V), L2.Same G G' → Th (Hid (D :: S) G') y (f z) → Q' y G') → te ((wipe σ vs).set k (some x)) G Q')
    (hq : ∀ (G : Hp) (D : Addr) (ys : List V), L2.Same H G → H D = none → G D = some (.lst ys) → ThAll (Hid (D :: S) G) ys ((its d).map f) → Q (.ref D) G) : tLc (iSq K tl) (gName k) tYes te vs σ H Q := by
  let Pv (G0 : Hp) (D : Addr) (j : Nat) (H2 : Hp) : Prop := L2.Same G0 H2 ∧ ∃ ys, H2 D = some (.lst ys) ∧ ys.length = j ∧ ThAll (Hid (D :: S) H2) ys (((its d).take j).map f)
  have hidE : ∀ {G0 H2 : Hp} {D : Addr}, G0 D = none → L2.Same G0 H2 → L2.Same (Hid S G0) (Hid (D :: S) H2) := fun {G0 H2 D} n e b o h => by
    obtain ⟨h1, h2, h3⟩ := hid_at h
    refine hid_of (fun m => ?_) (e _ _ h2) h3
    rcases List.mem_cons.mp m with q | q
    · exact ne_of_none h2 n q
    · exact h1 q
  have step : ∀ (G0 : Hp) (xs : List V), L2.Same H G0 → ThAll (Hid S G0) xs (its d) → ∀ (D : Addr), G0 D = none → ∀ (i : Nat) (x : V) (H2 : Hp), xs[i]? = some x → Pv G0 D i H2 →
      (wipe ((wipe σ vs).set k (some x)) vs = wipe σ vs ∧ tYes ((wipe σ vs).set k (some x)) H2 fun c H3 => if c = true then te ((wipe σ vs).set k (some x)) H3 fun y H4 => ∃ acc, H4 D = some (.lst acc) ∧ acc.length < sizeLine ∧ Pv G0 D (i + 1) (upd H4 D (.lst (acc ++ [y]))) else Pv G0 D (i + 1) H3) := by
    intro G0 xs s0 r D hD i x H2 hi ⟨Sm, ys, hA, ly, ty⟩
    obtain ⟨z, hz, tz⟩ := r.get hi
    refine ⟨hw x, ?_⟩
    unfold tYes
    show (if true = true then _ else _)
    rw [if_pos rfl]
    have il : i < (its d).length := (List.getElem?_eq_some_iff.mp hz).1
    have insG : Ins (D :: S) H2 := (ins.same (s0.trans Sm)).cons hA
    refine hs D i z x H2 _ hz (s0.trans Sm) insG (tz.ext (hidE hD Sm)) fun H4 y s4 t4 => ⟨ys, s4 _ _ hA, by rw [ly, sizeLine_eq]; omega, fun c o e => ?_, ys ++ [y], upd_same, by rw [List.length_append, ly]; rfl, ?_⟩
    · rw [upd_ne (ne_of_none e hD)]
      exact s4 _ _ (Sm _ _ e)
    · have et : (its d).take (i + 1) = (its d).take i ++ [z] := by
        rw [List.take_add_one, hz]
        rfl
      rw [et, List.map_append]
      exact ThAll.snoc (t4.ext (hid_upd (List.mem_cons_self ..))) ((ty.ext (hid_same s4)).ext (hid_upd (List.mem_cons_self ..)))
  have start : ∀ (G0 : Hp) (D : Addr), G0 D = none → Pv G0 D 0 (upd G0 D (.lst [])) := fun G0 D hD => ⟨same_new hD, [], upd_same, rfl, .nil⟩
  have fin : ∀ (G0 : Hp) (xs : List V), L2.Same H G0 → ThAll (Hid S G0) xs (its d) → ∀ (D : Addr), G0 D = none → ∀ (H2 : Hp), Pv G0 D xs.length H2 → Q (.ref D) H2 := fun G0 xs s0 r D hD H2 ⟨Sm, ys, hA, ly, ty⟩ => by
    rw [r.length, List.take_length] at ty
    exact hq H2 D ys (s0.trans Sm) (s0.free hD) hA ty
  cases d with
  | list ds =>
    refine .inl (ht _ fun v' G0 s0 t0 => ?_)
    cases t0 with
    | @lst a xs _ hx r => exact ⟨a, rfl, ⟨xs, .inl (.inl (hid_up _ _ hx))⟩, fun D hD => lc_list (xs := xs) (Pv G0 D) (start G0 D hD) (fun i H2 _ e => .inl (.inl (e.1 _ _ (hid_up _ _ hx)))) (fun i x H2 hi e => step G0 xs s0 r D hD i x H2 hi e) (fun H2 e => fin G0 xs s0 r D hD H2 e)⟩
  | tuple ds =>
    refine .inr (ht _ fun v' G0 s0 t0 => ?_)
    cases t0 with
    | @tup a xs _ hx r => exact ⟨a, rfl, ⟨xs, .inl (.inl (hid_up _ _ hx))⟩, fun D hD => lc_tup (xs := xs) (Pv G0 D) (start G0 D hD) (fun i H2 _ e => .inl (.inl (e.1 _ _ (hid_up _ _ hx)))) (fun i x H2 hi e => step G0 xs s0 r D hD i x H2 hi e) (fun H2 e => fin G0 xs s0 r D hD H2 e)⟩
  | _ => exact absurd (show false = true from l) Bool.false_ne_true
end K14.Gn
namespace K14
open PySem PySem.W PySem.Calls PyProof.Rows L2 LamX
open He (ga)
open Kz (SS ExtS ExtS.trans small4 same_new boot_in boot_li new_ext Has pe_has noE Rd RdAll HasG pe_hasG FnG)
/-! ### calls by keywords alone, both turned about -/
def revG : List Value → List Value → List Value
  | [], ws => ws.reverse
  | _, _ => []
def revV : List V → List V → List V
  | [], zs => zs.reverse
  | _, _ => []
theorem vals_snoc {v : V} {u : Value} (r : RelV v u) : ∀ {vs : List V} {us : List Value}, Vals vs us → Vals (vs ++ [v]) (us ++ [u])
  | _, _, .nil => .cons r .nil
  | _, _, .cons a t => .cons a (vals_snoc r t)
theorem vals_rev : ∀ {vs : List V} {us : List Value}, Vals vs us → Vals vs.reverse us.reverse
  | _, _, .nil => .nil
  | _, _, .cons a t => by
    rw [List.reverse_cons, List.reverse_cons]
    exact vals_snoc a (vals_rev t)
/-! ### what repr shows of a row -/
end K14
namespace K14.T27
open PySem PySem.W PySem.Calls PyProof.Rows L2 LamX
open He (ga)
open Kz (SS ExtS ExtS.trans small4 same_new boot_in boot_li boot_isi Has pe_has noE PSs.of_eq new_ext FnG HasG pe_hasG)
open K14.Gn
/-! ### how much there is of data -/
theorem dep_le {k : Nat} : ∀ {xs : List PyData}, (∀ x ∈ xs, PyData.depth x ≤ k) → PyData.depthAll xs ≤ k
  | [], _ => Nat.zero_le _
  | x :: xs, h => by
    have h1 := h x (List.mem_cons_self ..)
    have h2 := dep_le fun y hy => h y (List.mem_cons_of_mem _ hy)
    show max (PyData.depth x) (PyData.depthAll xs) ≤ k
    omega
/-! ### expressions that make data, some places left out of sight -/
def Gv (S : List Addr) (σ : L2.St) (H0 : Hp) (te : TE) (z : PyData) : Prop := ∀ (H : Hp) (Q : VK), L2.Same H0 H → Ins S H → (∀ (H' : Hp) (v : V), L2.Same H H' → Th (Hid S H') v z → Q v H') → te σ H Q
def GvA (S : List Addr) (σ : L2.St) (H0 : Hp) (ta : TA) (zs : List PyData) : Prop := ∀ (H : Hp) (Q : List V → Hp → Prop), L2.Same H0 H → Ins S H → (∀ (H' : Hp) (vs : List V), L2.Same H H' → ThAll (Hid S H') vs zs → Q vs H') → ta σ H Q
section
variable {S : List Addr} {σ : L2.St} {H0 : Hp}
theorem gv_var {i : Nat} {v : V} {z : PyData} (e : σ[i]? = some (some v)) (t : Th (Hid S H0) v z) : Gv S σ H0 (tVar i) z := fun H Q s ins k => ⟨v, e, k H v (fun _ _ q => q) (t.ext (hid_same s))⟩
theorem gv_int {i : Int} : Gv S σ H0 (tC (.int i)) (.int i) := fun H Q s ins k => k H _ (fun _ _ q => q) (.int i)
theorem gv_non : Gv S σ H0 (tC .non) .none := fun H Q s ins k => k H _ (fun _ _ q => q) .non
theorem gv_bl {b : Bool} : Gv S σ H0 (tC (.bl b)) (.bool b) := fun H Q s ins k => k H _ (fun _ _ q => q) (.bl b)
theorem gv_str {x : Str} : Gv S σ H0 (tC (.str x)) (.str x) := fun H Q s ins k => k H _ (fun _ _ q => q) (.str x)
theorem gva_nil : GvA S σ H0 tNil [] := fun H Q s ins k => k H [] (fun _ _ q => q) .nil
theorem gva_cons {te : TE} {ta : TA} {z : PyData} {zs : List PyData} (h : Gv S σ H0 te z) (r : GvA S σ H0 ta zs) : GvA S σ H0 (tCons te ta) (z :: zs) := fun H Q s ins k =>
  h H _ s ins fun H1 v s1 t1 => r H1 _ (s.trans s1) (ins.same s1) fun H2 vs s2 t2 => k H2 (v :: vs) (s1.trans s2) (.cons (t1.ext (hid_same s2)) t2)
theorem gv_lst {ta : TA} {zs : List PyData} (h : GvA S σ H0 ta zs) (l : zs.length ≤ 1000 := by simp) : Gv S σ H0 (tLst ta) (.list zs) := fun H Q s ins k =>
  h H _ s ins fun H1 vs s1 t1 => ⟨by rw [t1.length, sizeLine_eq]; omega, fun p np => k _ _ (s1.trans (same_new np)) (.lst (hid_of ((ins.same s1).new np) upd_same fun ps z => nomatch z) (t1.ext (hid_same (same_new np))))⟩
theorem gv_tup {ta : TA} {zs : List PyData} (h : GvA S σ H0 ta zs) (l : zs.length ≤ 1000 := by simp) : Gv S σ H0 (tTup ta) (.tuple zs) := fun H Q s ins k =>
  h H _ s ins fun H1 vs s1 t1 => ⟨by rw [t1.length, sizeLine_eq]; omega, fun p np => k _ _ (s1.trans (same_new np)) (.tup (hid_of ((ins.same s1).new np) upd_same fun ps z => nomatch z) (t1.ext (hid_same (same_new np))))⟩
theorem gv_dict : Gv S σ H0 tDNewK (.dict []) := fun H Q s ins k p np => k _ _ (same_new np) (.dct (hid_of (ins.new np) upd_same fun ps z => nomatch z) .nil)
end
end K14.T27
namespace K14.T27
open PySem PySem.W PySem.Calls PyProof.Rows L2 LamX
open He (ga)
open Kz (SS ExtS ExtS.trans small4 same_new boot_in boot_li boot_isi Has pe_has noE PSs.of_eq new_ext FnG HasG pe_hasG)
open K14.Gn
theorem forall_c {α : Type} {p : α → Prop} {a : α} {l : List α} (h : p a) (r : ∀ z ∈ l, p z) : ∀ z ∈ a :: l, p z := fun z hz => (List.mem_cons.mp hz).elim (fun e => by rw [e]; exact h) (r z)
theorem forall_n {α : Type} {p : α → Prop} : ∀ z ∈ ([] : List α), p z := fun z hz => nomatch hz
theorem thAll_mem {H : Hp} {x : V} : ∀ {vs : List V} {zs : List PyData}, ThAll H vs zs → x ∈ vs → ∃ z ∈ zs, Th H x z
  | _, _, .nil, h => nomatch h
  | _, _, .cons (d := d) t r, h => by
    rcases List.mem_cons.mp h with rfl | h
    · exact ⟨_, List.mem_cons_self .., t⟩
    · obtain ⟨z, hz, q⟩ := thAll_mem r h
      exact ⟨z, List.mem_cons_of_mem _ hz, q⟩
/-- all but one place stays -/
def Exc (fd : Addr) (H H' : Hp) : Prop := ∀ b o, H b = some o → b ≠ fd → H' b = some o
theorem Exc.trans {fd : Addr} {H H1 H2 : Hp} (h : Exc fd H H1) (r : Exc fd H1 H2) : Exc fd H H2 := fun b o e n => r b o (h b o e n) n
theorem Exc.of {fd : Addr} {H H1 : Hp} (h : L2.Same H H1) : Exc fd H H1 := fun b o e _ => h b o e
theorem Exc.upd {fd : Addr} {H : Hp} {u : HO} : Exc fd H (upd H fd u) := fun b o e n => by rw [upd_ne n]; exact e
end K14.T27
namespace K14.T27
open PySem PySem.W PySem.Calls PyProof.Rows L2 LamX
open He (ga)
open Kz (SS ExtS ExtS.trans small4 same_new boot_in boot_li boot_isi Has pe_has noE PSs.of_eq new_ext FnG HasG pe_hasG)
open K14.Gn
def ifB : Stmt → List Stmt
  | .If _ b _ _ => b
  | _ => []
end K14.T27
namespace K14.T3
open T27
open K14.Gn
open PySem PySem.W PySem.Calls PyProof.Rows L2 LamX
open He (ga)
open Kz (SS ExtS ExtS.trans small4 same_new boot_in boot_li boot_isi Has pe_has noE PSs.of_eq new_ext X1)
/-! ### figures as signs -/
theorem th_strsV {H : Hp} : ∀ {vs : List V} {ss : List Str}, ThAll H vs (ss.map PyData.str) → vs = ss.map V.str
  | _, [], .nil => rfl
  | _, s :: r, .cons h q => by
    cases h
    rw [th_strsV q]
    rfl
end K14.T3
namespace K14.T3
open T27
open K14.Gn
open PySem PySem.W PySem.Calls PyProof.Rows L2 LamX
open He (ga)
open Kz (SS ExtS ExtS.trans small4 same_new boot_in boot_li boot_isi Has pe_has noE PSs.of_eq new_ext X1)
/-! ### the text of an endless row -/
theorem app_len (a b : Str) : (a ++ b).length = a.length + b.length := by rw [TL.len_tl, TL.tl_append, List.length_append, ← TL.len_tl, ← TL.len_tl]
end K14.T3
namespace K14.T3
open T27
open K14.Gn
open PySem PySem.W PySem.Calls PyProof.Rows L2 LamX
open He (ga)
open Kz (SS ExtS ExtS.trans small4 same_new boot_in boot_li boot_isi Has pe_has noE PSs.of_eq new_ext X1)
theorem op_in {r : R2} {ta tb : TE} {σ : L2.St} {H : Hp} {Q : VK} (h : ta σ H fun x H1 => tb σ H1 fun y H2 => r x y H2 Q) : tOp r ta tb σ H Q := h
end K14.T3
namespace K14.DiM
open PySem PySem.W PySem.Calls PyProof.Rows L2 LamX
/-- a dict of the module's top, that stays as it is -/
def DcK (P : Program) (w : World) (K : Frag) (a : Addr) (kvs : List (Key × V)) : Prop := kvs.length ≤ sizeLine ∧ (a == sysModules) = false ∧ ∀ h : Heap, K.In h → ∃ vs, KV kvs vs ∧ h.DictOf (mixKind P w) a vs
end K14.DiM
namespace K14.EnS
open PySem PySem.W PySem.Calls PyProof.Rows L2
open K14.EnT
/-! ### enumerate over a text -/
def IteS (x : Str) : It :=
  ⟨fun j _ => j < x.cps.size, fun j G r G' => ∃ T c, r = .ref T ∧ G T = none ∧ G' = upd G T (.tup [.int (j : Nat), .str ⟨#[c]⟩]) ∧ x.cps[j]? = some c, fun j _ => j = x.cps.size⟩
theorem turn_enS {P : Program} {w : World} {K : Frag} {elts : List Expr} {kk : Nat} {tpos : Pos} (x : Str) (t : Tok) (e it : Addr) :
    Turn P w K (.Tuple elts kk tpos) (IteS x) [e, it] e (fun j g => (∃ prev, IsEnum g e it ((j : Nat) : Int) prev) ∧ g.IsStrIter it (strIterType x) x t j ∧ e ≠ it) where
  mem := by simp
  obj := fun j g st b hb => by
    obtain ⟨⟨prev, en⟩, ⟨o, ho, hc, hd⟩, _⟩ := st
    have c2 : b = e ∨ b = it := by simpa using hb
    rcases c2 with q | q
    · rw [q]
      exact ⟨_, en, fun v y => nomatch y⟩
    · rw [q]
      exact ⟨o, ho, fun v y => by rw [hd] at y; cases y⟩
  keep := fun j g g' st k => by
    obtain ⟨⟨prev, en⟩, ⟨o, ho, r⟩, n⟩ := st
    exact ⟨⟨prev, k e (by simp) _ en⟩, ⟨o, k it (by simp) o ho, r⟩, n⟩
  item := by
    intro X hP hw hK hc j pins s σ H E I fp st hg
    subst hP hw hK
    obtain ⟨⟨prev, en⟩, ti, n1⟩ := st
    have le : e < s.heap.objs.size := Heap.lt_size en
    have li : it < s.heap.objs.size := by
      obtain ⟨_, q, _⟩ := ti
      exact Heap.lt_size q
    refine wpAny_pyNext_enum_itemD (Draws.text (prog := X.prog) (w := X.w) (A := X.A.in1) (show X.A.in1.handled = none from I.ok.hd hc) it x t) en ti hg n1 (by simp [n1]) fun y g tk hx eo tg hT sz hk => ?_
    obtain ⟨c, u, hcx, rfl⟩ := hx
    refine ⟨_, rfl, wpAny_letOwnedTupleGo_enum (s := { s with heap := g, toks := tk + 1 }) eo fun g2 en2 sb => ?_⟩
    have hT2 : g2.get? s.heap.objs.size = some { cls := .type "tuple", data := .seq #[.int j tk, .str ⟨#[c]⟩ u] } := (sb.2 _ (Nat.ne_of_gt le)).trans hT
    have ok2 : ObjOk X.prog X.w (upd H s.heap.objs.size (.tup [.int (j : Nat), .str ⟨#[c]⟩])) g2 s.heap.objs.size (.tup [.int (j : Nat), .str ⟨#[c]⟩]) :=
      ⟨by show 2 ≤ sizeLine; decide, [.int j tk, .str ⟨#[c]⟩ u], .cons ⟨_, rfl⟩ (.cons ⟨u, rfl⟩ .nil), ⟨_, hT2, rfl, _, rfl⟩⟩
    have I2 : Inv X pins σ (upd H s.heap.objs.size (.tup [.int (j : Nat), .str ⟨#[c]⟩])) { s with heap := g2, toks := tk + 1 } :=
      I.turnedNew (ch := [e, it]) (fun b ob hb q => (sb.2 b (fun y => hb (by simp [y]))).trans (hk b ob (fun y => hb (by simp [y])) (fun y => hb (by simp [y])) q)) fp (Nat.le_refl _) ok2
    refine ⟨.ref s.heap.objs.size, _, I2, rfl, ⟨_, c, rfl, I.hok.fresh (Nat.le_refl _), rfl, hcx⟩, ⟨⟨.str ⟨#[c]⟩ u, ?_⟩, ?_, n1⟩, fun b hb => ?_⟩
    · have c1 : ((j + 1 : Nat) : Int) = (j : Int) + 1 := by omega
      rw [c1]
      exact en2
    · obtain ⟨o, ho, r⟩ := tg
      exact ⟨o, (sb.2 it (Ne.symm n1)).trans ho, r⟩
    · have c2 : b < s.heap.objs.size := by
        have c3 : b = e ∨ b = it := by simpa using hb
        rcases c3 with q | q
        · rw [q]; exact le
        · rw [q]; exact li
      rw [upd_ne (Nat.ne_of_lt c2)]
      exact (fp b hb).1
  done := by
    intro X hP hw hK hc j pins s σ H E I fp st hg
    subst hP hw hK
    obtain ⟨⟨prev, en⟩, ti, n1⟩ := st
    obtain ⟨f0, f1, f2, f3, f4, f5⟩ := fp it (by simp)
    obtain rfl : j = x.cps.size := hg
    exact wpAny_pyNext_enum_endD (Draws.text (prog := X.prog) (w := X.w) (A := X.A.in1) (show X.A.in1.handled = none from I.ok.hd hc) it x t) en ti fun g eb => ⟨rfl, I.turned (t' := s.toks) (fun b o hb q => eb b o hb q) f0 f1 f3 f4 f5⟩
  self := fun Ar j s Q E st k => by
    obtain ⟨⟨_, en⟩, _⟩ := st
    exact wpAny_pyIter_enum en k
theorem walk_enS {x : Str} : Walk (IteS x) x.cps.size (fun _ => True) (YPair (fun j => some (.int (j : Nat))) (fun j => (x.cps[j]?).map fun c => .str ⟨#[c]⟩)) := by
  refine ⟨fun j _ hj q => hj, fun _ q => rfl, fun j G r G' _ q y => ?_⟩
  obtain ⟨T, c, h1, h2, h3, h4⟩ := y
  exact ⟨T, .int (j : Nat), .str ⟨#[c]⟩, h1, h2, h3, rfl, by show Option.map _ (x.cps[j]?) = _; rw [h4]; rfl⟩
def iEnS (ta : TA) : TI := fun σ H R => ta σ H fun vs G => ∃ x, vs = [.str x] ∧ R (IteS x) G
theorem pi_enS {X : Cx} {e : Expr} {ta : TA} {p pos tpos : Pos} {elts : List Expr} {kk : Nat} (hg : Gl X "enumerate") (hm : X.mg "enumerate" = none) (ha : PA X [e] ta) (hs : starEach [e] X.env = [(false, eval e X.env)] := by rfl) :
    PI X (.Tuple elts kk tpos) (.Call (.Name "enumerate" p) [e] [] pos) (iEnS ta) := by
  refine ⟨fun pins s σ H R I h => ?_⟩
  refine Call_ (ld_blt I hg hm boot_enumerate (PyProof.Rows.callWith_type1 (thn (ha.run pos pins s σ H _ I h) fun us z ⟨vs, G, J, r1, q1⟩ => ?_) hs rfl))
  obtain ⟨x, ex, q⟩ := q1
  subst ex
  cases r1 with
  | cons r rr =>
    cases rr
    obtain ⟨t, rfl⟩ := r
    have big : ∀ b, b ∈ [z.heap.objs.size + 1, z.heap.objs.size] → z.heap.objs.size ≤ b := fun b hb => by
      have c3 : b = z.heap.objs.size + 1 ∨ b = z.heap.objs.size := by simpa using hb
      rcases c3 with q | q
      · rw [q]; exact Nat.le_add_right _ _
      · rw [q]; exact Nat.le_refl _
    refine new_enum (begins_text x t) trivial fun g en ob sz hk => wpAny_pyIter_enum en ?_
    exact ⟨z.heap.objs.size + 1, [z.heap.objs.size + 1, z.heap.objs.size], _, _, G, rfl, J.kept (t' := z.toks) hk, turn_enS x t (z.heap.objs.size + 1) z.heap.objs.size, ⟨⟨.none, en⟩, ⟨_, ob, rfl, rfl⟩, Nat.succ_ne_self _⟩, fun b hb => J.fpOk (big b hb) (J.hok.fresh (big b hb)), q⟩
end K14.EnS
namespace K14.T3
open T27
open K14.Gn
open PySem PySem.W PySem.Calls PyProof.Rows L2 LamX
open He (ga)
open Kz (SS ExtS ExtS.trans small4 same_new boot_in boot_li boot_isi Has pe_has noE PSs.of_eq new_ext X1)
open DiM
/-- for j, sign in enumerate(text) -/
theorem for_enT {K : Frag} {i1 i2 : Nat} {x : Str} {σ : L2.St} {H : Hp} {tl : TE} {tb u : TS} {D : Ends} (ht : ∀ R : VK, R (.str x) H → tl σ H R) (Pv : Nat → L2.St → Hp → Prop) (h0 : Pv 0 σ H)
    (hs : ∀ (j c : Nat) (σ' : L2.St) (G : Hp), (TL.tl x)[j]? = some c → Pv j σ' G → ∀ G', L2.Same G G' → tb { nx := Pv (j + 1), rt := D.rt, bk := u D, ct := Pv (j + 1) } ((σ'.set i1 (some (.int (j : Nat)))).set i2 (some (.str ⟨#[c]⟩))) G')
    (hd : ∀ σ' G, Pv (TL.tl x).length σ' G → u D σ' G) : tSeq (tFor (EnS.iEnS (tCons tl tNil)) (gTup K 2 (gCons (gName i1) (gCons (gName i2) gNil))) tb) u D σ H := by
  have sz : x.cps.size = (TL.tl x).length := by simp [TL.tl]
  have go : ∀ (j : Nat) (v : V) (σ' : L2.St) (G G' : Hp), j < x.cps.size → Pv j σ' G → YPair (fun j => some (.int (j : Nat))) (fun j => (x.cps[j]?).map fun c => .str ⟨#[c]⟩) j G v G' → gTup K 2 (gCons (gName i1) (gCons (gName i2) gNil)) v σ' G' fun σ2 H2 => tb { nx := Pv (j + 1), rt := D.rt, bk := u D, ct := Pv (j + 1) } σ2 H2 := by
    intro j v σ' G G' hj hp ⟨T, p, y, ex, nT, eG, ep, ey⟩
    subst ex eG
    obtain rfl : V.int (j : Nat) = p := Option.some.inj ep
    have ey : (x.cps[j]?).map (fun c => V.str ⟨#[c]⟩) = some y := ey
    obtain ⟨c, hc, rfl⟩ := Option.map_eq_some_iff.mp ey
    refine ⟨T, _, rfl, .inl (.inl upd_same), rfl, _, _, rfl, _, _, rfl, rfl, ?_⟩
    exact hs j c σ' G (by rw [← hc]; simp [TL.tl]) hp _ (same_new nT)
  refine ht _ ⟨x, rfl, for_it (D := { nx := u D, rt := D.rt, bk := D.bk, ct := D.ct }) EnS.walk_enS Pv h0 (fun j σ' G _ p => trivial) go (fun σ' G p => hd σ' G (by rw [← sz]; exact p))⟩
/-! ### the stages of the text of an endless row -/
end K14.T3
namespace K14.T3
open T27
open K14.Gn
open PySem PySem.W PySem.Calls PyProof.Rows L2 LamX
open He (ga)
open Kz (SS ExtS ExtS.trans small4 same_new boot_in boot_li boot_isi Has pe_has noE PSs.of_eq new_ext X1)
open DiM
section
variable {P : Program} {w : World} {K : Frag} {mg : Str → Option Value} {base : Heap}
def spCf : Sp := fun vs H Q _ => vs = [.non] ∧ Q .non H
def spCfX (K : Frag) : Sp := fun vs H Q E => ∃ i : Int, vs = [.int i] ∧ SaysF (ga K "BadText") "index" (.int i) H E
end
end K14.T3
namespace K14.T3
open T27
open K14.Gn
open PySem PySem.W PySem.Calls PyProof.Rows L2 LamX
open He (ga)
open Kz (SS ExtS ExtS.trans small4 same_new boot_in boot_li boot_isi Has pe_has noE PSs.of_eq new_ext X1)
section
variable {S : List Addr} {σ : L2.St} {H0 : Hp}
theorem gv_neg {i : Int} : Gv S σ H0 (tUn (rU fun i => .int (-i)) (tC (.int i))) (.int (-i)) := fun H Q s ins k => ⟨i, rfl, k H _ (fun _ _ q => q) (.int _)⟩
end
end K14.T3
namespace K14.T3
open T27
open K14.Gn
open PySem PySem.W PySem.Calls PyProof.Rows L2 LamX
open He (ga)
open Kz (SS ExtS ExtS.trans small4 same_new boot_in boot_li boot_isi Has pe_has noE PSs.of_eq new_ext X1)
/-! ### data whose lists stand apart; _law_spoilt -/
mutual
/-- data without dicts, and the places of its lists -/
inductive Own (H : Hp) : V → PyData → List Addr → Prop
  | non : Own H .non .none []
  | bl (b : Bool) : Own H (.bl b) (.bool b) []
  | int (i : Int) : Own H (.int i) (.int i) []
  | str (x : Str) : Own H (.str x) (.str x) []
  | lst {a : Addr} {xs : List V} {ds : List PyData} {fp : List Addr} : H a = some (.lst xs) → xs.length ≤ 1000 → OwnA H xs ds fp → Own H (.ref a) (.list ds) (a :: fp)
  | tup {a : Addr} {xs : List V} {ds : List PyData} {fp : List Addr} : H a = some (.tup xs) → OwnA H xs ds fp → Own H (.ref a) (.tuple ds) fp
inductive OwnA (H : Hp) : List V → List PyData → List Addr → Prop
  | nil : OwnA H [] [] []
  | cons {v : V} {vs : List V} {d : PyData} {ds : List PyData} {f g : List Addr} : Own H v d f → OwnA H vs ds g → OwnA H (v :: vs) (d :: ds) (f ++ g)
end
mutual
theorem Own.th {H : Hp} : ∀ {v : V} {d : PyData} {f : List Addr}, Own H v d f → Th H v d
  | _, _, _, .non => .non
  | _, _, _, .bl b => .bl b
  | _, _, _, .int i => .int i
  | _, _, _, .str x => .str x
  | _, _, _, .lst h _ r => .lst h (OwnA.th r)
  | _, _, _, .tup h r => .tup h (OwnA.th r)
theorem OwnA.th {H : Hp} : ∀ {vs : List V} {ds : List PyData} {f : List Addr}, OwnA H vs ds f → ThAll H vs ds
  | _, _, _, .nil => .nil
  | _, _, _, .cons h r => .cons (Own.th h) (OwnA.th r)
end
mutual
theorem Own.keep {H G : Hp} : ∀ {v : V} {d : PyData} {f : List Addr}, Own H v d f → (∀ b ∈ f, ∀ o, H b = some o → G b = some o) → (∀ b xs, H b = some (.tup xs) → G b = some (.tup xs)) → Own G v d f
  | _, _, _, .non, _, _ => .non
  | _, _, _, .bl b, _, _ => .bl b
  | _, _, _, .int i, _, _ => .int i
  | _, _, _, .str x, _, _ => .str x
  | _, _, _, .lst h l r, e, t => .lst (e _ (List.mem_cons_self) _ h) l (OwnA.keep r (fun b hb => e b (List.mem_cons_of_mem _ hb)) t)
  | _, _, _, .tup h r, e, t => .tup (t _ _ h) (OwnA.keep r e t)
theorem OwnA.keep {H G : Hp} : ∀ {vs : List V} {ds : List PyData} {f : List Addr}, OwnA H vs ds f → (∀ b ∈ f, ∀ o, H b = some o → G b = some o) → (∀ b xs, H b = some (.tup xs) → G b = some (.tup xs)) → OwnA G vs ds f
  | _, _, _, .nil, _, _ => .nil
  | _, _, _, .cons h r, e, t => .cons (Own.keep h (fun b hb => e b (List.mem_append_left _ hb)) t) (OwnA.keep r (fun b hb => e b (List.mem_append_right _ hb)) t)
end
theorem Own.ext {H G : Hp} (e : L2.Same H G) {v : V} {d : PyData} {f : List Addr} (h : Own H v d f) : Own G v d f := h.keep (fun b _ o q => e b o q) (fun b xs q => e b _ q)
theorem OwnA.ext {H G : Hp} (e : L2.Same H G) {v : List V} {d : List PyData} {f : List Addr} (h : OwnA H v d f) : OwnA G v d f := h.keep (fun b _ o q => e b o q) (fun b xs q => e b _ q)
mutual
theorem Own.lsts {H : Hp} : ∀ {v : V} {d : PyData} {f : List Addr}, Own H v d f → ∀ b ∈ f, ∃ xs, H b = some (.lst xs)
  | _, _, _, .non, b, h => nomatch h
  | _, _, _, .bl _, b, h => nomatch h
  | _, _, _, .int _, b, h => nomatch h
  | _, _, _, .str _, b, h => nomatch h
  | _, _, _, .lst h l r, b, m => by
    rcases List.mem_cons.mp m with rfl | m
    · exact ⟨_, h⟩
    · exact OwnA.lsts r b m
  | _, _, _, .tup h r, b, m => OwnA.lsts r b m
theorem OwnA.lsts {H : Hp} : ∀ {vs : List V} {ds : List PyData} {f : List Addr}, OwnA H vs ds f → ∀ b ∈ f, ∃ xs, H b = some (.lst xs)
  | _, _, _, .nil, b, h => nomatch h
  | _, _, _, .cons h r, b, m => by
    rcases List.mem_append.mp m with m | m
    · exact Own.lsts h b m
    · exact OwnA.lsts r b m
end
theorem Own.no_dict {H : Hp} {v : V} {d : PyData} {f : List Addr} (h : Own H v d f) : isD d = false := by cases h <;> rfl
abbrev lateS : V := .str "late9"
/-- the lists at fp have got one thing more, all else stays -/
def Spl (fp : List Addr) (H G : Hp) : Prop := (∀ b o, b ∉ fp → H b = some o → G b = some o) ∧ ∀ b ∈ fp, ∀ xs, H b = some (.lst xs) → G b = some (.lst (xs ++ [lateS]))
theorem Spl.nil {H G : Hp} (e : L2.Same H G) : Spl [] H G := ⟨fun b o _ h => e b o h, fun b h => nomatch h⟩
theorem Spl.trans {f g : List Addr} {H G J : Hp} (a : Spl f H G) (b : Spl g G J) (d : ∀ x ∈ f, x ∉ g) : Spl (f ++ g) H J := by
  refine ⟨fun x o n h => ?_, fun x m xs h => ?_⟩
  · exact b.1 x o (fun z => n (List.mem_append_right _ z)) (a.1 x o (fun z => n (List.mem_append_left _ z)) h)
  · rcases List.mem_append.mp m with m | m
    · exact b.1 x _ (d x m) (a.2 x m xs h)
    · exact b.2 x m xs (a.1 x _ (fun z => d x z m) h)
theorem Spl.tup {f : List Addr} {H G : Hp} (a : Spl f H G) (l : ∀ b ∈ f, ∃ xs, H b = some (.lst xs)) (b : Addr) (xs : List V) (h : H b = some (.tup xs)) : G b = some (.tup xs) :=
  a.1 b _ (fun m => by obtain ⟨ys, e⟩ := l b m; rw [h] at e; cases e) h
theorem Spl.own {f g : List Addr} {H G : Hp} (a : Spl f H G) (l : ∀ b ∈ f, ∃ xs, H b = some (.lst xs)) (d : ∀ x ∈ f, x ∉ g) {vs : List V} {ds : List PyData} (h : OwnA H vs ds g) : OwnA G vs ds g :=
  h.keep (fun b m o e => a.1 b o (fun z => d b z m) e) (a.tup l)
abbrev NSp : List Str := ["thing", "key", "part"]
section
variable {P : Program} {w : World} {K : Frag} {mg : Str → Option Value} {base : Heap}
def spSp (n : Nat) : Sp := fun vs H Q _ => ∃ (v : V) (d : PyData) (f : List Addr), vs = [v] ∧ Own H v d f ∧ fitS n d = true ∧ f.Nodup ∧ ∀ H', Spl f H H' → Q .non H'
theorem sp_len {n : Nat} {vs : List V} {H : Hp} {Q : VK} {E : XK} (h : spSp n vs H Q E) : vs.length = 1 := by
  obtain ⟨v, d, f, rfl, _⟩ := h
  rfl
theorem OwnA.len {H : Hp} {vs : List V} {ds : List PyData} {f : List Addr} (h : OwnA H vs ds f) : vs.length = ds.length := h.th.length
theorem OwnA.step {H : Hp} {vs : List V} {ds : List PyData} {f : List Addr} {j : Nat} {x : V} (h : OwnA H (vs.drop j) (ds.drop j) f) (e : vs[j]? = some x) (l : vs.length = ds.length) :
    ∃ z g1 g2, ds[j]? = some z ∧ f = g1 ++ g2 ∧ Own H x z g1 ∧ OwnA H (vs.drop (j + 1)) (ds.drop (j + 1)) g2 := by
  obtain ⟨hl, ex⟩ := List.getElem?_eq_some_iff.mp e
  have hl2 : j < ds.length := by omega
  rw [List.drop_eq_getElem_cons hl, List.drop_eq_getElem_cons hl2] at h
  cases h with
  | cons a b => exact ⟨_, _, _, List.getElem?_eq_getElem hl2, rfl, ex ▸ a, b⟩
/-- the loop over the parts -/
theorem sp_loop {a : Addr} {xs : List V} {ds : List PyData} {fp : List Addr} {H : Hp} {n : Nat} {D : Ends} (ow : OwnA H xs ds fp) (fit : ∀ x ∈ ds, fitS n x = true) (nd : fp.Nodup)
    (ha : (H a = some (.lst xs) ∧ a ∉ fp) ∨ H a = some (.tup xs))
    (hd : ∀ G x1 x2, Spl fp H G → D.nx [some (.ref a), x1, x2] G) :
    tFor (iSq K (tVar 0)) (gName 2) (tDrop (tCall (spSp n) [] noE (tCons (tVar 2) tNil))) D [some (.ref a), none, none] H := by
  let Pv : Nat → L2.St → Hp → Prop := fun j σ G => ∃ x1 x2 f g, σ = [some (.ref a), x1, x2] ∧ fp = f ++ g ∧ Spl f H G ∧ (∀ b ∈ f, ∃ xs, H b = some (.lst xs)) ∧ OwnA G (xs.drop j) (ds.drop j) g
  have ll := ow.lsts
  have st : ∀ {j σ G}, Pv j σ G → (H a = some (.lst xs) ∧ a ∉ fp → G a = some (.lst xs)) ∧ (H a = some (.tup xs) → G a = some (.tup xs)) := fun {j σ G} ⟨_, _, f, g, _, e, s, l, _⟩ =>
    ⟨fun h => s.1 _ _ (fun z => h.2 (e ▸ List.mem_append_left _ z)) h.1, fun h => s.tup l _ _ h⟩
  have h0 : Pv 0 [some (.ref a), none, none] H := ⟨none, none, [], fp, rfl, rfl, Spl.nil (fun _ _ e => e), (fun _ z => nomatch z), ow⟩
  have go : ∀ (j : Nat) (x : V) (σ' : L2.St) (G G' : Hp), j < xs.length → Pv j σ' G → YAt xs j G x G' → gName 2 x σ' G' fun σ2 H2 => tDrop (tCall (spSp n) [] noE (tCons (tVar 2) tNil)) { nx := Pv (j + 1), rt := D.rt, bk := D.nx, ct := Pv (j + 1) } σ2 H2 := by
    rintro j x σ' G G' hj ⟨x1, x2, f, g, rfl, rfl, s, l, o⟩ ⟨eG, ey⟩
    subst eG
    obtain ⟨z, g1, g2, hz, rfl, ox, oz⟩ := o.step ey ow.len
    obtain ⟨ndf, ndg, dj⟩ := List.nodup_append.mp nd
    obtain ⟨nd1, nd2, dj2⟩ := List.nodup_append.mp ndg
    refine gset ⟨x, rfl, x, z, g1, rfl, ox, fit z (List.mem_of_getElem? hz), nd1, fun G2 s2 => ?_⟩
    refine ⟨x1, some x, f ++ g1, g2, rfl, (List.append_assoc ..).symm, s.trans s2 (fun b hb z => dj b hb b (List.mem_append_left _ z) rfl), fun b hb => ll b ?_, ?_⟩
    · rcases List.mem_append.mp hb with q | q
      · exact List.mem_append_left _ q
      · exact List.mem_append_right _ (List.mem_append_left _ q)
    · exact s2.own ox.lsts (fun b hb z => dj2 b hb b z rfl) oz
  have fin : ∀ σ' G, Pv xs.length σ' G → D.nx σ' G := by
    rintro σ' G ⟨x1, x2, f, g, rfl, rfl, s, l, o⟩
    rw [List.drop_length] at o
    have eg : g = [] := by
      generalize ds.drop xs.length = q at o
      generalize hq : ([] : List V) = e at o
      cases o with
      | nil => rfl
      | cons _ _ => cases hq
    subst eg
    rw [List.append_nil] at hd
    exact hd G x1 x2 s
  unfold tFor
  rcases ha with hq | hq
  · exact .inl ⟨.ref a, rfl, a, rfl, ⟨xs, .inl (.inl hq.1)⟩, for_it (D := D) walk_list Pv h0 (fun j σ' G _ p => .inl (.inl ((st p).1 hq))) go fin⟩
  · exact .inr ⟨.ref a, rfl, a, rfl, ⟨xs, .inl (.inl hq)⟩, for_it (D := D) walk_tup Pv h0 (fun j σ' G _ p => .inl (.inl ((st p).2 hq))) go fin⟩
end
end K14.T3
namespace K14.Gn
open PySem PySem.W PySem.Calls PyProof.Rows L2
/-! ### l.count(a text), the things of l being numbers, truths, None, texts, lists, tuples -/
def eqK (k : Str) : Value → Bool
  | .str x _ => x == k
  | _ => false
def plnV (H : Hp) (v : V) : Prop := v = .non ∨ (∃ b, v = .bl b) ∨ (∃ i, v = .int i) ∨ (∃ x, v = .str x) ∨ ∃ a xs, v = .ref a ∧ (H a = some (.lst xs) ∨ H a = some (.tup xs))
def rCount : V → List V → Hp → VK → Prop := fun x vs H Q => ∃ l xs k, x = .ref l ∧ vs = [.str k] ∧ H l = some (.lst xs) ∧ (∀ y ∈ xs, plnV H y) ∧ Q (.int (xs.countP (fun y => decide (y = V.str k)) : Nat)) H
theorem vals_mem : ∀ {xs : List V} {us : List Value}, Vals xs us → ∀ y ∈ us, ∃ x ∈ xs, RelV x y
  | _, _, .nil, y, h => nomatch h
  | _, _, .cons r t, y, h => by
    rcases List.mem_cons.mp h with rfl | h
    · exact ⟨_, List.mem_cons_self, r⟩
    · obtain ⟨x, hx, q⟩ := vals_mem t y h
      exact ⟨x, List.mem_cons_of_mem _ hx, q⟩
theorem relK {k : Str} {x : V} {y : Value} (r : RelV x y) : eqK k y = decide (x = V.str k) := by
  cases x with
  | str z =>
    obtain ⟨t, rfl⟩ := r
    show (z == k) = _
    by_cases h : z = k
    · subst h
      simp
    · rw [decide_eq_false (fun q => h (V.str.inj q))]
      exact beq_eq_false_iff_ne.mpr h
  | non => cases r; rfl
  | bl b => cases r; rfl
  | int i => obtain ⟨t, rfl⟩ := r; rfl
  | byt b => obtain ⟨t, rfl⟩ := r; rfl
  | flt b => obtain ⟨t, rfl⟩ := r; rfl
  | ref a => cases r; rfl
  | ty n => cases r; rfl
theorem vals_count {k : Str} : ∀ {xs : List V} {us : List Value}, Vals xs us → us.countP (eqK k) = xs.countP fun y => decide (y = V.str k)
  | _, _, .nil => rfl
  | _, _, .cons r t => by
    rw [List.countP_cons, List.countP_cons, vals_count t, relK r]
theorem mt_count {X : Cx} (hu : X.A.units + 64 < cLine) : MtR X "list.count" rCount := by
  intro pins s σ H x vs v us Q I rx rv h
  obtain ⟨l, xs, k, rfl, rfl, hH, hp, q⟩ := h
  cases rx
  obtain ⟨u, rfl, ru⟩ := rv.one
  obtain ⟨t, rfl⟩ := ru
  obtain ⟨z, its, n, r, hl, e⟩ := I.lstM hH
  have hu1 : X.A.in1.units < cLine := by
    show X.A.units + 1 < cLine
    omega
  refine call_meets F.slot_list_count ⟨_, e, rfl⟩ F.entry_list_count (F.args_list_count_2 _ _) (SeqAt.list_countAt l its.toArray n none #[] (.str k t) (eqK k)) ⟨e, fun y hy => ?_, ?_⟩
  · obtain ⟨x, hx, rl⟩ := vals_mem r y (by simpa using hy)
    rcases hp x hx with rfl | ⟨b, rfl⟩ | ⟨i, rfl⟩ | ⟨w, rfl⟩ | ⟨a, ys, rfl, ha | ha⟩
    · cases rl
      exact SeqAt.EqAt.none_str _ _
    · cases rl
      exact SeqAt.EqAt.bool_str _ _ _
    · obtain ⟨t2, rfl⟩ := rl
      exact SeqAt.EqAt.int_str _ _ _ _
    · obtain ⟨t2, rfl⟩ := rl
      exact SeqAt.EqAt.str_str _ _ _ _
    · cases rl
      obtain ⟨_, its2, n2, _, _, e2⟩ := I.lstM ha
      exact SeqAt.EqAt.list_str _ _ ⟨_, e2, rfl, n2, rfl⟩ hu1
    · cases rl
      obtain ⟨its2, _, ⟨o2, h2, c2, n2, d2⟩, _⟩ := I.tuple (.inl (.inl ha))
      exact SeqAt.EqAt.tuple_str _ _ ⟨o2, h2, c2, n2, d2⟩ hu1
  · refine ⟨.int _, H, I.tok _, ⟨_, rfl⟩, ?_⟩
    rw [show its.toArray.toList = its from rfl, vals_count r]
    exact q
end K14.Gn
namespace K14.T3
open T27
open K14.Gn
open PySem PySem.W PySem.Calls PyProof.Rows L2 LamX
open He (ga)
open Kz (SS ExtS ExtS.trans small4 same_new boot_in boot_li boot_isi Has pe_has noE PSs.of_eq new_ext X1)
/-! ### _law_is_once -/
def isLate : PyData → Bool
  | .str x => decide (x = ("late9" : Str))
  | _ => false
/-- data of a spoilt thing, each list changed once -/
def onc : Nat → PyData → Bool
  | n + 1, .list xs => decide (xs.length ≤ 2000) && (decide (xs.countP isLate = 1) && xs.all (onc n))
  | n + 1, .tuple xs => decide (xs.length ≤ 2000) && (decide (xs.countP isLate = 0) && xs.all (onc n))
  | _, .none => true
  | _, .bool _ => true
  | _, .int _ => true
  | _, .str _ => true
  | _, _ => false
/-- no text of a thing is the law's mark -/
def cln : Nat → PyData → Bool
  | n + 1, .list xs => xs.all (cln n)
  | n + 1, .tuple xs => xs.all (cln n)
  | _, .str x => !decide (x = ("late9" : Str))
  | _, _ => true
theorem cln_late {n : Nat} {d : PyData} (h : cln n d = true) : isLate d = false := by
  cases d with
  | str x =>
    have h : (!decide (x = ("late9" : Str))) = true := by cases n <;> exact h
    show decide _ = false
    rw [Bool.not_eq_true'] at h
    exact h
  | _ => rfl
mutual
/-- what a thing is once it's spoilt -/
theorem Own.spoilt {H G : Hp} : ∀ {v : V} {d : PyData} {f : List Addr}, Own H v d f → ∀ n, fitS n d = true → cln n d = true → (∀ b ∈ f, ∀ xs, H b = some (.lst xs) → G b = some (.lst (xs ++ [lateS]))) → (∀ b xs, H b = some (.tup xs) → G b = some (.tup xs)) →
    ∃ d', Th G v d' ∧ onc n d' = true ∧ isLate d' = false
  | _, _, _, .non, n, _, _, _, _ => ⟨_, .non, by cases n <;> rfl, rfl⟩
  | _, _, _, .bl b, n, _, _, _, _ => ⟨_, .bl b, by cases n <;> rfl, rfl⟩
  | _, _, _, .int i, n, _, _, _, _ => ⟨_, .int i, by cases n <;> rfl, rfl⟩
  | _, _, _, .str x, n, _, c, _, _ => ⟨_, .str x, by cases n <;> rfl, cln_late c⟩
  | _, _, _, .lst h l r, 0, f, _, _, _ => absurd (show false = true from f) Bool.false_ne_true
  | _, _, _, .tup h r, 0, f, _, _, _ => absurd (show false = true from f) Bool.false_ne_true
  | _, _, _, .lst (xs := xs) h l r, n + 1, f, c, e, t => by
    obtain ⟨f1, f2⟩ := Bool.and_eq_true_iff.mp f
    obtain ⟨ds', t', o', c'⟩ := OwnA.spoilt r n (fun x hx => List.all_eq_true.mp f2 x hx) (fun x hx => List.all_eq_true.mp c x hx) (fun b hb => e b (List.mem_cons_of_mem _ hb)) t
    refine ⟨.list (ds' ++ [.str "late9"]), .lst (e _ List.mem_cons_self _ h) (th_app t' (.cons (.str _) .nil)), ?_, rfl⟩
    have ll := t'.length
    show (decide ((ds' ++ [PyData.str "late9"]).length ≤ 2000) && (decide ((ds' ++ [PyData.str "late9"]).countP isLate = 1) && (ds' ++ [PyData.str "late9"]).all (onc n))) = true
    rw [decide_eq_true (by rw [List.length_append, List.length_singleton]; omega), decide_eq_true (by rw [List.countP_append, c']; rfl), List.all_append, o']
    cases n <;> rfl
  | _, _, _, .tup h r, n + 1, f, c, e, t => by
    obtain ⟨f1, f2⟩ := Bool.and_eq_true_iff.mp f
    obtain ⟨ds', t', o', c'⟩ := OwnA.spoilt r n (fun x hx => List.all_eq_true.mp f2 x hx) (fun x hx => List.all_eq_true.mp c x hx) e t
    refine ⟨.tuple ds', .tup (t _ _ h) t', ?_, rfl⟩
    have ll := t'.length
    have l2 := r.len
    have f1 := of_decide_eq_true f1
    show (decide (ds'.length ≤ 2000) && (decide (ds'.countP isLate = 0) && ds'.all (onc n))) = true
    rw [decide_eq_true (by omega), decide_eq_true c', o']
    rfl
theorem OwnA.spoilt {H G : Hp} : ∀ {vs : List V} {ds : List PyData} {f : List Addr}, OwnA H vs ds f → ∀ n, (∀ x ∈ ds, fitS n x = true) → (∀ x ∈ ds, cln n x = true) → (∀ b ∈ f, ∀ xs, H b = some (.lst xs) → G b = some (.lst (xs ++ [lateS]))) → (∀ b xs, H b = some (.tup xs) → G b = some (.tup xs)) →
    ∃ ds', ThAll G vs ds' ∧ ds'.all (onc n) = true ∧ ds'.countP isLate = 0
  | _, _, _, .nil, _, _, _, _, _ => ⟨[], .nil, rfl, rfl⟩
  | _, _, _, .cons h r, n, f, c, e, t => by
    obtain ⟨d', t1, o1, c1⟩ := Own.spoilt h n (f _ List.mem_cons_self) (c _ List.mem_cons_self) (fun b hb => e b (List.mem_append_left _ hb)) t
    obtain ⟨ds', t2, o2, c2⟩ := OwnA.spoilt r n (fun x hx => f x (List.mem_cons_of_mem _ hx)) (fun x hx => c x (List.mem_cons_of_mem _ hx)) (fun b hb => e b (List.mem_append_right _ hb)) t
    refine ⟨d' :: ds', .cons t1 t2, ?_, ?_⟩
    · rw [List.all_cons, o1, o2]
      rfl
    · rw [List.countP_cons, c2, c1]
      rfl
end
abbrev NIn1 : List Str := ["thing", "many", "key", "part"]
theorem th_count {H : Hp} : ∀ {xs : List V} {ds : List PyData}, ThAll H xs ds → xs.countP (fun y => decide (y = V.str "late9")) = ds.countP isLate
  | _, _, .nil => rfl
  | _, _, .cons r t => by
    rw [List.countP_cons, List.countP_cons, th_count t]
    congr 1
    cases r with
    | str x =>
      show (if decide (V.str x = V.str "late9") = true then 1 else 0) = if decide (x = ("late9" : Str)) = true then 1 else 0
      by_cases q : x = ("late9" : Str)
      · rw [decide_eq_true q, decide_eq_true (by rw [q])]
      · rw [decide_eq_false q, decide_eq_false (fun z => q (V.str.inj z))]
    | _ => rfl
theorem th_pln {n : Nat} {H : Hp} : ∀ {xs : List V} {ds : List PyData}, ThAll H xs ds → ds.all (onc n) = true → ∀ y ∈ xs, plnV H y
  | _, _, .nil, _, y, h => nomatch h
  | _, _, .cons r t, o, y, h => by
    rw [List.all_cons] at o
    obtain ⟨o1, o2⟩ := Bool.and_eq_true_iff.mp o
    rcases List.mem_cons.mp h with rfl | h
    · cases r with
      | non => exact .inl rfl
      | bl b => exact .inr (.inl ⟨_, rfl⟩)
      | int i => exact .inr (.inr (.inl ⟨_, rfl⟩))
      | str x => exact .inr (.inr (.inr (.inl ⟨_, rfl⟩)))
      | lst h0 _ => exact .inr (.inr (.inr (.inr ⟨_, _, rfl, .inl h0⟩)))
      | tup h0 _ => exact .inr (.inr (.inr (.inr ⟨_, _, rfl, .inr h0⟩)))
      | dct _ _ => cases n <;> exact absurd (show false = true from o1) Bool.false_ne_true
    · exact th_pln t o2 y h
section
variable {P : Program} {w : World} {K : Frag} {mg : Str → Option Value} {base : Heap}
def spOn (n : Nat) : Sp := fun vs H Q _ => ∃ (v : V) (d : PyData), vs = [v] ∧ Th H v d ∧ onc n d = true ∧ ∀ H', L2.Same H H' → Q (.bl true) H'
theorem on_len {n : Nat} {vs : List V} {H : Hp} {Q : VK} {E : XK} (h : spOn n vs H Q E) : vs.length = 1 := by
  obtain ⟨v, d, rfl, _⟩ := h
  rfl
theorem on_dict {n : Nat} {d : PyData} (h : onc n d = true) : isD d = false := by
  cases d with
  | dict ps => cases n <;> exact absurd (show false = true from h) Bool.false_ne_true
  | _ => rfl
end
end K14.T3
namespace K14.T3
open T27
open K14.Gn
open PySem PySem.W PySem.Calls PyProof.Rows L2 LamX
open He (ga)
open Kz (SS ExtS ExtS.trans small4 same_new boot_in boot_li boot_isi Has pe_has noE PSs.of_eq new_ext X1)
/-! ### _law_apart -/
section
variable {P : Program} {w : World} {K : Frag} {mg : Str → Option Value} {base : Heap}
/-- the lists at f are changed, all else stays -/
def spAp (n : Nat) : Sp := fun vs H Q _ => ∃ (v : V) (d : PyData) (f : List Addr), vs = [v] ∧ Own H v d f ∧ fitS n d = true ∧ cln n d = true ∧ f.Nodup ∧ ∀ H', (∀ b o, b ∉ f → H b = some o → H' b = some o) → Q (.bl true) H'
end
end K14.T3
namespace K14.Gn
open PySem PySem.W PySem.Calls PyProof.Rows L2 LamX
open He (ga)
open Kz (noE)
/-! ### one keyword -/
theorem kb_one {K : Frag} {x qual : Str} {params : Arguments} {body : List Stmt} {scope : Scope} {f : Addr} {fd : FuncData} {p1 : Str} (F : FunD K x qual params body scope [] [] f fd)
    (h : ∀ (kV doc pm : Value) (an : Option Addr) (cdv ct a : Value), bindArgs (fnOf x qual params body scope .none kV doc pm an cdv ct) ⟨[], [(p1, a)]⟩ = pure [(p1, a)]) : KBinds K fd [p1] [p1] revG revV := by
  obtain ⟨oc, od, dV, kV, doc, pm, an, cdv, ct, osl, rfl, lk, hcd, hD, hK⟩ := F.ex
  rcases hD with ⟨_, rfl⟩ | ⟨e, _⟩
  · refine ⟨fun s us ws _ hl => ?_, fun {vs us zs ws} r1 r2 => ?_⟩
    · cases us with
      | cons _ _ => exact absurd (show 0 = 1 from hl) (by decide)
      | nil =>
        have hl : ws.reverse.length = 1 := hl
        rw [List.length_reverse] at hl
        match ws, hl with
        | [a], _ => exact .of_eq (h kV doc pm an cdv ct a)
    · cases r1 with
      | nil => exact vals_rev r2
      | cons _ _ => exact .nil
  · exact absurd rfl e
def HasK1 (P : Program) (w : World) (K : Frag) (mg : Str → Option Value) (base : Heap) (x : Str) (k : Nat) (p1 : Str) (sp : Sp) : Prop := ∃ f fd, mg x = some (.ref f) ∧ keepIn K (.ref f) = true ∧ KBinds K fd [p1] [p1] revG revV ∧ FnOk P w K mg base CX0 k f fd [p1] sp
def tCallR1 (sp : Sp) (t1 : TE) : TE := fun σ H Q => t1 σ H fun a H1 => sp [a] H1 Q noE
theorem pe_hasK1 {X : Cx} {x p1 : Str} {k : Nat} {sp : Sp} {e1 : Expr} {t1 : TE} {p pos q1 : Pos} (h : HasK1 X.prog X.w X.K X.mg X.base x k p1 sp) (hr : Room k X.A) (hg : Gl X x) (h1 : PE X e1 t1) (hdb : (x == ("__debug__" : Str)) = false := by decide) :
    PE X (.Call (.Name x p) [] [⟨some p1, e1, q1⟩] pos) (tCallR1 sp t1) := by
  obtain ⟨f, fd, hm, hk, hb, F⟩ := h
  refine ⟨fun pins s σ H Q I q => ?_⟩
  refine wpAny_Call_Name_kw (ld_glob I hg hm ?_ hdb)
  refine callWith_KW0 (h₀ := X.base) I.ok.mod.kin hk (by rfl) ?_ (by rfl)
  refine thn ((pk_cons h1 pk_nil).run pos pins s σ H (fun zs H2 => sp zs.reverse H2 Q noE) I q) fun ws s2 ⟨zs, H2, I2, rz, q2⟩ => ⟨I2.kIn, ?_⟩
  exact run_fnk (us := []) (vs := []) F hr hb pass0 I2 .nil rz q2
end K14.Gn
namespace K14.T3
open T27
open K14.Gn
open PySem PySem.W PySem.Calls PyProof.Rows L2 LamX
open He (ga)
open Kz (SS ExtS ExtS.trans small4 same_new boot_in boot_li boot_isi Has pe_has noE PSs.of_eq new_ext X1)
/-! ### _law_is_told -/
end K14.T3
namespace K14
open PySem PySem.W PySem.Calls PyProof.Rows L2 LamX
open He (ga)
open Kz (small4 same_new boot_in boot_li new_ext Has pe_has noE PSs.of_eq)
/-! ### displays of data -/
/-- the expression makes a new thing that is d -/
def Mk (te : TE) (d : PyData) : Prop := ∀ (σ : L2.St) (H : Hp) (Q : VK), (∀ (v : V) (H' : Hp), L2.Same H H' → Th H' v d → Q v H') → te σ H Q
def MkA (ta : TA) (ds : List PyData) : Prop := ∀ (σ : L2.St) (H : Hp) (Q : List V → Hp → Prop), (∀ (vs : List V) (H' : Hp), L2.Same H H' → ThAll H' vs ds → Q vs H') → ta σ H Q
theorem mk_non : Mk (tC .non) .none := fun σ H Q k => k _ H (fun _ _ e => e) .non
theorem mk_int {i : Int} : Mk (tC (.int i)) (.int i) := fun σ H Q k => k _ H (fun _ _ e => e) (.int i)
theorem mk_bl {b : Bool} : Mk (tC (.bl b)) (.bool b) := fun σ H Q k => k _ H (fun _ _ e => e) (.bl b)
theorem mk_str {x : Str} : Mk (tC (.str x)) (.str x) := fun σ H Q k => k _ H (fun _ _ e => e) (.str x)
theorem mka_nil : MkA tNil [] := fun σ H Q k => k [] H (fun _ _ e => e) .nil
theorem mka_cons {te : TE} {ta : TA} {d : PyData} {ds : List PyData} (h1 : Mk te d) (h2 : MkA ta ds) : MkA (tCons te ta) (d :: ds) := fun σ H Q k => h1 σ H _ fun v H1 e1 t1 => h2 σ H1 _ fun vs H2 e2 t2 => k (v :: vs) H2 (e1.trans e2) (.cons (t1.ext e2) t2)
theorem mk_lst {ta : TA} {ds : List PyData} (h : MkA ta ds) (l : ds.length ≤ 1000 := by exact Nat.le_of_ble_eq_true rfl) : Mk (tLst ta) (.list ds) := fun σ H Q k => h σ H _ fun vs H1 e1 t1 => ⟨by rw [t1.length, sizeLine_eq]; omega, fun p np => k _ _ (e1.trans (same_new np)) (.lst upd_same (t1.ext (same_new np)))⟩
theorem mk_tup {ta : TA} {ds : List PyData} (h : MkA ta ds) (l : ds.length ≤ 1000 := by exact Nat.le_of_ble_eq_true rfl) : Mk (tTup ta) (.tuple ds) := fun σ H Q k => h σ H _ fun vs H1 e1 t1 => ⟨by rw [t1.length, sizeLine_eq]; omega, fun p np => k _ _ (e1.trans (same_new np)) (.tup upd_same (t1.ext (same_new np)))⟩
/-- what is a thing in H is one where the tables aren't looked at -/
theorem Th.hid {H : Hp} : ∀ {v : V} {d : PyData}, Th H v d → Th (Hid [] H) v d := fun {v d} t => by
  refine Th.rec (motive_1 := fun v d _ => Th (Hid [] H) v d) (motive_2 := fun vs ds _ => ThAll (Hid [] H) vs ds) (motive_3 := fun kvs ps _ => ThKv (Hid [] H) kvs ps) .non .bl .int .str (fun h _ r => .lst (hid_of (fun z => nomatch z) h (fun ps z => nomatch z)) r) (fun h _ r => .tup (hid_of (fun z => nomatch z) h (fun ps z => nomatch z)) r) (fun h _ r => .dct (hid_of (fun z => nomatch z) h (fun ps z => nomatch z)) r) .nil (fun _ _ a b => .cons a b) .nil (fun _ _ a b => .cons a b) t
end K14
namespace K14
open PySem PySem.W PySem.Calls PyProof.Rows L2 LamX
open He (ga)
open Kz (SS ExtS ExtS.trans small4 same_new boot_in boot_li new_ext Has pe_has noE PSs.of_eq)
/-! ### asks: _law_row_or(lambda: ..) -/
def Gives (T : List (Addr × Str)) (te : TE) (S : L2.St → Prop) (H0 : Hp) (w : Str) (v : V) : Prop := ∀ (σ : L2.St) (H : Hp) (Q : VK), S σ → ExtN H0 H → Tabs T H → (∀ (H' : Hp) (t : Addr), ExtN H H' → Tabs T H' → H' t = some (.tup [.str w, v]) → Q (.ref t) H') → te σ H Q
theorem tabS_lst {H : Hp} {P F : Addr} {q : Str} {xs ys : List V} (t : TabS H P q) (hF : H F = some (.lst xs)) : TabS (upd H F (.lst ys)) P q := by
  obtain ⟨ps, h1, h2, h3⟩ := t
  refine ⟨ps, ?_, h2, fun pos cv hc => ?_⟩
  · rw [upd_ne (fun z => by rw [z, hF] at h1; cases h1)]
    exact h1
  · obtain ⟨c, e, h⟩ := h3 pos cv hc
    refine ⟨c, e, ?_⟩
    rw [upd_ne (fun z => by
      rw [z, hF] at h
      unfold CodeO at h
      cases h)]
    exact h
theorem tabs_lst {T : List (Addr × Str)} {H : Hp} {F : Addr} {xs ys : List V} (t : Tabs T H) (hF : H F = some (.lst xs)) : Tabs T (upd H F (.lst ys)) := fun p hp => tabS_lst (t p hp) hF
theorem ext_lst {H0 H : Hp} {F : Addr} {u : HO} (n : ∀ o, H0 F = some o → ∃ ps, o = .tbl ps) (e : ExtN H0 H) : ExtN H0 (upd H F u) := fun b o h t => by
  rw [upd_ne (fun z => by
    rw [z] at h
    obtain ⟨ps, q⟩ := n o h
    exact t ps q)]
  exact e b o h t
theorem none_tbl {H0 H : Hp} {F : Addr} (e : ExtN H0 H) (n : H F = none) : ∀ o, H0 F = some o → ∃ ps, o = .tbl ps := fun o h => by
  cases o with
  | tbl ps => exact ⟨ps, rfl⟩
  | _ =>
    rw [e _ _ h (fun ps z => nomatch z)] at n
    cases n
theorem fit_mono : ∀ {n : Nat} {d : PyData}, fitS n d = true → fitS (n + 1) d = true := by
  intro n
  induction n with
  | zero => intro d h; cases d <;> first | rfl | exact absurd (show false = true from h) Bool.false_ne_true
  | succ n ih =>
    intro d h
    have go : ∀ xs : List PyData, (decide (xs.length ≤ 1000) && xs.all (fitS n)) = true → (decide (xs.length ≤ 1000) && xs.all (fitS (n + 1))) = true := fun xs h => by
      obtain ⟨h1, h2⟩ := Bool.and_eq_true_iff.mp h
      rw [h1, Bool.true_and]
      exact List.all_eq_true.mpr fun x hx => ih (List.all_eq_true.mp h2 x hx)
    cases d with
    | list xs => exact go xs h
    | tuple xs => exact go xs h
    | dict ps =>
      obtain ⟨h1, h2⟩ := Bool.and_eq_true_iff.mp (show (decide (ps.length ≤ 1000) && fitS n (.list (ps.map fun p => .tuple [p.1, p.2]))) = true from h)
      show (decide (ps.length ≤ 1000) && fitS (n + 1) (.list (ps.map fun p => .tuple [p.1, p.2]))) = true
      rw [h1, Bool.true_and]
      exact ih h2
    | _ => rfl
end K14
namespace K14
open PySem PySem.W PySem.Calls PyProof.Rows L2 LamX
open He (ga)
open Kz (SS ExtS ExtS.trans small4 same_new boot_in boot_li new_ext Has pe_has noE PSs.of_eq)
section
variable {K : Frag} {T : List (Addr × Str)} {te : TE} {S : L2.St → Prop} {H0 H : Hp} {w : Str} {v : V} {σ : L2.St} {D : Ends} {F : Addr} {n : Nat} {u A : TS}
theorem mk_d0 : Mk tDNewK (.dict []) := fun σ H Q k p np => k _ _ (same_new np) (.dct upd_same .nil)
theorem run_tup {ds : List PyData} {R : It → Hp → Prop} (m : Mk te (.tuple ds)) (k : ∀ (H' : Hp) (a : Addr) (xs : List V), L2.Same H H' → H' a = some (.tup xs) → ThAll H' xs ds → R (Itt K a) H') : iTup K te σ H R := m σ H _ fun v H' e t => by
  cases t with
  | tup h r => exact ⟨_, rfl, ⟨_, .inl (.inl h)⟩, k H' _ _ e h r⟩
theorem tup_for {ds : List PyData} {g : TG} {tb : TS} (m : Mk te (.tuple ds)) (Pv : Hp → L2.St → Hp → Prop) (h0 : ∀ H', L2.Same H H' → Pv H' σ H') (hk : ∀ HU σ' G, Pv HU σ' G → ExtN HU G)
    (hs : ∀ HU y d σ' G, L2.Same H HU → d ∈ ds → Th (Hid [] HU) y d → Pv HU σ' G → g y σ' G fun σ2 H2 => tb { nx := Pv HU, rt := D.rt, bk := u D, ct := Pv HU } σ2 H2) (he : ∀ HU σ' G, L2.Same H HU → Pv HU σ' G → u D σ' G) : tSeq (tFor (iTup K te) g tb) u D σ H := by
  unfold tSeq tFor
  refine run_tup m fun HU pu us eU qU rU => ?_
  refine for_tup (D := { nx := u D, rt := D.rt, bk := D.bk, ct := D.ct }) (xs := us) (fun _ => Pv HU) (h0 HU eU) (fun j σ G _ e => .inl (.inl (hk HU σ G e _ _ qU (fun ps z => nomatch z)))) (fun j y σ G hy e => ?_) (fun σ G e => he HU σ G eU e)
  obtain ⟨d, hd, ty⟩ := rU.get hy
  exact hs HU y d σ G eU (List.mem_of_getElem? hd) ty.hid e
end
theorem fun_code {K : Frag} {x : Str} {params : Arguments} {body : List Stmt} {scope : Scope} {f : Addr} {fd : FuncData} (F : FunD K x x params body scope [] [] f fd) : ∃ (oc : Value) (od : Option Addr) (kV doc pm : Value) (an : Option Addr) (c : Addr) (ct : Value) (osl : Array (Option Value)),
    fd = fnOf x x params body scope .none kV doc pm an (.ref c) ct ∧ K.lookup f = some ⟨oc, od, .func (fnOf x x params body scope .none kV doc pm an (.ref c) ct), osl⟩ ∧ codeIn K (.ref c) x = true := by
  obtain ⟨oc, od, dV, kV, doc, pm, an, cdv, ct, osl, rfl, lk, hcd, hD, _⟩ := F.ex
  obtain ⟨c, rfl⟩ := He.codeIn_ref hcd
  rcases hD with ⟨_, rfl⟩ | ⟨e, _⟩
  · exact ⟨oc, od, kV, doc, pm, an, c, ct, osl, rfl, lk, hcd⟩
  · exact absurd rfl e
end K14
namespace K14
open PySem PySem.W PySem.Calls PyProof.Rows L2 LamX
open He (ga)
open Kz (SS ExtS ExtS.trans spStart small4 same_new boot_in boot_li new_ext Has pe_has noE HasG pe_hasG FnG PSs.of_eq)
theorem tabs_S {T : List (Addr × Str)} {H H1 : Hp} {l li : Addr} {c : Int} (t : Tabs T H) (s : Spr H l li c) (e : ExtS l li H H1) : Tabs T H1 := fun p hp => by
  obtain ⟨ps, h1, h2, h3⟩ := t p hp
  obtain ⟨ns, b, d, ss, _⟩ := s
  have nl : ∀ {a : Addr} {o : HO}, H a = some o → (∀ xs, o ≠ .lst xs) → a ≠ l ∧ a ≠ li := fun h n => ⟨fun z => (by rw [z, ss.l1] at h; exact n _ (Option.some.inj h).symm), fun z => (by rw [z, ss.l2] at h; exact n _ (Option.some.inj h).symm)⟩
  have n1 := nl h1 (fun xs z => nomatch z)
  refine ⟨ps, e _ _ h1 n1.1 n1.2, h2, fun pos cv hc => ?_⟩
  obtain ⟨c, ec, h⟩ := h3 pos cv hc
  have n2 := nl h (fun xs z => by
    unfold CodeO at z
    cases z)
  exact ⟨c, ec, e _ _ h n2.1 n2.2⟩
def spLw (K : Frag) (T : List (Addr × Str)) : Sp := fun vs H Q _ => ∃ (a : Addr) (ns : List Int), vs = [.ref a] ∧ SqL K H a (ns.map V.int) ∧ ns.length ≤ 1000 ∧ Tabs T H ∧ ∀ H', Q (.bl true) H'
end K14
namespace K14.T3
open T27
open K14.Gn
open PySem PySem.W PySem.Calls PyProof.Rows L2 LamX
open He (ga)
open Kz (SS ExtS ExtS.trans small4 same_new boot_in boot_li boot_isi Has pe_has noE PSs.of_eq new_ext X1)
/-! ### _law_texts_right -/
theorem pe_alt {X : Cx} {e : Expr} {t1 t2 : TE} (h1 : PE X e t1) (h2 : PE X e t2) : PE X e (fun σ H Q => t1 σ H Q ∨ t2 σ H Q) := ⟨fun pins s σ H Q I h => h.elim (h1.run pins s σ H Q I) (h2.run pins s σ H Q I)⟩
section
variable {P : Program} {w : World} {K : Frag} {mg : Str → Option Value} {base : Heap}
/-- what stays: all but the stream, and the tables of codes -/
def ExtL (l li : Addr) (H H' : Hp) : Prop := ∀ b o, H b = some o → (∀ ps, o ≠ .tbl ps) → b ≠ l → b ≠ li → H' b = some o
theorem ExtL.trans {l li : Addr} {H H1 H2 : Hp} (a : ExtL l li H H1) (b : ExtL l li H1 H2) : ExtL l li H H2 := fun x o e t n1 n2 => b x o (a x o e t n1 n2) t n1 n2
theorem ExtL.ofN {l li : Addr} {H H1 : Hp} (a : ExtN H H1) : ExtL l li H H1 := fun x o e t _ _ => a x o e t
theorem ExtL.ofS {l li : Addr} {H H1 : Hp} (a : ExtS l li H H1) : ExtL l li H H1 := fun x o e _ n1 n2 => a x o e n1 n2
def oD : Option Nat → PyData
  | none => .none
  | some i => .int (i : Nat)
theorem th_oV {H : Hp} : ∀ o : Option Nat, Th H (oV o) (oD o)
  | none => .non
  | some i => .int _
theorem tix0 {G : Hp} {t : Addr} {x0 x1 : V} {Q : VK} (h : G t = some (.tup [x0, x1])) (k : Q x0 G) : rIx K (.ref t) (.int 0) G Q := .inr (.inl ⟨t, _, 0, x0, rfl, rfl, .inl (.inl h), atI_nat (j := 0) rfl, k⟩)
end
end K14.T3
namespace K14.T3
open T27
open K14.Gn
open PySem PySem.W PySem.Calls PyProof.Rows L2 LamX
open He (ga)
open Kz (SS ExtS ExtS.trans small4 same_new boot_in boot_li boot_isi Has pe_has noE PSs.of_eq new_ext X1)
/-! ### drawn data for _law_boxes_right -/
/-- a statement that sets a name -/
theorem set_intro {i : Nat} {te : TE} {u : TS} {D : Ends} {σ : L2.St} {H : Hp} (h : te σ H fun v G => u D (List.set σ i (some v)) G) : tSeq (tAsg te (gName i)) u D σ H := h
theorem par_intro {i j : Nat} {ta : TA} {u : TS} {D : Ends} {σ : L2.St} {H : Hp} (h : ta σ H fun vs G => ∃ v w, vs = [v, w] ∧ u D ((List.set σ i (some v)).set j (some w)) G) : tSeq (tPar i j ta) u D σ H := h
theorem cons2_intro {t1 t2 : TE} {σ : L2.St} {H : Hp} {Q : List V → Hp → Prop} (h : t1 σ H fun v G => t2 σ G fun w G' => Q [v, w] G') : tCons t1 (tCons t2 tNil) σ H Q := h
theorem if_intro {tc : TT} {A B : TS} {D : Ends} {σ : L2.St} {H : Hp} (h : tc σ H fun c G => if c = true then A D σ G else B D σ G) : tIfS tc A B D σ H := h
/-- _law_pick(stream, a list of data) -/
theorem pick_gv {S : List Addr} {σ : L2.St} {H0 H : Hp} {te : TE} {zs : List PyData} {l li : Addr} {c : Int} {Q : VK} (h0 : σ[0]? = some (some (.ref l))) (g : Gv S σ H0 te (.list zs)) (s : L2.Same H0 H) (ins : Ins S H) (m1 : l ∈ S) (m2 : li ∈ S) (sp : Spr H l li c) (z0 : 0 < zs.length) (z1 : zs.length ≤ 1000) (hc : c < 900000000)
    (k : ∀ (H' : Hp) (x : V) (z : PyData), ExtS l li H H' → Spr H' l li (c + 1) → z ∈ zs → Th (Hid S H') x z → Q x H') : tCall spPk [] noE (tCons (tVar 0) (tCons te tNil)) σ H Q := by
  refine ⟨.ref l, h0, g H _ s ins fun H1 v s1 t1 => ?_⟩
  cases t1 with
  | @lst a xs _ ha r1 =>
    have nm := (hid_at ha).1
    refine ⟨l, li, a, c, xs, rfl, sp.same s1, hid_up _ _ ha, fun z => nm (by rw [z]; exact m1), fun z => nm (by rw [z]; exact m2), by rw [r1.length]; exact z0, by rw [r1.length]; exact z1, hc, fun H2 x e2 sp2 hx => ?_⟩
    obtain ⟨z, hz, tz⟩ := thAll_mem r1 hx
    exact k H2 x z ((same_S s1).trans e2) sp2 hz (tz.ext (hid_S m1 m2 e2))
/-! slices of a list of data -/
section
variable {S : List Addr} {σ : L2.St} {H0 : Hp} {K : Frag}
theorem cut_takeA (xs : List V) (m : Nat) : cutV xs none (some (m : Int)) = xs.take m := by
  unfold cutV
  have e1 : HT.sIx xs.length 0 none = 0 := rfl
  have e2 : HT.sIx xs.length xs.length (some (m : Int)) = min m xs.length := HT.sIx_nat ..
  rw [e1, e2, List.drop_zero, Nat.sub_zero, ← List.take_take, List.take_length]
end
/-! the lists of data, made -/
end K14.T3
namespace K14.T3
open T27
open K14.Gn
open PySem PySem.W PySem.Calls PyProof.Rows L2 LamX
open He (ga)
open Kz (SS ExtS ExtS.trans small4 same_new boot_in boot_li boot_isi Has pe_has noE PSs.of_eq new_ext X1)
/-! ### what is due of a thing -/
end K14.T3
namespace K14.T3
open T27
open K14.Gn
open PySem PySem.W PySem.Calls PyProof.Rows L2 LamX
open He (ga)
open Kz (SS ExtS ExtS.trans spStart small4 same_new boot_in boot_li boot_isi Has pe_has noE PSs.of_eq new_ext X1 FnG HasG pe_hasG)
/-! ### the law -/
def spLw (K : Frag) (T : List (Addr × Str)) : Sp := fun vs H Q _ => ∃ (a : Addr) (ns : List Int), vs = [.ref a] ∧ SqL K H a (ns.map V.int) ∧ ns.length ≤ 1000 ∧ Tabs T H ∧ ∀ H', Q (.bl true) H'
/-! what is drawn, told loosely -/
theorem next_intro {D : Ends} {σ : L2.St} {H : Hp} (h : D.nx σ H) : tNext D σ H := h
end K14.T3
namespace K14.T69
open T27 T3
open K14.Gn
open PySem PySem.W PySem.Calls PyProof.Rows L2 LamX
open He (ga)
open Kz (SS ExtS ExtS.trans small4 same_new boot_in boot_li new_ext Has pe_has noE boot_isi)
def topS (i : Nat) : Stmt := PySem.Challenge.pw_twinforks_k69_whole_texts_of_courses_and.main.body.getD i (.Pass ⟨0, 0, 0, 0⟩)
abbrev sIl : Stmt := topS 11
abbrev sIp : Stmt := topS 12
abbrev sIn : Stmt := topS 13
abbrev sBn : Stmt := topS 14
abbrev sNm : Stmt := topS 15
abbrev sCf : Stmt := topS 30
abbrev sSt : Stmt := topS 48
abbrev sDr : Stmt := topS 49
abbrev sPk : Stmt := topS 50
abbrev sSm : Stmt := topS 52
abbrev sLo : Stmt := topS 54
abbrev sSp : Stmt := topS 55
abbrev sIn1 : Stmt := topS 56
abbrev sAp : Stmt := topS 57
theorem scLo : FnScope Nlo ["stream", "thing"] (defScope sLo) := ⟨rfl, rfl, rfl, by decide +kernel, rfl, by decide +kernel, by decide +kernel⟩
def scOfC : List Stmt → Scope
  | [_, _, .Assign _ (.ListComp _ _ sc _) _, _] => sc
  | _ => defScope sLo
def loSc : Scope := scOfC (defBody sLo)
section
variable {P : Program} {w : World} {K : Frag} {mg : Str → Option Value} {base : Heap}
theorem ok_lo {f : Addr} {fd : FuncData} (F : FunD K "_law_loose" "_law_loose" (defArgs sLo) (defBody sLo) (defScope sLo) [] [] f fd) (D : Has P w K mg base "_law_draw" 1 ["stream", "many"] spDrW) (mm : mg "_law_loose" = some (.ref f)) (kp : keepIn K (.ref f) = true) (bd : L2.Binds K fd ["stream", "thing"] [])
    (mi : mg "isinstance" = none) (ml : mg "list" = none) (mt : mg "tuple" = none) (md : mg "dict" = none) : ∀ n, FnOk P w K mg base CX0 (n + 2) f fd ["stream", "thing"] (spLo n) := by
  intro n
  induction n with
  | zero =>
    refine F.ok scLo (fun vs H Q E h => lo_len h) (fun cdv A outer s H vs Q XE hr h => ?_)
    obtain ⟨S, l, li, c, v, d, rfl, m1, m2, ins, hv, hf, hs, hc, k⟩ := h
    have l0 : isL d = false := by
      cases q : isL d with
      | false => rfl
      | true =>
        obtain ⟨m, z, _⟩ := fit_seq q hf
        cases z
    have hV := hv.ext hid_up
    refine ⟨_, PSs.nox (pss_cons (ps_if (pt_val (pe_callB call_isi (by rfl) mi boot_isi (pa_cons (pv 1) (pa_cons (pe_bltn (by rfl) md boot_di (v := .ty "dict") rfl) pa_nil)))) (pss_one ps_never) pss_nil)
      (pss_cons (ps_if (pt_not (pt_val (pe_callB call_isiT (by rfl) mi boot_isi (pa_cons (pv 1) (pa_cons (pe_tup (pa_cons (pe_bltn (by rfl) ml boot_li (v := .ty "list") rfl) (pa_cons (pe_bltn (by rfl) mt boot_tu (v := .ty "tuple") rfl) pa_nil))) pa_nil))))) (pss_one (ps_ret (pv 1))) pss_nil) pss_never)), ?_⟩
    refine ⟨v, rfl, v, _, _, _, _, rfl, .ty _, hV.ty, is_di d, _, rfl, ?_⟩
    rw [no_dict hf]
    refine iteF ⟨v, rfl, small4 2, fun p np => ⟨v, p, _, _, _, _, rfl, upd_same, .cons (.ty _) (.cons (.ty _) .nil), (hV.ext (same_new np)).ty, is_lt d, _, rfl, ?_⟩⟩
    rw [l0]
    exact iteT ⟨v, rfl, k _ v d c (same_S (same_new np)) (hs.same (same_new np)) (by omega) (hv.ext (hid_same (same_new np))) (Ld.flat l0 hf)⟩
  | succ n ih =>
    have SELF : Has P w K mg base "_law_loose" (n + 2) ["stream", "thing"] (spLo n) := ⟨f, fd, mm, kp, bd, ih⟩
    refine F.ok scLo (fun vs H Q E h => lo_len h) (fun cdv A outer s H vs Q XE hr h => ?_)
    obtain ⟨S, l, li, c, v, d, rfl, m1, m2, ins, hv, hf, hs, hc, k⟩ := h
    have hV := hv.ext hid_up
    refine ⟨_, PSs.nox (pss_cons (ps_if (pt_val (pe_callB call_isi (by rfl) mi boot_isi (pa_cons (pv 1) (pa_cons (pe_bltn (by rfl) md boot_di (v := .ty "dict") rfl) pa_nil)))) (pss_one ps_never) pss_nil)
      (pss_cons (ps_if (pt_not (pt_val (pe_callB call_isiT (by rfl) mi boot_isi (pa_cons (pv 1) (pa_cons (pe_tup (pa_cons (pe_bltn (by rfl) ml boot_li (v := .ty "list") rfl) (pa_cons (pe_bltn (by rfl) mt boot_tu (v := .ty "tuple") rfl) pa_nil))) pa_nil))))) (pss_one (ps_ret (pv 1))) pss_nil)
      (pss_cons (ps_setLc (X := (cxOf CX0 P w K mg base Nlo "_law_loose" (defScope sLo) f cdv A outer s H XE).nox) (i := 2) (te := tCall (spLo n) [] noE (tCons (tVar 0) (tCons (tVar 3) tNil))) (scope := loSc) (own := [("part", 3)]) (g := gName 3) (tt := tYes) rfl scLo.nd rfl rfl (sw_true rfl rfl rfl (by decide +kernel)) (pi_or (pi_list (pv 1)) (pi_tup (pv 1))) (blkOk_by (N := Nlo) (sc := defScope sLo) (by decide +kernel)) (fun _ _ _ _ _ => pg_name (i := 3) scLo.nd rfl (Or.inl rfl)) (fun _ _ _ _ _ => pts_nil)
        (fun s0 H0 C0 cl0 fp0 => pe_has (X := Cx.blk ((cxOf CX0 P w K mg base Nlo "_law_loose" (defScope sLo) f cdv A outer s H XE).nox) s0 H0 loSc (compEnvC loSc cl0 C0 (Cx.env ((cxOf CX0 P w K mg base Nlo "_law_loose" (defScope sLo) f cdv A outer s H XE).nox))) fp0) SELF hr (by rfl) (pa_cons (pv 0) (pa_cons (pv 3) pa_nil))))
      (pss_one (ps_ret (pe_ifExp (pt_cmpR op_eq (pe_has D (hr.mono (by omega)) (by rfl) (pa_cons (pv 0) (pa_cons pe_int pa_nil))) pe_int (nomark _)) (pv 2) (pe_callTy call_tuple_of (by rfl) mt boot_tu (pa_cons (pv 2) pa_nil)))))))), ?_⟩
    refine ⟨v, rfl, v, _, _, _, _, rfl, .ty _, hV.ty, is_di d, _, rfl, ?_⟩
    rw [no_dict hf]
    refine iteF ⟨v, rfl, small4 2, fun p np => ⟨v, p, _, _, _, _, rfl, upd_same, .cons (.ty _) (.cons (.ty _) .nil), (hV.ext (same_new np)).ty, is_lt d, _, rfl, ?_⟩⟩
    have e1 : ExtS l li H (upd H p (.tup [.ty "list", .ty "tuple"])) := same_S (same_new np)
    have s1 := hs.same (same_new (o := .tup [.ty "list", .ty "tuple"]) np)
    cases l0 : isL d with
    | false => exact iteT ⟨v, rfl, k _ v d c e1 s1 (by omega) (hv.ext (hid_same (same_new np))) (Ld.flat l0 hf)⟩
    | true =>
      obtain ⟨m, em, len, fits, esz⟩ := fit_seq l0 hf
      obtain rfl : n = m := Nat.succ.inj em
      rw [esz] at hc k
      refine iteF ?_
      clear hV
      obtain ⟨a, xs, rfl, r, hx⟩ := hv.seq (K := K) l0
      have lx : xs.length = (its d).length := r.length
      have kind : (∀ {G : Hp}, ExtS l li H G → G a = some (.lst xs)) ∨ (∀ {G : Hp}, ExtS l li H G → G a = some (.tup xs)) := by
        rcases hx with q | q
        · obtain ⟨q1, q2, _⟩ := hid_at q
          exact .inl fun e => e _ _ q2 (fun z => q1 (by rw [z]; exact m1)) (fun z => q1 (by rw [z]; exact m2))
        · obtain ⟨q1, q2, _⟩ := hid_at q
          exact .inr fun e => e _ _ q2 (fun z => q1 (by rw [z]; exact m1)) (fun z => q1 (by rw [z]; exact m2))
      generalize upd H p (.tup [.ty "list", .ty "tuple"]) = H1 at e1 s1 ⊢
      let Pv (D0 : Addr) (j : Nat) (H2 : Hp) : Prop := ∃ (ys : List V) (ds : List PyData) (c2 : Int), H2 D0 = some (.lst ys) ∧ ys.length = j ∧ ThAll (Hid (D0 :: S) H2) ys ds ∧ LdAll ((its d).take j) ds ∧ ExtS l li H H2 ∧ Spr H2 l li c2 ∧ c2 ≤ c + ((((its d).take j).map (szD n)).sum : Nat)
      have start : ∀ D0, H1 D0 = none → Pv D0 0 (upd H1 D0 (.lst [])) := fun D0 hD => ⟨[], [], c, upd_same, rfl, .nil, .nil, e1.trans (same_S (same_new hD)), s1.same (same_new hD), by simp⟩
      have turn : ∀ D0, H1 D0 = none → ∀ (j : Nat) (x : V) (H2 : Hp), xs[j]? = some x → Pv D0 j H2 → ∀ (σ2 : L2.St), σ2[0]? = some (some (.ref l)) → σ2[3]? = some (some x) →
          tCall (spLo n) [] noE (tCons (tVar 0) (tCons (tVar 3) tNil)) σ2 H2 fun y H4 => ∃ acc, H4 D0 = some (.lst acc) ∧ acc.length < sizeLine ∧ Pv D0 (j + 1) (upd H4 D0 (.lst (acc ++ [y]))) := by
        intro D0 hD j x H2 hj hp σ2 g0 g3
        obtain ⟨ys, ds, c2, q1, q2, q3, q4, q5, q6, q7⟩ := hp
        have nD := s1.new hD
        have HD : H D0 = none := ext_none e1 hD nD.1 nD.2
        obtain ⟨z, hz, tz⟩ := r.get hj
        have jl : j < (its d).length := by
          rcases Nat.lt_or_ge j (its d).length with q | q
          · exact q
          · rw [List.getElem?_eq_none q] at hz
            cases hz
        have et : (its d).take (j + 1) = (its d).take j ++ [z] := by
          rw [List.take_add_one, hz]
          rfl
        have esum : (((its d).take (j + 1)).map (szD n)).sum = (((its d).take j).map (szD n)).sum + szD n z := by
          rw [et, List.map_append, List.sum_append]
          simp
        have eall : (((its d).take (j + 1)).map (szD n)).sum ≤ ((its d).map (szD n)).sum := by
          have e := List.take_append_drop (j + 1) (its d)
          calc (((its d).take (j + 1)).map (szD n)).sum ≤ (((its d).take (j + 1)).map (szD n)).sum + (((its d).drop (j + 1)).map (szD n)).sum := Nat.le_add_right _ _
            _ = ((its d).map (szD n)).sum := by rw [← List.sum_append, ← List.map_append, e]
        refine ⟨.ref l, g0, x, g3, D0 :: S, l, li, c2, x, z, rfl, List.mem_cons_of_mem _ m1, List.mem_cons_of_mem _ m2, (ins_S ins q5 q6).cons q1, tz.ext (hid_D m1 m2 HD q5), fits z (List.mem_of_getElem? hz), q6, by omega, fun H4 v4 d4 c4 e4 s4 b4 t4 ld4 => ?_⟩
        have hD4 := e4 _ _ q1 nD.1 nD.2
        refine ⟨ys, hD4, by rw [q2, sizeLine_eq]; omega, ys ++ [v4], ds ++ [d4], c4, upd_same, by rw [List.length_append, q2]; rfl, ?_, by rw [et]; exact q4.snoc ld4, fun b o eb z1 z2 => ?_, s4.upd nD.1 nD.2, by rw [esum]; omega⟩
        · refine ThAll.snoc (t4.ext (hid_upd (List.mem_cons_self ..))) ((q3.ext (hid_S (List.mem_cons_of_mem _ m1) (List.mem_cons_of_mem _ m2) e4)).ext (hid_upd (List.mem_cons_self ..)))
        · rw [upd_ne (ne_of_none eb HD)]
          exact e4 b o (q5 b o eb z1 z2) z1 z2
      have post : ∀ D0, H1 D0 = none → ∀ H2, Pv D0 xs.length H2 → ∃ c2, Spr H2 l li c2 ∧ c2 < 900000000 ∧ ∀ (H5 : Hp), ExtS l li H2 H5 → Spr H5 l li (c2 + 1) → Q (.ref D0) H5 ∧ ∃ ys, H5 D0 = some (.lst ys) ∧ ∀ t, H5 t = none → Q (.ref t) (upd H5 t (.tup ys)) := by
        intro D0 hD H2 hp
        obtain ⟨ys, ds, c2, q1, q2, q3, q4, q5, q6, q7⟩ := hp
        have nD := s1.new hD
        have HD : H D0 = none := ext_none e1 hD nD.1 nD.2
        rw [lx, List.take_length] at q4 q7
        obtain ⟨g1, g2⟩ := ld_seq l0 q4
        refine ⟨c2, q6, by omega, fun H5 e5 s5 => ?_⟩
        have nS : D0 ∉ S := fun z => by
          obtain ⟨o, q⟩ := ins D0 z
          rw [HD] at q
          cases q
        have hD5 := e5 _ _ q1 nD.1 nD.2
        have t5 := (q3.ext (hid_S (List.mem_cons_of_mem _ m1) (List.mem_cons_of_mem _ m2) e5)).ext (hid_less (S := S) (fun b m => List.mem_cons_of_mem _ m))
        refine ⟨k H5 _ _ _ (q5.trans e5) s5 (by omega) (.lst (hid_of nS hD5 (fun ps z => nomatch z)) t5) g1, ys, hD5, fun t nt => ?_⟩
        have nT := s5.new nt
        exact k _ _ _ _ ((q5.trans e5).trans (same_S (same_new nt))) (s5.same (same_new nt)) (by omega) (.tup (hid_of ((ins_S (ins_S ins q5 q6) e5 s5).new nt) upd_same (fun ps z => nomatch z)) (t5.ext (hid_same (same_new nt)))) g2
      rcases kind with kd | kd
      · refine .inl ⟨.ref a, rfl, a, rfl, ⟨xs, .inl (.inl (kd e1))⟩, fun D0 hD => lc_list (xs := xs) (Pv D0) (start D0 hD) (fun i H2 _ e => ?_) (fun i x H2 hi e => ?_) (fun H2 e => ?_)⟩
        · obtain ⟨_, _, _, _, _, _, _, q5, _⟩ := e
          exact .inl (.inl (kd q5))
        · refine ⟨rfl, ?_⟩
          unfold tYes
          show (if true = true then _ else _)
          rw [if_pos rfl]
          exact turn D0 hD i x H2 hi e _ rfl rfl
        · obtain ⟨c2, w1, w2, w3⟩ := post D0 hD H2 e
          refine ⟨.ref l, rfl, l, li, c2, 3, rfl, w1, by decide, by decide, by omega, fun H5 q e5 s5 q0 q1 => ?_⟩
          obtain ⟨z1, ys, z2, z3⟩ := w3 H5 e5 s5
          exact ⟨rfl, _, rfl, ite2 (fun _ => ⟨.ref D0, rfl, z1⟩) (fun _ => ⟨.ref D0, rfl, D0, ys, rfl, .inl ⟨.inl (.inl z2), z3⟩⟩)⟩
      · refine .inr ⟨.ref a, rfl, a, rfl, ⟨xs, .inl (.inl (kd e1))⟩, fun D0 hD => lc_tup (xs := xs) (Pv D0) (start D0 hD) (fun i H2 _ e => ?_) (fun i x H2 hi e => ?_) (fun H2 e => ?_)⟩
        · obtain ⟨_, _, _, _, _, _, _, q5, _⟩ := e
          exact .inl (.inl (kd q5))
        · refine ⟨rfl, ?_⟩
          unfold tYes
          show (if true = true then _ else _)
          rw [if_pos rfl]
          exact turn D0 hD i x H2 hi e _ rfl rfl
        · obtain ⟨c2, w1, w2, w3⟩ := post D0 hD H2 e
          refine ⟨.ref l, rfl, l, li, c2, 3, rfl, w1, by decide, by decide, by omega, fun H5 q e5 s5 q0 q1 => ?_⟩
          obtain ⟨z1, ys, z2, z3⟩ := w3 H5 e5 s5
          exact ⟨rfl, _, rfl, ite2 (fun _ => ⟨.ref D0, rfl, z1⟩) (fun _ => ⟨.ref D0, rfl, D0, ys, rfl, .inl ⟨.inl (.inl z2), z3⟩⟩)⟩
end
end K14.T69
namespace K14.T69
open T27 T3
open K14.Gn
open PySem PySem.W PySem.Calls PyProof.Rows L2 LamX RZ LiI
open He (ga)
open Kz (SS ExtS ExtS.trans spStart small4 same_new boot_in boot_li boot_isi tWhile_split shaped_int dpAll_int seq0 new_ext Has pe_has noE rLen)
theorem scSt : FnScope ["script"] ["script"] (defScope sSt) := ⟨rfl, rfl, rfl, by decide +kernel, rfl, by decide +kernel, by decide +kernel⟩
theorem scDr : FnScope ["stream", "many", "cell", "digit", "mixed"] ["stream", "many"] (defScope sDr) := ⟨rfl, rfl, rfl, by decide +kernel, rfl, by decide +kernel, by decide +kernel⟩
theorem scIl : FnScope ["thing"] ["thing"] (defScope sIl) := ⟨rfl, rfl, rfl, by decide +kernel, rfl, by decide +kernel, by decide +kernel⟩
theorem scIp : FnScope ["thing"] ["thing"] (defScope sIp) := ⟨rfl, rfl, rfl, by decide +kernel, rfl, by decide +kernel, by decide +kernel⟩
theorem scIn : FnScope ["thing"] ["thing"] (defScope sIn) := ⟨rfl, rfl, rfl, by decide +kernel, rfl, by decide +kernel, by decide +kernel⟩
theorem scSm : FnScope Nsm ["found", "due"] (defScope sSm) := ⟨rfl, rfl, rfl, by decide +kernel, rfl, by decide +kernel, by decide +kernel⟩
def scOfD : List Stmt → Scope
  | .If _ (_ :: .Return (some (.BoolOp _ [_, .Call _ [.ListComp _ _ sc _] _ _] _)) _ :: _) _ _ :: _ => sc
  | _ => defScope sSm
def smSc : Scope := scOfD (defBody sSm)
section
variable {P : Program} {w : World} {K : Frag} {mg : Str → Option Value} {base : Heap}
theorem ok_st {f : Addr} {fd : FuncData} (F : FunD K "_law_start" "_law_start" (defArgs sSt) (defBody sSt) (defScope sSt) [] [] f fd) (ml : mg "list" = none) : FnOk P w K mg base CX0 1 f fd ["script"] (spStart K) := by
  refine F.ok scSt (fun vs H Q E h => ?_) (fun cdv A outer s H vs Q XE hr h => ?_)
  · obtain ⟨a, ns, rfl, _⟩ := h
    rfl
  · obtain ⟨a, ns, rfl, hS, k⟩ := h
    refine ⟨_, PSs.nox (pss_one (ps_ret (pe_lst (pa_cons (pe_callTy call_list_of (by rfl) ml boot_li (pa_cons (pv 0) pa_nil)) (pa_cons pe_int (pa_cons pe_int (pa_cons pe_int pa_nil))))))), ?_⟩
    refine ⟨.ref a, rfl, a, _, rfl, .inl hS, fun li n1 => ⟨small4 4, fun l n2 => ?_⟩⟩
    have ne : l ≠ li := fun z => by
      rw [z, upd_same] at n2
      cases n2
    refine k _ l li ((same_new n1).trans (same_new n2)) ((same_new n1).free n2) n1 ⟨upd_same, by rw [upd_ne ne.symm, upd_same], ne, by decide, by decide, by decide, by decide⟩
theorem ok_drw {f : Addr} {fd : FuncData} (F : FunD K "_law_draw" "_law_draw" (defArgs sDr) (defBody sDr) (defScope sDr) [] [] f fd) (mi : mg "int" = none) : FnOk P w K mg base CX0 1 f fd ["stream", "many"] spDrW := by
  refine F.ok scDr (fun vs H Q E h => ?_) (fun cdv A outer s H vs Q XE hr h => ?_)
  · obtain ⟨l, li, c, many, rfl, _⟩ := h
    rfl
  · obtain ⟨l, li, c, many, rfl, ⟨ns, b, d, hs, nl⟩, m0, m1, c1, k0⟩ := h
    have k : ∀ (H' : Hp) (ns' : List Int) (b' d' r : Int), ExtS l li H H' → SS H' l li ns' b' (c + 1) d' → ns'.length ≤ 1000 → 0 ≤ r → r < many → Q (.int r) H' := fun H' ns' b' d' r e s n a1 a2 => k0 H' r e ⟨ns', b', d', s, n⟩ a1 a2
    refine ⟨_, PSs.nox (pss_cons (ps_asg (pe_op op_add (pe_ix ix_list (pv 0) pe_int (fun _ _ => rfl)) pe_int) (pg_sub (pv 0) pe_int set_list))
      (pss_cons (ps_while PassesOwn.never ((pw_and (pt_cmpR op_eq (pe_ix ix_list (pv 0) pe_int (fun _ _ => rfl)) pe_int (nomark _)) (pw_and1 (pt_cmpR (op_neD hr.units) (pe_ix ix_list (pv 0) pe_int (fun _ _ => rfl)) (pe_lst pa_nil) (nomark _)))).pt)
        (pss_cons (ps_set (i := 2) scDr.nd rfl (.inl rfl) (pe_bm PySem.F.plainAttrs_list PySem.F.slot_list_pop PySem.F.type_list_pop mt_popAt (pe_ix ix_list (pv 0) pe_int (fun _ _ => rfl)) (pa_cons pe_int pa_nil)))
        (pss_cons (ps_asg (pe_op op_mod (pe_callTy call_int1 (by rfl) mi boot_in (pa_cons (pe_op op_add (pe_op op_add (pe_op op_mul (pe_ix ix_list (pv 0) pe_int (fun _ _ => rfl)) pe_int) (pv 2)) pe_int) pa_nil)) pe_int) (pg_sub (pv 0) pe_int set_list))
        (pss_one (ps_asg (pe_ifExp (pt_cmpR op_ge (pv 2) (pe_op op_pow pe_int pe_int) (nomark _)) (pv 2) pe_int) (pg_sub (pv 0) pe_int set_list))))))
      (pss_cons (ps_if (pt_cmpR op_gt (pe_ix ix_list (pv 0) pe_int (fun _ _ => rfl)) pe_int (nomark _))
        (pss_cons (ps_set (i := 3) scDr.nd rfl (.inl rfl) (pe_op op_mod (pe_callTy call_int1 (by rfl) mi boot_in (pa_cons (pe_ix ix_list (pv 0) pe_int (fun _ _ => rfl)) pa_nil)) (pv 1)))
        (pss_cons (ps_asg (pe_op op_fdiv (pe_ix ix_list (pv 0) pe_int (fun _ _ => rfl)) (pv 1)) (pg_sub (pv 0) pe_int set_list))
        (pss_one (ps_ret (pv 3))))) pss_nil)
      (pss_cons (ps_set (i := 4) scDr.nd rfl (.inl rfl) (pe_op op_mod (pe_callTy call_int1 (by rfl) mi boot_in (pa_cons (pe_op op_pow (pe_op op_add (pe_op op_add (pe_ix ix_list (pv 0) pe_int (fun _ _ => rfl)) (pe_op op_mul pe_int (pe_ix ix_list (pv 0) pe_int (fun _ _ => rfl)))) pe_int) pe_int) pa_nil)) pe_int))
      (pss_one (ps_ret (pe_op op_mod (pe_op op_mod (pe_callTy call_int1 (by rfl) mi boot_in (pa_cons (pe_op op_pow (pe_op op_add (pe_op op_add (pe_op op_mul (pv 4) pe_int) (pe_op op_mul pe_int (pe_ix ix_list (pv 0) pe_int (fun _ _ => rfl)))) pe_int) pe_int) pa_nil)) pe_int) (pv 1)))))))), ?_⟩
    have q2 := hs.set (b' := b) (c' := c + 1) (d' := d) hs.b0 (by have := hs.c0; omega) hs.d0 hs.d1
    refine ⟨.ref l, rfl, l, _, 2, .int c, rfl, rfl, .inl (.inl hs.l1), atI_nat (j := 2) rfl, c, 1, rfl, rfl, .ref l, rfl, l, _, 2, 2, rfl, rfl, hs.l1, rfl, ?_⟩
    refine tWhile_split (fun σ H' => ∃ (x2 : Option V) (ns' : List Int) (b' d' : Int), σ = [some (.ref l), some (.int many), x2, none, none] ∧ SS H' l li ns' b' (c + 1) d' ∧ ExtS l li H H' ∧ ns'.length ≤ 1000) (fun σ H' ⟨x2, ns', b', d', e, s, ex, nl'⟩ => ?_) (fun after => ?_)
    · subst e
      have c0 := s.c0
      have d0 := s.d0
      have d1 := s.d1
      have c00 := hs.c0
      refine ⟨.ref l, rfl, l, _, 1, .int b', rfl, rfl, .inl (.inl s.l1), atI_nat (j := 1) rfl, b', 0, rfl, rfl, _, rfl, ite2 (fun e => ?_) (fun e => ?_)⟩
      · refine ⟨.ref l, rfl, l, _, 1, .int b', rfl, rfl, .inl (.inl s.l1), atI_nat (j := 1) rfl, .inl ⟨_, rfl, .int many, rfl, b', many, rfl, rfl, m0, ?_⟩⟩
        obtain ⟨s2, ex2⟩ := s.set (b' := b' / many) (c' := c + 1) (d' := d') (Int.ediv_nonneg s.b0 (Int.le_of_lt m0)) c0 d0 d1
        refine ⟨.ref l, rfl, l, _, 1, .int b', rfl, rfl, .inl (.inl s.l1), atI_nat (j := 1) rfl, .int many, rfl, b', many, rfl, rfl, ⟨m0, by show many < 1073741824; omega⟩, .ref l, rfl, l, _, 1, 1, rfl, rfl, s.l1, rfl, .int (b' % many), rfl, ?_⟩
        exact k _ ns' _ d' _ (ex.trans ex2) s2 nl' (Int.emod_nonneg _ (by omega)) (Int.emod_lt_of_pos _ m0)
      · have t1 : (6151 : Int) * (c + 1) = 6151 * c + 6151 := by omega
        have t2 : (40009 : Int) * (c + 1) = 40009 * c + 40009 := by omega
        refine ⟨.ref l, rfl, l, _, 3, .int d', rfl, rfl, .inl (.inl s.l1), atI_nat (j := 3) rfl, .ref l, rfl, l, _, 2, .int (c + 1), rfl, rfl, .inl (.inl s.l1), atI_nat (j := 2) rfl, 6151, c + 1, rfl, rfl, .inl ⟨by decide, by decide⟩, d', _, rfl, rfl, _, 130003, rfl, rfl, _, 5, rfl, rfl,
          ⟨by decide, by decide, ?_⟩, .inl ⟨_, rfl, _, 2147483629, rfl, rfl, (show (0:Int) < 2147483629 by decide), ?_⟩⟩
        · rw [t1]
          show Int.natAbs _ < 18446744073709551616
          omega
        · have x0 : ∀ z : Int, 0 ≤ z % 2147483629 := fun z => Int.emod_nonneg _ (by decide)
          have x1 : ∀ z : Int, z % 2147483629 < 2147483629 := fun z => Int.emod_lt_of_pos _ (by decide)
          have x2 := x0 ((d' + 6151 * (c + 1) + 130003) ^ (5 : Int).toNat)
          have x3 := x1 ((d' + 6151 * (c + 1) + 130003) ^ (5 : Int).toNat)
          refine ⟨_, rfl, _, 69621, rfl, rfl, .inl ⟨by omega, by omega⟩, .ref l, rfl, l, _, 2, .int (c + 1), rfl, rfl, .inl (.inl s.l1), atI_nat (j := 2) rfl, 40009, c + 1, rfl, rfl, .inl ⟨by decide, by decide⟩, _, _, rfl, rfl, _, 31, rfl, rfl, _, 3, rfl, rfl, ⟨by decide, by decide, ?_⟩,
            .inl ⟨_, rfl, _, 1000000007, rfl, rfl, (show (0:Int) < 1000000007 by decide), .int many, rfl, _, many, rfl, rfl, m0, ?_⟩⟩
          · rw [t2]
            show Int.natAbs _ < 18446744073709551616
            omega
          · exact k _ ns' b' d' _ ex s nl' (Int.emod_nonneg _ (by omega)) (Int.emod_lt_of_pos _ m0)
    · refine ⟨fun m σ H' => ∃ x2, σ = [some (.ref l), some (.int many), x2, none, none] ∧ ∃ (ns' : List Int) (b' d' : Int), SS H' l li ns' b' (c + 1) d' ∧ ExtS l li H H' ∧ ns'.length ≤ 1000 ∧ m = ns'.length, ⟨ns.length, none, rfl, ns, b, d, q2.1, q2.2, nl, rfl⟩, fun m σ H' hW => ?_⟩
      obtain ⟨x2, rfl, ns', b', d', s, ex, nl', rfl⟩ := hW
      have c0 := s.c0
      have d0 := s.d0
      have d1 := s.d1
      refine ⟨.ref l, rfl, l, _, 1, .int b', rfl, rfl, .inl (.inl s.l1), atI_nat (j := 1) rfl, rfl, _, rfl, ite2 (fun e => ?_) (fun e => ?_)⟩
      · refine ⟨.ref l, rfl, l, _, 0, .ref li, rfl, rfl, .inl (.inl s.l1), atI_nat (j := 0) rfl, Nat.zero_le _, fun p np => ?_⟩
        obtain ⟨s2, ex2⟩ := s.new (o := .lst []) np
        refine ⟨.list (ns'.map PyData.int), .list [], .lst (.inl (.inl s2.l2)) (dpAll_int _), .lst (.inl (.inl upd_same)) .nil, shaped_int _ , rfl, _, rfl, ?_⟩
        cases ns' with
        | nil => exact iteF (after _ _ ⟨x2, [], b', d', rfl, s2, ex.trans ex2, nl'⟩)
        | cons n r =>
          obtain ⟨s3, ex3⟩ := s2.pop
          refine iteT ⟨fun σ' H' => ∃ x2, σ' = [some (.ref l), some (.int many), x2, none, none] ∧ ∃ (b' d' : Int), SS H' l li r b' (c + 1) d' ∧ ExtS l li H H', fun σ' H' ⟨y2, e1, b2, d2, e2, e3⟩ => ⟨r.length, Nat.lt_succ_self _, y2, e1, r, b2, d2, e2, e3, by simp at nl'; omega, rfl⟩, ?_⟩
          refine ⟨.ref l, rfl, l, _, 0, .ref li, rfl, rfl, .inl (.inl s2.l1), atI_nat (j := 0) rfl, .inl ⟨rfl, _, .inl (.inl s2.l2)⟩, li, _, 0, 0, .int n, rfl, rfl, s2.l2, by decide, by decide, seq0 _ _, rfl, ?_⟩
          have hd : 0 ≤ (d' * 65599 + n + 7) % 2147483647 := Int.emod_nonneg _ (by decide)
          have hd1 : (d' * 65599 + n + 7) % 2147483647 < 2147483647 := Int.emod_lt_of_pos _ (by decide)
          obtain ⟨s4, ex4⟩ := s3.set (b' := b') (c' := c + 1) (d' := (d' * 65599 + n + 7) % 2147483647) s.b0 c0 hd hd1
          refine ⟨.ref l, rfl, l, _, 3, .int d', rfl, rfl, .inl (.inl s3.l1), atI_nat (j := 3) rfl, d', 65599, rfl, rfl, .inl ⟨by omega, by omega⟩, .int n, rfl, _, n, rfl, rfl, _, 7, rfl, rfl, .inl ⟨_, rfl, _, 2147483647, rfl, rfl, (show (0:Int) < 2147483647 by decide), .ref l, rfl, l, _, 3, 3, rfl, rfl, s3.l1, rfl, ?_⟩⟩
          have exx := ((ex.trans ex2).trans ex3).trans ex4
          refine ⟨.int n, rfl, 10, 18, rfl, rfl, ⟨by decide, by decide, by decide⟩, n, _, rfl, rfl, _, rfl, ite2 (fun g => ?_) (fun g => ?_)⟩
          · have n0 : 0 ≤ n := by
              have g1 := of_decide_eq_true g
              have g2 : ((10 : Int) ^ (18 : Int).toNat) = 1000000000000000000 := by decide
              rw [g2] at g1
              omega
            obtain ⟨s5, ex5⟩ := s4.set (b' := n) (c' := c + 1) (d' := (d' * 65599 + n + 7) % 2147483647) n0 c0 hd hd1
            exact ⟨.int n, rfl, .ref l, rfl, l, _, 1, 1, rfl, rfl, s4.l1, rfl, _, rfl, n, _, s5, exx.trans ex5⟩
          · obtain ⟨s5, ex5⟩ := s4.set (b' := 0) (c' := c + 1) (d' := (d' * 65599 + n + 7) % 2147483647) (Int.le_refl _) c0 hd hd1
            exact ⟨.ref l, rfl, l, _, 1, 1, rfl, rfl, s4.l1, rfl, _, rfl, 0, _, s5, exx.trans ex5⟩
      · exact iteF (after _ _ ⟨x2, ns', b', d', rfl, s, ex, nl'⟩)
theorem ok_il {f : Addr} {fd : FuncData} (F : FunD K "is_list" "is_list" (defArgs sIl) (defBody sIl) (defScope sIl) [] [] f fd) (mi : mg "isinstance" = none) (ml : mg "list" = none) (mt : mg "tuple" = none) : FnOk P w K mg base CX0 1 f fd ["thing"] (spLook isL) := by
  refine F.ok scIl (fun vs H Q E h => ?_) (fun cdv A outer s H vs Q XE hr h => ?_)
  · obtain ⟨v, d, rfl, _⟩ := h
    rfl
  · obtain ⟨v, d, rfl, hv, k⟩ := h
    refine ⟨_, PSs.nox (pss_one (ps_ret (pe_callB call_isiT (by rfl) mi boot_isi (pa_cons (pv 0) (pa_cons (pe_tup (pa_cons (pe_bltn (by rfl) ml boot_li (v := .ty "list") rfl) (pa_cons (pe_bltn (by rfl) mt boot_tu (v := .ty "tuple") rfl) pa_nil))) pa_nil))))), ?_⟩
    refine ⟨v, rfl, small4 2, fun p np => ⟨v, p, _, _, _, _, rfl, upd_same, .cons (.ty _) (.cons (.ty _) .nil), (hv.ext (same_new np)).ty, is_lt d, k _ (same_new np)⟩⟩
theorem ok_in {f : Addr} {fd : FuncData} (F : FunD K "is_number" "is_number" (defArgs sIn) (defBody sIn) (defScope sIn) [] [] f fd) (mi : mg "isinstance" = none) (mn : mg "int" = none) (mb : mg "bool" = none) : FnOk P w K mg base CX0 1 f fd ["thing"] (spLook isN) := by
  refine F.ok scIn (fun vs H Q E h => ?_) (fun cdv A outer s H vs Q XE hr h => ?_)
  · obtain ⟨v, d, rfl, _⟩ := h
    rfl
  · obtain ⟨v, d, rfl, hv, k⟩ := h
    refine ⟨_, PSs.nox (pss_one (ps_ret (pe_and (pe_callB call_isi (by rfl) mi boot_isi (pa_cons (pv 0) (pa_cons (pe_bltn (by rfl) mn boot_in (v := .ty "int") rfl) pa_nil))) (pe_and (pe_not (pe_callB call_isi (by rfl) mi boot_isi (pa_cons (pv 0) (pa_cons (pe_bltn (by rfl) mb boot_bo (v := .ty "bool") rfl) pa_nil)))) (pe_one (pe_cmpR op_ge (pv 0) pe_int (nomark _))))))), ?_⟩
    refine ⟨v, rfl, v, _, _, _, _, rfl, .ty _, hv.ty, is_in d, _, rfl, ?_⟩
    cases hv with
    | int i =>
      refine iteT ⟨.int i, rfl, .int i, _, _, _, _, rfl, .ty _, .base (.int i), is_bo (.int i), _, rfl, _, rfl, iteT ⟨.int i, rfl, i, 0, rfl, rfl, ?_⟩⟩
      have e := k H (fun _ _ e => e)
      exact e
    | bl b =>
      refine iteT ⟨.bl b, rfl, .bl b, _, _, _, _, rfl, .ty _, .base (.bl b), is_bo (.bool b), _, rfl, _, rfl, iteF ?_⟩
      exact k H (fun _ _ e => e)
    | _ => exact iteF (k H (fun _ _ e => e))
theorem ok_ip {f : Addr} {fd : FuncData} (F : FunD K "is_pair" "is_pair" (defArgs sIp) (defBody sIp) (defScope sIp) [] [] f fd) (L : Has P w K mg base "is_list" 1 ["thing"] (spLook isL)) (mn : mg "len" = none) : FnOk P w K mg base CX0 2 f fd ["thing"] (spLook isP) := by
  refine F.ok scIp (fun vs H Q E h => ?_) (fun cdv A outer s H vs Q XE hr h => ?_)
  · obtain ⟨v, d, rfl, _⟩ := h
    rfl
  · obtain ⟨v, d, rfl, hv, k⟩ := h
    refine ⟨_, PSs.nox (pss_one (ps_ret (pe_and (pe_has L hr (by rfl) (pa_cons (pv 0) pa_nil)) (pe_one (pe_cmpR op_eq (pe_callB call_len_seq (by rfl) mn boot_len (pa_cons (pv 0) pa_nil)) pe_int (nomark _)))))), ?_⟩
    refine ⟨v, rfl, v, d, rfl, hv, fun H1 s1 => ⟨isL d, rfl, ?_⟩⟩
    cases l : isL d with
    | false =>
      refine iteF ?_
      have e := k H1 s1
      unfold isP at e
      rw [l] at e
      exact e
    | true =>
      obtain ⟨a, xs, rfl, r, hx⟩ := (hv.ext s1).seq (K := K) l
      refine iteT ⟨.ref a, rfl, a, xs, rfl, ?_, rfl, ?_⟩
      · rcases hx with hx | hx
        · exact .inl (.inl (.inl hx))
        · exact .inr (.inl (.inl hx))
      · have e := k H1 s1
        unfold isP at e
        rw [l, Bool.true_and, ← r.length] at e
        have e2 : (decide (V.int (xs.length : Int) = V.int 2)) = decide (xs.length = 2) := by
          by_cases q : xs.length = 2
          · rw [q]; rfl
          · rw [decide_eq_false q, decide_eq_false (fun z => q (by have := V.int.inj z; omega))]
        show Q (.bl (decide (V.int (xs.length : Int) = V.int 2))) H1
        rw [e2]
        exact e
/-- things that are no lists and no dicts -/
theorem sm_flat (B : BtK mg) {f : Addr} {cdv : Value} {A : Around} {outer : List Env} {s : Shared} {H : Hp} {Q : VK} {XE : XK} {v u : V} {d : PyData} (hv : Th H v d) (hu : Th H u d) (l0 : isL d = false) (d0 : isD d = false) (k : ∀ H', L2.Same H H' → Q (.bl true) H') :
    ∃ t, PSs (cxOf CX0 P w K mg base Nsm "_law_same" (defScope sSm) f cdv A outer s H XE) (defBody sSm) t ∧ t { nx := fun _ H' => Q .non H', rt := Q } (L2.start Nsm [v, u]) H := by
  refine ⟨_, PSs.nox (pss_cons (ps_if (pt_val (pe_callB call_isiT (by rfl) B.is boot_isi (pa_cons (pv 1) (pa_cons (pe_tup (pa_cons (pe_bltn (by rfl) B.li boot_li (v := .ty "list") rfl) (pa_cons (pe_bltn (by rfl) B.tu boot_tu (v := .ty "tuple") rfl) pa_nil))) pa_nil)))) pss_never pss_nil)
    (pss_cons (ps_if (pt_val (pe_callB call_isi (by rfl) B.is boot_isi (pa_cons (pv 1) (pa_cons (pe_bltn (by rfl) B.di boot_di (v := .ty "dict") rfl) pa_nil)))) pss_never pss_nil)
    (pss_cons (ps_if (pt_val (pe_callB call_isi (by rfl) B.is boot_isi (pa_cons (pv 1) (pa_cons (pe_bltn (by rfl) B.it boot_in (v := .ty "int") rfl) pa_nil))))
      (pss_one (ps_ret (pe_and (pe_callB call_isi (by rfl) B.is boot_isi (pa_cons (pv 0) (pa_cons (pe_bltn (by rfl) B.it boot_in (v := .ty "int") rfl) pa_nil))) (pe_and (pe_cmpR op_eq (pe_callB call_isi (by rfl) B.is boot_isi (pa_cons (pv 0) (pa_cons (pe_bltn (by rfl) B.bo boot_bo (v := .ty "bool") rfl) pa_nil))) (pe_callB call_isi (by rfl) B.is boot_isi (pa_cons (pv 1) (pa_cons (pe_bltn (by rfl) B.bo boot_bo (v := .ty "bool") rfl) pa_nil))) (nomark _))
        (pe_one (pe_cmpR op_eq (pv 0) (pv 1) (nomark _))))))) pss_nil)
    (pss_one (ps_ret (pe_and (pe_not (pe_callB call_isiT (by rfl) B.is boot_isi (pa_cons (pv 0) (pa_cons (pe_tup (pa_cons (pe_bltn (by rfl) B.it boot_in (v := .ty "int") rfl) (pa_cons (pe_bltn (by rfl) B.li boot_li (v := .ty "list") rfl) (pa_cons (pe_bltn (by rfl) B.tu boot_tu (v := .ty "tuple") rfl) (pa_cons (pe_bltn (by rfl) B.di boot_di (v := .ty "dict") rfl) pa_nil))))) pa_nil)))) (pe_one (pe_cmpR op_eq (pv 0) (pv 1) (nomark _))))))))), ?_⟩
  refine ⟨u, rfl, small4 2, fun p np => ⟨u, p, _, _, _, _, rfl, upd_same, .cons (.ty _) (.cons (.ty _) .nil), (hu.ext (same_new np)).ty, is_lt d, _, rfl, ?_⟩⟩
  rw [l0]
  have e1 : L2.Same H (upd H p (.tup [.ty "list", .ty "tuple"])) := same_new np
  generalize upd H p (.tup [.ty "list", .ty "tuple"]) = H1 at e1 ⊢
  have hv1 := hv.ext e1
  have hu1 := hu.ext e1
  refine iteF ⟨u, rfl, u, _, _, _, _, rfl, .ty _, hu1.ty, is_di d, _, rfl, ?_⟩
  rw [d0]
  refine iteF ⟨u, rfl, u, _, _, _, _, rfl, .ty _, hu1.ty, kit_in d, _, rfl, ?_⟩
  cases li : isIn d with
  | true =>
    have sc : v = u ∧ scal v u = true := by
      cases hv1 <;> cases hu1 <;> first | exact ⟨rfl, rfl⟩ | exact absurd (show false = true from li) Bool.false_ne_true
    refine iteT ⟨v, rfl, v, _, _, _, _, rfl, .ty _, hv1.ty, kit_in d, _, rfl, ?_⟩
    rw [li]
    refine iteT ⟨v, rfl, v, _, _, _, _, rfl, .ty _, hv1.ty, kit_bo d, u, rfl, u, _, _, _, _, rfl, .ty _, hu1.ty, kit_bo d, rfl, _, rfl, ?_⟩
    rw [decide_eq_true rfl]
    refine iteT ⟨v, rfl, u, rfl, sc.2, ?_⟩
    rw [decide_eq_true sc.1]
    exact k _ e1
  | false =>
    have sc : v = u ∧ scal v u = true ∧ isAny d = false := by
      cases hv1 <;> cases hu1 <;> first | exact ⟨rfl, rfl, rfl⟩ | exact absurd (show true = false from li) (fun z => nomatch z) | exact absurd (show true = false from l0) (fun z => nomatch z) | exact absurd (show true = false from d0) (fun z => nomatch z)
    refine iteF ⟨v, rfl, small4 4, fun q nq => ⟨v, q, _, _, _, _, rfl, upd_same, .cons (.ty _) (.cons (.ty _) (.cons (.ty _) (.cons (.ty _) .nil))), (hv1.ext (same_new nq)).ty, kit_an d, _, rfl, _, rfl, ?_⟩⟩
    rw [sc.2.2]
    refine iteT ⟨v, rfl, u, rfl, sc.2.1, ?_⟩
    rw [decide_eq_true sc.1]
    exact k _ (e1.trans (same_new nq))
/-- the found and the due thing are of one data: the answer is True -/
theorem ok_sm {f : Addr} {fd : FuncData} (F : FunD K "_law_same" "_law_same" (defArgs sSm) (defBody sSm) (defScope sSm) [] [] f fd) (mm : mg "_law_same" = some (.ref f)) (kp : keepIn K (.ref f) = true) (bd : L2.Binds K fd ["found", "due"] []) (B : BtK mg) : ∀ n, FnOk P w K mg base CX0 (n + 1) f fd ["found", "due"] (spSm n) := by
  intro n
  induction n with
  | zero =>
    refine F.ok scSm (fun vs H Q E h => sm_len h) (fun cdv A outer s H vs Q XE hr h => ?_)
    obtain ⟨v, u, d, rfl, hv, hu, hf, k⟩ := h
    refine sm_flat B hv hu ?_ ?_ k
    · cases d <;> first | rfl | exact absurd (show false = true from hf) Bool.false_ne_true
    · cases d <;> first | rfl | exact absurd (show false = true from hf) Bool.false_ne_true
  | succ n ih =>
    have SELF : Has P w K mg base "_law_same" (n + 1) ["found", "due"] (spSm n) := ⟨f, fd, mm, kp, bd, ih⟩
    refine F.ok scSm (fun vs H Q E h => sm_len h) (fun cdv A outer s H vs Q XE hr h => ?_)
    obtain ⟨v, u, d, rfl, hv, hu, hf, k⟩ := h
    have t0 : ∀ {G : Hp} (p : Addr), G p = none → L2.Same G (upd G p (.tup [.ty "list", .ty "tuple"])) := fun p n => same_new n
    cases l0 : isL d with
    | true =>
      refine ⟨_, PSs.nox (pss_cons (ps_if (pt_val (pe_callB call_isiT (by rfl) B.is boot_isi (pa_cons (pv 1) (pa_cons (pe_tup (pa_cons (pe_bltn (by rfl) B.li boot_li (v := .ty "list") rfl) (pa_cons (pe_bltn (by rfl) B.tu boot_tu (v := .ty "tuple") rfl) pa_nil))) pa_nil))))
        (pss_cons (ps_if ((pw_or (pt_cmpR op_ne (pe_callB call_isi (by rfl) B.is boot_isi (pa_cons (pv 0) (pa_cons (pe_bltn (by rfl) B.li boot_li (v := .ty "list") rfl) pa_nil))) (pe_callB call_isi (by rfl) B.is boot_isi (pa_cons (pv 1) (pa_cons (pe_bltn (by rfl) B.li boot_li (v := .ty "list") rfl) pa_nil))) (nomark _))
          (pw_or1 (pt_cmpR op_ne (pe_callB call_isi (by rfl) B.is boot_isi (pa_cons (pv 0) (pa_cons (pe_bltn (by rfl) B.tu boot_tu (v := .ty "tuple") rfl) pa_nil))) (pe_callB call_isi (by rfl) B.is boot_isi (pa_cons (pv 1) (pa_cons (pe_bltn (by rfl) B.tu boot_tu (v := .ty "tuple") rfl) pa_nil))) (nomark _)))).pt) (pss_one (ps_ret pe_bl)) pss_nil)
        (pss_one (ps_ret (pe_and (pe_cmpR op_eq (pe_callB call_len_seq (by rfl) B.ln boot_len (pa_cons (pv 0) pa_nil)) (pe_callB call_len_seq (by rfl) B.ln boot_len (pa_cons (pv 1) pa_nil)) (nomark _)) (pe_one (pe_callB (cr_all rfl) (by rfl) B.al boot_all (pa_cons
          (pe_lc (X := (cxOf CX0 P w K mg base Nsm "_law_same" (defScope sSm) f cdv A outer s H XE).nox) (te := tCall (spSm n) [] noE (tCons (tVar 2) (tCons (tVar 3) tNil))) (scope := smSc) (own := [("x", 2), ("y", 3)]) (g := gTup K 2 (gCons (gName 2) (gCons (gName 3) gNil))) (tt := tYes) rfl scSm.nd (pi_zipA (by rfl) B.zi (pa_cons (pv 0) (pa_cons (pv 1) pa_nil))) (blkOk_by (N := Nsm) (sc := defScope sSm) (by decide +kernel))
            (fun _ _ _ _ _ => pg_tup rfl (pgs_cons (pg_name (i := 2) scSm.nd rfl (Or.inl rfl)) (pgs_cons (pg_name (i := 3) scSm.nd rfl (Or.inl rfl)) pgs_nil))) (fun _ _ _ _ _ => pts_nil)
            (fun s0 H0 C0 cl0 fp0 => pe_has (X := Cx.blk ((cxOf CX0 P w K mg base Nsm "_law_same" (defScope sSm) f cdv A outer s H XE).nox) s0 H0 smSc (compEnvC smSc cl0 C0 (Cx.env ((cxOf CX0 P w K mg base Nsm "_law_same" (defScope sSm) f cdv A outer s H XE).nox))) fp0) SELF hr (by rfl) (pa_cons (pv 2) (pa_cons (pv 3) pa_nil)))) pa_nil))))))) pss_nil) pss_never), ?_⟩
      obtain ⟨m, em, len, fits⟩ : ∃ m, n + 1 = m + 1 ∧ (its d).length ≤ 1000 ∧ ∀ x ∈ its d, fitS m x = true := by
        cases d with
        | list xs =>
          obtain ⟨h1, h2⟩ := Bool.and_eq_true_iff.mp (show (decide (xs.length ≤ 1000) && xs.all (fitS n)) = true from hf)
          exact ⟨n, rfl, of_decide_eq_true h1, fun x hx => List.all_eq_true.mp h2 x hx⟩
        | tuple xs =>
          obtain ⟨h1, h2⟩ := Bool.and_eq_true_iff.mp (show (decide (xs.length ≤ 1000) && xs.all (fitS n)) = true from hf)
          exact ⟨n, rfl, of_decide_eq_true h1, fun x hx => List.all_eq_true.mp h2 x hx⟩
        | _ => exact absurd (show false = true from l0) Bool.false_ne_true
      obtain rfl : n = m := Nat.succ.inj em
      refine ⟨u, rfl, small4 2, fun p np => ⟨u, p, _, _, _, _, rfl, upd_same, .cons (.ty _) (.cons (.ty _) .nil), (hu.ext (same_new np)).ty, is_lt d, _, rfl, ?_⟩⟩
      rw [l0]
      have e1 : L2.Same H (upd H p (.tup [.ty "list", .ty "tuple"])) := same_new np
      generalize upd H p (.tup [.ty "list", .ty "tuple"]) = H1 at e1 ⊢
      have hv1 := hv.ext e1
      have hu1 := hu.ext e1
      refine iteT ⟨v, rfl, v, _, _, _, _, rfl, .ty _, hv1.ty, kit_ls d, u, rfl, u, _, _, _, _, rfl, .ty _, hu1.ty, kit_ls d, rfl, _, rfl, ?_⟩
      rw [decide_eq_true rfl]
      refine iteF ⟨v, rfl, v, _, _, _, _, rfl, .ty _, hv1.ty, kit_tu d, u, rfl, u, _, _, _, _, rfl, .ty _, hu1.ty, kit_tu d, rfl, _, rfl, ?_⟩
      rw [decide_eq_true rfl]
      refine iteF ?_
      have kind : ∃ (a b : Addr) (xs ys : List V), v = .ref a ∧ u = .ref b ∧ ThAll H1 xs (its d) ∧ ThAll H1 ys (its d) ∧ ((H1 a = some (.lst xs) ∧ H1 b = some (.lst ys)) ∨ (H1 a = some (.tup xs) ∧ H1 b = some (.tup ys))) := by
        cases hv1 with
        | lst h r => cases hu1 with | lst h2 r2 => exact ⟨_, _, _, _, rfl, rfl, r, r2, .inl ⟨h, h2⟩⟩
        | tup h r => cases hu1 with | tup h2 r2 => exact ⟨_, _, _, _, rfl, rfl, r, r2, .inr ⟨h, h2⟩⟩
        | _ => exact absurd (show false = true from l0) Bool.false_ne_true
      obtain ⟨a, b, xs, ys, rfl, rfl, rx, ry, hk⟩ := kind
      have lx : xs.length = (its d).length := rx.length
      have ly : ys.length = (its d).length := ry.length
      have sA : SqL K H1 a xs ∨ SqT K H1 a xs := hk.elim (fun q => .inl (.inl (.inl q.1))) fun q => .inr (.inl (.inl q.1))
      have sB : SqL K H1 b ys ∨ SqT K H1 b ys := hk.elim (fun q => .inl (.inl (.inl q.2))) fun q => .inr (.inl (.inl q.2))
      refine ⟨.ref a, rfl, a, xs, rfl, sA, .ref b, rfl, b, ys, rfl, sB, rfl, _, rfl, ?_⟩
      rw [lx, ly, decide_eq_true rfl]
      refine iteT ⟨.ref a, rfl, .ref b, rfl, a, b, xs, ys, rfl, ?_⟩
      let Pv (D0 : Addr) (j : Nat) (H2 : Hp) : Prop := L2.Same H1 H2 ∧ H2 D0 = some (.lst ((List.replicate j true).map V.bl))
      have start : ∀ D0, H1 D0 = none → Pv D0 0 (upd H1 D0 (.lst [])) := fun D0 hD => ⟨same_new hD, upd_same⟩
      have turn : ∀ D0, H1 D0 = none → ∀ (j : Nat) (x : V) (H2 H3 : Hp) (σ : L2.St), j < (its d).length → Pv D0 j H2 → YPair (fun i => xs[i]?) (fun i => ys[i]?) j H2 x H3 → σ = [some (.ref a), some (.ref b), none, none] →
          gTup K 2 (gCons (gName 2) (gCons (gName 3) gNil)) x σ H3 fun σ2 H4 => wipe σ2 [2, 3] = wipe σ [2, 3] ∧ tYes σ2 H4 fun c H5 => if c = true then tCall (spSm n) [] noE (tCons (tVar 2) (tCons (tVar 3) tNil)) σ2 H5 fun y H6 => ∃ acc, H6 D0 = some (.lst acc) ∧ acc.length < sizeLine ∧ Pv D0 (j + 1) (upd H6 D0 (.lst (acc ++ [y]))) else Pv D0 (j + 1) H5 := by
        intro D0 hD j x H2 H3 σ hj hp hy es
        subst es
        obtain ⟨T, x0, y0, rfl, nT, rfl, g1, g2⟩ := hy
        obtain ⟨q1, q2⟩ := hp
        obtain ⟨z, hz, tz⟩ := rx.get g1
        obtain ⟨z2, hz2, tz2⟩ := ry.get g2
        rw [hz] at hz2
        obtain rfl := Option.some.inj hz2
        have eT : L2.Same H2 (upd H2 T (.tup [x0, y0])) := same_new nT
        refine ⟨T, [x0, y0], rfl, .inl (.inl upd_same), rfl, x0, [y0], rfl, y0, [], rfl, rfl, rfl, ?_⟩
        unfold tYes
        show (if true = true then _ else _)
        rw [if_pos rfl]
        refine ⟨x0, rfl, y0, rfl, x0, y0, z, rfl, tz.ext (q1.trans eT), tz2.ext (q1.trans eT), fits z (List.mem_of_getElem? hz), fun H6 e6 => ⟨_, e6 _ _ (eT _ _ q2), ?_, fun c o ec => ?_, ?_⟩⟩
        · rw [List.length_map, List.length_replicate, sizeLine_eq]
          omega
        · rw [upd_ne (ne_of_none ec hD)]
          exact e6 _ _ (eT _ _ (q1 _ _ ec))
        · rw [upd_same, List.replicate_succ', List.map_append]
          rfl
      have fin : ∀ D0, H1 D0 = none → ∀ H2, Pv D0 (its d).length H2 → rAll K [.ref D0] H2 Q := fun D0 hD H2 ⟨q1, q2⟩ => by
        refine ⟨D0, List.replicate (its d).length true, rfl, .inl (.inl q2), ?_⟩
        have e : (List.replicate (its d).length true).all id = true := List.all_eq_true.mpr fun x hx => (List.mem_replicate.mp hx).2
        rw [e]
        exact k H2 (e1.trans q1)
      rcases hk with ⟨ha, hb⟩ | ⟨ha, hb⟩
      · exact .inl ⟨.inl (.inl ha), .inl (.inl hb), fun D0 hD => lc_it (walk_zip (n := (its d).length) (by omega)) (Pv D0) (start D0 hD) (fun i H2 _ e => ⟨.inl (.inl (e.1 _ _ ha)), .inl (.inl (e.1 _ _ hb))⟩) (fun i x H2 H3 hi e hy => turn D0 hD i x H2 H3 _ hi e hy rfl) (fun H2 e => fin D0 hD H2 e)⟩
      · exact .inr ⟨.inl (.inl ha), .inl (.inl hb), fun D0 hD => lc_it (walk_zipT (n := (its d).length) (by omega)) (Pv D0) (start D0 hD) (fun i H2 _ e => ⟨.inl (.inl (e.1 _ _ ha)), .inl (.inl (e.1 _ _ hb))⟩) (fun i x H2 H3 hi e hy => turn D0 hD i x H2 H3 _ hi e hy rfl) (fun H2 e => fin D0 hD H2 e)⟩
    | false =>
      cases d0 : isD d with
      | false => exact sm_flat B hv hu l0 d0 k
      | true =>
        refine ⟨_, PSs.nox (pss_cons (ps_if (pt_val (pe_callB call_isiT (by rfl) B.is boot_isi (pa_cons (pv 1) (pa_cons (pe_tup (pa_cons (pe_bltn (by rfl) B.li boot_li (v := .ty "list") rfl) (pa_cons (pe_bltn (by rfl) B.tu boot_tu (v := .ty "tuple") rfl) pa_nil))) pa_nil)))) pss_never pss_nil)
          (pss_cons (ps_if (pt_val (pe_callB call_isi (by rfl) B.is boot_isi (pa_cons (pv 1) (pa_cons (pe_bltn (by rfl) B.di boot_di (v := .ty "dict") rfl) pa_nil))))
            (pss_one (ps_ret (pe_and (pe_callB call_isi (by rfl) B.is boot_isi (pa_cons (pv 0) (pa_cons (pe_bltn (by rfl) B.di boot_di (v := .ty "dict") rfl) pa_nil))) (pe_one (pe_has SELF hr (by rfl) (pa_cons (pe_listItems rfl (pv 0) (by rfl) B.li boot_li) (pa_cons (pe_listItems rfl (pv 1) (by rfl) B.li boot_li) pa_nil))))))) pss_nil) pss_never)), ?_⟩
        refine ⟨u, rfl, small4 2, fun p np => ⟨u, p, _, _, _, _, rfl, upd_same, .cons (.ty _) (.cons (.ty _) .nil), (hu.ext (same_new np)).ty, is_lt d, _, rfl, ?_⟩⟩
        rw [l0]
        have e1 : L2.Same H (upd H p (.tup [.ty "list", .ty "tuple"])) := same_new np
        generalize upd H p (.tup [.ty "list", .ty "tuple"]) = H1 at e1 ⊢
        have hv1 := hv.ext e1
        have hu1 := hu.ext e1
        refine iteF ⟨u, rfl, u, _, _, _, _, rfl, .ty _, hu1.ty, is_di d, _, rfl, ?_⟩
        rw [d0]
        refine iteT ⟨v, rfl, v, _, _, _, _, rfl, .ty _, hv1.ty, is_di d, _, rfl, ?_⟩
        rw [d0]
        cases hv1 with
        | @dct a kvs ps h r =>
          cases hu1 with
          | @dct b kvs2 ps2 h2 r2 =>
            obtain ⟨f1, f2⟩ := Bool.and_eq_true_iff.mp (show (decide (ps.length ≤ 1000) && fitS n (.list (ps.map fun p => .tuple [p.1, p.2]))) = true from hf)
            refine iteT ⟨.ref a, rfl, a, kvs, rfl, h, fun H2 q ts e2 nq nt nm hq pr => ?_⟩
            refine ⟨.ref b, rfl, b, kvs2, rfl, e2 _ _ h2, fun H3 q2 ts2 e3 nq2 nt2 nm2 hq2 pr2 => ?_⟩
            have ta : Th H3 (.ref q) (.list (ps.map fun p => .tuple [p.1, p.2])) := (Th.lst hq (th_items e2 pr r)).ext e3
            have tb : Th H3 (.ref q2) (.list (ps.map fun p => .tuple [p.1, p.2])) := .lst hq2 (th_items (fun b o z => e3 b o (e2 b o z)) pr2 r2)
            exact ⟨.ref q, .ref q2, _, rfl, ta, tb, f2, fun H' e => k H' (e1.trans (fun b o z => e b o (e3 b o (e2 b o z))))⟩
        | _ => exact absurd (show false = true from d0) Bool.false_ne_true
end
end K14.T69
namespace K14.T69
open T27 T3
open K14.Gn
open PySem PySem.W PySem.Calls PyProof.Rows L2 LamX
open He (ga)
open Kz (small4 same_new boot_in boot_li boot_isi Has pe_has noE)
theorem scBn : FnScope ["word", "sign"] ["word"] (defScope sBn) := ⟨rfl, rfl, rfl, by decide +kernel, rfl, by decide +kernel, by decide +kernel⟩
theorem scNm : FnScope ["thing"] ["thing"] (defScope sNm) := ⟨rfl, rfl, rfl, by decide +kernel, rfl, by decide +kernel, by decide +kernel⟩
def scOfB1 : List Stmt → Scope
  | [_, .Return (some (.Call _ [.ListComp _ _ sc _] _ _)) _] => sc
  | _ => defScope sBn
def bnSc : Scope := scOfB1 (defBody sBn)
theorem bdBn : defBody sBn = [stOf sBn 0, stOf sBn 1] := by rfl
section
variable {P : Program} {w : World} {K : Frag} {mg : Str → Option Value} {base : Heap}
theorem ok_bn {f : Addr} {fd : FuncData} (F : FunD K "begins_name" "begins_name" (defArgs sBn) (defBody sBn) (defScope sBn) [] [] f fd) (N : NmK K mg) : FnOk P w K mg base CX0 1 f fd ["word"] spBn := by
  obtain ⟨t1, g1⟩ := N.ll
  obtain ⟨t2, g2⟩ := N.ns
  obtain ⟨t3, g3⟩ := N.ln
  refine F.ok scBn (fun vs H Q E h => ?_) (fun cdv A outer s H vs Q XE hr h => ?_)
  · obtain ⟨s, rfl, _⟩ := h
    rfl
  · obtain ⟨z, rfl, hz, k⟩ := h
    have h0 : PS (cxOf CX0 P w K mg base ["word", "sign"] "begins_name" (defScope sBn) f cdv A outer s H XE).nox (stOf sBn 0) _ := ps_if ((pw_or (pt_not (pt_chain op_lt op_le pe_int (pe_callB call_len_str (by rfl) N.len boot_len (pa_cons (pv 0) pa_nil)) (pe_glob (v := .int 8) (by rfl) g3 ⟨_, rfl⟩ (by decide)))))
      (pw_or1 (pt_cmpR op_notIn_sign (pe_ix ix_str (pv 0) pe_int (fun _ _ => rfl)) (pe_glob (v := .str letters) (by rfl) g1 ⟨_, rfl⟩ (by decide)) (by rfl)))).pt (pss_one (ps_ret pe_bl)) pss_nil
    have h1 : PS (cxOf CX0 P w K mg base ["word", "sign"] "begins_name" (defScope sBn) f cdv A outer s H XE).nox (stOf sBn 1) _ := ps_ret (pe_callB (cr_all rfl) (by rfl) N.all boot_all (pa_cons (pe_lc (X := (cxOf CX0 P w K mg base ["word", "sign"] "begins_name" (defScope sBn) f cdv A outer s H XE).nox) (scope := bnSc) (own := [("sign", 1)]) (g := gName 1) (tt := tYes)
      (te := tOp (fun x y H Q => ∃ (c : Nat) (z : Str), x = .str ⟨#[c]⟩ ∧ y = .str z ∧ Q (.bl (decide (c ∈ z.cps.toList))) H) (tVar 1) (tC (.str signs))) rfl scBn.nd
      (pi_str (pv 0)) (blkOk_by (N := ["word", "sign"]) (sc := defScope sBn) (by decide +kernel)) (fun _ _ _ _ _ => pg_name (i := 1) scBn.nd rfl (Or.inl rfl)) (fun _ _ _ _ _ => pts_nil)
      (fun s0 H0 C0 cl0 fp0 => pe_cmpR (X := Cx.blk ((cxOf CX0 P w K mg base ["word", "sign"] "begins_name" (defScope sBn) f cdv A outer s H XE).nox) s0 H0 bnSc (compEnvC bnSc cl0 C0 (Cx.env ((cxOf CX0 P w K mg base ["word", "sign"] "begins_name" (defScope sBn) f cdv A outer s H XE).nox))) fp0) op_in_sign (pv 1) (pe_glob (v := .str signs) (by rfl) g2 ⟨_, rfl⟩ (by decide)) (by rfl))) pa_nil))
    refine ⟨_, PSs.nox (Kz.PSs.of_eq bdBn (pss_cons h0 (pss_one h1))), ?_⟩
    clear h0 h1
    have LC : z.length = z.cps.toList.length := by rw [Array.length_toList]; rfl
    refine ⟨.str z, rfl, z, rfl, (by rw [sizeLine_eq]; omega), 0, _, rfl, rfl, _, rfl, ite2 (fun e0 => ?_) (fun e0 => ?_)⟩
    · refine ⟨_, 8, rfl, rfl, _, rfl, ?_⟩
      obtain ⟨c, r, ez⟩ : ∃ c r, z.cps.toList = c :: r := by
        cases q : z.cps.toList with
        | nil =>
          rw [q] at LC
          have := of_decide_eq_true e0
          simp at LC
          omega
        | cons c r => exact ⟨c, r, rfl⟩
      have eb : bnB z = (decide (z.length ≤ 8) && (decide (c ∈ letters.cps.toList) && (c :: r).all fun c => decide (c ∈ signs.cps.toList))) := by
        unfold bnB
        rw [ez]
      by_cases hl : z.length ≤ 8
      · have e8 : decide ((z.length : Int) ≤ 8) = true := decide_eq_true (by omega)
        show (if (!decide ((z.length : Int) ≤ 8)) = true then _ else _)
        rw [e8]
        refine iteF ⟨.str z, rfl, z, 0, c, rfl, rfl, (by rw [sizeLine_eq]; omega), (by rw [ez]; exact atI_nat (j := 0) rfl), c, letters, rfl, rfl, _, rfl, ?_⟩
        rw [decide_eq_true hl, Bool.true_and] at eb
        cases q : decide (c ∈ letters.cps.toList) with
        | false =>
          rw [q] at eb
          refine iteT ?_
          have kk := k H (fun _ _ e => e)
          rw [eb] at kk
          exact kk
        | true =>
          rw [q, Bool.true_and] at eb
          refine iteF ?_
          refine ⟨.str z, rfl, z, rfl, fun D hD => lc_it walk_str (fun j G => L2.Same H G ∧ G D = some (.lst ((z.cps.toList.take j).map fun c => V.bl (decide (c ∈ signs.cps.toList))))) ⟨same_new hD, upd_same⟩ (fun _ _ _ _ => trivial) (fun j x G G' hj hp hy => ?_) (fun G hp => ?_)⟩
          · obtain ⟨rfl, ch, ec, rfl⟩ := hy
            obtain ⟨S, hA⟩ := hp
            refine ⟨rfl, ?_⟩
            unfold tYes
            show (if true = true then _ else _)
            rw [if_pos rfl]
            refine ⟨_, rfl, ch, signs, rfl, rfl, _, hA, ?_, fun b o e => ?_, ?_⟩
            · rw [List.length_map, List.length_take, sizeLine_eq]
              omega
            · rw [upd_ne (ne_of_none e hD)]
              exact S _ _ e
            · rw [upd_same]
              have ec' : z.cps.toList[j]? = some ch := by rw [Array.getElem?_toList]; exact ec
              have et : z.cps.toList.take (j + 1) = z.cps.toList.take j ++ [ch] := by
                rw [List.take_add_one, ec']
                rfl
              rw [et, List.map_append]
              rfl
          · obtain ⟨S, hA⟩ := hp
            have hA : G D = some (.lst ((z.cps.toList.take z.cps.size).map fun c => V.bl (decide (c ∈ signs.cps.toList)))) := hA
            rw [show z.cps.size = z.cps.toList.length from (Array.length_toList).symm, List.take_length] at hA
            refine ⟨D, z.cps.toList.map fun c => decide (c ∈ signs.cps.toList), rfl, .inl (.inl (by rw [List.map_map]; exact hA)), ?_⟩
            rw [List.all_map]
            have kk := k G S
            rw [eb, ← ez] at kk
            exact kk
      · have e8 : decide ((z.length : Int) ≤ 8) = false := decide_eq_false (by omega)
        show (if (!decide ((z.length : Int) ≤ 8)) = true then _ else _)
        rw [e8]
        refine iteT (iteT ?_)
        have kk := k H (fun _ _ e => e)
        rw [eb, decide_eq_false hl, Bool.false_and] at kk
        exact kk
    · refine ⟨false, rfl, iteT (iteT ?_)⟩
      have kk := k H (fun _ _ e => e)
      have eb : bnB z = false := by
        unfold bnB
        cases q : z.cps.toList with
        | nil => rfl
        | cons c r =>
          rw [q] at LC
          exact absurd (decide_eq_true (by rw [LC]; simp)) e0
      rw [eb] at kk
      exact kk
theorem ok_nm {f : Addr} {fd : FuncData} (F : FunD K "is_name" "is_name" (defArgs sNm) (defBody sNm) (defScope sNm) [] [] f fd) (N : NmK K mg) (B : Has P w K mg base "begins_name" 1 ["word"] spBn) : FnOk P w K mg base CX0 2 f fd ["thing"] spNm := by
  obtain ⟨ak, gk, qk⟩ := N.kp
  refine F.ok scNm (fun vs H Q E h => ?_) (fun cdv A outer s H vs Q XE hr h => ?_)
  · obtain ⟨v, d, rfl, _⟩ := h
    rfl
  · obtain ⟨v, d, rfl, hv, hl, k⟩ := h
    refine ⟨_, PSs.nox (pss_one (ps_ret (pe_and (pe_callB call_isi (by rfl) N.isi boot_isi (pa_cons (pv 0) (pa_cons (pe_bltn (by rfl) N.str boot_st (v := .ty "str") rfl) pa_nil))) (pe_and (pe_has B hr (by rfl) (pa_cons (pv 0) pa_nil)) (pe_one (pe_cmpR op_notIn_seq (pv 0) (pe_glob (v := .ref ak) (by rfl) gk rfl (by decide)) (by rfl))))))), ?_⟩
    refine ⟨v, rfl, v, _, _, _, _, rfl, .ty _, hv.ty, is_st d, _, rfl, ?_⟩
    cases hv with
    | str x =>
      refine iteT ⟨.str x, rfl, x, rfl, hl x rfl, fun H1 s1 => ⟨_, rfl, ?_⟩⟩
      have kk := k H1 s1
      have eb : nameB (.str x) = (bnB x && !keptB x) := rfl
      rw [eb] at kk
      cases q : bnB x with
      | false =>
        rw [q] at kk
        exact iteF kk
      | true =>
        rw [q, Bool.true_and] at kk
        exact iteT ⟨.str x, rfl, ak, _, rfl, .inr (qk H1), rfl, rfl, kk⟩
    | _ => exact iteF (k H (fun _ _ e => e))
end
end K14.T69
namespace K14.T69
open T27 T3
open K14.Gn
open PySem PySem.W PySem.Calls PyProof.Rows L2 LamX
open He (ga)
open Kz (SS ExtS ExtS.trans small4 same_new boot_in boot_li boot_isi Has pe_has noE PSs.of_eq new_ext)
theorem scPk : FnScope ["stream", "some"] ["stream", "some"] (defScope sPk) := ⟨rfl, rfl, rfl, by decide +kernel, rfl, by decide +kernel, by decide +kernel⟩
theorem bdPk : defBody sPk = [stOf sPk 0] := by rfl
section
variable {P : Program} {w : World} {K : Frag} {mg : Str → Option Value} {base : Heap}
theorem ok_pk {f : Addr} {fd : FuncData} (F : FunD K "_law_pick" "_law_pick" (defArgs sPk) (defBody sPk) (defScope sPk) [] [] f fd) (D : Has P w K mg base "_law_draw" 1 ["stream", "many"] spDrW) (mn : mg "len" = none) : FnOk P w K mg base CX0 2 f fd ["stream", "some"] spPk := by
  refine F.ok scPk (fun vs H Q E h => ?_) (fun cdv A outer s H vs Q XE hr h => ?_)
  · obtain ⟨l, li, sa, c, xs, rfl, _⟩ := h
    rfl
  · obtain ⟨l, li, sa, c, xs, rfl, hs, hsa, n1, n2, x0, x1, c1, k⟩ := h
    have h0 : PS (cxOf CX0 P w K mg base ["stream", "some"] "_law_pick" (defScope sPk) f cdv A outer s H XE).nox (stOf sPk 0) _ := ps_ret (pe_ix ix_seq (pv 1) (pe_has D hr (by rfl) (pa_cons (pv 0) (pa_cons (pe_callB call_len_seq (by rfl) mn boot_len (pa_cons (pv 1) pa_nil)) pa_nil))) (fun _ _ => rfl))
    refine ⟨_, PSs.nox (PSs.of_eq bdPk (pss_one h0)), ?_⟩
    clear h0
    refine ⟨.ref sa, rfl, .ref l, rfl, .ref sa, rfl, sa, xs, rfl, .inl (.inl (.inl hsa)), l, li, c, (xs.length : Nat), rfl, hs, by omega, by omega, by omega, fun H1 r e1 s1 r0 r1 => ?_⟩
    obtain ⟨n, rfl⟩ : ∃ n : Nat, r = (n : Nat) := ⟨r.toNat, by omega⟩
    have rk : n < xs.length := by omega
    exact .inl ⟨sa, xs, _, xs[n], rfl, rfl, .inl (.inl (e1 _ _ hsa n1 n2)), atI_nat (List.getElem?_eq_getElem rk), k H1 _ e1 s1 (List.getElem_mem _)⟩
end
end K14.T69
namespace K14.T69
open T27 T3
open K14.Gn
open PySem PySem.W PySem.Calls PyProof.Rows L2 LamX
open He (ga)
open Kz (SS ExtS ExtS.trans small4 same_new boot_in boot_li boot_isi Has pe_has noE PSs.of_eq new_ext X1)
open DiM
theorem scCf : FnScope ["fault"] ["fault"] (defScope sCf) := ⟨rfl, rfl, rfl, by decide +kernel, rfl, by decide +kernel, by decide +kernel⟩
section
variable {P : Program} {w : World} {K : Frag} {mg : Str → Option Value} {base : Heap}
theorem ok_cf {f : Addr} {fd : FuncData} (F : FunD K "check_fault" "check_fault" (defArgs sCf) (defBody sCf) (defScope sCf) [] [] f fd) : FnOk P w K mg base CX0 1 f fd ["fault"] spCf := by
  refine F.ok scCf (fun vs H Q E h => ?_) (fun cdv A outer s H vs Q XE hr h => ?_)
  · obtain ⟨rfl, _⟩ := h
    rfl
  · obtain ⟨rfl, k⟩ := h
    refine ⟨_, PSs.nox (pss_one (ps_if (pt_cmp (pc_notN (pv 0)) (by rfl)) (pss_one ps_never) pss_nil)), ?_⟩
    exact ⟨.non, rfl, _, rfl, iteF k⟩
theorem okx_cf {f : Addr} {fd : FuncData} (F : FunD K "check_fault" "check_fault" (defArgs sCf) (defBody sCf) (defScope sCf) [] [] f fd) (T : mg "BadText" = some (.ref (ga K "BadText")) ∧ X1 P K (ga K "BadText") "index") : FnOk P w K mg base (L2.CX P w) 2 f fd ["fault"] (spCfX K) := by
  refine F.ok scCf (fun vs H Q E h => ?_) (fun cdv A outer s H vs Q XE hr h => ?_)
  · obtain ⟨i, rfl, _⟩ := h
    rfl
  · obtain ⟨i, rfl, k⟩ := h
    refine ⟨_, pss_one (ps_if (pt_cmp (pc_notN (pv 0)) (by rfl)) (pss_one (ps_raise rfl (takes_of rfl rfl rfl rfl) (pmk_x1 T.2 (hr.mono (by decide)) rfl (by rfl) T.1 (pv 0)))) pss_nil), ?_⟩
    exact ⟨.int i, rfl, _, rfl, iteT ⟨.int i, rfl, fun dx n => k _ dx (same_new n) upd_same⟩⟩
end
end K14.T69
namespace K14.T69
open T27 T3
open K14.Gn
open PySem PySem.W PySem.Calls PyProof.Rows L2 LamX
open He (ga)
open Kz (SS ExtS ExtS.trans small4 same_new boot_in boot_li boot_isi Has pe_has noE PSs.of_eq new_ext X1)
theorem scSp : FnScope NSp ["thing"] (defScope sSp) := ⟨rfl, rfl, rfl, by decide +kernel, rfl, by decide +kernel, by decide +kernel⟩
theorem bdSp : defBody sSp = [stOf sSp 0, stOf sSp 1, stOf sSp 2] := by rfl
section
variable {P : Program} {w : World} {K : Frag} {mg : Str → Option Value} {base : Heap}
theorem sp_flat (B : BtK mg) {f : Addr} {cdv : Value} {A : Around} {outer : List Env} {s : Shared} {H : Hp} {Q : VK} {XE : XK} {v : V} {d : PyData} {fp : List Addr} (hv : Own H v d fp) (l0 : isL d = false) (k : ∀ H', Spl fp H H' → Q .non H') :
    ∃ t, PSs (cxOf CX0 P w K mg base NSp "_law_spoilt" (defScope sSp) f cdv A outer s H XE) (defBody sSp) t ∧ t { nx := fun _ H' => Q .non H', rt := Q } (L2.start NSp [v]) H := by
  have e0 : fp = [] := by cases hv <;> first | rfl | exact absurd (show true = false from l0) (fun z => nomatch z)
  have l1 : isLs d = false := by cases hv <;> first | rfl | exact absurd (show true = false from l0) (fun z => nomatch z)
  subst e0
  have tv := hv.th
  refine ⟨_, PSs.nox (PSs.of_eq bdSp (pss_cons (ps_if (pt_val (pe_callB call_isi (by rfl) B.is boot_isi (pa_cons (pv 0) (pa_cons (pe_bltn (by rfl) B.di boot_di (v := .ty "dict") rfl) pa_nil)))) pss_never pss_nil)
    (pss_cons (ps_if (pt_val (pe_callB call_isiT (by rfl) B.is boot_isi (pa_cons (pv 0) (pa_cons (pe_tup (pa_cons (pe_bltn (by rfl) B.li boot_li (v := .ty "list") rfl) (pa_cons (pe_bltn (by rfl) B.tu boot_tu (v := .ty "tuple") rfl) pa_nil))) pa_nil)))) pss_never pss_nil)
    (pss_one (ps_if (pt_val (pe_callB call_isi (by rfl) B.is boot_isi (pa_cons (pv 0) (pa_cons (pe_bltn (by rfl) B.li boot_li (v := .ty "list") rfl) pa_nil)))) pss_never pss_nil))))), ?_⟩
  refine ⟨v, rfl, v, _, _, _, _, rfl, .ty _, tv.ty, is_di d, _, rfl, ?_⟩
  rw [hv.no_dict]
  refine iteF ⟨v, rfl, small4 2, fun p np => ⟨v, p, _, _, _, _, rfl, upd_same, .cons (.ty _) (.cons (.ty _) .nil), (tv.ext (same_new np)).ty, is_lt d, _, rfl, ?_⟩⟩
  rw [l0]
  refine iteF ⟨v, rfl, v, _, _, _, _, rfl, .ty _, (tv.ext (same_new np)).ty, kit_ls d, _, rfl, ?_⟩
  rw [l1]
  exact iteF (k _ (Spl.nil (same_new np)))
def spB : Stmt := match stOf sSp 1 with
  | .If _ [s] _ _ => s
  | s => s
theorem ok_sp {f : Addr} {fd : FuncData} (F : FunD K "_law_spoilt" "_law_spoilt" (defArgs sSp) (defBody sSp) (defScope sSp) [] [] f fd) (mm : mg "_law_spoilt" = some (.ref f)) (kp : keepIn K (.ref f) = true) (bd : L2.Binds K fd ["thing"] []) (B : BtK mg) : ∀ n, FnOk P w K mg base CX0 (n + 1) f fd ["thing"] (spSp n) := by
  intro n
  induction n with
  | zero =>
    refine F.ok scSp (fun vs H Q E h => sp_len h) (fun cdv A outer s H vs Q XE hr h => ?_)
    obtain ⟨v, d, g, rfl, hv, hf, nd, k⟩ := h
    refine sp_flat B hv ?_ k
    cases d <;> first | rfl | exact absurd (show false = true from hf) Bool.false_ne_true
  | succ n ih =>
    have SELF : Has P w K mg base "_law_spoilt" (n + 1) ["thing"] (spSp n) := ⟨f, fd, mm, kp, bd, ih⟩
    refine F.ok scSp (fun vs H Q E h => sp_len h) (fun cdv A outer s H vs Q XE hr h => ?_)
    obtain ⟨v, d, g, rfl, hv, hf, nd, k⟩ := h
    cases l0 : isL d with
    | false => exact sp_flat B hv l0 k
    | true =>
      have bF : PS (cxOf CX0 P w K mg base NSp "_law_spoilt" (defScope sSp) f cdv A outer s H XE).nox ((forBody spB).getD 0 (.Pass ⟨0, 0, 0, 0⟩)) _ := ps_expr (pe_has SELF hr (by rfl) (pa_cons (pv 2) pa_nil))
      refine ⟨_, PSs.nox (PSs.of_eq bdSp (pss_cons (ps_if (pt_val (pe_callB call_isi (by rfl) B.is boot_isi (pa_cons (pv 0) (pa_cons (pe_bltn (by rfl) B.di boot_di (v := .ty "dict") rfl) pa_nil)))) pss_never pss_nil)
        (pss_cons (ps_if (pt_val (pe_callB call_isiT (by rfl) B.is boot_isi (pa_cons (pv 0) (pa_cons (pe_tup (pa_cons (pe_bltn (by rfl) B.li boot_li (v := .ty "list") rfl) (pa_cons (pe_bltn (by rfl) B.tu boot_tu (v := .ty "tuple") rfl) pa_nil))) pa_nil))))
          (pss_one (ps_for PassesOwn.never rfl (pi_sq (pv 0)) (pg_name (i := 2) scSp.nd rfl (.inl rfl)) (pss_one bF))) pss_nil)
        (pss_one (ps_if (pt_val (pe_callB call_isi (by rfl) B.is boot_isi (pa_cons (pv 0) (pa_cons (pe_bltn (by rfl) B.li boot_li (v := .ty "list") rfl) pa_nil))))
          (pss_one (ps_expr (pe_bm PySem.F.plainAttrs_list PySem.F.slot_list_append PySem.F.type_list_append mt_append (pv 0) (pa_cons pe_str pa_nil)))) pss_nil))))), ?_⟩
      clear bF
      have tv := hv.th
      obtain ⟨a, xs, ds, fp, rfl, ow, ha, fit, ndp, kk⟩ : ∃ (a : Addr) (xs : List V) (ds : List PyData) (fp : List Addr), v = .ref a ∧ OwnA H xs ds fp ∧ ((H a = some (.lst xs) ∧ a ∉ fp ∧ isLs d = true ∧ g = a :: fp ∧ xs.length ≤ 1000) ∨ (H a = some (.tup xs) ∧ isLs d = false ∧ g = fp)) ∧ (∀ x ∈ ds, fitS n x = true) ∧ fp.Nodup ∧ True := by
        cases hv with
        | lst h l r =>
          obtain ⟨n1, n2⟩ := List.nodup_cons.mp nd
          exact ⟨_, _, _, _, rfl, r, .inl ⟨h, n1, rfl, rfl, l⟩, fun x hx => List.all_eq_true.mp (Bool.and_eq_true_iff.mp hf).2 x hx, n2, trivial⟩
        | tup h r => exact ⟨_, _, _, _, rfl, r, .inr ⟨h, rfl, rfl⟩, fun x hx => List.all_eq_true.mp (Bool.and_eq_true_iff.mp hf).2 x hx, nd, trivial⟩
        | _ => exact absurd (show false = true from l0) Bool.false_ne_true
      refine ⟨.ref a, rfl, .ref a, _, _, _, _, rfl, .ty _, tv.ty, is_di d, _, rfl, ?_⟩
      rw [hv.no_dict]
      refine iteF ⟨.ref a, rfl, small4 2, fun p np => ⟨.ref a, p, _, _, _, _, rfl, upd_same, .cons (.ty _) (.cons (.ty _) .nil), (tv.ext (same_new np)).ty, is_lt d, _, rfl, ?_⟩⟩
      rw [l0]
      have e1 : L2.Same H (upd H p (.tup [.ty "list", .ty "tuple"])) := same_new np
      generalize upd H p (.tup [.ty "list", .ty "tuple"]) = H1 at e1 ⊢
      refine iteT (sp_loop (ow.ext e1) fit ndp (ha.imp (fun h => ⟨e1 _ _ h.1, h.2.1⟩) (fun h => e1 _ _ h.1)) fun G x1 x2 S => ?_)
      have S0 : Spl fp H G := ⟨fun b o n h => S.1 b o n (e1 _ _ h), fun b m ys h => S.2 b m ys (e1 _ _ h)⟩
      rcases ha with ⟨ha, na, li, rfl, lx⟩ | ⟨ha, li, rfl⟩
      · have hG := S0.1 _ _ na ha
        refine ⟨.ref a, rfl, .ref a, _, _, _, _, rfl, .ty _, .base (.lst hG), (show kitOne K (.type "list") (.type "list") = some true from kit_ls (.list [])), _, rfl, ?_⟩
        refine iteT ⟨.ref a, rfl, .inl ⟨rfl, _, .inl (.inl hG)⟩, a, xs, lateS, rfl, rfl, hG, (by rw [sizeLine_eq]; omega), ?_⟩
        refine k _ ⟨fun b o n h => ?_, fun b m ys h => ?_⟩
        · rw [upd_ne (fun z => n (by rw [z]; exact List.mem_cons_self))]
          exact S0.1 b o (fun z => n (List.mem_cons_of_mem _ z)) h
        · rcases List.mem_cons.mp m with rfl | m
          · rw [ha] at h
            cases h
            exact upd_same
          · rw [upd_ne (fun z => na (by rw [← z]; exact m))]
            exact S0.2 b m ys h
      · refine ⟨.ref a, rfl, .ref a, _, _, _, _, rfl, .ty _, .base (.tup (S0.tup ow.lsts _ _ ha)), (show kitOne K (.type "tuple") (.type "list") = some false from kit_ls (.tuple [])), _, rfl, ?_⟩
        exact iteF (k _ S0)
end
end K14.T69
namespace K14.T69
open T27 T3
open K14.Gn
open PySem PySem.W PySem.Calls PyProof.Rows L2 LamX
open He (ga)
open Kz (SS ExtS ExtS.trans small4 same_new boot_in boot_li boot_isi Has pe_has noE PSs.of_eq new_ext X1)
theorem scIn1 : FnScope NIn1 ["thing"] (defScope sIn1) := ⟨rfl, rfl, rfl, by decide +kernel, rfl, by decide +kernel, by decide +kernel⟩
theorem bdIn1 : defBody sIn1 = [stOf sIn1 0, stOf sIn1 1, stOf sIn1 2] := by rfl
def scOnc : Stmt → Scope
  | .If _ (_ :: .Return (some (.BoolOp _ [_, .Call _ [.ListComp _ _ sc _] _ _] _)) _ :: _) _ _ => sc
  | _ => defScope sIn1
def onB (i : Nat) : Stmt := (ifB (stOf sIn1 1)).getD i (.Pass ⟨0, 0, 0, 0⟩)
def onSc : Scope := scOnc (stOf sIn1 1)
theorem chkOn : blkC NIn1 (defScope sIn1) onSc [("part", 3)] = true := by decide +kernel
section
variable {P : Program} {w : World} {K : Frag} {mg : Str → Option Value} {base : Heap}
theorem on_flat (B : BtK mg) {f : Addr} {cdv : Value} {A : Around} {outer : List Env} {s : Shared} {H : Hp} {Q : VK} {XE : XK} {v : V} {d : PyData} (tv : Th H v d) (dd : isD d = false) (l0 : isL d = false) (k : ∀ H', L2.Same H H' → Q (.bl true) H') :
    ∃ t, PSs (cxOf CX0 P w K mg base NIn1 "_law_is_once" (defScope sIn1) f cdv A outer s H XE) (defBody sIn1) t ∧ t { nx := fun _ H' => Q .non H', rt := Q } (L2.start NIn1 [v]) H := by
  refine ⟨_, PSs.nox (PSs.of_eq bdIn1 (pss_cons (ps_if (pt_val (pe_callB call_isi (by rfl) B.is boot_isi (pa_cons (pv 0) (pa_cons (pe_bltn (by rfl) B.di boot_di (v := .ty "dict") rfl) pa_nil)))) pss_never pss_nil)
    (pss_cons (ps_if (pt_val (pe_callB call_isiT (by rfl) B.is boot_isi (pa_cons (pv 0) (pa_cons (pe_tup (pa_cons (pe_bltn (by rfl) B.li boot_li (v := .ty "list") rfl) (pa_cons (pe_bltn (by rfl) B.tu boot_tu (v := .ty "tuple") rfl) pa_nil))) pa_nil)))) pss_never pss_nil)
    (pss_one (ps_ret pe_bl))))), ?_⟩
  refine ⟨v, rfl, v, _, _, _, _, rfl, .ty _, tv.ty, is_di d, _, rfl, ?_⟩
  rw [dd]
  refine iteF ⟨v, rfl, small4 2, fun p np => ⟨v, p, _, _, _, _, rfl, upd_same, .cons (.ty _) (.cons (.ty _) .nil), (tv.ext (same_new np)).ty, is_lt d, _, rfl, ?_⟩⟩
  rw [l0]
  exact iteF (k _ (same_new np))
theorem ok_on {f : Addr} {fd : FuncData} (F : FunD K "_law_is_once" "_law_is_once" (defArgs sIn1) (defBody sIn1) (defScope sIn1) [] [] f fd) (mm : mg "_law_is_once" = some (.ref f)) (kp : keepIn K (.ref f) = true) (bd : L2.Binds K fd ["thing"] []) (B : BtK mg) : ∀ n, FnOk P w K mg base CX0 (n + 1) f fd ["thing"] (spOn n) := by
  intro n
  induction n with
  | zero =>
    refine F.ok scIn1 (fun vs H Q E h => on_len h) (fun cdv A outer s H vs Q XE hr h => ?_)
    obtain ⟨v, d, rfl, tv, ho, k⟩ := h
    refine on_flat B tv (on_dict ho) ?_ k
    cases d <;> first | rfl | exact absurd (show false = true from ho) Bool.false_ne_true
  | succ n ih =>
    have SELF : Has P w K mg base "_law_is_once" (n + 1) ["thing"] (spOn n) := ⟨f, fd, mm, kp, bd, ih⟩
    refine F.ok scIn1 (fun vs H Q E h => on_len h) (fun cdv A outer s H vs Q XE hr h => ?_)
    obtain ⟨v, d, rfl, tv, ho, k⟩ := h
    cases l0 : isL d with
    | false => exact on_flat B tv (on_dict ho) l0 k
    | true =>
      have b0 : PS (cxOf CX0 P w K mg base NIn1 "_law_is_once" (defScope sIn1) f cdv A outer s H XE).nox (onB 0) _ := ps_set (i := 1) scIn1.nd rfl (.inl rfl) (pe_callTy call_int1 (by rfl) B.it boot_in (pa_cons (pe_callB call_isi (by rfl) B.is boot_isi (pa_cons (pv 0) (pa_cons (pe_bltn (by rfl) B.li boot_li (v := .ty "list") rfl) pa_nil))) pa_nil))
      have b1 : PS (cxOf CX0 P w K mg base NIn1 "_law_is_once" (defScope sIn1) f cdv A outer s H XE).nox (onB 1) _ := ps_ret (pe_and (pe_cmpR op_eq (pe_bm PySem.F.plainAttrs_list PySem.F.slot_list_count PySem.F.type_list_count (mt_count hr.units) (pe_callTy call_list_of (by rfl) B.li boot_li (pa_cons (pv 0) pa_nil)) (pa_cons pe_str pa_nil)) (pv 1) (nomark _))
        (pe_one (pe_callB (cr_all rfl) (by rfl) B.al boot_all (pa_cons (pe_lc (X := (cxOf CX0 P w K mg base NIn1 "_law_is_once" (defScope sIn1) f cdv A outer s H XE).nox) (scope := onSc) (own := [("part", 3)]) (g := gName 3) (tt := tYes) (te := tCall (spOn n) [] noE (tCons (tVar 3) tNil)) rfl scIn1.nd
          (pi_sq (pv 0)) (blkOk_by chkOn) (fun _ _ _ _ _ => pg_name (i := 3) scIn1.nd rfl (Or.inl rfl)) (fun _ _ _ _ _ => pts_nil)
          (fun s0 H0 C0 cl0 fp0 => by exact pe_has SELF hr (by rfl) (pa_cons (pv 3) pa_nil))) pa_nil))))
      refine ⟨_, PSs.nox (PSs.of_eq bdIn1 (pss_cons (ps_if (pt_val (pe_callB call_isi (by rfl) B.is boot_isi (pa_cons (pv 0) (pa_cons (pe_bltn (by rfl) B.di boot_di (v := .ty "dict") rfl) pa_nil)))) pss_never pss_nil)
        (pss_cons (ps_if (pt_val (pe_callB call_isiT (by rfl) B.is boot_isi (pa_cons (pv 0) (pa_cons (pe_tup (pa_cons (pe_bltn (by rfl) B.li boot_li (v := .ty "list") rfl) (pa_cons (pe_bltn (by rfl) B.tu boot_tu (v := .ty "tuple") rfl) pa_nil))) pa_nil)))) (pss_cons b0 (pss_one b1)) pss_nil)
        (pss_one (ps_ret pe_bl))))), ?_⟩
      clear b0 b1
      refine ⟨v, rfl, v, _, _, _, _, rfl, .ty _, tv.ty, is_di d, _, rfl, ?_⟩
      rw [on_dict ho]
      refine iteF ⟨v, rfl, small4 2, fun p np => ⟨v, p, _, _, _, _, rfl, upd_same, .cons (.ty _) (.cons (.ty _) .nil), (tv.ext (same_new np)).ty, is_lt d, _, rfl, ?_⟩⟩
      rw [l0]
      have e1 : L2.Same H (upd H p (.tup [.ty "list", .ty "tuple"])) := same_new np
      generalize upd H p (.tup [.ty "list", .ty "tuple"]) = H1 at e1 ⊢
      have t1 := tv.ext e1
      have ob : (its d).length ≤ 2000 ∧ (its d).countP isLate = (if isLs d = true then 1 else 0) ∧ (its d).all (onc n) = true := by
        cases d with
        | list xs =>
          obtain ⟨h1, h2⟩ := Bool.and_eq_true_iff.mp (show (decide (xs.length ≤ 2000) && (decide (xs.countP isLate = 1) && xs.all (onc n))) = true from ho)
          obtain ⟨h2, h3⟩ := Bool.and_eq_true_iff.mp h2
          exact ⟨of_decide_eq_true h1, of_decide_eq_true h2, h3⟩
        | tuple xs =>
          obtain ⟨h1, h2⟩ := Bool.and_eq_true_iff.mp (show (decide (xs.length ≤ 2000) && (decide (xs.countP isLate = 0) && xs.all (onc n))) = true from ho)
          obtain ⟨h2, h3⟩ := Bool.and_eq_true_iff.mp h2
          exact ⟨of_decide_eq_true h1, of_decide_eq_true h2, h3⟩
        | _ => exact absurd (show false = true from l0) Bool.false_ne_true
      obtain ⟨ol, oc, oa⟩ := ob
      refine iteT ⟨v, rfl, v, _, _, _, _, rfl, .ty _, t1.ty, kit_ls d, .inr ⟨_, rfl, ?_⟩⟩
      refine gset (nx_intro ?_)
      obtain ⟨a, xs, rfl, r, hx⟩ := t1.seq (K := K) l0
      refine ret_intro ⟨.ref a, rfl, a, xs, rfl, hx.elim (fun q => .inl (.inl (.inl q))) (fun q => .inr (.inl (.inl q))), fun c nc => ?_⟩
      have e2 := same_new (o := .lst xs) nc
      have r2 := r.ext e2
      refine ⟨.inl ⟨rfl, _, .inl (.inl upd_same)⟩, c, xs, "late9", rfl, rfl, upd_same, th_pln r2 oa, .int _, rfl, rfl, _, rfl, ?_⟩
      rw [th_count r, oc, decide_eq_true (by cases isLs d <;> rfl)]
      refine iteT ?_
      refine lc_allG (d := d) (onc n) (fun R h => ⟨.ref a, rfl, h _ _ (fun _ _ e => e) (t1.ext e2)⟩) l0 (by omega) (fun x => rfl) (fun j z x G Q' hz S tz kk => ?_) (fun G S => ?_)
      · have oz := List.all_eq_true.mp oa z (List.mem_of_getElem? hz)
        rw [oz] at kk
        exact ⟨x, rfl, x, z, rfl, tz, oz, kk⟩
      · rw [oa]
        exact k _ (e1.trans (e2.trans S))
end
end K14.T69
namespace K14.T69
open T27 T3
open K14.Gn
open PySem PySem.W PySem.Calls PyProof.Rows L2 LamX
open He (ga)
open Kz (SS ExtS ExtS.trans small4 same_new boot_in boot_li boot_isi Has pe_has noE PSs.of_eq new_ext X1)
theorem scAp : FnScope ["thing"] ["thing"] (defScope sAp) := ⟨rfl, rfl, rfl, by decide +kernel, rfl, by decide +kernel, by decide +kernel⟩
theorem bdAp : defBody sAp = [stOf sAp 0, stOf sAp 1] := by rfl
section
variable {P : Program} {w : World} {K : Frag} {mg : Str → Option Value} {base : Heap}
theorem ok_ap {n : Nat} {f : Addr} {fd : FuncData} (F : FunD K "_law_apart" "_law_apart" (defArgs sAp) (defBody sAp) (defScope sAp) [] [] f fd) (S : Has P w K mg base "_law_spoilt" (n + 1) ["thing"] (spSp n)) (O : Has P w K mg base "_law_is_once" (n + 1) ["thing"] (spOn n)) : FnOk P w K mg base CX0 (n + 2) f fd ["thing"] (spAp n) := by
  refine F.ok scAp (fun vs H Q E h => ?_) (fun cdv A outer s H vs Q XE hr h => ?_)
  · obtain ⟨v, d, g, rfl, _⟩ := h
    rfl
  · obtain ⟨v, d, g, rfl, ow, fi, cl, nd, k⟩ := h
    have h0 : PS (cxOf CX0 P w K mg base ["thing"] "_law_apart" (defScope sAp) f cdv A outer s H XE).nox (stOf sAp 0) _ := ps_expr (pe_has S hr (by rfl) (pa_cons (pv 0) pa_nil))
    have h1 : PS (cxOf CX0 P w K mg base ["thing"] "_law_apart" (defScope sAp) f cdv A outer s H XE).nox (stOf sAp 1) _ := ps_ret (pe_has O hr (by rfl) (pa_cons (pv 0) pa_nil))
    refine ⟨_, PSs.nox (PSs.of_eq bdAp (pss_cons h0 (pss_one h1))), ?_⟩
    clear h0 h1
    refine ⟨v, rfl, v, d, g, rfl, ow, fi, nd, fun G s => ?_⟩
    obtain ⟨d', t', o', _⟩ := Own.spoilt ow n fi cl s.2 (s.tup ow.lsts)
    exact ⟨v, rfl, v, d', rfl, t', o', fun G2 s2 => k G2 fun b o nb hb => s2 _ _ (s.1 b o nb hb)⟩
end
end K14.T69
namespace K14.DiM
open PySem PySem.W PySem.Calls PyProof.Rows L2 LamX
/-! ### a dict of the top, just as it stands -/
def DcC (P : Program) (w : World) (K : Frag) (a : Addr) (kvs : List (Key × V)) : Prop := ∃ (es : Array DictEntry) (n : Nat), K.lookup a = some ⟨.type "dict", none, .dict es n, #[]⟩ ∧ (a == sysModules) = false ∧ kvs.length ≤ sizeLine ∧
  ∃ vs : List (Key × Value), KV kvs vs ∧ KeysOf (mixKind P w) es ∧ Pairs (mixKind P w) es.toList vs ∧ (vs.map (·.1)).Nodup
section
variable {P : Program} {w : World} {K : Frag} {a : Addr} {kvs : List (Key × V)} {h : Heap}
theorem DcC.dck (D : DcC P w K a kvs) : DcK P w K a kvs := by
  obtain ⟨es, n, e, lo, l, vs, kv, ko, pr, nd⟩ := D
  exact ⟨l, lo, fun h hI => ⟨vs, kv, _, es, n, hI _ _ e, ⟨rfl, rfl, rfl⟩, rfl, ko, pr, nd⟩⟩
/-- what a key stands for -/
theorem valueAt_kv {k : Key} : ∀ {kvs : List (Key × V)} {vs : List (Key × Value)}, KV kvs vs → (∀ v, valV kvs k = some v → ∃ u, valueAt vs k = some u ∧ RelV v u) ∧ (valV kvs k = none → valueAt vs k = none) := fun {kvs vs} h => by
  induction h with
  | nil => exact ⟨(fun v z => nomatch z), fun _ => rfl⟩
  | @cons p q kvs vs r t ih =>
    obtain ⟨k1, v1⟩ := p
    obtain ⟨k2, u2⟩ := q
    obtain ⟨e1, e2⟩ := r
    have e1 : k1 = k2 := e1
    subst e1
    have e2 : RelV v1 u2 := e2
    have f1 : valV ((k1, v1) :: kvs) k = if k1 = k then some v1 else valV kvs k := by
      unfold valV
      rw [List.find?_cons]
      by_cases c : k1 = k
      · simp [c]
      · simp [c]
    have f2 : valueAt ((k1, u2) :: vs) k = if k1 = k then some u2 else valueAt vs k := by
      unfold valueAt
      rw [List.find?_cons]
      by_cases c : k1 = k
      · simp [c]
      · simp [c]
    rw [f1, f2]
    by_cases c : k1 = k
    · rw [if_pos c, if_pos c]
      exact ⟨fun v z => ⟨u2, rfl, by cases z; exact e2⟩, fun z => nomatch z⟩
    · rw [if_neg c, if_neg c]
      exact ih
end
section
variable {X : Cx} {d : Addr} {kvs : List (Key × V)}
theorem DcC.map (D : DcC X.prog X.w X.K d kvs) {pins : List (Addr × Obj)} {σ : L2.St} {H : Hp} {s : Shared} (I : Inv X pins σ H s) : ∃ vs, KV kvs vs ∧ s.heap.MapOf (mixKind X.prog X.w) d (valueAt vs) := by
  obtain ⟨_, _, h⟩ := D.dck
  obtain ⟨vs, kv, dd⟩ := h s.heap I.kIn
  exact ⟨vs, kv, dd.mapOf⟩
theorem op_inC (D : DcC X.prog X.w X.K d kvs) : OpR X (compareOp .In) (fun x y H Q => ∃ z : Str, x = .str z ∧ y = .ref d ∧ Q (.bl (valV kvs (.inr z)).isSome) H) := by
  intro pins s σ H x y v u Q I rx ry h
  obtain ⟨z, rfl, rfl, q⟩ := h
  obtain ⟨t, rfl⟩ := rx
  cases ry
  obtain ⟨vs, kv, hm⟩ := D.map I
  refine wpAny_in_of (knd := mixKind X.prog X.w) (k := .inr z) (keyIs_str z t) D.dck.2.1 hm ?_
  have e : (valueAt vs (.inr z)).isSome = (valV kvs (.inr z)).isSome := by
    obtain ⟨a1, a2⟩ := valueAt_kv (k := .inr z) kv
    cases q2 : valV kvs (.inr z) with
    | none => rw [a2 q2]; rfl
    | some v =>
      obtain ⟨u, hu, _⟩ := a1 v q2
      rw [hu]
      rfl
  rw [e]
  exact ⟨.bl (valV kvs (.inr z)).isSome, H, I.tok _, rfl, q⟩
theorem ix_dictC (D : DcC X.prog X.w X.K d kvs) : IxR X (fun x y H Q => ∃ (z : Str) (v0 : V), x = .ref d ∧ y = .str z ∧ valV kvs (.inr z) = some v0 ∧ Q v0 H) := by
  intro a b pins s σ H x y v u Q I rx ry h hs
  obtain ⟨z, v0, rfl, rfl, e, q⟩ := h
  cases rx
  obtain ⟨t, rfl⟩ := ry
  obtain ⟨vs, kv, hm⟩ := D.map I
  obtain ⟨u, hu, r⟩ := (valueAt_kv (k := .inr z) kv).1 v0 e
  exact tail_any hm.typeIs slot_dict_getitem.lookup (wpAny_getItem_of (knd := mixKind X.prog X.w) (k := .inr z) (keyIs_str z t) hm hu ⟨v0, H, I.tok _, r, q⟩) hs
end
/-! ### its keys, one by one -/
def Itkc (kvs : List (Key × V)) : It := ⟨fun i _ => i < kvs.length, fun i H x H' => H' = H ∧ ∃ k v, kvs[i]? = some (k, v) ∧ x = kV k, fun i _ => kvs.length ≤ i⟩
theorem walk_keysC {kvs : List (Key × V)} : Walk (Itkc kvs) kvs.length (fun _ => True) (fun i H x H' => H' = H ∧ ∃ k v, kvs[i]? = some (k, v) ∧ x = kV k) :=
  ⟨fun _ _ hi _ => hi, fun _ _ => Nat.le_refl _, fun _ _ _ _ _ _ y => y⟩
theorem turn_keysC {P : Program} {w : World} {K : Frag} {tg : Expr} {d : Addr} {kvs : List (Key × V)} {es : Array DictEntry} {n : Nat} {vs : List (Key × Value)} (it : Addr) (e0 : K.lookup d = some ⟨.type "dict", none, .dict es n, #[]⟩) (kv : KV kvs vs) (ko : KeysOf (mixKind P w) es) (pr : Pairs (mixKind P w) es.toList vs) (nd : (vs.map (·.1)).Nodup) :
    Turn P w K tg (Itkc kvs) [it] it (fun i h => h.IsKeyIter it d i kvs.length n) where
  mem := by simp
  obj := fun i h st b hb => by
    have e : b = it := by simpa using hb
    subst e
    obtain ⟨oi, e, c, dd⟩ := st
    exact ⟨oi, e, fun v z => by rw [dd] at z; cases z⟩
  keep := fun i h h' st k => st.at fun oi e => k it (by simp) oi e
  item := by
    intro X hP hw hK hc i pins s σ H E I hf st hg
    subst hP hw hK
    have hi : i < kvs.length := hg
    obtain ⟨f0, f1, f2, f3, f4, f5⟩ := hf it (by simp)
    have hm : s.heap.DictAt (mixKind X.prog X.w) d vs n := ⟨_, es, I.kIn _ _ e0, ⟨rfl, rfl, rfl⟩, rfl, ko, pr, nd⟩
    obtain ⟨⟨k, v⟩, hkv⟩ : ∃ p, kvs[i]? = some p := ⟨kvs[i], List.getElem?_eq_getElem hi⟩
    obtain ⟨u, hu, ru⟩ := kv_get kv hkv
    have hl : kvs.length = vs.length := Paired.length kv
    rw [hl] at st
    refine wpAny_pyNext_dict_item st hm hu fun key h' hkey st' sb => ?_
    have I1 : Inv X pins σ H { s with heap := h' } := I.turned (t' := s.toks) (fun b ob hb e => (sb.2 b hb).trans e) f0 f1 f3 f4 f5
    obtain ⟨oi, e, c, dd⟩ := id st'
    refine ⟨key, rfl, go_of (s := { s with heap := h' }) e c dd (by decide) ⟨kV k, H, I1, relV_key (show keyIs k key = true from hkey), ⟨rfl, k, v, hkv, rfl⟩, ?_, fun b hb => (hf b hb).1⟩⟩
    show h'.IsKeyIter it d (i + 1) kvs.length _
    rw [hl]
    exact st'
  done := by
    intro X hP hw hK hc i pins s σ H E I hf st hg
    subst hP hw hK
    have hi : kvs.length ≤ i := hg
    obtain ⟨f0, f1, f2, f3, f4, f5⟩ := hf it (by simp)
    have hsz : es.size = kvs.length := by
      have := pr.length
      rw [← Array.length_toList, this, Paired.length kv]
    exact next_key_end (I.ok.hd hc) st (I.kIn _ _ e0) rfl hsz hi fun h' eb => ⟨rfl, I.turned (t' := s.toks) (fun b ob hb e => eb b ob hb e) f0 f1 f3 f4 f5⟩
  self := fun A i s Q E st h => wpAny_pyIter_keyiter st h
/-- for k in a dict of the top -/
def iKeysC (d : Addr) (kvs : List (Key × V)) (td : TE) : TI := fun σ H R => td σ H fun x H1 => x = .ref d ∧ R (Itkc kvs) H1
theorem pi_keysC {X : Cx} {tg e : Expr} {td : TE} {d : Addr} {kvs : List (Key × V)} (D : DcC X.prog X.w X.K d kvs) (he : PE X e td) : PI X tg e (iKeysC d kvs td) := by
  refine ⟨fun pins s σ H R I h => ?_⟩
  refine thn (he.run pins s σ H _ I h) fun u s1 ⟨x, H1, I1, rx, ex, q⟩ => ?_
  subst ex
  obtain rfl : u = Value.ref d := rx
  obtain ⟨es, n, e0, lo, l, vs, kv, ko, pr, nd⟩ := D
  refine iter_keys lo (I1.kIn _ _ e0) ⟨rfl, rfl, rfl⟩ rfl (pi_one (tk := s1.toks) I1 _ (turn_keysC _ e0 kv ko pr nd) ⟨_, Heap.get?_push_size _ rfl, rfl, ?_⟩ q)
  have hsz : es.size = kvs.length := by
    have := pr.length
    rw [← Array.length_toList, this, Paired.length kv]
  rw [hsz] <;> rfl
/-! ### a text, so many times -/
def repT (x : Str) (k : Nat) : Str := ⟨(List.replicate k x.cps).foldl (· ++ ·) #[]⟩
theorem fold_app (l : List (Array Nat)) : ∀ acc : Array Nat, l.foldl (· ++ ·) acc = acc ++ (l.map Array.toList).flatten.toArray := by
  induction l with
  | nil => intro acc; simp
  | cons a r ih =>
    intro acc
    rw [List.foldl_cons, ih]
    apply Array.ext'
    simp
theorem repT_tl (x : Str) (k : Nat) : TL.tl (repT x k) = (List.replicate k (TL.tl x)).flatten := by
  show ((List.replicate k x.cps).foldl (· ++ ·) #[]).toList = _
  rw [fold_app]
  simp [TL.tl]
theorem op_repS {X : Cx} : OpR X (binaryOp .Mult) (fun x y H Q => ∃ (z : Str) (k : Int), x = .str z ∧ y = .int k ∧ k ≤ 1000 ∧ -1000 ≤ k ∧ z.length ≤ 1000 ∧ Q (.str (repT z k.toNat)) H) := by
  intro pins s σ H x y v u Q I rx ry h
  obtain ⟨z, k, rfl, rfl, k1, k2, l, q⟩ := h
  obtain ⟨t, rfl⟩ := rx
  obtain ⟨t2, rfl⟩ := ry
  have b : z.length * k.toNat ≤ 1000 * 1000 := Nat.mul_le_mul l (by omega)
  refine P.mul_str (by
    have h1 : ¬ k < -(2 ^ 63 : Int) := by omega
    have h2 : ¬ k ≥ 2 ^ 63 := by omega
    rw [decide_eq_false h1, decide_eq_false h2]
    rfl) (fun h1 _ => ?_) (fun h1 _ => ?_) ?_
  · have : (1000 : Int) ≤ (2 ^ 63 - 1) / k := by
      refine (Int.le_ediv_iff_mul_le (by omega)).mpr ?_
      omega
    omega
  · have : ¬ z.length * k.toNat > sizeLine := by rw [sizeLine_eq]; omega
    exact decide_eq_false this
  · by_cases c1 : k < 1
    · rw [if_pos c1]
      have e : repT z k.toNat = Str.empty := by
        rw [show k.toNat = 0 by omega]
        rfl
      rw [e] at q
      exact ⟨by decide, .str Str.empty, H, I.tok _, ⟨_, rfl⟩, q⟩
    · rw [if_neg c1]
      by_cases c2 : (k == 1 || z.length == 0) = true
      · rw [if_pos c2]
        have e : repT z k.toNat = z := TL.ext_tl (by
          rw [repT_tl]
          rcases Bool.or_eq_true_iff.mp c2 with c3 | c3
          · have c4 : k = 1 := eq_of_beq c3
            rw [c4]
            simp
          · have c4 : z.length = 0 := eq_of_beq c3
            have c5 : TL.tl z = [] := List.eq_nil_of_length_eq_zero (by rw [← TL.len_tl]; exact c4)
            rw [c5]
            simp)
        rw [e] at q
        exact ⟨.str z, H, I, ⟨_, rfl⟩, q⟩
      · rw [if_neg c2]
        have l2 : (repT z k.toNat).length ≤ sizeLine := by
          rw [TL.len_tl, repT_tl, List.length_flatten, List.map_replicate, List.sum_replicate_nat, sizeLine_eq, ← TL.len_tl, Nat.mul_comm]
          omega
        exact ⟨l2, .str (repT z k.toNat), H, I.tok _, ⟨_, rfl⟩, q⟩
end K14.DiM
namespace K14.T69
open T27 T3
open K14.Gn
open PySem PySem.W PySem.Calls PyProof.Rows L2 LamX
open SX (S)
open TL (tl pre)
open PySem.NumText (digitsVal AllDigits)
/-! ### texts of courses and steps, sign by sign: what a reader does, what the law does -/
theorem tl_S (l : List Nat) : tl (S l) = l := rfl
theorem S_tl (x : Str) : S (tl x) = x := TL.mk_tl x
theorem S_app (a b : List Nat) : S a ++ S b = S (a ++ b) := TL.ext_tl (by rw [TL.tl_append])
theorem S_len (a : List Nat) : (S a).length = a.length := TL.len_tl _
theorem S_inj {a b : List Nat} (h : S a = S b) : a = b := congrArg tl h
def isDg (c : Nat) : Bool := decide (48 ≤ c) && decide (c ≤ 57)
theorem dg_all {w : List Nat} : w.all isDg = true ↔ AllDigits w := by
  rw [List.all_eq_true]
  refine ⟨fun h c hc => ?_, fun h c hc => ?_⟩
  · have := h c hc
    unfold isDg at this
    rw [Bool.and_eq_true, decide_eq_true_eq, decide_eq_true_eq] at this
    exact this
  · unfold isDg
    obtain ⟨a, b⟩ := h c hc
    rw [decide_eq_true a, decide_eq_true b]
    rfl
abbrev valW (w : List Nat) : Nat := digitsVal w
def numW (w : List Nat) : Bool := decide (0 < w.length) && (decide (w.length ≤ 9) && (w.all isDg && (!decide (w.head? = some 48) || decide (w = [48]))))
abbrev n9 (k : Nat) : List Nat := List.replicate k 57
abbrev n0 (k : Nat) : List Nat := List.replicate k 48
def gfrom (w : List Nat) : Nat := if w = [48] then 0 else valW (w ++ n9 (9 - w.length))
theorem val_snoc (w : List Nat) (c : Nat) : valW (w ++ [c]) = valW w * 10 + (c - 48) := by
  unfold valW digitsVal
  rw [List.foldl_append]
  rfl
theorem val_9 (w : List Nat) : ∀ k, valW (w ++ n9 k) + 1 = (valW w + 1) * 10 ^ k
  | 0 => by simp
  | k + 1 => by
    have e : w ++ n9 (k + 1) = (w ++ n9 k) ++ [57] := by
      rw [List.append_assoc, ← List.replicate_succ']
    rw [e, val_snoc, Nat.pow_succ, ← Nat.mul_assoc, ← val_9 w k]
    omega
theorem val_0 (w : List Nat) : ∀ k, valW (w ++ n0 k) = valW w * 10 ^ k
  | 0 => by simp
  | k + 1 => by
    have e : w ++ n0 (k + 1) = (w ++ n0 k) ++ [48] := by
      rw [List.append_assoc, ← List.replicate_succ']
    rw [e, val_snoc, Nat.pow_succ, ← Nat.mul_assoc, ← val_0 w k]
    omega
theorem val_ltA : ∀ (w : List Nat) (a : Nat), AllDigits w → w.foldl (fun acc c => acc * 10 + (c - 48)) a < (a + 1) * 10 ^ w.length
  | [], a, _ => by simp
  | c :: w, a, h => by
    have hc := h.head
    have := val_ltA w (a * 10 + (c - 48)) h.tail
    rw [List.foldl_cons, List.length_cons, Nat.pow_succ]
    have e : (a * 10 + (c - 48) + 1) * 10 ^ w.length ≤ ((a + 1) * 10) * 10 ^ w.length := Nat.mul_le_mul_right _ (by omega)
    have e2 : (a + 1) * 10 * 10 ^ w.length = (a + 1) * (10 ^ w.length * 10) := by rw [Nat.mul_assoc, Nat.mul_comm 10]
    omega
theorem val_lt {w : List Nat} (h : AllDigits w) : valW w < 10 ^ w.length := by
  have := val_ltA w 0 h
  rw [Nat.zero_add, Nat.one_mul] at this
  exact this
theorem numW_iff {w : List Nat} : numW w = true ↔ w ≠ [] ∧ w.length ≤ 9 ∧ AllDigits w ∧ (w.head? = some 48 → w = [48]) := by
  unfold numW
  simp only [Bool.and_eq_true, Bool.or_eq_true, Bool.not_eq_true', decide_eq_true_eq, decide_eq_false_iff_not, dg_all]
  constructor
  · rintro ⟨a, b, c, d⟩
    exact ⟨fun z => by rw [z] at a; simp at a, b, c, fun q => d.elim (fun d => absurd q d) id⟩
  · rintro ⟨a, b, c, d⟩
    refine ⟨List.length_pos_iff.mpr a, b, c, ?_⟩
    by_cases q : w.head? = some 48
    · exact .inr (d q)
    · exact .inl q
/-! the readers -/
abbrev tGrow : List Nat := tl "grow"
abbrev tShrink : List Nat := tl "shrink"
abbrev tTurn : List Nat := tl "turn"
abbrev tLoop : List Nat := tl "loop"
abbrev tUnloop : List Nat := tl "unloop"
def stepN : List (List Nat) := [tGrow, tShrink, tTurn, tLoop, tUnloop]
inductive Slot | step | kind | wire | index
deriving DecidableEq
def slotOf (w : List Nat) : Option Slot :=
  if w = tGrow then some .kind else if w = tShrink then some .index else if w = tTurn then some .index else if w = tLoop then some .step else if w = tUnloop then some .step else none
inductive RS | course (o : Option Nat) | steps (s : Slot)
def begR : RS → List Nat → Bool
  | .course none, w => numW w && decide (valW w < 999999999)
  | .course (some f), w => numW w && decide (f < gfrom w)
  | .steps .step, w => stepN.any fun n => pre w n
  | .steps .kind, w => decide (w = [120]) || decide (w = [121])
  | .steps .wire, w => bnB (S w)
  | .steps .index, w => numW w
def endR : RS → List Nat → Bool → Bool
  | .course none, w, nl => !nl && numW w
  | .course (some f), w, nl => nl && (numW w && decide (f < valW w))
  | .steps .step, w, nl => match slotOf w with | some s => nl == decide (s = .step) | none => false
  | .steps .kind, w, nl => !nl && (decide (w = [120]) || decide (w = [121]))
  | .steps .wire, w, nl => nl && nameB (.str (S w))
  | .steps .index, w, nl => nl && numW w
def putR : RS → List Nat → Bool → RS
  | .course _, w, nl => if nl then .course none else .course (some (valW w))
  | .steps s, w, nl => if nl then .steps .step else if s = .step then .steps ((slotOf w).getD .wire) else .steps .wire
def doneR : RS → Bool
  | .course o => decide (o = none)
  | .steps s => decide (s = .step)
def sepC (c : Nat) : Bool := decide (c = 32) || decide (c = 10)
def scanR (r : RS) (w : List Nat) (at_ : Nat) : List Nat → Nat × List Nat × RS
  | [] => (at_, w, r)
  | c :: q => if sepC c = true then (if endR r w (decide (c = 10)) = true then scanR (putR r w (decide (c = 10))) [] (at_ + 1) q else (at_, w, r))
    else (if begR r (w ++ [c]) = true then scanR r (w ++ [c]) (at_ + 1) q else (at_, w ++ [c], r))
def faultR (r : RS) (x : List Nat) : Option Nat := match scanR r [] 0 x with
  | (at_, w, r') => if at_ = x.length ∧ w = [] ∧ doneR r' = true then none else some at_
/-! the law's own -/
def nf (low top : Int) (whole : Bool) (w : List Nat) : Bool :=
  if (decide (w = []) || (decide (9 < w.length) || !w.all isDg)) = true then false
  else if w.head? = some 48 then decide (w = [48]) && decide (low < 0)
  else if whole = true then decide (low < (valW w : Nat)) && decide (((valW w : Nat) : Int) ≤ top)
  else (List.range (10 - w.length)).any fun k => decide (low < (valW (w ++ n9 k) : Nat)) && decide (((valW (w ++ n0 k) : Nat) : Int) ≤ top)
def someF (ns : List (List Nat)) (whole : Bool) (w : List Nat) : Bool := if whole = true then ns.contains w else ns.any fun n => pre w n
def lawF (p : Bool) (ws : List (List Nat)) (whole : Bool) (w : List Nat) : Bool :=
  if (p && decide (ws.length < 2)) = true then (match ws with | [] => nf (-1) 999999998 whole w | a :: _ => nf (valW a : Nat) 999999999 whole w)
  else if ws = [] then someF stepN whole w
  else if ws = [tGrow] then someF [[120], [121]] whole w
  else if ws.head? = some tGrow then (if whole = true then nameB (.str (S w)) else bnB (S w))
  else nf (-1) 999999999 whole w
def wideL (p : Bool) (ws : List (List Nat)) : Nat := if p = true then 2 else if ws.head? = some tGrow then 3 else if ws.head? = some tLoop ∨ ws.head? = some tUnloop then 1 else 2
def lawR (p : Bool) (ws : List (List Nat)) (w : List Nat) (fs : List (List (List Nat))) (at_ : Nat) : List Nat → Option Nat × List (List (List Nat))
  | [] => (if ws = [] ∧ w = [] then none else some at_, fs)
  | c :: q => if sepC c = true then (if (decide (w = []) || !lawF p ws true w) = true then (some at_, fs)
      else if decide (c = 10) ≠ decide ((ws ++ [w]).length = wideL p (ws ++ [w])) then (some at_, fs)
      else if c = 10 then lawR p [] [] (fs ++ [ws ++ [w]]) (at_ + 1) q else lawR p (ws ++ [w]) [] fs (at_ + 1) q)
    else (if lawF p ws false (w ++ [c]) = true then lawR p ws (w ++ [c]) fs (at_ + 1) q else (some at_, fs))
/-- where both stand -/
inductive Rel : Bool → List (List Nat) → RS → Prop
  | c0 : Rel true [] (.course none)
  | c1 (a : List Nat) : numW a = true → valW a < 999999999 → Rel true [a] (.course (some (valW a)))
  | s0 : Rel false [] (.steps .step)
  | s1 : Rel false [tGrow] (.steps .kind)
  | s2 (k : List Nat) : k = [120] ∨ k = [121] → Rel false [tGrow, k] (.steps .wire)
  | s3 (x : List Nat) : x = tShrink ∨ x = tTurn → Rel false [x] (.steps .index)
theorem nf_begin {low top : Int} {w : List Nat} (hl : -1 ≤ low) : nf low top false w = (decide (w ≠ []) && (decide (w.length ≤ 9) && (w.all isDg && (if w.head? = some 48 then decide (w = [48]) && decide (low < 0) else (List.range (10 - w.length)).any fun k => decide (low < (valW (w ++ n9 k) : Nat)) && decide (((valW (w ++ n0 k) : Nat) : Int) ≤ top))))) := by
  unfold nf
  by_cases h1 : w = []
  · rw [h1]; rfl
  · by_cases h2 : 9 < w.length
    · have : decide (w.length ≤ 9) = false := decide_eq_false (by omega)
      rw [this]
      simp [h1, h2]
    · cases h3 : w.all isDg with
      | false => simp [h1, h2]
      | true =>
        have a1 : decide (w = []) = false := decide_eq_false h1
        have a2 : decide (9 < w.length) = false := decide_eq_false h2
        have a3 : decide (w ≠ []) = true := decide_eq_true h1
        have a4 : decide (w.length ≤ 9) = true := decide_eq_true (by omega)
        rw [a1, a2, a3, a4]
        simp
theorem nf_whole {low top : Int} {w : List Nat} : nf low top true w = (decide (w ≠ []) && (decide (w.length ≤ 9) && (w.all isDg && (if w.head? = some 48 then decide (w = [48]) && decide (low < 0) else decide (low < (valW w : Nat)) && decide (((valW w : Nat) : Int) ≤ top))))) := by
  unfold nf
  by_cases h1 : w = []
  · rw [h1]; rfl
  · by_cases h2 : 9 < w.length
    · have : decide (w.length ≤ 9) = false := decide_eq_false (by omega)
      rw [this]
      simp [h1, h2]
    · cases h3 : w.all isDg with
      | false => simp [h1, h2]
      | true =>
        have a1 : decide (w = []) = false := decide_eq_false h1
        have a2 : decide (9 < w.length) = false := decide_eq_false h2
        have a3 : decide (w ≠ []) = true := decide_eq_true h1
        have a4 : decide (w.length ≤ 9) = true := decide_eq_true (by omega)
        rw [a1, a2, a3, a4]
        simp
/-- what a number begun may become -/
theorem nf_any {w : List Nat} {f : Nat} (hd : AllDigits w) (l : w.length ≤ 9) : ((List.range (10 - w.length)).any fun k => decide ((f : Int) < (valW (w ++ n9 k) : Nat)) && decide (((valW (w ++ n0 k) : Nat) : Int) ≤ 999999999)) = decide (f < valW (w ++ n9 (9 - w.length))) := by
  rw [Bool.eq_iff_iff, List.any_eq_true, decide_eq_true_eq]
  constructor
  · rintro ⟨k, hk, h⟩
    rw [Bool.and_eq_true, decide_eq_true_eq, decide_eq_true_eq] at h
    have hk := List.mem_range.mp hk
    have e1 := val_9 w k
    have e2 := val_9 w (9 - w.length)
    have : 10 ^ k ≤ 10 ^ (9 - w.length) := Nat.pow_le_pow_right (by decide) (by omega)
    have e3 : (valW w + 1) * 10 ^ k ≤ (valW w + 1) * 10 ^ (9 - w.length) := Nat.mul_le_mul_left _ this
    omega
  · intro h
    refine ⟨9 - w.length, List.mem_range.mpr (by omega), ?_⟩
    rw [Bool.and_eq_true, decide_eq_true_eq, decide_eq_true_eq]
    refine ⟨by omega, ?_⟩
    have v := val_lt hd
    rw [val_0]
    have : valW w * 10 ^ (9 - w.length) ≤ (10 ^ w.length - 1) * 10 ^ (9 - w.length) := Nat.mul_le_mul_right _ (by omega)
    have e4 : (10 ^ w.length - 1) * 10 ^ (9 - w.length) = 10 ^ w.length * 10 ^ (9 - w.length) - 10 ^ (9 - w.length) := by rw [Nat.sub_mul, Nat.one_mul]
    have e5 : 10 ^ w.length * 10 ^ (9 - w.length) = 1000000000 := by
      rw [← Nat.pow_add]
      have : w.length + (9 - w.length) = 9 := by omega
      rw [this]
    have e6 : 0 < 10 ^ (9 - w.length) := Nat.pow_pos (by decide)
    omega
theorem nf_any1 {w : List Nat} (l : w.length ≤ 9) : ((List.range (10 - w.length)).any fun k => decide ((-1 : Int) < (valW (w ++ n9 k) : Nat)) && decide (((valW (w ++ n0 k) : Nat) : Int) ≤ 999999998)) = decide (valW w < 999999999) := by
  rw [Bool.eq_iff_iff, List.any_eq_true, decide_eq_true_eq]
  constructor
  · rintro ⟨k, hk, h⟩
    rw [Bool.and_eq_true, decide_eq_true_eq, decide_eq_true_eq] at h
    have e1 := val_0 w k
    have e6 : 0 < 10 ^ k := Nat.pow_pos (by decide)
    have : valW w * 1 ≤ valW w * 10 ^ k := Nat.mul_le_mul_left _ e6
    omega
  · intro h
    refine ⟨0, List.mem_range.mpr (by omega), ?_⟩
    rw [Bool.and_eq_true, decide_eq_true_eq, decide_eq_true_eq]
    simp
    omega
theorem nf_any2 {w : List Nat} (hd : AllDigits w) (l : w.length ≤ 9) : ((List.range (10 - w.length)).any fun k => decide ((-1 : Int) < (valW (w ++ n9 k) : Nat)) && decide (((valW (w ++ n0 k) : Nat) : Int) ≤ 999999999)) = true := by
  rw [List.any_eq_true]
  refine ⟨0, List.mem_range.mpr (by omega), ?_⟩
  have v := val_lt hd
  have : 10 ^ w.length ≤ 10 ^ 9 := Nat.pow_le_pow_right (by decide) l
  rw [Bool.and_eq_true, decide_eq_true_eq, decide_eq_true_eq]
  simp
  omega
theorem numW_split (w : List Nat) : numW w = (decide (w ≠ []) && (decide (w.length ≤ 9) && (w.all isDg && (!decide (w.head? = some 48) || decide (w = [48]))))) := by
  unfold numW
  have : decide (0 < w.length) = decide (w ≠ []) := by
    rw [Bool.eq_iff_iff, decide_eq_true_eq, decide_eq_true_eq]
    exact List.length_pos_iff
  rw [this]
/-- a word goes on: both say the same -/
theorem rel_beg {p : Bool} {ws : List (List Nat)} {r : RS} (h : Rel p ws r) (w : List Nat) (hw : w ≠ []) : lawF p ws false w = begR r w := by
  cases h with
  | c0 =>
    show nf (-1) 999999998 false w = (numW w && decide (valW w < 999999999))
    rw [nf_begin (by decide), numW_split]
    by_cases h1 : w = []
    · rw [h1]; rfl
    by_cases h2 : w.length ≤ 9
    · rw [nf_any1 h2]
      cases h3 : w.all isDg with
      | false => simp
      | true =>
        by_cases h4 : w.head? = some 48
        · rw [if_pos h4]
          by_cases h5 : w = [48]
          · rw [h5]; rfl
          · simp [h4, h5]
        · rw [if_neg h4]
          simp [h1, h2, h4]
    · simp [h2]
  | c1 a ha hb =>
    show nf (valW a : Nat) 999999999 false w = (numW w && decide (valW a < gfrom w))
    rw [nf_begin (by omega), numW_split]
    by_cases h1 : w = []
    · rw [h1]; rfl
    by_cases h2 : w.length ≤ 9
    · cases h3 : w.all isDg with
      | false => simp
      | true =>
        rw [nf_any (dg_all.mp h3) h2]
        by_cases h4 : w.head? = some 48
        · rw [if_pos h4]
          by_cases h5 : w = [48]
          · rw [h5]
            unfold gfrom
            rw [if_pos rfl]
            have : decide (((valW a : Nat) : Int) < 0) = false := decide_eq_false (by omega)
            rw [this]
            have : decide (valW a < 0) = false := decide_eq_false (by omega)
            rw [this]
            rfl
          · simp [h4, h5]
        · rw [if_neg h4]
          have h5 : w ≠ [48] := fun z => h4 (by rw [z]; rfl)
          unfold gfrom
          rw [if_neg h5]
          simp [h1, h2, h4]
    · simp [h2]
  | s0 => rfl
  | s1 =>
    have e : ∀ c : Nat, pre w [c] = decide (w = [c]) := fun c => by
      match w, hw with
      | a :: q, _ =>
        show (([c] : List Nat).take (q.length + 1) == a :: q) = _
        rw [List.take_of_length_le (by simp), Bool.eq_iff_iff, beq_iff_eq, decide_eq_true_eq]
        exact eq_comm
    show (pre w [120] || (pre w [121] || false)) = (decide (w = [120]) || decide (w = [121]))
    rw [e, e, Bool.or_false]
  | s2 k hk =>
    show lawF false [tGrow, k] false w = bnB (S w)
    rfl
  | s3 x hx =>
    have e : lawF false [x] false w = nf (-1) 999999999 false w := by
      rcases hx with rfl | rfl <;> rfl
    rw [e]
    show nf (-1) 999999999 false w = numW w
    rw [nf_begin (by decide), numW_split]
    by_cases h1 : w = []
    · rw [h1]; rfl
    by_cases h2 : w.length ≤ 9
    · cases h3 : w.all isDg with
      | false => simp
      | true =>
        rw [nf_any2 (dg_all.mp h3) h2]
        by_cases h4 : w.head? = some 48
        · rw [if_pos h4]
          by_cases h5 : w = [48]
          · rw [h5]; rfl
          · simp [h4, h5]
        · rw [if_neg h4]
          simp [h4]
    · simp [h2]
/-- a row that a text of such a kind has -/
inductive RowOk : Bool → List (List Nat) → Prop
  | pair (a b : List Nat) : numW a = true → numW b = true → RowOk true [a, b]
  | grow (k n : List Nat) : k = [120] ∨ k = [121] → nameB (.str (S n)) = true → RowOk false [tGrow, k, n]
  | num (x n : List Nat) : x = tShrink ∨ x = tTurn → numW n = true → RowOk false [x, n]
  | one (x : List Nat) : x = tLoop ∨ x = tUnloop → RowOk false [x]
theorem slot_ends {w : List Nat} : (slotOf w).isSome = stepN.contains w := by
  unfold slotOf stepN
  by_cases h1 : w = tGrow
  · rw [h1]; rfl
  rw [if_neg h1]
  by_cases h2 : w = tShrink
  · rw [h2]; rfl
  rw [if_neg h2]
  by_cases h3 : w = tTurn
  · rw [h3]; rfl
  rw [if_neg h3]
  by_cases h4 : w = tLoop
  · rw [h4]; rfl
  rw [if_neg h4]
  by_cases h5 : w = tUnloop
  · rw [h5]; rfl
  rw [if_neg h5]
  simp [h1, h2, h3, h4, h5]
theorem mem_stepN {w : List Nat} (h : stepN.contains w = true) : w = tGrow ∨ w = tShrink ∨ w = tTurn ∨ w = tLoop ∨ w = tUnloop := by
  have := List.contains_iff_mem.mp h
  simpa [stepN] using this
/-- a word ends: both say the same, and go on alike -/
theorem rel_end {p : Bool} {ws : List (List Nat)} {r : RS} (h : Rel p ws r) {w : List Nat} (hw : w = [] ∨ begR r w = true) (nl : Bool) :
    endR r w nl = ((!decide (w = []) && lawF p ws true w) && (nl == decide ((ws ++ [w]).length = wideL p (ws ++ [w])))) ∧
    (endR r w nl = true → (nl = false → Rel p (ws ++ [w]) (putR r w false)) ∧ (nl = true → Rel p [] (putR r w true) ∧ RowOk p (ws ++ [w]))) := by
  cases h with
  | c0 =>
    have e1 : lawF true [] true w = nf (-1) 999999998 true w := rfl
    have e2 : (nl == decide (([] ++ [w]).length = wideL true ([] ++ [w]))) = !nl := by cases nl <;> rfl
    have e3 : (!decide (w = []) && nf (-1) 999999998 true w) = numW w := by
      rw [nf_whole, numW_split]
      rcases hw with rfl | hb
      · rfl
      · have hb : (numW w && decide (valW w < 999999999)) = true := hb
        obtain ⟨b1, b2⟩ := Bool.and_eq_true_iff.mp hb
        have b3 := of_decide_eq_true b2
        obtain ⟨c1, c2, c3, c4⟩ := numW_iff.mp b1
        have a1 : decide (w ≠ []) = true := decide_eq_true c1
        have a2 : (!decide (w = [])) = true := by rw [decide_eq_false c1]; rfl
        rw [a1, a2]
        by_cases h4 : w.head? = some 48
        · rw [if_pos h4, c4 h4]
          rfl
        · rw [if_neg h4, decide_eq_true (show (-1 : Int) < (valW w : Nat) by omega), decide_eq_true (show ((valW w : Nat) : Int) ≤ 999999998 by omega)]
          simp [h4]
    rw [e1, e2, e3]
    refine ⟨by show (!nl && numW w) = (numW w && !nl); exact Bool.and_comm .., fun he => ?_⟩
    obtain ⟨g1, g2⟩ := Bool.and_eq_true_iff.mp (show (!nl && numW w) = true from he)
    refine ⟨fun _ => .c1 w g2 ?_, fun z => by rw [z] at g1; cases g1⟩
    rcases hw with rfl | hb
    · cases g2
    · exact of_decide_eq_true (Bool.and_eq_true_iff.mp (show (numW w && decide (valW w < 999999999)) = true from hb)).2
  | c1 a ha hb0 =>
    have e1 : lawF true [a] true w = nf (valW a : Nat) 999999999 true w := rfl
    have e2 : (nl == decide (([a] ++ [w]).length = wideL true ([a] ++ [w]))) = nl := by cases nl <;> rfl
    have e3 : (!decide (w = []) && nf (valW a : Nat) 999999999 true w) = (numW w && decide (valW a < valW w)) := by
      rw [nf_whole, numW_split]
      by_cases c1 : w = []
      · rw [c1]; rfl
      have a1 : decide (w ≠ []) = true := decide_eq_true c1
      have a2 : (!decide (w = [])) = true := by rw [decide_eq_false c1]; rfl
      rw [a1, a2]
      by_cases c2 : w.length ≤ 9
      · cases c3 : w.all isDg with
        | false => simp
        | true =>
          by_cases h4 : w.head? = some 48
          · rw [if_pos h4]
            by_cases h5 : w = [48]
            · have : decide (((valW a : Nat) : Int) < 0) = false := decide_eq_false (by omega)
              rw [this, h5]
              have : decide (valW a < valW [48]) = false := decide_eq_false (by show ¬ valW a < 0; omega)
              rw [this]
              rfl
            · simp [h4, h5]
          · rw [if_neg h4]
            have v := val_lt (dg_all.mp c3)
            have : 10 ^ w.length ≤ 10 ^ 9 := Nat.pow_le_pow_right (by decide) c2
            rw [decide_eq_true (show ((valW w : Nat) : Int) ≤ 999999999 by omega)]
            have : decide (((valW a : Nat) : Int) < (valW w : Nat)) = decide (valW a < valW w) := by
              by_cases q : valW a < valW w
              · rw [decide_eq_true q, decide_eq_true (by omega)]
              · rw [decide_eq_false q, decide_eq_false (by omega)]
            rw [this]
            simp [c2, h4]
      · simp [c2]
    rw [e1, e2, e3]
    refine ⟨by show (nl && (numW w && decide (valW a < valW w))) = _; exact Bool.and_comm .., fun he => ?_⟩
    obtain ⟨g1, g2⟩ := Bool.and_eq_true_iff.mp (show (nl && (numW w && decide (valW a < valW w))) = true from he)
    refine ⟨(fun z => by rw [z] at g1; cases g1), fun _ => ⟨.c0, .pair a w ha (Bool.and_eq_true_iff.mp g2).1⟩⟩
  | s0 =>
    have e1 : lawF false [] true w = stepN.contains w := rfl
    rw [e1]
    have e4 : endR (.steps .step) w nl = match slotOf w with | some s => nl == decide (s = .step) | none => false := rfl
    cases hc : stepN.contains w with
    | false =>
      have : slotOf w = none := by
        have := slot_ends (w := w)
        rw [hc] at this
        exact Option.isSome_eq_false_iff.mp this |> Option.isNone_iff_eq_none.mp
      rw [e4, this]
      refine ⟨by simp, fun z => nomatch z⟩
    | true =>
      rw [e4]
      rcases mem_stepN hc with rfl | rfl | rfl | rfl | rfl
      · refine ⟨by cases nl <;> rfl, fun he => ⟨fun _ => .s1, fun z => ?_⟩⟩
        rw [z] at he
        cases he
      · refine ⟨by cases nl <;> rfl, fun he => ⟨fun _ => .s3 _ (.inl rfl), fun z => ?_⟩⟩
        rw [z] at he
        cases he
      · refine ⟨by cases nl <;> rfl, fun he => ⟨fun _ => .s3 _ (.inr rfl), fun z => ?_⟩⟩
        rw [z] at he
        cases he
      · refine ⟨by cases nl <;> rfl, fun he => ⟨fun z => ?_, fun _ => ⟨.s0, .one _ (.inl rfl)⟩⟩⟩
        rw [z] at he
        cases he
      · refine ⟨by cases nl <;> rfl, fun he => ⟨fun z => ?_, fun _ => ⟨.s0, .one _ (.inr rfl)⟩⟩⟩
        rw [z] at he
        cases he
  | s1 =>
    have e1 : lawF false [tGrow] true w = (decide (w = [120]) || decide (w = [121])) := by
      show ([[120], [121]] : List (List Nat)).contains w = _
      simp [List.contains_cons, Bool.beq_eq_decide_eq]
    have e2 : (nl == decide (([tGrow] ++ [w]).length = wideL false ([tGrow] ++ [w]))) = !nl := by cases nl <;> rfl
    rw [e1, e2]
    have e3 : (!decide (w = []) && (decide (w = [120]) || decide (w = [121]))) = (decide (w = [120]) || decide (w = [121])) := by
      by_cases q : w = []
      · rw [q]; rfl
      · simp [q]
    rw [e3]
    refine ⟨by show (!nl && _) = _; exact Bool.and_comm .., fun he => ?_⟩
    obtain ⟨g1, g2⟩ := Bool.and_eq_true_iff.mp (show (!nl && (decide (w = [120]) || decide (w = [121]))) = true from he)
    refine ⟨fun _ => .s2 w ?_, fun z => by rw [z] at g1; cases g1⟩
    rcases Bool.or_eq_true_iff.mp g2 with q | q
    · exact .inl (of_decide_eq_true q)
    · exact .inr (of_decide_eq_true q)
  | s2 k hk =>
    have e1 : lawF false [tGrow, k] true w = nameB (.str (S w)) := rfl
    have e2 : (nl == decide (([tGrow, k] ++ [w]).length = wideL false ([tGrow, k] ++ [w]))) = nl := by cases nl <;> rfl
    have e3 : (!decide (w = []) && nameB (.str (S w))) = nameB (.str (S w)) := by
      by_cases q : w = []
      · rw [q]; rfl
      · simp [q]
    rw [e1, e2, e3]
    refine ⟨by show (nl && _) = _; exact Bool.and_comm .., fun he => ?_⟩
    obtain ⟨g1, g2⟩ := Bool.and_eq_true_iff.mp (show (nl && nameB (.str (S w))) = true from he)
    exact ⟨(fun z => by rw [z] at g1; cases g1), fun _ => ⟨.s0, .grow k w hk g2⟩⟩
  | s3 x hx =>
    have e1 : lawF false [x] true w = nf (-1) 999999999 true w := by
      rcases hx with rfl | rfl <;> rfl
    have e2 : (nl == decide (([x] ++ [w]).length = wideL false ([x] ++ [w]))) = nl := by
      rcases hx with rfl | rfl <;> cases nl <;> rfl
    have e3 : (!decide (w = []) && nf (-1) 999999999 true w) = numW w := by
      rw [nf_whole, numW_split]
      by_cases c1 : w = []
      · rw [c1]; rfl
      have a1 : decide (w ≠ []) = true := decide_eq_true c1
      have a2 : (!decide (w = [])) = true := by rw [decide_eq_false c1]; rfl
      rw [a1, a2]
      by_cases c2 : w.length ≤ 9
      · cases c3 : w.all isDg with
        | false => simp
        | true =>
          by_cases h4 : w.head? = some 48
          · rw [if_pos h4]
            by_cases h5 : w = [48]
            · rw [h5]; rfl
            · simp [h4, h5]
          · rw [if_neg h4]
            have v := val_lt (dg_all.mp c3)
            have : 10 ^ w.length ≤ 10 ^ 9 := Nat.pow_le_pow_right (by decide) c2
            rw [decide_eq_true (show ((valW w : Nat) : Int) ≤ 999999999 by omega), decide_eq_true (show (-1 : Int) < (valW w : Nat) by omega)]
            simp [c2, h4]
      · simp [c2]
    rw [e1, e2, e3]
    refine ⟨by show (nl && _) = _; exact Bool.and_comm .., fun he => ?_⟩
    obtain ⟨g1, g2⟩ := Bool.and_eq_true_iff.mp (show (nl && numW w) = true from he)
    exact ⟨(fun z => by rw [z] at g1; cases g1), fun _ => ⟨.s0, .num x w hx g2⟩⟩
end K14.T69
namespace K14.T69
open T27 T3
open K14.Gn
open PySem PySem.W PySem.Calls PyProof.Rows L2 LamX
open SX (S)
open TL (tl pre joinL)
open PySem.NumText (digitsVal AllDigits)
theorem rel_done {p : Bool} {ws : List (List Nat)} {r : RS} (h : Rel p ws r) : doneR r = decide (ws = []) := by cases h <;> rfl
def outR (n : Nat) (t : Nat × List Nat × RS) : Option Nat := if t.1 = n ∧ t.2.1 = [] ∧ doneR t.2.2 = true then none else some t.1
def parL (ws : List (List Nat)) (w : List Nat) : List Nat := (ws.map (· ++ [32])).flatten ++ w
def lineW (ws : List (List Nat)) : List Nat := joinL [32] ws ++ [10]
theorem par_join : ∀ (ws : List (List Nat)) (w : List Nat), parL ws w = joinL [32] (ws ++ [w])
  | [], w => rfl
  | [a], w => by simp [parL, joinL]
  | a :: b :: ws, w => by
    have ih := par_join (b :: ws) w
    show ((a ++ [32]) ++ ((b :: ws).map (· ++ [32])).flatten) ++ w = a ++ ([32] ++ joinL [32] ((b :: ws) ++ [w]))
    rw [← ih]
    simp [parL]
/-- the law's reading and the reader's: the same place; and what is told -/
theorem law_scan : ∀ (x : List Nat) {p : Bool} {ws : List (List Nat)} {r : RS} {w : List Nat} (fs : List (List (List Nat))) (k : Nat), Rel p ws r → (w = [] ∨ begR r w = true) →
    (lawR p ws w fs k x).1 = outR (k + x.length) (scanR r w k x) ∧
    ((lawR p ws w fs k x).1 = none → ∃ gs, (lawR p ws w fs k x).2 = fs ++ gs ∧ (∀ g ∈ gs, RowOk p g) ∧ parL ws w ++ x = (gs.map lineW).flatten)
  | [], p, ws, r, w, fs, k, h, hw => by
    show (if ws = [] ∧ w = [] then none else some k) = (if k = k + 0 ∧ w = [] ∧ doneR r = true then none else some k) ∧ ((if ws = [] ∧ w = [] then none else some k) = none → _)
    rw [rel_done h]
    by_cases c1 : ws = []
    · by_cases c2 : w = []
      · subst c1 c2
        refine ⟨by simp, fun _ => ⟨[], by rw [List.append_nil]; rfl, (fun g h => nomatch h), rfl⟩⟩
      · refine ⟨by simp [c1, c2], fun z => ?_⟩
        rw [if_neg (fun z => c2 z.2)] at z
        cases z
    · refine ⟨by simp [c1], fun z => ?_⟩
      rw [if_neg (fun z => c1 z.1)] at z
      cases z
  | c :: q, p, ws, r, w, fs, k, h, hw => by
    have le : ∀ {a : Nat}, a = k → a ≠ k + (c :: q).length := fun {a} e => by rw [List.length_cons]; omega
    have eq1 : k + (c :: q).length = k + 1 + q.length := by rw [List.length_cons]; omega
    unfold lawR scanR
    cases hc : sepC c with
    | true =>
      rw [if_pos rfl, if_pos rfl]
      obtain ⟨e1, e2⟩ := rel_end h hw (decide (c = 10))
      cases hE : endR r w (decide (c = 10)) with
      | false =>
        rw [hE] at e1
        rw [if_neg (show ¬ (false = true) by decide)]
        have e0 : outR (k + (c :: q).length) (k, w, r) = some k := by
          show (if k = k + (c :: q).length ∧ _ ∧ _ then none else some k) = some k
          exact if_neg fun z => le rfl z.1
        rw [e0]
        by_cases g1 : (decide (w = []) || !lawF p ws true w) = true
        · rw [if_pos g1]
          exact ⟨rfl, fun z => nomatch z⟩
        · rw [if_neg g1]
          have g2 : (!decide (w = []) && lawF p ws true w) = true := by
            rw [Bool.or_eq_true, not_or] at g1
            obtain ⟨a, b⟩ := g1
            rw [Bool.not_eq_true] at a
            rw [Bool.not_eq_true, Bool.not_eq_false'] at b
            rw [a, b]
            rfl
          rw [g2, Bool.true_and] at e1
          have g3 : decide (c = 10) ≠ decide ((ws ++ [w]).length = wideL p (ws ++ [w])) := fun z => by
            rw [z] at e1
            simp at e1
          rw [if_pos g3]
          exact ⟨rfl, fun z => nomatch z⟩
      | true =>
        rw [hE] at e1
        rw [if_pos rfl]
        obtain ⟨g2, g3⟩ := Bool.and_eq_true_iff.mp e1.symm
        obtain ⟨f1, f2⟩ := e2 hE
        have g1 : ¬ (decide (w = []) || !lawF p ws true w) = true := fun z => by
          obtain ⟨a, b⟩ := Bool.and_eq_true_iff.mp g2
          rw [b] at z
          have a : decide (w = []) = false := by simpa using a
          rw [a] at z
          cases z
        have g4 : ¬ decide (c = 10) ≠ decide ((ws ++ [w]).length = wideL p (ws ++ [w])) := fun z => z (eq_of_beq g3)
        rw [if_neg g1, if_neg g4, eq1]
        by_cases c10 : c = 10
        · rw [if_pos c10]
          subst c10
          obtain ⟨r1, rk⟩ := f2 rfl
          have ih := law_scan q (w := []) (fs ++ [ws ++ [w]]) (k + 1) r1 (.inl rfl)
          refine ⟨ih.1, fun z => ?_⟩
          obtain ⟨gs, t1, t2, t3⟩ := ih.2 z
          refine ⟨(ws ++ [w]) :: gs, by rw [t1, List.append_assoc]; rfl, fun g hg => ?_, ?_⟩
          · rcases List.mem_cons.mp hg with rfl | hg
            · exact rk
            · exact t2 g hg
          · rw [List.map_cons, List.flatten_cons, ← t3]
            show parL ws w ++ 10 :: q = lineW (ws ++ [w]) ++ (parL [] [] ++ q)
            unfold lineW
            rw [← par_join]
            simp [parL]
        · rw [if_neg c10]
          have c32 : c = 32 := by
            unfold sepC at hc
            rw [Bool.or_eq_true, decide_eq_true_eq, decide_eq_true_eq] at hc
            exact hc.resolve_right c10
          have d0 : decide (c = 10) = false := decide_eq_false c10
          rw [d0] at f1 ⊢
          have ih := law_scan q (w := []) fs (k + 1) (f1 rfl) (.inl rfl)
          refine ⟨ih.1, fun z => ?_⟩
          obtain ⟨gs, t1, t2, t3⟩ := ih.2 z
          refine ⟨gs, t1, t2, ?_⟩
          rw [← t3, c32]
          simp [parL]
    | false =>
      rw [if_neg (show ¬ (false = true) by decide), if_neg (show ¬ (false = true) by decide)]
      rw [rel_beg h (w ++ [c]) (by simp)]
      cases hB : begR r (w ++ [c]) with
      | false =>
        rw [if_neg (show ¬ (false = true) by decide), if_neg (show ¬ (false = true) by decide)]
        have e0 : outR (k + (c :: q).length) (k, w ++ [c], r) = some k := by
          show (if k = k + (c :: q).length ∧ _ ∧ _ then none else some k) = some k
          exact if_neg fun z => le rfl z.1
        rw [e0]
        exact ⟨rfl, fun z => nomatch z⟩
      | true =>
        rw [if_pos rfl, if_pos rfl, eq1]
        have ih := law_scan q fs (k + 1) h (.inr hB)
        refine ⟨ih.1, fun z => ?_⟩
        obtain ⟨gs, t1, t2, t3⟩ := ih.2 z
        refine ⟨gs, t1, t2, ?_⟩
        rw [← t3]
        simp [parL]
def rs0 (p : Bool) : RS := if p = true then .course none else .steps .step
theorem rel0 (p : Bool) : Rel p [] (rs0 p) := by cases p; exact .s0; exact .c0
theorem fault_law (p : Bool) (x : List Nat) : (lawR p [] [] [] 0 x).1 = faultR (rs0 p) x ∧ (faultR (rs0 p) x = none → ∃ gs, lawR p [] [] [] 0 x = (none, gs) ∧ (∀ g ∈ gs, RowOk p g) ∧ x = (gs.map lineW).flatten) := by
  obtain ⟨e1, e2⟩ := law_scan x (w := []) [] 0 (rel0 p) (.inl rfl)
  rw [Nat.zero_add] at e1
  have e3 : outR x.length (scanR (rs0 p) [] 0 x) = faultR (rs0 p) x := rfl
  rw [e3] at e1
  refine ⟨e1, fun z => ?_⟩
  rw [z] at e1
  obtain ⟨gs, t1, t2, t3⟩ := e2 e1
  refine ⟨gs, Prod.ext e1 (by rw [t1]; rfl), t2, ?_⟩
  rw [← t3]
  rfl
/-! the rows of a text, by lines and words -/
theorem name_signs {n : List Nat} (h : nameB (.str (S n)) = true) : ∀ c ∈ n, c ∈ signs.cps.toList := by
  have h : (bnB (S n) && !keptB (S n)) = true := h
  obtain ⟨h1, _⟩ := Bool.and_eq_true_iff.mp h
  unfold bnB at h1
  have e : (S n).cps.toList = n := rfl
  rw [e] at h1
  cases n with
  | nil => cases h1
  | cons c r =>
    obtain ⟨_, h2⟩ := Bool.and_eq_true_iff.mp h1
    obtain ⟨_, h3⟩ := Bool.and_eq_true_iff.mp h2
    exact fun d hd => of_decide_eq_true (List.all_eq_true.mp h3 d hd)
theorem free_all : signs.cps.toList.all (fun c => decide (c ≠ 32) && decide (c ≠ 10)) = true := by decide +kernel
theorem row_free {p : Bool} {g : List (List Nat)} (h : RowOk p g) : g ≠ [] ∧ ∀ w ∈ g, w ≠ [] ∧ 32 ∉ w ∧ 10 ∉ w := by
  have num : ∀ {a : List Nat}, numW a = true → a ≠ [] ∧ 32 ∉ a ∧ 10 ∉ a := fun {a} ha => by
    obtain ⟨h1, _, h3, _⟩ := numW_iff.mp ha
    exact ⟨h1, (fun z => by have := h3 _ z; omega), fun z => by have := h3 _ z; omega⟩
  cases h with
  | pair a b ha hb => exact ⟨by simp, forall_c (num ha) (forall_c (num hb) forall_n)⟩
  | grow k n hk hn =>
    refine ⟨by simp, forall_c (by decide +kernel) (forall_c (by rcases hk with rfl | rfl <;> decide +kernel) (forall_c ⟨?_, fun z => ?_, fun z => ?_⟩ forall_n))⟩
    · rintro rfl
      cases hn
    · have := List.all_eq_true.mp free_all _ (name_signs hn _ z)
      simp at this
    · have := List.all_eq_true.mp free_all _ (name_signs hn _ z)
      simp at this
  | num x n hx hn => exact ⟨by simp, forall_c (by rcases hx with rfl | rfl <;> decide +kernel) (forall_c (num hn) forall_n)⟩
  | one x hx => exact ⟨by simp, forall_c (by rcases hx with rfl | rfl <;> decide +kernel) forall_n⟩
theorem join_free {ws : List (List Nat)} (h : ∀ w ∈ ws, 10 ∉ w) : 10 ∉ joinL [32] ws := by
  match ws, h with
  | [], _ => exact fun z => nomatch z
  | [a], h => exact h a (by simp)
  | a :: b :: r, h =>
    show 10 ∉ a ++ ([32] ++ joinL [32] (b :: r))
    intro z
    rcases List.mem_append.mp z with z | z
    · exact h a (by simp) z
    · rcases List.mem_append.mp z with z | z
      · simp at z
      · exact join_free (fun w hw => h w (List.mem_cons_of_mem _ hw)) z
theorem lines_join : ∀ gs : List (List (List Nat)), (gs.map lineW).flatten = joinL [10] (gs.map (joinL [32]) ++ [[]])
  | [] => rfl
  | [g] => by simp [lineW, joinL]
  | g :: h :: r => by
    have ih := lines_join (h :: r)
    rw [List.map_cons, List.flatten_cons, ih]
    show (joinL [32] g ++ [10]) ++ _ = joinL [32] g ++ ([10] ++ joinL [10] _)
    rw [List.append_assoc]
    rfl
/-- text.split('\n'), of right lines -/
theorem split_lines {p : Bool} {gs : List (List (List Nat))} (h : ∀ g ∈ gs, RowOk p g) : Txt.split (S (gs.map lineW).flatten) (S [10]) = (gs.map fun g => S (joinL [32] g)) ++ [S []] := by
  have e : S (gs.map lineW).flatten = Txt.join (S [10]) ((gs.map fun g => S (joinL [32] g)) ++ [S []]) := by
    rw [TL.join_eq]
    refine TL.ext_tl ?_
    rw [TL.tl_join, tl_S, tl_S, lines_join, List.map_append, List.map_map]
    rfl
  rw [e]
  refine TL.split_join (tl_S [10]) (by decide +kernel) (by simp) fun q hq => ?_
  rcases List.mem_append.mp hq with hq | hq
  · obtain ⟨g, hg, rfl⟩ := List.mem_map.mp hq
    exact join_free fun w hw => ((row_free (h g hg)).2 w hw).2.2
  · rw [List.mem_singleton.mp hq]
    exact fun z => nomatch z
/-- line.split(' ') -/
theorem split_words {p : Bool} {g : List (List Nat)} (h : RowOk p g) : Txt.split (S (joinL [32] g)) (S [32]) = g.map S := by
  obtain ⟨h1, h2⟩ := row_free h
  have e : S (joinL [32] g) = Txt.join (S [32]) (g.map S) := by
    rw [TL.join_eq]
    refine TL.ext_tl ?_
    rw [TL.tl_join, tl_S, tl_S, List.map_map]
    have : (g.map (tl ∘ S)) = g := by
      rw [show (tl ∘ S) = id from funext fun l => rfl, List.map_id]
    rw [this]
  rw [e]
  refine TL.split_join (tl_S [32]) (by decide +kernel) (fun z => h1 (List.map_eq_nil_iff.mp z)) fun q hq => ?_
  obtain ⟨w, hw, rfl⟩ := List.mem_map.mp hq
  exact (h2 w hw).2.1
end K14.T69
namespace K14.Gn
open PySem PySem.W PySem.Calls PyProof.Rows L2 LamX
open Kz (same_new small4)
/-! ### comprehensions over anything that is walked over -/
section
variable {J : It} {n : Nat} {Gd : Hp → Prop} {Y : Nat → Hp → V → Hp → Prop} {g : TG} {tt : TT} {te : TE} {vs : List Nat} {σ : L2.St} {H : Hp} {D : Addr} {Qd : Hp → Prop}
/-- what is made so far is known by A (of the heap without the list that is made, and without S) -/
theorem lc_acc (w : Walk J n Gd Y) (S : List Addr) (ins : Ins S H) (hD : H D = none) (len : n ≤ 100000) (hG : ∀ H', L2.Same H H' → Gd H') (A : Nat → List V → Hp → Prop) (mono : ∀ i ys G G', A i ys G → L2.Same G G' → A i ys G') (A0 : A 0 [] (Hid (D :: S) H))
    (hs : ∀ (i : Nat) (x : V) (G1 G2 : Hp) (ys : List V) (Qy : V → Hp → Prop) (Qn : Hp → Prop), i < n → L2.Same H G1 → Ins (D :: S) G1 → A i ys (Hid (D :: S) G1) → Y i G1 x G2 →
      (∀ (y : V) (H4 : Hp), L2.Same G1 H4 → A (i + 1) (ys ++ [y]) (Hid (D :: S) H4) → Qy y H4) → (∀ H3 : Hp, L2.Same G1 H3 → A (i + 1) ys (Hid (D :: S) H3) → Qn H3) →
      g x (wipe σ vs) G2 fun σ2 H2 => wipe σ2 vs = wipe σ vs ∧ tt σ2 H2 fun b H3 => if b = true then te σ2 H3 Qy else Qn H3)
    (hq : ∀ (G : Hp) (ys : List V), L2.Same H G → G D = some (.lst ys) → A n ys (Hid (D :: S) G) → Qd G) :
    ∃ W : Nat → Nat → Hp → Prop, (∃ m, W 0 m (upd H D (.lst []))) ∧ ∀ i m H, W i m H →
      (J.stop i H ∧ Qd H) ∨ (J.go i H ∧ ∃ Nx : Hp → Prop, (∀ H', Nx H' → ∃ m', m' < m ∧ W (i + 1) m' H') ∧ ∀ x H', J.yld i H x H' → g x (wipe σ vs) H' fun σ2 H2 => wipe σ2 vs = wipe σ vs ∧ tt σ2 H2 fun b H3 =>
        if b = true then te σ2 H3 fun y H4 => ∃ acc, H4 D = some (.lst acc) ∧ acc.length < sizeLine ∧ Nx (upd H4 D (.lst (acc ++ [y]))) else Nx H3) := by
  have nS : D ∉ S := ins.new hD
  have hid0 : L2.Same (Hid (D :: S) H) (Hid (D :: S) (upd H D (.lst []))) := hid_upd (List.mem_cons_self ..)
  refine lc_it w (fun i H2 => L2.Same H H2 ∧ ∃ ys, H2 D = some (.lst ys) ∧ ys.length ≤ i ∧ A i ys (Hid (D :: S) H2)) ⟨same_new hD, [], upd_same, Nat.le_refl _, mono _ _ _ _ A0 hid0⟩ (fun i H2 _ e => hG _ e.1) (fun i x G1 G2 hi e y => ?_) (fun G e => ?_)
  · obtain ⟨s1, ys, hA, ly, a⟩ := e
    have insG : Ins (D :: S) G1 := (ins.same s1).cons hA
    refine hs i x G1 G2 ys _ _ hi s1 insG a y (fun y H4 s4 a4 => ?_) (fun H3 s3 a3 => ⟨s1.trans s3, ys, s3 _ _ hA, by omega, a3⟩)
    refine ⟨ys, s4 _ _ hA, by rw [sizeLine_eq]; omega, fun b o e => ?_, ys ++ [y], upd_same, by rw [List.length_append, List.length_singleton]; omega, mono _ _ _ _ a4 (hid_upd (List.mem_cons_self ..))⟩
    rw [upd_ne (ne_of_none e hD)]
    exact s4 _ _ (s1 _ _ e)
  · obtain ⟨s1, ys, hA, ly, a⟩ := e
    exact hq G ys s1 hA a
end
/-- for each sign of a text, a flat value: no test -/
theorem lc_strF {K : Frag} {k : Nat} {x : Str} {σ : L2.St} {H : Hp} {tl te : TE} {vs : List Nat} (f : Nat → V) {Q : VK} (ht : ∀ R : VK, R (.str x) H → tl σ H R) (len : x.length ≤ 100000) (hw : ∀ y : V, wipe ((wipe σ vs).set k (some y)) vs = wipe σ vs)
    (hs : ∀ (c : Nat) (G : Hp) (Q' : VK), c ∈ x.cps.toList → L2.Same H G → (∀ G', L2.Same G G' → Q' (f c) G') → te ((wipe σ vs).set k (some (.str ⟨#[c]⟩))) G Q')
    (hq : ∀ (G : Hp) (D : Addr), L2.Same H G → G D = some (.lst (x.cps.toList.map f)) → Q (.ref D) G) : tLc (iStr tl) (gName k) tYes te vs σ H Q := by
  refine ht _ ⟨x, rfl, fun D hD => lc_acc (S := []) walk_str (fun b h => nomatch h) hD (by have : x.length = x.cps.size := rfl; omega) (fun _ _ => trivial) (fun i ys _ => ys = (x.cps.toList.take i).map f) (fun i ys G G' e _ => e) rfl (fun i v G1 G2 ys Qy Qn hi s1 insG a y ky kn => ?_) (fun G ys s1 hA a => ?_)⟩
  · obtain ⟨rfl, c, hc, rfl⟩ := y
    have hc' : x.cps.toList[i]? = some c := by rw [Array.getElem?_toList]; exact hc
    refine ⟨hw _, ?_⟩
    unfold tYes
    show (if true = true then _ else _)
    rw [if_pos rfl]
    refine hs c G2 Qy (List.mem_of_getElem? hc') s1 fun G' s' => ky _ _ s' ?_
    rw [a, List.take_add_one, hc', List.map_append]
    rfl
  · rw [show x.cps.size = x.cps.toList.length from (Array.length_toList).symm, List.take_length] at a
    rw [a] at hA
    exact hq G D s1 hA
theorem all_strG {K : Frag} {k : Nat} {x : Str} {σ : L2.St} {H : Hp} {tl te : TE} {vs : List Nat} (b : Nat → Bool) {Q : VK} (ht : ∀ R : VK, R (.str x) H → tl σ H R) (len : x.length ≤ 100000) (hw : ∀ y : V, wipe ((wipe σ vs).set k (some y)) vs = wipe σ vs)
    (hs : ∀ (c : Nat) (G : Hp) (Q' : VK), c ∈ x.cps.toList → L2.Same H G → (∀ G', L2.Same G G' → Q' (.bl (b c)) G') → te ((wipe σ vs).set k (some (.str ⟨#[c]⟩))) G Q')
    (hq : ∀ G : Hp, L2.Same H G → Q (.bl (x.cps.toList.all b)) G) : tCB (rAll K) (tCons (tLc (iStr tl) (gName k) tYes te vs) tNil) σ H Q := by
  unfold tCB tCons tNil
  exact lc_strF (K := K) (fun c => .bl (b c)) ht len hw hs fun G D s hA => ⟨D, x.cps.toList.map b, rfl, .inl (.inl (by rw [List.map_map]; exact hA)), by rw [List.all_map]; exact hq G s⟩
/-- for each item of a list of known values, a flat value: no test -/
theorem lc_lstF {K : Frag} {k : Nat} {xs : List V} {σ : L2.St} {H : Hp} {tl te : TE} {vs : List Nat} (f : V → V) {Q : VK} (ht : ∀ R : VK, (∀ (a : Addr) (G0 : Hp), L2.Same H G0 → G0 a = some (.lst xs) → R (.ref a) G0) → tl σ H R) (len : xs.length ≤ 100000) (hw : ∀ y : V, wipe ((wipe σ vs).set k (some y)) vs = wipe σ vs)
    (hs : ∀ (x : V) (G : Hp) (Q' : VK), x ∈ xs → L2.Same H G → (∀ G', L2.Same G G' → Q' (f x) G') → te ((wipe σ vs).set k (some x)) G Q')
    (hq : ∀ (G : Hp) (D : Addr), L2.Same H G → H D = none → G D = some (.lst (xs.map f)) → Q (.ref D) G) : tLc (iList K tl) (gName k) tYes te vs σ H Q := by
  refine ht _ fun a G0 s0 ha => ⟨a, rfl, ⟨xs, .inl (.inl ha)⟩, fun D hD => lc_acc (S := []) walk_list (fun b h => nomatch h) hD len (fun H' e => .inl (.inl (e _ _ ha))) (fun i ys _ => ys = (xs.take i).map f) (fun i ys G G' e _ => e) rfl (fun i v G1 G2 ys Qy Qn hi s1 insG a y ky kn => ?_) (fun G ys s1 hA a => ?_)⟩
  · obtain ⟨rfl, hc⟩ := y
    refine ⟨hw _, ?_⟩
    unfold tYes
    show (if true = true then _ else _)
    rw [if_pos rfl]
    refine hs v G2 Qy (List.mem_of_getElem? hc) (s0.trans s1) fun G' s' => ky _ _ s' ?_
    rw [a, List.take_add_one, hc, List.map_append]
    rfl
  · rw [List.take_length] at a
    rw [a] at hA
    exact hq G D (s0.trans s1) (s0.free hD) hA
end K14.Gn
namespace K14.T69
open T27 T3
open K14.Gn
open PySem PySem.W PySem.Calls PyProof.Rows L2 LamX
open He (ga)
open SX (S)
open TL (tl pre joinL)
open Kz (SS ExtS ExtS.trans small4 same_new boot_in boot_li boot_isi Has pe_has noE PSs.of_eq new_ext X1)
/-! ### numerals, how many names -/
def figs : Str := "0123456789"
theorem figs_dg (c : Nat) : decide (c ∈ figs.cps.toList) = isDg c := by
  have e : figs.cps.toList = [48, 49, 50, 51, 52, 53, 54, 55, 56, 57] := by decide +kernel
  rw [e]
  unfold isDg
  rw [Bool.eq_iff_iff]
  simp only [List.mem_cons, List.not_mem_nil, or_false, decide_eq_true_eq, Bool.and_eq_true]
  omega
def slotK : List (Key × V) := [(.inr "grow", .str "kind"), (.inr "shrink", .str "index"), (.inr "turn", .str "index"), (.inr "loop", .str "step"), (.inr "unloop", .str "step")]
structure GlK (P : Program) (w : World) (K : Frag) (mg : Str → Option Value) : Prop where
  fg : ∃ t, mg "FIGURES" = some (.str figs t)
  ln : ∃ t, mg "LONGEST_NUMBER" = some (.int 9 t)
  gr : ∃ t, mg "GREATEST" = some (.int 999999999 t)
  sl : mg "STEP_SLOTS" = some (.ref (ga K "STEP_SLOTS"))
  sd : DiM.DcC P w K (ga K "STEP_SLOTS") slotK
abbrev sNl : Stmt := topS 23
abbrev sGf : Stmt := topS 24
abbrev sNf : Stmt := topS 17
theorem scNl : FnScope ["word", "sign"] ["word"] (defScope sNl) := ⟨rfl, rfl, rfl, by decide +kernel, rfl, by decide +kernel, by decide +kernel⟩
theorem scGf : FnScope ["word"] ["word"] (defScope sGf) := ⟨rfl, rfl, rfl, by decide +kernel, rfl, by decide +kernel, by decide +kernel⟩
theorem scNf : FnScope ["length", "many", "_"] ["length"] (defScope sNf) := ⟨rfl, rfl, rfl, by decide +kernel, rfl, by decide +kernel, by decide +kernel⟩
theorem bdNl : defBody sNl = [stOf sNl 0, stOf sNl 1] := by rfl
theorem bdGf : defBody sGf = [stOf sGf 0, stOf sGf 1] := by rfl
theorem bdNf : defBody sNf = [stOf sNf 0, stOf sNf 1, stOf sNf 2] := by rfl
def scIfA : Stmt → Scope
  | .If (.BoolOp _ [_, .UnaryOp _ (.Call _ [.ListComp _ _ sc _] _ _) _] _) _ _ _ => sc
  | _ => defScope sNl
def nlSc : Scope := scIfA (stOf sNl 0)
def fbNf : Stmt := (forBody (stOf sNf 1)).getD 0 (.Pass ⟨0, 0, 0, 0⟩)
theorem bdFNf : forBody (stOf sNf 1) = [fbNf] := by rfl
section
variable {P : Program} {w : World} {K : Frag} {mg : Str → Option Value} {base : Heap}
def spNl : Sp := fun vs H Q _ => ∃ x : List Nat, vs = [.str (S x)] ∧ x.length ≤ 100000 ∧ ∀ H', L2.Same H H' → Q (.bl (numW x)) H'
theorem ok_nl {f : Addr} {fd : FuncData} (F : FunD K "is_numeral" "is_numeral" (defArgs sNl) (defBody sNl) (defScope sNl) [] [] f fd) (N : NmK K mg) (L : GlK P w K mg) : FnOk P w K mg base CX0 1 f fd ["word"] spNl := by
  obtain ⟨t1, g1⟩ := L.fg
  obtain ⟨t2, g2⟩ := L.ln
  refine F.ok scNl (fun vs H Q E h => ?_) (fun cdv A outer s H vs Q XE hr h => ?_)
  · obtain ⟨x, rfl, _⟩ := h
    rfl
  · obtain ⟨x, rfl, hl, k⟩ := h
    have h0 : PS (cxOf CX0 P w K mg base ["word", "sign"] "is_numeral" (defScope sNl) f cdv A outer s H XE).nox (stOf sNl 0) _ := ps_if ((pw_or (pt_not (pt_chain op_lt op_le pe_int (pe_callB call_len_str (by rfl) N.len boot_len (pa_cons (pv 0) pa_nil)) (pe_glob (v := .int 9) (by rfl) g2 ⟨_, rfl⟩ (by decide)))))
      (pw_or1 (pt_not (pt_val (pe_callB (cr_all rfl) (by rfl) N.all boot_all (pa_cons (pe_lc (X := (cxOf CX0 P w K mg base ["word", "sign"] "is_numeral" (defScope sNl) f cdv A outer s H XE).nox) (scope := nlSc) (own := [("sign", 1)]) (g := gName 1) (tt := tYes)
      (te := tOp (fun x y H Q => ∃ (c : Nat) (z : Str), x = .str ⟨#[c]⟩ ∧ y = .str z ∧ Q (.bl (decide (c ∈ z.cps.toList))) H) (tVar 1) (tC (.str figs))) rfl scNl.nd
      (pi_str (pv 0)) (blkOk_by (N := ["word", "sign"]) (sc := defScope sNl) (by decide +kernel)) (fun _ _ _ _ _ => pg_name (i := 1) scNl.nd rfl (Or.inl rfl)) (fun _ _ _ _ _ => pts_nil)
      (fun s0 H0 C0 cl0 fp0 => pe_cmpR (X := Cx.blk ((cxOf CX0 P w K mg base ["word", "sign"] "is_numeral" (defScope sNl) f cdv A outer s H XE).nox) s0 H0 nlSc (compEnvC nlSc cl0 C0 (Cx.env ((cxOf CX0 P w K mg base ["word", "sign"] "is_numeral" (defScope sNl) f cdv A outer s H XE).nox))) fp0) op_in_sign (pv 1) (pe_glob (v := .str figs) (by rfl) g1 ⟨_, rfl⟩ (by decide)) (by rfl))) pa_nil)))))).pt (pss_one (ps_ret pe_bl)) pss_nil
    have h1 : PS (cxOf CX0 P w K mg base ["word", "sign"] "is_numeral" (defScope sNl) f cdv A outer s H XE).nox (stOf sNl 1) _ := ps_ret (pe_or (pe_cmpR op_ne (pe_ix ix_str (pv 0) pe_int (fun _ _ => rfl)) pe_str (nomark _)) (pe_one (pe_cmpR op_eq (pv 0) pe_str (nomark _))))
    refine ⟨_, PSs.nox (PSs.of_eq bdNl (pss_cons h0 (pss_one h1))), ?_⟩
    clear h0 h1
    have lS : ((S x).length : Int) = (x.length : Int) := by rw [S_len]
    have sm : ∀ {G : Hp}, L2.Same G G := fun _ _ e => e
    refine ⟨.str (S x), rfl, S x, rfl, (by rw [S_len, sizeLine_eq]; omega), 0, _, rfl, rfl, _, rfl, ite2 (fun e0 => ?_) (fun e0 => ?_)⟩
    · have p0 : 0 < x.length := by
        have := of_decide_eq_true e0
        omega
      refine ⟨_, 9, rfl, rfl, _, rfl, ?_⟩
      by_cases l9 : x.length ≤ 9
      · show (if (!decide (((S x).length : Int) ≤ 9)) = true then _ else _)
        rw [decide_eq_true (show ((S x).length : Int) ≤ 9 by omega)]
        refine iteF ?_
        refine all_strG (K := K) isDg (fun R h => ⟨.str (S x), rfl, h⟩) (by rw [S_len]; exact hl) (fun _ => rfl) (fun c G Q' hc s kk => ⟨_, rfl, c, figs, rfl, rfl, by rw [figs_dg]; exact kk G sm⟩) fun G1 s1 => ⟨_, rfl, ?_⟩
        have kk := k G1 s1
        have e : (S x).cps.toList = x := rfl
        rw [e]
        cases h : x.all isDg with
        | false =>
          have eN : numW x = false := by unfold numW; rw [h]; simp
          rw [eN] at kk
          exact iteT kk
        | true =>
          refine iteF ?_
          obtain ⟨c, r, rfl⟩ : ∃ c r, x = c :: r := by
            cases x with
            | nil => exact absurd p0 (by simp)
            | cons c r => exact ⟨c, r, rfl⟩
          refine ⟨.str (S (c :: r)), rfl, S (c :: r), 0, c, rfl, rfl, (by rw [S_len, sizeLine_eq]; omega), atI_nat (j := 0) rfl, rfl, ?_⟩
          have eN : numW (c :: r) = (!decide (c = 48) || decide ((c :: r) = [48])) := by
            unfold numW
            rw [h, decide_eq_true p0, decide_eq_true l9]
            simp
          rw [eN] at kk
          have e1 : decide (V.str ⟨#[c]⟩ = V.str "0") = decide (c = 48) := by
            have e2 : ("0" : Str) = ⟨#[48]⟩ := by decide +kernel
            rw [e2, Bool.eq_iff_iff, decide_eq_true_eq, decide_eq_true_eq]
            refine ⟨fun q => ?_, fun q => by rw [q]⟩
            have := congrArg tl (V.str.inj q)
            simpa using this
          refine ⟨_, rfl, ?_⟩
          rw [e1]
          cases q : decide (c = 48) with
          | false =>
            rw [q] at kk
            exact iteT kk
          | true =>
            rw [q] at kk
            refine iteF ⟨.str (S (c :: r)), rfl, rfl, ?_⟩
            have e3 : decide (V.str (S (c :: r)) = V.str "0") = decide (c :: r = [48]) := by
              have e2 : ("0" : Str) = S [48] := by decide +kernel
              rw [e2, Bool.eq_iff_iff, decide_eq_true_eq, decide_eq_true_eq]
              exact ⟨fun q => S_inj (V.str.inj q), fun q => by rw [q]⟩
            rw [e3]
            exact kk
      · show (if (!decide (((S x).length : Int) ≤ 9)) = true then _ else _)
        rw [decide_eq_false (show ¬ ((S x).length : Int) ≤ 9 by omega)]
        have eN : numW x = false := by unfold numW; rw [decide_eq_false l9]; simp
        have kk := k H sm
        rw [eN] at kk
        exact iteT (iteT kk)
    · have p0 : ¬ 0 < x.length := fun z => e0 (decide_eq_true (by omega))
      have eN : numW x = false := by unfold numW; rw [decide_eq_false p0]; rfl
      have kk := k H sm
      rw [eN] at kk
      exact ⟨false, rfl, iteT (iteT kk)⟩
/-- the greatest number that begins so -/
def spGf : Sp := fun vs H Q _ => ∃ x : List Nat, vs = [.str (S x)] ∧ numW x = true ∧ ∀ H', L2.Same H H' → Q (.int (gfrom x : Nat)) H'
theorem ok_gf {f : Addr} {fd : FuncData} (F : FunD K "greatest_from" "greatest_from" (defArgs sGf) (defBody sGf) (defScope sGf) [] [] f fd) (N : NmK K mg) (L : GlK P w K mg) (mi : mg "int" = none) : FnOk P w K mg base CX0 1 f fd ["word"] spGf := by
  obtain ⟨t2, g2⟩ := L.ln
  refine F.ok scGf (fun vs H Q E h => ?_) (fun cdv A outer s H vs Q XE hr h => ?_)
  · obtain ⟨x, rfl, _⟩ := h
    rfl
  · obtain ⟨x, rfl, hx, k⟩ := h
    have h0 : PS (cxOf CX0 P w K mg base ["word"] "greatest_from" (defScope sGf) f cdv A outer s H XE).nox (stOf sGf 0) _ := ps_if (pt_cmpR op_eq (pv 0) pe_str (nomark _)) (pss_one (ps_ret pe_int)) pss_nil
    have h1 : PS (cxOf CX0 P w K mg base ["word"] "greatest_from" (defScope sGf) f cdv A outer s H XE).nox (stOf sGf 1) _ := ps_ret (pe_callTy call_int_str (by rfl) mi boot_in (pa_cons (pe_op op_add_str (pv 0) (pe_op DiM.op_repS pe_str (pe_op op_sub (pe_glob (v := .int 9) (by rfl) g2 ⟨_, rfl⟩ (by decide)) (pe_callB call_len_str (by rfl) N.len boot_len (pa_cons (pv 0) pa_nil))))) pa_nil))
    refine ⟨_, PSs.nox (PSs.of_eq bdGf (pss_cons h0 (pss_one h1))), ?_⟩
    clear h0 h1
    obtain ⟨h1, h2, h3, h4⟩ := numW_iff.mp hx
    have e3 : decide (V.str (S x) = V.str "0") = decide (x = [48]) := by
      have e2 : ("0" : Str) = S [48] := by decide +kernel
      rw [e2, Bool.eq_iff_iff, decide_eq_true_eq, decide_eq_true_eq]
      exact ⟨fun q => S_inj (V.str.inj q), fun q => by rw [q]⟩
    refine ⟨.str (S x), rfl, rfl, _, rfl, ?_⟩
    rw [e3]
    have kk := k H (fun _ _ e => e)
    by_cases c : x = [48]
    · rw [decide_eq_true c]
      unfold gfrom at kk
      rw [if_pos c] at kk
      exact iteT kk
    · rw [decide_eq_false c]
      unfold gfrom at kk
      rw [if_neg c] at kk
      have hl : ((9 : Int) - ((S x).length : Nat)).toNat = 9 - x.length := by rw [S_len]; omega
      have l1 : ("9" : Str).length = 1 := by decide +kernel
      have eR : DiM.repT "9" (9 - x.length) = S (n9 (9 - x.length)) := TL.ext_tl (by
        rw [DiM.repT_tl]
        have : TL.tl ("9" : Str) = [57] := by decide +kernel
        rw [this, tl_S]
        generalize 9 - x.length = m
        induction m with
        | zero => rfl
        | succ m ih => rw [List.replicate_succ, List.flatten_cons, ih]; rfl)
      refine iteF ⟨.str (S x), rfl, .str (S x), rfl, S x, rfl, by rw [S_len, sizeLine_eq]; omega, 9, _, rfl, rfl, "9", _, rfl, rfl, by rw [S_len]; omega, by rw [S_len]; omega, by rw [l1]; omega, ?_⟩
      rw [hl, eR]
      refine ⟨S x, _, rfl, rfl, by rw [S_len, S_len, sizeLine_eq, List.length_replicate]; omega, ?_⟩
      rw [S_app]
      refine ⟨_, _, rfl, SX.int_S ?_ ?_ ?_, ?_, kk⟩
      · show (x ++ n9 (9 - x.length)).all isDg = true
        rw [List.all_append, dg_all.mpr h3, Bool.true_and, List.all_replicate]
        split <;> rfl
      · exact fun z => h1 (List.append_eq_nil_iff.mp z).1
      · rw [List.length_append, List.length_replicate]; omega
      · rw [S_len, List.length_append, List.length_replicate]; omega
/-- how many names begin so: some -/
def spNf : Sp := fun vs H Q _ => ∃ n : Nat, vs = [.int (n : Nat)] ∧ n ≤ 8 ∧ ∀ (H' : Hp) (m : Nat), L2.Same H H' → 0 < m → Q (.int (m : Nat)) H'
theorem ok_nf {f : Addr} {fd : FuncData} (F : FunD K "names_from" "names_from" (defArgs sNf) (defBody sNf) (defScope sNf) [] [] f fd) (N : NmK K mg) (mr : mg "range" = none) : FnOk P w K mg base CX0 1 f fd ["length"] spNf := by
  obtain ⟨t2, g2⟩ := N.ln
  obtain ⟨t3, g3⟩ := N.ns
  refine F.ok scNf (fun vs H Q E h => ?_) (fun cdv A outer s H vs Q XE hr h => ?_)
  · obtain ⟨x, rfl, _⟩ := h
    rfl
  · obtain ⟨n, rfl, hn, k⟩ := h
    have h0 : PS (cxOf CX0 P w K mg base ["length", "many", "_"] "names_from" (defScope sNf) f cdv A outer s H XE).nox (stOf sNf 0) _ := ps_set (i := 1) scNf.nd rfl (.inl rfl) pe_int
    have b0 : PS (cxOf CX0 P w K mg base ["length", "many", "_"] "names_from" (defScope sNf) f cdv A outer s H XE).nox fbNf _ := ps_set (i := 1) scNf.nd rfl (.inl rfl) (pe_op op_add (pe_op op_mul (pv 1) (pe_callB call_len_str (by rfl) N.len boot_len (pa_cons (pe_glob (v := .str signs) (by rfl) g3 ⟨_, rfl⟩ (by decide)) pa_nil))) pe_int)
    have h1 : PS (cxOf CX0 P w K mg base ["length", "many", "_"] "names_from" (defScope sNf) f cdv A outer s H XE).nox (stOf sNf 1) _ := ps_for PassesOwn.never rfl (pi_range1 (by rfl) mr (pa_cons (pe_op op_sub (pe_op op_add (pe_glob (v := .int 8) (by rfl) g2 ⟨_, rfl⟩ (by decide)) pe_int) (pv 0)) pa_nil)) (pg_name (i := 2) scNf.nd rfl (.inl rfl)) (PSs.of_eq bdFNf (pss_one b0))
    have h2 : PS (cxOf CX0 P w K mg base ["length", "many", "_"] "names_from" (defScope sNf) f cdv A outer s H XE).nox (stOf sNf 2) _ := ps_ret (pv 1)
    have PP := PSs.of_eq bdNf (pss_cons h0 (pss_cons h1 (pss_one h2)))
    clear h0 h1 h2 b0
    refine ⟨_, PSs.nox PP, ?_⟩
    clear PP
    have ls : signs.length = 36 := by decide +kernel
    refine set_intro (i := 1) ?_
    show tSeq _ _ _ _ _
    refine ⟨8, 1, rfl, rfl, .int (n : Nat), rfl, _, _, rfl, rfl, _, rfl, by omega, by omega, for_range (lo := 0) (n := ((8 : Int) + 1 - (n : Nat)).toNat) (fun j σ G => ∃ (x2 : Option V) (m : Nat), σ = [some (.int (n : Nat)), some (.int (m : Nat)), x2] ∧ (0 < j → 0 < m) ∧ L2.Same H G) ⟨none, 0, rfl, fun z => absurd z (by decide), fun _ _ e => e⟩ (fun j σ G hj e => ?_) (fun σ G e => ?_)⟩
    · obtain ⟨x2, m, rfl, _, sG⟩ := e
      refine gset ?_
      refine ⟨.int (m : Nat), rfl, signs, rfl, by rw [ls, sizeLine_eq]; decide, _, _, rfl, rfl, .inr ⟨by rw [ls]; decide, by rw [ls]; decide⟩, _, 1, rfl, rfl, ?_⟩
      have ev : ((m : Nat) : Int) * ((signs.length : Nat) : Int) + 1 = ((m * 36 + 1 : Nat) : Int) := by rw [ls]; push_cast; rfl
      refine gset ⟨some (.int (0 + (j : Nat))), m * 36 + 1, ?_, fun _ => by omega, sG⟩
      show [some (V.int (n : Nat)), some (V.int (((m : Nat) : Int) * ((signs.length : Nat) : Int) + 1)), some (V.int (0 + (j : Nat)))] = _
      rw [ev]
    · obtain ⟨x2, m, rfl, hm, sG⟩ := e
      exact ⟨_, rfl, k G m sG (hm (by omega))⟩
end
end K14.T69
namespace K14.Gn
open PySem PySem.W PySem.Calls PyProof.Rows L2 LamX
open Kz (noE)
/-! ### methods of own classes -/
def HasM (P : Program) (w : World) (K : Frag) (mg : Str → Option Value) (base : Heap) (C : Addr) (m : Str) (k : Nat) (ps : List Str) (sp : Sp) : Prop := ∃ f fd, Meth K C m f ∧ Cls K C ∧ L2.Binds K fd ps [] ∧ FnOk P w K mg base CX0 k f fd ps sp
theorem pe_hasM {X : Cx} {o e : Expr} {es : List Expr} {ta : TE} {t : TA} {C : Addr} {m : Str} {k : Nat} {ps : List Str} {sp : Sp} {apos pos : Pos} {pl : Sem Bool} (h : HasM X.prog X.w X.K X.mg X.base C m k ps sp) (hr : Room k X.A) (he : PE X o ta) (ha : PA X (e :: es) t)
    (hst : starEach (e :: es) X.env = (false, eval e X.env) :: starEach es X.env := by rfl) (hpl : (backTo pos (starEach es X.env)).any (·.1) = false := by rfl)
    (ht : eval (.Call (.Attribute o m apos) (e :: es) [] pos) X.env = (do
      let ov ← eval o X.env
      standAt apos.atName
      let (f, first) ← holding [ov] (getMethod ov m pl)
      callWith pos f first (backTo pos (starEach (e :: es) X.env)) (backToKw pos (keywordEach [] X.env))) := by rfl) :
    PE X (.Call (.Attribute o m apos) (e :: es) [] pos) (tMeth C m sp [] noE ta t) := by
  obtain ⟨f, fd, hm, c, hb, F⟩ := h
  exact pe_meth he c hm F hr hb .nil pass0 ha hst hpl ht
theorem pe_hasM0 {X : Cx} {o : Expr} {ta : TE} {C : Addr} {m : Str} {k : Nat} {ps : List Str} {sp : Sp} {apos pos : Pos} {pl : Sem Bool} (h : HasM X.prog X.w X.K X.mg X.base C m k ps sp) (hr : Room k X.A) (he : PE X o ta)
    (ht : eval (.Call (.Attribute o m apos) [] [] pos) X.env = (do
      let ov ← eval o X.env
      standAt apos.atName
      let (f, first) ← holding [ov] (getMethod ov m pl)
      callWith pos f first (backTo pos (starEach [] X.env)) (backToKw pos (keywordEach [] X.env))) := by rfl) :
    PE X (.Call (.Attribute o m apos) [] [] pos) (tMeth C m sp [] noE ta tNil) := by
  obtain ⟨f, fd, hm, c, hb, F⟩ := h
  exact pe_meth0 he c hm F hr hb .nil pass0 ht
/-- C(..) -/
def HasC (P : Program) (w : World) (K : Frag) (mg : Str → Option Value) (base : Heap) (x : Str) (C : Addr) (k : Nat) (ps : List Str) (sp : Sp) : Prop := ∃ f fd, mg x = some (.ref C) ∧ L2.Mk K C f ∧ L2.Binds K fd ps [] ∧ FnOk P w K mg base CX0 k f fd ps sp
theorem pe_hasC {X : Cx} {x : Str} {e : Expr} {es : List Expr} {t : TA} {C : Addr} {k : Nat} {ps : List Str} {sp : Sp} {p pos : Pos} (h : HasC X.prog X.w X.K X.mg X.base x C k ps sp) (hr : Room (k + 1) X.A) (hg : Gl X x) (ha : PA X (e :: es) t) (hdb : (x == ("__debug__" : Str)) = false := by decide)
    (hst : starEach (e :: es) X.env = (false, eval e X.env) :: starEach es X.env := by rfl) (hpl : (backTo pos (starEach es X.env)).any (·.1) = false := by rfl) : PE X (.Call (.Name x p) (e :: es) [] pos) (tMake C sp [] noE t) := by
  obtain ⟨f, fd, hm, M, hb, F⟩ := h
  exact pe_make M F hr hg hm hb .nil pass0 ha (hdb := hdb) (he := hst) (hpl := hpl)
theorem pe_hasC0 {X : Cx} {x : Str} {C : Addr} {k : Nat} {ps : List Str} {sp : Sp} {p pos : Pos} (h : HasC X.prog X.w X.K X.mg X.base x C k ps sp) (hr : Room (k + 1) X.A) (hg : Gl X x) (hdb : (x == ("__debug__" : Str)) = false := by decide) : PE X (.Call (.Name x p) [] [] pos) (tMake C sp [] noE tNil) := by
  obtain ⟨f, fd, hm, M, hb, F⟩ := h
  exact pe_make0 M F hr hg hm hb .nil pass0 (hdb := hdb)
end K14.Gn
namespace K14.T69
open T27 T3
open K14.Gn
open PySem PySem.W PySem.Calls PyProof.Rows L2 LamX
open He (ga)
open SX (S)
open TL (tl pre joinL)
open Kz (SS ExtS ExtS.trans small4 same_new boot_in boot_li boot_isi Has pe_has noE PSs.of_eq new_ext X1)
/-! ### the readers, as they stand -/
def clsBody : Stmt → List Stmt
  | .ClassDef _ _ _ b _ _ _ _ _ _ _ => b
  | _ => []
def mS (i k : Nat) : Stmt := (clsBody (topS i)).getD k (.Pass ⟨0, 0, 0, 0⟩)
abbrev sCi : Stmt := mS 25 0
abbrev sCb : Stmt := mS 25 1
abbrev sCe1 : Stmt := mS 25 2
abbrev sCp : Stmt := mS 25 3
abbrev sCd : Stmt := mS 25 4
def oi : Option Nat → Int
  | none => -1
  | some n => (n : Nat)
def slotT : Slot → Str
  | .step => "step"
  | .kind => "kind"
  | .wire => "wire"
  | .index => "index"
abbrev CoC (K : Frag) : Addr := ga K "CourseReader"
abbrev StC (K : Frag) : Addr := ga K "StepsReader"
abbrev SkC (K : Frag) : Addr := ga K "Stock"
def StkAt (K : Frag) (H : Hp) (st : Addr) : Prop := ∃ dx d1 d2, H st = some (.ins (SkC K) dx [("most", .int 1), ("times", .ref d1), ("singles", .int 0), ("spent", .ref d2)]) ∧ H d1 = some (.dK []) ∧ H d2 = some (.dK [])
def RdAt (K : Frag) (H : Hp) (p : Addr) : RS → Prop
  | .course o => ∃ dx, H p = some (.ins (CoC K) dx [("first", .int (oi o))])
  | .steps s => ∃ dx st, H p = some (.ins (StC K) dx [("slot", .str (slotT s)), ("wire_names", .ref st)]) ∧ st ≠ p ∧ ∃ dx d1 d2, H st = some (.ins (SkC K) dx [("most", .int 1), ("times", .ref d1), ("singles", .int 0), ("spent", .ref d2)]) ∧ H d1 = some (.dK []) ∧ H d2 = some (.dK [])
def isC : RS → Bool
  | .course _ => true
  | .steps _ => false
theorem RdAt.ext {K : Frag} {H H1 : Hp} {p : Addr} {r : RS} (h : RdAt K H p r) (e : L2.Same H H1) : RdAt K H1 p r := by
  cases r with
  | course o =>
    obtain ⟨dx, q⟩ := h
    exact ⟨dx, e _ _ q⟩
  | steps s =>
    obtain ⟨dx, st, q, n, dx2, d1, d2, q2, q3, q4⟩ := h
    exact ⟨dx, st, e _ _ q, n, dx2, d1, d2, e _ _ q2, e _ _ q3, e _ _ q4⟩
def spBeg (K : Frag) (b : Bool) : Sp := fun vs H Q _ => ∃ (p : Addr) (r : RS) (w : List Nat), vs = [.ref p, .str (S w)] ∧ isC r = b ∧ RdAt K H p r ∧ w.length ≤ 100000 ∧ ∀ H', L2.Same H H' → Q (.bl (begR r w)) H'
def spEnd (K : Frag) (b : Bool) : Sp := fun vs H Q _ => ∃ (p : Addr) (r : RS) (w : List Nat) (c : Nat), vs = [.ref p, .str (S w), .str ⟨#[c]⟩] ∧ isC r = b ∧ RdAt K H p r ∧ sepC c = true ∧ w.length ≤ 100000 ∧ ∀ H', L2.Same H H' → Q (.bl (endR r w (decide (c = 10)))) H'
def spPut (K : Frag) (b : Bool) : Sp := fun vs H Q _ => ∃ (p : Addr) (r : RS) (w : List Nat) (c : Nat), vs = [.ref p, .str (S w), .str ⟨#[c]⟩] ∧ isC r = b ∧ RdAt K H p r ∧ sepC c = true ∧ endR r w (decide (c = 10)) = true ∧ ∀ H', Exc p H H' → RdAt K H' p (putR r w (decide (c = 10))) → Q .non H'
def spDone (K : Frag) (b : Bool) : Sp := fun vs H Q _ => ∃ (p : Addr) (r : RS), vs = [.ref p] ∧ isC r = b ∧ RdAt K H p r ∧ ∀ H', L2.Same H H' → Q (.bl (doneR r)) H'
/-- the new reader -/
def spNew (K : Frag) (C : Addr) (r : RS) : Sp := fun vs H Q _ => ∃ (p dx : Addr), vs = [.ref p] ∧ H p = some (.ins C dx []) ∧ ∀ H', Exc p H H' → RdAt K H' p r → Q .non H'
theorem nl_sign (c : Nat) : decide (V.str ⟨#[c]⟩ = V.str "\n") = decide (c = 10) := by
  have e2 : ("\n" : Str) = S [10] := by decide +kernel
  rw [e2, Bool.eq_iff_iff, decide_eq_true_eq, decide_eq_true_eq]
  exact ⟨fun q => by simpa using S_inj (a := [c]) (V.str.inj q), fun q => by rw [q]⟩
theorem sp_sign {c : Nat} (h : sepC c = true) : decide (V.str ⟨#[c]⟩ = V.str " ") = !decide (c = 10) := by
  have e2 : (" " : Str) = S [32] := by decide +kernel
  unfold sepC at h
  rw [Bool.or_eq_true, decide_eq_true_eq, decide_eq_true_eq] at h
  rw [e2]
  rcases h with rfl | rfl
  · decide +kernel
  · decide +kernel
theorem scCi : FnScope ["self"] ["self"] (defScope sCi) := ⟨rfl, rfl, rfl, by decide +kernel, rfl, by decide +kernel, by decide +kernel⟩
theorem scCb : FnScope ["self", "word"] ["self", "word"] (defScope sCb) := ⟨rfl, rfl, rfl, by decide +kernel, rfl, by decide +kernel, by decide +kernel⟩
theorem scCe1 : FnScope ["self", "word", "sign"] ["self", "word", "sign"] (defScope sCe1) := ⟨rfl, rfl, rfl, by decide +kernel, rfl, by decide +kernel, by decide +kernel⟩
theorem scCp : FnScope ["self", "word", "sign"] ["self", "word", "sign"] (defScope sCp) := ⟨rfl, rfl, rfl, by decide +kernel, rfl, by decide +kernel, by decide +kernel⟩
theorem scCd : FnScope ["self"] ["self"] (defScope sCd) := ⟨rfl, rfl, rfl, by decide +kernel, rfl, by decide +kernel, by decide +kernel⟩
theorem bdCi : defBody sCi = [stOf sCi 0] := by rfl
theorem bdCb : defBody sCb = [stOf sCb 0, stOf sCb 1, stOf sCb 2] := by rfl
theorem bdCe1 : defBody sCe1 = [stOf sCe1 0, stOf sCe1 1] := by rfl
theorem bdCp : defBody sCp = [stOf sCp 0] := by rfl
theorem bdCd : defBody sCd = [stOf sCd 0] := by rfl
/-- what is known of the readers' classes -/
structure ClK (K : Frag) : Prop where
  co : Cls K (CoC K)
  cf : NoAttr K (CoC K) "first"
  st : Cls K (StC K)
  ss : NoAttr K (StC K) "slot"
  sw : NoAttr K (StC K) "wire_names"
  sk : Cls K (SkC K)
  km : NoAttr K (SkC K) "most"
  kt : NoAttr K (SkC K) "times"
  ks : NoAttr K (SkC K) "singles"
  kp : NoAttr K (SkC K) "spent"
section
variable {P : Program} {w : World} {K : Frag} {mg : Str → Option Value} {base : Heap}
abbrev XCo (P : Program) (w : World) (K : Frag) (mg : Str → Option Value) (base : Heap) (N : List Str) (q : Str) (st : Stmt) (f : Addr) (cdv : Value) (A : Around) (outer : List Env) (s : Shared) (H : Hp) (XE : XK) : Cx := (cxOf CX0 P w K mg base N q (defScope st) f cdv A outer s H XE).nox
theorem ok_ci {f : Addr} {fd : FuncData} (F : FunD K "__init__" "CourseReader.__init__" (defArgs sCi) (defBody sCi) (defScope sCi) [] [] f fd) (C : ClK K) : FnOk P w K mg base CX0 1 f fd ["self"] (spNew K (CoC K) (.course none)) := by
  refine F.ok scCi (fun vs H Q E h => ?_) (fun cdv A outer s H vs Q XE hr h => ?_)
  · obtain ⟨p, dx, rfl, _⟩ := h
    rfl
  · obtain ⟨p, dx, rfl, hp, k⟩ := h
    have h0 : PS (XCo P w K mg base ["self"] "CourseReader.__init__" sCi f cdv A outer s H XE) (stOf sCi 0) _ := ps_fld (pv 0) (pe_un un_neg pe_int) rfl
    refine ⟨_, PSs.nox (PSs.of_eq bdCi (pss_one h0)), ?_⟩
    clear h0
    exact ⟨1, rfl, .ref p, rfl, p, _, dx, _, rfl, hp, C.co, C.cf, by decide, k _ Exc.upd ⟨dx, upd_same⟩⟩
theorem ok_cb {f : Addr} {fd : FuncData} (F : FunD K "may_begin" "CourseReader.may_begin" (defArgs sCb) (defBody sCb) (defScope sCb) [] [] f fd) (C : ClK K) (L : GlK P w K mg) (NL : Has P w K mg base "is_numeral" 1 ["word"] spNl) (GF : Has P w K mg base "greatest_from" 1 ["word"] spGf) (mi : mg "int" = none) : FnOk P w K mg base CX0 2 f fd ["self", "word"] (spBeg K true) := by
  obtain ⟨t2, g2⟩ := L.gr
  refine F.ok scCb (fun vs H Q E h => ?_) (fun cdv A outer s H vs Q XE hr h => ?_)
  · obtain ⟨p, r, w, rfl, _⟩ := h
    rfl
  · obtain ⟨p, r, x, rfl, hi, hp, hl, k⟩ := h
    cases r with
    | steps s => cases hi
    | course o =>
    have h0 : PS (XCo P w K mg base ["self", "word"] "CourseReader.may_begin" sCb f cdv A outer s H XE) (stOf sCb 0) _ := ps_if (pt_not (pt_val (pe_has NL hr (by rfl) (pa_cons (pv 1) pa_nil)))) (pss_one (ps_ret pe_bl)) pss_nil
    have h1 : PS (XCo P w K mg base ["self", "word"] "CourseReader.may_begin" sCb f cdv A outer s H XE) (stOf sCb 1) _ := ps_if (pt_cmpR op_eq (pe_fld (pv 0) rfl) (pe_un un_neg pe_int) (nomark _)) (pss_one (ps_ret (pe_cmpR op_lt (pe_callTy call_int_str (by rfl) mi boot_in (pa_cons (pv 1) pa_nil)) (pe_glob (v := .int 999999999) (by rfl) g2 ⟨_, rfl⟩ (by decide)) (nomark _)))) pss_nil
    have h2 : PS (XCo P w K mg base ["self", "word"] "CourseReader.may_begin" sCb f cdv A outer s H XE) (stOf sCb 2) _ := ps_ret (pe_cmpR op_gt (pe_has GF hr (by rfl) (pa_cons (pv 1) pa_nil)) (pe_fld (pv 0) rfl) (nomark _))
    refine ⟨_, PSs.nox (PSs.of_eq bdCb (pss_cons h0 (pss_cons h1 (pss_one h2)))), ?_⟩
    clear h0 h1 h2
    refine ⟨.str (S x), rfl, x, rfl, hl, fun H1 s1 => ⟨_, rfl, ?_⟩⟩
    obtain ⟨dx, q⟩ := hp
    have q1 := s1 _ _ q
    cases hn : numW x with
    | false =>
      have e : begR (.course o) x = false := by cases o <;> (show (numW x && _) = false; rw [hn]; rfl)
      have kk := k H1 s1
      rw [e] at kk
      exact iteT kk
    | true =>
      obtain ⟨a1, a2, a3, a4⟩ := numW_iff.mp hn
      refine iteF ⟨.ref p, rfl, p, _, dx, _, _, rfl, q1, C.co, C.cf, rfl, 1, rfl, rfl, _, rfl, ?_⟩
      cases o with
      | none =>
        rw [decide_eq_true (show V.int (oi none) = V.int (-1) from rfl)]
        refine iteT ⟨.str (S x), rfl, S x, _, rfl, SX.int_S (dg_all.mpr a3) a1 (by omega), by rw [S_len]; omega, _, _, rfl, rfl, ?_⟩
        have kk := k H1 s1
        have e : begR (.course none) x = decide (((valW x : Nat) : Int) < 999999999) := by
          show (numW x && decide (valW x < 999999999)) = _
          rw [hn, Bool.true_and]
          by_cases c : valW x < 999999999
          · rw [decide_eq_true c, decide_eq_true (by omega)]
          · rw [decide_eq_false c, decide_eq_false (by omega)]
        rw [e] at kk
        exact kk
      | some n =>
        rw [decide_eq_false (show V.int (oi (some n)) ≠ V.int (-1) from fun z => by have : ((n : Nat) : Int) = -1 := V.int.inj z; omega)]
        refine iteF ⟨.str (S x), rfl, x, rfl, hn, fun H2 s2 => ⟨.ref p, rfl, p, _, dx, _, _, rfl, s2 _ _ q1, C.co, C.cf, rfl, _, _, rfl, rfl, ?_⟩⟩
        have kk := k H2 (s1.trans s2)
        have e : begR (.course (some n)) x = decide (((gfrom x : Nat) : Int) > oi (some n)) := by
          show (numW x && decide (n < gfrom x)) = decide (((gfrom x : Nat) : Int) > (n : Nat))
          rw [hn, Bool.true_and]
          by_cases c : n < gfrom x
          · rw [decide_eq_true c, decide_eq_true (by omega)]
          · rw [decide_eq_false c, decide_eq_false (by omega)]
        rw [e] at kk
        exact kk
end
end K14.T69
namespace K14.T69
open T27 T3
open K14.Gn
open PySem PySem.W PySem.Calls PyProof.Rows L2 LamX
open He (ga)
open SX (S)
open TL (tl pre joinL)
open Kz (SS ExtS ExtS.trans small4 same_new boot_in boot_li boot_isi Has pe_has noE PSs.of_eq new_ext X1)
section
variable {P : Program} {w : World} {K : Frag} {mg : Str → Option Value} {base : Heap}
theorem ok_ce1 {f : Addr} {fd : FuncData} (F : FunD K "may_end" "CourseReader.may_end" (defArgs sCe1) (defBody sCe1) (defScope sCe1) [] [] f fd) (C : ClK K) (NL : Has P w K mg base "is_numeral" 1 ["word"] spNl) (mi : mg "int" = none) : FnOk P w K mg base CX0 2 f fd ["self", "word", "sign"] (spEnd K true) := by
  refine F.ok scCe1 (fun vs H Q E h => ?_) (fun cdv A outer s H vs Q XE hr h => ?_)
  · obtain ⟨p, r, w, c, rfl, _⟩ := h
    rfl
  · obtain ⟨p, r, x, c, rfl, hi, hp, hc, hl, k⟩ := h
    cases r with
    | steps s => cases hi
    | course o =>
    have h0 : PS (XCo P w K mg base ["self", "word", "sign"] "CourseReader.may_end" sCe1 f cdv A outer s H XE) (stOf sCe1 0) _ := ps_if (pt_cmpR op_eq (pe_fld (pv 0) rfl) (pe_un un_neg pe_int) (nomark _)) (pss_one (ps_ret (pe_and (pe_cmpR op_eq (pv 2) pe_str (nomark _)) (pe_one (pe_has NL hr (by rfl) (pa_cons (pv 1) pa_nil)))))) pss_nil
    have h1 : PS (XCo P w K mg base ["self", "word", "sign"] "CourseReader.may_end" sCe1 f cdv A outer s H XE) (stOf sCe1 1) _ := ps_ret (pe_and (pe_cmpR op_eq (pv 2) pe_str (nomark _)) (pe_and (pe_has NL hr (by rfl) (pa_cons (pv 1) pa_nil)) (pe_one (pe_cmpR op_gt (pe_callTy call_int_str (by rfl) mi boot_in (pa_cons (pv 1) pa_nil)) (pe_fld (pv 0) rfl) (nomark _)))))
    refine ⟨_, PSs.nox (PSs.of_eq bdCe1 (pss_cons h0 (pss_one h1))), ?_⟩
    clear h0 h1
    obtain ⟨dx, q⟩ := hp
    refine ⟨.ref p, rfl, p, _, dx, _, _, rfl, q, C.co, C.cf, rfl, 1, rfl, rfl, _, rfl, ?_⟩
    have kk := k H (fun _ _ e => e)
    cases o with
    | none =>
      rw [decide_eq_true (show V.int (oi none) = V.int (-1) from rfl)]
      refine iteT ⟨_, rfl, rfl, _, rfl, ?_⟩
      have e0 : begR (.course none) [] = false := rfl
      have e : ∀ b, endR (.course none) x b = (!b && numW x) := fun b => rfl
      rw [sp_sign hc]
      cases hc10 : decide (c = 10) with
      | true =>
        rw [hc10, e] at kk
        exact iteF kk
      | false =>
        rw [hc10, e] at k
        exact iteT ⟨_, rfl, x, rfl, hl, fun H1 s1 => k H1 s1⟩
    | some n =>
      rw [decide_eq_false (show V.int (oi (some n)) ≠ V.int (-1) from fun z => by have : ((n : Nat) : Int) = -1 := V.int.inj z; omega)]
      have e : ∀ b, endR (.course (some n)) x b = (b && (numW x && decide (n < valW x))) := fun b => rfl
      refine iteF ⟨_, rfl, rfl, _, rfl, ?_⟩
      rw [nl_sign]
      cases hc10 : decide (c = 10) with
      | false =>
        rw [hc10, e] at kk
        exact iteF kk
      | true =>
        rw [hc10, e, Bool.true_and] at k
        refine iteT ⟨_, rfl, x, rfl, hl, fun H1 s1 => ⟨_, rfl, ?_⟩⟩
        have kk := k H1 s1
        cases hn : numW x with
        | false =>
          rw [hn] at kk
          exact iteF kk
        | true =>
          rw [hn, Bool.true_and] at kk
          obtain ⟨a1, a2, a3, a4⟩ := numW_iff.mp hn
          refine iteT ⟨_, rfl, S x, _, rfl, SX.int_S (dg_all.mpr a3) a1 (by omega), by rw [S_len]; omega, .ref p, rfl, p, _, dx, _, _, rfl, s1 _ _ q, C.co, C.cf, rfl, _, _, rfl, rfl, ?_⟩
          have e2 : decide (n < valW x) = decide (((valW x : Nat) : Int) > oi (some n)) := by
            show decide (n < valW x) = decide (((valW x : Nat) : Int) > (n : Nat))
            by_cases c : n < valW x
            · rw [decide_eq_true c, decide_eq_true (by omega)]
            · rw [decide_eq_false c, decide_eq_false (by omega)]
          rw [e2] at kk
          exact kk
theorem ok_cp {f : Addr} {fd : FuncData} (F : FunD K "put" "CourseReader.put" (defArgs sCp) (defBody sCp) (defScope sCp) [] [] f fd) (C : ClK K) (mi : mg "int" = none) : FnOk P w K mg base CX0 1 f fd ["self", "word", "sign"] (spPut K true) := by
  refine F.ok scCp (fun vs H Q E h => ?_) (fun cdv A outer s H vs Q XE hr h => ?_)
  · obtain ⟨p, r, w, c, rfl, _⟩ := h
    rfl
  · obtain ⟨p, r, x, c, rfl, hi, hp, hc, hE, k⟩ := h
    cases r with
    | steps s => cases hi
    | course o =>
    have h0 : PS (XCo P w K mg base ["self", "word", "sign"] "CourseReader.put" sCp f cdv A outer s H XE) (stOf sCp 0) _ := ps_fld (pv 0) (pe_ifExp (pt_cmpR op_eq (pv 2) pe_str (nomark _)) (pe_un un_neg pe_int) (pe_callTy call_int_str (by rfl) mi boot_in (pa_cons (pv 1) pa_nil))) rfl
    refine ⟨_, PSs.nox (PSs.of_eq bdCp (pss_one h0)), ?_⟩
    clear h0
    obtain ⟨dx, q⟩ := hp
    refine ⟨_, rfl, rfl, _, rfl, ?_⟩
    rw [nl_sign]
    cases hc10 : decide (c = 10) with
    | true =>
      rw [hc10] at k
      exact iteT ⟨1, rfl, .ref p, rfl, p, _, dx, _, rfl, q, C.co, C.cf, Nat.le_of_ble_eq_true rfl, k _ Exc.upd ⟨dx, upd_same⟩⟩
    | false =>
      rw [hc10] at k hE
      have hn : numW x = true := by
        cases o with
        | none => exact hE
        | some n => cases hE
      obtain ⟨a1, a2, a3, a4⟩ := numW_iff.mp hn
      exact iteF ⟨_, rfl, S x, _, rfl, SX.int_S (dg_all.mpr a3) a1 (by omega), by rw [S_len]; omega, .ref p, rfl, p, _, dx, _, rfl, q, C.co, C.cf, Nat.le_of_ble_eq_true rfl, k _ Exc.upd ⟨dx, upd_same⟩⟩
theorem ok_cd {f : Addr} {fd : FuncData} (F : FunD K "is_done" "CourseReader.is_done" (defArgs sCd) (defBody sCd) (defScope sCd) [] [] f fd) (C : ClK K) : FnOk P w K mg base CX0 1 f fd ["self"] (spDone K true) := by
  refine F.ok scCd (fun vs H Q E h => ?_) (fun cdv A outer s H vs Q XE hr h => ?_)
  · obtain ⟨p, r, rfl, _⟩ := h
    rfl
  · obtain ⟨p, r, rfl, hi, hp, k⟩ := h
    cases r with
    | steps s => cases hi
    | course o =>
    have h0 : PS (XCo P w K mg base ["self"] "CourseReader.is_done" sCd f cdv A outer s H XE) (stOf sCd 0) _ := ps_ret (pe_cmpR op_eq (pe_fld (pv 0) rfl) (pe_un un_neg pe_int) (nomark _))
    refine ⟨_, PSs.nox (PSs.of_eq bdCd (pss_one h0)), ?_⟩
    clear h0
    obtain ⟨dx, q⟩ := hp
    refine ⟨.ref p, rfl, p, _, dx, _, _, rfl, q, C.co, C.cf, rfl, 1, rfl, rfl, ?_⟩
    have kk := k H (fun _ _ e => e)
    cases o with
    | none => exact kk
    | some n =>
      have e : decide (V.int (oi (some n)) = V.int (-1)) = doneR (.course (some n)) := decide_eq_false (fun z => by have : ((n : Nat) : Int) = -1 := V.int.inj z; omega)
      show Q (.bl (decide (V.int (oi (some n)) = V.int (-1)))) H
      rw [e]
      exact kk
end
/-! ### Stock -/
abbrev sKi : Stmt := mS 18 0
abbrev sKb : Stmt := mS 18 2
abbrev sKh : Stmt := mS 18 3
theorem scKi : FnScope ["self", "most"] ["self", "most"] (defScope sKi) := ⟨rfl, rfl, rfl, by decide +kernel, rfl, by decide +kernel, by decide +kernel⟩
theorem scKb : FnScope ["self", "word"] ["self", "word"] (defScope sKb) := ⟨rfl, rfl, rfl, by decide +kernel, rfl, by decide +kernel, by decide +kernel⟩
theorem scKh : FnScope ["self", "name"] ["self", "name"] (defScope sKh) := ⟨rfl, rfl, rfl, by decide +kernel, rfl, by decide +kernel, by decide +kernel⟩
theorem bdKi : defBody sKi = [stOf sKi 0, stOf sKi 1, stOf sKi 2, stOf sKi 3] := by rfl
theorem bdKb : defBody sKb = [stOf sKb 0] := by rfl
theorem bdKh : defBody sKh = [stOf sKh 0] := by rfl
section
variable {P : Program} {w : World} {K : Frag} {mg : Str → Option Value} {base : Heap}
def spKi (K : Frag) : Sp := fun vs H Q _ => ∃ (p dx : Addr), vs = [.ref p, .int 1] ∧ H p = some (.ins (SkC K) dx []) ∧ ∀ (H' : Hp), Exc p H H' → StkAt K H' p → Q .non H'
theorem ok_ki {f : Addr} {fd : FuncData} (F : FunD K "__init__" "Stock.__init__" (defArgs sKi) (defBody sKi) (defScope sKi) [] [] f fd) (C : ClK K) : FnOk P w K mg base CX0 1 f fd ["self", "most"] (spKi K) := by
  refine F.ok scKi (fun vs H Q E h => ?_) (fun cdv A outer s H vs Q XE hr h => ?_)
  · obtain ⟨p, dx, rfl, _⟩ := h
    rfl
  · obtain ⟨p, dx, rfl, hp, k⟩ := h
    have h0 : PS (XCo P w K mg base ["self", "most"] "Stock.__init__" sKi f cdv A outer s H XE) (stOf sKi 0) _ := ps_fld (pv 0) (pv 1) rfl
    have h1 : PS (XCo P w K mg base ["self", "most"] "Stock.__init__" sKi f cdv A outer s H XE) (stOf sKi 1) _ := ps_fld (pv 0) pe_dnewK rfl
    have h2 : PS (XCo P w K mg base ["self", "most"] "Stock.__init__" sKi f cdv A outer s H XE) (stOf sKi 2) _ := ps_fld (pv 0) pe_int rfl
    have h3 : PS (XCo P w K mg base ["self", "most"] "Stock.__init__" sKi f cdv A outer s H XE) (stOf sKi 3) _ := ps_fld (pv 0) pe_dnewK rfl
    refine ⟨_, PSs.nox (PSs.of_eq bdKi (pss_cons h0 (pss_cons h1 (pss_cons h2 (pss_one h3))))), ?_⟩
    clear h0 h1 h2 h3
    refine ⟨_, rfl, .ref p, rfl, p, _, dx, _, rfl, hp, C.sk, C.km, Nat.le_of_ble_eq_true rfl, ?_⟩
    refine fun d1 n1 => ⟨.ref p, rfl, p, _, dx, _, rfl, by rw [upd_ne (ne_of_none upd_same n1)]; exact upd_same, C.sk, C.kt, Nat.le_of_ble_eq_true rfl, ?_⟩
    have np1 : d1 ≠ p := (ne_of_none upd_same n1).symm
    refine ⟨.ref p, rfl, p, _, dx, _, rfl, upd_same, C.sk, C.ks, Nat.le_of_ble_eq_true rfl, ?_⟩
    refine fun d2 n2 => ⟨.ref p, rfl, p, _, dx, _, rfl, by rw [upd_ne (ne_of_none upd_same n2)]; exact upd_same, C.sk, C.kp, Nat.le_of_ble_eq_true rfl, ?_⟩
    have np2 : d2 ≠ p := (ne_of_none upd_same n2).symm
    have n21 : d2 ≠ d1 := fun z => by
      rw [z, upd_ne np1, upd_ne np1, upd_same] at n2
      cases n2
    refine k _ (fun b o e n => ?_) ⟨dx, d1, d2, upd_same, ?_, ?_⟩
    · have e1 : (upd H p (.ins (SkC K) dx (putF "most" (.int 1) []))) b = some o := by rw [upd_ne n]; exact e
      have e2 := same_new (o := .dK []) n1 b o e1
      rw [upd_ne n]
      refine same_new (o := .dK []) n2 b o ?_
      rw [upd_ne n, upd_ne n]
      exact e2
    · rw [upd_ne np1, upd_ne n21.symm, upd_ne np1, upd_ne np1, upd_same]
    · rw [upd_ne np2, upd_same]
def spKb (K : Frag) : Sp := fun vs H Q _ => ∃ (p : Addr) (x : List Nat), vs = [.ref p, .str (S x)] ∧ StkAt K H p ∧ x.length ≤ 100000 ∧ ∀ H', L2.Same H H' → Q (.bl (bnB (S x))) H'
theorem ok_kb {f : Addr} {fd : FuncData} (F : FunD K "may_begin" "Stock.may_begin" (defArgs sKb) (defBody sKb) (defScope sKb) [] [] f fd) (C : ClK K) (BN : Has P w K mg base "begins_name" 1 ["word"] spBn) (NF : Has P w K mg base "names_from" 1 ["length"] spNf) (ml : mg "len" = none) : FnOk P w K mg base CX0 2 f fd ["self", "word"] (spKb K) := by
  refine F.ok scKb (fun vs H Q E h => ?_) (fun cdv A outer s H vs Q XE hr h => ?_)
  · obtain ⟨p, x, rfl, _⟩ := h
    rfl
  · obtain ⟨p, x, rfl, hp, hl, k⟩ := h
    have h0 : PS (XCo P w K mg base ["self", "word"] "Stock.may_begin" sKb f cdv A outer s H XE) (stOf sKb 0) _ := ps_ret (pe_and (pe_has BN hr (by rfl) (pa_cons (pv 1) pa_nil)) (pe_one (pe_cmpR op_lt (pe_dget2 (hu_of hr) (pe_fld (pv 0) rfl) (pv 1) pe_int ⟨rfl, rfl, rfl, rfl⟩) (pe_has NF hr (by rfl) (pa_cons (pe_callB call_len_str (by rfl) ml boot_len (pa_cons (pv 1) pa_nil)) pa_nil)) (nomark _))))
    refine ⟨_, PSs.nox (PSs.of_eq bdKb (pss_one h0)), ?_⟩
    clear h0
    refine ⟨_, rfl, S x, rfl, by rw [S_len]; exact hl, fun H1 s1 => ⟨_, rfl, ?_⟩⟩
    have kk := k H1 s1
    cases hb : bnB (S x) with
    | false =>
      rw [hb] at kk
      exact iteF kk
    | true =>
      obtain ⟨dx, d1, d2, q, q1, q2⟩ := hp
      have l8 : x.length ≤ 8 := by
        unfold bnB at hb
        have e : (S x).cps.toList = x := rfl
        rw [e] at hb
        cases x with
        | nil => cases hb
        | cons c r =>
          have := of_decide_eq_true (Bool.and_eq_true_iff.mp hb).1
          rw [S_len] at this
          exact this
      refine iteT ⟨.ref p, rfl, p, _, dx, _, _, rfl, s1 _ _ q, C.sk, C.kp, rfl, d2, rfl, .inl ⟨_, .inl (s1 _ _ q2)⟩, _, rfl, none, DGet.k (k := Sum.inr (S x)) (s1 _ _ q2), ?_⟩
      refine ⟨_, rfl, S x, rfl, by rw [S_len, sizeLine_eq]; omega, x.length, by rw [S_len]; rfl, l8, fun H2 m s2 m0 => ⟨_, _, rfl, rfl, ?_⟩⟩
      rw [hb] at k
      have e : decide ((0 : Int) < (m : Nat)) = true := decide_eq_true (by omega)
      show Q (.bl (decide ((0 : Int) < (m : Nat)))) H2
      rw [e]
      exact k H2 (s1.trans s2)
def spKh (K : Frag) : Sp := fun vs H Q _ => ∃ (p : Addr) (x : List Nat), vs = [.ref p, .str (S x)] ∧ StkAt K H p ∧ x.length ≤ 100000 ∧ ∀ H', L2.Same H H' → Q (.bl (nameB (.str (S x)))) H'
theorem ok_kh {f : Addr} {fd : FuncData} (F : FunD K "has" "Stock.has" (defArgs sKh) (defBody sKh) (defScope sKh) [] [] f fd) (C : ClK K) (NM : Has P w K mg base "is_name" 2 ["thing"] spNm) : FnOk P w K mg base CX0 3 f fd ["self", "name"] (spKh K) := by
  refine F.ok scKh (fun vs H Q E h => ?_) (fun cdv A outer s H vs Q XE hr h => ?_)
  · obtain ⟨p, x, rfl, _⟩ := h
    rfl
  · obtain ⟨p, x, rfl, hp, hl, k⟩ := h
    have h0 : PS (XCo P w K mg base ["self", "name"] "Stock.has" sKh f cdv A outer s H XE) (stOf sKh 0) _ := ps_ret (pe_and (pe_has NM hr (by rfl) (pa_cons (pv 1) pa_nil)) (pe_one (pe_cmpR op_lt (pe_dget2 (hu_of hr) (pe_fld (pv 0) rfl) (pv 1) pe_int ⟨rfl, rfl, rfl, rfl⟩) (pe_fld (pv 0) rfl) (nomark _))))
    refine ⟨_, PSs.nox (PSs.of_eq bdKh (pss_one h0)), ?_⟩
    clear h0
    refine ⟨_, rfl, .str (S x), .str (S x), rfl, .str _, fun s e => by cases e; rw [S_len]; exact hl, fun H1 s1 => ⟨_, rfl, ?_⟩⟩
    have kk := k H1 s1
    cases hb : nameB (.str (S x)) with
    | false =>
      rw [hb] at kk
      exact iteF kk
    | true =>
      rw [hb] at kk
      obtain ⟨dx, d1, d2, q, q1, q2⟩ := hp
      exact iteT ⟨.ref p, rfl, p, _, dx, _, _, rfl, s1 _ _ q, C.sk, C.kt, rfl, d1, rfl, .inl ⟨_, .inl (s1 _ _ q1)⟩, _, rfl, none, DGet.k (k := Sum.inr (S x)) (s1 _ _ q1), .ref p, rfl, p, _, dx, _, _, rfl, s1 _ _ q, C.sk, C.km, rfl, _, _, rfl, rfl, kk⟩
end
end K14.T69
namespace K14.T69
open T27 T3
open K14.Gn
open PySem PySem.W PySem.Calls PyProof.Rows L2 LamX
open He (ga)
open SX (S)
open TL (tl pre joinL)
open Kz (SS ExtS ExtS.trans small4 same_new boot_in boot_li boot_isi Has pe_has noE PSs.of_eq new_ext X1)
/-! ### the reader of steps -/
theorem starts_S (n w : List Nat) : Txt.startswith (S n) (S w) = pre w n := by
  unfold Txt.startswith pre
  show (decide (0 + (S w).length ≤ (S n).length) && ((S n).cps.extract 0 (0 + (S w).length) == (S w).cps)) = (n.take w.length == w)
  rw [S_len, S_len, Nat.zero_add, Bool.eq_iff_iff, Bool.and_eq_true, decide_eq_true_eq, beq_iff_eq, beq_iff_eq]
  have e : ((S n).cps.extract 0 w.length).toList = n.take w.length := by
    rw [Array.toList_extract]
    show List.take (w.length - 0) (List.drop 0 n) = _
    simp
  constructor
  · rintro ⟨_, h⟩
    rw [← e, h]
  · intro h
    refine ⟨?_, ?_⟩
    · have := congrArg List.length h
      rw [List.length_take] at this
      omega
    · apply Array.ext'
      rw [e, h]
theorem eqv_S (a b : List Nat) : eqV (.str (S a)) (.str (S b)) = decide (b = a) := by
  show (S a == S b) = _
  rw [Bool.eq_iff_iff, beq_iff_eq, decide_eq_true_eq]
  exact ⟨fun q => (S_inj q).symm, fun q => by rw [q]⟩
theorem in_xy (w : List Nat) : inV (.str (S w)) [V.str "x", V.str "y"] = (decide (w = [120]) || decide (w = [121])) := by
  have ex : ("x" : Str) = S [120] := by decide +kernel
  have ey : ("y" : Str) = S [121] := by decide +kernel
  unfold inV
  rw [ex, ey]
  show (eqV (V.str (S [120])) (V.str (S w)) || (eqV (V.str (S [121])) (V.str (S w)) || false)) = _
  rw [eqv_S, eqv_S, Bool.or_false]
theorem slot_val (w : List Nat) : valV slotK (.inr (S w)) = (slotOf w).map fun s => V.str (slotT s) := by
  have e1 : ("grow" : Str) = S tGrow := (S_tl _).symm
  have e2 : ("shrink" : Str) = S tShrink := (S_tl _).symm
  have e3 : ("turn" : Str) = S tTurn := (S_tl _).symm
  have e4 : ("loop" : Str) = S tLoop := (S_tl _).symm
  have e5 : ("unloop" : Str) = S tUnloop := (S_tl _).symm
  have q : ∀ a b : List Nat, ((Sum.inr (S a) : Key) = .inr (S b)) ↔ b = a := fun a b => ⟨fun h => (S_inj (Sum.inr.inj h)).symm, fun h => by rw [h]⟩
  unfold valV slotK slotOf
  rw [e1, e2, e3, e4, e5]
  by_cases c1 : w = tGrow
  · simp [q, c1, slotT]
  by_cases c2 : w = tShrink
  · subst c2
    have n : ¬ tShrink = tGrow := by decide +kernel
    simp [q, n, slotT]
  by_cases c3 : w = tTurn
  · subst c3
    have n : ¬ tTurn = tGrow := by decide +kernel
    have n2 : ¬ tTurn = tShrink := by decide +kernel
    simp [q, n, n2, slotT]
  by_cases c4 : w = tLoop
  · subst c4
    have n : ¬ tLoop = tGrow := by decide +kernel
    have n2 : ¬ tLoop = tShrink := by decide +kernel
    have n3 : ¬ tLoop = tTurn := by decide +kernel
    simp [q, n, n2, n3, slotT]
  by_cases c5 : w = tUnloop
  · subst c5
    have n : ¬ tUnloop = tGrow := by decide +kernel
    have n2 : ¬ tUnloop = tShrink := by decide +kernel
    have n3 : ¬ tUnloop = tTurn := by decide +kernel
    have n4 : ¬ tUnloop = tLoop := by decide +kernel
    simp [q, n, n2, n3, n4, slotT]
  · simp [q, c1, c2, c3, c4, c5]
theorem slot_is (s t : Slot) : decide (V.str (slotT s) = V.str (slotT t)) = decide (s = t) := by
  cases s <;> cases t <;> decide +kernel
/-- any of the keys of a dict of the top -/
theorem any_keys {K : Frag} {k : Nat} {kvs : List (Key × V)} {d : Addr} {σ : L2.St} {H : Hp} {tl te : TE} {vs : List Nat} (ks : List Str) (hk : kvs.map (·.1) = ks.map Sum.inr) (b : Str → Bool) {Q : VK} (ht : ∀ R : VK, R (.ref d) H → tl σ H R) (len : kvs.length ≤ 100000) (hw : ∀ y : V, wipe ((wipe σ vs).set k (some y)) vs = wipe σ vs)
    (hs : ∀ (z : Str) (G : Hp) (Q' : VK), z ∈ ks → L2.Same H G → (∀ G', L2.Same G G' → Q' (.bl (b z)) G') → te ((wipe σ vs).set k (some (.str z))) G Q')
    (hq : ∀ G : Hp, L2.Same H G → Q (.bl (ks.any b)) G) : tCB (rAny K) (tCons (tLc (DiM.iKeysC d kvs tl) (gName k) tYes te vs) tNil) σ H Q := by
  have lk : kvs.length = ks.length := by
    have := congrArg List.length hk
    simpa using this
  unfold tCB tCons tNil
  refine ht _ ⟨rfl, fun D hD => lc_acc (S := []) DiM.walk_keysC (fun b h => nomatch h) hD len (fun _ _ => trivial) (fun i ys _ => ys = (ks.take i).map fun z => V.bl (b z)) (fun i ys G G' e _ => e) rfl (fun i v G1 G2 ys Qy Qn hi s1 insG a y ky kn => ?_) (fun G ys s1 hA a => ?_)⟩
  · obtain ⟨rfl, kk, v0, hkv, rfl⟩ := y
    have e1 : (kvs.map (·.1))[i]? = some kk := by rw [List.getElem?_map, hkv]; rfl
    rw [hk, List.getElem?_map] at e1
    obtain ⟨z, hz, rfl⟩ := Option.map_eq_some_iff.mp e1
    refine ⟨hw _, ?_⟩
    unfold tYes
    show (if true = true then _ else _)
    rw [if_pos rfl]
    refine hs z G2 Qy (List.mem_of_getElem? hz) s1 fun G' s' => ky _ _ s' ?_
    rw [a, List.take_add_one, hz, List.map_append]
    rfl
  · rw [lk, List.take_length] at a
    rw [a] at hA
    exact ⟨D, ks.map b, rfl, .inl (.inl (by rw [List.map_map]; exact hA)), by rw [List.any_map]; exact hq G s1⟩
abbrev sSi : Stmt := mS 26 0
abbrev sSb : Stmt := mS 26 1
abbrev sSe : Stmt := mS 26 2
abbrev sSpt : Stmt := mS 26 3
abbrev sSd : Stmt := mS 26 4
theorem scSi : FnScope ["self"] ["self"] (defScope sSi) := ⟨rfl, rfl, rfl, by decide +kernel, rfl, by decide +kernel, by decide +kernel⟩
theorem scSb : FnScope ["self", "word", "one"] ["self", "word"] (defScope sSb) := ⟨rfl, rfl, rfl, by decide +kernel, rfl, by decide +kernel, by decide +kernel⟩
theorem scSe : FnScope ["self", "word", "sign"] ["self", "word", "sign"] (defScope sSe) := ⟨rfl, rfl, rfl, by decide +kernel, rfl, by decide +kernel, by decide +kernel⟩
theorem scSpt : FnScope ["self", "word", "sign"] ["self", "word", "sign"] (defScope sSpt) := ⟨rfl, rfl, rfl, by decide +kernel, rfl, by decide +kernel, by decide +kernel⟩
theorem scSd : FnScope ["self"] ["self"] (defScope sSd) := ⟨rfl, rfl, rfl, by decide +kernel, rfl, by decide +kernel, by decide +kernel⟩
theorem bdSi : defBody sSi = [stOf sSi 0, stOf sSi 1] := by rfl
theorem bdSb : defBody sSb = [stOf sSb 0, stOf sSb 1, stOf sSb 2, stOf sSb 3] := by rfl
theorem bdSe : defBody sSe = [stOf sSe 0, stOf sSe 1, stOf sSe 2, stOf sSe 3] := by rfl
theorem bdSpt : defBody sSpt = [stOf sSpt 0] := by rfl
theorem bdSd : defBody sSd = [stOf sSd 0] := by rfl
def scIfB : Stmt → Scope
  | .If _ [.Return (some (.Call _ [.ListComp _ _ sc _] _ _)) _] _ _ => sc
  | _ => defScope sNl
def sbSc : Scope := scIfB (stOf sSb 0)
section
variable {P : Program} {w : World} {K : Frag} {mg : Str → Option Value} {base : Heap}
theorem ok_si {f : Addr} {fd : FuncData} (F : FunD K "__init__" "StepsReader.__init__" (defArgs sSi) (defBody sSi) (defScope sSi) [] [] f fd) (C : ClK K) (ST : HasC P w K mg base "Stock" (SkC K) 1 ["self", "most"] (spKi K)) : FnOk P w K mg base CX0 3 f fd ["self"] (spNew K (StC K) (.steps .step)) := by
  refine F.ok scSi (fun vs H Q E h => ?_) (fun cdv A outer s H vs Q XE hr h => ?_)
  · obtain ⟨p, dx, rfl, _⟩ := h
    rfl
  · obtain ⟨p, dx, rfl, hp, k⟩ := h
    have h0 : PS (XCo P w K mg base ["self"] "StepsReader.__init__" sSi f cdv A outer s H XE) (stOf sSi 0) _ := ps_fld (pv 0) pe_str rfl
    have h1 : PS (XCo P w K mg base ["self"] "StepsReader.__init__" sSi f cdv A outer s H XE) (stOf sSi 1) _ := ps_fld (pv 0) (pe_hasC ST (hr.mono (by decide)) (by rfl) (pa_cons pe_int pa_nil)) rfl
    refine ⟨_, PSs.nox (PSs.of_eq bdSi (pss_cons h0 (pss_one h1))), ?_⟩
    clear h0 h1
    refine ⟨.ref p, rfl, p, _, dx, _, rfl, hp, C.st, C.ss, Nat.le_of_ble_eq_true rfl, ?_⟩
    refine fun x dx2 n1 n2 n3 => ⟨x, dx2, rfl, upd_same, fun H2 e2 hst => ⟨rfl, ?_⟩⟩
    have nx : p ≠ x := ne_of_none upd_same n1
    have nd : p ≠ dx2 := ne_of_none upd_same n2
    have hp2 : H2 p = some (.ins (StC K) dx [("slot", .str "step")]) := e2 _ _ (by rw [upd_ne nx, upd_ne nd]; exact upd_same) nx
    refine ⟨.ref p, rfl, p, _, dx, _, rfl, hp2, C.st, C.sw, Nat.le_of_ble_eq_true rfl, ?_⟩
    obtain ⟨dx3, d1, d2, z1, z2, z3⟩ := hst
    have m1 : d1 ≠ p := fun z => by rw [z, hp2] at z2; cases z2
    have m2 : d2 ≠ p := fun z => by rw [z, hp2] at z3; cases z3
    refine k _ (fun b o e n => ?_) ⟨dx, x, upd_same, nx.symm, dx3, d1, d2, by rw [upd_ne nx.symm]; exact z1, by rw [upd_ne m1]; exact z2, by rw [upd_ne m2]; exact z3⟩
    have e1 : (upd H p (.ins (StC K) dx (putF "slot" (.str "step") []))) b = some o := by rw [upd_ne n]; exact e
    rw [upd_ne n]
    have nbx : b ≠ x := ne_of_none e1 n1
    exact e2 _ _ (by rw [upd_ne nbx, upd_ne (ne_of_none e1 n2)]; exact e1) nbx
theorem ok_sd {f : Addr} {fd : FuncData} (F : FunD K "is_done" "StepsReader.is_done" (defArgs sSd) (defBody sSd) (defScope sSd) [] [] f fd) (C : ClK K) : FnOk P w K mg base CX0 1 f fd ["self"] (spDone K false) := by
  refine F.ok scSd (fun vs H Q E h => ?_) (fun cdv A outer s H vs Q XE hr h => ?_)
  · obtain ⟨p, r, rfl, _⟩ := h
    rfl
  · obtain ⟨p, r, rfl, hi, hp, k⟩ := h
    cases r with
    | course o => cases hi
    | steps sl =>
    have h0 : PS (XCo P w K mg base ["self"] "StepsReader.is_done" sSd f cdv A outer s H XE) (stOf sSd 0) _ := ps_ret (pe_cmpR op_eq (pe_fld (pv 0) rfl) pe_str (nomark _))
    refine ⟨_, PSs.nox (PSs.of_eq bdSd (pss_one h0)), ?_⟩
    clear h0
    obtain ⟨dx, st, q, _⟩ := hp
    refine ⟨.ref p, rfl, p, _, dx, _, _, rfl, q, C.st, C.ss, rfl, rfl, ?_⟩
    have kk := k H (fun _ _ e => e)
    show Q (.bl (decide (V.str (slotT sl) = V.str (slotT .step)))) H
    rw [slot_is]
    exact kk
theorem ok_sp2 {f : Addr} {fd : FuncData} (F : FunD K "put" "StepsReader.put" (defArgs sSpt) (defBody sSpt) (defScope sSpt) [] [] f fd) (C : ClK K) (L : GlK P w K mg) : FnOk P w K mg base CX0 1 f fd ["self", "word", "sign"] (spPut K false) := by
  refine F.ok scSpt (fun vs H Q E h => ?_) (fun cdv A outer s H vs Q XE hr h => ?_)
  · obtain ⟨p, r, w, c, rfl, _⟩ := h
    rfl
  · obtain ⟨p, r, x, c, rfl, hi, hp, hc, hE, k⟩ := h
    cases r with
    | course o => cases hi
    | steps sl =>
    have h0 : PS (XCo P w K mg base ["self", "word", "sign"] "StepsReader.put" sSpt f cdv A outer s H XE) (stOf sSpt 0) _ := ps_if (pt_cmpR op_eq (pv 2) pe_str (nomark _)) (pss_one (ps_fld (pv 0) pe_str rfl)) (pss_one (ps_if (pt_cmpR op_eq (pe_fld (pv 0) rfl) pe_str (nomark _)) (pss_one (ps_fld (pv 0) (pe_ix (DiM.ix_dictC L.sd) (pe_glob (v := .ref (ga K "STEP_SLOTS")) (by rfl) L.sl rfl (by decide)) (pv 1) (fun _ _ => rfl)) rfl)) (pss_one (ps_fld (pv 0) pe_str rfl))))
    refine ⟨_, PSs.nox (PSs.of_eq bdSpt (pss_one h0)), ?_⟩
    clear h0
    obtain ⟨dx, st, q, np, q1⟩ := hp
    have upd_ok : ∀ (s2 : Slot), RdAt K (upd H p (.ins (StC K) dx [("slot", .str (slotT s2)), ("wire_names", .ref st)])) p (.steps s2) := fun s2 => by
      obtain ⟨dx2, d1, d2, z1, z2, z3⟩ := q1
      have n1 : d1 ≠ p := fun z => by rw [z, q] at z2; cases z2
      have n2 : d2 ≠ p := fun z => by rw [z, q] at z3; cases z3
      exact ⟨dx, st, upd_same, np, dx2, d1, d2, by rw [upd_ne np]; exact z1, by rw [upd_ne n1]; exact z2, by rw [upd_ne n2]; exact z3⟩
    refine ⟨_, rfl, rfl, _, rfl, ?_⟩
    rw [nl_sign]
    cases hc10 : decide (c = 10) with
    | true =>
      rw [hc10] at k
      exact iteT ⟨.ref p, rfl, p, _, dx, _, rfl, q, C.st, C.ss, Nat.le_of_ble_eq_true rfl, k _ Exc.upd (upd_ok .step)⟩
    | false =>
      rw [hc10] at k hE
      refine iteF ⟨.ref p, rfl, p, _, dx, _, _, rfl, q, C.st, C.ss, rfl, rfl, _, rfl, ?_⟩
      show (if decide (V.str (slotT sl) = V.str (slotT .step)) = true then _ else _)
      rw [slot_is]
      by_cases cs : sl = .step
      · subst cs
        refine iteT ⟨.str (S x), rfl, S x, ?_⟩
        cases hs : slotOf x with
        | none =>
          exfalso
          have : (match slotOf x with | some s => (false == decide (s = .step)) | none => false) = true := hE
          rw [hs] at this
          cases this
        | some s2 =>
          have e : putR (.steps .step) x false = .steps s2 := by
            show RS.steps ((slotOf x).getD .wire) = _
            rw [hs]
            rfl
          rw [e] at k
          exact ⟨.str (slotT s2), rfl, rfl, by rw [slot_val, hs]; rfl, .ref p, rfl, p, _, dx, _, rfl, q, C.st, C.ss, Nat.le_of_ble_eq_true rfl, k _ Exc.upd (upd_ok s2)⟩
      · have e : putR (.steps sl) x false = .steps .wire := by
          show (if sl = .step then RS.steps ((slotOf x).getD .wire) else .steps .wire) = _
          rw [if_neg cs]
        rw [e] at k
        rw [decide_eq_false cs]
        exact iteF ⟨.ref p, rfl, p, _, dx, _, rfl, q, C.st, C.ss, Nat.le_of_ble_eq_true rfl, k _ Exc.upd (upd_ok .wire)⟩
theorem ok_sb {f : Addr} {fd : FuncData} (F : FunD K "may_begin" "StepsReader.may_begin" (defArgs sSb) (defBody sSb) (defScope sSb) [] [] f fd) (C : ClK K) (L : GlK P w K mg) (NL : Has P w K mg base "is_numeral" 1 ["word"] spNl) (KB : HasM P w K mg base (SkC K) "may_begin" 2 ["self", "word"] (spKb K)) (ma : mg "any" = none) : FnOk P w K mg base CX0 3 f fd ["self", "word"] (spBeg K false) := by
  refine F.ok scSb (fun vs H Q E h => ?_) (fun cdv A outer s H vs Q XE hr h => ?_)
  · obtain ⟨p, r, w, rfl, _⟩ := h
    rfl
  · obtain ⟨p, r, x, rfl, hi, hp, hl, k⟩ := h
    cases r with
    | course o => cases hi
    | steps sl =>
    have h0 : PS (XCo P w K mg base ["self", "word", "one"] "StepsReader.may_begin" sSb f cdv A outer s H XE) (stOf sSb 0) _ := ps_if (pt_cmpR op_eq (pe_fld (pv 0) rfl) pe_str (nomark _)) (pss_one (ps_ret (pe_callB (cr_any rfl) (by rfl) ma boot_any (pa_cons (pe_lc (X := XCo P w K mg base ["self", "word", "one"] "StepsReader.may_begin" sSb f cdv A outer s H XE) (scope := sbSc) (own := [("one", 2)]) (g := gName 2) (tt := tYes)
      (te := tBM K "str" (fun x xs H Q => ∃ a b, x = .str a ∧ xs = [.str b] ∧ Q (.bl (Txt.startswith a b)) H) (tVar 2) (tCons (tVar 1) tNil)) rfl scSb.nd
      (DiM.pi_keysC L.sd (pe_glob (v := .ref (ga K "STEP_SLOTS")) (by rfl) L.sl rfl (by decide))) (blkOk_by (N := ["self", "word", "one"]) (sc := defScope sSb) (by decide +kernel)) (fun _ _ _ _ _ => pg_name (i := 2) scSb.nd rfl (Or.inl rfl)) (fun _ _ _ _ _ => pts_nil)
      (fun s0 H0 C0 cl0 fp0 => pe_bm (X := Cx.blk (XCo P w K mg base ["self", "word", "one"] "StepsReader.may_begin" sSb f cdv A outer s H XE) s0 H0 sbSc (compEnvC sbSc cl0 C0 (Cx.env (XCo P w K mg base ["self", "word", "one"] "StepsReader.may_begin" sSb f cdv A outer s H XE))) fp0) PySem.F.plainAttrs_str PySem.F.slot_str_startswith PySem.F.type_str_startswith mt_startswith (pv 2) (pa_cons (pv 1) pa_nil))) pa_nil)))) pss_nil
    have h1 : PS (XCo P w K mg base ["self", "word", "one"] "StepsReader.may_begin" sSb f cdv A outer s H XE) (stOf sSb 1) _ := ps_if (pt_cmpR op_eq (pe_fld (pv 0) rfl) pe_str (nomark _)) (pss_one (ps_ret (pe_cmpR op_in_seq (pv 1) (pe_tup (pa_cons pe_str (pa_cons pe_str pa_nil))) (by rfl)))) pss_nil
    have h2 : PS (XCo P w K mg base ["self", "word", "one"] "StepsReader.may_begin" sSb f cdv A outer s H XE) (stOf sSb 2) _ := ps_if (pt_cmpR op_eq (pe_fld (pv 0) rfl) pe_str (nomark _)) (pss_one (ps_ret (pe_hasM KB (hr.mono (by decide)) (pe_fld (pv 0) rfl) (pa_cons (pv 1) pa_nil)))) pss_nil
    have h3 : PS (XCo P w K mg base ["self", "word", "one"] "StepsReader.may_begin" sSb f cdv A outer s H XE) (stOf sSb 3) _ := ps_ret (pe_has NL (hr.mono (by decide)) (by rfl) (pa_cons (pv 1) pa_nil))
    refine ⟨_, PSs.nox (PSs.of_eq bdSb (pss_cons h0 (pss_cons h1 (pss_cons h2 (pss_one h3))))), ?_⟩
    clear h0 h1 h2 h3
    obtain ⟨dx, st, q, np, dx2, d1, d2, z1, z2, z3⟩ := hp
    have kk := k H (fun _ _ e => e)
    refine T3.if_intro ⟨.ref p, rfl, p, _, dx, _, _, rfl, q, C.st, C.ss, rfl, rfl, _, rfl, ?_⟩
    show (if decide (V.str (slotT sl) = V.str (slotT .step)) = true then _ else _)
    rw [slot_is]
    cases sl with
    | step =>
      refine iteT ?_
      refine any_keys (K := K) ["grow", "shrink", "turn", "loop", "unloop"] rfl (fun z => pre x (tl z)) (fun R h => h) (by decide) (fun _ => rfl) (fun z G Q' hz s kq => ⟨.str z, rfl, rfl, .str (S x), rfl, z, S x, rfl, rfl, ?_⟩) fun G s1 => ?_
      · have := kq G (fun _ _ e => e)
        rw [← starts_S, S_tl] at this
        exact this
      · have := k G s1
        have e : begR (.steps .step) x = (["grow", "shrink", "turn", "loop", "unloop"] : List Str).any fun z => pre x (tl z) := rfl
        rw [e] at this
        exact this
    | kind =>
      refine iteF ⟨.ref p, rfl, p, _, dx, _, _, rfl, q, C.st, C.ss, rfl, rfl, _, rfl, ?_⟩
      show (if decide (V.str (slotT .kind) = V.str (slotT .kind)) = true then _ else _)
      rw [slot_is]
      refine iteT ⟨.str (S x), rfl, small4 2, fun a na => ⟨a, _, rfl, .inr (.inl (.inl upd_same)), rfl, rfl, ?_⟩⟩
      have kk := k _ (same_new (o := .tup [.str "x", .str "y"]) na)
      have e : begR (.steps .kind) x = inV (.str (S x)) [V.str "x", V.str "y"] := (in_xy x).symm
      rw [e] at kk
      exact kk
    | wire =>
      refine iteF ⟨.ref p, rfl, p, _, dx, _, _, rfl, q, C.st, C.ss, rfl, rfl, _, rfl, ?_⟩
      show (if decide (V.str (slotT .wire) = V.str (slotT .kind)) = true then _ else _)
      rw [slot_is]
      refine iteF ⟨.ref p, rfl, p, _, dx, _, _, rfl, q, C.st, C.ss, rfl, rfl, _, rfl, ?_⟩
      show (if decide (V.str (slotT .wire) = V.str (slotT .wire)) = true then _ else _)
      rw [slot_is]
      exact iteT ⟨.ref p, rfl, p, _, dx, _, _, rfl, q, C.st, C.sw, rfl, st, dx2, _, rfl, z1, rfl, .str (S x), rfl, st, x, rfl, ⟨dx2, d1, d2, z1, z2, z3⟩, hl, fun H' s1 => k H' s1⟩
    | index =>
      refine iteF ⟨.ref p, rfl, p, _, dx, _, _, rfl, q, C.st, C.ss, rfl, rfl, _, rfl, ?_⟩
      show (if decide (V.str (slotT .index) = V.str (slotT .kind)) = true then _ else _)
      rw [slot_is]
      refine iteF ⟨.ref p, rfl, p, _, dx, _, _, rfl, q, C.st, C.ss, rfl, rfl, _, rfl, ?_⟩
      show (if decide (V.str (slotT .index) = V.str (slotT .wire)) = true then _ else _)
      rw [slot_is]
      exact iteF ⟨.str (S x), rfl, x, rfl, hl, fun H' s1 => k H' s1⟩
theorem ok_se {f : Addr} {fd : FuncData} (F : FunD K "may_end" "StepsReader.may_end" (defArgs sSe) (defBody sSe) (defScope sSe) [] [] f fd) (C : ClK K) (L : GlK P w K mg) (NL : Has P w K mg base "is_numeral" 1 ["word"] spNl) (KH : HasM P w K mg base (SkC K) "has" 3 ["self", "name"] (spKh K)) : FnOk P w K mg base CX0 4 f fd ["self", "word", "sign"] (spEnd K false) := by
  refine F.ok scSe (fun vs H Q E h => ?_) (fun cdv A outer s H vs Q XE hr h => ?_)
  · obtain ⟨p, r, w, c, rfl, _⟩ := h
    rfl
  · obtain ⟨p, r, x, c, rfl, hi, hp, hc, hl, k⟩ := h
    cases r with
    | course o => cases hi
    | steps sl =>
    have gl : ∀ {X : Cx} {p : Pos}, X = XCo P w K mg base ["self", "word", "sign"] "StepsReader.may_end" sSe f cdv A outer s H XE → PE X (.Name "STEP_SLOTS" p) (tC (.ref (ga K "STEP_SLOTS"))) := fun e => by subst e; exact pe_glob (v := .ref (ga K "STEP_SLOTS")) (by rfl) L.sl rfl (by decide)
    have h0 : PS (XCo P w K mg base ["self", "word", "sign"] "StepsReader.may_end" sSe f cdv A outer s H XE) (stOf sSe 0) _ := ps_if (pt_cmpR op_eq (pe_fld (pv 0) rfl) pe_str (nomark _)) (pss_one (ps_ret (pe_and (pe_cmpR (DiM.op_inC L.sd) (pv 1) (gl rfl) (by rfl)) (pe_one (pe_cmpR op_eq (pv 2) (pe_ifExp (pt_cmpR op_eq (pe_ix (DiM.ix_dictC L.sd) (gl rfl) (pv 1) (fun _ _ => rfl)) pe_str (nomark _)) pe_str pe_str) (nomark _)))))) pss_nil
    have h1 : PS (XCo P w K mg base ["self", "word", "sign"] "StepsReader.may_end" sSe f cdv A outer s H XE) (stOf sSe 1) _ := ps_if (pt_cmpR op_eq (pe_fld (pv 0) rfl) pe_str (nomark _)) (pss_one (ps_ret (pe_and (pe_cmpR op_eq (pv 2) pe_str (nomark _)) (pe_one (pe_cmpR op_in_seq (pv 1) (pe_tup (pa_cons pe_str (pa_cons pe_str pa_nil))) (by rfl)))))) pss_nil
    have h2 : PS (XCo P w K mg base ["self", "word", "sign"] "StepsReader.may_end" sSe f cdv A outer s H XE) (stOf sSe 2) _ := ps_if (pt_cmpR op_eq (pe_fld (pv 0) rfl) pe_str (nomark _)) (pss_one (ps_ret (pe_and (pe_cmpR op_eq (pv 2) pe_str (nomark _)) (pe_one (pe_hasM KH (hr.mono (by decide)) (pe_fld (pv 0) rfl) (pa_cons (pv 1) pa_nil)))))) pss_nil
    have h3 : PS (XCo P w K mg base ["self", "word", "sign"] "StepsReader.may_end" sSe f cdv A outer s H XE) (stOf sSe 3) _ := ps_ret (pe_and (pe_cmpR op_eq (pv 2) pe_str (nomark _)) (pe_one (pe_has NL (hr.mono (by decide)) (by rfl) (pa_cons (pv 1) pa_nil))))
    refine ⟨_, PSs.nox (PSs.of_eq bdSe (pss_cons h0 (pss_cons h1 (pss_cons h2 (pss_one h3))))), ?_⟩
    clear h0 h1 h2 h3 gl
    obtain ⟨dx, st, q, np, dx2, d1, d2, z1, z2, z3⟩ := hp
    have kk := k H (fun _ _ e => e)
    have esp : ∀ y : Slot, decide (V.str (slotT y) = V.str "step") = decide (y = .step) := fun y => slot_is y .step
    refine T3.if_intro ⟨.ref p, rfl, p, _, dx, _, _, rfl, q, C.st, C.ss, rfl, rfl, _, rfl, ?_⟩
    rw [esp]
    cases sl with
    | step =>
      refine iteT ⟨.str (S x), rfl, S x, rfl, rfl, _, rfl, ?_⟩
      rw [slot_val]
      have e : endR (.steps .step) x (decide (c = 10)) = (match slotOf x with | some s => decide (c = 10) == decide (s = .step) | none => false) := rfl
      rw [e] at kk
      cases hs : slotOf x with
      | none =>
        rw [hs] at kk
        exact iteF kk
      | some s2 =>
        rw [hs] at kk
        have kk : Q (.bl (decide (c = 10) == decide (s2 = .step))) H := kk
        refine iteT ⟨.str ⟨#[c]⟩, rfl, .str (S x), rfl, S x, .str (slotT s2), rfl, rfl, by rw [slot_val, hs]; rfl, rfl, _, rfl, ?_⟩
        rw [esp]
        cases c2 : decide (s2 = Slot.step) with
        | true =>
          refine iteT ⟨rfl, ?_⟩
          show Q (.bl (decide (V.str ⟨#[c]⟩ = V.str "\n"))) H
          rw [nl_sign]
          rw [c2] at kk
          simpa using kk
        | false =>
          refine iteF ⟨rfl, ?_⟩
          show Q (.bl (decide (V.str ⟨#[c]⟩ = V.str " "))) H
          rw [sp_sign hc]
          rw [c2] at kk
          have e2 : (decide (c = 10) == false) = !decide (c = 10) := by cases decide (c = 10) <;> rfl
          rw [← e2]
          exact kk
    | kind =>
      refine iteF ⟨.ref p, rfl, p, _, dx, _, _, rfl, q, C.st, C.ss, rfl, rfl, _, rfl, ?_⟩
      show (if decide (V.str (slotT .kind) = V.str (slotT .kind)) = true then _ else _)
      rw [slot_is]
      refine iteT ⟨.str ⟨#[c]⟩, rfl, rfl, _, rfl, ?_⟩
      rw [sp_sign hc]
      have e : ∀ b, endR (.steps .kind) x b = (!b && inV (.str (S x)) [V.str "x", V.str "y"]) := fun b => by rw [in_xy]; rfl
      rw [e] at kk
      cases c2 : decide (c = 10) with
      | true =>
        rw [c2] at kk
        exact iteF kk
      | false =>
        refine iteT ⟨.str (S x), rfl, small4 2, fun a na => ⟨a, _, rfl, .inr (.inl (.inl upd_same)), rfl, rfl, ?_⟩⟩
        have kk := k _ (same_new (o := .tup [.str "x", .str "y"]) na)
        rw [e, c2] at kk
        exact kk
    | wire =>
      refine iteF ⟨.ref p, rfl, p, _, dx, _, _, rfl, q, C.st, C.ss, rfl, rfl, _, rfl, ?_⟩
      show (if decide (V.str (slotT .wire) = V.str (slotT .kind)) = true then _ else _)
      rw [slot_is]
      refine iteF ⟨.ref p, rfl, p, _, dx, _, _, rfl, q, C.st, C.ss, rfl, rfl, _, rfl, ?_⟩
      show (if decide (V.str (slotT .wire) = V.str (slotT .wire)) = true then _ else _)
      rw [slot_is]
      refine iteT ⟨.str ⟨#[c]⟩, rfl, rfl, _, rfl, ?_⟩
      rw [nl_sign]
      have e : ∀ b, endR (.steps .wire) x b = (b && nameB (.str (S x))) := fun b => rfl
      cases c2 : decide (c = 10) with
      | false =>
        rw [e, c2] at kk
        exact iteF kk
      | true =>
        exact iteT ⟨.ref p, rfl, p, _, dx, _, _, rfl, q, C.st, C.sw, rfl, st, dx2, _, rfl, z1, rfl, .str (S x), rfl, st, x, rfl, ⟨dx2, d1, d2, z1, z2, z3⟩, hl, fun H' s1 => by
          have kk := k H' s1
          rw [e, c2] at kk
          exact kk⟩
    | index =>
      refine iteF ⟨.ref p, rfl, p, _, dx, _, _, rfl, q, C.st, C.ss, rfl, rfl, _, rfl, ?_⟩
      show (if decide (V.str (slotT .index) = V.str (slotT .kind)) = true then _ else _)
      rw [slot_is]
      refine iteF ⟨.ref p, rfl, p, _, dx, _, _, rfl, q, C.st, C.ss, rfl, rfl, _, rfl, ?_⟩
      show (if decide (V.str (slotT .index) = V.str (slotT .wire)) = true then _ else _)
      rw [slot_is]
      refine iteF ⟨.str ⟨#[c]⟩, rfl, rfl, _, rfl, ?_⟩
      rw [nl_sign]
      have e : ∀ b, endR (.steps .index) x b = (b && numW x) := fun b => rfl
      cases c2 : decide (c = 10) with
      | false =>
        rw [e, c2] at kk
        exact iteF kk
      | true =>
        exact iteT ⟨.str (S x), rfl, x, rfl, hl, fun H' s1 => by
          have kk := k H' s1
          rw [e, c2] at kk
          exact kk⟩
end
end K14.T69
namespace K14.T69
open T27 T3
open K14.Gn
open PySem PySem.W PySem.Calls PyProof.Rows L2 LamX
open He (ga)
open SX (S)
open TL (tl pre joinL)
open Kz (SS ExtS ExtS.trans small4 same_new boot_in boot_li boot_isi Has pe_has noE PSs.of_eq new_ext X1)
/-! ### scanned, fault_of -/
abbrev sSc : Stmt := topS 28
abbrev sFo : Stmt := topS 29
abbrev sCof : Stmt := topS 38
abbrev sStf : Stmt := topS 42
abbrev NSc : List Str := ["reader", "text", "word", "at", "sign"]
theorem scSc : FnScope NSc ["reader", "text"] (defScope sSc) := ⟨rfl, rfl, rfl, by decide +kernel, rfl, by decide +kernel, by decide +kernel⟩
theorem bdSc : defBody sSc = [stOf sSc 0, stOf sSc 1, stOf sSc 2] := by rfl
def fbSc : Stmt := (forBody (stOf sSc 1)).getD 0 (.Pass ⟨0, 0, 0, 0⟩)
theorem bdFSc : forBody (stOf sSc 1) = [fbSc] := by rfl
theorem scan_S (c : Nat) : inV (.str ⟨#[c]⟩) [V.str " ", V.str "\n"] = sepC c := by
  have ex : (" " : Str) = S [32] := by decide +kernel
  have ey : ("\n" : Str) = S [10] := by decide +kernel
  unfold inV
  rw [ex, ey]
  show (eqV (V.str (S [32])) (V.str (S [c])) || (eqV (V.str (S [10])) (V.str (S [c])) || false)) = _
  rw [eqv_S, eqv_S, Bool.or_false]
  unfold sepC
  have e : ∀ a : Nat, decide ([c] = [a]) = decide (c = a) := fun a => by simp
  rw [e, e]
theorem scanR_c (r : RS) (w : List Nat) (k c : Nat) (q : List Nat) : scanR r w k (c :: q) = if sepC c = true then (if endR r w (decide (c = 10)) = true then scanR (putR r w (decide (c = 10))) [] (k + 1) q else (k, w, r))
    else (if begR r (w ++ [c]) = true then scanR r (w ++ [c]) (k + 1) q else (k, w ++ [c], r)) := rfl
/-- the fault of anything -/
def fauV (r : RS) : PyData → V
  | .str s => oV (faultR r (tl s))
  | _ => .int (-1)
theorem scFo : FnScope ["reader", "text", "at", "word"] ["reader", "text"] (defScope sFo) := ⟨rfl, rfl, rfl, by decide +kernel, rfl, by decide +kernel, by decide +kernel⟩
theorem bdFo : defBody sFo = [stOf sFo 0, stOf sFo 1, stOf sFo 2, stOf sFo 3] := by rfl
theorem scCof : FnScope ["text"] ["text"] (defScope sCof) := ⟨rfl, rfl, rfl, by decide +kernel, rfl, by decide +kernel, by decide +kernel⟩
theorem bdCof : defBody sCof = [stOf sCof 0] := by rfl
theorem scStf : FnScope ["text"] ["text"] (defScope sStf) := ⟨rfl, rfl, rfl, by decide +kernel, rfl, by decide +kernel, by decide +kernel⟩
theorem bdStf : defBody sStf = [stOf sStf 0] := by rfl
section
variable {P : Program} {w : World} {K : Frag} {mg : Str → Option Value} {base : Heap}
/-- both readers' methods -/
structure RdM (P : Program) (w : World) (K : Frag) (mg : Str → Option Value) (base : Heap) : Prop where
  cb : HasM P w K mg base (CoC K) "may_begin" 2 ["self", "word"] (spBeg K true)
  ce : HasM P w K mg base (CoC K) "may_end" 2 ["self", "word", "sign"] (spEnd K true)
  cp : HasM P w K mg base (CoC K) "put" 1 ["self", "word", "sign"] (spPut K true)
  cd : HasM P w K mg base (CoC K) "is_done" 1 ["self"] (spDone K true)
  sb : HasM P w K mg base (StC K) "may_begin" 3 ["self", "word"] (spBeg K false)
  se : HasM P w K mg base (StC K) "may_end" 4 ["self", "word", "sign"] (spEnd K false)
  sp : HasM P w K mg base (StC K) "put" 1 ["self", "word", "sign"] (spPut K false)
  sd : HasM P w K mg base (StC K) "is_done" 1 ["self"] (spDone K false)
theorem rd_co {H : Hp} {p : Addr} {r : RS} (h : RdAt K H p r) (c : isC r = true) : ∃ dx o, H p = some (.ins (CoC K) dx [("first", .int o)]) := by
  cases r with
  | course o =>
    obtain ⟨dx, q⟩ := h
    exact ⟨dx, _, q⟩
  | steps s => cases c
theorem rd_st {H : Hp} {p : Addr} {r : RS} (h : RdAt K H p r) (c : isC r = false) : ∃ dx s st, H p = some (.ins (StC K) dx [("slot", .str s), ("wire_names", .ref st)]) := by
  cases r with
  | course o => cases c
  | steps s =>
    obtain ⟨dx, st, q, _⟩ := h
    exact ⟨dx, _, st, q⟩
theorem rd_some {H : Hp} {p t : Addr} {r : RS} (h : RdAt K H p r) (n : H t = none) : t ≠ p := fun z => by
  subst z
  cases r with
  | course o =>
    obtain ⟨dx, q⟩ := h
    rw [q] at n
    cases n
  | steps s =>
    obtain ⟨dx, st, q, _⟩ := h
    rw [q] at n
    cases n
theorem call_end {G : Hp} {p : Addr} {r : RS} {w : List Nat} {c : Nat} {a1 a3 : Option V} {Q : VK} (hp : RdAt K G p r) (hc : sepC c = true) (hw : w.length ≤ 100000) (k : ∀ G', L2.Same G G' → Q (.bl (endR r w (decide (c = 10)))) G') :
    tMeth (CoC K) "may_end" (spEnd K true) [] noE (tVar 0) (tCons (tVar 2) (tCons (tVar 4) tNil)) [some (.ref p), a1, some (.str (S w)), a3, some (.str ⟨#[c]⟩)] G Q ∨
    tMeth (StC K) "may_end" (spEnd K false) [] noE (tVar 0) (tCons (tVar 2) (tCons (tVar 4) tNil)) [some (.ref p), a1, some (.str (S w)), a3, some (.str ⟨#[c]⟩)] G Q := by
  cases hi : isC r with
  | true =>
    obtain ⟨dx, o, q⟩ := rd_co hp hi
    exact .inl ⟨.ref p, rfl, p, dx, _, rfl, q, rfl, .str (S w), rfl, .str ⟨#[c]⟩, rfl, p, r, w, c, rfl, hi, hp, hc, hw, k⟩
  | false =>
    obtain ⟨dx, s, st, q⟩ := rd_st hp hi
    exact .inr ⟨.ref p, rfl, p, dx, _, rfl, q, rfl, .str (S w), rfl, .str ⟨#[c]⟩, rfl, p, r, w, c, rfl, hi, hp, hc, hw, k⟩
theorem call_put {G : Hp} {p : Addr} {r : RS} {w : List Nat} {c : Nat} {a1 a3 : Option V} {Q : VK} (hp : RdAt K G p r) (hc : sepC c = true) (hE : endR r w (decide (c = 10)) = true) (k : ∀ G', Exc p G G' → RdAt K G' p (putR r w (decide (c = 10))) → Q .non G') :
    tMeth (CoC K) "put" (spPut K true) [] noE (tVar 0) (tCons (tVar 2) (tCons (tVar 4) tNil)) [some (.ref p), a1, some (.str (S w)), a3, some (.str ⟨#[c]⟩)] G Q ∨
    tMeth (StC K) "put" (spPut K false) [] noE (tVar 0) (tCons (tVar 2) (tCons (tVar 4) tNil)) [some (.ref p), a1, some (.str (S w)), a3, some (.str ⟨#[c]⟩)] G Q := by
  cases hi : isC r with
  | true =>
    obtain ⟨dx, o, q⟩ := rd_co hp hi
    exact .inl ⟨.ref p, rfl, p, dx, _, rfl, q, rfl, .str (S w), rfl, .str ⟨#[c]⟩, rfl, p, r, w, c, rfl, hi, hp, hc, hE, k⟩
  | false =>
    obtain ⟨dx, s, st, q⟩ := rd_st hp hi
    exact .inr ⟨.ref p, rfl, p, dx, _, rfl, q, rfl, .str (S w), rfl, .str ⟨#[c]⟩, rfl, p, r, w, c, rfl, hi, hp, hc, hE, k⟩
theorem call_beg {G : Hp} {p : Addr} {r : RS} {w : List Nat} {a1 a3 a4 : Option V} {Q : VK} (hp : RdAt K G p r) (hw : w.length ≤ 100000) (k : ∀ G', L2.Same G G' → Q (.bl (begR r w)) G') :
    tMeth (CoC K) "may_begin" (spBeg K true) [] noE (tVar 0) (tCons (tVar 2) tNil) [some (.ref p), a1, some (.str (S w)), a3, a4] G Q ∨
    tMeth (StC K) "may_begin" (spBeg K false) [] noE (tVar 0) (tCons (tVar 2) tNil) [some (.ref p), a1, some (.str (S w)), a3, a4] G Q := by
  cases hi : isC r with
  | true =>
    obtain ⟨dx, o, q⟩ := rd_co hp hi
    exact .inl ⟨.ref p, rfl, p, dx, _, rfl, q, rfl, .str (S w), rfl, p, r, w, rfl, hi, hp, hw, k⟩
  | false =>
    obtain ⟨dx, s, st, q⟩ := rd_st hp hi
    exact .inr ⟨.ref p, rfl, p, dx, _, rfl, q, rfl, .str (S w), rfl, p, r, w, rfl, hi, hp, hw, k⟩
def spScan (K : Frag) : Sp := fun vs H Q _ => ∃ (p : Addr) (r : RS) (x : List Nat), vs = [.ref p, .str (S x)] ∧ RdAt K H p r ∧ x.length ≤ 100000 ∧
  ∀ (H' : Hp) (t : Addr), Exc p H H' → RdAt K H' p (scanR r [] 0 x).2.2 → t ≠ p → H' t = some (.tup [.int ((scanR r [] 0 x).1 : Nat), .str (S (scanR r [] 0 x).2.1)]) → Q (.ref t) H'
theorem ok_sc {f : Addr} {fd : FuncData} (F : FunD K "scanned" "scanned" (defArgs sSc) (defBody sSc) (defScope sSc) [] [] f fd) (M : RdM P w K mg base) (men : mg "enumerate" = none) (ml : mg "len" = none) : FnOk P w K mg base CX0 5 f fd ["reader", "text"] (spScan K) := by
  refine F.ok scSc (fun vs H Q E h => ?_) (fun cdv A outer s H vs Q XE hr h => ?_)
  · obtain ⟨p, r, x, rfl, _⟩ := h
    rfl
  · obtain ⟨p, r, x, rfl, hp, hl, k⟩ := h
    have h0 : PS (XCo P w K mg base NSc "scanned" sSc f cdv A outer s H XE) (stOf sSc 0) _ := ps_set (i := 2) scSc.nd rfl (.inl rfl) pe_str
    have b0 : PS (XCo P w K mg base NSc "scanned" sSc f cdv A outer s H XE) fbSc _ := ps_if (pt_cmpR op_in_seq (pv 4) (pe_tup (pa_cons pe_str (pa_cons pe_str pa_nil))) (by rfl))
      (pss_cons (ps_if (pt_not (pt_val (pe_alt (pe_hasM M.ce (hr.mono (by decide)) (pv 0) (pa_cons (pv 2) (pa_cons (pv 4) pa_nil))) (pe_hasM M.se (hr.mono (by decide)) (pv 0) (pa_cons (pv 2) (pa_cons (pv 4) pa_nil)))))) (pss_one (ps_ret (pe_tup (pa_cons (pv 3) (pa_cons (pv 2) pa_nil))))) pss_nil)
      (pss_cons (ps_expr (pe_alt (pe_hasM M.cp (hr.mono (by decide)) (pv 0) (pa_cons (pv 2) (pa_cons (pv 4) pa_nil))) (pe_hasM M.sp (hr.mono (by decide)) (pv 0) (pa_cons (pv 2) (pa_cons (pv 4) pa_nil)))))
      (pss_one (ps_set (i := 2) scSc.nd rfl (.inl rfl) pe_str))))
      (pss_cons (ps_set (i := 2) scSc.nd rfl (.inl rfl) (pe_op op_add_str (pv 2) (pv 4)))
      (pss_one (ps_if (pt_not (pt_val (pe_alt (pe_hasM M.cb (hr.mono (by decide)) (pv 0) (pa_cons (pv 2) pa_nil)) (pe_hasM M.sb (hr.mono (by decide)) (pv 0) (pa_cons (pv 2) pa_nil))))) (pss_one (ps_ret (pe_tup (pa_cons (pv 3) (pa_cons (pv 2) pa_nil))))) pss_nil)))
    have h1 : PS (XCo P w K mg base NSc "scanned" sSc f cdv A outer s H XE) (stOf sSc 1) _ := ps_for PassesOwn.never rfl (EnS.pi_enS (by rfl) men (pa_cons (pv 1) pa_nil)) (pg_tup (n := 2) rfl (pgs_cons (pg_name (i := 3) scSc.nd rfl (.inl rfl)) (pgs_cons (pg_name (i := 4) scSc.nd rfl (.inl rfl)) pgs_nil))) (PSs.of_eq bdFSc (pss_one b0))
    have h2 : PS (XCo P w K mg base NSc "scanned" sSc f cdv A outer s H XE) (stOf sSc 2) _ := ps_ret (pe_tup (pa_cons (pe_callB call_len_str (by rfl) ml boot_len (pa_cons (pv 1) pa_nil)) (pa_cons (pv 2) pa_nil)))
    have PP := PSs.of_eq bdSc (pss_cons h0 (pss_cons h1 (pss_one h2)))
    clear h0 h1 h2 b0
    refine ⟨_, PSs.nox PP, ?_⟩
    clear PP
    refine set_intro (i := 2) ?_
    show tSeq _ _ _ _ _
    refine T3.for_enT (x := S x) (i1 := 3) (i2 := 4) (fun R h => ⟨.str (S x), rfl, h⟩) (fun j σ G => ∃ (r2 : RS) (w : List Nat) (a3 a4 : Option V), σ = [some (.ref p), some (.str (S x)), some (.str (S w)), a3, a4] ∧ Exc p H G ∧ RdAt K G p r2 ∧ w.length ≤ j ∧ scanR r [] 0 x = scanR r2 w j (x.drop j))
      ⟨r, [], none, none, rfl, fun _ _ e _ => e, hp, Nat.le_refl _, rfl⟩ (fun j c σ G hc e G' e' => ?_) (fun σ G e => ?_)
    · obtain ⟨r2, w, a3, a4, rfl, eG, hp2, hw, es⟩ := e
      have hc : x[j]? = some c := hc
      obtain ⟨jl, ec⟩ := List.getElem?_eq_some_iff.mp hc
      rw [List.drop_eq_getElem_cons jl, ec] at es
      rw [scanR_c] at es
      have eG' : Exc p H G' := eG.trans (.of e')
      have hp3 := hp2.ext e'
      have fin : ∀ {w' : List Nat} {a1 a4 : Option V} {G2 : Hp}, scanR r [] 0 x = (j, w', r2) → L2.Same G' G2 → (tRet (tTup (tCons (tVar 3) (tCons (tVar 2) tNil)))) { nx := fun x H' => Q V.non H', rt := Q } [some (.ref p), a1, some (.str (S w')), some (.int (j : Nat)), a4] G2 := fun {w'} {a1 a4} {G2} e1 s2 => by
        refine ⟨.int (j : Nat), rfl, .str (S w'), rfl, small4 2, fun t nt => ?_⟩
        have kk := k
        rw [e1] at kk
        exact kk _ t (eG'.trans (.of (s2.trans (same_new nt)))) (hp3.ext (s2.trans (same_new nt))) (rd_some (hp3.ext s2) nt) upd_same
      refine ⟨.str ⟨#[c]⟩, rfl, small4 2, fun q nq => ⟨q, _, rfl, .inr (.inl (.inl upd_same)), rfl, rfl, _, rfl, ?_⟩⟩
      have sq := same_new (o := .tup [.str " ", .str "\n"]) nq
      rw [scan_S]
      cases hs : sepC c with
      | true =>
        rw [hs, if_pos rfl] at es
        refine iteT (call_end (hp3.ext sq) hs (by omega) fun G2 s2 => ?_)
        refine ⟨_, rfl, ?_⟩
        cases hE : endR r2 w (decide (c = 10)) with
        | false =>
          rw [hE, if_neg (by decide)] at es
          exact iteT (fin es (sq.trans s2))
        | true =>
          rw [hE, if_pos rfl] at es
          refine iteF (call_put ((hp3.ext sq).ext s2) hs hE fun G3 e3 hp4 => ?_)
          refine gset ?_
          exact ⟨_, [], some (.int (j : Nat)), some (.str ⟨#[c]⟩), rfl, (eG'.trans (.of (sq.trans s2))).trans e3, hp4, Nat.zero_le _, es⟩
      | false =>
        rw [hs, if_neg (by decide)] at es
        refine iteF ⟨.str (S w), rfl, .str ⟨#[c]⟩, rfl, S w, ⟨#[c]⟩, rfl, rfl, by rw [S_len, sizeLine_eq]; show w.length + 1 ≤ _; omega, ?_⟩
        have ew : S w ++ (⟨#[c]⟩ : Str) = S (w ++ [c]) := S_app w [c]
        rw [ew]
        refine gset ?_
        refine call_beg (hp3.ext sq) (by rw [List.length_append]; show w.length + 1 ≤ _; omega) fun G2 s2 => ⟨_, rfl, ?_⟩
        cases hB : begR r2 (w ++ [c]) with
        | false =>
          rw [hB, if_neg (by decide)] at es
          exact iteT (fin es (sq.trans s2))
        | true =>
          rw [hB, if_pos rfl] at es
          exact iteF ⟨_, w ++ [c], some (.int (j : Nat)), some (.str ⟨#[c]⟩), rfl, eG'.trans (.of (sq.trans s2)), (hp3.ext sq).ext s2, by rw [List.length_append]; show w.length + 1 ≤ _; omega, es⟩
    · obtain ⟨r2, w, a3, a4, rfl, eG, hp2, hw, es⟩ := e
      have lx : (S x).cps.toList.length = x.length := rfl
      rw [lx, List.drop_length] at es
      have e1 : scanR r [] 0 x = (x.length, w, r2) := es
      rw [e1] at k
      refine ⟨.str (S x), rfl, S x, rfl, by rw [S_len, sizeLine_eq]; omega, .str (S w), rfl, small4 2, fun t nt => ?_⟩
      refine k _ t (eG.trans (.of (same_new nt))) (hp2.ext (same_new nt)) (rd_some hp2 nt) (by rw [S_len]; exact upd_same)
theorem call_done {G : Hp} {p : Addr} {r : RS} {σ : L2.St} {Q : VK} (hp : RdAt K G p r) (k : ∀ G', L2.Same G G' → Q (.bl (doneR r)) G') :
    tMeth (CoC K) "is_done" (spDone K true) [] noE (tVar 0) tNil (some (.ref p) :: σ) G Q ∨ tMeth (StC K) "is_done" (spDone K false) [] noE (tVar 0) tNil (some (.ref p) :: σ) G Q := by
  cases hi : isC r with
  | true =>
    obtain ⟨dx, o, q⟩ := rd_co hp hi
    exact .inl ⟨.ref p, rfl, p, dx, _, rfl, q, rfl, p, r, rfl, hi, hp, k⟩
  | false =>
    obtain ⟨dx, s, st, q⟩ := rd_st hp hi
    exact .inr ⟨.ref p, rfl, p, dx, _, rfl, q, rfl, p, r, rfl, hi, hp, k⟩
def spFo (K : Frag) : Sp := fun vs H Q _ => ∃ (p : Addr) (r : RS) (v : V) (d : PyData), vs = [.ref p, v] ∧ RdAt K H p r ∧ Th H v d ∧ (∀ s, d = .str s → s.length ≤ 100000) ∧ ∀ H' : Hp, Exc p H H' → Q (fauV r d) H'
theorem ok_fo {f : Addr} {fd : FuncData} (F : FunD K "fault_of" "fault_of" (defArgs sFo) (defBody sFo) (defScope sFo) [] [] f fd) (M : RdM P w K mg base) (SC : Has P w K mg base "scanned" 5 ["reader", "text"] (spScan K)) (N : NmK K mg) : FnOk P w K mg base CX0 6 f fd ["reader", "text"] (spFo K) := by
  refine F.ok scFo (fun vs H Q E h => ?_) (fun cdv A outer s H vs Q XE hr h => ?_)
  · obtain ⟨p, r, v, d, rfl, _⟩ := h
    rfl
  · obtain ⟨p, r, v, d, rfl, hp, hv, hl, k⟩ := h
    have h0 : PS (XCo P w K mg base ["reader", "text", "at", "word"] "fault_of" sFo f cdv A outer s H XE) (stOf sFo 0) _ := ps_if (pt_not (pt_val (pe_callB call_isi (by rfl) N.isi boot_isi (pa_cons (pv 1) (pa_cons (pe_bltn (by rfl) N.str boot_st (v := .ty "str") rfl) pa_nil))))) (pss_one (ps_ret (pe_un un_neg pe_int))) pss_nil
    have h1 : PS (XCo P w K mg base ["reader", "text", "at", "word"] "fault_of" sFo f cdv A outer s H XE) (stOf sFo 1) _ := ps_asg (pe_has SC (hr.mono (by decide)) (by rfl) (pa_cons (pv 0) (pa_cons (pv 1) pa_nil))) (pg_tup (n := 2) rfl (pgs_cons (pg_name (i := 2) scFo.nd rfl (.inl rfl)) (pgs_cons (pg_name (i := 3) scFo.nd rfl (.inl rfl)) pgs_nil)))
    have h2 : PS (XCo P w K mg base ["reader", "text", "at", "word"] "fault_of" sFo f cdv A outer s H XE) (stOf sFo 2) _ := ps_if (pw_and (pt_cmpR op_eq (pv 2) (pe_callB call_len_str (by rfl) N.len boot_len (pa_cons (pv 1) pa_nil)) (nomark _)) (pw_and (pt_cmpR op_eq (pv 3) pe_str (nomark _)) (pw_and1 (pt_val (pe_alt (pe_hasM0 M.cd (hr.mono (by decide)) (pv 0)) (pe_hasM0 M.sd (hr.mono (by decide)) (pv 0))))))).pt (pss_one (ps_ret pe_non)) pss_nil
    have h3 : PS (XCo P w K mg base ["reader", "text", "at", "word"] "fault_of" sFo f cdv A outer s H XE) (stOf sFo 3) _ := ps_ret (pv 2)
    have PP := PSs.of_eq bdFo (pss_cons h0 (pss_cons h1 (pss_cons h2 (pss_one h3))))
    clear h0 h1 h2 h3
    refine ⟨_, PSs.nox PP, ?_⟩
    clear PP
    refine T3.if_intro ⟨v, rfl, v, _, _, _, _, rfl, .ty _, hv.ty, is_st d, _, rfl, ?_⟩
    have non : (∀ s, d ≠ .str s) → Q (.int (-1)) H := fun n => by
      have kk := k H (fun _ _ e _ => e)
      have e : fauV r d = .int (-1) := by
        cases d with
        | str s => exact absurd rfl (n s)
        | _ => rfl
      rw [e] at kk
      exact kk
    cases hv with
    | str x =>
      obtain ⟨x, rfl⟩ : ∃ x', x = S x' := ⟨tl x, (S_tl x).symm⟩
      have hl := hl _ rfl
      rw [S_len] at hl
      refine iteF ⟨.ref p, rfl, .str (S x), rfl, p, r, x, rfl, hp, hl, fun H1 t e1 hp1 nt ht => ⟨t, _, rfl, .inl (.inl ht), rfl, _, _, rfl, _, _, rfl, rfl, ?_⟩⟩
      have e0 : fauV r (.str (S x)) = oV (faultR r x) := rfl
      rw [e0] at k
      unfold faultR at k
      revert hp1 ht k
      generalize scanR r [] 0 x = R3
      obtain ⟨a, w2, r2⟩ := R3
      intro k hp1 ht
      have k : ∀ H' : Hp, Exc p H H' → Q (oV (if a = x.length ∧ w2 = [] ∧ doneR r2 = true then none else some a)) H' := k
      have le : ((S x).length : Int) = (x.length : Int) := by rw [S_len]
      have no : ¬ (a = x.length ∧ w2 = [] ∧ doneR r2 = true) → ∀ G, Exc p H G → Q (.int (a : Nat)) G := fun n G e => by
        have kk := k G e
        rw [if_neg n] at kk
        exact kk
      refine nx_intro (ifS_intro ⟨.int (a : Nat), rfl, .str (S x), rfl, S x, rfl, by rw [S_len, sizeLine_eq]; omega, rfl, _, rfl, ?_⟩)
      have d1 : decide (V.int (a : Nat) = V.int ((S x).length : Nat)) = decide (a = x.length) := by
        rw [S_len, Bool.eq_iff_iff, decide_eq_true_eq, decide_eq_true_eq]
        exact ⟨fun z => by have := V.int.inj z; omega, fun z => by rw [z]⟩
      rw [d1]
      by_cases c1 : a = x.length
      · rw [decide_eq_true c1]
        refine iteT ⟨.str (S w2), rfl, rfl, _, rfl, ?_⟩
        have d2 : decide (V.str (S w2) = V.str "") = decide (w2 = []) := by
          have e2 : ("" : Str) = S [] := by decide +kernel
          rw [e2, Bool.eq_iff_iff, decide_eq_true_eq, decide_eq_true_eq]
          exact ⟨fun q => S_inj (V.str.inj q), fun q => by rw [q]⟩
        rw [d2]
        by_cases c2 : w2 = []
        · rw [decide_eq_true c2]
          refine iteT (call_done hp1 fun G2 s2 => ⟨_, rfl, ?_⟩)
          cases c3 : doneR r2 with
          | true =>
            refine iteT ?_
            have kk := k G2 (e1.trans (.of s2))
            rw [if_pos ⟨c1, c2, c3⟩] at kk
            exact kk
          | false => exact iteF ⟨.int (a : Nat), rfl, no (fun z => by rw [c3] at z; cases z.2.2) G2 (e1.trans (.of s2))⟩
        · rw [decide_eq_false c2]
          exact iteF (iteF ⟨.int (a : Nat), rfl, no (fun z => c2 z.2.1) H1 e1⟩)
      · rw [decide_eq_false c1]
        exact iteF (iteF ⟨.int (a : Nat), rfl, no (fun z => c1 z.1) H1 e1⟩)
    | _ => exact iteT ⟨1, rfl, non (fun s => by intro z; cases z)⟩
def spCof (r : RS) : Sp := fun vs H Q _ => ∃ (v : V) (d : PyData), vs = [v] ∧ Th H v d ∧ (∀ s, d = .str s → s.length ≤ 100000) ∧ ∀ H' : Hp, L2.Same H H' → Q (fauV r d) H'
theorem ok_cof {f : Addr} {fd : FuncData} (F : FunD K "course_fault" "course_fault" (defArgs sCof) (defBody sCof) (defScope sCof) [] [] f fd) (FO : Has P w K mg base "fault_of" 6 ["reader", "text"] (spFo K)) (CR : HasC P w K mg base "CourseReader" (CoC K) 1 ["self"] (spNew K (CoC K) (.course none))) : FnOk P w K mg base CX0 7 f fd ["text"] (spCof (.course none)) := by
  refine F.ok scCof (fun vs H Q E h => ?_) (fun cdv A outer s H vs Q XE hr h => ?_)
  · obtain ⟨v, d, rfl, _⟩ := h
    rfl
  · obtain ⟨v, d, rfl, hv, hl, k⟩ := h
    have h0 : PS (XCo P w K mg base ["text"] "course_fault" sCof f cdv A outer s H XE) (stOf sCof 0) _ := ps_ret (pe_has FO (hr.mono (by decide)) (by rfl) (pa_cons (pe_hasC0 CR (hr.mono (by decide)) (by rfl)) (pa_cons (pv 0) pa_nil)))
    refine ⟨_, PSs.nox (PSs.of_eq bdCof (pss_one h0)), ?_⟩
    clear h0
    refine fun p dx n1 n2 n3 => ⟨p, dx, rfl, upd_same, fun H2 e2 hp => ⟨rfl, ?_⟩⟩
    have s2 : L2.Same H H2 := fun b o e => e2 _ _ (by rw [upd_ne (ne_of_none e n1), upd_ne (ne_of_none e n2)]; exact e) (ne_of_none e n1)
    exact ⟨v, rfl, p, _, v, d, rfl, hp, hv.ext s2, hl, fun H3 e3 => k H3 fun b o e => e3 _ _ (s2 _ _ e) (ne_of_none e n1)⟩
theorem ok_stf {f : Addr} {fd : FuncData} (F : FunD K "steps_fault" "steps_fault" (defArgs sStf) (defBody sStf) (defScope sStf) [] [] f fd) (FO : Has P w K mg base "fault_of" 6 ["reader", "text"] (spFo K)) (SR : HasC P w K mg base "StepsReader" (StC K) 3 ["self"] (spNew K (StC K) (.steps .step))) : FnOk P w K mg base CX0 7 f fd ["text"] (spCof (.steps .step)) := by
  refine F.ok scStf (fun vs H Q E h => ?_) (fun cdv A outer s H vs Q XE hr h => ?_)
  · obtain ⟨v, d, rfl, _⟩ := h
    rfl
  · obtain ⟨v, d, rfl, hv, hl, k⟩ := h
    have h0 : PS (XCo P w K mg base ["text"] "steps_fault" sStf f cdv A outer s H XE) (stOf sStf 0) _ := ps_ret (pe_has FO (hr.mono (by decide)) (by rfl) (pa_cons (pe_hasC0 SR (hr.mono (by decide)) (by rfl)) (pa_cons (pv 0) pa_nil)))
    refine ⟨_, PSs.nox (PSs.of_eq bdStf (pss_one h0)), ?_⟩
    clear h0
    refine fun p dx n1 n2 n3 => ⟨p, dx, rfl, upd_same, fun H2 e2 hp => ⟨rfl, ?_⟩⟩
    have s2 : L2.Same H H2 := fun b o e => e2 _ _ (by rw [upd_ne (ne_of_none e n1), upd_ne (ne_of_none e n2)]; exact e) (ne_of_none e n1)
    exact ⟨v, rfl, p, _, v, d, rfl, hp, hv.ext s2, hl, fun H3 e3 => k H3 fun b o e => e3 _ _ (s2 _ _ e) (ne_of_none e n1)⟩
end
end K14.T69
namespace K14.Gn
open PySem PySem.W PySem.Calls PyProof.Rows L2 LamX
open Kz (same_new small4)
open T27 T3
theorem cut_butlast (xs : List V) (z : V) : cutV (xs ++ [z]) none (some (-1)) = xs := by
  unfold cutV
  have e1 : HT.sIx (xs ++ [z]).length 0 none = 0 := rfl
  have e2 : HT.sIx (xs ++ [z]).length (xs ++ [z]).length (some (-1)) = xs.length := by
    rw [List.length_append]
    show HT.sIx (xs.length + 1) (xs.length + 1) (some (-1)) = _
    unfold HT.sIx
    simp
    try omega
  rw [e1, e2, List.drop_zero, Nat.sub_zero, List.take_left']
  rfl
mutual
theorem Th.hid0 {H : Hp} : ∀ {v : V} {d : PyData}, Th H v d → Th (Hid [] H) v d
  | _, _, .non => .non
  | _, _, .bl b => .bl b
  | _, _, .int i => .int i
  | _, _, .str x => .str x
  | _, _, .lst h r => .lst (hid_of (fun m => nomatch m) h fun ps z => nomatch z) (ThAll.hid0 r)
  | _, _, .tup h r => .tup (hid_of (fun m => nomatch m) h fun ps z => nomatch z) (ThAll.hid0 r)
  | _, _, .dct h r => .dct (hid_of (fun m => nomatch m) h fun ps z => nomatch z) (ThKv.hid0 r)
theorem ThAll.hid0 {H : Hp} : ∀ {v : List V} {d : List PyData}, ThAll H v d → ThAll (Hid [] H) v d
  | _, _, .nil => .nil
  | _, _, .cons h r => .cons (Th.hid0 h) (ThAll.hid0 r)
theorem ThKv.hid0 {H : Hp} : ∀ {v : List (Key × V)} {d : List (PyData × PyData)}, ThKv H v d → ThKv (Hid [] H) v d
  | _, _, .nil => .nil
  | _, _, .cons h r => .cons (Th.hid0 h) (ThKv.hid0 r)
end
theorem OwnA.snoc {H : Hp} : ∀ {vs : List V} {ds : List PyData} {v : V} {d : PyData}, OwnA H vs ds [] → Own H v d [] → OwnA H (vs ++ [v]) (ds ++ [d]) [] := by
  intro vs
  induction vs with
  | nil =>
    intro ds v d h o
    cases h
    exact .cons (f := []) (g := []) o .nil
  | cons v0 vs ih =>
    intro ds v d h o
    generalize hf : ([] : List Addr) = f0 at h
    cases h with
    | @cons _ _ d0 ds' f g h r =>
      obtain ⟨rfl, rfl⟩ := List.append_eq_nil_iff.mp hf.symm
      exact .cons (f := []) (g := []) h (ih r o)
/-- a comprehension over a list of data, each element data that stands apart, without lists -/
theorem lc_own {K : Frag} {g : TG} {ds : List PyData} {σ : L2.St} {H : Hp} {tl te : TE} {vs : List Nat} {Q : VK} (S : List Addr) (ins : Ins S H) (f : PyData → PyData) (ht : ∀ R : VK, (∀ (v' : V) (G0 : Hp), L2.Same H G0 → Th (Hid S G0) v' (.list ds) → R v' G0) → tl σ H R) (len : ds.length ≤ 100000)
    (hs : ∀ (D : Addr) (z : PyData) (x : V) (G : Hp) (Q' : VK) (W : L2.St → Hp → Prop), (∀ σ2 H2, wipe σ2 vs = wipe σ vs → te σ2 H2 Q' → W σ2 H2) → z ∈ ds → L2.Same H G → Ins (D :: S) G → Th (Hid (D :: S) G) x z → (∀ (G' : Hp) (y : V), L2.Same G G' → Own (Hid (D :: S) G') y (f z) [] → Q' y G') → g x (wipe σ vs) G W)
    (hq : ∀ (G : Hp) (D : Addr) (ys : List V), L2.Same H G → H D = none → G D = some (.lst ys) → OwnA (Hid (D :: S) G) ys (ds.map f) [] → Q (.ref D) G) : tLc (iList K tl) g tYes te vs σ H Q := by
  refine ht _ fun v' G0 s0 t0 => ?_
  cases t0 with
  | @lst a xs _ ha r =>
    have ha' : G0 a = some (.lst xs) := hid_up _ _ ha
    refine ⟨a, rfl, ⟨xs, .inl (.inl ha')⟩, fun D hD => lc_acc (S := S) walk_list (ins.same s0) hD (by rw [r.length]; exact len) (fun H' e => .inl (.inl (e _ _ ha'))) (fun i ys G => ThAll G xs ds ∧ OwnA G ys ((ds.take i).map f) []) (fun i ys G G' e s => ⟨e.1.ext s, e.2.ext s⟩) ⟨?_, .nil⟩ (fun i v G1 G2 ys Qy Qn hi s1 insG a y ky kn => ?_) (fun G ys s1 hA a => ?_)⟩
    · exact r.ext fun b o h => by
        obtain ⟨h1, h2, h3⟩ := hid_at h
        exact hid_of (fun m => (List.mem_cons.mp m).elim (fun q => ne_of_none h2 hD q) h1) h2 h3
    · obtain ⟨rfl, hc⟩ := y
      obtain ⟨tx, ty⟩ := a
      obtain ⟨z, hz, tz⟩ := tx.get hc
      refine hs D z v G2 Qy _ (fun σ2 H2 e1 e2 => ⟨e1, by unfold tYes; show (if true = true then _ else _); rw [if_pos rfl]; exact e2⟩) (List.mem_of_getElem? hz) (s0.trans s1) insG tz fun G' y s' o' => ky _ _ s' ⟨tx.ext (hid_same s'), ?_⟩
      rw [List.take_add_one, hz, List.map_append]
      exact OwnA.snoc (ty.ext (hid_same s')) o'
    · obtain ⟨_, ty⟩ := a
      rw [r.length, List.take_length] at ty
      exact hq G D ys (s0.trans s1) (s0.free hD) hA ty
end K14.Gn
namespace K14.T69
open T27 T3
open K14.Gn
open PySem PySem.W PySem.Calls PyProof.Rows L2 LamX
open He (ga)
open SX (S)
open TL (tl pre joinL)
open Kz (SS ExtS ExtS.trans small4 same_new boot_in boot_li boot_isi Has pe_has noE PSs.of_eq new_ext X1)
/-! ### lines_of, read_course, read_steps -/
def wordsD (g : List (List Nat)) : PyData := .list (g.map fun w => .str (S w))
def rowD (p : Bool) (g : List (List Nat)) : PyData :=
  if p = true then .tuple (g.map fun w => .int (valW w : Nat))
  else if g.head? = some tShrink ∨ g.head? = some tTurn then .tuple (.str (S (g.headD [])) :: (g.drop 1).map fun w => .int (valW w : Nat))
  else .tuple (g.map fun w => .str (S w))
theorem th_strs {H : Hp} : ∀ {g : List (List Nat)} {xs : List V}, ThAll H xs (g.map fun w => .str (S w)) → xs = g.map fun w => V.str (S w)
  | [], _, .nil => rfl
  | w :: g, _, .cons (.str _) r => by rw [th_strs r]; rfl
theorem strs_th {H : Hp} : ∀ g : List (List Nat), ThAll H (g.map fun w => V.str (S w)) (g.map fun w => .str (S w))
  | [] => .nil
  | w :: g => .cons (.str _) (strs_th g)
theorem strs_thl {H : Hp} : ∀ g : List Str, ThAll H (g.map V.str) (g.map PyData.str)
  | [] => .nil
  | w :: g => .cons (.str _) (strs_thl g)
theorem strs_own {H : Hp} : ∀ g : List (List Nat), OwnA H (g.map fun w => V.str (S w)) (g.map fun w => .str (S w)) []
  | [] => .nil
  | w :: g => .cons (f := []) (g := []) (.str _) (strs_own g)
abbrev sLo6 : Stmt := topS 31
abbrev sRc : Stmt := topS 37
abbrev sSo : Stmt := topS 40
abbrev sRs : Stmt := topS 41
theorem scLo6 : FnScope ["text", "line"] ["text"] (defScope sLo6) := ⟨rfl, rfl, rfl, by decide +kernel, rfl, by decide +kernel, by decide +kernel⟩
theorem bdLo6 : defBody sLo6 = [stOf sLo6 0] := by rfl
theorem scRc : FnScope ["text", "one", "other"] ["text"] (defScope sRc) := ⟨rfl, rfl, rfl, by decide +kernel, rfl, by decide +kernel, by decide +kernel⟩
theorem bdRc : defBody sRc = [stOf sRc 0, stOf sRc 1] := by rfl
theorem scSo : FnScope ["words"] ["words"] (defScope sSo) := ⟨rfl, rfl, rfl, by decide +kernel, rfl, by decide +kernel, by decide +kernel⟩
theorem bdSo : defBody sSo = [stOf sSo 0, stOf sSo 1] := by rfl
theorem scRs : FnScope ["text", "words"] ["text"] (defScope sRs) := ⟨rfl, rfl, rfl, by decide +kernel, rfl, by decide +kernel, by decide +kernel⟩
theorem bdRs : defBody sRs = [stOf sRs 0, stOf sRs 1] := by rfl
def scRet (i : Nat) (b : List Stmt) : Scope := match b.getD i (.Pass ⟨0, 0, 0, 0⟩) with
  | .Return (some (.ListComp _ _ sc _)) _ => sc
  | _ => defScope sNl
def lo6Sc : Scope := scRet 0 (defBody sLo6)
def rcSc : Scope := scRet 1 (defBody sRc)
def rsSc : Scope := scRet 1 (defBody sRs)
section
variable {P : Program} {w : World} {K : Frag} {mg : Str → Option Value} {base : Heap}
def spLo6 : Sp := fun vs H Q _ => ∃ (p : Bool) (gs : List (List (List Nat))) (x : List Nat), vs = [.str (S x)] ∧ (∀ g ∈ gs, RowOk p g) ∧ x = (gs.map lineW).flatten ∧ x.length ≤ 100000 ∧ ∀ (H' : Hp) (v : V), L2.Same H H' → Th H' v (.list (gs.map wordsD)) → Q v H'
def splD : PyData → PyData
  | .str l => .list ((Txt.split l (S [32])).map .str)
  | _ => .none
theorem lines_le {gs : List (List (List Nat))} : gs.length ≤ ((gs.map lineW).flatten).length := by
  induction gs with
  | nil => exact Nat.le_refl _
  | cons g gs ih =>
    rw [List.map_cons, List.flatten_cons, List.length_append, List.length_cons]
    have : 1 ≤ (lineW g).length := by unfold lineW; rw [List.length_append]; simp
    omega
theorem line_le {gs : List (List (List Nat))} {g : List (List Nat)} (h : g ∈ gs) : (joinL [32] g).length ≤ ((gs.map lineW).flatten).length := by
  induction gs with
  | nil => cases h
  | cons g0 gs ih =>
    rw [List.map_cons, List.flatten_cons, List.length_append]
    rcases List.mem_cons.mp h with rfl | h
    · unfold lineW
      rw [List.length_append]
      omega
    · have := ih h
      omega
theorem ok_lo6 {f : Addr} {fd : FuncData} (F : FunD K "lines_of" "lines_of" (defArgs sLo6) (defBody sLo6) (defScope sLo6) [] [] f fd) : FnOk P w K mg base CX0 1 f fd ["text"] spLo6 := by
  refine F.ok scLo6 (fun vs H Q E h => ?_) (fun cdv A outer s H vs Q XE hr h => ?_)
  · obtain ⟨p, gs, x, rfl, _⟩ := h
    rfl
  · obtain ⟨p, gs, x, rfl, hg, hx, hl, k⟩ := h
    have h0 : PS (XCo P w K mg base ["text", "line"] "lines_of" sLo6 f cdv A outer s H XE) (stOf sLo6 0) _ := ps_ret (pe_lc (X := XCo P w K mg base ["text", "line"] "lines_of" sLo6 f cdv A outer s H XE) (scope := lo6Sc) (own := [("line", 1)]) (g := gName 1) (tt := tYes)
      (te := tBM K "str" (fun x xs H Q => ∃ a b, x = .str a ∧ xs = [.str b] ∧ (b.length == 0) = false ∧ a.length + 2 ≤ sizeLine ∧ rNewStrs (Txt.split a b) H Q) (tVar 1) (tCons (tC (.str " ")) tNil)) rfl scLo6.nd
      (pi_sq (pe_slice sl_list (pe_bm PySem.F.plainAttrs_str PySem.F.slot_str_split PySem.F.type_str_split mt_split (pv 0) (pa_cons pe_str pa_nil)) po_none (po_some (pe_un un_neg pe_int)))) (blkOk_by (N := ["text", "line"]) (sc := defScope sLo6) (by decide +kernel)) (fun _ _ _ _ _ => pg_name (i := 1) scLo6.nd rfl (Or.inl rfl)) (fun _ _ _ _ _ => pts_nil)
      (fun s0 H0 C0 cl0 fp0 => pe_bm (X := Cx.blk (XCo P w K mg base ["text", "line"] "lines_of" sLo6 f cdv A outer s H XE) s0 H0 lo6Sc (compEnvC lo6Sc cl0 C0 (Cx.env (XCo P w K mg base ["text", "line"] "lines_of" sLo6 f cdv A outer s H XE))) fp0) PySem.F.plainAttrs_str PySem.F.slot_str_split PySem.F.type_str_split mt_split (pv 1) (pa_cons pe_str pa_nil)))
    refine ⟨_, PSs.nox (PSs.of_eq bdLo6 (pss_one h0)), ?_⟩
    clear h0
    have en : ("\n" : Str) = S [10] := by decide +kernel
    have es : (" " : Str) = S [32] := by decide +kernel
    have en2 : (S [10]).length = 1 := by decide +kernel
    have lens : ∀ g ∈ gs, (joinL [32] g).length ≤ x.length := fun g m => by rw [hx]; exact line_le m
    have lgs : gs.length ≤ x.length := by rw [hx]; exact lines_le
    refine ret_intro (lc_thS (S := []) (d := .list (gs.map fun g => .str (S (joinL [32] g)))) (fun b m => nomatch m) splD (fun R h => ⟨.str (S x), rfl, rfl, S x, "\n", rfl, rfl, by decide +kernel, by rw [S_len, sizeLine_eq]; omega, fun a na => ?_⟩) rfl (by show (gs.map _).length ≤ _; rw [List.length_map]; omega) (fun _ => rfl) (fun D j z v G Q' hz s1 ins tz kz => ?_) (fun G D ys s1 nD hD hy => ?_))
    · refine ⟨1, rfl, -1, rfl, a, _, rfl, .inl (.inl upd_same), fun a2 na2 => h _ _ ((same_new na).trans (same_new na2)) ?_⟩
      have e1 : (Txt.split (S x) "\n").map V.str = (gs.map fun g => V.str (S (joinL [32] g))) ++ [V.str (S [])] := by
        rw [en, hx, split_lines hg, List.map_append, List.map_map]
        rfl
      refine .lst (hid_of (fun m => nomatch m) upd_same (fun ps z => nomatch z)) ?_
      rw [e1, cut_butlast]
      have := strs_thl (H := Hid [] (upd (upd H a (HO.lst (List.map (fun g => V.str (S (joinL [32] g))) gs ++ [V.str (S [])]))) a2 (.lst (gs.map fun g => V.str (S (joinL [32] g)))))) (gs.map fun g => S (joinL [32] g))
      rw [List.map_map, List.map_map] at this
      exact this
    · have hz' : z ∈ gs.map fun g => PyData.str (S (joinL [32] g)) := List.mem_of_getElem? hz
      obtain ⟨g, mg', rfl⟩ := List.mem_map.mp hz'
      cases tz with
      | str =>
        refine ⟨.str (S (joinL [32] g)), rfl, rfl, S (joinL [32] g), " ", rfl, rfl, by decide +kernel, by rw [S_len, sizeLine_eq]; have := lens g mg'; omega, fun a na => ?_⟩
        have nDa : a ≠ D := fun z => by
          obtain ⟨o, ho⟩ := ins D (List.mem_cons_self ..)
          rw [← z, na] at ho
          cases ho
        refine kz _ _ (same_new na) (.lst (hid_of (fun m => ?_) upd_same (fun ps z => nomatch z)) ?_)
        · rcases List.mem_cons.mp m with q | q
          · exact nDa q
          · cases q
        · rw [es]
          exact strs_thl _
    · have e1 : (its (PyData.list (gs.map fun g => .str (S (joinL [32] g))))).map splD = gs.map wordsD := by
        show (gs.map _).map splD = _
        rw [List.map_map]
        refine List.map_congr_left fun g m => ?_
        show PyData.list ((Txt.split (S (joinL [32] g)) (S [32])).map .str) = wordsD g
        rw [split_words (hg g m), List.map_map]
        rfl
      rw [e1] at hy
      exact k G _ s1 (.lst hD (hy.ext hid_up))
theorem in_st (x : List Nat) : inV (.str (S x)) [V.str "shrink", V.str "turn"] = (decide (x = tShrink) || decide (x = tTurn)) := by
  have ex : ("shrink" : Str) = S tShrink := (S_tl _).symm
  have ey : ("turn" : Str) = S tTurn := (S_tl _).symm
  unfold inV
  rw [ex, ey]
  show (eqV (V.str (S tShrink)) (V.str (S x)) || (eqV (V.str (S tTurn)) (V.str (S x)) || false)) = _
  rw [eqv_S, eqv_S, Bool.or_false]
theorem ix_str0 {H : Hp} {a : Addr} {xs : List V} {x : V} {i : Nat} {Q : VK} (h : H a = some (.lst xs)) (hi : xs[i]? = some x) (k : Q x H) : rIx K (.ref a) (.int (i : Nat)) H Q :=
  .inl ⟨a, _, _, _, rfl, rfl, .inl (.inl h), atI_nat hi, k⟩
def spSo : Sp := fun vs H Q _ => ∃ (a : Addr) (g : List (List Nat)), vs = [.ref a] ∧ RowOk false g ∧ H a = some (.lst (g.map fun w => V.str (S w))) ∧ ∀ (H' : Hp) (v : V), L2.Same H H' → (∀ T, Ins T H → Own (Hid T H') v (rowD false g) []) → Q v H'
theorem ok_so {f : Addr} {fd : FuncData} (F : FunD K "step_of" "step_of" (defArgs sSo) (defBody sSo) (defScope sSo) [] [] f fd) (mi : mg "int" = none) (mt : mg "tuple" = none) : FnOk P w K mg base CX0 1 f fd ["words"] spSo := by
  refine F.ok scSo (fun vs H Q E h => ?_) (fun cdv A outer s H vs Q XE hr h => ?_)
  · obtain ⟨a, g, rfl, _⟩ := h
    rfl
  · obtain ⟨a, g, rfl, hg, ha, k⟩ := h
    have h0 : PS (XCo P w K mg base ["words"] "step_of" sSo f cdv A outer s H XE) (stOf sSo 0) _ := ps_if (pt_cmpR op_in_seq (pe_ix ix_seq (pv 0) pe_int (fun _ _ => rfl)) (pe_tup (pa_cons pe_str (pa_cons pe_str pa_nil))) (by rfl)) (pss_one (ps_ret (pe_tup (pa_cons (pe_ix ix_seq (pv 0) pe_int (fun _ _ => rfl)) (pa_cons (pe_callTy call_int_str (by rfl) mi boot_in (pa_cons (pe_ix ix_seq (pv 0) pe_int (fun _ _ => rfl)) pa_nil)) pa_nil))))) pss_nil
    have h1 : PS (XCo P w K mg base ["words"] "step_of" sSo f cdv A outer s H XE) (stOf sSo 1) _ := ps_ret (pe_callTy call_tuple_of (by rfl) mt boot_tu (pa_cons (pv 0) pa_nil))
    refine ⟨_, PSs.nox (PSs.of_eq bdSo (pss_cons h0 (pss_one h1))), ?_⟩
    clear h0 h1
    obtain ⟨x, hx, e2⟩ : ∃ x, (g.map fun w => V.str (S w))[0]? = some (V.str (S x)) ∧ g.head? = some x := by
      cases hg <;> exact ⟨_, rfl, rfl⟩
    have new : ∀ {T : List Addr} {G : Hp} {b : Addr} {u : List V}, Ins T H → L2.Same H G → G b = none → Hid T (upd G b (.tup u)) b = some (.tup u) := fun hT s nb => hid_of (fun m => by
      obtain ⟨o, ho⟩ := hT _ m
      rw [s _ _ ho] at nb
      cases nb) upd_same (fun ps z => nomatch z)
    refine T3.if_intro ⟨.ref a, rfl, ix_str0 (i := 0) ha hx ⟨small4 2, fun q nq => ⟨q, _, rfl, .inr (.inl (.inl upd_same)), rfl, rfl, _, rfl, ?_⟩⟩⟩
    have sq := same_new (o := .tup [.str "shrink", .str "turn"]) nq
    rw [in_st]
    have ha2 := sq _ _ ha
    cases hc : (decide (x = tShrink) || decide (x = tTurn)) with
    | true =>
      have hx2 : x = tShrink ∨ x = tTurn := by
        rcases Bool.or_eq_true_iff.mp hc with c | c
        · exact .inl (of_decide_eq_true c)
        · exact .inr (of_decide_eq_true c)
      cases hg with
      | grow k n hk hn =>
        have e3 : tGrow = x := Option.some.inj e2
        exfalso
        rw [← e3] at hx2
        rcases hx2 with c | c
        · exact absurd c (by decide +kernel)
        · exact absurd c (by decide +kernel)
      | one x' h' =>
        have e3 : x' = x := Option.some.inj e2
        exfalso
        rw [← e3] at hx2
        rcases h' with rfl | rfl
        · rcases hx2 with c | c
          · exact absurd c (by decide +kernel)
          · exact absurd c (by decide +kernel)
        · rcases hx2 with c | c
          · exact absurd c (by decide +kernel)
          · exact absurd c (by decide +kernel)
      | num x' n h' hn =>
        have e3 : x' = x := Option.some.inj e2
        subst e3
        obtain ⟨a1, a2, a3, a4⟩ := numW_iff.mp hn
        refine iteT ⟨.ref a, rfl, ix_str0 (i := 0) ha2 rfl ⟨.ref a, rfl, ix_str0 (i := 1) ha2 rfl ⟨S n, _, rfl, SX.int_S (dg_all.mpr a3) a1 (by omega), by rw [S_len]; omega, small4 2, fun b nb => ?_⟩⟩⟩
        refine k _ _ (sq.trans (same_new nb)) fun T hT => ?_
        have e4 : rowD false [x', n] = .tuple [.str (S x'), .int (valW n : Nat)] := by
          unfold rowD
          rw [if_neg (by decide), if_pos (show ([x', n] : List (List Nat)).head? = some tShrink ∨ _ from h'.imp (fun c => by rw [c]; rfl) (fun c => by rw [c]; rfl))]
          rfl
        rw [e4]
        exact .tup (new hT sq nb) (.cons (f := []) (g := []) (.str _) (.cons (f := []) (g := []) (.int _) .nil))
    | false =>
      have hx2 : ¬ (g.head? = some tShrink ∨ g.head? = some tTurn) := fun z => by
        rw [e2] at z
        rcases z with c | c
        · rw [Option.some.inj c] at hc
          revert hc
          decide +kernel
        · rw [Option.some.inj c] at hc
          revert hc
          decide +kernel
      have e4 : rowD false g = .tuple (g.map fun w => .str (S w)) := by
        unfold rowD
        rw [if_neg (by decide), if_neg hx2]
      refine iteF ⟨.ref a, rfl, a, _, rfl, .inl ⟨.inl (.inl ha2), fun b nb => k _ _ (sq.trans (same_new nb)) fun T hT => ?_⟩⟩
      rw [e4]
      exact .tup (new hT sq nb) (strs_own g)
/-- what a right text has -/
def spRc (p : Bool) : Sp := fun vs H Q _ => ∃ (gs : List (List (List Nat))) (x : List Nat), vs = [.str (S x)] ∧ x.length ≤ 100000 ∧ faultR (rs0 p) x = none ∧ (∀ g ∈ gs, RowOk p g) ∧ x = (gs.map lineW).flatten ∧
  ∀ (H' : Hp) (D : Addr) (ys : List V), L2.Same H H' → H D = none → H' D = some (.lst ys) → OwnA H' ys (gs.map (rowD p)) [] → Q (.ref D) H'
/-- what is wrong -/
def spRcX (K : Frag) (r : RS) : Sp := fun vs H Q E => ∃ (v : V) (d : PyData) (i : Int), vs = [v] ∧ Th H v d ∧ (∀ s, d = .str s → s.length ≤ 100000) ∧ fauV r d = .int i ∧ SaysF (ga K "BadText") "index" (.int i) H E
theorem ok_rc {f : Addr} {fd : FuncData} (F : FunD K "read_course" "read_course" (defArgs sRc) (defBody sRc) (defScope sRc) [] [] f fd) (C : Has P w K mg base "check_fault" 1 ["fault"] spCf) (E : Has P w K mg base "course_fault" 7 ["text"] (spCof (.course none))) (L : Has P w K mg base "lines_of" 1 ["text"] spLo6) (mi : mg "int" = none) : FnOk P w K mg base CX0 8 f fd ["text"] (spRc true) := by
  refine F.ok scRc (fun vs H Q E h => ?_) (fun cdv A outer s H vs Q XE hr h => ?_)
  · obtain ⟨gs, x, rfl, _⟩ := h
    rfl
  · obtain ⟨gs, x, rfl, hl, hf, hg, hx, k⟩ := h
    have h0 : PS (XCo P w K mg base ["text", "one", "other"] "read_course" sRc f cdv A outer s H XE) (stOf sRc 0) _ := ps_expr (pe_has C (hr.mono (by decide)) (by rfl) (pa_cons (pe_has E (hr.mono (by decide)) (by rfl) (pa_cons (pv 0) pa_nil)) pa_nil))
    have h1 : PS (XCo P w K mg base ["text", "one", "other"] "read_course" sRc f cdv A outer s H XE) (stOf sRc 1) _ := ps_ret (pe_lc (X := XCo P w K mg base ["text", "one", "other"] "read_course" sRc f cdv A outer s H XE) (scope := rcSc) (own := [("one", 1), ("other", 2)]) (g := gLst K 2 (gCons (gName 1) (gCons (gName 2) gNil))) (tt := tYes)
      (te := tTup (tCons (tCB (fun xs H Q => ∃ a n, xs = [V.str a] ∧ PySem.intText? a = some n ∧ a.length ≤ 640 ∧ Q (V.int n) H) (tCons (tVar 1) tNil)) (tCons (tCB (fun xs H Q => ∃ a n, xs = [V.str a] ∧ PySem.intText? a = some n ∧ a.length ≤ 640 ∧ Q (V.int n) H) (tCons (tVar 2) tNil)) tNil))) rfl scRc.nd
      (pi_list (pe_has L (hr.mono (by decide)) (by rfl) (pa_cons (pv 0) pa_nil))) (blkOk_by (N := ["text", "one", "other"]) (sc := defScope sRc) (by decide +kernel)) (fun _ _ _ _ _ => pg_lst (n := 2) rfl (pgs_cons (pg_name (i := 1) scRc.nd rfl (Or.inl rfl)) (pgs_cons (pg_name (i := 2) scRc.nd rfl (Or.inl rfl)) pgs_nil))) (fun _ _ _ _ _ => pts_nil)
      (fun s0 H0 C0 cl0 fp0 => pe_tup (X := Cx.blk (XCo P w K mg base ["text", "one", "other"] "read_course" sRc f cdv A outer s H XE) s0 H0 rcSc (compEnvC rcSc cl0 C0 (Cx.env (XCo P w K mg base ["text", "one", "other"] "read_course" sRc f cdv A outer s H XE))) fp0) (pa_cons (pe_callTy call_int_str (by rfl) mi boot_in (pa_cons (pv 1) pa_nil)) (pa_cons (pe_callTy call_int_str (by rfl) mi boot_in (pa_cons (pv 2) pa_nil)) pa_nil))))
    refine ⟨_, PSs.nox (PSs.of_eq bdRc (pss_cons h0 (pss_one h1))), ?_⟩
    clear h0 h1
    have lgs : gs.length ≤ x.length := by rw [hx]; exact lines_le
    refine ⟨.str (S x), rfl, .str (S x), .str (S x), rfl, .str _, fun s e => by cases e; rw [S_len]; exact hl, fun H1 s1 => ?_⟩
    have e0 : fauV (.course none) (.str (S x)) = .non := by
      show oV (faultR (rs0 true) x) = .non
      rw [hf]
      rfl
    rw [e0]
    refine ⟨rfl, ?_⟩
    refine nx_intro ?_
    refine ret_intro (lc_own (S := []) (ds := gs.map wordsD) (fun b m => nomatch m) (fun z => match z with | .list [.str a, .str b] => rowD true [tl a, tl b] | _ => .none) (fun R h => ⟨.str (S x), rfl, true, gs, x, rfl, hg, hx, hl, fun H' v s' t' => h _ _ s' (Th.hid0 t')⟩) (by rw [List.length_map]; omega) (fun D z v G Q' W hW hz s2 ins tz kz => ?_) (fun G D ys s2 nD hD hy => ?_))
    · obtain ⟨g, mg', rfl⟩ := List.mem_map.mp hz
      have ro := hg g mg'
      cases ro with
      | pair a b na nb =>
        cases tz with
        | @lst c xs _ hc r =>
          have e1 := th_strs (g := [a, b]) r
          subst e1
          obtain ⟨a1, a2, a3, a4⟩ := numW_iff.mp na
          obtain ⟨b1, b2, b3, b4⟩ := numW_iff.mp nb
          refine ⟨c, _, rfl, .inl (.inl (hid_up _ _ hc)), rfl, _, _, rfl, _, _, rfl, rfl, hW _ _ rfl ?_⟩
          refine ⟨.str (S a), rfl, S a, _, rfl, SX.int_S (dg_all.mpr a3) a1 (by omega), by rw [S_len]; omega, .str (S b), rfl, S b, _, rfl, SX.int_S (dg_all.mpr b3) b1 (by omega), by rw [S_len]; omega, small4 2, fun t nt => ?_⟩
          refine kz _ _ (same_new nt) (.tup (hid_of (fun m => ?_) upd_same (fun ps z => nomatch z)) (.cons (f := []) (g := []) (.int _) (.cons (f := []) (g := []) (.int _) .nil)))
          obtain ⟨o, ho⟩ := ins _ m
          rw [ho] at nt
          cases nt
    · have e1 : (gs.map wordsD).map (fun z => match z with | .list [.str a, .str b] => rowD true [tl a, tl b] | _ => .none) = gs.map (rowD true) := by
        rw [List.map_map]
        refine List.map_congr_left fun g m => ?_
        have ro := hg g m
        cases ro with
        | pair a b na nb => rfl
      rw [e1] at hy
      exact k G D ys (s1.trans s2) (s1.free nD) hD (hy.ext hid_up)
theorem ok_rs {f : Addr} {fd : FuncData} (F : FunD K "read_steps" "read_steps" (defArgs sRs) (defBody sRs) (defScope sRs) [] [] f fd) (C : Has P w K mg base "check_fault" 1 ["fault"] spCf) (E : Has P w K mg base "steps_fault" 7 ["text"] (spCof (.steps .step))) (L : Has P w K mg base "lines_of" 1 ["text"] spLo6) (SO : Has P w K mg base "step_of" 1 ["words"] spSo) : FnOk P w K mg base CX0 8 f fd ["text"] (spRc false) := by
  refine F.ok scRs (fun vs H Q E h => ?_) (fun cdv A outer s H vs Q XE hr h => ?_)
  · obtain ⟨gs, x, rfl, _⟩ := h
    rfl
  · obtain ⟨gs, x, rfl, hl, hf, hg, hx, k⟩ := h
    have hr1 := hr
    have h0 : PS (XCo P w K mg base ["text", "words"] "read_steps" sRs f cdv A outer s H XE) (stOf sRs 0) _ := ps_expr (pe_has C (hr.mono (by decide)) (by rfl) (pa_cons (pe_has E (hr.mono (by decide)) (by rfl) (pa_cons (pv 0) pa_nil)) pa_nil))
    have h1 : PS (XCo P w K mg base ["text", "words"] "read_steps" sRs f cdv A outer s H XE) (stOf sRs 1) _ := ps_ret (pe_lc (X := XCo P w K mg base ["text", "words"] "read_steps" sRs f cdv A outer s H XE) (scope := rsSc) (own := [("words", 1)]) (g := gName 1) (tt := tYes)
      (te := tCall spSo [] noE (tCons (tVar 1) tNil)) rfl scRs.nd
      (pi_list (pe_has L (hr.mono (by decide)) (by rfl) (pa_cons (pv 0) pa_nil))) (blkOk_by (N := ["text", "words"]) (sc := defScope sRs) (by decide +kernel)) (fun _ _ _ _ _ => pg_name (i := 1) scRs.nd rfl (Or.inl rfl)) (fun _ _ _ _ _ => pts_nil)
      (fun s0 H0 C0 cl0 fp0 => pe_has (X := Cx.blk (XCo P w K mg base ["text", "words"] "read_steps" sRs f cdv A outer s H XE) s0 H0 rsSc (compEnvC rsSc cl0 C0 (Cx.env (XCo P w K mg base ["text", "words"] "read_steps" sRs f cdv A outer s H XE))) fp0) SO (hr.mono (by decide)) (by rfl) (pa_cons (pv 1) pa_nil)))
    refine ⟨_, PSs.nox (PSs.of_eq bdRs (pss_cons h0 (pss_one h1))), ?_⟩
    clear h0 h1
    have lgs : gs.length ≤ x.length := by rw [hx]; exact lines_le
    refine ⟨.str (S x), rfl, .str (S x), .str (S x), rfl, .str _, fun s e => by cases e; rw [S_len]; exact hl, fun H1 s1 => ?_⟩
    have e0 : fauV (.steps .step) (.str (S x)) = .non := by
      show oV (faultR (rs0 false) x) = .non
      rw [hf]
      rfl
    rw [e0]
    refine ⟨rfl, ?_⟩
    refine nx_intro ?_
    refine ret_intro (lc_own (S := []) (ds := gs.map wordsD) (fun b m => nomatch m) (fun z => rowD false ((its z).map fun y => match y with | .str a => tl a | _ => [])) (fun R h => ⟨.str (S x), rfl, false, gs, x, rfl, hg, hx, hl, fun H' v s' t' => h _ _ s' (Th.hid0 t')⟩) (by rw [List.length_map]; omega) (fun D z v G Q' W hW hz s2 ins tz kz => ?_) (fun G D ys s2 nD hD hy => ?_))
    · obtain ⟨g, mg', rfl⟩ := List.mem_map.mp hz
      have ro := hg g mg'
      have eb : ((its (wordsD g)).map fun y => match y with | .str a => tl a | _ => []) = g := by
        show ((g.map fun w => PyData.str (S w)).map _) = g
        rw [List.map_map]
        conv => rhs; rw [← List.map_id g]
        rfl
      rw [eb] at kz
      cases tz with
      | @lst c xs _ hc r =>
        have e1 := th_strs (g := g) r
        subst e1
        refine hW _ _ rfl ⟨.ref c, rfl, c, g, rfl, ro, hid_up _ _ hc, fun G' y s3 o => kz G' y s3 (o _ ins)⟩
    · have e1 : (gs.map wordsD).map (fun z => rowD false ((its z).map fun y => match y with | .str a => tl a | _ => [])) = gs.map (rowD false) := by
        rw [List.map_map]
        refine List.map_congr_left fun g m => ?_
        show rowD false ((its (wordsD g)).map _) = _
        have eb : ((its (wordsD g)).map fun y => match y with | .str a => tl a | _ => []) = g := by
          show ((g.map fun w => PyData.str (S w)).map _) = g
          rw [List.map_map]
          conv => rhs; rw [← List.map_id g]
          rfl
        rw [eb]
      rw [e1] at hy
      exact k G D ys (s1.trans s2) (s1.free nD) hD (hy.ext hid_up)
theorem okx_rc {f : Addr} {fd : FuncData} (F : FunD K "read_course" "read_course" (defArgs sRc) (defBody sRc) (defScope sRc) [] [] f fd) (C : HasX P w K mg base "check_fault" 2 ["fault"] (spCfX K)) (E : Has P w K mg base "course_fault" 7 ["text"] (spCof (.course none))) : FnOk P w K mg base (L2.CX P w) 8 f fd ["text"] (spRcX K (.course none)) := by
  refine F.ok scRc (fun vs H Q E h => ?_) (fun cdv A outer s H vs Q XE hr h => ?_)
  · obtain ⟨v, d, i, rfl, _⟩ := h
    rfl
  · obtain ⟨v, d, i, rfl, hv, hl, e, k⟩ := h
    refine ⟨_, PSs.of_eq bdRc (pss_cons (ps_expr (pe_hasX C (hr.mono (by decide)) (by rfl) noX (pa_cons (pe_has E (hr.mono (by decide)) (by rfl) (pa_cons (pv 0) pa_nil)) pa_nil))) pss_never), ?_⟩
    refine ⟨v, rfl, v, d, rfl, hv, hl, fun H1 s1 => ?_⟩
    rw [e]
    exact ⟨i, rfl, fun H' dx s q => k H' dx (s1.trans s) q⟩
theorem okx_rs {f : Addr} {fd : FuncData} (F : FunD K "read_steps" "read_steps" (defArgs sRs) (defBody sRs) (defScope sRs) [] [] f fd) (C : HasX P w K mg base "check_fault" 2 ["fault"] (spCfX K)) (E : Has P w K mg base "steps_fault" 7 ["text"] (spCof (.steps .step))) : FnOk P w K mg base (L2.CX P w) 8 f fd ["text"] (spRcX K (.steps .step)) := by
  refine F.ok scRs (fun vs H Q E h => ?_) (fun cdv A outer s H vs Q XE hr h => ?_)
  · obtain ⟨v, d, i, rfl, _⟩ := h
    rfl
  · obtain ⟨v, d, i, rfl, hv, hl, e, k⟩ := h
    refine ⟨_, PSs.of_eq bdRs (pss_cons (ps_expr (pe_hasX C (hr.mono (by decide)) (by rfl) noX (pa_cons (pe_has E (hr.mono (by decide)) (by rfl) (pa_cons (pv 0) pa_nil)) pa_nil))) pss_never), ?_⟩
    refine ⟨v, rfl, v, d, rfl, hv, hl, fun H1 s1 => ?_⟩
    rw [e]
    exact ⟨i, rfl, fun H' dx s q => k H' dx (s1.trans s) q⟩
end
end K14.T69
namespace K14.Gn
open PySem PySem.W PySem.Calls PyProof.Rows L2 LamX
open Kz (same_new small4)
open T27 T3
/-! ### texts among anything -/
def rInP (K : Frag) : R2 := fun x y H Q => ∃ (p : Addr) (ss : List Str), y = .ref p ∧ SqT K H p (ss.map V.str) ∧ plnV H x ∧ Q (.bl (inV x (ss.map V.str))) H
theorem flat_strs : ∀ ss : List Str, (ss.map V.str).all flatV = true
  | [] => rfl
  | s :: ss => flat_strs ss
theorem inV_ref (a : Addr) : ∀ ss : List Str, inV (.ref a) (ss.map V.str) = false
  | [] => rfl
  | s :: ss => inV_ref a ss
theorem op_inP {X : Cx} (hu : X.A.units + 64 < cLine) : OpR X (compareOp .In) (rInP X.K) := by
  intro pins s σ H x y v u Q I rx ry h
  obtain ⟨p, ss, rfl, hq, hp, q⟩ := h
  have fl : flatV x = true → wpAny (model X.prog X.w) X.A (compareOp .In v u) (EP X pins σ Q) X.xe s := fun f =>
    op_in_seq pins s σ H x (.ref p) v u Q I rx ry ⟨p, _, rfl, .inr hq, f, flat_strs ss, q⟩
  have hu1 : X.A.in1.units < cLine := by
    show X.A.units + 1 < cLine
    omega
  have rf : ∀ a, x = .ref a → (∀ (its : List Value) (z : Value), z ∈ its → ∀ k t, z = .str k t → SeqAt.EqAt X.A.in1 s z v false) → wpAny (model X.prog X.w) X.A (compareOp .In v u) (EP X pins σ Q) X.xe s := fun a ea hh => by
    subst ea
    cases ry
    obtain ⟨its, r, pl, hz⟩ := I.tuple hq
    refine SeqAt.in_tupleAt (fun _ => false) pl (fun w hw => ?_) ⟨.bl _, H, I, rfl, ?_⟩
    · obtain ⟨y, hy, ry⟩ := vals_mem r w (by simpa using hw)
      obtain ⟨k, _, rfl⟩ := List.mem_map.mp hy
      obtain ⟨t, rfl⟩ := ry
      exact hh its _ (by simpa using hw) k t rfl
    · rw [inV_ref] at q
      have e : (its.toArray.any fun _ => false) = false := by simp
      rw [e]
      exact q
  rcases hp with rfl | ⟨b, rfl⟩ | ⟨i, rfl⟩ | ⟨w, rfl⟩ | ⟨a, ys, rfl, ha | ha⟩
  · exact fl rfl
  · exact fl rfl
  · exact fl rfl
  · exact fl rfl
  · cases rx
    obtain ⟨_, its2, n2, _, _, e2⟩ := I.lstM ha
    exact rf a rfl fun its z _ k t e => by subst e; exact SeqAt.EqAt.str_list _ _ ⟨_, e2, rfl, n2, rfl⟩ hu1
  · cases rx
    obtain ⟨its2, _, ⟨o2, h2, c2, n2, d2⟩, _⟩ := I.tuple (.inl (.inl ha))
    exact rf a rfl fun its z _ k t e => by subst e; exact SeqAt.EqAt.str_tuple _ _ ⟨o2, h2, c2, n2, d2⟩ hu1
def rEqP : R2 := fun x y H Q => ∃ k, y = .str k ∧ plnV H x ∧ Q (.bl (decide (x = V.str k))) H
theorem op_eqP {X : Cx} (hu : X.A.units + 64 < cLine) : OpR X (compareOp .Eq) rEqP := by
  intro pins s σ H x y v u Q I rx ry h
  obtain ⟨k, rfl, hp, q⟩ := h
  have hu1 : X.A.units < cLine := by omega
  rcases hp with rfl | ⟨b, rfl⟩ | ⟨i, rfl⟩ | ⟨w, rfl⟩ | ⟨a, ys, rfl, ha | ha⟩
  · exact op_eq pins s σ H _ _ v u Q I rx ry ⟨rfl, q⟩
  · exact op_eq pins s σ H _ _ v u Q I rx ry ⟨rfl, q⟩
  · exact op_eq pins s σ H _ _ v u Q I rx ry ⟨rfl, q⟩
  · exact op_eq pins s σ H _ _ v u Q I rx ry ⟨rfl, q⟩
  · cases rx
    obtain ⟨t, rfl⟩ := ry
    obtain ⟨_, its2, n2, _, _, e2⟩ := I.lstM ha
    rw [decide_eq_false (by intro z; cases z)] at q
    exact SeqAt.RcAt.list_str k t ⟨_, e2, rfl, n2, rfl⟩ hu1 _ _ _ _ ⟨.bl false, H, I, rfl, q⟩
  · cases rx
    obtain ⟨t, rfl⟩ := ry
    obtain ⟨its2, _, ⟨o2, h2, c2, n2, d2⟩, _⟩ := I.tuple (.inl (.inl ha))
    rw [decide_eq_false (by intro z; cases z)] at q
    exact SeqAt.RcAt.tuple_str k t ⟨o2, h2, c2, n2, d2⟩ hu1 _ _ _ _ ⟨.bl false, H, I, rfl, q⟩
theorem th_pln {H : Hp} {v : V} {d : PyData} (h : Th H v d) (n : isD d = false) : plnV H v := by
  cases h with
  | non => exact .inl rfl
  | bl b => exact .inr (.inl ⟨b, rfl⟩)
  | int i => exact .inr (.inr (.inl ⟨i, rfl⟩))
  | str x => exact .inr (.inr (.inr (.inl ⟨x, rfl⟩)))
  | lst h r => exact .inr (.inr (.inr (.inr ⟨_, _, rfl, .inl h⟩)))
  | tup h r => exact .inr (.inr (.inr (.inr ⟨_, _, rfl, .inr h⟩)))
  | dct h r => exact absurd (show true = false from n) (by decide)
def txtIn (ss : List Str) : PyData → Bool
  | .str s => inV (.str s) (ss.map V.str)
  | _ => false
theorem inV_th {H : Hp} {v : V} {d : PyData} (h : Th H v d) (n : isD d = false) (ss : List Str) : inV v (ss.map V.str) = txtIn ss d := by
  have e : ∀ v : V, (∀ s : Str, eqV (.str s) v = false) → inV v (ss.map V.str) = false := fun v hv => by
    unfold inV
    induction ss with
    | nil => rfl
    | cons s ss ih =>
      rw [List.map_cons, List.any_cons, hv s, ih]
      rfl
  cases h with
  | str x => rfl
  | dct h r => exact absurd (show true = false from n) (by decide)
  | _ => exact e _ fun s => rfl
/-- a comprehension over data, each element something flat -/
theorem lc_dat {K : Frag} {g : TG} {v : V} {d : PyData} {σ : L2.St} {H : Hp} {tl te : TE} {vs : List Nat} {Q : VK} (f : PyData → V) (ht : ∀ R : VK, R v H → tl σ H R) (t : Th H v d) (l : isL d = true) (len : (its d).length ≤ 100000)
    (hs : ∀ (z : PyData) (x : V) (G : Hp) (Q' : VK) (W : L2.St → Hp → Prop), (∀ σ2 H2, wipe σ2 vs = wipe σ vs → te σ2 H2 Q' → W σ2 H2) → z ∈ its d → L2.Same H G → Th G x z → (∀ G' : Hp, L2.Same G G' → Q' (f z) G') → g x (wipe σ vs) G W)
    (hq : ∀ (G : Hp) (D : Addr), L2.Same H G → H D = none → G D = some (.lst ((its d).map f)) → Q (.ref D) G) : tLc (iSq K tl) g tYes te vs σ H Q := by
  obtain ⟨a, xs, rfl, r, hx⟩ := t.seq (K := K) l
  have hA : ∀ (i : Nat) (x : V) (G1 G2 : Hp) (ys : List V) (Qy : V → Hp → Prop) (Qn : Hp → Prop), L2.Same H G1 → ys = ((its d).take i).map f → YAt xs i G1 x G2 → (∀ (y : V) (H4 : Hp), L2.Same G1 H4 → ys ++ [y] = ((its d).take (i + 1)).map f → Qy y H4) →
      g x (wipe σ vs) G2 fun σ2 H2 => wipe σ2 vs = wipe σ vs ∧ tYes σ2 H2 fun b H3 => if b = true then te σ2 H3 Qy else Qn H3 := by
    intro i x G1 G2 ys Qy Qn s1 e y ky
    obtain ⟨rfl, hc⟩ := y
    obtain ⟨z, hz, tz⟩ := r.get hc
    refine hs z x G2 Qy _ (fun σ2 H2 e1 e2 => ⟨e1, by unfold tYes; show (if true = true then _ else _); rw [if_pos rfl]; exact e2⟩) (List.mem_of_getElem? hz) s1 (tz.ext s1) fun G' s' => ky _ _ s' ?_
    rw [List.take_add_one, hz, List.map_append, e]
    rfl
  have fin : ∀ (G : Hp) (D : Addr) (ys : List V), L2.Same H G → H D = none → G D = some (.lst ys) → ys = ((its d).take xs.length).map f → Q (.ref D) G := fun G D ys s n h e => by
    rw [r.length, List.take_length] at e
    rw [e] at h
    exact hq G D s n h
  rcases hx with hx | hx
  · exact .inl (ht _ ⟨a, rfl, ⟨xs, .inl (.inl hx)⟩, fun D hD => lc_acc (S := []) walk_list (fun b h => nomatch h) hD (by rw [r.length]; exact len) (fun H' e => .inl (.inl (e _ _ hx))) (fun i ys _ => ys = ((its d).take i).map f) (fun i ys G G' e _ => e) rfl (fun i v G1 G2 ys Qy Qn hi s1 insG a y ky kn => hA i v G1 G2 ys Qy Qn s1 a y ky) (fun G ys s1 hA a => fin G D ys s1 hD hA a)⟩)
  · exact .inr (ht _ ⟨a, rfl, ⟨xs, .inl (.inl hx)⟩, fun D hD => lc_acc (S := []) walk_tup (fun b h => nomatch h) hD (by rw [r.length]; exact len) (fun H' e => .inl (.inl (e _ _ hx))) (fun i ys _ => ys = ((its d).take i).map f) (fun i ys G G' e _ => e) rfl (fun i v G1 G2 ys Qy Qn hi s1 insG a y ky kn => hA i v G1 G2 ys Qy Qn s1 a y ky) (fun G ys s1 hA a => fin G D ys s1 hD hA a)⟩)
theorem ix_any2 {K : Frag} {H : Hp} {a : Addr} {xs : List V} {x : V} {i : Nat} {Q : VK} (h : H a = some (.lst xs) ∨ H a = some (.tup xs)) (hi : xs[i]? = some x) (k : Q x H) : rIx K (.ref a) (.int (i : Nat)) H Q :=
  h.elim (fun h => .inl ⟨a, _, _, _, rfl, rfl, .inl (.inl h), atI_nat hi, k⟩) fun h => .inr (.inl ⟨a, _, _, _, rfl, rfl, .inl (.inl h), atI_nat hi, k⟩)
end K14.Gn
namespace K14.T69
open T27 T3
open K14.Gn
open PySem PySem.W PySem.Calls PyProof.Rows L2 LamX
open He (ga)
open SX (S)
open TL (tl pre joinL)
open Kz (SS ExtS ExtS.trans small4 same_new boot_in boot_li boot_isi Has pe_has noE PSs.of_eq new_ext X1)
/-! ### is_index, is_course_form, is_step_form -/
def leB : PyData → Bool
  | .int i => decide (i ≤ 999999999)
  | _ => false
def idxB (d : PyData) : Bool := isN d && leB d
def ltB : PyData → PyData → Bool
  | .int i, .int j => decide (i < j)
  | _, _ => false
def prB (z : PyData) : Bool := match its z with
  | [a, b] => idxB a && (idxB b && ltB a b)
  | _ => false
def coB (d : PyData) : Bool := isL d && ((its d).all isP && (its d).all prB)
def stM : List PyData → Bool
  | [a] => txtIn ["loop", "unloop"] a
  | [a, b] => txtIn ["shrink", "turn"] a && idxB b
  | [a, b, c] => txtIn ["grow"] a && (txtIn ["x", "y"] b && nameB c)
  | _ => false
theorem stM_no : ∀ ds : List PyData, ds.length ≠ 1 → ds.length ≠ 2 → ds.length ≠ 3 → stM ds = false
  | [], _, _, _ => rfl
  | [_], h, _, _ => absurd rfl h
  | [_, _], _, h, _ => absurd rfl h
  | [_, _, _], _, _, h => absurd rfl h
  | _ :: _ :: _ :: _ :: _, _, _, _ => rfl
def stB (d : PyData) : Bool := isL d && stM (its d)
abbrev sIi : Stmt := topS 33
abbrev sCfm : Stmt := topS 34
abbrev sSfm : Stmt := topS 35
theorem scIi : FnScope ["thing"] ["thing"] (defScope sIi) := ⟨rfl, rfl, rfl, by decide +kernel, rfl, by decide +kernel, by decide +kernel⟩
theorem bdIi : defBody sIi = [stOf sIi 0] := by rfl
theorem scCfm : FnScope ["thing", "pair", "one", "other"] ["thing"] (defScope sCfm) := ⟨rfl, rfl, rfl, by decide +kernel, rfl, by decide +kernel, by decide +kernel⟩
theorem bdCfm : defBody sCfm = [stOf sCfm 0, stOf sCfm 1] := by rfl
theorem scSfm : FnScope ["thing"] ["thing"] (defScope sSfm) := ⟨rfl, rfl, rfl, by decide +kernel, rfl, by decide +kernel, by decide +kernel⟩
theorem bdSfm : defBody sSfm = [stOf sSfm 0, stOf sSfm 1, stOf sSfm 2, stOf sSfm 3] := by rfl
def scRetA : Stmt → Scope
  | .Return (some (.Call _ [.ListComp _ _ sc _] _ _)) _ => sc
  | _ => defScope sNl
def cfSc1 : Scope := scIfA (stOf sCfm 0)
def cfSc2 : Scope := scRetA (stOf sCfm 1)
section
variable {P : Program} {w : World} {K : Frag} {mg : Str → Option Value} {base : Heap}
theorem ok_ii {f : Addr} {fd : FuncData} (F : FunD K "is_index" "is_index" (defArgs sIi) (defBody sIi) (defScope sIi) [] [] f fd) (N : Has P w K mg base "is_number" 1 ["thing"] (spLook isN)) (L : GlK P w K mg) : FnOk P w K mg base CX0 2 f fd ["thing"] (spLook idxB) := by
  obtain ⟨t2, g2⟩ := L.gr
  refine F.ok scIi (fun vs H Q E h => ?_) (fun cdv A outer s H vs Q XE hr h => ?_)
  · obtain ⟨v, d, rfl, _⟩ := h
    rfl
  · obtain ⟨v, d, rfl, hv, k⟩ := h
    have h0 : PS (XCo P w K mg base ["thing"] "is_index" sIi f cdv A outer s H XE) (stOf sIi 0) _ := ps_ret (pe_and (pe_has N (hr.mono (by decide)) (by rfl) (pa_cons (pv 0) pa_nil)) (pe_one (pe_cmpR op_le (pv 0) (pe_glob (v := .int 999999999) (by rfl) g2 ⟨_, rfl⟩ (by decide)) (nomark _))))
    refine ⟨_, PSs.nox (PSs.of_eq bdIi (pss_one h0)), ?_⟩
    clear h0
    refine ⟨v, rfl, v, d, rfl, hv, fun H1 s1 => ⟨isN d, rfl, ?_⟩⟩
    have kk := k H1 s1
    unfold idxB at kk
    cases l : isN d with
    | false =>
      rw [l] at kk
      exact iteF kk
    | true =>
      rw [l, Bool.true_and] at kk
      cases hv with
      | int i => exact iteT ⟨.int i, rfl, i, 999999999, rfl, rfl, kk⟩
      | _ => exact absurd (show false = true from l) Bool.false_ne_true
theorem ok_cfm {f : Addr} {fd : FuncData} (F : FunD K "is_course_form" "is_course_form" (defArgs sCfm) (defBody sCfm) (defScope sCfm) [] [] f fd) (L : Has P w K mg base "is_list" 1 ["thing"] (spLook isL)) (IP : Has P w K mg base "is_pair" 2 ["thing"] (spLook isP)) (II : Has P w K mg base "is_index" 2 ["thing"] (spLook idxB)) (ma : mg "all" = none) : FnOk P w K mg base CX0 3 f fd ["thing"] (spLookB coB) := by
  refine F.ok scCfm (fun vs H Q E h => ?_) (fun cdv A outer s H vs Q XE hr h => ?_)
  · obtain ⟨v, d, rfl, _⟩ := h
    rfl
  · obtain ⟨v, d, rfl, hv, b1, b2, k⟩ := h
    have h0 : PS (XCo P w K mg base ["thing", "pair", "one", "other"] "is_course_form" sCfm f cdv A outer s H XE) (stOf sCfm 0) _ := ps_if ((pw_or (pt_not (pt_val (pe_has L (hr.mono (by decide)) (by rfl) (pa_cons (pv 0) pa_nil))))) (pw_or1 (pt_not (pt_val (pe_callB (cr_all rfl) (by rfl) ma boot_all (pa_cons (pe_lc (X := XCo P w K mg base ["thing", "pair", "one", "other"] "is_course_form" sCfm f cdv A outer s H XE) (scope := cfSc1) (own := [("pair", 1)]) (g := gName 1) (tt := tYes)
      (te := tCall (spLook isP) [] noE (tCons (tVar 1) tNil)) rfl scCfm.nd (pi_sq (pv 0)) (blkOk_by (N := ["thing", "pair", "one", "other"]) (sc := defScope sCfm) (by decide +kernel)) (fun _ _ _ _ _ => pg_name (i := 1) scCfm.nd rfl (Or.inl rfl)) (fun _ _ _ _ _ => pts_nil)
      (fun s0 H0 C0 cl0 fp0 => pe_has (X := Cx.blk (XCo P w K mg base ["thing", "pair", "one", "other"] "is_course_form" sCfm f cdv A outer s H XE) s0 H0 cfSc1 (compEnvC cfSc1 cl0 C0 (Cx.env (XCo P w K mg base ["thing", "pair", "one", "other"] "is_course_form" sCfm f cdv A outer s H XE))) fp0) IP (hr.mono (by decide)) (by rfl) (pa_cons (pv 1) pa_nil))) pa_nil)))))).pt (pss_one (ps_ret pe_bl)) pss_nil
    have h1 : PS (XCo P w K mg base ["thing", "pair", "one", "other"] "is_course_form" sCfm f cdv A outer s H XE) (stOf sCfm 1) _ := ps_ret (pe_callB (cr_all rfl) (by rfl) ma boot_all (pa_cons (pe_lc (X := XCo P w K mg base ["thing", "pair", "one", "other"] "is_course_form" sCfm f cdv A outer s H XE) (scope := cfSc2) (own := [("one", 2), ("other", 3)]) (g := fun v σ H Q => gTup K 2 (gCons (gName 2) (gCons (gName 3) gNil)) v σ H Q ∨ gLst K 2 (gCons (gName 2) (gCons (gName 3) gNil)) v σ H Q) (tt := tYes)
      (te := tAndV (tCall (spLook idxB) [] noE (tCons (tVar 2) tNil)) (tAndV (tCall (spLook idxB) [] noE (tCons (tVar 3) tNil)) (tOp (fun x y H Q => ∃ i j, x = .int i ∧ y = .int j ∧ Q (.bl (decide (i < j))) H) (tVar 2) (tVar 3)))) rfl scCfm.nd (pi_sq (pv 0)) (blkOk_by (N := ["thing", "pair", "one", "other"]) (sc := defScope sCfm) (by decide +kernel))
      (fun _ _ _ _ _ => pg_or (pg_tup (n := 2) rfl (pgs_cons (pg_name (i := 2) scCfm.nd rfl (Or.inl rfl)) (pgs_cons (pg_name (i := 3) scCfm.nd rfl (Or.inl rfl)) pgs_nil))) (pg_lst (n := 2) rfl (pgs_cons (pg_name (i := 2) scCfm.nd rfl (Or.inl rfl)) (pgs_cons (pg_name (i := 3) scCfm.nd rfl (Or.inl rfl)) pgs_nil)))) (fun _ _ _ _ _ => pts_nil)
      (fun s0 H0 C0 cl0 fp0 => by exact pe_and (pe_has II (hr.mono (by decide)) (by rfl) (pa_cons (pv 2) pa_nil)) (pe_and (pe_has II (hr.mono (by decide)) (by rfl) (pa_cons (pv 3) pa_nil)) (pe_one (pe_cmpR op_lt (pv 2) (pv 3) (nomark _)))))) pa_nil))
    refine ⟨_, PSs.nox (PSs.of_eq bdCfm (pss_cons h0 (pss_one h1))), ?_⟩
    clear h0 h1
    refine T3.if_intro ⟨v, rfl, v, d, rfl, hv, fun H1 s1 => ⟨isL d, rfl, ?_⟩⟩
    have kk := k H1 s1
    unfold coB at kk k
    cases l : isL d with
    | false =>
      rw [l] at kk
      exact iteT (iteT kk)
    | true =>
      rw [l, Bool.true_and] at k
      refine iteF ?_
      refine lc_all (K := K) isP (fun R h => ⟨v, rfl, h⟩) (hv.ext s1) l b1 (fun _ => rfl) (fun j z x G Q' hz s tz kz => ⟨x, rfl, x, z, rfl, tz, fun G' s' => kz G' s'⟩) fun G1 s2 => ⟨_, rfl, ?_⟩
      cases l2 : (its d).all isP with
      | false =>
        have kk := k G1 (s1.trans s2)
        rw [l2] at kk
        exact iteT kk
      | true =>
        rw [l2, Bool.true_and] at k
        refine iteF ?_
        refine nx_intro ?_
        refine ret_intro ?_
        unfold tCB tCons tNil
        refine lc_dat (K := K) (fun z => .bl (prB z)) (fun R h => ⟨v, rfl, h⟩) (hv.ext (s1.trans s2)) l b1 (fun z x G Q' W hW hz s tz kz => ?_) fun G D s3 nD hD => ⟨D, (its d).map prB, rfl, .inl (.inl (by rw [List.map_map]; exact hD)), by rw [List.all_map]; exact k G ((s1.trans s2).trans s3)⟩
        have hP : isP z = true := List.all_eq_true.mp l2 z hz
        unfold isP at hP
        obtain ⟨hL, h2⟩ := Bool.and_eq_true_iff.mp hP
        have h2 := of_decide_eq_true h2
        obtain ⟨c, xs, rfl, r, hx⟩ := tz.seq (K := K) hL
        obtain ⟨a, b, eab⟩ : ∃ a b, its z = [a, b] := by
          match its z, h2 with
          | [a, b], _ => exact ⟨a, b, rfl⟩
        rw [eab] at r
        have ez : prB z = (idxB a && (idxB b && ltB a b)) := by unfold prB; rw [eab]
        rw [ez] at kz
        match xs, r, hx with
        | [x1, x2], .cons t1 (.cons t2 .nil), hx =>
          have go : ∀ W' : L2.St → Hp → Prop, W' ((List.set (wipe (L2.start ["thing", "pair", "one", "other"] [v]) [2, 3]) 2 (some x1)).set 3 (some x2)) G → (gTup K 2 (gCons (gName 2) (gCons (gName 3) gNil)) (.ref c) (wipe (L2.start ["thing", "pair", "one", "other"] [v]) [2, 3]) G W' ∨ gLst K 2 (gCons (gName 2) (gCons (gName 3) gNil)) (.ref c) (wipe (L2.start ["thing", "pair", "one", "other"] [v]) [2, 3]) G W') := fun W' hw => by
            rcases hx with hx | hx
            · exact .inr ⟨c, _, rfl, .inl (.inl hx), rfl, _, _, rfl, _, _, rfl, rfl, hw⟩
            · exact .inl ⟨c, _, rfl, .inl (.inl hx), rfl, _, _, rfl, _, _, rfl, rfl, hw⟩
          refine go W (hW _ _ rfl ?_)
          refine ⟨x1, rfl, x1, a, rfl, t1, fun G2 s4 => ⟨idxB a, rfl, ?_⟩⟩
          have kk := kz G2 s4
          cases e1 : idxB a with
          | false =>
            rw [e1] at kk
            exact iteF kk
          | true =>
            rw [e1, Bool.true_and] at kz
            refine iteT ⟨x2, rfl, x2, b, rfl, t2.ext s4, fun G3 s5 => ⟨idxB b, rfl, ?_⟩⟩
            have kk := kz G3 (s4.trans s5)
            cases e2 : idxB b with
            | false =>
              rw [e2] at kk
              exact iteF kk
            | true =>
              rw [e2, Bool.true_and] at kk
              cases t1 with
              | int i =>
                cases t2 with
                | int j => exact iteT ⟨.int i, rfl, .int j, rfl, i, j, rfl, rfl, kk⟩
                | _ => exact absurd (show false = true from e2) Bool.false_ne_true
              | _ => exact absurd (show false = true from e1) Bool.false_ne_true
def spSf : Sp := fun vs H Q _ => ∃ (v : V) (d : PyData), vs = [v] ∧ Th H v d ∧ (its d).length ≤ 100000 ∧ (∀ y ∈ its d, isD y = false ∧ ∀ s, y = .str s → s.length ≤ 100000) ∧ ∀ H', L2.Same H H' → Q (.bl (stB d)) H'
theorem ok_sfm {f : Addr} {fd : FuncData} (F : FunD K "is_step_form" "is_step_form" (defArgs sSfm) (defBody sSfm) (defScope sSfm) [] [] f fd) (L : Has P w K mg base "is_list" 1 ["thing"] (spLook isL)) (II : Has P w K mg base "is_index" 2 ["thing"] (spLook idxB)) (NM : Has P w K mg base "is_name" 2 ["thing"] spNm) (ml : mg "len" = none) : FnOk P w K mg base CX0 3 f fd ["thing"] spSf := by
  refine F.ok scSfm (fun vs H Q E h => ?_) (fun cdv A outer s H vs Q XE hr h => ?_)
  · obtain ⟨v, d, rfl, _⟩ := h
    rfl
  · obtain ⟨v, d, rfl, hv, b1, b2, k⟩ := h
    have hu : (XCo P w K mg base ["thing"] "is_step_form" sSfm f cdv A outer s H XE).A.units + 64 < cLine := hr.units
    have h0 : PS (XCo P w K mg base ["thing"] "is_step_form" sSfm f cdv A outer s H XE) (stOf sSfm 0) _ := ps_if (pt_not (pt_val (pe_has L (hr.mono (by decide)) (by rfl) (pa_cons (pv 0) pa_nil)))) (pss_one (ps_ret pe_bl)) pss_nil
    have h1 : PS (XCo P w K mg base ["thing"] "is_step_form" sSfm f cdv A outer s H XE) (stOf sSfm 1) _ := ps_if (pt_cmpR op_eq (pe_callB call_len_seq (by rfl) ml boot_len (pa_cons (pv 0) pa_nil)) pe_int (nomark _)) (pss_one (ps_ret (pe_cmpR (op_inP hu) (pe_ix ix_seq (pv 0) pe_int (fun _ _ => rfl)) (pe_tup (pa_cons pe_str (pa_cons pe_str pa_nil))) (by rfl)))) pss_nil
    have h2 : PS (XCo P w K mg base ["thing"] "is_step_form" sSfm f cdv A outer s H XE) (stOf sSfm 2) _ := ps_if (pt_cmpR op_eq (pe_callB call_len_seq (by rfl) ml boot_len (pa_cons (pv 0) pa_nil)) pe_int (nomark _)) (pss_one (ps_ret (pe_and (pe_cmpR (op_inP hu) (pe_ix ix_seq (pv 0) pe_int (fun _ _ => rfl)) (pe_tup (pa_cons pe_str (pa_cons pe_str pa_nil))) (by rfl)) (pe_one (pe_has II (hr.mono (by decide)) (by rfl) (pa_cons (pe_ix ix_seq (pv 0) pe_int (fun _ _ => rfl)) pa_nil)))))) pss_nil
    have h3 : PS (XCo P w K mg base ["thing"] "is_step_form" sSfm f cdv A outer s H XE) (stOf sSfm 3) _ := ps_ret (pe_and (pe_cmpR op_eq (pe_callB call_len_seq (by rfl) ml boot_len (pa_cons (pv 0) pa_nil)) pe_int (nomark _)) (pe_and (pe_cmpR (op_eqP hu) (pe_ix ix_seq (pv 0) pe_int (fun _ _ => rfl)) pe_str (nomark _)) (pe_and (pe_cmpR (op_inP hu) (pe_ix ix_seq (pv 0) pe_int (fun _ _ => rfl)) (pe_tup (pa_cons pe_str (pa_cons pe_str pa_nil))) (by rfl)) (pe_one (pe_has NM (hr.mono (by decide)) (by rfl) (pa_cons (pe_ix ix_seq (pv 0) pe_int (fun _ _ => rfl)) pa_nil))))))
    refine ⟨_, PSs.nox (PSs.of_eq bdSfm (pss_cons h0 (pss_cons h1 (pss_cons h2 (pss_one h3))))), ?_⟩
    clear h0 h1 h2 h3 hu
    refine T3.if_intro ⟨v, rfl, v, d, rfl, hv, fun H1 s1 => ⟨isL d, rfl, ?_⟩⟩
    unfold stB at k
    cases l : isL d with
    | false =>
      rw [l] at k
      exact iteT (k H1 s1)
    | true =>
      rw [l, Bool.true_and] at k
      obtain ⟨a, xs, rfl, r, hx⟩ := (hv.ext s1).seq (K := K) l
      have len : ∀ {G : Hp} {Q' : VK}, L2.Same H1 G → Q' (.int (xs.length : Nat)) G → (∃ p ys, [V.ref a] = [V.ref p] ∧ (SqL K G p ys ∨ SqT K G p ys) ∧ Q' (.int (ys.length : Nat)) G) := fun {G Q'} s q => ⟨a, xs, rfl, hx.elim (fun h => .inl (.inl (.inl (s _ _ h)))) (fun h => .inr (.inl (.inl (s _ _ h)))), q⟩
      have e1 : ∀ n : Nat, decide (V.int (xs.length : Nat) = V.int (n : Nat)) = decide ((its d).length = n) := fun n => by
        rw [r.length, Bool.eq_iff_iff, decide_eq_true_eq, decide_eq_true_eq]
        exact ⟨fun z => by have := V.int.inj z; omega, fun z => by rw [z]⟩
      have hxe : ∀ {G : Hp}, L2.Same H1 G → G a = some (.lst xs) ∨ G a = some (.tup xs) := fun s => hx.imp (s _ _) (s _ _)
      refine iteF ?_
      refine nx_intro (ifS_intro ⟨.ref a, rfl, a, xs, rfl, hx.elim (fun h => .inl (.inl (.inl h))) (fun h => .inr (.inl (.inl h))), rfl, _, rfl, ?_⟩)
      show (if decide (V.int (xs.length : Nat) = V.int (1 : Nat)) = true then _ else _)
      rw [e1]
      have inS : ∀ (i : Nat) (z : PyData) (t1 t2 : Str) {G : Hp} {Q' : VK}, L2.Same H1 G → (its d)[i]? = some z → (∀ G', L2.Same G G' → Q' (.bl (txtIn [t1, t2] z)) G') →
          tOp (rInP K) (tOp (rIx K) (tVar 0) (tC (.int (i : Nat)))) (tTup (tCons (tC (.str t1)) (tCons (tC (.str t2)) tNil))) (L2.start ["thing"] [.ref a]) G Q' := fun i z t1 t2 {G Q'} s hz kq => by
        have il : i < xs.length := by
          have := (List.getElem?_eq_some_iff.mp hz).1
          rw [r.length]
          exact this
        have hi : xs[i]? = some xs[i] := List.getElem?_eq_getElem il
        obtain ⟨z', hz', tz⟩ := r.get hi
        rw [hz] at hz'
        cases hz'
        have nz := (b2 z (List.mem_of_getElem? hz)).1
        refine ⟨.ref a, rfl, ix_any2 (hxe s) hi ⟨small4 2, fun q nq => ⟨q, [t1, t2], rfl, .inl (.inl upd_same), th_pln (tz.ext (s.trans (same_new nq))) nz, ?_⟩⟩⟩
        rw [inV_th tz nz [t1, t2]]
        exact kq _ (same_new nq)
      have get : ∀ (i : Nat) (z : PyData), (its d)[i]? = some z → ∃ x, xs[i]? = some x ∧ Th H1 x z := fun i z hz => by
        have il : i < xs.length := by
          have := (List.getElem?_eq_some_iff.mp hz).1
          rw [r.length]
          exact this
        have hi : xs[i]? = some xs[i] := List.getElem?_eq_getElem il
        obtain ⟨z', hz', tz⟩ := r.get hi
        rw [hz] at hz'
        cases hz'
        exact ⟨_, hi, tz⟩
      generalize its d = ds at *
      by_cases c1 : ds.length = 1
      · obtain ⟨z, rfl⟩ := List.length_eq_one_iff.mp c1
        rw [decide_eq_true c1]
        exact iteT (inS 0 z "loop" "unloop" (fun _ _ e => e) rfl fun G' s' => k G' (s1.trans s'))
      rw [decide_eq_false c1]
      refine iteF (nx_intro (ifS_intro ⟨.ref a, rfl, a, xs, rfl, hx.elim (fun h => .inl (.inl (.inl h))) (fun h => .inr (.inl (.inl h))), rfl, _, rfl, ?_⟩))
      show (if decide (V.int (xs.length : Nat) = V.int (2 : Nat)) = true then _ else _)
      rw [e1]
      by_cases c2 : ds.length = 2
      · obtain ⟨y, z, rfl⟩ : ∃ y z, ds = [y, z] := by
          match ds, c2 with
          | [y, z], _ => exact ⟨y, z, rfl⟩
        rw [decide_eq_true c2]
        refine iteT (inS 0 y "shrink" "turn" (fun _ _ e => e) rfl fun G' s' => ⟨_, rfl, ?_⟩)
        have kk := k G' (s1.trans s')
        have ee : stM [y, z] = (txtIn ["shrink", "turn"] y && idxB z) := rfl
        rw [ee] at k kk
        cases q : txtIn ["shrink", "turn"] y with
        | false =>
          rw [q] at kk
          exact iteF kk
        | true =>
          rw [q, Bool.true_and] at k
          obtain ⟨x1, h1, t1⟩ := get 1 z rfl
          exact iteT ⟨.ref a, rfl, ix_any2 (i := 1) (hxe s') h1 ⟨x1, z, rfl, t1.ext s', fun G2 s2 => k G2 ((s1.trans s').trans s2)⟩⟩
      rw [decide_eq_false c2]
      refine iteF ⟨.ref a, rfl, a, xs, rfl, hx.elim (fun h => .inl (.inl (.inl h))) (fun h => .inr (.inl (.inl h))), rfl, _, rfl, ?_⟩
      show (if decide (V.int (xs.length : Nat) = V.int (3 : Nat)) = true then _ else _)
      rw [e1]
      by_cases c3 : ds.length = 3
      · obtain ⟨y, z, u, rfl⟩ : ∃ y z u, ds = [y, z, u] := by
          match ds, c3 with
          | [y, z, u], _ => exact ⟨y, z, u, rfl⟩
        rw [decide_eq_true c3]
        have ee : stM [y, z, u] = (txtIn ["grow"] y && (txtIn ["x", "y"] z && nameB u)) := rfl
        rw [ee] at k
        obtain ⟨x0, h0, t0⟩ := get 0 y rfl
        have n0 := (b2 y (by simp)).1
        refine iteT ⟨.ref a, rfl, ix_any2 (i := 0) hx h0 ⟨"grow", rfl, th_pln t0 n0, _, rfl, ?_⟩⟩
        have eg : decide (x0 = V.str "grow") = txtIn ["grow"] y := by
          rw [← inV_th t0 n0 ["grow"]]
          show _ = (eqV (.str "grow") x0 || false)
          cases x0 with
          | str s =>
            show _ = ((("grow" : Str) == s) || false)
            rw [Bool.or_false, Bool.eq_iff_iff, decide_eq_true_eq, beq_iff_eq]
            exact ⟨fun q => (V.str.inj q).symm, fun q => by rw [q]⟩
          | _ => exact decide_eq_false (by intro q; cases q)
        rw [eg]
        cases q : txtIn ["grow"] y with
        | false =>
          rw [q] at k
          exact iteF (k H1 s1)
        | true =>
          rw [q, Bool.true_and] at k
          refine iteT (inS 1 z "x" "y" (fun _ _ e => e) rfl fun G' s' => ⟨_, rfl, ?_⟩)
          cases q2 : txtIn ["x", "y"] z with
          | false =>
            rw [q2] at k
            exact iteF (k G' (s1.trans s'))
          | true =>
            rw [q2, Bool.true_and] at k
            obtain ⟨x2, h2, t2⟩ := get 2 u rfl
            exact iteT ⟨.ref a, rfl, ix_any2 (i := 2) (hxe s') h2 ⟨x2, u, rfl, t2.ext s', (fun s e => (b2 u (by simp)).2 s e), fun G2 s2 => k G2 ((s1.trans s').trans s2)⟩⟩
      · rw [decide_eq_false c3]
        have ee : stM ds = false := stM_no ds c1 c2 c3
        rw [ee] at k
        exact iteF (k H1 s1)
end
end K14.T69
namespace K14.T69
open T27 T3
open K14.Gn
open PySem PySem.W PySem.Calls PyProof.Rows L2 LamX
open He (ga)
open SX (S)
open TL (tl pre joinL)
open Kz (SS ExtS ExtS.trans small4 same_new boot_in boot_li boot_isi Has pe_has noE PSs.of_eq new_ext X1)
/-! ### course_text, steps_text -/
def shows : PyData → Str
  | .int i => Str.ofString (toString i)
  | .str s => s
  | _ => Str.empty
def lineD (z : PyData) : Str := Txt.join " " ((its z).map shows) ++ "\n"
def textD (d : PyData) : Str := Txt.join "" ((its d).map lineD)
theorem joinL_len (sep : List Nat) : ∀ ws : List (List Nat), (ws.map List.length).sum + ws.length * sep.length ≤ (joinL sep ws).length + sep.length
  | [] => by simp
  | [a] => by simp [joinL]
  | a :: b :: r => by
    have ih := joinL_len sep (b :: r)
    have e : joinL sep (a :: b :: r) = a ++ (sep ++ joinL sep (b :: r)) := rfl
    rw [e, List.length_append, List.length_append, List.map_cons, List.sum_cons, List.length_cons, Nat.succ_mul]
    omega
theorem join_bnd (a : Str) (ys : List Str) : (ys.map (·.length)).sum + ys.length * a.length ≤ (Txt.join a ys).length + a.length := by
  have h := joinL_len (tl a) (ys.map tl)
  have e1 : (Txt.join a ys).length = (joinL (tl a) (ys.map tl)).length := by rw [TL.join_eq, TL.len_tl, TL.tl_join]
  rw [List.map_map, List.length_map] at h
  have e : ys.map (List.length ∘ tl) = ys.map (·.length) := List.map_congr_left fun y _ => (TL.len_tl y).symm
  rw [e] at h
  rw [e1, TL.len_tl a]
  exact h
theorem joinS {r : V → List V → Hp → VK → Prop} {x : Str} {te : TE} {σ : L2.St} {H : Hp} {Q : VK} (h : te σ H fun y H1 => r (.str x) [y] H1 Q) : tM1 r (tC (.str x)) te σ H Q := ⟨⟨x, rfl⟩, h⟩
theorem mem_sum : ∀ {ns : List Nat} {n : Nat}, n ∈ ns → n ≤ ns.sum
  | m :: ns, n, h => by
    rw [List.sum_cons]
    rcases List.mem_cons.mp h with rfl | h
    · omega
    · have := mem_sum h
      omega
theorem line_bnd {d z : PyData} (h : z ∈ its d) : (lineD z).length ≤ (textD d).length := by
  have h1 := join_bnd "" ((its d).map lineD)
  have h2 : (lineD z).length ≤ (((its d).map lineD).map (·.length)).sum := mem_sum (List.mem_map.mpr ⟨_, List.mem_map.mpr ⟨z, h, rfl⟩, rfl⟩)
  have e : ("" : Str).length = 0 := by decide +kernel
  rw [e] at h1
  show _ ≤ (Txt.join "" ((its d).map lineD)).length
  omega
theorem len_app (a b : Str) : (a ++ b).length = a.length + b.length := by
  rw [TL.len_tl, TL.tl_append, List.length_append, TL.len_tl, TL.len_tl]
theorem pair_line (a b : PyData) : ((((Str.empty ++ shows a) ++ " ") ++ shows b) ++ "\n") = Txt.join " " [shows a, shows b] ++ "\n" := by
  refine TL.ext_tl ?_
  rw [TL.tl_append, TL.tl_append, TL.tl_append, TL.tl_append, TL.tl_append, TL.join_eq, TL.tl_join]
  have e : tl Str.empty = [] := rfl
  rw [e]
  show _ = (tl (shows a) ++ (tl " " ++ tl (shows b))) ++ tl "\n"
  simp
abbrev sCt : Stmt := topS 36
abbrev sStx : Stmt := topS 39
theorem scCt : FnScope ["course", "one", "other"] ["course"] (defScope sCt) := ⟨rfl, rfl, rfl, by decide +kernel, rfl, by decide +kernel, by decide +kernel⟩
theorem bdCt : defBody sCt = [stOf sCt 0, stOf sCt 1] := by rfl
theorem scStx : FnScope ["derivation", "step", "part"] ["derivation"] (defScope sStx) := ⟨rfl, rfl, rfl, by decide +kernel, rfl, by decide +kernel, by decide +kernel⟩
theorem bdStx : defBody sStx = [stOf sStx 0, stOf sStx 1] := by rfl
def scRetJ : Stmt → Scope
  | .Return (some (.Call _ [.ListComp _ _ sc _] _ _)) _ => sc
  | _ => defScope sNl
def scRetJ2 : Stmt → Scope
  | .Return (some (.Call _ [.ListComp (.BinOp (.Call _ [.ListComp _ _ sc _] _ _) _ _ _) _ _ _] _ _)) _ => sc
  | _ => defScope sNl
def ctSc : Scope := scRetJ (stOf sCt 1)
def sxSc0 : Scope := scIfA (stOf sStx 0)
def sxSc1 : Scope := scRetJ (stOf sStx 1)
def sxSc2 : Scope := scRetJ2 (stOf sStx 1)
section
variable {P : Program} {w : World} {K : Frag} {mg : Str → Option Value} {base : Heap}
/-- what may be asked of a text's maker -/
def okP (d : PyData) : Prop := (its d).length ≤ 100000 ∧ ∀ z ∈ its d, (its z).length ≤ 100000 ∧ ∀ y ∈ its z, isD y = false ∧ ∀ s, y = .str s → s.length ≤ 100000
def spTx (B : PyData → Bool) : Sp := fun vs H Q _ => ∃ (v : V) (d : PyData), vs = [v] ∧ Th H v d ∧ B d = true ∧ okP d ∧ (textD d).length ≤ 100000 ∧ ∀ H', L2.Same H H' → Q (.str (textD d)) H'
def spTxX (K : Frag) (B : PyData → Bool) : Sp := fun vs H Q E => ∃ (v : V) (d : PyData), vs = [v] ∧ Th H v d ∧ B d = false ∧ okP d ∧ Says (ga K "BadForm") v H E
theorem idx_log {z : PyData} (h : idxB z = true) : ∃ i : Int, z = .int i ∧ 0 ≤ i ∧ i ≤ 999999999 ∧ i.natAbs.log2 < 1920 := by
  cases z with
  | int i =>
    obtain ⟨a, b⟩ := Bool.and_eq_true_iff.mp (show (decide (0 ≤ i) && decide (i ≤ 999999999)) = true from h)
    have a := of_decide_eq_true a
    have b := of_decide_eq_true b
    refine ⟨i, rfl, a, b, ?_⟩
    by_cases c : i.natAbs = 0
    · rw [c]; decide +kernel
    · refine (Nat.log2_lt c).mpr (Nat.lt_of_lt_of_le (show i.natAbs < 2 ^ 30 by omega) (Nat.pow_le_pow_right (by decide) (by decide)))
  | _ => exact absurd (show false = true from h) Bool.false_ne_true
theorem ok_ct {f : Addr} {fd : FuncData} (F : FunD K "course_text" "course_text" (defArgs sCt) (defBody sCt) (defScope sCt) [] [] f fd) (CF : Has P w K mg base "is_course_form" 3 ["thing"] (spLookB coB)) : FnOk P w K mg base CX0 4 f fd ["course"] (spTx coB) := by
  refine F.ok scCt (fun vs H Q E h => ?_) (fun cdv A outer s H vs Q XE hr h => ?_)
  · obtain ⟨v, d, rfl, _⟩ := h
    rfl
  · obtain ⟨v, d, rfl, hv, hB, hok, hl, k⟩ := h
    have h0 : PS (XCo P w K mg base ["course", "one", "other"] "course_text" sCt f cdv A outer s H XE) (stOf sCt 0) _ := ps_if (pt_not (pt_val (pe_has CF (hr.mono (by decide)) (by rfl) (pa_cons (pv 0) pa_nil)))) (pss_one ps_never) pss_nil
    have h1 : PS (XCo P w K mg base ["course", "one", "other"] "course_text" sCt f cdv A outer s H XE) (stOf sCt 1) _ := ps_ret (pe_join pe_str (pe_lc (X := XCo P w K mg base ["course", "one", "other"] "course_text" sCt f cdv A outer s H XE) (scope := ctSc) (own := [("one", 1), ("other", 2)]) (g := fun v σ H Q => gTup K 2 (gCons (gName 1) (gCons (gName 2) gNil)) v σ H Q ∨ gLst K 2 (gCons (gName 1) (gCons (gName 2) gNil)) v σ H Q) (tt := tYes)
      (te := fun σ H Q => tJs [tFmt (tVar 1), tC (.str " "), tFmt (tVar 2), tC (.str "\n")] Str.empty σ H fun out H1 => Q (.str out) H1) rfl scCt.nd (pi_sq (pv 0)) (blkOk_by (N := ["course", "one", "other"]) (sc := defScope sCt) (by decide +kernel))
      (fun _ _ _ _ _ => pg_or (pg_tup (n := 2) rfl (pgs_cons (pg_name (i := 1) scCt.nd rfl (Or.inl rfl)) (pgs_cons (pg_name (i := 2) scCt.nd rfl (Or.inl rfl)) pgs_nil))) (pg_lst (n := 2) rfl (pgs_cons (pg_name (i := 1) scCt.nd rfl (Or.inl rfl)) (pgs_cons (pg_name (i := 2) scCt.nd rfl (Or.inl rfl)) pgs_nil)))) (fun _ _ _ _ _ => pts_nil)
      (fun s0 H0 C0 cl0 fp0 => pe_joined (X := Cx.blk (XCo P w K mg base ["course", "one", "other"] "course_text" sCt f cdv A outer s H XE) s0 H0 ctSc (compEnvC ctSc cl0 C0 (Cx.env (XCo P w K mg base ["course", "one", "other"] "course_text" sCt f cdv A outer s H XE))) fp0) (.cons (pe_fmt (pv 1)) (.cons pe_str (.cons (pe_fmt (pv 2)) (.cons pe_str .nil)))))))
    refine ⟨_, PSs.nox (PSs.of_eq bdCt (pss_cons h0 (pss_one h1))), ?_⟩
    clear h0 h1
    refine T3.if_intro ⟨v, rfl, v, d, rfl, hv, hok.1, (fun x hx => (hok.2 x hx).1), fun H1 s1 => ⟨_, rfl, ?_⟩⟩
    rw [hB]
    refine iteF (nx_intro (ret_intro ?_))
    unfold coB at hB
    obtain ⟨l, hB⟩ := Bool.and_eq_true_iff.mp hB
    obtain ⟨hP, hR⟩ := Bool.and_eq_true_iff.mp hB
    refine joinS ?_
    refine lc_dat (K := K) (fun z => .str (lineD z)) (fun R h => ⟨v, rfl, h⟩) (hv.ext s1) l hok.1 (fun z x G Q' W hW hz s tz kz => ?_) fun G D s3 nD hD => ⟨"", D, (its d).map lineD, rfl, rfl, .inl (.inl (.inl (by rw [List.map_map]; exact hD))), ?_, ?_⟩
    · have hP := List.all_eq_true.mp hP z hz
      have hR := List.all_eq_true.mp hR z hz
      unfold isP at hP
      obtain ⟨hL, h2⟩ := Bool.and_eq_true_iff.mp hP
      have h2 := of_decide_eq_true h2
      obtain ⟨c, xs, rfl, r, hx⟩ := tz.seq (K := K) hL
      obtain ⟨a, b, eab⟩ : ∃ a b, its z = [a, b] := by
        match its z, h2 with
        | [a, b], _ => exact ⟨a, b, rfl⟩
      have lz := line_bnd hz
      have el : lineD z = Txt.join " " [shows a, shows b] ++ "\n" := by unfold lineD; rw [eab]; rfl
      rw [el] at kz
      rw [el, ← pair_line, len_app, len_app, len_app, len_app] at lz
      rw [← pair_line] at kz
      rw [eab] at r
      have ez : prB z = (idxB a && (idxB b && ltB a b)) := by unfold prB; rw [eab]
      rw [ez] at hR
      obtain ⟨i1, hR⟩ := Bool.and_eq_true_iff.mp hR
      obtain ⟨i2, _⟩ := Bool.and_eq_true_iff.mp hR
      obtain ⟨i, rfl, _, _, gi⟩ := idx_log i1
      obtain ⟨j, rfl, _, _, gj⟩ := idx_log i2
      match xs, r, hx with
      | [_, _], .cons (.int _) (.cons (.int _) .nil), hx =>
        have go : ∀ W' : L2.St → Hp → Prop, W' ((List.set (wipe (L2.start ["course", "one", "other"] [v]) [1, 2]) 1 (some (.int i))).set 2 (some (.int j))) G → (gTup K 2 (gCons (gName 1) (gCons (gName 2) gNil)) (.ref c) (wipe (L2.start ["course", "one", "other"] [v]) [1, 2]) G W' ∨ gLst K 2 (gCons (gName 1) (gCons (gName 2) gNil)) (.ref c) (wipe (L2.start ["course", "one", "other"] [v]) [1, 2]) G W') := fun W' hw => by
          rcases hx with hx | hx
          · exact .inr ⟨c, _, rfl, .inl (.inl hx), rfl, _, _, rfl, _, _, rfl, rfl, hw⟩
          · exact .inl ⟨c, _, rfl, .inl (.inl hx), rfl, _, _, rfl, _, _, rfl, rfl, hw⟩
        have sl := sizeLine_eq
        have ei : shows (.int i) = Str.ofString (toString i) := rfl
        have ej : shows (.int j) = Str.ofString (toString j) := rfl
        rw [ei, ej] at lz
        refine go W (hW _ _ rfl ⟨.int i, rfl, .inr ⟨i, rfl, gi, _, rfl, ?_, _, rfl, ?_, .int j, rfl, .inr ⟨j, rfl, gj, _, rfl, ?_, _, rfl, ?_, kz G (fun _ _ e => e)⟩⟩⟩)
        · rw [len_app]; omega
        · rw [len_app, len_app]; omega
        · rw [len_app, len_app, len_app]; omega
        · rw [len_app, len_app, len_app, len_app]; omega
    · have := join_bnd "" ((its d).map lineD)
      have e : ("" : Str).length = 0 := by decide +kernel
      have e2 : (textD d).length = (Txt.join "" ((its d).map lineD)).length := rfl
      omega
    · exact k G (s1.trans s3)
theorem idx_str {z : PyData} (h : idxB z = true) : ∃ i : Int, z = .int i ∧ i.natAbs.log2 < 1920 := by
  obtain ⟨i, e, _, _, g⟩ := idx_log h
  exact ⟨i, e, g⟩
theorem txt_str {ss : List Str} {z : PyData} (h : txtIn ss z = true) : ∃ s, z = .str s := by
  cases z with
  | str s => exact ⟨s, rfl⟩
  | _ => exact absurd (show false = true from h) Bool.false_ne_true
/-- a right step: texts, numbers -/
theorem step_parts {z : PyData} (h : stB z = true) : ∀ y ∈ its z, (∃ s, y = .str s) ∨ ∃ i : Int, y = .int i ∧ i.natAbs.log2 < 1920 := by
  unfold stB at h
  obtain ⟨_, h⟩ := Bool.and_eq_true_iff.mp h
  revert h
  generalize its z = ds
  intro h
  match ds, h with
  | [a], h => exact forall_c (.inl (txt_str (show txtIn _ a = true from h))) forall_n
  | [a, b], h =>
    obtain ⟨h1, h2⟩ := Bool.and_eq_true_iff.mp (show (txtIn ["shrink", "turn"] a && idxB b) = true from h)
    exact forall_c (.inl (txt_str h1)) (forall_c (.inr (idx_str h2)) forall_n)
  | [a, b, c], h =>
    obtain ⟨h1, h2⟩ := Bool.and_eq_true_iff.mp (show (txtIn ["grow"] a && (txtIn ["x", "y"] b && nameB c)) = true from h)
    obtain ⟨h2, h3⟩ := Bool.and_eq_true_iff.mp h2
    refine forall_c (.inl (txt_str h1)) (forall_c (.inl (txt_str h2)) (forall_c (.inl ?_) forall_n))
    cases c with
    | str s => exact ⟨s, rfl⟩
    | _ => exact absurd (show false = true from h3) Bool.false_ne_true
abbrev rAddS : R2 := fun x y H Q => ∃ i j, x = .str i ∧ y = .str j ∧ i.length + j.length ≤ sizeLine ∧ Q (.str (i ++ j)) H
abbrev rJoinS (K : Frag) : V → List V → Hp → VK → Prop := fun x xs H Q => ∃ a p, ∃ ys : List Str, x = .str a ∧ xs = [.ref p] ∧ (SqL K H p (ys.map V.str) ∨ SqT K H p (ys.map V.str)) ∧ (ys.map (·.length)).sum + ys.length * a.length ≤ 16777216 ∧ Q (.str (Txt.join a ys)) H
/-- str(a part) -/
abbrev teStr (i : Nat) : TE := fun σ H Q => tCB (fun xs H Q => ∃ i, xs = [.int i] ∧ i.natAbs.log2 < 1920 ∧ Q (.str (toString i)) H) (tCons (tVar i) tNil) σ H Q ∨ tCB (fun xs H Q => ∃ a, xs = [.str a] ∧ Q (.str a) H) (tCons (tVar i) tNil) σ H Q
abbrev teLine (K : Frag) (i j : Nat) : TE := tOp rAddS (tM1 (rJoinS K) (tC (.str " ")) (tLc (iSq K (tVar i)) (gName j) tYes (teStr j) [j])) (tC (.str "\n"))
def stsB (d : PyData) : Bool := isL d && (its d).all stB
theorem ok_stx {f : Addr} {fd : FuncData} (F : FunD K "steps_text" "steps_text" (defArgs sStx) (defBody sStx) (defScope sStx) [] [] f fd) (L : Has P w K mg base "is_list" 1 ["thing"] (spLook isL)) (SF : Has P w K mg base "is_step_form" 3 ["thing"] spSf) (ma : mg "all" = none) (ms : mg "str" = none) : FnOk P w K mg base CX0 4 f fd ["derivation"] (spTx stsB) := by
  refine F.ok scStx (fun vs H Q E h => ?_) (fun cdv A outer s H vs Q XE hr h => ?_)
  · obtain ⟨v, d, rfl, _⟩ := h
    rfl
  · obtain ⟨v, d, rfl, hv, hB, hok, hl, k⟩ := h
    have h0 : PS (XCo P w K mg base ["derivation", "step", "part"] "steps_text" sStx f cdv A outer s H XE) (stOf sStx 0) _ := ps_if ((pw_or (pt_not (pt_val (pe_has L (hr.mono (by decide)) (by rfl) (pa_cons (pv 0) pa_nil))))) (pw_or1 (pt_not (pt_val (pe_callB (cr_all rfl) (by rfl) ma boot_all (pa_cons (pe_lc (X := XCo P w K mg base ["derivation", "step", "part"] "steps_text" sStx f cdv A outer s H XE) (scope := sxSc0) (own := [("step", 1)]) (g := gName 1) (tt := tYes)
      (te := tCall spSf [] noE (tCons (tVar 1) tNil)) rfl scStx.nd (pi_sq (pv 0)) (blkOk_by (N := ["derivation", "step", "part"]) (sc := defScope sStx) (by decide +kernel)) (fun _ _ _ _ _ => pg_name (i := 1) scStx.nd rfl (Or.inl rfl)) (fun _ _ _ _ _ => pts_nil)
      (fun s0 H0 C0 cl0 fp0 => pe_has (X := Cx.blk (XCo P w K mg base ["derivation", "step", "part"] "steps_text" sStx f cdv A outer s H XE) s0 H0 sxSc0 (compEnvC sxSc0 cl0 C0 (Cx.env (XCo P w K mg base ["derivation", "step", "part"] "steps_text" sStx f cdv A outer s H XE))) fp0) SF (hr.mono (by decide)) (by rfl) (pa_cons (pv 1) pa_nil))) pa_nil)))))).pt (pss_one ps_never) pss_nil
    have h1 : PS (XCo P w K mg base ["derivation", "step", "part"] "steps_text" sStx f cdv A outer s H XE) (stOf sStx 1) _ := ps_ret (pe_join pe_str (pe_lc (X := XCo P w K mg base ["derivation", "step", "part"] "steps_text" sStx f cdv A outer s H XE) (scope := sxSc1) (own := [("step", 1)]) (g := gName 1) (tt := tYes) (te := teLine K 1 2) rfl scStx.nd (pi_sq (pv 0)) (blkOk_by (N := ["derivation", "step", "part"]) (sc := defScope sStx) (by decide +kernel))
      (fun _ _ _ _ _ => pg_name (i := 1) scStx.nd rfl (Or.inl rfl)) (fun _ _ _ _ _ => pts_nil)
      (fun s0 H0 C0 cl0 fp0 => by exact pe_op (X := Cx.blk (XCo P w K mg base ["derivation", "step", "part"] "steps_text" sStx f cdv A outer s H XE) s0 H0 sxSc1 (compEnvC sxSc1 cl0 C0 (Cx.env (XCo P w K mg base ["derivation", "step", "part"] "steps_text" sStx f cdv A outer s H XE))) fp0) op_add_str (pe_join pe_str (pe_lc (X := Cx.blk (XCo P w K mg base ["derivation", "step", "part"] "steps_text" sStx f cdv A outer s H XE) s0 H0 sxSc1 (compEnvC sxSc1 cl0 C0 (Cx.env (XCo P w K mg base ["derivation", "step", "part"] "steps_text" sStx f cdv A outer s H XE))) fp0) (scope := sxSc2) (own := [("part", 2)]) (g := gName 2) (tt := tYes) (te := teStr 2) rfl scStx.nd (pi_sq (pv 1)) (blkOk_by (N := ["derivation", "step", "part"]) (sc := sxSc1) (by decide +kernel))
        (fun _ _ _ _ _ => pg_name (i := 2) scStx.nd rfl (Or.inl rfl)) (fun _ _ _ _ _ => pts_nil) (fun s1 H1 C1 cl1 fp1 => by exact pe_alt (pe_callTy call_str_int (by rfl) ms boot_st (pa_cons (pv 2) pa_nil)) (pe_callTy SkE.call_str_str (by rfl) ms boot_st (pa_cons (pv 2) pa_nil))))) pe_str)))
    refine ⟨_, PSs.nox (PSs.of_eq bdStx (pss_cons h0 (pss_one h1))), ?_⟩
    clear h0 h1
    unfold stsB at hB
    obtain ⟨l, hA⟩ := Bool.and_eq_true_iff.mp hB
    refine T3.if_intro ⟨v, rfl, v, d, rfl, hv, fun H1 s1 => ⟨isL d, rfl, ?_⟩⟩
    rw [l]
    refine iteF ?_
    refine lc_all (K := K) stB (fun R h => ⟨v, rfl, h⟩) (hv.ext s1) l hok.1 (fun _ => rfl) (fun j z x G Q' hz s tz kz => ⟨x, rfl, x, z, rfl, tz, (hok.2 z (List.mem_of_getElem? hz)).1, (hok.2 z (List.mem_of_getElem? hz)).2, fun G' s' => kz G' s'⟩) fun G1 s2 => ⟨_, rfl, ?_⟩
    rw [hA]
    refine iteF (nx_intro (ret_intro (joinS ?_)))
    have e0 : ("" : Str).length = 0 := by decide +kernel
    have e1 : (" " : Str).length = 1 := by decide +kernel
    have e2 : ("\n" : Str).length = 1 := by decide +kernel
    have sl := sizeLine_eq
    refine lc_dat (K := K) (fun z => .str (lineD z)) (fun R h => ⟨v, rfl, h⟩) (hv.ext (s1.trans s2)) l hok.1 (fun z x G Q' W hW hz s tz kz => ?_) fun G D s3 nD hD => ⟨"", D, (its d).map lineD, rfl, rfl, .inl (.inl (.inl (by rw [List.map_map]; exact hD))), ?_, ?_⟩
    · have hS := List.all_eq_true.mp hA z hz
      have lS : isL z = true := (Bool.and_eq_true_iff.mp hS).1
      have lz := line_bnd hz
      have el : (lineD z).length = (Txt.join " " ((its z).map shows)).length + 1 := by
        show (Txt.join " " ((its z).map shows) ++ "\n").length = _
        rw [len_app, e2]
      have jb := join_bnd " " ((its z).map shows)
      refine gset (hW _ _ rfl (T3.op_in (joinS ?_)))
      refine lc_dat (K := K) (fun y => .str (shows y)) (fun R h => ⟨x, rfl, h⟩) tz lS (hok.2 z hz).1 (fun y u G2 Q2 W2 hW2 hy s4 ty ky => ?_) fun G2 D2 s4 nD2 hD2 => ⟨" ", D2, (its z).map shows, rfl, rfl, .inl (.inl (.inl (by rw [List.map_map]; exact hD2))), by omega, _, _, rfl, rfl, by omega, kz G2 s4⟩
      refine gset (hW2 _ _ rfl ?_)
      rcases step_parts hS y hy with ⟨t, rfl⟩ | ⟨i, rfl, gi⟩
      · cases ty
        exact .inr ⟨.str t, rfl, t, rfl, ky G2 (fun _ _ e => e)⟩
      · cases ty
        exact .inl ⟨.int i, rfl, i, rfl, gi, ky G2 (fun _ _ e => e)⟩
    · have := join_bnd "" ((its d).map lineD)
      have e3 : (textD d).length = (Txt.join "" ((its d).map lineD)).length := rfl
      omega
    · exact k G ((s1.trans s2).trans s3)
theorem okx_ct {f : Addr} {fd : FuncData} (F : FunD K "course_text" "course_text" (defArgs sCt) (defBody sCt) (defScope sCt) [] [] f fd) (CF : Has P w K mg base "is_course_form" 3 ["thing"] (spLookB coB)) (T : ErK P K mg "BadForm") : FnOk P w K mg base (L2.CX P w) 4 f fd ["course"] (spTxX K coB) := by
  refine F.ok scCt (fun vs H Q E h => ?_) (fun cdv A outer s H vs Q XE hr h => ?_)
  · obtain ⟨v, d, rfl, _⟩ := h
    rfl
  · obtain ⟨v, d, rfl, hv, hB, hok, k⟩ := h
    refine ⟨_, PSs.of_eq bdCt (pss_cons (ps_if (pt_not (pt_val (pe_has CF (hr.mono (by decide)) (by rfl) (pa_cons (pv 0) pa_nil)))) (pss_one (ps_raise rfl (takes_of rfl rfl rfl rfl) (pmk_x1 T.2 (hr.mono (by decide)) rfl (by rfl) T.1 (pv 0)))) pss_nil) pss_never), ?_⟩
    exact ⟨v, rfl, v, d, rfl, hv, hok.1, (fun x hx => (hok.2 x hx).1), fun H1 s1 => ⟨false, by rw [hB], iteT ⟨v, rfl, fun dx n => k _ dx (s1.trans (same_new n)) upd_same⟩⟩⟩
theorem okx_stx {f : Addr} {fd : FuncData} (F : FunD K "steps_text" "steps_text" (defArgs sStx) (defBody sStx) (defScope sStx) [] [] f fd) (L : Has P w K mg base "is_list" 1 ["thing"] (spLook isL)) (SF : Has P w K mg base "is_step_form" 3 ["thing"] spSf) (ma : mg "all" = none) (T : ErK P K mg "BadForm") : FnOk P w K mg base (L2.CX P w) 4 f fd ["derivation"] (spTxX K stsB) := by
  refine F.ok scStx (fun vs H Q E h => ?_) (fun cdv A outer s H vs Q XE hr h => ?_)
  · obtain ⟨v, d, rfl, _⟩ := h
    rfl
  · obtain ⟨v, d, rfl, hv, hB, hok, k⟩ := h
    have h0 : PS (cxOf (L2.CX P w) P w K mg base ["derivation", "step", "part"] "steps_text" (defScope sStx) f cdv A outer s H XE) (stOf sStx 0) _ := ps_if ((pw_or (pt_not (pt_val (pe_has L (hr.mono (by decide)) (by rfl) (pa_cons (pv 0) pa_nil))))) (pw_or1 (pt_not (pt_val (pe_callB (cr_all rfl) (by rfl) ma boot_all (pa_cons (pe_lc (X := cxOf (L2.CX P w) P w K mg base ["derivation", "step", "part"] "steps_text" (defScope sStx) f cdv A outer s H XE) (scope := sxSc0) (own := [("step", 1)]) (g := gName 1) (tt := tYes)
      (te := tCall spSf [] noE (tCons (tVar 1) tNil)) rfl scStx.nd (pi_sq (pv 0)) (blkOk_by (N := ["derivation", "step", "part"]) (sc := defScope sStx) (by decide +kernel)) (fun _ _ _ _ _ => pg_name (i := 1) scStx.nd rfl (Or.inl rfl)) (fun _ _ _ _ _ => pts_nil)
      (fun s0 H0 C0 cl0 fp0 => pe_has (X := Cx.blk (cxOf (L2.CX P w) P w K mg base ["derivation", "step", "part"] "steps_text" (defScope sStx) f cdv A outer s H XE) s0 H0 sxSc0 (compEnvC sxSc0 cl0 C0 (Cx.env (cxOf (L2.CX P w) P w K mg base ["derivation", "step", "part"] "steps_text" (defScope sStx) f cdv A outer s H XE))) fp0) SF (hr.mono (by decide)) (by rfl) (pa_cons (pv 1) pa_nil))) pa_nil)))))).pt (pss_one (ps_raise rfl (takes_of rfl rfl rfl rfl) (pmk_x1 T.2 (hr.mono (by decide)) rfl (by rfl) T.1 (pv 0)))) pss_nil
    refine ⟨_, PSs.of_eq bdStx (pss_cons h0 pss_never), ?_⟩
    clear h0
    unfold stsB at hB
    refine T3.if_intro ⟨v, rfl, v, d, rfl, hv, fun H1 s1 => ⟨isL d, rfl, ?_⟩⟩
    cases l : isL d with
    | false => exact iteT (iteT ⟨v, rfl, fun dx n => k _ dx (s1.trans (same_new n)) upd_same⟩)
    | true =>
      rw [l, Bool.true_and] at hB
      refine iteF ?_
      refine lc_all (K := K) stB (fun R h => ⟨v, rfl, h⟩) (hv.ext s1) l hok.1 (fun _ => rfl) (fun j z x G Q' hz s tz kz => ⟨x, rfl, x, z, rfl, tz, (hok.2 z (List.mem_of_getElem? hz)).1, (hok.2 z (List.mem_of_getElem? hz)).2, fun G' s' => kz G' s'⟩) fun G1 s2 => ⟨_, rfl, ?_⟩
      rw [hB]
      exact iteT ⟨v, rfl, fun dx n => k _ dx ((s1.trans s2).trans (same_new n)) upd_same⟩
end
end K14.T69
namespace K14.T69
open T27 T3
open K14.Gn
open PySem PySem.W PySem.Calls PyProof.Rows L2 LamX
open He (ga)
open SX (S)
open TL (tl pre joinL)
open Kz (SS ExtS ExtS.trans small4 same_new boot_in boot_li boot_isi Has pe_has noE PSs.of_eq new_ext X1)
/-! ### _law_is_name, _law_line, _law_each_once, _law_may_be_name -/
abbrev sLn : Stmt := topS 44
abbrev sLl : Stmt := topS 45
abbrev sMb : Stmt := topS 46
abbrev sEo : Stmt := topS 53
abbrev NLn : List Str := ["thing", "letters", "sign"]
abbrev NMb : List Str := ["word", "taken", "letters", "kept", "many", "turn", "sign", "name"]
abbrev NEo : List Str := ["things", "found", "thing"]
theorem scLn : FnScope NLn ["thing"] (defScope sLn) := ⟨rfl, rfl, rfl, by decide +kernel, rfl, by decide +kernel, by decide +kernel⟩
theorem bdLn : defBody sLn = [stOf sLn 0, stOf sLn 1, stOf sLn 2, stOf sLn 3] := by rfl
theorem scLl : FnScope ["words"] ["words"] (defScope sLl) := ⟨rfl, rfl, rfl, by decide +kernel, rfl, by decide +kernel, by decide +kernel⟩
theorem bdLl : defBody sLl = [stOf sLl 0] := by rfl
theorem scMb : FnScope NMb ["word", "taken"] (defScope sMb) := ⟨rfl, rfl, rfl, by decide +kernel, rfl, by decide +kernel, by decide +kernel⟩
theorem bdMb : defBody sMb = [stOf sMb 0, stOf sMb 1, stOf sMb 2, stOf sMb 3, stOf sMb 4] := by rfl
theorem scEo : FnScope NEo ["things"] (defScope sEo) := ⟨rfl, rfl, rfl, by decide +kernel, rfl, by decide +kernel, by decide +kernel⟩
theorem bdEo : defBody sEo = [stOf sEo 0, stOf sEo 1, stOf sEo 2] := by rfl
def fbEo : Stmt := (forBody (stOf sEo 1)).getD 0 (.Pass ⟨0, 0, 0, 0⟩)
theorem bdFEo : forBody (stOf sEo 1) = [fbEo] := by rfl
def fbMb : Stmt := (forBody (stOf sMb 3)).getD 0 (.Pass ⟨0, 0, 0, 0⟩)
theorem bdFMb : forBody (stOf sMb 3) = [fbMb] := by rfl
def scRetB : Stmt → Scope
  | .Return (some (.BoolOp _ [_, .Call _ [.ListComp _ _ sc _] _ _] _)) _ => sc
  | _ => defScope sNl
def scIfC : Stmt → Scope
  | .If (.BoolOp _ [_, _, .UnaryOp _ (.Call _ [.ListComp _ _ sc _] _ _) _] _) _ _ _ => sc
  | _ => defScope sNl
def scRetC : Stmt → Scope
  | .Return (some (.Compare (.Call _ [.ListComp _ _ sc _] _ _) _ _ _)) _ => sc
  | _ => defScope sNl
def lnSc : Scope := scRetB (stOf sLn 3)
def mbSc1 : Scope := scIfC (stOf sMb 1)
def mbSc2 : Scope := scRetC (stOf sMb 4)
section
variable {P : Program} {w : World} {K : Frag} {mg : Str → Option Value} {base : Heap}
/-- a sign among letters and figures -/
abbrev teSig (i j : Nat) : TE := tOp (fun x y H Q => ∃ (c : Nat) (z : Str), x = .str ⟨#[c]⟩ ∧ y = .str z ∧ Q (.bl (decide (c ∈ z.cps.toList))) H) (tVar i) (tOp rAddS (tVar j) (tC (.str "0123456789")))
theorem sig_eq : T27.letters ++ ("0123456789" : Str) = T27.signs := by decide +kernel
theorem tC_intro {v : V} {σ : L2.St} {H : Hp} {F : VK} (h : F v H) : tC v σ H F := h
def spLn : Sp := fun vs H Q _ => ∃ x : List Nat, vs = [.str (S x)] ∧ x.length ≤ 100000 ∧ ∀ H', L2.Same H H' → Q (.bl (nameB (.str (S x)))) H'
theorem ok_ln {f : Addr} {fd : FuncData} (F : FunD K "_law_is_name" "_law_is_name" (defArgs sLn) (defBody sLn) (defScope sLn) [] [] f fd) (N : NmK K mg) : FnOk P w K mg base CX0 1 f fd ["thing"] spLn := by
  refine F.ok scLn (fun vs H Q E h => ?_) (fun cdv A outer s H vs Q XE hr h => ?_)
  · obtain ⟨x, rfl, _⟩ := h
    rfl
  · obtain ⟨x, rfl, hl, k⟩ := h
    have h0 : PS (XCo P w K mg base NLn "_law_is_name" sLn f cdv A outer s H XE) (stOf sLn 0) _ := ps_if ((pw_or (pt_not (pt_val (pe_callB call_isi (by rfl) N.isi boot_isi (pa_cons (pv 0) (pa_cons (pe_bltn (by rfl) N.str boot_st (v := .ty "str") rfl) pa_nil))))) (pw_or (pt_cmpR op_lt (pe_callB call_len_str (by rfl) N.len boot_len (pa_cons (pv 0) pa_nil)) pe_int (nomark _)) (pw_or1 (pt_cmpR op_gt (pe_callB call_len_str (by rfl) N.len boot_len (pa_cons (pv 0) pa_nil)) pe_int (nomark _)))))).pt (pss_one (ps_ret pe_bl)) pss_nil
    have h1 : PS (XCo P w K mg base NLn "_law_is_name" sLn f cdv A outer s H XE) (stOf sLn 1) _ := ps_if (pt_cmpR op_in_seq (pv 0) (pe_tup (pa_cons pe_str (pa_cons pe_str (pa_cons pe_str (pa_cons pe_str (pa_cons pe_str (pa_cons pe_str (pa_cons pe_str (pa_cons pe_str (pa_cons pe_str (pa_cons pe_str pa_nil))))))))))) (by rfl)) (pss_one (ps_ret pe_bl)) pss_nil
    have h2 : PS (XCo P w K mg base NLn "_law_is_name" sLn f cdv A outer s H XE) (stOf sLn 2) _ := ps_set (i := 1) scLn.nd rfl (.inr rfl) pe_str
    have h3 : PS (XCo P w K mg base NLn "_law_is_name" sLn f cdv A outer s H XE) (stOf sLn 3) _ := ps_ret (pe_and (pe_cmpR op_in_sign (pe_ix ix_str (pv 0) pe_int (fun _ _ => rfl)) (pv 1) (by rfl)) (pe_one (pe_callB (cr_all rfl) (by rfl) N.all boot_all (pa_cons (pe_lc (X := XCo P w K mg base NLn "_law_is_name" sLn f cdv A outer s H XE) (scope := lnSc) (own := [("sign", 2)]) (g := gName 2) (tt := tYes) (te := teSig 2 1) rfl scLn.nd
      (pi_str (pv 0)) (blkOk_by (N := NLn) (sc := defScope sLn) (by decide +kernel)) (fun _ _ _ _ _ => pg_name (i := 2) scLn.nd rfl (Or.inl rfl)) (fun _ _ _ _ _ => pts_nil)
      (fun s0 H0 C0 cl0 fp0 => by exact pe_cmpR op_in_sign (pv 2) (pe_op op_add_str (pv 1) pe_str) (by rfl))) pa_nil))))
    refine ⟨_, PSs.nox (PSs.of_eq bdLn (pss_cons h0 (pss_cons h1 (pss_cons h2 (pss_one h3))))), ?_⟩
    clear h0 h1 h2 h3
    have kk := k H (fun _ _ e => e)
    have en : nameB (.str (S x)) = (bnB (S x) && !keptB (S x)) := rfl
    have no : bnB (S x) = false → Q (.bl false) H := fun e => by
      rw [en, e] at kk
      exact kk
    have lS : ((S x).length : Int) = (x.length : Int) := by rw [S_len]
    have sl := sizeLine_eq
    refine T3.if_intro ⟨.str (S x), rfl, .str (S x), _, _, _, _, rfl, .ty _, .base (.str _), is_st (.str (S x)), _, rfl, ?_⟩
    refine iteF ⟨.str (S x), rfl, S x, rfl, by rw [S_len]; omega, _, _, rfl, rfl, _, rfl, ?_⟩
    show (if decide (((S x).length : Int) < 1) = true then _ else _)
    rw [lS]
    cases x with
    | nil => exact iteT (iteT (no rfl))
    | cons c r =>
      have eb : bnB (S (c :: r)) = (decide ((S (c :: r)).length ≤ 8) && (decide (c ∈ T27.letters.cps.toList) && (c :: r).all fun c => decide (c ∈ T27.signs.cps.toList))) := rfl
      rw [decide_eq_false (show ¬ (((c :: r).length : Nat) : Int) < 1 by rw [List.length_cons]; omega)]
      refine iteF ⟨.str (S (c :: r)), rfl, S (c :: r), rfl, by rw [S_len]; omega, _, _, rfl, rfl, _, rfl, ?_⟩
      show (if decide (((S (c :: r)).length : Int) > 8) = true then _ else _)
      by_cases l8 : (S (c :: r)).length ≤ 8
      · rw [decide_eq_false (show ¬ ((S (c :: r)).length : Int) > 8 by omega)]
        refine iteF ?_
        refine nx_intro (ifS_intro ⟨.str (S (c :: r)), rfl, small4 10, fun q nq => ⟨q, kept.map V.str, rfl, .inr (.inl (.inl upd_same)), rfl, rfl, _, rfl, ?_⟩⟩)
        have sq : L2.Same H (upd H q (.tup (kept.map V.str))) := same_new nq
        have kk := k _ sq
        rw [en] at kk k
        have ek : inV (.str (S (c :: r))) (kept.map V.str) = keptB (S (c :: r)) := rfl
        rw [ek]
        cases q1 : keptB (S (c :: r)) with
        | true =>
          rw [q1] at kk
          refine iteT ?_
          have e2 : (bnB (S (c :: r)) && !true) = false := by simp
          rw [e2] at kk
          exact kk
        | false =>
          rw [q1] at k
          have e2 : (bnB (S (c :: r)) && !false) = bnB (S (c :: r)) := by simp
          rw [e2, eb, decide_eq_true l8, Bool.true_and] at k
          refine iteF (nx_intro (set_intro (i := 1) (tC_intro (ret_intro ?_))))
          have e8 : (L2.start NLn [.str (S (c :: r))]).set 1 (some (.str T27.letters)) = [some (.str (S (c :: r))), some (.str T27.letters), none] := rfl
          refine ⟨.str (S (c :: r)), rfl, S (c :: r), 0, c, rfl, rfl, by omega, atI_nat (j := 0) rfl, .str T27.letters, rfl, c, T27.letters, rfl, rfl, _, rfl, ?_⟩
          cases q2 : decide (c ∈ T27.letters.cps.toList) with
          | false =>
            rw [q2] at k
            exact iteF (k _ sq)
          | true =>
            rw [q2, Bool.true_and] at k
            refine iteT (all_strG (K := K) (fun c => decide (c ∈ T27.signs.cps.toList)) (fun R h => ⟨.str (S (c :: r)), rfl, h⟩) (by rw [S_len]; exact hl) (fun _ => rfl) (fun c2 G Q' hc s kq => ?_) fun G1 s1 => k G1 (sq.trans s1))
            refine ⟨_, rfl, T3.op_in ⟨.str T27.letters, rfl, T27.letters, "0123456789", rfl, rfl, small4 36 |> fun _ => ?_, ?_⟩⟩
            · rw [show T27.letters.length = 26 by decide +kernel, show ("0123456789" : Str).length = 10 by decide +kernel]
              exact small4 36
            · rw [sig_eq]
              exact ⟨c2, T27.signs, rfl, rfl, kq G (fun _ _ e => e)⟩
      · rw [decide_eq_true (show ((S (c :: r)).length : Int) > 8 by omega)]
        exact iteT (no (by rw [eb, decide_eq_false l8]; rfl))
def spLl : Sp := fun vs H Q _ => ∃ (a : Addr) (ss : List Str), vs = [.ref a] ∧ H a = some (.lst (ss.map V.str)) ∧ (Txt.join " " ss).length ≤ 100000 ∧ Q (.str (Txt.join " " ss ++ "\n")) H
theorem ok_ll {f : Addr} {fd : FuncData} (F : FunD K "_law_line" "_law_line" (defArgs sLl) (defBody sLl) (defScope sLl) [] [] f fd) : FnOk P w K mg base CX0 1 f fd ["words"] spLl := by
  refine F.ok scLl (fun vs H Q E h => ?_) (fun cdv A outer s H vs Q XE hr h => ?_)
  · obtain ⟨a, ss, rfl, _⟩ := h
    rfl
  · obtain ⟨a, ss, rfl, ha, hl, k⟩ := h
    have h0 : PS (XCo P w K mg base ["words"] "_law_line" sLl f cdv A outer s H XE) (stOf sLl 0) _ := ps_ret (pe_op op_add_str (pe_join pe_str (pv 0)) pe_str)
    refine ⟨_, PSs.nox (PSs.of_eq bdLl (pss_one h0)), ?_⟩
    clear h0
    have jb := join_bnd " " ss
    have e1 : (" " : Str).length = 1 := by decide +kernel
    have e2 : ("\n" : Str).length = 1 := by decide +kernel
    exact ret_intro (T3.op_in (joinS ⟨.ref a, rfl, " ", a, ss, rfl, rfl, .inl (.inl (.inl ha)), by omega, _, _, rfl, rfl, by rw [sizeLine_eq]; omega, k⟩))
def spEo : Sp := fun vs H Q _ => ∃ (a : Addr) (ss : List Str), vs = [.ref a] ∧ H a = some (.lst (ss.map V.str)) ∧ ss.Nodup ∧ ss.length ≤ 1000 ∧ ∀ (H' : Hp) (b : Addr), L2.Same H H' → H' b = some (.lst (ss.map V.str)) → Q (.ref b) H'
theorem inV_str (s : Str) : ∀ ss : List Str, inV (.str s) (ss.map V.str) = decide (s ∈ ss)
  | [] => by simp [inV]
  | t :: ss => by
    have ih := inV_str s ss
    unfold inV at ih ⊢
    rw [List.map_cons, List.any_cons, ih]
    show ((t == s) || _) = _
    rw [Bool.eq_iff_iff, Bool.or_eq_true, beq_iff_eq, decide_eq_true_eq, decide_eq_true_eq, List.mem_cons]
    exact ⟨fun h => h.imp Eq.symm id, fun h => h.imp Eq.symm id⟩
theorem ok_eo {f : Addr} {fd : FuncData} (F : FunD K "_law_each_once" "_law_each_once" (defArgs sEo) (defBody sEo) (defScope sEo) [] [] f fd) : FnOk P w K mg base CX0 1 f fd ["things"] spEo := by
  refine F.ok scEo (fun vs H Q E h => ?_) (fun cdv A outer s H vs Q XE hr h => ?_)
  · obtain ⟨a, ss, rfl, _⟩ := h
    rfl
  · obtain ⟨a, ss, rfl, ha, nd, hl, k⟩ := h
    have h0 : PS (XCo P w K mg base NEo "_law_each_once" sEo f cdv A outer s H XE) (stOf sEo 0) _ := ps_set (i := 1) scEo.nd rfl (.inl rfl) (pe_lst pa_nil)
    have b0 : PS (XCo P w K mg base NEo "_law_each_once" sEo f cdv A outer s H XE) fbEo _ := ps_if (pt_cmpR op_notIn_seq (pv 2) (pv 1) (by rfl)) (pss_one (ps_expr (pe_bm PySem.F.plainAttrs_list PySem.F.slot_list_append PySem.F.type_list_append mt_append (pv 1) (pa_cons (pv 2) pa_nil)))) pss_nil
    have h1 : PS (XCo P w K mg base NEo "_law_each_once" sEo f cdv A outer s H XE) (stOf sEo 1) _ := ps_for PassesOwn.never rfl (pi_sq (pv 0)) (pg_name (i := 2) scEo.nd rfl (.inl rfl)) (PSs.of_eq bdFEo (pss_one b0))
    have h2 : PS (XCo P w K mg base NEo "_law_each_once" sEo f cdv A outer s H XE) (stOf sEo 2) _ := ps_ret (pv 1)
    have PP := PSs.of_eq bdEo (pss_cons h0 (pss_cons h1 (pss_one h2)))
    clear h0 h1 h2 b0
    refine ⟨_, PSs.nox PP, ?_⟩
    clear PP
    refine set_intro (i := 1) ⟨small4 0, fun b nb => ?_⟩
    show tSeq _ _ _ _ _
    have nba : b ≠ a := fun z => by rw [z, ha] at nb; cases nb
    have tl0 : Th H (.ref a) (.list (ss.map PyData.str)) := .lst ha (strs_thl ss)
    refine for_sqS (K := K) (H0 := H) (v := .ref a) (d := .list (ss.map PyData.str)) (i := 2) (fun R h => ⟨.ref a, rfl, h⟩) tl0 rfl (fun j σ G => ∃ x2, σ = [some (.ref a), some (.ref b), x2] ∧ L2.Same H G ∧ G b = some (.lst ((ss.take j).map V.str))) ⟨none, rfl, same_new nb, upd_same⟩ (fun j σ G e => ?_) (fun j z x σ G hz tx tx0 e => ?_) (fun σ G e => ?_)
    · obtain ⟨_, _, s, _⟩ := e
      exact s
    · obtain ⟨x2, rfl, sG, hb⟩ := e
      have hz : (ss.map PyData.str)[j]? = some z := hz
      rw [List.getElem?_map] at hz
      obtain ⟨t, ht, rfl⟩ := Option.map_eq_some_iff.mp hz
      cases tx with
      | str =>
        have ni : ¬ t ∈ ss.take j := fun m => by
          obtain ⟨i, hi⟩ := List.mem_iff_getElem?.mp m
          rw [List.getElem?_take] at hi
          split at hi
          · rename_i lt
            have := (List.getElem?_inj (List.getElem?_eq_some_iff.mp hi).1 nd).mp (hi.trans ht.symm)
            omega
          · cases hi
        refine ⟨.str t, rfl, .ref b, rfl, b, _, rfl, .inl (.inl (.inl hb)), rfl, Gn.flat_strs _, _, rfl, ?_⟩
        show (if (!inV (.str t) ((ss.take j).map V.str)) = true then _ else _)
        rw [inV_str, decide_eq_false ni]
        refine iteT ⟨.ref b, rfl, .inl ⟨rfl, _, .inl (.inl hb)⟩, .str t, rfl, b, _, _, rfl, rfl, hb, by rw [List.length_map, List.length_take, sizeLine_eq]; omega, ?_⟩
        refine ⟨_, rfl, fun c o e => ?_, ?_⟩
        · have : c ≠ b := ne_of_none e nb
          rw [upd_ne this]
          exact sG _ _ e
        · rw [upd_same, List.take_add_one, ht, List.map_append]
          rfl
    · obtain ⟨x2, rfl, sG, hb⟩ := e
      have e1 : (its (PyData.list (ss.map PyData.str))).length = ss.length := by
        show (ss.map PyData.str).length = _
        rw [List.length_map]
      rw [e1, List.take_length] at hb
      exact ⟨.ref b, rfl, k G b sG hb⟩
/-- how many so begin at all -/
def manyF : Nat → Nat
  | 0 => 1
  | k + 1 => manyF k * 36 + 1
theorem many_ge : ∀ k, 0 < k → 37 ≤ manyF k
  | 1, _ => by decide
  | k + 2, _ => by
    have := many_ge (k + 1) (by omega)
    show 37 ≤ manyF (k + 1) * 36 + 1
    omega
theorem cutS_le (z : Str) (n : Nat) : (cutS z none (some (n : Int))).length ≤ z.length := by
  unfold cutS
  rw [TL.len_tl]
  show (List.take _ (List.drop _ _)).length ≤ _
  rw [List.length_take, List.length_drop]
  have : z.length = z.cps.toList.length := by rw [Array.length_toList]; rfl
  omega
def spMb : Sp := fun vs H Q _ => ∃ (x : List Nat) (a : Addr), vs = [.str (S x), .ref a] ∧ x ≠ [] ∧ x.length ≤ 100000 ∧ H a = some (.lst []) ∧ ∀ H', L2.Same H H' → Q (.bl (bnB (S x))) H'
/-- name[:len(word)] == word -/
abbrev ttMb : TT := tTest (tOp rEq (tSl rSlS (tVar 7) tNoPart (tPart (tCB (fun xs H Q => ∃ z, xs = [.str z] ∧ z.length ≤ sizeLine ∧ Q (.int z.length) H) (tCons (tVar 0) tNil)))) (tVar 0))
theorem ok_mb {f : Addr} {fd : FuncData} (F : FunD K "_law_may_be_name" "_law_may_be_name" (defArgs sMb) (defBody sMb) (defScope sMb) [] [] f fd) (N : NmK K mg) (EO : Has P w K mg base "_law_each_once" 1 ["things"] spEo) (mr : mg "range" = none) : FnOk P w K mg base CX0 2 f fd ["word", "taken"] spMb := by
  refine F.ok scMb (fun vs H Q E h => ?_) (fun cdv A outer s H vs Q XE hr h => ?_)
  · obtain ⟨x, a, rfl, _⟩ := h
    rfl
  · obtain ⟨x, a, rfl, x0, hl, ha, k⟩ := h
    have h0 : PS (XCo P w K mg base NMb "_law_may_be_name" sMb f cdv A outer s H XE) (stOf sMb 0) _ := ps_set (i := 2) scMb.nd rfl (.inr rfl) pe_str
    have h1 : PS (XCo P w K mg base NMb "_law_may_be_name" sMb f cdv A outer s H XE) (stOf sMb 1) _ := ps_if (pw_or (pt_cmpR op_gt (pe_callB call_len_str (by rfl) N.len boot_len (pa_cons (pv 0) pa_nil)) pe_int (nomark _)) (pw_or (pt_cmpR op_notIn_sign (pe_ix ix_str (pv 0) pe_int (fun _ _ => rfl)) (pv 2) (by rfl)) (pw_or1 (pt_not (pt_val (pe_callB (cr_all rfl) (by rfl) N.all boot_all (pa_cons (pe_lc (X := XCo P w K mg base NMb "_law_may_be_name" sMb f cdv A outer s H XE) (scope := mbSc1) (own := [("sign", 6)]) (g := gName 6) (tt := tYes) (te := teSig 6 2) rfl scMb.nd
      (pi_str (pv 0)) (blkOk_by (N := NMb) (sc := defScope sMb) (by decide +kernel)) (fun _ _ _ _ _ => pg_name (i := 6) scMb.nd rfl (Or.inl rfl)) (fun _ _ _ _ _ => pts_nil)
      (fun s0 H0 C0 cl0 fp0 => by exact pe_cmpR op_in_sign (pv 6) (pe_op op_add_str (pv 2) pe_str) (by rfl))) pa_nil))))))).pt (pss_one (ps_ret pe_bl)) pss_nil
    have h2 : PS (XCo P w K mg base NMb "_law_may_be_name" sMb f cdv A outer s H XE) (stOf sMb 2) _ := ps_par (i := 3) (j := 4) rfl scMb.nd rfl rfl (by decide) rfl rfl (pa_cons (pe_lst (pa_cons pe_str (pa_cons pe_str (pa_cons pe_str (pa_cons pe_str (pa_cons pe_str (pa_cons pe_str (pa_cons pe_str (pa_cons pe_str (pa_cons pe_str (pa_cons pe_str pa_nil))))))))))) (pa_cons pe_int pa_nil)) rfl
    have b0 : PS (XCo P w K mg base NMb "_law_may_be_name" sMb f cdv A outer s H XE) fbMb _ := ps_set (i := 4) scMb.nd rfl (.inl rfl) (pe_op op_add (pe_op op_mul (pv 4) pe_int) pe_int)
    have h3 : PS (XCo P w K mg base NMb "_law_may_be_name" sMb f cdv A outer s H XE) (stOf sMb 3) _ := ps_for PassesOwn.never rfl (pi_range1 (by rfl) mr (pa_cons (pe_op op_sub pe_int (pe_callB call_len_str (by rfl) N.len boot_len (pa_cons (pv 0) pa_nil))) pa_nil)) (pg_name (i := 5) scMb.nd rfl (.inl rfl)) (PSs.of_eq bdFMb (pss_one b0))
    have h4 : PS (XCo P w K mg base NMb "_law_may_be_name" sMb f cdv A outer s H XE) (stOf sMb 4) _ := ps_ret (pe_cmpR op_lt (pe_callB call_len_seq (by rfl) N.len boot_len (pa_cons (pe_lc (X := XCo P w K mg base NMb "_law_may_be_name" sMb f cdv A outer s H XE) (scope := mbSc2) (own := [("name", 7)]) (g := gName 7) (tt := ttMb) (te := tVar 7) rfl scMb.nd
      (pi_sq (pe_has EO (hr.mono (by decide)) (by rfl) (pa_cons (pe_op op_cat (pv 3) (pv 1)) pa_nil))) (blkOk_by (N := NMb) (sc := defScope sMb) (by decide +kernel)) (fun _ _ _ _ _ => pg_name (i := 7) scMb.nd rfl (Or.inl rfl))
      (fun s0 H0 C0 cl0 fp0 => pts_one (by exact pt_cmpR op_eq (pe_slice sl_str (pv 7) po_none (po_some (pe_callB call_len_str (by rfl) N.len boot_len (pa_cons (pv 0) pa_nil)))) (pv 0) (nomark _)))
      (fun s0 H0 C0 cl0 fp0 => by exact pv 7)) pa_nil)) (pv 4) (nomark _))
    have PP := PSs.of_eq bdMb (pss_cons h0 (pss_cons h1 (pss_cons h2 (pss_cons h3 (pss_one h4)))))
    clear h0 h1 h2 h3 h4 b0
    refine ⟨_, PSs.nox PP, ?_⟩
    clear PP
    obtain ⟨c, r, rfl⟩ : ∃ c r, x = c :: r := by
      cases x with
      | nil => exact absurd rfl x0
      | cons c r => exact ⟨c, r, rfl⟩
    have eb : bnB (S (c :: r)) = (decide ((S (c :: r)).length ≤ 8) && (decide (c ∈ T27.letters.cps.toList) && (c :: r).all fun c => decide (c ∈ T27.signs.cps.toList))) := rfl
    have lS : (S (c :: r)).length = (c :: r).length := S_len _
    have sl := sizeLine_eq
    generalize ex : c :: r = x at *
    have sl2 : (S x).length ≤ sizeLine := by omega
    refine set_intro (i := 2) (tC_intro ?_)
    refine ifS_intro ⟨.str (S x), rfl, S x, rfl, sl2, _, _, rfl, rfl, _, rfl, ?_⟩
    show (if decide (((S x).length : Int) > 8) = true then _ else _)
    by_cases l8 : (S x).length ≤ 8
    · rw [decide_eq_false (show ¬ ((S x).length : Int) > 8 by omega)]
      rw [decide_eq_true l8, Bool.true_and] at eb
      refine iteF ⟨.str (S x), rfl, S x, 0, c, rfl, rfl, sl2, (by rw [← ex]; exact atI_nat (j := 0) rfl), .str T27.letters, rfl, c, T27.letters, rfl, rfl, _, rfl, ?_⟩
      cases q1 : decide (c ∈ T27.letters.cps.toList) with
      | false =>
        rw [q1] at eb
        refine iteT (iteT ?_)
        have kk := k H (fun _ _ e => e)
        rw [eb] at kk
        exact kk
      | true =>
        rw [q1, Bool.true_and] at eb
        refine iteF ?_
        refine all_strG (K := K) (fun c => decide (c ∈ T27.signs.cps.toList)) (fun R h => ⟨.str (S x), rfl, h⟩) (by rw [S_len]; exact hl) (fun _ => rfl) (fun c2 G Q' hc s kq => ?_) fun G1 s1 => ⟨_, rfl, ?_⟩
        · refine ⟨_, rfl, T3.op_in ⟨.str T27.letters, rfl, T27.letters, "0123456789", rfl, rfl, ?_, ?_⟩⟩
          · rw [show T27.letters.length = 26 by decide +kernel, show ("0123456789" : Str).length = 10 by decide +kernel]
            exact small4 36
          · rw [sig_eq]
            exact ⟨c2, T27.signs, rfl, rfl, kq G (fun _ _ e => e)⟩
        have e0 : (S x).cps.toList = x := rfl
        rw [e0]
        cases q2 : x.all fun c => decide (c ∈ T27.signs.cps.toList) with
        | false =>
          rw [q2] at eb
          refine iteT ?_
          have kk := k G1 s1
          rw [eb] at kk
          exact kk
        | true =>
          rw [q2] at eb
          rw [eb] at k
          refine iteF (nx_intro (par_intro (cons2_intro ⟨small4 10, fun b nb => ⟨_, _, rfl, ?_⟩⟩)))
          have sb : L2.Same G1 (upd G1 b (.lst (kept.map V.str))) := same_new nb
          have hb : (upd G1 b (.lst (kept.map V.str))) b = some (.lst (kept.map V.str)) := upd_same
          have ha2 : (upd G1 b (.lst (kept.map V.str))) a = some (.lst []) := sb _ _ (s1 _ _ ha)
          have Sb := s1.trans sb
          generalize eB : upd G1 b (.lst (kept.map V.str)) = B at sb hb ha2 Sb
          have eB' : upd G1 b (.lst [.str "x", .str "y", .str "stop", .str "join", .str "loop", .str "use", .str "part", .str "net", .str "to", .str "shut"]) = B := eB
          rw [eB']
          show tSeq _ _ _ _ _
          refine ⟨.str (S x), rfl, S x, rfl, sl2, 8, _, rfl, rfl, _, rfl, by omega, by omega, for_range (lo := 0) (n := ((8 : Int) - ((S x).length : Nat)).toNat) (fun j σ G => ∃ x5, σ = [some (.str (S x)), some (.ref a), some (.str T27.letters), some (.ref b), some (.int (manyF j : Nat)), x5, none, none] ∧ L2.Same B G) ⟨none, rfl, fun _ _ e => e⟩ (fun j σ G hj e => ?_) (fun σ G e => ?_)⟩
          · obtain ⟨x5, rfl, sG⟩ := e
            have ev : ((manyF j : Nat) : Int) * 36 + 1 = ((manyF (j + 1) : Nat) : Int) := by
              show _ = ((manyF j * 36 + 1 : Nat) : Int)
              push_cast
              rfl
            have lj : j < 9 := by omega
            have mj : manyF j < 2 ^ 60 := by
              have : ∀ i, i < 9 → manyF i < 2 ^ 60 := by decide +kernel
              exact this j lj
            refine gset ⟨.int (manyF j : Nat), rfl, _, 36, rfl, rfl, .inr ⟨by omega, by omega⟩, _, 1, rfl, rfl, ?_⟩
            refine gset ⟨some (.int (0 + (j : Nat))), ?_, sG⟩
            show [some (V.str (S x)), some (.ref a), some (.str T27.letters), some (.ref b), some (.int (((manyF j : Nat) : Int) * 36 + 1)), some (.int (0 + (j : Nat))), none, none] = _
            rw [ev]
          · obtain ⟨x5, rfl, sG⟩ := e
            refine nx_intro (ret_intro (T3.op_in ?_))
            unfold tCB tCons tNil
            refine .inl ⟨.ref b, rfl, .ref a, rfl, b, a, _, _, rfl, rfl, sG _ _ hb, sG _ _ ha2, small4 10, fun d nd => ?_⟩
            have sd := same_new (o := .lst (kept.map V.str ++ [])) nd
            refine ⟨d, kept, rfl, by rw [upd_same, List.append_nil], by decide +kernel, by decide, fun G2 q sq hq => ?_⟩
            have kk := k G2 (Sb.trans (sG.trans (sd.trans sq)))
            refine ⟨q, rfl, ⟨_, .inl (.inl hq)⟩, fun D hD => lc_acc (S := []) walk_list (fun b h => nomatch h) hD (by decide) (fun H' e => .inl (.inl (e _ _ hq))) (fun i ys _ => ys.length ≤ i ∧ ((S x).length = 8 → ys = [])) (fun i ys G G' e _ => e) ⟨Nat.zero_le _, fun _ => rfl⟩ (fun i v G3 G4 ys Qy Qn hi s3 insG a y ky kn => ?_) (fun G3 ys s3 hA a => ?_)⟩
            · obtain ⟨rfl, hc⟩ := y
              obtain ⟨z, hz, rfl⟩ := List.mem_map.mp (List.mem_of_getElem? hc)
              have z4 : z.length ≤ 4 := by
                have : ∀ z ∈ kept, z.length ≤ 4 := by decide +kernel
                exact this z hz
              refine gset ⟨rfl, ⟨.str z, rfl, .str (S x), rfl, S x, rfl, sl2, _, rfl, z, rfl, by omega, .str (S x), rfl, rfl, _, rfl, ?_⟩⟩
              by_cases cc : V.str (cutS z none (some ((S x).length : Int))) = V.str (S x)
              · rw [decide_eq_true cc]
                refine iteT ⟨.str z, rfl, ky _ _ (fun _ _ e => e) ⟨by rw [List.length_append]; exact Nat.succ_le_succ a.1, fun e8 => ?_⟩⟩
                exfalso
                have e9 := V.str.inj cc
                have := cutS_le z (S x).length
                rw [e9] at this
                omega
              · rw [decide_eq_false cc]
                exact iteF (kn _ (fun _ _ e => e) ⟨Nat.le_succ_of_le a.1, a.2⟩)
            · have kk := k G3 (Sb.trans (sG.trans (sd.trans (sq.trans s3))))
              refine ⟨D, ys, rfl, .inl (.inl (.inl hA)), .int (manyF _ : Nat), rfl, _, _, rfl, rfl, ?_⟩
              have ee : decide (((ys.length : Nat) : Int) < ((manyF ((8 : Int) - ((S x).length : Nat)).toNat : Nat) : Int)) = true := by
                refine decide_eq_true ?_
                have a1 : ys.length ≤ 10 := a.1
                by_cases e8 : (S x).length = 8
                · rw [a.2 e8]
                  have : ((8 : Int) - ((S x).length : Nat)).toNat = 0 := by omega
                  rw [this]
                  decide
                · have := many_ge ((8 : Int) - ((S x).length : Nat)).toNat (by omega)
                  omega
              show Q (.bl (decide (((ys.length : Nat) : Int) < ((manyF ((8 : Int) - ((S x).length : Nat)).toNat : Nat) : Int)))) G3
              rw [ee]
              exact kk
    · rw [decide_eq_false l8] at eb
      rw [decide_eq_true (show ((S x).length : Int) > 8 by omega)]
      refine iteT (iteT ?_)
      have kk := k H (fun _ _ e => e)
      rw [eb] at kk
      exact kk
end
end K14.T69
namespace K14.T69
open T27 T3
open K14.Gn
open PySem PySem.W PySem.Calls PyProof.Rows L2 LamX
open He (ga)
open SX (S)
open TL (tl pre joinL)
open Kz (SS ExtS ExtS.trans small4 same_new boot_in boot_li boot_isi Has pe_has noE PSs.of_eq new_ext X1)
/-! ### _law_number_fits, _law_paper_fits -/
/-- any(.. for k in range(n)) -/
theorem any_range {K : Frag} {k : Nat} {n : Int} {σ : L2.St} {H : Hp} {ta : TA} {te : TE} {vs : List Nat} (b : Nat → Bool) {Q : VK} (ht : ∀ R : List V → Hp → Prop, R [.int n] H → ta σ H R) (n0 : 0 ≤ n) (n1 : n ≤ 1000) (hw : ∀ y : V, wipe ((wipe σ vs).set k (some y)) vs = wipe σ vs)
    (hs : ∀ (i : Nat) (G : Hp) (Q' : VK), (i : Int) < n → L2.Same H G → (∀ G', L2.Same G G' → Q' (.bl (b i)) G') → te ((wipe σ vs).set k (some (.int (0 + (i : Nat))))) G Q')
    (hq : ∀ G : Hp, L2.Same H G → Q (.bl ((List.range n.toNat).any b)) G) : tCB (rAny K) (tCons (tLc (iRng1 ta) (gName k) tYes te vs) tNil) σ H Q := by
  unfold tCB tCons tNil
  refine ht _ ⟨n, rfl, by omega, by omega, fun D hD => lc_acc (S := []) walk_range (fun b h => nomatch h) hD (by omega) (fun _ _ => trivial) (fun i ys _ => ys = (List.range i).map fun z => V.bl (b z)) (fun i ys G G' e _ => e) rfl (fun i v G1 G2 ys Qy Qn hi s1 insG a y ky kn => ?_) (fun G ys s1 hA a => ?_)⟩
  · obtain ⟨rfl, rfl⟩ := y
    refine gset ⟨hw _, ?_⟩
    unfold tYes
    show (if true = true then _ else _)
    rw [if_pos rfl]
    refine hs i _ Qy (by omega) s1 fun G' s' => ky _ _ s' ?_
    rw [a, List.range_succ, List.map_append]
    rfl
  · rw [a] at hA
    exact ⟨D, (List.range n.toNat).map b, rfl, .inl (.inl (by rw [List.map_map]; exact hA)), by rw [List.any_map]; exact hq G s1⟩
abbrev sNfl : Stmt := topS 58
abbrev NNf : List Str := ["word", "low", "top", "is_whole", "sign", "k"]
theorem scNfl : FnScope NNf ["word", "low", "top", "is_whole"] (defScope sNfl) := ⟨rfl, rfl, rfl, by decide +kernel, rfl, by decide +kernel, by decide +kernel⟩
theorem bdNfl : defBody sNfl = [stOf sNfl 0, stOf sNfl 1, stOf sNfl 2, stOf sNfl 3] := by rfl
def nfSc1 : Scope := scIfC (stOf sNfl 0)
def nfSc2 : Scope := scRetA (stOf sNfl 3)
section
variable {P : Program} {w : World} {K : Frag} {mg : Str → Option Value} {base : Heap}
abbrev rIntS : List V → Hp → VK → Prop := fun xs H Q => ∃ a n, xs = [V.str a] ∧ PySem.intText? a = some n ∧ a.length ≤ 640 ∧ Q (V.int n) H
abbrev rRepS : R2 := fun x y H Q => ∃ (z : Str) (k : Int), x = .str z ∧ y = .int k ∧ k ≤ 1000 ∧ -1000 ≤ k ∧ z.length ≤ 1000 ∧ Q (.str (DiM.repT z k.toNat)) H
/-- int(word + d * k) -/
abbrev teRep (d : Str) : TE := tCB rIntS (tCons (tOp rAddS (tVar 0) (tOp rRepS (tC (.str d)) (tVar 5))) tNil)
abbrev teNf : TE := tAndV (tOp (rI0 fun i j => V.bl (decide (j < i))) (teRep "9") (tVar 1)) (tOp (rI0 fun i j => V.bl (decide (i ≤ j))) (teRep "0") (tVar 2))
def spNfl : Sp := fun vs H Q _ => ∃ (x : List Nat) (low top : Int) (b : Bool), vs = [.str (S x), .int low, .int top, .bl b] ∧ x.length ≤ 100000 ∧ ∀ H', L2.Same H H' → Q (.bl (nf low top b x)) H'
theorem ok_nfl {f : Addr} {fd : FuncData} (F : FunD K "_law_number_fits" "_law_number_fits" (defArgs sNfl) (defBody sNfl) (defScope sNfl) [] [] f fd) (N : NmK K mg) (mr : mg "range" = none) (mi : mg "int" = none) (my : mg "any" = none) : FnOk P w K mg base CX0 1 f fd ["word", "low", "top", "is_whole"] spNfl := by
  refine F.ok scNfl (fun vs H Q E h => ?_) (fun cdv A outer s H vs Q XE hr h => ?_)
  · obtain ⟨x, low, top, b, rfl, _⟩ := h
    rfl
  · obtain ⟨x, low, top, b, rfl, hl, k⟩ := h
    have h0 : PS (XCo P w K mg base NNf "_law_number_fits" sNfl f cdv A outer s H XE) (stOf sNfl 0) _ := ps_if (pw_or (pt_cmpR op_eq (pv 0) pe_str (nomark _)) (pw_or (pt_cmpR op_gt (pe_callB call_len_str (by rfl) N.len boot_len (pa_cons (pv 0) pa_nil)) pe_int (nomark _)) (pw_or1 (pt_not (pt_val (pe_callB (cr_all rfl) (by rfl) N.all boot_all (pa_cons (pe_lc (X := XCo P w K mg base NNf "_law_number_fits" sNfl f cdv A outer s H XE) (scope := nfSc1) (own := [("sign", 4)]) (g := gName 4) (tt := tYes)
      (te := tOp (fun x y H Q => ∃ (c : Nat) (z : Str), x = .str ⟨#[c]⟩ ∧ y = .str z ∧ Q (.bl (decide (c ∈ z.cps.toList))) H) (tVar 4) (tC (.str "0123456789"))) rfl scNfl.nd
      (pi_str (pv 0)) (blkOk_by (N := NNf) (sc := defScope sNfl) (by decide +kernel)) (fun _ _ _ _ _ => pg_name (i := 4) scNfl.nd rfl (Or.inl rfl)) (fun _ _ _ _ _ => pts_nil)
      (fun s0 H0 C0 cl0 fp0 => by exact pe_cmpR op_in_sign (pv 4) pe_str (by rfl))) pa_nil))))))).pt (pss_one (ps_ret pe_bl)) pss_nil
    have h1 : PS (XCo P w K mg base NNf "_law_number_fits" sNfl f cdv A outer s H XE) (stOf sNfl 1) _ := ps_if (pt_cmpR op_eq (pe_ix ix_str (pv 0) pe_int (fun _ _ => rfl)) pe_str (nomark _)) (pss_one (ps_ret (pe_and (pe_cmpR op_eq (pv 0) pe_str (nomark _)) (pe_one (pe_cmpR op_lt (pv 1) pe_int (nomark _)))))) pss_nil
    have h2 : PS (XCo P w K mg base NNf "_law_number_fits" sNfl f cdv A outer s H XE) (stOf sNfl 2) _ := ps_if (pt_val (pv 3)) (pss_one (ps_ret (pe_and (pe_cmpR op_lt (pv 1) (pe_callTy call_int_str (by rfl) mi boot_in (pa_cons (pv 0) pa_nil)) (nomark _)) (pe_one (pe_cmpR op_le (pe_callTy call_int_str (by rfl) mi boot_in (pa_cons (pv 0) pa_nil)) (pv 2) (nomark _)))))) pss_nil
    have h3 : PS (XCo P w K mg base NNf "_law_number_fits" sNfl f cdv A outer s H XE) (stOf sNfl 3) _ := ps_ret (pe_callB (cr_any rfl) (by rfl) my boot_any (pa_cons (pe_lc (X := XCo P w K mg base NNf "_law_number_fits" sNfl f cdv A outer s H XE) (scope := nfSc2) (own := [("k", 5)]) (g := gName 5) (tt := tYes) (te := teNf) rfl scNfl.nd
      (pi_range1 (by rfl) mr (pa_cons (pe_op op_sub pe_int (pe_callB call_len_str (by rfl) N.len boot_len (pa_cons (pv 0) pa_nil))) pa_nil)) (blkOk_by (N := NNf) (sc := defScope sNfl) (by decide +kernel)) (fun _ _ _ _ _ => pg_name (i := 5) scNfl.nd rfl (Or.inl rfl)) (fun _ _ _ _ _ => pts_nil)
      (fun s0 H0 C0 cl0 fp0 => by exact pe_and (pe_cmpR op_gt (pe_callTy call_int_str (by rfl) mi boot_in (pa_cons (pe_op op_add_str (pv 0) (pe_op DiM.op_repS pe_str (pv 5))) pa_nil)) (pv 1) (nomark _)) (pe_one (pe_cmpR op_le (pe_callTy call_int_str (by rfl) mi boot_in (pa_cons (pe_op op_add_str (pv 0) (pe_op DiM.op_repS pe_str (pv 5))) pa_nil)) (pv 2) (nomark _))))) pa_nil))
    have PP := PSs.of_eq bdNfl (pss_cons h0 (pss_cons h1 (pss_cons h2 (pss_one h3))))
    clear h0 h1 h2 h3
    refine ⟨_, PSs.nox PP, ?_⟩
    clear PP
    have sl := sizeLine_eq
    have lS : ((S x).length : Int) = (x.length : Int) := by rw [S_len]
    have es : ("" : Str) = S [] := by decide +kernel
    have e0 : ("0" : Str) = S [48] := by decide +kernel
    have eqS : ∀ a : List Nat, decide (V.str (S x) = V.str (S a)) = decide (x = a) := fun a => by
      rw [Bool.eq_iff_iff, decide_eq_true_eq, decide_eq_true_eq]
      exact ⟨fun q => S_inj (V.str.inj q), fun q => by rw [q]⟩
    unfold nf at k
    refine T3.if_intro ⟨.str (S x), rfl, rfl, _, rfl, ?_⟩
    rw [es, eqS]
    by_cases c0 : x = []
    · rw [decide_eq_true c0]
      rw [decide_eq_true c0] at k
      exact iteT (iteT (k H (fun _ _ e => e)))
    rw [decide_eq_false c0]
    rw [decide_eq_false c0, Bool.false_or] at k
    refine iteF ⟨.str (S x), rfl, S x, rfl, by omega, _, _, rfl, rfl, _, rfl, ?_⟩
    show (if decide (((S x).length : Int) > 9) = true then _ else _)
    rw [lS]
    by_cases c1 : 9 < x.length
    · rw [decide_eq_true (show ((x.length : Nat) : Int) > 9 by omega)]
      rw [decide_eq_true c1] at k
      exact iteT (iteT (k H (fun _ _ e => e)))
    rw [decide_eq_false (show ¬ ((x.length : Nat) : Int) > 9 by omega)]
    rw [decide_eq_false c1, Bool.false_or] at k
    refine iteF (all_strG (K := K) isDg (fun R h => ⟨.str (S x), rfl, h⟩) (by omega) (fun _ => rfl) (fun c G Q' hc s kk => ⟨_, rfl, c, figs, rfl, rfl, by rw [figs_dg]; exact kk G (fun _ _ e => e)⟩) fun G1 s1 => ⟨_, rfl, ?_⟩)
    have ex : (S x).cps.toList = x := rfl
    rw [ex]
    cases c2 : x.all isDg with
    | false =>
      rw [c2] at k
      exact iteT (k G1 s1)
    | true =>
      rw [c2] at k
      rw [if_neg (by decide)] at k
      refine iteF ?_
      obtain ⟨c, r, rfl⟩ : ∃ c r, x = c :: r := by
        cases x with
        | nil => exact absurd rfl c0
        | cons c r => exact ⟨c, r, rfl⟩
      have hd : (c :: r).head? = some c := rfl
      rw [hd] at k
      refine nx_intro (ifS_intro ⟨.str (S (c :: r)), rfl, S (c :: r), 0, c, rfl, rfl, by omega, atI_nat (j := 0) rfl, rfl, _, rfl, ?_⟩)
      have ec : decide (V.str ⟨#[c]⟩ = V.str "0") = decide (c = 48) := by
        rw [e0]
        have : (⟨#[c]⟩ : Str) = S [c] := rfl
        rw [this, Bool.eq_iff_iff, decide_eq_true_eq, decide_eq_true_eq]
        exact ⟨fun q => by have := S_inj (V.str.inj q); simpa using this, fun q => by rw [q]⟩
      rw [ec]
      by_cases c3 : c = 48
      · rw [decide_eq_true c3]
        rw [if_pos (by rw [c3])] at k
        refine iteT (ret_intro ⟨.str (S (c :: r)), rfl, rfl, _, rfl, ?_⟩)
        have k1 := k G1 s1
        rw [e0, eqS]
        cases c4 : decide (c :: r = [48]) with
        | false =>
          rw [c4] at k1
          exact iteF k1
        | true =>
          rw [c4, Bool.true_and] at k1
          exact iteT ⟨.int low, rfl, low, 0, rfl, rfl, k1⟩
      · rw [decide_eq_false c3]
        rw [if_neg (fun z => c3 (Option.some.inj z))] at k
        refine iteF (nx_intro (ifS_intro ⟨.bl b, rfl, b, rfl, ?_⟩))
        have iS : PySem.intText? (S (c :: r)) = some ((valW (c :: r) : Nat) : Int) := SX.int_S c2 c0 (by omega)
        cases b with
        | true =>
          rw [if_pos rfl] at k
          refine iteT (ret_intro ⟨.int low, rfl, .str (S (c :: r)), rfl, S (c :: r), _, rfl, iS, by omega, _, _, rfl, rfl, _, rfl, ?_⟩)
          have k1 := k G1 s1
          show (if decide (low < ((valW (c :: r) : Nat) : Int)) = true then _ else _)
          cases c4 : decide (low < ((valW (c :: r) : Nat) : Int)) with
          | false =>
            rw [c4] at k1
            exact iteF k1
          | true =>
            rw [c4, Bool.true_and] at k1
            exact iteT ⟨.str (S (c :: r)), rfl, S (c :: r), _, rfl, iS, by omega, .int top, rfl, _, _, rfl, rfl, k1⟩
        | false =>
          rw [if_neg (by decide)] at k
          have lt : ((10 : Int) - ((S (c :: r)).length : Nat)).toNat = 10 - (c :: r).length := by rw [S_len]; omega
          refine iteF (nx_intro (ret_intro (any_range (K := K) (n := (10 : Int) - ((S (c :: r)).length : Nat)) (fun i => decide (low < (valW ((c :: r) ++ n9 i) : Nat)) && decide (((valW ((c :: r) ++ n0 i) : Nat) : Int) ≤ top)) (fun R h => ⟨.str (S (c :: r)), rfl, S (c :: r), rfl, by omega, 10, _, rfl, rfl, h⟩) (by omega) (by omega) (fun _ => rfl) (fun i G Q' hi s kq => ?_) fun G s => ?_)))
          · have li : i + (c :: r).length ≤ 9 := by omega
            have rp : ∀ (d : Nat) (dS : Str), dS = S [d] → 48 ≤ d → d ≤ 57 → ∀ (H2 : Hp) (Q2 : VK), Q2 (.int (valW ((c :: r) ++ List.replicate i d) : Nat)) H2 → teRep dS [some (.str (S (c :: r))), some (.int low), some (.int top), some (.bl false), none, some (.int (0 + (i : Nat)))] H2 Q2 := fun d dS ed d1 d2 H2 Q2 q2 => by
              subst ed
              have l1 : (S [d]).length = 1 := rfl
              have eR : DiM.repT (S [d]) ((0 : Int) + (i : Nat)).toNat = S (List.replicate i d) := TL.ext_tl (by
                rw [DiM.repT_tl]
                have : ((0 : Int) + (i : Nat)).toNat = i := by omega
                rw [this, tl_S, tl_S]
                generalize i = m
                induction m with
                | zero => rfl
                | succ m ih => rw [List.replicate_succ, List.flatten_cons, ih]; rfl)
              refine ⟨.str (S (c :: r)), rfl, .int (0 + (i : Nat)), rfl, S [d], _, rfl, rfl, by omega, by omega, by omega, ?_⟩
              rw [eR]
              refine ⟨S (c :: r), _, rfl, rfl, by rw [S_len (List.replicate i d), List.length_replicate]; omega, ?_⟩
              rw [S_app]
              refine ⟨_, _, rfl, SX.int_S ?_ (by simp) ?_, ?_, q2⟩
              · show ((c :: r) ++ List.replicate i d).all isDg = true
                rw [List.all_append, c2, Bool.true_and, List.all_replicate]
                have : isDg d = true := by unfold isDg; rw [decide_eq_true d1, decide_eq_true d2]; rfl
                rw [this]
                split <;> rfl
              · rw [List.length_append, List.length_replicate]; omega
              · rw [S_len, List.length_append, List.length_replicate]; omega
            have e9 : ("9" : Str) = S [57] := by decide +kernel
            refine rp 57 "9" e9 (by decide) (by decide) _ _ ⟨.int low, rfl, _, _, rfl, rfl, _, rfl, ?_⟩
            have k1 := kq G (fun _ _ e => e)
            show (if decide (low < ((valW ((c :: r) ++ n9 i) : Nat) : Int)) = true then _ else _)
            cases c4 : decide (low < ((valW ((c :: r) ++ n9 i) : Nat) : Int)) with
            | false =>
              rw [c4] at k1
              exact iteF k1
            | true =>
              rw [c4, Bool.true_and] at k1
              exact iteT (rp 48 "0" e0 (by decide) (by decide) _ _ ⟨.int top, rfl, _, _, rfl, rfl, k1⟩)
          · rw [lt]
            exact k G (s1.trans s)
end
end K14.T69
namespace K14.T69
open T27 T3
open K14.Gn
open PySem PySem.W PySem.Calls PyProof.Rows L2 LamX
open He (ga)
open SX (S)
open TL (tl pre joinL)
open Kz (SS ExtS ExtS.trans small4 same_new boot_in boot_li boot_isi Has pe_has noE PSs.of_eq new_ext X1)
/-! ### lists of words, compared -/
def okW (ws : List (List Nat)) : Prop := ∀ w ∈ ws, w.all (fun c => decide (c < 1114112)) = true
theorem lay_strs : ∀ {ws : List (List Nat)}, okW ws → PyData.canLayAll0 (ws.map fun w => PyData.str (S w)) = true ∧ PyData.depthAll (ws.map fun w => PyData.str (S w)) = 0
  | [], _ => ⟨rfl, rfl⟩
  | w :: ws, h => by
    obtain ⟨a, b⟩ := lay_strs (ws := ws) fun u m => h u (List.mem_cons_of_mem _ m)
    have hw := h w List.mem_cons_self
    have e : PyData.strOk (S w) = true := by
      show ((S w).cps.all (· < 0x110000)) = true
      rw [← Array.all_toList]
      exact hw
    refine ⟨?_, ?_⟩
    · show (PyData.canLay0 (.str (S w)) && PyData.canLayAll0 (ws.map _)) = true
      rw [a]
      show (PyData.strOk (S w) && true) = true
      rw [e]
      rfl
    · show max (PyData.depth (.str (S w))) (PyData.depthAll (ws.map _)) = 0
      rw [b]
      rfl
theorem strs_shaped {ws : List (List Nat)} (h : okW ws) : SeqAt.shaped (.list (ws.map fun w => .str (S w))) = true := by
  obtain ⟨a, b⟩ := lay_strs h
  unfold SeqAt.shaped
  show (PyData.canLayAll0 _ && decide (PyData.depthAll _ + 1 ≤ 64)) = true
  rw [a, b]
  rfl
theorem eqv_strs : ∀ ws us : List (List Nat), PyData.eqvAll (ws.map fun w => .str (S w)) (us.map fun w => .str (S w)) = decide (ws = us)
  | [], [] => rfl
  | [], u :: us => by simp [PyData.eqvAll]
  | w :: ws, [] => by simp [PyData.eqvAll]
  | w :: ws, u :: us => by
    show ((S w == S u) && PyData.eqvAll (ws.map _) (us.map _)) = _
    rw [eqv_strs ws us, Bool.eq_iff_iff, Bool.and_eq_true, beq_iff_eq, decide_eq_true_eq, decide_eq_true_eq, List.cons.injEq]
    exact ⟨fun ⟨a, b⟩ => ⟨S_inj a, b⟩, fun ⟨a, b⟩ => ⟨by rw [a], b⟩⟩
section
variable {K : Frag} {H : Hp} {a b : Addr} {ws us : List (List Nat)} {Q : VK}
theorem dp_strs (ha : H a = some (.lst (ws.map fun w => V.str (S w)))) : Dp K H (.ref a) (.list (ws.map fun w => .str (S w))) := by
  have go : ∀ ws : List (List Nat), DpAll K H (ws.map fun w => V.str (S w)) (ws.map fun w => .str (S w)) := fun ws => by
    induction ws with
    | nil => exact .nil
    | cons w ws ih => exact .cons (.str _) ih
  exact .lst (.inl (.inl ha)) (go ws)
theorem rne (ha : H a = some (.lst (ws.map fun w => V.str (S w)))) (hb : H b = some (.lst (us.map fun w => V.str (S w)))) (o1 : okW ws) (o2 : okW us) (k : Q (.bl (!decide (ws = us))) H) : rNeD K (.ref a) (.ref b) H Q := by
  refine ⟨_, _, dp_strs ha, dp_strs hb, strs_shaped o1, strs_shaped o2, ?_⟩
  show Q (.bl (!PyData.eqvAll _ _)) H
  rw [eqv_strs]
  exact k
theorem req (ha : H a = some (.lst (ws.map fun w => V.str (S w)))) (hb : H b = some (.lst (us.map fun w => V.str (S w)))) (o1 : okW ws) (o2 : okW us) (k : Q (.bl (decide (ws = us))) H) : rEqD K (.ref a) (.ref b) H Q := by
  refine ⟨_, _, dp_strs ha, dp_strs hb, strs_shaped o1, strs_shaped o2, ?_⟩
  show Q (.bl (PyData.eqvAll _ _)) H
  rw [eqv_strs]
  exact k
end
theorem num_ok {a : List Nat} (h : numW a = true) : a.all (fun c => decide (c < 1114112)) = true := by
  obtain ⟨_, _, d, _⟩ := numW_iff.mp h
  rw [List.all_eq_true]
  intro c hc
  have := d c hc
  exact decide_eq_true (by omega)
theorem rel_ok {p : Bool} {ws : List (List Nat)} {r : RS} (h : Rel p ws r) : okW ws := by
  cases h with
  | c0 => exact forall_n
  | c1 a ha hb => exact forall_c (num_ok ha) forall_n
  | s0 => exact forall_n
  | s1 => exact forall_c (by decide +kernel) forall_n
  | s2 k hk => exact forall_c (by decide +kernel) (forall_c (by rcases hk with rfl | rfl <;> decide +kernel) forall_n)
  | s3 x hx => exact forall_c (by rcases hx with rfl | rfl <;> decide +kernel) forall_n
/-! ### _law_paper_fits -/
abbrev sPf : Stmt := topS 59
abbrev NPf : List Str := ["is_pairs", "words", "word", "is_whole", "low", "some", "one"]
theorem scPf : FnScope NPf ["is_pairs", "words", "word", "is_whole"] (defScope sPf) := ⟨rfl, rfl, rfl, by decide +kernel, rfl, by decide +kernel, by decide +kernel⟩
theorem bdPf : defBody sPf = [stOf sPf 0, stOf sPf 1, stOf sPf 2, stOf sPf 3, stOf sPf 4, stOf sPf 5, stOf sPf 6] := by rfl
def ifB1 (s : Stmt) (i : Nat) : Stmt := match s with
  | .If _ b _ _ => b.getD i (.Pass ⟨0, 0, 0, 0⟩)
  | s => s
def scRetIf : Stmt → Scope
  | .Return (some (.IfExp _ _ (.Call _ [.ListComp _ _ sc _] _ _) _)) _ => sc
  | _ => defScope sNl
def pfSc : Scope := scRetIf (ifB1 (stOf sPf 4) 0)
section
variable {P : Program} {w : World} {K : Frag} {mg : Str → Option Value} {base : Heap}
/-- one[:len(word)] == word -/
abbrev teCut : TE := tOp rEq (tSl rSlS (tVar 6) tNoPart (tPart (tCB (fun xs H Q => ∃ z, xs = [.str z] ∧ z.length ≤ sizeLine ∧ Q (.int z.length) H) (tCons (tVar 2) tNil)))) (tVar 2)
def spPf : Sp := fun vs H Q _ => ∃ (p : Bool) (a : Addr) (ws : List (List Nat)) (r : RS) (x : List Nat) (b : Bool), vs = [.bl p, .ref a, .str (S x), .bl b] ∧ H a = some (.lst (ws.map fun w => V.str (S w))) ∧ Rel p ws r ∧ x ≠ [] ∧ x.length ≤ 100000 ∧ ∀ H', L2.Same H H' → Q (.bl (lawF p ws b x)) H'
theorem cut_pre (n w : List Nat) : decide (V.str (cutS (S n) none (some ((S w).length : Int))) = V.str (S w)) = pre w n := by
  have e : cutS (S n) none (some ((S w).length : Int)) = S (n.take w.length) := by
    refine TL.ext_tl ?_
    unfold cutS
    have e1 : HT.sIx (S n).length 0 none = 0 := rfl
    have e2 : HT.sIx (S n).length (S n).length (some ((S w).length : Int)) = min w.length n.length := by rw [HT.sIx_nat, S_len, S_len]
    rw [e1, e2]
    show List.take (min w.length n.length - 0) (List.drop 0 n) = n.take w.length
    rw [List.drop_zero, Nat.sub_zero, ← List.take_take, List.take_length]
  rw [e]
  unfold pre
  rw [Bool.eq_iff_iff, decide_eq_true_eq, beq_iff_eq]
  exact ⟨fun q => S_inj (V.str.inj q), fun q => by rw [q]⟩
theorem some_run {G : Hp} {d a : Addr} {b p : Bool} {x : List Nat} {ns : List (List Nat)} {a4 a6 : Option V} {Q : VK} (hd : G d = some (.lst (ns.map fun w => V.str (S w)))) (hl : x.length ≤ 100000) (hn : ns.length ≤ 10) (h10 : ∀ n ∈ ns, n.length ≤ 10) (k : ∀ G', L2.Same G G' → Q (.bl (someF ns b x)) G') :
    tIf (tB (tVar 3)) (tOp (rIn K false) (tVar 2) (tVar 5)) (tCB (rAny K) (tCons (tLc (iSq K (tVar 5)) (gName 6) tYes teCut [6]) tNil)) [some (.bl p), some (.ref a), some (.str (S x)), some (.bl b), a4, some (.ref d), a6] G Q := by
  refine ⟨.bl b, rfl, b, rfl, ?_⟩
  cases b with
  | true =>
    refine iteT ⟨.str (S x), rfl, .ref d, rfl, d, _, rfl, .inl (.inl (.inl hd)), rfl, ?_, ?_⟩
    · have : (ns.map fun w => V.str (S w)) = (ns.map S).map V.str := by rw [List.map_map]; rfl
      rw [this]
      exact Gn.flat_strs _
    · have kk := k G (fun _ _ e => e)
      have e : inV (.str (S x)) (ns.map fun w => V.str (S w)) = someF ns true x := by
        have e1 : (ns.map fun w => V.str (S w)) = (ns.map S).map V.str := by rw [List.map_map]; rfl
        rw [e1, inV_str]
        show _ = ns.contains x
        rw [Bool.eq_iff_iff, decide_eq_true_eq, List.contains_iff_mem, List.mem_map]
        exact ⟨fun ⟨w, m, e⟩ => by rw [← S_inj e]; exact m, fun m => ⟨x, m, rfl⟩⟩
      show Q (.bl (inV (.str (S x)) (ns.map fun w => V.str (S w)))) G
      rw [e]
      exact kk
  | false =>
    refine iteF ?_
    have sl := sizeLine_eq
    unfold tCB tCons tNil
    refine lc_dat (K := K) (d := .list (ns.map fun w => .str (S w))) (fun z => match z with | .str s => .bl (pre x (tl s)) | _ => .non) (fun R h => ⟨.ref d, rfl, h⟩) (.lst hd (strs_th ns)) rfl (by show (ns.map _).length ≤ _; rw [List.length_map]; omega) (fun z v G2 Q' W hW hz s tz kz => ?_) fun G2 D s nD hD => ⟨D, ns.map (pre x), rfl, .inl (.inl ?_), ?_⟩
    · obtain ⟨n, hn', rfl⟩ := List.mem_map.mp (show z ∈ ns.map _ from hz)
      cases tz with
      | str =>
        have := h10 n hn'
        refine gset (hW _ _ rfl ⟨.str (S n), rfl, .str (S x), rfl, S x, rfl, by rw [S_len]; omega, _, rfl, S n, rfl, by rw [S_len]; omega, .str (S x), rfl, rfl, ?_⟩)
        show Q' (.bl (decide (V.str (cutS (S n) none (some ((S x).length : Int))) = V.str (S x)))) G2
        rw [cut_pre]
        exact kz G2 (fun _ _ e => e)
    · rw [hD]
      show some (HO.lst ((ns.map _).map _)) = _
      rw [List.map_map, List.map_map]
      rfl
    · have e : (ns.map (pre x)).any id = someF ns false x := by
        rw [List.any_map]
        rfl
      have kk := k G2 s
      rw [← e] at kk
      exact kk
theorem ok_pf {f : Addr} {fd : FuncData} (F : FunD K "_law_paper_fits" "_law_paper_fits" (defArgs sPf) (defBody sPf) (defScope sPf) [] [] f fd) (N : NmK K mg) (NF : Has P w K mg base "_law_number_fits" 1 ["word", "low", "top", "is_whole"] spNfl) (LN : Has P w K mg base "_law_is_name" 1 ["thing"] spLn) (MB : Has P w K mg base "_law_may_be_name" 2 ["word", "taken"] spMb) (mi : mg "int" = none) (my : mg "any" = none) : FnOk P w K mg base CX0 3 f fd ["is_pairs", "words", "word", "is_whole"] spPf := by
  refine F.ok scPf (fun vs H Q E h => ?_) (fun cdv A outer s H vs Q XE hr h => ?_)
  · obtain ⟨p, a, ws, r, x, b, rfl, _⟩ := h
    rfl
  · obtain ⟨p, a, ws, r, x, b, rfl, ha, hR, x0, hl, k⟩ := h
    have hu : (XCo P w K mg base NPf "_law_paper_fits" sPf f cdv A outer s H XE).A.units + 64 < cLine := hr.units
    have a0 : PS (XCo P w K mg base NPf "_law_paper_fits" sPf f cdv A outer s H XE) (ifB1 (stOf sPf 0) 0) _ := ps_set (i := 4) scPf.nd rfl (.inl rfl) (pe_ifExp (pt_cmpR (op_neD hu) (pv 1) (pe_lst pa_nil) (nomark _)) (pe_callTy call_int_str (by rfl) mi boot_in (pa_cons (pe_ix ix_seq (pv 1) pe_int (fun _ _ => rfl)) pa_nil)) (pe_un un_neg pe_int))
    have a1 : PS (XCo P w K mg base NPf "_law_paper_fits" sPf f cdv A outer s H XE) (ifB1 (stOf sPf 0) 1) _ := ps_ret (pe_has NF (hr.mono (by decide)) (by rfl) (pa_cons (pv 2) (pa_cons (pv 4) (pa_cons (pe_ifExp (pt_cmpR (op_neD hu) (pv 1) (pe_lst pa_nil) (nomark _)) pe_int pe_int) (pa_cons (pv 3) pa_nil)))))
    have h0 : PS (XCo P w K mg base NPf "_law_paper_fits" sPf f cdv A outer s H XE) (stOf sPf 0) _ := ps_if (pw_and (pt_val (pv 0)) (pw_and1 (pt_cmpR op_lt (pe_callB call_len_seq (by rfl) N.len boot_len (pa_cons (pv 1) pa_nil)) pe_int (nomark _)))).pt (pss_cons a0 (pss_one a1)) pss_nil
    have h1 : PS (XCo P w K mg base NPf "_law_paper_fits" sPf f cdv A outer s H XE) (stOf sPf 1) _ := ps_set (i := 5) scPf.nd rfl (.inl rfl) (pe_lst pa_nil)
    have h2 : PS (XCo P w K mg base NPf "_law_paper_fits" sPf f cdv A outer s H XE) (stOf sPf 2) _ := ps_if (pt_cmpR (op_eqD hu) (pv 1) (pe_lst pa_nil) (nomark _)) (pss_one (ps_set (i := 5) scPf.nd rfl (.inl rfl) (pe_lst (pa_cons pe_str (pa_cons pe_str (pa_cons pe_str (pa_cons pe_str (pa_cons pe_str pa_nil)))))))) pss_nil
    have h3 : PS (XCo P w K mg base NPf "_law_paper_fits" sPf f cdv A outer s H XE) (stOf sPf 3) _ := ps_if (pt_cmpR (op_eqD hu) (pv 1) (pe_lst (pa_cons pe_str pa_nil)) (nomark _)) (pss_one (ps_set (i := 5) scPf.nd rfl (.inl rfl) (pe_lst (pa_cons pe_str (pa_cons pe_str pa_nil))))) pss_nil
    have a4 : PS (XCo P w K mg base NPf "_law_paper_fits" sPf f cdv A outer s H XE) (ifB1 (stOf sPf 4) 0) _ := ps_ret (pe_ifExp (pt_val (pv 3)) (pe_cmpR op_in_seq (pv 2) (pv 5) (by rfl)) (pe_callB (cr_any rfl) (by rfl) my boot_any (pa_cons (pe_lc (X := XCo P w K mg base NPf "_law_paper_fits" sPf f cdv A outer s H XE) (scope := pfSc) (own := [("one", 6)]) (g := gName 6) (tt := tYes) (te := teCut) rfl scPf.nd
      (pi_sq (pv 5)) (blkOk_by (N := NPf) (sc := defScope sPf) (by decide +kernel)) (fun _ _ _ _ _ => pg_name (i := 6) scPf.nd rfl (Or.inl rfl)) (fun _ _ _ _ _ => pts_nil)
      (fun s0 H0 C0 cl0 fp0 => by exact pe_cmpR op_eq (pe_slice sl_str (pv 6) po_none (po_some (pe_callB call_len_str (by rfl) N.len boot_len (pa_cons (pv 2) pa_nil)))) (pv 2) (nomark _))) pa_nil)))
    have h4 : PS (XCo P w K mg base NPf "_law_paper_fits" sPf f cdv A outer s H XE) (stOf sPf 4) _ := ps_if (pt_cmpR (op_neD hu) (pv 5) (pe_lst pa_nil) (nomark _)) (pss_one a4) pss_nil
    have h5 : PS (XCo P w K mg base NPf "_law_paper_fits" sPf f cdv A outer s H XE) (stOf sPf 5) _ := ps_if (pt_cmpR op_eq (pe_ix ix_seq (pv 1) pe_int (fun _ _ => rfl)) pe_str (nomark _)) (pss_one (ps_ret (pe_ifExp (pt_val (pv 3)) (pe_has LN (hr.mono (by decide)) (by rfl) (pa_cons (pv 2) pa_nil)) (pe_has MB (hr.mono (by decide)) (by rfl) (pa_cons (pv 2) (pa_cons (pe_lst pa_nil) pa_nil)))))) pss_nil
    have h6 : PS (XCo P w K mg base NPf "_law_paper_fits" sPf f cdv A outer s H XE) (stOf sPf 6) _ := ps_ret (pe_has NF (hr.mono (by decide)) (by rfl) (pa_cons (pv 2) (pa_cons (pe_un un_neg pe_int) (pa_cons pe_int (pa_cons (pv 3) pa_nil)))))
    have PP := PSs.of_eq bdPf (pss_cons h0 (pss_cons h1 (pss_cons h2 (pss_cons h3 (pss_cons h4 (pss_cons h5 (pss_one h6)))))))
    clear h0 h1 h2 h3 h4 h5 h6 a0 a1 a4
    refine ⟨_, PSs.nox PP, ?_⟩
    clear PP hu
    have ok := rel_ok hR
    have sm : ∀ {G : Hp}, L2.Same G G := fun _ _ e => e
    have sl := sizeLine_eq
    have eg : ("grow" : Str) = S tGrow := (S_tl _).symm
    have ok5 : okW stepN := by
      unfold okW
      decide +kernel
    have ok2 : okW [[120], [121]] := by
      unfold okW
      decide +kernel
    have neE : ∀ {σ : L2.St} {G : Hp} {Q' : VK}, σ[1]? = some (some (.ref a)) → L2.Same H G → (∀ G', L2.Same G G' → Q' (.bl (!decide (ws = []))) G') → tOp (rNeD K) (tVar 1) (tLst tNil) σ G Q' := fun h1 s kq => ⟨.ref a, h1, small4 0, fun q nq => rne (us := []) ((s.trans (same_new nq)) _ _ ha) upd_same ok forall_n (kq _ (same_new nq))⟩
    have eqE : ∀ {σ : L2.St} {G : Hp} {Q' : VK}, σ[1]? = some (some (.ref a)) → L2.Same H G → (∀ G', L2.Same G G' → Q' (.bl (decide (ws = []))) G') → tOp (rEqD K) (tVar 1) (tLst tNil) σ G Q' := fun h1 s kq => ⟨.ref a, h1, small4 0, fun q nq => req (us := []) ((s.trans (same_new nq)) _ _ ha) upd_same ok forall_n (kq _ (same_new nq))⟩
    have eqG : ∀ {σ : L2.St} {G : Hp} {Q' : VK}, σ[1]? = some (some (.ref a)) → L2.Same H G → (∀ G', L2.Same G G' → Q' (.bl (decide (ws = [tGrow]))) G') → tOp (rEqD K) (tVar 1) (tLst (tCons (tC (.str "grow")) tNil)) σ G Q' := fun h1 s kq => ⟨.ref a, h1, small4 1, fun q nq => req (us := [tGrow]) ((s.trans (same_new nq)) _ _ ha) (by rw [upd_same, eg]; rfl) ok (forall_c (by decide +kernel) forall_n) (kq _ (same_new nq))⟩
    refine T3.if_intro ⟨.bl p, rfl, p, rfl, ?_⟩
    cases p with
    | true =>
      refine iteT ⟨.ref a, rfl, a, _, rfl, .inl (.inl (.inl ha)), _, _, rfl, rfl, _, rfl, ?_⟩
      rw [List.length_map]
      cases hR with
      | c0 =>
        refine iteT (set_intro (i := 4) (neE rfl sm fun G1 s1 => ⟨_, rfl, iteF ⟨1, rfl, ?_⟩⟩))
        exact ⟨.str (S x), rfl, .int (-1), rfl, neE rfl s1 fun G2 s2 => ⟨_, rfl, iteF ⟨.bl b, rfl, x, -1, 999999998, b, rfl, hl, fun G3 s3 => k G3 ((s1.trans s2).trans s3)⟩⟩⟩
      | c1 a' h1 h2 =>
        obtain ⟨a1, a2, a3, a4⟩ := numW_iff.mp h1
        refine iteT (set_intro (i := 4) (neE rfl sm fun G1 s1 => ⟨_, rfl, iteT ⟨.ref a, rfl, ix_str0 (i := 0) (s1 _ _ ha) rfl ⟨S a', _, rfl, SX.int_S (dg_all.mpr a3) a1 (by omega), by rw [S_len]; omega, ?_⟩⟩⟩))
        exact ⟨.str (S x), rfl, .int (valW a' : Nat), rfl, neE rfl s1 fun G2 s2 => ⟨_, rfl, iteT ⟨.bl b, rfl, x, _, 999999999, b, rfl, hl, fun G3 s3 => k G3 ((s1.trans s2).trans s3)⟩⟩⟩
    | false =>
      refine iteF (iteF ?_)
      refine nx_intro (set_intro (i := 5) ⟨small4 0, fun d nd => ?_⟩)
      have sd := same_new (o := .lst []) nd
      have hd0 : (upd H d (.lst [])) d = some (.lst []) := upd_same
      generalize upd H d (.lst []) = G0 at sd hd0 ⊢
      refine ifS_intro (eqE rfl sd fun G1 s1 => ⟨_, rfl, ?_⟩)
      by_cases c1 : ws = []
      · rw [decide_eq_true c1]
        refine iteT ⟨small4 5, fun d2 nd2 => gset ?_⟩
        have s2 := same_new (o := .lst [.str "grow", .str "shrink", .str "turn", .str "loop", .str "unloop"]) nd2
        have hd2 : (upd G1 d2 (.lst [.str "grow", .str "shrink", .str "turn", .str "loop", .str "unloop"])) d2 = some (.lst (stepN.map fun w => V.str (S w))) := upd_same
        generalize upd G1 d2 (.lst [.str "grow", .str "shrink", .str "turn", .str "loop", .str "unloop"]) = G2 at s2 hd2 ⊢
        have S2 := (sd.trans s1).trans s2
        refine nx_intro (ifS_intro (eqG rfl S2 fun G3 s3 => ⟨_, rfl, ?_⟩))
        rw [decide_eq_false (show ¬ ws = [tGrow] from fun z => by rw [c1] at z; cases z)]
        refine iteF (nx_intro (ifS_intro ⟨.ref d2, rfl, small4 0, fun q nq => rne (us := []) ((s3.trans (same_new nq)) _ _ hd2) upd_same ok5 forall_n ⟨_, rfl, ?_⟩⟩))
        refine iteT (ret_intro (some_run ((s3.trans (same_new nq)) _ _ hd2) hl (by decide) (by decide +kernel) fun G' s' => ?_))
        have kk := k G' ((S2.trans (s3.trans (same_new nq))).trans s')
        have e : lawF false ws b x = someF stepN b x := by
          unfold lawF
          rw [if_neg (by simp), if_pos c1]
        rw [e] at kk
        exact kk
      rw [decide_eq_false c1]
      refine iteF (nx_intro (ifS_intro (eqG rfl (sd.trans s1) fun G2 s2 => ⟨_, rfl, ?_⟩)))
      have S2 := (sd.trans s1).trans s2
      by_cases c2 : ws = [tGrow]
      · rw [decide_eq_true c2]
        refine iteT ⟨small4 2, fun d2 nd2 => gset ?_⟩
        have s3 := same_new (o := .lst [.str "x", .str "y"]) nd2
        have hd2 : (upd G2 d2 (.lst [.str "x", .str "y"])) d2 = some (.lst (([[120], [121]] : List (List Nat)).map fun w => V.str (S w))) := by
          rw [upd_same]
          have ex : ("x" : Str) = S [120] := by decide +kernel
          have ey : ("y" : Str) = S [121] := by decide +kernel
          rw [ex, ey]
          rfl
        generalize upd G2 d2 (.lst [.str "x", .str "y"]) = G3 at s3 hd2 ⊢
        refine nx_intro (ifS_intro ⟨.ref d2, rfl, small4 0, fun q nq => rne (us := []) ((same_new nq) _ _ hd2) upd_same ok2 forall_n ⟨_, rfl, ?_⟩⟩)
        refine iteT (ret_intro (some_run ((same_new nq) _ _ hd2) hl (by decide) (by decide +kernel) fun G' s' => ?_))
        have kk := k G' ((S2.trans (s3.trans (same_new nq))).trans s')
        have e : lawF false ws b x = someF [[120], [121]] b x := by
          unfold lawF
          rw [if_neg (by simp), if_neg c1, if_pos c2]
        rw [e] at kk
        exact kk
      rw [decide_eq_false c2]
      have hd2 := (s1.trans s2) _ _ hd0
      refine iteF (nx_intro (ifS_intro ⟨.ref d, rfl, small4 0, fun q nq => rne (ws := []) (us := []) ((same_new nq) _ _ hd2) upd_same forall_n forall_n ⟨_, rfl, ?_⟩⟩))
      refine iteF ?_
      have S3 := S2.trans (same_new (o := .lst []) nq)
      generalize upd G2 q (.lst []) = G3 at S3 ⊢
      obtain ⟨w0, h0, e0⟩ : ∃ w0, (ws.map fun w => V.str (S w))[0]? = some (V.str (S w0)) ∧ ws.head? = some w0 := by
        cases ws with
        | nil => exact absurd rfl c1
        | cons w0 r => exact ⟨w0, rfl, rfl⟩
      refine nx_intro (ifS_intro ⟨.ref a, rfl, ix_str0 (i := 0) (S3 _ _ ha) h0 ⟨rfl, _, rfl, ?_⟩⟩)
      have ew : decide (V.str (S w0) = V.str "grow") = decide (w0 = tGrow) := by
        rw [eg, Bool.eq_iff_iff, decide_eq_true_eq, decide_eq_true_eq]
        exact ⟨fun q => S_inj (V.str.inj q), fun q => by rw [q]⟩
      rw [ew]
      have el : lawF false ws b x = (if ws.head? = some tGrow then (if b = true then nameB (.str (S x)) else bnB (S x)) else nf (-1) 999999999 b x) := by
        unfold lawF
        rw [if_neg (by simp), if_neg c1, if_neg c2]
      rw [el, e0] at k
      by_cases c3 : w0 = tGrow
      · rw [decide_eq_true c3]
        rw [if_pos (by rw [c3])] at k
        refine iteT (ret_intro ⟨.bl b, rfl, b, rfl, ?_⟩)
        cases b with
        | true => exact iteT ⟨.str (S x), rfl, x, rfl, hl, fun G' s' => k G' (S3.trans s')⟩
        | false => exact iteF ⟨.str (S x), rfl, small4 0, fun q2 nq2 => ⟨x, q2, rfl, x0, hl, upd_same, fun G' s' => k G' (S3.trans ((same_new nq2).trans s'))⟩⟩
      · rw [decide_eq_false c3]
        rw [if_neg (fun z => c3 (Option.some.inj z))] at k
        exact iteF ⟨.str (S x), rfl, 1, rfl, .bl b, rfl, x, -1, 999999999, b, rfl, hl, fun G' s' => k G' (S3.trans s')⟩
end
end K14.T69
namespace K14.T69
open T27 T3
open K14.Gn
open PySem PySem.W PySem.Calls PyProof.Rows L2 LamX
open He (ga)
open SX (S)
open TL (tl pre joinL)
open Kz (SS ExtS ExtS.trans small4 same_new boot_in boot_li boot_isi Has pe_has noE PSs.of_eq new_ext X1)
/-! ### _law_paper_read -/
abbrev sPr : Stmt := topS 60
abbrev NPr : List Str := ["is_pairs", "text", "words", "word", "found", "wide", "at", "sign", "numbers", "row", "one"]
theorem scPr : FnScope NPr ["is_pairs", "text"] (defScope sPr) := ⟨rfl, rfl, rfl, by decide +kernel, rfl, by decide +kernel, by decide +kernel⟩
theorem bdPr : defBody sPr = [stOf sPr 0, stOf sPr 1, stOf sPr 2, stOf sPr 3] := by rfl
def fbPr : Stmt := (forBody (stOf sPr 2)).getD 0 (.Pass ⟨0, 0, 0, 0⟩)
theorem bdFPr : forBody (stOf sPr 2) = [fbPr] := by rfl
def elB (s : Stmt) (i : Nat) : Stmt := match s with
  | .If _ _ b _ => b.getD i (.Pass ⟨0, 0, 0, 0⟩)
  | s => s
def scAsg : Stmt → Scope
  | .Assign _ (.ListComp _ _ sc _) _ => sc
  | _ => defScope sNl
def prSc : Scope := scAsg (ifB1 (elB fbPr 3) 1)
def wideK : List (Key × V) := [(.inr "grow", .int 3), (.inr "shrink", .int 2), (.inr "turn", .int 2), (.inr "loop", .int 1), (.inr "unloop", .int 1)]
/-- one of a row, as the law tells it -/
abbrev teOne : TE := tIf (tAnd (tB (tVar 8)) (tTest (tOp (fun x y H Q => ∃ (c : Nat) (z : Str), x = .str ⟨#[c]⟩ ∧ y = .str z ∧ Q (.bl (decide (c ∈ z.cps.toList))) H) (tOp rIxS (tVar 10) (tC (.int 0))) (tC (.str "0123456789"))))) (tCB rIntS (tCons (tVar 10) tNil)) (tVar 10)
section
variable {P : Program} {w : World} {K : Frag} {mg : Str → Option Value} {base : Heap}
theorem par3_intro {i j l : Nat} {ta : TA} {u : TS} {D : Ends} {σ : L2.St} {H : Hp} (h : ta σ H fun vs G => ∃ v w z, vs = [v, w, z] ∧ u D (((List.set σ i (some v)).set j (some w)).set l (some z)) G) : tSeq (tPar3 i j l ta) u D σ H := h
/-- the first word of a row -/
theorem head_step {ws : List (List Nat)} {r : RS} {w : List Nat} (h : Rel false ws r) (hw : lawF false ws true w = true) : ∃ w0, (ws ++ [w]).head? = some w0 ∧ w0 ∈ stepN := by
  cases h with
  | s0 => exact ⟨w, rfl, List.contains_iff_mem.mp (show stepN.contains w = true from hw)⟩
  | s1 => exact ⟨tGrow, rfl, by decide +kernel⟩
  | s2 k hk => exact ⟨tGrow, rfl, by decide +kernel⟩
  | s3 x hx => exact ⟨x, rfl, by rcases hx with rfl | rfl <;> decide +kernel⟩
theorem wide_val {g : List (List Nat)} {w0 : List Nat} (h : g.head? = some w0) (m : w0 ∈ stepN) : valV (mergeK [] wideK) (.inr (S w0)) = some (.int (wideL false g : Nat)) := by
  unfold wideL
  rw [h]
  have go : ∀ w0 ∈ stepN, valV (mergeK [] wideK) (.inr (S w0)) = some (.int ((if some w0 = some tGrow then 3 else if some w0 = some tLoop ∨ some w0 = some tUnloop then 1 else 2 : Nat) : Int)) := by
    decide +kernel
  exact go w0 m
theorem rel_len {p : Bool} {ws : List (List Nat)} {r : RS} (h : Rel p ws r) : ws.length ≤ 2 := by
  cases h <;> simp
abbrev rLenQ (K : Frag) : List V → Hp → VK → Prop := fun xs H Q => ∃ p ys, xs = [V.ref p] ∧ (SqL K H p ys ∨ SqT K H p ys) ∧ Q (.int ys.length) H
/-- whether the row is as long as it should be -/
theorem wide_run {K : Frag} {p : Bool} {ws : List (List Nat)} {r : RS} {w : List Nat} {G : Hp} {a d : Addr} {a1 a3 a4 a6 a7 a8 a9 a10 : Option V} {Q : VK} (hR : Rel p ws r) (hL : lawF p ws true w = true) (ha : G a = some (.lst ((ws ++ [w]).map fun w => V.str (S w)))) (hd : G d = some (.dK (mergeK [] wideK)))
    (k : Q (.bl (decide ((ws ++ [w]).length = wideL p (ws ++ [w])))) G) :
    tOp rEq (tCB (rLenQ K) (tCons (tVar 2) tNil)) (tIf (tB (tVar 0)) (tC (.int 2)) (tDGet (tVar 5) (tOp (rIx K) (tVar 2) (tC (.int 0))))) [some (.bl p), a1, some (.ref a), a3, a4, some (.ref d), a6, a7, a8, a9, a10] G Q := by
  have e : ∀ n m : Nat, decide (V.int (n : Nat) = V.int (m : Nat)) = decide (n = m) := fun n m => by
    rw [Bool.eq_iff_iff, decide_eq_true_eq, decide_eq_true_eq]
    exact ⟨fun z => by have := V.int.inj z; omega, fun z => by rw [z]⟩
  refine ⟨.ref a, rfl, a, _, rfl, .inl (.inl (.inl ha)), .bl p, rfl, p, rfl, ?_⟩
  rw [List.length_map]
  cases p with
  | true =>
    refine iteT ⟨rfl, ?_⟩
    show Q (.bl (decide (V.int ((ws ++ [w]).length : Nat) = V.int ((2 : Nat) : Nat)))) G
    rw [e]
    exact k
  | false =>
    obtain ⟨w0, h0, m⟩ := head_step hR hL
    have h1 : ((ws ++ [w]).map fun w => V.str (S w))[0]? = some (V.str (S w0)) := by
      rw [List.getElem?_map]
      have : (ws ++ [w])[0]? = some w0 := by rw [← List.head?_eq_getElem?]; exact h0
      rw [this]
      rfl
    refine iteF ⟨.ref d, rfl, .ref a, rfl, ix_str0 (i := 0) ha h1 ⟨d, .int (wideL false (ws ++ [w]) : Nat), rfl, ?_, rfl, ?_⟩⟩
    · have := DGet.k (k := .inr (S w0)) hd
      rw [wide_val h0 m] at this
      exact this
    · show Q (.bl (decide (V.int ((ws ++ [w]).length : Nat) = V.int (wideL false (ws ++ [w]) : Nat)))) G
      rw [e]
      exact k
/-- whether a row's numbers are told as numbers -/
def nbOf (p : Bool) (g : List (List Nat)) : Bool := p || (decide (g.head? = some tShrink) || decide (g.head? = some tTurn))
def dgV (nb : Bool) : V → V
  | .str s => if (nb && (tl s).head?.any isDg) = true then .int (valW (tl s) : Nat) else .str s
  | v => v
theorem num_head {a : List Nat} (h : numW a = true) : a.head?.any isDg = true := by
  obtain ⟨a1, _, a3, _⟩ := numW_iff.mp h
  cases a with
  | nil => exact absurd rfl a1
  | cons c r =>
    have := dg_all.mpr a3
    exact (Bool.and_eq_true_iff.mp this).1
theorem row_num {p : Bool} {g : List (List Nat)} (h : RowOk p g) (hn : nbOf p g = true) : ∀ u ∈ g, u.head?.any isDg = true → numW u = true := by
  cases h with
  | pair a b ha hb => exact forall_c (fun _ => ha) (forall_c (fun _ => hb) forall_n)
  | grow k n hk hk2 =>
    have e : nbOf false [tGrow, k, n] = false := by
      show (false || (decide (some tGrow = some tShrink) || decide (some tGrow = some tTurn))) = false
      decide +kernel
    rw [e] at hn
    cases hn
  | num x n hx hn2 => exact forall_c (fun z => by rcases hx with rfl | rfl <;> exact absurd z (by decide +kernel)) (forall_c (fun _ => hn2) forall_n)
  | one x hx => exact absurd hn (by rcases hx with rfl | rfl <;> (unfold nbOf; decide +kernel))
theorem row_own {p : Bool} {g : List (List Nat)} {G : Hp} {T : Addr} (h : RowOk p g) (hT : G T = some (.tup ((g.map fun w => V.str (S w)).map (dgV (nbOf p g))))) : Own G (.ref T) (rowD p g) [] := by
  have dg : ∀ {a : List Nat}, numW a = true → dgV true (.str (S a)) = .int (valW a : Nat) := fun {a} ha => by
    show (if (true && a.head?.any isDg) = true then _ else _) = _
    rw [num_head ha]
    rfl
  have no : ∀ v : V, dgV false v = v := fun v => by
    cases v with
    | str s => rfl
    | _ => rfl
  cases h with
  | pair a b ha hb =>
    refine .tup hT ?_
    show OwnA G [dgV true (.str (S a)), dgV true (.str (S b))] _ []
    rw [dg ha, dg hb]
    exact .cons (f := []) (g := []) (.int _) (.cons (f := []) (g := []) (.int _) .nil)
  | grow k n hk hn =>
    have e : nbOf false [tGrow, k, n] = false := by
      show (false || (decide (some tGrow = some tShrink) || decide (some tGrow = some tTurn))) = false
      decide +kernel
    have e4 : rowD false [tGrow, k, n] = .tuple ([tGrow, k, n].map fun w => .str (S w)) := by
      unfold rowD
      rw [if_neg (by decide), if_neg (show ¬ (([tGrow, k, n] : List (List Nat)).head? = some tShrink ∨ ([tGrow, k, n] : List (List Nat)).head? = some tTurn) from (by decide +kernel : ¬ (some tGrow = some tShrink ∨ some tGrow = some tTurn)))]
    rw [e] at hT
    rw [e4]
    have e5 : ((([tGrow, k, n] : List (List Nat)).map fun w => V.str (S w)).map (dgV false)) = ([tGrow, k, n] : List (List Nat)).map fun w => V.str (S w) := by
      rw [List.map_congr_left (g := id) (fun v _ => no v), List.map_id]
    rw [e5] at hT
    exact .tup hT (strs_own _)
  | one x hx =>
    have e : nbOf false [x] = false := by rcases hx with rfl | rfl <;> (unfold nbOf; decide +kernel)
    have e4 : rowD false [x] = .tuple ([x].map fun w => .str (S w)) := by
      unfold rowD
      rw [if_neg (by decide), if_neg (by rcases hx with rfl | rfl <;> decide +kernel)]
    rw [e] at hT
    rw [e4]
    have e5 : ((([x] : List (List Nat)).map fun w => V.str (S w)).map (dgV false)) = ([x] : List (List Nat)).map fun w => V.str (S w) := by
      rw [List.map_congr_left (g := id) (fun v _ => no v), List.map_id]
    rw [e5] at hT
    exact .tup hT (strs_own _)
  | num x n hx hn =>
    have e : nbOf false [x, n] = true := by rcases hx with rfl | rfl <;> (unfold nbOf; simp)
    rw [e] at hT
    have e4 : rowD false [x, n] = .tuple [.str (S x), .int (valW n : Nat)] := by
      unfold rowD
      rw [if_neg (by decide), if_pos (show ([x, n] : List (List Nat)).head? = some tShrink ∨ _ from hx.imp (fun c => by rw [c]; rfl) (fun c => by rw [c]; rfl))]
      rfl
    rw [e4]
    have ex : dgV true (.str (S x)) = .str (S x) := by
      rcases hx with rfl | rfl <;> decide +kernel
    have e5 : ((([x, n] : List (List Nat)).map fun w => V.str (S w)).map (dgV true)) = [dgV true (.str (S x)), dgV true (.str (S n))] := rfl
    rw [e5, ex, dg hn] at hT
    exact .tup hT (.cons (f := []) (g := []) (.str _) (.cons (f := []) (g := []) (.int _) .nil))
theorem row_len {p : Bool} {g : List (List Nat)} (h : RowOk p g) : ∀ u ∈ g, u.length ≤ 100000 := by
  have num : ∀ {a : List Nat}, numW a = true → a.length ≤ 100000 := fun ha => by
    have := (numW_iff.mp ha).2.1
    omega
  cases h with
  | pair a b ha hb => exact forall_c (num ha) (forall_c (num hb) forall_n)
  | grow k n hk hn =>
    refine forall_c (by decide +kernel) (forall_c (by rcases hk with rfl | rfl <;> decide +kernel) (forall_c ?_ forall_n))
    have h1 := (Bool.and_eq_true_iff.mp (show (bnB (S n) && !keptB (S n)) = true from hn)).1
    unfold bnB at h1
    have e : (S n).cps.toList = n := rfl
    rw [e] at h1
    cases n with
    | nil => exact Nat.zero_le _
    | cons c r =>
      have := of_decide_eq_true (Bool.and_eq_true_iff.mp h1).1
      rw [S_len] at this
      omega
  | num x n hx hn => exact forall_c (by rcases hx with rfl | rfl <;> decide +kernel) (forall_c (num hn) forall_n)
  | one x hx => exact forall_c (by rcases hx with rfl | rfl <;> decide +kernel) forall_n
theorem num_run {K : Frag} {p : Bool} {g : List (List Nat)} {G : Hp} {a : Addr} {a1 a3 a4 a5 a6 a7 a8 a9 a10 : Option V} {Q : VK} (h : RowOk p g) (ha : G a = some (.lst (g.map fun w => V.str (S w)))) (k : ∀ G', L2.Same G G' → Q (.bl (nbOf p g)) G') :
    tOrV (tVar 0) (tOp (rIn K false) (tOp (rIx K) (tVar 2) (tC (.int 0))) (tTup (tCons (tC (.str "shrink")) (tCons (tC (.str "turn")) tNil)))) [some (.bl p), a1, some (.ref a), a3, a4, a5, a6, a7, a8, a9, a10] G Q := by
  refine ⟨.bl p, rfl, p, rfl, ?_⟩
  cases p with
  | true => exact iteT (k G (fun _ _ e => e))
  | false =>
    obtain ⟨w0, h0, e0⟩ : ∃ w0, (g.map fun w => V.str (S w))[0]? = some (V.str (S w0)) ∧ g.head? = some w0 := by
      have := (row_free h).1
      cases g with
      | nil => exact absurd rfl this
      | cons w0 r => exact ⟨w0, rfl, rfl⟩
    refine iteF ⟨.ref a, rfl, ix_str0 (i := 0) ha h0 ⟨small4 2, fun q nq => ⟨q, _, rfl, .inr (.inl (.inl upd_same)), rfl, rfl, ?_⟩⟩⟩
    have kk := k _ (same_new (o := .tup [.str "shrink", .str "turn"]) nq)
    show Q (.bl (inV (.str (S w0)) [V.str "shrink", V.str "turn"])) _
    rw [in_st]
    have e : nbOf false g = (decide (w0 = tShrink) || decide (w0 = tTurn)) := by
      unfold nbOf
      rw [e0, Bool.false_or]
      simp
    rw [e] at kk
    exact kk
theorem one_run {p nb : Bool} {G : Hp} {u : List Nat} {a0 a1 a2 a3 a4 a5 a6 a7 a9 : Option V} {Q : VK} (u0 : u ≠ []) (ul : u.length ≤ 100000) (hn : nb = true → u.head?.any isDg = true → numW u = true) (k : Q (dgV nb (.str (S u))) G) :
    teOne [a0, a1, a2, a3, a4, a5, a6, a7, some (.bl nb), a9, some (.str (S u))] G Q := by
  obtain ⟨c, r, rfl⟩ : ∃ c r, u = c :: r := by
    cases u with
    | nil => exact absurd rfl u0
    | cons c r => exact ⟨c, r, rfl⟩
  refine ⟨.bl nb, rfl, nb, rfl, ?_⟩
  cases nb with
  | false => exact iteF (iteF ⟨.str (S (c :: r)), rfl, k⟩)
  | true =>
    refine iteT ⟨.str (S (c :: r)), rfl, S (c :: r), 0, c, rfl, rfl, by rw [S_len, sizeLine_eq]; omega, atI_nat (j := 0) rfl, c, figs, rfl, rfl, _, rfl, ?_⟩
    rw [figs_dg]
    have e : dgV true (.str (S (c :: r))) = (if isDg c = true then .int (valW (c :: r) : Nat) else .str (S (c :: r))) := rfl
    rw [e] at k
    cases hd : isDg c with
    | true =>
      rw [hd, if_pos rfl] at k
      obtain ⟨a1, a2, a3, a4⟩ := numW_iff.mp (hn rfl hd)
      exact iteT ⟨.str (S (c :: r)), rfl, S (c :: r), _, rfl, SX.int_S (dg_all.mpr a3) a1 (by omega), by rw [S_len]; omega, k⟩
    | false =>
      rw [hd, if_neg (by decide)] at k
      exact iteF ⟨.str (S (c :: r)), rfl, k⟩
theorem lawR_c (p : Bool) (ws : List (List Nat)) (w : List Nat) (fs : List (List (List Nat))) (k c : Nat) (q : List Nat) : lawR p ws w fs k (c :: q) = if sepC c = true then (if (decide (w = []) || !lawF p ws true w) = true then (some k, fs)
      else if decide (c = 10) ≠ decide ((ws ++ [w]).length = wideL p (ws ++ [w])) then (some k, fs)
      else if c = 10 then lawR p [] [] (fs ++ [ws ++ [w]]) (k + 1) q else lawR p (ws ++ [w]) [] fs (k + 1) q)
    else (if lawF p ws false (w ++ [c]) = true then lawR p ws (w ++ [c]) fs (k + 1) q else (some k, fs)) := rfl
def spPr : Sp := fun vs H Q _ => ∃ (p : Bool) (x : List Nat), vs = [.bl p, .str (S x)] ∧ x.length ≤ 100000 ∧ ∀ (H' : Hp) (t f : Addr) (ys : List V), L2.Same H H' → H' t = some (.tup [oV (lawR p [] [] [] 0 x).1, .ref f]) → H' f = some (.lst ys) → OwnA H' ys ((lawR p [] [] [] 0 x).2.map (rowD p)) [] → Q (.ref t) H'
theorem ok_pr {f : Addr} {fd : FuncData} (F : FunD K "_law_paper_read" "_law_paper_read" (defArgs sPr) (defBody sPr) (defScope sPr) [] [] f fd) (N : NmK K mg) (PF : Has P w K mg base "_law_paper_fits" 3 ["is_pairs", "words", "word", "is_whole"] spPf) (mi : mg "int" = none) (mt : mg "tuple" = none) : FnOk P w K mg base CX0 4 f fd ["is_pairs", "text"] spPr := by
  refine F.ok scPr (fun vs H Q E h => ?_) (fun cdv A outer s H vs Q XE hr h => ?_)
  · obtain ⟨p, x, rfl, _⟩ := h
    rfl
  · obtain ⟨p, x, rfl, hl, k⟩ := h
    have hu : (XCo P w K mg base NPr "_law_paper_read" sPr f cdv A outer s H XE).A.units + 64 < cLine := hr.units
    have hu1 : (XCo P w K mg base NPr "_law_paper_read" sPr f cdv A outer s H XE).A.units + 1 < cLine := by omega
    have h0 : PS (XCo P w K mg base NPr "_law_paper_read" sPr f cdv A outer s H XE) (stOf sPr 0) _ := ps_par3 (i := 2) (j := 3) (l := 4) rfl scPr.nd rfl rfl rfl (by decide) (by decide) (by decide) rfl rfl rfl (pa_cons (pe_lst pa_nil) (pa_cons pe_str (pa_cons (pe_lst pa_nil) pa_nil))) rfl
    have h1 : PS (XCo P w K mg base NPr "_law_paper_read" sPr f cdv A outer s H XE) (stOf sPr 1) _ := ps_set (i := 5) scPr.nd rfl (.inl rfl) (pe_disp (pps_cons pe_str pe_int (pps_cons pe_str pe_int (pps_cons pe_str pe_int (pps_cons pe_str pe_int (pps_cons pe_str pe_int pps_nil))))) rfl rfl (by simp) (by decide))
    have n0 : PS (XCo P w K mg base NPr "_law_paper_read" sPr f cdv A outer s H XE) (ifB1 (elB fbPr 3) 0) _ := ps_set (i := 8) scPr.nd rfl (.inr rfl) (pe_or (pv 0) (pe_one (pe_cmpR op_in_seq (pe_ix ix_seq (pv 2) pe_int (fun _ _ => rfl)) (pe_tup (pa_cons pe_str (pa_cons pe_str pa_nil))) (by rfl))))
    have n1 : PS (XCo P w K mg base NPr "_law_paper_read" sPr f cdv A outer s H XE) (ifB1 (elB fbPr 3) 1) _ := ps_setLc (X := XCo P w K mg base NPr "_law_paper_read" sPr f cdv A outer s H XE) (i := 9) (te := teOne) (scope := prSc) (own := [("one", 10)]) (g := gName 10) (tt := tYes) rfl scPr.nd rfl rfl (sw_true rfl rfl rfl (by decide +kernel))
      (pi_list (pv 2)) (blkOk_by (N := NPr) (sc := defScope sPr) (by decide +kernel)) (fun _ _ _ _ _ => pg_name (i := 10) scPr.nd rfl (Or.inl rfl)) (fun _ _ _ _ _ => pts_nil)
      (fun s0 H0 C0 cl0 fp0 => by exact pe_ifExp (pw_and (pt_val (pv 8)) (pw_and1 (pt_cmpR op_in_sign (pe_ix ix_str (pv 10) pe_int (fun _ _ => rfl)) pe_str (by rfl)))).pt (pe_callTy call_int_str (by rfl) mi boot_in (pa_cons (pv 10) pa_nil)) (pv 10))
    have n2 : PS (XCo P w K mg base NPr "_law_paper_read" sPr f cdv A outer s H XE) (ifB1 (elB fbPr 3) 2) _ := ps_expr (pe_bm PySem.F.plainAttrs_list PySem.F.slot_list_append PySem.F.type_list_append mt_append (pv 4) (pa_cons (pe_callTy call_tuple_of (by rfl) mt boot_tu (pa_cons (pv 9) pa_nil)) pa_nil))
    have n3 : PS (XCo P w K mg base NPr "_law_paper_read" sPr f cdv A outer s H XE) (ifB1 (elB fbPr 3) 3) _ := ps_set (i := 2) scPr.nd rfl (.inl rfl) (pe_lst pa_nil)
    have e3 : PS (XCo P w K mg base NPr "_law_paper_read" sPr f cdv A outer s H XE) (elB fbPr 3) _ := ps_if (pt_cmpR op_eq (pv 7) pe_str (nomark _)) (pss_cons n0 (pss_cons n1 (pss_cons n2 (pss_one n3)))) pss_nil
    have e0 : PS (XCo P w K mg base NPr "_law_paper_read" sPr f cdv A outer s H XE) (elB fbPr 0) _ := ps_if (pw_or (pt_cmpR op_eq (pv 3) pe_str (nomark _)) (pw_or1 (pt_not (pt_val (pe_has PF (hr.mono (by decide)) (by rfl) (pa_cons (pv 0) (pa_cons (pv 2) (pa_cons (pv 3) (pa_cons pe_bl pa_nil))))))))).pt (pss_one (ps_ret (pe_tup (pa_cons (pv 6) (pa_cons (pv 4) pa_nil))))) pss_nil
    have e1 : PS (XCo P w K mg base NPr "_law_paper_read" sPr f cdv A outer s H XE) (elB fbPr 1) _ := ps_par (i := 2) (j := 3) rfl scPr.nd rfl rfl (by decide) rfl rfl (pa_cons (pe_op op_cat (pv 2) (pe_lst (pa_cons (pv 3) pa_nil))) (pa_cons pe_str pa_nil)) rfl
    have e2 : PS (XCo P w K mg base NPr "_law_paper_read" sPr f cdv A outer s H XE) (elB fbPr 2) _ := ps_if (pt_cmpR op_ne (pe_cmpR op_eq (pv 7) pe_str (nomark _)) (pe_cmpR op_eq (pe_callB call_len_seq (by rfl) N.len boot_len (pa_cons (pv 2) pa_nil)) (pe_ifExp (pt_val (pv 0)) pe_int (pe_dget hu1 (pv 5) (pe_ix ix_seq (pv 2) pe_int (fun _ _ => rfl)) (fun _ _ => rfl))) (nomark _)) (nomark _)) (pss_one (ps_ret (pe_tup (pa_cons (pv 6) (pa_cons (pv 4) pa_nil))))) pss_nil
    have b0 : PS (XCo P w K mg base NPr "_law_paper_read" sPr f cdv A outer s H XE) fbPr _ := ps_if (pt_cmpR op_notIn_seq (pv 7) (pe_tup (pa_cons pe_str (pa_cons pe_str pa_nil))) (by rfl))
      (pss_cons (ps_set (i := 3) scPr.nd rfl (.inl rfl) (pe_op op_add_str (pv 3) (pv 7)))
      (pss_one (ps_if (pt_not (pt_val (pe_has PF (hr.mono (by decide)) (by rfl) (pa_cons (pv 0) (pa_cons (pv 2) (pa_cons (pv 3) (pa_cons pe_bl pa_nil))))))) (pss_one (ps_ret (pe_tup (pa_cons (pv 6) (pa_cons (pv 4) pa_nil))))) pss_nil)))
      (pss_cons e0 (pss_cons e1 (pss_cons e2 (pss_one e3))))
    have h2 : PS (XCo P w K mg base NPr "_law_paper_read" sPr f cdv A outer s H XE) (stOf sPr 2) _ := ps_for PassesOwn.never rfl (EnS.pi_enS (by rfl) N.enu (pa_cons (pv 1) pa_nil)) (pg_tup (n := 2) rfl (pgs_cons (pg_name (i := 6) scPr.nd rfl (.inl rfl)) (pgs_cons (pg_name (i := 7) scPr.nd rfl (.inl rfl)) pgs_nil))) (PSs.of_eq bdFPr (pss_one b0))
    have h3 : PS (XCo P w K mg base NPr "_law_paper_read" sPr f cdv A outer s H XE) (stOf sPr 3) _ := ps_ret (pe_tup (pa_cons (pe_ifExp (pw_and (pt_cmpR (op_eqD hu) (pv 2) (pe_lst pa_nil) (nomark _)) (pw_and1 (pt_cmpR op_eq (pv 3) pe_str (nomark _)))).pt pe_non (pe_callB call_len_str (by rfl) N.len boot_len (pa_cons (pv 1) pa_nil))) (pa_cons (pv 4) pa_nil)))
    have PP := PSs.of_eq bdPr (pss_cons h0 (pss_cons h1 (pss_cons h2 (pss_one h3))))
    clear h0 h1 h2 h3 b0 e0 e1 e2 e3 n0 n1 n2 n3
    refine ⟨_, PSs.nox PP, ?_⟩
    clear PP hu hu1
    have sm : ∀ {G : Hp}, L2.Same G G := fun _ _ e => e
    have sl := sizeLine_eq
    have es : ("" : Str) = S [] := by decide +kernel
    refine par3_intro ⟨small4 0, fun a0 na0 => ⟨small4 0, fun f0 nf0 => ⟨_, _, _, rfl, ?_⟩⟩⟩
    have s1 := same_new (o := .lst []) na0
    have s2 := same_new (o := .lst []) nf0
    refine set_intro (i := 5) ?_
    refine fun d nd => ⟨upd_same, wideK, rfl, by decide, ?_⟩
    have s3 := same_new (o := .dK []) nd
    have nf00 : H f0 = none := s1.free nf0
    have fa : f0 ≠ a0 := (ne_of_none upd_same nf0).symm
    have fd0 : f0 ≠ d := ne_of_none upd_same nd
    have ad : a0 ≠ d := ne_of_none (s2 a0 _ upd_same) nd
    have hd0 : (upd (upd (upd (upd H a0 (.lst [])) f0 (.lst [])) d (.dK [])) d (.dK (mergeK [] wideK))) d = some (.dK (mergeK [] wideK)) := upd_same
    have S3 : L2.Same H (upd (upd (upd (upd H a0 (.lst [])) f0 (.lst [])) d (.dK [])) d (.dK (mergeK [] wideK))) := fun b o e => by
      have nb : b ≠ d := ne_of_none ((s1.trans s2) _ _ e) nd
      rw [upd_ne nb]
      exact s3 _ _ ((s1.trans s2) _ _ e)
    have hf0 : (upd (upd (upd (upd H a0 (.lst [])) f0 (.lst [])) d (.dK [])) d (.dK (mergeK [] wideK))) f0 = some (.lst []) := by rw [upd_ne fd0, upd_ne fd0, upd_same]
    have ha0 : (upd (upd (upd (upd H a0 (.lst [])) f0 (.lst [])) d (.dK [])) d (.dK (mergeK [] wideK))) a0 = some (.lst []) := by rw [upd_ne ad, upd_ne ad, upd_ne fa.symm, upd_same]
    generalize upd (upd (upd (upd H a0 (.lst [])) f0 (.lst [])) d (.dK [])) d (.dK (mergeK [] wideK)) = G0 at hd0 S3 hf0 ha0 ⊢
    refine T3.for_enT (x := S x) (i1 := 6) (i2 := 7) (fun R h => ⟨.str (S x), rfl, h⟩) (fun j σ G => ∃ (ws : List (List Nat)) (w : List Nat) (r : RS) (fs : List (List (List Nat))) (a : Addr) (ys : List V) (a6 a7 a8 a9 : Option V), σ = [some (.bl p), some (.str (S x)), some (.ref a), some (.str (S w)), some (.ref f0), some (.ref d), a6, a7, a8, a9, none] ∧
        L2.Same H G ∧ G a = some (.lst (ws.map fun w => V.str (S w))) ∧ G f0 = some (.lst ys) ∧ f0 ≠ a ∧ G d = some (.dK (mergeK [] wideK)) ∧ OwnA G ys (fs.map (rowD p)) [] ∧ fs.length ≤ j ∧ Rel p ws r ∧ (w = [] ∨ begR r w = true) ∧ w.length ≤ j ∧ lawR p [] [] [] 0 x = lawR p ws w fs j (x.drop j))
      ⟨[], [], rs0 p, [], a0, [], none, none, none, none, rfl, S3, ha0, hf0, fa, hd0, .nil, Nat.le_refl _, rel0 p, .inl rfl, Nat.le_refl _, rfl⟩ (fun j c σ G hc e G' e' => ?_) (fun σ G e => ?_)
    · obtain ⟨ws, w, r, fs, a, ys, a6, a7, a8, a9, rfl, sG, ha, hf, fna, hd, ow, lf, hR, hB, lw, es2⟩ := e
      have hc : x[j]? = some c := hc
      obtain ⟨jl, ec⟩ := List.getElem?_eq_some_iff.mp hc
      rw [List.drop_eq_getElem_cons jl, ec, lawR_c] at es2
      have S' := sG.trans e'
      have fin : ∀ {a2 : Addr} {v3 a7 a8 a9 : Option V} {G2 : Hp}, lawR p [] [] [] 0 x = (some j, fs) → L2.Same G' G2 → (tRet (tTup (tCons (tVar 6) (tCons (tVar 4) tNil)))) { nx := fun x H' => Q V.non H', rt := Q } [some (.bl p), some (.str (S x)), some (.ref a2), v3, some (.ref f0), some (.ref d), some (.int (j : Nat)), a7, a8, a9, none] G2 := fun {a2 v3 a7 a8 a9} {G2} e1 s4 => by
        refine ⟨.int (j : Nat), rfl, .ref f0, rfl, small4 2, fun t nt => ?_⟩
        have st := same_new (o := .tup [.int (j : Nat), .ref f0]) nt
        have kk := k
        rw [e1] at kk
        exact kk _ t f0 ys ((S'.trans s4).trans st) upd_same (st _ _ (s4 _ _ (e' _ _ hf))) (((ow.ext e').ext s4).ext st)
      refine ⟨.str ⟨#[c]⟩, rfl, small4 2, fun q nq => ⟨q, _, rfl, .inr (.inl (.inl upd_same)), rfl, rfl, _, rfl, ?_⟩⟩
      have sq := same_new (o := .tup [.str " ", .str "\n"]) nq
      show (if (!inV (.str ⟨#[c]⟩) [V.str " ", V.str "\n"]) = true then _ else _)
      rw [scan_S]
      cases hs : sepC c with
      | false =>
        rw [hs, if_neg (by decide)] at es2
        have ew : S w ++ (⟨#[c]⟩ : Str) = S (w ++ [c]) := S_app w [c]
        refine iteT ⟨.str (S w), rfl, .str ⟨#[c]⟩, rfl, S w, ⟨#[c]⟩, rfl, rfl, by rw [S_len]; show w.length + 1 ≤ _; omega, ?_⟩
        rw [ew]
        refine gset ?_
        refine ⟨.bl p, rfl, .ref a, rfl, .str (S (w ++ [c])), rfl, p, a, ws, r, w ++ [c], false, rfl, sq _ _ (e' _ _ ha), hR, by simp, by rw [List.length_append]; show w.length + 1 ≤ _; omega, fun G2 s2 => ⟨_, rfl, ?_⟩⟩
        have eb := rel_beg hR (w ++ [c]) (by simp)
        cases hB2 : lawF p ws false (w ++ [c]) with
        | false =>
          rw [hB2, if_neg (by decide)] at es2
          exact iteT (fin es2 (sq.trans s2))
        | true =>
          rw [hB2, if_pos rfl] at es2
          rw [hB2] at eb
          have T := e'.trans (sq.trans s2)
          exact iteF ⟨ws, w ++ [c], r, fs, a, ys, some (.int (j : Nat)), some (.str ⟨#[c]⟩), a8, a9, rfl, sG.trans T, T _ _ ha, T _ _ hf, fna, T _ _ hd, ow.ext T, by omega, hR, .inr eb.symm, by rw [List.length_append]; show w.length + 1 ≤ _; omega, es2⟩
      | true =>
        rw [hs, if_pos rfl] at es2
        have ew : decide (V.str (S w) = V.str "") = decide (w = []) := by
          rw [es, Bool.eq_iff_iff, decide_eq_true_eq, decide_eq_true_eq]
          exact ⟨fun q => S_inj (V.str.inj q), fun q => by rw [q]⟩
        refine iteF (ifS_intro ⟨.str (S w), rfl, rfl, _, rfl, ?_⟩)
        rw [ew]
        by_cases w0 : w = []
        · rw [decide_eq_true w0, Bool.true_or, if_pos rfl] at es2
          rw [decide_eq_true w0]
          exact iteT (iteT (fin es2 sq))
        rw [decide_eq_false w0, Bool.false_or] at es2
        rw [decide_eq_false w0]
        refine iteF ⟨.bl p, rfl, .ref a, rfl, .str (S w), rfl, p, a, ws, r, w, true, rfl, sq _ _ (e' _ _ ha), hR, w0, by omega, fun G2 s2 => ⟨_, rfl, ?_⟩⟩
        cases hL : lawF p ws true w with
        | false =>
          rw [hL] at es2
          exact iteT (fin es2 (sq.trans s2))
        | true =>
          rw [hL, if_neg (by decide)] at es2
          have T2 := e'.trans (sq.trans s2)
          refine iteF (nx_intro (par_intro ⟨.ref a, rfl, .str (S w), rfl, small4 1, fun b nb => ?_⟩))
          have s5 := same_new (o := .lst [.str (S w)]) nb
          refine ⟨a, b, _, _, rfl, rfl, s5 _ _ (T2 _ _ ha), upd_same, ?_, fun a2 na2 => ⟨_, _, rfl, ?_⟩⟩
          · rw [List.length_map, sizeLine_eq]
            have := rel_len hR
            show ws.length + 1 ≤ _
            omega
          have s6 := same_new (o := .lst ((ws.map fun w => V.str (S w)) ++ [.str (S w)])) na2
          have ha2 : (upd (upd G2 b (.lst [.str (S w)])) a2 (.lst ((ws.map fun w => V.str (S w)) ++ [.str (S w)]))) a2 = some (.lst ((ws ++ [w]).map fun w => V.str (S w))) := by
            rw [upd_same, List.map_append]
            rfl
          have TT3 := T2.trans (s5.trans s6)
          have fa2 : f0 ≠ a2 := ne_of_none ((T2.trans s5) _ _ hf) na2
          have s26 := (sq.trans s2).trans (s5.trans s6)
          generalize upd (upd G2 b (.lst [.str (S w)])) a2 (.lst ((ws.map fun w => V.str (S w)) ++ [.str (S w)])) = G3 at ha2 TT3 s26 ⊢
          clear s6 s5 na2 nb
          obtain ⟨ee1, ee2⟩ := rel_end hR hB (decide (c = 10))
          rw [decide_eq_false w0, hL] at ee1
          refine ifS_intro ⟨.str ⟨#[c]⟩, rfl, rfl, wide_run hR hL ha2 (TT3 _ _ hd) ⟨rfl, _, rfl, ?_⟩⟩
          have eN : (!decide (V.bl (decide (V.str ⟨#[c]⟩ = V.str "\n")) = V.bl (decide ((ws ++ [w]).length = wideL p (ws ++ [w]))))) = decide (decide (c = 10) ≠ decide ((ws ++ [w]).length = wideL p (ws ++ [w]))) := by
            rw [nl_sign]
            generalize decide ((ws ++ [w]).length = wideL p (ws ++ [w])) = b1
            generalize decide (c = 10) = b2
            cases b1 <;> cases b2 <;> decide +kernel
          show (if (!decide (V.bl (decide (V.str ⟨#[c]⟩ = V.str "\n")) = V.bl (decide ((ws ++ [w]).length = wideL p (ws ++ [w]))))) = true then _ else _)
          rw [eN]
          by_cases cc : decide (c = 10) ≠ decide ((ws ++ [w]).length = wideL p (ws ++ [w]))
          · rw [if_pos cc] at es2
            rw [decide_eq_true cc]
            exact iteT (fin es2 s26)
          rw [if_neg cc] at es2
          rw [decide_eq_false cc]
          have cc2 : decide (c = 10) = decide ((ws ++ [w]).length = wideL p (ws ++ [w])) := Classical.byContradiction cc
          have eE : endR r w (decide (c = 10)) = true := by rw [ee1, ← cc2]; simp
          obtain ⟨r1, r2⟩ := ee2 eE
          refine iteF (nx_intro (T3.if_intro ⟨.str ⟨#[c]⟩, rfl, rfl, _, rfl, ?_⟩))
          rw [nl_sign]
          have SG3 := sG.trans TT3
          cases c10 : decide (c = 10) with
          | false =>
            have n10 : ¬ c = 10 := of_decide_eq_false c10
            rw [if_neg n10] at es2
            exact iteF ⟨ws ++ [w], [], _, fs, a2, ys, some (.int (j : Nat)), some (.str ⟨#[c]⟩), a8, a9, by rw [← es]; rfl, SG3, ha2, TT3 _ _ hf, fa2, TT3 _ _ hd, ow.ext TT3, by omega, r1 c10, .inl rfl, Nat.zero_le _, es2⟩
          | true =>
            have y10 : c = 10 := of_decide_eq_true c10
            rw [if_pos y10] at es2
            obtain ⟨rR, rO⟩ := r2 c10
            have rf := row_free rO
            refine iteT (set_intro (i := 8) (num_run rO ha2 fun G4 s4 => ?_))
            have ha4 := s4 _ _ ha2
            have lg : (ws ++ [w]).length ≤ 3 := by
              have := rel_len hR
              rw [List.length_append]
              show ws.length + 1 ≤ 3
              omega
            refine set_intro (i := 9) ?_
            refine lc_lstF (K := K) (k := 10) (xs := (ws ++ [w]).map fun w => V.str (S w)) (dgV (nbOf p (ws ++ [w]))) (fun R h => ⟨.ref a2, rfl, h a2 G4 (fun _ _ e => e) ha4⟩) (by rw [List.length_map]; omega) (fun _ => rfl) (fun v G5 Q' hv s5 kv => ?_) (fun G5 D s5 nD hD => ?_)
            · obtain ⟨u, hu, rfl⟩ := List.mem_map.mp hv
              exact one_run (p := p) (rf.2 u hu).1 (row_len rO u hu) (fun h => row_num rO h u hu) (kv G5 (fun _ _ e => e))
            · have TG5 := TT3.trans (s4.trans s5)
              have hf5 := TG5 _ _ hf
              have jx : j < x.length := jl
              have ly : ys.length = fs.length := by
                have := ow.len
                rw [List.length_map] at this
                exact this
              refine ⟨.ref f0, rfl, .inl ⟨rfl, _, .inl (.inl hf5)⟩, .ref D, rfl, D, _, rfl, .inl ⟨.inl (.inl hD), fun T nT => ⟨f0, ys, .ref T, rfl, rfl, ?_, by rw [sl, ly]; omega, ?_⟩⟩⟩
              · rw [upd_ne (ne_of_none hf5 nT)]
                exact hf5
              have nfT : f0 ≠ T := ne_of_none hf5 nT
              refine ⟨small4 0, fun a3 na3 => gset ?_⟩
              have kp : ∀ b o, G b = some o → b ≠ f0 → (upd (upd (upd G5 T (.tup (((ws ++ [w]).map fun w => V.str (S w)).map (dgV (nbOf p (ws ++ [w])))))) f0 (.lst (ys ++ [.ref T]))) a3 (.lst [])) b = some o := fun b o e nb => by
                have e5 := TG5 _ _ e
                have b1 : b ≠ T := ne_of_none e5 nT
                have e7 : (upd (upd G5 T (.tup (((ws ++ [w]).map fun w => V.str (S w)).map (dgV (nbOf p (ws ++ [w])))))) f0 (.lst (ys ++ [.ref T]))) b = some o := by
                  rw [upd_ne nb, upd_ne b1]
                  exact e5
                rw [upd_ne (ne_of_none e7 na3)]
                exact e7
              have h7f : (upd (upd G5 T (.tup (((ws ++ [w]).map fun w => V.str (S w)).map (dgV (nbOf p (ws ++ [w])))))) f0 (.lst (ys ++ [.ref T]))) f0 = some (.lst (ys ++ [.ref T])) := upd_same
              have h7T : (upd (upd G5 T (.tup (((ws ++ [w]).map fun w => V.str (S w)).map (dgV (nbOf p (ws ++ [w])))))) f0 (.lst (ys ++ [.ref T]))) T = some (.tup (((ws ++ [w]).map fun w => V.str (S w)).map (dgV (nbOf p (ws ++ [w]))))) := by rw [upd_ne nfT.symm, upd_same]
              refine ⟨[], [], _, fs ++ [ws ++ [w]], a3, ys ++ [.ref T], some (.int (j : Nat)), some (.str ⟨#[c]⟩), some (.bl (nbOf p (ws ++ [w]))), some (.ref D), by rw [← es]; rfl, fun b o e => kp b o (sG _ _ e) (ne_of_none e nf00), upd_same, ?_, ne_of_none h7f na3, kp d _ hd (fun z => by rw [z, hf] at hd; cases hd), ?_, ?_, rR, .inl rfl, Nat.zero_le _, ?_⟩
              · rw [upd_ne (ne_of_none h7f na3)]
                exact h7f
              · have em : (fs ++ [ws ++ [w]]).map (rowD p) = fs.map (rowD p) ++ [rowD p (ws ++ [w])] := by
                  rw [List.map_append]
                  rfl
                rw [em]
                refine OwnA.snoc (ow.keep (fun b m => nomatch m) fun b xs e => kp b _ e fun z => by rw [z, hf] at e; cases e) (row_own rO ?_)
                rw [upd_ne (ne_of_none h7T na3)]
                exact h7T
              · rw [List.length_append]
                show fs.length + 1 ≤ j + 1
                omega
              · exact es2
    · obtain ⟨ws, w, r, fs, a, ys, a6, a7, a8, a9, rfl, sG, ha, hf, fna, hd, ow, lf, hR, hB, lw, es2⟩ := e
      have lx : (TL.tl (S x)).length = x.length := rfl
      rw [lx, List.drop_length] at es2
      have e1 : lawR p [] [] [] 0 x = (if ws = [] ∧ w = [] then none else some x.length, fs) := es2
      rw [e1] at k
      have ew : decide (V.str (S w) = V.str "") = decide (w = []) := by
        rw [es, Bool.eq_iff_iff, decide_eq_true_eq, decide_eq_true_eq]
        exact ⟨fun q => S_inj (V.str.inj q), fun q => by rw [q]⟩
      have fin : ∀ (G2 : Hp) (o : Option Nat), L2.Same G G2 → o = (if ws = [] ∧ w = [] then none else some x.length) → (tCons (tVar 4) tNil) [some (.bl p), some (.str (S x)), some (.ref a), some (.str (S w)), some (.ref f0), some (.ref d), a6, a7, a8, a9, none] G2 fun vs H1 => (oV o :: vs).length ≤ sizeLine ∧ ∀ t, H1 t = none → Q (.ref t) (upd H1 t (.tup (oV o :: vs))) := fun G2 o s4 eo => by
        refine ⟨.ref f0, rfl, small4 2, fun t nt => ?_⟩
        have st := same_new (o := .tup [oV o, .ref f0]) nt
        subst eo
        exact k _ t f0 ys ((sG.trans s4).trans st) upd_same (st _ _ (s4 _ _ hf)) ((ow.ext s4).ext st)
      refine ret_intro ?_
      refine ⟨.ref a, rfl, small4 0, fun q nq => req (us := []) ((same_new nq) _ _ ha) upd_same (rel_ok hR) forall_n ⟨_, rfl, ?_⟩⟩
      by_cases c1 : ws = []
      · rw [decide_eq_true c1]
        refine iteT ⟨.str (S w), rfl, rfl, _, rfl, ?_⟩
        rw [ew]
        by_cases c2 : w = []
        · rw [decide_eq_true c2]
          exact iteT (fin _ none (same_new nq) (by rw [if_pos ⟨c1, c2⟩]))
        · rw [decide_eq_false c2]
          exact iteF ⟨.str (S x), rfl, S x, rfl, by rw [S_len]; omega, fin _ (some (S x).length) (same_new nq) (by rw [if_neg (fun z => c2 z.2), S_len])⟩
      · rw [decide_eq_false c1]
        exact iteF (iteF ⟨.str (S x), rfl, S x, rfl, by rw [S_len]; omega, fin _ (some (S x).length) (same_new nq) (by rw [if_neg (fun z => c1 z.1), S_len])⟩)
end
end K14.T69
namespace K14.T69
open T27 T3
open K14.Gn
open PySem PySem.W PySem.Calls PyProof.Rows L2 LamX
open He (ga)
open SX (S)
open TL (tl pre joinL)
open Kz (SS ExtS ExtS.trans small4 same_new boot_in boot_li boot_isi Has pe_has noE PSs.of_eq new_ext X1)
/-! ### _law_paper_text, _law_asked -/
abbrev sPt : Stmt := topS 61
theorem scPt : FnScope ["paper", "row", "word"] ["paper"] (defScope sPt) := ⟨rfl, rfl, rfl, by decide +kernel, rfl, by decide +kernel, by decide +kernel⟩
theorem bdPt : defBody sPt = [stOf sPt 0] := by rfl
def scRetL2 : Stmt → Scope
  | .Return (some (.Call _ [.ListComp (.Call _ [.ListComp _ _ sc _] _ _) _ _ _] _ _)) _ => sc
  | _ => defScope sNl
def ptSc1 : Scope := scRetJ (stOf sPt 0)
def ptSc2 : Scope := scRetL2 (stOf sPt 0)
section
variable {P : Program} {w : World} {K : Frag} {mg : Str → Option Value} {base : Heap}
/-- texts and numbers alone -/
def strI (y : PyData) : Prop := (∃ s, y = .str s) ∨ ∃ i : Int, y = .int i ∧ i.natAbs.log2 < 1920
theorem call1_intro {sp : Sp} {te : TE} {E : XK} {σ : L2.St} {H : Hp} {Q : VK} (h : te σ H fun v G => sp [v] G Q E) : tCall sp [] E (tCons te tNil) σ H Q := h
def spPt : Sp := fun vs H Q _ => ∃ (v : V) (d : PyData), vs = [v] ∧ Th H v d ∧ isL d = true ∧ okP d ∧ (∀ z ∈ its d, isL z = true ∧ ∀ y ∈ its z, strI y) ∧ (textD d).length ≤ 100000 ∧ ∀ H', L2.Same H H' → Q (.str (textD d)) H'
theorem ok_pt {f : Addr} {fd : FuncData} (F : FunD K "_law_paper_text" "_law_paper_text" (defArgs sPt) (defBody sPt) (defScope sPt) [] [] f fd) (LL : Has P w K mg base "_law_line" 1 ["words"] spLl) (ms : mg "str" = none) : FnOk P w K mg base CX0 2 f fd ["paper"] spPt := by
  refine F.ok scPt (fun vs H Q E h => ?_) (fun cdv A outer s H vs Q XE hr h => ?_)
  · obtain ⟨v, d, rfl, _⟩ := h
    rfl
  · obtain ⟨v, d, rfl, hv, l, hok, hS, hl, k⟩ := h
    have h1 : PS (XCo P w K mg base ["paper", "row", "word"] "_law_paper_text" sPt f cdv A outer s H XE) (stOf sPt 0) _ := ps_ret (pe_join pe_str (pe_lc (X := XCo P w K mg base ["paper", "row", "word"] "_law_paper_text" sPt f cdv A outer s H XE) (scope := ptSc1) (own := [("row", 1)]) (g := gName 1) (tt := tYes) (te := tCall spLl [] noE (tCons (tLc (iSq K (tVar 1)) (gName 2) tYes (teStr 2) [2]) tNil)) rfl scPt.nd (pi_sq (pv 0)) (blkOk_by (N := ["paper", "row", "word"]) (sc := defScope sPt) (by decide +kernel))
      (fun _ _ _ _ _ => pg_name (i := 1) scPt.nd rfl (Or.inl rfl)) (fun _ _ _ _ _ => pts_nil)
      (fun s0 H0 C0 cl0 fp0 => by exact pe_has LL (hr.mono (by decide)) (by rfl) (pa_cons (pe_lc (X := Cx.blk (XCo P w K mg base ["paper", "row", "word"] "_law_paper_text" sPt f cdv A outer s H XE) s0 H0 ptSc1 (compEnvC ptSc1 cl0 C0 (Cx.env (XCo P w K mg base ["paper", "row", "word"] "_law_paper_text" sPt f cdv A outer s H XE))) fp0) (scope := ptSc2) (own := [("word", 2)]) (g := gName 2) (tt := tYes) (te := teStr 2) rfl scPt.nd (pi_sq (pv 1)) (blkOk_by (N := ["paper", "row", "word"]) (sc := ptSc1) (by decide +kernel))
        (fun _ _ _ _ _ => pg_name (i := 2) scPt.nd rfl (Or.inl rfl)) (fun _ _ _ _ _ => pts_nil) (fun s1 H1 C1 cl1 fp1 => by exact pe_alt (pe_callTy call_str_int (by rfl) ms boot_st (pa_cons (pv 2) pa_nil)) (pe_callTy SkE.call_str_str (by rfl) ms boot_st (pa_cons (pv 2) pa_nil)))) pa_nil))))
    refine ⟨_, PSs.nox (PSs.of_eq bdPt (pss_one h1)), ?_⟩
    clear h1
    have e0 : ("" : Str).length = 0 := by decide +kernel
    have e1 : (" " : Str).length = 1 := by decide +kernel
    have e2 : ("\n" : Str).length = 1 := by decide +kernel
    refine ret_intro (joinS ?_)
    refine lc_dat (K := K) (fun z => .str (lineD z)) (fun R h => ⟨v, rfl, h⟩) hv l hok.1 (fun z x G Q' W hW hz s tz kz => ?_) fun G D s3 nD hD => ⟨"", D, (its d).map lineD, rfl, rfl, .inl (.inl (.inl (by rw [List.map_map]; exact hD))), ?_, ?_⟩
    · obtain ⟨lS, hP⟩ := hS z hz
      have lz := line_bnd hz
      have el : (lineD z).length = (Txt.join " " ((its z).map shows)).length + 1 := by
        show (Txt.join " " ((its z).map shows) ++ "\n").length = _
        rw [len_app, e2]
      refine gset (hW _ _ rfl (call1_intro ?_))
      refine lc_dat (K := K) (fun y => .str (shows y)) (fun R h => ⟨x, rfl, h⟩) tz lS (hok.2 z hz).1 (fun y u G2 Q2 W2 hW2 hy s4 ty ky => ?_) fun G2 D2 s4 nD2 hD2 => ⟨D2, (its z).map shows, rfl, by rw [List.map_map]; exact hD2, by omega, kz G2 s4⟩
      refine gset (hW2 _ _ rfl ?_)
      rcases hP y hy with ⟨t, rfl⟩ | ⟨i, rfl, gi⟩
      · cases ty
        exact .inr ⟨.str t, rfl, t, rfl, ky G2 (fun _ _ e => e)⟩
      · cases ty
        exact .inl ⟨.int i, rfl, i, rfl, gi, ky G2 (fun _ _ e => e)⟩
    · have := join_bnd "" ((its d).map lineD)
      have e3 : (textD d).length = (Txt.join "" ((its d).map lineD)).length := rfl
      omega
    · exact k G s3
end
end K14.T69
namespace K14.T69
open T27 T3
open K14.Gn
open PySem PySem.W PySem.Calls PyProof.Rows L2 LamX
open He (ga)
open SX (S)
open TL (tl pre joinL)
open Kz (SS ExtS ExtS.trans small4 same_new boot_in boot_li boot_isi Has pe_has noE PSs.of_eq new_ext X1)
/-! ### _law_index, _law_course_drawn, _law_steps_drawn -/
abbrev sIx : Stmt := topS 62
theorem scIx : FnScope ["stream", "some"] ["stream"] (defScope sIx) := ⟨rfl, rfl, rfl, by decide +kernel, rfl, by decide +kernel, by decide +kernel⟩
theorem bdIx : defBody sIx = [stOf sIx 0, stOf sIx 1] := by rfl
section
variable {P : Program} {w : World} {K : Frag} {mg : Str → Option Value} {base : Heap}
def spIx : Sp := fun vs H Q _ => ∃ (l li : Addr) (c : Int), vs = [.ref l] ∧ Spr H l li c ∧ c < 800000000 ∧ ∀ (H' : Hp) (i : Int), ExtS l li H H' → Spr H' l li (c + 3) → 0 ≤ i → i < 1000000000 → Q (.int i) H'
theorem ok_ix {f : Addr} {fd : FuncData} (F : FunD K "_law_index" "_law_index" (defArgs sIx) (defBody sIx) (defScope sIx) [] [] f fd) (D : Has P w K mg base "_law_draw" 1 ["stream", "many"] spDrW) (PK : Has P w K mg base "_law_pick" 2 ["stream", "some"] spPk) : FnOk P w K mg base CX0 3 f fd ["stream"] spIx := by
  refine F.ok scIx (fun vs H Q E h => ?_) (fun cdv A outer s H vs Q XE hr h => ?_)
  · obtain ⟨l, li, c, rfl, _⟩ := h
    rfl
  · obtain ⟨l, li, c, rfl, sp, hc, k⟩ := h
    have h0 : PS (XCo P w K mg base ["stream", "some"] "_law_index" sIx f cdv A outer s H XE) (stOf sIx 0) _ := ps_set (i := 1) scIx.nd rfl (.inl rfl) (pe_lst (pa_cons pe_int (pa_cons pe_int (pa_cons pe_int (pa_cons pe_int (pa_cons pe_int (pa_cons pe_int (pa_cons pe_int (pa_cons pe_int (pa_cons pe_int (pa_cons (pe_has D (hr.mono (by decide)) (by rfl) (pa_cons (pv 0) (pa_cons pe_int pa_nil))) (pa_cons (pe_has D (hr.mono (by decide)) (by rfl) (pa_cons (pv 0) (pa_cons pe_int pa_nil))) pa_nil))))))))))))
    have h1 : PS (XCo P w K mg base ["stream", "some"] "_law_index" sIx f cdv A outer s H XE) (stOf sIx 1) _ := ps_ret (pe_has PK (hr.mono (by decide)) (by rfl) (pa_cons (pv 0) (pa_cons (pv 1) pa_nil)))
    refine ⟨_, PSs.nox (PSs.of_eq bdIx (pss_cons h0 (pss_one h1))), ?_⟩
    clear h0 h1
    refine set_intro (i := 1) ?_
    refine ⟨.ref l, rfl, l, li, c, 30, rfl, sp, by omega, by omega, by omega, fun H1 r1 e1 sp1 a1 b1 => ⟨.ref l, rfl, l, li, c + 1, 1000000000, rfl, sp1, by omega, by omega, by omega, fun H2 r2 e2 sp2 a2 b2 => ⟨small4 11, fun p np => ?_⟩⟩⟩
    have nl := sp2.new np
    refine ⟨.ref l, rfl, .ref p, rfl, l, li, p, c + 1 + 1, _, rfl, sp2.same (same_new np), upd_same, nl.1, nl.2, Nat.le_of_ble_eq_true rfl, Nat.le_of_ble_eq_true rfl, by omega, fun H3 x e3 sp3 hx => ?_⟩
    have e03 : c + 1 + 1 + 1 = c + 3 := by omega
    rw [e03] at sp3
    have bd : ∃ i : Int, x = .int i ∧ 0 ≤ i ∧ i < 1000000000 := by
      simp only [List.mem_cons, List.not_mem_nil, or_false] at hx
      rcases hx with rfl | rfl | rfl | rfl | rfl | rfl | rfl | rfl | rfl | rfl | rfl <;> exact ⟨_, rfl, by omega, by omega⟩
    obtain ⟨i, rfl, i0, i1⟩ := bd
    exact k H3 i (((e1.trans e2).trans (same_S (same_new np))).trans e3) sp3 i0 i1
def pairD (q : Int × Int) : PyData := .tuple [.int q.1, .int q.2]
def pairOk (q : Int × Int) : Prop := 0 ≤ q.1 ∧ q.1 < q.2 ∧ q.2 ≤ 999999999
abbrev sCd2 : Stmt := topS 63
theorem scCd2 : FnScope ["stream", "found", "k", "one"] ["stream"] (defScope sCd2) := ⟨rfl, rfl, rfl, by decide +kernel, rfl, by decide +kernel, by decide +kernel⟩
theorem bdCd2 : defBody sCd2 = [stOf sCd2 0, stOf sCd2 1, stOf sCd2 2] := by rfl
def fbCd2 (i : Nat) : Stmt := (forBody (stOf sCd2 1)).getD i (.Pass ⟨0, 0, 0, 0⟩)
theorem bdFCd2 : forBody (stOf sCd2 1) = [fbCd2 0, fbCd2 1] := by rfl
def spCdr : Sp := fun vs H Q _ => ∃ (l li : Addr) (c : Int), vs = [.ref l] ∧ Spr H l li c ∧ c < 700000000 ∧ ∀ (H' : Hp) (f : Addr) (ys : List V) (ps : List (Int × Int)) (c' : Int), ExtS l li H H' → Spr H' l li c' → c' ≤ c + 40 → H f = none → f ≠ l → f ≠ li → H' f = some (.lst ys) → OwnA (Hid [f, l, li] H') ys (ps.map pairD) [] → ps.length ≤ 4 → (∀ q ∈ ps, pairOk q) → Q (.ref f) H'
theorem ok_cdr {f : Addr} {fd : FuncData} (F : FunD K "_law_course_drawn" "_law_course_drawn" (defArgs sCd2) (defBody sCd2) (defScope sCd2) [] [] f fd) (D : Has P w K mg base "_law_draw" 1 ["stream", "many"] spDrW) (IX : Has P w K mg base "_law_index" 3 ["stream"] spIx) (mr : mg "range" = none) (mm : mg "min" = none) : FnOk P w K mg base CX0 4 f fd ["stream"] spCdr := by
  refine F.ok scCd2 (fun vs H Q E h => ?_) (fun cdv A outer s H vs Q XE hr h => ?_)
  · obtain ⟨l, li, c, rfl, _⟩ := h
    rfl
  · obtain ⟨l, li, c, rfl, sp, hc, k⟩ := h
    have h0 : PS (XCo P w K mg base ["stream", "found", "k", "one"] "_law_course_drawn" sCd2 f cdv A outer s H XE) (stOf sCd2 0) _ := ps_set (i := 1) scCd2.nd rfl (.inl rfl) (pe_lst pa_nil)
    have b0 : PS (XCo P w K mg base ["stream", "found", "k", "one"] "_law_course_drawn" sCd2 f cdv A outer s H XE) (fbCd2 0) _ := ps_set (i := 3) scCd2.nd rfl (.inl rfl) (pe_callB (call_min2 rfl) (by rfl) mm boot_min (pa_cons (pe_has IX (hr.mono (by decide)) (by rfl) (pa_cons (pv 0) pa_nil)) (pa_cons pe_int pa_nil)))
    have b1 : PS (XCo P w K mg base ["stream", "found", "k", "one"] "_law_course_drawn" sCd2 f cdv A outer s H XE) (fbCd2 1) _ := ps_expr (pe_bm PySem.F.plainAttrs_list PySem.F.slot_list_append PySem.F.type_list_append mt_append (pv 1) (pa_cons (pe_tup (pa_cons (pv 3) (pa_cons (pe_callB (call_min2 rfl) (by rfl) mm boot_min (pa_cons (pe_op op_add (pe_op op_add (pv 3) pe_int) (pe_has IX (hr.mono (by decide)) (by rfl) (pa_cons (pv 0) pa_nil))) (pa_cons pe_int pa_nil))) pa_nil))) pa_nil))
    have h1 : PS (XCo P w K mg base ["stream", "found", "k", "one"] "_law_course_drawn" sCd2 f cdv A outer s H XE) (stOf sCd2 1) _ := ps_for PassesOwn.never rfl (pi_range1 (by rfl) mr (pa_cons (pe_has D (hr.mono (by decide)) (by rfl) (pa_cons (pv 0) (pa_cons pe_int pa_nil))) pa_nil)) (pg_name (i := 2) scCd2.nd rfl (.inl rfl)) (PSs.of_eq bdFCd2 (pss_cons b0 (pss_one b1)))
    have h2 : PS (XCo P w K mg base ["stream", "found", "k", "one"] "_law_course_drawn" sCd2 f cdv A outer s H XE) (stOf sCd2 2) _ := ps_ret (pv 1)
    have PP := PSs.of_eq bdCd2 (pss_cons h0 (pss_cons h1 (pss_one h2)))
    clear h0 h1 h2 b0 b1
    refine ⟨_, PSs.nox PP, ?_⟩
    clear PP
    refine set_intro (i := 1) ⟨small4 0, fun f0 nf => ?_⟩
    have nl := sp.new nf
    have s0 := same_new (o := .lst []) nf
    show tSeq _ _ _ _ _
    refine ⟨.ref l, rfl, l, li, c, 5, rfl, sp.same s0, by omega, by omega, by omega, fun H1 r e1 sp1 r0 r5 => ⟨r, rfl, by omega, by omega, for_range (lo := 0) (n := r.toNat) (fun j σ G => ∃ (x2 x3 : Option V) (ps : List (Int × Int)) (ys : List V) (c' : Int), σ = [some (.ref l), some (.ref f0), x2, x3] ∧ ExtS l li H G ∧ Spr G l li c' ∧ c' ≤ c + 1 + 6 * (j : Int) ∧ G f0 = some (.lst ys) ∧ OwnA (Hid [f0, l, li] G) ys (ps.map pairD) [] ∧ ps.length = j ∧ ∀ q ∈ ps, pairOk q)
      ⟨none, none, [], [], c + 1, rfl, (same_S s0).trans e1, sp1, by omega, e1 _ _ upd_same nl.1 nl.2, .nil, rfl, forall_n⟩ (fun j σ G hj e => ?_) (fun σ G e => ?_)⟩⟩
    · obtain ⟨x2, x3, ps, ys, c', rfl, eG, spG, lc, hf, ow, lp, ok⟩ := e
      have hj5 : j < 5 := by omega
      refine gset ?_
      show tSeq _ _ _ _ _
      refine set_intro (i := 3) ?_
      refine ⟨.ref l, rfl, l, li, c', rfl, spG, by omega, fun G1 i e2 sp2 i0 i1 => ⟨i, 999999998, rfl, ?_⟩⟩
      have mB : ∀ a b : Int, (if b < a then b else a) = min a b := fun a b => by omega
      rw [mB]
      generalize em : min i 999999998 = m
      have m0 : 0 ≤ m := by omega
      have m1 : m ≤ 999999998 := by omega
      have hf1 := e2 _ _ hf nl.1 nl.2
      refine ⟨.ref f0, rfl, .inl ⟨rfl, _, .inl (.inl hf1)⟩, .int m, rfl, .int m, rfl, m, 1, rfl, rfl, .ref l, rfl, l, li, c' + 3, rfl, sp2, by omega, fun G2 i2 e3 sp3 j0 j1 => ⟨m + 1, i2, rfl, rfl, m + 1 + i2, 999999999, rfl, ?_⟩⟩
      rw [mB]
      refine ⟨small4 2, fun T nT => ?_⟩
      have nT2 := sp3.new nT
      have hf2 := e3 _ _ hf1 nl.1 nl.2
      have nTf : f0 ≠ T := ne_of_none hf2 nT
      have lys : ys.length = j := by
        have := ow.len
        rw [List.length_map] at this
        omega
      refine ⟨f0, ys, .ref T, rfl, rfl, by rw [upd_ne nTf]; exact hf2, by rw [lys, sizeLine_eq]; omega, ?_⟩
      have E2 : ExtS l li H G2 := (eG.trans e2).trans e3
      have mf : f0 ∈ [f0, l, li] := List.mem_cons_self
      have ml : l ∈ [f0, l, li] := by simp
      have mli : li ∈ [f0, l, li] := by simp
      refine ⟨some (.int (0 + (j : Nat))), some (.int m), ps ++ [(m, min (m + 1 + i2) 999999999)], ys ++ [.ref T], c' + 6, rfl, fun b o e b1 b2 => ?_, ?_, by push_cast; omega, upd_same, ?_, by rw [List.length_append, lp]; rfl, fun q hq => ?_⟩
      · have e4 := E2 _ _ e b1 b2
        rw [upd_ne (ne_of_none e nf), upd_ne (ne_of_none e4 nT)]
        exact e4
      · have e6 : c' + 6 = c' + 3 + 3 := by omega
        rw [e6]
        exact (sp3.same (same_new nT)).upd nl.1 nl.2
      · have em2 : (ps ++ [(m, min (m + 1 + i2) 999999999)]).map pairD = ps.map pairD ++ [pairD (m, min (m + 1 + i2) 999999999)] := by
          rw [List.map_append]
          rfl
        rw [em2]
        refine OwnA.snoc (((ow.ext (hid_S ml mli (e2.trans e3))).ext (hid_same (same_new nT))).ext (hid_upd mf)) (.tup (hid_of (fun z => ?_) (by rw [upd_ne nTf.symm]; exact upd_same) (fun ps z => nomatch z)) (.cons (f := []) (g := []) (.int _) (.cons (f := []) (g := []) (.int _) .nil)))
        simp only [List.mem_cons, List.not_mem_nil, or_false] at z
        rcases z with z | z | z
        · exact nTf z.symm
        · exact nT2.1 z
        · exact nT2.2 z
      · rcases List.mem_append.mp hq with hq | hq
        · exact ok q hq
        · rw [List.mem_singleton.mp hq]
          refine ⟨m0, ?_, ?_⟩
          · show m < min (m + 1 + i2) 999999999
            omega
          · show min (m + 1 + i2) 999999999 ≤ 999999999
            omega
    · obtain ⟨x2, x3, ps, ys, c', rfl, eG, spG, lc, hf, ow, lp, ok⟩ := e
      exact ⟨.ref f0, rfl, k G f0 ys ps c' eG spG (by omega) nf nl.1 nl.2 hf ow (by omega) ok⟩
end
end K14.T69
namespace K14.T69
open T27 T3
open K14.Gn
open PySem PySem.W PySem.Calls PyProof.Rows L2 LamX
open He (ga)
open SX (S)
open TL (tl pre joinL)
open Kz (SS ExtS ExtS.trans small4 same_new boot_in boot_li boot_isi Has pe_has noE PSs.of_eq new_ext X1)
/-! ### _law_steps_drawn -/
def wires : List Str := ["a", "w1", "w10", "eightsgn", "q9", "xx", "stopp", "shu"]
inductive StepD : PyData → Prop
  | grow (k n : Str) : k ∈ (["x", "y"] : List Str) → n ∈ wires → StepD (.tuple [.str "grow", .str k, .str n])
  | num (x : Str) (i : Int) : x ∈ (["shrink", "turn"] : List Str) → 0 ≤ i → i < 1000000000 → StepD (.tuple [.str x, .int i])
  | one (x : Str) : x ∈ (["loop", "unloop"] : List Str) → StepD (.tuple [.str x])
abbrev sSd2 : Stmt := topS 64
abbrev NSd : List Str := ["stream", "found", "k", "wire", "how", "step"]
theorem scSd2 : FnScope NSd ["stream"] (defScope sSd2) := ⟨rfl, rfl, rfl, by decide +kernel, rfl, by decide +kernel, by decide +kernel⟩
theorem bdSd2 : defBody sSd2 = [stOf sSd2 0, stOf sSd2 1, stOf sSd2 2] := by rfl
def fbSd2 (i : Nat) : Stmt := (forBody (stOf sSd2 1)).getD i (.Pass ⟨0, 0, 0, 0⟩)
theorem bdFSd2 : forBody (stOf sSd2 1) = [fbSd2 0, fbSd2 1, fbSd2 2, fbSd2 3] := by rfl
/-- found.append([step, step, step, ('turn', ..), ('loop',), ('unloop',)][how]) -/
abbrev tsApp (K : Frag) : TS := tDrop (tBM K "list" rAppend (tVar 1) (tCons (tOp (rIx K) (tLst (tCons (tVar 5) (tCons (tVar 5) (tCons (tVar 5) (tCons (tTup (tCons (tC (.str "turn")) (tCons (tCall spIx [] noE (tCons (tVar 0) tNil)) tNil))) (tCons (tTup (tCons (tC (.str "loop")) tNil)) (tCons (tTup (tCons (tC (.str "unloop")) tNil)) tNil))))))) (tVar 4)) tNil))
theorem app_step {K : Frag} {l li f0 T : Addr} {c r : Int} {ys : List V} {ds : List PyData} {z : PyData} {a2 a3 : Option V} {D : Ends} {G : Hp} (sp : Spr G l li c) (hc : c < 800000000) (nl : f0 ≠ l) (nli : f0 ≠ li) (hf : G f0 = some (.lst ys)) (ow : OwnA (Hid [f0, l, li] G) ys ds []) (ly : ys.length ≤ 100)
    (oz : Own (Hid [f0, l, li] G) (.ref T) z []) (sz : StepD z) (r0 : 0 ≤ r) (r6 : r < 6)
    (kk : ∀ (G' : Hp) (z' : PyData) (y : V), (∀ b o, G b = some o → b ≠ l → b ≠ li → b ≠ f0 → G' b = some o) → Spr G' l li (c + 3) → G' f0 = some (.lst (ys ++ [y])) → OwnA (Hid [f0, l, li] G') (ys ++ [y]) (ds ++ [z']) [] → StepD z' → D.nx [some (.ref l), some (.ref f0), a2, a3, some (.int r), some (.ref T)] G') :
    tsApp K D [some (.ref l), some (.ref f0), a2, a3, some (.int r), some (.ref T)] G := by
  have mf : f0 ∈ [f0, l, li] := List.mem_cons_self
  have ml : l ∈ [f0, l, li] := by simp
  have mli : li ∈ [f0, l, li] := by simp
  refine ⟨.ref f0, rfl, .inl ⟨rfl, _, .inl (.inl hf)⟩, .ref T, rfl, .ref T, rfl, .ref T, rfl, .ref l, rfl, l, li, c, rfl, sp, hc, fun G1 i e1 sp1 i0 i1 => ⟨small4 2, fun t1 n1 => ⟨small4 1, fun t2 n2 => ⟨small4 1, fun t3 n3 => ⟨small4 6, fun q nq => ⟨.int r, rfl, ?_⟩⟩⟩⟩⟩⟩
  have hf1 := e1 _ _ hf nl nli
  have s1 := same_new (o := .tup [.str "turn", .int i]) n1
  have s2 := same_new (o := .tup [.str "loop"]) n2
  have s3 := same_new (o := .tup [.str "unloop"]) n3
  have s4 := same_new (o := .lst [.ref T, .ref T, .ref T, .ref t1, .ref t2, .ref t3]) nq
  have h1 : (upd G1 t1 (.tup [.str "turn", .int i])) t1 = some (.tup [.str "turn", .int i]) := upd_same
  have h2 : (upd (upd G1 t1 (.tup [.str "turn", .int i])) t2 (.tup [.str "loop"])) t2 = some (.tup [.str "loop"]) := upd_same
  have h3 : (upd (upd (upd G1 t1 (.tup [.str "turn", .int i])) t2 (.tup [.str "loop"])) t3 (.tup [.str "unloop"])) t3 = some (.tup [.str "unloop"]) := upd_same
  have nin : ∀ {G2 : Hp} {t : Addr}, L2.Same G1 G2 → G2 t = none → t ∉ [f0, l, li] := fun {G2 t} s n z => by
    have sp2 := (sp1.same s).new n
    simp only [List.mem_cons, List.not_mem_nil, or_false] at z
    rcases z with z | z | z
    · rw [z, s _ _ hf1] at n
      cases n
    · exact sp2.1 z
    · exact sp2.2 z
  have m1 := nin (fun _ _ e => e) n1
  have m2 := nin s1 n2
  have m3 := nin (s1.trans s2) n3
  have hq : (upd (upd (upd (upd G1 t1 (.tup [.str "turn", .int i])) t2 (.tup [.str "loop"])) t3 (.tup [.str "unloop"])) q (.lst [.ref T, .ref T, .ref T, .ref t1, .ref t2, .ref t3])) q = some (.lst [.ref T, .ref T, .ref T, .ref t1, .ref t2, .ref t3]) := upd_same
  have S4 := ((s1.trans s2).trans s3).trans s4
  have h1' := (s2.trans (s3.trans s4)) _ _ h1
  have h2' := (s3.trans s4) _ _ h2
  have h3' := s4 _ _ h3
  generalize upd (upd (upd (upd G1 t1 (.tup [.str "turn", .int i])) t2 (.tup [.str "loop"])) t3 (.tup [.str "unloop"])) q (.lst [.ref T, .ref T, .ref T, .ref t1, .ref t2, .ref t3]) = G4 at hq S4 h1' h2' h3' ⊢
  have hf4 := S4 _ _ hf1
  have go : ∀ (y : Addr) (z' : PyData), Own (Hid [f0, l, li] G4) (.ref y) z' [] → StepD z' → rAppend (.ref f0) [.ref y] G4 fun _ H1 => D.nx [some (.ref l), some (.ref f0), a2, a3, some (.int r), some (.ref T)] H1 := fun y z' o s => ⟨f0, ys, .ref y, rfl, rfl, hf4, by rw [sizeLine_eq]; omega, by
    refine kk _ z' (.ref y) (fun b o e b1 b2 b3 => by rw [upd_ne b3]; exact S4 _ _ (e1 _ _ e b1 b2)) ((sp1.same S4).upd nl nli) upd_same ?_ s
    exact OwnA.snoc (((ow.ext (hid_S ml mli e1)).ext (hid_same S4)).ext (hid_upd mf)) (o.ext (hid_upd mf))⟩
  have oz4 : Own (Hid [f0, l, li] G4) (.ref T) z [] := (oz.ext (hid_S ml mli e1)).ext (hid_same S4)
  have o1 : Own (Hid [f0, l, li] G4) (.ref t1) (.tuple [.str "turn", .int i]) [] := .tup (hid_of m1 h1' (fun ps z => nomatch z)) (.cons (f := []) (g := []) (.str _) (.cons (f := []) (g := []) (.int _) .nil))
  have o2 : Own (Hid [f0, l, li] G4) (.ref t2) (.tuple [.str "loop"]) [] := .tup (hid_of m2 h2' (fun ps z => nomatch z)) (.cons (f := []) (g := []) (.str _) .nil)
  have o3 : Own (Hid [f0, l, li] G4) (.ref t3) (.tuple [.str "unloop"]) [] := .tup (hid_of m3 h3' (fun ps z => nomatch z)) (.cons (f := []) (g := []) (.str _) .nil)
  have hr : r = (0 : Nat) ∨ r = (1 : Nat) ∨ r = (2 : Nat) ∨ r = (3 : Nat) ∨ r = (4 : Nat) ∨ r = (5 : Nat) := by omega
  rcases hr with rfl | rfl | rfl | rfl | rfl | rfl
  · exact ix_str0 (i := 0) hq rfl (go T z oz4 sz)
  · exact ix_str0 (i := 1) hq rfl (go T z oz4 sz)
  · exact ix_str0 (i := 2) hq rfl (go T z oz4 sz)
  · exact ix_str0 (i := 3) hq rfl (go t1 _ o1 (.num "turn" i (by simp) i0 i1))
  · exact ix_str0 (i := 4) hq rfl (go t2 _ o2 (.one "loop" (by simp)))
  · exact ix_str0 (i := 5) hq rfl (go t3 _ o3 (.one "unloop" (by simp)))
section
variable {P : Program} {w : World} {K : Frag} {mg : Str → Option Value} {base : Heap}
def spSdr : Sp := fun vs H Q _ => ∃ (l li : Addr) (c : Int), vs = [.ref l] ∧ Spr H l li c ∧ c < 700000000 ∧ ∀ (H' : Hp) (f : Addr) (ys : List V) (ds : List PyData) (c' : Int), ExtS l li H H' → Spr H' l li c' → c' ≤ c + 60 → H f = none → f ≠ l → f ≠ li → H' f = some (.lst ys) → OwnA (Hid [f, l, li] H') ys ds [] → ds.length ≤ 5 → (∀ z ∈ ds, StepD z) → Q (.ref f) H'
theorem ok_sdr {f : Addr} {fd : FuncData} (F : FunD K "_law_steps_drawn" "_law_steps_drawn" (defArgs sSd2) (defBody sSd2) (defScope sSd2) [] [] f fd) (DR : Has P w K mg base "_law_draw" 1 ["stream", "many"] spDrW) (PK : Has P w K mg base "_law_pick" 2 ["stream", "some"] spPk) (IX : Has P w K mg base "_law_index" 3 ["stream"] spIx) (mr : mg "range" = none) : FnOk P w K mg base CX0 4 f fd ["stream"] spSdr := by
  refine F.ok scSd2 (fun vs H Q E h => ?_) (fun cdv A outer s H vs Q XE hr h => ?_)
  · obtain ⟨l, li, c, rfl, _⟩ := h
    rfl
  · obtain ⟨l, li, c, rfl, sp, hc, k⟩ := h
    have h0 : PS (XCo P w K mg base NSd "_law_steps_drawn" sSd2 f cdv A outer s H XE) (stOf sSd2 0) _ := ps_set (i := 1) scSd2.nd rfl (.inl rfl) (pe_lst pa_nil)
    have b0 : PS (XCo P w K mg base NSd "_law_steps_drawn" sSd2 f cdv A outer s H XE) (fbSd2 0) _ := ps_set (i := 3) scSd2.nd rfl (.inl rfl) (pe_has PK (hr.mono (by decide)) (by rfl) (pa_cons (pv 0) (pa_cons (pe_lst (pa_cons pe_str (pa_cons pe_str (pa_cons pe_str (pa_cons pe_str (pa_cons pe_str (pa_cons pe_str (pa_cons pe_str (pa_cons pe_str pa_nil))))))))) pa_nil)))
    have b1 : PS (XCo P w K mg base NSd "_law_steps_drawn" sSd2 f cdv A outer s H XE) (fbSd2 1) _ := ps_set (i := 4) scSd2.nd rfl (.inl rfl) (pe_has DR (hr.mono (by decide)) (by rfl) (pa_cons (pv 0) (pa_cons pe_int pa_nil)))
    have b2 : PS (XCo P w K mg base NSd "_law_steps_drawn" sSd2 f cdv A outer s H XE) (fbSd2 2) _ := ps_set (i := 5) scSd2.nd rfl (.inl rfl) (pe_ifExp (pt_cmpR op_lt (pv 4) pe_int (nomark _)) (pe_tup (pa_cons pe_str (pa_cons (pe_has PK (hr.mono (by decide)) (by rfl) (pa_cons (pv 0) (pa_cons (pe_lst (pa_cons pe_str (pa_cons pe_str pa_nil))) pa_nil))) (pa_cons (pv 3) pa_nil)))) (pe_tup (pa_cons pe_str (pa_cons (pe_has IX (hr.mono (by decide)) (by rfl) (pa_cons (pv 0) pa_nil)) pa_nil))))
    have b3 : PS (XCo P w K mg base NSd "_law_steps_drawn" sSd2 f cdv A outer s H XE) (fbSd2 3) (tsApp K) := ps_expr (pe_bm PySem.F.plainAttrs_list PySem.F.slot_list_append PySem.F.type_list_append mt_append (pv 1) (pa_cons (pe_ix ix_seq (pe_lst (pa_cons (pv 5) (pa_cons (pv 5) (pa_cons (pv 5) (pa_cons (pe_tup (pa_cons pe_str (pa_cons (pe_has IX (hr.mono (by decide)) (by rfl) (pa_cons (pv 0) pa_nil)) pa_nil))) (pa_cons (pe_tup (pa_cons pe_str pa_nil)) (pa_cons (pe_tup (pa_cons pe_str pa_nil)) pa_nil))))))) (pv 4) (fun _ _ => rfl)) pa_nil))
    have h1 : PS (XCo P w K mg base NSd "_law_steps_drawn" sSd2 f cdv A outer s H XE) (stOf sSd2 1) _ := ps_for PassesOwn.never rfl (pi_range1 (by rfl) mr (pa_cons (pe_has DR (hr.mono (by decide)) (by rfl) (pa_cons (pv 0) (pa_cons pe_int pa_nil))) pa_nil)) (pg_name (i := 2) scSd2.nd rfl (.inl rfl)) (PSs.of_eq bdFSd2 (pss_cons b0 (pss_cons b1 (pss_cons b2 (pss_one b3)))))
    have h2 : PS (XCo P w K mg base NSd "_law_steps_drawn" sSd2 f cdv A outer s H XE) (stOf sSd2 2) _ := ps_ret (pv 1)
    have PP := PSs.of_eq bdSd2 (pss_cons h0 (pss_cons h1 (pss_one h2)))
    clear h0 h1 h2 b0 b1 b2 b3
    refine ⟨_, PSs.nox PP, ?_⟩
    clear PP
    refine set_intro (i := 1) ⟨small4 0, fun f0 nf => ?_⟩
    have nl := sp.new nf
    have s0 := same_new (o := .lst []) nf
    show tSeq _ _ _ _ _
    refine ⟨.ref l, rfl, l, li, c, 6, rfl, sp.same s0, by omega, by omega, by omega, fun H1 r e1 sp1 r0 r5 => ⟨r, rfl, by omega, by omega, for_range (lo := 0) (n := r.toNat) (fun j σ G => ∃ (x2 x3 x4 x5 : Option V) (ds : List PyData) (ys : List V) (c' : Int), σ = [some (.ref l), some (.ref f0), x2, x3, x4, x5] ∧ ExtS l li H G ∧ Spr G l li c' ∧ c' ≤ c + 1 + 10 * (j : Int) ∧ G f0 = some (.lst ys) ∧ OwnA (Hid [f0, l, li] G) ys ds [] ∧ ds.length = j ∧ ∀ z ∈ ds, StepD z)
      ⟨none, none, none, none, [], [], c + 1, rfl, (same_S s0).trans e1, sp1, by omega, e1 _ _ upd_same nl.1 nl.2, .nil, rfl, forall_n⟩ (fun j σ G hj e => ?_) (fun σ G e => ?_)⟩⟩
    · obtain ⟨x2, x3, x4, x5, ds, ys, c', rfl, eG, spG, lc, hf, ow, lp, ok⟩ := e
      have hj5 : j < 6 := by omega
      have mf : f0 ∈ [f0, l, li] := List.mem_cons_self
      have ml : l ∈ [f0, l, li] := by simp
      have mli : li ∈ [f0, l, li] := by simp
      refine gset ?_
      show tSeq _ _ _ _ _
      refine set_intro (i := 3) ?_
      refine ⟨.ref l, rfl, small4 8, fun p np => ⟨l, li, p, c', _, rfl, spG.same (same_new np), upd_same, (spG.new np).1, (spG.new np).2, Nat.le_of_ble_eq_true rfl, Nat.le_of_ble_eq_true rfl, by omega, fun G1 x e2 sp2 hx => ?_⟩⟩
      obtain ⟨wr, hw, rfl⟩ : ∃ wr ∈ wires, x = .str wr := by
        have : x ∈ wires.map V.str := hx
        obtain ⟨wr, m, e⟩ := List.mem_map.mp this
        exact ⟨wr, m, e.symm⟩
      have E1 : ExtS l li G G1 := (same_S (same_new np)).trans e2
      refine set_intro (i := 4) ?_
      refine ⟨.ref l, rfl, l, li, c' + 1, 6, rfl, sp2, by omega, by omega, by omega, fun G2 q e3 sp3 q0 q6 => ?_⟩
      have E2 : ExtS l li G G2 := E1.trans e3
      refine set_intro (i := 5) ?_
      refine ⟨.int q, rfl, q, 2, rfl, rfl, _, rfl, ?_⟩
      have lys : ys.length = j := by
        have := ow.len
        omega
      have fin : ∀ (G3 : Hp) (T : Addr) (z : PyData) (c3 : Int), ExtS l li G G3 → Spr G3 l li c3 → c3 ≤ c' + 5 → Own (Hid [f0, l, li] G3) (.ref T) z [] → StepD z → tsApp K { nx := fun σ G => ∃ (x2 x3 x4 x5 : Option V) (ds : List PyData) (ys : List V) (c' : Int), σ = [some (.ref l), some (.ref f0), x2, x3, x4, x5] ∧ ExtS l li H G ∧ Spr G l li c' ∧ c' ≤ c + 1 + 10 * ((j + 1 : Nat) : Int) ∧ G f0 = some (.lst ys) ∧ OwnA (Hid [f0, l, li] G) ys ds [] ∧ ds.length = j + 1 ∧ ∀ z ∈ ds, StepD z, rt := Q, bk := fun _ _ => False, ct := fun _ _ => False } [some (.ref l), some (.ref f0), some (.int (0 + (j : Nat))), some (.str wr), some (.int q), some (.ref T)] G3 := fun G3 T z c3 e4 sp4 lc3 oz sz => by
        refine app_step sp4 (by omega) nl.1 nl.2 (e4 _ _ hf nl.1 nl.2) (ow.ext (hid_S ml mli e4)) (by omega) oz sz q0 q6 fun G' z' y keep spr hfy own sz' => ?_
        refine ⟨_, _, _, _, ds ++ [z'], ys ++ [y], c3 + 3, rfl, fun b o e b1 b2 => keep _ _ (e4 _ _ (eG _ _ e b1 b2) b1 b2) b1 b2 (ne_of_none e nf), spr, by push_cast; omega, hfy, own, by rw [List.length_append, lp]; rfl, fun u hu => ?_⟩
        rcases List.mem_append.mp hu with hu | hu
        · exact ok u hu
        · rw [List.mem_singleton.mp hu]
          exact sz'
      have tin : ∀ {G3 : Hp} {T : Addr} {c3 : Int}, ExtS l li G G3 → Spr G3 l li c3 → G3 T = none → T ∉ [f0, l, li] := fun {G3 T c3} e4 sp4 nT z => by
        have := sp4.new nT
        simp only [List.mem_cons, List.not_mem_nil, or_false] at z
        rcases z with z | z | z
        · rw [z, e4 _ _ hf nl.1 nl.2] at nT
          cases nT
        · exact this.1 z
        · exact this.2 z
      cases hq : decide (q < 2) with
      | true =>
        refine iteT ⟨.ref l, rfl, small4 2, fun p2 np2 => ⟨l, li, p2, c' + 1 + 1, _, rfl, sp3.same (same_new np2), upd_same, (sp3.new np2).1, (sp3.new np2).2, Nat.le_of_ble_eq_true rfl, Nat.le_of_ble_eq_true rfl, by omega, fun G3 x e4 sp4 hx => ?_⟩⟩
        obtain ⟨kr, hk, rfl⟩ : ∃ kr ∈ (["x", "y"] : List Str), x = .str kr := by
          have : x ∈ (["x", "y"] : List Str).map V.str := hx
          obtain ⟨kr, m, e⟩ := List.mem_map.mp this
          exact ⟨kr, m, e.symm⟩
        have E3 : ExtS l li G G3 := (E2.trans (same_S (same_new np2))).trans e4
        refine ⟨.str wr, rfl, small4 3, fun T nT => ?_⟩
        have sT := same_new (o := .tup [.str "grow", .str kr, .str wr]) nT
        exact fin _ T _ _ (E3.trans (same_S sT)) (sp4.same sT) (by omega) (.tup (hid_of (tin E3 sp4 nT) upd_same (fun ps z => nomatch z)) (.cons (f := []) (g := []) (.str _) (.cons (f := []) (g := []) (.str _) (.cons (f := []) (g := []) (.str _) .nil)))) (.grow kr wr hk hw)
      | false =>
        refine iteF ⟨.ref l, rfl, l, li, c' + 1 + 1, rfl, sp3, by omega, fun G3 i e4 sp4 i0 i1 => ⟨small4 2, fun T nT => ?_⟩⟩
        have E3 : ExtS l li G G3 := E2.trans e4
        have sT := same_new (o := .tup [.str "shrink", .int i]) nT
        exact fin _ T _ _ (E3.trans (same_S sT)) (sp4.same sT) (by omega) (.tup (hid_of (tin E3 sp4 nT) upd_same (fun ps z => nomatch z)) (.cons (f := []) (g := []) (.str _) (.cons (f := []) (g := []) (.int _) .nil))) (.num "shrink" i (by simp) i0 i1)
    · obtain ⟨x2, x3, x4, x5, ds, ys, c', rfl, eG, spG, lc, hf, ow, lp, ok⟩ := e
      exact ⟨.ref f0, rfl, k G f0 ys ds c' eG spG (by omega) nf nl.1 nl.2 hf ow (by omega) ok⟩
end
end K14.T69
namespace K14.T69
open T27 T3
open K14.Gn
open PySem PySem.W PySem.Calls PyProof.Rows L2 LamX
open He (ga)
open SX (S)
open TL (tl pre joinL)
open Kz (SS ExtS ExtS.trans small4 same_new boot_in boot_li boot_isi Has pe_has noE PSs.of_eq new_ext X1)
/-! ### _law_asked -/
abbrev sAk : Stmt := topS 65
abbrev NAk : List Str := ["ask", "e"]
theorem scAk : FnScope NAk ["ask"] (defScope sAk) := ⟨rfl, rfl, rfl, by decide +kernel, rfl, by decide +kernel, by decide +kernel⟩
/-- the errors, the words that the law has for them, the fields it tells -/
def asks : List (Str × Str × Str) := [("BadText", "text", "index"), ("BadForm", "form", "thing")]
/-- what the law's try does with an error -/
def Ea (K : Frag) (Q : VK) : XK := fun cls d H' => ∃ p ∈ asks, cls = .ref (ga K p.1) ∧ ∃ (dx : Addr) (v : V), d = some dx ∧ H' dx = some (.xd [(p.2.2, v)]) ∧ ∀ (H'' : Hp) (t : Addr), L2.Same H' H'' → H'' t = some (.tup [.str p.2.1, v]) → Q (.ref t) H''
structure AkK (P : Program) (K : Frag) (mg : Str → Option Value) : Prop where
  er : ∀ p ∈ asks, mg p.1 = some (.ref (ga K p.1)) ∧ X1 P K (ga K p.1) p.2.2
  ex : ∀ p ∈ asks, ∀ q ∈ asks, exmOne K (.ref (ga K p.1)) (.ref (ga K q.1)) = some (decide (p.1 = q.1))
/-- asked: told, or refused -/
def tlA (K : Frag) : (XK → Hp → VK → Prop) → Hp → VK → Prop := fun tl H Q => tl (Ea K Q) H fun v H1 => 2 ≤ sizeLine ∧ ∀ p, H1 p = none → Q (.ref p) (upd H1 p (.tup [.str "told", v]))
section
variable {X : Cx} {g : Addr} {cdg : Value} {q : Str}
theorem ak_gives (R : AkK X.prog X.K X.mg) : GivesTo X NAk "_law_asked" (defScope sAk) g cdg (defBody sAk) "ask" q (tlA X.K) := by
  intro f c' s H Q tl act hc h
  have cl : ∀ p ∈ asks, ∀ {b0 : Stmt} {q1 q2 q3 q4 q5 : Pos} {j k : Nat}, b0 = .Return (some (.Tuple [.Constant (.str p.2.1) j q1, .Attribute (.Name "e" q2) p.2.2 q3] k q4)) q5 →
      Clause (cxOf C8.CX0 X.prog X.w X.K X.mg X.base NAk "_law_asked" (defScope sAk) g cdg X.A X.stack s H C8.E0).nox p.1 "e" (.ref (ga X.K p.1)) 1 b0 [] (fun a cls d => tRet (tTup (tCons (fun σ H Q => Q (.str p.2.1) H) (tCons (tXf a cls d (ga X.K p.1) p.2.2 (tVar 1)) tNil)))) := fun p hp b0 q1 q2 q3 q4 q5 j k e => by
    subst e
    have glo : ∀ p ∈ asks, Gl (cxOf C8.CX0 X.prog X.w X.K X.mg X.base NAk "_law_asked" (defScope sAk) g cdg X.A X.stack s H C8.E0).nox p.1 ∧ (p.1 == ("__debug__" : Str)) = false := fun p hp => by
      simp only [asks, List.mem_cons, List.not_mem_nil, or_false] at hp
      rcases hp with rfl | rfl <;> exact ⟨rfl, by decide⟩
    refine ⟨rfl, rfl, ⟨(glo p hp).1, (glo p hp).2, .inl (R.er p hp).1⟩, fun a oe cls d pn hz hf => ?_⟩
    exact pss_one (ps_ret (pe_tup (pa_cons pe_str (pa_cons (pe_xf (x1_xf (R.er p hp).2) (R.er p hp).2.no hz hf (pv 1)) pa_nil))))
  have m0 : (("BadText", "text", "index") : Str × Str × Str) ∈ asks := by simp [asks]
  have m1 : (("BadForm", "form", "thing") : Str × Str × Str) ∈ asks := by simp [asks]
  refine ⟨_, pss_one (ps_try_each (X := (cxOf C8.CX0 X.prog X.w X.K X.mg X.base NAk "_law_asked" (defScope sAk) g cdg X.A X.stack s H C8.E0).nox)
    (tb := fun W D σ H => ∃ Ech : XK, (∀ cls d σ' H', Ech cls d H' → W cls d σ' H') ∧ σ[0]? = some (some (.ref f)) ∧ H c' = some (CodeO c' q) ∧ tl Ech H fun v H1 => 2 ≤ sizeLine ∧ ∀ p, H1 p = none → D.rt (.ref p) (upd H1 p (.tup [.str "told", v])))
    rfl rfl scAk.nd takes0 (fun W pn xe tk _ => ⟨fun pins s' σ H' D I h' => ?_⟩) (.cons (cl _ m0 rfl) (.cons (cl _ m1 rfl) .nil))), ?_⟩
  · obtain ⟨Ech, hW, h1, h2, h3⟩ := h'
    exact (pss_one (ps_ret (pe_tup (pa_cons pe_str (pa_cons (act W pn xe Ech _ _ tk hW) pa_nil))))).run pins s' σ H' D I ⟨h1, h2, h3⟩
  · refine ⟨Ea X.K Q, fun cls d σ' H' ⟨p, hp, ec, dx, v, ed, hx, k⟩ => ?_, rfl, hc, ?_⟩
    · subst ec
      subst ed
      have fin : ∀ (a : Addr), σ'.length = 2 → tRet (tTup (tCons (fun σ H Q => Q (.str p.2.1) H) (tCons (tXf a (.ref (ga X.K p.1)) (some dx) (ga X.K p.1) p.2.2 (tVar 1)) tNil))) (endsOf { nx := fun _ H' => Q .non H', rt := Q } 1) (σ'.set 1 (some (.ref a))) H' := fun a l => by
        obtain ⟨x0, x1, rfl⟩ : ∃ x0 x1, σ' = [x0, x1] := by
          match σ', l with
          | [x0, x1], _ => exact ⟨x0, x1, rfl⟩
        exact ⟨.ref a, rfl, rfl, rfl, dx, _, v, rfl, hx, by simp [List.lookup], small4 2, fun t nt => k _ t (same_new nt) upd_same⟩
      have ex := R.ex p hp
      simp only [asks, List.mem_cons, List.not_mem_nil, or_false] at hp
      rcases hp with rfl | rfl
      · exact ⟨true, ex _ m0, fun _ a _ l => fin a l, fun z => nomatch z⟩
      · exact ⟨false, ex _ m0, (fun z => nomatch z), fun _ => ⟨true, ex _ m1, fun _ a _ l => fin a l, fun z => nomatch z⟩⟩
    · exact h
end
theorem says_ea {K : Frag} (p : Str × Str × Str) (hp : p ∈ asks) {v : V} {H1 : Hp} {Q : VK} (k : ∀ (H' : Hp) (t : Addr), L2.Same H1 H' → H' t = some (.tup [.str p.2.1, v]) → Q (.ref t) H') : SaysF (ga K p.1) p.2.2 v H1 (Ea K Q) :=
  fun H' dx s q => ⟨p, hp, rfl, dx, v, rfl, q, fun H'' t e h => k H'' t (s.trans e) h⟩
theorem a_text : (("BadText", "text", "index") : Str × Str × Str) ∈ asks := by simp [asks]
theorem a_form : (("BadForm", "form", "thing") : Str × Str × Str) ∈ asks := by simp [asks]
/-! ### _law_odd_rows -/
abbrev sOr : Stmt := topS 66
theorem scOr : FnScope ["found"] [] (defScope sOr) := ⟨rfl, rfl, rfl, by decide +kernel, rfl, by decide +kernel, by decide +kernel⟩
theorem bdOr : defBody sOr = [stOf sOr 0, stOf sOr 1, stOf sOr 2, stOf sOr 3, stOf sOr 4] := by rfl
def oA : List PyData := [.none, .int 5, .tuple [], .str "01", .tuple [.int 1, .int 1], .tuple [.int 2, .int 1], .tuple [.bool true, .int 2], .tuple [.int 0, .int 1, .int 2], .tuple [.int 0], .tuple [.int (-1), .int 2], .tuple [.int 0, .int 1000000000], .tuple [.int 0, .str "1"], .tuple [.int 1, .none]]
def oB : List PyData := [.tuple [.str "grow", .str "z", .str "a"], .tuple [.str "grow", .str "x"], .tuple [.str "shrink", .int (-1)], .tuple [.str "turn", .bool true], .tuple [.str "loop", .int 1]]
def oC : List PyData := [.tuple [.str "grow", .str "x", .str "stop"], .tuple [.str "shrink", .int 1000000000], .tuple [.str "unloop", .int 0], .tuple [.str "grow", .str "x", .str "A"], .tuple [.str "shrink"]]
def oD : List PyData := [.tuple [.str "turn", .int 1, .int 2], .tuple [.str "halt"], .dict []]
def oE : List PyData := [.tuple [.str "grow", .int 5, .str "a"], .tuple [.list [.str "loop"]], .tuple [.str "grow", .str "x", .str "ninesigns"], .str "loop", .list [.list []], .tuple [.str "grow", .str "x", .none]]
def odds : List PyData := (((oA ++ oB) ++ oC) ++ oD) ++ oE
/-- none of them is right, in a course or in a derivation -/
theorem odds_bad : odds.all (fun z => !(isP z && prB z) && !stB z) = true := by decide +kernel
theorem gv_pow {S : List Addr} {σ : L2.St} {H0 : Hp} : Gv S σ H0 (tOp (rI CPow fun i j => .int (i ^ j.toNat)) (tC (.int 10)) (tC (.int 9))) (.int 1000000000) := fun H Q s ins k =>
  ⟨10, 9, rfl, rfl, ⟨by decide, by decide, by decide +kernel⟩, k H _ (fun _ _ q => q) (.int _)⟩
theorem ext_step {K : Frag} {S : List Addr} {i : Nat} {f : Addr} {xs : List V} {ds ds2 : List PyData} {σ : L2.St} {G : Hp} {te : TE} {D : Ends} (hi : σ[i]? = some (some (.ref f))) (hf : G f = some (.lst xs)) (tx : ThAll (Hid (f :: S) G) xs ds) (ins : Ins (f :: S) G) (g : Gv (f :: S) σ G te (.list ds2)) (l1 : ds.length ≤ 100) (l2 : ds2.length ≤ 100)
    (k : ∀ (G' : Hp) (ys : List V), (∀ b o, G b = some o → b ≠ f → G' b = some o) → G' f = some (.lst ys) → ThAll (Hid (f :: S) G') ys (ds ++ ds2) → Ins (f :: S) G' → D.nx σ G') : tDrop (tBM K "list" rExtend (tVar i) (tCons te tNil)) D σ G := by
  refine ⟨.ref f, hi, .inl ⟨rfl, _, .inl (.inl hf)⟩, g G _ (fun _ _ e => e) ins fun G1 v s1 t1 => ?_⟩
  cases t1 with
  | @lst b zs _ hb r =>
    have tx1 := tx.ext (hid_same s1)
    refine ⟨f, b, xs, zs, rfl, rfl, s1 _ _ hf, hid_up _ _ hb, by rw [tx.length, r.length, sizeLine_eq]; omega, ?_⟩
    have mf : f ∈ f :: S := List.mem_cons_self
    refine k _ (xs ++ zs) (fun b o e nb => by rw [upd_ne nb]; exact s1 _ _ e) upd_same (th_app (tx1.ext (hid_upd mf)) (r.ext (hid_upd mf))) fun b m => ?_
    by_cases e : b = f
    · rw [e]
      exact ⟨_, upd_same⟩
    · obtain ⟨o, ho⟩ := ins b m
      exact ⟨o, by rw [upd_ne e]; exact s1 _ _ ho⟩
section
variable {P : Program} {w : World} {K : Frag} {mg : Str → Option Value} {base : Heap}
abbrev te2 (a b : TE) : TE := tTup (tCons a (tCons b tNil))
abbrev te3 (a b c : TE) : TE := tTup (tCons a (tCons b (tCons c tNil)))
abbrev cS (s : Str) : TE := tC (.str s)
abbrev cI (i : Int) : TE := tC (.int i)
abbrev cNeg : TE := tUn (rU fun i => .int (-i)) (tC (.int 1))
abbrev cPow : TE := tOp (rI CPow fun i j => .int (i ^ j.toNat)) (tC (.int 10)) (tC (.int 9))
abbrev taA : TA := tCons (tC .non) (tCons (cI 5) (tCons (tTup tNil) (tCons (cS "01") (tCons (te2 (cI 1) (cI 1)) (tCons (te2 (cI 2) (cI 1)) (tCons (te2 (tC (.bl true)) (cI 2)) (tCons (te3 (cI 0) (cI 1) (cI 2)) (tCons (tTup (tCons (cI 0) tNil)) (tCons (te2 cNeg (cI 2)) (tCons (te2 (cI 0) cPow) (tCons (te2 (cI 0) (cS "1")) (tCons (te2 (cI 1) (tC .non)) tNil))))))))))))
abbrev teB : TE := tLst (tCons (te3 (cS "grow") (cS "z") (cS "a")) (tCons (te2 (cS "grow") (cS "x")) (tCons (te2 (cS "shrink") cNeg) (tCons (te2 (cS "turn") (tC (.bl true))) (tCons (te2 (cS "loop") (cI 1)) tNil)))))
abbrev teC : TE := tLst (tCons (te3 (cS "grow") (cS "x") (cS "stop")) (tCons (te2 (cS "shrink") cPow) (tCons (te2 (cS "unloop") (cI 0)) (tCons (te3 (cS "grow") (cS "x") (cS "A")) (tCons (tTup (tCons (cS "shrink") tNil)) tNil)))))
abbrev teD2 : TE := tLst (tCons (te3 (cS "turn") (cI 1) (cI 2)) (tCons (tTup (tCons (cS "halt") tNil)) (tCons tDNewK tNil)))
abbrev teE : TE := tLst (tCons (te3 (cS "grow") (cI 5) (cS "a")) (tCons (tTup (tCons (tLst (tCons (cS "loop") tNil)) tNil)) (tCons (te3 (cS "grow") (cS "x") (cS "ninesigns")) (tCons (cS "loop") (tCons (tLst (tCons (tLst tNil) tNil)) (tCons (te3 (cS "grow") (cS "x") (tC .non)) tNil))))))
section
variable {S : List Addr} {σ : L2.St} {H0 : Hp}
theorem gv2 {a b : TE} {x y : PyData} (h1 : Gv S σ H0 a x) (h2 : Gv S σ H0 b y) : Gv S σ H0 (te2 a b) (.tuple [x, y]) := gv_tup (gva_cons h1 (gva_cons h2 gva_nil))
theorem gv3 {a b c : TE} {x y z : PyData} (h1 : Gv S σ H0 a x) (h2 : Gv S σ H0 b y) (h3 : Gv S σ H0 c z) : Gv S σ H0 (te3 a b c) (.tuple [x, y, z]) := gv_tup (gva_cons h1 (gva_cons h2 (gva_cons h3 gva_nil)))
theorem gv1 {a : TE} {x : PyData} (h1 : Gv S σ H0 a x) : Gv S σ H0 (tTup (tCons a tNil)) (.tuple [x]) := gv_tup (gva_cons h1 gva_nil)
theorem gva_A : GvA S σ H0 taA oA := gva_cons gv_non (gva_cons gv_int (gva_cons (gv_tup gva_nil) (gva_cons gv_str (gva_cons (gv2 gv_int gv_int) (gva_cons (gv2 gv_int gv_int) (gva_cons (gv2 gv_bl gv_int) (gva_cons (gv3 gv_int gv_int gv_int) (gva_cons (gv1 gv_int) (gva_cons (gv2 gv_neg gv_int) (gva_cons (gv2 gv_int gv_pow) (gva_cons (gv2 gv_int gv_str) (gva_cons (gv2 gv_int gv_non) gva_nil))))))))))))
theorem gv_B : Gv S σ H0 teB (.list oB) := gv_lst (gva_cons (gv3 gv_str gv_str gv_str) (gva_cons (gv2 gv_str gv_str) (gva_cons (gv2 gv_str gv_neg) (gva_cons (gv2 gv_str gv_bl) (gva_cons (gv2 gv_str gv_int) gva_nil))))) (Nat.le_of_ble_eq_true rfl)
theorem gv_C : Gv S σ H0 teC (.list oC) := gv_lst (gva_cons (gv3 gv_str gv_str gv_str) (gva_cons (gv2 gv_str gv_pow) (gva_cons (gv2 gv_str gv_int) (gva_cons (gv3 gv_str gv_str gv_str) (gva_cons (gv1 gv_str) gva_nil))))) (Nat.le_of_ble_eq_true rfl)
theorem gv_D : Gv S σ H0 teD2 (.list oD) := gv_lst (gva_cons (gv3 gv_str gv_int gv_int) (gva_cons (gv1 gv_str) (gva_cons gv_dict gva_nil))) (Nat.le_of_ble_eq_true rfl)
theorem gv_E : Gv S σ H0 teE (.list oE) := gv_lst (gva_cons (gv3 gv_str gv_int gv_str) (gva_cons (gv1 (gv_lst (gva_cons gv_str gva_nil))) (gva_cons (gv3 gv_str gv_str gv_str) (gva_cons gv_str (gva_cons (gv_lst (gva_cons (gv_lst gva_nil) gva_nil)) (gva_cons (gv3 gv_str gv_str gv_non) gva_nil)))))) (Nat.le_of_ble_eq_true rfl)
end
end
end K14.T69
namespace K14.T69
open T27 T3
open K14.Gn
open PySem PySem.W PySem.Calls PyProof.Rows L2 LamX
open He (ga)
open SX (S)
open TL (tl pre joinL)
open Kz (SS ExtS ExtS.trans small4 same_new boot_in boot_li boot_isi Has pe_has noE PSs.of_eq new_ext X1)
section
variable {P : Program} {w : World} {K : Frag} {mg : Str → Option Value} {base : Heap}
theorem dropS {te : TE} {u : TS} {D : Ends} {σ : L2.St} {H : Hp} (h : tDrop te { nx := u D, rt := D.rt, bk := D.bk, ct := D.ct } σ H) : tSeq (tDrop te) u D σ H := h
theorem lst_intro {t : TA} {σ : L2.St} {H : Hp} {Q : VK} (h : t σ H fun xs H1 => xs.length ≤ sizeLine ∧ ∀ p, H1 p = none → Q (.ref p) (upd H1 p (.lst xs))) : tLst t σ H Q := h
def spOr : Sp := fun vs H Q _ => ∃ S : List Addr, vs = [] ∧ Ins S H ∧ ∀ (H' : Hp) (r : Addr), L2.Same H H' → Th (Hid S H') (.ref r) (.list odds) → Q (.ref r) H'
theorem ok_or {f : Addr} {fd : FuncData} (F : FunD K "_law_odd_rows" "_law_odd_rows" (defArgs sOr) (defBody sOr) (defScope sOr) [] [] f fd) : FnOk P w K mg base CX0 1 f fd [] spOr := by
  refine F.ok scOr (fun vs H Q E h => ?_) (fun cdv A outer s H vs Q XE hr h => ?_)
  · obtain ⟨S, rfl, _⟩ := h
    rfl
  · obtain ⟨S, rfl, ins, k⟩ := h
    have pm : PE (XCo P w K mg base ["found"] "_law_odd_rows" sOr f cdv A outer s H XE) (.UnaryOp .USub (.Constant (.int 1) 0 ⟨0, 0, 0, 0⟩) ⟨0, 0, 0, 0⟩) cNeg := pe_un un_neg pe_int
    have h0 : PS (XCo P w K mg base ["found"] "_law_odd_rows" sOr f cdv A outer s H XE) (stOf sOr 0) (tAsg (tLst taA) (gName 0)) := ps_set (i := 0) scOr.nd rfl (.inl rfl) (pe_lst (pa_cons pe_non (pa_cons pe_int (pa_cons (pe_tup pa_nil) (pa_cons pe_str (pa_cons (pe_tup (pa_cons pe_int (pa_cons pe_int pa_nil))) (pa_cons (pe_tup (pa_cons pe_int (pa_cons pe_int pa_nil))) (pa_cons (pe_tup (pa_cons pe_bl (pa_cons pe_int pa_nil))) (pa_cons (pe_tup (pa_cons pe_int (pa_cons pe_int (pa_cons pe_int pa_nil)))) (pa_cons (pe_tup (pa_cons pe_int pa_nil)) (pa_cons (pe_tup (pa_cons (pe_un un_neg pe_int) (pa_cons pe_int pa_nil))) (pa_cons (pe_tup (pa_cons pe_int (pa_cons (pe_op op_pow pe_int pe_int) pa_nil))) (pa_cons (pe_tup (pa_cons pe_int (pa_cons pe_str pa_nil))) (pa_cons (pe_tup (pa_cons pe_int (pa_cons pe_non pa_nil))) pa_nil))))))))))))))
    have h1 : PS (XCo P w K mg base ["found"] "_law_odd_rows" sOr f cdv A outer s H XE) (stOf sOr 1) (tDrop (tBM K "list" rExtend (tVar 0) (tCons teB tNil))) := ps_expr (pe_bm PySem.F.plainAttrs_list PySem.F.slot_list_extend PySem.F.type_list_extend mt_extend (pv 0) (pa_cons (pe_lst (pa_cons (pe_tup (pa_cons pe_str (pa_cons pe_str (pa_cons pe_str pa_nil)))) (pa_cons (pe_tup (pa_cons pe_str (pa_cons pe_str pa_nil))) (pa_cons (pe_tup (pa_cons pe_str (pa_cons (pe_un un_neg pe_int) pa_nil))) (pa_cons (pe_tup (pa_cons pe_str (pa_cons pe_bl pa_nil))) (pa_cons (pe_tup (pa_cons pe_str (pa_cons pe_int pa_nil))) pa_nil)))))) pa_nil))
    have h2 : PS (XCo P w K mg base ["found"] "_law_odd_rows" sOr f cdv A outer s H XE) (stOf sOr 2) (tDrop (tBM K "list" rExtend (tVar 0) (tCons teC tNil))) := ps_expr (pe_bm PySem.F.plainAttrs_list PySem.F.slot_list_extend PySem.F.type_list_extend mt_extend (pv 0) (pa_cons (pe_lst (pa_cons (pe_tup (pa_cons pe_str (pa_cons pe_str (pa_cons pe_str pa_nil)))) (pa_cons (pe_tup (pa_cons pe_str (pa_cons (pe_op op_pow pe_int pe_int) pa_nil))) (pa_cons (pe_tup (pa_cons pe_str (pa_cons pe_int pa_nil))) (pa_cons (pe_tup (pa_cons pe_str (pa_cons pe_str (pa_cons pe_str pa_nil)))) (pa_cons (pe_tup (pa_cons pe_str pa_nil)) pa_nil)))))) pa_nil))
    have h3 : PS (XCo P w K mg base ["found"] "_law_odd_rows" sOr f cdv A outer s H XE) (stOf sOr 3) (tDrop (tBM K "list" rExtend (tVar 0) (tCons teD2 tNil))) := ps_expr (pe_bm PySem.F.plainAttrs_list PySem.F.slot_list_extend PySem.F.type_list_extend mt_extend (pv 0) (pa_cons (pe_lst (pa_cons (pe_tup (pa_cons pe_str (pa_cons pe_int (pa_cons pe_int pa_nil)))) (pa_cons (pe_tup (pa_cons pe_str pa_nil)) (pa_cons pe_dnewK pa_nil)))) pa_nil))
    have h4 : PS (XCo P w K mg base ["found"] "_law_odd_rows" sOr f cdv A outer s H XE) (stOf sOr 4) (tRet (tOp rCat (tVar 0) teE)) := ps_ret (pe_op op_cat (pv 0) (pe_lst (pa_cons (pe_tup (pa_cons pe_str (pa_cons pe_int (pa_cons pe_str pa_nil)))) (pa_cons (pe_tup (pa_cons (pe_lst (pa_cons pe_str pa_nil)) pa_nil)) (pa_cons (pe_tup (pa_cons pe_str (pa_cons pe_str (pa_cons pe_str pa_nil)))) (pa_cons pe_str (pa_cons (pe_lst (pa_cons (pe_lst pa_nil) pa_nil)) (pa_cons (pe_tup (pa_cons pe_str (pa_cons pe_str (pa_cons pe_non pa_nil)))) pa_nil))))))))
    have PP := PSs.of_eq bdOr (pss_cons h0 (pss_cons h1 (pss_cons h2 (pss_cons h3 (pss_one h4)))))
    clear h0 h1 h2 h3 h4 pm
    refine ⟨_, PSs.nox PP, ?_⟩
    clear PP
    refine set_intro (i := 0) ?_
    refine lst_intro ?_
    refine gva_A H _ (fun _ _ e => e) ins ?_
    refine fun H1 xs s1 t1 => ⟨by rw [t1.length]; exact small4 13, fun f0 nf => ?_⟩
    have insH1 : Ins S H1 := ins.same s1
    have nS : f0 ∉ S := insH1.new nf
    have mf : f0 ∈ f0 :: S := List.mem_cons_self
    have n0 : H f0 = none := s1.free nf
    have t2 : ThAll (Hid (f0 :: S) (upd H1 f0 (.lst xs))) xs oA := t1.ext fun b o h => by
      obtain ⟨h1, h2, h3⟩ := hid_at h
      have nb : b ≠ f0 := ne_of_none h2 nf
      exact hid_of (fun m => (List.mem_cons.mp m).elim nb h1) (by rw [upd_ne nb]; exact h2) h3
    have ins2 : Ins (f0 :: S) (upd H1 f0 (.lst xs)) := (insH1.same (same_new nf)).cons upd_same
    have S2 : L2.Same H (upd H1 f0 (.lst xs)) := s1.trans (same_new nf)
    have kp : ∀ {G G' : Hp}, L2.Same H G → (∀ b o, G b = some o → b ≠ f0 → G' b = some o) → L2.Same H G' := fun s e b o h => e _ _ (s _ _ h) (ne_of_none h n0)
    have h0 : (upd H1 f0 (.lst xs)) f0 = some (.lst xs) := upd_same
    generalize upd H1 f0 (.lst xs) = G2 at t2 ins2 S2 h0 ⊢
    refine dropS ?_
    refine ext_step rfl h0 t2 ins2 gv_B (by decide) (by decide) ?_
    refine fun G3 ys e3 h3 t3 ins3 => ?_
    refine nx_intro ?_
    refine dropS ?_
    refine ext_step rfl h3 t3 ins3 gv_C (by decide) (by decide) ?_
    refine fun G4 ys4 e4 h4 t4 ins4 => ?_
    refine nx_intro ?_
    refine dropS ?_
    refine ext_step rfl h4 t4 ins4 gv_D (by decide) (by decide) ?_
    refine fun G5 ys5 e5 h5 t5 ins5 => ?_
    refine nx_intro (ret_intro (T3.op_in ?_))
    refine ⟨.ref f0, rfl, ?_⟩
    refine gv_E G5 _ (fun _ _ e => e) ins5 ?_
    refine fun G6 v s6 t6 => ?_
    cases t6 with
    | @lst b zs _ hb r6 =>
      refine ⟨f0, b, ys5, zs, rfl, rfl, s6 _ _ h5, hid_up _ _ hb, by rw [t5.length, r6.length]; exact small4 32, fun r nr => ?_⟩
      have sr := same_new (o := .lst (ys5 ++ zs)) nr
      have Sall : L2.Same H G6 := (kp (kp (kp S2 e3) e4) e5).trans s6
      refine k _ r (Sall.trans sr) (.lst (hid_of (ins.same Sall |>.new nr) upd_same (fun ps z => nomatch z)) ?_)
      have less : L2.Same (Hid (f0 :: S) G6) (Hid S (upd G6 r (.lst (ys5 ++ zs)))) := fun b o h => by
        obtain ⟨h1, h2, h3⟩ := hid_at h
        exact hid_of (fun m => h1 (List.mem_cons_of_mem _ m)) (sr _ _ h2) h3
      exact th_app ((t5.ext (hid_same s6)).ext less) (r6.ext less)
end
end K14.T69
namespace K14.T69
open T27 T3
open K14.Gn
open PySem PySem.W PySem.Calls PyProof.Rows L2 LamX
open He (ga)
open SX (S)
open TL (tl pre joinL)
open Kz (SS ExtS ExtS.trans small4 same_new boot_in boot_li boot_isi Has pe_has noE PSs.of_eq new_ext X1)
/-! ### _law_bent_text -/
/-- lists of texts, each a list of its own -/
structure LsA (G : Hp) (ls : List Addr) (wss : List (List Str)) : Prop where
  len : ls.length = wss.length
  nd : ls.Nodup
  at_ : ∀ (i : Nat) (a : Addr), ls[i]? = some a → ∃ ws, wss[i]? = some ws ∧ G a = some (.lst (ws.map V.str))
theorem LsA.nil {G : Hp} : LsA G [] [] := ⟨rfl, .nil, fun i a h => by simp at h⟩
theorem LsA.ext {G G' : Hp} {ls : List Addr} {wss : List (List Str)} (h : LsA G ls wss) (e : L2.Same G G') : LsA G' ls wss :=
  ⟨h.len, h.nd, fun i a ha => by obtain ⟨ws, h1, h2⟩ := h.at_ i a ha; exact ⟨ws, h1, e _ _ h2⟩⟩
theorem LsA.snoc {G : Hp} {ls : List Addr} {wss : List (List Str)} {p : Addr} {ws : List Str} (h : LsA G ls wss) (np : p ∉ ls) (hp : G p = some (.lst (ws.map V.str))) : LsA G (ls ++ [p]) (wss ++ [ws]) := by
  refine ⟨by simp [h.len], List.nodup_append.mpr ⟨h.nd, by simp, fun a ha b hb => ?_⟩, fun i a ha => ?_⟩
  · rw [List.mem_singleton.mp hb]
    exact fun z => np (z ▸ ha)
  · rcases Nat.lt_or_ge i ls.length with hi | hi
    · rw [List.getElem?_append_left hi] at ha
      obtain ⟨w, h1, h2⟩ := h.at_ i a ha
      exact ⟨w, by rw [List.getElem?_append_left (by rw [← h.len]; exact hi)]; exact h1, h2⟩
    · have : i = ls.length := by
        have := (List.getElem?_eq_some_iff.mp ha).1
        simp at this
        omega
      subst this
      rw [List.getElem?_concat_length] at ha
      cases ha
      exact ⟨ws, by rw [h.len]; exact List.getElem?_concat_length, hp⟩
theorem LsA.set {G : Hp} {ls : List Addr} {wss : List (List Str)} {a : Addr} {ws : List Str} {i : Nat} (h : LsA G ls wss) (hi : ls[i]? = some a) : LsA (upd G a (.lst (ws.map V.str))) ls (wss.set i ws) := by
  have il : i < ls.length := (List.getElem?_eq_some_iff.mp hi).1
  refine ⟨by simp [h.len], h.nd, fun j b hb => ?_⟩
  by_cases e : i = j
  · subst e
    rw [hi] at hb
    cases hb
    exact ⟨ws, by rw [List.getElem?_set_self (by rw [← h.len]; exact il)], upd_same⟩
  · obtain ⟨w, h1, h2⟩ := h.at_ j b hb
    refine ⟨w, by rw [List.getElem?_set_ne e]; exact h1, ?_⟩
    rw [upd_ne]
    · exact h2
    · rintro rfl
      exact e ((List.getElem?_inj il h.nd).mp (by rw [hi, hb]))
def wD (ws : List Str) : PyData := .list (ws.map .str)
theorem LsA.th {G : Hp} : ∀ {ls : List Addr} {wss : List (List Str)}, LsA G ls wss → ThAll G (ls.map V.ref) (wss.map wD)
  | [], [], _ => .nil
  | [], _ :: _, h => by have := h.len; simp at this
  | _ :: _, [], h => by have := h.len; simp at this
  | a :: ls, w :: wss, h => by
    obtain ⟨w', h1, h2⟩ := h.at_ 0 a rfl
    cases h1
    exact .cons (.lst h2 (strs_thl _)) (LsA.th ⟨by have := h.len; simpa using this, (List.nodup_cons.mp h.nd).2, fun i b hb => h.at_ (i + 1) b hb⟩)
theorem lc_lists {K : Frag} {g : TG} {xs : List V} {σ : L2.St} {H : Hp} {tl te : TE} {vs : List Nat} {Q : VK} {a : Addr} (f : V → List Str) (ha : H a = some (.lst xs)) (ht : ∀ R : VK, R (.ref a) H → tl σ H R) (len : xs.length ≤ 100000)
    (hs : ∀ (x : V) (G : Hp) (Q' : VK) (W : L2.St → Hp → Prop), (∀ σ2 H2, wipe σ2 vs = wipe σ vs → te σ2 H2 Q' → W σ2 H2) → x ∈ xs → (∀ p, G p = none → Q' (.ref p) (upd G p (.lst ((f x).map V.str)))) → g x (wipe σ vs) G W)
    (hq : ∀ (G : Hp) (D : Addr) (ls : List Addr), L2.Same H G → H D = none → G D = some (.lst (ls.map V.ref)) → D ∉ ls → (∀ a ∈ ls, H a = none) → LsA G ls (xs.map f) → Q (.ref D) G) : tLc (iList K tl) g tYes te vs σ H Q := by
  refine ht _ ?_
  refine ⟨a, rfl, ⟨xs, .inl (.inl ha)⟩, fun D hD => lc_acc (S := []) walk_list (fun b m => nomatch m) hD len (fun H' e => .inl (.inl (e _ _ ha))) (fun i ys G => ∃ ls, ys = ls.map V.ref ∧ (∀ a ∈ ls, H a = none) ∧ LsA G ls ((xs.take i).map f)) (fun i ys G G' e s => by obtain ⟨ls, e1, e3, e2⟩ := e; exact ⟨ls, e1, e3, e2.ext s⟩) ⟨[], rfl, (fun a m => nomatch m), .nil⟩ (fun i v G1 G2 ys Qy Qn hi s1 insG e y ky kn => ?_) (fun G ys s1 hA e => ?_)⟩
  · obtain ⟨rfl, hc⟩ := y
    obtain ⟨ls, rfl, lf, la⟩ := e
    refine hs v G2 Qy _ (fun σ2 H2 e1 e2 => ⟨e1, by unfold tYes; show (if true = true then _ else _); rw [if_pos rfl]; exact e2⟩) (List.mem_of_getElem? hc) fun p np => ky _ _ (same_new np) ⟨ls ++ [p], by simp, (fun b m => (List.mem_append.mp m).elim (lf b) fun m => by rw [List.mem_singleton.mp m]; exact s1.free np), ?_⟩
    have nD : p ≠ D := fun z => by
      obtain ⟨o, ho⟩ := insG D (List.mem_cons_self ..)
      rw [← z, np] at ho
      cases ho
    have nl : p ∉ ls := fun m => by
      obtain ⟨i, hi⟩ := List.getElem?_of_mem m
      obtain ⟨w, _, h2⟩ := la.at_ i p hi
      have := hid_up _ _ h2
      rw [np] at this
      cases this
    rw [List.take_add_one, hc, List.map_append]
    refine LsA.snoc (la.ext (hid_same (same_new np))) nl (hid_of (fun m => ?_) upd_same fun ps z => nomatch z)
    rcases List.mem_cons.mp m with q | q
    · exact nD q
    · cases q
  · obtain ⟨ls, rfl, lf, la⟩ := e
    rw [List.take_length] at la
    refine hq G D ls s1 hD hA (fun m => ?_) lf (la.ext hid_up)
    obtain ⟨i, hi⟩ := List.getElem?_of_mem m
    obtain ⟨w, _, h2⟩ := la.at_ i D hi
    exact (hid_at h2).1 (List.mem_cons_self ..)
/-! lengths -/
def wt (ws : List Str) : Nat := (ws.map (·.length)).sum + ws.length
theorem sum_setN : ∀ (l : List Nat) (i v : Nat), (l.set i v).sum ≤ l.sum + v
  | [], i, v => by simp
  | a :: l, 0, v => by simp [List.set]; omega
  | a :: l, i + 1, v => by
    have := sum_setN l i v
    simp [List.set]
    omega
theorem sum_setE : ∀ (l : List Nat) (i v u : Nat), l[i]? = some u → (l.set i v).sum + u = l.sum + v
  | [], i, v, u, h => by simp at h
  | a :: l, 0, v, u, h => by simp at h; simp [List.set]; omega
  | a :: l, i + 1, v, u, h => by
    have := sum_setE l i v u h
    simp [List.set]
    omega
theorem wt_set (ws : List Str) (i : Nat) (s : Str) : wt (ws.set i s) ≤ wt ws + s.length := by
  unfold wt
  rw [List.map_set, List.length_set]
  have := sum_setN (ws.map (·.length)) i s.length
  omega
theorem wt_mem {ws : List Str} {s : Str} (h : s ∈ ws) : s.length ≤ wt ws := by
  have : s.length ≤ (ws.map (·.length)).sum := mem_sum (List.mem_map.mpr ⟨s, h, rfl⟩)
  unfold wt
  omega
theorem wt_split (x y : Str) (hy : 1 ≤ y.length) : wt (Txt.split x y) ≤ x.length + 1 := split_weight x y hy
theorem join_le (a : Str) (ws : List Str) (h : a.length = 1) : (Txt.join a ws).length ≤ wt ws := by
  have h1 := StrLaws.join_length_le a ws
  rw [← TL.join_eq, h] at h1
  unfold wt
  omega
theorem sum_map_le {α : Type} (f g : α → Nat) : ∀ (l : List α), (∀ a ∈ l, f a ≤ g a) → (l.map f).sum ≤ (l.map g).sum
  | [], _ => Nat.le_refl _
  | a :: l, h => by
    have h1 := h a (List.mem_cons_self ..)
    have h2 := sum_map_le f g l fun b hb => h b (List.mem_cons_of_mem _ hb)
    simp
    omega
/-- the words of lines, one of them another: not much longer -/
theorem bent_len (Ls : List Str) (i j : Nat) (ws : List Str) (s : Str) (M : Nat) (hM : wt Ls ≤ M) (hi : (Ls.map fun l => Txt.split l " ")[i]? = some ws) (hs : s.length ≤ M) : (Txt.join "\n" ((((Ls.map fun l => Txt.split l " ").set i (ws.set j s))).map (Txt.join " "))).length ≤ 3 * M ∧ wt ((((Ls.map fun l => Txt.split l " ").set i (ws.set j s))).map (Txt.join " ")) ≤ 3 * M ∧ ((((Ls.map fun l => Txt.split l " ").set i (ws.set j s))).map wt).sum ≤ 2 * M := by
  have e1 : (" " : Str).length = 1 := by decide +kernel
  have e2 : ("\n" : Str).length = 1 := by decide +kernel
  generalize hW : (Ls.map fun l => Txt.split l " ") = W at hi ⊢
  have h1 : ((W.set i (ws.set j s)).map wt).sum ≤ (W.map wt).sum + s.length := by
    have h := sum_setE (W.map wt) i (wt (ws.set j s)) (wt ws) (by rw [List.getElem?_map, hi]; rfl)
    rw [List.map_set]
    have := wt_set ws j s
    omega
  have h2 : (W.map wt).sum ≤ wt Ls := by
    rw [← hW, List.map_map]
    have h := sum_map_le (wt ∘ fun l => Txt.split l " ") (fun l : Str => l.length + 1) Ls fun l _ => wt_split l " " (by rw [e1]; exact Nat.le_refl _)
    have h3 : (Ls.map fun l : Str => l.length + 1).sum = wt Ls := by
      unfold wt
      clear h hW h1 hi hM
      induction Ls with
      | nil => rfl
      | cons a r ih => simp; omega
    omega
  have h4 : wt ((W.set i (ws.set j s)).map (Txt.join " ")) ≤ ((W.set i (ws.set j s)).map wt).sum + W.length := by
    unfold wt
    rw [List.map_map, List.length_map, List.length_set]
    have := sum_map_le (List.length ∘ id) List.length ([] : List (List Nat)) (fun a h => nomatch h)
    have h5 := sum_map_le ((fun x : Str => x.length) ∘ (Txt.join " ")) wt (W.set i (ws.set j s)) fun a _ => join_le " " a e1
    have h6 : (List.map (fun ws : List Str => (ws.map (·.length)).sum + ws.length) (W.set i (ws.set j s))).sum = (List.map wt (W.set i (ws.set j s))).sum := rfl
    rw [h6]
    exact Nat.add_le_add_right h5 _
  have h7 : W.length ≤ wt Ls := by
    rw [← hW, List.length_map]
    unfold wt
    omega
  have h8 := join_le "\n" ((W.set i (ws.set j s)).map (Txt.join " ")) e2
  exact ⟨by omega, by omega, by omega⟩
end K14.T69
namespace K14.T69
open T27 T3
open K14.Gn
open PySem PySem.W PySem.Calls PyProof.Rows L2 LamX
open SX (S)
open TL (tl pre joinL)
/-! ### which texts a bending can make: none with the word "late9" -/
def badP (a b : Nat) : Bool := (a == 97 && b == 116) || (a == 116 && b == 101) || (a == 101 && b == 57)
/-- how often two signs stand beside one another as in "ate9" -/
def mB : Nat → List Nat → Nat
  | _, [] => 0
  | p, b :: r => (badP p b).toNat + mB b r
theorem bad0 (b : Nat) : badP 0 b = false := rfl
theorem bad_fst {a b : Nat} (h : badP a b = true) : a = 97 ∨ a = 116 ∨ a = 101 := by
  simp only [badP, Bool.or_eq_true, Bool.and_eq_true, beq_iff_eq] at h
  omega
theorem bad_snd {a b : Nat} (h : badP a b = true) : b = 116 ∨ b = 101 ∨ b = 57 := by
  simp only [badP, Bool.or_eq_true, Bool.and_eq_true, beq_iff_eq] at h
  omega
theorem mB_app : ∀ (u v : List Nat) (p : Nat), mB p (u ++ v) = mB p u + mB (u.getLastD p) v
  | [], v, p => by simp [mB]
  | a :: u, v, p => by
    have ih := mB_app u v a
    show (badP p a).toNat + mB a (u ++ v) = ((badP p a).toNat + mB a u) + mB ((a :: u).getLastD p) v
    rw [ih, List.getLastD_cons]
    omega
theorem mB_hd (p b : Nat) (r : List Nat) : mB p (b :: r) = mB 0 (b :: r) + (badP p b).toNat := by
  show (badP p b).toNat + mB b r = ((badP 0 b).toNat + mB b r) + _
  rw [bad0]
  simp
  omega
theorem toNat_le (b : Bool) : b.toNat ≤ 1 := by cases b <;> decide
theorem mB_mono (p : Nat) (v : List Nat) : mB 0 v ≤ mB p v := by
  cases v with
  | nil => exact Nat.le_refl _
  | cons b r => rw [mB_hd p]; omega
theorem mB_one (p : Nat) (v : List Nat) : mB p v ≤ mB 0 v + 1 := by
  cases v with
  | nil => exact Nat.zero_le _
  | cons b r => rw [mB_hd p]; have := toNat_le (badP p b); omega
theorem mB_no (p : Nat) (v : List Nat) (h : ¬ (p = 97 ∨ p = 116 ∨ p = 101)) : mB p v = mB 0 v := by
  cases v with
  | nil => rfl
  | cons b r =>
    rw [mB_hd p]
    have : badP p b = false := by
      cases hb : badP p b with
      | false => rfl
      | true => exact absurd (bad_fst hb) h
    rw [this]
    rfl
theorem mB_drop (v : List Nat) (n : Nat) : mB 0 (v.take n) + mB 0 (v.drop n) ≤ mB 0 v := by
  have h := mB_app (v.take n) (v.drop n) 0
  rw [List.take_append_drop] at h
  have := mB_mono ((v.take n).getLastD 0) (v.drop n)
  omega
theorem mB_cut (x : List Nat) (n k : Nat) : mB 0 (x.take n) + mB 0 (x.drop (n + k)) ≤ mB 0 x := by
  have h1 := mB_drop x n
  have h2 := mB_drop (x.drop n) k
  rw [List.drop_drop] at h2
  omega
def okPc (P : List Nat) : Bool := mB 0 P == 0 && !((P.headD 0 == 116 || P.headD 0 == 101 || P.headD 0 == 57) && (P.getLastD 0 == 97 || P.getLastD 0 == 116 || P.getLastD 0 == 101))
theorem mB_piece (A P B : List Nat) (h : okPc P = true) : mB 0 (A ++ (P ++ B)) ≤ mB 0 A + mB 0 B + 1 := by
  obtain ⟨h1, h2⟩ := Bool.and_eq_true_iff.mp h
  have h1 := beq_iff_eq.mp h1
  rw [mB_app]
  cases P with
  | nil =>
    have := mB_one (A.getLastD 0) B
    show mB 0 A + mB (A.getLastD 0) B ≤ _
    omega
  | cons b r =>
    rw [mB_app, mB_hd, h1]
    have e : (b :: r).getLastD (A.getLastD 0) = (b :: r).getLastD 0 := by rw [List.getLastD_cons, List.getLastD_cons]
    rw [e]
    have h3 := mB_one ((b :: r).getLastD 0) B
    have h4 := toNat_le (badP (A.getLastD 0) b)
    cases hb : badP (A.getLastD 0) b with
    | false =>
      show mB 0 A + (0 + 0 + _) ≤ _
      omega
    | true =>
      have h5 := bad_snd hb
      have h6 := mB_no ((b :: r).getLastD 0) B fun z => by
        have c1 : ((b :: r).headD 0 == 116 || (b :: r).headD 0 == 101 || (b :: r).headD 0 == 57) = true := by
          show (b == 116 || b == 101 || b == 57) = true
          simp only [Bool.or_eq_true, beq_iff_eq]
          omega
        have c2 : ((b :: r).getLastD 0 == 97 || (b :: r).getLastD 0 == 116 || (b :: r).getLastD 0 == 101) = true := by
          simp only [Bool.or_eq_true, beq_iff_eq]
          omega
        rw [c1, c2] at h2
        exact absurd h2 (by decide)
      rw [h6]
      show mB 0 A + (0 + 1 + _) ≤ _
      omega
theorem mB_join (s : Nat) (hs : s = 32 ∨ s = 10) : ∀ ws : List (List Nat), mB 0 (joinL [s] ws) = (ws.map (mB 0)).sum
  | [] => rfl
  | [a] => by simp [joinL]
  | a :: b :: r => by
    have ih := mB_join s hs (b :: r)
    have e : joinL [s] (a :: b :: r) = a ++ ([s] ++ joinL [s] (b :: r)) := rfl
    rw [e, mB_app, mB_app, List.map_cons, List.sum_cons]
    have e1 : mB (a.getLastD 0) [s] = 0 := by
      show (badP _ s).toNat + 0 = 0
      cases hb : badP (a.getLastD 0) s with
      | false => rfl
      | true => have := bad_snd hb; omega
    have e2 : mB (([s] : List Nat).getLastD (a.getLastD 0)) (joinL [s] (b :: r)) = mB 0 (joinL [s] (b :: r)) := mB_no s _ (by omega)
    rw [e1, e2, ih]
    omega
abbrev mBS (x : Str) : Nat := mB 0 (tl x)
theorem mBS_join (y : Str) (s : Nat) (hy : tl y = [s]) (hs : s = 32 ∨ s = 10) (ws : List Str) : mBS (Txt.join y ws) = (ws.map mBS).sum := by
  show mB 0 (tl (Txt.join y ws)) = _
  rw [TL.join_eq, TL.tl_join, hy, mB_join s hs, List.map_map]
  rfl
theorem tl_nl : tl ("\n" : Str) = [10] := by decide +kernel
theorem tl_sp : tl (" " : Str) = [32] := by decide +kernel
theorem mBS_split (x y : Str) (s : Nat) (hy : tl y = [s]) (hs : s = 32 ∨ s = 10) : ((Txt.split x y).map mBS).sum = mBS x := by
  rw [← mBS_join y s hy hs, TL.join_eq, StrLaws.join_split]
theorem mem_sum_map {α : Type} (f : α → Nat) {l : List α} {a : α} (h : a ∈ l) : f a ≤ (l.map f).sum := mem_sum (List.mem_map.mpr ⟨a, h, rfl⟩)
theorem sum_app (a b : List Nat) : (a ++ b).sum = a.sum + b.sum := by simp
theorem sum_td (l : List Nat) (i : Nat) : (l.take i).sum + (l.drop i).sum = l.sum := by
  rw [← sum_app, List.take_append_drop]
theorem sum_drop1 (l : List Nat) (i : Nat) : (l.drop (i + 1)).sum ≤ (l.drop i).sum := by
  have h : l.drop (i + 1) = (l.drop i).drop 1 := by rw [List.drop_drop]
  have h2 := sum_td (l.drop i) 1
  rw [h]
  omega
theorem sum2_set (μ : Str → Nat) (W : List (List Str)) (i j : Nat) (ws : List Str) (s : Str) (h : W[i]? = some ws) : ((W.set i (ws.set j s)).map fun u => (u.map μ).sum).sum ≤ (W.map fun u => (u.map μ).sum).sum + μ s := by
  have h1 := sum_setE (W.map fun u => (u.map μ).sum) i ((ws.set j s).map μ).sum (ws.map μ).sum (by rw [List.getElem?_map, h]; rfl)
  rw [List.map_set]
  have h2 : ((ws.set j s).map μ).sum ≤ (ws.map μ).sum + μ s := by
    rw [List.map_set]
    exact sum_setN _ _ _
  omega
/-- what a bent text keeps -/
def BentS (x y : Str) : Prop := y.length ≤ 3 * x.length + 12 ∧ mBS y ≤ max (mBS x + 1) (2 * mBS x)
theorem tl_cut1 (x : Str) (n : Nat) : tl (cutS x none (some (n : Int))) = (tl x).take n := by
  unfold cutS
  have e1 : HT.sIx x.length 0 none = 0 := rfl
  have e2 : HT.sIx x.length x.length (some (n : Int)) = min n x.length := HT.sIx_nat ..
  rw [e1, e2, List.drop_zero, Nat.sub_zero, TL.tl_mk, ← List.take_take, TL.len_tl, List.take_length]
theorem tl_cut2 (x : Str) (n : Nat) : tl (cutS x (some (n : Int)) none) = (tl x).drop n := by
  unfold cutS
  have e1 : HT.sIx x.length x.length none = x.length := rfl
  have e2 : HT.sIx x.length 0 (some (n : Int)) = min n x.length := HT.sIx_nat ..
  rw [e1, e2, TL.tl_mk]
  rcases Nat.le_total n x.length with h | h
  · rw [Nat.min_eq_left h]
    refine List.take_of_length_le ?_
    rw [List.length_drop, TL.len_tl]
    exact Nat.le_refl _
  · rw [Nat.min_eq_right h, List.drop_eq_nil_of_le (by rw [TL.len_tl]; exact Nat.le_refl _), List.drop_eq_nil_of_le (by rw [← TL.len_tl]; exact h)]
    exact List.take_nil
theorem bent_take (x : Str) (n : Nat) : BentS x (cutS x none (some (n : Int))) := by
  refine ⟨?_, ?_⟩
  · have := cutS_length x none (some (n : Int))
    omega
  · show mB 0 (tl _) ≤ max (mB 0 (tl x) + 1) (2 * mB 0 (tl x))
    rw [tl_cut1]
    have := mB_drop (tl x) n
    omega
theorem bent_piece (x P : Str) (n k : Nat) (hP : okPc (tl P) = true) (lP : P.length ≤ 9) : BentS x (cutS x none (some (n : Int)) ++ P ++ cutS x (some ((n + k : Nat) : Int)) none) := by
  refine ⟨?_, ?_⟩
  · have h1 := cutS_length x none (some (n : Int))
    have h2 := cutS_length x (some ((n + k : Nat) : Int)) none
    rw [app_len, app_len]
    omega
  · show mB 0 (tl _) ≤ max (mB 0 (tl x) + 1) (2 * mB 0 (tl x))
    rw [TL.tl_append, TL.tl_append, tl_cut1, tl_cut2, List.append_assoc]
    have h1 := mB_piece ((tl x).take n) (tl P) ((tl x).drop (n + k)) hP
    have h2 := mB_cut (tl x) n k
    omega
theorem len_join1 (y : Str) (hy : y.length = 1) (ws : List Str) : (Txt.join y ws).length ≤ (ws.map (·.length)).sum + ws.length := join_le y ws hy
theorem split_wt (x : Str) : ((Txt.split x "\n").map (·.length)).sum + (Txt.split x "\n").length ≤ x.length + 1 := split_weight x "\n" (by decide +kernel)
theorem nl1 : ("\n" : Str).length = 1 := by decide +kernel
theorem bent_cut (x : Str) (i : Nat) : BentS x (Txt.join "\n" ((Txt.split x "\n").take i ++ (Txt.split x "\n").drop (i + 1))) := by
  refine ⟨?_, ?_⟩
  · have h1 := len_join1 "\n" nl1 ((Txt.split x "\n").take i ++ (Txt.split x "\n").drop (i + 1))
    have h2 := split_wt x
    rw [List.map_append, sum_app, List.map_take, List.map_drop, List.length_append, List.length_take, List.length_drop] at h1
    have h3 := sum_td ((Txt.split x "\n").map (·.length)) i
    have h4 := sum_drop1 ((Txt.split x "\n").map (·.length)) i
    omega
  · rw [mBS_join "\n" 10 tl_nl (.inr rfl), List.map_append, sum_app, List.map_take, List.map_drop]
    have h3 := sum_td ((Txt.split x "\n").map mBS) i
    have h4 := sum_drop1 ((Txt.split x "\n").map mBS) i
    have h5 := mBS_split x "\n" 10 tl_nl (.inr rfl)
    omega
theorem bent_twice (x u : Str) (i : Nat) (hu : u ∈ Txt.split x "\n") : BentS x (Txt.join "\n" (((Txt.split x "\n").take i ++ [u]) ++ (Txt.split x "\n").drop i)) := by
  refine ⟨?_, ?_⟩
  · have h1 := len_join1 "\n" nl1 (((Txt.split x "\n").take i ++ [u]) ++ (Txt.split x "\n").drop i)
    have h2 := split_wt x
    rw [List.map_append, sum_app, List.map_append, sum_app, List.map_take, List.map_drop, List.length_append, List.length_append, List.length_take, List.length_drop] at h1
    have h3 := sum_td ((Txt.split x "\n").map (·.length)) i
    have h4 := mem_sum_map (fun s : Str => s.length) hu
    simp only [List.map_cons, List.map_nil, List.sum_cons, List.sum_nil, List.length_cons, List.length_nil] at h1
    omega
  · rw [mBS_join "\n" 10 tl_nl (.inr rfl), List.map_append, sum_app, List.map_append, sum_app, List.map_take, List.map_drop]
    have h3 := sum_td ((Txt.split x "\n").map mBS) i
    have h4 := mem_sum_map mBS hu
    have h5 := mBS_split x "\n" 10 tl_nl (.inr rfl)
    simp only [List.map_cons, List.map_nil, List.sum_cons, List.sum_nil]
    omega
theorem bent_words (x s : Str) (i j o : Nat) (ws row : List Str) (hi : ((Txt.split x "\n").map fun l => Txt.split l " ")[i]? = some ws) (ho : ((Txt.split x "\n").map fun l => Txt.split l " ")[o]? = some row) (hs : s ∈ row) :
    BentS x (Txt.join "\n" ((((Txt.split x "\n").map fun l => Txt.split l " ").set i (ws.set j s)).map (Txt.join " "))) := by
  have hrow : ∃ u ∈ Txt.split x "\n", row = Txt.split u " " := by
    rw [List.getElem?_map] at ho
    cases hu : (Txt.split x "\n")[o]? with
    | none => rw [hu] at ho; cases ho
    | some u => rw [hu] at ho; cases ho; exact ⟨u, List.mem_of_getElem? hu, rfl⟩
  obtain ⟨u, hu, rfl⟩ := hrow
  have w1 : wt (Txt.split x "\n") ≤ x.length + 1 := split_wt x
  refine ⟨?_, ?_⟩
  · have h1 : s.length ≤ x.length + 1 := by
      have a1 := wt_mem hs
      have a2 := wt_split u " " (by decide +kernel)
      have a3 := mem_sum_map (fun s : Str => s.length) hu
      have a4 := split_wt x
      have a5 : 1 ≤ (Txt.split x "\n").length := List.length_pos_of_mem hu
      omega
    have h2 := (bent_len (Txt.split x "\n") i j ws s (x.length + 1) w1 hi h1).1
    omega
  · rw [mBS_join "\n" 10 tl_nl (.inr rfl), List.map_map]
    have e1 : (mBS ∘ Txt.join " ") = fun u : List Str => (u.map mBS).sum := funext fun u => mBS_join " " 32 tl_sp (.inl rfl) u
    rw [e1]
    have h1 := sum2_set mBS _ i j ws s hi
    have h2 : (((Txt.split x "\n").map fun l => Txt.split l " ").map fun u => (u.map mBS).sum).sum = mBS x := by
      rw [List.map_map]
      have e2 : ((fun u : List Str => (u.map mBS).sum) ∘ fun l => Txt.split l " ") = mBS := funext fun l => mBS_split l " " 32 tl_sp (.inl rfl)
      rw [e2]
      exact mBS_split x "\n" 10 tl_nl (.inr rfl)
    have h3 := mem_sum_map mBS hs
    rw [mBS_split u " " 32 tl_sp (.inl rfl)] at h3
    have h4 := mem_sum_map mBS hu
    rw [mBS_split x "\n" 10 tl_nl (.inr rfl)] at h4
    omega
/-- the word late9 has three of them -/
theorem late_m : mBS ("late9" : Str) = 3 := by decide +kernel
/-- a word of right lines -/
theorem word_mB {gs : List (List (List Nat))} {g : List (List Nat)} {w : List Nat} (hg : g ∈ gs) (hw : w ∈ g) : mB 0 w ≤ mB 0 (gs.map lineW).flatten := by
  rw [lines_join, mB_join 10 (.inr rfl), List.map_append, sum_app, List.map_map]
  have h1 := mem_sum_map (mB 0 ∘ joinL [32]) hg
  have h2 : (mB 0 ∘ joinL [32]) g = (g.map (mB 0)).sum := mB_join 32 (.inl rfl) g
  have h3 := mem_sum_map (mB 0) hw
  omega
theorem not_late {gs : List (List (List Nat))} {g : List (List Nat)} {w : List Nat} (hg : g ∈ gs) (hw : w ∈ g) (h : mB 0 (gs.map lineW).flatten ≤ 2) : S w ≠ ("late9" : Str) := fun z => by
  have h1 := word_mB hg hw
  have h2 := late_m
  rw [← z] at h2
  have : mBS (S w) = mB 0 w := rfl
  omega
end K14.T69
namespace K14.T69
open T27 T3
open K14.Gn
open PySem PySem.W PySem.Calls PyProof.Rows L2 LamX
open He (ga)
open SX (S)
open TL (tl pre joinL)
open Kz (SS ExtS ExtS.trans small4 same_new boot_in boot_li boot_isi Has pe_has noE PSs.of_eq new_ext X1)
/-! ### _law_bent_text -/
theorem asg_intro {te : TE} {g : TG} {u : TS} {D : Ends} {σ : L2.St} {H : Hp} (h : te σ H fun v G => g v σ G (u D)) : tSeq (tAsg te g) u D σ H := h
theorem LsA.extS {G G1 : Hp} {ls : List Addr} {wss : List (List Str)} {l li : Addr} (h : LsA G ls wss) (n : ∀ a ∈ ls, a ≠ l ∧ a ≠ li) (e : ExtS l li G G1) : LsA G1 ls wss :=
  ⟨h.len, h.nd, fun i a ha => by
    obtain ⟨ws, h1, h2⟩ := h.at_ i a ha
    have m := n a (List.mem_of_getElem? ha)
    exact ⟨ws, h1, e _ _ h2 m.1 m.2⟩⟩
theorem ixN_nat {n j : Nat} (h : j < n) : ixN n (j : Int) = some j := by
  unfold ixN
  rw [if_pos (by omega), if_pos (by omega), Int.toNat_natCast]
theorem wD_shows (ws : List Str) : (its (wD ws)).map shows = ws := by
  show (ws.map PyData.str).map shows = ws
  rw [List.map_map]
  exact List.map_id _
def splV : V → List Str
  | .str t => Txt.split t " "
  | _ => []
abbrev sBt : Stmt := topS 47
abbrev NBt : List Str := ["stream", "text", "pieces", "at", "how", "piece", "lines", "one", "other", "words", "row", "mine", "line"]
theorem scBt : FnScope NBt ["stream", "text", "pieces"] (defScope sBt) := ⟨rfl, rfl, rfl, by decide +kernel, rfl, by decide +kernel, by decide +kernel⟩
theorem bdBt : defBody sBt = [stOf sBt 0, stOf sBt 1, stOf sBt 2, stOf sBt 3, stOf sBt 4, stOf sBt 5, stOf sBt 6, stOf sBt 7, stOf sBt 8, stOf sBt 9, stOf sBt 10] := by rfl
def btSc1 : Scope := scAsg (stOf sBt 7)
def btSc2 : Scope := scRetJ (stOf sBt 10)
section
variable {P : Program} {w : World} {K : Frag} {mg : Str → Option Value} {base : Heap}
def spBt : Sp := fun vs H Q _ => ∃ (l li p : Addr) (c : Int) (x : Str) (xs : List Str), vs = [.ref l, .str x, .ref p] ∧ Spr H l li c ∧ c < 800000000 ∧ x.length ≤ 10000 ∧ H p = some (.lst (xs.map V.str)) ∧ p ≠ l ∧ p ≠ li ∧ 0 < xs.length ∧ xs.length ≤ 100 ∧ (∀ s ∈ xs, s.length ≤ 9 ∧ okPc (tl s) = true) ∧ ∀ (H' : Hp) (y : Str) (c' : Int), ExtS l li H H' → Spr H' l li c' → c' ≤ c + 6 → BentS x y → Q (.str y) H'
theorem ok_bt {f : Addr} {fd : FuncData} (F : FunD K "_law_bent_text" "_law_bent_text" (defArgs sBt) (defBody sBt) (defScope sBt) [] [] f fd) (D : Has P w K mg base "_law_draw" 1 ["stream", "many"] spDrW) (PK : Has P w K mg base "_law_pick" 2 ["stream", "some"] spPk) (mn : mg "len" = none) (mi : mg "int" = none) : FnOk P w K mg base CX0 3 f fd ["stream", "text", "pieces"] spBt := by
  refine F.ok scBt (fun vs H Q E h => ?_) (fun cdv A outer s H vs Q XE hr h => ?_)
  · obtain ⟨l, li, p, c, x, xs, rfl, _⟩ := h
    rfl
  · obtain ⟨l, li, p, c, x, xs, rfl, hs, hc, lx, hp, pl, pli, x0, x1, hx, k⟩ := h
    have h0 : PS (XCo P w K mg base NBt "_law_bent_text" sBt f cdv A outer s H XE) (stOf sBt 0) _ := ps_par (i := 3) (j := 4) rfl scBt.nd rfl rfl (by decide) rfl rfl (pa_cons (pe_has D (hr.mono (by decide)) (by rfl) (pa_cons (pv 0) (pa_cons (pe_op op_add (pe_callB call_len_str (by rfl) mn boot_len (pa_cons (pv 1) pa_nil)) pe_int) pa_nil))) (pa_cons (pe_has D (hr.mono (by decide)) (by rfl) (pa_cons (pv 0) (pa_cons pe_int pa_nil))) pa_nil)) (by rfl)
    have h1 : PS (XCo P w K mg base NBt "_law_bent_text" sBt f cdv A outer s H XE) (stOf sBt 1) _ := ps_if (pt_cmpR op_eq (pv 4) pe_int (nomark _)) (pss_one (ps_ret (pe_slice sl_str (pv 1) po_none (po_some (pv 3))))) pss_nil
    have h2 : PS (XCo P w K mg base NBt "_law_bent_text" sBt f cdv A outer s H XE) (stOf sBt 2) _ := ps_if (pt_cmpR op_lt (pv 4) pe_int (nomark _)) (pss_cons (ps_set (i := 5) scBt.nd rfl (.inl rfl) (pe_ifExp (pt_cmpR op_lt (pv 4) pe_int (nomark _)) (pe_has PK (hr.mono (by decide)) (by rfl) (pa_cons (pv 0) (pa_cons (pv 2) pa_nil))) pe_str))
      (pss_one (ps_ret (pe_op op_add_str (pe_op op_add_str (pe_slice sl_str (pv 1) po_none (po_some (pv 3))) (pv 5)) (pe_slice sl_str (pv 1) (po_some (pe_op op_add (pv 3) (pe_callTy call_int1 (by rfl) mi boot_in (pa_cons (pe_cmpR op_gt (pv 4) pe_int (nomark _)) pa_nil)))) po_none))))) pss_nil
    have h3 : PS (XCo P w K mg base NBt "_law_bent_text" sBt f cdv A outer s H XE) (stOf sBt 3) _ := ps_set (i := 6) scBt.nd rfl (.inl rfl) (pe_bm PySem.F.plainAttrs_str PySem.F.slot_str_split PySem.F.type_str_split mt_split (pv 1) (pa_cons pe_str pa_nil))
    have ln : ∀ {i : Nat} {x : Str} {q1 q2 q3 : Pos} {n : Nat}, PE (XCo P w K mg base NBt "_law_bent_text" sBt f cdv A outer s H XE) (.Call (.Name "len" q1) [.Name "lines" q2] [] q3) (tCB (Kz.rLen K) (tCons (tVar 6) tNil)) := fun {i x q1 q2 q3 n} => pe_callB call_len_seq (by rfl) mn boot_len (pa_cons (pv 6) pa_nil)
    have h4 : PS (XCo P w K mg base NBt "_law_bent_text" sBt f cdv A outer s H XE) (stOf sBt 4) _ := ps_par (i := 7) (j := 8) rfl scBt.nd rfl rfl (by decide) rfl rfl (pa_cons (pe_has D (hr.mono (by decide)) (by rfl) (pa_cons (pv 0) (pa_cons (pe_callB call_len_seq (by rfl) mn boot_len (pa_cons (pv 6) pa_nil)) pa_nil))) (pa_cons (pe_has D (hr.mono (by decide)) (by rfl) (pa_cons (pv 0) (pa_cons (pe_callB call_len_seq (by rfl) mn boot_len (pa_cons (pv 6) pa_nil)) pa_nil))) pa_nil)) (by rfl)
    have h5 : PS (XCo P w K mg base NBt "_law_bent_text" sBt f cdv A outer s H XE) (stOf sBt 5) _ := ps_if (pt_cmpR op_eq (pv 4) pe_int (nomark _)) (pss_one (ps_ret (pe_join pe_str (pe_op op_cat (pe_slice sl_list (pv 6) po_none (po_some (pv 7))) (pe_slice sl_list (pv 6) (po_some (pe_op op_add (pv 7) pe_int)) po_none))))) pss_nil
    have h6 : PS (XCo P w K mg base NBt "_law_bent_text" sBt f cdv A outer s H XE) (stOf sBt 6) _ := ps_if (pt_cmpR op_eq (pv 4) pe_int (nomark _)) (pss_one (ps_ret (pe_join pe_str (pe_op op_cat (pe_op op_cat (pe_slice sl_list (pv 6) po_none (po_some (pv 7))) (pe_lst (pa_cons (pe_ix ix_list (pv 6) (pv 8) (fun _ _ => rfl)) pa_nil))) (pe_slice sl_list (pv 6) (po_some (pv 7)) po_none))))) pss_nil
    have h7 : PS (XCo P w K mg base NBt "_law_bent_text" sBt f cdv A outer s H XE) (stOf sBt 7) _ := ps_setLc (X := XCo P w K mg base NBt "_law_bent_text" sBt f cdv A outer s H XE) (i := 9) (te := tBM K "str" (fun x xs H Q => ∃ a b, x = .str a ∧ xs = [.str b] ∧ (b.length == 0) = false ∧ a.length + 2 ≤ sizeLine ∧ rNewStrs (Txt.split a b) H Q) (tVar 12) (tCons (tC (.str " ")) tNil)) (scope := btSc1) (own := [("line", 12)]) (g := gName 12) (tt := tYes) rfl scBt.nd rfl rfl (sw_true rfl rfl rfl (by decide +kernel))
      (pi_list (pv 6)) (blkOk_by (N := NBt) (sc := defScope sBt) (by decide +kernel)) (fun _ _ _ _ _ => pg_name (i := 12) scBt.nd rfl (Or.inl rfl)) (fun _ _ _ _ _ => pts_nil)
      (fun s0 H0 C0 cl0 fp0 => by exact pe_bm PySem.F.plainAttrs_str PySem.F.slot_str_split PySem.F.type_str_split mt_split (pv 12) (pa_cons pe_str pa_nil))
    have h8 : PS (XCo P w K mg base NBt "_law_bent_text" sBt f cdv A outer s H XE) (stOf sBt 8) _ := ps_par (i := 10) (j := 11) rfl scBt.nd rfl rfl (by decide) rfl rfl (pa_cons (pe_ix ix_list (pv 9) (pv 8) (fun _ _ => rfl)) (pa_cons (pe_ix ix_list (pv 9) (pv 7) (fun _ _ => rfl)) pa_nil)) (by rfl)
    have h9 : PS (XCo P w K mg base NBt "_law_bent_text" sBt f cdv A outer s H XE) (stOf sBt 9) _ := ps_asg (pe_ix ix_list (pv 10) (pe_has D (hr.mono (by decide)) (by rfl) (pa_cons (pv 0) (pa_cons (pe_callB call_len_seq (by rfl) mn boot_len (pa_cons (pv 10) pa_nil)) pa_nil))) (fun _ _ => rfl)) (pg_sub (pv 11) (pe_has D (hr.mono (by decide)) (by rfl) (pa_cons (pv 0) (pa_cons (pe_callB call_len_seq (by rfl) mn boot_len (pa_cons (pv 11) pa_nil)) pa_nil))) set_list)
    have h10 : PS (XCo P w K mg base NBt "_law_bent_text" sBt f cdv A outer s H XE) (stOf sBt 10) _ := ps_ret (pe_join pe_str (pe_lc (X := XCo P w K mg base NBt "_law_bent_text" sBt f cdv A outer s H XE) (scope := btSc2) (own := [("line", 12)]) (g := gName 12) (tt := tYes)
      (te := tM1 (fun x xs H Q => ∃ a p, ∃ ys : List Str, x = .str a ∧ xs = [.ref p] ∧ (SqL K H p (ys.map V.str) ∨ SqT K H p (ys.map V.str)) ∧ (ys.map (·.length)).sum + ys.length * a.length ≤ 16777216 ∧ Q (.str (Txt.join a ys)) H) (tC (.str " ")) (tVar 12)) rfl scBt.nd (pi_sq (pv 9)) (blkOk_by (N := NBt) (sc := defScope sBt) (by decide +kernel))
      (fun _ _ _ _ _ => pg_name (i := 12) scBt.nd rfl (Or.inl rfl)) (fun _ _ _ _ _ => pts_nil) (fun s0 H0 C0 cl0 fp0 => by exact pe_join pe_str (pv 12))))
    have PP := PSs.of_eq bdBt (pss_cons h0 (pss_cons h1 (pss_cons h2 (pss_cons h3 (pss_cons h4 (pss_cons h5 (pss_cons h6 (pss_cons h7 (pss_cons h8 (pss_cons h9 (pss_one h10)))))))))))
    clear h0 h1 h2 h3 h4 h5 h6 h7 h8 h9 h10 ln
    refine ⟨_, PSs.nox PP, ?_⟩
    clear PP
    have sz : x.length ≤ sizeLine := by rw [sizeLine_eq]; omega
    refine par_intro (i := 3) (j := 4) ?_
    refine cons2_intro ?_
    refine ⟨.ref l, rfl, .str x, rfl, x, rfl, sz, _, 1, rfl, rfl, l, li, c, _, rfl, hs, by omega, by omega, by omega, fun H1 at_ e1 s1 a0 a1 => ?_⟩
    refine ⟨.ref l, rfl, l, li, c + 1, 9, rfl, s1, by decide, by decide, by omega, fun H2 how e2 s2 w0 w1 => ?_⟩
    refine ⟨_, _, rfl, ?_⟩
    obtain ⟨n, rfl⟩ : ∃ n : Nat, at_ = (n : Nat) := ⟨at_.toNat, by omega⟩
    have ec : c + 1 + 1 = c + 2 := by omega
    rw [ec] at s2
    have E2 := e1.trans e2
    clear e1 e2 s1
    refine T3.if_intro ?_
    refine ⟨.int how, rfl, rfl, _, rfl, ite2 (fun _ => ?_) (fun _ => ?_)⟩
    · exact ⟨_, rfl, _, rfl, _, rfl, x, rfl, sz, k H2 _ _ E2 s2 (by omega) (bent_take x n)⟩
    refine nx_intro (ifS_intro ?_)
    refine ⟨.int how, rfl, how, 5, rfl, rfl, _, rfl, ite2 (fun _ => ?_) (fun _ => ?_)⟩
    · have lim := cutS_length x none (some ((n : Nat) : Int))
      have c0 : ("" : Str).length = 0 := by decide +kernel
      have ek : ((n : Nat) : Int) + (if decide ((2 : Int) < how) = true then 1 else 0) = ((n + (if decide ((2 : Int) < how) = true then 1 else 0) : Nat) : Int) := by split <;> simp
      refine set_intro (i := 5) ?_
      refine ⟨.int how, rfl, how, 4, rfl, rfl, _, rfl, ite2 (fun _ => ?_) (fun _ => ?_)⟩
      · refine ⟨.ref l, rfl, .ref p, rfl, l, li, p, c + 2, xs.map V.str, rfl, s2, E2 _ _ hp pl pli, pl, pli, by rw [List.length_map]; exact x0, by rw [List.length_map]; omega, by omega, fun H3 y e3 s3 my => ?_⟩
        obtain ⟨sg, hsg, rfl⟩ := List.mem_map.mp my
        obtain ⟨g1, g2⟩ := hx sg hsg
        refine ⟨.str x, rfl, .int _, rfl, _, rfl, x, rfl, sz, .str sg, rfl, _, _, rfl, rfl, by rw [sizeLine_eq]; omega, .str x, rfl, .int _, rfl, .int how, rfl, how, 2, rfl, rfl, .inr ⟨_, rfl, _, _, rfl, rfl, _, rfl, x, rfl, sz, ?_⟩⟩
        have c2 := cutS_length x (some (((n : Nat) : Int) + (if decide ((2 : Int) < how) = true then 1 else 0))) none
        refine ⟨_, _, rfl, rfl, by rw [app_len, sizeLine_eq]; omega, ?_⟩
        rw [ek]
        exact k H3 _ _ (E2.trans e3) s3 (by omega) (bent_piece x sg n _ g2 g1)
      · refine ⟨.str x, rfl, .int _, rfl, _, rfl, x, rfl, sz, .str "", rfl, _, _, rfl, rfl, by rw [sizeLine_eq]; omega, .str x, rfl, .int _, rfl, .int how, rfl, how, 2, rfl, rfl, .inr ⟨_, rfl, _, _, rfl, rfl, _, rfl, x, rfl, sz, ?_⟩⟩
        have c2 := cutS_length x (some (((n : Nat) : Int) + (if decide ((2 : Int) < how) = true then 1 else 0))) none
        have c0 : ("" : Str).length = 0 := by decide +kernel
        refine ⟨_, _, rfl, rfl, by rw [app_len, sizeLine_eq]; omega, ?_⟩
        rw [ek]
        exact k H2 _ _ E2 s2 (by omega) (bent_piece x "" n _ (by decide +kernel) (by rw [c0]; decide))
    clear hx x0 x1 hp pl pli
    refine nx_intro (set_intro (i := 6) ?_)
    refine ⟨.str x, rfl, rfl, x, "\n", rfl, rfl, by decide +kernel, by rw [sizeLine_eq]; omega, fun a na => ?_⟩
    have sa := same_new (o := .lst ((Txt.split x "\n").map V.str)) na
    have nal := s2.new na
    have ha := upd_same (H := H2) (a := a) (o := .lst ((Txt.split x "\n").map V.str))
    have s3 := s2.same sa
    have E3 := E2.trans (same_S sa)
    have nH : H a = none := by
      cases hh : H a with
      | none => rfl
      | some o => 
        have := E2 _ _ hh nal.1 nal.2
        rw [na] at this
        cases this
    generalize upd H2 a (.lst ((Txt.split x "\n").map V.str)) = H3 at ha s3 E3 ⊢
    clear sa na s2 E2 H1 H2 a0 a1
    have L1 : 1 ≤ (Txt.split x "\n").length := split_pos x "\n"
    have L2 := split_wt x
    have lb := (.lst ((Txt.split x "\n").map V.str) : HO)
    generalize hLs : Txt.split x "\n" = Ls at *
    have lm : (Ls.map V.str).length = Ls.length := List.length_map ..
    refine T3.par_intro (i := 7) (j := 8) ?_
    refine cons2_intro ?_
    refine ⟨.ref l, rfl, .ref a, rfl, a, Ls.map V.str, rfl, .inl (.inl (.inl ha)), l, li, c + 2, _, rfl, s3, by rw [lm]; omega, by rw [lm]; omega, by omega, fun H4 one e4 s4 o0 o1 => ?_⟩
    have ha4 := e4 _ _ ha nal.1 nal.2
    refine ⟨.ref l, rfl, .ref a, rfl, a, Ls.map V.str, rfl, .inl (.inl (.inl ha4)), l, li, c + 2 + 1, _, rfl, s4, by rw [lm]; omega, by rw [lm]; omega, by omega, fun H5 other e5 s5 u0 u1 => ?_⟩
    have ha5 := e5 _ _ ha4 nal.1 nal.2
    refine ⟨_, _, rfl, ?_⟩
    rw [lm] at o1 u1
    obtain ⟨i, rfl⟩ : ∃ i : Nat, one = (i : Nat) := ⟨one.toNat, by omega⟩
    obtain ⟨j, rfl⟩ : ∃ j : Nat, other = (j : Nat) := ⟨other.toNat, by omega⟩
    have ec : c + 2 + 1 + 1 = c + 4 := by omega
    rw [ec] at s5
    have E5 := E3.trans (e4.trans e5)
    clear e4 e5 s4 s3 E3 ha ha4
    have i1 : i < Ls.length := by omega
    have j1 : j < Ls.length := by omega
    have mB : (Ls.map (·.length)).sum ≤ 10001 := by omega
    have mL : Ls.length ≤ 10001 := by omega
    have c1 : ("\n" : Str).length = 1 := nl1
    refine T3.if_intro ?_
    refine ⟨.int how, rfl, rfl, _, rfl, ite2 (fun _ => ?_) (fun _ => ?_)⟩
    · refine ret_intro (joinS ?_)
      refine ⟨.ref a, rfl, .int _, rfl, _, rfl, a, _, rfl, .inl (.inl ha5), fun p1 n1 => ?_⟩
      have z1 := same_new (o := .lst (cutV (Ls.map V.str) none (some (i : Nat)))) n1
      refine ⟨.ref a, rfl, .int _, rfl, _, 1, rfl, rfl, _, rfl, a, _, rfl, .inl (.inl (z1 _ _ ha5)), fun p2 n2 => ?_⟩
      have z2 := same_new (o := .lst (cutV (Ls.map V.str) (some ((i : Nat) + 1 : Int)) none)) n2
      have ei : ((i : Nat) + 1 : Int) = ((i + 1 : Nat) : Int) := by push_cast; rfl
      refine ⟨p1, p2, _, _, rfl, rfl, z2 _ _ upd_same, upd_same, ?_, fun p3 n3 => ?_⟩
      · have b1 := cutV_length (Ls.map V.str) none (some (i : Nat))
        have b2 := cutV_length (Ls.map V.str) (some ((i : Nat) + 1 : Int)) none
        rw [lm] at b1 b2
        rw [sizeLine_eq]
        omega
      have z3 := same_new (o := .lst (cutV (Ls.map V.str) none (some (i : Nat)) ++ cutV (Ls.map V.str) (some ((i : Nat) + 1 : Int)) none)) n3
      have el : cutV (Ls.map V.str) none (some (i : Nat)) ++ cutV (Ls.map V.str) (some ((i : Nat) + 1 : Int)) none = (Ls.take i ++ Ls.drop (i + 1)).map V.str := by
        rw [ei, cut_takeA, cutV_drop (by rw [lm]; omega), List.map_append, List.map_take, List.map_drop]
      refine ⟨"\n", p3, Ls.take i ++ Ls.drop (i + 1), rfl, rfl, .inl (.inl (.inl (by rw [← el]; exact upd_same))), ?_, ?_⟩
      · rw [c1, List.map_append, sum_app, List.map_take, List.map_drop, List.length_append, List.length_take, List.length_drop]
        have h3 := sum_td (Ls.map (·.length)) i
        have h4 := sum_drop1 (Ls.map (·.length)) i
        omega
      · refine k _ _ _ (E5.trans (same_S (z1.trans (z2.trans z3)))) (s5.same (z1.trans (z2.trans z3))) (by omega) ?_
        rw [← hLs]
        exact bent_cut x i
    refine nx_intro (ifS_intro ?_)
    refine ⟨.int how, rfl, rfl, _, rfl, ite2 (fun _ => ?_) (fun _ => ?_)⟩
    · refine ret_intro (joinS ?_)
      refine ⟨.ref a, rfl, .int _, rfl, _, rfl, a, _, rfl, .inl (.inl ha5), fun p1 n1 => ?_⟩
      have z1 := same_new (o := .lst (cutV (Ls.map V.str) none (some (i : Nat)))) n1
      obtain ⟨u, hu⟩ : ∃ u, Ls[j]? = some u := ⟨_, List.getElem?_eq_getElem j1⟩
      have hu' : (Ls.map V.str)[j]? = some (.str u) := by rw [List.getElem?_map, hu]; rfl
      refine ⟨.ref a, rfl, .int _, rfl, ⟨a, _, _, _, rfl, rfl, .inl (.inl (z1 _ _ ha5)), atI_nat hu', small4 1, fun p0 n0 => ?_⟩⟩
      have z0 := same_new (o := .lst [V.str u]) n0
      refine ⟨p1, p0, _, _, rfl, rfl, z0 _ _ upd_same, upd_same, ?_, fun p4 n4 => ?_⟩
      · have b1 := cutV_length (Ls.map V.str) none (some (i : Nat))
        rw [lm] at b1
        rw [sizeLine_eq]
        simp only [List.length_cons, List.length_nil]
        omega
      have z4 := same_new (o := .lst (cutV (Ls.map V.str) none (some (i : Nat)) ++ [V.str u])) n4
      refine ⟨.ref a, rfl, .int _, rfl, _, rfl, a, _, rfl, .inl (.inl (z4 _ _ (z0 _ _ (z1 _ _ ha5)))), fun p2 n2 => ?_⟩
      have z2 := same_new (o := .lst (cutV (Ls.map V.str) (some (i : Nat)) none)) n2
      refine ⟨p4, p2, _, _, rfl, rfl, z2 _ _ upd_same, upd_same, ?_, fun p3 n3 => ?_⟩
      · have b1 := cutV_length (Ls.map V.str) none (some (i : Nat))
        have b2 := cutV_length (Ls.map V.str) (some (i : Nat)) none
        rw [lm] at b1 b2
        rw [sizeLine_eq, List.length_append]
        simp only [List.length_cons, List.length_nil]
        omega
      have z3 := same_new (o := .lst ((cutV (Ls.map V.str) none (some (i : Nat)) ++ [V.str u]) ++ cutV (Ls.map V.str) (some (i : Nat)) none)) n3
      have el : (cutV (Ls.map V.str) none (some (i : Nat)) ++ [V.str u]) ++ cutV (Ls.map V.str) (some (i : Nat)) none = ((Ls.take i ++ [u]) ++ Ls.drop i).map V.str := by
        rw [cut_takeA, cutV_drop (by rw [lm]; omega), List.map_append, List.map_append, List.map_take, List.map_drop]
        rfl
      have mu : u ∈ Ls := List.mem_of_getElem? hu
      have lu := mem_sum_map (fun s : Str => s.length) mu
      refine ⟨"\n", p3, (Ls.take i ++ [u]) ++ Ls.drop i, rfl, rfl, .inl (.inl (.inl (by rw [← el]; exact upd_same))), ?_, ?_⟩
      · rw [c1, List.map_append, sum_app, List.map_append, sum_app, List.map_take, List.map_drop, List.length_append, List.length_append, List.length_take, List.length_drop]
        have h3 := sum_td (Ls.map (·.length)) i
        simp only [List.map_cons, List.map_nil, List.sum_cons, List.sum_nil, List.length_cons, List.length_nil]
        omega
      · refine k _ _ _ (E5.trans (same_S (z1.trans (z0.trans (z4.trans (z2.trans z3)))))) (s5.same (z1.trans (z0.trans (z4.trans (z2.trans z3))))) (by omega) ?_
        subst hLs
        exact bent_twice x u i mu
    have i2 : ∀ s ∈ Ls, s.length ≤ 10001 := fun s m => by have := mem_sum_map (fun s : Str => s.length) m; omega
    refine nx_intro (set_intro (i := 9) ?_)
    refine lc_lists (a := a) splV ha5 (fun R h => ⟨.ref a, rfl, h⟩) (by rw [lm]; omega) (fun v G Q' W hW hv kk => ?_) (fun G D ls sG nD hD nDl fr la => ?_)
    · obtain ⟨t, mt, rfl⟩ := List.mem_map.mp hv
      have := i2 t mt
      refine gset (hW _ _ rfl ?_)
      exact ⟨.str t, rfl, rfl, t, " ", rfl, rfl, by decide +kernel, by rw [sizeLine_eq]; omega, fun p np => kk p np⟩
    have ew : (Ls.map V.str).map splV = Ls.map fun t => Txt.split t " " := by rw [List.map_map]; rfl
    rw [ew] at la
    have lW : ls.length = Ls.length := by rw [la.len, List.length_map]
    obtain ⟨mi, hmi⟩ : ∃ u, ls[i]? = some u := ⟨_, List.getElem?_eq_getElem (by rw [lW]; exact i1)⟩
    obtain ⟨rw', hrw⟩ : ∃ u, ls[j]? = some u := ⟨_, List.getElem?_eq_getElem (by rw [lW]; exact j1)⟩
    obtain ⟨ws, w1, w2⟩ := la.at_ i mi hmi
    obtain ⟨row, w3, w4⟩ := la.at_ j rw' hrw
    have nll : ∀ a ∈ ls, a ≠ l ∧ a ≠ li := fun a m => s5.new (fr a m)
    have sG5 := s5.same sG
    have EG := E5.trans (same_S sG)
    have lw1 : 1 ≤ ws.length := by
      obtain ⟨t, _, e⟩ := List.mem_map.mp (List.mem_of_getElem? w1)
      rw [← e]
      exact split_pos t " "
    have lr1 : 1 ≤ row.length := by
      obtain ⟨t, _, e⟩ := List.mem_map.mp (List.mem_of_getElem? w3)
      rw [← e]
      exact split_pos t " "
    have lwt : ∀ u ∈ Ls.map (fun t => Txt.split t " "), u.length ≤ 10002 := fun u m => by
      obtain ⟨t, mt, rfl⟩ := List.mem_map.mp m
      have h1 := wt_split t " " (by decide +kernel)
      have := i2 t mt
      unfold wt at h1
      omega
    have lw2 := lwt ws (List.mem_of_getElem? w1)
    have lr2 := lwt row (List.mem_of_getElem? w3)
    refine T3.par_intro (i := 10) (j := 11) ?_
    refine cons2_intro ?_
    refine ⟨.ref D, rfl, .int _, rfl, D, _, _, _, rfl, rfl, .inl (.inl hD), atI_nat (j := j) (by rw [List.getElem?_map, hrw]; rfl), ?_⟩
    refine ⟨.ref D, rfl, .int _, rfl, D, _, _, _, rfl, rfl, .inl (.inl hD), atI_nat (j := i) (by rw [List.getElem?_map, hmi]; rfl), ?_⟩
    refine ⟨_, _, rfl, ?_⟩
    refine asg_intro ?_
    refine ⟨.ref rw', rfl, .ref l, rfl, .ref rw', rfl, rw', row.map V.str, rfl, .inl (.inl (.inl w4)), l, li, c + 4, _, rfl, sG5, by rw [List.length_map]; omega, by rw [List.length_map]; omega, by omega, fun G1 q eq sq q0 q1 => ?_⟩
    have la1 := la.extS nll eq
    rw [List.length_map] at q1
    obtain ⟨q, rfl⟩ : ∃ n : Nat, q = (n : Nat) := ⟨q.toNat, by omega⟩
    obtain ⟨sg, hsg⟩ : ∃ u, row[q]? = some u := ⟨_, List.getElem?_eq_getElem (by omega)⟩
    have nrw := nll rw' (List.mem_of_getElem? hrw)
    refine ⟨rw', _, _, _, rfl, rfl, .inl (.inl (eq _ _ w4 nrw.1 nrw.2)), atI_nat (j := q) (by rw [List.getElem?_map, hsg]; rfl), ?_⟩
    have nmi := nll mi (List.mem_of_getElem? hmi)
    refine ⟨.ref mi, rfl, .ref l, rfl, .ref mi, rfl, mi, ws.map V.str, rfl, .inl (.inl (.inl (eq _ _ w2 nmi.1 nmi.2))), l, li, c + 4 + 1, _, rfl, sq, by rw [List.length_map]; omega, by rw [List.length_map]; omega, by omega, fun G2 r er sr r0 r1 => ?_⟩
    have la2 := la1.extS nll er
    rw [List.length_map] at r1
    obtain ⟨r, rfl⟩ : ∃ n : Nat, r = (n : Nat) := ⟨r.toNat, by omega⟩
    refine ⟨mi, _, _, r, rfl, rfl, er _ _ (eq _ _ w2 nmi.1 nmi.2) nmi.1 nmi.2, ixN_nat (by rw [List.length_map]; omega), ?_⟩
    have es : (ws.map V.str).set r (.str sg) = (ws.set r sg).map V.str := by rw [List.map_set]
    rw [es]
    have la3 := la2.set (ws := ws.set r sg) hmi
    have nDn := s5.new nD
    have hD3 : (upd G2 mi (.lst ((ws.set r sg).map V.str))) D = some (.lst (ls.map V.ref)) := by
      rw [upd_ne (fun z => nDl (by rw [z]; exact List.mem_of_getElem? hmi))]
      exact er _ _ (eq _ _ hD nDn.1 nDn.2) nDn.1 nDn.2
    have Hmi : H mi = none := by
      cases hh : H mi with
      | none => rfl
      | some o =>
        have := E5 _ _ hh nmi.1 nmi.2
        rw [fr mi (List.mem_of_getElem? hmi)] at this
        cases this
    have E3 : ExtS l li H (upd G2 mi (.lst ((ws.set r sg).map V.str))) := fun b o hb n1 n2 => by
      rw [upd_ne (fun z => by rw [z, Hmi] at hb; cases hb)]
      exact er _ _ (eq _ _ (EG _ _ hb n1 n2) n1 n2) n1 n2
    have sp3 : Spr (upd G2 mi (.lst ((ws.set r sg).map V.str))) l li (c + 6) := by
      have : c + 4 + 1 + 1 = c + 6 := by omega
      rw [this] at sr
      exact sr.upd nmi.1 nmi.2
    generalize upd G2 mi (.lst ((ws.set r sg).map V.str)) = G3 at la3 hD3 E3 sp3 ⊢
    have msg : sg ∈ row := List.mem_of_getElem? hsg
    have Msg : sg.length ≤ x.length + 1 := by
      obtain ⟨t, mt, e⟩ := List.mem_map.mp (List.mem_of_getElem? w3)
      rw [← e] at msg
      have a1 := wt_mem msg
      have a2 := wt_split t " " (by decide +kernel)
      have a3 := mem_sum_map (fun s : Str => s.length) mt
      omega
    have BL := bent_len Ls i r ws sg (x.length + 1) L2 w1 Msg
    refine ret_intro (joinS ?_)
    refine lc_dat (K := K) (fun z => .str (Txt.join " " ((its z).map shows))) (fun R h => ⟨.ref D, rfl, h⟩) (.lst hD3 la3.th) rfl (by show (List.map wD _).length ≤ _; rw [List.length_map, List.length_set, List.length_map]; omega) (fun z v G Q' W hW hz s tz kz => ?_) (fun G D2 s4 nD2 hD2 => ?_)
    · obtain ⟨u, mu, rfl⟩ := List.mem_map.mp (show z ∈ List.map wD _ from hz)
      have wu := mem_sum_map wt mu
      refine gset (hW _ _ rfl (joinS ?_))
      cases tz with
      | @lst p xs' _ hp r' =>
        have ex := th_strsV r'
        subst ex
        have e1 : (" " : Str).length = 1 := by decide +kernel
        have e2 : wt u = (u.map (·.length)).sum + u.length := rfl
        refine ⟨.ref p, rfl, " ", p, u, rfl, rfl, .inl (.inl (.inl hp)), by rw [e1]; omega, ?_⟩
        have := kz G (fun _ _ e => e)
        rw [wD_shows] at this
        exact this
    · have e1 : (its (PyData.list (((Ls.map fun t => Txt.split t " ").set i (ws.set r sg)).map wD))).map (fun z => V.str (Txt.join " " ((its z).map shows))) = (((Ls.map fun t => Txt.split t " ").set i (ws.set r sg)).map (Txt.join " ")).map V.str := by
        show (List.map wD _).map _ = _
        rw [List.map_map, List.map_map]
        exact List.map_congr_left fun u _ => by
          show V.str (Txt.join " " ((its (wD u)).map shows)) = _
          rw [wD_shows]
          rfl
      rw [e1] at hD2
      have e2 : wt (((Ls.map fun t => Txt.split t " ").set i (ws.set r sg)).map (Txt.join " ")) = ((((Ls.map fun t => Txt.split t " ").set i (ws.set r sg)).map (Txt.join " ")).map (·.length)).sum + (((Ls.map fun t => Txt.split t " ").set i (ws.set r sg)).map (Txt.join " ")).length := rfl
      refine ⟨"\n", D2, _, rfl, rfl, .inl (.inl (.inl hD2)), by rw [c1]; omega, ?_⟩
      refine k G _ _ (E3.trans (same_S s4)) (sp3.same s4) (by omega) ?_
      subst hLs
      exact bent_words x sg i r j ws row w1 w3 msg
end
end K14.T69
namespace K14.Gn
open PySem PySem.W PySem.Calls PyProof.Rows L2 LamX
open Kz (noE)
def HasXK1 (P : Program) (w : World) (K : Frag) (mg : Str → Option Value) (base : Heap) (x : Str) (k : Nat) (p1 : Str) (sp : Sp) : Prop := ∃ f fd, mg x = some (.ref f) ∧ keepIn K (.ref f) = true ∧ KBinds K fd [p1] [p1] revG revV ∧ FnOk P w K mg base (L2.CX P w) k f fd [p1] sp
def tCallX1 (sp : Sp) (E : XK) (t1 : TE) : TE := fun σ H Q => t1 σ H fun a H1 => sp [a] H1 Q E
theorem pe_hasXK1 {X : Cx} {x p1 : Str} {k : Nat} {sp : Sp} {e1 : Expr} {t1 : TE} {p pos q1 : Pos} {E : XK} (h : HasXK1 X.prog X.w X.K X.mg X.base x k p1 sp) (hr : Room k X.A) (hg : Gl X x) (hx : Passes (L2.CX X.prog X.w) X E) (h1 : PE X e1 t1) (hdb : (x == ("__debug__" : Str)) = false := by decide) :
    PE X (.Call (.Name x p) [] [⟨some p1, e1, q1⟩] pos) (tCallX1 sp E t1) := by
  obtain ⟨f, fd, hm, hk, hb, F⟩ := h
  refine ⟨fun pins s σ H Q I q => ?_⟩
  refine wpAny_Call_Name_kw (ld_glob I hg hm ?_ hdb)
  refine callWith_KW0 (h₀ := X.base) I.ok.mod.kin hk (by rfl) ?_ (by rfl)
  refine thn ((pk_cons h1 pk_nil).run pos pins s σ H (fun zs H2 => sp zs.reverse H2 Q E) I q) fun ws s2 ⟨zs, H2, I2, rz, q2⟩ => ⟨I2.kIn, ?_⟩
  exact run_fnk (us := []) (vs := []) F hr hb hx I2 .nil rz q2
end K14.Gn
namespace K14.T69
open T27 T3
open K14.Gn
open PySem PySem.W PySem.Calls PyProof.Rows L2 LamX
open He (ga)
open SX (S)
open TL (tl pre joinL)
open Kz (SS ExtS ExtS.trans small4 same_new boot_in boot_li boot_isi Has pe_has noE PSs.of_eq new_ext X1)
/-! ### _law_judged_right -/
abbrev sJr : Stmt := topS 67
abbrev NJr : List Str := ["is_pairs", "text", "due", "found", "judged", "reads", "answer"]
theorem scJr : FnScope NJr ["is_pairs", "text"] (defScope sJr) := ⟨rfl, rfl, rfl, by decide +kernel, rfl, by decide +kernel, by decide +kernel⟩
theorem bdJr : defBody sJr = [stOf sJr 0, stOf sJr 1, stOf sJr 2, stOf sJr 3] := by rfl
def qJr : Str := (("_law_judged_right" : Str) ++ ".<locals>.") ++ "<lambda>"
structure JrK (P : Program) (w : World) (K : Frag) (mg : Str → Option Value) (base : Heap) : Prop where
  pr : Has P w K mg base "_law_paper_read" 4 ["is_pairs", "text"] spPr
  cf : Has P w K mg base "course_fault" 7 ["text"] (spCof (.course none))
  cfk : HasK1 P w K mg base "course_fault" 7 "text" (spCof (.course none))
  sf : Has P w K mg base "steps_fault" 7 ["text"] (spCof (.steps .step))
  sfk : HasK1 P w K mg base "steps_fault" 7 "text" (spCof (.steps .step))
  rc : Has P w K mg base "read_course" 8 ["text"] (spRc true)
  rck : HasK1 P w K mg base "read_course" 8 "text" (spRc true)
  rcx : HasX P w K mg base "read_course" 8 ["text"] (spRcX K (.course none))
  rcxk : HasXK1 P w K mg base "read_course" 8 "text" (spRcX K (.course none))
  rs : Has P w K mg base "read_steps" 8 ["text"] (spRc false)
  rsk : HasK1 P w K mg base "read_steps" 8 "text" (spRc false)
  rsx : HasX P w K mg base "read_steps" 8 ["text"] (spRcX K (.steps .step))
  rsxk : HasXK1 P w K mg base "read_steps" 8 "text" (spRcX K (.steps .step))
  sm : Has P w K mg base "_law_same" 5 ["found", "due"] (spSm 4)
  ap : Has P w K mg base "_law_apart" 6 ["thing"] (spAp 4)
/-- what is told of a text -/
def ansD (p : Bool) (o : Option Nat) (gs : List (List (List Nat))) : PyData := match o with
  | none => .tuple [.str "told", .list (gs.map (rowD p))]
  | some i => .tuple [.str "text", .int (i : Nat)]
/-- places of lists -/
def InsN (S : List Addr) (H : Hp) : Prop := ∀ b ∈ S, ∃ xs, H b = some (.lst xs)
/-- no object but a table -/
def NewN (H : Hp) (a : Addr) : Prop := ∀ o, H a = some o → ∃ ps, o = .tbl ps
theorem NewN.notin {S : List Addr} {H : Hp} {a : Addr} (h : NewN H a) (i : InsN S H) : a ∉ S := fun m => by
  obtain ⟨xs, ho⟩ := i a m
  obtain ⟨ps, z⟩ := h _ ho
  cases z
theorem InsN.ins {S : List Addr} {H : Hp} (i : InsN S H) : Ins S H := fun b m => by obtain ⟨o, ho⟩ := i b m; exact ⟨_, ho⟩
theorem InsN.tup {S : List Addr} {H : Hp} {a : Addr} {xs : List V} (i : InsN S H) (h : H a = some (.tup xs)) : a ∉ S := fun m => by
  obtain ⟨ys, ho⟩ := i a m
  rw [h] at ho
  cases ho
theorem InsN.extN {S : List Addr} {H H1 : Hp} (i : InsN S H) (e : ExtN H H1) : InsN S H1 := fun b m => by obtain ⟨o, ho⟩ := i b m; exact ⟨o, e _ _ ho (fun ps z => nomatch z)⟩
/-- the answer stands in G', made after G -/
structure AskJ (d : PyData) (G G' : Hp) (t : Addr) (fp : List Addr) : Prop where
  ow : ∀ S, InsN S G → Own (Hid S G') (.ref t) d fp
  new : ∀ a ∈ fp, NewN G a
  nd : fp.Nodup
section
variable {P : Program} {w : World} {K : Frag} {mg : Str → Option Value} {base : Heap} {T : List (Addr × Str)}
/-- asks that tell d -/
def AskT (T : List (Addr × Str)) (x : Str) (d : PyData) (te : TE) : Prop := ∀ (σ : L2.St) (G : Hp) (Q : VK), σ[1]? = some (some (.str x)) → Tabs T G → (∀ (G' : Hp) (t : Addr) (fp : List Addr), ExtN G G' → Tabs T G' → AskJ d G G' t fp → Q (.ref t) G') → te σ G Q
theorem ask_read {p : Bool} {x : List Nat} {gs : List (List (List Nat))} {o : Option Nat} {t : XK → TE} (hl : x.length ≤ 1000) (ho : faultR (rs0 p) x = o) (hg : o = none → (∀ g ∈ gs, RowOk p g) ∧ x = (gs.map lineW).flatten)
    (ht : ∀ (E : XK) (σ : L2.St) (H : Hp) (Q : VK), σ[1]? = some (some (.str (S x))) → (spRc p [.str (S x)] H Q noE ∨ spRcX K (rs0 p) [.str (S x)] H Q E) → t E σ H Q) : AskT T (S x) (ansD p o gs) (tLam T (tlA K) t) := by
  intro σ G Q h1 hT k
  refine ⟨hT, fun H1 e1 T1 => ht _ σ H1 _ h1 ?_⟩
  cases o with
  | none =>
    obtain ⟨hg1, hg2⟩ := hg rfl
    refine .inl ⟨gs, x, rfl, by omega, ho, hg1, hg2, fun H2 D ys s2 nD hD ow => ⟨small4 2, fun p' np => ?_⟩⟩
    have z := same_new (o := .tup [V.str "told", .ref D]) np
    have gl : ys.length ≤ 1000 := by
      have h2 : gs.length ≤ x.length := by
        rw [hg2]
        exact lines_le
      rw [ow.len, List.length_map]
      omega
    refine k _ p' [D] (e1.trans (.of (s2.trans z))) (T1.ext (s2.trans z)) ⟨fun S' iS => ?_, fun a ha => ?_, by simp⟩
    · have iS1 := iS.extN e1
      have nDS : D ∉ S' := iS1.ins.new nD
      have npS : p' ∉ S' := (iS1.ins.same s2).new np
      refine .tup (hid_of npS upd_same fun ps z => nomatch z) (.cons (.str _) (f := []) (.cons (f := [D]) (g := []) (.lst (hid_of nDS (z _ _ hD) fun ps z => nomatch z) gl ?_) .nil))
      exact OwnA.keep ow (fun b m => nomatch m) fun b xs hb => hid_of ((iS1.extN (.of s2)).tup hb) (z _ _ hb) fun ps z => nomatch z
    · rw [List.mem_singleton.mp ha]
      exact none_tbl e1 nD
  | some i =>
    refine .inr ⟨_, .str (S x), (i : Nat), rfl, .str _, (fun s e => by cases e; rw [S_len]; omega), ?_, ?_⟩
    · show oV (faultR (rs0 p) (tl (S x))) = _
      have : tl (S x) = x := rfl
      rw [this, ho]
      rfl
    · refine says_ea _ a_text fun H' t' s q => ?_
      refine k H' t' [] (e1.trans (.of s)) (T1.ext s) ⟨fun S' iS => ?_, (fun a ha => nomatch ha), .nil⟩
      exact .tup (hid_of (((iS.extN e1).extN (.of s)).tup q) q fun ps z => nomatch z) (.cons (.str _) (f := []) (.cons (f := []) (g := []) (.int _) .nil))
end
end K14.T69
namespace K14.T69
open T27 T3
open K14.Gn
open PySem PySem.W PySem.Calls PyProof.Rows L2 LamX
open He (ga)
open SX (S)
open TL (tl pre joinL)
open Kz (SS ExtS ExtS.trans small4 same_new boot_in boot_li boot_isi Has pe_has noE PSs.of_eq new_ext X1)
theorem tabs_but {T : List (Addr × Str)} {H H1 : Hp} {f : List Addr} (t : Tabs T H) (hf : ∀ b ∈ f, ∃ xs, H b = some (.lst xs)) (e : ∀ b o, b ∉ f → H b = some o → H1 b = some o) : Tabs T H1 := fun p hp => by
  obtain ⟨ps, h1, h2, h3⟩ := t p hp
  have nl : ∀ {a : Addr} {o : HO}, H a = some o → (∀ xs, o ≠ .lst xs) → a ∉ f := fun h n m => by
    obtain ⟨xs, q⟩ := hf _ m
    rw [h] at q
    exact n _ (Option.some.inj q)
  refine ⟨ps, e _ _ (nl h1 (fun xs z => nomatch z)) h1, h2, fun pos cv hc => ?_⟩
  obtain ⟨c, ec, h⟩ := h3 pos cv hc
  exact ⟨c, ec, e _ _ (nl h (fun xs z => nomatch z)) h⟩
theorem row_len3 {p : Bool} {g : List (List Nat)} (h : RowOk p g) : 1 ≤ g.length ∧ g.length ≤ 3 := by cases h <;> simp
theorem row_parts {p : Bool} {g : List (List Nat)} (h : RowOk p g) : ∃ ds, rowD p g = .tuple ds ∧ ds.length ≤ 3 ∧ ∀ d ∈ ds, (∃ i, d = .int i) ∨ ∃ w ∈ g, d = .str (S w) := by
  obtain ⟨h1, h2⟩ := row_len3 h
  unfold rowD
  by_cases c1 : p = true
  · rw [if_pos c1]
    refine ⟨_, rfl, by rw [List.length_map]; exact h2, fun d hd => ?_⟩
    obtain ⟨w, _, rfl⟩ := List.mem_map.mp hd
    exact .inl ⟨_, rfl⟩
  · rw [if_neg c1]
    by_cases c2 : g.head? = some tShrink ∨ g.head? = some tTurn
    · rw [if_pos c2]
      refine ⟨_, rfl, by rw [List.length_cons, List.length_map, List.length_drop]; omega, fun d hd => ?_⟩
      rcases List.mem_cons.mp hd with rfl | hd
      · refine .inr ⟨g.headD [], ?_, rfl⟩
        cases g with
        | nil => simp at h1
        | cons a r => exact List.mem_cons_self ..
      · obtain ⟨w, _, rfl⟩ := List.mem_map.mp hd
        exact .inl ⟨_, rfl⟩
    · rw [if_neg c2]
      refine ⟨_, rfl, by rw [List.length_map]; exact h2, fun d hd => ?_⟩
      obtain ⟨w, hw, rfl⟩ := List.mem_map.mp hd
      exact .inr ⟨w, hw, rfl⟩
theorem row_fit {p : Bool} {g : List (List Nat)} (h : RowOk p g) : fitS 1 (rowD p g) = true := by
  obtain ⟨ds, e, l, hd⟩ := row_parts h
  rw [e]
  show (decide (ds.length ≤ 1000) && ds.all (fitS 0)) = true
  rw [decide_eq_true (by omega), Bool.true_and]
  refine List.all_eq_true.mpr fun d m => ?_
  rcases hd d m with ⟨i, rfl⟩ | ⟨w, _, rfl⟩ <;> rfl
theorem row_cln {p : Bool} {g : List (List Nat)} (h : RowOk p g) (n : ∀ w ∈ g, S w ≠ ("late9" : Str)) : cln 1 (rowD p g) = true := by
  obtain ⟨ds, e, l, hd⟩ := row_parts h
  rw [e]
  show ds.all (cln 0) = true
  refine List.all_eq_true.mpr fun d m => ?_
  rcases hd d m with ⟨i, rfl⟩ | ⟨w, hw, rfl⟩
  · rfl
  · show (!decide (S w = ("late9" : Str))) = true
    rw [decide_eq_false (n w hw)]
    rfl
theorem ans_fit {p : Bool} {o : Option Nat} {gs : List (List (List Nat))} (l : o = none → gs.length ≤ 1000 ∧ ∀ g ∈ gs, RowOk p g) : fitS 3 (ansD p o gs) = true := by
  cases o with
  | some i => rfl
  | none =>
    obtain ⟨l1, l2⟩ := l rfl
    have e : fitS 2 (.list (gs.map (rowD p))) = true := by
      show (decide ((gs.map (rowD p)).length ≤ 1000) && (gs.map (rowD p)).all (fitS 1)) = true
      rw [List.length_map, decide_eq_true l1, Bool.true_and]
      refine List.all_eq_true.mpr fun d m => ?_
      obtain ⟨g, hg, rfl⟩ := List.mem_map.mp m
      exact row_fit (l2 g hg)
    show (decide (2 ≤ 1000) && (fitS 2 (.str "told") && (fitS 2 (.list (gs.map (rowD p))) && true))) = true
    rw [e]
    rfl
theorem ans_cln {p : Bool} {o : Option Nat} {gs : List (List (List Nat))} (l : o = none → ∀ g ∈ gs, RowOk p g ∧ ∀ w ∈ g, S w ≠ ("late9" : Str)) : cln 3 (ansD p o gs) = true := by
  cases o with
  | some i => rfl
  | none =>
    have e : cln 2 (.list (gs.map (rowD p))) = true := by
      show (gs.map (rowD p)).all (cln 1) = true
      refine List.all_eq_true.mpr fun d m => ?_
      obtain ⟨g, hg, rfl⟩ := List.mem_map.mp m
      exact row_cln (l rfl g hg).1 (l rfl g hg).2
    show (cln 2 (.str "told") && (cln 2 (.list (gs.map (rowD p))) && true)) = true
    rw [e]
    rfl
theorem two_fit {d : PyData} (h : fitS 3 d = true) : fitS 4 (.list [d, d]) = true := by
  show (decide (2 ≤ 1000) && (fitS 3 d && (fitS 3 d && true))) = true
  rw [h]
  rfl
theorem two_cln {d : PyData} (h : cln 3 d = true) : cln 4 (.list [d, d]) = true := by
  show (cln 3 d && (cln 3 d && true)) = true
  rw [h]
  rfl
section
variable {P : Program} {w : World} {K : Frag} {mg : Str → Option Value} {base : Heap} {T : List (Addr × Str)}
/-- judged twice, read twice -/
theorem jr_br {x : Str} {d : PyData} {c1 c2 a1 a2 : TE} {v : V} {b0 b2 b3 b4 b5 b6 : Option V} {G0 : Hp} {D : Ends}
    (hc1 : ∀ (σ : L2.St) (G : Hp) (Q : VK), σ[1]? = some (some (.str x)) → (∀ G', L2.Same G G' → Q v G') → c1 σ G Q) (hc2 : ∀ (σ : L2.St) (G : Hp) (Q : VK), σ[1]? = some (some (.str x)) → (∀ G', L2.Same G G' → Q v G') → c2 σ G Q) (ha1 : AskT T x d a1) (ha2 : AskT T x d a2) (TG : Tabs T G0)
    (k : ∀ (G : Hp) (J F t1 t2 : Addr) (fp1 fp2 : List Addr), ExtN G0 G → Tabs T G → G J = some (.lst [v, v]) → G F = some (.lst [.ref t1, .ref t2]) → Own (Hid [F] G) (.ref t1) d fp1 → Own (Hid [F] G) (.ref t2) d fp2 → (F :: (fp1 ++ fp2)).Nodup → (∀ a ∈ F :: (fp1 ++ fp2), NewN G0 a) → D.nx [b0, some (.str x), b2, b3, some (.ref J), some (.ref F), b6] G) :
    tSeq (tAsg (tLst (tCons c1 (tCons c2 tNil))) (gName 4)) (tSeq (tAsg (tLst (tCons a1 tNil)) (gName 5)) (tDrop (tBM K "list" rAppend (tVar 5) (tCons a2 tNil)))) D [b0, some (.str x), b2, b3, b4, b5, b6] G0 := by
  refine set_intro (i := 4) ?_
  refine lst_intro ?_
  refine hc1 _ G0 _ rfl fun G1 s1 => hc2 _ G1 _ rfl fun G2 s2 => ⟨small4 2, fun J nJ => ?_⟩
  have z1 := same_new (o := .lst [v, v]) nJ
  have hJ := upd_same (H := G2) (a := J) (o := .lst [v, v])
  have S3 := s1.trans (s2.trans z1)
  generalize upd G2 J (.lst [v, v]) = G3 at hJ S3 ⊢
  have T3 := TG.ext S3
  clear s1 s2 z1 nJ G1 G2
  refine set_intro (i := 5) ?_
  refine lst_intro ?_
  refine ha1 _ G3 _ rfl T3 fun G4 t1 fp1 e4 T4 A1 => ⟨small4 1, fun F nF => ?_⟩
  have E4 := (ExtN.of S3).trans e4
  have z2 := same_new (o := .lst [.ref t1]) nF
  have hF := upd_same (H := G4) (a := F) (o := .lst [.ref t1])
  have nF0 : NewN G0 F := none_tbl E4 nF
  have o1 : Own (Hid [F] (upd G4 F (.lst [.ref t1]))) (.ref t1) d fp1 := by
    refine Own.ext (fun b o h => ?_) (A1.ow [] fun b m => nomatch m)
    obtain ⟨_, h2, h3⟩ := hid_at h
    refine hid_of (fun m => ?_) (z2 _ _ h2) h3
    rw [List.mem_singleton.mp m, nF] at h2
    cases h2
  have nFfp : F ∉ fp1 := fun m => by
    obtain ⟨xs, h⟩ := (A1.ow [] fun b m => nomatch m).lsts F m
    have := hid_up _ _ h
    rw [nF] at this
    cases this
  have nJF : J ≠ F := fun z => by
    have := e4 _ _ hJ (fun ps z => nomatch z)
    rw [z, nF] at this
    cases this
  have hJ := z2 _ _ (e4 _ _ hJ (fun ps z => nomatch z))
  have E5 := E4.trans (.of z2)
  have T5 := T4.ext z2
  have new1 : ∀ a ∈ fp1, NewN G0 a := fun a ha o ho => A1.new a ha o (S3 _ _ ho)
  have nd1 := A1.nd
  generalize upd G4 F (.lst [.ref t1]) = G5 at hF o1 hJ E5 T5 ⊢
  clear z2 nF E4 T4 e4 T3 S3 A1 G4
  refine ⟨.ref F, rfl, .inl ⟨rfl, _, .inl (.inl hF)⟩, ha2 _ G5 _ rfl T5 fun G6 t2 fp2 e6 T6 A2 => ?_⟩
  have iF : InsN [F] G5 := fun b m => by rw [List.mem_singleton.mp m]; exact ⟨_, hF⟩
  have hF6 := e6 _ _ hF (fun ps z => nomatch z)
  have hJ6 := e6 _ _ hJ (fun ps z => nomatch z)
  have E6 := E5.trans e6
  have o2 := A2.ow [F] iF
  have o1' := o1.ext (hid_N e6)
  refine ⟨F, _, .ref t2, rfl, rfl, hF6, by rw [sizeLine_eq]; exact Nat.le_of_ble_eq_true rfl, ?_⟩
  refine k _ J F t1 t2 fp1 fp2 (ext_lst nF0 E6) (tabs_lst T6 hF6) (by rw [upd_ne nJF]; exact hJ6) upd_same (o1'.ext (hid_upd (List.mem_singleton.mpr rfl))) (o2.ext (hid_upd (List.mem_singleton.mpr rfl))) ?_ ?_
  · refine List.nodup_cons.mpr ⟨fun m => ?_, List.nodup_append.mpr ⟨nd1, A2.nd, fun a ha b hb => ?_⟩⟩
    · rcases List.mem_append.mp m with m | m
      · exact nFfp m
      · exact (A2.new F m).notin iF (List.mem_singleton.mpr rfl)
    · rintro rfl
      obtain ⟨xs, h⟩ := o1.lsts a ha
      exact (A2.new a hb).notin (S := [a]) (fun b m => by rw [List.mem_singleton.mp m]; exact ⟨xs, hid_up _ _ h⟩) (List.mem_singleton.mpr rfl)
  · intro a ha
    rcases List.mem_cons.mp ha with rfl | ha
    · exact nF0
    · rcases List.mem_append.mp ha with ha | ha
      · exact new1 a ha
      · exact fun o ho => by
          cases o with
          | tbl ps => exact ⟨ps, rfl⟩
          | _ =>
            have := E5 _ _ ho (fun ps z => nomatch z)
            exact A2.new a ha _ this
end
end K14.T69
namespace K14.T69
open T27 T3
open K14.Gn
open PySem PySem.W PySem.Calls PyProof.Rows L2 LamX
open He (ga)
open SX (S)
open TL (tl pre joinL)
open Kz (SS ExtS ExtS.trans small4 same_new boot_in boot_li boot_isi Has pe_has noE PSs.of_eq new_ext X1)
section
variable {P : Program} {w : World} {K : Frag} {mg : Str → Option Value} {base : Heap}
abbrev XJr (P : Program) (w : World) (K : Frag) (mg : Str → Option Value) (base : Heap) (f : Addr) (cdv : Value) (A : Around) (outer : List Env) (s : Shared) (H : Hp) (XE : XK) : Cx := (cxOf CX0 P w K mg base NJr "_law_judged_right" (defScope sJr) f cdv A outer s H XE).nox
theorem noXj {f : Addr} {cdv : Value} {A : Around} {outer : List Env} {s : Shared} {H : Hp} {XE : XK} {A' : Around} {outer' : List Env} {s' : Shared} {H' : Hp} {E : XK} {scope : Scope} {f' c' : Addr} : Passes (L2.CX P w) (lamCx (XJr P w K mg base f cdv A outer s H XE) A' outer' s' H' E scope f' c') E := passes_call (takes_of rfl rfl rfl rfl) (fun _ _ _ _ h => h)
def spJr (T : List (Addr × Str)) : Sp := fun vs H Q _ => ∃ (p : Bool) (x : List Nat), vs = [.bl p, .str (S x)] ∧ x.length ≤ 1000 ∧ mB 0 x ≤ 2 ∧ Tabs T H ∧ ∀ H', ExtN H H' → Tabs T H' → Q (.bl true) H'
theorem ok_jr {f c Pt g : Addr} {gd : FuncData} {T : List (Addr × Str)} {oc kV doc pm ct : Value} {od an : Option Addr} {osl : Array (Option Value)} (lk : K.lookup f = some ⟨oc, od, .func (fnOf "_law_judged_right" "_law_judged_right" (defArgs sJr) (defBody sJr) (defScope sJr) .none kV doc pm an (.ref c) ct), osl⟩) (hcd : codeIn K (.ref c) "_law_judged_right" = true)
    (TB : TabB base mg c Pt) (hmT : (Pt, qJr) ∈ T) (hu : ∀ p ∈ T, p.1 = Pt → p.2 = qJr)
    (G : FunD K "_law_asked" "_law_asked" (defArgs sAk) (defBody sAk) (defScope sAk) [] [] g gd) (mo : mg "_law_asked" = some (.ref g)) (kp : keepIn K (.ref g) = true) (bd : L2.Binds K gd ["ask"] []) (R : AkK P K mg) (L : JrK P w K mg base) :
    FnOk P w K mg base CX0 11 f (fnOf "_law_judged_right" "_law_judged_right" (defArgs sJr) (defBody sJr) (defScope sJr) .none kV doc pm an (.ref c) ct) ["is_pairs", "text"] (spJr T) := by
  obtain ⟨og, odg, kVg, docg, pmg, ang, cg, ctg, oslg, rfl, lkg, hcg⟩ := fun_code G
  refine fn_of (CX := CX0) (P := P) (w := w) (mg := mg) (base := base) (k := 10) (N := NJr) lk hcd scJr (fun vs H Q E h => ?_) (fun A outer s H vs Q XE hr hsp => ?_)
  · obtain ⟨p, x, rfl, _⟩ := h
    rfl
  obtain ⟨p, x, rfl, hl, hm, hT, k⟩ := hsp
  have gl : Gl (XJr P w K mg base f (.ref c) A outer s H XE) "_law_asked" := rfl
  have gv := ak_gives (X := XJr P w K mg base f (.ref c) A outer s H XE) (g := g) (cdg := .ref cg) (q := qJr) R
  have ask : ∀ {params : Arguments} {body : Expr} {scope : Scope} {p lpos pos : Pos} {t : XK → TE}, LamS (defScope sJr) scope → defaultsOf params (XJr P w K mg base f (.ref c) A outer s H XE).env = ([], []) → (∀ (q : Str) (cl : List (Str × Addr)) (pm cv ctv : Value), bindArgs (kla_fn "<lambda>" q params body scope cl pm cv ctv) ⟨[], []⟩ = pure []) →
      (∀ (A' : Around) (outer' : List Env) (s' : Shared) (H' : Hp) (E : XK) (f' c' : Addr), Room 8 (A'.deeper (lamEnv (XJr P w K mg base f (.ref c) A outer s H XE) scope s'.heap.objs.size f' c')) → PE (lamCx (XJr P w K mg base f (.ref c) A outer s H XE) A' outer' s' H' E scope f' c') body (t E)) →
      PE (XJr P w K mg base f (.ref c) A outer s H XE) (.Call (.Name "_law_asked" p) [.Lambda params body scope lpos] [] pos) (tLam T (tlA K) t) :=
    fun hL hd hb hbody => pe_lamcall gl mo kp lkg hcg bd scAk rfl (.inl rfl) gv TB rfl hmT hu hr hL hd hb hbody
  have h0 : PS (XJr P w K mg base f (.ref c) A outer s H XE) (stOf sJr 0) _ := ps_asg (pe_has L.pr (hr.mono (by decide)) (by rfl) (pa_cons (pv 0) (pa_cons (pv 1) pa_nil))) (pg_tup (n := 2) rfl (pgs_cons (pg_name (i := 2) scJr.nd rfl (.inl rfl)) (pgs_cons (pg_name (i := 3) scJr.nd rfl (.inl rfl)) pgs_nil)))
  have t0 : PS (XJr P w K mg base f (.ref c) A outer s H XE) (ifB1 (stOf sJr 1) 0) _ := ps_set (i := 4) scJr.nd rfl (.inl rfl) (pe_lst (pa_cons (pe_has L.cf (hr.mono (by decide)) (by rfl) (pa_cons (pv 1) pa_nil)) (pa_cons (pe_hasK1 L.cfk (hr.mono (by decide)) (by rfl) (pv 1)) pa_nil)))
  have t1 : PS (XJr P w K mg base f (.ref c) A outer s H XE) (ifB1 (stOf sJr 1) 1) _ := ps_set (i := 5) scJr.nd rfl (.inl rfl) (pe_lst (pa_cons (ask (lamS_by (by decide +kernel)) rfl (fun _ _ _ _ _ => rfl) (fun A' o' s' H' E f' c' hr2 => pe_alt (pe_has L.rc hr2 (by rfl) (pa_cons (pv 1) pa_nil)) (pe_hasX L.rcx hr2 (by rfl) noXj (pa_cons (pv 1) pa_nil)))) pa_nil))
  have t2 : PS (XJr P w K mg base f (.ref c) A outer s H XE) (ifB1 (stOf sJr 1) 2) _ := ps_expr (pe_bm PySem.F.plainAttrs_list PySem.F.slot_list_append PySem.F.type_list_append mt_append (pv 5) (pa_cons (ask (lamS_by (by decide +kernel)) rfl (fun _ _ _ _ _ => rfl) (fun A' o' s' H' E f' c' hr2 => pe_alt (pe_hasK1 L.rck hr2 (by rfl) (pv 1)) (pe_hasXK1 L.rcxk hr2 (by rfl) noXj (pv 1)))) pa_nil))
  have e0 : PS (XJr P w K mg base f (.ref c) A outer s H XE) (elB (stOf sJr 1) 0) _ := ps_set (i := 4) scJr.nd rfl (.inl rfl) (pe_lst (pa_cons (pe_has L.sf (hr.mono (by decide)) (by rfl) (pa_cons (pv 1) pa_nil)) (pa_cons (pe_hasK1 L.sfk (hr.mono (by decide)) (by rfl) (pv 1)) pa_nil)))
  have e1 : PS (XJr P w K mg base f (.ref c) A outer s H XE) (elB (stOf sJr 1) 1) _ := ps_set (i := 5) scJr.nd rfl (.inl rfl) (pe_lst (pa_cons (ask (lamS_by (by decide +kernel)) rfl (fun _ _ _ _ _ => rfl) (fun A' o' s' H' E f' c' hr2 => pe_alt (pe_has L.rs hr2 (by rfl) (pa_cons (pv 1) pa_nil)) (pe_hasX L.rsx hr2 (by rfl) noXj (pa_cons (pv 1) pa_nil)))) pa_nil))
  have e2 : PS (XJr P w K mg base f (.ref c) A outer s H XE) (elB (stOf sJr 1) 2) _ := ps_expr (pe_bm PySem.F.plainAttrs_list PySem.F.slot_list_append PySem.F.type_list_append mt_append (pv 5) (pa_cons (ask (lamS_by (by decide +kernel)) rfl (fun _ _ _ _ _ => rfl) (fun A' o' s' H' E f' c' hr2 => pe_alt (pe_hasK1 L.rsk hr2 (by rfl) (pv 1)) (pe_hasXK1 L.rsxk hr2 (by rfl) noXj (pv 1)))) pa_nil))
  have h1 : PS (XJr P w K mg base f (.ref c) A outer s H XE) (stOf sJr 1) _ := ps_if (pt_val (pv 0)) (pss_cons t0 (pss_cons t1 (pss_one t2))) (pss_cons e0 (pss_cons e1 (pss_one e2)))
  have h2 : PS (XJr P w K mg base f (.ref c) A outer s H XE) (stOf sJr 2) _ := ps_set (i := 6) scJr.nd rfl (.inl rfl) (pe_ifExp (pt_cmp (pc_isN (pv 2)) (by rfl)) (pe_tup (pa_cons pe_str (pa_cons (pv 3) pa_nil))) (pe_tup (pa_cons pe_str (pa_cons (pv 2) pa_nil))))
  have h3 : PS (XJr P w K mg base f (.ref c) A outer s H XE) (stOf sJr 3) _ := ps_ret (pe_and (pe_has L.sm (hr.mono (by decide)) (by rfl) (pa_cons (pv 4) (pa_cons (pe_lst (pa_cons (pv 2) (pa_cons (pv 2) pa_nil))) pa_nil))) (pe_and (pe_has L.sm (hr.mono (by decide)) (by rfl) (pa_cons (pv 5) (pa_cons (pe_lst (pa_cons (pv 6) (pa_cons (pv 6) pa_nil))) pa_nil))) (pe_one (pe_has L.ap (hr.mono (by decide)) (by rfl) (pa_cons (pv 5) pa_nil)))))
  have PP := PSs.of_eq bdJr (pss_cons h0 (pss_cons h1 (pss_cons h2 (pss_one h3))))
  clear h0 t0 t1 t2 e0 e1 e2 h1 h2 h3 ask gv
  refine ⟨_, PSs.nox PP, ?_⟩
  clear PP
  obtain ⟨f1, f2⟩ := fault_law p x
  generalize ho : faultR (rs0 p) x = o at f1 f2
  obtain ⟨gs, hgs⟩ : ∃ gs, (lawR p [] [] [] 0 x).2 = gs := ⟨_, rfl⟩
  have fg : o = none → (∀ g ∈ gs, RowOk p g) ∧ x = (gs.map lineW).flatten := fun z => by
    obtain ⟨gs', e, a, b⟩ := f2 z
    rw [e] at hgs
    subst hgs
    exact ⟨a, b⟩
  have lg : o = none → gs.length ≤ 1000 := fun z => by
    obtain ⟨a, b⟩ := fg z
    have : gs.length ≤ x.length := by
      rw [b]
      exact lines_le
    omega
  refine asg_intro ?_
  refine ⟨.bl p, rfl, .str (S x), rfl, p, x, rfl, by omega, fun H1 t fl ys s1 q1 q2 ow1 => ?_⟩
  rw [f1] at q1
  rw [hgs] at ow1
  refine ⟨t, _, rfl, .inl (.inl q1), rfl, ?_⟩
  refine ⟨_, _, rfl, gset ⟨_, _, rfl, gset ⟨rfl, ?_⟩⟩⟩
  have T1 := hT.ext s1
  have ep : fauV (rs0 p) (.str (S x)) = oV o := by
    show oV (faultR (rs0 p) (tl (S x))) = _
    have : tl (S x) = x := rfl
    rw [this, ho]
  have hcf : ∀ (σ : L2.St) (G : Hp) (Q : VK), (∀ G', L2.Same G G' → Q (oV o) G') → spCof (rs0 p) [.str (S x)] G Q noE := fun σ G Q kq => ⟨.str (S x), .str (S x), rfl, .str _, (fun s e => by cases e; rw [S_len]; omega), fun G' s' => by rw [ep]; exact kq G' s'⟩
  have fin : ∀ (G : Hp) (J F t1 t2 : Addr) (fp1 fp2 : List Addr), ExtN H1 G → Tabs T G → G J = some (.lst [oV o, oV o]) → G F = some (.lst [.ref t1, .ref t2]) → Own (Hid [F] G) (.ref t1) (ansD p o gs) fp1 → Own (Hid [F] G) (.ref t2) (ansD p o gs) fp2 → (F :: (fp1 ++ fp2)).Nodup → (∀ a ∈ F :: (fp1 ++ fp2), NewN H1 a) →
      tSeq (tAsg (tIf (tB (tIsN (tVar 2))) (tTup (tCons (tC (.str "told")) (tCons (tVar 3) tNil))) (tTup (tCons (tC (.str "text")) (tCons (tVar 2) tNil)))) (gName 6)) (tRet (tAndV (tCall (spSm 4) [] noE (tCons (tVar 4) (tCons (tLst (tCons (tVar 2) (tCons (tVar 2) tNil))) tNil))) (tAndV (tCall (spSm 4) [] noE (tCons (tVar 5) (tCons (tLst (tCons (tVar 6) (tCons (tVar 6) tNil))) tNil))) (tCall (spAp 4) [] noE (tCons (tVar 5) tNil)))))
        { nx := fun _ H' => Q .non H', rt := Q } [some (.bl p), some (.str (S x)), some (oV o), some (.ref fl), some (.ref J), some (.ref F), none] G := by
    intro G J F t1 t2 fp1 fp2 eG TG hJ hF o1 o2 nd new
    have rest : ∀ (G2 : Hp) (a : Addr), L2.Same G G2 → Th G2 (.ref a) (ansD p o gs) → tRet (tAndV (tCall (spSm 4) [] noE (tCons (tVar 4) (tCons (tLst (tCons (tVar 2) (tCons (tVar 2) tNil))) tNil))) (tAndV (tCall (spSm 4) [] noE (tCons (tVar 5) (tCons (tLst (tCons (tVar 6) (tCons (tVar 6) tNil))) tNil))) (tCall (spAp 4) [] noE (tCons (tVar 5) tNil))))
        { nx := fun _ H' => Q .non H', rt := Q } [some (.bl p), some (.str (S x)), some (oV o), some (.ref fl), some (.ref J), some (.ref F), some (.ref a)] G2 := by
      intro G2 a s2 ta
      refine ret_intro ?_
      refine ⟨.ref J, rfl, _, rfl, _, rfl, small4 2, fun p1 n1 => ?_⟩
      have z1 := same_new (o := .lst [oV o, oV o]) n1
      have foo : fitS 4 (.list [T3.oD o, T3.oD o]) = true := by cases o <;> rfl
      refine ⟨.ref J, .ref p1, .list [T3.oD o, T3.oD o], rfl, .lst (z1 _ _ (s2 _ _ hJ)) (.cons (T3.th_oV o) (.cons (T3.th_oV o) .nil)), .lst upd_same (.cons (T3.th_oV o) (.cons (T3.th_oV o) .nil)), foo, fun G3 s3 => ?_⟩
      refine ⟨true, rfl, iteT ?_⟩
      refine ⟨.ref F, rfl, .ref a, rfl, .ref a, rfl, small4 2, fun p2 n2 => ?_⟩
      have z2 := same_new (o := .lst [V.ref a, V.ref a]) n2
      have S3 := s2.trans (z1.trans s3)
      have S4 := S3.trans z2
      have fA : fitS 3 (ansD p o gs) = true := ans_fit fun z => ⟨lg z, (fg z).1⟩
      have cA : cln 3 (ansD p o gs) = true := ans_cln fun z g hg => ⟨(fg z).1 g hg, fun w hw => not_late hg hw (by rw [← (fg z).2]; exact hm)⟩
      have u1 := (o1.ext hid_up).ext S4
      have u2 := (o2.ext hid_up).ext S4
      have ta4 := (ta.ext (z1.trans s3)).ext z2
      refine ⟨.ref F, .ref p2, .list [ansD p o gs, ansD p o gs], rfl, .lst (S4 _ _ hF) (.cons u1.th (.cons u2.th .nil)), .lst upd_same (.cons ta4 (.cons ta4 .nil)), two_fit fA, fun G4 s4 => ?_⟩
      refine ⟨true, rfl, iteT ?_⟩
      have S5 := S4.trans s4
      have ow : Own G4 (.ref F) (.list [ansD p o gs, ansD p o gs]) (F :: (fp1 ++ (fp2 ++ []))) := .lst (S5 _ _ hF) (Nat.le_of_ble_eq_true rfl) (.cons (u1.ext s4) (.cons (u2.ext s4) .nil))
      rw [List.append_nil] at ow
      refine ⟨.ref F, rfl, .ref F, _, _, rfl, ow, two_fit fA, two_cln cA, nd, fun H' hH' => k H' (fun b u hb nt => ?_) (tabs_but (TG.ext S5) ow.lsts hH')⟩
      refine hH' b u (fun m => ?_) (S5 _ _ (eG _ _ (s1 _ _ hb) nt))
      obtain ⟨ps, z⟩ := new b m u (s1 _ _ hb)
      exact nt ps z
    refine set_intro (i := 6) ?_
    cases o with
    | none =>
      refine ⟨.non, rfl, _, rfl, iteT ⟨.ref fl, rfl, small4 2, fun a na => ?_⟩⟩
      have z := same_new (o := .tup [V.str "told", .ref fl]) na
      exact rest _ a z (.tup upd_same (.cons (.str _) (.cons (.lst (z _ _ (eG _ _ q2 (fun ps z => nomatch z))) (OwnA.keep ow1 (fun b m => nomatch m) fun b xs h => z _ _ (eG _ _ h (fun ps z => nomatch z))).th) .nil)))
    | some i =>
      refine ⟨_, rfl, _, rfl, iteF ⟨_, rfl, small4 2, fun a na => ?_⟩⟩
      have z := same_new (o := .tup [V.str "text", oV (some i)]) na
      exact rest _ a z (.tup upd_same (.cons (.str _) (.cons (.int _) .nil)))
  refine T3.if_intro ⟨.bl p, rfl, p, rfl, ?_⟩
  cases p with
  | true =>
    refine jr_br (x := S x) (d := ansD true o gs) (v := oV o) (fun σ G Q h kq => ⟨_, h, hcf σ G Q kq⟩) (fun σ G Q h kq => ⟨_, h, hcf σ G Q kq⟩) (ask_read hl ho fg fun E σ H Q h r => ?_) (ask_read hl ho fg fun E σ H Q h r => ?_) T1 (fun G J F t1 t2 fp1 fp2 eG TG hJ hF o1 o2 nd new => ?_)
    · exact r.imp (fun r => ⟨_, h, r⟩) (fun r => ⟨_, h, r⟩)
    · exact r.imp (fun r => ⟨_, h, r⟩) (fun r => ⟨_, h, r⟩)
    · exact fin G J F t1 t2 fp1 fp2 eG TG hJ hF o1 o2 nd new
  | false =>
    refine jr_br (x := S x) (d := ansD false o gs) (v := oV o) (fun σ G Q h kq => ⟨_, h, hcf σ G Q kq⟩) (fun σ G Q h kq => ⟨_, h, hcf σ G Q kq⟩) (ask_read hl ho fg fun E σ H Q h r => ?_) (ask_read hl ho fg fun E σ H Q h r => ?_) T1 (fun G J F t1 t2 fp1 fp2 eG TG hJ hF o1 o2 nd new => ?_)
    · exact r.imp (fun r => ⟨_, h, r⟩) (fun r => ⟨_, h, r⟩)
    · exact r.imp (fun r => ⟨_, h, r⟩) (fun r => ⟨_, h, r⟩)
    · exact fin G J F t1 t2 fp1 fp2 eG TG hJ hF o1 o2 nd new
end
end K14.T69
namespace K14.T69
open T27 T3
open K14.Gn
open PySem PySem.W PySem.Calls PyProof.Rows L2 LamX
open SX (S)
open TL (tl pre joinL)
/-! ### the data of a drawn paper -/
def leafB : PyData → Bool
  | .int i => decide (0 ≤ i) && decide (i ≤ 999999999)
  | .str s => decide (s.length ≤ 8) && (decide (mBS s = 0) && s.cps.toList.all fun c => decide (c < 16 ^ 8))
  | _ => false
def bP (p : Bool) (d : PyData) : Bool := if p = true then coB d else stsB d
def rowB (p : Bool) (z : PyData) : Bool := if p = true then isP z && prB z else stB z
structure RowP (p : Bool) (z : PyData) : Prop where
  tu : z = .tuple (its z)
  len : (its z).length ≤ 3
  lf : ∀ y ∈ its z, leafB y = true
  ok : rowB p z = true
  ln : (((its z).map shows).map (·.length)).sum + (its z).length ≤ 20
theorem int_len {i : Int} (h0 : 0 ≤ i) (h1 : i ≤ 999999999) : (Str.ofString (toString i)).length ≤ 9 := by
  obtain ⟨n, rfl⟩ : ∃ n : Nat, i = (n : Nat) := ⟨i.toNat, by omega⟩
  rw [TL.len_tl, TL.tl_ofString, List.length_map]
  show (Nat.repr n).toList.length ≤ 9
  exact Flt.repr_len (by decide) (by omega)
theorem mB_low : ∀ (u : List Nat) (p : Nat), p ≤ 57 → (∀ c ∈ u, c ≤ 57) → mB p u = 0
  | [], _, _, _ => rfl
  | b :: r, p, hp, h => by
    show (badP p b).toNat + mB b r = 0
    rw [mB_low r b (h b (List.mem_cons_self ..)) fun c hc => h c (List.mem_cons_of_mem _ hc)]
    cases hb : badP p b with
    | false => rfl
    | true => have := bad_fst hb; omega
theorem int_mB (i : Int) : mBS (Str.ofString (toString i)) = 0 := by
  refine mB_low _ 0 (by decide) fun c hc => ?_
  rw [TL.tl_ofString] at hc
  obtain ⟨ch, h1, rfl⟩ := List.mem_map.mp hc
  rcases int_sign i ch h1 with h | h
  · exact (digit_range h).2
  · rw [h]
    decide
theorem leaf_mB {y : PyData} (h : leafB y = true) : mBS (shows y) = 0 := by
  cases y with
  | int i => exact int_mB i
  | str s => exact of_decide_eq_true (Bool.and_eq_true_iff.mp (Bool.and_eq_true_iff.mp (show (decide (s.length ≤ 8) && (decide (mBS s = 0) && s.cps.toList.all fun c => decide (c < 16 ^ 8))) = true from h)).2).1
  | _ => cases h
theorem len_pair {q : Int × Int} (h : pairOk q) : RowP true (pairD q) := by
  obtain ⟨h0, h1, h2⟩ := h
  have l1 := int_len (i := q.1) h0 (by omega)
  have l2 := int_len (i := q.2) (by omega) h2
  refine ⟨rfl, Nat.le_of_ble_eq_true rfl, ?_, ?_, ?_⟩
  · refine forall_c ?_ (forall_c ?_ forall_n)
    · show (decide (0 ≤ q.1) && decide (q.1 ≤ 999999999)) = true
      rw [decide_eq_true h0, decide_eq_true (by omega)]
      rfl
    · show (decide (0 ≤ q.2) && decide (q.2 ≤ 999999999)) = true
      rw [decide_eq_true (by omega), decide_eq_true h2]
      rfl
  · show (isP (pairD q) && ((decide (0 ≤ q.1) && decide (q.1 ≤ 999999999)) && ((decide (0 ≤ q.2) && decide (q.2 ≤ 999999999)) && decide (q.1 < q.2)))) = true
    rw [decide_eq_true h0, decide_eq_true (show q.1 ≤ 999999999 by omega), decide_eq_true (show 0 ≤ q.2 by omega), decide_eq_true h2, decide_eq_true h1]
    rfl
  · show (shows (.int q.1)).length + ((shows (.int q.2)).length + 0) + 2 ≤ 20
    have e1 : shows (.int q.1) = Str.ofString (toString q.1) := rfl
    have e2 : shows (.int q.2) = Str.ofString (toString q.2) := rfl
    rw [e1, e2]
    omega
def wordOk (s : Str) : Bool := leafB (.str s)
abbrev wordsS : List Str := (["grow", "x", "y", "shrink", "turn", "loop", "unloop"] : List Str) ++ wires
theorem words_ok : wordsS.all wordOk = true := by decide +kernel
theorem grow_ok : (((["x", "y"] : List Str)).all fun k => wires.all fun n => stB (.tuple [.str "grow", .str k, .str n]) && decide ((("grow" : Str).length + (k.length + (n.length + 0))) + 3 ≤ 20)) = true := by decide +kernel
theorem word_ok {s : Str} (h : s ∈ wordsS) : leafB (.str s) = true := List.all_eq_true.mp words_ok s h
theorem len_step {z : PyData} (h : StepD z) : RowP false z := by
  cases h with
  | grow k n hk hn =>
    have g := List.all_eq_true.mp (List.all_eq_true.mp grow_ok k hk) n hn
    obtain ⟨g1, g2⟩ := Bool.and_eq_true_iff.mp g
    refine ⟨rfl, Nat.le_of_ble_eq_true rfl, forall_c (word_ok (by simp [wordsS])) (forall_c (word_ok ?_) (forall_c (word_ok (List.mem_append_right _ hn)) forall_n)), g1, ?_⟩
    · refine List.mem_append_left _ ?_
      simp only [List.mem_cons, List.not_mem_nil, or_false] at hk ⊢
      rcases hk with rfl | rfl <;> simp
    · exact of_decide_eq_true g2
  | num x i hx h0 h1 =>
    have l1 := int_len (i := i) h0 (by omega)
    have e1 : shows (.int i) = Str.ofString (toString i) := rfl
    have hx' : x ∈ wordsS := by
      refine List.mem_append_left _ ?_
      simp only [List.mem_cons, List.not_mem_nil, or_false] at hx ⊢
      rcases hx with rfl | rfl <;> simp
    refine ⟨rfl, Nat.le_of_ble_eq_true rfl, forall_c (word_ok hx') (forall_c ?_ forall_n), ?_, ?_⟩
    · show (decide (0 ≤ i) && decide (i ≤ 999999999)) = true
      rw [decide_eq_true h0, decide_eq_true (by omega)]
      rfl
    · show (true && (txtIn ["shrink", "turn"] (.str x) && (decide (0 ≤ i) && decide (i ≤ 999999999)))) = true
      rw [decide_eq_true h0, decide_eq_true (show i ≤ 999999999 by omega)]
      simp only [List.mem_cons, List.not_mem_nil, or_false] at hx
      rcases hx with rfl | rfl <;> decide +kernel
    · show x.length + ((shows (.int i)).length + 0) + 2 ≤ 20
      have : x.length ≤ 8 := of_decide_eq_true (Bool.and_eq_true_iff.mp (show (decide (x.length ≤ 8) && _) = true from word_ok hx')).1
      rw [e1]
      omega
  | one x hx =>
    have hx' : x ∈ wordsS := by
      refine List.mem_append_left _ ?_
      simp only [List.mem_cons, List.not_mem_nil, or_false] at hx ⊢
      rcases hx with rfl | rfl <;> simp
    refine ⟨rfl, Nat.le_of_ble_eq_true rfl, forall_c (word_ok hx') forall_n, ?_, ?_⟩
    · simp only [List.mem_cons, List.not_mem_nil, or_false] at hx
      rcases hx with rfl | rfl <;> decide +kernel
    · show x.length + 0 + 1 ≤ 20
      have : x.length ≤ 8 := of_decide_eq_true (Bool.and_eq_true_iff.mp (show (decide (x.length ≤ 8) && _) = true from word_ok hx')).1
      omega
structure PapD (p : Bool) (ds : List PyData) : Prop where
  len : ds.length ≤ 5
  row : ∀ z ∈ ds, RowP p z
/-- such a paper, told as it is or loosely -/
structure LooseP (p : Bool) (ds : List PyData) (d : PyData) : Prop where
  l : isL d = true
  e : (its d).map its = ds.map its
  r : ∀ z ∈ its d, isL z = true
theorem LooseP.row {p : Bool} {ds : List PyData} {d : PyData} (h : LooseP p ds d) {z : PyData} (hz : z ∈ its d) : ∃ z0 ∈ ds, its z = its z0 := by
  have : its z ∈ ds.map its := by rw [← h.e]; exact List.mem_map.mpr ⟨z, hz, rfl⟩
  obtain ⟨z0, h1, h2⟩ := List.mem_map.mp this
  exact ⟨z0, h1, h2.symm⟩
theorem LooseP.len {p : Bool} {ds : List PyData} {d : PyData} (h : LooseP p ds d) : (its d).length = ds.length := by
  have := congrArg List.length h.e
  rw [List.length_map, List.length_map] at this
  exact this
theorem loose_self {p : Bool} {ds : List PyData} (h : PapD p ds) : LooseP p ds (.list ds) := ⟨rfl, rfl, fun z hz => by rw [(h.row z hz).tu]; rfl⟩
theorem ld_leaf {y y' : PyData} (h : leafB y = true) (l : Ld y y') : y' = y := by
  cases y with
  | int i => cases l; rfl
  | str s => cases l; rfl
  | _ => cases h
theorem ld_leaves : ∀ {ys ys' : List PyData}, (∀ y ∈ ys, leafB y = true) → LdAll ys ys' → ys' = ys
  | [], _, _, .nil => rfl
  | y :: ys, _, h, .cons a r => by
    rw [ld_leaf (h y (List.mem_cons_self ..)) a, ld_leaves (fun z hz => h z (List.mem_cons_of_mem _ hz)) r]
theorem ld_rowp {p : Bool} {z z' : PyData} (h : RowP p z) (l : Ld z z') : isL z' = true ∧ its z' = its z := by
  have lf := h.lf
  rw [h.tu] at l
  generalize its z = zs at lf l ⊢
  cases l with
  | tl a => exact ⟨rfl, ld_leaves lf a⟩
  | tt a => exact ⟨rfl, ld_leaves lf a⟩
theorem ld_rows {p : Bool} : ∀ {ds ds' : List PyData}, (∀ z ∈ ds, RowP p z) → LdAll ds ds' → ds'.map its = ds.map its ∧ ∀ z ∈ ds', isL z = true
  | [], _, _, .nil => ⟨rfl, fun z h => nomatch h⟩
  | z :: ds, _, h, .cons a r => by
    obtain ⟨h1, h2⟩ := ld_rowp (h z (List.mem_cons_self ..)) a
    obtain ⟨h3, h4⟩ := ld_rows (fun y hy => h y (List.mem_cons_of_mem _ hy)) r
    exact ⟨by rw [List.map_cons, List.map_cons, h2, h3], forall_c h1 h4⟩
theorem ld_paper {p : Bool} {ds : List PyData} {d : PyData} (h : PapD p ds) (l : Ld (.list ds) d) : LooseP p ds d := by
  cases l with
  | ll a => exact ⟨rfl, (ld_rows h.row a).1, (ld_rows h.row a).2⟩
  | lt a => exact ⟨rfl, (ld_rows h.row a).1, (ld_rows h.row a).2⟩
theorem LooseP.text {p : Bool} {ds : List PyData} {d : PyData} (h : LooseP p ds d) : textD d = textD (.list ds) := by
  unfold textD
  have e : ∀ zs : List PyData, zs.map lineD = (zs.map its).map fun ys => Txt.join " " (ys.map shows) ++ "\n" := fun zs => by
    rw [List.map_map]
    rfl
  rw [e, e, h.e]
  rfl
theorem prB_its {z z0 : PyData} (h : its z = its z0) : prB z = prB z0 := by
  unfold prB
  rw [h]
theorem rowB_its {p : Bool} {z z0 : PyData} (l : isL z = true) (l0 : isL z0 = true) (h : its z = its z0) : rowB p z = rowB p z0 := by
  unfold rowB
  rw [prB_its h]
  unfold isP stB
  rw [h, l, l0]
theorem bP_rows {p : Bool} {d : PyData} (l : isL d = true) : bP p d = (its d).all (rowB p) := by
  unfold bP coB stsB
  rw [l, Bool.true_and, Bool.true_and]
  cases p with
  | true =>
    show ((its d).all isP && (its d).all prB) = (its d).all fun z => isP z && prB z
    induction its d with
    | nil => rfl
    | cons a r ih =>
      simp only [List.all_cons]
      rw [← ih]
      cases isP a <;> cases prB a <;> simp
  | false => rfl
theorem LooseP.ok {p : Bool} {ds : List PyData} {d : PyData} (h : LooseP p ds d) (hp : PapD p ds) : bP p d = true := by
  rw [bP_rows h.l]
  refine List.all_eq_true.mpr fun z hz => ?_
  obtain ⟨z0, m0, e0⟩ := h.row hz
  have r0 := hp.row z0 m0
  rw [rowB_its (h.r z hz) (by rw [r0.tu]; rfl) e0]
  exact r0.ok
theorem leaf_nod {y : PyData} (h : leafB y = true) : isD y = false ∧ ∀ s, y = .str s → s.length ≤ 100000 := by
  cases y with
  | int i => exact ⟨rfl, fun s z => nomatch z⟩
  | str s =>
    refine ⟨rfl, fun t e => ?_⟩
    cases e
    have : s.length ≤ 8 := of_decide_eq_true (Bool.and_eq_true_iff.mp (show (decide (s.length ≤ 8) && _) = true from h)).1
    omega
  | _ => cases h
theorem leaf_strI {y : PyData} (h : leafB y = true) : strI y := by
  cases y with
  | int i =>
    obtain ⟨j, e, _, _, g⟩ := idx_log (z := .int i) h
    cases e
    exact .inr ⟨i, rfl, g⟩
  | str s => exact .inl ⟨s, rfl⟩
  | _ => cases h
theorem LooseP.okP {p : Bool} {ds : List PyData} {d : PyData} (h : LooseP p ds d) (hp : PapD p ds) : okP d := by
  have := hp.len
  have := h.len
  refine ⟨by omega, fun z hz => ?_⟩
  obtain ⟨z0, m0, e0⟩ := h.row hz
  have r0 := hp.row z0 m0
  have := r0.len
  rw [e0]
  exact ⟨by omega, fun y hy => leaf_nod (r0.lf y hy)⟩
theorem LooseP.strs {p : Bool} {ds : List PyData} {d : PyData} (h : LooseP p ds d) (hp : PapD p ds) : ∀ z ∈ its d, isL z = true ∧ ∀ y ∈ its z, strI y := fun z hz => by
  obtain ⟨z0, m0, e0⟩ := h.row hz
  refine ⟨h.r z hz, fun y hy => leaf_strI ((hp.row z0 m0).lf y (by rw [← e0]; exact hy))⟩
theorem line_len {p : Bool} {z : PyData} (h : RowP p z) : (lineD z).length ≤ 21 := by
  show (Txt.join " " ((its z).map shows) ++ "\n").length ≤ 21
  rw [app_len, nl1]
  have h1 := len_join1 " " (by decide +kernel) ((its z).map shows)
  have h2 := h.ln
  rw [List.length_map] at h1
  omega
theorem line_mB {p : Bool} {z : PyData} (h : RowP p z) : mB 0 (tl (Txt.join " " ((its z).map shows))) = 0 := by
  have e := mBS_join " " 32 tl_sp (.inl rfl) ((its z).map shows)
  show mBS _ = 0
  rw [e, List.map_map]
  have lf := h.lf
  generalize its z = ys at lf ⊢
  induction ys with
  | nil => rfl
  | cons y r ih =>
    rw [List.map_cons, List.sum_cons, ih fun q hq => lf q (List.mem_cons_of_mem _ hq)]
    have := leaf_mB (lf y (List.mem_cons_self ..))
    show mBS (shows y) + 0 = 0
    omega
theorem joinL_nil : ∀ ws : List (List Nat), joinL [] ws = ws.flatten
  | [] => rfl
  | [a] => by simp [joinL]
  | a :: b :: r => by
    have e : joinL [] (a :: b :: r) = a ++ ([] ++ joinL [] (b :: r)) := rfl
    rw [e, joinL_nil (b :: r)]
    simp
theorem mB_lines : ∀ us : List (List Nat), (∀ u ∈ us, mB 0 u = 0) → mB 0 ((us.map fun u => u ++ [10]).flatten) = 0
  | [], _ => rfl
  | u :: us, h => by
    rw [List.map_cons, List.flatten_cons, mB_app, mB_app, h u (List.mem_cons_self ..)]
    have e1 : mB (u.getLastD 0) [10] = 0 := by
      show (badP _ 10).toNat + 0 = 0
      cases hb : badP (u.getLastD 0) 10 with
      | false => rfl
      | true => have := bad_snd hb; omega
    have e2 : (u ++ [10]).getLastD 0 = 10 := by
      rw [List.getLastD_eq_getLast?, List.getLast?_append]
      rfl
    rw [e1, e2, mB_no 10 _ (by omega), mB_lines us fun v hv => h v (List.mem_cons_of_mem _ hv)]
theorem text_facts {p : Bool} {ds : List PyData} (h : PapD p ds) : (textD (.list ds)).length ≤ 105 ∧ mBS (textD (.list ds)) = 0 := by
  have e1 : tl (textD (.list ds)) = ((ds.map fun z => tl (Txt.join " " ((its z).map shows))).map fun u => u ++ [10]).flatten := by
    have e0 : tl ("" : Str) = [] := by decide +kernel
    show tl (Txt.join "" (ds.map lineD)) = _
    rw [TL.join_eq, TL.tl_join, e0, joinL_nil, List.map_map, List.map_map]
    congr 1
    refine List.map_congr_left fun z _ => ?_
    show tl (Txt.join " " ((its z).map shows) ++ "\n") = _
    rw [TL.tl_append, tl_nl]
    rfl
  constructor
  · have h1 := StrLaws.join_length_le "" (ds.map lineD)
    rw [← TL.join_eq] at h1
    have e0 : ("" : Str).length = 0 := by decide +kernel
    rw [e0, Nat.mul_zero] at h1
    have h2 := sum_map_le (fun z => (lineD z).length) (fun _ => 21) ds fun z hz => line_len (h.row z hz)
    have h3 : (ds.map fun _ => 21).sum = 21 * ds.length := by
      clear h h1 h2 e1
      induction ds with
      | nil => rfl
      | cons a r ih => simp; omega
    have h4 := h.len
    rw [List.map_map] at h1
    have h5 : ((fun x : Str => x.length) ∘ lineD) = fun z => (lineD z).length := rfl
    rw [h5] at h1
    have h6 : textD (.list ds) = Txt.join "" (ds.map lineD) := rfl
    rw [h6]
    omega
  · show mB 0 (tl _) = 0
    rw [e1]
    refine mB_lines _ fun u hu => ?_
    obtain ⟨z, hz, rfl⟩ := List.mem_map.mp hu
    exact line_mB (h.row z hz)
end K14.T69
namespace K14.T69
open T27 T3
open K14.Gn
open PySem PySem.W PySem.Calls PyProof.Rows L2 LamX
open He (ga)
open SX (S)
open TL (tl pre joinL)
open Kz (SS ExtS ExtS.trans small4 same_new boot_in boot_li boot_isi Has pe_has noE PSs.of_eq new_ext X1)
/-! ### _law_written -/
abbrev sWn : Stmt := topS 68
abbrev NWn : List Str := ["is_pairs", "paper", "found"]
theorem scWn : FnScope NWn ["is_pairs", "paper"] (defScope sWn) := ⟨rfl, rfl, rfl, by decide +kernel, rfl, by decide +kernel, by decide +kernel⟩
theorem bdWn : defBody sWn = [stOf sWn 0, stOf sWn 1, stOf sWn 2] := by rfl
def qWn : Str := (("_law_written" : Str) ++ ".<locals>.") ++ "<lambda>"
structure WnK (P : Program) (w : World) (K : Frag) (mg : Str → Option Value) (base : Heap) : Prop where
  ct : Has P w K mg base "course_text" 4 ["course"] (spTx coB)
  ctk : HasK1 P w K mg base "course_text" 4 "course" (spTx coB)
  ctx : HasX P w K mg base "course_text" 4 ["course"] (spTxX K coB)
  ctxk : HasXK1 P w K mg base "course_text" 4 "course" (spTxX K coB)
  st : Has P w K mg base "steps_text" 4 ["derivation"] (spTx stsB)
  stk : HasK1 P w K mg base "steps_text" 4 "derivation" (spTx stsB)
  stx : HasX P w K mg base "steps_text" 4 ["derivation"] (spTxX K stsB)
  stxk : HasXK1 P w K mg base "steps_text" 4 "derivation" (spTxX K stsB)
/-- what is told of a paper that is to be written -/
def WrOk (p : Bool) (v : V) (d : PyData) (wd : Str) (u : V) : Prop := okP d ∧ ((bP p d = true ∧ (textD d).length ≤ 100000 ∧ wd = "told" ∧ u = .str (textD d)) ∨ (bP p d = false ∧ wd = "form" ∧ u = v))
def AskW (T : List (Addr × Str)) (v : V) (d : PyData) (wd : Str) (u : V) (te : TE) : Prop := ∀ (σ : L2.St) (G : Hp) (Q : VK), σ[1]? = some (some v) → Th (Hid [] G) v d → Tabs T G → (∀ (G' : Hp) (t : Addr), ExtN G G' → Tabs T G' → G' t = some (.tup [.str wd, u]) → Q (.ref t) G') → te σ G Q
section
variable {P : Program} {w : World} {K : Frag} {mg : Str → Option Value} {base : Heap} {T : List (Addr × Str)}
theorem ask_written {p : Bool} {v : V} {d : PyData} {wd : Str} {u : V} {B : PyData → Bool} {t : XK → TE} (hB : B d = bP p d) (hW : WrOk p v d wd u)
    (ht : ∀ (E : XK) (σ : L2.St) (H : Hp) (Q : VK), σ[1]? = some (some v) → (spTx B [v] H Q noE ∨ spTxX K B [v] H Q E) → t E σ H Q) : AskW T v d wd u (tLam T (tlA K) t) := by
  intro σ G Q h1 hv hT k
  refine ⟨hT, fun H1 e1 T1 => ht _ σ H1 _ h1 ?_⟩
  have hv1 := (hv.ext (hid_N e1)).ext hid_up
  obtain ⟨hok, h | h⟩ := hW
  · obtain ⟨b, l, rfl, rfl⟩ := h
    refine .inl ⟨v, d, rfl, hv1, by rw [hB]; exact b, hok, l, fun H2 s2 => ⟨small4 2, fun t' nt => ?_⟩⟩
    have z := same_new (o := .tup [V.str "told", .str (textD d)]) nt
    exact k _ t' (e1.trans (.of (s2.trans z))) (T1.ext (s2.trans z)) upd_same
  · obtain ⟨b, rfl, rfl⟩ := h
    refine .inr ⟨u, d, rfl, hv1, by rw [hB]; exact b, hok, ?_⟩
    exact says_ea _ a_form fun H' t' s q => k H' t' (e1.trans (.of s)) (T1.ext s) q
abbrev XWn (P : Program) (w : World) (K : Frag) (mg : Str → Option Value) (base : Heap) (f : Addr) (cdv : Value) (A : Around) (outer : List Env) (s : Shared) (H : Hp) (XE : XK) : Cx := (cxOf CX0 P w K mg base NWn "_law_written" (defScope sWn) f cdv A outer s H XE).nox
theorem noXw {f : Addr} {cdv : Value} {A : Around} {outer : List Env} {s : Shared} {H : Hp} {XE : XK} {A' : Around} {outer' : List Env} {s' : Shared} {H' : Hp} {E : XK} {scope : Scope} {f' c' : Addr} : Passes (L2.CX P w) (lamCx (XWn P w K mg base f cdv A outer s H XE) A' outer' s' H' E scope f' c') E := passes_call (takes_of rfl rfl rfl rfl) (fun _ _ _ _ h => h)
def spWn (T : List (Addr × Str)) : Sp := fun vs H Q _ => ∃ (p : Bool) (v : V) (d : PyData) (wd : Str) (u : V), vs = [.bl p, v] ∧ Th (Hid [] H) v d ∧ Tabs T H ∧ WrOk p v d wd u ∧ ∀ (H' : Hp) (F t1 t2 : Addr), ExtN H H' → Tabs T H' → H' F = some (.lst [.ref t1, .ref t2]) → H' t1 = some (.tup [.str wd, u]) → H' t2 = some (.tup [.str wd, u]) → Q (.ref F) H'
/-- asked twice, and told in a list -/
theorem wn_br {v : V} {d : PyData} {wd : Str} {u : V} {a1 a2 : TE} {b0 b2 : Option V} {G0 : Hp} {D : Ends} (h1 : AskW T v d wd u a1) (h2 : AskW T v d wd u a2) (hv : Th (Hid [] G0) v d) (TG : Tabs T G0)
    (k : ∀ (G : Hp) (F t1 t2 : Addr), ExtN G0 G → Tabs T G → G F = some (.lst [.ref t1, .ref t2]) → G t1 = some (.tup [.str wd, u]) → G t2 = some (.tup [.str wd, u]) → D.rt (.ref F) G) :
    tSeq (tAsg (tLst (tCons a1 tNil)) (gName 2)) (tRet (tOp rCat (tVar 2) (tLst (tCons a2 tNil)))) D [b0, some v, b2] G0 := by
  refine set_intro (i := 2) ?_
  refine lst_intro ?_
  refine h1 _ G0 _ rfl hv TG fun G1 t1 e1 T1 q1 => ⟨small4 1, fun f1 n1 => ?_⟩
  have z1 := same_new (o := .lst [.ref t1]) n1
  refine ret_intro ?_
  refine ⟨.ref f1, rfl, ?_⟩
  refine lst_intro ?_
  have E1 := e1.trans (ExtN.of z1)
  refine h2 _ _ _ rfl (hv.ext (hid_N E1)) (T1.ext z1) fun G2 t2 e2 T2 q2 => ⟨small4 1, fun f2 n2 => ?_⟩
  have z2 := same_new (o := .lst [.ref t2]) n2
  have w1 := e2 _ _ (z1 _ _ q1) (fun ps z => nomatch z)
  have w2 := e2 _ _ (upd_same (H := G1) (a := f1) (o := .lst [.ref t1])) (fun ps z => nomatch z)
  refine ⟨f1, f2, _, _, rfl, rfl, z2 _ _ w2, upd_same, by rw [sizeLine_eq]; exact Nat.le_of_ble_eq_true rfl, fun f3 n3 => ?_⟩
  have z3 := same_new (o := .lst ([V.ref t1] ++ [.ref t2])) n3
  exact k _ f3 t1 t2 ((E1.trans e2).trans (.of (z2.trans z3))) (T2.ext (z2.trans z3)) upd_same (z3 _ _ (z2 _ _ w1)) (z3 _ _ (z2 _ _ q2))
theorem ok_wn {f c Pt g : Addr} {gd : FuncData} {oc kV doc pm ct : Value} {od an : Option Addr} {osl : Array (Option Value)} (lk : K.lookup f = some ⟨oc, od, .func (fnOf "_law_written" "_law_written" (defArgs sWn) (defBody sWn) (defScope sWn) .none kV doc pm an (.ref c) ct), osl⟩) (hcd : codeIn K (.ref c) "_law_written" = true)
    (TB : TabB base mg c Pt) (hmT : (Pt, qWn) ∈ T) (hu : ∀ p ∈ T, p.1 = Pt → p.2 = qWn)
    (G : FunD K "_law_asked" "_law_asked" (defArgs sAk) (defBody sAk) (defScope sAk) [] [] g gd) (mo : mg "_law_asked" = some (.ref g)) (kp : keepIn K (.ref g) = true) (bd : L2.Binds K gd ["ask"] []) (R : AkK P K mg) (L : WnK P w K mg base) :
    FnOk P w K mg base CX0 7 f (fnOf "_law_written" "_law_written" (defArgs sWn) (defBody sWn) (defScope sWn) .none kV doc pm an (.ref c) ct) ["is_pairs", "paper"] (spWn T) := by
  obtain ⟨og, odg, kVg, docg, pmg, ang, cg, ctg, oslg, rfl, lkg, hcg⟩ := fun_code G
  refine fn_of (CX := CX0) (P := P) (w := w) (mg := mg) (base := base) (k := 6) (N := NWn) lk hcd scWn (fun vs H Q E h => ?_) (fun A outer s H vs Q XE hr hsp => ?_)
  · obtain ⟨p, v, d, wd, u, rfl, _⟩ := h
    rfl
  obtain ⟨p, v, d, wd, u, rfl, hv, hT, hW, k⟩ := hsp
  have gl : Gl (XWn P w K mg base f (.ref c) A outer s H XE) "_law_asked" := rfl
  have gv := ak_gives (X := XWn P w K mg base f (.ref c) A outer s H XE) (g := g) (cdg := .ref cg) (q := qWn) R
  have ask : ∀ {params : Arguments} {body : Expr} {scope : Scope} {p lpos pos : Pos} {t : XK → TE}, LamS (defScope sWn) scope → defaultsOf params (XWn P w K mg base f (.ref c) A outer s H XE).env = ([], []) → (∀ (q : Str) (cl : List (Str × Addr)) (pm cv ctv : Value), bindArgs (kla_fn "<lambda>" q params body scope cl pm cv ctv) ⟨[], []⟩ = pure []) →
      (∀ (A' : Around) (outer' : List Env) (s' : Shared) (H' : Hp) (E : XK) (f' c' : Addr), Room 4 (A'.deeper (lamEnv (XWn P w K mg base f (.ref c) A outer s H XE) scope s'.heap.objs.size f' c')) → PE (lamCx (XWn P w K mg base f (.ref c) A outer s H XE) A' outer' s' H' E scope f' c') body (t E)) →
      PE (XWn P w K mg base f (.ref c) A outer s H XE) (.Call (.Name "_law_asked" p) [.Lambda params body scope lpos] [] pos) (tLam T (tlA K) t) :=
    fun hL hd hb hbody => pe_lamcall gl mo kp lkg hcg bd scAk rfl (.inl rfl) gv TB rfl hmT hu hr hL hd hb hbody
  have t0 : PS (XWn P w K mg base f (.ref c) A outer s H XE) (ifB1 (stOf sWn 0) 0) _ := ps_set (i := 2) scWn.nd rfl (.inl rfl) (pe_lst (pa_cons (ask (lamS_by (by decide +kernel)) rfl (fun _ _ _ _ _ => rfl) (fun A' o' s' H' E f' c' hr2 => pe_alt (pe_has L.ct hr2 (by rfl) (pa_cons (pv 1) pa_nil)) (pe_hasX L.ctx hr2 (by rfl) noXw (pa_cons (pv 1) pa_nil)))) pa_nil))
  have t1 : PS (XWn P w K mg base f (.ref c) A outer s H XE) (ifB1 (stOf sWn 0) 1) _ := ps_ret (pe_op op_cat (pv 2) (pe_lst (pa_cons (ask (lamS_by (by decide +kernel)) rfl (fun _ _ _ _ _ => rfl) (fun A' o' s' H' E f' c' hr2 => pe_alt (pe_hasK1 L.ctk hr2 (by rfl) (pv 1)) (pe_hasXK1 L.ctxk hr2 (by rfl) noXw (pv 1)))) pa_nil)))
  have e0 : PS (XWn P w K mg base f (.ref c) A outer s H XE) (stOf sWn 1) _ := ps_set (i := 2) scWn.nd rfl (.inl rfl) (pe_lst (pa_cons (ask (lamS_by (by decide +kernel)) rfl (fun _ _ _ _ _ => rfl) (fun A' o' s' H' E f' c' hr2 => pe_alt (pe_has L.st hr2 (by rfl) (pa_cons (pv 1) pa_nil)) (pe_hasX L.stx hr2 (by rfl) noXw (pa_cons (pv 1) pa_nil)))) pa_nil))
  have e1 : PS (XWn P w K mg base f (.ref c) A outer s H XE) (stOf sWn 2) _ := ps_ret (pe_op op_cat (pv 2) (pe_lst (pa_cons (ask (lamS_by (by decide +kernel)) rfl (fun _ _ _ _ _ => rfl) (fun A' o' s' H' E f' c' hr2 => pe_alt (pe_hasK1 L.stk hr2 (by rfl) (pv 1)) (pe_hasXK1 L.stxk hr2 (by rfl) noXw (pv 1)))) pa_nil)))
  have h0 : PS (XWn P w K mg base f (.ref c) A outer s H XE) (stOf sWn 0) _ := ps_if (pt_val (pv 0)) (pss_cons t0 (pss_one t1)) pss_nil
  have PP := PSs.of_eq bdWn (pss_cons h0 (pss_cons e0 (pss_one e1)))
  clear h0 t0 t1 e0 e1 ask gv
  refine ⟨_, PSs.nox PP, ?_⟩
  clear PP
  refine T3.if_intro ⟨.bl p, rfl, p, rfl, ?_⟩
  cases p with
  | true =>
    exact wn_br (ask_written (p := true) (B := coB) rfl hW fun E σ H Q h r => r.imp (fun r => ⟨_, h, r⟩) (fun r => ⟨_, h, r⟩)) (ask_written (p := true) (B := coB) rfl hW fun E σ H Q h r => r.imp (fun r => ⟨_, h, r⟩) (fun r => ⟨_, h, r⟩)) hv hT fun G F t1 t2 eG TG hF q1 q2 => k G F t1 t2 eG TG hF q1 q2
  | false =>
    refine nx_intro ?_
    exact wn_br (ask_written (p := false) (B := stsB) rfl hW fun E σ H Q h r => r.imp (fun r => ⟨_, h, r⟩) (fun r => ⟨_, h, r⟩)) (ask_written (p := false) (B := stsB) rfl hW fun E σ H Q h r => r.imp (fun r => ⟨_, h, r⟩) (fun r => ⟨_, h, r⟩)) hv hT fun G F t1 t2 eG TG hF q1 q2 => k G F t1 t2 eG TG hF q1 q2
end
end K14.T69
namespace K14.T69
open T27 T3
open K14.Gn
open PySem PySem.W PySem.Calls PyProof.Rows L2 LamX
open SX (S)
open TL (tl pre joinL)
open Kz (Rd RdAll)
/-! ### papers shown; papers that are not right -/
mutual
theorem th_rd {H : Hp} : ∀ {v : V} {d : PyData}, Th H v d → PyData.hasDict d = false → ∃ as, Rd H v d as
  | _, _, .non, _ => ⟨_, .non⟩
  | _, _, .bl b, _ => ⟨_, .bl b⟩
  | _, _, .int i, _ => ⟨_, .int i⟩
  | _, _, .str x, _ => ⟨_, .str x⟩
  | _, _, .lst h r, n => by
    obtain ⟨as, q⟩ := thAll_rd r n
    exact ⟨_, .lst h q⟩
  | _, _, .tup h r, n => by
    obtain ⟨as, q⟩ := thAll_rd r n
    exact ⟨_, .tup h q⟩
  | _, _, .dct h r, n => absurd (show true = false from n) (by decide)
theorem thAll_rd {H : Hp} : ∀ {vs : List V} {ds : List PyData}, ThAll H vs ds → PyData.hasDictAll ds = false → ∃ as, RdAll H vs ds as
  | _, _, .nil, _ => ⟨_, .nil⟩
  | _, _, .cons h r, n => by
    obtain ⟨n1, n2⟩ := Bool.or_eq_false_iff.mp (show (PyData.hasDict _ || PyData.hasDictAll _) = false from n)
    obtain ⟨as, q⟩ := th_rd h n1
    obtain ⟨bs, q2⟩ := thAll_rd r n2
    exact ⟨_, .cons q q2⟩
end
theorem all_show : ∀ {xs : List PyData}, (∀ x ∈ xs, PyData.showable x = true) → PyData.showableAll xs = true
  | [], _ => rfl
  | x :: xs, h => by
    show (PyData.showable x && PyData.showableAll xs) = true
    rw [h x (List.mem_cons_self ..), all_show fun y hy => h y (List.mem_cons_of_mem _ hy)]
    rfl
theorem all_nod : ∀ {xs : List PyData}, (∀ x ∈ xs, PyData.hasDict x = false) → PyData.hasDictAll xs = false
  | [], _ => rfl
  | x :: xs, h => by
    show (PyData.hasDict x || PyData.hasDictAll xs) = false
    rw [h x (List.mem_cons_self ..), all_nod fun y hy => h y (List.mem_cons_of_mem _ hy)]
    rfl
theorem all_short : ∀ {xs : List PyData}, (∀ x ∈ xs, PyData.leavesShort 13 x = true) → PyData.leavesShortAll 13 xs = true
  | [], _ => rfl
  | x :: xs, h => by
    show (PyData.leavesShort 13 x && PyData.leavesShortAll 13 xs) = true
    rw [h x (List.mem_cons_self ..), all_short fun y hy => h y (List.mem_cons_of_mem _ hy)]
    rfl
theorem all_wei {m : Nat} : ∀ {xs : List PyData}, (∀ x ∈ xs, PyData.weight x ≤ m) → PyData.weightAll xs ≤ (m + 1) * xs.length
  | [], _ => Nat.zero_le _
  | x :: xs, h => by
    have h1 := h x (List.mem_cons_self ..)
    have h2 := all_wei fun y hy => h y (List.mem_cons_of_mem _ hy)
    show PyData.weight x + 1 + PyData.weightAll xs ≤ (m + 1) * (xs.length + 1)
    rw [Nat.mul_succ]
    omega
structure Sh (k m : Nat) (d : PyData) : Prop where
  s : PyData.showable d = true
  n : PyData.hasDict d = false
  l : PyData.leavesShort 13 d = true
  dp : PyData.depth d ≤ k
  w : PyData.weight d ≤ m
theorem sh_seq {k m : Nat} {d : PyData} (l : isL d = true) (h : ∀ z ∈ its d, Sh k m z) : Sh (k + 1) ((m + 1) * (its d).length) d := by
  have h1 := all_show fun z hz => (h z hz).s
  have h2 := all_nod fun z hz => (h z hz).n
  have h3 := all_short fun z hz => (h z hz).l
  have h4 := dep_le fun z hz => (h z hz).dp
  have h5 := all_wei fun z hz => (h z hz).w
  cases d with
  | list xs => exact ⟨h1, h2, h3, by show PyData.depthAll xs + 1 ≤ k + 1; exact Nat.succ_le_succ h4, h5⟩
  | tuple xs => exact ⟨h1, h2, h3, by show PyData.depthAll xs + 1 ≤ k + 1; exact Nat.succ_le_succ h4, h5⟩
  | _ => cases l
theorem sh_leaf {y : PyData} (h : leafB y = true) : Sh 0 40 y := by
  cases y with
  | int i =>
    obtain ⟨a, b⟩ := Bool.and_eq_true_iff.mp (show (decide (0 ≤ i) && decide (i ≤ 999999999)) = true from h)
    have a := of_decide_eq_true a
    have b := of_decide_eq_true b
    obtain ⟨j, e, _, _, g⟩ := idx_log (z := .int i) h
    cases e
    refine ⟨decide_eq_true g, rfl, ?_, Nat.le_refl _, ?_⟩
    · show decide ((PyData.shown (.int i)).length ≤ 13) = true
      refine decide_eq_true ?_
      have := int_len a b
      have e : PyData.shown (.int i) = Str.ofString (toString i) := by rfl
      rw [e]
      omega
    · show (if i == 0 then 0 else i.natAbs.log2 + 1) ≤ 40
      split
      · omega
      · rename_i h0
        have h0' : i ≠ 0 := by simpa using h0
        have : i.natAbs.log2 < 39 := (Nat.log2_lt (by omega)).mpr (by have : i.natAbs ≤ 999999999 := by omega
                                                                      have : (2 : Nat) ^ 39 = 549755813888 := by decide
                                                                      omega)
        omega
  | str s =>
    obtain ⟨a, b⟩ := Bool.and_eq_true_iff.mp (show (decide (s.length ≤ 8) && (decide (mBS s = 0) && s.cps.toList.all fun c => decide (c < 16 ^ 8))) = true from h)
    have a := of_decide_eq_true a
    exact ⟨rfl, rfl, (Bool.and_eq_true_iff.mp b).2, Nat.le_refl _, by show s.cps.size ≤ 40; have : s.length = s.cps.size := rfl; omega⟩
  | _ => cases h
theorem LooseP.sh {p : Bool} {ds : List PyData} {d : PyData} (h : LooseP p ds d) (hp : PapD p ds) : PyData.showable d = true ∧ PyData.hasDict d = false ∧ PyData.depth d ≤ 20 ∧ (PyData.shown d).length ≤ sizeLine := by
  have rows : ∀ z ∈ its d, Sh 1 200 z := fun z hz => by
    obtain ⟨z0, m0, e0⟩ := h.row hz
    have r0 := hp.row z0 m0
    have s := sh_seq (h.r z hz) (k := 0) (m := 40) fun y hy => sh_leaf (r0.lf y (by rw [← e0]; exact hy))
    have l3 := r0.len
    rw [e0] at s
    exact ⟨s.s, s.n, s.l, s.dp, Nat.le_trans s.w (by omega)⟩
  have s := sh_seq h.l rows
  have l5 := hp.len
  rw [h.len] at s
  have w := s.w
  have hd := s.dp
  refine ⟨s.s, s.n, by omega, PyData.shown_fits (B := 13) (by decide) (by decide) s.l ?_⟩
  have : (2 : Nat) ^ 20 = 1048576 := by decide
  omega
/-! not right -/
def shortS : PyData → Bool
  | .str s => decide (s.length ≤ 100000)
  | _ => true
theorem odds_ok : odds.all (fun z => fitS 3 z && (decide ((its z).length ≤ 100000) && (its z).all fun y => !isD y && shortS y)) = true := by decide +kernel
theorem odd_row {p : Bool} {z : PyData} (h : z ∈ odds) : rowB p z = false := by
  have h1 := List.all_eq_true.mp odds_bad z h
  obtain ⟨a, b⟩ := Bool.and_eq_true_iff.mp h1
  unfold rowB
  cases p with
  | true =>
    show (isP z && prB z) = false
    cases h1 : isP z <;> cases h2 : prB z <;> rw [h1, h2] at a <;> first | rfl | exact absurd a (by decide)
  | false =>
    show stB z = false
    cases h1 : stB z with
    | false => rfl
    | true => rw [h1] at b; exact absurd b (by decide)
structure BadP (p : Bool) (d : PyData) : Prop where
  b : bP p d = false
  k : okP d
  f : fitS 4 d = true
theorem row_fitS {p : Bool} {z : PyData} (h : RowP p z) : fitS 3 z = true := by
  refine fit_mono (fit_mono ?_)
  rw [h.tu]
  show (decide ((its z).length ≤ 1000) && (its z).all (fitS 0)) = true
  have := h.len
  rw [decide_eq_true (by omega), Bool.true_and]
  refine List.all_eq_true.mpr fun y hy => ?_
  have := h.lf y hy
  cases y <;> first | rfl | cases this
theorem bad_odd {p : Bool} {ds : List PyData} {z : PyData} {n : Nat} (hp : PapD p ds) (hz : z ∈ odds) : BadP p (.list ((ds.take n ++ [z]) ++ ds.drop n)) := by
  have o := List.all_eq_true.mp odds_ok z hz
  obtain ⟨o1, o2⟩ := Bool.and_eq_true_iff.mp o
  obtain ⟨o2, o3⟩ := Bool.and_eq_true_iff.mp o2
  have mem : ∀ y ∈ (ds.take n ++ [z]) ++ ds.drop n, y ∈ ds ∨ y = z := fun y hy => by
    rcases List.mem_append.mp hy with hy | hy
    · rcases List.mem_append.mp hy with hy | hy
      · exact .inl (List.mem_of_mem_take hy)
      · exact .inr (List.mem_singleton.mp hy)
    · exact .inl (List.mem_of_mem_drop hy)
  have len : ((ds.take n ++ [z]) ++ ds.drop n).length ≤ 11 := by
    have := hp.len
    rw [List.length_append, List.length_append, List.length_take, List.length_drop, List.length_singleton]
    omega
  refine ⟨?_, ⟨?_, fun y hy => ?_⟩, ?_⟩
  · rw [bP_rows rfl]
    refine List.all_eq_false.mpr ⟨z, List.mem_append_left _ (List.mem_append_right _ (List.mem_singleton.mpr rfl)), ?_⟩
    rw [odd_row hz]
    exact Bool.false_ne_true
  · show ((ds.take n ++ [z]) ++ ds.drop n).length ≤ 100000
    omega
  · rcases mem y hy with h | rfl
    · have r := hp.row y h
      have := r.len
      exact ⟨by omega, fun q hq => leaf_nod (r.lf q hq)⟩
    · refine ⟨of_decide_eq_true o2, fun q hq => ?_⟩
      obtain ⟨q1, q2⟩ := Bool.and_eq_true_iff.mp (List.all_eq_true.mp o3 q hq)
      refine ⟨by simpa using q1, fun s e => ?_⟩
      subst e
      exact of_decide_eq_true q2
  · show (decide (((ds.take n ++ [z]) ++ ds.drop n).length ≤ 1000) && ((ds.take n ++ [z]) ++ ds.drop n).all (fitS 3)) = true
    rw [decide_eq_true (by omega), Bool.true_and]
    refine List.all_eq_true.mpr fun y hy => ?_
    rcases mem y hy with h | rfl
    · exact row_fitS (hp.row y h)
    · exact o1
def elseD : List PyData := [.none, .int 5, .str "", .dict [], .bool true, .str "loop"]
theorem bad_else {p : Bool} {z : PyData} (h : z ∈ elseD) : BadP p z := by
  have key : elseD.all (fun z => !isL z && (its z).isEmpty && fitS 4 z) = true := by decide +kernel
  obtain ⟨k12, k3⟩ := Bool.and_eq_true_iff.mp (List.all_eq_true.mp key z h)
  obtain ⟨k1, k2⟩ := Bool.and_eq_true_iff.mp k12
  have l : isL z = false := by simpa using k1
  have e : its z = [] := List.isEmpty_iff.mp k2
  refine ⟨?_, ⟨by rw [e]; exact Nat.zero_le _, fun y hy => by rw [e] at hy; cases hy⟩, k3⟩
  unfold bP coB stsB
  rw [l]
  cases p <;> rfl
end K14.T69
namespace K14.T69
open T27 T3
open K14.Gn
open PySem PySem.W PySem.Calls PyProof.Rows L2 LamX
open He (ga)
open SX (S)
open TL (tl pre joinL)
open Kz (SS ExtS ExtS.trans small4 same_new boot_in boot_li boot_isi Has pe_has noE PSs.of_eq new_ext X1 HasG pe_hasG FnG call_repr boot_rp)
/-! ### _law_written_right -/
abbrev sWq : Stmt := topS 69
abbrev NWq : List Str := ["stream", "is_pairs", "paper", "handed", "due", "was", "at", "bad"]
theorem scWq : FnScope NWq ["stream", "is_pairs", "paper"] (defScope sWq) := ⟨rfl, rfl, rfl, by decide +kernel, rfl, by decide +kernel, by decide +kernel⟩
theorem bdWq : defBody sWq = [stOf sWq 0, stOf sWq 1, stOf sWq 2, stOf sWq 3, stOf sWq 4, stOf sWq 5, stOf sWq 6] := by rfl
structure WqK (P : Program) (w : World) (K : Frag) (mg : Str → Option Value) (base : Heap) (T : List (Addr × Str)) : Prop where
  lo : Has P w K mg base "_law_loose" 4 ["stream", "thing"] (spLo 2)
  pt : Has P w K mg base "_law_paper_text" 2 ["paper"] spPt
  wn : Has P w K mg base "_law_written" 7 ["is_pairs", "paper"] (spWn T)
  sm : Has P w K mg base "_law_same" 7 ["found", "due"] (spSm 6)
  dr : Has P w K mg base "_law_draw" 1 ["stream", "many"] spDrW
  pk : Has P w K mg base "_law_pick" 2 ["stream", "some"] spPk
  od : ∃ f fd, mg "_law_odd_rows" = some (.ref f) ∧ keepIn K (.ref f) = true ∧ L2.Binds K fd [] [] ∧ FnOk P w K mg base CX0 1 f fd [] spOr
  rp : mg "repr" = none
  ln : mg "len" = none
  li : mg "list" = none
section
variable {P : Program} {w : World} {K : Frag} {mg : Str → Option Value} {base : Heap} {T : List (Addr × Str)}
abbrev XWq (P : Program) (w : World) (K : Frag) (mg : Str → Option Value) (base : Heap) (f : Addr) (cdv : Value) (A : Around) (outer : List Env) (s : Shared) (H : Hp) (XE : XK) : Cx := (cxOf CX0 P w K mg base NWq "_law_written_right" (defScope sWq) f cdv A outer s H XE).nox
def spWq (T : List (Addr × Str)) : Sp := fun vs H Q _ => ∃ (l li f : Addr) (c : Int) (p : Bool) (ys : List V) (ds : List PyData), vs = [.ref l, .bl p, .ref f] ∧ Spr H l li c ∧ c < 700000000 ∧ f ≠ l ∧ f ≠ li ∧ H f = some (.lst ys) ∧ ThAll (Hid [l, li] H) ys ds ∧ PapD p ds ∧ Tabs T H ∧ ∀ (H' : Hp) (c' : Int), ExtL l li H H' → Spr H' l li c' → c' ≤ c + 20 → Tabs T H' → Q (.bl true) H'
theorem ok_wq {f : Addr} {fd : FuncData} (Fn : FunD K "_law_written_right" "_law_written_right" (defArgs sWq) (defBody sWq) (defScope sWq) [] [] f fd) (L : WqK P w K mg base T) : FnG P w K mg base CX0 8 f fd ["stream", "is_pairs", "paper"] (spWq T) := by
  refine Kz.FunD.okG Fn scWq (fun vs H Q E h => ?_) (fun cdv A outer s H vs Q XE hg hr h => ?_)
  · obtain ⟨l, li, f, c, p, ys, ds, rfl, _⟩ := h
    rfl
  · obtain ⟨l, li, f0, c, p, ys, ds, rfl, sp, hc, nl, nli, hf, hys, hp, hT, k⟩ := h
    obtain ⟨fo, fdo, ho1, ho2, ho3, ho4⟩ := L.od
    have rp : ∀ {p q r : Pos}, PE (XWq P w K mg base f cdv A outer s H XE) (.Call (.Name "repr" p) [.Name "handed" q] [] r) (tCB Kz.rRepr (tCons (tVar 3) tNil)) := fun {p q r} => pe_callB (call_repr (X := XWq P w K mg base f cdv A outer s H XE) hg (hr.mono (by decide))) (by rfl) L.rp boot_rp (pa_cons (pv 3) pa_nil)
    have h0 : PS (XWq P w K mg base f cdv A outer s H XE) (stOf sWq 0) _ := ps_par (i := 3) (j := 4) rfl scWq.nd rfl rfl (by decide) rfl rfl (pa_cons (pe_has L.lo (hr.mono (by decide)) (by rfl) (pa_cons (pv 0) (pa_cons (pv 2) pa_nil))) (pa_cons (pe_tup (pa_cons pe_str (pa_cons (pe_has L.pt (hr.mono (by decide)) (by rfl) (pa_cons (pv 2) pa_nil)) pa_nil))) pa_nil)) (by rfl)
    have h1 : PS (XWq P w K mg base f cdv A outer s H XE) (stOf sWq 1) _ := ps_set (i := 5) scWq.nd rfl (.inl rfl) rp
    have h2 : PS (XWq P w K mg base f cdv A outer s H XE) (stOf sWq 2) _ := ps_if (PW.pt (pw_or (pt_not (pt_val (pe_has L.sm (hr.mono (by decide)) (by rfl) (pa_cons (pe_has L.wn (hr.mono (by decide)) (by rfl) (pa_cons (pv 1) (pa_cons (pv 3) pa_nil))) (pa_cons (pe_lst (pa_cons (pv 4) (pa_cons (pv 4) pa_nil))) pa_nil))))) (pw_or1 (pt_cmpR op_ne rp (pv 5) (nomark _))))) (pss_one (ps_ret pe_bl)) pss_nil
    have h3 : PS (XWq P w K mg base f cdv A outer s H XE) (stOf sWq 3) _ := ps_set (i := 6) scWq.nd rfl (.inl rfl) (pe_has L.dr (hr.mono (by decide)) (by rfl) (pa_cons (pv 0) (pa_cons (pe_op op_add (pe_callB call_len_seq (by rfl) L.ln boot_len (pa_cons (pv 2) pa_nil)) pe_int) pa_nil)))
    have h4 : PS (XWq P w K mg base f cdv A outer s H XE) (stOf sWq 4) _ := ps_set (i := 7) scWq.nd rfl (.inl rfl) (pe_op op_cat (pe_op op_cat (pe_callTy call_list_of (by rfl) L.li boot_li (pa_cons (pe_slice sl_list (pv 2) po_none (po_some (pv 6))) pa_nil)) (pe_lst (pa_cons (pe_has L.pk (hr.mono (by decide)) (by rfl) (pa_cons (pv 0) (pa_cons (pe_call0 ho4 (hr.mono (by decide)) (by rfl) ho1 ho2 ho3 .nil pass0) pa_nil))) pa_nil))) (pe_callTy call_list_of (by rfl) L.li boot_li (pa_cons (pe_slice sl_list (pv 2) (po_some (pv 6)) po_none) pa_nil)))
    have h5 : PS (XWq P w K mg base f cdv A outer s H XE) (stOf sWq 5) _ := ps_set (i := 7) scWq.nd rfl (.inl rfl) (pe_has L.pk (hr.mono (by decide)) (by rfl) (pa_cons (pv 0) (pa_cons (pe_lst (pa_cons (pv 7) (pa_cons (pv 7) (pa_cons (pv 7) (pa_cons pe_non (pa_cons pe_int (pa_cons pe_str (pa_cons pe_dnewK (pa_cons pe_bl (pa_cons pe_str pa_nil)))))))))) pa_nil)))
    have h6 : PS (XWq P w K mg base f cdv A outer s H XE) (stOf sWq 6) _ := ps_ret (pe_has L.sm (hr.mono (by decide)) (by rfl) (pa_cons (pe_has L.wn (hr.mono (by decide)) (by rfl) (pa_cons (pv 1) (pa_cons (pv 7) pa_nil))) (pa_cons (pe_lst (pa_cons (pe_tup (pa_cons pe_str (pa_cons (pv 7) pa_nil))) (pa_cons (pe_tup (pa_cons pe_str (pa_cons (pv 7) pa_nil))) pa_nil))) pa_nil)))
    have PP := PSs.of_eq bdWq (pss_cons h0 (pss_cons h1 (pss_cons h2 (pss_cons h3 (pss_cons h4 (pss_cons h5 (pss_one h6)))))))
    clear h0 h1 h2 h3 h4 h5 h6 rp
    refine ⟨_, PSs.nox PP, ?_⟩
    clear PP
    have m1 : l ∈ [l, li] := by simp
    have m2 : li ∈ [l, li] := by simp
    have nf : f0 ∉ [l, li] := by simp [nl, nli]
    have tp : Th (Hid [l, li] H) (.ref f0) (.list ds) := .lst (hid_of nf hf fun ps z => nomatch z) hys
    have l5 := hp.len
    have lz := loose_self hp
    have fD : fitD 2 (.list ds) = true := by
      show (decide (ds.length ≤ 1000) && ds.all (fitD 1)) = true
      rw [decide_eq_true (by omega), Bool.true_and]
      refine List.all_eq_true.mpr fun z hz => ?_
      have r := hp.row z hz
      rw [r.tu]
      show (decide ((its z).length ≤ 1000) && (its z).all (fitD 0)) = true
      have := r.len
      rw [decide_eq_true (by omega), Bool.true_and]
      refine List.all_eq_true.mpr fun y hy => ?_
      have := r.lf y hy
      cases y <;> first | rfl | cases this
    have sD : szD 2 (.list ds) ≤ 6 := by
      have e : ∀ z ∈ ds, szD 1 z ≤ 1 := fun z hz => by
        have r := hp.row z hz
        rw [r.tu]
        show 1 + ((its z).map (szD 0)).sum ≤ 1
        have : ((its z).map (szD 0)).sum = 0 := by
          have lf := r.lf
          generalize its z = ys at lf
          induction ys with
          | nil => rfl
          | cons y q ih =>
            rw [List.map_cons, List.sum_cons, ih fun u hu => lf u (List.mem_cons_of_mem _ hu)]
            have := lf y (List.mem_cons_self ..)
            cases y <;> first | rfl | cases this
        omega
      have h2 := sum_map_le (szD 1) (fun _ => 1) ds e
      have h3 : (ds.map fun _ => 1).sum = ds.length := by
        clear h2 e fD tp hys hp l5 lz
        induction ds with
        | nil => rfl
        | cons a r ih => simp; omega
      show 1 + (ds.map (szD 1)).sum ≤ 6
      omega
    obtain ⟨tl1, tm1⟩ := text_facts hp
    refine T3.par_intro (i := 3) (j := 4) ?_
    refine cons2_intro ?_
    refine ⟨.ref l, rfl, .ref f0, rfl, [l, li], l, li, c, .ref f0, .list ds, rfl, m1, m2, sp.ins, tp, fD, sp, by omega, fun G2 v d c2 e2 s2 b2 tv ld => ?_⟩
    have T2 := tabs_S hT sp e2
    have lp := ld_paper hp ld
    have okd := lp.okP hp
    have sh := lp.sh hp
    have tp2 := tp.ext (hid_S m1 m2 e2)
    refine ⟨.ref f0, rfl, .ref f0, .list ds, rfl, tp2.ext hid_up, rfl, lz.okP hp, lz.strs hp, by omega, fun G3 s3 => ⟨small4 2, fun t nt => ?_⟩⟩
    have z4 := same_new (o := .tup [.str "told", .str (textD (.list ds))]) nt
    have S4 := s3.trans z4
    have q4 := upd_same (H := G3) (a := t) (o := .tup [.str "told", .str (textD (.list ds))])
    generalize upd G3 t (.tup [.str "told", .str (textD (.list ds))]) = G4 at S4 q4 ⊢
    clear z4 nt s3 G3
    refine ⟨_, _, rfl, ?_⟩
    have T4 := T2.ext S4
    have s4 := s2.same S4
    have tv4 := tv.ext (hid_same S4)
    have tp4 := tp2.ext (hid_same S4)
    have E4 : ExtL l li H G4 := (ExtL.ofS e2).trans (.ofN (.of S4))
    obtain ⟨va, vxs, rfl, _, _⟩ := (tv4.ext hid_up).seq (K := K) lp.l
    clear tv T2 s2 S4 tp2 e2 tp
    obtain ⟨as, rd⟩ := th_rd (tv4.ext hid_up) sh.2.1
    have nosys : ∀ {as : List Addr}, PyData.hasDict d = true → sysModules ∉ as := fun h => by rw [sh.2.1] at h; cases h
    refine T3.set_intro (i := 5) ?_
    refine ⟨.ref va, rfl, va, d, as, rfl, rd, sh.1, nosys, sh.2.2.1, sh.2.2.2, ?_⟩
    refine T3.if_intro ?_
    have wr : WrOk p (.ref va) d "told" (.str (textD (.list ds))) := by
      refine ⟨okd, .inl ⟨lp.ok hp, ?_, rfl, ?_⟩⟩
      · rw [lp.text]
        omega
      · rw [lp.text]
    refine ⟨.bl p, rfl, .ref va, rfl, p, .ref va, d, _, _, rfl, tv4.ext (hid_less (S := []) fun b m => absurd m List.not_mem_nil), T4, wr, fun G5 F t1 t2 e5 T5 hF q1 q2 => ?_⟩
    have q5 := e5 _ _ q4 (fun ps z => nomatch z)
    refine ⟨.ref t, rfl, .ref t, rfl, small4 2, fun pp np => ?_⟩
    have z6 := same_new (o := .lst [.ref t, .ref t]) np
    have tT : ∀ {G : Hp} {a : Addr}, G a = some (.tup [.str "told", .str (textD (.list ds))]) → Th G (.ref a) (.tuple [.str "told", .str (textD (.list ds))]) := fun h => .tup h (.cons (.str _) (.cons (.str _) .nil))
    refine ⟨.ref F, .ref pp, .list [.tuple [.str "told", .str (textD (.list ds))], .tuple [.str "told", .str (textD (.list ds))]], rfl, .lst (z6 _ _ hF) (.cons (tT (z6 _ _ q1)) (.cons (tT (z6 _ _ q2)) .nil)), .lst upd_same (.cons (tT (z6 _ _ q5)) (.cons (tT (z6 _ _ q5)) .nil)), rfl, fun G6 s6 => ⟨true, rfl, iteF ?_⟩⟩
    have E6 := e5.trans (ExtN.of (z6.trans s6))
    have T6 := T5.ext (z6.trans s6)
    have s6' := s4.extN E6
    have tv6 := tv4.ext (hid_N E6)
    have tp6 := tp4.ext (hid_N E6)
    have EL6 := E4.trans (.ofN E6)
    clear tv4 tp4 T4 T5 s4 q4 q5 E4 e5 z6 s6 np hF q1 q2 E6 rd
    obtain ⟨as, rd⟩ := th_rd (tv6.ext hid_up) sh.2.1
    refine ⟨.ref va, rfl, va, d, as, rfl, rd, sh.1, nosys, sh.2.2.1, sh.2.2.2, .str d.shown, rfl, rfl, _, rfl, ?_⟩
    rw [decide_eq_true rfl]
    refine iteF ?_
    cases tp6 with
    | @lst _ ys6 _ h6 r6 =>
    have hf6 := hid_up _ _ h6
    have ly6 : ys6.length = ds.length := r6.length
    refine next_intro (nx_intro (T3.set_intro (i := 6) ?_))
    refine ⟨.ref l, rfl, .ref f0, rfl, f0, ys6, rfl, .inl (.inl (.inl hf6)), _, 1, rfl, rfl, l, li, c2, _, rfl, s6', by omega, by omega, by omega, fun G7 at_ e7 s7 a0 a1 => ?_⟩
    have hf7 := e7 _ _ hf6 nl nli
    have r7 := r6.ext (hid_S m1 m2 e7)
    have T7 := tabs_S T6 s6' e7
    have EL7 := EL6.trans (.ofS e7)
    obtain ⟨n, rfl⟩ : ∃ n : Nat, at_ = (n : Nat) := ⟨at_.toNat, by omega⟩
    have hn : n ≤ ds.length := by omega
    clear h6 hf6 r6 e7 T6 s6' tv6 EL6 rd
    refine T3.set_intro (i := 7) ?_
    refine ⟨.ref f0, rfl, .int _, rfl, _, rfl, f0, ys6, rfl, .inl (.inl hf7), fun p1 np1 => ?_⟩
    rw [cut_takeA]
    have z1 := same_new (o := .lst (ys6.take n)) np1
    refine ⟨p1, ys6.take n, rfl, .inl (.inl (.inl upd_same)), fun p2 np2 => ?_⟩
    have z2 := same_new (o := .lst (ys6.take n)) np2
    have S2 := z1.trans z2
    have h2 := upd_same (H := upd G7 p1 (.lst (ys6.take n))) (a := p2) (o := .lst (ys6.take n))
    have n2 := (s7.same z1).new np2
    generalize upd (upd G7 p1 (.lst (ys6.take n))) p2 (.lst (ys6.take n)) = A2 at S2 h2 ⊢
    clear z1 z2 np1 np2
    have s2 := s7.same S2
    refine lst_intro ?_
    refine ⟨.ref l, rfl, [l, li], rfl, s2.ins, fun A3 r s3 tr => ?_⟩
    cases tr with
    | @lst _ xs _ hr3 rr =>
    have S3 := S2.trans s3
    obtain ⟨rn, hr3', _⟩ := hid_at hr3
    have lo : xs.length = odds.length := rr.length
    have lo2 : 0 < odds.length ∧ odds.length ≤ 100 := by decide +kernel
    refine ⟨l, li, r, c2 + 1, xs, rfl, s7.same S3, hr3', fun z => rn (by rw [z]; exact m1), fun z => rn (by rw [z]; exact m2), by omega, by omega, by omega, fun A4 x e4 s4 mx => ?_⟩
    obtain ⟨z, hz, tz⟩ := thAll_mem rr mx
    have tz4 := tz.ext (hid_S m1 m2 e4)
    have hf4 := e4 _ _ (S3 _ _ hf7) nl nli
    have h24 := e4 _ _ (s3 _ _ h2) n2.1 n2.2
    have r4 := (r7.ext (hid_same S3)).ext (hid_S m1 m2 e4)
    have T4 := tabs_S (T7.ext S3) (s7.same S3) e4
    have EL4 := (EL7.trans (.ofN (.of S3))).trans (.ofS e4)
    clear hr3 hr3' rn rr mx tz S3 s3 S2 h2 s2 e4 r7 T7 EL7 hf7 lo n2
    refine ⟨small4 1, fun p3 np3 => ?_⟩
    have z3 := same_new (o := .lst [x]) np3
    refine ⟨p2, p3, _, _, rfl, rfl, z3 _ _ h24, upd_same, by rw [List.length_take, sizeLine_eq]; simp only [List.length_cons, List.length_nil]; omega, fun p4 np4 => ?_⟩
    have z4 := same_new (o := .lst (ys6.take n ++ [x])) np4
    have S4 := z3.trans z4
    have h4 := upd_same (H := upd A4 p3 (.lst [x])) (a := p4) (o := .lst (ys6.take n ++ [x]))
    generalize upd (upd A4 p3 (.lst [x])) p4 (.lst (ys6.take n ++ [x])) = A6 at S4 h4 ⊢
    clear z3 z4 np3 np4
    refine ⟨.ref f0, rfl, .int _, rfl, _, rfl, f0, ys6, rfl, .inl (.inl (S4 _ _ hf4)), fun p5 np5 => ?_⟩
    rw [cutV_drop (by omega)]
    have z5 := same_new (o := .lst (ys6.drop n)) np5
    refine ⟨p5, ys6.drop n, rfl, .inl (.inl (.inl upd_same)), fun p6 np6 => ?_⟩
    have z6 := same_new (o := .lst (ys6.drop n)) np6
    refine ⟨p4, p6, _, _, rfl, rfl, z6 _ _ (z5 _ _ h4), upd_same, by rw [List.length_append, List.length_take, List.length_drop, sizeLine_eq]; simp only [List.length_cons, List.length_nil]; omega, fun p7 np7 => ?_⟩
    have z7 := same_new (o := .lst ((ys6.take n ++ [x]) ++ ys6.drop n)) np7
    have S7 := S4.trans (z5.trans (z6.trans z7))
    have n7 : p7 ∉ [l, li] := ((s4.same (S4.trans (z5.trans z6))).ins).new np7
    have h7 := upd_same (H := upd (upd A6 p5 (.lst (ys6.drop n))) p6 (.lst (ys6.drop n))) (a := p7) (o := .lst ((ys6.take n ++ [x]) ++ ys6.drop n))
    generalize upd (upd (upd A6 p5 (.lst (ys6.drop n))) p6 (.lst (ys6.drop n))) p7 (.lst ((ys6.take n ++ [x]) ++ ys6.drop n)) = A7 at S7 n7 h7 ⊢
    clear z5 z6 z7 np5 np6 np7 S4 h4
    have tb : Th (Hid [l, li] A7) (.ref p7) (.list ((ds.take n ++ [z]) ++ ds.drop n)) := by
      refine .lst (hid_of n7 h7 fun ps z => nomatch z) ?_
      refine ThAll.ext (hid_same S7) ?_
      exact th_app (th_app (thAll_take r4) (.cons tz4 .nil)) (thAll_drop r4)
    have bad := bad_odd (p := p) (n := n) hp hz
    have s7' := s4.same S7
    have T7 := T4.ext S7
    have EL7 := EL4.trans (.ofN (.of S7))
    clear h7 n7 S7 EL4 T4 s4 r4 tz4 hf4 h24 hz s7
    generalize (PyData.list ((ds.take n ++ [z]) ++ ds.drop n)) = dB at tb bad
    refine T3.set_intro (i := 7) ?_
    have gB : ∀ {σ : L2.St}, σ[7]? = some (some (.ref p7)) → Gv [l, li] σ A7 (tVar 7) dB := fun h => gv_var h tb
    refine T3.pick_gv (zs := [dB, dB, dB] ++ elseD) rfl (gv_lst (gva_cons (gB rfl) (gva_cons (gB rfl) (gva_cons (gB rfl) (gva_cons gv_non (gva_cons gv_int (gva_cons gv_str (gva_cons gv_dict (gva_cons gv_bl (gva_cons gv_str gva_nil))))))))) (Nat.le_of_ble_eq_true rfl)) (fun _ _ e => e) s7'.ins m1 m2 s7' (Nat.le_of_ble_eq_true rfl) (Nat.le_of_ble_eq_true rfl) (by omega) fun A8 x8 z8 e8 s8 hz8 t8 => ?_
    have bad8 : BadP p z8 := by
      rcases List.mem_append.mp hz8 with h | h
      · simp only [List.mem_cons, List.not_mem_nil, or_false] at h
        rcases h with rfl | rfl | rfl <;> exact bad
      · exact bad_else h
    have T8 := tabs_S T7 s7' e8
    have EL8 := EL7.trans (.ofS e8)
    clear gB hz8 bad tb s7' e8 EL7 T7
    refine ret_intro ?_
    refine ⟨.bl p, rfl, x8, rfl, p, x8, z8, "form", x8, rfl, t8.ext (hid_less (S := []) fun b m => absurd m List.not_mem_nil), T8, ⟨bad8.k, .inr ⟨bad8.b, rfl, rfl⟩⟩, fun A9 F9 u1 u2 e9 T9 hF9 q1 q2 => ?_⟩
    have t9 := t8.ext (hid_N e9)
    have tT : ∀ {G : Hp} {a : Addr}, Th G x8 z8 → G a = some (.tup [.str "form", x8]) → Th G (.ref a) (.tuple [.str "form", z8]) := fun t h => .tup h (.cons (.str _) (.cons t .nil))
    refine ⟨x8, rfl, small4 2, fun u3 n3 => ⟨x8, rfl, small4 2, fun u4 n4 => ⟨small4 2, fun u5 n5 => ?_⟩⟩⟩
    have y3 := same_new (o := .tup [.str "form", x8]) n3
    have y4 := same_new (o := .tup [.str "form", x8]) n4
    have y5 := same_new (o := .lst [.ref u3, .ref u4]) n5
    have Y := y3.trans (y4.trans y5)
    have tx := (t9.ext hid_up).ext Y
    have w3 := (y4.trans y5) _ _ (upd_same (H := A9) (a := u3) (o := .tup [.str "form", x8]))
    have w4 := y5 _ _ (upd_same (H := upd A9 u3 (.tup [.str "form", x8])) (a := u4) (o := .tup [.str "form", x8]))
    have f8 : fitS 6 (.list [.tuple [.str "form", z8], .tuple [.str "form", z8]]) = true := by
      have h4 := bad8.f
      show (decide (2 ≤ 1000) && ((decide (2 ≤ 1000) && (fitS 4 (.str "form") && (fitS 4 z8 && true))) && ((decide (2 ≤ 1000) && (fitS 4 (.str "form") && (fitS 4 z8 && true))) && true))) = true
      rw [h4]
      rfl
    refine ⟨.ref F9, .ref u5, .list [.tuple [.str "form", z8], .tuple [.str "form", z8]], rfl, .lst (Y _ _ hF9) (.cons (tT tx (Y _ _ q1)) (.cons (tT tx (Y _ _ q2)) .nil)), .lst upd_same (.cons (tT tx w3) (.cons (tT tx w4) .nil)), f8, fun B s => ?_⟩
    exact k B _ (EL8.trans (.ofN (e9.trans (.of (Y.trans s))))) ((s8.extN e9).same (Y.trans s)) (by omega) (T9.ext (Y.trans s))
end
end K14.T69
namespace K14.T69
open T27 T3
open K14.Gn
open PySem PySem.W PySem.Calls PyProof.Rows L2 LamX
open He (ga)
open SX (S)
open TL (tl pre joinL)
open Kz (SS ExtS ExtS.trans small4 same_new boot_in boot_li boot_isi Has pe_has noE PSs.of_eq new_ext X1 HasG pe_hasG FnG call_repr boot_rp)
/-! ### _law_written_texts -/
abbrev sWx : Stmt := topS 70
theorem scWx : FnScope ["courses", "steps"] [] (defScope sWx) := ⟨rfl, rfl, rfl, by decide +kernel, rfl, by decide +kernel, by decide +kernel⟩
theorem bdWx : defBody sWx = [stOf sWx 0, stOf sWx 1, stOf sWx 2, stOf sWx 3, stOf sWx 4, stOf sWx 5, stOf sWx 6, stOf sWx 7, stOf sWx 8, stOf sWx 9] := by rfl
def dN (s : Str) : PyData := .tuple [.str s, .none]
def dI (s : Str) (i : Int) : PyData := .tuple [.str s, .int i]
abbrev eN (s : Str) : TE := te2 (cS s) (tC .non)
abbrev eI (s : Str) (i : Int) : TE := te2 (cS s) (cI i)
def wA : List PyData := [dN "", dI "0" 1, dI "0 " 2, dI "0 0" 2, dN "0 1\n", dI "5 3" 3, dI "5 3\n" 3, dN "5 10\n"]
def wB : List PyData := [dI "00" 1, dI "0 01" 2, dI "0 1 " 3, dI "0 1 2" 3, dI "999999999" 8]
def wC : List PyData := [dN "999999998 999999999\n"]
def wD1 : List PyData := [dI "0 1\n\n" 4, dI "0\n" 1, dI "1 1\n" 3, dI "a" 0, dI "-1" 0, dI "1  2" 2, dI "1234567890" 9]
def wD2 : List PyData := [dI "999999998 99999999" 18, dI "999999998 999999998" 18, dI "8 9\n9 8\n" 7, dI " 0 1" 0]
def wE : List PyData := [dN "", dI "g" 1, dI "grow" 4, dI "grow z" 5, dI "grow x" 6, dN "grow x a\n", dI "grow x a b" 8]
def wF : List PyData := [dI "shrink 03" 8, dN "shrink 3\n", dI "shrink 3 " 8, dN "turn 0\nloop\nunloop\n"]
def wF2 : List PyData := [dI "un" 2, dI "loop " 4, dI "loop" 4, dI "grow x x\n" 8, dI "grow x shut\n" 11]
def wG : List PyData := [dI "grow x ninesigns" 15]
def wH : List PyData := [dI "turn 1234567890" 14, dI "grow xx" 6, dI "grow x\n" 6, dI "turn\n" 4, dI "\n" 0]
abbrev twA : TA := tCons (eN "") (tCons (eI "0" 1) (tCons (eI "0 " 2) (tCons (eI "0 0" 2) (tCons (eN "0 1\n") (tCons (eI "5 3" 3) (tCons (eI "5 3\n" 3) (tCons (eN "5 10\n") tNil)))))))
abbrev twB : TA := tCons (eI "00" 1) (tCons (eI "0 01" 2) (tCons (eI "0 1 " 3) (tCons (eI "0 1 2" 3) (tCons (eI "999999999" 8) tNil))))
abbrev twD1 : TA := tCons (eI "0 1\n\n" 4) (tCons (eI "0\n" 1) (tCons (eI "1 1\n" 3) (tCons (eI "a" 0) (tCons (eI "-1" 0) (tCons (eI "1  2" 2) (tCons (eI "1234567890" 9) tNil))))))
abbrev twD2 : TA := tCons (eI "999999998 99999999" 18) (tCons (eI "999999998 999999998" 18) (tCons (eI "8 9\n9 8\n" 7) (tCons (eI " 0 1" 0) tNil)))
abbrev twE : TA := tCons (eN "") (tCons (eI "g" 1) (tCons (eI "grow" 4) (tCons (eI "grow z" 5) (tCons (eI "grow x" 6) (tCons (eN "grow x a\n") (tCons (eI "grow x a b" 8) tNil))))))
abbrev twF : TA := tCons (eI "shrink 03" 8) (tCons (eN "shrink 3\n") (tCons (eI "shrink 3 " 8) (tCons (eN "turn 0\nloop\nunloop\n") tNil)))
abbrev twF2 : TA := tCons (eI "un" 2) (tCons (eI "loop " 4) (tCons (eI "loop" 4) (tCons (eI "grow x x\n" 8) (tCons (eI "grow x shut\n" 11) tNil))))
abbrev twH : TA := tCons (eI "turn 1234567890" 14) (tCons (eI "grow xx" 6) (tCons (eI "grow x\n" 6) (tCons (eI "turn\n" 4) (tCons (eI "\n" 0) tNil))))
section
variable {S : List Addr} {σ : L2.St} {H0 : Hp}
theorem gva_wA : GvA S σ H0 twA wA := gva_cons (gv2 gv_str gv_non) (gva_cons (gv2 gv_str gv_int) (gva_cons (gv2 gv_str gv_int) (gva_cons (gv2 gv_str gv_int) (gva_cons (gv2 gv_str gv_non) (gva_cons (gv2 gv_str gv_int) (gva_cons (gv2 gv_str gv_int) (gva_cons (gv2 gv_str gv_non) gva_nil)))))))
theorem gva_wB : GvA S σ H0 twB wB := gva_cons (gv2 gv_str gv_int) (gva_cons (gv2 gv_str gv_int) (gva_cons (gv2 gv_str gv_int) (gva_cons (gv2 gv_str gv_int) (gva_cons (gv2 gv_str gv_int) gva_nil))))
theorem gva_wD1 : GvA S σ H0 twD1 wD1 := gva_cons (gv2 gv_str gv_int) (gva_cons (gv2 gv_str gv_int) (gva_cons (gv2 gv_str gv_int) (gva_cons (gv2 gv_str gv_int) (gva_cons (gv2 gv_str gv_int) (gva_cons (gv2 gv_str gv_int) (gva_cons (gv2 gv_str gv_int) gva_nil))))))
theorem gva_wD2 : GvA S σ H0 twD2 wD2 := gva_cons (gv2 gv_str gv_int) (gva_cons (gv2 gv_str gv_int) (gva_cons (gv2 gv_str gv_int) (gva_cons (gv2 gv_str gv_int) gva_nil)))
theorem gva_wE : GvA S σ H0 twE wE := gva_cons (gv2 gv_str gv_non) (gva_cons (gv2 gv_str gv_int) (gva_cons (gv2 gv_str gv_int) (gva_cons (gv2 gv_str gv_int) (gva_cons (gv2 gv_str gv_int) (gva_cons (gv2 gv_str gv_non) (gva_cons (gv2 gv_str gv_int) gva_nil))))))
theorem gva_wF : GvA S σ H0 twF wF := gva_cons (gv2 gv_str gv_int) (gva_cons (gv2 gv_str gv_non) (gva_cons (gv2 gv_str gv_int) (gva_cons (gv2 gv_str gv_non) gva_nil)))
theorem gva_wF2 : GvA S σ H0 twF2 wF2 := gva_cons (gv2 gv_str gv_int) (gva_cons (gv2 gv_str gv_int) (gva_cons (gv2 gv_str gv_int) (gva_cons (gv2 gv_str gv_int) (gva_cons (gv2 gv_str gv_int) gva_nil))))
theorem gva_wH : GvA S σ H0 twH wH := gva_cons (gv2 gv_str gv_int) (gva_cons (gv2 gv_str gv_int) (gva_cons (gv2 gv_str gv_int) (gva_cons (gv2 gv_str gv_int) (gva_cons (gv2 gv_str gv_int) gva_nil))))
end

def crs : List PyData := (((wA ++ wB) ++ wC) ++ wD1) ++ wD2
def sts : List PyData := (((wE ++ wF) ++ wF2) ++ wG) ++ wH
theorem app1_step {K : Frag} {S : List Addr} {i : Nat} {f : Addr} {xs : List V} {ds : List PyData} {d : PyData} {σ : L2.St} {G : Hp} {te : TE} {D : Ends} (hi : σ[i]? = some (some (.ref f))) (hf : G f = some (.lst xs)) (tx : ThAll (Hid (f :: S) G) xs ds) (ins : Ins (f :: S) G) (g : Gv (f :: S) σ G te d) (l1 : ds.length ≤ 100)
    (k : ∀ (G' : Hp) (ys : List V), (∀ b o, G b = some o → b ≠ f → G' b = some o) → G' f = some (.lst ys) → ThAll (Hid (f :: S) G') ys (ds ++ [d]) → Ins (f :: S) G' → D.nx σ G') : tDrop (tBM K "list" rAppend (tVar i) (tCons te tNil)) D σ G := by
  refine ⟨.ref f, hi, .inl ⟨rfl, _, .inl (.inl hf)⟩, g G _ (fun _ _ e => e) ins fun G1 v s1 t1 => ?_⟩
  have mf : f ∈ f :: S := List.mem_cons_self
  refine ⟨f, xs, v, rfl, rfl, s1 _ _ hf, by rw [tx.length, sizeLine_eq]; omega, ?_⟩
  refine k _ (xs ++ [v]) (fun b o e nb => by rw [upd_ne nb]; exact s1 _ _ e) upd_same (th_app ((tx.ext (hid_same s1)).ext (hid_upd mf)) (.cons (t1.ext (hid_upd mf)) .nil)) fun b m => ?_
  by_cases e : b = f
  · rw [e]
    exact ⟨_, upd_same⟩
  · obtain ⟨o, ho⟩ := ins b m
    exact ⟨o, by rw [upd_ne e]; exact s1 _ _ ho⟩
theorem disp_step {S : List Addr} {i : Nat} {ta : TA} {ds : List PyData} {u : TS} {D : Ends} {σ : L2.St} {G : Hp} (g : GvA S σ G ta ds) (ins : Ins S G) (l : ds.length ≤ 100)
    (k : ∀ (G' : Hp) (f : Addr) (xs : List V), L2.Same G G' → G f = none → f ∉ S → G' f = some (.lst xs) → ThAll (Hid (f :: S) G') xs ds → Ins (f :: S) G' → u D (List.set σ i (some (.ref f))) G') : tSeq (tAsg (tLst ta) (gName i)) u D σ G := by
  refine T3.set_intro ?_
  refine lst_intro ?_
  refine g G _ (fun _ _ e => e) ins fun H1 xs s1 t1 => ⟨by rw [t1.length, sizeLine_eq]; omega, fun f0 nf => ?_⟩
  have insH1 : Ins S H1 := ins.same s1
  refine k _ f0 xs (s1.trans (same_new nf)) (s1.free nf) (insH1.new nf) upd_same ?_ ((insH1.same (same_new nf)).cons upd_same)
  exact t1.ext fun b o h => by
    obtain ⟨h1, h2, h3⟩ := hid_at h
    have nb : b ≠ f0 := ne_of_none h2 nf
    exact hid_of (fun m => (List.mem_cons.mp m).elim nb h1) (by rw [upd_ne nb]; exact h2) h3
section
variable {P : Program} {w : World} {K : Frag} {mg : Str → Option Value} {base : Heap}
def spWx : Sp := fun vs H Q _ => ∃ S : List Addr, vs = [] ∧ Ins S H ∧ ∀ (H' : Hp) (r : Addr), L2.Same H H' → Th (Hid S H') (.ref r) (.tuple [.list crs, .list sts]) → Q (.ref r) H'
theorem ok_wx {f : Addr} {fd : FuncData} (F : FunD K "_law_written_texts" "_law_written_texts" (defArgs sWx) (defBody sWx) (defScope sWx) [] [] f fd) : FnOk P w K mg base CX0 1 f fd [] spWx := by
  refine F.ok scWx (fun vs H Q E h => ?_) (fun cdv A outer s H vs Q XE hr h => ?_)
  · obtain ⟨S, rfl, _⟩ := h
    rfl
  · obtain ⟨S, rfl, ins, k⟩ := h
    have h0 : PS (XCo P w K mg base ["courses", "steps"] "_law_written_texts" sWx f cdv A outer s H XE) (stOf sWx 0) _ := ps_set (i := 0) scWx.nd rfl (.inl rfl) (pe_lst (pa_cons (pe_tup (pa_cons pe_str (pa_cons pe_non pa_nil))) (pa_cons (pe_tup (pa_cons pe_str (pa_cons pe_int pa_nil))) (pa_cons (pe_tup (pa_cons pe_str (pa_cons pe_int pa_nil))) (pa_cons (pe_tup (pa_cons pe_str (pa_cons pe_int pa_nil))) (pa_cons (pe_tup (pa_cons pe_str (pa_cons pe_non pa_nil))) (pa_cons (pe_tup (pa_cons pe_str (pa_cons pe_int pa_nil))) (pa_cons (pe_tup (pa_cons pe_str (pa_cons pe_int pa_nil))) (pa_cons (pe_tup (pa_cons pe_str (pa_cons pe_non pa_nil))) pa_nil)))))))))
    have h1 : PS (XCo P w K mg base ["courses", "steps"] "_law_written_texts" sWx f cdv A outer s H XE) (stOf sWx 1) _ := ps_expr (pe_bm PySem.F.plainAttrs_list PySem.F.slot_list_extend PySem.F.type_list_extend mt_extend (pv 0) (pa_cons (pe_lst (pa_cons (pe_tup (pa_cons pe_str (pa_cons pe_int pa_nil))) (pa_cons (pe_tup (pa_cons pe_str (pa_cons pe_int pa_nil))) (pa_cons (pe_tup (pa_cons pe_str (pa_cons pe_int pa_nil))) (pa_cons (pe_tup (pa_cons pe_str (pa_cons pe_int pa_nil))) (pa_cons (pe_tup (pa_cons pe_str (pa_cons pe_int pa_nil))) pa_nil)))))) pa_nil))
    have h2 : PS (XCo P w K mg base ["courses", "steps"] "_law_written_texts" sWx f cdv A outer s H XE) (stOf sWx 2) _ := ps_expr (pe_bm PySem.F.plainAttrs_list PySem.F.slot_list_append PySem.F.type_list_append mt_append (pv 0) (pa_cons (pe_tup (pa_cons pe_str (pa_cons pe_non pa_nil))) pa_nil))
    have h3 : PS (XCo P w K mg base ["courses", "steps"] "_law_written_texts" sWx f cdv A outer s H XE) (stOf sWx 3) _ := ps_expr (pe_bm PySem.F.plainAttrs_list PySem.F.slot_list_extend PySem.F.type_list_extend mt_extend (pv 0) (pa_cons (pe_lst (pa_cons (pe_tup (pa_cons pe_str (pa_cons pe_int pa_nil))) (pa_cons (pe_tup (pa_cons pe_str (pa_cons pe_int pa_nil))) (pa_cons (pe_tup (pa_cons pe_str (pa_cons pe_int pa_nil))) (pa_cons (pe_tup (pa_cons pe_str (pa_cons pe_int pa_nil))) (pa_cons (pe_tup (pa_cons pe_str (pa_cons pe_int pa_nil))) (pa_cons (pe_tup (pa_cons pe_str (pa_cons pe_int pa_nil))) (pa_cons (pe_tup (pa_cons pe_str (pa_cons pe_int pa_nil))) pa_nil)))))))) pa_nil))
    have h4 : PS (XCo P w K mg base ["courses", "steps"] "_law_written_texts" sWx f cdv A outer s H XE) (stOf sWx 4) _ := ps_expr (pe_bm PySem.F.plainAttrs_list PySem.F.slot_list_extend PySem.F.type_list_extend mt_extend (pv 0) (pa_cons (pe_lst (pa_cons (pe_tup (pa_cons pe_str (pa_cons pe_int pa_nil))) (pa_cons (pe_tup (pa_cons pe_str (pa_cons pe_int pa_nil))) (pa_cons (pe_tup (pa_cons pe_str (pa_cons pe_int pa_nil))) (pa_cons (pe_tup (pa_cons pe_str (pa_cons pe_int pa_nil))) pa_nil))))) pa_nil))
    have h5 : PS (XCo P w K mg base ["courses", "steps"] "_law_written_texts" sWx f cdv A outer s H XE) (stOf sWx 5) _ := ps_set (i := 1) scWx.nd rfl (.inl rfl) (pe_lst (pa_cons (pe_tup (pa_cons pe_str (pa_cons pe_non pa_nil))) (pa_cons (pe_tup (pa_cons pe_str (pa_cons pe_int pa_nil))) (pa_cons (pe_tup (pa_cons pe_str (pa_cons pe_int pa_nil))) (pa_cons (pe_tup (pa_cons pe_str (pa_cons pe_int pa_nil))) (pa_cons (pe_tup (pa_cons pe_str (pa_cons pe_int pa_nil))) (pa_cons (pe_tup (pa_cons pe_str (pa_cons pe_non pa_nil))) (pa_cons (pe_tup (pa_cons pe_str (pa_cons pe_int pa_nil))) pa_nil))))))))
    have h6 : PS (XCo P w K mg base ["courses", "steps"] "_law_written_texts" sWx f cdv A outer s H XE) (stOf sWx 6) _ := ps_expr (pe_bm PySem.F.plainAttrs_list PySem.F.slot_list_extend PySem.F.type_list_extend mt_extend (pv 1) (pa_cons (pe_lst (pa_cons (pe_tup (pa_cons pe_str (pa_cons pe_int pa_nil))) (pa_cons (pe_tup (pa_cons pe_str (pa_cons pe_non pa_nil))) (pa_cons (pe_tup (pa_cons pe_str (pa_cons pe_int pa_nil))) (pa_cons (pe_tup (pa_cons pe_str (pa_cons pe_non pa_nil))) pa_nil))))) pa_nil))
    have h7 : PS (XCo P w K mg base ["courses", "steps"] "_law_written_texts" sWx f cdv A outer s H XE) (stOf sWx 7) _ := ps_expr (pe_bm PySem.F.plainAttrs_list PySem.F.slot_list_extend PySem.F.type_list_extend mt_extend (pv 1) (pa_cons (pe_lst (pa_cons (pe_tup (pa_cons pe_str (pa_cons pe_int pa_nil))) (pa_cons (pe_tup (pa_cons pe_str (pa_cons pe_int pa_nil))) (pa_cons (pe_tup (pa_cons pe_str (pa_cons pe_int pa_nil))) (pa_cons (pe_tup (pa_cons pe_str (pa_cons pe_int pa_nil))) (pa_cons (pe_tup (pa_cons pe_str (pa_cons pe_int pa_nil))) pa_nil)))))) pa_nil))
    have h8 : PS (XCo P w K mg base ["courses", "steps"] "_law_written_texts" sWx f cdv A outer s H XE) (stOf sWx 8) _ := ps_expr (pe_bm PySem.F.plainAttrs_list PySem.F.slot_list_append PySem.F.type_list_append mt_append (pv 1) (pa_cons (pe_tup (pa_cons pe_str (pa_cons pe_int pa_nil))) pa_nil))
    have h9 : PS (XCo P w K mg base ["courses", "steps"] "_law_written_texts" sWx f cdv A outer s H XE) (stOf sWx 9) _ := ps_ret (pe_tup (pa_cons (pv 0) (pa_cons (pe_op op_cat (pv 1) (pe_lst (pa_cons (pe_tup (pa_cons pe_str (pa_cons pe_int pa_nil))) (pa_cons (pe_tup (pa_cons pe_str (pa_cons pe_int pa_nil))) (pa_cons (pe_tup (pa_cons pe_str (pa_cons pe_int pa_nil))) (pa_cons (pe_tup (pa_cons pe_str (pa_cons pe_int pa_nil))) (pa_cons (pe_tup (pa_cons pe_str (pa_cons pe_int pa_nil))) pa_nil))))))) pa_nil)))
    have PP := PSs.of_eq bdWx (pss_cons h0 (pss_cons h1 (pss_cons h2 (pss_cons h3 (pss_cons h4 (pss_cons h5 (pss_cons h6 (pss_cons h7 (pss_cons h8 (pss_one h9))))))))))
    clear h0 h1 h2 h3 h4 h5 h6 h7 h8 h9
    refine ⟨_, PSs.nox PP, ?_⟩
    clear PP
    refine disp_step (i := 0) (ta := twA) gva_wA ins (by decide) ?_
    refine fun G1 f0 y1 s1 n0 nS h1 t1 i1 => ?_
    have kp : ∀ {G G' : Hp}, L2.Same H G → (∀ b o, G b = some o → b ≠ f0 → G' b = some o) → L2.Same H G' := fun s e b o h => e _ _ (s _ _ h) (ne_of_none h n0)
    refine dropS ?_
    refine ext_step (te := tLst twB) rfl h1 t1 i1 (gv_lst gva_wB (by decide)) (by decide) (by decide) ?_
    refine fun G2 y2 e2 h2 t2 i2 => nx_intro (dropS ?_)
    refine app1_step rfl h2 t2 i2 (gv2 gv_str gv_non) (by decide) ?_
    refine fun G3 y3 e3 h3 t3 i3 => nx_intro (dropS ?_)
    refine ext_step (te := tLst twD1) rfl h3 t3 i3 (gv_lst gva_wD1 (by decide)) (by decide) (by decide) ?_
    refine fun G4 y4 e4 h4 t4 i4 => nx_intro (dropS ?_)
    refine ext_step (te := tLst twD2) rfl h4 t4 i4 (gv_lst gva_wD2 (by decide)) (by decide) (by decide) ?_
    refine fun G5 y5 e5 h5 t5 i5 => nx_intro ?_
    have S5 := kp (kp (kp (kp s1 e2) e3) e4) e5
    clear e2 e3 e4 e5 h1 h2 h3 h4 t1 t2 t3 t4 i1 i2 i3 i4 s1 kp
    refine disp_step (i := 1) (ta := twE) gva_wE i5 (by decide) ?_
    refine fun G6 f1 z1 s6 n1 nS1 h1 t1 i1 => ?_
    have kp : ∀ {G G' : Hp}, L2.Same G5 G → (∀ b o, G b = some o → b ≠ f1 → G' b = some o) → L2.Same G5 G' := fun s e b o h => e _ _ (s _ _ h) (ne_of_none h n1)
    refine dropS ?_
    refine ext_step (te := tLst twF) rfl h1 t1 i1 (gv_lst gva_wF (by decide)) (by decide) (by decide) ?_
    refine fun G7 z2 e2 h2 t2 i2 => nx_intro (dropS ?_)
    refine ext_step (te := tLst twF2) rfl h2 t2 i2 (gv_lst gva_wF2 (by decide)) (by decide) (by decide) ?_
    refine fun G8 z3 e3 h3 t3 i3 => nx_intro (dropS ?_)
    refine app1_step rfl h3 t3 i3 (gv2 gv_str gv_int) (by decide) ?_
    refine fun G9 z4 e4 h4 t4 i4 => nx_intro (ret_intro ?_)
    have S9 := kp (kp (kp s6 e2) e3) e4
    clear e2 e3 e4 h1 h2 h3 t1 t2 t3 i1 i2 i3 s6 kp
    refine ⟨.ref f0, rfl, .ref f1, rfl, ?_⟩
    refine gv_lst (gva_wH (S := f1 :: f0 :: S)) (by decide) G9 _ (fun _ _ e => e) i4 ?_
    refine fun GA v sA tA => ?_
    cases tA with
    | @lst b zs _ hb rA =>
      refine ⟨f1, b, z4, zs, rfl, rfl, sA _ _ h4, hid_up _ _ hb, by rw [t4.length, rA.length]; exact small4 22, fun r nr => ⟨small4 2, fun p np => ?_⟩⟩
      have yr := same_new (o := .lst (z4 ++ zs)) nr
      have yp := same_new (o := .tup [.ref f0, .ref r]) np
      have Sall := S5.trans (S9.trans sA)
      have Y := yr.trans yp
      have insG := ins.same Sall
      have less : ∀ {S' : List Addr}, (∀ b ∈ S, b ∈ S') → L2.Same (Hid S' GA) (Hid S (upd (upd GA r (.lst (z4 ++ zs))) p (.tup [.ref f0, .ref r]))) := fun m b o h => by
        obtain ⟨h1, h2, h3⟩ := hid_at h
        exact hid_of (fun q => h1 (m _ q)) (Y _ _ h2) h3
      refine k _ p (Sall.trans Y) (.tup (hid_of ((insG.same yr).new np) upd_same fun ps z => nomatch z) (.cons (.lst (hid_of nS (Y _ _ (sA _ _ (S9 _ _ h5))) fun ps z => nomatch z) ?_) (.cons (.lst (hid_of (insG.new nr) (yp _ _ upd_same) fun ps z => nomatch z) ?_) .nil)))
      · have := t5.ext (hid_same (S := f0 :: S) (S9.trans sA))
        exact this.ext (less fun b m => List.mem_cons_of_mem _ m)
      · exact th_app ((t4.ext (hid_same sA)).ext (less fun b m => List.mem_cons_of_mem _ (List.mem_cons_of_mem _ m))) (rA.ext (less fun b m => List.mem_cons_of_mem _ (List.mem_cons_of_mem _ m)))
end
end K14.T69
namespace K14.Gn
open PySem PySem.W PySem.Calls PyProof.Rows L2 LamX
open Kz (FnG same_new)
theorem fn_ofG {CX : CXT} {P : Program} {w : World} {K : PySem.W.Frag} {mg : Str → Option Value} {base : Heap} {k : Nat} {f : Addr} {name qual : Str} {params : Arguments} {body : List Stmt} {scope : Scope} {dV kV doc pm cdv ct oc : Value} {an od : Option Addr}
    {osl : Array (Option Value)} {N ps : List Str} {sp : Sp} (lk : K.lookup f = some ⟨oc, od, .func (PySem.W.fnOf name qual params body scope dV kV doc pm an cdv ct), osl⟩) (hcd : PySem.W.codeIn K cdv qual = true) (S : FnScope N ps scope)
    (len : ∀ vs H Q E, sp vs H Q E → vs.length = ps.length)
    (hbody : ∀ (A : Around) (outer : List Env) (s : Shared) (H : Hp) (vs : List V) (Q : VK) (E : XK), (A.deeper (envOfC qual scope s.heap.objs.size f cdv)).guards = some [] → Room k (A.deeper (envOfC qual scope s.heap.objs.size f cdv)) → sp vs H Q E →
      ∃ t, PSs (cxOf CX P w K mg base N qual scope f cdv A outer s H E) body t ∧ t { nx := fun _ H' => Q .non H', rt := Q } (start N vs) H) :
    FnG P w K mg base CX (k + 1) f (PySem.W.fnOf name qual params body scope dV kV doc pm an cdv ct) ps sp :=
  ⟨len, fun A outer s H args us vs Q E hg hr e0 hb r hsp => LamX.run_ofS lk hcd S hr e0 hb r (len _ _ _ _ hsp) fun hr' => hbody A outer s H vs Q E hg hr' hsp⟩
/-- the signs of a text, one by one -/
def signsV (x : Str) : List V := x.cps.toList.map fun c => .str ⟨#[c]⟩
theorem call_list_txt {X : Cx} (hcalm : X.calm = true) : CallR X (.type "list") (fun xs H Q => ∃ x : Str, xs = [.str x] ∧ x.length ≤ sizeLine ∧ ∀ p, H p = none → Q (.ref p) (upd H p (.lst (signsV x)))) := by
  intro pins s σ H xs us Q I r q
  obtain ⟨x, ex, hz, q⟩ := q
  subst ex
  obtain ⟨u, eu, rx⟩ := vals1 r
  subst eu
  obtain ⟨t, rfl⟩ : ∃ t, u = Value.str x t := rx
  refine call_list_str (I.ok.hd hcalm) x t (hn := hz) fun h' tk acc c' hk hD hacc => ?_
  have hv : Vals (signsV x) acc.toList := by
    refine vals_of_at ?_ fun j v u e1 e2 => ?_
    · show (x.cps.toList.map _).length = acc.toList.length
      rw [List.length_map, Array.length_toList, Array.length_toList]
      exact hacc.1.symm
    · obtain ⟨c, t', hc, rfl⟩ := hacc.2 j u (by rw [← Array.getElem?_toList]; exact e2)
      unfold signsV at e1
      rw [List.getElem?_map, Array.getElem?_toList, hc] at e1
      cases e1
      exact ⟨t', rfl⟩
  have lz : (signsV x).length ≤ sizeLine := by
    unfold signsV
    rw [List.length_map, Array.length_toList]
    exact hz
  exact ⟨.ref s.heap.objs.size, upd H s.heap.objs.size (.lst (signsV x)), I.laid (t' := tk) hk (Nat.le_refl _) (show ObjOk X.prog X.w _ _ _ (.lst (signsV x)) from ⟨lz, acc.toList, c', hv, by rw [Array.toArray_toList]; exact hD⟩), rfl, q _ (I.hok.fresh (Nat.le_refl _))⟩
end K14.Gn
namespace K14.T69
open T27 T3
open K14.Gn
open PySem PySem.W PySem.Calls PyProof.Rows L2 LamX
open SX (S)
open TL (tl pre joinL)
/-! ### the texts that are written in the law -/
def dueB : Option Nat → PyData → Bool
  | none, .none => true
  | some i, .int j => decide (j = (i : Nat))
  | _, _ => false
def wtB (p : Bool) : PyData → Bool
  | .tuple [.str s, d] => decide (s.length ≤ 1000) && (decide (mBS s ≤ 2) && dueB (lawR p [] [] [] 0 (tl s)).1 d)
  | _ => false
theorem crs_ok : crs.all (wtB true) = true := by decide +kernel
theorem sts_ok : sts.all (wtB false) = true := by decide +kernel
theorem wt_at {p : Bool} {z : PyData} (h : wtB p z = true) : ∃ (s : Str) (o : Option Nat), z = .tuple [.str s, T3.oD o] ∧ s.length ≤ 1000 ∧ mBS s ≤ 2 ∧ (lawR p [] [] [] 0 (tl s)).1 = o := by
  unfold wtB at h
  split at h
  · rename_i s d
    obtain ⟨h1, h2⟩ := Bool.and_eq_true_iff.mp h
    obtain ⟨h2, h3⟩ := Bool.and_eq_true_iff.mp h2
    refine ⟨s, _, ?_, of_decide_eq_true h1, of_decide_eq_true h2, rfl⟩
    revert h3
    generalize (lawR p [] [] [] 0 (tl s)).1 = o
    intro h3
    cases o with
    | none =>
      cases d with
      | none => rfl
      | _ => exact absurd (show false = true from h3) Bool.false_ne_true
    | some i =>
      cases d with
      | int j =>
        have : j = (i : Nat) := of_decide_eq_true h3
        rw [this]
        rfl
      | _ => exact absurd (show false = true from h3) Bool.false_ne_true
  · cases h
/-! ### the pieces -/
def pieceS : List Str := ((("0159 \n\nax-" : Str).cps.toList.map fun c => (⟨#[c]⟩ : Str)) ++ (["grow ", "shrink ", "turn ", "loop\n", "unloop\n", " x", "99", " 1", "999999999"] : List Str)) ++ (["0 1\n"] : List Str)
theorem piece_ok : pieceS.all (fun s => decide (s.length ≤ 9) && okPc (tl s)) = true := by decide +kernel
theorem piece_at : ∀ s ∈ pieceS, s.length ≤ 9 ∧ okPc (tl s) = true := fun s h => by
  obtain ⟨a, b⟩ := Bool.and_eq_true_iff.mp (List.all_eq_true.mp piece_ok s h)
  exact ⟨of_decide_eq_true a, b⟩
def oddT : List PyData := [.none, .int 5, .list [], .list [.str "loop\n"], .dict [], .bool true, .tuple [.str ""]]
theorem oddT_all : oddT.all (fun d => !isSt d && fitS 3 d) = true := by decide +kernel
end K14.T69
namespace K14.Gn
open PySem PySem.W PySem.Calls PyProof.Rows L2 LamX
open Kz (FnG same_new)
/-- for j, y in enumerate(a call), while tables may grow -/
theorem for_enC {K : Frag} {i1 i2 : Nat} {d : PyData} {σ : L2.St} {H : Hp} {tl : TE} {tb u : TS} {D : Ends} (ht : ∀ R : VK, (∀ (v : V) (G0 : Hp), L2.Same H G0 → Th (Hid [] G0) v d → R v G0) → tl σ H R) (l : isL d = true) (Pv : Hp → Nat → L2.St → Hp → Prop) (h0 : ∀ G0, L2.Same H G0 → Pv G0 0 σ G0) (hx : ∀ G0 j σ G, Pv G0 j σ G → ExtN G0 G)
    (hs : ∀ (G0 : Hp) (j : Nat) (z : PyData) (x : V) (σ' : L2.St) (G : Hp), L2.Same H G0 → (its d)[j]? = some z → Th (Hid [] G) x z → Pv G0 j σ' G → ∀ G', L2.Same G G' → tb { nx := Pv G0 (j + 1), rt := D.rt, bk := u D, ct := Pv G0 (j + 1) } ((σ'.set i1 (some (.int (j : Nat)))).set i2 (some x)) G')
    (hd : ∀ G0 σ' G, L2.Same H G0 → Pv G0 (its d).length σ' G → u D σ' G) : tSeq (tFor (EnT.iEnB K (tCons tl tNil)) (gTup K 2 (gCons (gName i1) (gCons (gName i2) gNil))) tb) u D σ H := by
  refine ht _ fun v G0 s0 t => ?_
  obtain ⟨a, xs, rfl, r, hq⟩ := t.seq (K := K) l
  have lx : xs.length = (its d).length := r.length
  have go : ∀ (j : Nat) (x : V) (σ' : L2.St) (G G' : Hp), j < xs.length → Pv G0 j σ' G → YPair (fun j => some (.int (j : Nat))) (fun j => xs[j]?) j G x G' → gTup K 2 (gCons (gName i1) (gCons (gName i2) gNil)) x σ' G' fun σ2 H2 => tb { nx := Pv G0 (j + 1), rt := D.rt, bk := u D, ct := Pv G0 (j + 1) } σ2 H2 := by
    intro j x σ' G G' hj hp ⟨T, p, y, ex, nT, eG, ep, ey⟩
    obtain ⟨z, hz, tz⟩ := r.get ey
    subst ex eG
    obtain rfl : V.int (j : Nat) = p := Option.some.inj ep
    refine ⟨T, _, rfl, .inl (.inl upd_same), rfl, _, _, rfl, _, _, rfl, rfl, ?_⟩
    exact hs G0 j z y σ' G s0 hz (tz.ext (hid_N (hx G0 j σ' G hp))) hp _ (same_new nT)
  have keep : ∀ (j : Nat) (σ' : L2.St) (G : Hp) {o : HO}, Pv G0 j σ' G → (Hid [] G0) a = some o → G a = some o := fun j σ' G o p h => by
    obtain ⟨_, h2, h3⟩ := hid_at h
    exact hx G0 j σ' G p _ _ h2 h3
  refine ⟨a, xs, rfl, ?_⟩
  rcases hq with hq | hq
  · exact .inl ⟨.inl (.inl (keep 0 σ G0 (h0 G0 s0) hq)), for_it walk_enum (Pv G0) (h0 G0 s0) (fun j σ' G _ p => .inl (.inl (keep j σ' G p hq))) go (fun σ' G p => hd G0 σ' G s0 (by rw [← lx]; exact p))⟩
  · exact .inr ⟨.inl (.inl (keep 0 σ G0 (h0 G0 s0) hq)), for_it EnT.walk_enT (Pv G0) (h0 G0 s0) (fun j σ' G _ p => .inl (.inl (keep j σ' G p hq))) go (fun σ' G p => hd G0 σ' G s0 (by rw [← lx]; exact p))⟩
end K14.Gn
namespace K14.T69
open T27 T3
open K14.Gn
open PySem PySem.W PySem.Calls PyProof.Rows L2 LamX
open He (ga)
open SX (S)
open TL (tl pre joinL)
open Kz (SS ExtS ExtS.trans small4 same_new boot_in boot_li boot_isi Has pe_has noE PSs.of_eq new_ext X1)
theorem gives_ofA {K : Frag} {T : List (Addr × Str)} {t : XK → TE} {S : L2.St → Prop} {H0 : Hp} {w : Str} {v : V} (h : ∀ (σ : L2.St) (H1 : Hp) (Q Q' : VK), S σ → ExtN H0 H1 → (∀ (H' : Hp) (t' : Addr), L2.Same H1 H' → H' t' = some (.tup [.str w, v]) → Q (.ref t') H') → t (Ea K Q) σ H1 Q') : Gives T (tLam T (tlA K) t) S H0 w v :=
  fun σ H Q hS e hT k => ⟨hT, fun H1 e1 T1 => h σ H1 Q _ hS (e.trans e1) fun H' t' s q => k H' t' (e1.trans (ExtN.of s)) (T1.ext s) q⟩
section
variable {K : Frag} {T : List (Addr × Str)}
/-- a drawn paper -/
theorem draw_paper {p : Bool} {Q : VK} {σ : L2.St} {G : Hp} {l li : Addr} {c : Int} (h1 : σ[1]? = some (some (.ref l))) (sp : Spr G l li c) (hc : c < 700000000)
    (k : ∀ (G' : Hp) (f : Addr) (ys : List V) (ds : List PyData) (c' : Int), ExtS l li G G' → Spr G' l li c' → c' ≤ c + 60 → f ≠ l → f ≠ li → G' f = some (.lst ys) → ThAll (Hid [l, li] G') ys ds → PapD p ds → Q (.ref f) G') :
    if p = true then tCall spCdr [] noE (tCons (tVar 1) tNil) σ G Q else tCall spSdr [] noE (tCons (tVar 1) tNil) σ G Q := by
  cases p with
  | true =>
    refine iteT ⟨.ref l, h1, l, li, c, rfl, sp, hc, fun G' f ys ps c' e s b n nl nli hf ow l4 ok => ?_⟩
    refine k G' f ys (ps.map pairD) c' e s (by omega) nl nli hf (ow.th.ext (hid_less fun b m => List.mem_cons_of_mem _ m)) ⟨by rw [List.length_map]; omega, fun z hz => ?_⟩
    obtain ⟨q, hq, rfl⟩ := List.mem_map.mp hz
    exact len_pair (ok q hq)
  | false =>
    refine iteF ⟨.ref l, h1, l, li, c, rfl, sp, hc, fun G' f ys ds c' e s b n nl nli hf ow l4 ok => ?_⟩
    exact k G' f ys ds c' e s (by omega) nl nli hf (ow.th.ext (hid_less fun b m => List.mem_cons_of_mem _ m)) ⟨l4, fun z hz => len_step (ok z hz)⟩
/-- if not _law_judged_right(is_pairs, bent): return False -/
theorem jr_if {p : Bool} {y : Str} {A : TS} {D : Ends} {σ : L2.St} {G : Hp} (h4 : σ[4]? = some (some (.bl p))) (h8 : σ[8]? = some (some (.str y))) (ly : y.length ≤ 1000) (my : mBS y ≤ 2) (hT : Tabs T G) (k : ∀ G', ExtN G G' → Tabs T G' → D.nx σ G') :
    tIfS (tNot (tB (tCall (spJr T) [] noE (tCons (tVar 4) (tCons (tVar 8) tNil))))) A tNext D σ G :=
  ⟨.bl p, h4, .str y, h8, p, tl y, by rw [S_tl]; rfl, by rw [← TL.len_tl]; exact ly, my, hT, fun G' e t => ⟨true, rfl, iteF (k G' e t)⟩⟩
theorem bent_two {x y : Str} (lx : x.length ≤ 105) (mx : mBS x = 0) (h : BentS x y) : y.length ≤ 327 ∧ mBS y ≤ 1 := by
  obtain ⟨h1, h2⟩ := h
  rw [mx] at h2
  exact ⟨by omega, by omega⟩
theorem bent_three {x y : Str} (lx : x.length ≤ 327) (mx : mBS x ≤ 1) (h : BentS x y) : y.length ≤ 1000 ∧ mBS y ≤ 2 := by
  obtain ⟨h1, h2⟩ := h
  exact ⟨by omega, by omega⟩
theorem piece_eq : (signsV ("0159 \n\nax-" : Str) ++ [V.str "grow ", .str "shrink ", .str "turn ", .str "loop\n", .str "unloop\n", .str " x", .str "99", .str " 1", .str "999999999"]) ++ [V.str "0 1\n"] = pieceS.map V.str := by
  unfold pieceS signsV
  rw [List.map_append, List.map_append, List.map_map]
  rfl
theorem piece_len : 0 < pieceS.length ∧ pieceS.length ≤ 100 := by decide +kernel
/-- what is no text is refused at -1 -/
theorem fau_no {r : RS} {d : PyData} (h : isSt d = false) : fauV r d = .int (-1) := by
  cases d <;> first | rfl | cases h
theorem no_st {d : PyData} (h : isSt d = false) : ∀ s, d = .str s → s.length ≤ 100000 := fun s e => by
  rw [e] at h
  cases h
theorem gv_odd {r : RS} {y : V} {d : PyData} {G : Hp} (ty : Th (Hid [] G) y d) (st : isSt d = false) : Gives T (tLam T (tlA K) fun E => tCall (spRcX K r) [] E (tCons (tVar 13) tNil)) (fun σ : L2.St => σ[13]? = some (some y)) G "text" (.int (-1)) := gives_ofA fun σ H2 Q Q' hS e kk =>
  ⟨y, hS, y, d, -1, rfl, (ty.ext (hid_N e)).ext hid_up, no_st st, fau_no st, says_ea _ a_text kk⟩
end
end K14.T69
namespace K14.T69
open T27 T3
open K14.Gn
open PySem PySem.W PySem.Calls PyProof.Rows L2 LamX
open He (ga)
open SX (S)
open TL (tl pre joinL)
open Kz (SS ExtS ExtS.trans small4 same_new boot_in boot_li boot_isi Has pe_has noE PSs.of_eq new_ext X1 HasG pe_hasG FnG spStart)
/-! ### law -/
abbrev sLw : Stmt := topS 71
abbrev NLw : List Str := ["script", "stream", "pieces", "turn", "is_pairs", "paper", "text", "k", "bent", "at", "texts", "due", "found", "odd"]
theorem scLw : FnScope NLw ["script"] (defScope sLw) := ⟨rfl, rfl, rfl, by decide +kernel, rfl, by decide +kernel, by decide +kernel⟩
theorem bdLw : defBody sLw = [stOf sLw 0, stOf sLw 1, stOf sLw 2, stOf sLw 3, stOf sLw 4, stOf sLw 5, stOf sLw 6] := by rfl
def fbA (i : Nat) : Stmt := (forBody (stOf sLw 3)).getD i (.Pass ⟨0, 0, 0, 0⟩)
theorem bdFA : forBody (stOf sLw 3) = [fbA 0, fbA 1, fbA 2, fbA 3, fbA 4] := by rfl
def fbK (i : Nat) : Stmt := (forBody (fbA 4)).getD i (.Pass ⟨0, 0, 0, 0⟩)
theorem bdFK : forBody (fbA 4) = [fbK 0, fbK 1, fbK 2] := by rfl
def fbT0 : Stmt := (forBody (stOf sLw 4)).getD 0 (.Pass ⟨0, 0, 0, 0⟩)
theorem bdFT0 : forBody (stOf sLw 4) = [fbT0] := by rfl
def fbT1 : Stmt := (forBody fbT0).getD 0 (.Pass ⟨0, 0, 0, 0⟩)
theorem bdFT1 : forBody fbT0 = [fbT1] := by rfl
def fbO (i : Nat) : Stmt := (forBody (stOf sLw 5)).getD i (.Pass ⟨0, 0, 0, 0⟩)
theorem bdFO : forBody (stOf sLw 5) = [fbO 0, fbO 1] := by rfl
def qLw : Str := (("law" : Str) ++ ".<locals>.") ++ "<lambda>"
structure LwK (P : Program) (w : World) (K : Frag) (mg : Str → Option Value) (base : Heap) (T : List (Addr × Str)) : Prop where
  st : Has P w K mg base "_law_start" 1 ["script"] (spStart K)
  dr : Has P w K mg base "_law_draw" 1 ["stream", "many"] spDrW
  cd : Has P w K mg base "_law_course_drawn" 4 ["stream"] spCdr
  sd : Has P w K mg base "_law_steps_drawn" 4 ["stream"] spSdr
  pt : Has P w K mg base "_law_paper_text" 2 ["paper"] spPt
  jr : Has P w K mg base "_law_judged_right" 11 ["is_pairs", "text"] (spJr T)
  wq : HasG P w K mg base "_law_written_right" 8 ["stream", "is_pairs", "paper"] (spWq T)
  bt : Has P w K mg base "_law_bent_text" 3 ["stream", "text", "pieces"] spBt
  wx : ∃ f fd, mg "_law_written_texts" = some (.ref f) ∧ keepIn K (.ref f) = true ∧ L2.Binds K fd [] [] ∧ FnOk P w K mg base CX0 1 f fd [] spWx
  pr : Has P w K mg base "_law_paper_read" 4 ["is_pairs", "text"] spPr
  sm : Has P w K mg base "_law_same" 7 ["found", "due"] (spSm 6)
  cf : Has P w K mg base "course_fault" 7 ["text"] (spCof (.course none))
  sf : Has P w K mg base "steps_fault" 7 ["text"] (spCof (.steps .step))
  rcx : HasX P w K mg base "read_course" 8 ["text"] (spRcX K (.course none))
  rsx : HasX P w K mg base "read_steps" 8 ["text"] (spRcX K (.steps .step))
  nl : mg "list" = none
  nr : mg "range" = none
  ne : mg "enumerate" = none
section
variable {P : Program} {w : World} {K : Frag} {mg : Str → Option Value} {base : Heap} {T : List (Addr × Str)}
abbrev XLw (P : Program) (w : World) (K : Frag) (mg : Str → Option Value) (base : Heap) (f : Addr) (cdv : Value) (A : Around) (outer : List Env) (s : Shared) (H : Hp) (XE : XK) : Cx := (cxOf CX0 P w K mg base NLw "law" (defScope sLw) f cdv A outer s H XE).nox
theorem noXl {f : Addr} {cdv : Value} {A : Around} {outer : List Env} {s : Shared} {H : Hp} {XE : XK} {A' : Around} {outer' : List Env} {s' : Shared} {H' : Hp} {E : XK} {scope : Scope} {f' c' : Addr} : Passes (L2.CX P w) (lamCx (XLw P w K mg base f cdv A outer s H XE) A' outer' s' H' E scope f' c') E := passes_call (takes_of rfl rfl rfl rfl) (fun _ _ _ _ h => h)
theorem ok_lw {f c Pt g : Addr} {gd : FuncData} {oc kV doc pm ct : Value} {od an : Option Addr} {osl : Array (Option Value)} (lk : K.lookup f = some ⟨oc, od, .func (fnOf "law" "law" (defArgs sLw) (defBody sLw) (defScope sLw) .none kV doc pm an (.ref c) ct), osl⟩) (hcd : codeIn K (.ref c) "law" = true)
    (TB : TabB base mg c Pt) (hmT : (Pt, qLw) ∈ T) (hu : ∀ p ∈ T, p.1 = Pt → p.2 = qLw)
    (G : FunD K "_law_asked" "_law_asked" (defArgs sAk) (defBody sAk) (defScope sAk) [] [] g gd) (mo : mg "_law_asked" = some (.ref g)) (kp : keepIn K (.ref g) = true) (bd : L2.Binds K gd ["ask"] []) (R : AkK P K mg) (L : LwK P w K mg base T) :
    FnG P w K mg base CX0 14 f (fnOf "law" "law" (defArgs sLw) (defBody sLw) (defScope sLw) .none kV doc pm an (.ref c) ct) ["script"] (T3.spLw K T) := by
  obtain ⟨og, odg, kVg, docg, pmg, ang, cg, ctg, oslg, rfl, lkg, hcg⟩ := fun_code G
  refine fn_ofG (CX := CX0) (P := P) (w := w) (mg := mg) (base := base) (k := 13) (N := NLw) lk hcd scLw (fun vs H Q E h => ?_) (fun A outer s H vs Q XE hg hr hsp => ?_)
  · obtain ⟨a, ns, rfl, _⟩ := h
    rfl
  obtain ⟨a, ns, rfl, hS, hn, hT, k⟩ := hsp
  have gl : Gl (XLw P w K mg base f (.ref c) A outer s H XE) "_law_asked" := rfl
  have gv := ak_gives (X := XLw P w K mg base f (.ref c) A outer s H XE) (g := g) (cdg := .ref cg) (q := qLw) R
  have ask : ∀ {params : Arguments} {body : Expr} {scope : Scope} {p lpos pos : Pos} {t : XK → TE}, LamS (defScope sLw) scope → defaultsOf params (XLw P w K mg base f (.ref c) A outer s H XE).env = ([], []) → (∀ (q : Str) (cl : List (Str × Addr)) (pm cv ctv : Value), bindArgs (kla_fn "<lambda>" q params body scope cl pm cv ctv) ⟨[], []⟩ = pure []) →
      (∀ (A' : Around) (outer' : List Env) (s' : Shared) (H' : Hp) (E : XK) (f' c' : Addr), Room 11 (A'.deeper (lamEnv (XLw P w K mg base f (.ref c) A outer s H XE) scope s'.heap.objs.size f' c')) → PE (lamCx (XLw P w K mg base f (.ref c) A outer s H XE) A' outer' s' H' E scope f' c') body (t E)) →
      PE (XLw P w K mg base f (.ref c) A outer s H XE) (.Call (.Name "_law_asked" p) [.Lambda params body scope lpos] [] pos) (tLam T (tlA K) t) :=
    fun hL hd hb hbody => pe_lamcall gl mo kp lkg hcg bd scAk rfl (.inl rfl) gv TB rfl hmT hu hr hL hd hb hbody
  obtain ⟨fx, fdx, hx1, hx2, hx3, hx4⟩ := L.wx
  have a0 : PS (XLw P w K mg base f (.ref c) A outer s H XE) (fbA 0) _ := ps_set (i := 4) scLw.nd rfl (.inl rfl) (pe_cmpR op_eq (pe_has L.dr (hr.mono (by decide)) (by rfl) (pa_cons (pv 1) (pa_cons pe_int pa_nil))) pe_int (nomark _))
  have a1 : PS (XLw P w K mg base f (.ref c) A outer s H XE) (fbA 1) _ := ps_set (i := 5) scLw.nd rfl (.inl rfl) (pe_ifExp (pt_val (pv 4)) (pe_has L.cd (hr.mono (by decide)) (by rfl) (pa_cons (pv 1) pa_nil)) (pe_has L.sd (hr.mono (by decide)) (by rfl) (pa_cons (pv 1) pa_nil)))
  have a2 : PS (XLw P w K mg base f (.ref c) A outer s H XE) (fbA 2) _ := ps_set (i := 6) scLw.nd rfl (.inl rfl) (pe_has L.pt (hr.mono (by decide)) (by rfl) (pa_cons (pv 5) pa_nil))
  have a3 : PS (XLw P w K mg base f (.ref c) A outer s H XE) (fbA 3) _ := ps_if (PW.pt (pw_or (pt_not (pt_val (pe_has L.jr (hr.mono (by decide)) (by rfl) (pa_cons (pv 4) (pa_cons (pv 6) pa_nil))))) (pw_or1 (pt_not (pt_val (pe_hasG hg L.wq (hr.mono (by decide)) (by rfl) (pa_cons (pv 1) (pa_cons (pv 4) (pa_cons (pv 5) pa_nil))))))))) (pss_one (ps_ret pe_bl)) pss_nil
  have k0 : PS (XLw P w K mg base f (.ref c) A outer s H XE) (fbK 0) _ := ps_set (i := 8) scLw.nd rfl (.inl rfl) (pe_has L.bt (hr.mono (by decide)) (by rfl) (pa_cons (pv 1) (pa_cons (pv 6) (pa_cons (pv 2) pa_nil))))
  have k1 : PS (XLw P w K mg base f (.ref c) A outer s H XE) (fbK 1) _ := ps_set (i := 8) scLw.nd rfl (.inl rfl) (pe_ifExp (pt_cmpR op_eq (pe_has L.dr (hr.mono (by decide)) (by rfl) (pa_cons (pv 1) (pa_cons pe_int pa_nil))) pe_int (nomark _)) (pe_has L.bt (hr.mono (by decide)) (by rfl) (pa_cons (pv 1) (pa_cons (pv 8) (pa_cons (pv 2) pa_nil)))) (pv 8))
  have k2 : PS (XLw P w K mg base f (.ref c) A outer s H XE) (fbK 2) _ := ps_if (pt_not (pt_val (pe_has L.jr (hr.mono (by decide)) (by rfl) (pa_cons (pv 4) (pa_cons (pv 8) pa_nil))))) (pss_one (ps_ret pe_bl)) pss_nil
  have a4 : PS (XLw P w K mg base f (.ref c) A outer s H XE) (fbA 4) _ := ps_for PassesOwn.never rfl (pi_range1 (by rfl) L.nr (pa_cons pe_int pa_nil)) (pg_name (i := 7) scLw.nd rfl (.inl rfl)) (PSs.of_eq bdFK (pss_cons k0 (pss_cons k1 (pss_one k2))))
  have t1 : PS (XLw P w K mg base f (.ref c) A outer s H XE) fbT1 _ := ps_if (PW.pt (pw_or (pt_not (pt_val (pe_has L.sm (hr.mono (by decide)) (by rfl) (pa_cons (pe_ix ix_seq (pe_has L.pr (hr.mono (by decide)) (by rfl) (pa_cons (pe_cmpR op_eq (pv 9) pe_int (nomark _)) (pa_cons (pv 6) pa_nil))) pe_int (fun _ _ => rfl)) (pa_cons (pv 11) pa_nil))))) (pw_or1 (pt_not (pt_val (pe_has L.jr (hr.mono (by decide)) (by rfl) (pa_cons (pe_cmpR op_eq (pv 9) pe_int (nomark _)) (pa_cons (pv 6) pa_nil)))))))) (pss_one (ps_ret pe_bl)) pss_nil
  have t0 : PS (XLw P w K mg base f (.ref c) A outer s H XE) fbT0 _ := ps_for PassesOwn.never rfl (pi_list (pv 10)) (pg_tup (n := 2) rfl (pgs_cons (pg_name (i := 6) scLw.nd rfl (.inl rfl)) (pgs_cons (pg_name (i := 11) scLw.nd rfl (.inl rfl)) pgs_nil))) (PSs.of_eq bdFT1 (pss_one t1))
  have o0 : PS (XLw P w K mg base f (.ref c) A outer s H XE) (fbO 0) _ := ps_set (i := 12) scLw.nd rfl (.inl rfl) (pe_lst (pa_cons (pe_has L.cf (hr.mono (by decide)) (by rfl) (pa_cons (pv 13) pa_nil)) (pa_cons (pe_has L.sf (hr.mono (by decide)) (by rfl) (pa_cons (pv 13) pa_nil)) (pa_cons (ask (lamS_by (by decide +kernel)) rfl (fun _ _ _ _ _ => rfl) (fun A' o' s' H' E f' c' hr2 => pe_hasX L.rcx (hr2.mono (by decide)) (by rfl) noXl (pa_cons (pv 13) pa_nil))) pa_nil))))
  have o1 : PS (XLw P w K mg base f (.ref c) A outer s H XE) (fbO 1) _ := ps_if (pt_not (pt_val (pe_has L.sm (hr.mono (by decide)) (by rfl) (pa_cons (pe_op op_cat (pv 12) (pe_lst (pa_cons (ask (lamS_by (by decide +kernel)) rfl (fun _ _ _ _ _ => rfl) (fun A' o' s' H' E f' c' hr2 => pe_hasX L.rsx (hr2.mono (by decide)) (by rfl) noXl (pa_cons (pv 13) pa_nil))) pa_nil))) (pa_cons (pe_lst (pa_cons (pe_un un_neg pe_int) (pa_cons (pe_un un_neg pe_int) (pa_cons (pe_tup (pa_cons pe_str (pa_cons (pe_un un_neg pe_int) pa_nil))) (pa_cons (pe_tup (pa_cons pe_str (pa_cons (pe_un un_neg pe_int) pa_nil))) pa_nil))))) pa_nil))))) (pss_one (ps_ret pe_bl)) pss_nil
  have h0 : PS (XLw P w K mg base f (.ref c) A outer s H XE) (stOf sLw 0) _ := ps_set (i := 1) scLw.nd rfl (.inl rfl) (pe_has L.st (hr.mono (by decide)) (by rfl) (pa_cons (pv 0) pa_nil))
  have h1 : PS (XLw P w K mg base f (.ref c) A outer s H XE) (stOf sLw 1) _ := ps_set (i := 2) scLw.nd rfl (.inl rfl) (pe_op op_cat (pe_callTy (call_list_txt rfl) (by rfl) L.nl boot_li (pa_cons pe_str pa_nil)) (pe_lst (pa_cons pe_str (pa_cons pe_str (pa_cons pe_str (pa_cons pe_str (pa_cons pe_str (pa_cons pe_str (pa_cons pe_str (pa_cons pe_str (pa_cons pe_str pa_nil)))))))))))
  have h2 : PS (XLw P w K mg base f (.ref c) A outer s H XE) (stOf sLw 2) _ := ps_set (i := 2) scLw.nd rfl (.inl rfl) (pe_op op_cat (pv 2) (pe_lst (pa_cons pe_str pa_nil)))
  have h3 : PS (XLw P w K mg base f (.ref c) A outer s H XE) (stOf sLw 3) _ := ps_for PassesOwn.never rfl (pi_range1 (by rfl) L.nr (pa_cons pe_int pa_nil)) (pg_name (i := 3) scLw.nd rfl (.inl rfl)) (PSs.of_eq bdFA (pss_cons a0 (pss_cons a1 (pss_cons a2 (pss_cons a3 (pss_one a4))))))
  have h4 : PS (XLw P w K mg base f (.ref c) A outer s H XE) (stOf sLw 4) _ := ps_for PassesOwn.never rfl (EnT.pi_enB (by rfl) L.ne (pa_cons (pe_call0 hx4 (hr.mono (by decide)) (by rfl) hx1 hx2 hx3 .nil pass0) pa_nil)) (pg_tup (n := 2) rfl (pgs_cons (pg_name (i := 9) scLw.nd rfl (.inl rfl)) (pgs_cons (pg_name (i := 10) scLw.nd rfl (.inl rfl)) pgs_nil))) (PSs.of_eq bdFT0 (pss_one t0))
  have h5 : PS (XLw P w K mg base f (.ref c) A outer s H XE) (stOf sLw 5) _ := ps_for PassesOwn.never rfl (pi_tup (pe_tup (pa_cons pe_non (pa_cons pe_int (pa_cons (pe_lst pa_nil) (pa_cons (pe_lst (pa_cons pe_str pa_nil)) (pa_cons pe_dnewK (pa_cons pe_bl (pa_cons (pe_tup (pa_cons pe_str pa_nil)) pa_nil))))))))) (pg_name (i := 13) scLw.nd rfl (.inr rfl)) (PSs.of_eq bdFO (pss_cons o0 (pss_one o1)))
  have h6 : PS (XLw P w K mg base f (.ref c) A outer s H XE) (stOf sLw 6) _ := ps_ret pe_bl
  have PP := PSs.of_eq bdLw (pss_cons h0 (pss_cons h1 (pss_cons h2 (pss_cons h3 (pss_cons h4 (pss_cons h5 (pss_one h6)))))))
  clear h0 h1 h2 h3 h4 h5 h6 a0 a1 a2 a3 a4 k0 k1 k2 t0 t1 o0 o1 ask gv
  refine ⟨_, PSs.nox PP, ?_⟩
  clear PP
  refine T3.set_intro (i := 1) ?_
  refine ⟨.ref a, rfl, a, ns, rfl, hS, fun H1 l li e1 n1 n2 ss => ?_⟩
  have s1 : Spr H1 l li 0 := ⟨ns, 0, 19, ss, hn⟩
  have m1 : l ∈ [l, li] := by simp
  have m2 : li ∈ [l, li] := by simp
  have T1 := hT.ext e1
  refine T3.set_intro (i := 2) ?_
  refine ⟨_, rfl, by rw [sizeLine_eq]; decide +kernel, fun p1 np1 => ⟨small4 9, fun p2 np2 => ?_⟩⟩
  have z1 := same_new (o := .lst (signsV ("0159 \n\nax-" : Str))) np1
  have z2 := same_new (o := .lst [V.str "grow ", .str "shrink ", .str "turn ", .str "loop\n", .str "unloop\n", .str " x", .str "99", .str " 1", .str "999999999"]) np2
  refine ⟨p1, p2, _, _, rfl, rfl, z2 _ _ upd_same, upd_same, by rw [sizeLine_eq]; exact Nat.le_of_ble_eq_true (by decide +kernel), fun p3 np3 => ?_⟩
  have z3 := same_new (o := .lst (signsV ("0159 \n\nax-" : Str) ++ [V.str "grow ", .str "shrink ", .str "turn ", .str "loop\n", .str "unloop\n", .str " x", .str "99", .str " 1", .str "999999999"])) np3
  refine T3.set_intro (i := 2) ?_
  refine ⟨.ref p3, rfl, small4 1, fun p4 np4 => ?_⟩
  have z4 := same_new (o := .lst [V.str "0 1\n"]) np4
  refine ⟨p3, p4, _, _, rfl, rfl, z4 _ _ upd_same, upd_same, by rw [sizeLine_eq]; exact Nat.le_of_ble_eq_true (by decide +kernel), fun pc npc => ?_⟩
  rw [piece_eq]
  have z5 := same_new (o := .lst (pieceS.map V.str)) npc
  have Z := z1.trans (z2.trans (z3.trans (z4.trans z5)))
  have npl := (s1.same (z1.trans (z2.trans (z3.trans z4)))).new npc
  have hpc := upd_same (H := upd (upd (upd (upd H1 p1 (.lst (signsV ("0159 \n\nax-" : Str)))) p2 (.lst [V.str "grow ", .str "shrink ", .str "turn ", .str "loop\n", .str "unloop\n", .str " x", .str "99", .str " 1", .str "999999999"])) p3 (.lst (signsV ("0159 \n\nax-" : Str) ++ [V.str "grow ", .str "shrink ", .str "turn ", .str "loop\n", .str "unloop\n", .str " x", .str "99", .str " 1", .str "999999999"]))) p4 (.lst [V.str "0 1\n"])) (a := pc) (o := .lst (pieceS.map V.str))
  generalize upd (upd (upd (upd (upd H1 p1 (.lst (signsV ("0159 \n\nax-" : Str)))) p2 (.lst [V.str "grow ", .str "shrink ", .str "turn ", .str "loop\n", .str "unloop\n", .str " x", .str "99", .str " 1", .str "999999999"])) p3 (.lst (signsV ("0159 \n\nax-" : Str) ++ [V.str "grow ", .str "shrink ", .str "turn ", .str "loop\n", .str "unloop\n", .str " x", .str "99", .str " 1", .str "999999999"]))) p4 (.lst [V.str "0 1\n"])) pc (.lst (pieceS.map V.str)) = H5 at Z hpc ⊢
  have s5 := s1.same Z
  have T5 := T1.ext Z
  clear z1 z2 z3 z4 z5 np1 np2 np3 np4 npc Z s1 T1 ss
  obtain ⟨pl0, pl1⟩ := piece_len
  refine ⟨8, rfl, by decide, by decide, for_range (lo := 0) (n := (8 : Int).toNat) (fun j σ G => ∃ (a3 a4 a5 a6 a7 a8 a9 a10 a11 a12 a13 : Option V) (c : Int), σ = [some (.ref a), some (.ref l), some (.ref pc), a3, a4, a5, a6, a7, a8, a9, a10, a11, a12, a13] ∧ Spr G l li c ∧ c ≤ 1000 * (j : Nat) ∧ Tabs T G ∧ G pc = some (.lst (pieceS.map V.str))) ⟨none, none, none, none, none, none, none, none, none, none, none, 0, rfl, s5, by decide, T5, hpc⟩ (fun j σ G hj e => ?_) (fun σ G e => ?_)⟩
  · obtain ⟨a3, a4, a5, a6, a7, a8, a9, a10, a11, a12, a13, c, rfl, sp, cb, TG, hpG⟩ := e
    have j8 : j < 8 := hj
    clear hpc s5 T5 k
    refine gset ?_
    refine T3.set_intro (i := 4) ?_
    refine ⟨.ref l, rfl, l, li, c, 2, rfl, sp, by decide, by decide, by omega, fun G1 r e1' s1 r0 r1 => ⟨rfl, ?_⟩⟩
    generalize decide (V.int r = V.int 0) = p
    have T1 := tabs_S TG sp e1'
    have hp1 := e1' _ _ hpG npl.1 npl.2
    clear TG hpG e1' sp
    refine T3.set_intro (i := 5) ?_
    refine ⟨.bl p, rfl, p, rfl, ?_⟩
    refine draw_paper (l := l) (li := li) (c := c + 1) rfl s1 (by omega) fun G2 f ys ds c2 e2 s2 b2 nl nli hf hys hp => ?_
    have T2 := tabs_S T1 s1 e2
    have hp2 := e2 _ _ hp1 npl.1 npl.2
    obtain ⟨tl1, tm1⟩ := text_facts hp
    have lz := loose_self hp
    have nf : f ∉ [l, li] := by simp [nl, nli]
    clear e2 s1 T1 hp1
    refine T3.set_intro (i := 6) ?_
    refine ⟨.ref f, rfl, .ref f, .list ds, rfl, .lst hf (hys.ext hid_up), rfl, lz.okP hp, lz.strs hp, by omega, fun G3 s3 => ?_⟩
    have T3' := T2.ext s3
    have sp3 := s2.same s3
    have hf3 := s3 _ _ hf
    have hys3 := hys.ext (hid_same s3)
    have hp3 := s3 _ _ hp2
    clear T2 s2 hf hys hp2 s3
    refine T3.if_intro ?_
    refine ⟨.bl p, rfl, .str _, rfl, p, tl (textD (.list ds)), by rw [S_tl]; rfl, by rw [← TL.len_tl]; omega, by show mBS _ ≤ 2; omega, T3', fun G4 e4 T4 => ⟨true, rfl, iteF ?_⟩⟩
    refine ⟨.ref l, rfl, .bl p, rfl, .ref f, rfl, l, li, f, c2, p, ys, ds, rfl, sp3.extN e4, by omega, nl, nli, e4 _ _ hf3 (fun ps z => nomatch z), hys3.ext (hid_N e4), hp, T4, fun G5 c5 e5 s5' b5 T5' => ⟨true, rfl, iteF ?_⟩⟩
    have hp5 := e5 _ _ (e4 _ _ hp3 (fun ps z => nomatch z)) (fun ps z => nomatch z) npl.1 npl.2
    clear T3' sp3 hf3 hys3 hp3 e4 T4 e5
    generalize textD (.list ds) = tx at tl1 tm1 ⊢
    refine next_intro (nx_intro ?_)
    refine ⟨8, rfl, by decide, by decide, for_range (lo := 0) (n := (8 : Int).toNat) (fun i σ G => ∃ (a7 a8 : Option V) (c' : Int), σ = [some (.ref a), some (.ref l), some (.ref pc), some (.int (0 + (j : Nat))), some (.bl p), some (.ref f), some (.str tx), a7, a8, a9, a10, a11, a12, a13] ∧ Spr G l li c' ∧ c' ≤ c5 + 20 * (i : Nat) ∧ Tabs T G ∧ G pc = some (.lst (pieceS.map V.str))) ⟨a7, a8, c5, rfl, s5', by omega, T5', hp5⟩ (fun i σ G hi e => ?_) (fun σ G e => ?_)⟩
    · obtain ⟨a7, a8, c', rfl, sp, cb', TG, hpG⟩ := e
      have i8 : i < 8 := hi
      refine gset ?_
      refine T3.set_intro (i := 8) ?_
      refine ⟨.ref l, rfl, .str tx, rfl, .ref pc, rfl, l, li, pc, c', tx, pieceS, rfl, sp, by omega, by omega, hpG, npl.1, npl.2, pl0, pl1, piece_at, fun G6 y c6 e6 s6 b6 B6 => ?_⟩
      have T6 := tabs_S TG sp e6
      have hp6 := e6 _ _ hpG npl.1 npl.2
      obtain ⟨ly, my⟩ := bent_two tl1 tm1 B6
      refine T3.set_intro (i := 8) ?_
      refine ⟨.ref l, rfl, l, li, c6, 4, rfl, s6, by decide, by decide, by omega, fun G7 r e7 s7 r0 r1 => ⟨rfl, _, rfl, ite2 (fun _ => ?_) (fun _ => ?_)⟩⟩
      · have T7 := tabs_S T6 s6 e7
        have hp7 := e7 _ _ hp6 npl.1 npl.2
        refine ⟨.ref l, rfl, .str y, rfl, .ref pc, rfl, l, li, pc, c6 + 1, y, pieceS, rfl, s7, by omega, by omega, hp7, npl.1, npl.2, pl0, pl1, piece_at, fun G8 y2 c8 e8 s8 b8 B8 => ?_⟩
        have T8 := tabs_S T7 s7 e8
        have hp8 := e8 _ _ hp7 npl.1 npl.2
        obtain ⟨ly2, my2⟩ := bent_three ly my B8
        refine jr_if rfl rfl ly2 my2 T8 fun G9 e9 T9 => ?_
        exact ⟨_, _, c8, rfl, s8.extN e9, by push_cast; omega, T9, e9 _ _ hp8 (fun ps z => nomatch z)⟩
      · have T7 := tabs_S T6 s6 e7
        have hp7 := e7 _ _ hp6 npl.1 npl.2
        refine ⟨.str y, rfl, ?_⟩
        refine jr_if rfl rfl (by omega) (by omega) T7 fun G9 e9 T9 => ?_
        exact ⟨_, _, _, rfl, s7.extN e9, by push_cast; omega, T9, e9 _ _ hp7 (fun ps z => nomatch z)⟩
    · obtain ⟨a7, a8, c', rfl, sp, cb', TG, hpG⟩ := e
      have cb2 : c' ≤ c5 + 160 := by
        have : (((8 : Int).toNat : Nat) : Int) = 8 := rfl
        omega
      exact ⟨_, _, _, _, _, _, _, _, _, _, _, c', rfl, sp, by push_cast; omega, TG, hpG⟩
  · obtain ⟨a3, a4, a5, a6, a7, a8, a9, a10, a11, a12, a13, c, rfl, sp, cb, TG, hpG⟩ := e
    clear hpc s5 T5 sp cb hpG npl hn hS e1
    refine nx_intro ?_
    refine for_enC (K := K) (d := .tuple [.list crs, .list sts]) (fun R h => ?_) rfl (fun G0 j σ J => ∃ (b6 b9 b10 b11 : Option V), σ = [some (.ref a), some (.ref l), some (.ref pc), a3, a4, a5, b6, a7, a8, b9, b10, b11, a12, a13] ∧ ExtN G0 J ∧ Tabs T J) (fun G0 s0 => ⟨_, _, _, _, rfl, .refl _, TG.ext s0⟩) (fun G0 j σ J e => ?_) (fun G0 j z x σ J s0 hz tz e J1 sJ => ?_) (fun G0 σ J s0 e => ?_)
    · exact ⟨[], rfl, (fun b m => nomatch m), fun H' r s t => h _ _ s t⟩
    · obtain ⟨_, _, _, _, _, e, _⟩ := e
      exact e
    · obtain ⟨b6, b9, b10, b11, rfl, eJ, TJ⟩ := e
      have key : ∃ rows, z = .list rows ∧ ∀ q ∈ rows, wtB (decide (V.int (j : Nat) = V.int 0)) q = true := by
        have hz' : ([PyData.list crs, .list sts] : List PyData)[j]? = some z := hz
        match j, hz' with
        | 0, hz' =>
          cases hz'
          exact ⟨crs, rfl, fun q hq => List.all_eq_true.mp crs_ok q hq⟩
        | 1, hz' =>
          cases hz'
          exact ⟨sts, rfl, fun q hq => List.all_eq_true.mp sts_ok q hq⟩
        | n + 2, hz' => simp at hz'
      obtain ⟨rows, rfl, ok⟩ := key
      have TJ1 := TJ.ext sJ
      have tz1 := tz.ext (hid_same sJ)
      cases tz1 with
      | @lst b xs _ hb rr =>
      have hb1 := hid_up _ _ hb
      generalize hpp : decide (V.int (j : Nat) = V.int 0) = p at ok
      refine ⟨.ref b, rfl, b, rfl, ⟨xs, .inl (.inl hb1)⟩, for_list (xs := xs) (fun i σ J2 => ∃ (b6 b11 : Option V), σ = [some (.ref a), some (.ref l), some (.ref pc), a3, a4, a5, b6, a7, a8, some (.int (j : Nat)), some (.ref b), b11, a12, a13] ∧ ExtN J1 J2 ∧ Tabs T J2) ⟨_, _, rfl, .refl _, TJ1⟩ (fun i σ J2 _ e => ?_) (fun i y σ J2 hy e => ?_) (fun σ J2 e => ?_)⟩
      · obtain ⟨_, _, _, e, _⟩ := e
        exact .inl (.inl (e _ _ hb1 (fun ps z => nomatch z)))
      · obtain ⟨b6, b11, rfl, e2, T2⟩ := e
        obtain ⟨q, hq, tq⟩ := rr.get hy
        obtain ⟨s, o, rfl, ls, ms, eo⟩ := wt_at (ok q (List.mem_of_getElem? hq))
        have tq2 := (tq.ext (hid_N e2)).ext hid_up
        cases tq2 with
        | @tup t ys _ ht ry =>
        cases ry with
        | @cons v1 _ _ _ w1 ry =>
        cases ry with
        | @cons v2 _ _ _ w2 ry =>
        cases ry
        have ev1 : v1 = .str s := by cases w1; rfl
        have ev2 : v2 = oV o := by
          cases o with
          | none => cases w2; rfl
          | some n => cases w2; rfl
        subst ev1 ev2
        refine ⟨t, _, rfl, .inl (.inl ht), rfl, _, _, rfl, gset ⟨_, _, rfl, gset ⟨rfl, ?_⟩⟩⟩
        refine T3.if_intro ?_
        refine ⟨.int (j : Nat), rfl, rfl, ?_⟩
        rw [hpp]
        refine ⟨.str s, rfl, p, tl s, by rw [S_tl]; rfl, by rw [← TL.len_tl]; omega, fun G3 t3 f3 ys3 s3 q1 q2 ow => ?_⟩
        rw [eo] at q1
        refine T3.tix0 q1 ⟨oV o, rfl, oV o, oV o, T3.oD o, rfl, T3.th_oV o, T3.th_oV o, by cases o <;> rfl, fun G4 s4 => ⟨true, rfl, iteF ?_⟩⟩
        have S4 := s3.trans s4
        refine ⟨.int (j : Nat), rfl, rfl, ?_⟩
        rw [hpp]
        refine ⟨.str s, rfl, p, tl s, by rw [S_tl]; rfl, by rw [← TL.len_tl]; exact ls, ms, T2.ext S4, fun G5 e5 T5 => ⟨true, rfl, iteF ?_⟩⟩
        exact ⟨_, _, rfl, (e2.trans (.of S4)).trans e5, T5⟩
      · obtain ⟨b6, b11, rfl, e2, T2⟩ := e
        exact ⟨_, _, _, _, rfl, (eJ.trans (.of sJ)).trans e2, T2⟩
    · obtain ⟨b6, b9, b10, b11, rfl, eJ, TJ⟩ := e
      refine tup_for (ds := oddT) (mk_tup (mka_cons mk_non (mka_cons mk_int (mka_cons (mk_lst mka_nil) (mka_cons (mk_lst (mka_cons mk_str mka_nil)) (mka_cons mk_d0 (mka_cons mk_bl (mka_cons (mk_tup (mka_cons mk_str mka_nil)) mka_nil)))))))) (fun HU σ G => ∃ (b12 b13 : Option V), σ = [some (.ref a), some (.ref l), some (.ref pc), a3, a4, a5, b6, a7, a8, b9, b10, b11, b12, b13] ∧ ExtN HU G ∧ Tabs T G) (fun HU eU => ⟨_, _, rfl, .refl _, TJ.ext eU⟩) (fun HU σ G e => ?_) (fun HU y d σ G eU hd ty e => ?_) (fun HU σ G eU e => ?_)
      · obtain ⟨_, _, _, e, _⟩ := e
        exact e
      · obtain ⟨b12, b13, rfl, E0', T0⟩ := e
        have st : isSt d = false := by
          have := (Bool.and_eq_true_iff.mp (List.all_eq_true.mp oddT_all d hd)).1
          rw [Bool.not_eq_true'] at this
          exact this
        have ty0 := ty.ext (hid_N E0')
        refine gset ?_
        refine T3.set_intro (i := 12) ?_
        refine lst_intro ?_
        refine ⟨y, rfl, y, d, rfl, ty0.ext hid_up, no_st st, fun G1 s1 => ?_⟩
        rw [fau_no st]
        refine ⟨y, rfl, y, d, rfl, (ty0.ext (hid_same s1)).ext hid_up, no_st st, fun G2 s2 => ?_⟩
        rw [fau_no st]
        have S2 := s1.trans s2
        have ty2 := ty0.ext (hid_same S2)
        refine gv_odd ty2 st _ G2 _ rfl (.refl _) (T0.ext S2) fun G3 t3 e3 T3' q3 => ⟨small4 3, fun F nF => ?_⟩
        have z4 := same_new (o := .lst [V.int (-1), .int (-1), .ref t3]) nF
        have hF := upd_same (H := G3) (a := F) (o := .lst [V.int (-1), .int (-1), .ref t3])
        have q4 := z4 _ _ q3
        have T4 := T3'.ext z4
        have E4 := (E0'.trans (.of S2)).trans (e3.trans (.of z4))
        generalize upd G3 F (.lst [V.int (-1), .int (-1), .ref t3]) = G4 at hF q4 T4 E4 ⊢
        clear z4 nF q3 T3' e3 s1 s2 S2 ty2 G3
        refine T3.if_intro ?_
        refine ⟨.ref F, rfl, ?_⟩
        refine lst_intro ?_
        refine gv_odd (ty.ext (hid_N E4)) st _ G4 _ rfl (.refl _) T4 fun G5 t5 e5 T5 q5 => ⟨small4 1, fun F2 nF2 => ?_⟩
        have z6 := same_new (o := .lst [V.ref t5]) nF2
        have hF6 := z6 _ _ (e5 _ _ hF (fun ps z => nomatch z))
        have q46 := z6 _ _ (e5 _ _ q4 (fun ps z => nomatch z))
        refine ⟨F, F2, _, _, rfl, rfl, hF6, upd_same, by rw [sizeLine_eq]; exact Nat.le_of_ble_eq_true rfl, fun F3 nF3 => ?_⟩
        have z7 := same_new (o := .lst ([V.int (-1), .int (-1), .ref t3] ++ [V.ref t5])) nF3
        have hF3 := upd_same (H := upd G5 F2 (.lst [V.ref t5])) (a := F3) (o := .lst ([V.int (-1), .int (-1), .ref t3] ++ [V.ref t5]))
        refine ⟨1, rfl, 1, rfl, 1, rfl, small4 2, fun u1 n1 => ⟨1, rfl, small4 2, fun u2 n2 => ⟨small4 4, fun u3 n3 => ?_⟩⟩⟩
        have y1 := same_new (o := .tup [V.str "text", .int (-1)]) n1
        have y2 := same_new (o := .tup [V.str "text", .int (-1)]) n2
        have y3 := same_new (o := .lst [V.int (-1), .int (-1), .ref u1, .ref u2]) n3
        have Y := y1.trans (y2.trans y3)
        have tT : ∀ {G : Hp} {a : Addr}, G a = some (.tup [.str "text", .int (-1)]) → Th G (.ref a) (.tuple [.str "text", .int (-1)]) := fun h => .tup h (.cons (.str _) (.cons (.int _) .nil))
        refine ⟨.ref F3, .ref u3, .list [.int (-1), .int (-1), .tuple [.str "text", .int (-1)], .tuple [.str "text", .int (-1)]], rfl, .lst (Y _ _ hF3) (.cons (.int _) (.cons (.int _) (.cons (tT (Y _ _ (z7 _ _ q46))) (.cons (tT (Y _ _ (z7 _ _ (z6 _ _ q5)))) .nil)))), .lst upd_same (.cons (.int _) (.cons (.int _) (.cons (tT (y3 _ _ (y2 _ _ upd_same))) (.cons (tT (y3 _ _ upd_same)) .nil)))), rfl, fun G8 s8 => ⟨true, rfl, iteF ?_⟩⟩
        have SA := z6.trans (z7.trans (Y.trans s8))
        exact ⟨_, _, rfl, (E4.trans e5).trans (.of SA), T5.ext SA⟩
      · exact k G
end
end K14.T69
namespace Kz
open PySem PySem.W PySem.Calls PyProof.Rows L2 LamX

/-! ### the end: the script's list and the tables alone are followed -/
section
variable {P : Program} {w : World} {K : Frag} {mg mb : Str → Option Value} {s : Shared} {cs : List (Addr × Addr)} {a : Addr} {vs : List Value} {ns : List Int}
/-- the script's list as it stands -/
abbrev scO (vs : List Value) : Obj := { cls := .type "list", data := .seq vs.toArray }
abbrev emO : Obj := { cls := .none, data := .fields #[] }
/-- what is followed at the law's start: fr, whether the script's list is (it isn't where the written part holds it) -/
def endH (cs : List (Addr × Addr)) (a : Addr) (vs : List Value) (ns : List Int) (fr : Bool) : Hp := fun b => if b ∈ cs.map (·.2) then some (.tbl #[]) else if fr = true ∧ b = a then some (.frz (scO vs) (.lst (ns.map V.int))) else none
theorem endH_tab {fr : Bool} {p : Addr × Addr} (hp : p ∈ cs) : endH cs a vs ns fr p.2 = some (.tbl #[]) := if_pos (List.mem_map.mpr ⟨p, hp, rfl⟩)
theorem endH_cases {fr : Bool} {b : Addr} {o : HO} (h : endH cs a vs ns fr b = some o) : (b ∈ cs.map (·.2) ∧ o = .tbl #[]) ∨ (fr = true ∧ b = a ∧ o = .frz (scO vs) (.lst (ns.map V.int))) := by
  unfold endH at h
  by_cases h1 : b ∈ cs.map (·.2)
  · rw [if_pos h1] at h
    exact .inl ⟨h1, (Option.some.inj h).symm⟩
  · rw [if_neg h1] at h
    by_cases h2 : fr = true ∧ b = a
    · rw [if_pos h2] at h
      exact .inr ⟨h2.1, h2.2, (Option.some.inj h).symm⟩
    · rw [if_neg h2] at h
      cases h
theorem end_law {CX : CXT} {k : Nat} {fa : Addr} {fd : FuncData} {x : Str} {sp : Sp} (KX : K.In s.heap) (hns : s.heap.Ns mainGlobals mg) (hb : s.heap.Ns builtinsNs mb) (hbb : ∀ y : Str, y ≠ "__name__" → mb y = bootBuiltins y) (hlim : s.heap.NoLimit) (hg : s.gens = #[])
    (hT : ∀ p ∈ cs, s.heap.get? p.2 = some emO) (nT : ∀ p ∈ cs, K.lookup p.2 = none) (C : ∀ p ∈ cs, CodeHd s.heap p.1 p.2)
    (hbm : ∃ (bm : Addr) (ob : Obj), mg "__builtins__" = some (.ref bm) ∧ bm ≠ builtinsNs ∧ s.heap.get? bm = some ob ∧ ob.cls = .type "module" ∧ ob.dict = some builtinsNs ∧ ob.data = .plain)
    (ha : s.heap.get? a = some (scO vs)) (hi : IntsAre vs ns) (hl : ns.length ≤ sizeLine) (hr : Room k callerA)
    (G : ∀ base : Heap, K.In base → base.Ns mainGlobals mg → (∀ p ∈ cs, TabB base mg p.1 p.2) → FnG P w K mg base CX k fa fd [x] sp) (hbind : ∀ (s : Shared) (u : Value), BindsTo s fd ⟨[u], []⟩ [(x, u)])
    (hsp : ∀ H : Hp, (∀ p ∈ cs, H p.2 = some (.tbl #[])) → SqL K H a (ns.map V.int) → sp [.ref a] H (fun v _ => v = .bl true) fun _ _ _ => False) (hCX : ∀ H e s', CX [] H s (fun _ _ _ => False) e s' → False) :
    codeAny (model P w) callerA (.call (.ref fa) ⟨[.ref a], []⟩) (fun r s' => r = .ok (.ret (.bool true)) ∧ OldK s.heap s'.heap ∧ s'.os = s.os ∧ AllBare s'.gens) s := by
  have rv := vals_ints hi
  have lv := hi.length
  have tabAt : ∀ b, b ∈ cs.map (·.2) → s.heap.get? b = some emO := fun b hb => by
    obtain ⟨p, hp, rfl⟩ := List.mem_map.mp hb
    exact hT p hp
  have tabK : ∀ b, b ∈ cs.map (·.2) → K.lookup b = none := fun b hb => by
    obtain ⟨p, hp, rfl⟩ := List.mem_map.mp hb
    exact nT p hp
  have aN : a ∉ cs.map (·.2) := fun z => by
    have q := (tabAt a z).symm.trans ha
    cases congrArg (fun o : Option Obj => o.map (·.data)) q
  generalize hfr : (K.lookup a).isNone = fr
  have eA : fr = true → K.lookup a = none := fun z => by
    rw [z] at hfr
    exact Option.isNone_iff_eq_none.mp hfr
  have hS : SqL K (endH cs a vs ns fr) a (ns.map V.int) := by
    cases fr with
    | true => exact .inl (.inr ⟨scO vs, by unfold endH; rw [if_neg aN, if_pos ⟨rfl, rfl⟩]⟩)
    | false =>
      cases q : K.lookup a with
      | none => rw [q] at hfr; cases hfr
      | some o =>
        obtain rfl : scO vs = o := Option.some.inj (ha.symm.trans (KX a o q))
        exact .inr ⟨_, vs.toArray, _, q, rfl, rfl, rfl, by rw [List.size_toArray, lv]; exact hl, by simpa using rv⟩
  have hok : HOk P w (endH cs a vs ns fr) s.heap := fun b o e => by
    rcases endH_cases e with ⟨h1, rfl⟩ | ⟨h1, rfl, rfl⟩
    · exact tabAt b h1
    · exact ⟨ha, by rw [List.length_map]; exact hl, vs, _, rv, ha⟩
  -- what is not followed stands in the base
  have toB : ∀ {b : Addr} {o : Obj}, s.heap.get? b = some o → (∀ vs n, o.data ≠ .seq vs n) → o.data ≠ .fields #[] → (hidT s.heap (endH cs a vs ns fr)).get? b = some o := fun {b o} e h1 h2 => hidT_get e (by
    cases q : endH cs a vs ns fr b with
    | none => rfl
    | some u =>
      rcases endH_cases q with ⟨z, _⟩ | ⟨_, rfl, _⟩
      · exact absurd (congrArg Obj.data (Option.some.inj (e.symm.trans (tabAt b z)))) h2
      · exact absurd (congrArg Obj.data (Option.some.inj (e.symm.trans ha))) (h1 _ _))
  have nsB : ∀ {b : Addr} {m : Str → Option Value}, s.heap.Ns b m → (hidT s.heap (endH cs a vs ns fr)).Ns b m := fun {b m} ⟨o, es, ep, e, d, r⟩ => ⟨o, es, ep, toB e (fun _ _ z => by rw [d] at z; cases z) (fun z => by rw [d] at z; cases z), d, r⟩
  have kB : K.In (hidT s.heap (endH cs a vs ns fr)) := fun b o e => hidT_get (KX b o e) (by
    cases q : endH cs a vs ns fr b with
    | none => rfl
    | some u =>
      rcases endH_cases q with ⟨z, _⟩ | ⟨z, rfl, _⟩
      · rw [tabK b z] at e; cases e
      · rw [eA z] at e; cases e)
  have M : L2.Mod K mg (hidT s.heap (endH cs a vs ns fr)) := ⟨kB, nsB hns, ⟨mb, nsB hb, hbb⟩, let ⟨mc, h1, h2⟩ := hlim; ⟨mc, nsB h1, h2⟩⟩
  have TB : ∀ p ∈ cs, TabB (hidT s.heap (endH cs a vs ns fr)) mg p.1 p.2 := fun p hp => by
    have tp := hT p hp
    refine ⟨?_, ?_, fun z => ?_⟩
    · obtain ⟨o, us, file, tf, flags, tg, inF, text, tt, e1, e2, e3, e4, r⟩ := C p hp
      exact ⟨o, us, file, tf, flags, tg, inF, text, tt, toB e1 (fun _ _ z => by rw [e3] at z; cases z) (fun z => by rw [e3] at z; cases z; simp at e4), e2, e3, e4, r⟩
    · obtain ⟨bm, ob, b1, b2, b3, b4, b5, b6⟩ := hbm
      refine ⟨bm, ob, b1, b2, fun q => ?_, fun q => ?_, toB b3 (fun _ _ z => by rw [b6] at z; cases z) (fun z => by rw [b6] at z; cases z), b4, b5, b6⟩
      · obtain ⟨o, es, ep, e, hd, _⟩ := hns
        rw [q, e] at b3
        cases b3
        rw [hd] at b6
        cases b6
      · rw [q, tp] at b3
        cases b3
        cases b6
    · obtain ⟨o, es, ep, e, hd, _⟩ := hns
      rw [z, tp] at e
      cases e
      cases hd
  have E0 : Env0 P w K mg (hidT s.heap (endH cs a vs ns fr)) callerA [] s (endH cs a vs ns fr) := ⟨rfl, M, fun b o e => of_hidT e, Nat.le_of_eq (hidT_size _ _), trivial, fun b hb => (nomatch (show b ∈ ([] : List Addr) from hb)), hok, .of_eq hg⟩
  refine codeAny_mono ((G _ kB (nsB hns) TB).run callerA [] s _ ⟨[.ref a], []⟩ [.ref a] [.ref a] _ _ rfl hr E0 (hbind s (.ref a)) (.cons rfl .nil) (hsp _ (fun p hp => endH_tab hp) hS)) fun r s' h => ?_
  cases r with
  | error e => exact (hCX _ e s' h).elim
  | ok fl =>
    cases fl with
    | ret u =>
      obtain ⟨v, H', os, bare, un, hok', r', q⟩ := h
      obtain rfl : v = .bl true := q
      obtain rfl : u = Value.bool true := r'
      have keep : ∀ b o, b ∉ cs.map (·.2) → s.heap.get? b = some o → s'.heap.get? b = some o := fun b o nb e => by
        cases q : endH cs a vs ns fr b with
        | none => exact un.keep b o e q (fun z => nomatch (show b ∈ ([] : List Addr) from z)) (by simp)
        | some u =>
          rcases endH_cases q with ⟨z, _⟩ | ⟨_, _, rfl⟩
          · exact absurd z nb
          · have e1 := (hok b _ q).1
            rw [Option.some.inj (e.symm.trans e1)]
            exact (hok' b _ (un.frzs b _ _ q)).1
      have grow : ∀ b, b ∈ cs.map (·.2) → ∃ c, CodeHd s.heap c b ∧ ∃ more : Array Value, s'.heap.get? b = some { cls := .none, data := .fields more } := fun b hb => by
        obtain ⟨p, hp, rfl⟩ := List.mem_map.mp hb
        obtain ⟨more, z⟩ := un.tbls p.2 #[] (endH_tab hp)
        exact ⟨p.1, C p hp, _, hok' p.2 _ z⟩
      refine ⟨rfl, ⟨fun b o e => ?_, fun b o e => ?_⟩, os, bare⟩
      · by_cases hb : b ∈ cs.map (·.2)
        · obtain ⟨c, hc, more, hm⟩ := grow b hb
          obtain rfl : emO = o := Option.some.inj ((tabAt b hb).symm.trans e)
          exact .inr (.inl ⟨(hc.tab (tabAt b hb)).isCodeTable, rfl, #[], more, rfl, by rw [Array.empty_append]; exact hm⟩)
        · exact .inl (keep b o hb e)
      · by_cases hb : b ∈ cs.map (·.2)
        · obtain ⟨c, hc, more, hm⟩ := grow b hb
          exact ⟨_, hm⟩
        · exact ⟨o, keep b o hb e⟩
    | _ => exact h.elim
end
end Kz
namespace Kz
open PySem PySem.W PySem.Calls PyProof.Rows L2 LamX
open He (ga ma eqO eqO_ok ba)
theorem walk_G {l : OpenLaw} {n k : Nat} {q : Program} {loose : List Str} {XP : (Str → Option Value) → Heap → Prop} {YP : World → Heap → Prop} {d : DefRec} {CX : World → CXT} {x : Str} (hn : l.most = some n) (hn2 : n ≤ sizeLine) (hdf : d.params.defaults = []) (hr : Room k callerA)
    (F : ∀ (w : World) (mg : Str → Option Value) (fa : Addr) (h : Heap), YP w h → h.Ns mainGlobals mg → mg d.name = some (.ref fa) → ∃ (K : Frag) (fd : FuncData) (cs : List (Addr × Addr)) (sp : Sp), K.In h ∧ (∀ p ∈ cs, h.get? p.2 = some emO) ∧ (∀ p ∈ cs, K.lookup p.2 = none) ∧ (∀ p ∈ cs, CodeHd h p.1 p.2) ∧
      (∀ (s : Shared) (u : Value), BindsTo s fd ⟨[u], []⟩ [(x, u)]) ∧ (∀ (H : Hp) (a : Addr) (ns : List Int), ns.length ≤ n → (∀ p ∈ cs, H p.2 = some (.tbl #[])) → SqL K H a (ns.map V.int) → sp [.ref a] H (fun v _ => v = .bl true) fun _ _ _ => False) ∧
      ∀ base : Heap, K.In base → base.Ns mainGlobals mg → (∀ p ∈ cs, TabB base mg p.1 p.2) → FnG l.prog w K mg base (CX w) k fa fd [x] sp)
    (hCX : ∀ (w : World) (H : Hp) (s : Shared) (e : Value) (s' : Shared), CX w [] H s (fun _ _ _ => False) e s' → False) : WalkO q loose XP YP l.row.toRowW d [] (fun f vs => PySem.call f vs) := by
  refine Att.attach_callB hn hdf fun w s0 s1 mg mb fa o pm cd doc a vs ns G Y ho hd hcd hmg hobj hints hlen hbits hg => ?_
  obtain ⟨K, fd, cs, sp, KX, hT, nT, C, hb, hsp, hF⟩ := F w mg fa _ Y G.T.g hmg
  exact end_law KX G.T.g G.T.b G.T.builtins G.T.nolimit hg hT nT C G.T.bmain hobj hints (Nat.le_trans hlen hn2) hr hF hb (fun H hH hS => hsp H a ns hlen hH hS) fun H e s' => hCX w H s1 e s'

/-! ### what the looks say of a class -/
end Kz
namespace K14.T69
open T27 T3
open K14.Gn
open PySem PySem.W PySem.Calls PyProof.Rows L2 LamX
open He (ga ma eqO ba frT fAd cT codeOf tabOf emptyTab)
def pgm : Program := PySem.Challenge.pw_twinforks_k69_whole_texts_of_courses_and
def FEa (K : Frag) : Addr := ga K "ForkError"
def veT : List Value := [.type "ValueError", .type "Exception", .type "BaseException", .type "object"]
def shapeB (K : Frag) (FE C : Addr) : Bool := match K.lookup C with
  | some ⟨.type t, _, .cls cd, sl⟩ => decide (t = "type") && (decide (cd.mro = .ref C :: .ref FE :: veT) && (cd.hasDict && (!cd.hasDel && (match sl.toList with | [_, _, _, _, some (.builtin n), _] => decide (n = "ValueError.__new__") | _ => false))))
  | _ => false
def initB (K : Frag) (C : Addr) : Bool := match K.lookup (ma K C "__init__") with
  | some ⟨cl, _, .func fd, _⟩ => decide (cl = .type "function") && ((match fd.code with
    | .ref c => codeIn K (.ref c) fd.qualname && (match K.lookup c with
      | some ⟨_, _, .fields vs, _⟩ => (match (vs[2]? : Option Value) with | some (.str file _) => (pgm.main.file : Str) == file | _ => false)
      | _ => false)
    | _ => false) && (match fd.closure with
    | [(_, cc)] => (match K.lookup cc with | some ⟨_, _, .cell (some v), _⟩ => decide (v = .ref C) | _ => false)
    | _ => false))
  | _ => false
def xiB (K : Frag) (C : Addr) : Bool := xfB K C && ((clsIn K C).isSome && (eqO (findIn K (.ref C) "__class__") (some (some (.builtin "object.__class__"))) && decide (mroIn K C (.type "object") = some true)))
def clsB (K : Frag) (FE C : Addr) (fs : List Str) : Bool :=
  shapeB K FE C && (initB K C && (xiB K C && (eqO (findIn K (.ref C) "__setattr__") (some (some (.builtin "object.__setattr__"))) && (keepIn K (.ref C) && (eqO (findIn K (.ref C) "__init__") (some (some (.ref (ma K C "__init__")))) &&
    (decide (ks_superIn K C C "__init__" = some (some (.builtin "ValueError.__init__"))) && (decide (subIn K (.ref C) (.type "ValueError") = some true) && (decide (mroIn K C (.ref C) = some true) &&
    (decide (kitOne K (.ref C) (.ref FE) = some true) && (decide (kitOne K (.ref C) (.type "ValueError") = some true) && (decide (kitOne K (.ref C) (.type "LookupError") = some false) && fs.all fun f => eqO (findIn K (.ref C) f) (some none))))))))))))
def feB (K : Frag) (FE : Addr) : Bool := xiB K FE && (keepIn K (.ref FE) && (excIn K FE veT "ValueError.__new__" && (decide (kitOne K (.ref FE) (.type "ValueError") = some true) && (match K.lookup FE with
  | some ⟨_, _, .cls cd, _⟩ => decide (cd.mro = .ref FE :: veT)
  | _ => false))))
def oncB (K : Frag) : Bool := decide (nsIn K cStatics "thirdparty.any" = some none) && (decide (specialIn K (.builtin "object.__class__") "__get__" = some (some (.builtin "getset_descriptor.__get__"))) && decide (takesIn K (.builtin "object.__class__") = some true))
def ones : List (Str × Str) := [("BadForm", "thing"), ("BadText", "index")]
def tfs : List He.Defn := [("_law_judged_right", none), ("_law_written", none), ("law", none)]
def strV : Value → Option Str
  | .str x _ => some x
  | _ => none
def keptK (K : Frag) : Bool := match K.lookup (ga K "KEPT") with
  | some ⟨cl, _, .seq its _, _⟩ => decide (cl = .type "tuple") && (decide (its.toList.map strV = kept.map some) && decide (its.size ≤ 10))
  | _ => false
def sysB (K : Frag) : Bool := match K.lookup sysModules with
  | some o => decide (o.cls = .type "dict")
  | none => false
def dsAll (K : Frag) : List Addr := ones.map fun p => ga K p.1
def exZ (K : Frag) : Bool := oncB K && (feB K (FEa K) && (decide ((FEa K :: dsAll K).Nodup) && ((ones.all fun p => clsB K (FEa K) (ga K p.1) [p.2]) && ((keptK K && sysB K) && decide ((tfs.map fun p => (cT K p).2).Nodup)))))
/-! a dict of the top, texts to texts -/
def entOf (e : DictEntry) : Option (Str × Int × Str) := match e.key, e.val with
  | .str x _, .str y _ => some (x, e.hash, y)
  | _, _ => none
def dicB (K : Frag) (a : Addr) : Option (List (Option (Str × Int × Str))) := match K.lookup a with
  | some ⟨.type c, none, .dict es _, sl⟩ => (match decide (c = "dict") && (sl.isEmpty && !(a == sysModules)) with
    | true => some (es.toList.map entOf)
    | false => none)
  | _ => none
def dicN : List (Str × List (Str × Str)) := [("STEP_SLOTS", [("grow", "kind"), ("shrink", "index"), ("turn", "index"), ("loop", "step"), ("unloop", "step")])]
def dicV (w : World) (kvs : List (Str × Str)) : Option (List (Option (Str × Int × Str))) := some (kvs.map fun p => some (p.1, PyData.keyHash w.params p.1, p.2))
/-! the texts of the classes' own -/
abbrev FnI : Type := Option (Str × Str × Arguments × FuncBody × Scope × Addr × Value × Addr × List Str)
def fnI (K : Frag) (C : Addr) : FnI := match K.lookup (ma K C "__init__") with
  | some ⟨_, _, .func fd, _⟩ => some (fd.name, fd.qualname, fd.params, fd.body, fd.scope, fd.globals, fd.defaults, fd.builtins, fd.closure.map (·.1))
  | _ => none
def initS : Stmt → Stmt
  | .ClassDef _ _ _ (i :: _) _ _ _ _ _ _ _ => i
  | s => s
/-- the class that the top's i-th statement makes -/
def clsName : Stmt → Str
  | .ClassDef n _ _ _ _ _ _ _ _ _ _ => n
  | _ => ""
def valI (st : Stmt) : FnI := some ("__init__", clsName st ++ ".__init__", defArgs (initS st), .stmts (defBody (initS st)), defScope (initS st), mainGlobals, .none, builtinsNs, ["__class__"])

/-! ### what the head looks at -/
def glG (g : Addr → Option Obj) (x : Str) : Addr := match g mainGlobals with
  | some ⟨_, _, .dict es _, _⟩ => (match es.toList.find? (·.key.isStr x) with | some e => (match e.val with | .ref a => a | _ => 0) | none => 0)
  | _ => 0
def fnG (g : Addr → Option Obj) (f : Addr) : List Addr := match g f with
  | some ⟨_, _, .func fd, _⟩ => (match fd.code with | .ref c => [c] | _ => []) ++ fd.closure.map (·.2)
  | _ => []
def moreG (g : Addr → Option Obj) (a : Addr) : List Addr := match g a with
  | some ⟨_, _, .cls cd, _⟩ => cd.ns :: (match g cd.ns with
    | some ⟨_, _, .dict es _, _⟩ => es.toList.flatMap fun e => match e.val with | .ref f => f :: fnG g f | _ => []
    | _ => [])
  | some ⟨_, _, .func _, _⟩ => fnG g a
  | _ => []
def clsNames : List Str := ones.map (·.1)
def defNames1 : List Str := (["_wall", "is_list", "is_pair", "is_number", "begins_name", "is_name", "names_from", "is_numeral", "greatest_from", "scanned", "fault_of", "check_fault", "lines_of", "is_index", "is_course_form", "is_step_form", "course_text", "read_course", "course_fault", "steps_text"] : List Str) ++ (["step_of", "read_steps", "steps_fault"] : List Str)
def defNames2 : List Str := (["_law_is_name", "_law_line", "_law_may_be_name", "_law_bent_text", "_law_start", "_law_draw", "_law_pick", "_law_mixed", "_law_same", "_law_each_once", "_law_loose", "_law_spoilt", "_law_is_once", "_law_apart", "_law_number_fits", "_law_paper_fits", "_law_paper_read", "_law_paper_text", "_law_index", "_law_course_drawn"] : List Str) ++ (["_law_steps_drawn", "_law_asked", "_law_odd_rows", "_law_judged_right", "_law_written", "_law_written_right", "_law_written_texts", "law"] : List Str)
def defNames : List Str := defNames1 ++ defNames2
def conNames : List Str := ["KEPT", "STEP_SLOTS", "Stock", "CourseReader", "StepsReader"]
def allNames : List Str := ("ForkError" : Str) :: (conNames ++ (clsNames ++ defNames))
def needs (g : Addr → Option Obj) : List Addr := mainGlobals :: cStatics :: sysModules :: allNames.flatMap fun x => glG g x :: moreG g (glG g x)
def defAt (i : Nat) : He.DefD := match topS i with
  | .FunctionDef n a b _ _ _ sc _ _ _ => ⟨(n, none), n, n, a, b, sc, [], []⟩
  | _ => ⟨("", none), "", "", ⟨[], [], none, [], [], none, []⟩, [], ⟨.function, [], false, false, []⟩, [], []⟩
def mtAt (c q : Str) (i j : Nat) : He.DefD := match mS i j with
  | .FunctionDef n a b _ _ _ sc _ _ _ => ⟨(c, some n), n, q, a, b, sc, [], []⟩
  | _ => ⟨("", none), "", "", ⟨[], [], none, [], [], none, []⟩, [], ⟨.function, [], false, false, []⟩, [], []⟩
def fns : List He.DefD := [defAt 0, defAt 11, defAt 12, defAt 13, defAt 14, defAt 15, defAt 17, defAt 23, defAt 24, defAt 28, defAt 29, defAt 30, defAt 31, defAt 33, defAt 34, defAt 35, defAt 36, defAt 37, defAt 38, defAt 39, defAt 40, defAt 41, defAt 42, defAt 44, defAt 45, defAt 46, defAt 47, defAt 48, defAt 49, defAt 50, defAt 51, defAt 52, defAt 53, defAt 54, defAt 55, defAt 56, defAt 57, defAt 58, defAt 59, defAt 60, defAt 61, defAt 62, defAt 63, defAt 64, defAt 65, defAt 66, defAt 67, defAt 68, defAt 69, defAt 70, defAt 71, mtAt "Stock" "Stock.__init__" 18 0, mtAt "Stock" "Stock.may_begin" 18 2, mtAt "Stock" "Stock.has" 18 3, mtAt "CourseReader" "CourseReader.__init__" 25 0, mtAt "CourseReader" "CourseReader.may_begin" 25 1, mtAt "CourseReader" "CourseReader.may_end" 25 2, mtAt "CourseReader" "CourseReader.put" 25 3, mtAt "CourseReader" "CourseReader.is_done" 25 4, mtAt "StepsReader" "StepsReader.__init__" 26 0, mtAt "StepsReader" "StepsReader.may_begin" 26 1, mtAt "StepsReader" "StepsReader.may_end" 26 2, mtAt "StepsReader" "StepsReader.put" 26 3, mtAt "StepsReader" "StepsReader.is_done" 26 4]
def fas : List He.Fa := allNames.map He.Fa.glo ++ [.free "super", .free "list", .free "int", .free "len", .free "range", .free "isinstance", .free "repr", .free "tuple", .free "dict", .free "zip", .free "all", .free "enumerate", .free "bool", .free "str", .free "any", .free "min", .str "LETTERS" letters, .str "NAME_SIGNS" signs, .str "FIGURES" figs, .int "LONGEST_NAME" 8, .int "LONGEST_NUMBER" 9, .int "GREATEST" 999999999, .cls "Stock", .noat "Stock" "most", .noat "Stock" "times", .noat "Stock" "singles", .noat "Stock" "spent", .mkr "Stock", .meth "Stock" "may_begin", .meth "Stock" "has", .cls "CourseReader", .noat "CourseReader" "first", .mkr "CourseReader", .meth "CourseReader" "may_begin", .meth "CourseReader" "may_end", .meth "CourseReader" "put", .meth "CourseReader" "is_done", .cls "StepsReader", .noat "StepsReader" "slot", .noat "StepsReader" "wire_names", .mkr "StepsReader", .meth "StepsReader" "may_begin", .meth "StepsReader" "may_end", .meth "StepsReader" "put", .meth "StepsReader" "is_done"]
def stsI : List Stmt := [topS 3, topS 4]
abbrev DiZ : Type := List (Option (List (Option (Str × Int × Str))))
abbrev AlZ : Type := He.AlD × (List FnI × (Bool × DiZ))
def obsK (g : Addr → Option Obj) (K : Frag) : AlZ := (He.obsD fas fns K, (clsNames.map fun x => fnI K (ga K x)), (exZ K && He.tabsB g tfs K, dicN.map fun p => dicB K (ga K p.1)))
def obsZ (g : Addr → Option Obj) : AlZ := obsK g (frT g (needs g))
def valZ (w : World) : AlZ := (He.valD fns, stsI.map valI, (true, dicN.map fun p => dicV w p.2))
structure SaysZ (w : World) (h : Heap) (K : Frag) : Prop where
  i : K.In h
  d : He.obsD fas fns K = He.valD fns
  c : (clsNames.map fun x => fnI K (ga K x)) = stsI.map valI
  e : exZ K = true
  t1 : ∀ p ∈ tfs, codeHdIn K (cT K p).1 (cT K p).2 = true
  t2 : ∀ p ∈ tfs, K.lookup (cT K p).2 = none
  t3 : ∀ p ∈ tfs, h.get? (cT K p).2 = some { cls := .none, data := .fields #[] }
  f : (dicN.map fun p => dicB K (ga K p.1)) = dicN.map fun p => dicV w p.2
def hookZ : Hook where
  α := AlZ
  obs := fun s => obsZ s.heap.get?
  val := fun w => valZ w
  says := fun w h => ∃ K : Frag, SaysZ w h K
  of := fun _ h e => by
    have e1 := congrArg (fun z : AlZ => z.1) e
    have e2 := congrArg (fun z : AlZ => z.2.1) e
    have e3 : (exZ (frT h.heap.get? (needs h.heap.get?)) && He.tabsB h.heap.get? tfs (frT h.heap.get? (needs h.heap.get?))) = true := congrArg (fun z : AlZ => z.2.2.1) e
    have e4 := congrArg (fun z : AlZ => z.2.2.2) e
    obtain ⟨h1, h2⟩ := ba e3
    have key : ∀ p ∈ tfs, codeHdIn (frT h.heap.get? (needs h.heap.get?)) (cT (frT h.heap.get? (needs h.heap.get?)) p).1 (cT (frT h.heap.get? (needs h.heap.get?)) p).2 = true ∧ ∃ o, h.heap.get? (cT (frT h.heap.get? (needs h.heap.get?)) p).2 = some o ∧ emptyTab o = true := fun p hp => by
      obtain ⟨k1, k2⟩ := ba (List.all_eq_true.mp h2 p hp)
      refine ⟨k1, ?_⟩
      cases q : h.heap.get? (cT (frT h.heap.get? (needs h.heap.get?)) p).2 with
      | none => rw [q] at k2; cases k2
      | some o => rw [q] at k2; exact ⟨o, rfl, k2⟩
    refine ⟨_, He.frT_in, e1, e2, h1, fun p hp => (key p hp).1, fun p hp => ?_, fun p hp => ?_, e4⟩
    · obtain ⟨_, o, q, z⟩ := key p hp
      exact He.frT_none q z
    · obtain ⟨_, o, q, z⟩ := key p hp
      rw [q, He.emptyTab_eq z]
  keeps := fun _ _ _ ⟨K, z⟩ k => ⟨K, ⟨Frag.In.keeps z.i k, z.d, z.c, z.e, z.t1, z.t2, fun p hp => k _ _ (z.t3 p hp), z.f⟩⟩
def obZ (s : SharedT) : AlZ := obsZ (HandSHeadRun.getT s)
theorem obZ_eq (s : SharedT) : obZ s = hookZ.obs s.abs := by
  have e : HandSHeadRun.getT s = s.abs.heap.get? := funext (HandSHeadRun.getT_eq s)
  show obsZ (HandSHeadRun.getT s) = obsZ s.abs.heap.get?
  rw [e]
abbrev RZ : OpenRow := OpenLaw.row PySem.Challenge.rw_twinforks_k69_whole_texts_of_courses_and
def nms1 : List Str := (["_wall", "ForkError", "BadForm", "BadText", "KEPT", "LETTERS", "FIGURES", "NAME_SIGNS", "LONGEST_NAME", "is_list", "is_pair", "is_number", "begins_name", "is_name", "names_from", "Stock", "LONGEST_NUMBER", "GREATEST", "STEP_SLOTS", "is_numeral"] : List Str) ++ (["greatest_from", "CourseReader", "StepsReader", "scanned", "fault_of", "check_fault", "lines_of", "is_index", "is_course_form", "is_step_form", "course_text", "read_course", "course_fault", "steps_text", "step_of", "read_steps", "steps_fault"] : List Str)
def nms2 : List Str := (["_law_is_name", "_law_line", "_law_may_be_name", "_law_bent_text", "_law_start", "_law_draw", "_law_pick", "_law_mixed", "_law_same", "_law_each_once", "_law_loose", "_law_spoilt", "_law_is_once", "_law_apart", "_law_number_fits", "_law_paper_fits", "_law_paper_read", "_law_paper_text", "_law_index", "_law_course_drawn"] : List Str) ++ (["_law_steps_drawn", "_law_asked", "_law_odd_rows", "_law_judged_right", "_law_written", "_law_written_right", "_law_written_texts"] : List Str)
def nms : List Str := nms1 ++ nms2
end K14.T69
namespace K14.T69
open T27 T3
open K14.Gn
open PySem PySem.W PySem.Calls PyProof.Rows L2 LamX
open He (ga ma eqO eqO_ok ba cT)
open Kz (XF X1 ScI sSuper sPut)
/-! ### what the looks say of a class -/
section
variable {K : Frag} {FE C : Addr} {fs : List Str}
theorem shape_ok (h : shapeB K FE C = true) : (∃ nm q N bs sn sub ab col dd k0 k1 k2 k3 k5, K.lookup C = some (excClassObj nm q C N bs (.ref FE :: veT) true sn sub ab col dd k0 k1 k2 k3 k5 "ValueError.__new__")) := by
  unfold shapeB at h
  split at h
  · rename_i t od cd sl q
    obtain ⟨h1, h2⟩ := ba h
    obtain ⟨h3, h4⟩ := ba h2
    obtain ⟨h5, h6⟩ := ba h4
    obtain ⟨h7, h8⟩ := ba h6
    split at h8
    · rename_i k0 k1 k2 k3 n k5 e
      obtain ⟨nm, bs, mro, N, qn, hd, sn, sub, ab, col, hdel⟩ := cd
      have e1 : t = "type" := of_decide_eq_true h1
      have e2 : mro = .ref C :: .ref FE :: veT := of_decide_eq_true h3
      have e3 : hd = true := h5
      have e4 : hdel = false := by simpa using h7
      have e5 : n = "ValueError.__new__" := of_decide_eq_true h8
      obtain ⟨sl⟩ := sl
      have e6 : sl = [k0, k1, k2, k3, some (.builtin n), k5] := e
      subst e1 e2 e3 e4 e5 e6
      exact ⟨nm, qn, N, bs, sn, sub, ab, col, od, k0, k1, k2, k3, k5, q⟩
    · cases h8
  · cases h
/-- all that clsB says -/
structure CB (K : Frag) (FE C : Addr) (fs : List Str) : Prop where
  sh : shapeB K FE C = true
  ib : initB K C = true
  xi : xiB K C = true
  sa : findIn K (.ref C) "__setattr__" = some (some (.builtin "object.__setattr__"))
  kp : keepIn K (.ref C) = true
  ini : findIn K (.ref C) "__init__" = some (some (.ref (ma K C "__init__")))
  sup : ks_superIn K C C "__init__" = some (some (.builtin "ValueError.__init__"))
  sv : subIn K (.ref C) (.type "ValueError") = some true
  slf : mroIn K C (.ref C) = some true
  kF : kitOne K (.ref C) (.ref FE) = some true
  kV : kitOne K (.ref C) (.type "ValueError") = some true
  kL : kitOne K (.ref C) (.type "LookupError") = some false
  no : ∀ f ∈ fs, findIn K (.ref C) f = some none
theorem cb_ok (h : clsB K FE C fs = true) : CB K FE C fs := by
  obtain ⟨a1, h⟩ := ba h
  obtain ⟨a2, h⟩ := ba h
  obtain ⟨a3, h⟩ := ba h
  obtain ⟨a4, h⟩ := ba h
  obtain ⟨a5, h⟩ := ba h
  obtain ⟨a6, h⟩ := ba h
  obtain ⟨a7, h⟩ := ba h
  obtain ⟨a8, h⟩ := ba h
  obtain ⟨a9, h⟩ := ba h
  obtain ⟨b1, h⟩ := ba h
  obtain ⟨b2, h⟩ := ba h
  obtain ⟨b3, h⟩ := ba h
  exact ⟨a1, a2, a3, eqO_ok a4, a5, eqO_ok a6, of_decide_eq_true a7, of_decide_eq_true a8, of_decide_eq_true a9, of_decide_eq_true b1, of_decide_eq_true b2, of_decide_eq_true b3, fun f hf => eqO_ok (List.all_eq_true.mp h f hf)⟩
theorem CB.oex (c : CB K FE C fs) : OexC K C := by
  obtain ⟨nm, q, N, bs, sn, sub, ab, col, dd, k0, k1, k2, k3, k5, e⟩ := shape_ok c.sh
  exact ⟨⟨nm, q, N, bs, _, sn, sub, ab, col, dd, k0, k1, k2, k3, k5, e, rfl⟩, c.sa, (xfB_ok (ba c.xi).1).exC, (show (K.lookup C).map (·.cls) = some (.type "type") by rw [e]; rfl), c.kp⟩
theorem CB.mro (c : CB K FE C fs) (v : Value) : subIn K (.ref C) v = some ((.ref C :: .ref FE :: veT : List Value).contains v) := by
  obtain ⟨nm, q, N, bs, sn, sub, ab, col, dd, k0, k1, k2, k3, k5, e⟩ := shape_ok c.sh
  show mroIn K C v = _
  unfold mroIn clsIn
  rw [e]
  rfl
theorem CB.ex (c : CB K FE C fs) {d : Addr} {gs : List Str} (cd : CB K FE d gs) (nf : FE ≠ d) : exmOne K (.ref C) (.ref d) = some (decide (C = d)) := by
  have b : subIn K (.ref d) (.type "BaseException") = some true := by
    rw [cd.mro]
    rfl
  unfold exmOne
  rw [b, if_pos (by rfl)]
  unfold kitCls
  obtain ⟨nm, q, N, bs, sn, sub, ab, col, dd, k0, k1, k2, k3, k5, ed⟩ := shape_ok cd.sh
  have e1 : ((clsIn K d).isSome && typeIn K (.ref d) == some (.type "type")) = true := by
    show ((clsIn K d).isSome && (K.lookup d).map (·.cls) == some (.type "type")) = true
    unfold clsIn
    rw [ed]
    rfl
  show (if ((clsIn K d).isSome && typeIn K (.ref d) == some (.type "type")) = true then subIn K (.ref C) (.ref d) else none) = _
  rw [if_pos e1, c.mro]
  by_cases e : C = d
  · rw [decide_eq_true e, e]
    simp
  · rw [decide_eq_false e]
    have n1 : ((Value.ref d) == Value.ref C) = false := by simpa using fun z => e z.symm
    have n2 : ((Value.ref d) == Value.ref FE) = false := by simpa using fun z => nf z.symm
    show some ((Value.ref d == Value.ref C) || ((Value.ref d == Value.ref FE) || veT.contains (Value.ref d))) = _
    rw [n1, n2]
    rfl
end
section
variable {K : Frag} {FE C : Addr} {fs : List Str} {st : Stmt}
/-- the facts of an own __init__, its text in hand -/
theorem xf_of (c : CB K FE C fs) (hI : fnI K C = valI st) {params : Arguments} {body : List Stmt} {scope : Scope} (hp : defArgs (initS st) = params) (hb : defBody (initS st) = body) (hs : defScope (initS st) = scope) (on : oncB K = true) (glo : nsIn K mainGlobals "super" = some none) :
    XF pgm K C (ma K C "__init__") (clsName st ++ ".__init__") params body scope := by
  have hi := c.ib
  unfold initB at hi
  unfold fnI valI at hI
  cases q : K.lookup (ma K C "__init__") with
  | none =>
    rw [q] at hi
    cases hi
  | some o =>
    obtain ⟨cl, od, dt, sl⟩ := o
    rw [q] at hi hI
    cases dt with
    | func fd =>
      obtain ⟨n1, n2, n3, n4, n5, n6, n7, n8, n9, n10, n11, n12, n13, n14, n15⟩ := fd
      have e2 : (some (n1, n2, n3, n4, n5, n6, n8, n15, n7.map (·.1)) : FnI) = (some ("__init__", clsName st ++ ".__init__", defArgs (initS st), FuncBody.stmts (defBody (initS st)), defScope (initS st), mainGlobals, Value.none, builtinsNs, ["__class__"]) : FnI) := hI
      simp only [FnI, Option.some.injEq, Prod.mk.injEq] at e2
      obtain ⟨g1, g2, g3, g4, g5, g6, g7, g8, g9⟩ := e2
      subst g1 g2 g3 g4 g5 g6 g7 g8
      obtain ⟨j1, j2⟩ := ba hi
      obtain ⟨j3, j4⟩ := ba j2
      obtain rfl : cl = .type "function" := of_decide_eq_true j1
      rw [hp, hb, hs] at q
      obtain ⟨o1, _⟩ := ba on
      cases n13 with
      | ref cda =>
        obtain ⟨j5, j6⟩ := ba (show (codeIn K (.ref cda) (clsName st ++ ".__init__") && _) = true from j3)
        cases qc : K.lookup cda with
        | none =>
          rw [qc] at j6
          cases j6
        | some oc =>
          obtain ⟨ccl, cdd, cdt, ccs⟩ := oc
          rw [qc] at j6
          cases cdt with
          | fields vs =>
            cases q2 : (vs[2]? : Option Value) with
            | none =>
              have j7 : (match (vs[2]? : Option Value) with | some (.str file _) => (pgm.main.file : Str) == file | _ => false) = true := j6
              rw [q2] at j7
              cases j7
            | some fv =>
              have j7 : (match (vs[2]? : Option Value) with | some (.str file _) => (pgm.main.file : Str) == file | _ => false) = true := j6
              rw [q2] at j7
              cases fv with
              | str file tf =>
                cases n7 with
                | nil => cases g9
                | cons p r =>
                  cases r with
                  | cons p2 r2 => simp at g9
                  | nil =>
                    obtain ⟨x, cc⟩ := p
                    obtain rfl : x = "__class__" := by simpa using g9
                    have j8 : (match K.lookup cc with | some ⟨_, _, .cell (some v), _⟩ => decide (v = .ref C) | _ => false) = true := j4
                    cases qd : K.lookup cc with
                    | none =>
                      rw [qd] at j8
                      cases j8
                    | some od2 =>
                      obtain ⟨dcl, ddd, ddt, dsl⟩ := od2
                      rw [qd] at j8
                      cases ddt with
                      | cell ov =>
                        cases ov with
                        | none => cases j8
                        | some v =>
                          obtain rfl : v = .ref C := of_decide_eq_true j8
                          exact ⟨c.oex, c.ini, (show (K.lookup (ma K C "__init__")).map (·.cls) = some (.type "function") by rw [q]; rfl), ⟨_, _, _, _, _, _, cda, _, _, cc, ccl, cdd, vs, ccs, file, tf, _, _, _, q, j5, qc, q2, j7, qd⟩, c.sup, c.sv, c.slf, of_decide_eq_true o1, glo, by decide +kernel, xfB_ok (ba c.xi).1⟩
                      | _ => cases j8
              | _ => cases j7
          | _ => cases j6
      | _ => cases j3
    | _ => cases hi
end
/-- the text of an own error class with one field: what must be seen of it -/
structure T1 (st : Stmt) (f : Str) : Prop where
  ex : ∃ (params : Arguments) (scope : Scope) (msg : Str) (j : Nat) (p0 p1 p2 p3 p4 p5 q0 q1 q2 q3 : Pos), defArgs (initS st) = params ∧ defBody (initS st) = [sSuper msg j p0 p1 p2 p3 p4 p5, sPut f q0 q1 q2 q3] ∧ defScope (initS st) = scope ∧ (p2.endLine == p4.line) = true ∧ ScI params scope [f] ∧
    (∀ (qual : Str) (kV doc pm : Value) (an : Option Addr) (cdv ct : Value) (cc : Addr) (a u : Value), bindArgs (ksFn "__init__" qual params [sSuper msg j p0 p1 p2 p3 p4 p5, sPut f q0 q1 q2 q3] scope .none kV doc pm an cdv ct cc) ⟨[a, u], []⟩ = pure [(("self" : Str), a), (f, u)]) ∧
    (∀ (qual : Str) (kV doc pm : Value) (an : Option Addr) (cdv ct : Value) (cc : Addr) (a u : Value), bindArgs (ksFn "__init__" qual params [sSuper msg j p0 p1 p2 p3 p4 p5, sPut f q0 q1 q2 q3] scope .none kV doc pm an cdv ct cc) ⟨[a], [(f, u)]⟩ = pure [(("self" : Str), a), (f, u)])
  fs : (f == ("self" : Str)) = false
  fd : (f == ("__debug__" : Str)) = false
theorem x1_of {K : Frag} {FE C : Addr} {f : Str} {st : Stmt} (t : T1 st f) (c : CB K FE C [f]) (hI : fnI K C = valI st) (on : oncB K = true) (glo : nsIn K mainGlobals "super" = some none) : X1 pgm K C f := by
  obtain ⟨params, scope, msg, j, p0, p1, p2, p3, p4, p5, q0, q1, q2, q3, e1, e2, e3, e4, e5, e6, e7⟩ := t.ex
  exact ⟨⟨_, _, params, scope, msg, j, p0, p1, p2, p3, p4, p5, q0, q1, q2, q3, e4, xf_of c hI e1 e2 e3 on glo, e5, e6 _, e7 _⟩, t.fs, t.fd, c.no f (by simp), c.kp⟩
theorem t1_0 : T1 (topS 3) "thing" := ⟨⟨_, _, _, _, _, _, _, _, _, _, _, _, _, _, rfl, rfl, rfl, rfl, ⟨⟨_, rfl, rfl⟩, rfl, rfl, rfl, by decide +kernel, by decide +kernel, rfl, rfl, rfl⟩, fun _ _ _ _ _ _ _ _ _ _ => rfl, fun _ _ _ _ _ _ _ _ _ _ => rfl⟩, by decide, by decide⟩
theorem t1_1 : T1 (topS 4) "index" := ⟨⟨_, _, _, _, _, _, _, _, _, _, _, _, _, _, rfl, rfl, rfl, rfl, ⟨⟨_, rfl, rfl⟩, rfl, rfl, rfl, by decide +kernel, by decide +kernel, rfl, rfl, rfl⟩, fun _ _ _ _ _ _ _ _ _ _ => rfl, fun _ _ _ _ _ _ _ _ _ _ => rfl⟩, by decide, by decide⟩
/-- what the head says, together -/
structure Sy (w : World) (K : Frag) : Prop where
  d : He.SaysD fas fns K
  i : (clsNames.map fun x => fnI K (ga K x)) = stsI.map valI
  on : oncB K = true
  nd : (FEa K :: dsAll K).Nodup
  one : ∀ p ∈ ones, clsB K (FEa K) (ga K p.1) [p.2] = true
  kp : keptK K = true
  sy : sysB K = true
  tn : (tfs.map fun p => (cT K p).2).Nodup
  f : (dicN.map fun p => dicB K (ga K p.1)) = dicN.map fun p => dicV w p.2
theorem sy_of {w : World} {h : Heap} {K : Frag} (z : SaysZ w h K) : Sy w K := by
  obtain ⟨b1, b2⟩ := ba z.e
  obtain ⟨c1, c2⟩ := ba b2
  obtain ⟨d1, d2⟩ := ba c2
  obtain ⟨d2, d3⟩ := ba d2
  obtain ⟨d3, d5⟩ := ba d3
  obtain ⟨d3, d4⟩ := ba d3
  exact ⟨z.d, z.c, b1, of_decide_eq_true d1, fun p hp => List.all_eq_true.mp d2 p hp, d3, d4, of_decide_eq_true d5, z.f⟩
section
variable {w : World} {K : Frag}
theorem Sy.fa (S : Sy w K) {f : He.Fa} (h : f ∈ fas) : f.ok K = true := He.SaysD.facts S.d h
theorem glo_mem {x : Str} (h : x ∈ allNames) : He.Fa.glo x ∈ fas := List.mem_append_left _ (List.mem_map.mpr ⟨x, h, rfl⟩)
theorem con_mem {x : Str} (h : x ∈ conNames) : x ∈ allNames := List.mem_cons_of_mem _ (List.mem_append_left _ h)
theorem cls_mem {x : Str} (h : x ∈ clsNames) : x ∈ allNames := List.mem_cons_of_mem _ (List.mem_append_right _ (List.mem_append_left _ h))
theorem def_mem {x : Str} (h : x ∈ defNames) : x ∈ allNames := List.mem_cons_of_mem _ (List.mem_append_right _ (List.mem_append_right _ h))
theorem Sy.free (S : Sy w K) (i : Nat) {x : Str} (h : fas[i]? = some (.free x) := by rfl) : (He.Fa.free x).ok K = true := S.fa (List.mem_of_getElem? h)
theorem Sy.fn (S : Sy w K) {p : Str × Str} (h : p ∈ ones) : FEa K ≠ ga K p.1 := fun z => by
  have h' := (List.nodup_cons.mp S.nd).1
  rw [z] at h'
  exact h' (List.mem_map.mpr ⟨p, h, rfl⟩)
theorem Sy.at (S : Sy w K) (i : Nat) {p : Str × Str} {s : Stmt} (h : ones[i]? = some p) (hs : stsI[i]? = some s) : fnI K (ga K p.1) = valI s := by
  have e1 : clsNames[i]? = some p.1 := by
    unfold clsNames
    rw [List.getElem?_map, h]
    rfl
  have e := congrArg (fun l : List FnI => l[i]?) S.i
  have e3 : (clsNames.map fun x => fnI K (ga K x))[i]? = (stsI.map valI)[i]? := e
  rw [List.getElem?_map, List.getElem?_map, e1, hs] at e3
  exact Option.some.inj e3
theorem nodup_map_inj {α β : Type} {f : α → β} : ∀ {l : List α}, (l.map f).Nodup → ∀ {x y : α}, x ∈ l → y ∈ l → f x = f y → x = y
  | [], _, _, _, h, _, _ => nomatch h
  | z :: l, h, x, y, hx, hy, e => by
    obtain ⟨h1, h2⟩ := List.nodup_cons.mp h
    rcases List.mem_cons.mp hx with q1 | q1
    · rcases List.mem_cons.mp hy with q2 | q2
      · rw [q1, q2]
      · rw [q1] at e
        exact absurd (List.mem_map.mpr ⟨y, q2, e.symm⟩) h1
    · rcases List.mem_cons.mp hy with q2 | q2
      · rw [q2] at e
        exact absurd (List.mem_map.mpr ⟨x, q1, e⟩) h1
      · exact nodup_map_inj h2 q1 q2 e
theorem Sy.inj (S : Sy w K) {p q : Str × Str} (hp : p ∈ ones) (hq : q ∈ ones) : decide (ga K p.1 = ga K q.1) = decide (p.1 = q.1) := by
  have h := (List.nodup_cons.mp S.nd).2
  by_cases e : p.1 = q.1
  · rw [e, decide_eq_true rfl, decide_eq_true rfl]
  · rw [decide_eq_false e, decide_eq_false fun z => e (congrArg (·.1) (nodup_map_inj h hp hq z))]
theorem vals_str : ∀ {vs : List Value} {ss : List Str}, vs.map strV = ss.map some → Vals (ss.map V.str) vs
  | [], [], _ => .nil
  | [], _ :: _, h => by cases h
  | _ :: _, [], h => by cases h
  | v :: vs, x :: ss, h => by
    rw [List.map_cons, List.map_cons] at h
    injection h with h1 h2
    refine .cons ?_ (vals_str h2)
    cases v with
    | str y t =>
      obtain rfl : y = x := Option.some.inj h1
      exact ⟨t, rfl⟩
    | _ => cases h1
theorem Sy.kept (S : Sy w K) (H : Hp) : SqT K H (ga K "KEPT") (T27.kept.map V.str) := by
  have h := S.kp
  unfold keptK at h
  split at h
  · rename_i cl od its n sl q
    obtain ⟨h1, h2⟩ := ba h
    obtain ⟨h2, h3⟩ := ba h2
    have h3 := of_decide_eq_true h3
    exact .inr ⟨_, its, n, q, of_decide_eq_true h1, rfl, by rw [sizeLine_eq]; omega, vals_str (of_decide_eq_true h2)⟩
  · cases h
/-! dicts of texts -/
theorem ent_of {P : Program} : ∀ {l : List DictEntry} {kvs : List (Str × Str)}, l.map entOf = (kvs.map fun p => some (p.1, PyData.keyHash w.params p.1, p.2)) → ∃ vs : List (Key × Value), Pairs (mixKind P w) l vs ∧ KV (kvs.map fun p => ((.inr p.1 : Key), V.str p.2)) vs ∧ vs.map (·.1) = kvs.map (fun p => (.inr p.1 : Key)) ∧ ∀ e ∈ l, ∃ k, (mixKind P w).is k e.key = true ∧ e.hash = (mixKind P w).hash k
  | [], [], _ => ⟨[], .nil, .nil, rfl, fun e h => nomatch h⟩
  | [], _ :: _, h => by cases h
  | _ :: _, [], h => by cases h
  | e :: l, (x, y) :: kvs, h => by
    have h : entOf e :: l.map entOf = some (x, PyData.keyHash w.params x, y) :: _ := h
    injection h with h1 h2
    obtain ⟨vs, p1, p2, p3, p4⟩ := ent_of (P := P) h2
    obtain ⟨eh, ek, ev⟩ := e
    unfold entOf at h1
    split at h1
    · rename_i x' t1 y' t2 q1 q2
      have q1 : ek = .str x' t1 := q1
      have q2 : ev = .str y' t2 := q2
      subst q1 q2
      have h3 := Option.some.inj h1
      obtain ⟨g1, g0⟩ := Prod.mk.inj h3
      obtain ⟨g2, g3⟩ := Prod.mk.inj g0
      have g4 : eh = PyData.keyHash w.params x := g2
      clear h3 g0 g2 h1 h
      subst g1
      subst g3
      subst g4
      refine ⟨(.inr x', .str y' t2) :: vs, .cons (keyIs_str x' t1) rfl p1, .cons ⟨rfl, ⟨t2, rfl⟩⟩ p2, by rw [List.map_cons, p3]; rfl, fun e he => ?_⟩
      rcases List.mem_cons.mp he with rfl | he
      · exact ⟨.inr x', keyIs_str x' t1, rfl⟩
      · exact p4 e he
    · cases h1
theorem dck_of {P : Program} {a : Addr} {kvs : List (Str × Str)} (h : dicB K a = dicV w kvs) (nd : (kvs.map fun p => (.inr p.1 : Key)).Nodup) (l : kvs.length ≤ 1000) : DiM.DcK P w K a (kvs.map fun p => ((.inr p.1 : Key), V.str p.2)) := by
  unfold dicB dicV at h
  cases q : K.lookup a with
  | none =>
    rw [q] at h
    cases h
  | some o =>
    obtain ⟨oc, od, dt, osl⟩ := o
    rw [q] at h
    cases oc with
    | type c =>
      cases od with
      | none =>
        cases dt with
        | dict es n =>
          have h1 : (match decide (c = "dict") && (osl.isEmpty && !(a == sysModules)) with
            | true => some (es.toList.map entOf)
            | false => none) = some (kvs.map fun p => some (p.1, PyData.keyHash w.params p.1, p.2)) := h
          cases z : decide (c = "dict") && (osl.isEmpty && !(a == sysModules)) with
          | false =>
            rw [z] at h1
            cases h1
          | true =>
            rw [z] at h1
            obtain ⟨z1, z2⟩ := ba z
            obtain ⟨z3, z4⟩ := ba z2
            have e1 : c = "dict" := of_decide_eq_true z1
            have e2 : osl = #[] := Array.isEmpty_iff.mp z3
            have e3 : (a == sysModules) = false := by
              cases y : a == sysModules with
              | false => rfl
              | true =>
                rw [y] at z4
                cases z4
            subst e1 e2
            obtain ⟨vs, p1, p2, p3, p4⟩ := ent_of (P := P) (Option.some.inj h1)
            refine ⟨by rw [List.length_map, sizeLine_eq]; omega, e3, fun h hI => ⟨vs, p2, _, es, n, hI _ _ q, ⟨rfl, rfl, rfl⟩, rfl, fun e he => p4 e (Array.mem_toList_iff.mpr he), p1, by rw [p3]; exact nd⟩⟩
        | _ => cases h
      | some b => cases dt <;> cases h
    | _ => cases od <;> cases dt <;> cases h
theorem dcc_of {P : Program} {a : Addr} {kvs : List (Str × Str)} (h : dicB K a = dicV w kvs) (nd : (kvs.map fun p => (.inr p.1 : Key)).Nodup) (l : kvs.length ≤ 1000) : DiM.DcC P w K a (kvs.map fun p => ((.inr p.1 : Key), V.str p.2)) := by
  unfold dicB dicV at h
  cases q : K.lookup a with
  | none =>
    rw [q] at h
    cases h
  | some o =>
    obtain ⟨oc, od, dt, osl⟩ := o
    rw [q] at h
    cases oc with
    | type c =>
      cases od with
      | none =>
        cases dt with
        | dict es n =>
          have h1 : (match decide (c = "dict") && (osl.isEmpty && !(a == sysModules)) with
            | true => some (es.toList.map entOf)
            | false => none) = some (kvs.map fun p => some (p.1, PyData.keyHash w.params p.1, p.2)) := h
          cases z : decide (c = "dict") && (osl.isEmpty && !(a == sysModules)) with
          | false =>
            rw [z] at h1
            cases h1
          | true =>
            rw [z] at h1
            obtain ⟨z1, z2⟩ := ba z
            obtain ⟨z3, z4⟩ := ba z2
            have e1 : c = "dict" := of_decide_eq_true z1
            have e2 : osl = #[] := Array.isEmpty_iff.mp z3
            have e3 : (a == sysModules) = false := by
              cases y : a == sysModules with
              | false => rfl
              | true =>
                rw [y] at z4
                cases z4
            subst e1 e2
            obtain ⟨vs, p1, p2, p3, p4⟩ := ent_of (P := P) (Option.some.inj h1)
            exact ⟨es, n, q, e3, by rw [List.length_map, sizeLine_eq]; omega, vs, p2, fun e he => p4 e (Array.mem_toList_iff.mpr he), p1, by rw [p3]; exact nd⟩
        | _ => cases h
      | some b => cases dt <;> cases h
    | _ => cases od <;> cases dt <;> cases h
theorem Sy.dcc (S : Sy w K) {P : Program} (i : Nat) {x : Str} {kvs : List (Str × Str)} (h : dicN[i]? = some (x, kvs)) (nd : (kvs.map fun p => (.inr p.1 : Key)).Nodup) (l : kvs.length ≤ 1000) : DiM.DcC P w K (ga K x) (kvs.map fun p => ((.inr p.1 : Key), V.str p.2)) := by
  have e := congrArg (fun l : DiZ => l[i]?) S.f
  have e : (dicN.map fun p => dicB K (ga K p.1))[i]? = (dicN.map fun p => dicV w p.2)[i]? := e
  rw [List.getElem?_map, List.getElem?_map, h] at e
  exact dcc_of (Option.some.inj e) nd l
end
section
variable {w : World} {K : Frag} {mg : Str → Option Value} {h : Heap}
theorem Sy.mgC (S : Sy w K) (X : K.In h) (G : h.Ns mainGlobals mg) {x : Str} (hx : x ∈ allNames) : mg x = some (.ref (ga K x)) := He.glo_ok X G (S.fa (glo_mem hx))
theorem Sy.er (S : Sy w K) (X : K.In h) (G : h.Ns mainGlobals mg) (i : Nat) {p : Str × Str} {s : Stmt} (e : ones[i]? = some p) (hs : stsI[i]? = some s) (t : T1 s p.2) : mg p.1 = some (.ref (ga K p.1)) ∧ X1 pgm K (ga K p.1) p.2 := by
  have glo : nsIn K mainGlobals "super" = some none := eqO_ok (S.free 59 (x := "super"))
  have hm := List.mem_of_getElem? e
  exact ⟨S.mgC X G (cls_mem (List.mem_map.mpr ⟨_, hm, rfl⟩)), x1_of t (cb_ok (S.one _ hm)) (S.at i e hs) S.on glo⟩
theorem Sy.ex (S : Sy w K) {p q : Str × Str} (hp : p ∈ ones) (hq : q ∈ ones) : exmOne K (.ref (ga K p.1)) (.ref (ga K q.1)) = some (decide (p.1 = q.1)) := by
  rw [(cb_ok (S.one _ hp)).ex (cb_ok (S.one _ hq)) (S.fn hq)]
  exact congrArg some (S.inj hp hq)
end
end K14.T69
namespace K14.T69
open T27 T3
open K14.Gn
open PySem PySem.W PySem.Calls PyProof.Rows L2 LamX
open He (ga ma eqO eqO_ok ba cT codeOf tabOf)
open Kz (Has HasG pe_has FnG spStart)
theorem ask_ones {p : Str × Str × Str} (h : p ∈ asks) : ((p.1, p.2.2) : Str × Str) ∈ ones := by
  simp only [asks, List.mem_cons, List.not_mem_nil, or_false] at h
  rcases h with rfl | rfl <;> simp [ones]
theorem ak_er {K : Frag} {mg : Str → Option Value} (h1 : mg "BadText" = some (.ref (ga K "BadText")) ∧ Kz.X1 pgm K (ga K "BadText") "index") (h2 : mg "BadForm" = some (.ref (ga K "BadForm")) ∧ Kz.X1 pgm K (ga K "BadForm") "thing") : ∀ p ∈ asks, mg p.1 = some (.ref (ga K p.1)) ∧ Kz.X1 pgm K (ga K p.1) p.2.2 := fun p hp => by
  simp only [asks, List.mem_cons, List.not_mem_nil, or_false] at hp
  rcases hp with rfl | rfl
  · exact h1
  · exact h2
def TT (K : Frag) : List (Addr × Str) := [((cT K ("_law_judged_right", none)).2, qJr), ((cT K ("_law_written", none)).2, qWn), ((cT K ("law", none)).2, qLw)]
theorem tt_one {w : World} {K : Frag} (S : Sy w K) : ∀ p ∈ TT K, ∀ p' ∈ TT K, p.1 = p'.1 → p = p' := by
  have h := S.tn
  have e : (TT K).map (·.1) = tfs.map fun p => (cT K p).2 := rfl
  rw [← e] at h
  exact fun p hp p' hp' z => nodup_map_inj h hp hp' z
theorem lk_of {K : Frag} {mg : Str → Option Value} {w : World} {base : Heap} (S : Sy w K) (X : K.In base) (G : base.Ns mainGlobals mg) (TB : ∀ p ∈ tfs.map (cT K), TabB base mg p.1 p.2) {gl : FuncData} (Flw : FunD K "law" "law" (defArgs sLw) (defBody sLw) (defScope sLw) [] [] (ga K "law") gl) : FnG pgm w K mg base CX0 14 (ga K "law") gl ["script"] (T3.spLw K (TT K)) := by
  have e_BadForm := S.er X G 0 (p := ("BadForm", "thing")) rfl rfl t1_0
  have e_BadText := S.er X G 1 (p := ("BadText", "index")) rfl rfl t1_1
  have fr : ∀ (i : Nat) {x : Str}, fas[i]? = some (.free x) → mg x = none := fun i x h => He.free_ok X G (S.free i h)
  have gm : ∀ (i : Nat) {x : Str}, defNames[i]? = some x → mg x = some (.ref (ga K x)) := fun i x h => S.mgC X G (def_mem (List.mem_of_getElem? h))
  have q_list := fr 60 (x := "list") rfl
  have q_int := fr 61 (x := "int") rfl
  have q_len := fr 62 (x := "len") rfl
  have q_range := fr 63 (x := "range") rfl
  have q_isinstance := fr 64 (x := "isinstance") rfl
  have q_repr := fr 65 (x := "repr") rfl
  have q_tuple := fr 66 (x := "tuple") rfl
  have q_dict := fr 67 (x := "dict") rfl
  have q_zip := fr 68 (x := "zip") rfl
  have q_all := fr 69 (x := "all") rfl
  have q_enumerate := fr 70 (x := "enumerate") rfl
  have q_bool := fr 71 (x := "bool") rfl
  have q_str := fr 72 (x := "str") rfl
  have q_any := fr 73 (x := "any") rfl
  have q_min := fr 74 (x := "min") rfl
  have N : NmK K mg := { ll := He.str_ok X G (S.fa (f := .str "LETTERS" letters) (List.mem_of_getElem? (i := 75) rfl)), ns := He.str_ok X G (S.fa (f := .str "NAME_SIGNS" signs) (List.mem_of_getElem? (i := 76) rfl)), ln := He.int_ok X G (S.fa (f := .int "LONGEST_NAME" 8) (List.mem_of_getElem? (i := 78) rfl)), kp := ⟨_, S.mgC X G (x := "KEPT") (con_mem (by simp [conNames])), S.kept⟩, len := q_len, all := q_all, isi := q_isinstance, str := q_str, enu := q_enumerate }
  obtain ⟨g1, F1⟩ := S.d.def_ 1 (d := defAt 11) rfl
  have F1 : FunD K "is_list" "is_list" (defArgs sIl) (defBody sIl) (defScope sIl) [] [] (ga K "is_list") g1 := F1
  have b1 : L2.Binds K g1 ["thing"] [] := F1.bindsN fun _ _ _ _ _ _ us hl => match us, hl with | [_], _ => rfl
  obtain ⟨g2, F2⟩ := S.d.def_ 2 (d := defAt 12) rfl
  have F2 : FunD K "is_pair" "is_pair" (defArgs sIp) (defBody sIp) (defScope sIp) [] [] (ga K "is_pair") g2 := F2
  have b2 : L2.Binds K g2 ["thing"] [] := F2.bindsN fun _ _ _ _ _ _ us hl => match us, hl with | [_], _ => rfl
  obtain ⟨g3, F3⟩ := S.d.def_ 3 (d := defAt 13) rfl
  have F3 : FunD K "is_number" "is_number" (defArgs sIn) (defBody sIn) (defScope sIn) [] [] (ga K "is_number") g3 := F3
  have b3 : L2.Binds K g3 ["thing"] [] := F3.bindsN fun _ _ _ _ _ _ us hl => match us, hl with | [_], _ => rfl
  obtain ⟨g4, F4⟩ := S.d.def_ 4 (d := defAt 14) rfl
  have F4 : FunD K "begins_name" "begins_name" (defArgs sBn) (defBody sBn) (defScope sBn) [] [] (ga K "begins_name") g4 := F4
  have b4 : L2.Binds K g4 ["word"] [] := F4.bindsN fun _ _ _ _ _ _ us hl => match us, hl with | [_], _ => rfl
  obtain ⟨g5, F5⟩ := S.d.def_ 5 (d := defAt 15) rfl
  have F5 : FunD K "is_name" "is_name" (defArgs sNm) (defBody sNm) (defScope sNm) [] [] (ga K "is_name") g5 := F5
  have b5 : L2.Binds K g5 ["thing"] [] := F5.bindsN fun _ _ _ _ _ _ us hl => match us, hl with | [_], _ => rfl
  obtain ⟨g6, F6⟩ := S.d.def_ 6 (d := defAt 17) rfl
  have F6 : FunD K "names_from" "names_from" (defArgs sNf) (defBody sNf) (defScope sNf) [] [] (ga K "names_from") g6 := F6
  have b6 : L2.Binds K g6 ["length"] [] := F6.bindsN fun _ _ _ _ _ _ us hl => match us, hl with | [_], _ => rfl
  obtain ⟨g7, F7⟩ := S.d.def_ 7 (d := defAt 23) rfl
  have F7 : FunD K "is_numeral" "is_numeral" (defArgs sNl) (defBody sNl) (defScope sNl) [] [] (ga K "is_numeral") g7 := F7
  have b7 : L2.Binds K g7 ["word"] [] := F7.bindsN fun _ _ _ _ _ _ us hl => match us, hl with | [_], _ => rfl
  obtain ⟨g8, F8⟩ := S.d.def_ 8 (d := defAt 24) rfl
  have F8 : FunD K "greatest_from" "greatest_from" (defArgs sGf) (defBody sGf) (defScope sGf) [] [] (ga K "greatest_from") g8 := F8
  have b8 : L2.Binds K g8 ["word"] [] := F8.bindsN fun _ _ _ _ _ _ us hl => match us, hl with | [_], _ => rfl
  obtain ⟨g9, F9⟩ := S.d.def_ 9 (d := defAt 28) rfl
  have F9 : FunD K "scanned" "scanned" (defArgs sSc) (defBody sSc) (defScope sSc) [] [] (ga K "scanned") g9 := F9
  have b9 : L2.Binds K g9 ["reader", "text"] [] := F9.bindsN fun _ _ _ _ _ _ us hl => match us, hl with | [_, _], _ => rfl
  obtain ⟨g10, F10⟩ := S.d.def_ 10 (d := defAt 29) rfl
  have F10 : FunD K "fault_of" "fault_of" (defArgs sFo) (defBody sFo) (defScope sFo) [] [] (ga K "fault_of") g10 := F10
  have b10 : L2.Binds K g10 ["reader", "text"] [] := F10.bindsN fun _ _ _ _ _ _ us hl => match us, hl with | [_, _], _ => rfl
  obtain ⟨g11, F11⟩ := S.d.def_ 11 (d := defAt 30) rfl
  have F11 : FunD K "check_fault" "check_fault" (defArgs sCf) (defBody sCf) (defScope sCf) [] [] (ga K "check_fault") g11 := F11
  have b11 : L2.Binds K g11 ["fault"] [] := F11.bindsN fun _ _ _ _ _ _ us hl => match us, hl with | [_], _ => rfl
  obtain ⟨g12, F12⟩ := S.d.def_ 12 (d := defAt 31) rfl
  have F12 : FunD K "lines_of" "lines_of" (defArgs sLo6) (defBody sLo6) (defScope sLo6) [] [] (ga K "lines_of") g12 := F12
  have b12 : L2.Binds K g12 ["text"] [] := F12.bindsN fun _ _ _ _ _ _ us hl => match us, hl with | [_], _ => rfl
  obtain ⟨g13, F13⟩ := S.d.def_ 13 (d := defAt 33) rfl
  have F13 : FunD K "is_index" "is_index" (defArgs sIi) (defBody sIi) (defScope sIi) [] [] (ga K "is_index") g13 := F13
  have b13 : L2.Binds K g13 ["thing"] [] := F13.bindsN fun _ _ _ _ _ _ us hl => match us, hl with | [_], _ => rfl
  obtain ⟨g14, F14⟩ := S.d.def_ 14 (d := defAt 34) rfl
  have F14 : FunD K "is_course_form" "is_course_form" (defArgs sCfm) (defBody sCfm) (defScope sCfm) [] [] (ga K "is_course_form") g14 := F14
  have b14 : L2.Binds K g14 ["thing"] [] := F14.bindsN fun _ _ _ _ _ _ us hl => match us, hl with | [_], _ => rfl
  obtain ⟨g15, F15⟩ := S.d.def_ 15 (d := defAt 35) rfl
  have F15 : FunD K "is_step_form" "is_step_form" (defArgs sSfm) (defBody sSfm) (defScope sSfm) [] [] (ga K "is_step_form") g15 := F15
  have b15 : L2.Binds K g15 ["thing"] [] := F15.bindsN fun _ _ _ _ _ _ us hl => match us, hl with | [_], _ => rfl
  obtain ⟨g16, F16⟩ := S.d.def_ 16 (d := defAt 36) rfl
  have F16 : FunD K "course_text" "course_text" (defArgs sCt) (defBody sCt) (defScope sCt) [] [] (ga K "course_text") g16 := F16
  have b16 : L2.Binds K g16 ["course"] [] := F16.bindsN fun _ _ _ _ _ _ us hl => match us, hl with | [_], _ => rfl
  obtain ⟨g17, F17⟩ := S.d.def_ 17 (d := defAt 37) rfl
  have F17 : FunD K "read_course" "read_course" (defArgs sRc) (defBody sRc) (defScope sRc) [] [] (ga K "read_course") g17 := F17
  have b17 : L2.Binds K g17 ["text"] [] := F17.bindsN fun _ _ _ _ _ _ us hl => match us, hl with | [_], _ => rfl
  obtain ⟨g18, F18⟩ := S.d.def_ 18 (d := defAt 38) rfl
  have F18 : FunD K "course_fault" "course_fault" (defArgs sCof) (defBody sCof) (defScope sCof) [] [] (ga K "course_fault") g18 := F18
  have b18 : L2.Binds K g18 ["text"] [] := F18.bindsN fun _ _ _ _ _ _ us hl => match us, hl with | [_], _ => rfl
  obtain ⟨g19, F19⟩ := S.d.def_ 19 (d := defAt 39) rfl
  have F19 : FunD K "steps_text" "steps_text" (defArgs sStx) (defBody sStx) (defScope sStx) [] [] (ga K "steps_text") g19 := F19
  have b19 : L2.Binds K g19 ["derivation"] [] := F19.bindsN fun _ _ _ _ _ _ us hl => match us, hl with | [_], _ => rfl
  obtain ⟨g20, F20⟩ := S.d.def_ 20 (d := defAt 40) rfl
  have F20 : FunD K "step_of" "step_of" (defArgs sSo) (defBody sSo) (defScope sSo) [] [] (ga K "step_of") g20 := F20
  have b20 : L2.Binds K g20 ["words"] [] := F20.bindsN fun _ _ _ _ _ _ us hl => match us, hl with | [_], _ => rfl
  obtain ⟨g21, F21⟩ := S.d.def_ 21 (d := defAt 41) rfl
  have F21 : FunD K "read_steps" "read_steps" (defArgs sRs) (defBody sRs) (defScope sRs) [] [] (ga K "read_steps") g21 := F21
  have b21 : L2.Binds K g21 ["text"] [] := F21.bindsN fun _ _ _ _ _ _ us hl => match us, hl with | [_], _ => rfl
  obtain ⟨g22, F22⟩ := S.d.def_ 22 (d := defAt 42) rfl
  have F22 : FunD K "steps_fault" "steps_fault" (defArgs sStf) (defBody sStf) (defScope sStf) [] [] (ga K "steps_fault") g22 := F22
  have b22 : L2.Binds K g22 ["text"] [] := F22.bindsN fun _ _ _ _ _ _ us hl => match us, hl with | [_], _ => rfl
  obtain ⟨g23, F23⟩ := S.d.def_ 23 (d := defAt 44) rfl
  have F23 : FunD K "_law_is_name" "_law_is_name" (defArgs sLn) (defBody sLn) (defScope sLn) [] [] (ga K "_law_is_name") g23 := F23
  have b23 : L2.Binds K g23 ["thing"] [] := F23.bindsN fun _ _ _ _ _ _ us hl => match us, hl with | [_], _ => rfl
  obtain ⟨g24, F24⟩ := S.d.def_ 24 (d := defAt 45) rfl
  have F24 : FunD K "_law_line" "_law_line" (defArgs sLl) (defBody sLl) (defScope sLl) [] [] (ga K "_law_line") g24 := F24
  have b24 : L2.Binds K g24 ["words"] [] := F24.bindsN fun _ _ _ _ _ _ us hl => match us, hl with | [_], _ => rfl
  obtain ⟨g25, F25⟩ := S.d.def_ 25 (d := defAt 46) rfl
  have F25 : FunD K "_law_may_be_name" "_law_may_be_name" (defArgs sMb) (defBody sMb) (defScope sMb) [] [] (ga K "_law_may_be_name") g25 := F25
  have b25 : L2.Binds K g25 ["word", "taken"] [] := F25.bindsN fun _ _ _ _ _ _ us hl => match us, hl with | [_, _], _ => rfl
  obtain ⟨g26, F26⟩ := S.d.def_ 26 (d := defAt 47) rfl
  have F26 : FunD K "_law_bent_text" "_law_bent_text" (defArgs sBt) (defBody sBt) (defScope sBt) [] [] (ga K "_law_bent_text") g26 := F26
  have b26 : L2.Binds K g26 ["stream", "text", "pieces"] [] := F26.bindsN fun _ _ _ _ _ _ us hl => match us, hl with | [_, _, _], _ => rfl
  obtain ⟨g27, F27⟩ := S.d.def_ 27 (d := defAt 48) rfl
  have F27 : FunD K "_law_start" "_law_start" (defArgs sSt) (defBody sSt) (defScope sSt) [] [] (ga K "_law_start") g27 := F27
  have b27 : L2.Binds K g27 ["script"] [] := F27.bindsN fun _ _ _ _ _ _ us hl => match us, hl with | [_], _ => rfl
  obtain ⟨g28, F28⟩ := S.d.def_ 28 (d := defAt 49) rfl
  have F28 : FunD K "_law_draw" "_law_draw" (defArgs sDr) (defBody sDr) (defScope sDr) [] [] (ga K "_law_draw") g28 := F28
  have b28 : L2.Binds K g28 ["stream", "many"] [] := F28.bindsN fun _ _ _ _ _ _ us hl => match us, hl with | [_, _], _ => rfl
  obtain ⟨g29, F29⟩ := S.d.def_ 29 (d := defAt 50) rfl
  have F29 : FunD K "_law_pick" "_law_pick" (defArgs sPk) (defBody sPk) (defScope sPk) [] [] (ga K "_law_pick") g29 := F29
  have b29 : L2.Binds K g29 ["stream", "some"] [] := F29.bindsN fun _ _ _ _ _ _ us hl => match us, hl with | [_, _], _ => rfl
  obtain ⟨g31, F31⟩ := S.d.def_ 31 (d := defAt 52) rfl
  have F31 : FunD K "_law_same" "_law_same" (defArgs sSm) (defBody sSm) (defScope sSm) [] [] (ga K "_law_same") g31 := F31
  have b31 : L2.Binds K g31 ["found", "due"] [] := F31.bindsN fun _ _ _ _ _ _ us hl => match us, hl with | [_, _], _ => rfl
  obtain ⟨g32, F32⟩ := S.d.def_ 32 (d := defAt 53) rfl
  have F32 : FunD K "_law_each_once" "_law_each_once" (defArgs sEo) (defBody sEo) (defScope sEo) [] [] (ga K "_law_each_once") g32 := F32
  have b32 : L2.Binds K g32 ["things"] [] := F32.bindsN fun _ _ _ _ _ _ us hl => match us, hl with | [_], _ => rfl
  obtain ⟨g33, F33⟩ := S.d.def_ 33 (d := defAt 54) rfl
  have F33 : FunD K "_law_loose" "_law_loose" (defArgs sLo) (defBody sLo) (defScope sLo) [] [] (ga K "_law_loose") g33 := F33
  have b33 : L2.Binds K g33 ["stream", "thing"] [] := F33.bindsN fun _ _ _ _ _ _ us hl => match us, hl with | [_, _], _ => rfl
  obtain ⟨g34, F34⟩ := S.d.def_ 34 (d := defAt 55) rfl
  have F34 : FunD K "_law_spoilt" "_law_spoilt" (defArgs sSp) (defBody sSp) (defScope sSp) [] [] (ga K "_law_spoilt") g34 := F34
  have b34 : L2.Binds K g34 ["thing"] [] := F34.bindsN fun _ _ _ _ _ _ us hl => match us, hl with | [_], _ => rfl
  obtain ⟨g35, F35⟩ := S.d.def_ 35 (d := defAt 56) rfl
  have F35 : FunD K "_law_is_once" "_law_is_once" (defArgs sIn1) (defBody sIn1) (defScope sIn1) [] [] (ga K "_law_is_once") g35 := F35
  have b35 : L2.Binds K g35 ["thing"] [] := F35.bindsN fun _ _ _ _ _ _ us hl => match us, hl with | [_], _ => rfl
  obtain ⟨g36, F36⟩ := S.d.def_ 36 (d := defAt 57) rfl
  have F36 : FunD K "_law_apart" "_law_apart" (defArgs sAp) (defBody sAp) (defScope sAp) [] [] (ga K "_law_apart") g36 := F36
  have b36 : L2.Binds K g36 ["thing"] [] := F36.bindsN fun _ _ _ _ _ _ us hl => match us, hl with | [_], _ => rfl
  obtain ⟨g37, F37⟩ := S.d.def_ 37 (d := defAt 58) rfl
  have F37 : FunD K "_law_number_fits" "_law_number_fits" (defArgs sNfl) (defBody sNfl) (defScope sNfl) [] [] (ga K "_law_number_fits") g37 := F37
  have b37 : L2.Binds K g37 ["word", "low", "top", "is_whole"] [] := F37.bindsN fun _ _ _ _ _ _ us hl => match us, hl with | [_, _, _, _], _ => rfl
  obtain ⟨g38, F38⟩ := S.d.def_ 38 (d := defAt 59) rfl
  have F38 : FunD K "_law_paper_fits" "_law_paper_fits" (defArgs sPf) (defBody sPf) (defScope sPf) [] [] (ga K "_law_paper_fits") g38 := F38
  have b38 : L2.Binds K g38 ["is_pairs", "words", "word", "is_whole"] [] := F38.bindsN fun _ _ _ _ _ _ us hl => match us, hl with | [_, _, _, _], _ => rfl
  obtain ⟨g39, F39⟩ := S.d.def_ 39 (d := defAt 60) rfl
  have F39 : FunD K "_law_paper_read" "_law_paper_read" (defArgs sPr) (defBody sPr) (defScope sPr) [] [] (ga K "_law_paper_read") g39 := F39
  have b39 : L2.Binds K g39 ["is_pairs", "text"] [] := F39.bindsN fun _ _ _ _ _ _ us hl => match us, hl with | [_, _], _ => rfl
  obtain ⟨g40, F40⟩ := S.d.def_ 40 (d := defAt 61) rfl
  have F40 : FunD K "_law_paper_text" "_law_paper_text" (defArgs sPt) (defBody sPt) (defScope sPt) [] [] (ga K "_law_paper_text") g40 := F40
  have b40 : L2.Binds K g40 ["paper"] [] := F40.bindsN fun _ _ _ _ _ _ us hl => match us, hl with | [_], _ => rfl
  obtain ⟨g41, F41⟩ := S.d.def_ 41 (d := defAt 62) rfl
  have F41 : FunD K "_law_index" "_law_index" (defArgs sIx) (defBody sIx) (defScope sIx) [] [] (ga K "_law_index") g41 := F41
  have b41 : L2.Binds K g41 ["stream"] [] := F41.bindsN fun _ _ _ _ _ _ us hl => match us, hl with | [_], _ => rfl
  obtain ⟨g42, F42⟩ := S.d.def_ 42 (d := defAt 63) rfl
  have F42 : FunD K "_law_course_drawn" "_law_course_drawn" (defArgs sCd2) (defBody sCd2) (defScope sCd2) [] [] (ga K "_law_course_drawn") g42 := F42
  have b42 : L2.Binds K g42 ["stream"] [] := F42.bindsN fun _ _ _ _ _ _ us hl => match us, hl with | [_], _ => rfl
  obtain ⟨g43, F43⟩ := S.d.def_ 43 (d := defAt 64) rfl
  have F43 : FunD K "_law_steps_drawn" "_law_steps_drawn" (defArgs sSd2) (defBody sSd2) (defScope sSd2) [] [] (ga K "_law_steps_drawn") g43 := F43
  have b43 : L2.Binds K g43 ["stream"] [] := F43.bindsN fun _ _ _ _ _ _ us hl => match us, hl with | [_], _ => rfl
  obtain ⟨g44, F44⟩ := S.d.def_ 44 (d := defAt 65) rfl
  have F44 : FunD K "_law_asked" "_law_asked" (defArgs sAk) (defBody sAk) (defScope sAk) [] [] (ga K "_law_asked") g44 := F44
  have b44 : L2.Binds K g44 ["ask"] [] := F44.bindsN fun _ _ _ _ _ _ us hl => match us, hl with | [_], _ => rfl
  obtain ⟨g45, F45⟩ := S.d.def_ 45 (d := defAt 66) rfl
  have F45 : FunD K "_law_odd_rows" "_law_odd_rows" (defArgs sOr) (defBody sOr) (defScope sOr) [] [] (ga K "_law_odd_rows") g45 := F45
  have b45 : L2.Binds K g45 [] [] := F45.bindsN fun _ _ _ _ _ _ us hl => match us, hl with | [], _ => rfl
  obtain ⟨g46, F46⟩ := S.d.def_ 46 (d := defAt 67) rfl
  have F46 : FunD K "_law_judged_right" "_law_judged_right" (defArgs sJr) (defBody sJr) (defScope sJr) [] [] (ga K "_law_judged_right") g46 := F46
  have b46 : L2.Binds K g46 ["is_pairs", "text"] [] := F46.bindsN fun _ _ _ _ _ _ us hl => match us, hl with | [_, _], _ => rfl
  obtain ⟨g47, F47⟩ := S.d.def_ 47 (d := defAt 68) rfl
  have F47 : FunD K "_law_written" "_law_written" (defArgs sWn) (defBody sWn) (defScope sWn) [] [] (ga K "_law_written") g47 := F47
  have b47 : L2.Binds K g47 ["is_pairs", "paper"] [] := F47.bindsN fun _ _ _ _ _ _ us hl => match us, hl with | [_, _], _ => rfl
  obtain ⟨g48, F48⟩ := S.d.def_ 48 (d := defAt 69) rfl
  have F48 : FunD K "_law_written_right" "_law_written_right" (defArgs sWq) (defBody sWq) (defScope sWq) [] [] (ga K "_law_written_right") g48 := F48
  have b48 : L2.Binds K g48 ["stream", "is_pairs", "paper"] [] := F48.bindsN fun _ _ _ _ _ _ us hl => match us, hl with | [_, _, _], _ => rfl
  obtain ⟨g49, F49⟩ := S.d.def_ 49 (d := defAt 70) rfl
  have F49 : FunD K "_law_written_texts" "_law_written_texts" (defArgs sWx) (defBody sWx) (defScope sWx) [] [] (ga K "_law_written_texts") g49 := F49
  have b49 : L2.Binds K g49 [] [] := F49.bindsN fun _ _ _ _ _ _ us hl => match us, hl with | [], _ => rfl
  obtain ⟨g51, F51⟩ := S.d.def_ 51 (d := mtAt "Stock" "Stock.__init__" 18 0) rfl
  have F51 : FunD K "__init__" "Stock.__init__" (defArgs sKi) (defBody sKi) (defScope sKi) [] [] (ma K (ga K "Stock") "__init__") g51 := F51
  have b51 : L2.Binds K g51 ["self", "most"] [] := F51.bindsN fun _ _ _ _ _ _ us hl => match us, hl with | [_, _], _ => rfl
  obtain ⟨g52, F52⟩ := S.d.def_ 52 (d := mtAt "Stock" "Stock.may_begin" 18 2) rfl
  have F52 : FunD K "may_begin" "Stock.may_begin" (defArgs sKb) (defBody sKb) (defScope sKb) [] [] (ma K (ga K "Stock") "may_begin") g52 := F52
  have b52 : L2.Binds K g52 ["self", "word"] [] := F52.bindsN fun _ _ _ _ _ _ us hl => match us, hl with | [_, _], _ => rfl
  obtain ⟨g53, F53⟩ := S.d.def_ 53 (d := mtAt "Stock" "Stock.has" 18 3) rfl
  have F53 : FunD K "has" "Stock.has" (defArgs sKh) (defBody sKh) (defScope sKh) [] [] (ma K (ga K "Stock") "has") g53 := F53
  have b53 : L2.Binds K g53 ["self", "name"] [] := F53.bindsN fun _ _ _ _ _ _ us hl => match us, hl with | [_, _], _ => rfl
  obtain ⟨g54, F54⟩ := S.d.def_ 54 (d := mtAt "CourseReader" "CourseReader.__init__" 25 0) rfl
  have F54 : FunD K "__init__" "CourseReader.__init__" (defArgs sCi) (defBody sCi) (defScope sCi) [] [] (ma K (ga K "CourseReader") "__init__") g54 := F54
  have b54 : L2.Binds K g54 ["self"] [] := F54.bindsN fun _ _ _ _ _ _ us hl => match us, hl with | [_], _ => rfl
  obtain ⟨g55, F55⟩ := S.d.def_ 55 (d := mtAt "CourseReader" "CourseReader.may_begin" 25 1) rfl
  have F55 : FunD K "may_begin" "CourseReader.may_begin" (defArgs sCb) (defBody sCb) (defScope sCb) [] [] (ma K (ga K "CourseReader") "may_begin") g55 := F55
  have b55 : L2.Binds K g55 ["self", "word"] [] := F55.bindsN fun _ _ _ _ _ _ us hl => match us, hl with | [_, _], _ => rfl
  obtain ⟨g56, F56⟩ := S.d.def_ 56 (d := mtAt "CourseReader" "CourseReader.may_end" 25 2) rfl
  have F56 : FunD K "may_end" "CourseReader.may_end" (defArgs sCe1) (defBody sCe1) (defScope sCe1) [] [] (ma K (ga K "CourseReader") "may_end") g56 := F56
  have b56 : L2.Binds K g56 ["self", "word", "sign"] [] := F56.bindsN fun _ _ _ _ _ _ us hl => match us, hl with | [_, _, _], _ => rfl
  obtain ⟨g57, F57⟩ := S.d.def_ 57 (d := mtAt "CourseReader" "CourseReader.put" 25 3) rfl
  have F57 : FunD K "put" "CourseReader.put" (defArgs sCp) (defBody sCp) (defScope sCp) [] [] (ma K (ga K "CourseReader") "put") g57 := F57
  have b57 : L2.Binds K g57 ["self", "word", "sign"] [] := F57.bindsN fun _ _ _ _ _ _ us hl => match us, hl with | [_, _, _], _ => rfl
  obtain ⟨g58, F58⟩ := S.d.def_ 58 (d := mtAt "CourseReader" "CourseReader.is_done" 25 4) rfl
  have F58 : FunD K "is_done" "CourseReader.is_done" (defArgs sCd) (defBody sCd) (defScope sCd) [] [] (ma K (ga K "CourseReader") "is_done") g58 := F58
  have b58 : L2.Binds K g58 ["self"] [] := F58.bindsN fun _ _ _ _ _ _ us hl => match us, hl with | [_], _ => rfl
  obtain ⟨g59, F59⟩ := S.d.def_ 59 (d := mtAt "StepsReader" "StepsReader.__init__" 26 0) rfl
  have F59 : FunD K "__init__" "StepsReader.__init__" (defArgs sSi) (defBody sSi) (defScope sSi) [] [] (ma K (ga K "StepsReader") "__init__") g59 := F59
  have b59 : L2.Binds K g59 ["self"] [] := F59.bindsN fun _ _ _ _ _ _ us hl => match us, hl with | [_], _ => rfl
  obtain ⟨g60, F60⟩ := S.d.def_ 60 (d := mtAt "StepsReader" "StepsReader.may_begin" 26 1) rfl
  have F60 : FunD K "may_begin" "StepsReader.may_begin" (defArgs sSb) (defBody sSb) (defScope sSb) [] [] (ma K (ga K "StepsReader") "may_begin") g60 := F60
  have b60 : L2.Binds K g60 ["self", "word"] [] := F60.bindsN fun _ _ _ _ _ _ us hl => match us, hl with | [_, _], _ => rfl
  obtain ⟨g61, F61⟩ := S.d.def_ 61 (d := mtAt "StepsReader" "StepsReader.may_end" 26 2) rfl
  have F61 : FunD K "may_end" "StepsReader.may_end" (defArgs sSe) (defBody sSe) (defScope sSe) [] [] (ma K (ga K "StepsReader") "may_end") g61 := F61
  have b61 : L2.Binds K g61 ["self", "word", "sign"] [] := F61.bindsN fun _ _ _ _ _ _ us hl => match us, hl with | [_, _, _], _ => rfl
  obtain ⟨g62, F62⟩ := S.d.def_ 62 (d := mtAt "StepsReader" "StepsReader.put" 26 3) rfl
  have F62 : FunD K "put" "StepsReader.put" (defArgs sSpt) (defBody sSpt) (defScope sSpt) [] [] (ma K (ga K "StepsReader") "put") g62 := F62
  have b62 : L2.Binds K g62 ["self", "word", "sign"] [] := F62.bindsN fun _ _ _ _ _ _ us hl => match us, hl with | [_, _, _], _ => rfl
  obtain ⟨g63, F63⟩ := S.d.def_ 63 (d := mtAt "StepsReader" "StepsReader.is_done" 26 4) rfl
  have F63 : FunD K "is_done" "StepsReader.is_done" (defArgs sSd) (defBody sSd) (defScope sSd) [] [] (ma K (ga K "StepsReader") "is_done") g63 := F63
  have b63 : L2.Binds K g63 ["self"] [] := F63.bindsN fun _ _ _ _ _ _ us hl => match us, hl with | [_], _ => rfl
  have oc_Stock : Cls K (ga K "Stock") := He.cls_ok (S.fa (f := .cls "Stock") (List.mem_of_getElem? (i := 81) rfl))
  have on_Stock_most : NoAttr K (ga K "Stock") "most" := He.noat_ok (S.fa (f := .noat "Stock" "most") (List.mem_of_getElem? (i := 82) rfl))
  have on_Stock_times : NoAttr K (ga K "Stock") "times" := He.noat_ok (S.fa (f := .noat "Stock" "times") (List.mem_of_getElem? (i := 83) rfl))
  have on_Stock_singles : NoAttr K (ga K "Stock") "singles" := He.noat_ok (S.fa (f := .noat "Stock" "singles") (List.mem_of_getElem? (i := 84) rfl))
  have on_Stock_spent : NoAttr K (ga K "Stock") "spent" := He.noat_ok (S.fa (f := .noat "Stock" "spent") (List.mem_of_getElem? (i := 85) rfl))
  have oc_CourseReader : Cls K (ga K "CourseReader") := He.cls_ok (S.fa (f := .cls "CourseReader") (List.mem_of_getElem? (i := 89) rfl))
  have on_CourseReader_first : NoAttr K (ga K "CourseReader") "first" := He.noat_ok (S.fa (f := .noat "CourseReader" "first") (List.mem_of_getElem? (i := 90) rfl))
  have oc_StepsReader : Cls K (ga K "StepsReader") := He.cls_ok (S.fa (f := .cls "StepsReader") (List.mem_of_getElem? (i := 96) rfl))
  have on_StepsReader_slot : NoAttr K (ga K "StepsReader") "slot" := He.noat_ok (S.fa (f := .noat "StepsReader" "slot") (List.mem_of_getElem? (i := 97) rfl))
  have on_StepsReader_wire_names : NoAttr K (ga K "StepsReader") "wire_names" := He.noat_ok (S.fa (f := .noat "StepsReader" "wire_names") (List.mem_of_getElem? (i := 98) rfl))
  have hil : Has pgm w K mg base "is_list" 1 ["thing"] (spLook isL) := ⟨_, g1, gm 1 rfl, F1.kp, b1, ok_il F1 q_isinstance q_list q_tuple⟩
  have hin : Has pgm w K mg base "is_number" 1 ["thing"] (spLook isN) := ⟨_, g3, gm 3 rfl, F3.kp, b3, ok_in F3 q_isinstance q_int q_bool⟩
  have hip : Has pgm w K mg base "is_pair" 2 ["thing"] (spLook isP) := ⟨_, g2, gm 2 rfl, F2.kp, b2, ok_ip F2 hil q_len⟩
  have hbn : Has pgm w K mg base "begins_name" 1 ["word"] (spBn) := ⟨_, g4, gm 4 rfl, F4.kp, b4, ok_bn F4 N⟩
  have hnm : Has pgm w K mg base "is_name" 2 ["thing"] (spNm) := ⟨_, g5, gm 5 rfl, F5.kp, b5, ok_nm F5 N hbn⟩
  have GL : GlK pgm w K mg := { fg := He.str_ok X G (S.fa (f := .str "FIGURES" figs) (List.mem_of_getElem? (i := 77) rfl)), ln := He.int_ok X G (S.fa (f := .int "LONGEST_NUMBER" 9) (List.mem_of_getElem? (i := 79) rfl)), gr := He.int_ok X G (S.fa (f := .int "GREATEST" 999999999) (List.mem_of_getElem? (i := 80) rfl)), sl := S.mgC X G (x := "STEP_SLOTS") (con_mem (by simp [conNames])), sd := S.dcc 0 rfl (by decide) (by decide) }
  have CL : ClK K := { co := oc_CourseReader, cf := on_CourseReader_first, st := oc_StepsReader, ss := on_StepsReader_slot, sw := on_StepsReader_wire_names, sk := oc_Stock, km := on_Stock_most, kt := on_Stock_times, ks := on_Stock_singles, kp := on_Stock_spent }
  have hnf : Has pgm w K mg base "names_from" 1 ["length"] (spNf) := ⟨_, g6, gm 6 rfl, F6.kp, b6, ok_nf F6 N q_range⟩
  have hnl : Has pgm w K mg base "is_numeral" 1 ["word"] (spNl) := ⟨_, g7, gm 7 rfl, F7.kp, b7, ok_nl F7 N GL⟩
  have hgf : Has pgm w K mg base "greatest_from" 1 ["word"] (spGf) := ⟨_, g8, gm 8 rfl, F8.kp, b8, ok_gf F8 N GL q_int⟩
  have hki : HasC pgm w K mg base "Stock" (ga K "Stock") 1 ["self", "most"] (spKi K) := ⟨_, g51, S.mgC X G (x := "Stock") (con_mem (by simp [conNames])), He.mkr_ok (S.fa (f := .mkr "Stock") (List.mem_of_getElem? (i := 86) rfl)), b51, ok_ki F51 CL⟩
  have hkb : HasM pgm w K mg base (ga K "Stock") "may_begin" 2 ["self", "word"] (spKb K) := ⟨_, g52, He.meth_ok (S.fa (f := .meth "Stock" "may_begin") (List.mem_of_getElem? (i := 87) rfl)), oc_Stock, b52, ok_kb F52 CL hbn hnf q_len⟩
  have hkh : HasM pgm w K mg base (ga K "Stock") "has" 3 ["self", "name"] (spKh K) := ⟨_, g53, He.meth_ok (S.fa (f := .meth "Stock" "has") (List.mem_of_getElem? (i := 88) rfl)), oc_Stock, b53, ok_kh F53 CL hnm⟩
  have hci : HasC pgm w K mg base "CourseReader" (ga K "CourseReader") 1 ["self"] (spNew K (CoC K) (.course none)) := ⟨_, g54, S.mgC X G (x := "CourseReader") (con_mem (by simp [conNames])), He.mkr_ok (S.fa (f := .mkr "CourseReader") (List.mem_of_getElem? (i := 91) rfl)), b54, ok_ci F54 CL⟩
  have hcb : HasM pgm w K mg base (ga K "CourseReader") "may_begin" 2 ["self", "word"] (spBeg K true) := ⟨_, g55, He.meth_ok (S.fa (f := .meth "CourseReader" "may_begin") (List.mem_of_getElem? (i := 92) rfl)), oc_CourseReader, b55, ok_cb F55 CL GL hnl hgf q_int⟩
  have hce : HasM pgm w K mg base (ga K "CourseReader") "may_end" 2 ["self", "word", "sign"] (spEnd K true) := ⟨_, g56, He.meth_ok (S.fa (f := .meth "CourseReader" "may_end") (List.mem_of_getElem? (i := 93) rfl)), oc_CourseReader, b56, ok_ce1 F56 CL hnl q_int⟩
  have hcp : HasM pgm w K mg base (ga K "CourseReader") "put" 1 ["self", "word", "sign"] (spPut K true) := ⟨_, g57, He.meth_ok (S.fa (f := .meth "CourseReader" "put") (List.mem_of_getElem? (i := 94) rfl)), oc_CourseReader, b57, ok_cp F57 CL q_int⟩
  have hcd : HasM pgm w K mg base (ga K "CourseReader") "is_done" 1 ["self"] (spDone K true) := ⟨_, g58, He.meth_ok (S.fa (f := .meth "CourseReader" "is_done") (List.mem_of_getElem? (i := 95) rfl)), oc_CourseReader, b58, ok_cd F58 CL⟩
  have hsi : HasC pgm w K mg base "StepsReader" (ga K "StepsReader") 3 ["self"] (spNew K (StC K) (.steps .step)) := ⟨_, g59, S.mgC X G (x := "StepsReader") (con_mem (by simp [conNames])), He.mkr_ok (S.fa (f := .mkr "StepsReader") (List.mem_of_getElem? (i := 99) rfl)), b59, ok_si F59 CL hki⟩
  have hsb : HasM pgm w K mg base (ga K "StepsReader") "may_begin" 3 ["self", "word"] (spBeg K false) := ⟨_, g60, He.meth_ok (S.fa (f := .meth "StepsReader" "may_begin") (List.mem_of_getElem? (i := 100) rfl)), oc_StepsReader, b60, ok_sb F60 CL GL hnl hkb q_any⟩
  have hse : HasM pgm w K mg base (ga K "StepsReader") "may_end" 4 ["self", "word", "sign"] (spEnd K false) := ⟨_, g61, He.meth_ok (S.fa (f := .meth "StepsReader" "may_end") (List.mem_of_getElem? (i := 101) rfl)), oc_StepsReader, b61, ok_se F61 CL GL hnl hkh⟩
  have hsp : HasM pgm w K mg base (ga K "StepsReader") "put" 1 ["self", "word", "sign"] (spPut K false) := ⟨_, g62, He.meth_ok (S.fa (f := .meth "StepsReader" "put") (List.mem_of_getElem? (i := 102) rfl)), oc_StepsReader, b62, ok_sp2 F62 CL GL⟩
  have hsd : HasM pgm w K mg base (ga K "StepsReader") "is_done" 1 ["self"] (spDone K false) := ⟨_, g63, He.meth_ok (S.fa (f := .meth "StepsReader" "is_done") (List.mem_of_getElem? (i := 103) rfl)), oc_StepsReader, b63, ok_sd F63 CL⟩
  have RM : RdM pgm w K mg base := { cb := hcb, ce := hce, cp := hcp, cd := hcd, sb := hsb, se := hse, sp := hsp, sd := hsd }
  have hsc : Has pgm w K mg base "scanned" 5 ["reader", "text"] (spScan K) := ⟨_, g9, gm 9 rfl, F9.kp, b9, ok_sc F9 RM q_enumerate q_len⟩
  have hfo : Has pgm w K mg base "fault_of" 6 ["reader", "text"] (spFo K) := ⟨_, g10, gm 10 rfl, F10.kp, b10, ok_fo F10 RM hsc N⟩
  have hcof : Has pgm w K mg base "course_fault" 7 ["text"] (spCof (.course none)) := ⟨_, g18, gm 18 rfl, F18.kp, b18, ok_cof F18 hfo hci⟩
  have kcof : HasK1 pgm w K mg base "course_fault" 7 "text" (spCof (.course none)) := ⟨_, g18, gm 18 rfl, F18.kp, kb_one F18 (fun _ _ _ _ _ _ _ => rfl), ok_cof F18 hfo hci⟩
  have hstf : Has pgm w K mg base "steps_fault" 7 ["text"] (spCof (.steps .step)) := ⟨_, g22, gm 22 rfl, F22.kp, b22, ok_stf F22 hfo hsi⟩
  have kstf : HasK1 pgm w K mg base "steps_fault" 7 "text" (spCof (.steps .step)) := ⟨_, g22, gm 22 rfl, F22.kp, kb_one F22 (fun _ _ _ _ _ _ _ => rfl), ok_stf F22 hfo hsi⟩
  have hcf : Has pgm w K mg base "check_fault" 1 ["fault"] (spCf) := ⟨_, g11, gm 11 rfl, F11.kp, b11, ok_cf F11⟩
  have xcf : HasX pgm w K mg base "check_fault" 2 ["fault"] (spCfX K) := ⟨_, g11, gm 11 rfl, F11.kp, b11, okx_cf F11 e_BadText⟩
  have hlo6 : Has pgm w K mg base "lines_of" 1 ["text"] (spLo6) := ⟨_, g12, gm 12 rfl, F12.kp, b12, ok_lo6 F12⟩
  have hso : Has pgm w K mg base "step_of" 1 ["words"] (spSo) := ⟨_, g20, gm 20 rfl, F20.kp, b20, ok_so F20 q_int q_tuple⟩
  have hrc : Has pgm w K mg base "read_course" 8 ["text"] (spRc true) := ⟨_, g17, gm 17 rfl, F17.kp, b17, ok_rc F17 hcf hcof hlo6 q_int⟩
  have krc : HasK1 pgm w K mg base "read_course" 8 "text" (spRc true) := ⟨_, g17, gm 17 rfl, F17.kp, kb_one F17 (fun _ _ _ _ _ _ _ => rfl), ok_rc F17 hcf hcof hlo6 q_int⟩
  have xrc : HasX pgm w K mg base "read_course" 8 ["text"] (spRcX K (.course none)) := ⟨_, g17, gm 17 rfl, F17.kp, b17, okx_rc F17 xcf hcof⟩
  have xkrc : HasXK1 pgm w K mg base "read_course" 8 "text" (spRcX K (.course none)) := ⟨_, g17, gm 17 rfl, F17.kp, kb_one F17 (fun _ _ _ _ _ _ _ => rfl), okx_rc F17 xcf hcof⟩
  have hrs : Has pgm w K mg base "read_steps" 8 ["text"] (spRc false) := ⟨_, g21, gm 21 rfl, F21.kp, b21, ok_rs F21 hcf hstf hlo6 hso⟩
  have krs : HasK1 pgm w K mg base "read_steps" 8 "text" (spRc false) := ⟨_, g21, gm 21 rfl, F21.kp, kb_one F21 (fun _ _ _ _ _ _ _ => rfl), ok_rs F21 hcf hstf hlo6 hso⟩
  have xrs : HasX pgm w K mg base "read_steps" 8 ["text"] (spRcX K (.steps .step)) := ⟨_, g21, gm 21 rfl, F21.kp, b21, okx_rs F21 xcf hstf⟩
  have xkrs : HasXK1 pgm w K mg base "read_steps" 8 "text" (spRcX K (.steps .step)) := ⟨_, g21, gm 21 rfl, F21.kp, kb_one F21 (fun _ _ _ _ _ _ _ => rfl), okx_rs F21 xcf hstf⟩
  have hii : Has pgm w K mg base "is_index" 2 ["thing"] (spLook idxB) := ⟨_, g13, gm 13 rfl, F13.kp, b13, ok_ii F13 hin GL⟩
  have hcfm : Has pgm w K mg base "is_course_form" 3 ["thing"] (spLookB coB) := ⟨_, g14, gm 14 rfl, F14.kp, b14, ok_cfm F14 hil hip hii q_all⟩
  have hsfm : Has pgm w K mg base "is_step_form" 3 ["thing"] (spSf) := ⟨_, g15, gm 15 rfl, F15.kp, b15, ok_sfm F15 hil hii hnm q_len⟩
  have hct : Has pgm w K mg base "course_text" 4 ["course"] (spTx coB) := ⟨_, g16, gm 16 rfl, F16.kp, b16, ok_ct F16 hcfm⟩
  have kct : HasK1 pgm w K mg base "course_text" 4 "course" (spTx coB) := ⟨_, g16, gm 16 rfl, F16.kp, kb_one F16 (fun _ _ _ _ _ _ _ => rfl), ok_ct F16 hcfm⟩
  have xct : HasX pgm w K mg base "course_text" 4 ["course"] (spTxX K coB) := ⟨_, g16, gm 16 rfl, F16.kp, b16, okx_ct F16 hcfm e_BadForm⟩
  have xkct : HasXK1 pgm w K mg base "course_text" 4 "course" (spTxX K coB) := ⟨_, g16, gm 16 rfl, F16.kp, kb_one F16 (fun _ _ _ _ _ _ _ => rfl), okx_ct F16 hcfm e_BadForm⟩
  have hstx : Has pgm w K mg base "steps_text" 4 ["derivation"] (spTx stsB) := ⟨_, g19, gm 19 rfl, F19.kp, b19, ok_stx F19 hil hsfm q_all q_str⟩
  have kstx : HasK1 pgm w K mg base "steps_text" 4 "derivation" (spTx stsB) := ⟨_, g19, gm 19 rfl, F19.kp, kb_one F19 (fun _ _ _ _ _ _ _ => rfl), ok_stx F19 hil hsfm q_all q_str⟩
  have xstx : HasX pgm w K mg base "steps_text" 4 ["derivation"] (spTxX K stsB) := ⟨_, g19, gm 19 rfl, F19.kp, b19, okx_stx F19 hil hsfm q_all e_BadForm⟩
  have xkstx : HasXK1 pgm w K mg base "steps_text" 4 "derivation" (spTxX K stsB) := ⟨_, g19, gm 19 rfl, F19.kp, kb_one F19 (fun _ _ _ _ _ _ _ => rfl), okx_stx F19 hil hsfm q_all e_BadForm⟩
  have hln : Has pgm w K mg base "_law_is_name" 1 ["thing"] (spLn) := ⟨_, g23, gm 23 rfl, F23.kp, b23, ok_ln F23 N⟩
  have hll : Has pgm w K mg base "_law_line" 1 ["words"] (spLl) := ⟨_, g24, gm 24 rfl, F24.kp, b24, ok_ll F24⟩
  have heo : Has pgm w K mg base "_law_each_once" 1 ["things"] (spEo) := ⟨_, g32, gm 32 rfl, F32.kp, b32, ok_eo F32⟩
  have hmb : Has pgm w K mg base "_law_may_be_name" 2 ["word", "taken"] (spMb) := ⟨_, g25, gm 25 rfl, F25.kp, b25, ok_mb F25 N heo q_range⟩
  have hst : Has pgm w K mg base "_law_start" 1 ["script"] (spStart K) := ⟨_, g27, gm 27 rfl, F27.kp, b27, ok_st F27 q_list⟩
  have hdr : Has pgm w K mg base "_law_draw" 1 ["stream", "many"] (spDrW) := ⟨_, g28, gm 28 rfl, F28.kp, b28, ok_drw F28 q_int⟩
  have hpk : Has pgm w K mg base "_law_pick" 2 ["stream", "some"] (spPk) := ⟨_, g29, gm 29 rfl, F29.kp, b29, ok_pk F29 hdr q_len⟩
  have hbt : Has pgm w K mg base "_law_bent_text" 3 ["stream", "text", "pieces"] (spBt) := ⟨_, g26, gm 26 rfl, F26.kp, b26, ok_bt F26 hdr hpk q_len q_int⟩
  have hsm5 : Has pgm w K mg base "_law_same" 5 ["found", "due"] (spSm 4) := ⟨_, g31, gm 31 rfl, F31.kp, b31, ok_sm F31 (gm 31 rfl) F31.kp b31 ⟨q_isinstance, q_list, q_tuple, q_dict, q_int, q_bool, q_len, q_all, q_zip⟩ 4⟩
  have hsm7 : Has pgm w K mg base "_law_same" 7 ["found", "due"] (spSm 6) := ⟨_, g31, gm 31 rfl, F31.kp, b31, ok_sm F31 (gm 31 rfl) F31.kp b31 ⟨q_isinstance, q_list, q_tuple, q_dict, q_int, q_bool, q_len, q_all, q_zip⟩ 6⟩
  have hlo : Has pgm w K mg base "_law_loose" 4 ["stream", "thing"] (K14.spLo 2) := ⟨_, g33, gm 33 rfl, F33.kp, b33, ok_lo F33 hdr (gm 33 rfl) F33.kp b33 q_isinstance q_list q_tuple q_dict 2⟩
  have hspo : Has pgm w K mg base "_law_spoilt" 5 ["thing"] (T3.spSp 4) := ⟨_, g34, gm 34 rfl, F34.kp, b34, ok_sp F34 (gm 34 rfl) F34.kp b34 ⟨q_isinstance, q_list, q_tuple, q_dict, q_int, q_bool, q_len, q_all, q_zip⟩ 4⟩
  have hon : Has pgm w K mg base "_law_is_once" 5 ["thing"] (T3.spOn 4) := ⟨_, g35, gm 35 rfl, F35.kp, b35, ok_on F35 (gm 35 rfl) F35.kp b35 ⟨q_isinstance, q_list, q_tuple, q_dict, q_int, q_bool, q_len, q_all, q_zip⟩ 4⟩
  have hap : Has pgm w K mg base "_law_apart" 6 ["thing"] (T3.spAp 4) := ⟨_, g36, gm 36 rfl, F36.kp, b36, ok_ap F36 hspo hon⟩
  have hnfl : Has pgm w K mg base "_law_number_fits" 1 ["word", "low", "top", "is_whole"] (spNfl) := ⟨_, g37, gm 37 rfl, F37.kp, b37, ok_nfl F37 N q_range q_int q_any⟩
  have hpf : Has pgm w K mg base "_law_paper_fits" 3 ["is_pairs", "words", "word", "is_whole"] (spPf) := ⟨_, g38, gm 38 rfl, F38.kp, b38, ok_pf F38 N hnfl hln hmb q_int q_any⟩
  have hpr : Has pgm w K mg base "_law_paper_read" 4 ["is_pairs", "text"] (spPr) := ⟨_, g39, gm 39 rfl, F39.kp, b39, ok_pr F39 N hpf q_int q_tuple⟩
  have hpt : Has pgm w K mg base "_law_paper_text" 2 ["paper"] (spPt) := ⟨_, g40, gm 40 rfl, F40.kp, b40, ok_pt F40 hll q_str⟩
  have hix : Has pgm w K mg base "_law_index" 3 ["stream"] (spIx) := ⟨_, g41, gm 41 rfl, F41.kp, b41, ok_ix F41 hdr hpk⟩
  have hcdr : Has pgm w K mg base "_law_course_drawn" 4 ["stream"] (spCdr) := ⟨_, g42, gm 42 rfl, F42.kp, b42, ok_cdr F42 hdr hix q_range q_min⟩
  have hsdr : Has pgm w K mg base "_law_steps_drawn" 4 ["stream"] (spSdr) := ⟨_, g43, gm 43 rfl, F43.kp, b43, ok_sdr F43 hdr hpk hix q_range⟩
  have hor : ∃ f fd, mg "_law_odd_rows" = some (.ref f) ∧ keepIn K (.ref f) = true ∧ L2.Binds K fd [] [] ∧ FnOk pgm w K mg base CX0 1 f fd [] (spOr) := ⟨_, g45, gm 45 rfl, F45.kp, b45, ok_or F45⟩
  have hwx : ∃ f fd, mg "_law_written_texts" = some (.ref f) ∧ keepIn K (.ref f) = true ∧ L2.Binds K fd [] [] ∧ FnOk pgm w K mg base CX0 1 f fd [] (spWx) := ⟨_, g49, gm 49 rfl, F49.kp, b49, ok_wx F49⟩
  have R : AkK pgm K mg := ⟨fun p hp => ak_er e_BadText e_BadForm p hp, fun p hp q hq => S.ex (ask_ones hp) (ask_ones hq)⟩
  have t_hjr : TabB base mg (codeOf K ("_law_judged_right", none)) ((cT K ("_law_judged_right", none)).2) := TB (cT K ("_law_judged_right", none)) (List.mem_map.mpr ⟨("_law_judged_right", none), by decide, rfl⟩)
  have hjr : Has pgm w K mg base "_law_judged_right" 11 ["is_pairs", "text"] (spJr (TT K)) := by
    refine ⟨_, g46, gm 46 rfl, F46.kp, b46, ?_⟩
    obtain ⟨oc, od, kV, doc, pm, an, c, ct, osl, rfl, lk, hcd⟩ := fun_code F46
    have ec : codeOf K ("_law_judged_right", none) = c := He.codeOf_eq (p := ("_law_judged_right", none)) lk rfl
    rw [ec] at t_hjr
    have mT : ((cT K ("_law_judged_right", none)).2, qJr) ∈ TT K := by simp [TT]
    refine ok_jr lk hcd t_hjr mT (fun p hp e => ?_) F44 (gm 44 rfl) F44.kp b44 R { pr := hpr, cf := hcof, cfk := kcof, sf := hstf, sfk := kstf, rc := hrc, rck := krc, rcx := xrc, rcxk := xkrc, rs := hrs, rsk := krs, rsx := xrs, rsxk := xkrs, sm := hsm5, ap := hap }
    exact congrArg (·.2) (tt_one S p hp _ mT e)
  have t_hwn : TabB base mg (codeOf K ("_law_written", none)) ((cT K ("_law_written", none)).2) := TB (cT K ("_law_written", none)) (List.mem_map.mpr ⟨("_law_written", none), by decide, rfl⟩)
  have hwn : Has pgm w K mg base "_law_written" 7 ["is_pairs", "paper"] (spWn (TT K)) := by
    refine ⟨_, g47, gm 47 rfl, F47.kp, b47, ?_⟩
    obtain ⟨oc, od, kV, doc, pm, an, c, ct, osl, rfl, lk, hcd⟩ := fun_code F47
    have ec : codeOf K ("_law_written", none) = c := He.codeOf_eq (p := ("_law_written", none)) lk rfl
    rw [ec] at t_hwn
    have mT : ((cT K ("_law_written", none)).2, qWn) ∈ TT K := by simp [TT]
    refine ok_wn lk hcd t_hwn mT (fun p hp e => ?_) F44 (gm 44 rfl) F44.kp b44 R { ct := hct, ctk := kct, ctx := xct, ctxk := xkct, st := hstx, stk := kstx, stx := xstx, stxk := xkstx }
    exact congrArg (·.2) (tt_one S p hp _ mT e)
  have hwq : HasG pgm w K mg base "_law_written_right" 8 ["stream", "is_pairs", "paper"] (spWq (TT K)) := ⟨_, g48, gm 48 rfl, F48.kp, b48, ok_wq F48 { lo := hlo, pt := hpt, wn := hwn, sm := hsm7, dr := hdr, pk := hpk, od := hor, rp := q_repr, ln := q_len, li := q_list }⟩
  obtain ⟨oc, od, kV, doc, pm, an, c, ct, osl, rfl, lk, hcd⟩ := fun_code Flw
  have ec : codeOf K ("law", none) = c := He.codeOf_eq (p := ("law", none)) lk rfl
  have t_lw : TabB base mg (codeOf K ("law", none)) ((cT K ("law", none)).2) := TB (cT K ("law", none)) (List.mem_map.mpr ⟨("law", none), by decide, rfl⟩)
  rw [ec] at t_lw
  have mT : ((cT K ("law", none)).2, qLw) ∈ TT K := by simp [TT]
  exact ok_lw lk hcd t_lw mT (fun p hp e => congrArg (·.2) (tt_one S p hp _ mT e)) F44 (gm 44 rfl) F44.kp b44 R { st := hst, dr := hdr, cd := hcdr, sd := hsdr, pt := hpt, jr := hjr, wq := hwq, bt := hbt, wx := hwx, pr := hpr, sm := hsm7, cf := hcof, sf := hstf, rcx := xrc, rsx := xrs, nl := q_list, nr := q_range, ne := q_enumerate }
end K14.T69
namespace K14.T69
open PySem PySem.W PySem.Calls PyProof.Rows
theorem runF (w : World) : HandSHeadRun.RunEq RZ (view RZ.prog [71]) hookZ obZ 20000 nms (w.withFollow "special-get-raises" false) := by
  intro os
  kernel_rfl
theorem runT (w : World) : HandSHeadRun.RunEq RZ (view RZ.prog [71]) hookZ obZ 20000 nms (w.withFollow "special-get-raises" true) := by
  intro os
  kernel_rfl
theorem runZ (w : World) : HandSHeadRun.RunEq RZ (view RZ.prog [71]) hookZ obZ 20000 nms w := byRow2 "special-get-raises" (P := fun w => HandSHeadRun.RunEq RZ (view RZ.prog [71]) hookZ obZ 20000 nms w) runF runT w
end K14.T69
namespace K14.T69
open T27 T3
open K14.Gn
open PySem PySem.W PySem.Calls PyProof.Rows L2 LamX
open He (ga ma eqO eqO_ok ba cT codeOf tabOf)
theorem tabs_new {K : Frag} {H : Hp} (h : ∀ p ∈ tfs.map (cT K), H p.2 = some (.tbl #[])) : Tabs (TT K) H := fun p hp => by
  have m : p.1 ∈ (tfs.map (cT K)).map (·.2) := by
    have e : (TT K).map (·.1) = (tfs.map (cT K)).map (·.2) := rfl
    rw [← e]
    exact List.mem_map.mpr ⟨p, hp, rfl⟩
  obtain ⟨r, hr, e⟩ := List.mem_map.mp m
  exact ⟨#[], by rw [← e]; exact h r hr, by first | exact trivial | simp [TriplesOk], fun pos cv z => by simp [codeAmong] at z⟩
theorem nm_law : (HandSHeadRun.topDef RZ.prog 71).name = ("law" : PySem.Str) := by kernel_rfl
theorem walk : WalkO (view RZ.prog [71]) nms (XL (view RZ.prog [71]) []) hookZ.says (PySem.Challenge.rw_twinforks_k69_whole_texts_of_courses_and.row).toRowW (HandSHeadRun.topDef RZ.prog 71) [] (fun f vs => PySem.call f vs) := by
  refine Kz.walk_G (l := PySem.Challenge.rw_twinforks_k69_whole_texts_of_courses_and) (n := 63) (k := 14) (x := "script") (CX := fun _ => CX0) rfl (by decide) (by kernel_rfl) ⟨rfl, by decide, by decide⟩ ?_ (fun _ _ _ _ _ z => z)
  intro w mg fa h Y G hmg0
  obtain ⟨K, Z⟩ := Y
  have S := sy_of Z
  have KX := Z.i
  have hmg : mg ("law" : PySem.Str) = some (.ref fa) := by
    rw [← nm_law]
    exact hmg0
  obtain rfl : ga K "law" = fa := by
    have e := (S.mgC KX G (def_mem (x := "law") (List.mem_of_getElem? (i := 50) rfl))).symm.trans hmg
    injection e with e
    injection e
  obtain ⟨g, F⟩ := S.d.def_ 50 (d := defAt 71) rfl
  have F : FunD K "law" "law" (defArgs sLw) (defBody sLw) (defScope sLw) [] [] (ga K "law") g := F
  have bL := FunD.bindsA (ps := ["script"]) F fun _ _ _ _ _ _ us hl => match us, hl with | [_], _ => rfl
  refine ⟨K, g, tfs.map (cT K), spLw K (TT K), KX, fun p hp => ?_, fun p hp => ?_, fun p hp => ?_, fun s v => bL s [v] rfl, fun H a ns hl hT hS => ⟨a, ns, rfl, hS, Nat.le_trans hl (by decide), tabs_new hT, fun _ => rfl⟩, fun base X0 G0 TB => lk_of S X0 G0 TB F⟩
  · obtain ⟨q, hq, rfl⟩ := List.mem_map.mp hp
    exact Z.t3 q hq
  · obtain ⟨q, hq, rfl⟩ := List.mem_map.mp hp
    exact Z.t2 q hq
  · obtain ⟨q, hq, rfl⟩ := List.mem_map.mp hp
    exact codeHd_of_K KX (Z.t1 q hq)
end K14.T69
open PySem PySem.W PySem.Calls PyProof.Rows
theorem PySem.Challenge.cw_twinforks_k69_whole_texts_of_courses_and_holds : PySem.Challenge.rw_twinforks_k69_whole_texts_of_courses_and.Holds := by
  w_on; o_law
  refine HandSHeadRun.head_any (r := OpenLaw.row PySem.Challenge.rw_twinforks_k69_whole_texts_of_courses_and) (q := view K14.T69.RZ.prog [71]) (H := K14.T69.hookZ) (ob := K14.T69.obZ) (M := 20000) (loose := K14.T69.nms) (d := HandSHeadRun.topDef K14.T69.RZ.prog 71) (kwd := []) K14.T69.obZ_eq
    (by kernel_rfl) (fun s => by kernel_rfl) K14.T69.runZ (by kernel_rfl) (by kernel_rfl) (by kernel_rfl) (by rfl) (by first | assumption | decide +kernel) (by decide +kernel) ⟨rfl, rfl, rfl, rfl, rfl, by decide +kernel⟩ ?hw ?hc
  case hw => w_witness2
  case hc => exact K14.T69.walk
