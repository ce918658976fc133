import PyProof.Rows.All
import Wide.All
import OpenK.AllK
import Wide.FinOn
import HandS.ExcValue
import HandS.ExcInit
import HandS.ExcField
import HandS.List
import HandS.IsInst
import HandS.Words
import KE.KExcSuper
import HandS.ExcSuper
import HandS.Defaults
import HandS.HeadHook4
import HandS.ForMost
import HandS.EndTab
import HandS.TryMany
import HandS.Zip
import HandS.Walk
import HandS.ListItems
import PySem.Challenge.RW_twinforks_k27_whole_tables
import KE.GoesEnum
import HandS.Small
import HandS.TupAny
import HandS.Star
import KE.KDictZip
import KE.KItemsList
import PyProof.ReprLen
import HandS.Conv
import HandS.Style
import HandS.More
import HandS.HeadWalk
import HandS.HeadEnd
import HandS.Head2
import KE.KStateDown
set_option Elab.async false
set_option linter.all false
set_option maxRecDepth 100000
set_option maxHeartbeats 0
namespace Kz
open PySem PySem.W PySem.Calls PyProof.Rows L2

/-- what the written part says of an own error class and of its __init__ -/
structure XF (prog : Program) (K : Frag) (C fI : Addr) (qual : Str) (params : Arguments) (body : List Stmt) (scope : Scope) : Prop where
  oex : OexC K C
  ini : findIn K (.ref C) "__init__" = some (some (.ref fI))
  tyI : typeIn K (.ref fI) = some (.type "function")
  fn : ∃ (oc : Value) (od : Option Addr) (kV doc pm : Value) (an : Option Addr) (cda : Addr) (ct : Value) (osl : Array (Option Value)) (cc : Addr) (ccl : Value) (cdd : Option Addr) (vs : Array Value) (ccs : Array (Option Value)) (file : Str) (tf : Tok)
      (cl : Value) (cld : Option Addr) (csl : Array (Option Value)),
    K.lookup fI = some ⟨oc, od, .func (ksFn "__init__" qual params body scope .none kV doc pm an (.ref cda) ct cc), osl⟩ ∧ codeIn K (.ref cda) qual = true ∧ K.lookup cda = some ⟨ccl, cdd, .fields vs, ccs⟩ ∧ vs[2]? = some (.str file tf) ∧
      ((prog.main.file : Str) == file) = true ∧ K.lookup cc = some ⟨cl, cld, .cell (some (.ref C)), csl⟩
  sup : ks_superIn K C C "__init__" = some (some (.builtin "ValueError.__init__"))
  sbV : subIn K (.ref C) (.type "ValueError") = some true
  slf : mroIn K C (.ref C) = some true
  opq : nsIn K cStatics "thirdparty.any" = some none
  glo : nsIn K mainGlobals "super" = some none
  top : (prog.main.scope.names.lookup ("super" : Str)).isSome = false
  xf : XfC K C

/-- the scope of such an __init__ -/
structure ScI (params : Arguments) (scope : Scope) (fs : List Str) : Prop where
  hd : ∃ ar, (params.posonlyargs ++ params.args).head? = some ar ∧ ar.arg = ("self" : Str)
  ks : scope.names.lookup ("super" : Str) = some .globalImplicit
  kc : scope.names.lookup ("__class__" : Str) = some .free
  ka : scope.names.lookup ("self" : Str) = some .local
  kf : ∀ f ∈ fs, scope.names.lookup f = some .local
  cell : ∀ x ∈ scope.names, x.2 ≠ .cell
  kind : scope.kind = .function
  co : scope.isCoroutine = false
  gen : scope.isGenerator = false

def sSuper (msg : Str) (j : Nat) (p0 p1 p2 p3 p4 p5 : Pos) : Stmt := .Expr (.Call (.Attribute (.Call (.Name "super" p0) [] [] p1) "__init__" p2) [.Constant (.str msg) j p3] [] p4) p5
def sPut (f : Str) (q0 q1 q2 q3 : Pos) : Stmt := .Assign [.Attribute (.Name "self" q0) f q1] (.Name f q2) q3

section
variable {X : Cx} {pins : List (Addr × Obj)} {σ : L2.St} {H : Hp} {s : Shared} {a C fI : Addr} {A : Around} {E : Value → Shared → Prop}

/-- the record of an exception that is being made, behind super().__init__(..) -/
theorem call_up {u : Addr} {rest : List Value} {Q : Value → Shared → Prop} (T : OexC X.K C) (I : Inv X pins σ H s) (e : H a = some (exo a C none)) (hu : s.heap.get? u = some (kxs_mw "ValueError.__init__" a)) (hl : rest.length ≤ sizeLine)
    (h : ∀ s', Inv X pins σ H s' → (∀ b o, b ≠ a → s.heap.get? b = some o → s'.heap.get? b = some o) → Q .none s') : wpAny (model X.prog X.w) A (call (.ref u) rest) Q E s := by
  obtain ⟨nm, q, N, bs, bm, sn, sub, ab, col, dd, k0, k1, k2, k3, k5, hC, hbm⟩ := T.cls
  obtain ⟨t1, ho⟩ := exo_at I.hok e
  have hCs := I.kIn _ _ hC
  obtain ⟨hp, g, d, t, os⟩ := s
  refine wpAny_call (codeAny_of_tree ?_)
  show wpAny _ A.in1 (callAny (.ref u) ⟨rest, []⟩) _ _ _
  simp only [callAny]
  refine wpAny_bind (wpAny_load hu ?_)
  simp only [kxs_mw, show (Value.type "method-wrapper" == Value.type "method" || Value.type "method-wrapper" == Value.type "builtin_function_or_method" || Value.type "method-wrapper" == Value.type "method-wrapper") = true by decide, if_true]
  refine KFB.if_so (by decide) ?_
  refine wpAny_bind (check_bound_init F.excBase_ValueError.toExcCallFacts hCs ho rfl ?_)
  refine wpAny_bind (wpAny_pure (wpAny_pure ?_))
  refine ⟨plainId_quiet F.excBase_ValueError.init.plain _, codeAny_builtin F.excBase_ValueError.initEntry ?_⟩
  refine exc_init_tree (cls := .ref C) (t0 := t1) (dv := none) (c2 := .none) (c3 := .none) (b4 := .bool false) ho hl (fun h' k e' _ => ?_)
  have J := I.write (t' := t) (x := a) (e := a) (o := exo a C none) (by rw [e]; exact True.intro) (.inl rfl) k ⟨_, e'⟩ (exo_ok e')
  have eu : upd H a (exo a C none) = H := by
    funext b
    by_cases hb : b = a
    · rw [hb, upd_same, e]
    · rw [upd_ne hb]
  rw [eu] at J
  exact h _ J k

/-- a pin more: the dict of a callee's locals -/
theorem pinned {L : Addr} {m : Str → Option Value} (I : Inv X pins σ H s) (hn : s.heap.Ns L m) (hH : H L = none) (h1 : L ≠ X.env.locals) (h2 : L ∉ X.fs) :
    ∃ oL, Inv X ((L, oL) :: pins) σ H s ∧ (∃ es ep, oL.data = .dict es ep ∧ ∀ s' : Shared, s'.heap.get? L = some oL → s'.heap.Ns L m) := by
  obtain ⟨oL, es, ep, hL, hd, r⟩ := hn
  refine ⟨oL, I.pins_of fun p hp => ?_, es, ep, hd, fun s' e => ⟨oL, es, ep, e, hd, r⟩⟩
  rcases List.mem_cons.mp hp with rfl | hp
  · exact ⟨hL, hH, h1, h2, fun v z => by rw [hd] at z; cases z⟩
  · exact I.pin p (List.mem_append_right _ hp)
theorem unpin {q : Addr × Obj} (I : Inv X (q :: pins) σ H s) : Inv X pins σ H s := I.pins_of fun p hp => I.pin p (List.mem_append_right _ (List.mem_cons_of_mem _ hp))

theorem ev_super {msg : Str} {j : Nat} {p0 p1 p2 p3 p4 : Pos} (hm : (p2.endLine == p4.line) = true) (env : Env) :
    eval (.Call (.Attribute (.Call (.Name "super" p0) [] [] p1) "__init__" p2) [.Constant (.str msg) j p3] [] p4) env = (do
      let ov ← attributeBase (.Call (.Name "super" p0) [] [] p1) "__init__" env (eval (.Call (.Name "super" p0) [] [] p1) env)
      standAt p2.atName
      let (f, first) ← holding [ov] (getMethod ov "__init__" (do return (← importBound (.Call (.Name "super" p0) [] [] p1) env).getD true))
      callWith p4 f first (backTo p4 (starEach [.Constant (.str msg) j p3] env)) []) := by
  have e : methodCallPos true (.Call (.Name "super" p0) [] [] p1) env p2 p4 = pure p4 := by
    unfold methodCallPos
    rw [hm]
    rfl
  show (attributeBase _ _ _ _ >>= fun ov => standAt p2.atName >>= fun _ => holding [ov] (calleeOf true (.Call (.Name "super" p0) [] [] p1) env ov "__init__") >>= fun fx => methodCallPos true (.Call (.Name "super" p0) [] [] p1) env p2 p4 >>= fun q => callWith q fx.1 fx.2 _ _) = _
  rw [e]
  rfl
/-- an own __init__ to where super().__init__(text) is done -/
theorem init_pre {qual : Str} {params : Arguments} {scope : Scope} {msg : Str} {j : Nat} {p0 p1 p2 p3 p4 p5 : Pos} {fs : List Str} {rest : List Stmt} {R : Result → Shared → Prop} {args : Args} {binds : List (Str × Value)}
    (hm : (p2.endLine == p4.line) = true) (T : XF X.prog X.K C fI qual params (sSuper msg j p0 p1 p2 p3 p4 p5 :: rest) scope) (S : ScI params scope fs) (I : Inv X pins σ H s) (e : H a = some (exo a C none)) (hroom : A.depth < recursionLimit)
    (hbind : ∀ (kV doc pm : Value) (an : Option Addr) (cdv ct : Value) (cc : Addr), bindArgs (ksFn "__init__" qual params (sSuper msg j p0 p1 p2 p3 p4 p5 :: rest) scope .none kV doc pm an cdv ct cc) args = pure binds)
    (hloc : ∀ x ∈ binds, scope.names.lookup x.1 = some .local) (hs : binds.reverse.lookup ("self" : Str) = some (.ref a))
    (h : ∀ (env : Env) (oL : Obj) (s' : Shared), env.scope.kind = .function → (∀ x, env.kindOf x = scope.names.lookup x) → (∀ s2 : Shared, s2.heap.get? env.locals = some oL → s2.heap.Ns env.locals (fun x => binds.reverse.lookup x)) → Inv X ((env.locals, oL) :: pins) σ H s' →
      wpAny (model X.prog X.w) (A.deeper env) (execs rest env) (fun fl s' => R (.ok (.ret (match fl with | .ret v => v | _ => .none))) s') (fun e s' => wpAny (model X.prog X.w) (A.deeper env) (leaving env e) (fun _ s'' => R (.error e) s'') (fun e' s'' => R (.error e') s'') s') s') :
    codeAny (model X.prog X.w) A (.call (.ref fI) args) R s := by
  obtain ⟨oc, od, kV, doc, pm, an, cda, ct, osl, cc, ccl, cdd, vs, ccs, file, tf, cl, cld, csl, lk, hcd, lcd, hvs, hfile, lcc⟩ := T.fn
  obtain ⟨ar, hh1, hh2⟩ := S.hd
  obtain ⟨mb, bl1, bl2⟩ := I.mod.blt
  refine ks_codeAny_call_defAt (fd := ksFn "__init__" qual params (sSuper msg j p0 p1 p2 p3 p4 p5 :: rest) scope .none kV doc pm an (.ref cda) ct cc) hroom (I.kIn _ _ lk) rfl I.nolimit (codeRec_of I.kIn hcd) rfl (.of_eq (hbind kV doc pm an (.ref cda) ct cc)) S.cell hloc
    (fun h₁ hns kp => ?_) S.co S.gen S.kind
  have I1 : Inv X pins σ H { s with heap := h₁, toks := s.toks + binds.length } := I.kept kp
  have nX : s.heap.objs.size ≠ X.env.locals := Nat.ne_of_gt I.lt
  have nF : s.heap.objs.size ∉ X.fs := I.nofs (Nat.le_refl _)
  let fdI := ksFn "__init__" qual params (sSuper msg j p0 p1 p2 p3 p4 p5 :: rest) scope .none kV doc pm an (.ref cda) ct cc
  have ek : ∀ x, (callEnv fdI s.heap.objs.size fI).kindOf x = scope.names.lookup x := fun x => rfl
  have eK : (callEnv fdI s.heap.objs.size fI).scope.kind = .function := S.kind
  have eI : interactive (callEnv fdI s.heap.objs.size fI) = false := by
    unfold interactive
    rw [eK]
    rfl
  obtain ⟨oL, I1', es, ep, _, back⟩ := pinned I1 hns (I.hok.fresh (Nat.le_refl _)) nX nF
  refine ks_wpAt_execs_cons (ks_wpAt_Expr_any (ks_wpAt_MethodCall ?_ (ev_super hm _)) eI (by rfl))
  refine ks_wpAt_super_base ((ek _).trans S.ks) ((ek _).trans S.kc) (by decide) rfl (I1'.kIn _ _ lk) rfl hh1 rfl (I1'.kIn _ _ lcd) rfl hvs hfile T.top ?_
  refine ks_loadName_global eK ((ek _).trans S.ks) (loadGlobal_builtin (mg := X.mg) (mb := mb) (v := .type "super") (I1'.mod.glob.keeps I1'.bk) (mg_none_of I1'.mod.kin I1'.mod.glob T.glo) (bl1.keeps I1'.bk) ((bl2 _ (by decide +kernel)).trans (by first | rfl | kernel_rfl)) ⟨rfl, ?_⟩)
  refine wpAny_loadName_free eK ((ek _).trans S.kc) rfl ⟨_, I1'.kIn _ _ lcc, rfl⟩ ?_
  rw [hh2]
  refine wpAny_loadName_local eK ((ek _).trans S.ka) hns hs ?_
  obtain ⟨nm, qn, N, bs, bm, sn, sub, ab, col, dd, k0, k1, k2, k3, k5, hC, hbm⟩ := T.oex.cls
  have hC1 := I1'.kIn _ _ hC
  obtain ⟨t1, ho⟩ := exo_at I1'.hok e
  refine ks_wpAny_isType_cls hC1 rfl ⟨rfl, ?_⟩
  refine ks_wpAny_call_super hC1 rfl ho rfl (fun c z => nomatch z) (looks_mroIn I1'.kIn T.slf) (fun h2 e2 kp2 => ?_)
  have I2 : Inv X ((s.heap.objs.size, oL) :: pins) σ H { s with heap := h2, toks := s.toks + binds.length } := I1'.kept kp2
  obtain ⟨t2, ho2⟩ := exo_at I2.hok e
  have hsm := T.sup
  have hcl : clsIn X.K C = some { name := nm, bases := bs, mro := .ref C :: bm, ns := N, qualname := qn, hasDict := true, slotNames := sn, subclasses := sub, abstract := ab, collection := col, hasDel := false } := by unfold clsIn; rw [hC] <;> rfl
  have IA : InstAt h2 a _ C none := ⟨ho2, rfl, rfl, trivial⟩
  unfold ks_superIn at hsm
  rw [hcl] at hsm
  refine kxs_getMethod kxs_ValueError (so := h₁.objs.size) e2 (looks_opaque I2.kIn T.opq) (l₀ := .ref C :: bm) (fun A Q E s k q => wpAny_bind ((looks_clsIn I2.kIn hcl) A _ E s k (wpAny_pure q))) rfl I2.kIn hsm (IA.type.andThen (looks_subIn I2.kIn T.sbV)) (ks_ne I2.kIn IA hcl) (by decide) ?_
  have kp3 : ∀ b o, h2.get? b = some o → (h2.push (kxs_mw "ValueError.__init__" a)).get? b = some o := fun b o z => Heap.get?_push_of_some _ z
  have I3 : Inv X ((s.heap.objs.size, oL) :: pins) σ H { s with heap := h2.push (kxs_mw "ValueError.__init__" a), toks := s.toks + binds.length + 1 } := I2.kept kp3
  have hbw : (h2.push (kxs_mw "ValueError.__init__" a)).get? h2.objs.size = some (kxs_mw "ValueError.__init__" a) := Heap.get?_push_at rfl rfl
  refine kxs_callWith (i := "ValueError.__init__") (x := a) (by rfl) (evalArgs_plain (Calls.spliced_cons (wpAny_Constant_str (k := j) (pos := p3) (Calls.spliced_nil ⟨hbw, ?_⟩))))
  have I4 := I3.tok (s.toks + binds.length + 1 + 1)
  refine call_up T.oex I4 e hbw (by rw [sizeLine_eq]; exact Nat.le_of_ble_eq_true rfl) (fun s5 I5 _ => ?_)
  exact wpAt_of_wpAny (h (callEnv fdI s.heap.objs.size fI) oL s5 eK ek back I5)

theorem pin_at {q : Addr × Obj} (I : Inv X (q :: pins) σ H s) : s.heap.get? q.1 = some q.2 := (I.pin q (List.mem_append_right _ (List.mem_cons_self ..))).1

/-- an own __init__(self, f): super().__init__(text); self.f = f -/
theorem init1 {qual : Str} {params : Arguments} {scope : Scope} {f msg : Str} {j : Nat} {p0 p1 p2 p3 p4 p5 q0 q1 q2 q3 : Pos} {R : Result → Shared → Prop} {args : Args} {y : V} {u : Value}
    (hm : (p2.endLine == p4.line) = true) (T : XF X.prog X.K C fI qual params [sSuper msg j p0 p1 p2 p3 p4 p5, sPut f q0 q1 q2 q3] scope) (S : ScI params scope [f]) (I : Inv X pins σ H s) (e : H a = some (exo a C none)) (ry : RelV y u) (hroom : A.depth < recursionLimit)
    (hbind : ∀ (kV doc pm : Value) (an : Option Addr) (cdv ct : Value) (cc : Addr), bindArgs (ksFn "__init__" qual params [sSuper msg j p0 p1 p2 p3 p4 p5, sPut f q0 q1 q2 q3] scope .none kV doc pm an cdv ct cc) args = pure [(("self" : Str), Value.ref a), (f, u)])
    (hfs : (f == ("self" : Str)) = false) (hfd : (f == ("__debug__" : Str)) = false) (hno : findIn X.K (.ref C) f = some none)
    (h : ∀ (dx : Addr) (s' : Shared), H dx = none → dx ≠ a → Inv X pins σ (upd (upd H dx (exd dx [(f, y)])) a (exo a C (some dx))) s' → R (.ok (.ret .none)) s') :
    codeAny (model X.prog X.w) A (.call (.ref fI) args) R s := by
  have e1 : ([((("self" : Str)), Value.ref a), (f, u)].reverse).lookup ("self" : Str) = some (.ref a) := by
    have q : (("self" : Str) == f) = false := by rw [Bool.beq_comm]; exact hfs
    simp [List.lookup, q]
  have e2 : ([((("self" : Str)), Value.ref a), (f, u)].reverse).lookup f = some u := by simp [List.lookup]
  refine init_pre (binds := [(("self" : Str), Value.ref a), (f, u)]) hm T S I e hroom hbind (fun x hx => ?_) e1 (fun env oL s1 hk ek back I1 => ?_)
  · rcases List.mem_cons.mp hx with rfl | hx
    · exact S.ka
    · rcases List.mem_cons.mp hx with rfl | hx
      · exact S.kf f (List.mem_cons_self ..)
      · cases hx
  · refine wpAny_execs_cons (plainObj_wpAny_Assign_Attribute ?_ (by rfl))
    refine ESX.ldL (back _ (pin_at I1)) e2 ?_ hk ((ek _).trans (S.kf f (List.mem_cons_self ..))) hfd
    refine ESX.ldL (back _ (pin_at I1)) e1 ?_ hk ((ek _).trans S.ka) (by decide)
    refine ost_new T.oex I1 e hno ry (fun dx s2 hd hne I2 => ?_)
    exact wpAny_pure (h dx s2 hd hne (unpin I2))
end
end Kz
namespace Kz
open PySem PySem.W PySem.Calls L2 PySem.HandSPX

section
variable {M : Model} {A : Around} {E : Value → Shared → Prop} {h : Heap} {g : Array GenState} {d : Drawn} {t : Nat} {os : OsState}
variable {nm q : Str} {C N : Addr} {bs bm bmB : List Value} {hdct : Bool} {sn : List Str} {sub : List Value} {ab : Bool} {col : Option Bool} {dd : Option Addr} {k0 k1 k2 k3 k5 : Option Value} {B newId initId : String}
/-- keywords let through: the check of the built-in __new__ -/
theorem kwCheck (FB : ExcBaseFacts B newId initId bmB) (hT : ∀ X : String, bm.contains (.type X) = bmB.contains (.type X)) {us : List Value} {kw : List (Str × Value)} {Q : Unit → Shared → Prop}
    (hC : h.get? C = some (excClassObj nm q C N bs bm hdct sn sub ab col dd k0 k1 k2 k3 k5 newId)) (z : Q () ⟨h, g, d, t, os⟩) : wpAny M A (checkBuiltinCall newId ⟨.ref C :: us, kw⟩) Q E ⟨h, g, d, t, os⟩ := by
  have hin : (Value.ref C :: bm).contains (.type B) = true := by rw [List.contains_cons, hT, FB.hasB, Bool.or_true]
  have hst := FB.noStar
  simp only [checkBuiltinCall, FB.newKind, FB.newSplit, FB.newRow]
  repeat (first | refine wpAny_loadPart_at hC ?_ | (refine wpAny_isSubtype_exc hC ?_; rw [hin]) | refine wpAny_staticBase_exc hC ?_ | refine wpAny_madeBy_exc hC ?_ | simp only [bne_self_eq_false, Bool.false_eq_true, if_false] | wp_step)
  exact z
end
section
variable {prog : Program} {w : World} {A : Around} {E : Value → Shared → Prop} {R : Result → Shared → Prop} {h : Heap} {g : Array GenState} {d : Drawn} {t : Nat} {os : OsState}
variable {nm q : Str} {C N : Addr} {bs bm bmB : List Value} {hdct : Bool} {sn : List Str} {sub : List Value} {ab : Bool} {col : Option Bool} {dd : Option Addr} {k0 k1 k2 k3 k5 : Option Value} {B newId initId : String}
theorem kwNew (FB : ExcBaseFacts B newId initId bmB) (hT : ∀ X : String, bm.contains (.type X) = bmB.contains (.type X)) {us : List Value} {kw : List (Str × Value)}
    (hC : h.get? C = some (excClassObj nm q C N bs bm hdct sn sub ab col dd k0 k1 k2 k3 k5 newId))
    (z : R (.ok (.ret (.ref (h.objs.size + 1)))) ⟨(h.push (W.kdv_tup us)).push (excO C h.objs.size), g, d, t, os⟩) (hl : us.length ≤ sizeLine) :
    codeAny (model prog w) A (.builtin newId ⟨.ref C :: us, kw⟩) R ⟨h, g, d, t, os⟩ := by
  have he := FB.ends
  have c1 : (Value.ref C :: bm).contains (.type B) = true := by rw [List.contains_cons, hT, FB.hasB, Bool.or_true]
  have c2 : (Value.ref C :: bm).contains (.type "AttributeError") = false := by rw [List.contains_cons, hT, FB.noAttr]; rfl
  have c3 : (Value.ref C :: bm).contains (.type "NameError") = false := by rw [List.contains_cons, hT, FB.noName]; rfl
  refine codeAny_builtinAt FB.entry ?_
  unfold Builtin.«BaseException.__new__»
  refine _root_.PySem.wpAt_bind ?_
  show _root_.PySem.wpAt _ _ _ (stack >>= _) _ _ _
  refine _root_.PySem.wpAt_bind (_root_.PySem.wpAt_stack fun _ _ => _root_.PySem.wpAt_of_wpAny ?_)
  wp_walk
  refine _root_.PySem.wpAt_of_wpAny ?_
  rw [FB.owner]
  repeat (first | with_reducible refine wpAny_madeHere_exc FB.canon hC ?_ | with_reducible refine wpAny_loadPart_at hC ?_ | (with_reducible refine wpAny_isSubtype_exc hC ?_; first | rw [c1] | rw [c2] | rw [c3]) | wp_step)
  show R _ _
  rw [Heap.size_push]
  exact z
theorem kwType (FB : ExcBaseFacts B newId initId bmB) (hT : ∀ X : String, bm.contains (.type X) = bmB.contains (.type X)) {us : List Value} {kw : List (Str × Value)} {fI : Addr} {Q : Fin → Shared → Prop}
    (hC : h.get? C = some (excClassObj nm q C N bs bm hdct sn sub ab col dd k0 k1 k2 k3 k5 newId))
    (hi : W.Looks (model prog w) h (typeLookup (.ref C) "__init__") (some (.ref fI))) (hb : ∀ self, W.Looks (model prog w) h (bindSpecial (.ref fI) self) (.ref fI, [self])) (hl : us.length ≤ sizeLine)
    (z : codeAny (model prog w) A (.call (.ref fI) ⟨.ref (h.objs.size + 1) :: us, kw⟩)
      (fun r s' => match r with | .ok (.ret v) => v = .none ∧ Q (.done (.ret (.ref (h.objs.size + 1)))) s' | .ok _ => False | .error e => E e s')
      ⟨(h.push (W.kdv_tup us)).push (excO C h.objs.size), g, d, t, os⟩) :
    wpAny (model prog w) A (Builtin.«type.__call__» ⟨.ref C :: us, kw⟩) Q E ⟨h, g, d, t, os⟩ := by
  repeat (first | with_reducible refine wpAny_loadPart_at hC ?_ | with_reducible refine wpAny_madeBy_exc hC ?_ | wp_step)
  refine codeAny_call_builtin_code (Code.quiet_builtin _ FB.quiet) (kwCheck FB hT hC (kwNew FB hT hC ?_ hl))
  show wpAny _ _ _ _ _ _
  have kp : ∀ b o, h.get? b = some o → ((h.push (W.kdv_tup us)).push (excO C h.objs.size)).get? b = some o := fun b o e => Heap.get?_push_of_some _ (Heap.get?_push_of_some _ e)
  have hC1 := kp _ _ hC
  have hx : ((h.push (W.kdv_tup us)).push (excO C h.objs.size)).get? (h.objs.size + 1) = some (excO C h.objs.size) := by heap_get
  have hcc : (Value.ref C :: bm).contains (.ref C) = true := by simp
  have i1 := hi.keeps kp
  have b1 := (hb (.ref (h.objs.size + 1))).keeps kp
  unfold isInstance
  repeat (first | with_reducible refine wpAny_loadPart_at hx ?_ | (with_reducible refine wpAny_isSubtype_exc hC1 ?_; rw [hcc]) | wp_step)
  show wpAny _ _ (typeLookup (.ref C) _) _ _ _
  refine i1.at (wpAny_holding (wpAny_bind (b1.at (wpAny_bind (wpAny_call (codeAny_mono z fun r s' y => ?_))))))
  rcases r with e | (v | _ | _ | _) <;> first | exact y | exact y.elim | skip
  obtain ⟨rfl, y⟩ := y
  first
    | exact wpAny_pure (wpAny_pure y)
    | (wp_walk; exact y)
theorem kwCall (FB : ExcBaseFacts B newId initId bmB) (hT : ∀ X : String, bm.contains (.type X) = bmB.contains (.type X)) {us : List Value} {kw : List (Str × Value)} {fI : Addr}
    (hC : h.get? C = some (excClassObj nm q C N bs bm hdct sn sub ab col dd k0 k1 k2 k3 k5 newId))
    (hi : W.Looks (model prog w) h (typeLookup (.ref C) "__init__") (some (.ref fI))) (hb : ∀ self, W.Looks (model prog w) h (bindSpecial (.ref fI) self) (.ref fI, [self])) (hl : us.length ≤ sizeLine)
    (z : codeAny (model prog w) (A.under (.builtin "type.__call__" ⟨.ref C :: us, kw⟩)) (.call (.ref fI) ⟨.ref (h.objs.size + 1) :: us, kw⟩) (W.InitBack (h.objs.size + 1) R)
      ⟨(h.push (W.kdv_tup us)).push (excO C h.objs.size), g, d, t, os⟩) :
    codeAny (model prog w) A (.call (.ref C) ⟨us, kw⟩) R ⟨h, g, d, t, os⟩ := by
  have f1 := tc_lookup
  have f2 := tc_bind (.ref C)
  have hTy : (⟨h, g, d, t, os⟩ : Shared).TypeIs (.ref C) "type" := ⟨_, hC, rfl⟩
  refine codeAny_of_tree (show wpAny _ _ (callAny (.ref C) _) _ _ _ from ?_)
  repeat (any_goals (first | assumption | with_reducible refine wpAny_loadPart_at hC ?_ | wp_step))
  refine ⟨rfl, codeAny_call_builtin_at (Code.quiet_builtin _ (by decide +kernel)) entry_typeCall (wpAny_check_type_call_sub hC (kwType FB hT hC hi hb hl (codeAny_mono z fun r s' y => ?_)))⟩
  rcases r with e | (v | _ | _ | _) <;> exact y
end
end Kz
namespace Kz
open PySem PySem.W PySem.Calls PyProof.Rows L2

section
variable {X : Cx} {pins : List (Addr × Obj)} {σ : L2.St} {H : Hp} {s : Shared} {a C fI : Addr} {A : Around} {E : Value → Shared → Prop}

/-- the heap behind the making of an error: at a the error, at dx its dict -/
def mkH (H : Hp) (a C dx : Addr) (fs : List (Str × V)) : Hp := upd (upd H dx (exd dx fs)) a (exo a C (some dx))
theorem mkH_over {fs : List (Str × V)} {dx : Addr} {o : HO} : mkH (upd H a o) a C dx fs = mkH H a C dx fs := by
  funext b
  unfold mkH upd
  by_cases hb : b = a
  · simp [hb]
  · simp [hb]

end

/-! ### the rules -/
/-- the texts of an own error class with one field -/
structure X1 (prog : Program) (K : Frag) (C : Addr) (f : Str) : Prop where
  ex : ∃ (fI : Addr) (qual : Str) (params : Arguments) (scope : Scope) (msg : Str) (j : Nat) (p0 p1 p2 p3 p4 p5 q0 q1 q2 q3 : Pos), (p2.endLine == p4.line) = true ∧ XF prog K C fI qual params [sSuper msg j p0 p1 p2 p3 p4 p5, sPut f q0 q1 q2 q3] scope ∧ ScI params scope [f] ∧
    (∀ (kV doc pm : Value) (an : Option Addr) (cdv ct : Value) (cc : Addr) (a u : Value), bindArgs (ksFn "__init__" qual params [sSuper msg j p0 p1 p2 p3 p4 p5, sPut f q0 q1 q2 q3] scope .none kV doc pm an cdv ct cc) ⟨[a, u], []⟩ = pure [(("self" : Str), a), (f, u)]) ∧
    (∀ (kV doc pm : Value) (an : Option Addr) (cdv ct : Value) (cc : Addr) (a u : Value), bindArgs (ksFn "__init__" qual params [sSuper msg j p0 p1 p2 p3 p4 p5, sPut f q0 q1 q2 q3] scope .none kV doc pm an cdv ct cc) ⟨[a], [(f, u)]⟩ = pure [(("self" : Str), a), (f, u)])
  fs : (f == ("self" : Str)) = false
  fd : (f == ("__debug__" : Str)) = false
  no : findIn K (.ref C) f = some none
  kC : keepIn K (.ref C) = true
theorem under_depth {A : Around} {C : Addr} {us : List Value} {kw : List (Str × Value)} {k : Nat} (hr : Room k A) : (A.under (.builtin "type.__call__" ⟨.ref C :: us, kw⟩)).depth < recursionLimit := by
  rw [make_depth]
  have := hr.dp
  omega

end Kz
namespace Kz
open PySem PySem.W PySem.Calls PyProof.Rows L2 LamX


theorem mkH_a {H : Hp} {a C dx : Addr} {fs : List (Str × V)} : mkH H a C dx fs a = some (exo a C (some dx)) := upd_same
theorem mkH_d {H : Hp} {a C dx : Addr} {fs : List (Str × V)} (ne : dx ≠ a) : mkH H a C dx fs dx = some (exd dx fs) := by
  unfold mkH
  rw [upd_ne ne, upd_same]
theorem new_ext {H : Hp} {a : Addr} {o : HO} (n : H a = none) : ∀ b u, H b = some u → upd H a o b = some u := fun b u e => by
  rw [upd_ne (ne_of_none e n)]
  exact e

theorem small4 (n : Nat) (h : n ≤ 1000 := by decide) : n ≤ sizeLine := by
  rw [sizeLine_eq]
  omega
end Kz
namespace Kz
open PySem PySem.W PySem.Calls PyProof.Rows L2 LamX

theorem boot_isi : bootBuiltins "isinstance" = some (.builtin "isinstance") := by decide +kernel

end Kz
namespace Kz
open PySem PySem.W PySem.Calls PyProof.Rows L2 LamX
open He (ga)

/-! ### the text -/
theorem PSs.of_eq {X : Cx} {a b : List Stmt} {t : TS} (e : b = a) (h : PSs X a t) : PSs X b t := by
  rw [e]
  exact h
section
variable {P : Program} {w : World} {K : Frag} {mg : Str → Option Value} {base : Heap}

end
end Kz
namespace Kz
open PySem PySem.W PySem.Calls PyProof.Rows L2 LamX
open He (ga)

theorem same_new {H : Hp} {p : Addr} {o : HO} (h : H p = none) : Same H (upd H p o) := new_ext h

section
variable {P : Program} {w : World} {K : Frag} {mg : Str → Option Value} {base : Heap}
/-! ### lists of truths -/
end
end Kz
namespace Kz
open PySem PySem.W PySem.Calls PyProof.Rows L2 LamX
open He (ga)

theorem boot_rp : bootBuiltins "repr" = some (.builtin "repr") := by decide +kernel

end Kz
namespace Kz
open PySem PySem.W PySem.Calls PyProof.Rows L2 LamX
open He (ga)
theorem boot_in : bootBuiltins "int" = some (.type "int") := by decide +kernel
theorem boot_li : bootBuiltins "list" = some (.type "list") := by decide +kernel

/-- the spring of draws -/
structure SS (H : Hp) (l li : Addr) (ns : List Int) (b c d : Int) : Prop where
  l1 : H l = some (.lst [.ref li, .int b, .int c, .int d])
  l2 : H li = some (.lst (ns.map V.int))
  ne : l ≠ li
  b0 : 0 ≤ b
  c0 : 0 ≤ c
  d0 : 0 ≤ d
  d1 : d < 2147483647
/-- all but the spring stands -/
def ExtS (l li : Addr) (H H' : Hp) : Prop := ∀ x o, H x = some o → x ≠ l → x ≠ li → H' x = some o
theorem ExtS.trans {l li : Addr} {H H1 H2 : Hp} (a : ExtS l li H H1) (b : ExtS l li H1 H2) : ExtS l li H H2 := fun x o e h1 h2 => b x o (a x o e h1 h2) h1 h2
theorem SS.set {H : Hp} {l li : Addr} {ns : List Int} {b c d b' c' d' : Int} (s : SS H l li ns b c d) (hb : 0 ≤ b') (hc : 0 ≤ c') (hd : 0 ≤ d') (hd1 : d' < 2147483647) : SS (upd H l (.lst [.ref li, .int b', .int c', .int d'])) l li ns b' c' d' ∧ ExtS l li H (upd H l (.lst [.ref li, .int b', .int c', .int d'])) :=
  ⟨⟨upd_same, by rw [upd_ne s.ne.symm]; exact s.l2, s.ne, hb, hc, hd, hd1⟩, fun x o e h1 _ => by rw [upd_ne h1]; exact e⟩
theorem SS.pop {H : Hp} {l li : Addr} {n : Int} {ns : List Int} {b c d : Int} (s : SS H l li (n :: ns) b c d) : SS (upd H li (.lst (ns.map V.int))) l li ns b c d ∧ ExtS l li H (upd H li (.lst (ns.map V.int))) :=
  ⟨⟨by rw [upd_ne s.ne]; exact s.l1, upd_same, s.ne, s.b0, s.c0, s.d0, s.d1⟩, fun x o e _ h2 => by rw [upd_ne h2]; exact e⟩
theorem SS.new {H : Hp} {l li p : Addr} {ns : List Int} {b c d : Int} {o : HO} (s : SS H l li ns b c d) (n : H p = none) : SS (upd H p o) l li ns b c d ∧ ExtS l li H (upd H p o) :=
  ⟨⟨new_ext n _ _ s.l1, new_ext n _ _ s.l2, s.ne, s.b0, s.c0, s.d0, s.d1⟩, fun x o e _ _ => new_ext n _ _ e⟩

theorem tWhile_split {c : TT} {tb : TS} {D : Ends} {σ : L2.St} {H : Hp} (Ok : L2.St → Hp → Prop) (a : ∀ σ H, Ok σ H → D.nx σ H) (k : (∀ σ H, Ok σ H → D.nx σ H) → tWhile c tb D σ H) : tWhile c tb D σ H := k a
theorem seq0 {α : Type} (x : α) (r : List α) : seqIndex? 0 (x :: r).length = some 0 := by
  unfold seqIndex?
  simp
theorem canLay_int : ∀ bs : List Int, PyData.canLayAll0 (bs.map PyData.int) = true
  | [] => rfl
  | b :: r => by
    show (PyData.canLay0 (.int b) && PyData.canLayAll0 _) = true
    rw [canLay_int r]
    rfl
theorem depth_int : ∀ bs : List Int, PyData.depthAll (bs.map PyData.int) = 0
  | [] => rfl
  | b :: r => by
    simp only [List.map_cons, PyData.depthAll, PyData.depth, depth_int r]
    rfl
theorem shaped_int (bs : List Int) : SeqAt.shaped (.list (bs.map PyData.int)) = true := by
  unfold SeqAt.shaped
  rw [Bool.and_eq_true]
  constructor
  · simp only [PyData.canLay0, canLay_int]
  · simp only [PyData.depth, depth_int]
    rfl
theorem dpAll_int {K : Frag} {H : Hp} : ∀ bs : List Int, DpAll K H (bs.map V.int) (bs.map PyData.int)
  | [] => .nil
  | b :: r => .cons (.int b) (dpAll_int r)
section
variable {P : Program} {w : World} {K : Frag} {mg : Str → Option Value} {base : Heap}
def spStart (K : Frag) : Sp := fun vs H Q _ => ∃ (a : Addr) (ns : List Int), vs = [.ref a] ∧ SqL K H a (ns.map V.int) ∧ ∀ (H' : Hp) (l li : Addr), Same H H' → H l = none → H li = none → SS H' l li ns 0 0 19 → Q (.ref l) H'
end
end Kz
namespace Kz
open PySem PySem.W PySem.Calls PyProof.Rows L2 LamX
open He (ga)

/-! ### a def that is only called where nothing is being shown -/
structure FnG (P : Program) (w : World) (K : PySem.W.Frag) (mg : Str → Option Value) (base : Heap) (CX : CXT) (k : Nat) (f : Addr) (fd : FuncData) (ps : List Str) (sp : Sp) : Prop where
  len : ∀ vs H Q E, sp vs H Q E → vs.length = ps.length
  run : ∀ (A : Around) (outer : List Env) (s : Shared) (H : Hp) (args : Args) (us : List Value) (vs : List V) (Q : VK) (E : XK), A.guards = some [] → Room k A → Env0 P w K mg base A outer s H → BindsTo s fd args (ps.zip us) → Vals vs us → sp vs H Q E →
    codeAny (model P w) A (.call (.ref f) args) (CR CX outer P w H s Q E) s
theorem FunD.okG {CX : CXT} {P : Program} {w : World} {K : PySem.W.Frag} {mg : Str → Option Value} {base : Heap} {x qual : Str} {params : Arguments} {body : List Stmt} {scope : Scope} {dvs : List V} {kws : List (Str × V)} {f : Addr} {fd : FuncData} {N ps : List Str} {k : Nat} {sp : Sp}
    (F : FunD K x qual params body scope dvs kws f fd) (S : FnScope N ps scope) (len : ∀ vs H Q E, sp vs H Q E → vs.length = ps.length)
    (hbody : ∀ (cdv : Value) (A : Around) (outer : List Env) (s : Shared) (H : Hp) (vs : List V) (Q : VK) (E : XK), (A.deeper (envOfC qual scope s.heap.objs.size f cdv)).guards = some [] → Room k (A.deeper (envOfC qual scope s.heap.objs.size f cdv)) → sp vs H Q E →
      ∃ t, PSs (cxOf CX P w K mg base N qual scope f cdv A outer s H E) body t ∧ t { nx := fun _ H' => Q .non H', rt := Q } (start N vs) H) : FnG P w K mg base CX (k + 1) f fd ps sp := by
  obtain ⟨oc, od, dV, kV, doc, pm, an, cdv, ct, osl, rfl, lk, hcd, _, _⟩ := F.ex
  exact ⟨len, fun A outer s H args us vs Q E hg hr e0 hb r hsp => LamX.run_ofS lk hcd S hr e0 hb r (len _ _ _ _ hsp) fun hr' => hbody cdv A outer s H vs Q E hg hr' hsp⟩
section
variable {X : Cx} {CX : CXT} {k : Nat} {f : Addr} {fd : FuncData} {ps : List Str} {sp : Sp} {dvs : List V} {ds : List Value} {E : XK} {x : Str} {p pos : Pos} {e : Expr} {es : List Expr} {t : TA}
theorem pe_callG (hgd : X.A.guards = some []) (F : FnG X.prog X.w X.K X.mg X.base CX k f fd ps sp) (hr : Room k X.A) (hg : Gl X x) (hm : X.mg x = some (.ref f)) (hk : PySem.W.keepIn X.K (.ref f) = true) (hb : Binds X.K fd ps ds) (hd : Vals dvs ds) (hx : Passes CX X E)
    (ha : PA X (e :: es) t) (hdb : (x == ("__debug__" : Str)) = false := by decide) (he : starEach (e :: es) X.env = (false, eval e X.env) :: starEach es X.env := by rfl) (hpl : (backTo pos (starEach es X.env)).any (·.1) = false := by rfl) :
    PE X (.Call (.Name x p) (e :: es) [] pos) (tCall sp dvs E t) := by
  refine ⟨fun pins s σ H Q I h => wpAny_Call_Name_kw (ld_glob I hg hm ?_ hdb)⟩
  refine PySem.W.callWith_K (h₀ := X.base) I.ok.mod.kin hk (thn (ha.run pos pins s σ H _ I h) fun us s1 ⟨vs, H1, I1, r, q⟩ => ⟨I1.kIn, ?_⟩) he hpl
  have r2 : Vals (vs ++ dvs) (us ++ ds) := r.append hd
  have hl : (us ++ ds).length = ps.length := r2.length.symm.trans (F.len _ _ _ _ q)
  refine wpAny_call (codeAny_mono (F.run X.A X.stack s1 H1 ⟨us, []⟩ (us ++ ds) (vs ++ dvs) Q E hgd hr I1.env0 (hb s1 us I1.kIn hl) r2 q) fun r s' hq => ?_)
  cases r with
  | error e => exact hx pins σ H1 s1 e s' I1 hq
  | ok fl =>
    cases fl with
    | ret u => exact I1.after hq
    | _ => exact hq.elim
end

/-! ### repr, the dicts known to be no table of modules -/
end Kz
namespace Kz
open PySem PySem.W PySem.Calls PyProof.Rows L2 LamX
open He (ga)
theorem seqI {r : Int} {n : Nat} (h0 : 0 ≤ r) (h1 : r < n) : seqIndex? r n = some r.toNat := by
  unfold seqIndex?
  have a1 : ¬ r < 0 := by omega
  simp [a1]
  omega
def rLen (K : Frag) : List V → Hp → VK → Prop := fun xs H Q => ∃ p ys, xs = [.ref p] ∧ (SqL K H p ys ∨ SqT K H p ys) ∧ Q (.int ys.length) H
end Kz
namespace K14
open PySem PySem.W PySem.Calls PyProof.Rows L2 LamX
open He (ga)
open Kz (boot_isi same_new small4 new_ext boot_li boot_in)
/-! ### any thing that the law passes -/
def kd : Key → PyData
  | .inl i => .int i
  | .inr x => .str x
mutual
inductive Th (H : Hp) : V → PyData → Prop
  | non : Th H .non .none
  | bl (b : Bool) : Th H (.bl b) (.bool b)
  | int (i : Int) : Th H (.int i) (.int i)
  | str (x : Str) : Th H (.str x) (.str x)
  | lst {a : Addr} {xs : List V} {ds : List PyData} : H a = some (.lst xs) → ThAll H xs ds → Th H (.ref a) (.list ds)
  | tup {a : Addr} {xs : List V} {ds : List PyData} : H a = some (.tup xs) → ThAll H xs ds → Th H (.ref a) (.tuple ds)
  | dct {a : Addr} {kvs : List (Key × V)} {ps : List (PyData × PyData)} : H a = some (.dK kvs) → ThKv H kvs ps → Th H (.ref a) (.dict ps)
inductive ThAll (H : Hp) : List V → List PyData → Prop
  | nil : ThAll H [] []
  | cons {v : V} {vs : List V} {d : PyData} {ds : List PyData} : Th H v d → ThAll H vs ds → ThAll H (v :: vs) (d :: ds)
inductive ThKv (H : Hp) : List (Key × V) → List (PyData × PyData) → Prop
  | nil : ThKv H [] []
  | cons {k : Key} {v : V} {vs : List (Key × V)} {d : PyData} {ds : List (PyData × PyData)} : Th H v d → ThKv H vs ds → ThKv H ((k, v) :: vs) ((kd k, d) :: ds)
end
mutual
theorem Th.ext {H H1 : Hp} (e : L2.Same H H1) : ∀ {v : V} {d : PyData}, Th H v d → Th H1 v d
  | _, _, .non => .non
  | _, _, .bl b => .bl b
  | _, _, .int i => .int i
  | _, _, .str x => .str x
  | _, _, .lst h r => .lst (e _ _ h) (ThAll.ext e r)
  | _, _, .tup h r => .tup (e _ _ h) (ThAll.ext e r)
  | _, _, .dct h r => .dct (e _ _ h) (ThKv.ext e r)
theorem ThAll.ext {H H1 : Hp} (e : L2.Same H H1) : ∀ {v : List V} {d : List PyData}, ThAll H v d → ThAll H1 v d
  | _, _, .nil => .nil
  | _, _, .cons h r => .cons (Th.ext e h) (ThAll.ext e r)
theorem ThKv.ext {H H1 : Hp} (e : L2.Same H H1) : ∀ {v : List (Key × V)} {d : List (PyData × PyData)}, ThKv H v d → ThKv H1 v d
  | _, _, .nil => .nil
  | _, _, .cons h r => .cons (Th.ext e h) (ThKv.ext e r)
end
theorem ThAll.length {H : Hp} : ∀ {vs : List V} {ds : List PyData}, ThAll H vs ds → vs.length = ds.length
  | _, _, .nil => rfl
  | _, _, .cons _ r => by rw [List.length_cons, List.length_cons, r.length]
def isL : PyData → Bool
  | .list _ => true
  | .tuple _ => true
  | _ => false
def isN : PyData → Bool
  | .int i => decide (0 ≤ i)
  | _ => false
def tyN : PyData → String
  | .none => "NoneType"
  | .bool _ => "bool"
  | .int _ => "int"
  | .str _ => "str"
  | .list _ => "list"
  | .tuple _ => "tuple"
  | .dict _ => "dict"
theorem Th.ty {K : Frag} {H : Hp} {v : V} {d : PyData} (h : Th H v d) : TyX K H v (.type (tyN d)) := by
  cases h with
  | non => exact .base .non
  | bl b => exact .base (.bl b)
  | int i => exact .base (.int i)
  | str x => exact .base (.str x)
  | lst h r => exact .base (.lst h)
  | tup h r => exact .base (.tup h)
  | dct h r => exact .base (.dK h)
theorem boot_tu : bootBuiltins "tuple" = some (.type "tuple") := by decide +kernel
theorem boot_bo : bootBuiltins "bool" = some (.type "bool") := by decide +kernel
theorem is_lt {K : Frag} (d : PyData) : kitAny K (.type (tyN d)) [.type "list", .type "tuple"] = some (isL d) := by
  cases d <;> rfl
theorem is_in {K : Frag} (d : PyData) : kitOne K (.type (tyN d)) (.type "int") = some (match d with | .int _ => true | .bool _ => true | _ => false) := by
  cases d <;> rfl
theorem is_bo {K : Frag} (d : PyData) : kitOne K (.type (tyN d)) (.type "bool") = some (match d with | .bool _ => true | _ => false) := by
  cases d <;> rfl
section
variable {P : Program} {w : World} {K : Frag} {mg : Str → Option Value} {base : Heap}
/-- a look at any thing -/
def spLook (f : PyData → Bool) : Sp := fun vs H Q _ => ∃ (v : V) (d : PyData), vs = [v] ∧ Th H v d ∧ ∀ H', L2.Same H H' → Q (.bl (f d)) H'
end
end K14
namespace Kz
open PySem PySem.W PySem.Calls PyProof.Rows L2 LamX
open He (ga)
def Has (P : Program) (w : World) (K : Frag) (mg : Str → Option Value) (base : Heap) (x : Str) (k : Nat) (ps : List Str) (sp : Sp) : Prop := ∃ f fd, mg x = some (.ref f) ∧ keepIn K (.ref f) = true ∧ L2.Binds K fd ps [] ∧ FnOk P w K mg base CX0 k f fd ps sp
def HasG (P : Program) (w : World) (K : Frag) (mg : Str → Option Value) (base : Heap) (x : Str) (k : Nat) (ps : List Str) (sp : Sp) : Prop := ∃ f fd, mg x = some (.ref f) ∧ keepIn K (.ref f) = true ∧ L2.Binds K fd ps [] ∧ FnG P w K mg base CX0 k f fd ps sp
abbrev noE : XK := fun _ _ _ => False
section
variable {X : Cx} {x : Str} {p pos : Pos} {e : Expr} {es : List Expr} {ps : List Str} {sp : Sp} {k : Nat} {t : TA}
theorem pe_has (h : Has X.prog X.w X.K X.mg X.base x k ps sp) (hr : Room k X.A) (hg : Gl X x) (ha : PA X (e :: es) t) (hdb : (x == ("__debug__" : Str)) = false := by decide) (he : starEach (e :: es) X.env = (false, eval e X.env) :: starEach es X.env := by rfl) (hpl : (backTo pos (starEach es X.env)).any (·.1) = false := by rfl) :
    PE X (.Call (.Name x p) (e :: es) [] pos) (tCall sp [] noE t) := by
  obtain ⟨f, fd, h1, h2, h3, h4⟩ := h
  exact pe_call h4 hr hg h1 h2 h3 .nil pass0 ha hdb he hpl
theorem pe_hasG (hgd : X.A.guards = some []) (h : HasG X.prog X.w X.K X.mg X.base x k ps sp) (hr : Room k X.A) (hg : Gl X x) (ha : PA X (e :: es) t) (hdb : (x == ("__debug__" : Str)) = false := by decide) (he : starEach (e :: es) X.env = (false, eval e X.env) :: starEach es X.env := by rfl) (hpl : (backTo pos (starEach es X.env)).any (·.1) = false := by rfl) :
    PE X (.Call (.Name x p) (e :: es) [] pos) (tCall sp [] noE t) := by
  obtain ⟨f, fd, h1, h2, h3, h4⟩ := h
  exact pe_callG hgd h4 hr hg h1 h2 h3 .nil pass0 ha hdb he hpl
end
end Kz
namespace K14
open PySem PySem.W PySem.Calls PyProof.Rows L2 LamX
open He (ga)
open Kz (boot_isi same_new small4 new_ext boot_li boot_in Has pe_has noE)
def its : PyData → List PyData
  | .list ds => ds
  | .tuple ds => ds
  | _ => []
def isF : PyData → Bool
  | .int i => decide (0 ≤ i) && decide (i ≤ 1)
  | _ => false
def isR (d : PyData) : Bool := isL d && (its d).all isF
def isP (d : PyData) : Bool := isL d && decide ((its d).length = 2)
/-- a list or a tuple, as a list of values -/
theorem Th.seq {K : Frag} {H : Hp} {v : V} {d : PyData} (h : Th H v d) (l : isL d = true) : ∃ a xs, v = .ref a ∧ ThAll H xs (its d) ∧ (H a = some (.lst xs) ∨ H a = some (.tup xs)) := by
  cases h with
  | lst h r => exact ⟨_, _, rfl, r, .inl h⟩
  | tup h r => exact ⟨_, _, rfl, r, .inr h⟩
  | _ => cases l
theorem ThAll.get {H : Hp} : ∀ {vs : List V} {ds : List PyData}, ThAll H vs ds → ∀ {i : Nat} {v : V}, vs[i]? = some v → ∃ d, ds[i]? = some d ∧ Th H v d
  | _, _, .nil, i, v, e => by simp at e
  | _, _, .cons h r, i, v, e => by
    cases i with
    | zero => obtain rfl := Option.some.inj e; exact ⟨_, rfl, h⟩
    | succ i => exact r.get e
section
variable {X : Cx} {tg e : Expr} {w1 w2 : TI}
theorem pi_or (h1 : PI X tg e w1) (h2 : PI X tg e w2) : PI X tg e (fun σ H R => w1 σ H R ∨ w2 σ H R) := ⟨fun pins s σ H R I h => h.elim (h1.run pins s σ H R I) (h2.run pins s σ H R I)⟩
end
theorem boot_all : bootBuiltins "all" = some (.builtin "all") := by decide +kernel
end K14
namespace K14
open PySem PySem.W PySem.Calls PyProof.Rows L2 LamX
open He (ga)
open Kz (boot_isi same_new small4 new_ext boot_li boot_in Has pe_has noE)
section
variable {P : Program} {w : World} {K : Frag} {mg : Str → Option Value} {base : Heap}
def spRow : Sp := fun vs H Q _ => ∃ (v : V) (d : PyData), vs = [v] ∧ Th H v d ∧ (its d).length ≤ 100000 ∧ ∀ H', L2.Same H H' → Q (.bl (isR d)) H'
end
end K14
namespace K14
open PySem PySem.W PySem.Calls PyProof.Rows L2 LamX
open He (ga)
open Kz (boot_isi same_new small4 new_ext boot_li boot_in Has pe_has noE shaped_int dpAll_int)
theorem cutV_take {xs : List V} {l : Nat} (h : l ≤ xs.length) : cutV xs none (some (l : Int)) = xs.take l := by
  unfold cutV
  have e1 : HT.sIx xs.length 0 none = 0 := rfl
  have e2 : HT.sIx xs.length xs.length (some (l : Int)) = l := by
    rw [HT.sIx_nat]
    omega
  rw [e1, e2]
  rfl
theorem eqv_ints : ∀ xs ys : List Int, PyData.eqvAll (xs.map PyData.int) (ys.map PyData.int) = decide (xs = ys)
  | [], [] => rfl
  | [], y :: ys => rfl
  | x :: xs, [] => rfl
  | x :: xs, y :: ys => by
    show (PyData.eqv (.int x) (.int y) && PyData.eqvAll (xs.map PyData.int) (ys.map PyData.int)) = _
    rw [eqv_ints xs ys]
    have e : PyData.eqv (.int x) (.int y) = decide (x = y) := rfl
    rw [e]
    by_cases h1 : x = y
    · by_cases h2 : xs = ys
      · simp [h1, h2]
      · simp [h1, h2]
    · simp [h1]
theorem eqv_il (xs ys : List Int) : PyData.eqv (.list (xs.map PyData.int)) (.list (ys.map PyData.int)) = decide (xs = ys) := eqv_ints xs ys
end K14
namespace K14
open PySem PySem.W PySem.Calls PyProof.Rows L2 LamX
open He (ga)
open Kz (boot_isi same_new small4 new_ext boot_li boot_in Has pe_has noE shaped_int dpAll_int)
/-- a statement that is never come to -/
def tNever : TS := fun _ _ _ => False
theorem ps_never {X : Cx} {st : Stmt} : PS X st tNever := ⟨fun _ _ _ _ _ _ h => h.elim⟩
end K14
namespace K14
open PySem PySem.W PySem.Calls PyProof.Rows L2 LamX
open He (ga)
open Kz (boot_isi same_new small4 new_ext boot_li boot_in Has pe_has noE shaped_int dpAll_int)
theorem th_ints {H : Hp} : ∀ {xs : List V} {ns : List Int}, ThAll H xs (ns.map PyData.int) → xs = ns.map V.int
  | _, [], h => by cases h; rfl
  | _, n :: ns, h => by
    cases h with
    | cons h1 h2 =>
      cases h1
      rw [th_ints h2]
      rfl
section
variable {P : Program} {w : World} {K : Frag} {mg : Str → Option Value} {base : Heap}
theorem sl_of {H : Hp} {a : Addr} {xs : List V} (h : H a = some (.lst xs) ∨ H a = some (.tup xs)) : SqL K H a xs ∨ SqT K H a xs := h.elim (fun h => .inl (.inl (.inl h))) fun h => .inr (.inl (.inl h))
end
end K14
namespace K14
open PySem PySem.W PySem.Calls PyProof.Rows L2 LamX
open He (ga)
open Kz (boot_isi same_new small4 new_ext boot_li boot_in Has pe_has noE shaped_int dpAll_int)
/-- a row of figures -/
def RowV (H : Hp) (v : V) (ns : List Int) : Prop := ∃ d, Th H v d ∧ isR d = true ∧ its d = ns.map PyData.int ∧ ns.length ≤ 500
theorem th_list {H : Hp} : ∀ ns : List Int, ThAll H (ns.map V.int) (ns.map PyData.int)
  | [] => .nil
  | n :: ns => .cons (.int n) (th_list ns)
end K14
namespace K14
open PySem PySem.W PySem.Calls PyProof.Rows L2 LamX
open He (ga)
open Kz (boot_isi same_new small4 new_ext boot_li boot_in Has pe_has noE shaped_int dpAll_int)
theorem cut_last {xs : List V} (h : 0 < xs.length) : cutV xs (some (-1)) none = xs.drop (xs.length - 1) := by
  unfold cutV
  have e1 : HT.sIx xs.length 0 (some (-1)) = xs.length - 1 := by
    show (if (-1 : Int) < 0 then ((-1 : Int) + (xs.length : Int)).toNat else min (-1 : Int).toNat xs.length) = _
    rw [if_pos (by decide)]
    omega
  rw [e1, HT.sIx_none]
  exact List.take_of_length_le (by rw [List.length_drop]; omega)
theorem cut_init {xs : List V} (h : 0 < xs.length) : cutV xs none (some (-1)) = xs.take (xs.length - 1) := by
  unfold cutV
  have e1 : HT.sIx xs.length xs.length (some (-1)) = xs.length - 1 := by
    show (if (-1 : Int) < 0 then ((-1 : Int) + (xs.length : Int)).toNat else min (-1 : Int).toNat xs.length) = _
    rw [if_pos (by decide)]
    omega
  rw [e1, HT.sIx_none]
  rfl
end K14
namespace K14
open PySem PySem.W PySem.Calls PyProof.Rows L2 LamX
open Kz (XF X1 mkH mkH_over mkH_a mkH_d kwCall init1 under_depth)
section
variable {X : Cx} {pins : List (Addr × Obj)} {σ : L2.St} {H : Hp} {s : Shared} {a C fI d : Addr} {E : Value → Shared → Prop} {fs : List (Str × V)}
theorem not_exo {o : HO} {b : Addr} (ea : H a = some (exo a C (some d))) (eb : H b = some o) (n : ∀ φ, o ≠ .ext φ) : b ≠ a := fun z => by
  rw [z, ea] at eb
  exact n _ (Option.some.inj eb).symm
theorem not_exd {o : HO} {b : Addr} (ed : H d = some (exd d fs)) (eb : H b = some o) (n : ∀ φ, o ≠ .ext φ) : b ≠ d := fun z => by
  rw [z, ed] at eb
  exact n _ (Option.some.inj eb).symm
/-- an exception that was made since the def began is let go: its dict is kept -/
theorem let_go (I : Inv X pins σ H s) (ea : H a = some (exo a C (some d))) (ed : H d = some (exd d fs)) (n0 : X.s_0.heap.get? a = none) (nda : d ≠ a) :
    ∃ (t0 : Addr) (G : Heap), Inv X pins σ (upd (del H a) d (.xd fs)) { s with heap := G } ∧ (∀ b o, G.get? b = some o → s.heap.get? b = some o) ∧ G.get? a = none ∧
      s.heap.get? a = some ({ cls := .ref C, dict := some d, data := .fields #[.ref t0, .none, .none, .none, .bool false, .none] } : Obj) := by
  obtain ⟨t0, h0⟩ := exo_at I.hok ea
  obtain ⟨mA, hns, rel⟩ := exd_at I.hok ed
  obtain ⟨G, g1, g2⟩ := restrict s.heap fun b => decide (b ≠ a)
  have on : ∀ b, b ≠ a → G.get? b = s.heap.get? b := fun b q => g1 b (decide_eq_true q)
  have off : G.get? a = none := g2 a (by simp)
  have bef : ∀ {b : Addr} {o : Obj}, X.s_0.heap.get? b = some o → b ≠ a := fun e z => by
    rw [z, n0] at e
    cases e
  have un := I.base
  have U : Un X.fs X.ex X.H_0 (upd (del H a) d (.xd fs)) X.s_0.heap G := {
    keep := fun b o e n f x => (on b (bef e)).trans (un.keep b o e n f x)
    slot := fun b o e n f x => by
      obtain ⟨sl, q⟩ := un.slot b o e n f x
      exact ⟨sl, (on b (bef e)).trans q⟩
    free := fun b o e n x => by
      have q := un.free b o e n x
      rw [upd_ne (fun z => by rw [z, ed] at q; cases q), del_ne (bef e)]
      exact q
    there := fun b o e x => by
      obtain ⟨o', q⟩ := un.there b o e x
      exact ⟨o', (on b (bef e)).trans q⟩
    tups := fun b xs e => by
      have q := un.tups b xs e
      rw [upd_ne (not_exd ed q (fun φ z => nomatch z)), del_ne (not_exo ea q (fun φ z => nomatch z))]
      exact q
    frzs := fun b o u e => by
      have q := un.frzs b o u e
      rw [upd_ne (not_exd ed q (fun φ z => nomatch z)), del_ne (not_exo ea q (fun φ z => nomatch z))]
      exact q
    tbls := fun b ps e => by
      obtain ⟨more, q⟩ := un.tbls b ps e
      exact ⟨more, by rw [upd_ne (not_exd ed q (fun φ z => nomatch z)), del_ne (not_exo ea q (fun φ z => nomatch z))]; exact q⟩ }
  have gone : ∀ {b : Addr}, H b = none → upd (del H a) d (.xd fs) b = none := fun {b} q => by
    rw [upd_ne (fun z => by rw [z, ed] at q; cases q)]
    unfold del
    split
    · rfl
    · exact q
  have nfree : ∀ {b : Addr}, H b = none → b ≠ a := fun q z => by
    rw [z, ea] at q
    cases q
  refine ⟨t0, G, ⟨I.ok, I.os, I.bare, U, ?_, fun x c e => ?_, gone I.free, fun x c e => gone (I.freeC x c e), fun p hp => ?_, fun b o z => ?_, I.len⟩, fun b o q => ?_, off, h0⟩
  · obtain ⟨m, hn, hl⟩ := I.loc
    refine ⟨m, hn.at fun o y => (on _ (nfree I.free)).trans y, fun i x v e1 e2 e3 => ?_⟩
    obtain ⟨u, ru, q⟩ := hl i x v e1 e2 e3
    refine ⟨u, ru, ?_⟩
    rcases q with q | ⟨k, c, e, z⟩
    · exact .inl q
    · refine .inr ⟨k, c, e, ?_⟩
      obtain ⟨oc, e1, e2⟩ := z
      exact ⟨oc, (on c (nfree (I.freeC x c e))).trans e1, e2⟩
  · obtain ⟨v, oc, e1, e2⟩ := I.cell x c e
    exact ⟨v, oc, (on c (nfree (I.freeC x c e))).trans e1, e2⟩
  · obtain ⟨q1, q2, q3, q4, q5⟩ := I.pin p hp
    exact ⟨(on _ (nfree q2)).trans q1, gone q2, q3, q4, q5⟩
  · by_cases hb : b = d
    · subst hb
      rw [upd_same] at z
      cases z
      exact ⟨mA, hns.at fun o y => (on b nda).trans y, rel⟩
    · rw [upd_ne hb] at z
      have hba : b ≠ a := fun e => by
        rw [e, del_same] at z
        cases z
      rw [del_ne hba] at z
      have oa : ∀ {c : Addr}, H c = some (.own b) → c ≠ a := fun q => not_exo ea q (fun φ z => nomatch z)
      refine (I.hok b o z).stay (fun c v hc y => ?_) (fun c hc => ?_) fun c xs hc => ?_
      · have hca : c ≠ a := hc.elim (fun q => by rw [q]; exact hba) oa
        exact (on c hca).trans y
      · rw [upd_ne (not_exd ed hc (fun φ z => nomatch z)), del_ne (oa hc)]
        exact hc
      · rw [upd_ne (not_exd ed hc (fun φ z => nomatch z)), del_ne (not_exo ea hc (fun φ z => nomatch z))]
        exact hc
  · by_cases hba : b = a
    · rw [hba, off] at q
      cases q
    · exact (on b hba).symm.trans q
/-- C(..) of an own error class; where it stands there was nothing -/
theorem call_mk3 {qual : Str} {params : Arguments} {body : List Stmt} {scope : Scope} {us : List Value} {Q : Value → Shared → Prop}
    (T : XF X.prog X.K C fI qual params body scope) (I : Inv X pins σ H s) (hl : us.length ≤ sizeLine)
    (hini : ∀ (b : Addr) (s1 : Shared) (R : Result → Shared → Prop), Inv X pins σ (upd H b (exo b C none)) s1 → H b = none → (∀ (dx : Addr) (s' : Shared), (upd H b (exo b C none)) dx = none → dx ≠ b → Inv X pins σ (mkH (upd H b (exo b C none)) b C dx fs) s' → R (.ok (.ret .none)) s') →
      codeAny (model X.prog X.w) (X.A.under (.builtin "type.__call__" ⟨.ref C :: us, []⟩)) (.call (.ref fI) ⟨.ref b :: us, []⟩) R s1)
    (h : ∀ (b dx : Addr) (s' : Shared), s.heap.get? b = none → H b = none → H dx = none → dx ≠ b → Inv X pins σ (mkH H b C dx fs) s' → Q (.ref b) s') :
    wpAny (model X.prog X.w) X.A (call (.ref C) us []) Q E s := by
  obtain ⟨nm, q, N, bs, bm, sn, sub, ab, col, dd, k0, k1, k2, k3, k5, hC, hbm⟩ := T.oex.cls
  obtain ⟨hp, g, dr, tk, os⟩ := s
  have hn : H (hp.objs.size + 1) = none := I.hok.fresh (Nat.le_succ _)
  have h0 : hp.get? (hp.objs.size + 1) = none := by
    cases e : hp.get? (hp.objs.size + 1) with
    | none => rfl
    | some o =>
      exact absurd (Heap.lt_size e) (Nat.not_lt_of_le (Nat.le_succ _))
  have stay2 : ∀ b o, hp.get? b = some o → ((hp.push (kdv_tup us)).push (HandSPX.excO C hp.objs.size)).get? b = some o := fun b o e => Heap.get?_push_of_some _ (Heap.get?_push_of_some _ e)
  have at2 : ((hp.push (kdv_tup us)).push (HandSPX.excO C hp.objs.size)).get? (hp.objs.size + 1) = some (HandSPX.excO C hp.objs.size) := by heap_get
  have I2 : Inv X pins σ (upd H (hp.objs.size + 1) (exo (hp.objs.size + 1) C none)) ⟨(hp.push (kdv_tup us)).push (HandSPX.excO C hp.objs.size), g, dr, tk, os⟩ := I.laid (t' := tk) (a := hp.objs.size + 1) stay2 (Nat.le_succ _) (exo_ok at2)
  refine wpAny_call (kwCall F.excBase_ValueError (fun Y => HandSPX.refsVE_contains Y bm hbm) (I.kIn _ _ hC) (looks_findIn I.kIn T.ini) (fun self => bind_fn I.kIn self T.tyI) hl (hini _ _ _ I2 hn fun dx s' hd hne I3 => ?_))
  rw [mkH_over] at I3
  exact ⟨rfl, h _ dx s' h0 hn (by rw [upd_ne hne] at hd; exact hd) hne I3⟩
end
/-- raise C(e): its reading -/
def tRs1 (C : Addr) (f : Str) (te : TE) : L2.St → Hp → XK → Prop := fun σ H Q => te σ H fun y H1 => ∀ d : Addr, H1 d = none → Q (.ref C) (some d) (upd H1 d (.xd [(f, y)]))
theorem pmk_x1 {X : Cx} {C : Addr} {f x : Str} {e : Expr} {te : TE} {p pos : Pos} (T : X1 X.prog X.K C f) (hr : Room 1 X.A) (hex : X.ex = []) (hg : Gl X x) (hm : X.mg x = some (.ref C)) (he : PE X e te) (hdb : (x == ("__debug__" : Str)) = false := by decide)
    (hs : starEach [e] X.env = (false, eval e X.env) :: starEach [] X.env := by rfl) : PMk X (.Call (.Name x p) [e] [] pos) (tRs1 C f te) := by
  intro pins s σ H Q I h
  refine wpAny_Call_Name_kw (ld_glob I hg hm ?_ hdb)
  refine callWith_K (h₀ := X.base) I.ok.mod.kin T.kC ?_ hs (by rfl)
  rw [hs]
  refine Calls.spliced_cons (thn (he.run pins s σ H _ I h) fun u s1 ⟨y, H1, I1, ry, q1⟩ => Calls.spliced_nil ⟨I1.kIn, ?_⟩)
  show wpAny _ _ (call (.ref C) [u]) _ _ _
  obtain ⟨fI, qual, params, scope, msg, j, p0, p1, p2, p3, p4, p5, q0, q1', q2, q3, hpos, T1, S, b1, b2⟩ := T.ex
  refine call_mk3 (fs := [(f, y)]) T1 I1 (by rw [sizeLine_eq]; exact Nat.le_of_ble_eq_true rfl) (fun b s1 R I1 hb k => init1 hpos T1 S I1 upd_same ry (under_depth hr) (fun kV doc pm an cdv ct cc => b1 kV doc pm an cdv ct cc _ _) T.fs T.fd T.no k) fun b dx s' nb n1 n2 ne J => ?_
  have n0 : X.s_0.heap.get? b = none := by
    cases z : X.s_0.heap.get? b with
    | none => rfl
    | some o =>
      obtain ⟨o', q⟩ := I1.base.there b o z (by rw [hex]; exact fun q => nomatch q)
      rw [nb] at q
      cases q
  obtain ⟨t0, G, J2, kG, ge, hoe⟩ := let_go J mkH_a (mkH_d ne) n0 ne
  have eH : upd (del (mkH H1 b C dx [(f, y)]) b) dx (.xd [(f, y)]) = upd H1 dx (.xd [(f, y)]) := by
    funext c
    unfold mkH upd del
    by_cases h1 : c = dx
    · simp [h1]
    · by_cases h2 : c = b
      · subst h2
        simp [h1, n1]
      · simp [h1, h2]
  rw [eH] at J2
  have ox := T1.oex
  exact ⟨b, _, _, { s' with heap := G }, _, .ref C, some dx, rfl, J2, kG, ge, hoe, ⟨rfl, rfl⟩, rfl, rfl, by rw [upd_ne (Ne.symm ne)]; exact n1, rfl, J.bare, raises_own ox.exC ox.tyC, q1 dx n2⟩
end K14
namespace K14
open PySem PySem.W PySem.Calls PyProof.Rows L2 LamX
open He (ga)
open Kz (boot_isi same_new small4 new_ext boot_li boot_in Has pe_has noE X1)
def HasX (P : Program) (w : World) (K : Frag) (mg : Str → Option Value) (base : Heap) (x : Str) (k : Nat) (ps : List Str) (sp : Sp) : Prop := ∃ f fd, mg x = some (.ref f) ∧ keepIn K (.ref f) = true ∧ L2.Binds K fd ps [] ∧ FnOk P w K mg base (L2.CX P w) k f fd ps sp
section
variable {X : Cx} {x : Str} {p pos : Pos} {e : Expr} {es : List Expr} {ps : List Str} {sp : Sp} {k : Nat} {t : TA} {E : XK}
theorem pe_hasX (h : HasX X.prog X.w X.K X.mg X.base x k ps sp) (hr : Room k X.A) (hg : Gl X x) (hx : Passes (L2.CX X.prog X.w) X E) (ha : PA X (e :: es) t) (hdb : (x == ("__debug__" : Str)) = false := by decide) (he : starEach (e :: es) X.env = (false, eval e X.env) :: starEach es X.env := by rfl) (hpl : (backTo pos (starEach es X.env)).any (·.1) = false := by rfl) :
    PE X (.Call (.Name x p) (e :: es) [] pos) (tCall sp [] E t) := by
  obtain ⟨f, fd, h1, h2, h3, h4⟩ := h
  exact pe_call h4 hr hg h1 h2 h3 .nil hx ha hdb he hpl
theorem pss_never {X : Cx} {b : List Stmt} : PSs X b tNever := ⟨fun _ _ _ _ _ _ h => h.elim⟩
end
section
variable {P : Program} {w : World} {K : Frag} {mg : Str → Option Value} {base : Heap}
theorem noX {P : Program} {w : World} {K : Frag} {mg : Str → Option Value} {base : Heap} {N : List Str} {x : Str} {sc : Scope} {f : Addr} {cdv : Value} {A : Around} {outer : List Env} {s : Shared} {H : Hp} {XE : XK} : Passes (L2.CX P w) (cxOf (L2.CX P w) P w K mg base N x sc f cdv A outer s H XE) XE := passes_call (takes_of rfl rfl rfl rfl) (fun _ _ _ _ h => h)
end
end K14
namespace K14
open PySem PySem.W PySem.Calls PyProof.Rows L2 LamX
open He (ga)
open Kz (boot_isi same_new small4 new_ext boot_li boot_in Has pe_has noE X1)
theorem x1_xf {P : Program} {K : Frag} {C : Addr} {f : Str} (T : X1 P K C f) : XfC K C := by
  obtain ⟨fI, qual, params, scope, msg, j, p0, p1, p2, p3, p4, p5, q0, q1, q2, q3, _, T1, _⟩ := T.ex
  exact T1.xf
end K14
namespace K14
open PySem PySem.W PySem.Calls PyProof.Rows L2 LamX
open He (ga)
open Kz (SS ExtS ExtS.trans small4 same_new boot_in boot_li tWhile_split shaped_int dpAll_int seq0 new_ext Has pe_has noE)
/-! ### the spring, for many draws -/
def Spr (H : Hp) (l li : Addr) (c : Int) : Prop := ∃ (ns : List Int) (b d : Int), SS H l li ns b c d ∧ ns.length ≤ 1000
def spDrW : Sp := fun vs H Q _ => ∃ (l li : Addr) (c many : Int), vs = [.ref l, .int many] ∧ Spr H l li c ∧ 0 < many ∧ many < 1073741824 ∧ c < 1000000000 ∧ ∀ (H' : Hp) (r : Int), ExtS l li H H' → Spr H' l li (c + 1) → 0 ≤ r → r < many → Q (.int r) H'
/-! ### all but some objects and the tables of code -/
def Hid (S : List Addr) (H : Hp) : Hp := fun b => if b ∈ S then none else match H b with
  | some (.tbl _) => none
  | o => o
/-- all of them stand -/
def Ins (S : List Addr) (H : Hp) : Prop := ∀ b ∈ S, ∃ o, H b = some o
section
variable {S : List Addr} {l li b : Addr} {H H1 : Hp} {o : HO}
theorem hid_at (h : Hid S H b = some o) : b ∉ S ∧ H b = some o ∧ ∀ ps, o ≠ .tbl ps := by
  unfold Hid at h
  split at h
  · cases h
  · rename_i n
    refine ⟨n, ?_⟩
    split at h
    · cases h
    · rename_i q
      exact ⟨h, fun ps z => q ps (by rw [h, z])⟩
theorem hid_of (h1 : b ∉ S) (h : H b = some o) (n : ∀ ps, o ≠ .tbl ps) : Hid S H b = some o := by
  unfold Hid
  rw [if_neg h1]
  split
  · rename_i ps q
    exact absurd (Option.some.inj (h.symm.trans q)) (n ps)
  · exact h
theorem hid_up : L2.Same (Hid S H) H := fun b o h => (hid_at h).2.1
theorem hid_less {S1 : List Addr} (e : ∀ b ∈ S, b ∈ S1) : L2.Same (Hid S1 H) (Hid S H) := fun b o h => by
  obtain ⟨h1, h2, h3⟩ := hid_at h
  exact hid_of (fun z => h1 (e b z)) h2 h3
theorem hid_same (e : L2.Same H H1) : L2.Same (Hid S H) (Hid S H1) := fun b o h => by
  obtain ⟨h1, h2, h3⟩ := hid_at h
  exact hid_of h1 (e b o h2) h3
theorem hid_upd {a : Addr} {u : HO} (m : a ∈ S) : L2.Same (Hid S H) (Hid S (upd H a u)) := fun b o h => by
  obtain ⟨h1, h2, h3⟩ := hid_at h
  exact hid_of h1 (by rw [upd_ne (fun z => h1 (by rw [z]; exact m))]; exact h2) h3
theorem hid_S (m : l ∈ S) (mi : li ∈ S) (e : ExtS l li H H1) : L2.Same (Hid S H) (Hid S H1) := fun b o h => by
  obtain ⟨h1, h2, h3⟩ := hid_at h
  exact hid_of h1 (e b o h2 (fun z => h1 (by rw [z]; exact m)) (fun z => h1 (by rw [z]; exact mi))) h3
theorem Ins.new {p : Addr} (i : Ins S H) (n : H p = none) : p ∉ S := fun m => by
  obtain ⟨o, q⟩ := i p m
  rw [q] at n
  cases n
theorem Ins.same (i : Ins S H) (e : L2.Same H H1) : Ins S H1 := fun b m => by
  obtain ⟨o, q⟩ := i b m
  exact ⟨o, e _ _ q⟩
theorem Ins.cons {p : Addr} (i : Ins S H) (q : H p = some o) : Ins (p :: S) H := fun b m => by
  rcases List.mem_cons.mp m with rfl | m
  · exact ⟨o, q⟩
  · exact i b m
theorem Ins.upd {a : Addr} {u : HO} (i : Ins S H) : Ins S (L2.upd H a u) := fun b m => by
  by_cases z : b = a
  · rw [z]
    exact ⟨u, upd_same⟩
  · obtain ⟨o, q⟩ := i b m
    exact ⟨o, by rw [upd_ne z]; exact q⟩
theorem same_S (e : L2.Same H H1) : ExtS l li H H1 := fun b o h _ _ => e b o h
theorem Spr.same {c : Int} (s : Spr H l li c) (e : L2.Same H H1) : Spr H1 l li c := by
  obtain ⟨ns, b, d, s, n⟩ := s
  exact ⟨ns, b, d, ⟨e _ _ s.l1, e _ _ s.l2, s.ne, s.b0, s.c0, s.d0, s.d1⟩, n⟩
theorem Spr.new {c : Int} (s : Spr H l li c) {p : Addr} (n : H p = none) : p ≠ l ∧ p ≠ li := by
  obtain ⟨ns, b, d, s, _⟩ := s
  exact ⟨Ne.symm (ne_of_none s.l1 n), Ne.symm (ne_of_none s.l2 n)⟩
theorem Spr.ins {c : Int} (s : Spr H l li c) : Ins [l, li] H := fun b m => by
  obtain ⟨ns, b', d, s, _⟩ := s
  rcases List.mem_cons.mp m with rfl | m
  · exact ⟨_, s.l1⟩
  · rw [List.mem_singleton.mp m]
    exact ⟨_, s.l2⟩
theorem ins_S {c : Int} (i : Ins S H) (e : ExtS l li H H1) (s : Spr H1 l li c) : Ins S H1 := fun b m => by
  obtain ⟨o, q⟩ := i b m
  by_cases z : b = l
  · rw [z]
    exact s.ins l (by simp)
  · by_cases y : b = li
    · rw [y]
      exact s.ins li (by simp)
    · exact ⟨o, e b o q z y⟩
theorem Spr.upd {c : Int} {a : Addr} {u : HO} (s : Spr H l li c) (h1 : a ≠ l) (h2 : a ≠ li) : Spr (L2.upd H a u) l li c := by
  obtain ⟨ns, b, d, s, n⟩ := s
  exact ⟨ns, b, d, ⟨by rw [upd_ne h1.symm]; exact s.l1, by rw [upd_ne h2.symm]; exact s.l2, s.ne, s.b0, s.c0, s.d0, s.d1⟩, n⟩
end
end K14
namespace K14
open PySem PySem.W PySem.Calls PyProof.Rows L2 LamX
open He (ga)
open Kz (SS ExtS ExtS.trans small4 same_new boot_in boot_li new_ext Has pe_has noE)
theorem ext_none {l li p : Addr} {H H1 : Hp} (e : ExtS l li H H1) (n : H1 p = none) (h1 : p ≠ l) (h2 : p ≠ li) : H p = none := by
  cases q : H p with
  | none => rfl
  | some o =>
    rw [e p o q h1 h2] at n
    cases n
end K14
namespace K14
open PySem PySem.W PySem.Calls PyProof.Rows L2 LamX
open He (ga)
open Kz (SS ExtS ExtS.trans small4 same_new boot_in boot_li new_ext Has pe_has noE boot_isi)
theorem boot_di : bootBuiltins "dict" = some (.type "dict") := by decide +kernel
/-! ### lists told as tuples, tuples as lists -/
theorem ThAll.snoc {H : Hp} {v : V} {d : PyData} (h : Th H v d) : ∀ {vs : List V} {ds : List PyData}, ThAll H vs ds → ThAll H (vs ++ [v]) (ds ++ [d])
  | _, _, .nil => .cons h .nil
  | _, _, .cons a r => .cons a (r.snoc h)
/-- lists within lists, n deep, no dicts -/
def fitD : Nat → PyData → Bool
  | n + 1, .list xs => decide (xs.length ≤ 1000) && xs.all (fitD n)
  | n + 1, .tuple xs => decide (xs.length ≤ 1000) && xs.all (fitD n)
  | _, .none => true
  | _, .bool _ => true
  | _, .int _ => true
  | _, .str _ => true
  | _, _ => false
def szD : Nat → PyData → Nat
  | n + 1, .list xs => 1 + (xs.map (szD n)).sum
  | n + 1, .tuple xs => 1 + (xs.map (szD n)).sum
  | _, _ => 0
def isD : PyData → Bool
  | .dict _ => true
  | _ => false
theorem is_di {K : Frag} (d : PyData) : kitOne K (.type (tyN d)) (.type "dict") = some (isD d) := by
  cases d <;> rfl
theorem hid_D {S : List Addr} {l li D : Addr} {H H2 : Hp} (m : l ∈ S) (mi : li ∈ S) (n : H D = none) (e : ExtS l li H H2) : L2.Same (Hid S H) (Hid (D :: S) H2) := fun b o h => by
  obtain ⟨h1, h2, h3⟩ := hid_at h
  refine hid_of (fun z => ?_) (e b o h2 (fun z => h1 (by rw [z]; exact m)) (fun z => h1 (by rw [z]; exact mi))) h3
  rcases List.mem_cons.mp z with z | z
  · exact ne_of_none h2 n z
  · exact h1 z
end K14
namespace K14
open PySem PySem.W PySem.Calls PyProof.Rows L2 LamX
open He (ga)
open Kz (small4 same_new boot_in boot_li new_ext Has pe_has noE boot_isi)
open RZ
open LiI
abbrev Nsm : List Str := ["found", "due", "x", "y"]
def fitS : Nat → PyData → Bool
  | n + 1, .list xs => decide (xs.length ≤ 1000) && xs.all (fitS n)
  | n + 1, .tuple xs => decide (xs.length ≤ 1000) && xs.all (fitS n)
  | n + 1, .dict ps => decide (ps.length ≤ 1000) && fitS n (.list (ps.map fun p => .tuple [p.1, p.2]))
  | _, .none => true
  | _, .bool _ => true
  | _, .int _ => true
  | _, .str _ => true
  | _, _ => false
def isLs : PyData → Bool
  | .list _ => true
  | _ => false
def isTu : PyData → Bool
  | .tuple _ => true
  | _ => false
def isIn : PyData → Bool
  | .int _ => true
  | .bool _ => true
  | _ => false
def isBo : PyData → Bool
  | .bool _ => true
  | _ => false
def isAny : PyData → Bool
  | .none => false
  | .str _ => false
  | _ => true
section
variable {K : Frag}
theorem kit_ls (d : PyData) : kitOne K (.type (tyN d)) (.type "list") = some (isLs d) := by cases d <;> rfl
theorem kit_tu (d : PyData) : kitOne K (.type (tyN d)) (.type "tuple") = some (isTu d) := by cases d <;> rfl
theorem kit_in (d : PyData) : kitOne K (.type (tyN d)) (.type "int") = some (isIn d) := by cases d <;> rfl
theorem kit_bo (d : PyData) : kitOne K (.type (tyN d)) (.type "bool") = some (isBo d) := by cases d <;> rfl
theorem kit_an (d : PyData) : kitAny K (.type (tyN d)) [.type "int", .type "list", .type "tuple", .type "dict"] = some (isAny d) := by cases d <;> rfl
theorem walk_zipT {a b : Addr} {xs ys : List V} {n : Nat} (hn : n = min xs.length ys.length) : Walk (ItzT K a b) n (fun H => SqT K H a xs ∧ SqT K H b ys) (YPair (fun i => xs[i]?) (fun i => ys[i]?)) := by
  subst hn
  refine ⟨fun i _ hi q => ?_, fun _ q => ⟨xs, ys, q.1, q.2, by omega⟩, fun i H v H' _ q ⟨T, x, z, h1, h2, h3, h4, h5⟩ => ⟨T, x, z, h1, h2, h3, h4 xs q.1, h5 ys q.2⟩⟩
  have l1 : i < xs.length := by omega
  have l2 : i < ys.length := by omega
  exact ⟨xs, ys, xs[i], ys[i], q.1, q.2, by simp [l1], by simp [l2]⟩
end
theorem th_key {H : Hp} : ∀ k : Key, Th H (kV k) (kd k)
  | .inl i => .int i
  | .inr x => .str x
theorem th_items {H H' : Hp} (e : L2.Same H H') : ∀ {ts : List Addr} {kvs : List (Key × V)} {ps : List (PyData × PyData)}, Paired (fun (t : Addr) (q : Key × V) => H' t = some (.tup [kV q.1, q.2])) ts kvs → ThKv H kvs ps → ThAll H' (ts.map V.ref) (ps.map fun p => .tuple [p.1, p.2])
  | _, _, _, .nil, .nil => .nil
  | _, _, _, .cons h r, .cons t q => .cons (.tup h (.cons (th_key _) (.cons (t.ext e) .nil))) (th_items e r q)
section
variable {P : Program} {w : World} {K : Frag} {mg : Str → Option Value} {base : Heap}
def spSm (n : Nat) : Sp := fun vs H Q _ => ∃ (v u : V) (d : PyData), vs = [v, u] ∧ Th H v d ∧ Th H u d ∧ fitS n d = true ∧ ∀ H', L2.Same H H' → Q (.bl true) H'
theorem sm_len {n : Nat} {vs : List V} {H : Hp} {Q : VK} {E : XK} (h : spSm n vs H Q E) : vs.length = 2 := by
  obtain ⟨v, u, d, rfl, _⟩ := h
  rfl
/-- what is asked of the builtins -/
structure BtK (mg : Str → Option Value) : Prop where
  is : mg "isinstance" = none
  li : mg "list" = none
  tu : mg "tuple" = none
  di : mg "dict" = none
  it : mg "int" = none
  bo : mg "bool" = none
  ln : mg "len" = none
  al : mg "all" = none
  zi : mg "zip" = none
end
end K14
namespace K14.T27
open PySem PySem.W PySem.Calls PyProof.Rows L2 LamX RZ LiI
open He (ga)

open Kz (SS ExtS ExtS.trans spStart small4 same_new boot_in boot_li boot_isi tWhile_split shaped_int dpAll_int seq0 new_ext seqI Has pe_has noE rLen)
def topS (i : Nat) : Stmt := PySem.Challenge.pw_twinforks_k27_whole_tables.main.body.getD i (.Pass ⟨0, 0, 0, 0⟩)
abbrev sSt : Stmt := topS 35
abbrev sDr : Stmt := topS 36
abbrev sIl : Stmt := topS 8
abbrev sIp : Stmt := topS 9
abbrev sIn : Stmt := topS 10
abbrev sIf : Stmt := topS 16
abbrev sIr : Stmt := topS 17
abbrev sSm : Stmt := topS 39
abbrev sLo : Stmt := topS 40
abbrev sMx : Stmt := topS 38
theorem scSt : FnScope ["script"] ["script"] (defScope sSt) := ⟨rfl, rfl, rfl, by decide +kernel, rfl, by decide +kernel, by decide +kernel⟩
theorem scDr : FnScope ["stream", "many", "cell", "digit", "mixed"] ["stream", "many"] (defScope sDr) := ⟨rfl, rfl, rfl, by decide +kernel, rfl, by decide +kernel, by decide +kernel⟩
theorem scMx : FnScope ["stream", "some", "left", "k"] ["stream", "some"] (defScope sMx) := ⟨rfl, rfl, rfl, by decide +kernel, rfl, by decide +kernel, by decide +kernel⟩
def scOf : List Stmt → Scope
  | [_, .Return (some (.ListComp _ _ sc _)) _] => sc
  | _ => defScope sMx
def mxSc : Scope := scOf (defBody sMx)
theorem scIl : FnScope ["thing"] ["thing"] (defScope sIl) := ⟨rfl, rfl, rfl, by decide +kernel, rfl, by decide +kernel, by decide +kernel⟩
theorem scIp : FnScope ["thing"] ["thing"] (defScope sIp) := ⟨rfl, rfl, rfl, by decide +kernel, rfl, by decide +kernel, by decide +kernel⟩
theorem scIn : FnScope ["thing"] ["thing"] (defScope sIn) := ⟨rfl, rfl, rfl, by decide +kernel, rfl, by decide +kernel, by decide +kernel⟩
theorem scIf : FnScope ["thing"] ["thing"] (defScope sIf) := ⟨rfl, rfl, rfl, by decide +kernel, rfl, by decide +kernel, by decide +kernel⟩
theorem scIr : FnScope ["thing", "figure"] ["thing"] (defScope sIr) := ⟨rfl, rfl, rfl, by decide +kernel, rfl, by decide +kernel, by decide +kernel⟩
def scOfA : List Stmt → Scope
  | [.Return (some (.BoolOp _ [_, .Call _ [.ListComp _ _ sc _] _ _] _)) _] => sc
  | _ => defScope sIr
def irSc : Scope := scOfA (defBody sIr)
theorem scSm : FnScope Nsm ["found", "due"] (defScope sSm) := ⟨rfl, rfl, rfl, by decide +kernel, rfl, by decide +kernel, by decide +kernel⟩
def scOfD : List Stmt → Scope
  | .If _ (_ :: .Return (some (.BoolOp _ [_, .Call _ [.ListComp _ _ sc _] _ _] _)) _ :: _) _ _ :: _ => sc
  | _ => defScope sSm
def smSc : Scope := scOfD (defBody sSm)
section
variable {P : Program} {w : World} {K : Frag} {mg : Str → Option Value} {base : Heap}
theorem ok_st {f : Addr} {fd : FuncData} (F : FunD K "_law_start" "_law_start" (defArgs sSt) (defBody sSt) (defScope sSt) [] [] f fd) (ml : mg "list" = none) : FnOk P w K mg base CX0 1 f fd ["script"] (spStart K) := by
  refine F.ok scSt (fun vs H Q E h => ?_) (fun cdv A outer s H vs Q XE hr h => ?_)
  · obtain ⟨a, ns, rfl, _⟩ := h
    rfl
  · obtain ⟨a, ns, rfl, hS, k⟩ := h
    refine ⟨_, PSs.nox (pss_one (ps_ret (pe_lst (pa_cons (pe_callTy call_list_of (by rfl) ml boot_li (pa_cons (pv 0) pa_nil)) (pa_cons pe_int (pa_cons pe_int (pa_cons pe_int pa_nil))))))), ?_⟩
    refine ⟨.ref a, rfl, a, _, rfl, .inl hS, fun li n1 => ⟨small4 4, fun l n2 => ?_⟩⟩
    have ne : l ≠ li := fun z => by
      rw [z, upd_same] at n2
      cases n2
    refine k _ l li ((same_new n1).trans (same_new n2)) ((same_new n1).free n2) n1 ⟨upd_same, by rw [upd_ne ne.symm, upd_same], ne, by decide, by decide, by decide, by decide⟩
theorem ok_drw {f : Addr} {fd : FuncData} (F : FunD K "_law_draw" "_law_draw" (defArgs sDr) (defBody sDr) (defScope sDr) [] [] f fd) (mi : mg "int" = none) : FnOk P w K mg base CX0 1 f fd ["stream", "many"] spDrW := by
  refine F.ok scDr (fun vs H Q E h => ?_) (fun cdv A outer s H vs Q XE hr h => ?_)
  · obtain ⟨l, li, c, many, rfl, _⟩ := h
    rfl
  · obtain ⟨l, li, c, many, rfl, ⟨ns, b, d, hs, nl⟩, m0, m1, c1, k0⟩ := h
    have k : ∀ (H' : Hp) (ns' : List Int) (b' d' r : Int), ExtS l li H H' → SS H' l li ns' b' (c + 1) d' → ns'.length ≤ 1000 → 0 ≤ r → r < many → Q (.int r) H' := fun H' ns' b' d' r e s n a1 a2 => k0 H' r e ⟨ns', b', d', s, n⟩ a1 a2
    refine ⟨_, PSs.nox (pss_cons (ps_asg (pe_op op_add (pe_ix ix_list (pv 0) pe_int (fun _ _ => rfl)) pe_int) (pg_sub (pv 0) pe_int set_list))
      (pss_cons (ps_while PassesOwn.never ((pw_and (pt_cmpR op_eq (pe_ix ix_list (pv 0) pe_int (fun _ _ => rfl)) pe_int (nomark _)) (pw_and1 (pt_cmpR (op_neD hr.units) (pe_ix ix_list (pv 0) pe_int (fun _ _ => rfl)) (pe_lst pa_nil) (nomark _)))).pt)
        (pss_cons (ps_set (i := 2) scDr.nd rfl (.inl rfl) (pe_bm PySem.F.plainAttrs_list PySem.F.slot_list_pop PySem.F.type_list_pop mt_popAt (pe_ix ix_list (pv 0) pe_int (fun _ _ => rfl)) (pa_cons pe_int pa_nil)))
        (pss_cons (ps_asg (pe_op op_mod (pe_callTy call_int1 (by rfl) mi boot_in (pa_cons (pe_op op_add (pe_op op_add (pe_op op_mul (pe_ix ix_list (pv 0) pe_int (fun _ _ => rfl)) pe_int) (pv 2)) pe_int) pa_nil)) pe_int) (pg_sub (pv 0) pe_int set_list))
        (pss_one (ps_asg (pe_ifExp (pt_cmpR op_ge (pv 2) (pe_op op_pow pe_int pe_int) (nomark _)) (pv 2) pe_int) (pg_sub (pv 0) pe_int set_list))))))
      (pss_cons (ps_if (pt_cmpR op_gt (pe_ix ix_list (pv 0) pe_int (fun _ _ => rfl)) pe_int (nomark _))
        (pss_cons (ps_set (i := 3) scDr.nd rfl (.inl rfl) (pe_op op_mod (pe_callTy call_int1 (by rfl) mi boot_in (pa_cons (pe_ix ix_list (pv 0) pe_int (fun _ _ => rfl)) pa_nil)) (pv 1)))
        (pss_cons (ps_asg (pe_op op_fdiv (pe_ix ix_list (pv 0) pe_int (fun _ _ => rfl)) (pv 1)) (pg_sub (pv 0) pe_int set_list))
        (pss_one (ps_ret (pv 3))))) pss_nil)
      (pss_cons (ps_set (i := 4) scDr.nd rfl (.inl rfl) (pe_op op_mod (pe_callTy call_int1 (by rfl) mi boot_in (pa_cons (pe_op op_pow (pe_op op_add (pe_op op_add (pe_ix ix_list (pv 0) pe_int (fun _ _ => rfl)) (pe_op op_mul pe_int (pe_ix ix_list (pv 0) pe_int (fun _ _ => rfl)))) pe_int) pe_int) pa_nil)) pe_int))
      (pss_one (ps_ret (pe_op op_mod (pe_op op_mod (pe_callTy call_int1 (by rfl) mi boot_in (pa_cons (pe_op op_pow (pe_op op_add (pe_op op_add (pe_op op_mul (pv 4) pe_int) (pe_op op_mul pe_int (pe_ix ix_list (pv 0) pe_int (fun _ _ => rfl)))) pe_int) pe_int) pa_nil)) pe_int) (pv 1)))))))), ?_⟩
    have q2 := hs.set (b' := b) (c' := c + 1) (d' := d) hs.b0 (by have := hs.c0; omega) hs.d0 hs.d1
    refine ⟨.ref l, rfl, l, _, 2, .int c, rfl, rfl, .inl (.inl hs.l1), atI_nat (j := 2) rfl, c, 1, rfl, rfl, .ref l, rfl, l, _, 2, 2, rfl, rfl, hs.l1, rfl, ?_⟩
    refine tWhile_split (fun σ H' => ∃ (x2 : Option V) (ns' : List Int) (b' d' : Int), σ = [some (.ref l), some (.int many), x2, none, none] ∧ SS H' l li ns' b' (c + 1) d' ∧ ExtS l li H H' ∧ ns'.length ≤ 1000) (fun σ H' ⟨x2, ns', b', d', e, s, ex, nl'⟩ => ?_) (fun after => ?_)
    · subst e
      have c0 := s.c0
      have d0 := s.d0
      have d1 := s.d1
      have c00 := hs.c0
      refine ⟨.ref l, rfl, l, _, 1, .int b', rfl, rfl, .inl (.inl s.l1), atI_nat (j := 1) rfl, b', 0, rfl, rfl, _, rfl, ite2 (fun e => ?_) (fun e => ?_)⟩
      · refine ⟨.ref l, rfl, l, _, 1, .int b', rfl, rfl, .inl (.inl s.l1), atI_nat (j := 1) rfl, .inl ⟨_, rfl, .int many, rfl, b', many, rfl, rfl, m0, ?_⟩⟩
        obtain ⟨s2, ex2⟩ := s.set (b' := b' / many) (c' := c + 1) (d' := d') (Int.ediv_nonneg s.b0 (Int.le_of_lt m0)) c0 d0 d1
        refine ⟨.ref l, rfl, l, _, 1, .int b', rfl, rfl, .inl (.inl s.l1), atI_nat (j := 1) rfl, .int many, rfl, b', many, rfl, rfl, ⟨m0, by show many < 1073741824; omega⟩, .ref l, rfl, l, _, 1, 1, rfl, rfl, s.l1, rfl, .int (b' % many), rfl, ?_⟩
        exact k _ ns' _ d' _ (ex.trans ex2) s2 nl' (Int.emod_nonneg _ (by omega)) (Int.emod_lt_of_pos _ m0)
      · have t1 : (6151 : Int) * (c + 1) = 6151 * c + 6151 := by omega
        have t2 : (40009 : Int) * (c + 1) = 40009 * c + 40009 := by omega
        refine ⟨.ref l, rfl, l, _, 3, .int d', rfl, rfl, .inl (.inl s.l1), atI_nat (j := 3) rfl, .ref l, rfl, l, _, 2, .int (c + 1), rfl, rfl, .inl (.inl s.l1), atI_nat (j := 2) rfl, 6151, c + 1, rfl, rfl, .inl ⟨by decide, by decide⟩, d', _, rfl, rfl, _, 130003, rfl, rfl, _, 5, rfl, rfl,
          ⟨by decide, by decide, ?_⟩, .inl ⟨_, rfl, _, 2147483629, rfl, rfl, (show (0:Int) < 2147483629 by decide), ?_⟩⟩
        · rw [t1]
          show Int.natAbs _ < 18446744073709551616
          omega
        · have x0 : ∀ z : Int, 0 ≤ z % 2147483629 := fun z => Int.emod_nonneg _ (by decide)
          have x1 : ∀ z : Int, z % 2147483629 < 2147483629 := fun z => Int.emod_lt_of_pos _ (by decide)
          have x2 := x0 ((d' + 6151 * (c + 1) + 130003) ^ (5 : Int).toNat)
          have x3 := x1 ((d' + 6151 * (c + 1) + 130003) ^ (5 : Int).toNat)
          refine ⟨_, rfl, _, 69621, rfl, rfl, .inl ⟨by omega, by omega⟩, .ref l, rfl, l, _, 2, .int (c + 1), rfl, rfl, .inl (.inl s.l1), atI_nat (j := 2) rfl, 40009, c + 1, rfl, rfl, .inl ⟨by decide, by decide⟩, _, _, rfl, rfl, _, 31, rfl, rfl, _, 3, rfl, rfl, ⟨by decide, by decide, ?_⟩,
            .inl ⟨_, rfl, _, 1000000007, rfl, rfl, (show (0:Int) < 1000000007 by decide), .int many, rfl, _, many, rfl, rfl, m0, ?_⟩⟩
          · rw [t2]
            show Int.natAbs _ < 18446744073709551616
            omega
          · exact k _ ns' b' d' _ ex s nl' (Int.emod_nonneg _ (by omega)) (Int.emod_lt_of_pos _ m0)
    · refine ⟨fun m σ H' => ∃ x2, σ = [some (.ref l), some (.int many), x2, none, none] ∧ ∃ (ns' : List Int) (b' d' : Int), SS H' l li ns' b' (c + 1) d' ∧ ExtS l li H H' ∧ ns'.length ≤ 1000 ∧ m = ns'.length, ⟨ns.length, none, rfl, ns, b, d, q2.1, q2.2, nl, rfl⟩, fun m σ H' hW => ?_⟩
      obtain ⟨x2, rfl, ns', b', d', s, ex, nl', rfl⟩ := hW
      have c0 := s.c0
      have d0 := s.d0
      have d1 := s.d1
      refine ⟨.ref l, rfl, l, _, 1, .int b', rfl, rfl, .inl (.inl s.l1), atI_nat (j := 1) rfl, rfl, _, rfl, ite2 (fun e => ?_) (fun e => ?_)⟩
      · refine ⟨.ref l, rfl, l, _, 0, .ref li, rfl, rfl, .inl (.inl s.l1), atI_nat (j := 0) rfl, Nat.zero_le _, fun p np => ?_⟩
        obtain ⟨s2, ex2⟩ := s.new (o := .lst []) np
        refine ⟨.list (ns'.map PyData.int), .list [], .lst (.inl (.inl s2.l2)) (dpAll_int _), .lst (.inl (.inl upd_same)) .nil, shaped_int _ , rfl, _, rfl, ?_⟩
        cases ns' with
        | nil => exact iteF (after _ _ ⟨x2, [], b', d', rfl, s2, ex.trans ex2, nl'⟩)
        | cons n r =>
          obtain ⟨s3, ex3⟩ := s2.pop
          refine iteT ⟨fun σ' H' => ∃ x2, σ' = [some (.ref l), some (.int many), x2, none, none] ∧ ∃ (b' d' : Int), SS H' l li r b' (c + 1) d' ∧ ExtS l li H H', fun σ' H' ⟨y2, e1, b2, d2, e2, e3⟩ => ⟨r.length, Nat.lt_succ_self _, y2, e1, r, b2, d2, e2, e3, by simp at nl'; omega, rfl⟩, ?_⟩
          refine ⟨.ref l, rfl, l, _, 0, .ref li, rfl, rfl, .inl (.inl s2.l1), atI_nat (j := 0) rfl, .inl ⟨rfl, _, .inl (.inl s2.l2)⟩, li, _, 0, 0, .int n, rfl, rfl, s2.l2, by decide, by decide, seq0 _ _, rfl, ?_⟩
          have hd : 0 ≤ (d' * 65599 + n + 7) % 2147483647 := Int.emod_nonneg _ (by decide)
          have hd1 : (d' * 65599 + n + 7) % 2147483647 < 2147483647 := Int.emod_lt_of_pos _ (by decide)
          obtain ⟨s4, ex4⟩ := s3.set (b' := b') (c' := c + 1) (d' := (d' * 65599 + n + 7) % 2147483647) s.b0 c0 hd hd1
          refine ⟨.ref l, rfl, l, _, 3, .int d', rfl, rfl, .inl (.inl s3.l1), atI_nat (j := 3) rfl, d', 65599, rfl, rfl, .inl ⟨by omega, by omega⟩, .int n, rfl, _, n, rfl, rfl, _, 7, rfl, rfl, .inl ⟨_, rfl, _, 2147483647, rfl, rfl, (show (0:Int) < 2147483647 by decide), .ref l, rfl, l, _, 3, 3, rfl, rfl, s3.l1, rfl, ?_⟩⟩
          have exx := ((ex.trans ex2).trans ex3).trans ex4
          refine ⟨.int n, rfl, 10, 18, rfl, rfl, ⟨by decide, by decide, by decide⟩, n, _, rfl, rfl, _, rfl, ite2 (fun g => ?_) (fun g => ?_)⟩
          · have n0 : 0 ≤ n := by
              have g1 := of_decide_eq_true g
              have g2 : ((10 : Int) ^ (18 : Int).toNat) = 1000000000000000000 := by decide
              rw [g2] at g1
              omega
            obtain ⟨s5, ex5⟩ := s4.set (b' := n) (c' := c + 1) (d' := (d' * 65599 + n + 7) % 2147483647) n0 c0 hd hd1
            exact ⟨.int n, rfl, .ref l, rfl, l, _, 1, 1, rfl, rfl, s4.l1, rfl, _, rfl, n, _, s5, exx.trans ex5⟩
          · obtain ⟨s5, ex5⟩ := s4.set (b' := 0) (c' := c + 1) (d' := (d' * 65599 + n + 7) % 2147483647) (Int.le_refl _) c0 hd hd1
            exact ⟨.ref l, rfl, l, _, 1, 1, rfl, rfl, s4.l1, rfl, _, rfl, 0, _, s5, exx.trans ex5⟩
      · exact iteF (after _ _ ⟨x2, ns', b', d', rfl, s, ex, nl'⟩)
theorem ok_il {f : Addr} {fd : FuncData} (F : FunD K "is_list" "is_list" (defArgs sIl) (defBody sIl) (defScope sIl) [] [] f fd) (mi : mg "isinstance" = none) (ml : mg "list" = none) (mt : mg "tuple" = none) : FnOk P w K mg base CX0 1 f fd ["thing"] (spLook isL) := by
  refine F.ok scIl (fun vs H Q E h => ?_) (fun cdv A outer s H vs Q XE hr h => ?_)
  · obtain ⟨v, d, rfl, _⟩ := h
    rfl
  · obtain ⟨v, d, rfl, hv, k⟩ := h
    refine ⟨_, PSs.nox (pss_one (ps_ret (pe_callB call_isiT (by rfl) mi boot_isi (pa_cons (pv 0) (pa_cons (pe_tup (pa_cons (pe_bltn (by rfl) ml boot_li (v := .ty "list") rfl) (pa_cons (pe_bltn (by rfl) mt boot_tu (v := .ty "tuple") rfl) pa_nil))) pa_nil))))), ?_⟩
    refine ⟨v, rfl, small4 2, fun p np => ⟨v, p, _, _, _, _, rfl, upd_same, .cons (.ty _) (.cons (.ty _) .nil), (hv.ext (same_new np)).ty, is_lt d, k _ (same_new np)⟩⟩
theorem ok_in {f : Addr} {fd : FuncData} (F : FunD K "is_number" "is_number" (defArgs sIn) (defBody sIn) (defScope sIn) [] [] f fd) (mi : mg "isinstance" = none) (mn : mg "int" = none) (mb : mg "bool" = none) : FnOk P w K mg base CX0 1 f fd ["thing"] (spLook isN) := by
  refine F.ok scIn (fun vs H Q E h => ?_) (fun cdv A outer s H vs Q XE hr h => ?_)
  · obtain ⟨v, d, rfl, _⟩ := h
    rfl
  · obtain ⟨v, d, rfl, hv, k⟩ := h
    refine ⟨_, PSs.nox (pss_one (ps_ret (pe_and (pe_callB call_isi (by rfl) mi boot_isi (pa_cons (pv 0) (pa_cons (pe_bltn (by rfl) mn boot_in (v := .ty "int") rfl) pa_nil))) (pe_and (pe_not (pe_callB call_isi (by rfl) mi boot_isi (pa_cons (pv 0) (pa_cons (pe_bltn (by rfl) mb boot_bo (v := .ty "bool") rfl) pa_nil)))) (pe_one (pe_cmpR op_ge (pv 0) pe_int (nomark _))))))), ?_⟩
    refine ⟨v, rfl, v, _, _, _, _, rfl, .ty _, hv.ty, is_in d, _, rfl, ?_⟩
    cases hv with
    | int i =>
      refine iteT ⟨.int i, rfl, .int i, _, _, _, _, rfl, .ty _, .base (.int i), is_bo (.int i), _, rfl, _, rfl, iteT ⟨.int i, rfl, i, 0, rfl, rfl, ?_⟩⟩
      have e := k H (fun _ _ e => e)
      exact e
    | bl b =>
      refine iteT ⟨.bl b, rfl, .bl b, _, _, _, _, rfl, .ty _, .base (.bl b), is_bo (.bool b), _, rfl, _, rfl, iteF ?_⟩
      exact k H (fun _ _ e => e)
    | _ => exact iteF (k H (fun _ _ e => e))
theorem ok_ip {f : Addr} {fd : FuncData} (F : FunD K "is_pair" "is_pair" (defArgs sIp) (defBody sIp) (defScope sIp) [] [] f fd) (L : Has P w K mg base "is_list" 1 ["thing"] (spLook isL)) (mn : mg "len" = none) : FnOk P w K mg base CX0 2 f fd ["thing"] (spLook isP) := by
  refine F.ok scIp (fun vs H Q E h => ?_) (fun cdv A outer s H vs Q XE hr h => ?_)
  · obtain ⟨v, d, rfl, _⟩ := h
    rfl
  · obtain ⟨v, d, rfl, hv, k⟩ := h
    refine ⟨_, PSs.nox (pss_one (ps_ret (pe_and (pe_has L hr (by rfl) (pa_cons (pv 0) pa_nil)) (pe_one (pe_cmpR op_eq (pe_callB call_len_seq (by rfl) mn boot_len (pa_cons (pv 0) pa_nil)) pe_int (nomark _)))))), ?_⟩
    refine ⟨v, rfl, v, d, rfl, hv, fun H1 s1 => ⟨isL d, rfl, ?_⟩⟩
    cases l : isL d with
    | false =>
      refine iteF ?_
      have e := k H1 s1
      unfold isP at e
      rw [l] at e
      exact e
    | true =>
      obtain ⟨a, xs, rfl, r, hx⟩ := (hv.ext s1).seq (K := K) l
      refine iteT ⟨.ref a, rfl, a, xs, rfl, ?_, rfl, ?_⟩
      · rcases hx with hx | hx
        · exact .inl (.inl (.inl hx))
        · exact .inr (.inl (.inl hx))
      · have e := k H1 s1
        unfold isP at e
        rw [l, Bool.true_and, ← r.length] at e
        have e2 : (decide (V.int (xs.length : Int) = V.int 2)) = decide (xs.length = 2) := by
          by_cases q : xs.length = 2
          · rw [q]; rfl
          · rw [decide_eq_false q, decide_eq_false (fun z => q (by have := V.int.inj z; omega))]
        show Q (.bl (decide (V.int (xs.length : Int) = V.int 2))) H1
        rw [e2]
        exact e
theorem ok_if {f : Addr} {fd : FuncData} (F : FunD K "is_figure" "is_figure" (defArgs sIf) (defBody sIf) (defScope sIf) [] [] f fd) (L : Has P w K mg base "is_number" 1 ["thing"] (spLook isN)) : FnOk P w K mg base CX0 2 f fd ["thing"] (spLook isF) := by
  refine F.ok scIf (fun vs H Q E h => ?_) (fun cdv A outer s H vs Q XE hr h => ?_)
  · obtain ⟨v, d, rfl, _⟩ := h
    rfl
  · obtain ⟨v, d, rfl, hv, k⟩ := h
    refine ⟨_, PSs.nox (pss_one (ps_ret (pe_and (pe_has L hr (by rfl) (pa_cons (pv 0) pa_nil)) (pe_one (pe_cmpR op_le (pv 0) pe_int (nomark _)))))), ?_⟩
    refine ⟨v, rfl, v, d, rfl, hv, fun H1 s1 => ⟨isN d, rfl, ?_⟩⟩
    have e := k H1 s1
    cases hv with
    | int i =>
      have e : Q (.bl (decide (0 ≤ i) && decide (i ≤ 1))) H1 := e
      cases l : isN (.int i) with
      | false =>
        refine iteF ?_
        have l2 : decide (0 ≤ i) = false := l
        rw [l2] at e
        exact e
      | true =>
        have l2 : decide (0 ≤ i) = true := l
        rw [l2, Bool.true_and] at e
        exact iteT ⟨.int i, rfl, i, 1, rfl, rfl, e⟩
    | _ => exact iteF e
theorem ok_ir {f : Addr} {fd : FuncData} (F : FunD K "is_row" "is_row" (defArgs sIr) (defBody sIr) (defScope sIr) [] [] f fd) (L : Has P w K mg base "is_list" 1 ["thing"] (spLook isL)) (G : Has P w K mg base "is_figure" 2 ["thing"] (spLook isF)) (ma : mg "all" = none) :
    FnOk P w K mg base CX0 3 f fd ["thing"] (fun vs H Q E => ∃ (v : V) (d : PyData), vs = [v] ∧ Th H v d ∧ (its d).length ≤ 100000 ∧ ∀ H', L2.Same H H' → Q (.bl (isR d)) H') := by
  refine F.ok scIr (fun vs H Q E h => ?_) (fun cdv A outer s H vs Q XE hr h => ?_)
  · obtain ⟨v, d, rfl, _⟩ := h
    rfl
  · obtain ⟨v, d, rfl, hv, hl, k⟩ := h
    refine ⟨_, PSs.nox (pss_one (ps_ret (pe_and (pe_has L (hr.mono (by decide)) (by rfl) (pa_cons (pv 0) pa_nil)) (pe_one (pe_callB (cr_all rfl) (by rfl) ma boot_all (pa_cons (pe_lc (X := (cxOf CX0 P w K mg base ["thing", "figure"] "is_row" (defScope sIr) f cdv A outer s H XE).nox) (scope := irSc) (te := tCall (spLook isF) [] noE (tCons (tVar 1) tNil)) (own := [("figure", 1)]) (g := gName 1) (tt := tYes) rfl scIr.nd
      (pi_or (pi_list (pv 0)) (pi_tup (pv 0))) (blkOk_by (N := ["thing", "figure"]) (sc := defScope sIr) (by decide +kernel)) (fun _ _ _ _ _ => pg_name (i := 1) scIr.nd rfl (Or.inl rfl)) (fun _ _ _ _ _ => pts_nil)
      (fun s0 H0 C0 cl0 fp0 => pe_has (X := Cx.blk ((cxOf CX0 P w K mg base ["thing", "figure"] "is_row" (defScope sIr) f cdv A outer s H XE).nox) s0 H0 irSc (compEnvC irSc cl0 C0 (Cx.env ((cxOf CX0 P w K mg base ["thing", "figure"] "is_row" (defScope sIr) f cdv A outer s H XE).nox))) fp0) G hr (by rfl) (pa_cons (pv 1) pa_nil))) pa_nil)))))), ?_⟩
    refine ⟨v, rfl, v, d, rfl, hv, fun H1 s1 => ⟨isL d, rfl, ?_⟩⟩
    cases l : isL d with
    | false =>
      refine iteF ?_
      have e := k H1 s1
      unfold isR at e
      rw [l] at e
      exact e
    | true =>
      obtain ⟨a, xs, rfl, r, hx⟩ := (hv.ext s1).seq (K := K) l
      have lx : xs.length = (its d).length := r.length
      have step : ∀ (D : Addr), H1 D = none → ∀ (i : Nat) (x : V) (H2 : Hp), xs[i]? = some x → (L2.Same H1 H2 ∧ H2 D = some (.lst (((its d).take i).map fun z => V.bl (isF z)))) → ∀ (σ2 : L2.St), σ2[1]? = some (some x) →
          tCall (spLook isF) [] noE (tCons (tVar 1) tNil) σ2 H2 fun y H4 => ∃ acc, H4 D = some (.lst acc) ∧ acc.length < sizeLine ∧ (L2.Same H1 (upd H4 D (.lst (acc ++ [y]))) ∧ (upd H4 D (.lst (acc ++ [y]))) D = some (.lst (((its d).take (i + 1)).map fun z => V.bl (isF z)))) := by
        intro D hD i x H2 hi ⟨S, hA⟩ σ2 h2
        obtain ⟨z, hz, tz⟩ := r.get hi
        refine ⟨x, h2, x, z, rfl, tz.ext S, fun H4 s4 => ⟨_, s4 _ _ hA, ?_, fun b o e => ?_, ?_⟩⟩
        · rw [List.length_map, List.length_take, sizeLine_eq]
          omega
        · rw [upd_ne (ne_of_none e hD)]
          exact s4 _ _ (S _ _ e)
        · rw [upd_same]
          have et : (its d).take (i + 1) = (its d).take i ++ [z] := by
            rw [List.take_add_one, hz]
            rfl
          rw [et, List.map_append]
          rfl
      have fin : ∀ (D : Addr) (H2 : Hp), (L2.Same H1 H2 ∧ H2 D = some (.lst (((its d).take xs.length).map fun z => V.bl (isF z)))) → rAll K [.ref D] H2 Q := by
        intro D H2 ⟨S, hA⟩
        refine ⟨D, ((its d).take xs.length).map isF, rfl, .inl (.inl (by rw [List.map_map]; exact hA)), ?_⟩
        rw [lx, List.take_length, List.all_map]
        have e := k H2 (s1.trans S)
        unfold isR at e
        rw [l, Bool.true_and] at e
        exact e
      refine iteT ?_
      rcases hx with hx | hx
      · refine .inl ⟨.ref a, rfl, a, rfl, ⟨xs, .inl (.inl hx)⟩, fun D hD => lc_list (xs := xs) (fun i H2 => L2.Same H1 H2 ∧ H2 D = some (.lst (((its d).take i).map fun z => V.bl (isF z)))) ⟨same_new hD, upd_same⟩ (fun i H2 _ e => .inl (.inl (e.1 _ _ hx))) (fun i x H2 hi e => ?_) (fun H2 e => fin D H2 e)⟩
        refine ⟨rfl, ?_⟩
        unfold tYes
        show (if true = true then _ else _)
        rw [if_pos rfl]
        exact step D hD i x H2 hi e _ rfl
      · refine .inr ⟨.ref a, rfl, a, rfl, ⟨xs, .inl (.inl hx)⟩, fun D hD => lc_tup (xs := xs) (fun i H2 => L2.Same H1 H2 ∧ H2 D = some (.lst (((its d).take i).map fun z => V.bl (isF z)))) ⟨same_new hD, upd_same⟩ (fun i H2 _ e => .inl (.inl (e.1 _ _ hx))) (fun i x H2 hi e => ?_) (fun H2 e => fin D H2 e)⟩
        refine ⟨rfl, ?_⟩
        unfold tYes
        show (if true = true then _ else _)
        rw [if_pos rfl]
        exact step D hD i x H2 hi e _ rfl
/-- things that are no lists and no dicts -/
theorem sm_flat (B : BtK mg) {f : Addr} {cdv : Value} {A : Around} {outer : List Env} {s : Shared} {H : Hp} {Q : VK} {XE : XK} {v u : V} {d : PyData} (hv : Th H v d) (hu : Th H u d) (l0 : isL d = false) (d0 : isD d = false) (k : ∀ H', L2.Same H H' → Q (.bl true) H') :
    ∃ t, PSs (cxOf CX0 P w K mg base Nsm "_law_same" (defScope sSm) f cdv A outer s H XE) (defBody sSm) t ∧ t { nx := fun _ H' => Q .non H', rt := Q } (L2.start Nsm [v, u]) H := by
  refine ⟨_, PSs.nox (pss_cons (ps_if (pt_val (pe_callB call_isiT (by rfl) B.is boot_isi (pa_cons (pv 1) (pa_cons (pe_tup (pa_cons (pe_bltn (by rfl) B.li boot_li (v := .ty "list") rfl) (pa_cons (pe_bltn (by rfl) B.tu boot_tu (v := .ty "tuple") rfl) pa_nil))) pa_nil)))) pss_never pss_nil)
    (pss_cons (ps_if (pt_val (pe_callB call_isi (by rfl) B.is boot_isi (pa_cons (pv 1) (pa_cons (pe_bltn (by rfl) B.di boot_di (v := .ty "dict") rfl) pa_nil)))) pss_never pss_nil)
    (pss_cons (ps_if (pt_val (pe_callB call_isi (by rfl) B.is boot_isi (pa_cons (pv 1) (pa_cons (pe_bltn (by rfl) B.it boot_in (v := .ty "int") rfl) pa_nil))))
      (pss_one (ps_ret (pe_and (pe_callB call_isi (by rfl) B.is boot_isi (pa_cons (pv 0) (pa_cons (pe_bltn (by rfl) B.it boot_in (v := .ty "int") rfl) pa_nil))) (pe_and (pe_cmpR op_eq (pe_callB call_isi (by rfl) B.is boot_isi (pa_cons (pv 0) (pa_cons (pe_bltn (by rfl) B.bo boot_bo (v := .ty "bool") rfl) pa_nil))) (pe_callB call_isi (by rfl) B.is boot_isi (pa_cons (pv 1) (pa_cons (pe_bltn (by rfl) B.bo boot_bo (v := .ty "bool") rfl) pa_nil))) (nomark _))
        (pe_one (pe_cmpR op_eq (pv 0) (pv 1) (nomark _))))))) pss_nil)
    (pss_one (ps_ret (pe_and (pe_not (pe_callB call_isiT (by rfl) B.is boot_isi (pa_cons (pv 0) (pa_cons (pe_tup (pa_cons (pe_bltn (by rfl) B.it boot_in (v := .ty "int") rfl) (pa_cons (pe_bltn (by rfl) B.li boot_li (v := .ty "list") rfl) (pa_cons (pe_bltn (by rfl) B.tu boot_tu (v := .ty "tuple") rfl) (pa_cons (pe_bltn (by rfl) B.di boot_di (v := .ty "dict") rfl) pa_nil))))) pa_nil)))) (pe_one (pe_cmpR op_eq (pv 0) (pv 1) (nomark _))))))))), ?_⟩
  refine ⟨u, rfl, small4 2, fun p np => ⟨u, p, _, _, _, _, rfl, upd_same, .cons (.ty _) (.cons (.ty _) .nil), (hu.ext (same_new np)).ty, is_lt d, _, rfl, ?_⟩⟩
  rw [l0]
  have e1 : L2.Same H (upd H p (.tup [.ty "list", .ty "tuple"])) := same_new np
  generalize upd H p (.tup [.ty "list", .ty "tuple"]) = H1 at e1 ⊢
  have hv1 := hv.ext e1
  have hu1 := hu.ext e1
  refine iteF ⟨u, rfl, u, _, _, _, _, rfl, .ty _, hu1.ty, is_di d, _, rfl, ?_⟩
  rw [d0]
  refine iteF ⟨u, rfl, u, _, _, _, _, rfl, .ty _, hu1.ty, kit_in d, _, rfl, ?_⟩
  cases li : isIn d with
  | true =>
    have sc : v = u ∧ scal v u = true := by
      cases hv1 <;> cases hu1 <;> first | exact ⟨rfl, rfl⟩ | exact absurd (show false = true from li) Bool.false_ne_true
    refine iteT ⟨v, rfl, v, _, _, _, _, rfl, .ty _, hv1.ty, kit_in d, _, rfl, ?_⟩
    rw [li]
    refine iteT ⟨v, rfl, v, _, _, _, _, rfl, .ty _, hv1.ty, kit_bo d, u, rfl, u, _, _, _, _, rfl, .ty _, hu1.ty, kit_bo d, rfl, _, rfl, ?_⟩
    rw [decide_eq_true rfl]
    refine iteT ⟨v, rfl, u, rfl, sc.2, ?_⟩
    rw [decide_eq_true sc.1]
    exact k _ e1
  | false =>
    have sc : v = u ∧ scal v u = true ∧ isAny d = false := by
      cases hv1 <;> cases hu1 <;> first | exact ⟨rfl, rfl, rfl⟩ | exact absurd (show true = false from li) (fun z => nomatch z) | exact absurd (show true = false from l0) (fun z => nomatch z) | exact absurd (show true = false from d0) (fun z => nomatch z)
    refine iteF ⟨v, rfl, small4 4, fun q nq => ⟨v, q, _, _, _, _, rfl, upd_same, .cons (.ty _) (.cons (.ty _) (.cons (.ty _) (.cons (.ty _) .nil))), (hv1.ext (same_new nq)).ty, kit_an d, _, rfl, _, rfl, ?_⟩⟩
    rw [sc.2.2]
    refine iteT ⟨v, rfl, u, rfl, sc.2.1, ?_⟩
    rw [decide_eq_true sc.1]
    exact k _ (e1.trans (same_new nq))
/-- the found and the due thing are of one data: the answer is True -/
theorem ok_sm {f : Addr} {fd : FuncData} (F : FunD K "_law_same" "_law_same" (defArgs sSm) (defBody sSm) (defScope sSm) [] [] f fd) (mm : mg "_law_same" = some (.ref f)) (kp : keepIn K (.ref f) = true) (bd : L2.Binds K fd ["found", "due"] []) (B : BtK mg) : ∀ n, FnOk P w K mg base CX0 (n + 1) f fd ["found", "due"] (spSm n) := by
  intro n
  induction n with
  | zero =>
    refine F.ok scSm (fun vs H Q E h => sm_len h) (fun cdv A outer s H vs Q XE hr h => ?_)
    obtain ⟨v, u, d, rfl, hv, hu, hf, k⟩ := h
    refine sm_flat B hv hu ?_ ?_ k
    · cases d <;> first | rfl | exact absurd (show false = true from hf) Bool.false_ne_true
    · cases d <;> first | rfl | exact absurd (show false = true from hf) Bool.false_ne_true
  | succ n ih =>
    have SELF : Has P w K mg base "_law_same" (n + 1) ["found", "due"] (spSm n) := ⟨f, fd, mm, kp, bd, ih⟩
    refine F.ok scSm (fun vs H Q E h => sm_len h) (fun cdv A outer s H vs Q XE hr h => ?_)
    obtain ⟨v, u, d, rfl, hv, hu, hf, k⟩ := h
    have t0 : ∀ {G : Hp} (p : Addr), G p = none → L2.Same G (upd G p (.tup [.ty "list", .ty "tuple"])) := fun p n => same_new n
    cases l0 : isL d with
    | true =>
      refine ⟨_, PSs.nox (pss_cons (ps_if (pt_val (pe_callB call_isiT (by rfl) B.is boot_isi (pa_cons (pv 1) (pa_cons (pe_tup (pa_cons (pe_bltn (by rfl) B.li boot_li (v := .ty "list") rfl) (pa_cons (pe_bltn (by rfl) B.tu boot_tu (v := .ty "tuple") rfl) pa_nil))) pa_nil))))
        (pss_cons (ps_if ((pw_or (pt_cmpR op_ne (pe_callB call_isi (by rfl) B.is boot_isi (pa_cons (pv 0) (pa_cons (pe_bltn (by rfl) B.li boot_li (v := .ty "list") rfl) pa_nil))) (pe_callB call_isi (by rfl) B.is boot_isi (pa_cons (pv 1) (pa_cons (pe_bltn (by rfl) B.li boot_li (v := .ty "list") rfl) pa_nil))) (nomark _))
          (pw_or1 (pt_cmpR op_ne (pe_callB call_isi (by rfl) B.is boot_isi (pa_cons (pv 0) (pa_cons (pe_bltn (by rfl) B.tu boot_tu (v := .ty "tuple") rfl) pa_nil))) (pe_callB call_isi (by rfl) B.is boot_isi (pa_cons (pv 1) (pa_cons (pe_bltn (by rfl) B.tu boot_tu (v := .ty "tuple") rfl) pa_nil))) (nomark _)))).pt) (pss_one (ps_ret pe_bl)) pss_nil)
        (pss_one (ps_ret (pe_and (pe_cmpR op_eq (pe_callB call_len_seq (by rfl) B.ln boot_len (pa_cons (pv 0) pa_nil)) (pe_callB call_len_seq (by rfl) B.ln boot_len (pa_cons (pv 1) pa_nil)) (nomark _)) (pe_one (pe_callB (cr_all rfl) (by rfl) B.al boot_all (pa_cons
          (pe_lc (X := (cxOf CX0 P w K mg base Nsm "_law_same" (defScope sSm) f cdv A outer s H XE).nox) (te := tCall (spSm n) [] noE (tCons (tVar 2) (tCons (tVar 3) tNil))) (scope := smSc) (own := [("x", 2), ("y", 3)]) (g := gTup K 2 (gCons (gName 2) (gCons (gName 3) gNil))) (tt := tYes) rfl scSm.nd (pi_zipA (by rfl) B.zi (pa_cons (pv 0) (pa_cons (pv 1) pa_nil))) (blkOk_by (N := Nsm) (sc := defScope sSm) (by decide +kernel))
            (fun _ _ _ _ _ => pg_tup rfl (pgs_cons (pg_name (i := 2) scSm.nd rfl (Or.inl rfl)) (pgs_cons (pg_name (i := 3) scSm.nd rfl (Or.inl rfl)) pgs_nil))) (fun _ _ _ _ _ => pts_nil)
            (fun s0 H0 C0 cl0 fp0 => pe_has (X := Cx.blk ((cxOf CX0 P w K mg base Nsm "_law_same" (defScope sSm) f cdv A outer s H XE).nox) s0 H0 smSc (compEnvC smSc cl0 C0 (Cx.env ((cxOf CX0 P w K mg base Nsm "_law_same" (defScope sSm) f cdv A outer s H XE).nox))) fp0) SELF hr (by rfl) (pa_cons (pv 2) (pa_cons (pv 3) pa_nil)))) pa_nil))))))) pss_nil) pss_never), ?_⟩
      obtain ⟨m, em, len, fits⟩ : ∃ m, n + 1 = m + 1 ∧ (its d).length ≤ 1000 ∧ ∀ x ∈ its d, fitS m x = true := by
        cases d with
        | list xs =>
          obtain ⟨h1, h2⟩ := Bool.and_eq_true_iff.mp (show (decide (xs.length ≤ 1000) && xs.all (fitS n)) = true from hf)
          exact ⟨n, rfl, of_decide_eq_true h1, fun x hx => List.all_eq_true.mp h2 x hx⟩
        | tuple xs =>
          obtain ⟨h1, h2⟩ := Bool.and_eq_true_iff.mp (show (decide (xs.length ≤ 1000) && xs.all (fitS n)) = true from hf)
          exact ⟨n, rfl, of_decide_eq_true h1, fun x hx => List.all_eq_true.mp h2 x hx⟩
        | _ => exact absurd (show false = true from l0) Bool.false_ne_true
      obtain rfl : n = m := Nat.succ.inj em
      refine ⟨u, rfl, small4 2, fun p np => ⟨u, p, _, _, _, _, rfl, upd_same, .cons (.ty _) (.cons (.ty _) .nil), (hu.ext (same_new np)).ty, is_lt d, _, rfl, ?_⟩⟩
      rw [l0]
      have e1 : L2.Same H (upd H p (.tup [.ty "list", .ty "tuple"])) := same_new np
      generalize upd H p (.tup [.ty "list", .ty "tuple"]) = H1 at e1 ⊢
      have hv1 := hv.ext e1
      have hu1 := hu.ext e1
      refine iteT ⟨v, rfl, v, _, _, _, _, rfl, .ty _, hv1.ty, kit_ls d, u, rfl, u, _, _, _, _, rfl, .ty _, hu1.ty, kit_ls d, rfl, _, rfl, ?_⟩
      rw [decide_eq_true rfl]
      refine iteF ⟨v, rfl, v, _, _, _, _, rfl, .ty _, hv1.ty, kit_tu d, u, rfl, u, _, _, _, _, rfl, .ty _, hu1.ty, kit_tu d, rfl, _, rfl, ?_⟩
      rw [decide_eq_true rfl]
      refine iteF ?_
      have kind : ∃ (a b : Addr) (xs ys : List V), v = .ref a ∧ u = .ref b ∧ ThAll H1 xs (its d) ∧ ThAll H1 ys (its d) ∧ ((H1 a = some (.lst xs) ∧ H1 b = some (.lst ys)) ∨ (H1 a = some (.tup xs) ∧ H1 b = some (.tup ys))) := by
        cases hv1 with
        | lst h r => cases hu1 with | lst h2 r2 => exact ⟨_, _, _, _, rfl, rfl, r, r2, .inl ⟨h, h2⟩⟩
        | tup h r => cases hu1 with | tup h2 r2 => exact ⟨_, _, _, _, rfl, rfl, r, r2, .inr ⟨h, h2⟩⟩
        | _ => exact absurd (show false = true from l0) Bool.false_ne_true
      obtain ⟨a, b, xs, ys, rfl, rfl, rx, ry, hk⟩ := kind
      have lx : xs.length = (its d).length := rx.length
      have ly : ys.length = (its d).length := ry.length
      have sA : SqL K H1 a xs ∨ SqT K H1 a xs := hk.elim (fun q => .inl (.inl (.inl q.1))) fun q => .inr (.inl (.inl q.1))
      have sB : SqL K H1 b ys ∨ SqT K H1 b ys := hk.elim (fun q => .inl (.inl (.inl q.2))) fun q => .inr (.inl (.inl q.2))
      refine ⟨.ref a, rfl, a, xs, rfl, sA, .ref b, rfl, b, ys, rfl, sB, rfl, _, rfl, ?_⟩
      rw [lx, ly, decide_eq_true rfl]
      refine iteT ⟨.ref a, rfl, .ref b, rfl, a, b, xs, ys, rfl, ?_⟩
      let Pv (D0 : Addr) (j : Nat) (H2 : Hp) : Prop := L2.Same H1 H2 ∧ H2 D0 = some (.lst ((List.replicate j true).map V.bl))
      have start : ∀ D0, H1 D0 = none → Pv D0 0 (upd H1 D0 (.lst [])) := fun D0 hD => ⟨same_new hD, upd_same⟩
      have turn : ∀ D0, H1 D0 = none → ∀ (j : Nat) (x : V) (H2 H3 : Hp) (σ : L2.St), j < (its d).length → Pv D0 j H2 → YPair (fun i => xs[i]?) (fun i => ys[i]?) j H2 x H3 → σ = [some (.ref a), some (.ref b), none, none] →
          gTup K 2 (gCons (gName 2) (gCons (gName 3) gNil)) x σ H3 fun σ2 H4 => wipe σ2 [2, 3] = wipe σ [2, 3] ∧ tYes σ2 H4 fun c H5 => if c = true then tCall (spSm n) [] noE (tCons (tVar 2) (tCons (tVar 3) tNil)) σ2 H5 fun y H6 => ∃ acc, H6 D0 = some (.lst acc) ∧ acc.length < sizeLine ∧ Pv D0 (j + 1) (upd H6 D0 (.lst (acc ++ [y]))) else Pv D0 (j + 1) H5 := by
        intro D0 hD j x H2 H3 σ hj hp hy es
        subst es
        obtain ⟨T, x0, y0, rfl, nT, rfl, g1, g2⟩ := hy
        obtain ⟨q1, q2⟩ := hp
        obtain ⟨z, hz, tz⟩ := rx.get g1
        obtain ⟨z2, hz2, tz2⟩ := ry.get g2
        rw [hz] at hz2
        obtain rfl := Option.some.inj hz2
        have eT : L2.Same H2 (upd H2 T (.tup [x0, y0])) := same_new nT
        refine ⟨T, [x0, y0], rfl, .inl (.inl upd_same), rfl, x0, [y0], rfl, y0, [], rfl, rfl, rfl, ?_⟩
        unfold tYes
        show (if true = true then _ else _)
        rw [if_pos rfl]
        refine ⟨x0, rfl, y0, rfl, x0, y0, z, rfl, tz.ext (q1.trans eT), tz2.ext (q1.trans eT), fits z (List.mem_of_getElem? hz), fun H6 e6 => ⟨_, e6 _ _ (eT _ _ q2), ?_, fun c o ec => ?_, ?_⟩⟩
        · rw [List.length_map, List.length_replicate, sizeLine_eq]
          omega
        · rw [upd_ne (ne_of_none ec hD)]
          exact e6 _ _ (eT _ _ (q1 _ _ ec))
        · rw [upd_same, List.replicate_succ', List.map_append]
          rfl
      have fin : ∀ D0, H1 D0 = none → ∀ H2, Pv D0 (its d).length H2 → rAll K [.ref D0] H2 Q := fun D0 hD H2 ⟨q1, q2⟩ => by
        refine ⟨D0, List.replicate (its d).length true, rfl, .inl (.inl q2), ?_⟩
        have e : (List.replicate (its d).length true).all id = true := List.all_eq_true.mpr fun x hx => (List.mem_replicate.mp hx).2
        rw [e]
        exact k H2 (e1.trans q1)
      rcases hk with ⟨ha, hb⟩ | ⟨ha, hb⟩
      · exact .inl ⟨.inl (.inl ha), .inl (.inl hb), fun D0 hD => lc_it (walk_zip (n := (its d).length) (by omega)) (Pv D0) (start D0 hD) (fun i H2 _ e => ⟨.inl (.inl (e.1 _ _ ha)), .inl (.inl (e.1 _ _ hb))⟩) (fun i x H2 H3 hi e hy => turn D0 hD i x H2 H3 _ hi e hy rfl) (fun H2 e => fin D0 hD H2 e)⟩
      · exact .inr ⟨.inl (.inl ha), .inl (.inl hb), fun D0 hD => lc_it (walk_zipT (n := (its d).length) (by omega)) (Pv D0) (start D0 hD) (fun i H2 _ e => ⟨.inl (.inl (e.1 _ _ ha)), .inl (.inl (e.1 _ _ hb))⟩) (fun i x H2 H3 hi e hy => turn D0 hD i x H2 H3 _ hi e hy rfl) (fun H2 e => fin D0 hD H2 e)⟩
    | false =>
      cases d0 : isD d with
      | false => exact sm_flat B hv hu l0 d0 k
      | true =>
        refine ⟨_, PSs.nox (pss_cons (ps_if (pt_val (pe_callB call_isiT (by rfl) B.is boot_isi (pa_cons (pv 1) (pa_cons (pe_tup (pa_cons (pe_bltn (by rfl) B.li boot_li (v := .ty "list") rfl) (pa_cons (pe_bltn (by rfl) B.tu boot_tu (v := .ty "tuple") rfl) pa_nil))) pa_nil)))) pss_never pss_nil)
          (pss_cons (ps_if (pt_val (pe_callB call_isi (by rfl) B.is boot_isi (pa_cons (pv 1) (pa_cons (pe_bltn (by rfl) B.di boot_di (v := .ty "dict") rfl) pa_nil))))
            (pss_one (ps_ret (pe_and (pe_callB call_isi (by rfl) B.is boot_isi (pa_cons (pv 0) (pa_cons (pe_bltn (by rfl) B.di boot_di (v := .ty "dict") rfl) pa_nil))) (pe_one (pe_has SELF hr (by rfl) (pa_cons (pe_listItems rfl (pv 0) (by rfl) B.li boot_li) (pa_cons (pe_listItems rfl (pv 1) (by rfl) B.li boot_li) pa_nil))))))) pss_nil) pss_never)), ?_⟩
        refine ⟨u, rfl, small4 2, fun p np => ⟨u, p, _, _, _, _, rfl, upd_same, .cons (.ty _) (.cons (.ty _) .nil), (hu.ext (same_new np)).ty, is_lt d, _, rfl, ?_⟩⟩
        rw [l0]
        have e1 : L2.Same H (upd H p (.tup [.ty "list", .ty "tuple"])) := same_new np
        generalize upd H p (.tup [.ty "list", .ty "tuple"]) = H1 at e1 ⊢
        have hv1 := hv.ext e1
        have hu1 := hu.ext e1
        refine iteF ⟨u, rfl, u, _, _, _, _, rfl, .ty _, hu1.ty, is_di d, _, rfl, ?_⟩
        rw [d0]
        refine iteT ⟨v, rfl, v, _, _, _, _, rfl, .ty _, hv1.ty, is_di d, _, rfl, ?_⟩
        rw [d0]
        cases hv1 with
        | @dct a kvs ps h r =>
          cases hu1 with
          | @dct b kvs2 ps2 h2 r2 =>
            obtain ⟨f1, f2⟩ := Bool.and_eq_true_iff.mp (show (decide (ps.length ≤ 1000) && fitS n (.list (ps.map fun p => .tuple [p.1, p.2]))) = true from hf)
            refine iteT ⟨.ref a, rfl, a, kvs, rfl, h, fun H2 q ts e2 nq nt nm hq pr => ?_⟩
            refine ⟨.ref b, rfl, b, kvs2, rfl, e2 _ _ h2, fun H3 q2 ts2 e3 nq2 nt2 nm2 hq2 pr2 => ?_⟩
            have ta : Th H3 (.ref q) (.list (ps.map fun p => .tuple [p.1, p.2])) := (Th.lst hq (th_items e2 pr r)).ext e3
            have tb : Th H3 (.ref q2) (.list (ps.map fun p => .tuple [p.1, p.2])) := .lst hq2 (th_items (fun b o z => e3 b o (e2 b o z)) pr2 r2)
            exact ⟨.ref q, .ref q2, _, rfl, ta, tb, f2, fun H' e => k H' (e1.trans (fun b o z => e b o (e3 b o (e2 b o z))))⟩
        | _ => exact absurd (show false = true from d0) Bool.false_ne_true
end
end K14.T27
namespace K14.EnT
open PySem PySem.W PySem.Calls PyProof.Rows L2
/-! ### enumerate over a tuple, one argument -/
theorem meets_one {src : Value} {ob : Obj} {Hs : Heap → Prop} (B : Begins src ob Hs) :
    Meets (Builtin.«enumerate.__new__» ⟨[.type "enumerate", src], []⟩) (fun _ R z => Hs z.heap ∧
      R (.ok (.ret (.ref (z.heap.push ob).objs.size)))
        { z with heap := (z.heap.push ob).push { cls := .type "enumerate", data := .fields #[.none, .bool false, .ref z.heap.objs.size, rawInt 0, .none, .none] } }) :=
  .of_wp fun pr wo Ar R z hz => by
    obtain ⟨hp, gs, dr, tk, os⟩ := z
    obtain ⟨b1, b2⟩ := hz
    have sub1 := sub_enumerate
    have it1 : ∀ {Ar' : Around} {E' : Value → Shared → Prop} {Q' : Value → Shared → Prop}, Q' (.ref hp.objs.size) ⟨hp.push ob, gs, dr, tk, os⟩ → wpAny (model pr wo) Ar' (pyIter src) Q' E' ⟨hp, gs, dr, tk, os⟩ := fun q' => B.iter pr wo _ _ ⟨hp, gs, dr, tk, os⟩ _ b1 q'
    wp_walk using it1
    refine wpAny_stack_any fun st1 => wpAny_pure ?_
    split
    · rename_i cx _ _ _ _ _
      cases (cx == Value.type "enumerate")
      · wp_walk using it1
        exact ⟨_, rfl, b2⟩
      · wp_walk using it1
        exact ⟨_, rfl, b2⟩
    · wp_walk using it1
      exact ⟨_, rfl, b2⟩
section
variable {pr : Program} {wo : World} {Ar : Around} {E' : Value → Shared → Prop} {z : Shared}
theorem new_enum {src : Value} {ob : Obj} {Hs : Heap → Prop} {Q' : Value → Shared → Prop} (B : Begins src ob Hs) (b1 : Hs z.heap)
    (k : ∀ g, IsEnum g (z.heap.objs.size + 1) z.heap.objs.size 0 .none → g.get? z.heap.objs.size = some ob → g.objs.size = z.heap.objs.size + 2 → (∀ b o, z.heap.get? b = some o → g.get? b = some o) → Q' (.ref (z.heap.objs.size + 1)) { z with heap := g }) :
    wpAny (model pr wo) Ar (call (.type "enumerate") [src]) Q' E' z := by
  refine callType_new F.called_enumerate (by decide) (F.typeCall_enumerate_1 _) (F.newCall_enumerate_1 _) (fun obj => F.args_object_init_2 obj _) F.entry_enumerate_new (meets_one B) ⟨b1, ?_⟩
  have sz : (z.heap.push ob).objs.size = z.heap.objs.size + 1 := Heap.size_push ..
  show _ ∧ _
  rw [sz]
  have en : IsEnum ((z.heap.push ob).push { cls := .type "enumerate", data := .fields #[.none, .bool false, .ref z.heap.objs.size, rawInt 0, .none, .none] }) (z.heap.objs.size + 1) z.heap.objs.size 0 .none := by
    have q := Heap.get?_push_size (z.heap.push ob) (o := { cls := .type "enumerate", data := .fields #[.none, .bool false, .ref z.heap.objs.size, rawInt 0, .none, .none] }) rfl
    rw [sz] at q
    exact q
  exact ⟨⟨_, en, rfl⟩, k _ en (Heap.get?_push_of_some _ (Heap.get?_push_size _ B.free)) (by rw [Heap.size_push, sz]) fun b o q => Heap.get?_push_of_some _ (Heap.get?_push_of_some _ q)⟩
end
def IteT (K : Frag) (a : Addr) : It :=
  ⟨fun j G => ∃ (vs : List V) (y : V), SqT K G a vs ∧ vs[j]? = some y, fun j G r G' => ∃ T y, r = .ref T ∧ G T = none ∧ G' = upd G T (.tup [.int (j : Nat), y]) ∧ ∀ vs, SqT K G a vs → vs[j]? = some y, fun j G => ∃ vs : List V, SqT K G a vs ∧ vs.length = j⟩
theorem turn_enT {P : Program} {w : World} {K : Frag} {elts : List Expr} {kk : Nat} {tpos : Pos} (a e it : Addr) :
    Turn P w K (.Tuple elts kk tpos) (IteT K a) [e, it] e (fun j g => (∃ prev, IsEnum g e it ((j : Nat) : Int) prev) ∧ g.IsTupleIter it a j ∧ e ≠ it ∧ e ≠ a ∧ a ≠ it) where
  mem := by simp
  obj := fun j g st b hb => by
    obtain ⟨⟨prev, en⟩, ⟨o, ho, hc, hd⟩, _⟩ := st
    have c2 : b = e ∨ b = it := by simpa using hb
    rcases c2 with q | q
    · rw [q]
      exact ⟨_, en, fun v y => nomatch y⟩
    · rw [q]
      exact ⟨o, ho, fun v y => by rw [hd] at y; cases y⟩
  keep := fun j g g' st k => by
    obtain ⟨⟨prev, en⟩, ti, r⟩ := st
    exact ⟨⟨prev, k e (by simp) _ en⟩, ti.at fun o q => k it (by simp) o q, r⟩
  item := by
    intro X hP hw hK hc j pins s σ H E I fp st hg
    subst hP hw hK
    obtain ⟨⟨prev, en⟩, ti, n1, n2, n3⟩ := st
    obtain ⟨vs, y, hq, hy⟩ := hg
    obtain ⟨its, rv, p, _⟩ := I.tuple hq
    obtain ⟨u, hu, ru⟩ := rv.get hy
    have le : e < s.heap.objs.size := Heap.lt_size en
    have li : it < s.heap.objs.size := by
      obtain ⟨_, q, _⟩ := ti
      exact Heap.lt_size q
    have jl : j < its.toArray.size := by
      have := (List.getElem?_eq_some_iff.mp hu).1
      simpa using this
    refine wpAny_pyNext_enum_itemD (Draws.tuple (prog := X.prog) (w := X.w) (A := X.A.in1) (show X.A.in1.handled = none from I.ok.hd hc) it a n3 its.toArray) en ⟨ti, p⟩ jl n1 (by simp [n1, n2]) fun x g tk hx eo tg hT sz hk => ?_
    obtain rfl : x = u := by
      have hx : its.toArray[j]? = some x := hx
      rw [List.getElem?_toArray, hu] at hx
      exact (Option.some.inj hx).symm
    refine ⟨_, rfl, wpAny_letOwnedTupleGo_enum (s := { s with heap := g, toks := tk + 1 }) eo fun g2 en2 sb => ?_⟩
    have hT2 : g2.get? s.heap.objs.size = some { cls := .type "tuple", data := .seq #[.int j tk, x] } := (sb.2 _ (Nat.ne_of_gt le)).trans hT
    have ok2 : ObjOk X.prog X.w (upd H s.heap.objs.size (.tup [.int (j : Nat), y])) g2 s.heap.objs.size (.tup [.int (j : Nat), y]) :=
      ⟨by show 2 ≤ sizeLine; decide, [.int j tk, x], .cons ⟨_, rfl⟩ (.cons ru .nil), ⟨_, hT2, rfl, _, rfl⟩⟩
    have I2 : Inv X pins σ (upd H s.heap.objs.size (.tup [.int (j : Nat), y])) { s with heap := g2, toks := tk + 1 } :=
      I.turnedNew (ch := [e, it]) (fun b ob hb q => (sb.2 b (fun y => hb (by simp [y]))).trans (hk b ob (fun y => hb (by simp [y])) (fun y => hb (by simp [y])) q)) fp (Nat.le_refl _) ok2
    refine ⟨.ref s.heap.objs.size, _, I2, rfl, ⟨_, y, rfl, I.hok.fresh (Nat.le_refl _), rfl, fun ys h => by rw [I.tuple_inj h hq]; exact hy⟩, ⟨⟨x, ?_⟩, tg.1.at fun o q => (sb.2 it (Ne.symm n1)).trans q, n1, n2, n3⟩, fun b hb => ?_⟩
    · have c1 : ((j + 1 : Nat) : Int) = (j : Int) + 1 := by omega
      rw [c1]
      exact en2
    · have c2 : b < s.heap.objs.size := by
        have c3 : b = e ∨ b = it := by simpa using hb
        rcases c3 with q | q
        · rw [q]; exact le
        · rw [q]; exact li
      rw [upd_ne (Nat.ne_of_lt c2)]
      exact (fp b hb).1
  done := by
    intro X hP hw hK hc j pins s σ H E I fp st hg
    subst hP hw hK
    obtain ⟨⟨prev, en⟩, ti, n1, n2, n3⟩ := st
    obtain ⟨vs, hq, hl⟩ := hg
    obtain ⟨its, rv, p, _⟩ := I.tuple hq
    obtain ⟨f0, f1, f2, f3, f4, f5⟩ := fp it (by simp)
    have el := rv.length
    have ej : j = its.toArray.size := by
      rw [List.size_toArray, ← el]
      exact hl.symm
    rw [ej] at ti
    exact wpAny_pyNext_enum_endD (Draws.tuple (prog := X.prog) (w := X.w) (A := X.A.in1) (show X.A.in1.handled = none from I.ok.hd hc) it a n3 its.toArray) en ⟨ti, p⟩ fun g eb => ⟨rfl, I.turned (t' := s.toks) (fun b o hb q => eb b o hb q) f0 f1 f3 f4 f5⟩
  self := fun Ar j s Q E st k => by
    obtain ⟨⟨_, en⟩, _⟩ := st
    exact wpAny_pyIter_enum en k
theorem walk_enT {K : Frag} {a : Addr} {xs : List V} : Walk (IteT K a) xs.length (fun G => SqT K G a xs) (YPair (fun j => some (.int (j : Nat))) (fun j => xs[j]?)) := by
  refine ⟨fun j _ hj q => ⟨xs, xs[j], q, by simp [hj]⟩, fun _ q => ⟨xs, q, rfl⟩, fun j G r G' _ q y => ?_⟩
  obtain ⟨T, x, h1, h2, h3, h4⟩ := y
  exact ⟨T, .int (j : Nat), x, h1, h2, h3, rfl, h4 xs q⟩
/-- enumerate of a list or of a tuple -/
def iEnB (K : Frag) (ta : TA) : TI := fun σ H R => ta σ H fun vs G => ∃ a xs, vs = [.ref a] ∧ ((SqL K G a xs ∧ R (Ite K a) G) ∨ (SqT K G a xs ∧ R (IteT K a) G))
theorem pi_enB {X : Cx} {e : Expr} {ta : TA} {p pos tpos : Pos} {elts : List Expr} {kk : Nat} (hg : Gl X "enumerate") (hm : X.mg "enumerate" = none) (ha : PA X [e] ta) (hs : starEach [e] X.env = [(false, eval e X.env)] := by rfl) :
    PI X (.Tuple elts kk tpos) (.Call (.Name "enumerate" p) [e] [] pos) (iEnB X.K ta) := by
  refine ⟨fun pins s σ H R I h => ?_⟩
  refine Call_ (ld_blt I hg hm boot_enumerate (PyProof.Rows.callWith_type1 (thn (ha.run pos pins s σ H _ I h) fun us z ⟨vs, G, J, r1, q1⟩ => ?_) hs rfl))
  obtain ⟨a, xs, ex, q1⟩ := q1
  subst ex
  cases r1 with
  | cons r rr =>
    cases rr
    cases r
    have big : ∀ b, b ∈ [z.heap.objs.size + 1, z.heap.objs.size] → z.heap.objs.size ≤ b := fun b hb => by
      have c3 : b = z.heap.objs.size + 1 ∨ b = z.heap.objs.size := by simpa using hb
      rcases c3 with q | q
      · rw [q]; exact Nat.le_add_right _ _
      · rw [q]; exact Nat.le_refl _
    rcases q1 with ⟨hq, q⟩ | ⟨hq, q⟩
    · obtain ⟨its, rv, p', _⟩ := J.list hq
      refine call_enumerate_list p'.isList fun g en li sz hk => wpAny_pyIter_enum en ?_
      exact ⟨z.heap.objs.size + 1, [z.heap.objs.size + 1, z.heap.objs.size], _, _, G, rfl, J.kept (t' := z.toks) hk, turn_enum a (z.heap.objs.size + 1) z.heap.objs.size, ⟨⟨.none, en⟩, li, Nat.succ_ne_self _⟩, fun b hb => J.fpOk (big b hb) (J.hok.fresh (big b hb)), q⟩
    · obtain ⟨its, rv, p', _⟩ := J.tuple hq
      have la : a < z.heap.objs.size := by
        obtain ⟨_, q, _⟩ := p'
        exact Heap.lt_size q
      refine new_enum (begins_tuple a its.toArray) p' fun g en ob sz hk => wpAny_pyIter_enum en ?_
      exact ⟨z.heap.objs.size + 1, [z.heap.objs.size + 1, z.heap.objs.size], _, _, G, rfl, J.kept (t' := z.toks) hk, turn_enT a (z.heap.objs.size + 1) z.heap.objs.size, ⟨⟨.none, en⟩, ⟨_, ob, rfl, rfl⟩, Nat.succ_ne_self _, Nat.ne_of_gt (Nat.lt_succ_of_lt la), Nat.ne_of_lt la⟩, fun b hb => J.fpOk (big b hb) (J.hok.fresh (big b hb)), q⟩
end K14.EnT
namespace K14.Gn
open PySem PySem.W PySem.Calls PyProof.Rows L2 LamX
open Kz (same_new small4)
/-! ### going over a list or a tuple -/
def iSq (K : Frag) (tl : TE) : TI := fun σ H R => iList K tl σ H R ∨ iTup K tl σ H R
theorem pi_sq {X : Cx} {tg e : Expr} {tl : TE} (h : PE X e tl) : PI X tg e (iSq X.K tl) := pi_or (pi_list h) (pi_tup h)
/-- a comprehension over data, each element a truth that is told by the item -/
theorem lc_bl {K : Frag} {k : Nat} {v : V} {d : PyData} {σ : L2.St} {H : Hp} {tl te : TE} {vs : List Nat} {b : PyData → Bool} {Q : VK} (ht : ∀ R : VK, R v H → tl σ H R) (t : Th H v d) (l : isL d = true) (len : (its d).length ≤ 100000)
    (hw : ∀ x : V, wipe ((wipe σ vs).set k (some x)) vs = wipe σ vs)
    (hs : ∀ (j : Nat) (z : PyData) (x : V) (G : Hp) (Q' : VK), (its d)[j]? = some z → L2.Same H G → Th G x z → (∀ G', L2.Same G G' → Q' (.bl (b z)) G') → te ((wipe σ vs).set k (some x)) G Q')
    (hq : ∀ (G : Hp) (D : Addr), L2.Same H G → G D = some (.lst ((its d).map fun z => V.bl (b z))) → Q (.ref D) G) : tLc (iSq K tl) (gName k) tYes te vs σ H Q := by
  obtain ⟨a, xs, rfl, r, hx⟩ := t.seq (K := K) l
  have lx : xs.length = (its d).length := r.length
  have step : ∀ (D : Addr), H D = none → ∀ (i : Nat) (x : V) (H2 : Hp), xs[i]? = some x → (L2.Same H H2 ∧ H2 D = some (.lst (((its d).take i).map fun z => V.bl (b z)))) →
      (wipe ((wipe σ vs).set k (some x)) vs = wipe σ vs ∧ tYes ((wipe σ vs).set k (some x)) H2 fun c H3 => if c = true then te ((wipe σ vs).set k (some x)) H3 fun y H4 => ∃ acc, H4 D = some (.lst acc) ∧ acc.length < sizeLine ∧ (L2.Same H (upd H4 D (.lst (acc ++ [y]))) ∧ (upd H4 D (.lst (acc ++ [y]))) D = some (.lst (((its d).take (i + 1)).map fun z => V.bl (b z)))) else
        (L2.Same H H3 ∧ H3 D = some (.lst (((its d).take (i + 1)).map fun z => V.bl (b z))))) := by
    intro D hD i x H2 hi ⟨S, hA⟩
    obtain ⟨z, hz, tz⟩ := r.get hi
    refine ⟨hw x, ?_⟩
    unfold tYes
    show (if true = true then _ else _)
    rw [if_pos rfl]
    refine hs i z x H2 _ hz S (tz.ext S) fun H4 s4 => ⟨_, s4 _ _ hA, ?_, fun c o e => ?_, ?_⟩
    · rw [List.length_map, List.length_take, sizeLine_eq]
      omega
    · rw [upd_ne (ne_of_none e hD)]
      exact s4 _ _ (S _ _ e)
    · rw [upd_same]
      have et : (its d).take (i + 1) = (its d).take i ++ [z] := by
        rw [List.take_add_one, hz]
        rfl
      rw [et, List.map_append]
      rfl
  have fin : ∀ (D : Addr) (H2 : Hp), (L2.Same H H2 ∧ H2 D = some (.lst (((its d).take xs.length).map fun z => V.bl (b z)))) → Q (.ref D) H2 := fun D H2 ⟨S, hA⟩ => by
    rw [lx, List.take_length] at hA
    exact hq H2 D S hA
  rcases hx with hx | hx
  · exact .inl (ht _ ⟨a, rfl, ⟨xs, .inl (.inl hx)⟩, fun D hD => lc_list (xs := xs) (fun i H2 => L2.Same H H2 ∧ H2 D = some (.lst (((its d).take i).map fun z => V.bl (b z)))) ⟨same_new hD, upd_same⟩ (fun i H2 _ e => .inl (.inl (e.1 _ _ hx))) (fun i x H2 hi e => step D hD i x H2 hi e) (fun H2 e => fin D H2 e)⟩)
  · exact .inr (ht _ ⟨a, rfl, ⟨xs, .inl (.inl hx)⟩, fun D hD => lc_tup (xs := xs) (fun i H2 => L2.Same H H2 ∧ H2 D = some (.lst (((its d).take i).map fun z => V.bl (b z)))) ⟨same_new hD, upd_same⟩ (fun i H2 _ e => .inl (.inl (e.1 _ _ hx))) (fun i x H2 hi e => step D hD i x H2 hi e) (fun H2 e => fin D H2 e)⟩)
theorem lc_all {K : Frag} {k : Nat} {v : V} {d : PyData} {σ : L2.St} {H : Hp} {tl te : TE} {vs : List Nat} (b : PyData → Bool) {Q : VK} (ht : ∀ R : VK, R v H → tl σ H R) (t : Th H v d) (l : isL d = true) (len : (its d).length ≤ 100000)
    (hw : ∀ x : V, wipe ((wipe σ vs).set k (some x)) vs = wipe σ vs)
    (hs : ∀ (j : Nat) (z : PyData) (x : V) (G : Hp) (Q' : VK), (its d)[j]? = some z → L2.Same H G → Th G x z → (∀ G', L2.Same G G' → Q' (.bl (b z)) G') → te ((wipe σ vs).set k (some x)) G Q')
    (hq : ∀ G : Hp, L2.Same H G → Q (.bl ((its d).all b)) G) : tCB (rAll K) (tCons (tLc (iSq K tl) (gName k) tYes te vs) tNil) σ H Q := by
  unfold tCB tCons tNil
  exact lc_bl (b := b) ht t l len hw hs fun G D S hA => ⟨D, (its d).map b, rfl, .inl (.inl (by rw [List.map_map]; exact hA)), by rw [List.all_map]; exact hq G S⟩
/-- for j, y in enumerate(data) -/
theorem for_en {K : Frag} {i1 i2 : Nat} {v : V} {d : PyData} {σ : L2.St} {H H0 : Hp} {tl : TE} {tb : TS} {D : Ends} (ht : ∀ R : VK, R v H → tl σ H R) (t : Th H0 v d) (l : isL d = true) (Pv : Nat → L2.St → Hp → Prop) (h0 : Pv 0 σ H) (hx : ∀ j σ G, Pv j σ G → L2.Same H0 G)
    (hs : ∀ (j : Nat) (z : PyData) (x : V) (σ' : L2.St) (G : Hp), (its d)[j]? = some z → Th G x z → Pv j σ' G → ∀ G', L2.Same G G' → tb { nx := Pv (j + 1), rt := D.rt, bk := D.nx, ct := Pv (j + 1) } ((σ'.set i1 (some (.int (j : Nat)))).set i2 (some x)) G')
    (hd : ∀ σ' G, Pv (its d).length σ' G → D.nx σ' G) : tFor (EnT.iEnB K (tCons tl tNil)) (gTup K 2 (gCons (gName i1) (gCons (gName i2) gNil))) tb D σ H := by
  obtain ⟨a, xs, rfl, r, hq⟩ := t.seq (K := K) l
  have lx : xs.length = (its d).length := r.length
  have go : ∀ (j : Nat) (x : V) (σ' : L2.St) (G G' : Hp), j < xs.length → Pv j σ' G → YPair (fun j => some (.int (j : Nat))) (fun j => xs[j]?) j G x G' → gTup K 2 (gCons (gName i1) (gCons (gName i2) gNil)) x σ' G' fun σ2 H2 => tb { nx := Pv (j + 1), rt := D.rt, bk := D.nx, ct := Pv (j + 1) } σ2 H2 := by
    intro j x σ' G G' hj hp ⟨T, p, y, ex, nT, eG, ep, ey⟩
    obtain ⟨z, hz, tz⟩ := r.get ey
    subst ex eG
    obtain rfl : V.int (j : Nat) = p := Option.some.inj ep
    refine ⟨T, _, rfl, .inl (.inl upd_same), rfl, _, _, rfl, _, _, rfl, rfl, ?_⟩
    exact hs j z y σ' G hz (tz.ext (hx j σ' G hp)) hp _ (same_new nT)
  refine ht _ ⟨a, xs, rfl, ?_⟩
  have q0 := hx 0 σ H h0
  rcases hq with hq | hq
  · exact .inl ⟨.inl (.inl (q0 _ _ hq)), for_it walk_enum Pv h0 (fun j σ' G _ p => .inl (.inl (hx j σ' G p _ _ hq))) go (fun σ' G p => hd σ' G (by rw [← lx]; exact p))⟩
  · exact .inr ⟨.inl (.inl (q0 _ _ hq)), for_it EnT.walk_enT Pv h0 (fun j σ' G _ p => .inl (.inl (hx j σ' G p _ _ hq))) go (fun σ' G p => hd σ' G (by rw [← lx]; exact p))⟩
theorem nx_intro {nx bk ct : L2.St → Hp → Prop} {rt : VK} {σ : L2.St} {H : Hp} (h : nx σ H) : Ends.nx { nx := nx, rt := rt, bk := bk, ct := ct } σ H := h
theorem gset {i : Nat} {v : V} {σ : L2.St} {H : Hp} {Q : L2.St → Hp → Prop} (h : Q (List.set σ i (some v)) H) : gName i v σ H Q := h
theorem for_enS {K : Frag} {i1 i2 : Nat} {v : V} {d : PyData} {σ : L2.St} {H H0 : Hp} {tl : TE} {tb u : TS} {D : Ends} (ht : ∀ R : VK, R v H → tl σ H R) (t : Th H0 v d) (l : isL d = true) (Pv : Nat → L2.St → Hp → Prop) (h0 : Pv 0 σ H) (hx : ∀ j σ G, Pv j σ G → L2.Same H0 G)
    (hs : ∀ (j : Nat) (z : PyData) (x : V) (σ' : L2.St) (G : Hp), (its d)[j]? = some z → Th G x z → Pv j σ' G → ∀ G', L2.Same G G' → tb { nx := Pv (j + 1), rt := D.rt, bk := u D, ct := Pv (j + 1) } ((σ'.set i1 (some (.int (j : Nat)))).set i2 (some x)) G')
    (hd : ∀ σ' G, Pv (its d).length σ' G → u D σ' G) : tSeq (tFor (EnT.iEnB K (tCons tl tNil)) (gTup K 2 (gCons (gName i1) (gCons (gName i2) gNil))) tb) u D σ H :=
  for_en (D := { nx := u D, rt := D.rt, bk := D.bk, ct := D.ct }) ht t l Pv h0 hx hs hd
theorem for_sqS {K : Frag} {i : Nat} {v : V} {d : PyData} {σ : L2.St} {H H0 : Hp} {tl : TE} {tb u : TS} {D : Ends} (ht : ∀ R : VK, R v H → tl σ H R) (t : Th H0 v d) (l : isL d = true) (Pv : Nat → L2.St → Hp → Prop) (h0 : Pv 0 σ H) (hx : ∀ j σ G, Pv j σ G → L2.Same H0 G)
    (hs : ∀ (j : Nat) (z : PyData) (x : V) (σ' : L2.St) (G : Hp), (its d)[j]? = some z → Th G x z → Th H0 x z → Pv j σ' G → tb { nx := Pv (j + 1), rt := D.rt, bk := u D, ct := Pv (j + 1) } (σ'.set i (some x)) G)
    (hd : ∀ σ' G, Pv (its d).length σ' G → u D σ' G) : tSeq (tFor (iSq K tl) (gName i) tb) u D σ H := by
  obtain ⟨a, xs, rfl, r, hq⟩ := t.seq (K := K) l
  have lx : xs.length = (its d).length := r.length
  have go : ∀ (j : Nat) (x : V) (σ' : L2.St) (G G' : Hp), j < xs.length → Pv j σ' G → YAt xs j G x G' → gName i x σ' G' fun σ2 H2 => tb { nx := Pv (j + 1), rt := D.rt, bk := u D, ct := Pv (j + 1) } σ2 H2 := by
    intro j x σ' G G' hj hp ⟨eG, ey⟩
    obtain ⟨z, hz, tz⟩ := r.get ey
    subst eG
    exact hs j z x σ' _ hz (tz.ext (hx j σ' _ hp)) tz hp
  have q0 := hx 0 σ H h0
  unfold tSeq tFor
  rcases hq with hq | hq
  · exact .inl (ht _ ⟨a, rfl, ⟨xs, .inl (.inl (q0 _ _ hq))⟩, for_it (D := { nx := u D, rt := D.rt, bk := D.bk, ct := D.ct }) walk_list Pv h0 (fun j σ' G _ p => .inl (.inl (hx j σ' G p _ _ hq))) go (fun σ' G p => hd σ' G (by rw [← lx]; exact p))⟩)
  · exact .inr (ht _ ⟨a, rfl, ⟨xs, .inl (.inl (q0 _ _ hq))⟩, for_it (D := { nx := u D, rt := D.rt, bk := D.bk, ct := D.ct }) walk_tup Pv h0 (fun j σ' G _ p => .inl (.inl (hx j σ' G p _ _ hq))) go (fun σ' G p => hd σ' G (by rw [← lx]; exact p))⟩)
theorem drop_get {ds : List PyData} {j : Nat} {z : PyData} (h : ds[j]? = some z) : ds.drop j = z :: ds.drop (j + 1) := by
  obtain ⟨hl, e⟩ := List.getElem?_eq_some_iff.mp h
  rw [List.drop_eq_getElem_cons hl, e]
end K14.Gn
namespace K14.T27
open PySem PySem.W PySem.Calls PyProof.Rows L2 LamX
open He (ga)
open Kz (small4 same_new boot_in boot_li boot_isi Has pe_has noE)
open K14.Gn
abbrev sBn : Stmt := topS 11
abbrev sNm : Stmt := topS 12
abbrev sFn : Stmt := topS 13
abbrev sCk : Stmt := topS 14
theorem scBn : FnScope ["word", "sign"] ["word"] (defScope sBn) := ⟨rfl, rfl, rfl, by decide +kernel, rfl, by decide +kernel, by decide +kernel⟩
theorem scNm : FnScope ["thing"] ["thing"] (defScope sNm) := ⟨rfl, rfl, rfl, by decide +kernel, rfl, by decide +kernel, by decide +kernel⟩
theorem scFn : FnScope ["ends", "stood", "at", "end"] ["ends"] (defScope sFn) := ⟨rfl, rfl, rfl, by decide +kernel, rfl, by decide +kernel, by decide +kernel⟩
theorem scCk : FnScope ["ends", "at"] ["ends"] (defScope sCk) := ⟨rfl, rfl, rfl, by decide +kernel, rfl, by decide +kernel, by decide +kernel⟩
def scOfB1 : List Stmt → Scope
  | [_, .Return (some (.Call _ [.ListComp _ _ sc _] _ _)) _] => sc
  | _ => defScope sBn
def bnSc : Scope := scOfB1 (defBody sBn)
def stOf (s : Stmt) (i : Nat) : Stmt := (defBody s).getD i (.Pass ⟨0, 0, 0, 0⟩)
theorem bdBn : defBody sBn = [stOf sBn 0, stOf sBn 1] := by rfl
def letters : Str := "abcdefghijklmnopqrstuvwxyz"
def signs : Str := "abcdefghijklmnopqrstuvwxyz0123456789"
def kept : List Str := ["x", "y", "stop", "join", "loop", "use", "part", "net", "to", "shut"]
def bnB (s : Str) : Bool := match s.cps.toList with
  | [] => false
  | c :: r => decide (s.length ≤ 8) && (decide (c ∈ letters.cps.toList) && (c :: r).all fun c => decide (c ∈ signs.cps.toList))
def isSt : PyData → Bool
  | .str _ => true
  | _ => false
def keptB (s : Str) : Bool := (kept.map V.str).any fun y => eqV y (.str s)
def nameB : PyData → Bool
  | .str s => bnB s && !keptB s
  | _ => false
theorem is_st {K : Frag} (d : PyData) : kitOne K (.type (tyN d)) (.type "str") = some (isSt d) := by cases d <;> rfl
theorem boot_st : bootBuiltins "str" = some (.type "str") := by decide +kernel
/-- the program's own names -/
structure NmK (K : Frag) (mg : Str → Option Value) : Prop where
  ll : ∃ t, mg "LETTERS" = some (.str letters t)
  ns : ∃ t, mg "NAME_SIGNS" = some (.str signs t)
  ln : ∃ t, mg "LONGEST_NAME" = some (.int 8 t)
  kp : ∃ a, mg "KEPT" = some (.ref a) ∧ ∀ H : Hp, SqT K H a (kept.map V.str)
  len : mg "len" = none
  all : mg "all" = none
  isi : mg "isinstance" = none
  str : mg "str" = none
  enu : mg "enumerate" = none
section
variable {P : Program} {w : World} {K : Frag} {mg : Str → Option Value} {base : Heap}
def spBn : Sp := fun vs H Q _ => ∃ s : Str, vs = [.str s] ∧ s.length ≤ 100000 ∧ ∀ H', L2.Same H H' → Q (.bl (bnB s)) H'
theorem ok_bn {f : Addr} {fd : FuncData} (F : FunD K "begins_name" "begins_name" (defArgs sBn) (defBody sBn) (defScope sBn) [] [] f fd) (N : NmK K mg) : FnOk P w K mg base CX0 1 f fd ["word"] spBn := by
  obtain ⟨t1, g1⟩ := N.ll
  obtain ⟨t2, g2⟩ := N.ns
  obtain ⟨t3, g3⟩ := N.ln
  refine F.ok scBn (fun vs H Q E h => ?_) (fun cdv A outer s H vs Q XE hr h => ?_)
  · obtain ⟨s, rfl, _⟩ := h
    rfl
  · obtain ⟨z, rfl, hz, k⟩ := h
    have h0 : PS (cxOf CX0 P w K mg base ["word", "sign"] "begins_name" (defScope sBn) f cdv A outer s H XE).nox (stOf sBn 0) _ := ps_if ((pw_or (pt_not (pt_chain op_lt op_le pe_int (pe_callB call_len_str (by rfl) N.len boot_len (pa_cons (pv 0) pa_nil)) (pe_glob (v := .int 8) (by rfl) g3 ⟨_, rfl⟩ (by decide)))))
      (pw_or1 (pt_cmpR op_notIn_sign (pe_ix ix_str (pv 0) pe_int (fun _ _ => rfl)) (pe_glob (v := .str letters) (by rfl) g1 ⟨_, rfl⟩ (by decide)) (by rfl)))).pt (pss_one (ps_ret pe_bl)) pss_nil
    have h1 : PS (cxOf CX0 P w K mg base ["word", "sign"] "begins_name" (defScope sBn) f cdv A outer s H XE).nox (stOf sBn 1) _ := ps_ret (pe_callB (cr_all rfl) (by rfl) N.all boot_all (pa_cons (pe_lc (X := (cxOf CX0 P w K mg base ["word", "sign"] "begins_name" (defScope sBn) f cdv A outer s H XE).nox) (scope := bnSc) (own := [("sign", 1)]) (g := gName 1) (tt := tYes)
      (te := tOp (fun x y H Q => ∃ (c : Nat) (z : Str), x = .str ⟨#[c]⟩ ∧ y = .str z ∧ Q (.bl (decide (c ∈ z.cps.toList))) H) (tVar 1) (tC (.str signs))) rfl scBn.nd
      (pi_str (pv 0)) (blkOk_by (N := ["word", "sign"]) (sc := defScope sBn) (by decide +kernel)) (fun _ _ _ _ _ => pg_name (i := 1) scBn.nd rfl (Or.inl rfl)) (fun _ _ _ _ _ => pts_nil)
      (fun s0 H0 C0 cl0 fp0 => pe_cmpR (X := Cx.blk ((cxOf CX0 P w K mg base ["word", "sign"] "begins_name" (defScope sBn) f cdv A outer s H XE).nox) s0 H0 bnSc (compEnvC bnSc cl0 C0 (Cx.env ((cxOf CX0 P w K mg base ["word", "sign"] "begins_name" (defScope sBn) f cdv A outer s H XE).nox))) fp0) op_in_sign (pv 1) (pe_glob (v := .str signs) (by rfl) g2 ⟨_, rfl⟩ (by decide)) (by rfl))) pa_nil))
    refine ⟨_, PSs.nox (Kz.PSs.of_eq bdBn (pss_cons h0 (pss_one h1))), ?_⟩
    clear h0 h1
    have LC : z.length = z.cps.toList.length := by rw [Array.length_toList]; rfl
    refine ⟨.str z, rfl, z, rfl, (by rw [sizeLine_eq]; omega), 0, _, rfl, rfl, _, rfl, ite2 (fun e0 => ?_) (fun e0 => ?_)⟩
    · refine ⟨_, 8, rfl, rfl, _, rfl, ?_⟩
      obtain ⟨c, r, ez⟩ : ∃ c r, z.cps.toList = c :: r := by
        cases q : z.cps.toList with
        | nil =>
          rw [q] at LC
          have := of_decide_eq_true e0
          simp at LC
          omega
        | cons c r => exact ⟨c, r, rfl⟩
      have eb : bnB z = (decide (z.length ≤ 8) && (decide (c ∈ letters.cps.toList) && (c :: r).all fun c => decide (c ∈ signs.cps.toList))) := by
        unfold bnB
        rw [ez]
      by_cases hl : z.length ≤ 8
      · have e8 : decide ((z.length : Int) ≤ 8) = true := decide_eq_true (by omega)
        show (if (!decide ((z.length : Int) ≤ 8)) = true then _ else _)
        rw [e8]
        refine iteF ⟨.str z, rfl, z, 0, c, rfl, rfl, (by rw [sizeLine_eq]; omega), (by rw [ez]; exact atI_nat (j := 0) rfl), c, letters, rfl, rfl, _, rfl, ?_⟩
        rw [decide_eq_true hl, Bool.true_and] at eb
        cases q : decide (c ∈ letters.cps.toList) with
        | false =>
          rw [q] at eb
          refine iteT ?_
          have kk := k H (fun _ _ e => e)
          rw [eb] at kk
          exact kk
        | true =>
          rw [q, Bool.true_and] at eb
          refine iteF ?_
          refine ⟨.str z, rfl, z, rfl, fun D hD => lc_it walk_str (fun j G => L2.Same H G ∧ G D = some (.lst ((z.cps.toList.take j).map fun c => V.bl (decide (c ∈ signs.cps.toList))))) ⟨same_new hD, upd_same⟩ (fun _ _ _ _ => trivial) (fun j x G G' hj hp hy => ?_) (fun G hp => ?_)⟩
          · obtain ⟨rfl, ch, ec, rfl⟩ := hy
            obtain ⟨S, hA⟩ := hp
            refine ⟨rfl, ?_⟩
            unfold tYes
            show (if true = true then _ else _)
            rw [if_pos rfl]
            refine ⟨_, rfl, ch, signs, rfl, rfl, _, hA, ?_, fun b o e => ?_, ?_⟩
            · rw [List.length_map, List.length_take, sizeLine_eq]
              omega
            · rw [upd_ne (ne_of_none e hD)]
              exact S _ _ e
            · rw [upd_same]
              have ec' : z.cps.toList[j]? = some ch := by rw [Array.getElem?_toList]; exact ec
              have et : z.cps.toList.take (j + 1) = z.cps.toList.take j ++ [ch] := by
                rw [List.take_add_one, ec']
                rfl
              rw [et, List.map_append]
              rfl
          · obtain ⟨S, hA⟩ := hp
            have hA : G D = some (.lst ((z.cps.toList.take z.cps.size).map fun c => V.bl (decide (c ∈ signs.cps.toList)))) := hA
            rw [show z.cps.size = z.cps.toList.length from (Array.length_toList).symm, List.take_length] at hA
            refine ⟨D, z.cps.toList.map fun c => decide (c ∈ signs.cps.toList), rfl, .inl (.inl (by rw [List.map_map]; exact hA)), ?_⟩
            rw [List.all_map]
            have kk := k G S
            rw [eb, ← ez] at kk
            exact kk
      · have e8 : decide ((z.length : Int) ≤ 8) = false := decide_eq_false (by omega)
        show (if (!decide ((z.length : Int) ≤ 8)) = true then _ else _)
        rw [e8]
        refine iteT (iteT ?_)
        have kk := k H (fun _ _ e => e)
        rw [eb, decide_eq_false hl, Bool.false_and] at kk
        exact kk
    · refine ⟨false, rfl, iteT (iteT ?_)⟩
      have kk := k H (fun _ _ e => e)
      have eb : bnB z = false := by
        unfold bnB
        cases q : z.cps.toList with
        | nil => rfl
        | cons c r =>
          rw [q] at LC
          exact absurd (decide_eq_true (by rw [LC]; simp)) e0
      rw [eb] at kk
      exact kk
def spNm : Sp := fun vs H Q _ => ∃ (v : V) (d : PyData), vs = [v] ∧ Th H v d ∧ (∀ s, d = .str s → s.length ≤ 100000) ∧ ∀ H', L2.Same H H' → Q (.bl (nameB d)) H'
theorem ok_nm {f : Addr} {fd : FuncData} (F : FunD K "is_name" "is_name" (defArgs sNm) (defBody sNm) (defScope sNm) [] [] f fd) (N : NmK K mg) (B : Has P w K mg base "begins_name" 1 ["word"] spBn) : FnOk P w K mg base CX0 2 f fd ["thing"] spNm := by
  obtain ⟨ak, gk, qk⟩ := N.kp
  refine F.ok scNm (fun vs H Q E h => ?_) (fun cdv A outer s H vs Q XE hr h => ?_)
  · obtain ⟨v, d, rfl, _⟩ := h
    rfl
  · obtain ⟨v, d, rfl, hv, hl, k⟩ := h
    refine ⟨_, PSs.nox (pss_one (ps_ret (pe_and (pe_callB call_isi (by rfl) N.isi boot_isi (pa_cons (pv 0) (pa_cons (pe_bltn (by rfl) N.str boot_st (v := .ty "str") rfl) pa_nil))) (pe_and (pe_has B hr (by rfl) (pa_cons (pv 0) pa_nil)) (pe_one (pe_cmpR op_notIn_seq (pv 0) (pe_glob (v := .ref ak) (by rfl) gk rfl (by decide)) (by rfl))))))), ?_⟩
    refine ⟨v, rfl, v, _, _, _, _, rfl, .ty _, hv.ty, is_st d, _, rfl, ?_⟩
    cases hv with
    | str x =>
      refine iteT ⟨.str x, rfl, x, rfl, hl x rfl, fun H1 s1 => ⟨_, rfl, ?_⟩⟩
      have kk := k H1 s1
      have eb : nameB (.str x) = (bnB x && !keptB x) := rfl
      rw [eb] at kk
      cases q : bnB x with
      | false =>
        rw [q] at kk
        exact iteF kk
      | true =>
        rw [q, Bool.true_and] at kk
        exact iteT ⟨.str x, rfl, ak, _, rfl, .inr (qk H1), rfl, rfl, kk⟩
    | _ => exact iteF (k H (fun _ _ e => e))
/-! ### the first that is no end -/
def fneL : List PyData → List Str → Nat → Option Nat
  | [], _, _ => none
  | .str s :: r, st, j => if (nameB (.str s) && !st.contains s) = true then fneL r (st ++ [s]) (j + 1) else some j
  | _ :: _, _, j => some j
def fne (d : PyData) : Option Nat := if isL d = true then fneL (its d) [] 0 else some 0
def oV : Option Nat → V
  | none => .non
  | some j => .int (j : Nat)
def spFn : Sp := fun vs H Q _ => ∃ (v : V) (d : PyData), vs = [v] ∧ Th H v d ∧ (its d).length ≤ 1000 ∧ (∀ s, .str s ∈ its d → s.length ≤ 100000) ∧ ∀ H', L2.Same H H' → Q (oV (fne d)) H'
theorem bdFn : defBody sFn = [stOf sFn 0, stOf sFn 1, stOf sFn 2, stOf sFn 3] := by rfl
def forBody : Stmt → List Stmt
  | .For _ _ b .. => b
  | _ => []
theorem bdFn2 : forBody (stOf sFn 2) = [(forBody (stOf sFn 2)).getD 0 (.Pass ⟨0, 0, 0, 0⟩), (forBody (stOf sFn 2)).getD 1 (.Pass ⟨0, 0, 0, 0⟩)] := by rfl
theorem ok_fn {f : Addr} {fd : FuncData} (F : FunD K "first_no_end" "first_no_end" (defArgs sFn) (defBody sFn) (defScope sFn) [] [] f fd) (N : NmK K mg) (L : Has P w K mg base "is_list" 1 ["thing"] (spLook isL)) (M : Has P w K mg base "is_name" 2 ["thing"] spNm) : FnOk P w K mg base CX0 3 f fd ["ends"] spFn := by
  refine F.ok scFn (fun vs H Q E h => ?_) (fun cdv A outer s H vs Q XE hr h => ?_)
  · obtain ⟨v, d, rfl, _⟩ := h
    rfl
  · obtain ⟨v, d, rfl, hv, hl, hss, k⟩ := h
    have hu : (cxOf CX0 P w K mg base ["ends", "stood", "at", "end"] "first_no_end" (defScope sFn) f cdv A outer s H XE).nox.A.units + 1 < cLine := by
      have := hr.units
      show (A.deeper _).units + 1 < cLine
      omega
    have h0 : PS (cxOf CX0 P w K mg base ["ends", "stood", "at", "end"] "first_no_end" (defScope sFn) f cdv A outer s H XE).nox (stOf sFn 0) _ := ps_if (pt_not (pt_val (pe_has L (hr.mono (by decide)) (by rfl) (pa_cons (pv 0) pa_nil)))) (pss_one (ps_ret pe_int)) pss_nil
    have h1 : PS (cxOf CX0 P w K mg base ["ends", "stood", "at", "end"] "first_no_end" (defScope sFn) f cdv A outer s H XE).nox (stOf sFn 1) _ := ps_set (i := 1) scFn.nd rfl (.inl rfl) pe_dnewK
    have b0 : PS (cxOf CX0 P w K mg base ["ends", "stood", "at", "end"] "first_no_end" (defScope sFn) f cdv A outer s H XE).nox ((forBody (stOf sFn 2)).getD 0 (.Pass ⟨0, 0, 0, 0⟩)) _ := ps_if ((pw_or (pt_not (pt_val (pe_has M hr (by rfl) (pa_cons (pv 3) pa_nil))))) (pw_or1 (pt_cmp (pc_din hu (pv 3) (pv 1)) (by rfl)))).pt (pss_one (ps_ret (pv 2))) pss_nil
    have b1 : PS (cxOf CX0 P w K mg base ["ends", "stood", "at", "end"] "first_no_end" (defScope sFn) f cdv A outer s H XE).nox ((forBody (stOf sFn 2)).getD 1 (.Pass ⟨0, 0, 0, 0⟩)) _ := ps_asg pe_bl (pg_sub (pv 1) (pv 3) (_root_.L2.set_dict hu))
    have h2 : PS (cxOf CX0 P w K mg base ["ends", "stood", "at", "end"] "first_no_end" (defScope sFn) f cdv A outer s H XE).nox (stOf sFn 2) _ := ps_for PassesOwn.never rfl (EnT.pi_enB (by rfl) N.enu (pa_cons (pv 0) pa_nil)) (pg_tup (n := 2) rfl (pgs_cons (pg_name (i := 2) scFn.nd rfl (.inl rfl)) (pgs_cons (pg_name (i := 3) scFn.nd rfl (.inl rfl)) pgs_nil))) (Kz.PSs.of_eq bdFn2 (pss_cons b0 (pss_one b1)))
    have h3 : PS (cxOf CX0 P w K mg base ["ends", "stood", "at", "end"] "first_no_end" (defScope sFn) f cdv A outer s H XE).nox (stOf sFn 3) _ := ps_ret pe_non
    refine ⟨_, PSs.nox (Kz.PSs.of_eq bdFn (pss_cons h0 (pss_cons h1 (pss_cons h2 (pss_one h3))))), ?_⟩
    clear h0 h1 h2 h3 b0 b1
    refine ⟨v, rfl, v, d, rfl, hv, fun H1 s1 => ⟨isL d, rfl, ?_⟩⟩
    cases l : isL d with
    | false =>
      refine iteT ?_
      have kk := k H1 s1
      unfold fne at kk
      rw [l] at kk
      exact kk
    | true =>
      refine iteF fun p np => ?_
      have kf : ∀ G, L2.Same H1 G → Q (oV (fneL (its d) [] 0)) G := fun G e => by
        have kk := k G (s1.trans e)
        unfold fne at kk
        rw [l] at kk
        exact kk
      refine gset ?_
      refine nx_intro ?_
      refine for_enS (H0 := H1) (v := v) (d := d) (i1 := 2) (i2 := 3) (fun R h => ⟨v, rfl, h⟩) (hv.ext s1) l (fun j σ G => ∃ (a2 a3 : Option V) (kvs : List (Key × V)) (st : List Str), σ = [some v, some (.ref p), a2, a3] ∧ L2.Same H1 G ∧ G p = some (.dK kvs) ∧ kvs.length ≤ j ∧ (∀ s : Str, (valV kvs (.inr s)).isSome = st.contains s) ∧ fneL (its d) [] 0 = fneL ((its d).drop j) st j)
        ⟨none, none, [], [], rfl, same_new np, upd_same, Nat.le_refl _, fun s => rfl, rfl⟩ (fun j σ G e => ?_) (fun j z x σ' G hz tx e G' e' => ?_) (fun σ G e => ?_)
      · obtain ⟨_, _, _, _, _, e, _⟩ := e
        exact e
      · obtain ⟨a2, a3, kvs, st, rfl, S, hp, hk, hin, hf⟩ := e
        have jl : j < (its d).length := (List.getElem?_eq_some_iff.mp hz).1
        rw [drop_get hz] at hf
        refine ⟨x, rfl, x, z, rfl, tx.ext e', (fun s es => hss s (by rw [← es]; exact List.mem_of_getElem? hz)), fun G2 s2 => ⟨nameB z, rfl, ?_⟩⟩
        have S2 := (S.trans e').trans s2
        cases q : nameB z with
        | false =>
          refine iteT (iteT ⟨.int (j : Nat), rfl, ?_⟩)
          have kk := kf G2 S2
          have ef : fneL (z :: (its d).drop (j + 1)) st j = some j := by
            cases z with
            | str s =>
              unfold fneL
              rw [q]
              rfl
            | _ => rfl
          rw [hf, ef] at kk
          exact kk
        | true =>
          cases z with
          | str s =>
            cases tx with
            | str =>
              have hp2 := s2 _ _ (e' _ _ hp)
              refine iteF ⟨.str s, rfl, .ref p, rfl, p, _, rfl, DGet.k (k := .inr s) hp2, _, rfl, ?_⟩
              rw [hin s]
              have ef : fneL (.str s :: (its d).drop (j + 1)) st j = if (nameB (.str s) && !st.contains s) = true then fneL ((its d).drop (j + 1)) (st ++ [s]) (j + 1) else some j := rfl
              rw [q, Bool.true_and] at ef
              cases c : st.contains s with
              | true =>
                rw [c] at ef
                refine iteT ⟨.int (j : Nat), rfl, ?_⟩
                have kk := kf G2 S2
                rw [hf, ef] at kk
                exact kk
              | false =>
                rw [c] at ef
                refine iteF ⟨.ref p, rfl, .str s, rfl, p, _, rfl, DPut.k (k := .inr s) hp2 (by rw [sizeLine_eq]; omega), ?_⟩
                refine ⟨_, _, _, st ++ [s], rfl, fun b o hb => ?_, upd_same, Nat.le_trans (length_putK _ _ _) (by omega), fun s' => ?_, by rw [hf, ef]; rfl⟩
                · rw [upd_ne (ne_of_none hb np)]
                  exact S2 _ _ hb
                · rw [valV_put, List.contains_append]
                  by_cases es : s' = s
                  · rw [if_pos (by rw [es]), es]
                    simp
                  · rw [if_neg (fun y => es (Sum.inr.inj y)), hin s']
                    simp [es]
          | _ => exact absurd (show false = true from q) Bool.false_ne_true
      · obtain ⟨a2, a3, kvs, st, rfl, S, hp, hk, hin, hf⟩ := e
        rw [List.drop_length] at hf
        have kk := kf G S
        rw [hf] at kk
        exact kk
end
end K14.T27
namespace K14.T27
open PySem PySem.W PySem.Calls PyProof.Rows L2 LamX
open He (ga)
open Kz (small4 same_new boot_in boot_li boot_isi Has pe_has noE X1 PSs.of_eq)
open K14.Gn
/-! ### check_ends -/
/-- the error of the class C that holds v, in the field f, is let out -/
def SaysF (C : Addr) (f : Str) (v : V) (H : Hp) (E : XK) : Prop := ∀ (H' : Hp) (dx : Addr), L2.Same H H' → H' dx = some (.xd [(f, v)]) → E (.ref C) (some dx) H'
def EndsOk (H : Hp) (v : V) (d : PyData) : Prop := Th H v d ∧ (its d).length ≤ 1000 ∧ ∀ s, .str s ∈ its d → s.length ≤ 100000
theorem bdCk : defBody sCk = [stOf sCk 0, stOf sCk 1] := by rfl
section
variable {P : Program} {w : World} {K : Frag} {mg : Str → Option Value} {base : Heap}
def spCk : Sp := fun vs H Q _ => ∃ (v : V) (d : PyData), vs = [v] ∧ EndsOk H v d ∧ fne d = none ∧ ∀ H', L2.Same H H' → Q .non H'
def spCkX (K : Frag) : Sp := fun vs H Q E => ∃ (v : V) (d : PyData) (j : Nat), vs = [v] ∧ EndsOk H v d ∧ fne d = some j ∧ SaysF (ga K "BadEnds") "index" (.int (j : Nat)) H E
theorem ok_ck {f : Addr} {fd : FuncData} (F : FunD K "check_ends" "check_ends" (defArgs sCk) (defBody sCk) (defScope sCk) [] [] f fd) (L : Has P w K mg base "first_no_end" 3 ["ends"] spFn) : FnOk P w K mg base CX0 4 f fd ["ends"] spCk := by
  refine F.ok scCk (fun vs H Q E h => ?_) (fun cdv A outer s H vs Q XE hr h => ?_)
  · obtain ⟨v, d, rfl, _⟩ := h
    rfl
  · obtain ⟨v, d, rfl, ⟨t, l1, l2⟩, e, k⟩ := h
    have h0 : PS (cxOf CX0 P w K mg base ["ends", "at"] "check_ends" (defScope sCk) f cdv A outer s H XE).nox (stOf sCk 0) _ := ps_set (i := 1) scCk.nd rfl (.inl rfl) (pe_has L hr (by rfl) (pa_cons (pv 0) pa_nil))
    have h1 : PS (cxOf CX0 P w K mg base ["ends", "at"] "check_ends" (defScope sCk) f cdv A outer s H XE).nox (stOf sCk 1) _ := ps_if (pt_cmp (pc_notN (pv 1)) (by rfl)) (pss_one ps_never) pss_nil
    refine ⟨_, PSs.nox (PSs.of_eq bdCk (pss_cons h0 (pss_one h1))), ?_⟩
    refine ⟨v, rfl, v, d, rfl, t, l1, l2, fun H1 s1 => ?_⟩
    rw [e]
    exact ⟨.non, rfl, _, rfl, iteF (k H1 s1)⟩
theorem okx_ck {f : Addr} {fd : FuncData} (F : FunD K "check_ends" "check_ends" (defArgs sCk) (defBody sCk) (defScope sCk) [] [] f fd) (L : Has P w K mg base "first_no_end" 3 ["ends"] spFn) (T : mg "BadEnds" = some (.ref (ga K "BadEnds")) ∧ X1 P K (ga K "BadEnds") "index") : FnOk P w K mg base (L2.CX P w) 4 f fd ["ends"] (spCkX K) := by
  refine F.ok scCk (fun vs H Q E h => ?_) (fun cdv A outer s H vs Q XE hr h => ?_)
  · obtain ⟨v, d, j, rfl, _⟩ := h
    rfl
  · obtain ⟨v, d, j, rfl, ⟨t, l1, l2⟩, e, k⟩ := h
    refine ⟨_, PSs.of_eq bdCk (pss_cons (ps_set (i := 1) scCk.nd rfl (.inl rfl) (pe_has L hr (by rfl) (pa_cons (pv 0) pa_nil))) (pss_one (ps_if (pt_cmp (pc_notN (pv 1)) (by rfl)) (pss_one (ps_raise rfl (takes_of rfl rfl rfl rfl) (pmk_x1 T.2 (hr.mono (by decide)) rfl (by rfl) T.1 (pv 1)))) pss_nil))), ?_⟩
    refine ⟨v, rfl, v, d, rfl, t, l1, l2, fun H1 s1 => ?_⟩
    rw [e]
    exact ⟨.int (j : Nat), rfl, _, rfl, iteT ⟨.int (j : Nat), rfl, fun dx n => k _ dx (s1.trans (same_new n)) upd_same⟩⟩
end
end K14.T27
namespace K14.T27
open PySem PySem.W PySem.Calls PyProof.Rows L2 LamX
open He (ga)
open Kz (small4 same_new boot_in boot_li boot_isi Has pe_has noE PSs.of_eq)
open K14.Gn
/-! ### boxes -/
theorem th_ix {K : Frag} {H : Hp} {v : V} {d z : PyData} {j : Nat} (t : Th H v d) (l : isL d = true) (h : (its d)[j]? = some z) : ∃ x, Th H x z ∧ ∀ Q : VK, Q x H → rIx K v (.int (j : Nat)) H Q := by
  obtain ⟨a, xs, rfl, r, hx⟩ := t.seq (K := K) l
  have jl : j < xs.length := by
    rw [r.length]
    exact (List.getElem?_eq_some_iff.mp h).1
  obtain ⟨z', hz', tz⟩ := r.get (List.getElem?_eq_getElem jl)
  rw [h] at hz'
  obtain rfl := Option.some.inj hz'
  refine ⟨_, tz, fun Q q => ?_⟩
  rcases hx with hx | hx
  · exact .inl ⟨a, xs, _, _, rfl, rfl, .inl (.inl hx), atI_nat (j := j) (List.getElem?_eq_getElem jl), q⟩
  · exact .inr (.inl ⟨a, xs, _, _, rfl, rfl, .inl (.inl hx), atI_nat (j := j) (List.getElem?_eq_getElem jl), q⟩)
/-- the ends that are passed -/
structure EndsS (H : Hp) (v : V) (ns : List Str) : Prop where
  ex : ∃ a, v = .ref a ∧ (H a = some (.lst (ns.map V.str)) ∨ H a = some (.tup (ns.map V.str)))
theorem EndsS.ext {H H1 : Hp} {v : V} {ns : List Str} (h : EndsS H v ns) (e : L2.Same H H1) : EndsS H1 v ns := by
  obtain ⟨a, e1, e2⟩ := h.ex
  exact ⟨a, e1, e2.elim (fun q => .inl (e _ _ q)) fun q => .inr (e _ _ q)⟩
def inN (ns : List Str) (s : Str) : Bool := (ns.map V.str).any fun y => eqV y (.str s)
theorem flat_strs (ns : List Str) : (ns.map V.str).all flatV = true := List.all_eq_true.mpr fun x hx => by
  obtain ⟨s, _, rfl⟩ := List.mem_map.mp hx
  rfl
def boxB (ns : List Str) (d : PyData) : Bool := isL d && (match its d with
  | [.str s, r, t] => inN ns s && (isR r && isR t)
  | _ => false)
abbrev sBa : Stmt := topS 18
theorem scBa : FnScope ["ends", "thing"] ["ends", "thing"] (defScope sBa) := ⟨rfl, rfl, rfl, by decide +kernel, rfl, by decide +kernel, by decide +kernel⟩
theorem bdBa : defBody sBa = [stOf sBa 0, stOf sBa 1] := by rfl
section
variable {P : Program} {w : World} {K : Frag} {mg : Str → Option Value} {base : Heap}
def Bd (d : PyData) : Prop := (its d).length ≤ 100000 ∧ ∀ x ∈ its d, (its x).length ≤ 100000
def spBa : Sp := fun vs H Q _ => ∃ (ve v : V) (ns : List Str) (d : PyData), vs = [ve, v] ∧ EndsS H ve ns ∧ Th H v d ∧ Bd d ∧ ∀ H', L2.Same H H' → Q (.bl (boxB ns d)) H'
theorem ok_ba {f : Addr} {fd : FuncData} (F : FunD K "is_box_at" "is_box_at" (defArgs sBa) (defBody sBa) (defScope sBa) [] [] f fd) (N : NmK K mg) (L : Has P w K mg base "is_list" 1 ["thing"] (spLook isL)) (R : Has P w K mg base "is_row" 3 ["thing"] spRow) : FnOk P w K mg base CX0 4 f fd ["ends", "thing"] spBa := by
  refine F.ok scBa (fun vs H Q E h => ?_) (fun cdv A outer s H vs Q XE hr h => ?_)
  · obtain ⟨ve, v, ns, d, rfl, _⟩ := h
    rfl
  · obtain ⟨ve, v, ns, d, rfl, hE, hv, ⟨b1, b2⟩, k⟩ := h
    have h0 : PS (cxOf CX0 P w K mg base ["ends", "thing"] "is_box_at" (defScope sBa) f cdv A outer s H XE).nox (stOf sBa 0) _ := ps_if (PW.pt (pw_or (pt_not (pt_val (pe_has L (hr.mono (by decide)) (by rfl) (pa_cons (pv 1) pa_nil)))) (pw_or (pt_cmpR op_ne (pe_callB call_len_seq (by rfl) N.len boot_len (pa_cons (pv 1) pa_nil)) pe_int (nomark _)) (pw_or1 (pt_not (pt_val (pe_callB call_isi (by rfl) N.isi boot_isi (pa_cons (pe_ix ix_seq (pv 1) pe_int (fun _ _ => rfl)) (pa_cons (pe_bltn (by rfl) N.str boot_st (v := .ty "str") rfl) pa_nil))))))))) (pss_one (ps_ret pe_bl)) pss_nil
    have h1 : PS (cxOf CX0 P w K mg base ["ends", "thing"] "is_box_at" (defScope sBa) f cdv A outer s H XE).nox (stOf sBa 1) _ := ps_ret (pe_and (pe_cmpR op_in_seq (pe_ix ix_seq (pv 1) pe_int (fun _ _ => rfl)) (pv 0) (by rfl)) (pe_and (pe_has R hr (by rfl) (pa_cons (pe_ix ix_seq (pv 1) pe_int (fun _ _ => rfl)) pa_nil)) (pe_one (pe_has R hr (by rfl) (pa_cons (pe_ix ix_seq (pv 1) pe_int (fun _ _ => rfl)) pa_nil)))))
    refine ⟨_, PSs.nox (PSs.of_eq bdBa (pss_cons h0 (pss_one h1))), ?_⟩
    clear h0 h1
    refine ⟨v, rfl, v, d, rfl, hv, fun H1 s1 => ⟨isL d, rfl, ?_⟩⟩
    cases l : isL d with
    | false =>
      refine iteT (iteT ?_)
      have kk := k H1 s1
      unfold boxB at kk
      rw [l] at kk
      exact kk
    | true =>
      have hv1 := hv.ext s1
      obtain ⟨a, xs, ea, r, hx⟩ := hv1.seq (K := K) l
      have lx : xs.length = (its d).length := r.length
      refine iteF ⟨v, rfl, a, xs, by rw [ea], sl_of hx, rfl, _, rfl, ?_⟩
      rw [lx]
      by_cases h3 : (its d).length = 3
      · have e3 : decide (V.int (((its d).length : Nat) : Int) = V.int 3) = true := decide_eq_true (by rw [h3]; rfl)
        rw [e3]
        obtain ⟨z0, z1, z2, ed⟩ : ∃ z0 z1 z2, its d = [z0, z1, z2] := by
          match its d, h3 with
          | [z0, z1, z2], _ => exact ⟨z0, z1, z2, rfl⟩
        have m1 : z1 ∈ its d := by rw [ed]; simp
        have m2 : z2 ∈ its d := by rw [ed]; simp
        obtain ⟨x0, t0, i0⟩ := th_ix (K := K) (j := 0) hv1 l (z := z0) (by rw [ed]; rfl)
        refine iteF ⟨v, rfl, i0 _ ⟨x0, _, _, _, _, rfl, .ty _, t0.ty, is_st z0, _, rfl, ?_⟩⟩
        have no : isSt z0 = false → boxB ns d = false := fun q => by
          unfold boxB
          rw [ed, l]
          cases z0 with
          | str s => cases q
          | _ => rfl
        cases z0 with
        | str s0 =>
          have eb : boxB ns d = (inN ns s0 && (isR z1 && isR z2)) := by
            unfold boxB
            rw [ed, l]
            rfl
          rw [eb] at k
          refine iteF ?_
          cases t0 with
          | str =>
            obtain ⟨ae, rfl, qe⟩ := (hE.ext s1).ex
            refine ⟨v, rfl, i0 _ ⟨.ref ae, rfl, ae, _, rfl, sl_of qe, rfl, flat_strs ns, inN ns s0, rfl, ?_⟩⟩
            cases q : inN ns s0 with
            | false =>
              rw [q] at k
              exact iteF (k H1 s1)
            | true =>
              rw [q] at k
              obtain ⟨x1, t1, i1⟩ := th_ix (K := K) (j := 1) hv1 l (z := z1) (by rw [ed]; rfl)
              refine iteT ⟨v, rfl, i1 _ ⟨x1, z1, rfl, t1, b2 _ m1, fun H2 s2 => ⟨isR z1, rfl, ?_⟩⟩⟩
              cases q1 : isR z1 with
              | false =>
                rw [q1] at k
                exact iteF (k H2 (s1.trans s2))
              | true =>
                rw [q1] at k
                obtain ⟨x2, t2, i2⟩ := th_ix (K := K) (j := 2) (hv1.ext s2) l (z := z2) (by rw [ed]; rfl)
                exact iteT ⟨v, rfl, i2 _ ⟨x2, z2, rfl, t2, b2 _ m2, fun H3 s3 => k H3 ((s1.trans s2).trans s3)⟩⟩
        | _ =>
          rw [no rfl] at k
          exact iteT (k H1 s1)
      · have e3 : decide (V.int (((its d).length : Nat) : Int) = V.int 3) = false := decide_eq_false (fun y => h3 (by have := V.int.inj y; omega))
        rw [e3]
        refine iteT (iteT ?_)
        have kk := k H1 s1
        have eb : boxB ns d = false := by
          unfold boxB
          split
          · rename_i q
            rw [q] at h3
            exact absurd rfl h3
          · rw [Bool.and_false]
        rw [eb] at kk
        exact kk
end
end K14.T27
namespace K14.T27
open PySem PySem.W PySem.Calls PyProof.Rows L2 LamX
open He (ga)
open Kz (small4 same_new boot_in boot_li boot_isi Has pe_has noE PSs.of_eq shaped_int dpAll_int)
open K14.Gn
/-! ### boxes apart -/
theorem th_cut {K : Frag} {H : Hp} {v : V} {d : PyData} {m : Nat} {Q : VK} (t : Th H v d) (l : isL d = true) (hm : m ≤ (its d).length) (k : ∀ (y : V) (G : Hp) (d' : PyData), L2.Same H G → Th G y d' → isL d' = true → its d' = (its d).take m → Q y G) :
    rSlL K v none (some (m : Int)) H Q ∨ rSlA K v none (some (m : Int)) H Q := by
  obtain ⟨a, xs, rfl, r, hx⟩ := t.seq (K := K) l
  have lx := r.length
  have cut : cutV xs none (some (m : Int)) = xs.take m := cutV_take (by omega)
  have rt : ThAll H (xs.take m) ((its d).take m) := by
    clear cut hx lx hm k t
    generalize its d = ds at r
    induction m generalizing xs ds with
    | zero => exact .nil
    | succ m ih =>
      cases r with
      | nil => exact .nil
      | cons h1 h2 => exact .cons h1 (ih _ _ h2)
  rcases hx with hx | hx
  · refine .inl ⟨a, xs, rfl, .inl (.inl hx), fun p np => ?_⟩
    rw [cut]
    exact k _ _ (.list ((its d).take m)) (same_new np) (.lst upd_same (rt.ext (same_new np))) rfl rfl
  · refine .inr ⟨a, xs, rfl, .inl (.inl hx), fun hw => ?_, fun _ p np => ?_⟩
    · have e : xs.take m = xs := by
        rw [← cut]
        unfold cutV
        rw [hw.1, hw.2]
        simp
      have em : (its d).take m = its d := by
        have : (xs.take m).length = xs.length := by rw [e]
        rw [List.length_take] at this
        rw [List.take_of_length_le (by omega)]
      exact k _ _ d (fun _ _ e => e) t l em.symm
    · rw [cut]
      exact k _ _ (.tuple ((its d).take m)) (same_new np) (.tup upd_same (rt.ext (same_new np))) rfl rfl
def apB (ns ms : List Int) : Bool := !decide (ns.take (min ns.length ms.length) = ms.take (min ns.length ms.length))
abbrev sAp : Stmt := topS 19
theorem scAp : FnScope ["row", "other", "shared"] ["row", "other"] (defScope sAp) := ⟨rfl, rfl, rfl, by decide +kernel, rfl, by decide +kernel, by decide +kernel⟩
theorem bdAp : defBody sAp = [stOf sAp 0, stOf sAp 1] := by rfl
section
variable {P : Program} {w : World} {K : Frag} {mg : Str → Option Value} {base : Heap}
def spAp : Sp := fun vs H Q _ => ∃ (v u : V) (ns ms : List Int), vs = [v, u] ∧ RowV H v ns ∧ RowV H u ms ∧ ∀ H', L2.Same H H' → Q (.bl (apB ns ms)) H'
theorem ok_ap {f : Addr} {fd : FuncData} (F : FunD K "are_apart" "are_apart" (defArgs sAp) (defBody sAp) (defScope sAp) [] [] f fd) (N : NmK K mg) (mm : mg "min" = none) (ml : mg "list" = none) : FnOk P w K mg base CX0 1 f fd ["row", "other"] spAp := by
  refine F.ok scAp (fun vs H Q E h => ?_) (fun cdv A outer s H vs Q XE hr h => ?_)
  · obtain ⟨v, u, ns, ms, rfl, _⟩ := h
    rfl
  · obtain ⟨v, u, ns, ms, rfl, hv, hu, k⟩ := h
    have h0 : PS (cxOf CX0 P w K mg base ["row", "other", "shared"] "are_apart" (defScope sAp) f cdv A outer s H XE).nox (stOf sAp 0) _ := ps_set (i := 2) scAp.nd rfl (.inl rfl) (pe_callB (call_min2 rfl) (by rfl) mm boot_min (pa_cons (pe_callB call_len_seq (by rfl) N.len boot_len (pa_cons (pv 0) pa_nil)) (pa_cons (pe_callB call_len_seq (by rfl) N.len boot_len (pa_cons (pv 1) pa_nil)) pa_nil)))
    have h1 : PS (cxOf CX0 P w K mg base ["row", "other", "shared"] "are_apart" (defScope sAp) f cdv A outer s H XE).nox (stOf sAp 1) _ := ps_ret (pe_cmpR (op_neD hr.units) (pe_callTy call_list_of (by rfl) ml boot_li (pa_cons (pe_slice (SlR.or sl_list sl_tupA) (pv 0) po_none (po_some (pv 2))) pa_nil)) (pe_callTy call_list_of (by rfl) ml boot_li (pa_cons (pe_slice (SlR.or sl_list sl_tupA) (pv 1) po_none (po_some (pv 2))) pa_nil)) (nomark _))
    refine ⟨_, PSs.nox (PSs.of_eq bdAp (pss_cons h0 (pss_one h1))), ?_⟩
    clear h0 h1
    obtain ⟨d1, t1, r1, e1, b1⟩ := hv
    obtain ⟨d2, t2, r2, e2, b2⟩ := hu
    have l1 : isL d1 = true := (Bool.and_eq_true_iff.mp (show (isL d1 && _) = true from r1)).1
    have l2 : isL d2 = true := (Bool.and_eq_true_iff.mp (show (isL d2 && _) = true from r2)).1
    obtain ⟨p1, xs1, rfl, q1, hx1⟩ := t1.seq (K := K) l1
    obtain ⟨p2, xs2, rfl, q2, hx2⟩ := t2.seq (K := K) l2
    have n1 : xs1.length = ns.length := by rw [q1.length, e1, List.length_map]
    have n2 : xs2.length = ms.length := by rw [q2.length, e2, List.length_map]
    refine ⟨.ref p1, rfl, p1, xs1, rfl, sl_of hx1, .ref p2, rfl, p2, xs2, rfl, sl_of hx2, _, _, rfl, ?_⟩
    have em : (if ((xs2.length : Nat) : Int) < ((xs1.length : Nat) : Int) then ((xs2.length : Nat) : Int) else ((xs1.length : Nat) : Int)) = ((min ns.length ms.length : Nat) : Int) := by
      rw [n1, n2]
      split <;> omega
    rw [em]
    have hk : apB ns ms = !decide (ns.take (min ns.length ms.length) = ms.take (min ns.length ms.length)) := rfl
    have m1 : min ns.length ms.length ≤ (its d1).length := by rw [e1, List.length_map]; omega
    have m2 : min ns.length ms.length ≤ (its d2).length := by rw [e2, List.length_map]; omega
    generalize min ns.length ms.length = m at hk m1 m2 ⊢
    have intsD : ∀ {H : Hp} {y : V} {d' : PyData} {zs : List Int}, Th H y d' → isL d' = true → its d' = zs.map PyData.int → ∃ p, y = .ref p ∧ (H p = some (.lst (zs.map V.int)) ∨ H p = some (.tup (zs.map V.int))) := fun t l e => by
      obtain ⟨p, ys, rfl, r, h⟩ := t.seq (K := K) l
      rw [e] at r
      rw [th_ints r] at h
      exact ⟨p, rfl, h⟩
    refine ⟨.ref p1, rfl, .int (m : Nat), rfl, m, rfl, th_cut t1 l1 m1 fun y1 G1 d1' S1 ty1 ly1 ey1 => ?_⟩
    obtain ⟨a1, rfl, z1⟩ := intsD (zs := ns.take m) ty1 ly1 (by rw [ey1, e1, List.map_take])
    refine ⟨a1, _, rfl, sl_of z1, fun c1 nc1 => ?_⟩
    have S2 := S1.trans (same_new (o := .lst ((ns.take m).map V.int)) nc1)
    refine ⟨.ref p2, rfl, .int (m : Nat), rfl, m, rfl, th_cut (t2.ext S2) l2 m2 fun y2 G2 d2' S3 ty2 ly2 ey2 => ?_⟩
    obtain ⟨a2, rfl, z2⟩ := intsD (zs := ms.take m) ty2 ly2 (by rw [ey2, e2, List.map_take])
    refine ⟨a2, _, rfl, sl_of z2, fun c2 nc2 => ?_⟩
    have S4 := same_new (o := .lst ((ms.take m).map V.int)) nc2
    refine ⟨.list ((ns.take m).map PyData.int), .list ((ms.take m).map PyData.int), .lst (.inl (.inl (S4 _ _ (S3 _ _ upd_same)))) (dpAll_int _), .lst (.inl (.inl upd_same)) (dpAll_int _), shaped_int _, shaped_int _, ?_⟩
    rw [eqv_il]
    rw [hk] at k
    exact k _ ((S2.trans S3).trans S4)
end
end K14.T27
namespace K14.T27
open PySem PySem.W PySem.Calls PyProof.Rows L2 LamX
open He (ga)
open Kz (small4 same_new boot_in boot_li boot_isi Has pe_has noE PSs.of_eq)
open K14.Gn
structure Bx where
  s : Str
  x : List Int
  y : List Int
def rowI (d : PyData) : List Int := (its d).map fun z => match z with | .int i => i | _ => 0
def bxOf (d : PyData) : Bx := match its d with
  | [.str s, r, t] => ⟨s, rowI r, rowI t⟩
  | _ => ⟨"", [], []⟩
def baB (b c : Bx) : Bool := !decide (b.s = c.s) || (apB b.x c.x || apB b.y c.y)
/-- a box, of rows that are not long -/
def GoodB (d : PyData) : Prop := isL d = true ∧ ∃ s r t, its d = [.str s, r, t] ∧ isR r = true ∧ isR t = true ∧ (its r).length ≤ 500 ∧ (its t).length ≤ 500
theorem row_of {H : Hp} {v : V} {d : PyData} (t : Th H v d) (r : isR d = true) (l : (its d).length ≤ 500) : RowV H v (rowI d) := by
  refine ⟨d, t, r, ?_, by unfold rowI; rw [List.length_map]; exact l⟩
  have a := (Bool.and_eq_true_iff.mp (show (isL d && (its d).all isF) = true from r)).2
  unfold rowI
  rw [List.map_map]
  have e : ∀ ds : List PyData, ds.all isF = true → ds = ds.map (PyData.int ∘ fun z => match z with | .int i => i | _ => 0) := by
    intro ds
    induction ds with
    | nil => intro _; rfl
    | cons z r ih =>
      intro h
      obtain ⟨h1, h2⟩ := Bool.and_eq_true_iff.mp (show (isF z && r.all isF) = true from h)
      rw [List.map_cons, ← ih h2]
      cases z with
      | int i => rfl
      | _ => exact absurd (show false = true from h1) Bool.false_ne_true
  exact e _ a
theorem good_parts {K : Frag} {H : Hp} {v : V} {d : PyData} (t : Th H v d) (g : GoodB d) : ∃ x y : V, RowV H x (bxOf d).x ∧ RowV H y (bxOf d).y ∧ (∀ Q : VK, Q (.str (bxOf d).s) H → rIx K v (.int 0) H Q) ∧ (∀ Q : VK, Q x H → rIx K v (.int 1) H Q) ∧ (∀ Q : VK, Q y H → rIx K v (.int 2) H Q) := by
  obtain ⟨l, s, r, t', e, r1, r2, l1, l2⟩ := g
  obtain ⟨x0, t0, i0⟩ := th_ix (K := K) (j := 0) t l (z := .str s) (by rw [e]; rfl)
  obtain ⟨x1, t1, i1⟩ := th_ix (K := K) (j := 1) t l (z := r) (by rw [e]; rfl)
  obtain ⟨x2, t2, i2⟩ := th_ix (K := K) (j := 2) t l (z := t') (by rw [e]; rfl)
  have eb : bxOf d = ⟨s, rowI r, rowI t'⟩ := by
    unfold bxOf
    rw [e]
  rw [eb]
  cases t0 with
  | str => exact ⟨x1, x2, row_of t1 r1 l1, row_of t2 r2 l2, i0, i1, i2⟩
abbrev sBp : Stmt := topS 20
abbrev sAa : Stmt := topS 22
abbrev sNb : Stmt := topS 23
theorem scBp : FnScope ["box", "other"] ["box", "other"] (defScope sBp) := ⟨rfl, rfl, rfl, by decide +kernel, rfl, by decide +kernel, by decide +kernel⟩
theorem scAa : FnScope ["box", "others", "other"] ["box", "others"] (defScope sAa) := ⟨rfl, rfl, rfl, by decide +kernel, rfl, by decide +kernel, by decide +kernel⟩
theorem scNb : FnScope ["ends", "thing", "ahead"] ["ends", "thing", "ahead"] (defScope sNb) := ⟨rfl, rfl, rfl, by decide +kernel, rfl, by decide +kernel, by decide +kernel⟩
theorem bdBp : defBody sBp = [stOf sBp 0] := by rfl
theorem bdAa : defBody sAa = [stOf sAa 0] := by rfl
theorem bdNb : defBody sNb = [stOf sNb 0] := by rfl
def scOfA1 : List Stmt → Scope
  | [.Return (some (.Call _ [.ListComp _ _ sc _] _ _)) _] => sc
  | _ => defScope sAa
def aaSc : Scope := scOfA1 (defBody sAa)
section
variable {P : Program} {w : World} {K : Frag} {mg : Str → Option Value} {base : Heap}
def spBp : Sp := fun vs H Q _ => ∃ (v u : V) (d e : PyData), vs = [v, u] ∧ Th H v d ∧ GoodB d ∧ Th H u e ∧ GoodB e ∧ ∀ H', L2.Same H H' → Q (.bl (baB (bxOf d) (bxOf e))) H'
theorem ok_bp {f : Addr} {fd : FuncData} (F : FunD K "boxes_apart" "boxes_apart" (defArgs sBp) (defBody sBp) (defScope sBp) [] [] f fd) (A1 : Has P w K mg base "are_apart" 1 ["row", "other"] spAp) : FnOk P w K mg base CX0 2 f fd ["box", "other"] spBp := by
  refine F.ok scBp (fun vs H Q E h => ?_) (fun cdv A outer s H vs Q XE hr h => ?_)
  · obtain ⟨v, u, d, e, rfl, _⟩ := h
    rfl
  · obtain ⟨v, u, d, e, rfl, hv, gd, hu, ge, k⟩ := h
    have h0 : PS (cxOf CX0 P w K mg base ["box", "other"] "boxes_apart" (defScope sBp) f cdv A outer s H XE).nox (stOf sBp 0) _ := ps_ret (pe_or (pe_cmpR op_ne (pe_ix ix_seq (pv 0) pe_int (fun _ _ => rfl)) (pe_ix ix_seq (pv 1) pe_int (fun _ _ => rfl)) (nomark _))
      (pe_or (pe_has A1 hr (by rfl) (pa_cons (pe_ix ix_seq (pv 0) pe_int (fun _ _ => rfl)) (pa_cons (pe_ix ix_seq (pv 1) pe_int (fun _ _ => rfl)) pa_nil)))
      (pe_one (pe_has A1 hr (by rfl) (pa_cons (pe_ix ix_seq (pv 0) pe_int (fun _ _ => rfl)) (pa_cons (pe_ix ix_seq (pv 1) pe_int (fun _ _ => rfl)) pa_nil))))))
    refine ⟨_, PSs.nox (PSs.of_eq bdBp (pss_one h0)), ?_⟩
    clear h0
    obtain ⟨x1, y1, rx1, ry1, i0, i1, i2⟩ := good_parts (K := K) hv gd
    obtain ⟨x2, y2, rx2, ry2, j0, j1, j2⟩ := good_parts (K := K) hu ge
    have eb : baB (bxOf d) (bxOf e) = (!decide ((bxOf d).s = (bxOf e).s) || (apB (bxOf d).x (bxOf e).x || apB (bxOf d).y (bxOf e).y)) := rfl
    rw [eb] at k
    refine ⟨v, rfl, i0 _ ⟨u, rfl, j0 _ ⟨rfl, _, rfl, ?_⟩⟩⟩
    by_cases es : (bxOf d).s = (bxOf e).s
    · have d1 : decide (V.str (bxOf d).s = V.str (bxOf e).s) = true := decide_eq_true (by rw [es])
      rw [d1]
      rw [decide_eq_true es] at k
      refine iteF ⟨v, rfl, i1 _ ⟨u, rfl, j1 _ ⟨x1, x2, _, _, rfl, rx1, rx2, fun H1 s1 => ⟨_, rfl, ?_⟩⟩⟩⟩
      cases q : apB (bxOf d).x (bxOf e).x with
      | true =>
        rw [q] at k
        exact iteT (k H1 s1)
      | false =>
        rw [q] at k
        obtain ⟨x3, y3, rx3, ry3, _, _, i5⟩ := good_parts (K := K) (hv.ext s1) gd
        obtain ⟨x4, y4, rx4, ry4, _, _, j5⟩ := good_parts (K := K) (hu.ext s1) ge
        exact iteF ⟨v, rfl, i5 _ ⟨u, rfl, j5 _ ⟨y3, y4, _, _, rfl, ry3, ry4, fun H2 s2 => k H2 (s1.trans s2)⟩⟩⟩
    · have d1 : decide (V.str (bxOf d).s = V.str (bxOf e).s) = false := decide_eq_false (fun y => es (V.str.inj y))
      rw [d1]
      rw [decide_eq_false es] at k
      exact iteT (k H (fun _ _ e => e))
def spAa : Sp := fun vs H Q _ => ∃ (v u : V) (d e : PyData), vs = [v, u] ∧ Th H v d ∧ GoodB d ∧ Th H u e ∧ isL e = true ∧ (its e).length ≤ 100000 ∧ (∀ z ∈ its e, GoodB z) ∧ ∀ H', L2.Same H H' → Q (.bl ((its e).all fun z => baB (bxOf d) (bxOf z))) H'
theorem ok_aa {f : Addr} {fd : FuncData} (F : FunD K "all_apart" "all_apart" (defArgs sAa) (defBody sAa) (defScope sAa) [] [] f fd) (N : NmK K mg) (B : Has P w K mg base "boxes_apart" 2 ["box", "other"] spBp) : FnOk P w K mg base CX0 3 f fd ["box", "others"] spAa := by
  refine F.ok scAa (fun vs H Q E h => ?_) (fun cdv A outer s H vs Q XE hr h => ?_)
  · obtain ⟨v, u, d, e, rfl, _⟩ := h
    rfl
  · obtain ⟨v, u, d, e, rfl, hv, gd, hu, le, ln, ge, k⟩ := h
    have h0 : PS (cxOf CX0 P w K mg base ["box", "others", "other"] "all_apart" (defScope sAa) f cdv A outer s H XE).nox (stOf sAa 0) _ := ps_ret (pe_callB (cr_all rfl) (by rfl) N.all boot_all (pa_cons (pe_lc (X := (cxOf CX0 P w K mg base ["box", "others", "other"] "all_apart" (defScope sAa) f cdv A outer s H XE).nox) (scope := aaSc) (own := [("other", 2)]) (g := gName 2) (tt := tYes) (te := tCall spBp [] noE (tCons (tVar 0) (tCons (tVar 2) tNil))) rfl scAa.nd
      (pi_sq (pv 1)) (blkOk_by (N := ["box", "others", "other"]) (sc := defScope sAa) (by decide +kernel)) (fun _ _ _ _ _ => pg_name (i := 2) scAa.nd rfl (Or.inl rfl)) (fun _ _ _ _ _ => pts_nil)
      (fun s0 H0 C0 cl0 fp0 => pe_has (X := Cx.blk ((cxOf CX0 P w K mg base ["box", "others", "other"] "all_apart" (defScope sAa) f cdv A outer s H XE).nox) s0 H0 aaSc (compEnvC aaSc cl0 C0 (Cx.env ((cxOf CX0 P w K mg base ["box", "others", "other"] "all_apart" (defScope sAa) f cdv A outer s H XE).nox))) fp0) B hr (by rfl) (pa_cons (pv 0) (pa_cons (pv 2) pa_nil)))) pa_nil))
    refine ⟨_, PSs.nox (PSs.of_eq bdAa (pss_one h0)), ?_⟩
    clear h0
    show tCB _ _ _ _ _
    refine lc_all (v := u) (d := e) (fun z => baB (bxOf d) (bxOf z)) (fun R h => ⟨u, rfl, h⟩) hu le ln (fun x => rfl) (fun j z x G Q' hz S tz kk => ?_) (fun G S => k G S)
    exact ⟨v, rfl, x, rfl, v, x, d, z, rfl, hv.ext S, gd, tz, ge z (List.mem_of_getElem? hz), fun G' S' => kk G' S'⟩
def newB (ns : List Str) (d : PyData) (as : List PyData) : Bool := boxB ns d && as.all fun z => baB (bxOf d) (bxOf z)
theorem box_good {ns : List Str} {d : PyData} (h : boxB ns d = true) (b : ∀ x ∈ its d, (its x).length ≤ 500) : GoodB d := by
  obtain ⟨h1, h2⟩ := Bool.and_eq_true_iff.mp (show (isL d && _) = true from h)
  refine ⟨h1, ?_⟩
  split at h2
  · rename_i s r t q
    obtain ⟨a1, a2⟩ := Bool.and_eq_true_iff.mp h2
    obtain ⟨a3, a4⟩ := Bool.and_eq_true_iff.mp a2
    exact ⟨s, r, t, q, a3, a4, b r (by rw [q]; simp), b t (by rw [q]; simp)⟩
  · cases h2
def spNb : Sp := fun vs H Q _ => ∃ (ve v u : V) (ns : List Str) (d e : PyData), vs = [ve, v, u] ∧ EndsS H ve ns ∧ Th H v d ∧ (its d).length ≤ 100000 ∧ (∀ x ∈ its d, (its x).length ≤ 500) ∧ Th H u e ∧ isL e = true ∧ (its e).length ≤ 100000 ∧ (∀ z ∈ its e, GoodB z) ∧ ∀ H', L2.Same H H' → Q (.bl (newB ns d (its e))) H'
theorem ok_nb {f : Addr} {fd : FuncData} (F : FunD K "is_new_box" "is_new_box" (defArgs sNb) (defBody sNb) (defScope sNb) [] [] f fd) (B : Has P w K mg base "is_box_at" 4 ["ends", "thing"] spBa) (A1 : Has P w K mg base "all_apart" 3 ["box", "others"] spAa) : FnOk P w K mg base CX0 5 f fd ["ends", "thing", "ahead"] spNb := by
  refine F.ok scNb (fun vs H Q E h => ?_) (fun cdv A outer s H vs Q XE hr h => ?_)
  · obtain ⟨ve, v, u, ns, d, e, rfl, _⟩ := h
    rfl
  · obtain ⟨ve, v, u, ns, d, e, rfl, hE, hv, b1, b2, hu, le, ln, ge, k⟩ := h
    have h0 : PS (cxOf CX0 P w K mg base ["ends", "thing", "ahead"] "is_new_box" (defScope sNb) f cdv A outer s H XE).nox (stOf sNb 0) _ := ps_ret (pe_and (pe_has B hr (by rfl) (pa_cons (pv 0) (pa_cons (pv 1) pa_nil))) (pe_one (pe_has A1 (hr.mono (by decide)) (by rfl) (pa_cons (pv 1) (pa_cons (pv 2) pa_nil)))))
    refine ⟨_, PSs.nox (PSs.of_eq bdNb (pss_one h0)), ?_⟩
    clear h0
    refine ⟨ve, rfl, v, rfl, ve, v, ns, d, rfl, hE, hv, ⟨b1, fun x hx => Nat.le_trans (b2 x hx) (by decide)⟩, fun H1 s1 => ⟨_, rfl, ?_⟩⟩
    have en : newB ns d (its e) = (boxB ns d && (its e).all fun z => baB (bxOf d) (bxOf z)) := rfl
    rw [en] at k
    cases q : boxB ns d with
    | false =>
      rw [q] at k
      exact iteF (k H1 s1)
    | true =>
      rw [q] at k
      exact iteT ⟨v, rfl, u, rfl, v, u, d, e, rfl, hv.ext s1, box_good q b2, hu.ext s1, le, ln, ge, fun H2 s2 => k H2 (s1.trans s2)⟩
end
end K14.T27
namespace K14.T27
open PySem PySem.W PySem.Calls PyProof.Rows L2 LamX
open He (ga)
open Kz (small4 same_new boot_in boot_li boot_isi Has pe_has noE PSs.of_eq)
open K14.Gn
open StX
/-! ### pairs of boxes -/
/-- lists within lists, none of them long -/
def Sz : Nat → PyData → Prop
  | 0, d => (its d).length ≤ 500
  | n + 1, d => (its d).length ≤ 500 ∧ ∀ z ∈ its d, Sz n z
def pairB (ns : List Str) (d : PyData) (as : List PyData) : Bool := isL d && (match its d with
  | [a, b] => newB ns a as && newB ns b (as ++ [a])
  | _ => false)
def GoodP (d : PyData) : Prop := isL d = true ∧ ∃ a b, its d = [a, b] ∧ GoodB a ∧ GoodB b
abbrev sNp : Stmt := topS 24
abbrev sBi : Stmt := topS 25
theorem scNp : FnScope ["ends", "thing", "ahead"] ["ends", "thing", "ahead"] (defScope sNp) := ⟨rfl, rfl, rfl, by decide +kernel, rfl, by decide +kernel, by decide +kernel⟩
theorem scBi : FnScope ["table", "boxes", "pair"] ["table"] (defScope sBi) := ⟨rfl, rfl, rfl, by decide +kernel, rfl, by decide +kernel, by decide +kernel⟩
theorem bdNp : defBody sNp = [stOf sNp 0, stOf sNp 1] := by rfl
theorem bdBi : defBody sBi = [stOf sBi 0, stOf sBi 1, stOf sBi 2] := by rfl
theorem th_app {H : Hp} : ∀ {x1 x2 : List V} {d1 d2 : List PyData}, ThAll H x1 d1 → ThAll H x2 d2 → ThAll H (x1 ++ x2) (d1 ++ d2)
  | [], _, _, _, h1, h2 => by cases h1; exact h2
  | _ :: _, _, _, _, h1, h2 => by cases h1 with | cons a b => exact .cons a (th_app b h2)
section
variable {P : Program} {w : World} {K : Frag} {mg : Str → Option Value} {base : Heap}
def spNp : Sp := fun vs H Q _ => ∃ (ve v u : V) (ns : List Str) (d e : PyData), vs = [ve, v, u] ∧ EndsS H ve ns ∧ Th H v d ∧ Sz 2 d ∧ Th H u e ∧ isL e = true ∧ (its e).length ≤ 5000 ∧ (∀ z ∈ its e, GoodB z) ∧ ∀ H', L2.Same H H' → Q (.bl (pairB ns d (its e))) H'
theorem ok_np {f : Addr} {fd : FuncData} (F : FunD K "is_new_pair" "is_new_pair" (defArgs sNp) (defBody sNp) (defScope sNp) [] [] f fd) (PL : Has P w K mg base "is_pair" 2 ["thing"] (spLook isP)) (B : Has P w K mg base "is_new_box" 5 ["ends", "thing", "ahead"] spNb) : FnOk P w K mg base CX0 6 f fd ["ends", "thing", "ahead"] spNp := by
  refine F.ok scNp (fun vs H Q E h => ?_) (fun cdv A outer s H vs Q XE hr h => ?_)
  · obtain ⟨ve, v, u, ns, d, e, rfl, _⟩ := h
    rfl
  · obtain ⟨ve, v, u, ns, d, e, rfl, hE, hv, sz, hu, le, ln, ge, k⟩ := h
    have h0 : PS (cxOf CX0 P w K mg base ["ends", "thing", "ahead"] "is_new_pair" (defScope sNp) f cdv A outer s H XE).nox (stOf sNp 0) _ := ps_if (PW.pt (pw_or (pt_not (pt_val (pe_has PL (hr.mono (by decide)) (by rfl) (pa_cons (pv 1) pa_nil)))) (pw_or1 (pt_not (pt_val (pe_has B hr (by rfl) (pa_cons (pv 0) (pa_cons (pe_ix ix_seq (pv 1) pe_int (fun _ _ => rfl)) (pa_cons (pv 2) pa_nil))))))))) (pss_one (ps_ret pe_bl)) pss_nil
    have h1 : PS (cxOf CX0 P w K mg base ["ends", "thing", "ahead"] "is_new_pair" (defScope sNp) f cdv A outer s H XE).nox (stOf sNp 1) _ := ps_ret (pe_has B hr (by rfl) (pa_cons (pv 0) (pa_cons (pe_ix ix_seq (pv 1) pe_int (fun _ _ => rfl)) (pa_cons (pe_lst (pa_star (pv 2) (pa_cons (pe_ix ix_seq (pv 1) pe_int (fun _ _ => rfl)) pa_nil))) pa_nil))))
    refine ⟨_, PSs.nox (PSs.of_eq bdNp (pss_cons h0 (pss_one h1))), ?_⟩
    clear h0 h1
    refine ⟨v, rfl, v, d, rfl, hv, fun H1 s1 => ⟨isP d, rfl, ?_⟩⟩
    cases q : isP d with
    | false =>
      refine iteT (iteT ?_)
      have eb : pairB ns d (its e) = false := by
        unfold pairB
        cases l : isL d with
        | false => rfl
        | true =>
          unfold isP at q
          rw [l, Bool.true_and] at q
          have nl := of_decide_eq_false q
          split
          · rename_i qq
            rw [qq] at nl
            exact absurd rfl nl
          · rfl
      have kk := k H1 s1
      rw [eb] at kk
      exact kk
    | true =>
      obtain ⟨l, l2⟩ := Bool.and_eq_true_iff.mp (show (isL d && decide ((its d).length = 2)) = true from q)
      have l2 := of_decide_eq_true l2
      obtain ⟨a, b, ed⟩ : ∃ a b, its d = [a, b] := by
        match its d, l2 with
        | [a, b], _ => exact ⟨a, b, rfl⟩
      have sa : Sz 1 a := sz.2 a (by rw [ed]; simp)
      have sb : Sz 1 b := sz.2 b (by rw [ed]; simp)
      have eb : pairB ns d (its e) = (newB ns a (its e) && newB ns b (its e ++ [a])) := by
        unfold pairB
        rw [l, ed]
        rfl
      rw [eb] at k
      obtain ⟨x0, t0, i0⟩ := th_ix (K := K) (j := 0) (hv.ext s1) l (z := a) (by rw [ed]; rfl)
      refine iteF ⟨ve, rfl, v, rfl, i0 _ ⟨u, rfl, ve, x0, u, ns, a, e, rfl, hE.ext s1, t0, (by have := sa.1; omega), (fun x hx => sa.2 x hx), hu.ext s1, le, (by omega), ge, fun H2 s2 => ⟨_, rfl, ?_⟩⟩⟩
      have S2 := s1.trans s2
      cases qa : newB ns a (its e) with
      | false =>
        rw [qa] at k
        exact iteT (k H2 S2)
      | true =>
        rw [qa] at k
        refine iteF ?_
        obtain ⟨y0, u0, j0⟩ := th_ix (K := K) (j := 0) (hv.ext S2) l (z := a) (by rw [ed]; rfl)
        obtain ⟨y1, u1, j1⟩ := th_ix (K := K) (j := 1) (hv.ext S2) l (z := b) (by rw [ed]; rfl)
        obtain ⟨pe, xe, rfl, re, qe⟩ := (hu.ext S2).seq (K := K) le
        have lxe := re.length
        refine ⟨ve, rfl, v, rfl, j1 _ ⟨.ref pe, rfl, pe, xe, rfl, (sl_of qe).symm, v, rfl, j0 _ ⟨?_, fun pn npn => ?_⟩⟩⟩
        · rw [List.length_append, sizeLine_eq]
          show xe.length + 1 ≤ _
          omega
        have s3 := same_new (o := .lst (xe ++ [y0])) npn
        have ga' : GoodB a := box_good (Bool.and_eq_true_iff.mp (show (boxB ns a && _) = true from qa)).1 (fun x hx => sa.2 x hx)
        have ln1 : (its (.list (its e ++ [a]))).length ≤ 100000 := by
          show (its e ++ [a]).length ≤ _
          rw [List.length_append]
          show (its e).length + 1 ≤ _
          omega
        have gs : ∀ z ∈ its (.list (its e ++ [a])), GoodB z := fun z hz => by
          have hz : z ∈ its e ++ [a] := hz
          rcases List.mem_append.mp hz with hz | hz
          · exact ge z hz
          · rw [List.mem_singleton.mp hz]
            exact ga'
        have sb1 := sb.1
        exact ⟨ve, y1, .ref pn, ns, b, .list (its e ++ [a]), rfl, (hE.ext S2).ext s3, u1.ext s3, (by omega), (fun x hx => sb.2 x hx), .lst upd_same (th_app (re.ext s3) (.cons (u0.ext s3) .nil)), rfl, ln1, gs, fun H4 s4 => k H4 ((S2.trans s3).trans s4)⟩
end
end K14.T27
namespace K14.T27
open PySem PySem.W PySem.Calls PyProof.Rows L2 LamX
open He (ga)
open Kz (small4 same_new boot_in boot_li boot_isi Has pe_has noE PSs.of_eq)
open K14.Gn
open StX
theorem th_ixS {K : Frag} {H : Hp} {v : V} {d z : PyData} {j : Nat} (t : Th H v d) (l : isL d = true) (h : (its d)[j]? = some z) : ∃ x, Th H x z ∧ ∀ G, L2.Same H G → ∀ Q : VK, Q x G → rIx K v (.int (j : Nat)) G Q := by
  obtain ⟨a, xs, rfl, r, hx⟩ := t.seq (K := K) l
  have jl : j < xs.length := by
    rw [r.length]
    exact (List.getElem?_eq_some_iff.mp h).1
  obtain ⟨z', hz', tz⟩ := r.get (List.getElem?_eq_getElem jl)
  rw [h] at hz'
  obtain rfl := Option.some.inj hz'
  refine ⟨_, tz, fun G e Q q => ?_⟩
  rcases hx with hx | hx
  · exact .inl ⟨a, xs, _, _, rfl, rfl, .inl (.inl (e _ _ hx)), atI_nat (j := j) (List.getElem?_eq_getElem jl), q⟩
  · exact .inr (.inl ⟨a, xs, _, _, rfl, rfl, .inl (.inl (e _ _ hx)), atI_nat (j := j) (List.getElem?_eq_getElem jl), q⟩)
/-- the boxes of pairs -/
def bxs (ds : List PyData) : List PyData := ds.flatMap its
section
variable {P : Program} {w : World} {K : Frag} {mg : Str → Option Value} {base : Heap}
def spBi : Sp := fun vs H Q _ => ∃ (v : V) (d : PyData), vs = [v] ∧ Th H v d ∧ isL d = true ∧ (its d).length ≤ 500 ∧ (∀ z ∈ its d, GoodP z) ∧ ∀ (H' : Hp) (p : Addr), L2.Same H H' → Th H' (.ref p) (.list (bxs (its d))) → Q (.ref p) H'
theorem ok_bi {f : Addr} {fd : FuncData} (F : FunD K "boxes_in" "boxes_in" (defArgs sBi) (defBody sBi) (defScope sBi) [] [] f fd) : FnOk P w K mg base CX0 1 f fd ["table"] spBi := by
  refine F.ok scBi (fun vs H Q E h => ?_) (fun cdv A outer s H vs Q XE hr h => ?_)
  · obtain ⟨v, d, rfl, _⟩ := h
    rfl
  · obtain ⟨v, d, rfl, hv, l, ln, gp, k⟩ := h
    have h0 : PS (cxOf CX0 P w K mg base ["table", "boxes", "pair"] "boxes_in" (defScope sBi) f cdv A outer s H XE).nox (stOf sBi 0) _ := ps_set (i := 1) scBi.nd rfl (.inl rfl) (pe_lst pa_nil)
    have b0 : PS (cxOf CX0 P w K mg base ["table", "boxes", "pair"] "boxes_in" (defScope sBi) f cdv A outer s H XE).nox ((forBody (stOf sBi 1)).getD 0 (.Pass ⟨0, 0, 0, 0⟩)) _ := ps_expr (pe_bm PySem.F.plainAttrs_list PySem.F.slot_list_extend PySem.F.type_list_extend mt_extend (pv 1) (pa_cons (pe_lst (pa_cons (pe_ix ix_seq (pv 2) pe_int (fun _ _ => rfl)) (pa_cons (pe_ix ix_seq (pv 2) pe_int (fun _ _ => rfl)) pa_nil))) pa_nil))
    have bd2 : forBody (stOf sBi 1) = [(forBody (stOf sBi 1)).getD 0 (.Pass ⟨0, 0, 0, 0⟩)] := by rfl
    have h1 : PS (cxOf CX0 P w K mg base ["table", "boxes", "pair"] "boxes_in" (defScope sBi) f cdv A outer s H XE).nox (stOf sBi 1) _ := ps_for PassesOwn.never rfl (pi_sq (pv 0)) (pg_name (i := 2) scBi.nd rfl (.inl rfl)) (PSs.of_eq bd2 (pss_one b0))
    have h2 : PS (cxOf CX0 P w K mg base ["table", "boxes", "pair"] "boxes_in" (defScope sBi) f cdv A outer s H XE).nox (stOf sBi 2) _ := ps_ret (pv 1)
    refine ⟨_, PSs.nox (PSs.of_eq bdBi (pss_cons h0 (pss_cons h1 (pss_one h2)))), ?_⟩
    clear h0 h1 h2 b0
    refine ⟨Nat.zero_le _, fun p np => ?_⟩
    refine gset ?_
    refine nx_intro ?_
    refine for_sqS (H0 := H) (v := v) (d := d) (i := 2) (fun R h => ⟨v, rfl, h⟩) hv l (fun j σ G => ∃ (a2 : Option V) (ys : List V), σ = [some v, some (.ref p), a2] ∧ L2.Same H G ∧ G p = some (.lst ys) ∧ ThAll H ys (bxs ((its d).take j)) ∧ ys.length = 2 * j) ⟨none, [], rfl, same_new np, upd_same, .nil, rfl⟩ (fun j σ G e => ?_) (fun j z x σ' G hz tx t0 e => ?_) (fun σ G e => ?_)
    · obtain ⟨_, _, _, e, _⟩ := e
      exact e
    · obtain ⟨a2, ys, rfl, S, hp, hy, ly⟩ := e
      have jl : j < (its d).length := (List.getElem?_eq_some_iff.mp hz).1
      obtain ⟨lz, a, b, ez, _, _⟩ := gp z (List.mem_of_getElem? hz)
      obtain ⟨xa, ta, ia⟩ := th_ixS (K := K) (j := 0) t0 lz (z := a) (by rw [ez]; rfl)
      obtain ⟨xb, tb, ib⟩ := th_ixS (K := K) (j := 1) t0 lz (z := b) (by rw [ez]; rfl)
      refine ⟨.ref p, rfl, .inl ⟨rfl, _, .inl (.inl hp)⟩, x, rfl, ia G S _ ⟨x, rfl, ib G S _ ⟨small4 2, fun pn npn => ⟨p, pn, ys, [xa, xb], rfl, rfl, same_new npn _ _ hp, upd_same, ?_, ?_⟩⟩⟩⟩
      · rw [ly, sizeLine_eq]
        show 2 * j + 2 ≤ _
        omega
      · refine ⟨_, ys ++ [xa, xb], rfl, fun c o hc => ?_, upd_same, ?_, by rw [List.length_append, ly]; show 2 * j + 2 = _; omega⟩
        · rw [upd_ne (ne_of_none hc np)]
          exact same_new npn _ _ (S _ _ hc)
        · have et : (its d).take (j + 1) = (its d).take j ++ [z] := by
            rw [List.take_add_one, hz]
            rfl
          unfold bxs at hy ⊢
          rw [et, List.flatMap_append]
          refine th_app hy ?_
          show ThAll H _ ([z].flatMap its)
          rw [List.flatMap_cons, List.flatMap_nil, List.append_nil, ez]
          exact .cons ta (.cons tb .nil)
    · obtain ⟨a2, ys, rfl, S, hp, hy, ly⟩ := e
      rw [List.take_length] at hy
      exact ⟨.ref p, rfl, k G p S (.lst hp (hy.ext S))⟩
end
end K14.T27
namespace K14.T27
open PySem PySem.W PySem.Calls PyProof.Rows L2 LamX
open He (ga)
open Kz (small4 same_new boot_in boot_li boot_isi Has pe_has noE PSs.of_eq)
open K14.Gn
open StX
def fnpL (ns : List Str) : List PyData → List PyData → Nat → Option Nat
  | _, [], _ => none
  | acc, z :: r, j => if pairB ns z acc = true then fnpL ns (acc ++ its z) r (j + 1) else some j
def fnpB (ns : List Str) (d : PyData) : Option Nat := if isL d = true then fnpL ns [] (its d) 0 else some 0
def fnsL (ns : List Str) : List PyData → List PyData → Nat → Option Nat
  | _, [], _ => none
  | acc, z :: r, j => if newB ns z acc = true then fnsL ns (acc ++ [z]) r (j + 1) else some j
def fnsB (ns : List Str) (acc : List PyData) (d : PyData) : Option Nat := if isL d = true then fnsL ns acc (its d) 0 else some 0
theorem new_good {ns : List Str} {z : PyData} {as : List PyData} (h : newB ns z as = true) (s : Sz 1 z) : GoodB z := box_good (Bool.and_eq_true_iff.mp (show (boxB ns z && _) = true from h)).1 fun x hx => s.2 x hx
theorem pair_good {ns : List Str} {z : PyData} {as : List PyData} (h : pairB ns z as = true) (s : Sz 2 z) : GoodP z := by
  obtain ⟨h1, h2⟩ := Bool.and_eq_true_iff.mp (show (isL z && _) = true from h)
  refine ⟨h1, ?_⟩
  split at h2
  · rename_i a b q
    obtain ⟨h3, h4⟩ := Bool.and_eq_true_iff.mp h2
    exact ⟨a, b, q, new_good h3 (s.2 a (by rw [q]; simp)), new_good h4 (s.2 b (by rw [q]; simp))⟩
  · cases h2
abbrev sFp : Stmt := topS 26
abbrev sFs : Stmt := topS 27
theorem scFp : FnScope ["ends", "table", "at", "pair"] ["ends", "table"] (defScope sFp) := ⟨rfl, rfl, rfl, by decide +kernel, rfl, by decide +kernel, by decide +kernel⟩
theorem scFs : FnScope ["ends", "boxes", "shut", "at", "box"] ["ends", "boxes", "shut"] (defScope sFs) := ⟨rfl, rfl, rfl, by decide +kernel, rfl, by decide +kernel, by decide +kernel⟩
theorem bdFp : defBody sFp = [stOf sFp 0, stOf sFp 1, stOf sFp 2] := by rfl
theorem bdFs : defBody sFs = [stOf sFs 0, stOf sFs 1, stOf sFs 2] := by rfl
theorem bxs_len {ds : List PyData} (g : ∀ z ∈ ds, GoodP z) : (bxs ds).length = 2 * ds.length := by
  induction ds with
  | nil => rfl
  | cons z r ih =>
    obtain ⟨_, a, b, e, _⟩ := g z (List.mem_cons_self ..)
    unfold bxs at ih ⊢
    rw [List.flatMap_cons, List.length_append, ih fun y hy => g y (List.mem_cons_of_mem _ hy), e]
    simp
    omega
theorem bxs_good {ds : List PyData} (g : ∀ z ∈ ds, GoodP z) : ∀ b ∈ bxs ds, GoodB b := fun b hb => by
  obtain ⟨z, hz, hb⟩ := List.mem_flatMap.mp hb
  obtain ⟨_, a, c, e, ga, gc⟩ := g z hz
  rw [e] at hb
  simp only [List.mem_cons, List.not_mem_nil, or_false] at hb
  rcases hb with rfl | rfl
  · exact ga
  · exact gc
section
variable {P : Program} {w : World} {K : Frag} {mg : Str → Option Value} {base : Heap}
def spFp : Sp := fun vs H Q _ => ∃ (ve v : V) (ns : List Str) (d : PyData), vs = [ve, v] ∧ EndsS H ve ns ∧ Th H v d ∧ Sz 3 d ∧ ∀ H', L2.Same H H' → Q (oV (fnpB ns d)) H'
theorem ok_fp {f : Addr} {fd : FuncData} (F : FunD K "first_no_pair" "first_no_pair" (defArgs sFp) (defBody sFp) (defScope sFp) [] [] f fd) (N : NmK K mg) (L : Has P w K mg base "is_list" 1 ["thing"] (spLook isL)) (M : Has P w K mg base "is_new_pair" 6 ["ends", "thing", "ahead"] spNp) (B : Has P w K mg base "boxes_in" 1 ["table"] spBi) : FnOk P w K mg base CX0 7 f fd ["ends", "table"] spFp := by
  refine F.ok scFp (fun vs H Q E h => ?_) (fun cdv A outer s H vs Q XE hr h => ?_)
  · obtain ⟨ve, v, ns, d, rfl, _⟩ := h
    rfl
  · obtain ⟨ve, v, ns, d, rfl, hE, hv, sz, k⟩ := h
    have h0 : PS (cxOf CX0 P w K mg base ["ends", "table", "at", "pair"] "first_no_pair" (defScope sFp) f cdv A outer s H XE).nox (stOf sFp 0) _ := ps_if (pt_not (pt_val (pe_has L (hr.mono (by decide)) (by rfl) (pa_cons (pv 1) pa_nil)))) (pss_one (ps_ret pe_int)) pss_nil
    have bd2 : forBody (stOf sFp 1) = [(forBody (stOf sFp 1)).getD 0 (.Pass ⟨0, 0, 0, 0⟩)] := by rfl
    have b0 : PS (cxOf CX0 P w K mg base ["ends", "table", "at", "pair"] "first_no_pair" (defScope sFp) f cdv A outer s H XE).nox ((forBody (stOf sFp 1)).getD 0 (.Pass ⟨0, 0, 0, 0⟩)) _ := ps_if (pt_not (pt_val (pe_has M hr (by rfl) (pa_cons (pv 0) (pa_cons (pv 3) (pa_cons (pe_has B (hr.mono (by decide)) (by rfl) (pa_cons (pe_slice (SlR.or sl_list sl_tupA) (pv 1) po_none (po_some (pv 2))) pa_nil)) pa_nil)))))) (pss_one (ps_ret (pv 2))) pss_nil
    have h1 : PS (cxOf CX0 P w K mg base ["ends", "table", "at", "pair"] "first_no_pair" (defScope sFp) f cdv A outer s H XE).nox (stOf sFp 1) _ := ps_for PassesOwn.never rfl (EnT.pi_enB (by rfl) N.enu (pa_cons (pv 1) pa_nil)) (pg_tup (n := 2) rfl (pgs_cons (pg_name (i := 2) scFp.nd rfl (.inl rfl)) (pgs_cons (pg_name (i := 3) scFp.nd rfl (.inl rfl)) pgs_nil))) (PSs.of_eq bd2 (pss_one b0))
    have h2 : PS (cxOf CX0 P w K mg base ["ends", "table", "at", "pair"] "first_no_pair" (defScope sFp) f cdv A outer s H XE).nox (stOf sFp 2) _ := ps_ret pe_non
    refine ⟨_, PSs.nox (PSs.of_eq bdFp (pss_cons h0 (pss_cons h1 (pss_one h2)))), ?_⟩
    clear h0 h1 h2 b0
    refine ⟨v, rfl, v, d, rfl, hv, fun H1 s1 => ⟨isL d, rfl, ?_⟩⟩
    cases l : isL d with
    | false =>
      refine iteT ?_
      have kk := k H1 s1
      unfold fnpB at kk
      rw [l] at kk
      exact kk
    | true =>
      have kf : ∀ G, L2.Same H1 G → Q (oV (fnpL ns [] (its d) 0)) G := fun G e => by
        have kk := k G (s1.trans e)
        unfold fnpB at kk
        rw [l] at kk
        exact kk
      refine iteF (nx_intro ?_)
      refine for_enS (H0 := H1) (v := v) (d := d) (i1 := 2) (i2 := 3) (fun R h => ⟨v, rfl, h⟩) (hv.ext s1) l (fun j σ G => ∃ (a2 a3 : Option V), σ = [some ve, some v, a2, a3] ∧ L2.Same H1 G ∧ (∀ z ∈ (its d).take j, GoodP z) ∧ fnpL ns [] (its d) 0 = fnpL ns (bxs ((its d).take j)) ((its d).drop j) j)
        ⟨none, none, rfl, fun _ _ e => e, fun z h => absurd h (by simp), rfl⟩ (fun j σ G e => ?_) (fun j z x σ' G hz tx e G' e' => ?_) (fun σ G e => ?_)
      · obtain ⟨_, _, _, e, _⟩ := e
        exact e
      · obtain ⟨a2, a3, rfl, S, gs, hf⟩ := e
        have jl : j < (its d).length := (List.getElem?_eq_some_iff.mp hz).1
        have mz := List.mem_of_getElem? hz
        have s3 := sz.1
        rw [drop_get hz] at hf
        have S' := S.trans e'
        refine ⟨ve, rfl, x, rfl, v, rfl, .int (j : Nat), rfl, j, rfl, th_cut ((hv.ext s1).ext S') l (by omega) fun y G2 d' S2 ty ly ey => ?_⟩
        have gs' : ∀ z ∈ its d', GoodP z := by rw [ey]; exact gs
        refine ⟨y, d', rfl, ty, ly, (by rw [ey, List.length_take]; omega), gs', fun G3 p S3 tp => ?_⟩
        rw [ey] at tp
        have S4 := S2.trans S3
        have lb : (its (.list (bxs ((its d).take j)))).length ≤ 5000 := by
          show (bxs ((its d).take j)).length ≤ _
          rw [bxs_len gs, List.length_take]
          omega
        refine ⟨ve, x, .ref p, ns, z, .list (bxs ((its d).take j)), rfl, ((hE.ext s1).ext S').ext S4, (tx.ext e').ext S4, sz.2 z mz, tp, rfl, lb, bxs_good gs, fun G5 S5 => ⟨_, rfl, ?_⟩⟩
        have SS := (S'.trans S4).trans S5
        have ef : fnpL ns (bxs ((its d).take j)) (z :: (its d).drop (j + 1)) j = if pairB ns z (bxs ((its d).take j)) = true then fnpL ns (bxs ((its d).take j) ++ its z) ((its d).drop (j + 1)) (j + 1) else some j := rfl
        rw [ef] at hf
        show (if (!pairB ns z (bxs ((its d).take j))) = true then _ else _)
        cases q : pairB ns z (bxs ((its d).take j)) with
        | false =>
          rw [q] at hf
          refine iteT ⟨.int (j : Nat), rfl, ?_⟩
          have kk := kf G5 SS
          rw [hf] at kk
          exact kk
        | true =>
          rw [q, if_pos rfl] at hf
          have et : (its d).take (j + 1) = (its d).take j ++ [z] := by
            rw [List.take_add_one, hz]
            rfl
          refine iteF ⟨_, _, rfl, SS, fun y hy => ?_, ?_⟩
          · rw [et] at hy
            rcases List.mem_append.mp hy with hy | hy
            · exact gs y hy
            · rw [List.mem_singleton.mp hy]
              exact pair_good q (sz.2 z mz)
          · rw [hf, et]
            unfold bxs
            rw [List.flatMap_append, List.flatMap_cons, List.flatMap_nil, List.append_nil]
      · obtain ⟨a2, a3, rfl, S, gs, hf⟩ := e
        rw [List.drop_length] at hf
        have kk := kf G S
        rw [hf] at kk
        exact kk
end
end K14.T27
namespace K14.T27
open PySem PySem.W PySem.Calls PyProof.Rows L2 LamX
open He (ga)
open Kz (small4 same_new boot_in boot_li boot_isi Has pe_has noE PSs.of_eq)
open K14.Gn
open StX
abbrev sIt : Stmt := topS 29
theorem scIt : FnScope ["ends", "table", "shut"] ["ends", "table", "shut"] (defScope sIt) := ⟨rfl, rfl, rfl, by decide +kernel, rfl, by decide +kernel, by decide +kernel⟩
theorem bdIt : defBody sIt = [stOf sIt 0, stOf sIt 1] := by rfl
section
variable {P : Program} {w : World} {K : Frag} {mg : Str → Option Value} {base : Heap}
def spFs : Sp := fun vs H Q _ => ∃ (ve u v : V) (ns : List Str) (e d : PyData), vs = [ve, u, v] ∧ EndsS H ve ns ∧ Th H u e ∧ isL e = true ∧ (its e).length ≤ 1000 ∧ (∀ z ∈ its e, GoodB z) ∧ Th H v d ∧ Sz 2 d ∧ ∀ H', L2.Same H H' → Q (oV (fnsB ns (its e) d)) H'
theorem ok_fs {f : Addr} {fd : FuncData} (F : FunD K "first_not_shut" "first_not_shut" (defArgs sFs) (defBody sFs) (defScope sFs) [] [] f fd) (N : NmK K mg) (L : Has P w K mg base "is_list" 1 ["thing"] (spLook isL)) (M : Has P w K mg base "is_new_box" 5 ["ends", "thing", "ahead"] spNb) : FnOk P w K mg base CX0 6 f fd ["ends", "boxes", "shut"] spFs := by
  refine F.ok scFs (fun vs H Q E h => ?_) (fun cdv A outer s H vs Q XE hr h => ?_)
  · obtain ⟨ve, u, v, ns, e, d, rfl, _⟩ := h
    rfl
  · obtain ⟨ve, u, v, ns, e, d, rfl, hE, hu, le, ln, ge, hv, sz, k⟩ := h
    have h0 : PS (cxOf CX0 P w K mg base ["ends", "boxes", "shut", "at", "box"] "first_not_shut" (defScope sFs) f cdv A outer s H XE).nox (stOf sFs 0) _ := ps_if (pt_not (pt_val (pe_has L (hr.mono (by decide)) (by rfl) (pa_cons (pv 2) pa_nil)))) (pss_one (ps_ret pe_int)) pss_nil
    have bd2 : forBody (stOf sFs 1) = [(forBody (stOf sFs 1)).getD 0 (.Pass ⟨0, 0, 0, 0⟩)] := by rfl
    have b0 : PS (cxOf CX0 P w K mg base ["ends", "boxes", "shut", "at", "box"] "first_not_shut" (defScope sFs) f cdv A outer s H XE).nox ((forBody (stOf sFs 1)).getD 0 (.Pass ⟨0, 0, 0, 0⟩)) _ := ps_if (pt_not (pt_val (pe_has M hr (by rfl) (pa_cons (pv 0) (pa_cons (pv 4) (pa_cons (pe_lst (pa_star (pv 1) (pa_star (pe_slice (SlR.or sl_list sl_tupA) (pv 2) po_none (po_some (pv 3))) pa_nil))) pa_nil)))))) (pss_one (ps_ret (pv 3))) pss_nil
    have h1 : PS (cxOf CX0 P w K mg base ["ends", "boxes", "shut", "at", "box"] "first_not_shut" (defScope sFs) f cdv A outer s H XE).nox (stOf sFs 1) _ := ps_for PassesOwn.never rfl (EnT.pi_enB (by rfl) N.enu (pa_cons (pv 2) pa_nil)) (pg_tup (n := 2) rfl (pgs_cons (pg_name (i := 3) scFs.nd rfl (.inl rfl)) (pgs_cons (pg_name (i := 4) scFs.nd rfl (.inl rfl)) pgs_nil))) (PSs.of_eq bd2 (pss_one b0))
    have h2 : PS (cxOf CX0 P w K mg base ["ends", "boxes", "shut", "at", "box"] "first_not_shut" (defScope sFs) f cdv A outer s H XE).nox (stOf sFs 2) _ := ps_ret pe_non
    refine ⟨_, PSs.nox (PSs.of_eq bdFs (pss_cons h0 (pss_cons h1 (pss_one h2)))), ?_⟩
    clear h0 h1 h2 b0
    refine ⟨v, rfl, v, d, rfl, hv, fun H1 s1 => ⟨isL d, rfl, ?_⟩⟩
    cases l : isL d with
    | false =>
      refine iteT ?_
      have kk := k H1 s1
      unfold fnsB at kk
      rw [l] at kk
      exact kk
    | true =>
      have kf : ∀ G, L2.Same H1 G → Q (oV (fnsL ns (its e) (its d) 0)) G := fun G ee => by
        have kk := k G (s1.trans ee)
        unfold fnsB at kk
        rw [l] at kk
        exact kk
      refine iteF (nx_intro ?_)
      refine for_enS (H0 := H1) (v := v) (d := d) (i1 := 3) (i2 := 4) (fun R h => ⟨v, rfl, h⟩) (hv.ext s1) l (fun j σ G => ∃ (a2 a3 : Option V), σ = [some ve, some u, some v, a2, a3] ∧ L2.Same H1 G ∧ (∀ z ∈ (its d).take j, GoodB z) ∧ fnsL ns (its e) (its d) 0 = fnsL ns (its e ++ (its d).take j) ((its d).drop j) j)
        ⟨none, none, rfl, fun _ _ e => e, (fun z h => absurd h (by simp)), by simp⟩ (fun j σ G e => ?_) (fun j z x σ' G hz tx e1 G' e' => ?_) (fun σ G e1 => ?_)
      · obtain ⟨_, _, _, e, _⟩ := e
        exact e
      · obtain ⟨a2, a3, rfl, S, gs, hf⟩ := e1
        have jl : j < (its d).length := (List.getElem?_eq_some_iff.mp hz).1
        have mz := List.mem_of_getElem? hz
        have s3 := sz.1
        have sz1 := sz.2 z mz
        have sz2 := sz1.1
        rw [drop_get hz] at hf
        have S' := S.trans e'
        obtain ⟨pu, xu, rfl, ru, qu⟩ := ((hu.ext s1).ext S').seq (K := K) le
        have lu := ru.length
        refine ⟨ve, rfl, x, rfl, .ref pu, rfl, pu, xu, rfl, (sl_of qu).symm, v, rfl, .int (j : Nat), rfl, j, rfl, th_cut ((hv.ext s1).ext S') l (by omega) fun y G2 d' S2 ty ly ey => ?_⟩
        obtain ⟨py, xy, rfl, ry, qy⟩ := ty.seq (K := K) ly
        have ly2 := ry.length
        rw [ey] at ry ly2
        rw [List.length_take] at ly2
        refine ⟨py, xy, rfl, (sl_of qy).symm, ?_, fun pn npn => ?_⟩
        · rw [List.length_append, List.length_append, sizeLine_eq]
          show xu.length + (xy.length + 0) ≤ _
          omega
        have S3 := same_new (o := .lst (xu ++ (xy ++ []))) npn
        have S4 := S2.trans S3
        have tn : Th (upd G2 pn (.lst (xu ++ (xy ++ [])))) (.ref pn) (.list (its e ++ (its d).take j)) := .lst upd_same (by rw [List.append_nil]; rw [List.append_nil] at S3 S4; exact th_app (ru.ext S4) (ry.ext S3))
        have lb : (its (.list (its e ++ (its d).take j))).length ≤ 100000 := by
          show (its e ++ (its d).take j).length ≤ _
          rw [List.length_append, List.length_take]
          omega
        have gb : ∀ y ∈ its (.list (its e ++ (its d).take j)), GoodB y := fun y hy => by
          have hy : y ∈ its e ++ (its d).take j := hy
          rcases List.mem_append.mp hy with hy | hy
          · exact ge y hy
          · exact gs y hy
        refine ⟨ve, x, .ref pn, ns, z, .list (its e ++ (its d).take j), rfl, ((hE.ext s1).ext S').ext S4, (tx.ext e').ext S4, (by omega), (fun y hy => sz1.2 y hy), tn, rfl, lb, gb, fun G5 S5 => ⟨_, rfl, ?_⟩⟩
        have SS := (S'.trans S4).trans S5
        have ef : fnsL ns (its e ++ (its d).take j) (z :: (its d).drop (j + 1)) j = if newB ns z (its e ++ (its d).take j) = true then fnsL ns (its e ++ (its d).take j ++ [z]) ((its d).drop (j + 1)) (j + 1) else some j := rfl
        rw [ef] at hf
        show (if (!newB ns z (its e ++ (its d).take j)) = true then _ else _)
        cases q : newB ns z (its e ++ (its d).take j) with
        | false =>
          rw [q] at hf
          refine iteT ⟨.int (j : Nat), rfl, ?_⟩
          have kk := kf G5 SS
          rw [hf] at kk
          exact kk
        | true =>
          rw [q, if_pos rfl] at hf
          have et : (its d).take (j + 1) = (its d).take j ++ [z] := by
            rw [List.take_add_one, hz]
            rfl
          refine iteF ⟨_, _, rfl, SS, fun y hy => ?_, ?_⟩
          · rw [et] at hy
            rcases List.mem_append.mp hy with hy | hy
            · exact gs y hy
            · rw [List.mem_singleton.mp hy]
              exact new_good q sz1
          · rw [hf, et, List.append_assoc]
      · obtain ⟨a2, a3, rfl, S, gs, hf⟩ := e1
        rw [List.drop_length] at hf
        have kk := kf G S
        rw [hf] at kk
        exact kk
/-- a table, as the program tells it -/
def tabB (ns : List Str) (d e : PyData) : Bool := (fnpB ns d).isNone && (fnsB ns (bxs (its d)) e).isNone
def spIt : Sp := fun vs H Q _ => ∃ (ve v u : V) (ns : List Str) (de d e : PyData), vs = [ve, v, u] ∧ EndsS H ve ns ∧ EndsOk H ve de ∧ fne de = none ∧ Th H v d ∧ Sz 3 d ∧ Th H u e ∧ Sz 2 e ∧ ∀ H', L2.Same H H' → Q (.bl (tabB ns d e)) H'
theorem fnp_none {ns : List Str} : ∀ {r : List PyData} {acc : List PyData} {j : Nat}, fnpL ns acc r j = none → (∀ z ∈ r, Sz 2 z) → ∀ z ∈ r, GoodP z
  | [], _, _, _, _ => fun z h => absurd h (by simp)
  | z :: r, acc, j, h, s => by
    have ef : fnpL ns acc (z :: r) j = if pairB ns z acc = true then fnpL ns (acc ++ its z) r (j + 1) else some j := rfl
    rw [ef] at h
    cases q : pairB ns z acc with
    | false =>
      rw [q] at h
      cases h
    | true =>
      rw [q, if_pos rfl] at h
      intro y hy
      rcases List.mem_cons.mp hy with rfl | hy
      · exact pair_good q (s _ (List.mem_cons_self ..))
      · exact fnp_none h (fun y hy => s y (List.mem_cons_of_mem _ hy)) y hy
theorem ok_it {f : Addr} {fd : FuncData} (F : FunD K "is_table" "is_table" (defArgs sIt) (defBody sIt) (defScope sIt) [] [] f fd) (C : Has P w K mg base "check_ends" 4 ["ends"] spCk) (M : Has P w K mg base "first_no_pair" 7 ["ends", "table"] spFp) (S1 : Has P w K mg base "first_not_shut" 6 ["ends", "boxes", "shut"] spFs) (B : Has P w K mg base "boxes_in" 1 ["table"] spBi) :
    FnOk P w K mg base CX0 8 f fd ["ends", "table", "shut"] spIt := by
  refine F.ok scIt (fun vs H Q E h => ?_) (fun cdv A outer s H vs Q XE hr h => ?_)
  · obtain ⟨ve, v, u, ns, de, d, e, rfl, _⟩ := h
    rfl
  · obtain ⟨ve, v, u, ns, de, d, e, rfl, hE, hO, fe, hv, sz, hu, su, k⟩ := h
    have h0 : PS (cxOf CX0 P w K mg base ["ends", "table", "shut"] "is_table" (defScope sIt) f cdv A outer s H XE).nox (stOf sIt 0) _ := ps_expr (pe_has C (hr.mono (by decide)) (by rfl) (pa_cons (pv 0) pa_nil))
    have h1 : PS (cxOf CX0 P w K mg base ["ends", "table", "shut"] "is_table" (defScope sIt) f cdv A outer s H XE).nox (stOf sIt 1) _ := ps_ret (pe_and (pe_cmp (pc_isN (pe_has M hr (by rfl) (pa_cons (pv 0) (pa_cons (pv 1) pa_nil)))) (by rfl)) (pe_one (pe_cmp (pc_isN (pe_has S1 (hr.mono (by decide)) (by rfl) (pa_cons (pv 0) (pa_cons (pe_has B (hr.mono (by decide)) (by rfl) (pa_cons (pv 1) pa_nil)) (pa_cons (pv 2) pa_nil))))) (by rfl))))
    refine ⟨_, PSs.nox (PSs.of_eq bdIt (pss_cons h0 (pss_one h1))), ?_⟩
    clear h0 h1
    refine ⟨ve, rfl, ve, de, rfl, hO, fe, fun H1 s1 => ⟨ve, rfl, v, rfl, ve, v, ns, d, rfl, hE.ext s1, hv.ext s1, sz, fun H2 s2 => ⟨_, rfl, ?_⟩⟩⟩
    have et : tabB ns d e = ((fnpB ns d).isNone && (fnsB ns (bxs (its d)) e).isNone) := rfl
    rw [et] at k
    have SS := s1.trans s2
    cases q : fnpB ns d with
    | some j =>
      rw [q] at k
      have dj : decide (oV (some j) = V.non) = false := rfl
      rw [dj]
      exact iteF (k H2 SS)
    | none =>
      rw [q] at k
      have dj : decide (oV none = V.non) = true := rfl
      rw [dj]
      have l : isL d = true := by
        cases l : isL d with
        | true => rfl
        | false =>
          unfold fnpB at q
          rw [l] at q
          cases q
      have gp : ∀ z ∈ its d, GoodP z := by
        unfold fnpB at q
        rw [l, if_pos rfl] at q
        exact fnp_none q sz.2
      refine iteT ⟨ve, rfl, v, rfl, v, d, rfl, hv.ext SS, l, sz.1, gp, fun H3 p S3 tp => ⟨u, rfl, ve, .ref p, u, ns, _, e, rfl, (hE.ext SS).ext S3, tp, rfl, ?_, bxs_good gp, (hu.ext SS).ext S3, su, fun H4 S4 => ?_⟩⟩
      · show (bxs (its d)).length ≤ 1000
        rw [bxs_len gp]
        have := sz.1
        omega
      · have kk := k H4 ((SS.trans S3).trans S4)
        have ei : its (.list (bxs (its d))) = bxs (its d) := rfl
        rw [ei]
        cases q2 : fnsB ns (bxs (its d)) e with
        | none =>
          rw [q2] at kk
          exact kk
        | some j =>
          rw [q2] at kk
          exact kk
end
end K14.T27
namespace K14.Gn
open PySem PySem.W PySem.Calls PyProof.Rows L2 LamX
open Kz (same_new small4)
/-- as lc_bl, over data that the row itself makes -/
theorem lc_blG {K : Frag} {k : Nat} {d : PyData} {σ : L2.St} {H : Hp} {tl te : TE} {vs : List Nat} {b : PyData → Bool} {Q : VK} (ht : ∀ R : VK, (∀ (v' : V) (G0 : Hp), L2.Same H G0 → Th G0 v' d → R v' G0) → tl σ H R) (l : isL d = true) (len : (its d).length ≤ 100000)
    (hw : ∀ x : V, wipe ((wipe σ vs).set k (some x)) vs = wipe σ vs)
    (hs : ∀ (j : Nat) (z : PyData) (x : V) (G : Hp) (Q' : VK), (its d)[j]? = some z → L2.Same H G → Th G x z → (∀ G', L2.Same G G' → Q' (.bl (b z)) G') → te ((wipe σ vs).set k (some x)) G Q')
    (hq : ∀ (G : Hp) (D : Addr), L2.Same H G → G D = some (.lst ((its d).map fun z => V.bl (b z))) → Q (.ref D) G) : tLc (iSq K tl) (gName k) tYes te vs σ H Q := by
  have step : ∀ (G0 : Hp) (xs : List V), L2.Same H G0 → ThAll G0 xs (its d) → ∀ (D : Addr), G0 D = none → ∀ (i : Nat) (x : V) (H2 : Hp), xs[i]? = some x → (L2.Same G0 H2 ∧ H2 D = some (.lst (((its d).take i).map fun z => V.bl (b z)))) →
      (wipe ((wipe σ vs).set k (some x)) vs = wipe σ vs ∧ tYes ((wipe σ vs).set k (some x)) H2 fun c H3 => if c = true then te ((wipe σ vs).set k (some x)) H3 fun y H4 => ∃ acc, H4 D = some (.lst acc) ∧ acc.length < sizeLine ∧ (L2.Same G0 (upd H4 D (.lst (acc ++ [y]))) ∧ (upd H4 D (.lst (acc ++ [y]))) D = some (.lst (((its d).take (i + 1)).map fun z => V.bl (b z)))) else
        (L2.Same G0 H3 ∧ H3 D = some (.lst (((its d).take (i + 1)).map fun z => V.bl (b z))))) := by
    intro G0 xs s0 r D hD i x H2 hi ⟨S, hA⟩
    obtain ⟨z, hz, tz⟩ := r.get hi
    refine ⟨hw x, ?_⟩
    unfold tYes
    show (if true = true then _ else _)
    rw [if_pos rfl]
    refine hs i z x H2 _ hz (s0.trans S) (tz.ext S) fun H4 s4 => ⟨_, s4 _ _ hA, ?_, fun c o e => ?_, ?_⟩
    · rw [List.length_map, List.length_take, sizeLine_eq]
      omega
    · rw [upd_ne (ne_of_none e hD)]
      exact s4 _ _ (S _ _ e)
    · rw [upd_same]
      have et : (its d).take (i + 1) = (its d).take i ++ [z] := by
        rw [List.take_add_one, hz]
        rfl
      rw [et, List.map_append]
      rfl
  have fin : ∀ (G0 : Hp) (xs : List V), L2.Same H G0 → ThAll G0 xs (its d) → ∀ (D : Addr) (H2 : Hp), (L2.Same G0 H2 ∧ H2 D = some (.lst (((its d).take xs.length).map fun z => V.bl (b z)))) → Q (.ref D) H2 := fun G0 xs s0 r D H2 ⟨S, hA⟩ => by
    rw [r.length, List.take_length] at hA
    exact hq H2 D (s0.trans S) hA
  cases d with
  | list ds =>
    refine .inl (ht _ fun v' G0 s0 t0 => ?_)
    cases t0 with
    | @lst a xs _ hx r => exact ⟨a, rfl, ⟨xs, .inl (.inl hx)⟩, fun D hD => lc_list (xs := xs) (fun i H2 => L2.Same G0 H2 ∧ H2 D = some (.lst ((ds.take i).map fun z => V.bl (b z)))) ⟨same_new hD, upd_same⟩ (fun i H2 _ e => .inl (.inl (e.1 _ _ hx))) (fun i x H2 hi e => step G0 xs s0 r D hD i x H2 hi e) (fun H2 e => fin G0 xs s0 r D H2 e)⟩
  | tuple ds =>
    refine .inr (ht _ fun v' G0 s0 t0 => ?_)
    cases t0 with
    | @tup a xs _ hx r => exact ⟨a, rfl, ⟨xs, .inl (.inl hx)⟩, fun D hD => lc_tup (xs := xs) (fun i H2 => L2.Same G0 H2 ∧ H2 D = some (.lst ((ds.take i).map fun z => V.bl (b z)))) ⟨same_new hD, upd_same⟩ (fun i H2 _ e => .inl (.inl (e.1 _ _ hx))) (fun i x H2 hi e => step G0 xs s0 r D hD i x H2 hi e) (fun H2 e => fin G0 xs s0 r D H2 e)⟩
  | _ => exact absurd (show false = true from l) Bool.false_ne_true
theorem lc_allG {K : Frag} {k : Nat} {d : PyData} {σ : L2.St} {H : Hp} {tl te : TE} {vs : List Nat} (b : PyData → Bool) {Q : VK} (ht : ∀ R : VK, (∀ (v' : V) (G0 : Hp), L2.Same H G0 → Th G0 v' d → R v' G0) → tl σ H R) (l : isL d = true) (len : (its d).length ≤ 100000)
    (hw : ∀ x : V, wipe ((wipe σ vs).set k (some x)) vs = wipe σ vs)
    (hs : ∀ (j : Nat) (z : PyData) (x : V) (G : Hp) (Q' : VK), (its d)[j]? = some z → L2.Same H G → Th G x z → (∀ G', L2.Same G G' → Q' (.bl (b z)) G') → te ((wipe σ vs).set k (some x)) G Q')
    (hq : ∀ G : Hp, L2.Same H G → Q (.bl ((its d).all b)) G) : tCB (rAll K) (tCons (tLc (iSq K tl) (gName k) tYes te vs) tNil) σ H Q := by
  unfold tCB tCons tNil
  exact lc_blG (b := b) ht l len hw hs fun G D S hA => ⟨D, (its d).map b, rfl, .inl (.inl (by rw [List.map_map]; exact hA)), by rw [List.all_map]; exact hq G S⟩
/-- any of them -/
theorem lc_anyG {K : Frag} {k : Nat} {d : PyData} {σ : L2.St} {H : Hp} {tl te : TE} {vs : List Nat} (b : PyData → Bool) {Q : VK} (ht : ∀ R : VK, (∀ (v' : V) (G0 : Hp), L2.Same H G0 → Th G0 v' d → R v' G0) → tl σ H R) (l : isL d = true) (len : (its d).length ≤ 100000)
    (hw : ∀ x : V, wipe ((wipe σ vs).set k (some x)) vs = wipe σ vs)
    (hs : ∀ (j : Nat) (z : PyData) (x : V) (G : Hp) (Q' : VK), (its d)[j]? = some z → L2.Same H G → Th G x z → (∀ G', L2.Same G G' → Q' (.bl (b z)) G') → te ((wipe σ vs).set k (some x)) G Q')
    (hq : ∀ G : Hp, L2.Same H G → Q (.bl ((its d).any b)) G) : tCB (rAny K) (tCons (tLc (iSq K tl) (gName k) tYes te vs) tNil) σ H Q := by
  unfold tCB tCons tNil
  exact lc_blG (b := b) ht l len hw hs fun G D S hA => ⟨D, (its d).map b, rfl, .inl (.inl (by rw [List.map_map]; exact hA)), by rw [List.any_map]; exact hq G S⟩
theorem ifS_intro {tc : TT} {A B u : TS} {D : Ends} {σ : L2.St} {H : Hp} (h : tc σ H fun c G => if c = true then A { nx := u D, rt := D.rt, bk := D.bk, ct := D.ct } σ G else B { nx := u D, rt := D.rt, bk := D.bk, ct := D.ct } σ G) : tSeq (tIfS tc A B) u D σ H := h
theorem notB {te : TE} {σ : L2.St} {H : Hp} {Q : Bool → Hp → Prop} (h : te σ H fun x G => ∃ c, x = .bl c ∧ Q (!c) G) : tNot (tB te) σ H Q := h
theorem ret_intro {te : TE} {D : Ends} {σ : L2.St} {H : Hp} (h : te σ H D.rt) : tRet te D σ H := h
end K14.Gn
namespace K14.T27
open PySem PySem.W PySem.Calls PyProof.Rows L2 LamX
open He (ga)
open Kz (small4 same_new boot_in boot_li boot_isi Has pe_has noE PSs.of_eq)
open K14.Gn
open StX
/-! ### the law's own box -/
abbrev sLb1 : Stmt := topS 41
abbrev Nlb1 : List Str := ["ends", "thing", "figures", "row", "one"]
theorem scLb1 : FnScope Nlb1 ["ends", "thing"] (defScope sLb1) := ⟨rfl, rfl, rfl, by decide +kernel, rfl, by decide +kernel, by decide +kernel⟩
theorem bdLb1 : defBody sLb1 = [stOf sLb1 0, stOf sLb1 1, stOf sLb1 2, stOf sLb1 3, stOf sLb1 4] := by rfl
def scIf2 : Stmt → Scope
  | .If (.UnaryOp _ (.Call _ [.ListComp _ _ sc _] _ _) _) _ _ _ => sc
  | .Return (some (.Call _ [.ListComp _ _ sc _] _ _)) _ => sc
  | _ => defScope sLb1
def lbSc1 : Scope := scIf2 (stOf sLb1 2)
def lbSc2 : Scope := scIf2 (stOf sLb1 4)
/-- a list as a list, a tuple as a tuple -/
def reSeq (d : PyData) (ds : List PyData) : PyData := match d with
  | .tuple _ => .tuple ds
  | _ => .list ds
theorem reSeq_its (d : PyData) (ds : List PyData) : its (reSeq d ds) = ds ∧ isL (reSeq d ds) = true := by
  cases d <;> exact ⟨rfl, rfl⟩
theorem thAll_drop {H : Hp} {m : Nat} {xs : List V} {ds : List PyData} (h : ThAll H xs ds) : ThAll H (xs.drop m) (ds.drop m) := by
  induction m generalizing xs ds with
  | zero => exact h
  | succ m ih =>
    cases h with
    | nil => exact .nil
    | cons a r => exact ih r
theorem cutV_drop {xs : List V} {m : Nat} (h : m ≤ xs.length) : cutV xs (some (m : Int)) none = xs.drop m := by
  unfold cutV
  have e1 : HT.sIx xs.length 0 (some (m : Int)) = m := by
    rw [HT.sIx_nat]
    omega
  have e2 : HT.sIx xs.length xs.length none = xs.length := rfl
  rw [e1, e2]
  exact List.take_of_length_le (by rw [List.length_drop]; exact Nat.le_refl _)
theorem th_from {K : Frag} {H : Hp} {v : V} {d : PyData} {m : Nat} {Q : VK} (t : Th H v d) (l : isL d = true) (hm : m ≤ (its d).length) (k : ∀ (y : V) (G : Hp), L2.Same H G → Th G y (reSeq d ((its d).drop m)) → Q y G) :
    rSlL K v (some (m : Int)) none H Q ∨ rSlA K v (some (m : Int)) none H Q := by
  cases t with
  | @lst a xs ds hx r =>
    have lx := r.length
    have hm : m ≤ ds.length := hm
    refine .inl ⟨a, xs, rfl, .inl (.inl hx), fun p np => ?_⟩
    rw [cutV_drop (by omega)]
    exact k _ _ (same_new np) (.lst upd_same ((thAll_drop r).ext (same_new np)))
  | @tup a xs ds hx r =>
    have lx := r.length
    have hm : m ≤ ds.length := hm
    have cut := cutV_drop (xs := xs) (m := m) (by omega)
    refine .inr ⟨a, xs, rfl, .inl (.inl hx), fun hw => ?_, fun _ p np => ?_⟩
    · have e : xs.drop m = xs := by
        rw [← cut]
        unfold cutV
        rw [hw.1, hw.2]
        simp
      have m0 : m = 0 ∨ xs.length = 0 := by
        have : (xs.drop m).length = xs.length := by rw [e]
        rw [List.length_drop] at this
        omega
      have ed : ds.drop m = ds := by
        rcases m0 with q | q
        · rw [q]; rfl
        · rw [lx] at q
          rw [List.eq_nil_of_length_eq_zero q]
          exact List.drop_nil
      exact k _ _ (fun _ _ e => e) (by show Th H _ (.tuple (ds.drop m)); rw [ed]; exact .tup hx r)
    · rw [cut]
      exact k _ _ (same_new np) (.tup upd_same ((thAll_drop r).ext (same_new np)))
  | _ => exact absurd (show false = true from l) Bool.false_ne_true
theorem in01 (i : Int) : ([V.int 0, V.int 1].any fun y => eqV y (.int i)) = isF (.int i) := by
  show ((0 : Int) == i || ((1 : Int) == i || false)) = (decide (0 ≤ i) && decide (i ≤ 1))
  rw [Bool.or_false, Bool.eq_iff_iff]
  simp only [Bool.or_eq_true, Bool.and_eq_true, beq_iff_eq, decide_eq_true_eq]
  omega
section
variable {P : Program} {w : World} {K : Frag} {mg : Str → Option Value} {base : Heap}
def spLb : Sp := fun vs H Q _ => ∃ (ve v : V) (ns : List Str) (d : PyData), vs = [ve, v] ∧ EndsS H ve ns ∧ Th H v d ∧ Sz 1 d ∧ ∀ H', L2.Same H H' → Q (.bl (boxB ns d)) H'
theorem ok_lb1 {f : Addr} {fd : FuncData} (F : FunD K "_law_is_box" "_law_is_box" (defArgs sLb1) (defBody sLb1) (defScope sLb1) [] [] f fd) (N : NmK K mg) (ml : mg "list" = none) (mt : mg "tuple" = none) (mi : mg "int" = none) (mb : mg "bool" = none) : FnOk P w K mg base CX0 1 f fd ["ends", "thing"] spLb := by
  refine F.ok scLb1 (fun vs H Q E h => ?_) (fun cdv A outer s H vs Q XE hr h => ?_)
  · obtain ⟨ve, v, ns, d, rfl, _⟩ := h
    rfl
  · obtain ⟨ve, v, ns, d, rfl, hE, hv, ⟨b1, b2⟩, k⟩ := h
    have h0 : PS (cxOf CX0 P w K mg base Nlb1 "_law_is_box" (defScope sLb1) f cdv A outer s H XE).nox (stOf sLb1 0) _ := ps_if (PW.pt (pw_or (pt_not (pt_val (pe_callB call_isiT (by rfl) N.isi boot_isi (pa_cons (pv 1) (pa_cons (pe_tup (pa_cons (pe_bltn (by rfl) ml boot_li (v := .ty "list") rfl) (pa_cons (pe_bltn (by rfl) mt boot_tu (v := .ty "tuple") rfl) pa_nil))) pa_nil))))) (pw_or (pt_cmpR op_ne (pe_callB call_len_seq (by rfl) N.len boot_len (pa_cons (pv 1) pa_nil)) pe_int (nomark _)) (pw_or1 (pt_not (pt_val (pe_callB call_isi (by rfl) N.isi boot_isi (pa_cons (pe_ix ix_seq (pv 1) pe_int (fun _ _ => rfl)) (pa_cons (pe_bltn (by rfl) N.str boot_st (v := .ty "str") rfl) pa_nil))))))))) (pss_one (ps_ret pe_bl)) pss_nil
    have h1 : PS (cxOf CX0 P w K mg base Nlb1 "_law_is_box" (defScope sLb1) f cdv A outer s H XE).nox (stOf sLb1 1) _ := ps_if (pt_cmpR op_notIn_seq (pe_ix ix_seq (pv 1) pe_int (fun _ _ => rfl)) (pv 0) (by rfl)) (pss_one (ps_ret pe_bl)) pss_nil
    have h2 : PS (cxOf CX0 P w K mg base Nlb1 "_law_is_box" (defScope sLb1) f cdv A outer s H XE).nox (stOf sLb1 2) _ := ps_if (pt_not (pt_val (pe_callB (cr_all rfl) (by rfl) N.all boot_all (pa_cons (pe_lc (X := (cxOf CX0 P w K mg base Nlb1 "_law_is_box" (defScope sLb1) f cdv A outer s H XE).nox) (scope := lbSc1) (own := [("row", 3)]) (g := gName 3) (tt := tYes) (te := tCB (rIsiT K) (tCons (tVar 3) (tCons (tTup (tCons (tC (.ty "list")) (tCons (tC (.ty "tuple")) tNil))) tNil))) rfl scLb1.nd
      (pi_sq (pe_slice (SlR.or sl_list sl_tupA) (pv 1) (po_some pe_int) po_none)) (blkOk_by (N := Nlb1) (sc := defScope sLb1) (by decide +kernel)) (fun _ _ _ _ _ => pg_name (i := 3) scLb1.nd rfl (Or.inl rfl)) (fun _ _ _ _ _ => pts_nil)
      (fun s0 H0 C0 cl0 fp0 => by exact pe_callB call_isiT (by rfl) N.isi boot_isi (pa_cons (pv 3) (pa_cons (pe_tup (pa_cons (pe_bltn (by rfl) ml boot_li (v := .ty "list") rfl) (pa_cons (pe_bltn (by rfl) mt boot_tu (v := .ty "tuple") rfl) pa_nil))) pa_nil)))) pa_nil)))) (pss_one (ps_ret pe_bl)) pss_nil
    have h3 : PS (cxOf CX0 P w K mg base Nlb1 "_law_is_box" (defScope sLb1) f cdv A outer s H XE).nox (stOf sLb1 3) _ := ps_set (i := 2) scLb1.nd rfl (.inl rfl) (pe_op op_cat (pe_callTy call_list_of (by rfl) ml boot_li (pa_cons (pe_ix ix_seq (pv 1) pe_int (fun _ _ => rfl)) pa_nil)) (pe_callTy call_list_of (by rfl) ml boot_li (pa_cons (pe_ix ix_seq (pv 1) pe_int (fun _ _ => rfl)) pa_nil)))
    have h4 : PS (cxOf CX0 P w K mg base Nlb1 "_law_is_box" (defScope sLb1) f cdv A outer s H XE).nox (stOf sLb1 4) _ := ps_ret (pe_callB (cr_all rfl) (by rfl) N.all boot_all (pa_cons (pe_lc (X := (cxOf CX0 P w K mg base Nlb1 "_law_is_box" (defScope sLb1) f cdv A outer s H XE).nox) (scope := lbSc2) (own := [("one", 4)]) (g := gName 4) (tt := tYes) (te := tAndV (tCB (rIsi K) (tCons (tVar 4) (tCons (tC (.ty "int")) tNil))) (tAndV (tNotV (tCB (rIsi K) (tCons (tVar 4) (tCons (tC (.ty "bool")) tNil)))) (tOp (rIn K false) (tVar 4) (tTup (tCons (tC (.int 0)) (tCons (tC (.int 1)) tNil)))))) rfl scLb1.nd
      (pi_sq (pv 2)) (blkOk_by (N := Nlb1) (sc := defScope sLb1) (by decide +kernel)) (fun _ _ _ _ _ => pg_name (i := 4) scLb1.nd rfl (Or.inl rfl)) (fun _ _ _ _ _ => pts_nil)
      (fun s0 H0 C0 cl0 fp0 => by exact pe_and (pe_callB call_isi (by rfl) N.isi boot_isi (pa_cons (pv 4) (pa_cons (pe_bltn (by rfl) mi boot_in (v := .ty "int") rfl) pa_nil))) (pe_and (pe_not (pe_callB call_isi (by rfl) N.isi boot_isi (pa_cons (pv 4) (pa_cons (pe_bltn (by rfl) mb boot_bo (v := .ty "bool") rfl) pa_nil)))) (pe_one (pe_cmpR op_in_seq (pv 4) (pe_tup (pa_cons pe_int (pa_cons pe_int pa_nil))) (by rfl)))))) pa_nil))
    refine ⟨_, PSs.nox (PSs.of_eq bdLb1 (pss_cons h0 (pss_cons h1 (pss_cons h2 (pss_cons h3 (pss_one h4)))))), ?_⟩
    clear h0 h1 h2 h3 h4
    have lst : ∀ {H : Hp} {v : V} {d : PyData} {Q : VK}, Th H v d → (∀ (p : Addr) (G : Hp), L2.Same H G → G p = some (.tup [.ty "list", .ty "tuple"]) → Q (.bl (isL d)) G) → tCB (rIsiT K) (tCons (fun σ H Q => Q v H) (tCons (tTup (tCons (tC (.ty "list")) (tCons (tC (.ty "tuple")) tNil))) tNil)) ([] : L2.St) H Q := fun {H v d Q} t kk =>
      ⟨small4 2, fun p np => ⟨v, p, _, _, _, _, rfl, upd_same, .cons (.ty _) (.cons (.ty _) .nil), (t.ext (same_new np)).ty, is_lt d, kk p _ (same_new np) upd_same⟩⟩
    refine ⟨v, rfl, small4 2, fun p np => ⟨v, p, _, _, _, _, rfl, upd_same, .cons (.ty _) (.cons (.ty _) .nil), (hv.ext (same_new np)).ty, is_lt d, _, rfl, ?_⟩⟩
    have s1 := same_new (o := .tup [.ty "list", .ty "tuple"]) np
    generalize upd H p (.tup [.ty "list", .ty "tuple"]) = H1 at s1 ⊢
    cases l : isL d with
    | false =>
      refine iteT (iteT ?_)
      have kk := k H1 s1
      unfold boxB at kk
      rw [l] at kk
      exact kk
    | true =>
      have hv1 := hv.ext s1
      obtain ⟨a, xs, ea, r, hx⟩ := hv1.seq (K := K) l
      have lx : xs.length = (its d).length := r.length
      refine iteF ⟨v, rfl, a, xs, by rw [ea], sl_of hx, rfl, _, rfl, ?_⟩
      rw [lx]
      by_cases h3 : (its d).length = 3
      · have e3 : decide (V.int (((its d).length : Nat) : Int) = V.int 3) = true := decide_eq_true (by rw [h3]; rfl)
        rw [e3]
        obtain ⟨z0, z1, z2, ed⟩ : ∃ z0 z1 z2, its d = [z0, z1, z2] := by
          match its d, h3 with
          | [z0, z1, z2], _ => exact ⟨z0, z1, z2, rfl⟩
        have m1 : z1 ∈ its d := by rw [ed]; simp
        have m2 : z2 ∈ its d := by rw [ed]; simp
        obtain ⟨x0, t0, i0⟩ := th_ix (K := K) (j := 0) hv1 l (z := z0) (by rw [ed]; rfl)
        refine iteF ⟨v, rfl, i0 _ ⟨x0, _, _, _, _, rfl, .ty _, t0.ty, is_st z0, _, rfl, ?_⟩⟩
        have no : isSt z0 = false → boxB ns d = false := fun q => by
          unfold boxB
          rw [ed, l]
          cases z0 with
          | str s => cases q
          | _ => rfl
        cases z0 with
        | str s0 =>
          have eb : boxB ns d = (inN ns s0 && (isR z1 && isR z2)) := by
            unfold boxB
            rw [ed, l]
            rfl
          rw [eb] at k
          refine iteF ?_
          cases t0 with
          | str =>
            obtain ⟨ae, rfl, qe⟩ := (hE.ext s1).ex
            refine ⟨v, rfl, i0 _ ⟨.ref ae, rfl, ae, _, rfl, sl_of qe, rfl, flat_strs ns, _, rfl, ?_⟩⟩
            show (if (!inN ns s0) = true then _ else _)
            cases q : inN ns s0 with
            | false =>
              rw [q] at k
              exact iteT (k H1 s1)
            | true =>
              rw [q] at k
              refine iteF (nx_intro (ifS_intro (notB ?_)))
              have ri := reSeq_its d ((its d).drop 1)
              have d1 : (its d).drop 1 = [z1, z2] := by rw [ed]; rfl
              refine lc_allG (d := reSeq d ((its d).drop 1)) isL (fun R h => ⟨v, rfl, 1, rfl, th_from (m := 1) hv1 l (by omega) fun y G S ty => h y G S ty⟩) ri.2 (by rw [ri.1, d1]; show 2 ≤ 100000; decide) (fun x => rfl) (fun j z x G Q' hz S tz kk => ⟨x, rfl, small4 2, fun p np => ⟨x, p, _, _, _, _, rfl, upd_same, .cons (.ty _) (.cons (.ty _) .nil), (tz.ext (same_new np)).ty, is_lt z, kk _ (same_new np)⟩⟩) (fun G S => ⟨_, rfl, ?_⟩)
              rw [ri.1, d1]
              have SG := s1.trans S
              have ea : ([z1, z2].all isL) = (isL z1 && isL z2) := by
                show (isL z1 && (isL z2 && true)) = _
                rw [Bool.and_true]
              rw [ea]
              cases l1 : isL z1 with
              | false =>
                have n1 : isR z1 = false := by unfold isR; rw [l1]; rfl
                rw [n1] at k
                exact iteT (k G SG)
              | true =>
                cases l2 : isL z2 with
                | false =>
                  have n1 : isR z2 = false := by unfold isR; rw [l2]; rfl
                  rw [n1, Bool.and_false, Bool.and_false] at k
                  exact iteT (k G SG)
                | true =>
                  refine iteF ?_
                  have hvG := hv1.ext S
                  obtain ⟨x1, t1, i1⟩ := th_ix (K := K) (j := 1) hvG l (z := z1) (by rw [ed]; rfl)
                  obtain ⟨p1, xs1, rfl, r1, q1⟩ := t1.seq (K := K) l1
                  refine ⟨v, rfl, i1 _ ⟨p1, xs1, rfl, sl_of q1, fun c1 n1 => ?_⟩⟩
                  have S1 := same_new (o := .lst xs1) n1
                  obtain ⟨x2, t2, i2⟩ := th_ix (K := K) (j := 2) (hvG.ext S1) l (z := z2) (by rw [ed]; rfl)
                  obtain ⟨p2, xs2, rfl, r2, q2⟩ := t2.seq (K := K) l2
                  refine ⟨v, rfl, i2 _ ⟨p2, xs2, rfl, sl_of q2, fun c2 n2 => ?_⟩⟩
                  have S2 := same_new (o := .lst xs2) n2
                  have bz1 : (its z1).length ≤ 500 := b2 _ m1
                  have bz2 : (its z2).length ≤ 500 := b2 _ m2
                  have lx1 := r1.length
                  have lx2 := r2.length
                  refine ⟨c1, c2, xs1, xs2, rfl, rfl, S2 _ _ upd_same, upd_same, (by rw [sizeLine_eq]; omega), fun c3 n3 => ?_⟩
                  have S3 := same_new (o := .lst (xs1 ++ xs2)) n3
                  have ST := S1.trans (S2.trans S3)
                  have tf : Th (upd (upd (upd G c1 (.lst xs1)) c2 (.lst xs2)) c3 (.lst (xs1 ++ xs2))) (.ref c3) (.list (its z1 ++ its z2)) := .lst upd_same (th_app ((r1.ext S1).ext (S2.trans S3)) (r2.ext (S2.trans S3)))
                  refine gset (nx_intro (ret_intro ?_))
                  refine lc_allG (d := .list (its z1 ++ its z2)) isF (fun R h => ⟨.ref c3, rfl, h _ _ (fun _ _ e => e) tf⟩) rfl ?_ (fun x => rfl) (fun j z x G' Q' hz S' tz kk => ⟨x, rfl, x, _, _, _, _, rfl, .ty _, tz.ty, is_in z, _, rfl, ?_⟩) (fun G' S' => ?_)
                  · show (its z1 ++ its z2).length ≤ 100000
                    rw [List.length_append]
                    omega
                  · cases tz with
                    | int i =>
                      refine iteT ⟨.int i, rfl, .int i, _, _, _, _, rfl, .ty _, .base (.int i), is_bo (.int i), _, rfl, _, rfl, iteT ⟨.int i, rfl, small4 2, fun p np => ⟨p, _, rfl, .inr (.inl (.inl upd_same)), rfl, rfl, ?_⟩⟩⟩
                      have k2 := kk _ (same_new (o := .tup [.int 0, .int 1]) np)
                      rw [← in01] at k2
                      exact k2
                    | bl b => exact iteT ⟨.bl b, rfl, .bl b, _, _, _, _, rfl, .ty _, .base (.bl b), is_bo (.bool b), _, rfl, _, rfl, iteF (kk _ (fun _ _ e => e))⟩
                    | _ => exact iteF (kk _ (fun _ _ e => e))
                  · have k2 := k G' ((SG.trans ST).trans S')
                    have e1 : isR z1 = (its z1).all isF := by unfold isR; rw [l1, Bool.true_and]
                    have e2 : isR z2 = (its z2).all isF := by unfold isR; rw [l2, Bool.true_and]
                    have e3 : (its (.list (its z1 ++ its z2))).all isF = ((its z1).all isF && (its z2).all isF) := List.all_append
                    rw [e3, ← e1, ← e2]
                    exact k2
        | _ =>
          rw [no rfl] at k
          exact iteT (k H1 s1)
      · have e3 : decide (V.int (((its d).length : Nat) : Int) = V.int 3) = false := decide_eq_false (fun y => h3 (by have := V.int.inj y; omega))
        rw [e3]
        refine iteT (iteT ?_)
        have kk := k H1 s1
        have eb : boxB ns d = false := by
          unfold boxB
          split
          · rename_i q
            rw [q] at h3
            exact absurd rfl h3
          · rw [Bool.and_false]
        rw [eb] at kk
        exact kk
end
end K14.T27
namespace K14.T27
open PySem PySem.W PySem.Calls PyProof.Rows L2 LamX
open He (ga)
open Kz (SS ExtS ExtS.trans small4 same_new boot_in boot_li boot_isi Has pe_has noE PSs.of_eq seqI new_ext)
open K14.Gn
/-! ### _law_pick, _law_mixed -/
abbrev sPk : Stmt := topS 37
theorem scPk : FnScope ["stream", "some"] ["stream", "some"] (defScope sPk) := ⟨rfl, rfl, rfl, by decide +kernel, rfl, by decide +kernel, by decide +kernel⟩
theorem bdPk : defBody sPk = [stOf sPk 0] := by rfl
theorem bdMx : defBody sMx = [stOf sMx 0, stOf sMx 1] := by rfl
section
variable {P : Program} {w : World} {K : Frag} {mg : Str → Option Value} {base : Heap}
def spPk : Sp := fun vs H Q _ => ∃ (l li sa : Addr) (c : Int) (xs : List V), vs = [.ref l, .ref sa] ∧ Spr H l li c ∧ H sa = some (.lst xs) ∧ sa ≠ l ∧ sa ≠ li ∧ 0 < xs.length ∧ xs.length ≤ 1000 ∧ c < 900000000 ∧ ∀ (H' : Hp) (x : V), ExtS l li H H' → Spr H' l li (c + 1) → x ∈ xs → Q x H'
theorem ok_pk {f : Addr} {fd : FuncData} (F : FunD K "_law_pick" "_law_pick" (defArgs sPk) (defBody sPk) (defScope sPk) [] [] f fd) (D : Has P w K mg base "_law_draw" 1 ["stream", "many"] spDrW) (mn : mg "len" = none) : FnOk P w K mg base CX0 2 f fd ["stream", "some"] spPk := by
  refine F.ok scPk (fun vs H Q E h => ?_) (fun cdv A outer s H vs Q XE hr h => ?_)
  · obtain ⟨l, li, sa, c, xs, rfl, _⟩ := h
    rfl
  · obtain ⟨l, li, sa, c, xs, rfl, hs, hsa, n1, n2, x0, x1, c1, k⟩ := h
    have h0 : PS (cxOf CX0 P w K mg base ["stream", "some"] "_law_pick" (defScope sPk) f cdv A outer s H XE).nox (stOf sPk 0) _ := ps_ret (pe_ix ix_seq (pv 1) (pe_has D hr (by rfl) (pa_cons (pv 0) (pa_cons (pe_callB call_len_seq (by rfl) mn boot_len (pa_cons (pv 1) pa_nil)) pa_nil))) (fun _ _ => rfl))
    refine ⟨_, PSs.nox (PSs.of_eq bdPk (pss_one h0)), ?_⟩
    clear h0
    refine ⟨.ref sa, rfl, .ref l, rfl, .ref sa, rfl, sa, xs, rfl, .inl (.inl (.inl hsa)), l, li, c, (xs.length : Nat), rfl, hs, by omega, by omega, by omega, fun H1 r e1 s1 r0 r1 => ?_⟩
    obtain ⟨n, rfl⟩ : ∃ n : Nat, r = (n : Nat) := ⟨r.toNat, by omega⟩
    have rk : n < xs.length := by omega
    exact .inl ⟨sa, xs, _, xs[n], rfl, rfl, .inl (.inl (e1 _ _ hsa n1 n2)), atI_nat (List.getElem?_eq_getElem rk), k H1 _ e1 s1 (List.getElem_mem _)⟩
def spMxW : Sp := fun vs H Q _ => ∃ (l li sa : Addr) (c : Int) (xs : List V), vs = [.ref l, .ref sa] ∧ Spr H l li c ∧ H sa = some (.lst xs) ∧ xs.length ≤ 1000 ∧ c < 900000000 ∧
  ∀ (H' : Hp) (r : Addr) (ys : List V), ExtS l li H H' → Spr H' l li (c + (xs.length : Nat)) → H r = none → r ≠ l → r ≠ li → H' r = some (.lst ys) → ys.Perm xs → Q (.ref r) H'
theorem perm_pop {zs ys xs : List V} {i : Nat} (h : i < zs.length) (p : (zs ++ ys).Perm xs) : (zs.eraseIdx i ++ (ys ++ [zs[i]])).Perm xs := by
  refine List.Perm.trans ?_ p
  have e : (zs[i] :: zs.eraseIdx i).Perm zs := by
    rw [List.eraseIdx_eq_take_drop_succ]
    have e2 : zs.take i ++ zs[i] :: zs.drop (i + 1) = zs := by rw [← List.drop_eq_getElem_cons h, List.take_append_drop]
    exact (List.perm_middle.symm).trans (List.Perm.of_eq e2)
  calc (zs.eraseIdx i ++ (ys ++ [zs[i]])).Perm (zs.eraseIdx i ++ ([zs[i]] ++ ys)) := List.Perm.append_left _ List.perm_append_comm
    _ |>.Perm ((zs[i] :: zs.eraseIdx i) ++ ys) := by
      rw [← List.append_assoc]
      exact List.Perm.append_right _ (List.perm_append_singleton _ _)
    _ |>.Perm (zs ++ ys) := List.Perm.append_right _ e
theorem ok_mxw {f : Addr} {fd : FuncData} (F : FunD K "_law_mixed" "_law_mixed" (defArgs sMx) (defBody sMx) (defScope sMx) [] [] f fd) (D : Has P w K mg base "_law_draw" 1 ["stream", "many"] spDrW) (ml : mg "list" = none) (mn : mg "len" = none) (mr : mg "range" = none) : FnOk P w K mg base CX0 2 f fd ["stream", "some"] spMxW := by
  refine F.ok scMx (fun vs H Q E h => ?_) (fun cdv A outer s H vs Q XE hr h => ?_)
  · obtain ⟨l, li, sa, c, xs, rfl, _⟩ := h
    rfl
  · obtain ⟨l, li, sa, c, xs, rfl, hs, hsa, x1, c1, k⟩ := h
    have h0 : PS (cxOf CX0 P w K mg base ["stream", "some", "left", "k"] "_law_mixed" (defScope sMx) f cdv A outer s H XE).nox (stOf sMx 0) _ := ps_set (i := 2) scMx.nd rfl (.inr rfl) (pe_callTy call_list_of (by rfl) ml boot_li (pa_cons (pv 1) pa_nil))
    have h1 : PS (cxOf CX0 P w K mg base ["stream", "some", "left", "k"] "_law_mixed" (defScope sMx) f cdv A outer s H XE).nox (stOf sMx 1) _ := ps_ret (pe_lc (X := (cxOf CX0 P w K mg base ["stream", "some", "left", "k"] "_law_mixed" (defScope sMx) f cdv A outer s H XE).nox) (te := tBM K "list" rPopAt (tVar 2) (tCons (tCall spDrW [] noE (tCons (tVar 0) (tCons (tCB (Kz.rLen K) (tCons (tVar 2) tNil)) tNil))) tNil)) (scope := mxSc) (own := [("k", 3)]) (g := gName 3) (tt := tYes) rfl scMx.nd
      (pi_range1 (by rfl) mr (pa_cons (pe_callB call_len_seq (by rfl) mn boot_len (pa_cons (pv 2) pa_nil)) pa_nil)) (blkOk_by (N := ["stream", "some", "left", "k"]) (sc := defScope sMx) (by decide +kernel)) (fun _ _ _ _ _ => pg_name (i := 3) scMx.nd rfl (Or.inl rfl)) (fun _ _ _ _ _ => pts_nil)
      (fun s0 H0 C0 cl0 fp0 => pe_bm (X := Cx.blk ((cxOf CX0 P w K mg base ["stream", "some", "left", "k"] "_law_mixed" (defScope sMx) f cdv A outer s H XE).nox) s0 H0 mxSc (compEnvC mxSc cl0 C0 (Cx.env ((cxOf CX0 P w K mg base ["stream", "some", "left", "k"] "_law_mixed" (defScope sMx) f cdv A outer s H XE).nox))) fp0) PySem.F.plainAttrs_list PySem.F.slot_list_pop PySem.F.type_list_pop mt_popAt (pv 2) (pa_cons (pe_has D hr (by rfl) (pa_cons (pv 0) (pa_cons (pe_callB call_len_seq (by rfl) mn boot_len (pa_cons (pv 2) pa_nil)) pa_nil))) pa_nil)))
    refine ⟨_, PSs.nox (PSs.of_eq bdMx (pss_cons h0 (pss_one h1))), ?_⟩
    clear h0 h1
    refine ⟨.ref sa, rfl, sa, xs, rfl, .inl (.inl (.inl hsa)), fun lf nf => ?_⟩
    have nl := hs.new nf
    have s1 := hs.same (same_new (o := .lst xs) nf)
    refine ⟨.ref lf, rfl, lf, xs, rfl, .inl (.inl (.inl upd_same)), (xs.length : Int), rfl, by omega, by omega, fun D0 hD => ?_⟩
    have nD := s1.new hD
    have Df : D0 ≠ lf := Ne.symm (ne_of_none upd_same hD)
    have HD : H D0 = none := ext_none (same_S (l := l) (li := li) (same_new nf)) hD nD.1 nD.2
    refine lc_range (n := ((xs.length : Nat) : Int).toNat) (fun j G => ∃ (zs ys : List V), G lf = some (.lst zs) ∧ G D0 = some (.lst ys) ∧ ys.length = j ∧ (zs ++ ys).Perm xs ∧ Spr G l li (c + (j : Nat)) ∧ ExtS l li H G)
      ⟨xs, [], by rw [upd_ne Df.symm, upd_same], upd_same, rfl, by simp, by simpa using s1.same (same_new hD), same_S ((same_new nf).trans (same_new hD))⟩ (fun j G hj e => ?_) fun G e => ?_
    · obtain ⟨zs, ys, hz, hy, ly, pm, s3, e3⟩ := e
      have hj' : j < xs.length := by simpa using hj
      have lz : zs.length = xs.length - j := by
        have := pm.length_eq
        rw [List.length_append] at this
        omega
      refine ⟨rfl, ?_⟩
      unfold tYes
      show (if true = true then _ else _)
      rw [if_pos rfl]
      refine ⟨.ref lf, rfl, .inl ⟨rfl, _, .inl (.inl hz)⟩, .ref l, rfl, .ref lf, rfl, lf, zs, rfl, .inl (.inl (.inl hz)), ?_⟩
      refine ⟨l, li, c + (j : Nat), (zs.length : Int), rfl, s3, by omega, by omega, by omega, fun H4 r e4 s4 r0 r1 => ?_⟩
      have hz4 := e4 lf _ hz nl.1 nl.2
      have hy4 := e4 D0 _ hy nD.1 nD.2
      have rk : r.toNat < zs.length := by omega
      refine ⟨lf, zs, r, r.toNat, zs[r.toNat], rfl, rfl, hz4, by omega, by omega, seqI r0 r1, by simp [rk], ys, by rw [upd_ne Df]; exact hy4, by rw [sizeLine_eq]; omega, zs.eraseIdx r.toNat, ys ++ [zs[r.toNat]], by rw [upd_ne Df.symm, upd_same], upd_same, by rw [List.length_append, List.length_singleton, ly], perm_pop rk pm, ?_, fun x o ex h1 h2 => ?_⟩
      · have ec : c + ((j + 1 : Nat) : Int) = c + (j : Nat) + 1 := by omega
        rw [ec]
        exact (s4.upd nl.1 nl.2).upd nD.1 nD.2
      · rw [upd_ne (ne_of_none ex HD), upd_ne (ne_of_none ex nf)]
        exact e4 x o (e3 x o ex h1 h2) h1 h2
    · obtain ⟨zs, ys, hz, hy, ly, pm, s3, e3⟩ := e
      have ly' : ys.length = xs.length := by simpa using ly
      have zn : zs = [] := by
        have := pm.length_eq
        rw [List.length_append] at this
        exact List.eq_nil_of_length_eq_zero (by omega)
      rw [zn, List.nil_append] at pm
      exact k G D0 ys e3 (by simpa using s3) HD nD.1 nD.2 hy pm
end
end K14.T27
namespace K14.T27
open PySem PySem.W PySem.Calls PyProof.Rows L2 LamX
open He (ga)
open Kz (SS ExtS ExtS.trans small4 same_new boot_in boot_li boot_isi Has pe_has noE PSs.of_eq seqI new_ext)
open K14.Gn
abbrev sEn : Stmt := topS 31
theorem scEn : FnScope ["stream", "many", "some"] ["stream", "many"] (defScope sEn) := ⟨rfl, rfl, rfl, by decide +kernel, rfl, by decide +kernel, by decide +kernel⟩
theorem bdEn : defBody sEn = [stOf sEn 0, stOf sEn 1] := by rfl
def endNames : List Str := ["a", "b", "c", "d", "e", "w1", "w2", "in", "out", "in1", "w10", "ends", "lastname", "x0", "y1", "z"]
def unS : V → Str
  | .str s => s
  | _ => ""
theorem strs_of {ys : List V} {ns : List Str} (p : ys.Perm (ns.map V.str)) : ∃ ms : List Str, ys = ms.map V.str ∧ ms.Perm ns := by
  refine ⟨ys.map unS, ?_, ?_⟩
  · rw [List.map_map]
    have all : ∀ y ∈ ys, V.str (unS y) = y := fun y hy => by
      obtain ⟨s, _, rfl⟩ := List.mem_map.mp (p.mem_iff.mp hy)
      rfl
    clear p
    induction ys with
    | nil => rfl
    | cons y r ih =>
      rw [List.map_cons, ← ih fun z hz => all z (List.mem_cons_of_mem _ hz)]
      show y :: r = V.str (unS y) :: r
      rw [all y (List.mem_cons_self ..)]
  · have := p.map unS
    rw [List.map_map] at this
    have e : ns.map (unS ∘ V.str) = ns := (List.map_congr_left (g := id) fun _ _ => rfl).trans (List.map_id ns)
    rw [e] at this
    exact this
section
variable {P : Program} {w : World} {K : Frag} {mg : Str → Option Value} {base : Heap}
def spEn : Sp := fun vs H Q _ => ∃ (l li : Addr) (c : Int) (m : Nat), vs = [.ref l, .int (m : Nat)] ∧ Spr H l li c ∧ m ≤ 16 ∧ c < 800000000 ∧
  ∀ (H' : Hp) (r : Addr) (ns : List Str), ExtS l li H H' → Spr H' l li (c + 16) → H r = none → r ≠ l → r ≠ li → H' r = some (.lst (ns.map V.str)) → ns.length = m → ns.Nodup → (∀ s ∈ ns, s ∈ endNames) → Q (.ref r) H'
theorem ok_en {f : Addr} {fd : FuncData} (F : FunD K "_law_ends" "_law_ends" (defArgs sEn) (defBody sEn) (defScope sEn) [] [] f fd) (M : Has P w K mg base "_law_mixed" 2 ["stream", "some"] spMxW) : FnOk P w K mg base CX0 3 f fd ["stream", "many"] spEn := by
  refine F.ok scEn (fun vs H Q E h => ?_) (fun cdv A outer s H vs Q XE hr h => ?_)
  · obtain ⟨l, li, c, m, rfl, _⟩ := h
    rfl
  · obtain ⟨l, li, c, m, rfl, hs, hm, hc, k⟩ := h
    have h0 : PS (cxOf CX0 P w K mg base ["stream", "many", "some"] "_law_ends" (defScope sEn) f cdv A outer s H XE).nox (stOf sEn 0) _ := ps_set (i := 2) scEn.nd rfl (.inl rfl) (pe_lst (pa_cons pe_str (pa_cons pe_str (pa_cons pe_str (pa_cons pe_str (pa_cons pe_str (pa_cons pe_str (pa_cons pe_str (pa_cons pe_str (pa_cons pe_str (pa_cons pe_str (pa_cons pe_str (pa_cons pe_str (pa_cons pe_str (pa_cons pe_str (pa_cons pe_str (pa_cons pe_str pa_nil)))))))))))))))))
    have h1 : PS (cxOf CX0 P w K mg base ["stream", "many", "some"] "_law_ends" (defScope sEn) f cdv A outer s H XE).nox (stOf sEn 1) _ := ps_ret (pe_slice sl_list (pe_has M hr (by rfl) (pa_cons (pv 0) (pa_cons (pv 2) pa_nil))) po_none (po_some (pv 1)))
    refine ⟨_, PSs.nox (PSs.of_eq bdEn (pss_cons h0 (pss_one h1))), ?_⟩
    clear h0 h1
    refine ⟨small4 16, fun sa nsa => ?_⟩
    have na := hs.new nsa
    have s1 := hs.same (same_new (o := .lst (endNames.map V.str)) nsa)
    refine ⟨.ref l, rfl, .ref sa, rfl, l, li, sa, c, endNames.map V.str, rfl, s1, upd_same, by decide, by omega, fun H1 r ys e1 s2 nr r1 r2 hy pm => ?_⟩
    obtain ⟨ms, rfl, pn⟩ := strs_of pm
    have lm : ms.length = 16 := by rw [pn.length_eq]; rfl
    refine ⟨.int (m : Nat), rfl, m, rfl, r, _, rfl, .inl (.inl hy), fun p np => ?_⟩
    rw [cutV_take (by rw [List.length_map, lm]; exact hm), ← List.map_take]
    have E1 : ExtS l li H H1 := (same_S (same_new nsa)).trans e1
    have nP := s2.new np
    have eN : c + ((endNames.map V.str).length : Nat) = c + 16 := rfl
    rw [eN] at s2
    exact k _ p (ms.take m) (E1.trans (same_S (same_new np))) (s2.same (same_new np)) (ext_none E1 np nP.1 nP.2) nP.1 nP.2 upd_same (by rw [List.length_take, lm]; omega) ((pn.nodup_iff.mpr (by decide +kernel)).sublist (List.take_sublist _ _)) (fun s hs => pn.mem_iff.mp (List.mem_of_mem_take hs))
end
theorem names_all : endNames.all (fun s => nameB (.str s)) = true := by decide +kernel
theorem fne_names : ∀ {ns st : List Str} {j : Nat}, ns.Nodup → (∀ s ∈ ns, s ∈ endNames) → (∀ s ∈ ns, s ∉ st) → fneL (ns.map PyData.str) st j = none
  | [], _, _, _, _, _ => rfl
  | s :: r, st, j, nd, hm, hn => by
    have n0 : nameB (.str s) = true := List.all_eq_true.mp names_all s (hm s (List.mem_cons_self ..))
    have c0 : st.contains s = false := by
      cases q : st.contains s with
      | false => rfl
      | true => exact absurd (List.contains_iff_mem.mp q) (hn s (List.mem_cons_self ..))
    obtain ⟨d1, d2⟩ := List.nodup_cons.mp nd
    have ef : fneL ((s :: r).map PyData.str) st j = if (nameB (.str s) && !st.contains s) = true then fneL (r.map PyData.str) (st ++ [s]) (j + 1) else some j := rfl
    rw [ef, n0, c0]
    refine fne_names d2 (fun x hx => hm x (List.mem_cons_of_mem _ hx)) (fun x hx hs => ?_)
    rcases List.mem_append.mp hs with hs | hs
    · exact hn x (List.mem_cons_of_mem _ hx) hs
    · rw [List.mem_singleton.mp hs] at hx
      exact d1 hx
theorem th_strs {H : Hp} : ∀ ns : List Str, ThAll H (ns.map V.str) (ns.map PyData.str)
  | [] => .nil
  | s :: r => .cons (.str s) (th_strs r)
/-- names told as a list or a tuple are ends -/
theorem ends_ok {H : Hp} {v : V} {d : PyData} {ns : List Str} (t : Th H v d) (l : isL d = true) (e : its d = ns.map PyData.str) (nd : ns.Nodup) (hm : ∀ s ∈ ns, s ∈ endNames) (hl : ns.length ≤ 16) : EndsS H v ns ∧ EndsOk H v d ∧ fne d = none := by
  refine ⟨?_, ⟨t, by rw [e, List.length_map]; omega, fun s hs => ?_⟩, ?_⟩
  · cases t with
    | @lst a xs ds hx r =>
      have e : ds = ns.map PyData.str := e
      subst e
      refine ⟨a, rfl, .inl ?_⟩
      have : xs = ns.map V.str := by
        clear hx l nd hm hl
        induction ns generalizing xs with
        | nil => cases r; rfl
        | cons s q ih =>
          cases r with
          | cons h1 h2 =>
            cases h1
            exact congrArg (V.str s :: ·) (ih h2 rfl)
      rw [← this]
      exact hx
    | @tup a xs ds hx r =>
      have e : ds = ns.map PyData.str := e
      subst e
      refine ⟨a, rfl, .inr ?_⟩
      have : xs = ns.map V.str := by
        clear hx l nd hm hl
        induction ns generalizing xs with
        | nil => cases r; rfl
        | cons s q ih =>
          cases r with
          | cons h1 h2 =>
            cases h1
            exact congrArg (V.str s :: ·) (ih h2 rfl)
      rw [← this]
      exact hx
    | _ => exact absurd (show false = true from l) Bool.false_ne_true
  · rw [e] at hs
    obtain ⟨x, hx, ex⟩ := List.mem_map.mp hs
    obtain rfl := PyData.str.inj ex
    have : endNames.all (fun s => decide (s.length ≤ 100000)) = true := by decide +kernel
    exact of_decide_eq_true (List.all_eq_true.mp this x (hm x hx))
  · unfold fne
    rw [l, if_pos rfl, e]
    exact fne_names nd hm (fun s _ h => absurd h (by simp))
end K14.T27
namespace K14.T27
open PySem PySem.W PySem.Calls PyProof.Rows L2 LamX
open He (ga)
open Kz (SS ExtS ExtS.trans small4 same_new boot_in boot_li boot_isi Has pe_has noE PSs.of_eq seqI new_ext)
open K14.Gn
section
variable {P : Program} {w : World} {K : Frag} {mg : Str → Option Value} {base : Heap}
/-- is_table of ends that are none -/
def spItX (K : Frag) : Sp := fun vs H Q E => ∃ (ve v u : V) (de : PyData) (j : Nat), vs = [ve, v, u] ∧ EndsOk H ve de ∧ fne de = some j ∧ SaysF (ga K "BadEnds") "index" (.int (j : Nat)) H E
theorem okx_it {f : Addr} {fd : FuncData} (F : FunD K "is_table" "is_table" (defArgs sIt) (defBody sIt) (defScope sIt) [] [] f fd) (C : HasX P w K mg base "check_ends" 4 ["ends"] (spCkX K)) : FnOk P w K mg base (L2.CX P w) 5 f fd ["ends", "table", "shut"] (spItX K) := by
  refine F.ok scIt (fun vs H Q E h => ?_) (fun cdv A outer s H vs Q XE hr h => ?_)
  · obtain ⟨ve, v, u, de, j, rfl, _⟩ := h
    rfl
  · obtain ⟨ve, v, u, de, j, rfl, hO, e, k⟩ := h
    refine ⟨_, PSs.of_eq bdIt (pss_cons (ps_expr (pe_hasX C hr (by rfl) noX (pa_cons (pv 0) pa_nil))) pss_never), ?_⟩
    exact ⟨ve, rfl, ve, de, j, rfl, hO, e, k⟩
/-! ### a box halved -/
abbrev sTh : Stmt := topS 32
theorem scTh : FnScope ["box", "kind", "end", "s", "t"] ["box", "kind"] (defScope sTh) := ⟨rfl, rfl, rfl, by decide +kernel, rfl, by decide +kernel, by decide +kernel⟩
theorem bdTh : defBody sTh = [stOf sTh 0, stOf sTh 1, stOf sTh 2] := by rfl
/-- a box of the law's own: a tuple of a name and two lists -/
def BxV (H : Hp) (v : V) (b : Bx) : Prop := ∃ a p q, v = .ref a ∧ H a = some (.tup [.str b.s, .ref p, .ref q]) ∧ H p = some (.lst (b.x.map V.int)) ∧ H q = some (.lst (b.y.map V.int))
theorem BxV.ext {H H1 : Hp} {v : V} {b : Bx} (h : BxV H v b) (e : L2.Same H H1) : BxV H1 v b := by
  obtain ⟨a, p, q, r, h1, h2, h3⟩ := h
  exact ⟨a, p, q, r, e _ _ h1, e _ _ h2, e _ _ h3⟩
def half (b : Bx) (kx : Bool) (i : Int) : Bx := if kx = true then ⟨b.s, b.x ++ [i], b.y⟩ else ⟨b.s, b.x, b.y ++ [i]⟩
end
end K14.T27
namespace K14.T27
open PySem PySem.W PySem.Calls PyProof.Rows L2 LamX
open K14.Gn
/-! ### lists told as tuples, tuples as lists: nothing that is told of a table changes -/
mutual
inductive Lq : PyData → PyData → Prop
  | flat {d : PyData} : isL d = false → Lq d d
  | seq {d e : PyData} : isL d = true → isL e = true → LqAll (its d) (its e) → Lq d e
inductive LqAll : List PyData → List PyData → Prop
  | nil : LqAll [] []
  | cons {d e : PyData} {ds es : List PyData} : Lq d e → LqAll ds es → LqAll (d :: ds) (e :: es)
end
theorem LqAll.len : ∀ {ds es : List PyData}, LqAll ds es → ds.length = es.length
  | _, _, .nil => rfl
  | _, _, .cons _ r => congrArg (· + 1) r.len
theorem LqAll.app : ∀ {a b c d : List PyData}, LqAll a b → LqAll c d → LqAll (a ++ c) (b ++ d)
  | _, _, _, _, .nil, h => h
  | _, _, _, _, .cons x r, h => .cons x (r.app h)
theorem seq_isF {d : PyData} (l : isL d = true) : isF d = false := by
  cases d with
  | int i => cases l
  | _ => rfl
theorem Lq.isL {d e : PyData} (h : Lq d e) : K14.isL d = K14.isL e := by
  cases h with
  | flat => rfl
  | seq a b _ => rw [a, b]
theorem Lq.isF {d e : PyData} (h : Lq d e) : K14.isF d = K14.isF e := by
  cases h with
  | flat => rfl
  | seq a b _ => rw [seq_isF a, seq_isF b]
theorem LqAll.allF : ∀ {ds es : List PyData}, LqAll ds es → ds.all K14.isF = es.all K14.isF
  | _, _, .nil => rfl
  | _, _, .cons h r => by rw [List.all_cons, List.all_cons, h.isF, r.allF]
theorem Lq.isR {d e : PyData} (h : Lq d e) : K14.isR d = K14.isR e := by
  cases h with
  | flat => rfl
  | seq a b r =>
    unfold K14.isR
    rw [a, b, r.allF]
def numI : PyData → Int
  | .int i => i
  | _ => 0
theorem rowI_eq (d : PyData) : rowI d = (its d).map numI := by
  unfold rowI
  exact List.map_congr_left fun z _ => by cases z <;> rfl
theorem seq_num {d : PyData} (l : isL d = true) : numI d = 0 := by
  cases d with
  | int i => cases l
  | _ => rfl
theorem Lq.num {d e : PyData} (h : Lq d e) : numI d = numI e := by
  cases h with
  | flat => rfl
  | seq a b _ => rw [seq_num a, seq_num b]
theorem LqAll.nums : ∀ {ds es : List PyData}, LqAll ds es → ds.map numI = es.map numI
  | _, _, .nil => rfl
  | _, _, .cons h r => by rw [List.map_cons, List.map_cons, r.nums, h.num]
theorem Lq.rowI {d e : PyData} (h : Lq d e) : T27.rowI d = T27.rowI e := by
  rw [rowI_eq, rowI_eq]
  cases h with
  | flat => rfl
  | seq a b r => exact r.nums
theorem Lq.str {s : Str} {e : PyData} (h : Lq (.str s) e) : e = .str s := by
  cases h with
  | flat => rfl
  | seq a _ _ => cases a
theorem Lq.box {ns : List Str} {d e : PyData} (h : Lq d e) : boxB ns d = boxB ns e ∧ bxOf d = bxOf e := by
  cases h with
  | flat => exact ⟨rfl, rfl⟩
  | seq a b r =>
    unfold boxB bxOf
    rw [a, b]
    generalize its d = ds at r
    generalize its e = es at r
    cases r with
    | nil => exact ⟨rfl, rfl⟩
    | @cons d1 e1 _ _ h1 r =>
      cases r with
      | nil => cases d1 <;> cases e1 <;> exact ⟨rfl, rfl⟩
      | cons h2 r =>
        cases r with
        | nil => cases d1 <;> cases e1 <;> exact ⟨rfl, rfl⟩
        | cons h3 r =>
          cases r with
          | nil =>
            cases d1 with
            | str s =>
              obtain rfl := h1.str
              refine ⟨?_, ?_⟩
              · show (true && (inN ns s && (K14.isR _ && K14.isR _))) = (true && (inN ns s && (K14.isR _ && K14.isR _)))
                rw [h2.isR, h3.isR]
              · show Bx.mk s _ _ = Bx.mk s _ _
                rw [h2.rowI, h3.rowI]
            | _ =>
              cases e1 with
              | str s => cases h1 with | seq _ l2 _ => cases l2
              | _ => exact ⟨rfl, rfl⟩
          | cons h4 r => cases d1 <;> cases e1 <;> exact ⟨rfl, rfl⟩
theorem LqAll.aparts {b : Bx} : ∀ {as bs : List PyData}, LqAll as bs → (as.all fun z => baB b (bxOf z)) = bs.all fun z => baB b (bxOf z)
  | _, _, .nil => rfl
  | _, _, .cons h r => by
    rw [List.all_cons, List.all_cons, r.aparts, (h.box (ns := [])).2]
theorem Lq.new {ns : List Str} {d e : PyData} {as bs : List PyData} (h : Lq d e) (r : LqAll as bs) : newB ns d as = newB ns e bs := by
  unfold newB
  rw [(h.box (ns := ns)).1, (h.box (ns := ns)).2, r.aparts]
theorem Lq.its {d e : PyData} (h : Lq d e) : LqAll (K14.its d) (K14.its e) := by
  cases h with
  | flat l =>
    cases d with
    | list ds => cases l
    | tuple ds => cases l
    | _ => exact .nil
  | seq _ _ r => exact r
theorem Lq.pair {ns : List Str} {d e : PyData} {as bs : List PyData} (h : Lq d e) (r : LqAll as bs) : pairB ns d as = pairB ns e bs := by
  cases h with
  | flat l =>
    unfold pairB
    rw [l]
    rfl
  | seq a b q =>
    unfold pairB
    rw [a, b]
    generalize K14.its d = ds at q
    generalize K14.its e = es at q
    cases q with
    | nil => rfl
    | cons h1 q =>
      cases q with
      | nil => rfl
      | cons h2 q =>
        cases q with
        | nil =>
          show (true && (newB ns _ as && newB ns _ (as ++ [_]))) = (true && (newB ns _ bs && newB ns _ (bs ++ [_])))
          rw [h1.new r, h2.new (r.app (.cons h1 .nil))]
        | cons _ _ => rfl
theorem LqAll.fnp {ns : List Str} : ∀ {r q acc bcc : List PyData} {j : Nat}, LqAll r q → LqAll acc bcc → fnpL ns acc r j = fnpL ns bcc q j
  | _, _, _, _, _, .nil, _ => rfl
  | _, _, acc, bcc, j, .cons (d := d) (e := e) (ds := ds) (es := es) h r, ha => by
    have e1 : fnpL ns acc (d :: ds) j = if pairB ns d acc = true then fnpL ns (acc ++ K14.its d) ds (j + 1) else some j := rfl
    have e2 : fnpL ns bcc (e :: es) j = if pairB ns e bcc = true then fnpL ns (bcc ++ K14.its e) es (j + 1) else some j := rfl
    rw [e1, e2, h.pair ha, r.fnp (ha.app h.its)]
theorem LqAll.fns {ns : List Str} : ∀ {r q acc bcc : List PyData} {j : Nat}, LqAll r q → LqAll acc bcc → fnsL ns acc r j = fnsL ns bcc q j
  | _, _, _, _, _, .nil, _ => rfl
  | _, _, acc, bcc, j, .cons (d := d) (e := e) (ds := ds) (es := es) h r, ha => by
    have e1 : fnsL ns acc (d :: ds) j = if newB ns d acc = true then fnsL ns (acc ++ [d]) ds (j + 1) else some j := rfl
    have e2 : fnsL ns bcc (e :: es) j = if newB ns e bcc = true then fnsL ns (bcc ++ [e]) es (j + 1) else some j := rfl
    rw [e1, e2, h.new ha, r.fns (ha.app (.cons h .nil))]
theorem LqAll.bxs : ∀ {ds es : List PyData}, LqAll ds es → LqAll (T27.bxs ds) (T27.bxs es)
  | _, _, .nil => .nil
  | _, _, .cons h r => by
    have q := LqAll.bxs r
    unfold T27.bxs at q ⊢
    rw [List.flatMap_cons, List.flatMap_cons]
    exact h.its.app q
/-- what is told of a table stays, however its lists are told -/
theorem tab_lq {ns : List Str} {d d' e e' : PyData} (h : Lq d d') (g : Lq e e') : tabB ns d e = tabB ns d' e' := by
  unfold tabB fnpB fnsB
  rw [h.isL, g.isL, h.its.fnp .nil, g.its.fns h.its.bxs]
end K14.T27
namespace K14.T27
open PySem PySem.W PySem.Calls PyProof.Rows L2 LamX
open K14.Gn
/-! ### the law's own way to say it: no two boxes meet -/
def meetB (b c : Bx) : Bool := decide (b.s = c.s) && ((b.x.zip c.x ++ b.y.zip c.y).all fun p => decide (p.1 = p.2))
theorem zip_take : ∀ (xs ys : List Int), ((xs.zip ys).all fun p => decide (p.1 = p.2)) = decide (xs.take (min xs.length ys.length) = ys.take (min xs.length ys.length))
  | [], ys => by simp
  | x :: xs, [] => by simp
  | x :: xs, y :: ys => by
    have e : min (x :: xs).length (y :: ys).length = min xs.length ys.length + 1 := by
      rw [List.length_cons, List.length_cons]
      omega
    rw [e, List.take_succ_cons, List.take_succ_cons, List.zip_cons_cons, List.all_cons, zip_take xs ys]
    by_cases h : x = y
    · simp [h]
    · simp [h]
theorem meet_ba (b c : Bx) : meetB b c = !baB b c := by
  unfold meetB baB apB
  rw [List.all_append, zip_take, zip_take]
  cases decide (b.s = c.s) <;> cases decide (b.x.take (min b.x.length c.x.length) = c.x.take (min b.x.length c.x.length)) <;> cases decide (b.y.take (min b.y.length c.y.length) = c.y.take (min b.y.length c.y.length)) <;> rfl
def newL (ns : List Str) : List PyData → List PyData → Bool
  | _, [] => true
  | acc, z :: r => newB ns z acc && newL ns (acc ++ [z]) r
theorem fns_new (ns : List Str) : ∀ (r acc : List PyData) (j : Nat), (fnsL ns acc r j).isNone = newL ns acc r
  | [], _, _ => rfl
  | z :: r, acc, j => by
    have ef : fnsL ns acc (z :: r) j = if newB ns z acc = true then fnsL ns (acc ++ [z]) r (j + 1) else some j := rfl
    rw [ef]
    show _ = (newB ns z acc && newL ns (acc ++ [z]) r)
    cases newB ns z acc with
    | false => rfl
    | true => exact fns_new ns r (acc ++ [z]) (j + 1)
theorem new_app (ns : List Str) : ∀ (a b acc : List PyData), newL ns acc (a ++ b) = (newL ns acc a && newL ns (acc ++ a) b)
  | [], b, acc => by rw [List.append_nil]; rfl
  | z :: a, b, acc => by
    show (newB ns z acc && newL ns (acc ++ [z]) (a ++ b)) = ((newB ns z acc && newL ns (acc ++ [z]) a) && newL ns (acc ++ (z :: a)) b)
    rw [new_app ns a b (acc ++ [z]), List.append_assoc, Bool.and_assoc]
    rfl
theorem fnp_new (ns : List Str) : ∀ (r acc : List PyData) (j : Nat), (fnpL ns acc r j).isNone = (r.all isP && newL ns acc (bxs r))
  | [], _, _ => rfl
  | z :: r, acc, j => by
    have ef : fnpL ns acc (z :: r) j = if pairB ns z acc = true then fnpL ns (acc ++ its z) r (j + 1) else some j := rfl
    have eb : bxs (z :: r) = its z ++ bxs r := rfl
    have ep : pairB ns z acc = (isP z && newL ns acc (its z)) := by
      unfold pairB isP
      generalize its z = ds
      cases isL z with
      | false => rfl
      | true =>
        match ds with
        | [] => rfl
        | [_] => rfl
        | [a, b] =>
          show (true && (newB ns a acc && newB ns b (acc ++ [a]))) = (true && (newB ns a acc && (newB ns b (acc ++ [a]) && true)))
          rw [Bool.and_true]
        | a :: b :: c :: r =>
          show false = ((true && decide ((a :: b :: c :: r).length = 2)) && newL ns acc (a :: b :: c :: r))
          rw [decide_eq_false (show ¬ (a :: b :: c :: r).length = 2 from fun h => by simp at h)]
          rfl
    rw [ef, eb, new_app, ep, List.all_cons]
    cases isP z with
    | false => rfl
    | true =>
      cases newL ns acc (its z) with
      | false =>
        show false = (r.all isP && (false && _))
        rw [Bool.false_and, Bool.and_false]
      | true => exact fnp_new ns r (acc ++ its z) (j + 1)
/-- of each box whether it meets one ahead -/
def mtL : List PyData → List PyData → List Bool
  | _, [] => []
  | acc, z :: r => (acc.any fun o => meetB (bxOf z) (bxOf o)) :: mtL (acc ++ [z]) r
theorem new_mt (ns : List Str) : ∀ (r acc : List PyData), newL ns acc r = (r.all (boxB ns) && !(mtL acc r).any id)
  | [], _ => rfl
  | z :: r, acc => by
    show (newB ns z acc && newL ns (acc ++ [z]) r) = ((boxB ns z && r.all (boxB ns)) && !((acc.any fun o => meetB (bxOf z) (bxOf o)) || (mtL (acc ++ [z]) r).any id))
    rw [new_mt ns r (acc ++ [z])]
    have e : (acc.all fun o => baB (bxOf z) (bxOf o)) = !(acc.any fun o => meetB (bxOf z) (bxOf o)) := by
      rw [List.all_eq_not_any_not]
      congr 1
      congr 1
      funext o
      rw [meet_ba]
    unfold newB
    rw [e]
    cases boxB ns z <;> cases (acc.any fun o => meetB (bxOf z) (bxOf o)) <;> cases r.all (boxB ns) <;> cases (mtL (acc ++ [z]) r).any id <;> rfl
theorem mt_range : ∀ (r acc : List PyData), mtL acc r = (List.range r.length).map fun j => (acc ++ r.take j).any fun o => meetB (bxOf (r.getD j .none)) (bxOf o)
  | [], _ => rfl
  | z :: r, acc => by
    rw [List.length_cons, List.range_succ_eq_map, List.map_cons, List.map_map]
    show (acc.any fun o => meetB (bxOf z) (bxOf o)) :: mtL (acc ++ [z]) r = _
    rw [mt_range r (acc ++ [z])]
    congr 1
    · simp
    · refine List.map_congr_left fun j _ => ?_
      show ((acc ++ [z] ++ r.take j).any fun o => meetB (bxOf (r.getD j .none)) (bxOf o)) = ((acc ++ (z :: r).take (j + 1)).any fun o => meetB (bxOf ((z :: r).getD (j + 1) .none)) (bxOf o))
      rw [List.take_succ_cons, List.append_assoc]
      rfl
/-- a table, as the law tells it -/
def lawB (ns : List Str) (d e : PyData) : Bool := (isL d && isL e) && ((its d).all isP && ((bxs (its d) ++ its e).all (boxB ns) && !((List.range (bxs (its d) ++ its e).length).map fun j => ((bxs (its d) ++ its e).take j).any fun o => meetB (bxOf ((bxs (its d) ++ its e).getD j .none)) (bxOf o)).any id))
theorem law_tab (ns : List Str) (d e : PyData) : tabB ns d e = lawB ns d e := by
  unfold tabB lawB fnpB fnsB
  cases isL d with
  | false => rfl
  | true =>
    cases isL e with
    | false =>
      show ((fnpL ns [] (its d) 0).isNone && false) = false
      rw [Bool.and_false]
    | true =>
      have e1 := mt_range (bxs (its d) ++ its e) []
      show ((fnpL ns [] (its d) 0).isNone && (fnsL ns (bxs (its d)) (its e) 0).isNone) = ((its d).all isP && _)
      rw [fnp_new, fns_new, Bool.and_assoc]
      congr 1
      have e2 := new_mt ns (bxs (its d) ++ its e) []
      rw [new_app, e1] at e2
      exact e2
end K14.T27
namespace K14.Gn
open PySem PySem.W PySem.Calls PyProof.Rows L2 LamX
open Kz (same_new small4)
mutual
/-- data never stands in a table of code, nor in a place that was free -/
theorem Th.hid {D : Addr} {H H2 : Hp} (n : H D = none) (e : L2.Same H H2) : ∀ {v : V} {d : PyData}, Th H v d → Th (Hid [D] H2) v d
  | _, _, .non => .non
  | _, _, .bl b => .bl b
  | _, _, .int i => .int i
  | _, _, .str x => .str x
  | _, _, .lst h r => .lst (hid_of (by simpa using ne_of_none h n) (e _ _ h) fun ps z => nomatch z) (ThAll.hid n e r)
  | _, _, .tup h r => .tup (hid_of (by simpa using ne_of_none h n) (e _ _ h) fun ps z => nomatch z) (ThAll.hid n e r)
  | _, _, .dct h r => .dct (hid_of (by simpa using ne_of_none h n) (e _ _ h) fun ps z => nomatch z) (ThKv.hid n e r)
theorem ThAll.hid {D : Addr} {H H2 : Hp} (n : H D = none) (e : L2.Same H H2) : ∀ {v : List V} {d : List PyData}, ThAll H v d → ThAll (Hid [D] H2) v d
  | _, _, .nil => .nil
  | _, _, .cons h r => .cons (Th.hid n e h) (ThAll.hid n e r)
theorem ThKv.hid {D : Addr} {H H2 : Hp} (n : H D = none) (e : L2.Same H H2) : ∀ {v : List (Key × V)} {d : List (PyData × PyData)}, ThKv H v d → ThKv (Hid [D] H2) v d
  | _, _, .nil => .nil
  | _, _, .cons h r => .cons (Th.hid n e h) (ThKv.hid n e r)
end
/-- a comprehension over data, each element data again -/
theorem lc_th {K : Frag} {k : Nat} {d : PyData} {σ : L2.St} {H : Hp} {tl te : TE} {vs : List Nat} {Q : VK} (f : PyData → PyData) (ht : ∀ R : VK, (∀ (v' : V) (G0 : Hp), L2.Same H G0 → Th G0 v' d → R v' G0) → tl σ H R) (l : isL d = true) (len : (its d).length ≤ 100000)
    (hw : ∀ x : V, wipe ((wipe σ vs).set k (some x)) vs = wipe σ vs)
    (hs : ∀ (D : Addr) (j : Nat) (z : PyData) (x : V) (G : Hp) (Q' : VK), (its d)[j]? = some z → L2.Same H G → (∃ o, G D = some o) → Th (Hid [D] G) x z → (∀ (G' : Hp) (y : V), L2.Same G G' → Th (Hid [D] G') y (f z) → Q' y G') → te ((wipe σ vs).set k (some x)) G Q')
    (hq : ∀ (G : Hp) (D : Addr), L2.Same H G → H D = none → Th G (.ref D) (.list ((its d).map f)) → Q (.ref D) G) : tLc (iSq K tl) (gName k) tYes te vs σ H Q := by
  let Pv (G0 : Hp) (D : Addr) (j : Nat) (H2 : Hp) : Prop := L2.Same G0 H2 ∧ ∃ ys, H2 D = some (.lst ys) ∧ ys.length = j ∧ ThAll (Hid [D] H2) ys (((its d).take j).map f)
  have step : ∀ (G0 : Hp) (xs : List V), L2.Same H G0 → ThAll G0 xs (its d) → ∀ (D : Addr), G0 D = none → ∀ (i : Nat) (x : V) (H2 : Hp), xs[i]? = some x → Pv G0 D i H2 →
      (wipe ((wipe σ vs).set k (some x)) vs = wipe σ vs ∧ tYes ((wipe σ vs).set k (some x)) H2 fun c H3 => if c = true then te ((wipe σ vs).set k (some x)) H3 fun y H4 => ∃ acc, H4 D = some (.lst acc) ∧ acc.length < sizeLine ∧ Pv G0 D (i + 1) (upd H4 D (.lst (acc ++ [y]))) else Pv G0 D (i + 1) H3) := by
    intro G0 xs s0 r D hD i x H2 hi ⟨S, ys, hA, ly, ty⟩
    obtain ⟨z, hz, tz⟩ := r.get hi
    refine ⟨hw x, ?_⟩
    unfold tYes
    show (if true = true then _ else _)
    rw [if_pos rfl]
    have il : i < (its d).length := (List.getElem?_eq_some_iff.mp hz).1
    refine hs D i z x H2 _ hz (s0.trans S) ⟨_, hA⟩ (Th.hid hD S tz) fun H4 y s4 t4 => ⟨ys, s4 _ _ hA, by rw [ly, sizeLine_eq]; omega, fun c o e => ?_, ys ++ [y], upd_same, by rw [List.length_append, ly]; rfl, ?_⟩
    · rw [upd_ne (ne_of_none e hD)]
      exact s4 _ _ (S _ _ e)
    · have et : (its d).take (i + 1) = (its d).take i ++ [z] := by
        rw [List.take_add_one, hz]
        rfl
      rw [et, List.map_append]
      exact ThAll.snoc (t4.ext (hid_upd (List.mem_cons_self ..))) ((ty.ext (hid_same s4)).ext (hid_upd (List.mem_cons_self ..)))
  have start : ∀ (G0 : Hp) (D : Addr), G0 D = none → Pv G0 D 0 (upd G0 D (.lst [])) := fun G0 D hD => ⟨same_new hD, [], upd_same, rfl, .nil⟩
  have fin : ∀ (G0 : Hp) (xs : List V), L2.Same H G0 → ThAll G0 xs (its d) → ∀ (D : Addr), G0 D = none → ∀ (H2 : Hp), Pv G0 D xs.length H2 → Q (.ref D) H2 := fun G0 xs s0 r D hD H2 ⟨S, ys, hA, ly, ty⟩ => by
    rw [r.length, List.take_length] at ty
    exact hq H2 D (s0.trans S) (s0.free hD) (.lst hA (ty.ext hid_up))
  cases d with
  | list ds =>
    refine .inl (ht _ fun v' G0 s0 t0 => ?_)
    cases t0 with
    | @lst a xs _ hx r => exact ⟨a, rfl, ⟨xs, .inl (.inl hx)⟩, fun D hD => lc_list (xs := xs) (Pv G0 D) (start G0 D hD) (fun i H2 _ e => .inl (.inl (e.1 _ _ hx))) (fun i x H2 hi e => step G0 xs s0 r D hD i x H2 hi e) (fun H2 e => fin G0 xs s0 r D hD H2 e)⟩
  | tuple ds =>
    refine .inr (ht _ fun v' G0 s0 t0 => ?_)
    cases t0 with
    | @tup a xs _ hx r => exact ⟨a, rfl, ⟨xs, .inl (.inl hx)⟩, fun D hD => lc_tup (xs := xs) (Pv G0 D) (start G0 D hD) (fun i H2 _ e => .inl (.inl (e.1 _ _ hx))) (fun i x H2 hi e => step G0 xs s0 r D hD i x H2 hi e) (fun H2 e => fin G0 xs s0 r D hD H2 e)⟩
  | _ => exact absurd (show false = true from l) Bool.false_ne_true
/-- truths over enumerate(data) -/
theorem lc_enB {K : Frag} {i1 i2 : Nat} {v : V} {d : PyData} {σ : L2.St} {H : Hp} {tl te : TE} {vs : List Nat} (b : Nat → PyData → Bool) {Q : VK} (ht : ∀ R : VK, R v H → tl σ H R) (t : Th H v d) (l : isL d = true) (len : (its d).length ≤ 100000)
    (hw : ∀ x y : V, wipe (((wipe σ vs).set i1 (some x)).set i2 (some y)) vs = wipe σ vs)
    (hs : ∀ (j : Nat) (z : PyData) (x : V) (G : Hp) (Q' : VK), (its d)[j]? = some z → L2.Same H G → Th G x z → (∀ G', L2.Same G G' → Q' (.bl (b j z)) G') → te (((wipe σ vs).set i1 (some (.int (j : Nat)))).set i2 (some x)) G Q')
    (hq : ∀ (G : Hp) (D : Addr), L2.Same H G → G D = some (.lst (((List.range (its d).length).map fun j => b j ((its d).getD j .none)).map V.bl)) → Q (.ref D) G) :
    tLc (EnT.iEnB K (tCons tl tNil)) (gTup K 2 (gCons (gName i1) (gCons (gName i2) gNil))) tYes te vs σ H Q := by
  obtain ⟨a, xs, rfl, r, hx⟩ := t.seq (K := K) l
  have lx : xs.length = (its d).length := r.length
  let bl (n : Nat) : List Bool := (List.range n).map fun j => b j ((its d).getD j .none)
  have go : ∀ (D : Addr), H D = none → ∀ (j : Nat) (x : V) (G G' : Hp), j < xs.length → (L2.Same H G ∧ G D = some (.lst ((bl j).map V.bl))) → YPair (fun j => some (.int (j : Nat))) (fun j => xs[j]?) j G x G' →
      gTup K 2 (gCons (gName i1) (gCons (gName i2) gNil)) x (wipe σ vs) G' fun σ2 H2 => wipe σ2 vs = wipe σ vs ∧ tYes σ2 H2 fun c H3 => if c = true then te σ2 H3 fun y H4 => ∃ acc, H4 D = some (.lst acc) ∧ acc.length < sizeLine ∧ (L2.Same H (upd H4 D (.lst (acc ++ [y]))) ∧ (upd H4 D (.lst (acc ++ [y]))) D = some (.lst ((bl (j + 1)).map V.bl))) else (L2.Same H H3 ∧ H3 D = some (.lst ((bl (j + 1)).map V.bl))) := by
    intro D hD j x G G' hj ⟨S, hA⟩ ⟨T, p, y, ex, nT, eG, ep, ey⟩
    obtain ⟨z, hz, tz⟩ := r.get ey
    subst ex eG
    obtain rfl : V.int (j : Nat) = p := Option.some.inj ep
    have sT := same_new (o := .tup [.int (j : Nat), y]) nT
    refine ⟨T, _, rfl, .inl (.inl upd_same), rfl, _, _, rfl, _, _, rfl, rfl, hw _ _, ?_⟩
    unfold tYes
    show (if true = true then _ else _)
    rw [if_pos rfl]
    refine hs j z y _ _ hz (S.trans sT) (tz.ext (S.trans sT)) fun H4 s4 => ⟨_, s4 _ _ (sT _ _ hA), ?_, fun c o e => ?_, ?_⟩
    · show ((bl j).map V.bl).length < _
      rw [List.length_map, List.length_map, List.length_range, sizeLine_eq]
      omega
    · rw [upd_ne (ne_of_none e hD)]
      exact s4 _ _ (sT _ _ (S _ _ e))
    · rw [upd_same]
      have e1 : bl (j + 1) = bl j ++ [b j z] := by
        show (List.range (j + 1)).map _ = _
        rw [List.range_succ, List.map_append]
        show bl j ++ [b j ((its d).getD j .none)] = _
        rw [List.getD_eq_getElem?_getD, hz]
        rfl
      rw [e1, List.map_append]
      rfl
  have fin : ∀ (D : Addr) (G : Hp), (L2.Same H G ∧ G D = some (.lst ((bl xs.length).map V.bl))) → Q (.ref D) G := fun D G ⟨S, hA⟩ => by
    rw [lx] at hA
    exact hq G D S hA
  refine ht _ ⟨a, xs, rfl, ?_⟩
  rcases hx with hx | hx
  · exact .inl ⟨.inl (.inl hx), fun D hD => lc_it walk_enum (fun j G => L2.Same H G ∧ G D = some (.lst ((bl j).map V.bl))) ⟨same_new hD, upd_same⟩ (fun j G _ p => .inl (.inl (p.1 _ _ hx))) (fun j x G G' hj p y => go D hD j x G G' hj p y) (fun G p => fin D G p)⟩
  · exact .inr ⟨.inl (.inl hx), fun D hD => lc_it EnT.walk_enT (fun j G => L2.Same H G ∧ G D = some (.lst ((bl j).map V.bl))) ⟨same_new hD, upd_same⟩ (fun j G _ p => .inl (.inl (p.1 _ _ hx))) (fun j x G G' hj p y => go D hD j x G G' hj p y) (fun G p => fin D G p)⟩
theorem lc_enAny {K : Frag} {i1 i2 : Nat} {v : V} {d : PyData} {σ : L2.St} {H : Hp} {tl te : TE} {vs : List Nat} (b : Nat → PyData → Bool) {Q : VK} (ht : ∀ R : VK, R v H → tl σ H R) (t : Th H v d) (l : isL d = true) (len : (its d).length ≤ 100000)
    (hw : ∀ x y : V, wipe (((wipe σ vs).set i1 (some x)).set i2 (some y)) vs = wipe σ vs)
    (hs : ∀ (j : Nat) (z : PyData) (x : V) (G : Hp) (Q' : VK), (its d)[j]? = some z → L2.Same H G → Th G x z → (∀ G', L2.Same G G' → Q' (.bl (b j z)) G') → te (((wipe σ vs).set i1 (some (.int (j : Nat)))).set i2 (some x)) G Q')
    (hq : ∀ G : Hp, L2.Same H G → Q (.bl (((List.range (its d).length).map fun j => b j ((its d).getD j .none)).any id)) G) :
    tCB (rAny K) (tCons (tLc (EnT.iEnB K (tCons tl tNil)) (gTup K 2 (gCons (gName i1) (gCons (gName i2) gNil))) tYes te vs) tNil) σ H Q := by
  unfold tCB tCons tNil
  exact lc_enB b ht t l len hw hs fun G D S hA => ⟨D, _, rfl, .inl (.inl hA), hq G S⟩
theorem catS {ta tb : TE} {g : TG} {u : TS} {D : Ends} {σ : L2.St} {H : Hp} (h : ta σ H fun x H1 => tb σ H1 fun y H2 => rCat x y H2 fun z H3 => g z σ H3 fun σ2 H4 => u D σ2 H4) : tSeq (tAsg (tOp rCat ta tb) g) u D σ H := h
theorem cbS {r : List V → Hp → VK → Prop} {t1 : TE} {t2 : TA} {σ : L2.St} {H : Hp} {Q : VK} (h : t1 σ H fun x H1 => t2 σ H1 fun xs H2 => r (x :: xs) H2 Q) : tCB r (tCons t1 t2) σ H Q := h
theorem notV {te : TE} {σ : L2.St} {H : Hp} {Q : VK} (h : te σ H fun x G => ∃ c, x = .bl c ∧ Q (.bl (!c)) G) : tNotV te σ H Q := h
/-- lists of lists, flat -/
theorem thAll_flat {G : Hp} : ∀ {ds : List PyData} {ys : List V}, ThAll G ys (ds.map fun z => PyData.list (its z)) → ∃ (as : List Addr) (xss : List (List V)), ys = as.map V.ref ∧ as.length = xss.length ∧ (∀ (j : Nat) (a : Addr) (xs : List V), as[j]? = some a → xss[j]? = some xs → G a = some (.lst xs)) ∧ ThAll G xss.flatten (ds.flatMap its)
  | [], ys, h => by
    cases h
    exact ⟨[], [], rfl, rfl, fun j a xs h => by simp at h, .nil⟩
  | d :: ds, ys, h => by
    cases h with
    | @cons y ys' _ _ h1 h2 =>
      obtain ⟨as, xss, e1, e2, e3, e4⟩ := thAll_flat h2
      cases h1 with
      | @lst a xs _ ha r =>
        refine ⟨a :: as, xs :: xss, by rw [e1]; rfl, by rw [List.length_cons, List.length_cons, e2], fun j b zs h1 h2 => ?_, ?_⟩
        · cases j with
          | zero =>
            obtain rfl := Option.some.inj h1
            obtain rfl := Option.some.inj h2
            exact ha
          | succ j => exact e3 j b zs h1 h2
        · rw [List.flatten_cons, List.flatMap_cons]
          exact T27.th_app r e4
end K14.Gn
namespace K14.SuL
open PySem PySem.W PySem.Calls PyProof.Rows L2
/-! ### sum of lists, with a list to begin with -/
theorem sub_ls : isSubtype (.type "list") (.type "str") = pure false := by rw [isSubtype_type]; kernel_rfl
theorem sub_lb : isSubtype (.type "list") (.type "bytes") = pure false := by rw [isSubtype_type]; kernel_rfl
theorem sub_la : isSubtype (.type "list") (.type "bytearray") = pure false := by rw [isSubtype_type]; kernel_rfl
theorem args_sum2 (a b : Value) : argsOk "sum" ⟨[a, b], []⟩ := by unfold argsOk; kernel_rfl
def cat (its : Nat → List Value) : Nat → List Value
  | 0 => []
  | n + 1 => cat its n ++ its n
theorem cat_le (its : Nat → List Value) : ∀ {i n : Nat}, i ≤ n → (cat its i).length ≤ (cat its n).length := by
  intro i n h
  induction n with
  | zero => rw [Nat.le_zero.mp h]; exact Nat.le_refl _
  | succ n ih =>
    rcases Nat.lt_or_ge n i with q | q
    · rw [show i = n + 1 by omega]; exact Nat.le_refl _
    · refine Nat.le_trans (ih q) ?_
      show (cat its n).length ≤ (cat its n ++ its n).length
      rw [List.length_append]
      omega
section
variable {prog : Program} {w : World} {A : Around} {R : Result → Shared → Prop} {I : Addr} {fp wr : List Addr} {n : Nat} {P : Nat → Value → Prop} {St : Nat → Heap → Prop}
theorem suml_loop (W : Walks prog w A.in1 I fp wr n P St) (ads : Nat → Addr) (its : Nat → List Value) (nn : Nat → Nat) (hval : ∀ (i : Nat) (v : Value), P i v → v = Value.ref (ads i)) (S : Addr) (hSf : S ∉ fp) (h₀ : Heap) (hin : ∀ i, i < n → IsL h₀ (ads i) (its i).toArray (nn i)) (hout : ∀ i, i < n → ads i ∉ wr ∧ ads i ≠ S) (hlen : (cat its n).length ≤ sizeLine) (hw : ∀ i h, St i h → ∀ b ∈ wr, b < h.objs.size) :
    ∀ (k i : Nat) (s : Shared) (r : Addr) (c m : Nat), n - i = k → i ≤ n → St i s.heap → (∀ b o, b ∉ wr → b ≠ S → h₀.get? b = some o → s.heap.get? b = some o) →
      s.heap.get? S = some { cls := .type "list", dict := none, data := .seq #[.ref r] c, slots := #[] } → IsL s.heap r (cat its i).toArray m → r ∉ wr → r ≠ S →
      (∀ h' tk r' m', (∀ b o, b ∉ wr → b ≠ S → h₀.get? b = some o → h'.get? b = some o) → IsL h' r' (cat its n).toArray m' → ((n = i ∧ r' = r) ∨ (i < n ∧ h₀.get? r' = none ∧ r' ≠ S)) → R (.ok (.ret (.ref r'))) { s with heap := h', toks := tk }) →
      codeAny (model prog w) A (.builtin "sum.loop" ⟨[.ref I, .ref S, rawInt 2, rawInt 0], []⟩) R s := by
  have hSw : S ∉ wr := fun h => hSf (W.sub _ h)
  intro k
  induction k with
  | zero =>
    intro i s r c m hk hi hst hkp hS hr rw_ rS hR
    have hin' : i = n := by omega
    subst hin'
    refine codeAny_builtin F.entry_sum_loop ?_
    rw [Around.under_plainId F.plain_sum_loop _]
    show wpAny _ A.in1 (seqItems? (.ref S) >>= _) _ _ s
    refine wpAny_bind (wpAny_seqItems hS rfl ?_)
    show wpAny _ A.in1 (tryCatch (pyNext (.ref I)) _ >>= _) _ _ s
    refine wpAny_bind (wpAny_tryCatch (W.done s _ _ hst fun h' tk hk' => ?_))
    exact wpAny_pure (hR h' tk r m (fun b o h1 h2 e => hk' b o h1 (hkp b o h1 h2 e)) (hk' r _ rw_ hr) (.inl ⟨rfl, rfl⟩))
  | succ k ih =>
    intro i s r c m hk hi hst hkp hS hr rw_ rS hR
    have hlt : i < n := by omega
    refine codeAny_builtin F.entry_sum_loop ?_
    rw [Around.under_plainId F.plain_sum_loop _]
    show wpAny _ A.in1 (seqItems? (.ref S) >>= _) _ _ s
    refine wpAny_bind (wpAny_seqItems hS rfl ?_)
    show wpAny _ A.in1 (tryCatch (pyNext (.ref I)) _ >>= _) _ _ s
    refine wpAny_bind (wpAny_tryCatch (W.item i s _ _ hlt hst fun v h' tk hP hst' hk' => ?_))
    obtain rfl := hval i v hP
    have hS' := hk' S _ hSw hS
    have hr' : IsL h' r (cat its i).toArray m := hk' r _ rw_ hr
    obtain ⟨o1, o2⟩ := hout i hlt
    have hi' : IsL h' (ads i) (its i).toArray (nn i) := hk' _ _ o1 (hkp _ _ o1 o2 (hin i hlt))
    have hz : (cat its (i + 1)).length ≤ sizeLine := Nat.le_trans (cat_le its hlt) hlen
    have hz2 : (cat its i).length + (its i).length ≤ sizeLine := by
      have : (cat its (i + 1)).length = (cat its i).length + (its i).length := by
        show (cat its i ++ its i).length = _
        rw [List.length_append]
      omega
    show wpAny _ A.in1 ((holding [Value.ref (ads i)] (binaryOp .Add (.ref r) (.ref (ads i)))).attempt >>= _) _ _ _
    refine wpAny_bind (wpAny_attempt (wpAny_holding (PySem.P.add_list (s := { s with heap := h', toks := tk }) hr' hi' ?_ (by rw [List.size_toArray, List.size_toArray]; exact hz2))))
    have ea : (cat its i).toArray ++ (its i).toArray = (cat its (i + 1)).toArray := by
      show _ = (cat its i ++ its i).toArray
      simp
    rw [ea]
    have hSl : S < h'.objs.size := Heap.lt_size hS'
    have rl : r < h'.objs.size := Heap.lt_size hr'
    have kpush : ∀ b o, h'.get? b = some o → (h'.push { cls := .type "list", data := .seq (cat its (i + 1)).toArray }).get? b = some o := fun b o e => Heap.get?_push_of_some _ e
    have hnew : IsL (h'.push { cls := .type "list", data := .seq (cat its (i + 1)).toArray }) h'.objs.size (cat its (i + 1)).toArray 0 := IsL.new _ _
    have hsz : (h'.push { cls := .type "list", data := .seq (cat its (i + 1)).toArray }).objs.size = h'.objs.size + 1 := Heap.size_push ..
    generalize hg : h'.push { cls := .type "list", data := .seq (cat its (i + 1)).toArray } = h2 at kpush hnew hsz
    have hS2 := kpush S _ hS'
    show wpAny _ A.in1 (updateSeq S (fun _ => #[.ref h'.objs.size]) >>= _) _ _ _
    refine wpAny_bind ?_
    refine wpAny_updateSeq hS2 rfl ?_
    have hS3 := Heap.get?_update_self (Obj.mapSeq fun _ => #[Value.ref h'.objs.size]) hS2 rfl
    refine wpAny_bind (wpAny_letGo ?_)
    refine wpAny_bind ?_
    refine wpAny_updateSeq hS3 rfl (wpAny_pure ⟨plainId_quiet F.plain_sum_loop _, ih (i + 1) _ h'.objs.size _ 0 (by omega) hlt (W.frame _ _ _ hst' fun b hb o e => ?_) (fun b o h1 h2 e => ?_) (Heap.get?_update_self _ hS3 rfl) ?_ ?_ (Nat.ne_of_gt hSl) fun h'' tk'' r'' m'' hk'' hr'' hc => ?_⟩)
    · exact (Heap.get?_update_other _ _ (fun h : S = b => hSf (by rw [h]; exact hb))).trans ((Heap.get?_update_other _ _ (fun h : S = b => hSf (by rw [h]; exact hb))).trans (kpush b o e))
    · exact (Heap.get?_update_other _ _ (Ne.symm h2)).trans ((Heap.get?_update_other _ _ (Ne.symm h2)).trans (kpush b o (hk' b o h1 (hkp b o h1 h2 e))))
    · exact (Heap.get?_update_other _ _ (Nat.ne_of_lt hSl)).trans ((Heap.get?_update_other _ _ (Nat.ne_of_lt hSl)).trans hnew)
    · intro hm
      exact Nat.lt_irrefl _ (hw _ _ hst' _ hm)
    · rcases hc with ⟨e1, e2⟩ | ⟨e1, e2, e3⟩
      · refine hR h'' tk'' r'' m'' hk'' hr'' (.inr ⟨hlt, ?_, ?_⟩)
        · rw [e2]
          cases q : h₀.get? h'.objs.size with
          | none => rfl
          | some o => exact absurd (Heap.lt_size (hk' _ _ (fun hm => Nat.lt_irrefl _ (hw _ _ hst' _ hm)) (hkp _ _ (fun hm => Nat.lt_irrefl _ (hw _ _ hst' _ hm)) (Nat.ne_of_gt hSl) q))) (Nat.lt_irrefl _)
        · rw [e2]
          exact Nat.ne_of_gt hSl
      · exact hR h'' tk'' r'' m'' hk'' hr'' (.inr ⟨hlt, e2, e3⟩)
end
section
variable {prog : Program} {w : World} {A : Around} {E : Value → Shared → Prop} {s : Shared}
theorem call_suml {l q : Addr} {n nq : Nat} {ads : Nat → Addr} {items : Array Value} {Q : Value → Shared → Prop} (its : Nat → List Value) (nn : Nat → Nat) (hh : A.handled = none) (hl : s.heap.IsList l items) (sz : items.size = n) (hval : ∀ (i : Nat) (v : Value), items[i]? = some v → v = Value.ref (ads i)) (hq : IsL s.heap q #[] nq)
    (hin : ∀ i, i < n → IsL s.heap (ads i) (its i).toArray (nn i)) (hlen : (cat its n).length ≤ sizeLine)
    (hQ : ∀ h' tk r' m', (∀ b o, s.heap.get? b = some o → h'.get? b = some o) → IsL h' r' (cat its n).toArray m' → ((n = 0 ∧ r' = q) ∨ (0 < n ∧ s.heap.get? r' = none)) → Q (.ref r') { s with heap := h', toks := tk }) :
    wpAny (model prog w) A (call (.builtin "sum") [.ref l, .ref q]) Q E s := by
  refine call_function_tree F.kind_sum F.plain_sum F.entry_sum (args_sum2 _ _) ?_
  unfold Builtin.«sum»
  simp only [List.length_cons, List.length_nil]
  rw [if_neg (by decide)]
  refine wpAny_bind (wpAny_of_eq (show Builtin.Builtins.bindParams "sum" ["start"] 0 ⟨[.ref q], []⟩ = pure [some (.ref q)] from rfl) ?_)
  refine wpAny_bind (wpAny_pyIter_list hl ?_)
  have hlt : l < s.heap.objs.size := by obtain ⟨_, e, _⟩ := hl; exact Heap.lt_size e
  have k1 : ∀ b o, s.heap.get? b = some o → (s.heap.push { cls := .type "list_iterator", data := .fields #[.ref l, .int 0 0] }).get? b = some o := fun b o e => Heap.get?_push_of_some _ e
  have hq1 := k1 q _ hq
  have st0 : (s.heap.push { cls := .type "list_iterator", data := .fields #[.ref l, .int 0 0] }).IsListIter s.heap.objs.size l 0 ∧ (s.heap.push { cls := .type "list_iterator", data := .fields #[.ref l, .int 0 0] }).IsList l items := ⟨⟨_, Heap.get?_push_size _ rfl, rfl, rfl⟩, hl.push _⟩
  have z1 : (s.heap.push { cls := .type "list_iterator", data := .fields #[.ref l, .int 0 0] }).objs.size = s.heap.objs.size + 1 := Heap.size_push ..
  generalize s.heap.push { cls := .type "list_iterator", data := .fields #[.ref l, .int 0 0] } = h1 at k1 hq1 st0 z1
  refine wpAny_bind (wpAny_pure ?_)
  simp only [List.forIn_cons, List.forIn_nil]
  have tyq : Shared.TypeIs { s with heap := h1 } (.ref q) "list" := ⟨_, hq1, rfl⟩
  refine wpAny_bind (wpAny_bind (wpAny_bind (wpAny_isInstance (T := "list") (b := false) tyq sub_ls ?_)))
  simp only [Bool.false_eq_true, if_false]
  refine wpAny_pure (wpAny_bind (wpAny_bind (wpAny_isInstance (T := "list") (b := false) tyq sub_lb ?_)))
  simp only [Bool.false_eq_true, if_false]
  refine wpAny_pure (wpAny_bind (wpAny_bind (wpAny_isInstance (T := "list") (b := false) tyq sub_la ?_)))
  simp only [Bool.false_eq_true, if_false]
  refine wpAny_pure (wpAny_pure ?_)
  refine wpAny_bind (wpAny_newObj_type ?_)
  have W := Walks.list (prog := prog) (w := w) (A := A.in1) hh s.heap.objs.size l (Nat.ne_of_lt hlt) items
  rw [sz] at W
  have low : ∀ b o, s.heap.get? b = some o → b ≠ s.heap.objs.size ∧ b ≠ h1.objs.size := fun b o e => by
    exact ⟨Nat.ne_of_lt (Heap.lt_size e), Nat.ne_of_lt (Nat.lt_of_lt_of_le (Heap.lt_size e) (by rw [z1]; exact Nat.le_succ _))⟩
  have hSf : h1.objs.size ∉ [s.heap.objs.size, l] := fun hm => by
    have : h1.objs.size = s.heap.objs.size ∨ h1.objs.size = l := by simpa using hm
    rw [z1] at this
    rcases this with q | q
    · exact Nat.succ_ne_self _ q
    · rw [← q] at hlt
      exact Nat.lt_irrefl _ (Nat.lt_of_le_of_lt (Nat.le_succ _) hlt)
  refine wpAny_pure ⟨plainId_quiet F.plain_sum_loop _, suml_loop W ads its nn hval h1.objs.size hSf s.heap hin (fun i hi => ?_) hlen (fun i h st b hb => ?_) n 0 _ q 0 nq rfl (Nat.zero_le _)
    (W.frame _ _ _ st0 fun b _ o e => Heap.get?_push_of_some _ e) (fun b o _ _ e => Heap.get?_push_of_some _ (k1 b o e)) (Heap.get?_push_size _ rfl) (Heap.get?_push_of_some _ hq1) ?_ ?_ fun h' tk r' m' hk hr hc => ?_⟩
  · obtain ⟨a1, a2⟩ := low _ _ (hin i hi)
    exact ⟨by simpa using a1, a2⟩
  · rw [List.mem_singleton.mp hb]
    obtain ⟨⟨_, e, _⟩, _⟩ := st
    exact Heap.lt_size e
  · simpa using (low _ _ hq).1
  · exact (low _ _ hq).2
  · refine hQ h' tk r' m' (fun b o e => hk b o (by simpa using (low b o e).1) (low b o e).2 e) hr ?_
    rcases hc with ⟨a, b⟩ | ⟨a, b, _⟩
    · exact .inl ⟨a, b⟩
    · exact .inr ⟨a, b⟩
end
def rSumL : List V → Hp → VK → Prop := fun vs H Q => ∃ (p q : Addr) (as : List Addr) (xss : List (List V)), vs = [.ref p, .ref q] ∧ H p = some (.lst (as.map V.ref)) ∧ H q = some (.lst []) ∧ as.length = xss.length ∧ (∀ (j : Nat) (a : Addr) (xs : List V), as[j]? = some a → xss[j]? = some xs → H a = some (.lst xs)) ∧ xss.flatten.length ≤ sizeLine ∧
  (as = [] → Q (.ref q) H) ∧ (as ≠ [] → ∀ r, H r = none → Q (.ref r) (upd H r (.lst xss.flatten)))
theorem cat_vals (its : Nat → List Value) : ∀ (xss : List (List V)), (∀ (j : Nat) (xs : List V), xss[j]? = some xs → Vals xs (its j)) → Vals xss.flatten (cat its xss.length) := by
  intro xss
  suffices h : ∀ n, n ≤ xss.length → (∀ (j : Nat) (xs : List V), xss[j]? = some xs → Vals xs (its j)) → Vals (xss.take n).flatten (cat its n) by
    intro hj
    have := h xss.length (Nat.le_refl _) hj
    rwa [List.take_length] at this
  intro n
  induction n with
  | zero => intro _ _; exact .nil
  | succ n ih =>
    intro hn hj
    have g := List.getElem?_eq_getElem (l := xss) (i := n) (by omega)
    rw [List.take_add_one, g]
    show Vals (xss.take n ++ [xss[n]]).flatten (cat its n ++ its n)
    rw [List.flatten_append]
    have e : [xss[n]].flatten = xss[n] := by simp
    rw [e]
    exact (ih (by omega) hj).append (hj n _ g)
section
variable {X : Cx}
theorem cr_sumL (hc : X.calm = true) : CallR X (.builtin "sum") rSumL := by
  intro pins s σ H vs us Q I r h
  obtain ⟨p, q, as, xss, rfl, hp, hq, hl, hin, hz, q0, q1⟩ := h
  cases r with
  | cons r rr =>
    cases rr with
    | cons r' rr =>
      cases rr
      cases r
      cases r'
      obtain ⟨zp, ips, np, rp, lp, ep⟩ := I.lstM hp
      obtain ⟨zq, iqs, nq, rq, lq, eq⟩ := I.lstM hq
      cases rq
      have ex : ∀ j : Nat, ∃ y : List Value × Nat, ∀ a xs, as[j]? = some a → xss[j]? = some xs → Vals xs y.1 ∧ IsL s.heap a y.1.toArray y.2 := fun j => by
        cases e1 : as[j]? with
        | none => exact ⟨⟨[], 0⟩, fun a xs h => nomatch h⟩
        | some a =>
          cases e2 : xss[j]? with
          | none => exact ⟨⟨[], 0⟩, fun a xs _ h => nomatch h⟩
          | some xs =>
            obtain ⟨_, its, n, rv, _, e⟩ := I.lstM (hin j a xs e1 e2)
            exact ⟨⟨its, n⟩, fun a' xs' h1 h2 => by cases h1; cases h2; exact ⟨rv, e⟩⟩
      obtain ⟨f, hf⟩ := Classical.axiomOfChoice ex
      have lps : ips.length = as.length := by rw [← rp.length, List.length_map]
      have cv := cat_vals (fun j => (f j).1) xss fun j xs hx => by
        have hj : j < xss.length := (List.getElem?_eq_some_iff.mp hx).1
        exact (hf j as[j] xs (List.getElem?_eq_getElem (by omega)) hx).1
      refine call_suml (n := as.length) (nq := nq) (ads := fun j => as.getD j 0) (items := ips.toArray) (fun j => (f j).1) (fun j => (f j).2) (I.ok.hd hc) (IsL.isList ep) (by rw [List.size_toArray, lps]) (fun j v hv => ?_) eq (fun j hj => ?_) ?_ fun h' tk r' m' hk hr hcase => ?_
      · have hv : ips[j]? = some v := by simpa using hv
        have hj : j < as.length := by rw [← lps]; exact (List.getElem?_eq_some_iff.mp hv).1
        have hg : (as.map V.ref)[j]? = some (.ref as[j]) := by rw [List.getElem?_map, List.getElem?_eq_getElem hj]; rfl
        obtain ⟨u, hu, ru⟩ := rp.get hg
        rw [hv] at hu
        obtain rfl := Option.some.inj hu
        have : v = Value.ref as[j] := ru
        rw [this, List.getD_eq_getElem?_getD, List.getElem?_eq_getElem hj]
        rfl
      · have g1 := List.getElem?_eq_getElem hj
        have g2 := List.getElem?_eq_getElem (l := xss) (i := j) (by omega)
        have := (hf j _ _ g1 g2).2
        rw [List.getD_eq_getElem?_getD, g1]
        exact this
      · rw [hl, ← cv.length]
        exact hz
      · rcases hcase with ⟨n0, rfl⟩ | ⟨n0, nw⟩
        · exact ⟨.ref r', H, I.kept hk, rfl, q0 (List.eq_nil_of_length_eq_zero n0)⟩
        · have nH : H r' = none := I.hok.gone nw
          rw [hl] at hr
          refine ⟨.ref r', upd H r' (.lst xss.flatten), I.laidN hk nw nH ⟨hz, _, m', cv, hr⟩, rfl, q1 (fun z => ?_) r' nH⟩
          rw [z] at n0
          exact absurd n0 (by decide)
end
end K14.SuL
namespace K14.ZiL
open PySem PySem.W PySem.Calls PyProof.Rows L2
/-! ### list(zip(a, b)) of two lists -/
theorem zip_no_len : typeLookup (.type "zip") "__len__" = pure none := by rw [typeLookup_type, builtinLookup_eq_fast]; kernel_rfl
theorem zip_no_hint : typeLookup (.type "zip") "__length_hint__" = pure none := by rw [typeLookup_type, builtinLookup_eq_fast]; kernel_rfl
structure Off (z TI TO i1 i2 l1 l2 S : Addr) : Prop where
  z : S ≠ z
  TI : S ≠ TI
  TO : S ≠ TO
  i1 : S ≠ i1
  i2 : S ≠ i2
  l1 : S ≠ l1
  l2 : S ≠ l2
def ZSt (h : Heap) (z TI TO i1 i2 l1 l2 : Addr) (xs ys : Array Value) (S : Addr) (i : Nat) : Prop :=
  IsPair h TI (.ref i1) (.ref i2) ∧ h.IsListIter i1 l1 i ∧ h.IsListIter i2 l2 i ∧ h.IsList l1 xs ∧ h.IsList l2 ys ∧
    ((IsZip h z TI TO .none ∧ ∃ a b, IsPair h TO a b) ∨ ∃ T f oT, IsZipHeld h z TI TO T f ∧ h.get? T = some oT ∧ T ≠ z ∧ T ≠ i1 ∧ T ≠ i2 ∧ T ≠ S)
section
variable {prog : Program} {w : World} {A : Around} {E : Value → Shared → Prop} {s : Shared} {z TI TO i1 i2 l1 l2 S : Addr} {xs ys : Array Value} {i : Nat}
theorem ZSt.keep {h h' : Heap} (st : ZSt h z TI TO i1 i2 l1 l2 xs ys S i) (O : Off z TI TO i1 i2 l1 l2 S) (hk : ∀ b o, b ≠ S → h.get? b = some o → h'.get? b = some o) : ZSt h' z TI TO i1 i2 l1 l2 xs ys S i := by
  obtain ⟨hTI, h1, h2, hl1, hl2, hz⟩ := st
  refine ⟨hk _ _ (Ne.symm O.TI) hTI, h1.at fun o e => hk _ o (Ne.symm O.i1) e, h2.at fun o e => hk _ o (Ne.symm O.i2) e, hl1.at fun o e => hk _ o (Ne.symm O.l1) e, hl2.at fun o e => hk _ o (Ne.symm O.l2) e, ?_⟩
  rcases hz with ⟨hz, a, b, hTO⟩ | ⟨T, f, oT, hz, hT, r1, r2, r3, r4⟩
  · exact .inl ⟨hk _ _ (Ne.symm O.z) hz, a, b, hk _ _ (Ne.symm O.TO) hTO⟩
  · exact .inr ⟨T, f, oT, hk _ _ (Ne.symm O.z) hz, hk _ _ r4 hT, r1, r2, r3, r4⟩
theorem zst_item {x y : Value} {Q : Option Value → Shared → Prop} (D : ZipApart z TI TO i1 i2 l1 l2) (st : ZSt s.heap z TI TO i1 i2 l1 l2 xs ys S i) (hS : S < s.heap.objs.size) (ex : xs[i]? = some x) (ey : ys[i]? = some y)
    (hQ : ∀ h', ZSt h' z TI TO i1 i2 l1 l2 xs ys S (i + 1) → IsPair h' s.heap.objs.size x y → (∀ c o, c ≠ z → c ≠ TO → c ≠ i1 → c ≠ i2 → s.heap.get? c = some o → h'.get? c = some o) → Q (some (.ref s.heap.objs.size)) { s with heap := h' }) :
    wpAny (model prog w) A (pyNext (.ref z)) Q E s := by
  obtain ⟨hTI, h1, h2, hl1, hl2, hz⟩ := st
  have lt : ∀ {c o}, s.heap.get? c = some o → s.heap.objs.size ≠ c := fun e => Nat.ne_of_gt (Heap.lt_size e)
  have n1 : s.heap.objs.size ≠ i1 := let ⟨_, e, _⟩ := h1; lt e
  have n2 : s.heap.objs.size ≠ i2 := let ⟨_, e, _⟩ := h2; lt e
  rcases hz with ⟨hz, a, b, hTO⟩ | ⟨T, f, oT, hz, hT, r1, r2, r3, r4⟩
  · refine wpAny_pyNext_zip_item D hz hTI hTO h1 h2 hl1 hl2 ex ey fun h' a1 a2 a3 a4 a5 a6 hk => ?_
    exact hQ h' ⟨hk _ _ D.TIz D.TITO D.TIi1 D.TIi2 hTI, a3, a4, hl1.at fun o e => hk _ o D.l1z D.l1TO D.l1i1 D.l1i2 e, hl2.at fun o e => hk _ o D.l2z D.l2TO D.l2i1 D.l2i2 e,
      .inr ⟨s.heap.objs.size, false, _, a1, a5, lt hz, n1, n2, Nat.ne_of_gt hS⟩⟩ a5 hk
  · refine wpAny_pyNext_zip_item_held D hz hT hTI h1 h2 hl1 hl2 ex ey fun h' a1 a3 a4 a5 a6 hk => ?_
    exact hQ h' ⟨hk _ _ D.TIz D.TIi1 D.TIi2 hTI, a3, a4, hl1.at fun o e => hk _ o D.l1z D.l1i1 D.l1i2 e, hl2.at fun o e => hk _ o D.l2z D.l2i1 D.l2i2 e,
      .inr ⟨T, true, oT, a1, hk _ _ r1 r2 r3 hT, r1, r2, r3, r4⟩⟩ a5 fun c o h1 h2 h3 h4 e => hk c o h1 h3 h4 e
theorem zst_done {Q : Option Value → Shared → Prop} (hh : A.handled = none) (D : ZipApart z TI TO i1 i2 l1 l2) (st : ZSt s.heap z TI TO i1 i2 l1 l2 xs ys S i) (hi : i = min xs.size ys.size)
    (hQ : ∀ h', (∀ c o, c ≠ z → c ≠ TO → c ≠ i1 → c ≠ i2 → s.heap.get? c = some o → h'.get? c = some o) → Q none { s with heap := h' }) : wpAny (model prog w) A (pyNext (.ref z)) Q E s := by
  obtain ⟨hTI, h1, h2, hl1, hl2, hz⟩ := st
  have hend : xs[i]? = none ∨ ys[i]? = none := by
    subst hi
    rcases Nat.le_total xs.size ys.size with h | h
    · exact .inl (Array.getElem?_eq_none (by rw [Nat.min_eq_left h]; exact Nat.le_refl _))
    · exact .inr (Array.getElem?_eq_none (by rw [Nat.min_eq_right h]; exact Nat.le_refl _))
  rcases hz with ⟨hz, a, b, hTO⟩ | ⟨T, f, oT, hz, hT, r1, r2, r3, r4⟩
  · exact wpAny_pyNext_zip_end hh D hz hTI hTO h1 h2 hl1 hl2 hend fun h' hk => hQ h' hk
  · exact wpAny_pyNext_zip_end_held hh D hz hT hTI h1 h2 hl1 hl2 hend fun h' hk => hQ h' fun c o h1 h2 h3 h4 e => hk c o h1 h3 h4 e
/-- the pairs, one behind another -/
structure ZG (xs ys : Array Value) (lo : Addr) (h : Heap) (as : List Addr) : Prop where
  rise : as.Pairwise (· < ·)
  above : ∀ a ∈ as, lo < a
  prs : ∀ (j : Nat) (a : Addr), as[j]? = some a → ∃ x y, xs[j]? = some x ∧ ys[j]? = some y ∧ IsPair h a x y
theorem ZG.there {lo : Addr} {h : Heap} {as : List Addr} (g : ZG xs ys lo h as) {a : Addr} (ha : a ∈ as) : a < h.objs.size := by
  obtain ⟨j, hj⟩ := List.mem_iff_getElem?.mp ha
  obtain ⟨_, _, _, _, e⟩ := g.prs j a hj
  exact Heap.lt_size e
theorem z_loop {R : Result → Shared → Prop} (hh : A.handled = none) (D : ZipApart z TI TO i1 i2 l1 l2) (O : Off z TI TO i1 i2 l1 l2 S) (lS : z < S ∧ TO < S ∧ i1 < S ∧ i2 < S) (hn : min xs.size ys.size ≤ sizeLine) (res : Value) {h₁ : Heap}
    (hR : ∀ h' tk acc c as, (∀ b o, b ≠ S → b ≠ z → b ≠ TO → b ≠ i1 → b ≠ i2 → h₁.get? b = some o → h'.get? b = some o) → h'.get? S = some { cls := .type "list", dict := none, data := .seq acc c, slots := #[] } → as.length = min xs.size ys.size → ZG xs ys S h' as →
      acc.toList = as.map Value.ref → R (.ok (.ret res)) { s with heap := h', toks := tk }) :
    ∀ (k i : Nat) (h : Heap) (tk c : Nat) (acc : Array Value) (as : List Addr), min xs.size ys.size - i = k → i ≤ min xs.size ys.size → ZSt h z TI TO i1 i2 l1 l2 xs ys S i → (∀ b o, b ≠ S → b ≠ z → b ≠ TO → b ≠ i1 → b ≠ i2 → h₁.get? b = some o → h.get? b = some o) →
      h.get? S = some { cls := .type "list", dict := none, data := .seq acc c, slots := #[] } → acc.toList = as.map Value.ref → as.length = i → ZG xs ys S h as →
      codeAny (model prog w) A (.builtin "list.extend.loop" ⟨[.ref S, .ref z, res], []⟩) R { s with heap := h, toks := tk } := by
  obtain ⟨lz, lTO, li1, li2⟩ := lS
  intro k
  induction k with
  | zero =>
    intro i h tk c acc as hk hi hst hkeep hS hacc hal hG
    have hin : i = min xs.size ys.size := by omega
    refine codeAny_builtin PySem.F.entry_extend_loop ?_
    rw [Around.under_plainId PySem.F.plain_extend_loop _]
    show wpAny _ A.in1 (pyNext (.ref z) >>= _) _ _ _
    refine wpAny_bind (zst_done (s := { s with heap := h, toks := tk }) (A := A.in1) hh D hst hin fun h' he => ?_)
    refine wpAny_pure (hR h' tk acc c as (fun b o h1 h2 h3 h4 h5 e => he b o h2 h3 h4 h5 (hkeep b o h1 h2 h3 h4 h5 e)) (he S _ O.z O.TO O.i1 O.i2 hS) (by omega) ⟨hG.rise, hG.above, fun j a hj => ?_⟩ hacc)
    obtain ⟨x, y, e1, e2, e3⟩ := hG.prs j a hj
    have la := hG.above a (List.mem_of_getElem? hj)
    exact ⟨x, y, e1, e2, he a _ (Nat.ne_of_gt (Nat.lt_trans lz la)) (Nat.ne_of_gt (Nat.lt_trans lTO la)) (Nat.ne_of_gt (Nat.lt_trans li1 la)) (Nat.ne_of_gt (Nat.lt_trans li2 la)) e3⟩
  | succ k ih =>
    intro i h tk c acc as hk hi hst hkeep hS hacc hal hG
    have hlt : i < min xs.size ys.size := by omega
    have hx := Array.getElem?_eq_getElem (xs := xs) (i := i) (by omega)
    have hy := Array.getElem?_eq_getElem (xs := ys) (i := i) (by omega)
    have hsz : acc.size = i := by rw [← Array.length_toList, hacc, List.length_map, hal]
    refine codeAny_builtin PySem.F.entry_extend_loop ?_
    rw [Around.under_plainId PySem.F.plain_extend_loop _]
    show wpAny _ A.in1 (pyNext (.ref z) >>= _) _ _ _
    refine wpAny_bind (zst_item (s := { s with heap := h, toks := tk }) (S := S) D hst (Heap.lt_size hS) hx hy fun h' hst' ht hkp => ?_)
    dsimp only at ht hkp ⊢
    have hS' := hkp S _ O.z O.TO O.i1 O.i2 hS
    have up : ∀ b o, b ≠ S → h'.get? b = some o → (h'.update S (Obj.mapSeq (·.push (Value.ref h.objs.size)))).get? b = some o := fun b o hb e => (Heap.get?_update_other _ _ (Ne.symm hb)).trans e
    have hSl : S < h.objs.size := Heap.lt_size hS
    show wpAny _ A.in1 (updateSeq S (·.push (Value.ref h.objs.size)) >>= _) _ _ _
    refine wpAny_bind ?_
    refine wpAny_updateSeq hS' rfl (wpAny_pure ⟨plainId_quiet PySem.F.plain_extend_loop _, ih (i + 1) _ tk _ (acc.push (Value.ref h.objs.size)) (as ++ [h.objs.size]) (by omega) hlt (hst'.keep O up)
      (fun b o h1 h2 h3 h4 h5 e => up b o h1 (hkp b o h2 h3 h4 h5 (hkeep b o h1 h2 h3 h4 h5 e))) (Heap.get?_update_self _ hS' rfl) (by rw [Array.toList_push, hacc, List.map_append]; rfl) (by rw [List.length_append, hal]; rfl) ⟨?_, ?_, ?_⟩⟩) (by rw [hsz]; omega) (by show (acc.push (Value.ref h.objs.size)).size ≤ sizeLine + 1; rw [Array.size_push, hsz]; omega)
    · refine List.pairwise_append.mpr ⟨hG.rise, List.pairwise_singleton _ _, fun a ha b hb => ?_⟩
      rw [List.mem_singleton.mp hb]
      exact hG.there ha
    · intro a ha
      rcases List.mem_append.mp ha with ha | ha
      · exact hG.above a ha
      · rw [List.mem_singleton.mp ha]; exact hSl
    · intro j b hj
      rcases Nat.lt_trichotomy j as.length with h1 | h1 | h1
      · rw [List.getElem?_append_left h1] at hj
        obtain ⟨x', y', e1, e2, e3⟩ := hG.prs j b hj
        have hb := hG.above b (List.mem_of_getElem? hj)
        exact ⟨x', y', e1, e2, up b _ (Nat.ne_of_gt hb) (hkp b _ (Nat.ne_of_gt (Nat.lt_trans lz hb)) (Nat.ne_of_gt (Nat.lt_trans lTO hb)) (Nat.ne_of_gt (Nat.lt_trans li1 hb)) (Nat.ne_of_gt (Nat.lt_trans li2 hb)) e3)⟩
      · subst h1
        have hb : h.objs.size = b := by simpa using hj
        subst hb
        exact ⟨_, _, by rw [hal]; exact hx, by rw [hal]; exact hy, up _ _ (Nat.ne_of_gt hSl) ht⟩
      · have hnone : (as ++ [h.objs.size])[j]? = none := List.getElem?_eq_none (by rw [List.length_append, List.length_singleton]; omega)
        rw [hnone] at hj; cases hj
/-- list(z) of a new zip -/
theorem call_list_zip {Q : Value → Shared → Prop} (hh : A.handled = none) (D : ZipApart z TI TO i1 i2 l1 l2) (lS : z < s.heap.objs.size ∧ TI < s.heap.objs.size ∧ TO < s.heap.objs.size ∧ i1 < s.heap.objs.size ∧ i2 < s.heap.objs.size ∧ l1 < s.heap.objs.size ∧ l2 < s.heap.objs.size)
    (hTI : IsPair s.heap TI (.ref i1) (.ref i2)) (h1 : s.heap.IsListIter i1 l1 0) (h2 : s.heap.IsListIter i2 l2 0) (hl1 : s.heap.IsList l1 xs) (hl2 : s.heap.IsList l2 ys) (hz : IsZip s.heap z TI TO .none) (hTO : ∃ a b, IsPair s.heap TO a b) (hn : min xs.size ys.size ≤ sizeLine)
    (hQ : ∀ h' tk acc c as, (∀ b o, b ≠ z → b ≠ TO → b ≠ i1 → b ≠ i2 → s.heap.get? b = some o → h'.get? b = some o) → h'.get? s.heap.objs.size = some { cls := .type "list", dict := none, data := .seq acc c, slots := #[] } → as.length = min xs.size ys.size → ZG xs ys s.heap.objs.size h' as →
      acc.toList = as.map Value.ref → Q (.ref s.heap.objs.size) { s with heap := h', toks := tk }) :
    wpAny (model prog w) A (call (.type "list") [.ref z]) Q E s := by
  obtain ⟨lz, lTI, lTO, li1, li2, ll1, ll2⟩ := lS
  have O : Off z TI TO i1 i2 l1 l2 s.heap.objs.size := ⟨Nat.ne_of_gt lz, Nat.ne_of_gt lTI, Nat.ne_of_gt lTO, Nat.ne_of_gt li1, Nat.ne_of_gt li2, Nat.ne_of_gt ll1, Nat.ne_of_gt ll2⟩
  refine callType_codes (Q₁ := fun obj s₁ => obj = .ref s.heap.objs.size ∧ s₁ = { s with heap := s.heap.push { cls := .type "list", data := .seq #[] } }) PySem.F.called_list (PySem.F.typeCall_list_1 _) PySem.F.entry_list_init
    (code_list_new _ ⟨rfl, rfl⟩) fun obj s₁ h₁ => ?_
  obtain ⟨rfl, rfl⟩ := h₁
  have hS : (s.heap.push { cls := .type "list", data := .seq #[] }).get? s.heap.objs.size = some { cls := .type "list", data := .seq #[] } := Heap.get?_push_size _ rfl
  refine ⟨⟨_, hS, rfl⟩, PySem.F.args_list_init_2 _ _, ?_⟩
  show wpAny _ A.in1.in1 (do let old ← Builtin.List.listItems (.ref s.heap.objs.size); Builtin.List.listUpdate (.ref s.heap.objs.size) (fun _ => #[]); letGo old.toList.reverse; Builtin.List.listExtendWith (.ref s.heap.objs.size) (.ref z) .none) _ _ _
  refine wpAny_bind ?_
  unfold Builtin.List.listItems
  refine wpAny_bind (wpAny_seqItems hS rfl (wpAny_pure ?_))
  show wpAny _ A.in1.in1 (updateSeq s.heap.objs.size (fun _ => #[]) >>= fun _ => letGo (#[] : Array Value).toList.reverse >>= fun _ => Builtin.List.listExtendWith (.ref s.heap.objs.size) (.ref z) .none) _ _ _
  refine wpAny_bind (wpAny_updateSeq hS rfl ?_)
  have hS2 := Heap.get?_update_self (Obj.mapSeq (fun _ => (#[] : Array Value))) hS rfl
  refine wpAny_bind (wpAny_letGo ?_)
  unfold Builtin.List.listExtendWith
  have up : ∀ (h : Heap) (f : Obj → Obj), (∀ b o, s.heap.get? b = some o → h.get? b = some o) → ∀ b o, s.heap.get? b = some o → (h.update s.heap.objs.size f).get? b = some o := fun h f q b o e =>
    (Heap.get?_update_other _ _ (Ne.symm (Nat.ne_of_lt (Heap.lt_size e)))).trans (q b o e)
  have k1 : ∀ b o, s.heap.get? b = some o → (s.heap.push { cls := .type "list", data := .seq #[] }).get? b = some o := fun b o e => Heap.get?_push_of_some _ e
  have k2 := up _ (Obj.mapSeq (fun _ => (#[] : Array Value))) k1
  have zt : ∀ {h : Heap}, (∀ b o, s.heap.get? b = some o → h.get? b = some o) → IsZip h z TI TO .none := fun {h} q => q _ _ hz
  have ty : ∀ {h : Heap}, (∀ b o, s.heap.get? b = some o → h.get? b = some o) → Shared.TypeIs { s with heap := h } (.ref z) "zip" := fun {h} q => ⟨_, zt q, rfl⟩
  refine wpAny_bind (wpAny_typeOf (ty k2) ?_)
  have h1' : Builtin.List.listSameRef (.ref s.heap.objs.size) (.ref z) = false := by simp [Builtin.List.listSameRef, O.z]
  have h2' : (Value.type "zip" == Value.type "list") = false := by decide
  have h3' : (Value.type "zip" == Value.type "tuple") = false := by decide
  simp only [h1', h2', h3', Bool.or_false, Bool.false_eq_true, if_false]
  refine wpAny_bind (wpAny_pyIter_zip (s := { s with heap := _ }) (zt k2) ?_)
  refine wpAny_bind (wpAny_holding ?_)
  unfold Builtin.List.listLengthHint
  refine wpAny_bind (wpAny_specialOf (ty k2) zip_no_len ?_)
  show wpAny _ A.in1.in1 (specialOf (Value.ref z) (Str.ofString "__length_hint__") >>= _) _ _ _
  refine wpAny_bind (wpAny_specialOf (ty k2) zip_no_hint ?_)
  refine wpAny_pure ?_
  show wpAny _ A.in1.in1 (rule "list.extend.makes-room" >>= fun _ => Builtin.List.listTouch (.ref s.heap.objs.size) >>= fun _ =>
    again (.builtin "list.extend.loop" ⟨[.ref s.heap.objs.size, .ref z, .none], []⟩)) _ _ _
  refine wpAny_bind (wpAny_rule ?_)
  refine wpAny_bind ?_
  show wpAny _ A.in1.in1 (updateSeq s.heap.objs.size (·.push .none) >>= fun _ => updateSeq s.heap.objs.size (·.pop)) _ _ _
  refine wpAny_bind (wpAny_updateSeq hS2 rfl ?_)
  have hS3 := Heap.get?_update_self (Obj.mapSeq (·.push Value.none)) hS2 rfl
  refine wpAny_updateSeq (hz := by seq_fits) hS3 rfl ?_
  have hS4 := Heap.get?_update_self (Obj.mapSeq (·.pop)) hS3 rfl
  have k4 := up _ (Obj.mapSeq (·.pop)) (up _ (Obj.mapSeq (·.push Value.none)) k2)
  refine wpAny_pure ⟨plainId_quiet PySem.F.plain_extend_loop _, ?_⟩
  obtain ⟨a, b, hTO⟩ := hTO
  refine z_loop (A := A.in1) (h₁ := s.heap) (s := s) hh D O ⟨lz, lTO, li1, li2⟩ hn .none (fun h' tk acc c as hk hS' hl hG hacc => ⟨rfl, hQ h' tk acc c as (fun b o n1 n2 n3 n4 e => hk b o (Nat.ne_of_lt (Heap.lt_size e)) n1 n2 n3 n4 e) hS' hl hG hacc⟩)
    (min xs.size ys.size) 0 _ _ _ #[] [] (Nat.sub_zero _) (Nat.zero_le _) ⟨k4 _ _ hTI, h1.at fun o e => k4 _ o e, h2.at fun o e => k4 _ o e, hl1.at fun o e => k4 _ o e, hl2.at fun o e => k4 _ o e, .inl ⟨k4 _ _ hz, a, b, k4 _ _ hTO⟩⟩
    (fun b o _ _ _ _ _ e => k4 b o e) hS4 rfl rfl ⟨List.Pairwise.nil, (fun _ ha => nomatch ha), (fun j a hj => by simp at hj)⟩
end
/-! ### the tuples tracked -/
def putP : Hp → List Addr → List (V × V) → Hp
  | H, a :: as, p :: ps => putP (upd H a (.tup [p.1, p.2])) as ps
  | H, _, _ => H
theorem putP_off {b : Addr} : ∀ (as : List Addr) (ps : List (V × V)) (H : Hp), b ∉ as → putP H as ps b = H b
  | [], _, _, _ => rfl
  | _ :: _, [], _, _ => rfl
  | a :: as, p :: ps, H, h => by
    show putP (upd H a (.tup [p.1, p.2])) as ps b = H b
    rw [putP_off as ps _ (fun z => h (List.mem_cons_of_mem _ z)), upd_ne (fun z => h (by rw [z]; exact List.mem_cons_self))]
theorem putP_at : ∀ (as : List Addr) (ps : List (V × V)) (H : Hp), as.Nodup → ∀ (j : Nat) (a : Addr) (p : V × V), as[j]? = some a → ps[j]? = some p → putP H as ps a = some (.tup [p.1, p.2])
  | [], _, _, _, j, a, p, h, _ => by simp at h
  | _ :: _, [], _, _, j, a, p, _, h => by simp at h
  | a :: as, p :: ps, H, hn, 0, b, q, h1, h2 => by
    have hn' := List.nodup_cons.mp hn
    obtain rfl := Option.some.inj h1
    obtain rfl := Option.some.inj h2
    show putP (upd H a (.tup [p.1, p.2])) as ps a = _
    rw [putP_off as ps _ hn'.1, upd_same]
  | a :: as, p :: ps, H, hn, j + 1, b, q, h1, h2 => putP_at as ps (upd H a (.tup [p.1, p.2])) (List.nodup_cons.mp hn).2 j b q h1 h2
section
variable {X : Cx}
theorem zip_laid {pins : List (Addr × Obj)} {σ : L2.St} {H : Hp} {s : Shared} {h' : Heap} {tk : Nat} {S : Addr} {ps : List (V × V)} {acc : Array Value} {c : Nat} {as : List Addr} (I : Inv X pins σ H s) (hz : ps.length ≤ sizeLine) (hS0 : s.heap.objs.size ≤ S)
    (hk : ∀ b o, s.heap.get? b = some o → h'.get? b = some o) (hS : h'.get? S = some { cls := .type "list", dict := none, data := .seq acc c, slots := #[] }) (hl : as.length = ps.length) (rise : as.Pairwise (· < ·)) (above : ∀ a ∈ as, S < a)
    (prs : ∀ (j : Nat) (a : Addr) (p : V × V), as[j]? = some a → ps[j]? = some p → ∃ x y, RelV p.1 x ∧ RelV p.2 y ∧ IsPair h' a x y) (hacc : acc.toList = as.map Value.ref) :
    ∃ H' : Hp, L2.Same H H' ∧ H S = none ∧ H' S = some (.lst (as.map V.ref)) ∧ (∀ (j : Nat) (a : Addr) (p : V × V), as[j]? = some a → ps[j]? = some p → H' a = some (.tup [p.1, p.2])) ∧ Inv X pins σ H' { s with heap := h', toks := tk } := by
  have hSn : S ∉ as := fun z => Nat.lt_irrefl _ (above _ z)
  have nd : as.Nodup := List.Pairwise.imp (fun {a b} (h : a < b) => Nat.ne_of_lt h) rise
  have new : ∀ t ∈ as, H t = none := fun t ht => I.hok.fresh (Nat.le_trans hS0 (Nat.le_of_lt (above t ht)))
  have newS : H S = none := I.hok.fresh hS0
  have atP := putP_at as ps (upd H S (.lst (as.map V.ref))) nd
  have off : ∀ b, b ∉ as → b ≠ S → putP (upd H S (.lst (as.map V.ref))) as ps b = H b := fun b h1 h2 => by rw [putP_off as ps _ h1, upd_ne h2]
  have low : ∀ b o, s.heap.get? b = some o → b ∉ as ∧ b ≠ S := fun b o e => ⟨fun z => absurd (Heap.lt_size e) (Nat.not_lt.mpr (Nat.le_trans hS0 (Nat.le_of_lt (above b z)))), Nat.ne_of_lt (Nat.lt_of_lt_of_le (Heap.lt_size e) hS0)⟩
  have kp : ∀ b u, H b = some u → (putP (upd H S (.lst (as.map V.ref))) as ps) b = some u := fun b u e => by
    rw [off b (fun z => by rw [new b z] at e; cases e) (fun z => by rw [z, newS] at e; cases e)]
    exact e
  have eS : putP (upd H S (.lst (as.map V.ref))) as ps S = some (.lst (as.map V.ref)) := by rw [putP_off as ps _ hSn, upd_same]
  refine ⟨putP (upd H S (.lst (as.map V.ref))) as ps, kp, newS, eS, atP, ?_⟩
  refine I.call' (ch := []) rfl ⟨fun b o q _ _ _ => hk b o q, fun b o q _ _ _ => ⟨o.slots, hk b o q⟩, fun b o q n _ => ?_, fun b o q _ => ⟨o, hk b o q⟩, fun b xs q => kp b _ q, fun b o u q => kp b _ q, fun b ps' q => ⟨#[], by rw [kp b _ q]; simp⟩⟩ (fun b u q => ?_) I.bare fun b z => by simp at z
  · obtain ⟨z1, z2⟩ := low b o q
    rw [off b z1 z2]
    exact n
  · by_cases hb : b ∈ as
    · obtain ⟨j, e1⟩ := List.mem_iff_getElem?.mp hb
      have hj : j < ps.length := by rw [← hl]; exact (List.getElem?_eq_some_iff.mp e1).1
      have e2 := List.getElem?_eq_getElem hj
      have e3 := atP j b _ e1 e2
      rw [e3] at q
      cases q
      obtain ⟨x, y, r1, r2, f3⟩ := prs j b _ e1 e2
      exact ⟨by show 2 ≤ sizeLine; decide, [x, y], .cons r1 (.cons r2 .nil), ⟨_, f3, rfl, _, rfl⟩⟩
    · by_cases hb2 : b = S
      · rw [hb2] at q ⊢
        rw [eS] at q
        cases q
        refine ⟨by rw [List.length_map]; omega, acc.toList, c, by rw [hacc]; exact LiI.vals_refs as, ?_⟩
        rw [Array.toArray_toList]
        exact hS
      · rw [off b hb hb2] at q
        exact (I.hok b u q).stay (fun d v _ y => hk d v y) (fun d y => kp d _ y) fun d xs y => kp d _ y
def tListZip (K : Frag) (ta : TA) : TE := fun σ H Q => ta σ H fun vs H1 => ∃ (a b : Addr) (xs ys : List V), vs = [.ref a, .ref b] ∧ SqL K H1 a xs ∧ SqL K H1 b ys ∧ xs.length ≤ sizeLine ∧
  ∀ (H' : Hp) (p : Addr) (ts : List Addr), L2.Same H1 H' → H1 p = none → H' p = some (.lst (ts.map V.ref)) → ts.length = (xs.zip ys).length → (∀ (j : Nat) (t : Addr) (q : V × V), ts[j]? = some t → (xs.zip ys)[j]? = some q → H' t = some (.tup [q.1, q.2])) → Q (.ref p) H'
theorem pe_listZip {e e2 : Expr} {ta : TA} {p p2 pos pos2 : Pos} (hc : X.calm = true) (hgl : Gl X "list") (hml : X.mg "list" = none) (hg : Gl X "zip") (hm : X.mg "zip" = none) (ha : PA X [e, e2] ta)
    (hs : starEach [.Call (.Name "zip" p2) [e, e2] [] pos2] X.env = (false, eval (.Call (.Name "zip" p2) [e, e2] [] pos2) X.env) :: starEach [] X.env := by rfl)
    (hs2 : starEach [e, e2] X.env = (false, eval e X.env) :: starEach [e2] X.env := by rfl) (hpl : (backTo pos2 (starEach [e2] X.env)).any (·.1) = false := by rfl) :
    PE X (.Call (.Name "list" p) [.Call (.Name "zip" p2) [e, e2] [] pos2] [] pos) (tListZip X.K ta) := by
  refine ⟨fun pins s σ H Q I hq => ?_⟩
  refine wpAny_Call_Name_kw (ld_blt I hgl hml Kz.boot_li ?_)
  refine PyProof.Rows.callWith_type1 ?_ hs rfl
  rw [hs]
  show wpAny _ _ (spliced ((false, eval (.Call (.Name "zip" p2) [e, e2] [] pos2) X.env) :: backTo pos (starEach [] X.env))) _ _ s
  refine Calls.spliced_cons ?_
  refine Call_ (ld_blt I hg hm PyProof.Rows.boot_zip (PyProof.Rows.callWith_type1 (thn (ha.run pos2 pins s σ H _ I hq) fun us s1 ⟨vs, H1, I1, r1, q1⟩ => ?_) hs2 hpl))
  obtain ⟨a, b, xs, ys, ex, hx, hy, hlen, q⟩ := q1
  subst ex
  cases r1 with
  | cons r rr =>
    cases rr with
    | cons r' rr =>
      cases rr
      cases r
      cases r'
      obtain ⟨its, rv, p1, _⟩ := I1.list hx
      obtain ⟨its2, rv2, p2', _⟩ := I1.list hy
      refine call_zip_2 p1.isList p2'.isList fun h' hz hTI hTO h1 h2 hsz hk => ?_
      refine Calls.spliced_nil ?_
      have lx := rv.length
      have ly := rv2.length
      have D := PySem.W.ktu_apart s1.heap.objs.size a b p1.lt p2'.lt
      have la := p1.lt
      have lb := p2'.lt
      have lk : ∀ {k : Nat}, k < 5 → s1.heap.objs.size + k < h'.objs.size := fun hk => by rw [hsz]; exact Nat.add_lt_add_left hk _
      have lo : ∀ {a : Addr}, a < s1.heap.objs.size → a < h'.objs.size := fun ha => Nat.lt_of_lt_of_le ha (by rw [hsz]; exact Nat.le_add_right _ _)
      have nk : ∀ {a : Addr} {o : Obj} (k : Nat), s1.heap.get? a = some o → a ≠ s1.heap.objs.size + k := fun k e => Nat.ne_of_lt (Nat.lt_of_lt_of_le (Heap.lt_size e) (Nat.le_add_right _ _))
      refine call_list_zip (s := { s1 with heap := h' }) (xs := its.toArray) (ys := its2.toArray) (I1.ok.hd hc) D ⟨lk (k := 4) (by decide), lk (k := 2) (by decide), lk (k := 3) (by decide), lk (k := 0) (by decide), lk (k := 1) (by decide), lo la, lo lb⟩ hTI h1 h2 (p1.isList.at fun o e => hk _ o e) (p2'.isList.at fun o e => hk _ o e) hz ⟨_, _, hTO⟩ ?_ fun h'' tk acc c as hk2 hS hl hG hacc => ?_
      · rw [List.size_toArray, List.size_toArray]
        omega
      · have hl' : as.length = (xs.zip ys).length := by
          rw [hl, List.length_zip, List.size_toArray, List.size_toArray, lx, ly]
        have prs : ∀ (j : Nat) (t : Addr) (p : V × V), as[j]? = some t → (xs.zip ys)[j]? = some p → ∃ x y, RelV p.1 x ∧ RelV p.2 y ∧ IsPair h'' t x y := fun j t q hj hq' => by
          obtain ⟨x, y, g1, g2, g3⟩ := hG.prs j t hj
          obtain ⟨u1, u2⟩ := List.getElem?_zip_eq_some.mp hq'
          obtain ⟨x', k1, k2⟩ := rv.get u1
          obtain ⟨y', k3, k4⟩ := rv2.get u2
          have g1 : its[j]? = some x := by simpa using g1
          have g2 : its2[j]? = some y := by simpa using g2
          rw [k1] at g1
          rw [k3] at g2
          obtain rfl := Option.some.inj g1
          obtain rfl := Option.some.inj g2
          exact ⟨_, _, k2, k4, g3⟩
        obtain ⟨H', e1, e2, e3, e4, J⟩ := zip_laid (tk := tk) (ps := xs.zip ys) (S := h'.objs.size) I1 (by rw [List.length_zip]; omega) (by rw [hsz]; exact Nat.le_add_right _ _)
          (fun b o e => hk2 b o (nk 4 e) (nk 3 e) (nk 0 e) (nk 1 e) (hk b o e)) hS hl' hG.rise hG.above prs hacc
        exact ⟨.ref _, H', J, rfl, q H' _ as e1 e2 e3 hl' e4⟩
end
end K14.ZiL
namespace K14.T27
open PySem PySem.W PySem.Calls PyProof.Rows L2 LamX
open He (ga)
open Kz (SS ExtS ExtS.trans small4 same_new boot_in boot_li boot_isi Has pe_has noE PSs.of_eq seqI new_ext)
open K14.Gn
open StX
abbrev sTm : Stmt := topS 33
abbrev NTm : List Str := ["one", "other", "rows", "x", "y"]
theorem scTm : FnScope NTm ["one", "other"] (defScope sTm) := ⟨rfl, rfl, rfl, by decide +kernel, rfl, by decide +kernel, by decide +kernel⟩
theorem bdTm : defBody sTm = [stOf sTm 0, stOf sTm 1] := by rfl
def scOfT : Stmt → Scope
  | .Return (some (.BoolOp _ [_, .Call _ [.ListComp _ _ sc _] _ _] _)) _ => sc
  | _ => defScope sTm
def tmSc : Scope := scOfT (stOf sTm 1)
/-- a box, as the law makes it -/
def bxD (b : Bx) : PyData := .tuple [.str b.s, .list (b.x.map PyData.int), .list (b.y.map PyData.int)]
theorem bxD_of (b : Bx) : bxOf (bxD b) = b := by
  obtain ⟨s, x, y⟩ := b
  show Bx.mk s (rowI (.list (x.map PyData.int))) (rowI (.list (y.map PyData.int))) = _
  have e : ∀ z : List Int, rowI (.list (z.map PyData.int)) = z := fun z => by
    unfold rowI
    show (z.map PyData.int).map _ = z
    rw [List.map_map]
    exact (List.map_congr_left (g := id) fun _ _ => rfl).trans (List.map_id z)
  rw [e, e]
theorem bxD_rows {K : Frag} {H : Hp} {v : V} {b : Bx} (t : Th H v (bxD b)) : ∃ p q : Addr, H p = some (.lst (b.x.map V.int)) ∧ H q = some (.lst (b.y.map V.int)) ∧ (∀ G, L2.Same H G → ∀ Q : VK, Q (.str b.s) G → rIx K v (.int 0) G Q) ∧ (∀ G, L2.Same H G → ∀ Q : VK, Q (.ref p) G → rIx K v (.int 1) G Q) ∧ (∀ G, L2.Same H G → ∀ Q : VK, Q (.ref q) G → rIx K v (.int 2) G Q) := by
  obtain ⟨x0, t0, i0⟩ := th_ixS (K := K) (j := 0) t rfl (z := .str b.s) rfl
  obtain ⟨x1, t1, i1⟩ := th_ixS (K := K) (j := 1) t rfl (z := .list (b.x.map PyData.int)) rfl
  obtain ⟨x2, t2, i2⟩ := th_ixS (K := K) (j := 2) t rfl (z := .list (b.y.map PyData.int)) rfl
  cases t0
  cases t1 with
  | lst h1 r1 =>
    cases t2 with
    | lst h2 r2 =>
      rw [th_ints r1] at h1
      rw [th_ints r2] at h2
      exact ⟨_, _, h1, h2, i0, i1, i2⟩
theorem decI (i j : Int) : decide (V.int i = V.int j) = decide (i = j) := by
  by_cases h : i = j
  · rw [h, decide_eq_true rfl, decide_eq_true rfl]
  · rw [decide_eq_false h, decide_eq_false fun z => h (V.int.inj z)]
theorem decS (s t : Str) : decide (V.str s = V.str t) = decide (s = t) := by
  by_cases h : s = t
  · rw [h, decide_eq_true rfl, decide_eq_true rfl]
  · rw [decide_eq_false h, decide_eq_false fun z => h (V.str.inj z)]
theorem zipI (xs ys : List Int) {j : Nat} {p : Int × Int} (h : (xs.zip ys)[j]? = some p) : ((xs.map V.int).zip (ys.map V.int))[j]? = some (V.int p.1, V.int p.2) := by
  obtain ⟨h1, h2⟩ := List.getElem?_zip_eq_some.mp h
  exact List.getElem?_zip_eq_some.mpr ⟨by rw [List.getElem?_map, h1]; rfl, by rw [List.getElem?_map, h2]; rfl⟩
section
variable {P : Program} {w : World} {K : Frag} {mg : Str → Option Value} {base : Heap}
def spTm : Sp := fun vs H Q _ => ∃ (v u : V) (b c : Bx), vs = [v, u] ∧ Th H v (bxD b) ∧ Th H u (bxD c) ∧ b.x.length ≤ 500 ∧ b.y.length ≤ 500 ∧ ∀ H', L2.Same H H' → Q (.bl (meetB b c)) H'
theorem ok_tm {f : Addr} {fd : FuncData} (F : FunD K "_law_t_meet" "_law_t_meet" (defArgs sTm) (defBody sTm) (defScope sTm) [] [] f fd) (ml : mg "list" = none) (mz : mg "zip" = none) (ma : mg "all" = none) : FnOk P w K mg base CX0 1 f fd ["one", "other"] spTm := by
  refine F.ok scTm (fun vs H Q E h => ?_) (fun cdv A outer s H vs Q XE hr h => ?_)
  · obtain ⟨v, u, b, c, rfl, _⟩ := h
    rfl
  · obtain ⟨v, u, b, c, rfl, hv, hu, b1, b2, k⟩ := h
    have h0 : PS (cxOf CX0 P w K mg base NTm "_law_t_meet" (defScope sTm) f cdv A outer s H XE).nox (stOf sTm 0) _ := ps_set (i := 2) scTm.nd rfl (.inl rfl) (pe_op op_cat
      (ZiL.pe_listZip rfl (by rfl) ml (by rfl) mz (pa_cons (pe_ix ix_seq (pv 0) pe_int (fun _ _ => rfl)) (pa_cons (pe_ix ix_seq (pv 1) pe_int (fun _ _ => rfl)) pa_nil)))
      (ZiL.pe_listZip rfl (by rfl) ml (by rfl) mz (pa_cons (pe_ix ix_seq (pv 0) pe_int (fun _ _ => rfl)) (pa_cons (pe_ix ix_seq (pv 1) pe_int (fun _ _ => rfl)) pa_nil))))
    have h1 : PS (cxOf CX0 P w K mg base NTm "_law_t_meet" (defScope sTm) f cdv A outer s H XE).nox (stOf sTm 1) _ := ps_ret (pe_and (pe_cmpR op_eq (pe_ix ix_seq (pv 0) pe_int (fun _ _ => rfl)) (pe_ix ix_seq (pv 1) pe_int (fun _ _ => rfl)) (nomark _))
      (pe_one (pe_callB (cr_all rfl) (by rfl) ma boot_all (pa_cons (pe_lc (X := (cxOf CX0 P w K mg base NTm "_law_t_meet" (defScope sTm) f cdv A outer s H XE).nox) (scope := tmSc) (own := [("x", 3), ("y", 4)]) (g := gTup K 2 (gCons (gName 3) (gCons (gName 4) gNil))) (tt := tYes) (te := tOp rEq (tVar 3) (tVar 4)) rfl scTm.nd
        (pi_list (pv 2)) (blkOk_by (N := NTm) (sc := defScope sTm) (by decide +kernel)) (fun _ _ _ _ _ => pg_tup (n := 2) rfl (pgs_cons (pg_name (i := 3) scTm.nd rfl (Or.inl rfl)) (pgs_cons (pg_name (i := 4) scTm.nd rfl (Or.inl rfl)) pgs_nil))) (fun _ _ _ _ _ => pts_nil)
        (fun s0 H0 C0 cl0 fp0 => by exact pe_cmpR op_eq (pv 3) (pv 4) (nomark _))) pa_nil))))
    refine ⟨_, PSs.nox (PSs.of_eq bdTm (pss_cons h0 (pss_one h1))), ?_⟩
    clear h0 h1
    obtain ⟨p, q, hp, hq, i0, i1, i2⟩ := bxD_rows (K := K) hv
    obtain ⟨p', q', hp', hq', j0, j1, j2⟩ := bxD_rows (K := K) hu
    have sm : ∀ {G : Hp}, L2.Same G G := fun _ _ e => e
    refine ⟨v, rfl, i1 _ sm _ ⟨u, rfl, j1 _ sm _ ⟨p, p', _, _, rfl, .inl (.inl hp), .inl (.inl hp'), by rw [List.length_map, sizeLine_eq]; omega, fun G1 r1 ts1 S1 n1 f1 l1 e1 => ?_⟩⟩⟩
    refine ⟨v, rfl, i2 _ S1 _ ⟨u, rfl, j2 _ S1 _ ⟨q, q', _, _, rfl, .inl (.inl (S1 _ _ hq)), .inl (.inl (S1 _ _ hq')), by rw [List.length_map, sizeLine_eq]; omega, fun G2 r2 ts2 S2 n2 f2 l2 e2 => ?_⟩⟩⟩
    have z1 : ts1.length ≤ 500 := by rw [l1, List.length_zip, List.length_map]; omega
    have z2 : ts2.length ≤ 500 := by rw [l2, List.length_zip, List.length_map]; omega
    refine ⟨r1, r2, _, _, rfl, rfl, S2 _ _ f1, f2, by rw [List.length_map, List.length_map, sizeLine_eq]; omega, fun r3 n3 => ?_⟩
    have S3 := same_new (o := .lst (ts1.map V.ref ++ ts2.map V.ref)) n3
    have ST := S1.trans (S2.trans S3)
    refine gset (nx_intro (ret_intro ?_))
    refine ⟨v, rfl, i0 _ ST _ ⟨u, rfl, j0 _ ST _ ⟨rfl, _, rfl, ?_⟩⟩⟩
    rw [decS]
    have em : meetB b c = (decide (b.s = c.s) && ((b.x.zip c.x ++ b.y.zip c.y).all fun p => decide (p.1 = p.2))) := rfl
    rw [em] at k
    cases es : decide (b.s = c.s) with
    | false =>
      rw [es] at k
      exact iteF (k _ ST)
    | true =>
      rw [es] at k
      refine iteT ?_
      let prs := b.x.zip c.x ++ b.y.zip c.y
      have kk : ∀ H', L2.Same H H' → Q (.bl (prs.all fun p => decide (p.1 = p.2))) H' := k
      have m1 : ts1.length = (b.x.zip c.x).length := by rw [l1, List.length_zip, List.length_zip, List.length_map, List.length_map]
      have m2 : ts2.length = (b.y.zip c.y).length := by rw [l2, List.length_zip, List.length_zip, List.length_map, List.length_map]
      have lts : (ts1.map V.ref ++ ts2.map V.ref).length = prs.length := by
        show _ = (b.x.zip c.x ++ b.y.zip c.y).length
        rw [List.length_append, List.length_append, List.length_map, List.length_map, m1, m2]
      have at_ : ∀ (j : Nat) (x : V), (ts1.map V.ref ++ ts2.map V.ref)[j]? = some x → ∃ (t : Addr) (p : Int × Int), x = .ref t ∧ prs[j]? = some p ∧ (upd G2 r3 (.lst (ts1.map V.ref ++ ts2.map V.ref))) t = some (.tup [.int p.1, .int p.2]) := fun j x hx => by
        have jl : j < prs.length := by rw [← lts]; exact (List.getElem?_eq_some_iff.mp hx).1
        have jp := List.getElem?_eq_getElem jl
        rcases Nat.lt_or_ge j ts1.length with g | g
        · rw [List.getElem?_append_left (by rw [List.length_map]; exact g), List.getElem?_map, List.getElem?_eq_getElem g] at hx
          obtain rfl := Option.some.inj hx
          refine ⟨ts1[j], prs[j], rfl, jp, ?_⟩
          have jp2 : (b.x.zip c.x)[j]? = some prs[j] := by
            rw [← jp]
            exact (List.getElem?_append_left (by omega)).symm
          exact S3 _ _ (S2 _ _ (e1 j _ _ (List.getElem?_eq_getElem g) (zipI _ _ jp2)))
        · have g2 : j - ts1.length < ts2.length := by
            have : j < (ts1.map V.ref ++ ts2.map V.ref).length := by rw [lts]; exact jl
            rw [List.length_append, List.length_map, List.length_map] at this
            omega
          rw [List.getElem?_append_right (by rw [List.length_map]; exact g), List.length_map, List.getElem?_map, List.getElem?_eq_getElem g2] at hx
          obtain rfl := Option.some.inj hx
          refine ⟨ts2[j - ts1.length], prs[j], rfl, jp, ?_⟩
          have jp2 : (b.y.zip c.y)[j - ts1.length]? = some prs[j] := by
            rw [← jp, m1]
            exact (List.getElem?_append_right (by omega)).symm
          exact S3 _ _ (e2 _ _ _ (List.getElem?_eq_getElem g2) (zipI _ _ jp2))
      have h3 := upd_same (H := G2) (a := r3) (o := .lst (ts1.map V.ref ++ ts2.map V.ref))
      generalize upd G2 r3 (.lst (ts1.map V.ref ++ ts2.map V.ref)) = G3 at S3 ST at_ h3 ⊢
      refine ⟨.ref r3, rfl, r3, rfl, ⟨_, .inl (.inl h3)⟩, fun D hD => lc_list (xs := ts1.map V.ref ++ ts2.map V.ref) (fun i H2 => L2.Same G3 H2 ∧ H2 D = some (.lst (((prs.take i).map fun p => decide (p.1 = p.2)).map V.bl))) ⟨same_new hD, upd_same⟩ (fun i H2 _ e => .inl (.inl (e.1 _ _ h3))) (fun i x H2 hi e => ?_) (fun H2 e => ?_)⟩
      · obtain ⟨t, p, rfl, hp2, ht⟩ := at_ i x hi
        obtain ⟨e1, e2⟩ := e
        refine ⟨t, _, rfl, .inl (.inl (e1 _ _ ht)), rfl, _, _, rfl, _, _, rfl, rfl, rfl, ?_⟩
        unfold tYes
        show (if true = true then _ else _)
        rw [if_pos rfl]
        refine ⟨_, rfl, _, rfl, rfl, _, e2, ?_, fun b o eb => ?_, ?_⟩
        · rw [List.length_map, List.length_map, List.length_take, sizeLine_eq]
          have := lts
          rw [List.length_append, List.length_map, List.length_map] at this
          omega
        · rw [upd_ne (ne_of_none eb hD)]
          exact e1 _ _ eb
        · have et : prs.take (i + 1) = prs.take i ++ [p] := by
            rw [List.take_add_one, hp2]
            rfl
          rw [upd_same, et, List.map_append, List.map_append, decI]
          rfl
      · obtain ⟨e1, e2⟩ := e
        rw [lts, List.take_length] at e2
        refine ⟨D, _, rfl, .inl (.inl e2), ?_⟩
        rw [List.all_map]
        exact kk H2 (ST.trans e1)
end
end K14.T27
namespace K14.Gn
open PySem PySem.W PySem.Calls PyProof.Rows L2 LamX
open Kz (same_new small4)
theorem thAll_take {H : Hp} : ∀ {m : Nat} {xs : List V} {ds : List PyData}, ThAll H xs ds → ThAll H (xs.take m) (ds.take m)
  | 0, _, _, _ => .nil
  | m + 1, _, _, .nil => .nil
  | m + 1, _, _, .cons a r => .cons a (thAll_take r)
/-- sum([list of each], []) -/
theorem lc_sumS {K : Frag} {k : Nat} {d : PyData} {σ : L2.St} {H : Hp} {tl te : TE} {vs : List Nat} {R : VK} (ht : ∀ R : VK, (∀ (v' : V) (G0 : Hp), L2.Same H G0 → Th G0 v' d → R v' G0) → tl σ H R) (l : isL d = true) (len : (its d).length ≤ 100000)
    (hw : ∀ x : V, wipe ((wipe σ vs).set k (some x)) vs = wipe σ vs) (hz : ((its d).flatMap its).length ≤ sizeLine)
    (hs : ∀ (D : Addr) (j : Nat) (z : PyData) (x : V) (G : Hp) (Q' : VK), (its d)[j]? = some z → L2.Same H G → (∃ o, G D = some o) → Th (Hid [D] G) x z → (∀ (G' : Hp) (y : V), L2.Same G G' → Th (Hid [D] G') y (.list (its z)) → Q' y G') → te ((wipe σ vs).set k (some x)) G Q')
    (hq : ∀ (G : Hp) (r : Addr) (zs : List V), L2.Same H G → G r = some (.lst zs) → ThAll G zs ((its d).flatMap its) → R (.ref r) G) : tCB SuL.rSumL (tCons (tLc (iSq K tl) (gName k) tYes te vs) (tCons (tLst tNil) tNil)) σ H R := by
  refine cbS (lc_th (d := d) (fun z => .list (its z)) ht l len hw hs (fun G1 D S1 nD tD => ?_))
  cases tD with
  | lst hD rD =>
    obtain ⟨as, xss, rfl, e2, e3, e4⟩ := thAll_flat rD
    refine ⟨Nat.zero_le _, fun q nq => ?_⟩
    have S2 := same_new (o := .lst []) nq
    have e4l : xss.flatten.length = ((its d).flatMap its).length := e4.length
    refine ⟨D, q, as, xss, rfl, S2 _ _ hD, upd_same, e2, fun j a xs h1 h2 => S2 _ _ (e3 j a xs h1 h2), by rw [e4l]; exact hz, fun z => ?_, fun z r nr => ?_⟩
    · refine hq _ q [] (S1.trans S2) upd_same ?_
      subst z
      have : xss = [] := List.eq_nil_of_length_eq_zero e2.symm
      subst this
      exact e4.ext S2
    · exact hq _ r _ (S1.trans (S2.trans (same_new nr))) upd_same ((e4.ext S2).ext (same_new nr))
end K14.Gn
namespace K14.T27
open PySem PySem.W PySem.Calls PyProof.Rows L2 LamX
open He (ga)
open Kz (SS ExtS ExtS.trans small4 same_new boot_in boot_li boot_isi Has pe_has noE PSs.of_eq seqI new_ext)
open K14.Gn
open StX
abbrev sLt : Stmt := topS 42
abbrev NLt : List Str := ["ends", "table", "lids", "boxes", "pair", "box", "at", "one"]
theorem scLt : FnScope NLt ["ends", "table", "lids"] (defScope sLt) := ⟨rfl, rfl, rfl, by decide +kernel, rfl, by decide +kernel, by decide +kernel⟩
theorem bdLt : defBody sLt = [stOf sLt 0, stOf sLt 1, stOf sLt 2, stOf sLt 3, stOf sLt 4] := by rfl
def scOfL : Stmt → Scope
  | .If (.UnaryOp _ (.Call _ [.ListComp _ _ sc _] _ _) _) _ _ _ => sc
  | .Assign _ (.BinOp (.Call _ [.ListComp _ _ sc _, _] _ _) _ _ _) _ => sc
  | .Return (some (.UnaryOp _ (.Call _ [.ListComp _ _ sc _] _ _) _)) _ => sc
  | _ => defScope sLt
def ltSc1 : Scope := scOfL (stOf sLt 1)
def ltSc2 : Scope := scOfL (stOf sLt 2)
def ltSc3 : Scope := scOfL (stOf sLt 3)
def ltSc4 : Scope := scOfL (stOf sLt 4)
def scOfM : Stmt → Scope
  | .Return (some (.UnaryOp _ (.Call _ [.ListComp (.Call _ [.ListComp _ _ sc _] _ _) _ _ _] _ _) _)) _ => sc
  | _ => defScope sLt
def ltSc5 : Scope := scOfM (stOf sLt 4)
theorem chk : blkC NLt (defScope sLt) ltSc4 [("at", 6), ("box", 5)] = true := by decide +kernel
theorem chk5 : blkC NLt ltSc4 ltSc5 [("one", 7)] = true := by decide +kernel
theorem chk1 : blkC NLt (defScope sLt) ltSc1 [("pair", 4)] = true := by decide +kernel
theorem chk2 : blkC NLt (defScope sLt) ltSc2 [("pair", 4)] = true := by decide +kernel
theorem chk3 : blkC NLt (defScope sLt) ltSc3 [("box", 5)] = true := by decide +kernel
def rLo (K : Frag) : List V → Hp → VK → Prop := fun xs H Q => ∃ p ys, xs = [.ref p] ∧ (SqL K H p ys ∨ SqT K H p ys) ∧ ∀ l, H l = none → Q (.ref l) (upd H l (.lst ys))
def tIsT (K : Frag) (i : Nat) : TE := tCB (rIsiT K) (tCons (tVar i) (tCons (tTup (tCons (tC (.ty "list")) (tCons (tC (.ty "tuple")) tNil))) tNil))
/-- what of a box the law itself makes -/
def Law (ns : List Str) (z : PyData) : Prop := boxB ns z = true → ∃ b : Bx, z = bxD b ∧ b.x.length ≤ 500 ∧ b.y.length ≤ 500
section
variable {P : Program} {w : World} {K : Frag} {mg : Str → Option Value} {base : Heap}
def spLt : Sp := fun vs H Q _ => ∃ (ve v u : V) (ns : List Str) (d e : PyData), vs = [ve, v, u] ∧ EndsS H ve ns ∧ Th H v d ∧ Th H u e ∧ Sz 3 d ∧ Sz 2 e ∧ (∀ z ∈ bxs (its d) ++ its e, Law ns z) ∧ ∀ H', L2.Same H H' → Q (.bl (lawB ns d e)) H'
theorem ok_lt27 {f : Addr} {fd : FuncData} (F : FunD K "_law_is_table" "_law_is_table" (defArgs sLt) (defBody sLt) (defScope sLt) [] [] f fd) (N : NmK K mg) (ml : mg "list" = none) (mt : mg "tuple" = none) (ms : mg "sum" = none) (my : mg "any" = none)
    (B : Has P w K mg base "_law_is_box" 1 ["ends", "thing"] spLb) (M : Has P w K mg base "_law_t_meet" 1 ["one", "other"] spTm) : FnOk P w K mg base CX0 2 f fd ["ends", "table", "lids"] spLt := by
  refine F.ok scLt (fun vs H Q E h => ?_) (fun cdv A outer s H vs Q XE hr h => ?_)
  · obtain ⟨ve, v, u, ns, d, e, rfl, _⟩ := h
    rfl
  · obtain ⟨ve, v, u, ns, d, e, rfl, hE, hv, hu, sd, se, hL, k⟩ := h
    have h0 : PS (cxOf CX0 P w K mg base NLt "_law_is_table" (defScope sLt) f cdv A outer s H XE).nox (stOf sLt 0) _ := ps_if (PW.pt (pw_or (pt_not (pt_val (pe_callB call_isiT (by rfl) N.isi boot_isi (pa_cons (pv 1) (pa_cons (pe_tup (pa_cons (pe_bltn (by rfl) ml boot_li (v := .ty "list") rfl) (pa_cons (pe_bltn (by rfl) mt boot_tu (v := .ty "tuple") rfl) pa_nil))) pa_nil)))))
      (pw_or1 (pt_not (pt_val (pe_callB call_isiT (by rfl) N.isi boot_isi (pa_cons (pv 2) (pa_cons (pe_tup (pa_cons (pe_bltn (by rfl) ml boot_li (v := .ty "list") rfl) (pa_cons (pe_bltn (by rfl) mt boot_tu (v := .ty "tuple") rfl) pa_nil))) pa_nil)))))))) (pss_one (ps_ret pe_bl)) pss_nil
    have h1 : PS (cxOf CX0 P w K mg base NLt "_law_is_table" (defScope sLt) f cdv A outer s H XE).nox (stOf sLt 1) _ := ps_if (pt_not (pt_val (pe_callB (cr_all rfl) (by rfl) N.all boot_all (pa_cons (pe_lc (X := (cxOf CX0 P w K mg base NLt "_law_is_table" (defScope sLt) f cdv A outer s H XE).nox) (scope := ltSc1) (own := [("pair", 4)]) (g := gName 4) (tt := tYes) (te := tAndV (tIsT K 4) (tOp rEq (tCB (Kz.rLen K) (tCons (tVar 4) tNil)) (tC (.int 2)))) rfl scLt.nd
      (pi_sq (pv 1)) (blkOk_by chk1) (fun _ _ _ _ _ => pg_name (i := 4) scLt.nd rfl (Or.inl rfl)) (fun _ _ _ _ _ => pts_nil)
      (fun s0 H0 C0 cl0 fp0 => by exact pe_and (pe_callB call_isiT (by rfl) N.isi boot_isi (pa_cons (pv 4) (pa_cons (pe_tup (pa_cons (pe_bltn (by rfl) ml boot_li (v := .ty "list") rfl) (pa_cons (pe_bltn (by rfl) mt boot_tu (v := .ty "tuple") rfl) pa_nil))) pa_nil))) (pe_one (pe_cmpR op_eq (pe_callB call_len_seq (by rfl) N.len boot_len (pa_cons (pv 4) pa_nil)) pe_int (nomark _))))) pa_nil)))) (pss_one (ps_ret pe_bl)) pss_nil
    have h2 : PS (cxOf CX0 P w K mg base NLt "_law_is_table" (defScope sLt) f cdv A outer s H XE).nox (stOf sLt 2) _ := ps_set (i := 3) scLt.nd rfl (.inr rfl) (pe_op op_cat (pe_callB (SuL.cr_sumL rfl) (by rfl) ms boot_sum (pa_cons (pe_lc (X := (cxOf CX0 P w K mg base NLt "_law_is_table" (defScope sLt) f cdv A outer s H XE).nox) (scope := ltSc2) (own := [("pair", 4)]) (g := gName 4) (tt := tYes) (te := tCB (rLo K) (tCons (tVar 4) tNil)) rfl scLt.nd
      (pi_sq (pv 1)) (blkOk_by chk2) (fun _ _ _ _ _ => pg_name (i := 4) scLt.nd rfl (Or.inl rfl)) (fun _ _ _ _ _ => pts_nil)
      (fun s0 H0 C0 cl0 fp0 => by exact pe_callTy call_list_of (by rfl) ml boot_li (pa_cons (pv 4) pa_nil))) (pa_cons (pe_lst pa_nil) pa_nil))) (pe_callTy call_list_of (by rfl) ml boot_li (pa_cons (pv 2) pa_nil)))
    have h3 : PS (cxOf CX0 P w K mg base NLt "_law_is_table" (defScope sLt) f cdv A outer s H XE).nox (stOf sLt 3) _ := ps_if (pt_not (pt_val (pe_callB (cr_all rfl) (by rfl) N.all boot_all (pa_cons (pe_lc (X := (cxOf CX0 P w K mg base NLt "_law_is_table" (defScope sLt) f cdv A outer s H XE).nox) (scope := ltSc3) (own := [("box", 5)]) (g := gName 5) (tt := tYes) (te := tCall spLb [] noE (tCons (tVar 0) (tCons (tVar 5) tNil))) rfl scLt.nd
      (pi_sq (pv 3)) (blkOk_by chk3) (fun _ _ _ _ _ => pg_name (i := 5) scLt.nd rfl (Or.inl rfl)) (fun _ _ _ _ _ => pts_nil)
      (fun s0 H0 C0 cl0 fp0 => by exact pe_has B hr (by rfl) (pa_cons (pv 0) (pa_cons (pv 5) pa_nil)))) pa_nil)))) (pss_one (ps_ret pe_bl)) pss_nil
    have h4 : PS (cxOf CX0 P w K mg base NLt "_law_is_table" (defScope sLt) f cdv A outer s H XE).nox (stOf sLt 4) _ := ps_ret (pe_not (pe_callB (cr_any rfl) (by rfl) my boot_any (pa_cons (pe_lc (X := (cxOf CX0 P w K mg base NLt "_law_is_table" (defScope sLt) f cdv A outer s H XE).nox) (scope := ltSc4) (own := [("at", 6), ("box", 5)]) (g := gTup K 2 (gCons (gName 6) (gCons (gName 5) gNil))) (tt := tYes)
      (te := tCB (rAny K) (tCons (tLc (iSq K (tSl (rSlL K) (tVar 3) tNoPart (tPart (tVar 6)))) (gName 7) tYes (tCall spTm [] noE (tCons (tVar 5) (tCons (tVar 7) tNil))) [7]) tNil)) rfl scLt.nd
      (EnT.pi_enB (by rfl) N.enu (pa_cons (pv 3) pa_nil)) (blkOk_by chk) (fun _ _ _ _ _ => pg_tup (n := 2) rfl (pgs_cons (pg_name (i := 6) scLt.nd rfl (Or.inl rfl)) (pgs_cons (pg_name (i := 5) scLt.nd rfl (Or.inr rfl)) pgs_nil))) (fun _ _ _ _ _ => pts_nil)
      (fun s0 H0 C0 cl0 fp0 => by exact pe_callB (cr_any rfl) (by rfl) my boot_any (pa_cons (pe_lc (X := Cx.blk ((cxOf CX0 P w K mg base NLt "_law_is_table" (defScope sLt) f cdv A outer s H XE).nox) s0 H0 ltSc4 (compEnvC ltSc4 cl0 C0 (Cx.env ((cxOf CX0 P w K mg base NLt "_law_is_table" (defScope sLt) f cdv A outer s H XE).nox))) fp0) (scope := ltSc5) (own := [("one", 7)]) (g := gName 7) (tt := tYes) (te := tCall spTm [] noE (tCons (tVar 5) (tCons (tVar 7) tNil))) rfl scLt.nd
        (pi_sq (pe_slice sl_list (pv 3) po_none (po_some (pv 6)))) (blkOk_by chk5) (fun _ _ _ _ _ => pg_name (i := 7) scLt.nd rfl (Or.inl rfl)) (fun _ _ _ _ _ => pts_nil)
        (fun s1 H1 C1 cl1 fp1 => by exact pe_has M hr (by rfl) (pa_cons (pv 5) (pa_cons (pv 7) pa_nil)))) pa_nil))) pa_nil)))
    refine ⟨_, PSs.nox (PSs.of_eq bdLt (pss_cons h0 (pss_cons h1 (pss_cons h2 (pss_cons h3 (pss_one h4)))))), ?_⟩
    clear h0 h1 h2 h3 h4
    have sm : ∀ {G : Hp}, L2.Same G G := fun _ _ e => e
    have lst : ∀ {i : Nat} {v : V} {d : PyData} {σ : L2.St} {H : Hp} {Q : VK}, σ[i]? = some (some v) → Th H v d → (∀ (G : Hp), L2.Same H G → Q (.bl (isL d)) G) → tIsT K i σ H Q := fun {i v d σ H Q} hσ t kk => ⟨v, hσ, small4 2, fun p np => ⟨v, p, _, _, _, _, rfl, upd_same, .cons (.ty _) (.cons (.ty _) .nil), (t.ext (same_new np)).ty, is_lt d, kk _ (same_new np)⟩⟩
    have el : lawB ns d e = ((isL d && isL e) && ((its d).all isP && ((bxs (its d) ++ its e).all (boxB ns) && !((List.range (bxs (its d) ++ its e).length).map fun j => ((bxs (its d) ++ its e).take j).any fun o => meetB (bxOf ((bxs (its d) ++ its e).getD j .none)) (bxOf o)).any id))) := rfl
    rw [el] at k
    refine ⟨v, rfl, small4 2, fun p np => ⟨v, p, _, _, _, _, rfl, upd_same, .cons (.ty _) (.cons (.ty _) .nil), (hv.ext (same_new np)).ty, is_lt d, _, rfl, ?_⟩⟩
    have s1 := same_new (o := .tup [.ty "list", .ty "tuple"]) np
    generalize upd H p (.tup [.ty "list", .ty "tuple"]) = H1 at s1 ⊢
    cases l : isL d with
    | false =>
      rw [l] at k
      exact iteT (iteT (k H1 s1))
    | true =>
      refine iteF ⟨u, rfl, small4 2, fun p2 np2 => ⟨u, p2, _, _, _, _, rfl, upd_same, .cons (.ty _) (.cons (.ty _) .nil), ((hu.ext s1).ext (same_new np2)).ty, is_lt e, _, rfl, ?_⟩⟩
      have s2 := s1.trans (same_new (o := .tup [.ty "list", .ty "tuple"]) np2)
      generalize upd H1 p2 (.tup [.ty "list", .ty "tuple"]) = H2 at s2 ⊢
      rw [l] at k
      cases l2 : isL e with
      | false =>
        rw [l2] at k
        exact iteT (k H2 s2)
      | true =>
        rw [l2] at k
        refine iteF (nx_intro (ifS_intro (notB ?_)))
        have ld : (its d).length ≤ 500 := sd.1
        have le : (its e).length ≤ 500 := se.1
        refine lc_all (v := v) (d := d) isP (fun R h => ⟨v, rfl, h⟩) (hv.ext s2) l (by omega) (fun x => rfl) (fun j z x G Q' hz S tz kk => ?_) (fun G S => ⟨_, rfl, ?_⟩)
        · refine lst rfl tz fun G1 s => ⟨isL z, rfl, ?_⟩
          cases lz : isL z with
          | false =>
            have e1 := kk G1 s
            unfold isP at e1
            rw [lz] at e1
            exact iteF e1
          | true =>
            obtain ⟨a, xs, rfl, r, hx⟩ := (tz.ext s).seq (K := K) lz
            refine iteT ⟨.ref a, rfl, a, xs, rfl, sl_of hx, rfl, ?_⟩
            have e1 := kk G1 s
            unfold isP at e1
            rw [lz, Bool.true_and, ← r.length] at e1
            have e2 : (decide (V.int (xs.length : Int) = V.int 2)) = decide (xs.length = 2) := by
              by_cases q : xs.length = 2
              · rw [q]; rfl
              · rw [decide_eq_false q, decide_eq_false (fun z => q (by have := V.int.inj z; omega))]
            show Q' (.bl (decide (V.int (xs.length : Int) = V.int 2))) G1
            rw [e2]
            exact e1
        · have s3 := s2.trans S
          cases ap : (its d).all isP with
          | false =>
            rw [ap] at k
            exact iteT (k G s3)
          | true =>
            rw [ap] at k
            refine iteF ?_
            have al : ∀ z ∈ its d, isL z = true ∧ (its z).length = 2 := fun z hz => by
              have := List.all_eq_true.mp ap z hz
              obtain ⟨a1, a2⟩ := Bool.and_eq_true_iff.mp (show (isL z && decide ((its z).length = 2)) = true from this)
              exact ⟨a1, of_decide_eq_true a2⟩
            have lb : (bxs (its d)).length = 2 * (its d).length := by
              have : ∀ ds : List PyData, (∀ z ∈ ds, (its z).length = 2) → (bxs ds).length = 2 * ds.length := by
                intro ds
                induction ds with
                | nil => intro _; rfl
                | cons z r ih =>
                  intro h
                  show (its z ++ bxs r).length = _
                  rw [List.length_append, ih fun y hy => h y (List.mem_cons_of_mem _ hy), h z (List.mem_cons_self ..), List.length_cons]
                  omega
              exact this _ fun z hz => (al z hz).2
            refine catS (lc_sumS (d := d) (fun R h => ⟨v, rfl, h _ _ sm (hv.ext s3)⟩) l (by omega) (fun x => rfl) (show (bxs (its d)).length ≤ sizeLine by rw [lb, sizeLine_eq]; omega) (fun D j z x G1 Q' hz S1 hD tz kk => ?_) (fun G1 r zs S1 hr1 tr => ?_))
            · obtain ⟨a, xs, rfl, r, hx⟩ := tz.seq (K := K) (al z (List.mem_of_getElem? hz)).1
              have hx' : G1 a = some (.lst xs) ∨ G1 a = some (.tup xs) := hx.elim (fun h => .inl (hid_up _ _ h)) fun h => .inr (hid_up _ _ h)
              refine ⟨.ref a, rfl, a, xs, rfl, sl_of hx', fun p np => kk _ _ (same_new np) (.lst (hid_of ?_ upd_same fun ps z => nomatch z) (r.ext (hid_same (same_new np))))⟩
              obtain ⟨o, ho⟩ := hD
              intro m
              rw [List.mem_singleton.mp m, ho] at np
              cases np
            · have s4 := s3.trans S1
              obtain ⟨pu, xu, rfl, ru, qu⟩ := (hu.ext s4).seq (K := K) l2
              have lzs : zs.length = (bxs (its d)).length := tr.length
              have lxu := ru.length
              refine ⟨.ref pu, rfl, pu, xu, rfl, sl_of qu, fun c2 n2 => ?_⟩
              have s5 := same_new (o := .lst xu) n2
              refine ⟨r, c2, zs, xu, rfl, rfl, s5 _ _ hr1, upd_same, by rw [lzs, lb, lxu, sizeLine_eq]; omega, fun c3 n3 => ?_⟩
              have s6 := same_new (o := .lst (zs ++ xu)) n3
              have tB : Th (upd (upd G1 c2 (.lst xu)) c3 (.lst (zs ++ xu))) (.ref c3) (.list (bxs (its d) ++ its e)) := .lst upd_same (th_app ((tr.ext s5).ext s6) ((ru.ext s5).ext s6))
              have s7 := s4.trans (s5.trans s6)
              generalize upd (upd G1 c2 (.lst xu)) c3 (.lst (zs ++ xu)) = G4 at tB s7 ⊢
              clear s5 s6 n2 n3 hr1 tr ru
              have lL : (bxs (its d) ++ its e).length ≤ 100000 := by rw [List.length_append, lb]; omega
              have szL : ∀ z ∈ bxs (its d) ++ its e, Sz 1 z := fun z hz => by
                rcases List.mem_append.mp hz with hz | hz
                · obtain ⟨y, hy, hz⟩ := List.mem_flatMap.mp hz
                  exact (sd.2 y hy).2 z hz
                · exact se.2 z hz
              refine gset (ifS_intro (notB ?_))
              refine lc_all (v := .ref c3) (d := .list (bxs (its d) ++ its e)) (boxB ns) (fun R h => ⟨.ref c3, rfl, h⟩) tB rfl lL (fun x => rfl) (fun j z x G Q' hz S tz kk => ?_) (fun G5 S5 => ⟨_, rfl, ?_⟩)
              · exact ⟨ve, rfl, x, rfl, ve, x, ns, z, rfl, (hE.ext s7).ext S, tz, szL z (List.mem_of_getElem? hz), kk⟩
              · have s8 := s7.trans S5
                have eI : its (.list (bxs (its d) ++ its e)) = bxs (its d) ++ its e := rfl
                rw [eI]
                cases bp : (bxs (its d) ++ its e).all (boxB ns) with
                | false =>
                  rw [bp] at k
                  exact iteT (k G5 s8)
                | true =>
                  rw [bp] at k
                  refine iteF (nx_intro (ret_intro (notV ?_)))
                  have law : ∀ z ∈ bxs (its d) ++ its e, ∃ b : Bx, z = bxD b ∧ b.x.length ≤ 500 ∧ b.y.length ≤ 500 := fun z hz => hL z hz (List.all_eq_true.mp bp z hz)
                  have tB5 := tB.ext S5
                  refine lc_enAny (v := .ref c3) (d := .list (bxs (its d) ++ its e)) (fun j z => ((bxs (its d) ++ its e).take j).any fun o => meetB (bxOf z) (bxOf o)) (fun R h => ⟨.ref c3, rfl, h⟩) tB5 rfl lL (fun x y => rfl) (fun j z x G Q' hz S tz kk => ?_) (fun G6 S6 => ⟨_, rfl, k G6 (s8.trans S6)⟩)
                  have jl : j < (bxs (its d) ++ its e).length := (List.getElem?_eq_some_iff.mp hz).1
                  obtain ⟨b, eb, b1, b2⟩ := law z (List.mem_of_getElem? hz)
                  refine lc_anyG (d := .list ((bxs (its d) ++ its e).take j)) (fun o => meetB (bxOf z) (bxOf o)) (fun R h => ?_) rfl (by show ((bxs (its d) ++ its e).take j).length ≤ _; rw [List.length_take]; omega) (fun x => rfl) (fun j2 o y G2 Q2 ho S2 to kk2 => ?_) (fun G2 S2 => kk G2 S2)
                  · cases tB5.ext S with
                    | @lst a zs2 _ hz2 rz2 =>
                      have lz2 : zs2.length = (bxs (its d) ++ its e).length := rz2.length
                      refine ⟨.ref c3, rfl, .int (j : Nat), rfl, j, rfl, c3, zs2, rfl, .inl (.inl hz2), fun p np => ?_⟩
                      rw [cutV_take (by omega)]
                      exact h _ _ (same_new np) (.lst upd_same (thAll_take (rz2.ext (same_new np))))
                  · have mo : o ∈ bxs (its d) ++ its e := List.mem_of_mem_take (List.mem_of_getElem? (show ((bxs (its d) ++ its e).take j)[j2]? = some o from ho))
                    obtain ⟨c, ec, c1, c2'⟩ := law o mo
                    subst eb ec
                    rw [bxD_of, bxD_of] at kk2
                    exact ⟨x, rfl, y, rfl, x, y, b, c, rfl, tz.ext S2, to, b1, b2, kk2⟩
end
end K14.T27
namespace K14.T27
open PySem PySem.W PySem.Calls PyProof.Rows L2 LamX
open K14.Gn
/-! ### boxes that come of whole ones by halving -/
def figsB (x : List Int) : Prop := ∀ n ∈ x, n = 0 ∨ n = 1
/-- a box of the law's making -/
structure LBx (ns : List Str) (b : Bx) : Prop where
  s : b.s ∈ ns
  x : figsB b.x
  y : figsB b.y
  l : b.x.length + b.y.length ≤ 11
structure Fam (ns : List Str) (bs : List Bx) : Prop where
  all : ∀ b ∈ bs, LBx ns b
  prs : bs.Pairwise fun b c => baB b c = true
theorem apB_zip (x y : List Int) : apB x y = !((x.zip y).all fun p => decide (p.1 = p.2)) := by
  unfold apB
  rw [zip_take]
theorem zip_symm : ∀ (x y : List Int), ((x.zip y).all fun p => decide (p.1 = p.2)) = ((y.zip x).all fun p => decide (p.1 = p.2))
  | [], [] => rfl
  | [], _ :: _ => rfl
  | _ :: _, [] => rfl
  | a :: x, b :: y => by
    rw [List.zip_cons_cons, List.zip_cons_cons, List.all_cons, List.all_cons, zip_symm x y]
    congr 1
    by_cases h : a = b
    · simp [h]
    · simp [h, Ne.symm h]
theorem apB_symm (x y : List Int) : apB x y = apB y x := by rw [apB_zip, apB_zip, zip_symm]
theorem baB_symm (b c : Bx) : baB b c = baB c b := by
  unfold baB
  rw [apB_symm b.x, apB_symm b.y]
  congr 1
  by_cases h : b.s = c.s
  · simp [h]
  · simp [h, Ne.symm h]
theorem zip_long : ∀ (x y : List Int) (i : Int), (((x ++ [i]).zip y).all fun p => decide (p.1 = p.2)) = true → ((x.zip y).all fun p => decide (p.1 = p.2)) = true
  | [], _, _, _ => rfl
  | _ :: _, [], _, _ => rfl
  | a :: x, b :: y, i, h => by
    rw [List.cons_append, List.zip_cons_cons, List.all_cons, Bool.and_eq_true] at h
    rw [List.zip_cons_cons, List.all_cons, Bool.and_eq_true]
    exact ⟨h.1, zip_long x y i h.2⟩
theorem apB_long {x y : List Int} (i : Int) (h : apB x y = true) : apB (x ++ [i]) y = true := by
  rw [apB_zip] at h ⊢
  cases q : ((x ++ [i]).zip y).all fun p => decide (p.1 = p.2) with
  | false => rfl
  | true =>
    rw [zip_long x y i q] at h
    cases h
theorem zip_two : ∀ x : List Int, (((x ++ [0]).zip (x ++ [1])).all fun p => decide (p.1 = p.2)) = false
  | [] => rfl
  | a :: x => by
    rw [List.cons_append, List.cons_append, List.zip_cons_cons, List.all_cons, zip_two x, Bool.and_false]
theorem apB_two (x : List Int) : apB (x ++ [0]) (x ++ [1]) = true := by rw [apB_zip, zip_two]; rfl
theorem ba_half {b c : Bx} (kx : Bool) (i : Int) (h : baB b c = true) : baB (half b kx i) c = true := by
  unfold baB at h ⊢
  cases kx with
  | true =>
    show (!decide (b.s = c.s) || (apB (b.x ++ [i]) c.x || apB b.y c.y)) = true
    cases q1 : decide (b.s = c.s) with
    | false => rfl
    | true =>
      rw [q1] at h
      cases q2 : apB b.x c.x with
      | true => rw [apB_long i q2]; rfl
      | false =>
        rw [q2] at h
        have h : apB b.y c.y = true := h
        rw [h, Bool.or_true]
        rfl
  | false =>
    show (!decide (b.s = c.s) || (apB b.x c.x || apB (b.y ++ [i]) c.y)) = true
    cases q1 : decide (b.s = c.s) with
    | false => rfl
    | true =>
      rw [q1] at h
      cases q2 : apB b.x c.x with
      | true => rfl
      | false =>
        rw [q2] at h
        have h : apB b.y c.y = true := h
        rw [apB_long i h]
        rfl
theorem ba_two (b : Bx) (kx : Bool) : baB (half b kx 0) (half b kx 1) = true := by
  unfold baB
  cases kx with
  | true =>
    show (!decide (b.s = b.s) || (apB (b.x ++ [0]) (b.x ++ [1]) || apB b.y b.y)) = true
    rw [apB_two, Bool.true_or, Bool.or_true]
  | false =>
    show (!decide (b.s = b.s) || (apB b.x b.x || apB (b.y ++ [0]) (b.y ++ [1]))) = true
    rw [apB_two, Bool.or_true, Bool.or_true]
theorem Fam.perm {ns : List Str} {bs cs : List Bx} (f : Fam ns bs) (p : cs.Perm bs) : Fam ns cs :=
  ⟨fun b hb => f.all b (p.mem_iff.mp hb), (p.pairwise_iff (R := fun b c => baB b c = true) fun {x y} h => by rw [baB_symm]; exact h).mpr f.prs⟩
theorem pop_perm {bs : List Bx} {i : Nat} (h : i < bs.length) : (bs[i] :: bs.eraseIdx i).Perm bs := by
  rw [List.eraseIdx_eq_take_drop_succ]
  have e2 : bs.take i ++ bs[i] :: bs.drop (i + 1) = bs := by rw [← List.drop_eq_getElem_cons h, List.take_append_drop]
  exact (List.perm_middle.symm).trans (List.Perm.of_eq e2)
/-- a box goes out and comes back as it was -/
theorem Fam.back {ns : List Str} {bs : List Bx} {i : Nat} (f : Fam ns bs) (h : i < bs.length) : Fam ns (bs.eraseIdx i ++ [bs[i]]) :=
  f.perm ((List.perm_append_singleton _ _).trans (pop_perm h))
theorem Fam.halve {ns : List Str} {bs : List Bx} {i : Nat} (f : Fam ns bs) (h : i < bs.length) (kx : Bool) (sh : bs[i].x.length + bs[i].y.length ≤ 10) : Fam ns (bs.eraseIdx i ++ [half bs[i] kx 0, half bs[i] kx 1]) := by
  obtain ⟨a1, a2⟩ := f.perm (pop_perm h)
  obtain ⟨p1, p2⟩ := List.pairwise_cons.mp a2
  have b0 := a1 bs[i] (List.mem_cons_self ..)
  have hl : ∀ j : Int, j = 0 ∨ j = 1 → LBx ns (half bs[i] kx j) := fun j hj => by
    have fx : ∀ x : List Int, figsB x → figsB (x ++ [j]) := fun x hx n hn => by
      rcases List.mem_append.mp hn with hn | hn
      · exact hx n hn
      · rw [List.mem_singleton.mp hn]; exact hj
    cases kx with
    | true => exact ⟨b0.s, fx _ b0.x, b0.y, by show (bs[i].x ++ [j]).length + bs[i].y.length ≤ 11; rw [List.length_append]; simp only [List.length_singleton]; omega⟩
    | false => exact ⟨b0.s, b0.x, fx _ b0.y, by show bs[i].x.length + (bs[i].y ++ [j]).length ≤ 11; rw [List.length_append]; simp only [List.length_singleton]; omega⟩
  have q : Fam ns (half bs[i] kx 0 :: half bs[i] kx 1 :: bs.eraseIdx i) := by
    refine ⟨fun b hb => ?_, ?_⟩
    · rcases List.mem_cons.mp hb with rfl | hb
      · exact hl 0 (.inl rfl)
      · rcases List.mem_cons.mp hb with rfl | hb
        · exact hl 1 (.inr rfl)
        · exact a1 b (List.mem_cons_of_mem _ hb)
    · refine List.pairwise_cons.mpr ⟨fun c hc => ?_, List.pairwise_cons.mpr ⟨fun c hc => ba_half kx 1 (p1 c hc), p2⟩⟩
      rcases List.mem_cons.mp hc with rfl | hc
      · exact ba_two _ kx
      · exact ba_half kx 0 (p1 c hc)
  refine q.perm ?_
  exact List.perm_append_comm
theorem Fam.whole {ns : List Str} (nd : ns.Nodup) : Fam ns (ns.map fun s => ⟨s, [], []⟩) := by
  refine ⟨fun b hb => ?_, ?_⟩
  · obtain ⟨s, hs, rfl⟩ := List.mem_map.mp hb
    exact ⟨hs, (fun n hn => nomatch hn), (fun n hn => nomatch hn), Nat.zero_le _⟩
  · refine List.pairwise_map.mpr (List.Pairwise.imp (fun {a b} h => ?_) nd)
    unfold baB
    show (!decide (a = b) || _) = true
    rw [decide_eq_false h]
    rfl
/-- data of boxes in another order -/
theorem th_perm {H : Hp} {xs ys : List V} (p : ys.Perm xs) : ∀ {bs : List Bx}, ThAll H xs (bs.map bxD) → ∃ cs : List Bx, cs.Perm bs ∧ ThAll H ys (cs.map bxD) := by
  induction p with
  | nil => intro bs h; exact ⟨bs, .refl _, h⟩
  | cons x p ih =>
    intro bs h
    match bs, h with
    | b :: bs, .cons h1 h2 =>
      obtain ⟨cs, p1, t⟩ := ih h2
      exact ⟨b :: cs, p1.cons b, .cons h1 t⟩
  | swap x y r =>
    intro bs h
    match bs, h with
    | b :: c :: bs, .cons h1 (.cons h2 h3) => exact ⟨c :: b :: bs, .swap b c bs, .cons h2 (.cons h1 h3)⟩
  | trans p q ih1 ih2 =>
    intro bs h
    obtain ⟨cs, p1, t1⟩ := ih2 h
    obtain ⟨es, p2, t2⟩ := ih1 t1
    exact ⟨es, p2.trans p1, t2⟩
theorem bxV_th {H : Hp} {v : V} {b : Bx} (h : BxV H v b) : Th H v (bxD b) := by
  obtain ⟨a, p, q, rfl, h1, h2, h3⟩ := h
  exact .tup h1 (.cons (.str _) (.cons (.lst h2 (th_list _)) (.cons (.lst h3 (th_list _)) .nil)))
theorem th_bxV {H : Hp} {v : V} {b : Bx} (h : Th H v (bxD b)) : BxV H v b := by
  unfold bxD at h
  cases h with
  | tup ha r =>
    cases r with
    | cons t0 r =>
      cases r with
      | cons t1 r =>
        cases r with
        | cons t2 r =>
          cases r
          cases t0
          cases t1 with
          | lst h1 r1 =>
            cases t2 with
            | lst h2 r2 =>
              rw [th_ints r1] at h1
              rw [th_ints r2] at h2
              exact ⟨_, _, _, rfl, ha, h1, h2⟩
end K14.T27
namespace K14.Gn
open PySem PySem.W PySem.Calls PyProof.Rows L2 LamX
open Kz (same_new small4)
theorem asgS {te : TE} {g : TG} {u : TS} {D : Ends} {σ : L2.St} {H : Hp} (h : te σ H fun x H1 => g x σ H1 fun σ2 H2 => u D σ2 H2) : tSeq (tAsg te g) u D σ H := h
/-- a comprehension over data, some places left out of sight -/
theorem lc_thS {K : Frag} {k : Nat} {d : PyData} {σ : L2.St} {H : Hp} {tl te : TE} {vs : List Nat} {Q : VK} (S : List Addr) (ins : Ins S H) (f : PyData → PyData) (ht : ∀ R : VK, (∀ (v' : V) (G0 : Hp), L2.Same H G0 → Th (Hid S G0) v' d → R v' G0) → tl σ H R) (l : isL d = true) (len : (its d).length ≤ 100000)
    (hw : ∀ x : V, wipe ((wipe σ vs).set k (some x)) vs = wipe σ vs)
    (hs : ∀ (D : Addr) (j : Nat) (z : PyData) (x : V) (G : Hp) (Q' : VK), (its d)[j]? = some z → L2.Same H G → Ins (D :: S) G → Th (Hid (D :: S) G) x z → (∀ (G' : Hp) (y : V), L2.Same G G' → Th (Hid (D :: S) G') y (f z) → Q' y G') → te ((wipe σ vs).set k (some x)) G Q')
    (hq : ∀ (G : Hp) (D : Addr) (ys : List V), L2.Same H G → H D = none → G D = some (.lst ys) → ThAll (Hid (D :: S) G) ys ((its d).map f) → Q (.ref D) G) : tLc (iSq K tl) (gName k) tYes te vs σ H Q := by
  let Pv (G0 : Hp) (D : Addr) (j : Nat) (H2 : Hp) : Prop := L2.Same G0 H2 ∧ ∃ ys, H2 D = some (.lst ys) ∧ ys.length = j ∧ ThAll (Hid (D :: S) H2) ys (((its d).take j).map f)
  have hidE : ∀ {G0 H2 : Hp} {D : Addr}, G0 D = none → L2.Same G0 H2 → L2.Same (Hid S G0) (Hid (D :: S) H2) := fun {G0 H2 D} n e b o h => by
    obtain ⟨h1, h2, h3⟩ := hid_at h
    refine hid_of (fun m => ?_) (e _ _ h2) h3
    rcases List.mem_cons.mp m with q | q
    · exact ne_of_none h2 n q
    · exact h1 q
  have step : ∀ (G0 : Hp) (xs : List V), L2.Same H G0 → ThAll (Hid S G0) xs (its d) → ∀ (D : Addr), G0 D = none → ∀ (i : Nat) (x : V) (H2 : Hp), xs[i]? = some x → Pv G0 D i H2 →
      (wipe ((wipe σ vs).set k (some x)) vs = wipe σ vs ∧ tYes ((wipe σ vs).set k (some x)) H2 fun c H3 => if c = true then te ((wipe σ vs).set k (some x)) H3 fun y H4 => ∃ acc, H4 D = some (.lst acc) ∧ acc.length < sizeLine ∧ Pv G0 D (i + 1) (upd H4 D (.lst (acc ++ [y]))) else Pv G0 D (i + 1) H3) := by
    intro G0 xs s0 r D hD i x H2 hi ⟨Sm, ys, hA, ly, ty⟩
    obtain ⟨z, hz, tz⟩ := r.get hi
    refine ⟨hw x, ?_⟩
    unfold tYes
    show (if true = true then _ else _)
    rw [if_pos rfl]
    have il : i < (its d).length := (List.getElem?_eq_some_iff.mp hz).1
    have insG : Ins (D :: S) H2 := (ins.same (s0.trans Sm)).cons hA
    refine hs D i z x H2 _ hz (s0.trans Sm) insG (tz.ext (hidE hD Sm)) fun H4 y s4 t4 => ⟨ys, s4 _ _ hA, by rw [ly, sizeLine_eq]; omega, fun c o e => ?_, ys ++ [y], upd_same, by rw [List.length_append, ly]; rfl, ?_⟩
    · rw [upd_ne (ne_of_none e hD)]
      exact s4 _ _ (Sm _ _ e)
    · have et : (its d).take (i + 1) = (its d).take i ++ [z] := by
        rw [List.take_add_one, hz]
        rfl
      rw [et, List.map_append]
      exact ThAll.snoc (t4.ext (hid_upd (List.mem_cons_self ..))) ((ty.ext (hid_same s4)).ext (hid_upd (List.mem_cons_self ..)))
  have start : ∀ (G0 : Hp) (D : Addr), G0 D = none → Pv G0 D 0 (upd G0 D (.lst [])) := fun G0 D hD => ⟨same_new hD, [], upd_same, rfl, .nil⟩
  have fin : ∀ (G0 : Hp) (xs : List V), L2.Same H G0 → ThAll (Hid S G0) xs (its d) → ∀ (D : Addr), G0 D = none → ∀ (H2 : Hp), Pv G0 D xs.length H2 → Q (.ref D) H2 := fun G0 xs s0 r D hD H2 ⟨Sm, ys, hA, ly, ty⟩ => by
    rw [r.length, List.take_length] at ty
    exact hq H2 D ys (s0.trans Sm) (s0.free hD) hA ty
  cases d with
  | list ds =>
    refine .inl (ht _ fun v' G0 s0 t0 => ?_)
    cases t0 with
    | @lst a xs _ hx r => exact ⟨a, rfl, ⟨xs, .inl (.inl (hid_up _ _ hx))⟩, fun D hD => lc_list (xs := xs) (Pv G0 D) (start G0 D hD) (fun i H2 _ e => .inl (.inl (e.1 _ _ (hid_up _ _ hx)))) (fun i x H2 hi e => step G0 xs s0 r D hD i x H2 hi e) (fun H2 e => fin G0 xs s0 r D hD H2 e)⟩
  | tuple ds =>
    refine .inr (ht _ fun v' G0 s0 t0 => ?_)
    cases t0 with
    | @tup a xs _ hx r => exact ⟨a, rfl, ⟨xs, .inl (.inl (hid_up _ _ hx))⟩, fun D hD => lc_tup (xs := xs) (Pv G0 D) (start G0 D hD) (fun i H2 _ e => .inl (.inl (e.1 _ _ (hid_up _ _ hx)))) (fun i x H2 hi e => step G0 xs s0 r D hD i x H2 hi e) (fun H2 e => fin G0 xs s0 r D hD H2 e)⟩
  | _ => exact absurd (show false = true from l) Bool.false_ne_true
end K14.Gn
namespace K14
open PySem PySem.W PySem.Calls PyProof.Rows L2 LamX
open He (ga)
open Kz (SS ExtS ExtS.trans small4 same_new boot_in boot_li new_ext Has pe_has noE HasG pe_hasG FnG)
/-! ### calls by keywords alone, both turned about -/
def revG : List Value → List Value → List Value
  | [], ws => ws.reverse
  | _, _ => []
def revV : List V → List V → List V
  | [], zs => zs.reverse
  | _, _ => []
theorem vals_snoc {v : V} {u : Value} (r : RelV v u) : ∀ {vs : List V} {us : List Value}, Vals vs us → Vals (vs ++ [v]) (us ++ [u])
  | _, _, .nil => .cons r .nil
  | _, _, .cons a t => .cons a (vals_snoc r t)
theorem vals_rev : ∀ {vs : List V} {us : List Value}, Vals vs us → Vals vs.reverse us.reverse
  | _, _, .nil => .nil
  | _, _, .cons a t => by
    rw [List.reverse_cons, List.reverse_cons]
    exact vals_snoc a (vals_rev t)
/-! ### what repr shows of a row -/
end K14
namespace K14.Gn
open PySem PySem.W PySem.Calls PyProof.Rows L2 LamX
/-! ### good data: small numbers, short texts, at most empty dicts -/
def gdS (x : Str) : Bool := (x.cps.toList.all fun c => c < 16 ^ 8) && (PyData.strOk x && decide (x.cps.size ≤ 10))
mutual
def gd (e : Bool) : PyData → Bool
  | .none => true
  | .bool _ => true
  | .int i => decide (0 ≤ i) && decide (i ≤ 9)
  | .str x => gdS x
  | .list xs => gdA e xs
  | .tuple xs => gdA e xs
  | .dict ps => e && ps.isEmpty
def gdA (e : Bool) : List PyData → Bool
  | [] => true
  | x :: xs => gd e x && gdA e xs
end
theorem gdA_all {e : Bool} : ∀ {xs : List PyData}, gdA e xs = true ↔ ∀ x ∈ xs, gd e x = true
  | [] => ⟨(fun _ x h => nomatch h), fun _ => rfl⟩
  | x :: xs => by
    show (gd e x && gdA e xs) = true ↔ _
    rw [Bool.and_eq_true, gdA_all]
    exact ⟨fun h y hy => (List.mem_cons.mp hy).elim (fun q => by rw [q]; exact h.1) fun q => h.2 y q, fun h => ⟨h x (List.mem_cons_self ..), fun y hy => h y (List.mem_cons_of_mem _ hy)⟩⟩
mutual
theorem gd_mono : ∀ (d : PyData), gd false d = true → gd true d = true
  | .none, _ => rfl
  | .bool _, _ => rfl
  | .int _, h => h
  | .str _, h => h
  | .list xs, h => gdA_mono xs h
  | .tuple xs, h => gdA_mono xs h
  | .dict _, h => absurd (show false = true from h) Bool.false_ne_true
theorem gdA_mono : ∀ (xs : List PyData), gdA false xs = true → gdA true xs = true
  | [], _ => rfl
  | x :: xs, h => by
    obtain ⟨a, b⟩ := Bool.and_eq_true_iff.mp (show (gd false x && gdA false xs) = true from h)
    show (gd true x && gdA true xs) = true
    rw [gd_mono x a, gdA_mono xs b]
    rfl
end
mutual
theorem gd_lay : ∀ (d : PyData), gd false d = true → PyData.canLay0 d = true
  | .none, _ => rfl
  | .bool _, _ => rfl
  | .int _, _ => rfl
  | .str x, h => (Bool.and_eq_true_iff.mp (Bool.and_eq_true_iff.mp (show (_ && (PyData.strOk x && _)) = true from h)).2).1
  | .list xs, h => gdA_lay xs h
  | .tuple xs, h => gdA_lay xs h
  | .dict _, h => absurd (show false = true from h) Bool.false_ne_true
theorem gdA_lay : ∀ (xs : List PyData), gdA false xs = true → PyData.canLayAll0 xs = true
  | [], _ => rfl
  | x :: xs, h => by
    obtain ⟨a, b⟩ := Bool.and_eq_true_iff.mp (show (gd false x && gdA false xs) = true from h)
    show (PyData.canLay0 x && PyData.canLayAll0 xs) = true
    rw [gd_lay x a, gdA_lay xs b]
    rfl
end
theorem small_int : ∀ i : Int, 0 ≤ i → i ≤ 9 → (PyData.leavesShort 8 (.int i)) = true := fun i h0 h1 => by
  obtain ⟨n, rfl⟩ : ∃ n : Nat, i = (n : Nat) := ⟨i.toNat, by omega⟩
  have hn : n < 10 := by omega
  match n, hn with
  | 0, _ => decide +kernel
  | 1, _ => decide +kernel
  | 2, _ => decide +kernel
  | 3, _ => decide +kernel
  | 4, _ => decide +kernel
  | 5, _ => decide +kernel
  | 6, _ => decide +kernel
  | 7, _ => decide +kernel
  | 8, _ => decide +kernel
  | 9, _ => decide +kernel
mutual
theorem gd_short {e : Bool} : ∀ (d : PyData), gd e d = true → PyData.leavesShort 8 d = true
  | .none, _ => rfl
  | .bool _, _ => rfl
  | .int i, h => by
    obtain ⟨a, b⟩ := Bool.and_eq_true_iff.mp (show (decide (0 ≤ i) && decide (i ≤ 9)) = true from h)
    exact small_int i (of_decide_eq_true a) (of_decide_eq_true b)
  | .str x, h => (Bool.and_eq_true_iff.mp (show (_ && _) = true from h)).1
  | .list xs, h => gdA_short xs h
  | .tuple xs, h => gdA_short xs h
  | .dict ps, h => by
    obtain ⟨_, b⟩ := Bool.and_eq_true_iff.mp (show (e && ps.isEmpty) = true from h)
    have : ps = [] := List.isEmpty_iff.mp b
    subst this
    rfl
theorem gdA_short {e : Bool} : ∀ (xs : List PyData), gdA e xs = true → PyData.leavesShortAll 8 xs = true
  | [], _ => rfl
  | x :: xs, h => by
    obtain ⟨a, b⟩ := Bool.and_eq_true_iff.mp (show (gd e x && gdA e xs) = true from h)
    show (PyData.leavesShort 8 x && PyData.leavesShortAll 8 xs) = true
    rw [gd_short x a, gdA_short xs b]
    rfl
end
mutual
theorem gd_show {e : Bool} : ∀ (d : PyData), gd e d = true → PyData.showable d = true
  | .none, _ => rfl
  | .bool _, _ => rfl
  | .int i, h => by
    obtain ⟨a, b⟩ := Bool.and_eq_true_iff.mp (show (decide (0 ≤ i) && decide (i ≤ 9)) = true from h)
    have := of_decide_eq_true a
    have := of_decide_eq_true b
    obtain ⟨n, rfl⟩ : ∃ n : Nat, i = (n : Nat) := ⟨i.toNat, by omega⟩
    have hn : n < 10 := by omega
    match n, hn with
    | 0, _ => decide
    | 1, _ => decide
    | 2, _ => decide
    | 3, _ => decide
    | 4, _ => decide
    | 5, _ => decide
    | 6, _ => decide
    | 7, _ => decide
    | 8, _ => decide
    | 9, _ => decide
  | .str x, h => rfl
  | .list xs, h => gdA_show xs h
  | .tuple xs, h => gdA_show xs h
  | .dict ps, h => by
    obtain ⟨_, b⟩ := Bool.and_eq_true_iff.mp (show (e && ps.isEmpty) = true from h)
    have : ps = [] := List.isEmpty_iff.mp b
    subst this
    rfl
theorem gdA_show {e : Bool} : ∀ (xs : List PyData), gdA e xs = true → PyData.showableAll xs = true
  | [], _ => rfl
  | x :: xs, h => by
    obtain ⟨a, b⟩ := Bool.and_eq_true_iff.mp (show (gd e x && gdA e xs) = true from h)
    show (PyData.showable x && PyData.showableAll xs) = true
    rw [gd_show x a, gdA_show xs b]
    rfl
end
mutual
theorem Th.dp {K : Frag} {H : Hp} : ∀ {v : V} {d : PyData}, Th H v d → gd false d = true → Dp K H v d
  | _, _, .non, _ => .non
  | _, _, .bl b, _ => .bl b
  | _, _, .int i, _ => .int i
  | _, _, .str x, _ => .str x
  | _, _, .lst h r, g => .lst (.inl (.inl h)) (ThAll.dp r g)
  | _, _, .tup h r, g => .tup (.inl (.inl h)) (ThAll.dp r g)
  | _, _, .dct h r, g => absurd (show false = true from g) Bool.false_ne_true
theorem ThAll.dp {K : Frag} {H : Hp} : ∀ {v : List V} {d : List PyData}, ThAll H v d → gdA false d = true → DpAll K H v d
  | _, _, .nil, _ => .nil
  | _, _, .cons h r, g => by
    obtain ⟨a, b⟩ := Bool.and_eq_true_iff.mp (show (gd false _ && gdA false _) = true from g)
    exact .cons (Th.dp h a) (ThAll.dp r b)
end
theorem gd_shaped {d : PyData} (g : gd false d = true) (h : PyData.depth d ≤ 64) : SeqAt.shaped d = true := by
  unfold SeqAt.shaped
  rw [gd_lay d g, Bool.true_and]
  exact decide_eq_true h
end K14.Gn
namespace K14.T27
open PySem PySem.W PySem.Calls PyProof.Rows L2 LamX
open He (ga)
open Kz (SS ExtS ExtS.trans small4 same_new boot_in boot_li boot_isi Has pe_has noE PSs.of_eq seqI new_ext)
open K14.Gn
open StX
abbrev sTt : Stmt := topS 34
abbrev NTt : List Str := ["stream", "ends", "cuts", "left", "cut", "box", "is_long", "table", "pair", "end"]
theorem scTt : FnScope NTt ["stream", "ends", "cuts"] (defScope sTt) := ⟨rfl, rfl, rfl, by decide +kernel, rfl, by decide +kernel, by decide +kernel⟩
theorem bdTt : defBody sTt = [stOf sTt 0, stOf sTt 1, stOf sTt 2, stOf sTt 3, stOf sTt 4] := by rfl
def scOfH : Stmt → Scope
  | .Assign _ (.ListComp _ _ sc _) _ => sc
  | _ => defScope sTt
def ttSc : Scope := scOfH (stOf sTt 0)
theorem chkT : blkC NTt (defScope sTt) ttSc [("end", 9)] = true := by decide +kernel
def fb (i k : Nat) : Stmt := (forBody (stOf sTt i)).getD k (.Pass ⟨0, 0, 0, 0⟩)
theorem bdT1 : forBody (stOf sTt 1) = [fb 1 0, fb 1 1, fb 1 2] := by rfl
theorem bdT3 : forBody (stOf sTt 3) = [fb 3 0] := by rfl
def wb : PyData → PyData
  | .str s => bxD ⟨s, [], []⟩
  | _ => .none
/-- a table, and boxes, of the law's making -/
def prD (p : Bx × Bx) : PyData := .tuple [bxD p.1, bxD p.2]
def tbD (ps : List (Bx × Bx)) : PyData := .list (ps.map prD)
def ldD (bs : List Bx) : PyData := .list (bs.map bxD)
def flatP (ps : List (Bx × Bx)) : List Bx := ps.flatMap fun p => [p.1, p.2]
theorem names_gd : endNames.all gdS = true := by decide +kernel
theorem fig_gd {x : List Int} (h : figsB x) (e : Bool) : gdA e (x.map PyData.int) = true := gdA_all.mpr fun z hz => by
  obtain ⟨n, hn, rfl⟩ := List.mem_map.mp hz
  rcases h n hn with rfl | rfl <;> rfl
theorem bx_gd {ns : List Str} (hn : ∀ s ∈ ns, s ∈ endNames) {b : Bx} (h : LBx ns b) (e : Bool) : gd e (bxD b) = true := by
  show (gdS b.s && (gdA e (b.x.map PyData.int) && (gdA e (b.y.map PyData.int) && true))) = true
  rw [List.all_eq_true.mp names_gd _ (hn _ h.s), fig_gd h.x, fig_gd h.y]
  rfl
theorem bx_dep (b : Bx) : PyData.depth (bxD b) = 2 := by
  unfold bxD
  simp only [PyData.depth, PyData.depthAll, Kz.depth_int]
  rfl
theorem ld_dep (bs : List Bx) : PyData.depth (ldD bs) ≤ 3 := by
  have : PyData.depthAll (bs.map bxD) ≤ 2 := by
    induction bs with
    | nil => exact Nat.zero_le _
    | cons b r ih =>
      simp only [List.map_cons, PyData.depthAll, bx_dep]
      omega
  show PyData.depthAll (bs.map bxD) + 1 ≤ 3
  omega
theorem ld_gd {ns : List Str} (hn : ∀ s ∈ ns, s ∈ endNames) {bs : List Bx} (h : ∀ b ∈ bs, LBx ns b) (e : Bool) : gd e (ldD bs) = true := gdA_all.mpr fun z hz => by
  obtain ⟨b, hb, rfl⟩ := List.mem_map.mp hz
  exact bx_gd hn (h b hb) e
theorem map_erase {α β : Type} (f : α → β) : ∀ (l : List α) (i : Nat), (l.map f).eraseIdx i = (l.eraseIdx i).map f
  | [], _ => rfl
  | _ :: _, 0 => rfl
  | a :: l, i + 1 => by
    show f a :: (l.map f).eraseIdx i = f a :: (l.eraseIdx i).map f
    rw [map_erase f l i]
theorem thAll_erase {H : Hp} : ∀ {i : Nat} {xs : List V} {ds : List PyData}, ThAll H xs ds → ThAll H (xs.eraseIdx i) (ds.eraseIdx i)
  | _, _, _, .nil => .nil
  | 0, _, _, .cons _ r => r
  | i + 1, _, _, .cons a r => .cons a (thAll_erase r)
section
variable {P : Program} {w : World} {K : Frag} {mg : Str → Option Value} {base : Heap}
def spThS : Sp := fun vs H Q _ => ∃ (S : List Addr) (v : V) (b : Bx) (kx : Bool), vs = [v, .str (if kx = true then "x" else "y")] ∧ Ins S H ∧ BxV (Hid S H) v b ∧ b.x.length ≤ 500 ∧ b.y.length ≤ 500 ∧ ∀ (H' : Hp) (r : Addr) (v1 v2 : V), L2.Same H H' → H r = none → H' r = some (.lst [v1, v2]) → BxV (Hid S H') v1 (half b kx 0) → BxV (Hid S H') v2 (half b kx 1) → Q (.ref r) H'
theorem ok_thS {f : Addr} {fd : FuncData} (F : FunD K "_law_t_halves" "_law_t_halves" (defArgs sTh) (defBody sTh) (defScope sTh) [] [] f fd) : FnOk P w K mg base CX0 1 f fd ["box", "kind"] spThS := by
  refine F.ok scTh (fun vs H Q E h => ?_) (fun cdv A outer s H vs Q XE hr h => ?_)
  · obtain ⟨S, v, b, kx, rfl, _⟩ := h
    rfl
  · obtain ⟨S, v, b, kx, rfl, ins, hb, lx, ly, k⟩ := h
    have h0 : PS (cxOf CX0 P w K mg base ["box", "kind", "end", "s", "t"] "_law_t_halves" (defScope sTh) f cdv A outer s H XE).nox (stOf sTh 0) _ := ps_asg (pv 0) (pg_tup (n := 3) rfl (pgs_cons (pg_name (i := 2) scTh.nd rfl (.inl rfl)) (pgs_cons (pg_name (i := 3) scTh.nd rfl (.inl rfl)) (pgs_cons (pg_name (i := 4) scTh.nd rfl (.inl rfl)) pgs_nil))))
    have h1 : PS (cxOf CX0 P w K mg base ["box", "kind", "end", "s", "t"] "_law_t_halves" (defScope sTh) f cdv A outer s H XE).nox (stOf sTh 1) _ := ps_if (pt_cmpR op_eq (pv 1) pe_str (nomark _)) (pss_one (ps_ret (pe_lst (pa_cons (pe_tup (pa_cons (pv 2) (pa_cons (pe_op op_cat (pv 3) (pe_lst (pa_cons pe_int pa_nil))) (pa_cons (pv 4) pa_nil)))) (pa_cons (pe_tup (pa_cons (pv 2) (pa_cons (pe_op op_cat (pv 3) (pe_lst (pa_cons pe_int pa_nil))) (pa_cons (pv 4) pa_nil)))) pa_nil))))) pss_nil
    have h2 : PS (cxOf CX0 P w K mg base ["box", "kind", "end", "s", "t"] "_law_t_halves" (defScope sTh) f cdv A outer s H XE).nox (stOf sTh 2) _ := ps_ret (pe_lst (pa_cons (pe_tup (pa_cons (pv 2) (pa_cons (pv 3) (pa_cons (pe_op op_cat (pv 4) (pe_lst (pa_cons pe_int pa_nil))) pa_nil)))) (pa_cons (pe_tup (pa_cons (pv 2) (pa_cons (pv 3) (pa_cons (pe_op op_cat (pv 4) (pe_lst (pa_cons pe_int pa_nil))) pa_nil)))) pa_nil)))
    refine ⟨_, PSs.nox (PSs.of_eq bdTh (pss_cons h0 (pss_cons h1 (pss_one h2)))), ?_⟩
    clear h0 h1 h2
    obtain ⟨a, p, q, rfl, hha, hhp, hhq⟩ := hb
    have ha := hid_up _ _ hha
    have hp := hid_up _ _ hhp
    have hq := hid_up _ _ hhq
    have np := (hid_at hhp).1
    have nq := (hid_at hhq).1
    have hd : ∀ {G : Hp} {x : Addr} {o : HO}, x ∉ S → G x = some o → (∀ ps, o ≠ .tbl ps) → Hid S G x = some o := fun h1 h2 h3 => hid_of h1 h2 h3
    refine ⟨.ref a, rfl, a, _, rfl, .inl (.inl ha), rfl, _, _, rfl, _, _, rfl, _, _, rfl, rfl, ?_⟩
    have e1 : ∀ i : Int, (b.x.map V.int ++ [V.int i]) = (b.x ++ [i]).map V.int := fun i => by rw [List.map_append]; rfl
    have e2 : ∀ i : Int, (b.y.map V.int ++ [V.int i]) = (b.y ++ [i]).map V.int := fun i => by rw [List.map_append]; rfl
    have z1 : (b.x.map V.int).length + 1 ≤ sizeLine := by rw [List.length_map, sizeLine_eq]; omega
    have z2 : (b.y.map V.int).length + 1 ≤ sizeLine := by rw [List.length_map, sizeLine_eq]; omega
    cases kx with
    | true =>
      refine ⟨_, rfl, rfl, _, rfl, ?_⟩
      rw [show decide (V.str (if true = true then ("x" : Str) else "y") = V.str "x") = true from by decide +kernel]
      refine iteT ⟨.str b.s, rfl, .ref p, rfl, small4 1, fun n1 w1 => ⟨p, n1, _, _, rfl, rfl, same_new w1 _ _ hp, upd_same, z1, fun c1 w2 => ?_⟩⟩
      rw [e1]
      refine ⟨.ref q, rfl, small4 3, fun t1 w3 => ?_⟩
      have S1 := (same_new (o := .lst [.int 0]) w1).trans ((same_new (o := .lst ((b.x ++ [0]).map V.int)) w2).trans (same_new (o := .tup [.str b.s, .ref c1, .ref q]) w3))
      have i1 := ins.same (same_new (o := .lst [.int 0]) w1)
      have i2 := i1.same (same_new (o := .lst ((b.x ++ [0]).map V.int)) w2)
      have i3 := ins.same S1
      have r1 : BxV (Hid S (upd (upd (upd H n1 (.lst [.int 0])) c1 (.lst ((b.x ++ [0]).map V.int))) t1 (.tup [.str b.s, .ref c1, .ref q]))) (.ref t1) (half b true 0) := ⟨t1, c1, q, rfl, hd (i2.new w3) upd_same (fun ps z => nomatch z), hd (i1.new w2) (same_new w3 _ _ upd_same) (fun ps z => nomatch z), hd nq (S1 _ _ hq) (fun ps z => nomatch z)⟩
      generalize upd (upd (upd H n1 (.lst [.int 0])) c1 (.lst ((b.x ++ [0]).map V.int))) t1 (.tup [.str b.s, .ref c1, .ref q]) = H1 at S1 r1 i3 ⊢
      refine ⟨.str b.s, rfl, .ref p, rfl, small4 1, fun n2 w4 => ⟨p, n2, _, _, rfl, rfl, same_new w4 _ _ (S1 _ _ hp), upd_same, z1, fun c2 w5 => ?_⟩⟩
      rw [e1]
      refine ⟨.ref q, rfl, small4 3, fun t2 w6 => ⟨small4 2, fun r w7 => ?_⟩⟩
      have S2 := (same_new (o := .lst [.int 1]) w4).trans ((same_new (o := .lst ((b.x ++ [1]).map V.int)) w5).trans (same_new (o := .tup [.str b.s, .ref c2, .ref q]) w6))
      have i4 := i3.same (same_new (o := .lst [.int 1]) w4)
      have i5 := i4.same (same_new (o := .lst ((b.x ++ [1]).map V.int)) w5)
      have r2 : BxV (Hid S _) (.ref t2) (half b true 1) := ⟨t2, c2, q, rfl, hd (i5.new w6) upd_same (fun ps z => nomatch z), hd (i4.new w5) (same_new w6 _ _ upd_same) (fun ps z => nomatch z), hd nq (S2 _ _ (S1 _ _ hq)) (fun ps z => nomatch z)⟩
      have S3 := same_new (o := .lst [.ref t1, .ref t2]) w7
      exact k _ r (.ref t1) (.ref t2) (S1.trans (S2.trans S3)) ((S1.trans S2).free w7) upd_same (r1.ext (hid_same (S2.trans S3))) (r2.ext (hid_same S3))
    | false =>
      refine ⟨_, rfl, rfl, _, rfl, ?_⟩
      rw [show decide (V.str (if false = true then ("x" : Str) else "y") = V.str "x") = false from by decide +kernel]
      refine iteF ⟨.str b.s, rfl, .ref p, rfl, .ref q, rfl, small4 1, fun n1 w1 => ⟨q, n1, _, _, rfl, rfl, same_new w1 _ _ hq, upd_same, z2, fun c1 w2 => ?_⟩⟩
      rw [e2]
      refine ⟨small4 3, fun t1 w3 => ?_⟩
      have S1 := (same_new (o := .lst [.int 0]) w1).trans ((same_new (o := .lst ((b.y ++ [0]).map V.int)) w2).trans (same_new (o := .tup [.str b.s, .ref p, .ref c1]) w3))
      have i1 := ins.same (same_new (o := .lst [.int 0]) w1)
      have i2 := i1.same (same_new (o := .lst ((b.y ++ [0]).map V.int)) w2)
      have i3 := ins.same S1
      have r1 : BxV (Hid S (upd (upd (upd H n1 (.lst [.int 0])) c1 (.lst ((b.y ++ [0]).map V.int))) t1 (.tup [.str b.s, .ref p, .ref c1]))) (.ref t1) (half b false 0) := ⟨t1, p, c1, rfl, hd (i2.new w3) upd_same (fun ps z => nomatch z), hd np (S1 _ _ hp) (fun ps z => nomatch z), hd (i1.new w2) (same_new w3 _ _ upd_same) (fun ps z => nomatch z)⟩
      generalize upd (upd (upd H n1 (.lst [.int 0])) c1 (.lst ((b.y ++ [0]).map V.int))) t1 (.tup [.str b.s, .ref p, .ref c1]) = H1 at S1 r1 i3 ⊢
      refine ⟨.str b.s, rfl, .ref p, rfl, .ref q, rfl, small4 1, fun n2 w4 => ⟨q, n2, _, _, rfl, rfl, same_new w4 _ _ (S1 _ _ hq), upd_same, z2, fun c2 w5 => ?_⟩⟩
      rw [e2]
      refine ⟨small4 3, fun t2 w6 => ⟨small4 2, fun r w7 => ?_⟩⟩
      have S2 := (same_new (o := .lst [.int 1]) w4).trans ((same_new (o := .lst ((b.y ++ [1]).map V.int)) w5).trans (same_new (o := .tup [.str b.s, .ref p, .ref c2]) w6))
      have i4 := i3.same (same_new (o := .lst [.int 1]) w4)
      have i5 := i4.same (same_new (o := .lst ((b.y ++ [1]).map V.int)) w5)
      have r2 : BxV (Hid S _) (.ref t2) (half b false 1) := ⟨t2, p, c2, rfl, hd (i5.new w6) upd_same (fun ps z => nomatch z), hd np (S2 _ _ (S1 _ _ hp)) (fun ps z => nomatch z), hd (i4.new w5) (same_new w6 _ _ upd_same) (fun ps z => nomatch z)⟩
      have S3 := same_new (o := .lst [.ref t1, .ref t2]) w7
      exact k _ r (.ref t1) (.ref t2) (S1.trans (S2.trans S3)) ((S1.trans S2).free w7) upd_same (r1.ext (hid_same (S2.trans S3))) (r2.ext (hid_same S3))
theorem thAll_split {H : Hp} : ∀ {a b : List PyData} {xs : List V}, ThAll H xs (a ++ b) → ∃ x1 x2, xs = x1 ++ x2 ∧ ThAll H x1 a ∧ ThAll H x2 b
  | [], b, xs, h => ⟨[], xs, rfl, .nil, h⟩
  | d :: a, b, _, .cons h r => by
    obtain ⟨x1, x2, rfl, t1, t2⟩ := thAll_split r
    exact ⟨_ :: x1, x2, rfl, .cons h t1, t2⟩
theorem last2 {α : Type} (l : List α) (h : 2 ≤ l.length) : ∃ (r : List α) (b a : α), l = r ++ [b, a] := by
  have e := List.take_append_drop (l.length - 2) l
  have hd : (l.drop (l.length - 2)).length = 2 := by rw [List.length_drop]; omega
  match q : l.drop (l.length - 2), hd with
  | [b, a], _ => exact ⟨l.take (l.length - 2), b, a, by rw [q] at e; exact e.symm⟩
def LpU (l li en lm tb : Addr) (a4 a5 a6 : Option V) (S : List Addr) (m : Nat) (cs : List Bx) (c3 : Int) (H : Hp) (j : Nat) (σ : L2.St) (G : Hp) : Prop := ∃ (a8 : Option V) (us ts : List V) (es : List Bx) (ps : List (Bx × Bx)), σ = [some (.ref l), some (.ref en), some (.int (m : Nat)), some (.ref lm), a4, a5, a6, some (.ref tb), a8, none] ∧ G lm = some (.lst us) ∧ ThAll (Hid S G) us (es.map bxD) ∧ G tb = some (.lst ts) ∧ ThAll (Hid S G) ts (ps.map prD) ∧ (flatP ps ++ es).Perm cs ∧ ps.length = j ∧ Spr G l li c3 ∧ ExtS l li H G ∧ Ins S G
theorem flat_len : ∀ ps : List (Bx × Bx), (flatP ps).length = 2 * ps.length
  | [] => rfl
  | p :: r => by
    show ([p.1, p.2] ++ flatP r).length = _
    rw [List.length_append, flat_len r, List.length_cons]
    simp only [List.length_cons, List.length_nil]
    omega
def LpT (l li en lf : Addr) (ns : List Str) (m : Nat) (c : Int) (H : Hp) (j : Nat) (σ : L2.St) (G : Hp) : Prop := ∃ (a4 a5 a6 : Option V) (vs : List V) (bs : List Bx) (c' : Int), σ = [some (.ref l), some (.ref en), some (.int (m : Nat)), some (.ref lf), a4, a5, a6, none, none, none] ∧ G lf = some (.lst vs) ∧ ThAll (Hid [lf, l, li] G) vs (bs.map bxD) ∧ Fam ns bs ∧ 0 < bs.length ∧ bs.length ≤ 4 + j ∧ Spr G l li c' ∧ c' ≤ c + 2 * (j : Nat) ∧ ExtS l li H G
def spTt : Sp := fun vs H Q _ => ∃ (l li en : Addr) (c : Int) (ns : List Str) (m : Nat), vs = [.ref l, .ref en, .int (m : Nat)] ∧ Spr H l li c ∧ H en = some (.lst (ns.map V.str)) ∧ en ≠ l ∧ en ≠ li ∧ ns.Nodup ∧ 0 < ns.length ∧ ns.length ≤ 4 ∧ m ≤ 8 ∧ (∀ s ∈ ns, s ∈ endNames) ∧ c < 800000000 ∧
  ∀ (H' : Hp) (r t u : Addr) (ps : List (Bx × Bx)) (bs : List Bx) (c' : Int), ExtS l li H H' → Spr H' l li c' → c' ≤ c + 100 → (Hid [l, li] H') r = some (.tup [.ref t, .ref u]) → Th (Hid [l, li] H') (.ref t) (tbD ps) → Th (Hid [l, li] H') (.ref u) (ldD bs) → Fam ns (flatP ps ++ bs) → ps.length ≤ 6 → bs.length ≤ 12 → Q (.ref r) H'
theorem ok_tt {f : Addr} {fd : FuncData} (F : FunD K "_law_t_table" "_law_t_table" (defArgs sTt) (defBody sTt) (defScope sTt) [] [] f fd) (DR : Has P w K mg base "_law_draw" 1 ["stream", "many"] spDrW) (MX : Has P w K mg base "_law_mixed" 2 ["stream", "some"] spMxW) (PK : Has P w K mg base "_law_pick" 2 ["stream", "some"] spPk) (HV : Has P w K mg base "_law_t_halves" 1 ["box", "kind"] spThS)
    (mr : mg "range" = none) (mn : mg "len" = none) : FnOk P w K mg base CX0 3 f fd ["stream", "ends", "cuts"] spTt := by
  refine F.ok scTt (fun vs H Q E h => ?_) (fun cdv A outer s H vs Q XE hr h => ?_)
  · obtain ⟨l, li, en, c, ns, m, rfl, _⟩ := h
    rfl
  · obtain ⟨l, li, en, c, ns, m, rfl, hs, hen, n1, n2, nd, l0, l4, hm, hn, hc, k⟩ := h
    have h0 : PS (cxOf CX0 P w K mg base NTt "_law_t_table" (defScope sTt) f cdv A outer s H XE).nox (stOf sTt 0) _ := ps_setLc (X := (cxOf CX0 P w K mg base NTt "_law_t_table" (defScope sTt) f cdv A outer s H XE).nox) (i := 3) (te := tTup (tCons (tVar 9) (tCons (tLst tNil) (tCons (tLst tNil) tNil)))) (scope := ttSc) (own := [("end", 9)]) (g := gName 9) (tt := tYes) rfl scTt.nd rfl rfl (sw_true rfl rfl rfl (by decide +kernel)) (pi_sq (pv 1)) (blkOk_by chkT) (fun _ _ _ _ _ => pg_name (i := 9) scTt.nd rfl (Or.inl rfl)) (fun _ _ _ _ _ => pts_nil)
      (fun s0 H0 C0 cl0 fp0 => by exact pe_tup (pa_cons (pv 9) (pa_cons (pe_lst pa_nil) (pa_cons (pe_lst pa_nil) pa_nil))))
    have b0 : PS (cxOf CX0 P w K mg base NTt "_law_t_table" (defScope sTt) f cdv A outer s H XE).nox (fb 1 0) _ := ps_set (i := 5) scTt.nd rfl (.inl rfl) (pe_bm PySem.F.plainAttrs_list PySem.F.slot_list_pop PySem.F.type_list_pop mt_popAt (pv 3) (pa_cons (pe_has DR (hr.mono (by decide)) (by rfl) (pa_cons (pv 0) (pa_cons (pe_callB call_len_seq (by rfl) mn boot_len (pa_cons (pv 3) pa_nil)) pa_nil))) pa_nil))
    have b1 : PS (cxOf CX0 P w K mg base NTt "_law_t_table" (defScope sTt) f cdv A outer s H XE).nox (fb 1 1) _ := ps_set (i := 6) scTt.nd rfl (.inl rfl) (pe_cmpR op_gt (pe_op op_add (pe_callB call_len_seq (by rfl) mn boot_len (pa_cons (pe_ix ix_seq (pv 5) pe_int (fun _ _ => rfl)) pa_nil)) (pe_callB call_len_seq (by rfl) mn boot_len (pa_cons (pe_ix ix_seq (pv 5) pe_int (fun _ _ => rfl)) pa_nil))) pe_int (nomark _))
    have b2 : PS (cxOf CX0 P w K mg base NTt "_law_t_table" (defScope sTt) f cdv A outer s H XE).nox (fb 1 2) _ := ps_expr (pe_bm PySem.F.plainAttrs_list PySem.F.slot_list_extend PySem.F.type_list_extend mt_extend (pv 3) (pa_cons (pe_ifExp (pt_val (pv 6)) (pe_lst (pa_cons (pv 5) pa_nil)) (pe_has HV (hr.mono (by decide)) (by rfl) (pa_cons (pv 5) (pa_cons (pe_has PK hr (by rfl) (pa_cons (pv 0) (pa_cons (pe_lst (pa_cons pe_str (pa_cons pe_str pa_nil))) pa_nil))) pa_nil)))) pa_nil))
    have h1 : PS (cxOf CX0 P w K mg base NTt "_law_t_table" (defScope sTt) f cdv A outer s H XE).nox (stOf sTt 1) _ := ps_for PassesOwn.never rfl (pi_range1 (by rfl) mr (pa_cons (pe_ifExp (pt_cmpR (op_neD hr.units) (pv 3) (pe_lst pa_nil) (nomark _)) (pv 2) pe_int) pa_nil)) (pg_name (i := 4) scTt.nd rfl (.inl rfl)) (PSs.of_eq bdT1 (pss_cons b0 (pss_cons b1 (pss_one b2))))
    have h2 : PS (cxOf CX0 P w K mg base NTt "_law_t_table" (defScope sTt) f cdv A outer s H XE).nox (stOf sTt 2) _ := ps_par (i := 3) (j := 7) rfl scTt.nd rfl rfl (by decide) rfl rfl (pa_cons (pe_has MX hr (by rfl) (pa_cons (pv 0) (pa_cons (pv 3) pa_nil))) (pa_cons (pe_lst pa_nil) pa_nil)) (by rfl)
    have b3 : PS (cxOf CX0 P w K mg base NTt "_law_t_table" (defScope sTt) f cdv A outer s H XE).nox (fb 3 0) _ := ps_expr (pe_bm PySem.F.plainAttrs_list PySem.F.slot_list_append PySem.F.type_list_append mt_append (pv 7) (pa_cons (pe_tup (pa_cons (pe_bm0 PySem.F.plainAttrs_list PySem.F.slot_list_pop PySem.F.type_list_pop mt_pop (pv 3)) (pa_cons (pe_bm0 PySem.F.plainAttrs_list PySem.F.slot_list_pop PySem.F.type_list_pop mt_pop (pv 3)) pa_nil))) pa_nil))
    have h3 : PS (cxOf CX0 P w K mg base NTt "_law_t_table" (defScope sTt) f cdv A outer s H XE).nox (stOf sTt 3) _ := ps_for PassesOwn.never rfl (pi_range1 (by rfl) mr (pa_cons (pe_has DR (hr.mono (by decide)) (by rfl) (pa_cons (pv 0) (pa_cons (pe_op op_add (pe_op op_fdiv (pe_callB call_len_seq (by rfl) mn boot_len (pa_cons (pv 3) pa_nil)) pe_int) pe_int) pa_nil))) pa_nil)) (pg_name (i := 8) scTt.nd rfl (.inl rfl)) (PSs.of_eq bdT3 (pss_one b3))
    have h4 : PS (cxOf CX0 P w K mg base NTt "_law_t_table" (defScope sTt) f cdv A outer s H XE).nox (stOf sTt 4) _ := ps_ret (pe_tup (pa_cons (pv 7) (pa_cons (pe_slice sl_list (pv 3) po_none (po_some (pe_has DR (hr.mono (by decide)) (by rfl) (pa_cons (pv 0) (pa_cons (pe_op op_add (pe_callB call_len_seq (by rfl) mn boot_len (pa_cons (pv 3) pa_nil)) pe_int) pa_nil))))) pa_nil)))
    refine ⟨_, PSs.nox (PSs.of_eq bdTt (pss_cons h0 (pss_cons h1 (pss_cons h2 (pss_cons h3 (pss_one h4)))))), ?_⟩
    clear h0 h1 h2 h3 h4 b0 b1 b2 b3
    have sm : ∀ {G : Hp}, L2.Same G G := fun _ _ e => e
    have m1 : l ∈ [l, li] := by simp
    have m2 : li ∈ [l, li] := by simp
    have el0 : its (.list (ns.map PyData.str)) = ns.map PyData.str := rfl
    refine asgS (lc_thS (d := .list (ns.map PyData.str)) [l, li] hs.ins wb (fun R h => ⟨.ref en, rfl, h _ _ sm (.lst (hid_of (by simp [n1, n2]) hen fun ps z => nomatch z) (th_strs ns))⟩) rfl (by rw [el0, List.length_map]; omega) (fun x => rfl) (fun D j z x G Q' hz S ins tz kk => ?_) (fun G0 lf vs S0 nf hf tf => ?_))
    · have hz : (ns.map PyData.str)[j]? = some z := hz
      rw [List.getElem?_map] at hz
      obtain ⟨s, hs', rfl⟩ := Option.map_eq_some_iff.mp hz
      cases tz
      refine ⟨.str s, rfl, Nat.zero_le _, fun p np => ⟨Nat.zero_le _, fun q nq => ⟨small4 3, fun t nt => ?_⟩⟩⟩
      have e1 := same_new (o := .lst []) np
      have e2 := same_new (o := .lst []) nq
      have e3 := same_new (o := .tup [.str s, .ref p, .ref q]) nt
      have p1 := ins.new np
      have p2 := (ins.same e1).new nq
      have p3 := ((ins.same e1).same e2).new nt
      refine kk _ _ (e1.trans (e2.trans e3)) (.tup (hid_of p3 upd_same fun ps z => nomatch z) (.cons (.str s) (.cons (.lst (hid_of p1 (e3 _ _ (e2 _ _ upd_same)) fun ps z => nomatch z) .nil) (.cons (.lst (hid_of p2 (e3 _ _ upd_same) fun ps z => nomatch z) .nil) .nil))))
    · have ew : (its (.list (ns.map PyData.str))).map wb = (ns.map fun s => (⟨s, [], []⟩ : Bx)).map bxD := by
        rw [el0, List.map_map, List.map_map]
        rfl
      rw [ew] at tf
      have f0 := Fam.whole nd
      have lb0 : (ns.map fun s => (⟨s, [], []⟩ : Bx)).length = ns.length := List.length_map ..
      generalize (ns.map fun s => (⟨s, [], []⟩ : Bx)) = bs0 at tf f0 lb0
      have s0 := hs.same S0
      have nl := hs.new nf
      have E0 : ExtS l li H G0 := same_S S0
      refine gset ?_
      have lvs : vs.length = bs0.length := by rw [tf.length, List.length_map]
      -- the cuts
      refine ⟨.ref lf, rfl, Nat.zero_le _, fun p np => ⟨ldD bs0, .list [], .lst (.inl (.inl (same_new np _ _ hf))) (ThAll.dp (K := K) ((tf.ext hid_up).ext (same_new np)) (ld_gd hn f0.all false)), .lst (.inl (.inl upd_same)) .nil, gd_shaped (ld_gd hn f0.all false) (Nat.le_trans (ld_dep bs0) (by decide)), rfl, _, rfl, ?_⟩⟩
      have ne0 : PyData.eqv (ldD bs0) (.list []) = false := by
        match bs0, lb0 with
        | [], q => exact absurd q.symm (Nat.ne_of_gt l0)
        | b :: r, _ => rfl
      rw [ne0]
      have e1 := same_new (o := .lst []) np
      refine iteT ⟨.int (m : Nat), rfl, (m : Nat), rfl, by omega, by omega, for_range (lo := 0) (n := ((m : Nat) : Int).toNat) (LpT l li en lf ns m c H)
        ⟨none, none, none, vs, bs0, c, rfl, e1 _ _ hf, tf.ext (hid_same e1), f0, by omega, by omega, s0.same e1, by omega, E0.trans (same_S e1)⟩ (fun j σ G hj e => ?_) (fun σ G e => ?_)⟩
      · obtain ⟨a4, a5, a6, vs, bs, c', rfl, hv, tv, fm, b0, b1, sp, cb, E⟩ := e
        have hj8 : j < m := by simpa using hj
        have lv : vs.length = bs.length := by rw [tv.length, List.length_map]
        refine ⟨.ref lf, rfl, .inl ⟨rfl, _, .inl (.inl hv)⟩, .ref l, rfl, .ref lf, rfl, lf, vs, rfl, .inl (.inl (.inl hv)), l, li, c', (vs.length : Nat), rfl, sp, by omega, by omega, by omega, fun H4 r e4 s4 r0 r1 => ?_⟩
        obtain ⟨k0, rfl⟩ : ∃ n : Nat, r = (n : Nat) := ⟨r.toNat, by omega⟩
        have kv : k0 < vs.length := by omega
        have kb : k0 < bs.length := by omega
        have hv4 := e4 lf _ hv nl.1 nl.2
        refine ⟨lf, vs, (k0 : Nat), k0, vs[k0], rfl, rfl, hv4, by omega, by omega, by have := seqI (r := (k0 : Int)) r0 r1; simpa using this, List.getElem?_eq_getElem kv, ?_⟩
        have m3 : l ∈ [lf, l, li] := by simp
        have m4 : li ∈ [lf, l, li] := by simp
        have m5 : lf ∈ [lf, l, li] := by simp
        have tv4 := tv.ext (hid_S m3 m4 e4)
        have hx : Th (Hid [lf, l, li] H4) vs[k0] (bxD bs[k0]) := by
          obtain ⟨z, hz, tz⟩ := tv4.get (List.getElem?_eq_getElem kv)
          rw [List.getElem?_map, List.getElem?_eq_getElem kb] at hz
          obtain rfl := Option.some.inj hz
          exact tz
        have lx := (fm.all _ (List.getElem_mem kb)).l
        have tvE : ThAll (Hid [lf, l, li] H4) (vs.eraseIdx k0) ((bs.eraseIdx k0).map bxD) := by
          rw [← map_erase]
          exact thAll_erase tv4
        have I4 : Ins [lf, l, li] H4 := (s4.ins).cons hv4
        have hx5 := hx.ext (hid_upd (u := .lst (vs.eraseIdx k0)) m5)
        have tvE5 := tvE.ext (hid_upd (u := .lst (vs.eraseIdx k0)) m5)
        have I5 := I4.upd (a := lf) (u := .lst (vs.eraseIdx k0))
        have s5 := s4.upd (a := lf) (u := .lst (vs.eraseIdx k0)) nl.1 nl.2
        have f5 := upd_same (H := H4) (a := lf) (o := .lst (vs.eraseIdx k0))
        have E5 : ExtS l li H (upd H4 lf (.lst (vs.eraseIdx k0))) := fun b o eb z1 z2 => by
          rw [upd_ne (fun z => by rw [z, nf] at eb; cases eb)]
          exact e4 b o (E b o eb z1 z2) z1 z2
        generalize upd H4 lf (.lst (vs.eraseIdx k0)) = H5 at hx5 tvE5 I5 s5 f5 E5 ⊢
        clear hx tvE I4 hv4 tv4 e4 s4 hv tv E sp
        refine gset ?_
        obtain ⟨pa, qa, hpa, hqa, _, i1, i2⟩ := bxD_rows (K := K) (hx5.ext hid_up)
        refine ⟨_, rfl, i1 _ sm _ ⟨pa, _, rfl, sl_of (.inl hpa), _, rfl, i2 _ sm _ ⟨qa, _, rfl, sl_of (.inl hqa), _, _, rfl, rfl, _, _, rfl, rfl, ?_⟩⟩⟩
        refine gset ?_
        rw [List.length_map, List.length_map]
        have xin := hx5
        generalize vs[k0] = x at xin hx5 i1 i2 ⊢
        have le0 : (bs.eraseIdx k0).length = bs.length - 1 := List.length_eraseIdx_of_lt kb
        have EXT : ∀ (G : Hp) (pn : Addr) (us : List V) (cs : List Bx) (a6' : Option V) (c2 : Int), ExtS l li H5 G → Spr G l li c2 → c2 ≤ c' + 2 → pn ≠ lf → G pn = some (.lst us) → ThAll (Hid [lf, l, li] G) us (cs.map bxD) → Fam ns (bs.eraseIdx k0 ++ cs) → cs.length ≤ 2 → 0 < cs.length →
            rExtend (.ref lf) [.ref pn] G fun _ G2 => LpT l li en lf ns m c H (j + 1) [some (.ref l), some (.ref en), some (.int (m : Nat)), some (.ref lf), some (.int (0 + (j : Nat))), some x, a6', none, none, none] G2 := fun G pn us cs a6' c2 e6 s6 c6 npn hpn tus fm2 l2 l3 => by
          have f6 := e6 lf _ f5 nl.1 nl.2
          have lus : us.length = cs.length := by rw [tus.length, List.length_map]
          have lve : (vs.eraseIdx k0).length = vs.length - 1 := List.length_eraseIdx_of_lt kv
          refine ⟨lf, pn, _, _, rfl, rfl, f6, hpn, by rw [lus, lve, lv, sizeLine_eq]; omega, _, _, _, vs.eraseIdx k0 ++ us, bs.eraseIdx k0 ++ cs, c2, rfl, upd_same, ?_, fm2, by rw [List.length_append]; omega, by rw [List.length_append, le0]; omega, s6.upd nl.1 nl.2, by omega, fun b o eb z1 z2 => ?_⟩
          · rw [List.map_append]
            exact th_app ((tvE5.ext (hid_S m3 m4 e6)).ext (hid_upd m5)) (tus.ext (hid_upd m5))
          · rw [upd_ne (fun z => by rw [z, nf] at eb; cases eb)]
            exact e6 b o (E5 b o eb z1 z2) z1 z2
        refine ⟨.ref lf, rfl, .inl ⟨rfl, _, .inl (.inl f5)⟩, _, rfl, _, rfl, ite2 (fun e => ?_) (fun e => ?_)⟩
        · refine ⟨_, rfl, small4 1, fun pn npn => ?_⟩
          have S6 := same_new (o := .lst [x]) npn
          exact EXT _ pn [x] [bs[k0]] _ (c' + 1) (same_S S6) (s5.same S6) (by omega) (fun z => by rw [z, f5] at npn; cases npn) upd_same (.cons (hx5.ext (hid_same S6)) .nil) (fm.back kb) (by simp) (by simp)
        · refine ⟨_, rfl, .ref l, rfl, small4 2, fun pp npp => ?_⟩
          have S6 := same_new (o := .lst [.str "x", .str "y"]) npp
          have np := s5.new npp
          have s6 := s5.same S6
          refine ⟨l, li, pp, c' + 1, _, rfl, s6, upd_same, np.1, np.2, by decide, by decide, by omega, fun H6 y e6 s7 my => ?_⟩
          have S7 : ExtS l li H5 H6 := (same_S S6).trans e6
          have I7 : Ins [lf, l, li] H6 := ins_S I5 S7 s7
          have hx7 := hx5.ext (hid_S m3 m4 S7)
          have sh : bs[k0].x.length + bs[k0].y.length ≤ 10 := by
            have : ¬ ((10 : Int) < (bs[k0].x.length : Nat) + (bs[k0].y.length : Nat)) := fun h => e (decide_eq_true h)
            omega
          have go : ∀ (a6' : Option V) (kx : Bool), y = .str (if kx = true then "x" else "y") → spThS [x, y] H6 (fun b G => rExtend (.ref lf) [b] G fun _ G2 => LpT l li en lf ns m c H (j + 1) [some (.ref l), some (.ref en), some (.int (m : Nat)), some (.ref lf), some (.int (0 + (j : Nat))), some x, a6', none, none, none] G2) noE := fun a6' kx ey => by
            subst ey
            refine ⟨[lf, l, li], x, bs[k0], kx, rfl, I7, th_bxV hx7, by omega, by omega, fun H7 r v1 v2 S8 nr hr7 b1 b2 => ?_⟩
            refine EXT H7 r [v1, v2] [half bs[k0] kx 0, half bs[k0] kx 1] a6' (c' + 1 + 1) (S7.trans (same_S S8)) (s7.same S8) (by omega) (fun z => ?_) hr7 (.cons (bxV_th b1) (.cons (bxV_th b2) .nil)) (fm.halve kb kx sh) (by simp) (by simp)
            have := S7 lf _ f5 nl.1 nl.2
            rw [z, this] at nr
            cases nr
          have my : y = .str "x" ∨ y = .str "y" := by simpa using my
          rcases my with my | my
          · exact go _ true my
          · exact go _ false my
      · obtain ⟨a4, a5, a6, vs, bs, c', rfl, hv, tv, fm, b0, b1, sp, cb, E⟩ := e
        have lv : vs.length = bs.length := by rw [tv.length, List.length_map]
        have em : ((m : Nat) : Int).toNat = m := Int.toNat_natCast m
        rw [em] at b1 cb
        refine ⟨.ref l, rfl, .ref lf, rfl, l, li, lf, c', vs, rfl, sp, hv, by omega, by omega, fun G1 lm ys e1 s1 nm nm1 nm2 hy pm => ⟨Nat.zero_le _, fun tb ntb => ⟨_, _, rfl, ?_⟩⟩⟩
        have hlm : H lm = none := by
          cases q : H lm with
          | none => rfl
          | some o => rw [E lm o q nm1 nm2] at nm; cases nm
        have nt := s1.new ntb
        have E1 := E.trans e1
        have htb : H tb = none := ext_none E1 ntb nt.1 nt.2
        have S2 := same_new (o := .lst []) ntb
        have m3 : l ∈ [lf, l, li] := by simp
        have m4 : li ∈ [lf, l, li] := by simp
        obtain ⟨cs, pc, tc⟩ := th_perm pm (tv.ext (hid_D m3 m4 nm e1))
        have tc2 := tc.ext (hid_D (l := l) (li := li) (D := tb) (by simp) (by simp) ntb (same_S (l := l) (li := li) S2))
        have fc := fm.perm pc
        have lcs : cs.length = bs.length := pc.length_eq
        have lys : ys.length = cs.length := by rw [tc.length, List.length_map]
        have s2 := s1.same S2
        have hy2 := S2 _ _ hy
        have ne : tb ≠ lm := fun z => by rw [z, hy] at ntb; cases ntb
        have f2 := upd_same (H := G1) (a := tb) (o := .lst [])
        have hlf2 := S2 _ _ (e1 lf _ hv nl.1 nl.2)
        have E2 := E1.trans (same_S S2)
        generalize upd G1 tb (.lst []) = G2 at tc2 s2 hy2 f2 E2 hlf2 ⊢
        refine ⟨.ref l, rfl, .ref lm, rfl, lm, ys, rfl, .inl (.inl (.inl hy2)), (ys.length : Nat), 2, rfl, rfl, ⟨by decide, by decide⟩, _, 1, rfl, rfl, l, li, _, _, rfl, s2, by omega, by omega, by omega, fun G3 r e3 s3 r0 r1 => ?_⟩
        obtain ⟨r, rfl⟩ : ∃ n : Nat, r = (n : Nat) := ⟨r.toNat, by omega⟩
        have mS : ∀ x ∈ [l, li], x ∈ [tb, lm, lf, l, li] := fun x hx => by
          rcases List.mem_cons.mp hx with rfl | hx
          · simp
          · rw [List.mem_singleton.mp hx]; simp
        have tc3 := tc2.ext (hid_S (mS l m1) (mS li m2) e3)
        have hy3 := e3 _ _ hy2 nm1 nm2
        have f3 := e3 _ _ f2 nt.1 nt.2
        refine ⟨(r : Nat), rfl, by omega, by omega, for_range (lo := 0) (n := ((r : Nat) : Int).toNat) (LpU l li en lm tb a4 a5 a6 [tb, lm, lf, l, li] m cs _ H) ⟨none, ys, [], cs, [], rfl, hy3, tc3, f3, .nil, .refl _, rfl, s3, E2.trans e3, ((s3.ins.cons (e3 lf _ hlf2 nl.1 nl.2)).cons hy3).cons f3⟩ (fun j σ G hj e => ?_) (fun σ G e => ?_)⟩
        · obtain ⟨a8, us, ts, es, ps, rfl, hu, tu, ht, tt, pe, lp, sp, E, I0⟩ := e
          have hj' : j < r := by simpa using hj
          have lfl := flat_len ps
          have le := pe.length_eq
          rw [List.length_append, lfl, lp] at le
          obtain ⟨es2, b2, b1', rfl⟩ := last2 es (by omega)
          rw [List.map_append] at tu
          obtain ⟨us2, u2, rfl, t1, t2⟩ := thAll_split tu
          obtain ⟨y2, y1, rfl, q2, q1⟩ : ∃ y2 y1, u2 = [y2, y1] ∧ Th (Hid [tb, lm, lf, l, li] G) y2 (bxD b2) ∧ Th (Hid [tb, lm, lf, l, li] G) y1 (bxD b1') := by
            cases t2 with
            | cons q2 t3 =>
              cases t3 with
              | cons q1 t4 =>
                cases t4
                exact ⟨_, _, rfl, q2, q1⟩
          have mlm : lm ∈ [tb, lm, lf, l, li] := by simp
          have mtb : tb ∈ [tb, lm, lf, l, li] := by simp
          have g1 : (us2 ++ [y2, y1])[(us2 ++ [y2, y1]).length - 1]? = some y1 := by simp
          have d1 : (us2 ++ [y2, y1]).dropLast = us2 ++ [y2] := by simp
          have g2 : (us2 ++ [y2])[(us2 ++ [y2]).length - 1]? = some y2 := by simp
          have d2 : (us2 ++ [y2]).dropLast = us2 := by simp
          have lts : ts.length = ps.length := by rw [tt.length, List.length_map]
          refine ⟨.ref tb, rfl, .inl ⟨rfl, _, .inl (.inl ht)⟩, .ref lm, rfl, .inl ⟨rfl, _, .inl (.inl hu)⟩, lm, _, y1, rfl, rfl, hu, g1, ?_⟩
          rw [d1]
          refine ⟨.ref lm, rfl, .inl ⟨rfl, _, .inl (.inl upd_same)⟩, lm, _, y2, rfl, rfl, upd_same, g2, ?_⟩
          rw [d2]
          refine ⟨small4 2, fun tp ntp => ?_⟩
          have ht' : (upd (upd G lm (.lst (us2 ++ [y2]))) lm (.lst us2)) tb = some (.lst ts) := by rw [upd_ne ne, upd_ne ne]; exact ht
          have S4 := same_new (o := .tup [y1, y2]) ntp
          refine ⟨tb, ts, .ref tp, rfl, rfl, S4 _ _ ht', by rw [lts, lp, sizeLine_eq]; omega, ?_⟩
          have up2 : L2.Same (Hid [tb, lm, lf, l, li] G) (Hid [tb, lm, lf, l, li] (upd (upd G lm (.lst (us2 ++ [y2]))) lm (.lst us2))) := fun b o h => (hid_upd mlm) _ _ ((hid_upd mlm) _ _ h)
          have up3 : L2.Same (Hid [tb, lm, lf, l, li] G) (Hid [tb, lm, lf, l, li] (upd (upd (upd G lm (.lst (us2 ++ [y2]))) lm (.lst us2)) tp (.tup [y1, y2]))) := fun b o h => (hid_same S4) _ _ (up2 b o h)
          have up4 : L2.Same (Hid [tb, lm, lf, l, li] G) (Hid [tb, lm, lf, l, li] (upd (upd (upd (upd G lm (.lst (us2 ++ [y2]))) lm (.lst us2)) tp (.tup [y1, y2])) tb (.lst (ts ++ [.ref tp])))) := fun b o h => (hid_upd mtb) _ _ (up3 b o h)
          have ins : Ins [tb, lm, lf, l, li] (upd (upd G lm (.lst (us2 ++ [y2]))) lm (.lst us2)) := I0.upd.upd
          have ntp' := ins.new ntp
          refine ⟨_, us2, ts ++ [.ref tp], es2, ps ++ [(b1', b2)], rfl, ?_, t1.ext up4, upd_same, ?_, ?_, by rw [List.length_append, lp]; rfl, ?_, ?_, (ins.same S4).upd⟩
          · rw [upd_ne ne.symm]
            exact S4 _ _ upd_same
          · rw [List.map_append]
            refine th_app (tt.ext up4) (.cons (.tup (hid_of ntp' ?_ fun ps z => nomatch z) (.cons (q1.ext up4) (.cons (q2.ext up4) .nil))) .nil)
            rw [upd_ne (fun z => ntp' (by rw [z]; exact mtb))]
            exact upd_same
          · refine List.Perm.trans ?_ pe
            show ((ps ++ [(b1', b2)]).flatMap (fun p => [p.1, p.2]) ++ es2).Perm (flatP ps ++ (es2 ++ [b2, b1']))
            rw [List.flatMap_append, List.append_assoc]
            refine List.Perm.append_left _ ?_
            show ([b1', b2] ++ es2).Perm _
            exact List.perm_append_comm.trans (List.Perm.append_left _ (.swap _ _ _))
          · exact (((sp.upd nm1 nm2).upd nm1 nm2).same S4).upd nt.1 nt.2
          · intro b o eb z1 z2
            have n3 : b ≠ lm := fun z => by rw [z, hlm] at eb; cases eb
            have n4 : b ≠ tb := fun z => by rw [z, htb] at eb; cases eb
            rw [upd_ne n4]
            refine S4 _ _ ?_
            rw [upd_ne n3, upd_ne n3]
            exact E b o eb z1 z2
        · obtain ⟨a8, us, ts, es, ps, rfl, hu, tu, ht, tt, pe, lp, sp, E, I0⟩ := e
          have lfl := flat_len ps
          have le := pe.length_eq
          rw [List.length_append, lfl, lp] at le
          have lu : us.length = es.length := by rw [tu.length, List.length_map]
          have er : ((r : Nat) : Int).toNat = r := Int.toNat_natCast r
          rw [er] at lp le
          refine ⟨.ref tb, rfl, .ref lm, rfl, .ref l, rfl, .ref lm, rfl, lm, us, rfl, .inl (.inl (.inl hu)), _, 1, rfl, rfl, l, li, _, _, rfl, sp, by omega, by omega, by omega, fun G5 q e5 s5 q0 q1 => ?_⟩
          obtain ⟨q, rfl⟩ : ∃ n : Nat, q = (n : Nat) := ⟨q.toNat, by omega⟩
          have hu5 := e5 _ _ hu nm1 nm2
          have ht5 := e5 _ _ ht nt.1 nt.2
          refine ⟨(q : Nat), rfl, lm, us, rfl, .inl (.inl hu5), fun p np => ⟨small4 2, fun rr nr => ?_⟩⟩
          rw [cutV_take (by omega)]
          have S6 := same_new (o := .lst (us.take q)) np
          have s6 := s5.same S6
          have n6 := s5.new np
          rw [cutV_take (by omega)] at nr
          have n7 := s6.new nr
          have S7 := same_new (o := .tup [.ref tb, .ref p]) nr
          have less : L2.Same (Hid [tb, lm, lf, l, li] G5) (Hid [l, li] G5) := hid_less mS
          have tu5 := (((tu.ext (hid_S (mS l m1) (mS li m2) e5)).ext less).ext (hid_same S6)).ext (hid_same S7)
          have tt5 := (((tt.ext (hid_S (mS l m1) (mS li m2) e5)).ext less).ext (hid_same S6)).ext (hid_same S7)
          have h2 : ∀ {x : Addr}, x ≠ l ∧ x ≠ li → x ∉ [l, li] := fun h => by simp [h.1, h.2]
          refine k _ rr tb p ps (es.take q) _ ((E.trans e5).trans ((same_S S6).trans (same_S S7))) (s6.same S7) ?_ (hid_of (h2 n7) upd_same fun ps z => nomatch z) (.lst (hid_of (h2 nt) (S7 _ _ (S6 _ _ ht5)) fun ps z => nomatch z) tt5) (.lst (hid_of (h2 n6) (S7 _ _ upd_same) fun ps z => nomatch z) ?_) ?_ (by omega) (by rw [List.length_take]; omega)
          · omega
          · rw [List.map_take]
            exact thAll_take tu5
          · have ff := fc.perm pe
            refine ⟨fun b hb => ff.all b ?_, ff.prs.sublist ?_⟩
            · rcases List.mem_append.mp hb with hb | hb
              · exact List.mem_append_left _ hb
              · exact List.mem_append_right _ (List.mem_of_mem_take hb)
            · exact List.Sublist.append_left (List.take_sublist _ _) _
end
end K14.T27
namespace K14.T27
open PySem PySem.W PySem.Calls PyProof.Rows L2 LamX
open He (ga)
open Kz (SS ExtS ExtS.trans small4 same_new boot_in boot_li boot_isi Has pe_has noE PSs.of_eq seqI new_ext)
open K14.Gn
abbrev NLo : List Str := ["stream", "thing", "found", "part", "key"]
theorem scLo : FnScope NLo ["stream", "thing"] (defScope sLo) := ⟨rfl, rfl, rfl, by decide +kernel, rfl, by decide +kernel, by decide +kernel⟩
theorem bdLo : defBody sLo = [stOf sLo 0, stOf sLo 1, stOf sLo 2, stOf sLo 3] := by rfl
def scOfK : Stmt → Scope
  | .Assign _ (.ListComp _ _ sc _) _ => sc
  | .If _ [.Return (some (.Call _ [.ListComp _ _ sc _] _ _)) _] _ _ => sc
  | _ => defScope sLo
def loSc1 : Scope := scOfK (stOf sLo 0)
def loSc2 : Scope := scOfK (stOf sLo 2)
theorem chkL1 : blkC NLo (defScope sLo) loSc1 [("key", 4)] = true := by decide +kernel
theorem chkL2 : blkC NLo (defScope sLo) loSc2 [("part", 3)] = true := by decide +kernel
theorem pe_never {X : Cx} {e : Expr} : PE X e (fun _ _ _ => False) := ⟨fun _ _ _ _ _ _ h => h.elim⟩
/-- lists within lists, n deep, dicts that are empty -/
def fitX : Nat → PyData → Bool
  | n + 1, .list xs => decide (xs.length ≤ 1000) && xs.all (fitX n)
  | n + 1, .tuple xs => decide (xs.length ≤ 1000) && xs.all (fitX n)
  | _, .none => true
  | _, .bool _ => true
  | _, .int _ => true
  | _, .str _ => true
  | _, .dict ps => ps.isEmpty
  | _, _ => false
theorem fitX_seq {n : Nat} {d : PyData} (l : isL d = true) (h : fitX n d = true) : ∃ m, n = m + 1 ∧ (its d).length ≤ 1000 ∧ (∀ x ∈ its d, fitX m x = true) ∧ szD n d = 1 + ((its d).map (szD m)).sum := by
  cases n with
  | zero => cases d <;> first | exact absurd (show false = true from h) Bool.false_ne_true | exact absurd (show false = true from l) Bool.false_ne_true
  | succ m =>
    refine ⟨m, rfl, ?_⟩
    cases d with
    | list xs =>
      obtain ⟨h1, h2⟩ := Bool.and_eq_true_iff.mp (show (decide (xs.length ≤ 1000) && xs.all (fitX m)) = true from h)
      exact ⟨of_decide_eq_true h1, fun x hx => List.all_eq_true.mp h2 x hx, rfl⟩
    | tuple xs =>
      obtain ⟨h1, h2⟩ := Bool.and_eq_true_iff.mp (show (decide (xs.length ≤ 1000) && xs.all (fitX m)) = true from h)
      exact ⟨of_decide_eq_true h1, fun x hx => List.all_eq_true.mp h2 x hx, rfl⟩
    | _ => cases l
theorem fitX_dict {n : Nat} {d : PyData} (l : isD d = true) (h : fitX n d = true) : d = .dict [] := by
  cases d with
  | dict ps =>
    have : ps.isEmpty = true := by cases n <;> exact h
    rw [List.isEmpty_iff.mp this]
  | _ => cases l
theorem lq_seq {d : PyData} {ys : List PyData} (l : isL d = true) (h : LqAll (its d) ys) : Lq d (.list ys) ∧ Lq d (.tuple ys) := ⟨.seq l rfl h, .seq l rfl h⟩
theorem LqAll.snoc {x y : PyData} (h : Lq x y) {xs ys : List PyData} (r : LqAll xs ys) : LqAll (xs ++ [x]) (ys ++ [y]) := r.app (.cons h .nil)
section
variable {P : Program} {w : World} {K : Frag} {mg : Str → Option Value} {base : Heap}
def spLo (n : Nat) : Sp := fun vs H Q _ => ∃ (S : List Addr) (l li : Addr) (c : Int) (v : V) (d : PyData), vs = [.ref l, v] ∧ l ∈ S ∧ li ∈ S ∧ Ins S H ∧ Th (Hid S H) v d ∧ fitX n d = true ∧ Spr H l li c ∧ c + (szD n d : Nat) < 900000000 ∧
  ∀ (H' : Hp) (v' : V) (d' : PyData) (c' : Int), ExtS l li H H' → Spr H' l li c' → c' ≤ c + (szD n d : Nat) → Th (Hid S H') v' d' → Lq d d' → Q v' H'
theorem lo_len {n : Nat} {vs : List V} {H : Hp} {Q : VK} {E : XK} (h : spLo n vs H Q E) : vs.length = 2 := by
  obtain ⟨S, l, li, c, v, d, rfl, _⟩ := h
  rfl
/-- an empty dict -/
theorem lo_dict {k : Nat} (hk : 2 ≤ k) {n : Nat} {f : Addr} {cdv : Value} {A : Around} {outer : List Env} {s : Shared} {H : Hp} {Q : VK} {XE : XK} (hr : Room k (A.deeper (envOfC "_law_loose" (defScope sLo) s.heap.objs.size f cdv))) (M : Has P w K mg base "_law_mixed" 2 ["stream", "some"] spMxW)
    (mi : mg "isinstance" = none) (ml : mg "list" = none) (md : mg "dict" = none) {S : List Addr} {l li : Addr} {c : Int} {v : V} {d : PyData} (m1 : l ∈ S) (m2 : li ∈ S) (ins : Ins S H) (hv : Th (Hid S H) v d) (hf : fitX n d = true) (hs : Spr H l li c) (hc : c + (szD n d : Nat) < 900000000)
    (k : ∀ (H' : Hp) (v' : V) (d' : PyData) (c' : Int), ExtS l li H H' → Spr H' l li c' → c' ≤ c + (szD n d : Nat) → Th (Hid S H') v' d' → Lq d d' → Q v' H') (di : isD d = true) :
    ∃ t, PSs (cxOf CX0 P w K mg base NLo "_law_loose" (defScope sLo) f cdv A outer s H XE) (defBody sLo) t ∧ t { nx := fun _ H' => Q .non H', rt := Q } (L2.start NLo [.ref l, v]) H := by
  have h0 : PS (cxOf CX0 P w K mg base NLo "_law_loose" (defScope sLo) f cdv A outer s H XE).nox (stOf sLo 0) _ := ps_if (pt_val (pe_callB call_isi (by rfl) mi boot_isi (pa_cons (pv 1) (pa_cons (pe_bltn (by rfl) md boot_di (v := .ty "dict") rfl) pa_nil)))) (pss_one (ps_ret (pe_callTy (call_dictP rfl) (by rfl) md boot_di (pa_cons (pe_lc (X := (cxOf CX0 P w K mg base NLo "_law_loose" (defScope sLo) f cdv A outer s H XE).nox) (scope := loSc1) (own := [("key", 4)]) (g := gName 4) (tt := tYes) (te := fun _ _ _ => False) rfl scLo.nd
    (pi_list (pe_has M (hr.mono hk) (by rfl) (pa_cons (pv 0) (pa_cons (pe_callTy (call_list_dK rfl) (by rfl) ml boot_li (pa_cons (pv 1) pa_nil)) pa_nil)))) (blkOk_by chkL1) (fun _ _ _ _ _ => pg_name (i := 4) scLo.nd rfl (Or.inl rfl)) (fun _ _ _ _ _ => pts_nil)
    (fun s0 H0 C0 cl0 fp0 => pe_never)) pa_nil)))) pss_nil
  refine ⟨_, PSs.nox (PSs.of_eq bdLo (pss_cons h0 pss_never)), ?_⟩
  clear h0
  have ed := fitX_dict di hf
  subst ed
  cases hv with
  | @dct a kvs _ ha r =>
    cases r
    have ha' := hid_up _ _ ha
    refine ⟨.ref a, rfl, .ref a, _, _, _, _, rfl, .ty _, .base (.dK ha'), is_di (.dict []), _, rfl, iteT ?_⟩
    refine ⟨.ref l, rfl, .ref a, rfl, a, [], rfl, ha', fun q nq => ?_⟩
    have S1 := same_new (o := .lst []) nq
    refine ⟨l, li, q, c, [], rfl, hs.same S1, upd_same, by decide, by omega, fun H1 r ys e1 s1 nr r1 r2 hy pm => ?_⟩
    obtain rfl := List.Perm.eq_nil pm
    refine ⟨r, rfl, ⟨[], .inl (.inl hy)⟩, fun D hD => lc_list (xs := []) (te := fun _ _ _ => False) (g := gName 4) (tt := tYes) (fun i H2 => i = 0 ∧ H2 = upd H1 D (.lst [])) ⟨rfl, rfl⟩ (fun i H2 hi e => ?_) (fun i x H2 hi e => ?_) (fun H2 e => ?_)⟩
    · obtain ⟨_, rfl⟩ := e
      exact .inl (.inl (same_new hD _ _ hy))
    · simp at hi
    · obtain ⟨_, rfl⟩ := e
      have e0 : c + (([] : List V).length : Nat) = c := by simp
      rw [e0] at s1
      refine ⟨D, [], [], rfl, .inl (.inl upd_same), .nil, fun p np => ?_⟩
      have S2 := same_new (o := .lst []) hD
      have S3 := same_new (o := .dK []) np
      have E1 : ExtS l li H H1 := (same_S S1).trans e1
      have I1 : Ins S H1 := ins_S ins E1 s1
      refine k _ _ (.dict []) c (E1.trans ((same_S S2).trans (same_S S3))) ((s1.same S2).same S3) (by omega) (.dct (hid_of ((I1.same S2).new np) upd_same fun ps z => nomatch z) .nil) (.flat rfl)
theorem ok_lo {f : Addr} {fd : FuncData} (F : FunD K "_law_loose" "_law_loose" (defArgs sLo) (defBody sLo) (defScope sLo) [] [] f fd) (D : Has P w K mg base "_law_draw" 1 ["stream", "many"] spDrW) (M : Has P w K mg base "_law_mixed" 2 ["stream", "some"] spMxW) (mm : mg "_law_loose" = some (.ref f)) (kp : keepIn K (.ref f) = true) (bd : L2.Binds K fd ["stream", "thing"] [])
    (mi : mg "isinstance" = none) (ml : mg "list" = none) (mt : mg "tuple" = none) (md : mg "dict" = none) : ∀ n, FnOk P w K mg base CX0 (n + 3) f fd ["stream", "thing"] (spLo n) := by
  intro n
  induction n with
  | zero =>
    refine F.ok scLo (fun vs H Q E h => lo_len h) (fun cdv A outer s H vs Q XE hr h => ?_)
    obtain ⟨S, l, li, c, v, d, rfl, m1, m2, ins, hv, hf, hs, hc, k⟩ := h
    cases di : isD d with
    | true => exact lo_dict (by decide) hr M mi ml md m1 m2 ins hv hf hs hc k di
    | false =>
      have l0 : isL d = false := by
        cases q : isL d with
        | false => rfl
        | true =>
          obtain ⟨m, z, _⟩ := fitX_seq q hf
          cases z
      have hV := hv.ext hid_up
      refine ⟨_, PSs.nox (pss_cons (ps_if (pt_val (pe_callB call_isi (by rfl) mi boot_isi (pa_cons (pv 1) (pa_cons (pe_bltn (by rfl) md boot_di (v := .ty "dict") rfl) pa_nil)))) (pss_one ps_never) pss_nil)
        (pss_cons (ps_if (pt_not (pt_val (pe_callB call_isiT (by rfl) mi boot_isi (pa_cons (pv 1) (pa_cons (pe_tup (pa_cons (pe_bltn (by rfl) ml boot_li (v := .ty "list") rfl) (pa_cons (pe_bltn (by rfl) mt boot_tu (v := .ty "tuple") rfl) pa_nil))) pa_nil))))) (pss_one (ps_ret (pv 1))) pss_nil) pss_never)), ?_⟩
      refine ⟨v, rfl, v, _, _, _, _, rfl, .ty _, hV.ty, is_di d, _, rfl, ?_⟩
      rw [di]
      refine iteF ⟨v, rfl, small4 2, fun p np => ⟨v, p, _, _, _, _, rfl, upd_same, .cons (.ty _) (.cons (.ty _) .nil), (hV.ext (same_new np)).ty, is_lt d, _, rfl, ?_⟩⟩
      rw [l0]
      exact iteT ⟨v, rfl, k _ v d c (same_S (same_new np)) (hs.same (same_new np)) (by omega) (hv.ext (hid_same (same_new np))) (.flat l0)⟩
  | succ n ih =>
    have SELF : Has P w K mg base "_law_loose" (n + 3) ["stream", "thing"] (spLo n) := ⟨f, fd, mm, kp, bd, ih⟩
    refine F.ok scLo (fun vs H Q E h => lo_len h) (fun cdv A outer s H vs Q XE hr h => ?_)
    obtain ⟨S, l, li, c, v, d, rfl, m1, m2, ins, hv, hf, hs, hc, k⟩ := h
    cases di : isD d with
    | true => exact lo_dict (by omega) hr M mi ml md m1 m2 ins hv hf hs hc k di
    | false =>
      have hV := hv.ext hid_up
      have h2 : PS (cxOf CX0 P w K mg base NLo "_law_loose" (defScope sLo) f cdv A outer s H XE).nox (stOf sLo 2) _ := ps_setLc (X := (cxOf CX0 P w K mg base NLo "_law_loose" (defScope sLo) f cdv A outer s H XE).nox) (i := 2) (te := tCall (spLo n) [] noE (tCons (tVar 0) (tCons (tVar 3) tNil))) (scope := loSc2) (own := [("part", 3)]) (g := gName 3) (tt := tYes) rfl scLo.nd rfl rfl (sw_true rfl rfl rfl (by decide +kernel)) (pi_or (pi_list (pv 1)) (pi_tup (pv 1))) (blkOk_by chkL2) (fun _ _ _ _ _ => pg_name (i := 3) scLo.nd rfl (Or.inl rfl)) (fun _ _ _ _ _ => pts_nil)
          (fun s0 H0 C0 cl0 fp0 => by exact pe_has SELF hr (by rfl) (pa_cons (pv 0) (pa_cons (pv 3) pa_nil)))
      have h3 : PS (cxOf CX0 P w K mg base NLo "_law_loose" (defScope sLo) f cdv A outer s H XE).nox (stOf sLo 3) _ := ps_ret (pe_ifExp (pt_cmpR op_eq (pe_has D (hr.mono (by omega)) (by rfl) (pa_cons (pv 0) (pa_cons pe_int pa_nil))) pe_int (nomark _)) (pv 2) (pe_callTy call_tuple_of (by rfl) mt boot_tu (pa_cons (pv 2) pa_nil)))
      refine ⟨_, PSs.nox (PSs.of_eq bdLo (pss_cons (ps_if (pt_val (pe_callB call_isi (by rfl) mi boot_isi (pa_cons (pv 1) (pa_cons (pe_bltn (by rfl) md boot_di (v := .ty "dict") rfl) pa_nil)))) (pss_one ps_never) pss_nil)
        (pss_cons (ps_if (pt_not (pt_val (pe_callB call_isiT (by rfl) mi boot_isi (pa_cons (pv 1) (pa_cons (pe_tup (pa_cons (pe_bltn (by rfl) ml boot_li (v := .ty "list") rfl) (pa_cons (pe_bltn (by rfl) mt boot_tu (v := .ty "tuple") rfl) pa_nil))) pa_nil))))) (pss_one (ps_ret (pv 1))) pss_nil)
        (pss_cons h2 (pss_one h3))))), ?_⟩
      clear h2 h3
      refine ⟨v, rfl, v, _, _, _, _, rfl, .ty _, hV.ty, is_di d, _, rfl, ?_⟩
      rw [di]
      refine iteF ⟨v, rfl, small4 2, fun p np => ⟨v, p, _, _, _, _, rfl, upd_same, .cons (.ty _) (.cons (.ty _) .nil), (hV.ext (same_new np)).ty, is_lt d, _, rfl, ?_⟩⟩
      have e1 : ExtS l li H (upd H p (.tup [.ty "list", .ty "tuple"])) := same_S (same_new np)
      have s1 := hs.same (same_new (o := .tup [.ty "list", .ty "tuple"]) np)
      cases l0 : isL d with
      | false => exact iteT ⟨v, rfl, k _ v d c e1 s1 (by omega) (hv.ext (hid_same (same_new np))) (.flat l0)⟩
      | true =>
        obtain ⟨m, em, len, fits, esz⟩ := fitX_seq l0 hf
        obtain rfl : n = m := Nat.succ.inj em
        rw [esz] at hc k
        refine iteF ?_
        clear hV
        obtain ⟨a, xs, rfl, r, hx⟩ := hv.seq (K := K) l0
        have lx : xs.length = (its d).length := r.length
        have kind : (∀ {G : Hp}, ExtS l li H G → G a = some (.lst xs)) ∨ (∀ {G : Hp}, ExtS l li H G → G a = some (.tup xs)) := by
          rcases hx with q | q
          · obtain ⟨q1, q2, _⟩ := hid_at q
            exact .inl fun e => e _ _ q2 (fun z => q1 (by rw [z]; exact m1)) (fun z => q1 (by rw [z]; exact m2))
          · obtain ⟨q1, q2, _⟩ := hid_at q
            exact .inr fun e => e _ _ q2 (fun z => q1 (by rw [z]; exact m1)) (fun z => q1 (by rw [z]; exact m2))
        generalize upd H p (.tup [.ty "list", .ty "tuple"]) = H1 at e1 s1 ⊢
        let Pv (D0 : Addr) (j : Nat) (H2 : Hp) : Prop := ∃ (ys : List V) (ds : List PyData) (c2 : Int), H2 D0 = some (.lst ys) ∧ ys.length = j ∧ ThAll (Hid (D0 :: S) H2) ys ds ∧ LqAll ((its d).take j) ds ∧ ExtS l li H H2 ∧ Spr H2 l li c2 ∧ c2 ≤ c + ((((its d).take j).map (szD n)).sum : Nat)
        have start : ∀ D0, H1 D0 = none → Pv D0 0 (upd H1 D0 (.lst [])) := fun D0 hD => ⟨[], [], c, upd_same, rfl, .nil, .nil, e1.trans (same_S (same_new hD)), s1.same (same_new hD), by simp⟩
        have turn : ∀ D0, H1 D0 = none → ∀ (j : Nat) (x : V) (H2 : Hp), xs[j]? = some x → Pv D0 j H2 → ∀ (σ2 : L2.St), σ2[0]? = some (some (.ref l)) → σ2[3]? = some (some x) →
            tCall (spLo n) [] noE (tCons (tVar 0) (tCons (tVar 3) tNil)) σ2 H2 fun y H4 => ∃ acc, H4 D0 = some (.lst acc) ∧ acc.length < sizeLine ∧ Pv D0 (j + 1) (upd H4 D0 (.lst (acc ++ [y]))) := by
          intro D0 hD j x H2 hj hp σ2 g0 g3
          obtain ⟨ys, ds, c2, q1, q2, q3, q4, q5, q6, q7⟩ := hp
          have nD := s1.new hD
          have HD : H D0 = none := ext_none e1 hD nD.1 nD.2
          obtain ⟨z, hz, tz⟩ := r.get hj
          have jl : j < (its d).length := (List.getElem?_eq_some_iff.mp hz).1
          have et : (its d).take (j + 1) = (its d).take j ++ [z] := by
            rw [List.take_add_one, hz]
            rfl
          have esum : (((its d).take (j + 1)).map (szD n)).sum = (((its d).take j).map (szD n)).sum + szD n z := by
            rw [et, List.map_append, List.sum_append]
            simp
          have eall : (((its d).take (j + 1)).map (szD n)).sum ≤ ((its d).map (szD n)).sum := by
            have e := List.take_append_drop (j + 1) (its d)
            calc (((its d).take (j + 1)).map (szD n)).sum ≤ (((its d).take (j + 1)).map (szD n)).sum + (((its d).drop (j + 1)).map (szD n)).sum := Nat.le_add_right _ _
              _ = ((its d).map (szD n)).sum := by rw [← List.sum_append, ← List.map_append, e]
          refine ⟨.ref l, g0, x, g3, D0 :: S, l, li, c2, x, z, rfl, List.mem_cons_of_mem _ m1, List.mem_cons_of_mem _ m2, (ins_S ins q5 q6).cons q1, tz.ext (hid_D m1 m2 HD q5), fits z (List.mem_of_getElem? hz), q6, by omega, fun H4 v4 d4 c4 e4 s4 b4 t4 ld4 => ?_⟩
          have hD4 := e4 _ _ q1 nD.1 nD.2
          refine ⟨ys, hD4, by rw [q2, sizeLine_eq]; omega, ys ++ [v4], ds ++ [d4], c4, upd_same, by rw [List.length_append, q2]; rfl, ?_, by rw [et]; exact q4.snoc ld4, fun b o eb z1 z2 => ?_, s4.upd nD.1 nD.2, by rw [esum]; omega⟩
          · refine ThAll.snoc (t4.ext (hid_upd (List.mem_cons_self ..))) ((q3.ext (hid_S (List.mem_cons_of_mem _ m1) (List.mem_cons_of_mem _ m2) e4)).ext (hid_upd (List.mem_cons_self ..)))
          · rw [upd_ne (ne_of_none eb HD)]
            exact e4 b o (q5 b o eb z1 z2) z1 z2
        have post : ∀ D0, H1 D0 = none → ∀ H2, Pv D0 xs.length H2 → ∃ c2, Spr H2 l li c2 ∧ c2 < 900000000 ∧ ∀ (H5 : Hp), ExtS l li H2 H5 → Spr H5 l li (c2 + 1) → Q (.ref D0) H5 ∧ ∃ ys, H5 D0 = some (.lst ys) ∧ ∀ t, H5 t = none → Q (.ref t) (upd H5 t (.tup ys)) := by
          intro D0 hD H2 hp
          obtain ⟨ys, ds, c2, q1, q2, q3, q4, q5, q6, q7⟩ := hp
          have nD := s1.new hD
          have HD : H D0 = none := ext_none e1 hD nD.1 nD.2
          rw [lx, List.take_length] at q4 q7
          obtain ⟨g1, g2⟩ := lq_seq l0 q4
          refine ⟨c2, q6, by omega, fun H5 e5 s5 => ?_⟩
          have nS : D0 ∉ S := fun z => by
            obtain ⟨o, q⟩ := ins D0 z
            rw [HD] at q
            cases q
          have hD5 := e5 _ _ q1 nD.1 nD.2
          have t5 := (q3.ext (hid_S (List.mem_cons_of_mem _ m1) (List.mem_cons_of_mem _ m2) e5)).ext (hid_less (S := S) (fun b m => List.mem_cons_of_mem _ m))
          refine ⟨k H5 _ _ _ (q5.trans e5) s5 (by omega) (.lst (hid_of nS hD5 (fun ps z => nomatch z)) t5) g1, ys, hD5, fun t nt => ?_⟩
          have nT := s5.new nt
          exact k _ _ _ _ ((q5.trans e5).trans (same_S (same_new nt))) (s5.same (same_new nt)) (by omega) (.tup (hid_of ((ins_S (ins_S ins q5 q6) e5 s5).new nt) upd_same (fun ps z => nomatch z)) (t5.ext (hid_same (same_new nt)))) g2
        rcases kind with kd | kd
        · refine .inl ⟨.ref a, rfl, a, rfl, ⟨xs, .inl (.inl (kd e1))⟩, fun D0 hD => lc_list (xs := xs) (Pv D0) (start D0 hD) (fun i H2 _ e => ?_) (fun i x H2 hi e => ?_) (fun H2 e => ?_)⟩
          · obtain ⟨_, _, _, _, _, _, _, q5, _⟩ := e
            exact .inl (.inl (kd q5))
          · refine ⟨rfl, ?_⟩
            unfold tYes
            show (if true = true then _ else _)
            rw [if_pos rfl]
            exact turn D0 hD i x H2 hi e _ rfl rfl
          · obtain ⟨c2, w1, w2, w3⟩ := post D0 hD H2 e
            refine ⟨.ref l, rfl, l, li, c2, 3, rfl, w1, by decide, by decide, by omega, fun H5 q e5 s5 q0 q1 => ?_⟩
            obtain ⟨z1, ys, z2, z3⟩ := w3 H5 e5 s5
            exact ⟨rfl, _, rfl, ite2 (fun _ => ⟨.ref D0, rfl, z1⟩) (fun _ => ⟨.ref D0, rfl, D0, ys, rfl, .inl ⟨.inl (.inl z2), z3⟩⟩)⟩
        · refine .inr ⟨.ref a, rfl, a, rfl, ⟨xs, .inl (.inl (kd e1))⟩, fun D0 hD => lc_tup (xs := xs) (Pv D0) (start D0 hD) (fun i H2 _ e => ?_) (fun i x H2 hi e => ?_) (fun H2 e => ?_)⟩
          · obtain ⟨_, _, _, _, _, _, _, q5, _⟩ := e
            exact .inl (.inl (kd q5))
          · refine ⟨rfl, ?_⟩
            unfold tYes
            show (if true = true then _ else _)
            rw [if_pos rfl]
            exact turn D0 hD i x H2 hi e _ rfl rfl
          · obtain ⟨c2, w1, w2, w3⟩ := post D0 hD H2 e
            refine ⟨.ref l, rfl, l, li, c2, 3, rfl, w1, by decide, by decide, by omega, fun H5 q e5 s5 q0 q1 => ?_⟩
            obtain ⟨z1, ys, z2, z3⟩ := w3 H5 e5 s5
            exact ⟨rfl, _, rfl, ite2 (fun _ => ⟨.ref D0, rfl, z1⟩) (fun _ => ⟨.ref D0, rfl, D0, ys, rfl, .inl ⟨.inl (.inl z2), z3⟩⟩)⟩
end
end K14.T27
namespace K14.T27
open PySem PySem.W PySem.Calls PyProof.Rows L2 LamX
open He (ga)
open Kz (SS ExtS ExtS.trans small4 same_new boot_in boot_li boot_isi Has pe_has noE PSs.of_eq seqI new_ext FnG HasG pe_hasG)
open K14.Gn
/-! ### three keywords, turned about -/
theorem kb_rev3 {K : Frag} {x qual : Str} {params : Arguments} {body : List Stmt} {scope : Scope} {f : Addr} {fd : FuncData} {p1 p2 p3 : Str} (F : FunD K x qual params body scope [] [] f fd)
    (h : ∀ (kV doc pm : Value) (an : Option Addr) (cdv ct a b c : Value), bindArgs (fnOf x qual params body scope .none kV doc pm an cdv ct) ⟨[], [(p3, a), (p2, b), (p1, c)]⟩ = pure [(p1, c), (p2, b), (p3, a)]) : KBinds K fd [p1, p2, p3] [p3, p2, p1] revG revV := by
  obtain ⟨oc, od, dV, kV, doc, pm, an, cdv, ct, osl, rfl, lk, hcd, hD, hK⟩ := F.ex
  rcases hD with ⟨_, rfl⟩ | ⟨e, _⟩
  · refine ⟨fun s us ws _ hl => ?_, fun {vs us zs ws} r1 r2 => ?_⟩
    · cases us with
      | cons _ _ => exact absurd (show 0 = 3 from hl) (by decide)
      | nil =>
        have hl : ws.reverse.length = 3 := hl
        rw [List.length_reverse] at hl
        match ws, hl with
        | [a, b, c], _ => exact .of_eq (h kV doc pm an cdv ct a b c)
    · cases r1 with
      | nil => exact vals_rev r2
      | cons _ _ => exact .nil
  · exact absurd rfl e
def HasK3 (P : Program) (w : World) (K : Frag) (mg : Str → Option Value) (base : Heap) (x : Str) (k : Nat) (p1 p2 p3 : Str) (sp : Sp) : Prop := ∃ f fd, mg x = some (.ref f) ∧ keepIn K (.ref f) = true ∧ KBinds K fd [p1, p2, p3] [p3, p2, p1] revG revV ∧ FnOk P w K mg base CX0 k f fd [p1, p2, p3] sp
def tCallR3 (sp : Sp) (t1 t2 t3 : TE) : TE := fun σ H Q => t3 σ H fun c H1 => t2 σ H1 fun b H2 => t1 σ H2 fun a H3 => sp [a, b, c] H3 Q noE
theorem pe_hasK3 {X : Cx} {x p1 p2 p3 : Str} {k : Nat} {sp : Sp} {e1 e2 e3 : Expr} {t1 t2 t3 : TE} {p pos q1 q2 q3 : Pos} (h : HasK3 X.prog X.w X.K X.mg X.base x k p1 p2 p3 sp) (hr : Room k X.A) (hg : Gl X x) (h3 : PE X e3 t3) (h2 : PE X e2 t2) (h1 : PE X e1 t1) (hdb : (x == ("__debug__" : Str)) = false := by decide) :
    PE X (.Call (.Name x p) [] [⟨some p3, e3, q3⟩, ⟨some p2, e2, q2⟩, ⟨some p1, e1, q1⟩] pos) (tCallR3 sp t1 t2 t3) := by
  obtain ⟨f, fd, hm, hk, hb, F⟩ := h
  refine ⟨fun pins s σ H Q I q => ?_⟩
  refine wpAny_Call_Name_kw (ld_glob I hg hm ?_ hdb)
  refine callWith_KW0 (h₀ := X.base) I.ok.mod.kin hk (by rfl) ?_ (by rfl)
  refine thn ((pk_cons h3 (pk_cons h2 (pk_cons h1 pk_nil))).run pos pins s σ H (fun zs H2 => sp zs.reverse H2 Q noE) I q) fun ws s2 ⟨zs, H2, I2, rz, q2⟩ => ⟨I2.kIn, ?_⟩
  exact run_fnk (us := []) (vs := []) F hr hb pass0 I2 .nil rz q2
/-! ### repr of data, empty dicts and all -/
theorem thAll_get_dict {P : Program} {w : World} {H : Hp} {h : Heap} {a : Addr} (hok : HOk P w H h) (e : H a = some (.dK [])) : a ≠ sysModules ∧ ∃ o n, h.get? a = some o ∧ o.cls = .type "dict" ∧ o.data = .dict #[] n := by
  obtain ⟨_, hs, vs, rv, o, es, ep, e1, e2, e3, _, e4, _⟩ := (show ObjOk P w H h a (.dK []) from hok a _ e)
  cases rv
  have : es.toList = [] := by
    cases q : es.toList with
    | nil => rfl
    | cons x r => rw [q] at e4; cases e4
  have : es = #[] := by
    cases es
    simp at this
    rw [this]
  subst this
  refine ⟨?_, o, ep, e1, e2.1, e3⟩
  simpa using hs
section
variable {P : Program} {w : World} {H : Hp} {h : Heap}
mutual
theorem Th.reads (hok : HOk P w H h) : ∀ {v : V} {d : PyData} {u : Value}, Th H v d → gd true d = true → RelV v u → ∃ as, Reads h u d as ∧ ∀ a ∈ as, (∃ xs, H a = some (.lst xs)) ∨ H a = some (.dK [])
  | _, _, u, .non, _, r => by
    obtain rfl : u = Value.none := r
    exact ⟨_, .none, fun a h => nomatch h⟩
  | _, _, u, .bl b, _, r => by
    obtain rfl : u = Value.bool b := r
    exact ⟨_, .bool b, fun a h => nomatch h⟩
  | _, _, u, .int i, _, r => by
    obtain ⟨t, rfl⟩ : ∃ t, u = Value.int i t := r
    exact ⟨_, .int i t, fun a h => nomatch h⟩
  | _, _, u, .str x, _, r => by
    obtain ⟨t, rfl⟩ : ∃ t, u = Value.str x t := r
    exact ⟨_, .str x t, fun a h => nomatch h⟩
  | _, _, u, @Th.lst _ a xs ds e q, g, r => by
    obtain rfl : u = Value.ref a := r
    obtain ⟨_, its, n, rv, e1⟩ := (show ObjOk P w H h a (.lst xs) from hok a _ e)
    obtain ⟨as, r1, r2⟩ := ThAll.reads hok q g rv
    exact ⟨_, .list e1 rfl rfl r1, fun b hb => (List.mem_cons.mp hb).elim (fun z => by rw [z]; exact .inl ⟨_, e⟩) (r2 b)⟩
  | _, _, u, @Th.tup _ a xs ds e q, g, r => by
    obtain rfl : u = Value.ref a := r
    obtain ⟨_, its, rv, o, e1, e2, n, e3⟩ := (show ObjOk P w H h a (.tup xs) from hok a _ e)
    obtain ⟨as, r1, r2⟩ := ThAll.reads hok q g rv
    exact ⟨_, .tuple e1 e2 e3 r1, r2⟩
  | _, _, u, @Th.dct _ a kvs ps e q, g, r => by
    obtain rfl : u = Value.ref a := r
    obtain ⟨_, b⟩ := Bool.and_eq_true_iff.mp (show (true && ps.isEmpty) = true from g)
    obtain rfl : ps = [] := List.isEmpty_iff.mp b
    cases q
    obtain ⟨_, o, n, e1, e2, e3⟩ := thAll_get_dict hok e
    refine ⟨_, .dict (kvs := []) (as := []) (bs := []) e1 e2 e3 .nil .nil, fun b hb => ?_⟩
    have : b = a := by simpa using hb
    rw [this]
    exact .inr e
theorem ThAll.reads (hok : HOk P w H h) : ∀ {v : List V} {d : List PyData} {u : List Value}, ThAll H v d → gdA true d = true → Vals v u → ∃ as, ReadsAll h u d as ∧ ∀ a ∈ as, (∃ xs, H a = some (.lst xs)) ∨ H a = some (.dK [])
  | _, _, _, .nil, _, .nil => ⟨_, .nil, fun a h => nomatch h⟩
  | _, _, _, .cons q qs, g, .cons r rs => by
    obtain ⟨a, b⟩ := Bool.and_eq_true_iff.mp (show (gd true _ && gdA true _) = true from g)
    obtain ⟨as, r1, r2⟩ := Th.reads hok q a r
    obtain ⟨bs, r3, r4⟩ := ThAll.reads hok qs b rs
    exact ⟨_, .cons r1 r3, fun x hx => (List.mem_append.mp hx).elim (r2 x) (r4 x)⟩
end
end
/-- sys.modules is a dict, and stays what it is -/
def SysK (K : Frag) : Prop := ∃ o, K.lookup sysModules = some o ∧ o.cls = .type "dict"
def rReprT : List V → Hp → VK → Prop := fun xs H Q => ∃ (a : Addr) (d : PyData), xs = [.ref a] ∧ Th H (.ref a) d ∧ gd true d = true ∧ PyData.depth d ≤ 20 ∧ PyData.weight d ≤ 1000000 ∧ Q (.str d.shown) H
theorem call_reprT {X : Cx} (hK : SysK X.K) (hg : X.A.guards = some []) (hr : Room 0 X.A) : CallR X (.builtin "repr") rReprT := by
  intro pins s σ H xs us Q I r h
  obtain ⟨a, d, rfl, th, g, hd, hw, q⟩ := h
  cases r with
  | @cons _ u _ ur r1 r2 =>
    cases r2
    obtain rfl : u = Value.ref a := r1
    obtain ⟨as, rd, ra⟩ := Th.reads I.hok th g rfl
    refine repr_of_reads' (h₀ := s.heap) rd (gd_show d g) (fun _ hm => ?_) hg (by have := hr.un; omega) (fun _ _ e => e) (fun h' u tk hk => ⟨.str d.shown, H, I.kept hk, ⟨_, rfl⟩, q⟩) (PyData.shown_fits (B := 8) (by decide) (by decide) (gd_short d g) ?_)
    · rcases ra _ hm with ⟨xs, e⟩ | e
      · obtain ⟨_, its, n, rv, e1⟩ := (show ObjOk X.prog X.w H s.heap sysModules (.lst xs) from I.hok _ _ e)
        obtain ⟨o, k1, k2⟩ := hK
        have e2 := I.kIn _ _ k1
        rw [e1] at e2
        obtain rfl := Option.some.inj e2
        exact absurd (show Value.type "list" = Value.type "dict" from k2) (by decide)
      · exact (thAll_get_dict I.hok e).1 rfl
    · have : (2 : Nat) ^ 20 = 1048576 := by decide
      omega
end K14.T27
namespace K14.T27
open PySem PySem.W PySem.Calls PyProof.Rows L2 LamX
open He (ga)
open Kz (SS ExtS ExtS.trans small4 same_new boot_in boot_li boot_isi Has pe_has noE PSs.of_eq seqI new_ext FnG HasG pe_hasG)
open K14.Gn
/-! ### what stays, however lists are told -/
mutual
theorem Lq.gd {b : Bool} : ∀ {d e : PyData}, Lq d e → gd b d = gd b e
  | _, _, .flat _ => rfl
  | d, e, .seq l1 l2 r => by
    have h1 : ∀ x : PyData, isL x = true → Gn.gd b x = gdA b (its x) := fun x hx => by
      cases x with
      | list _ => rfl
      | tuple _ => rfl
      | _ => exact absurd (show false = true from hx) Bool.false_ne_true
    rw [h1 d l1, h1 e l2]
    exact LqAll.gd r
theorem LqAll.gd {b : Bool} : ∀ {d e : List PyData}, LqAll d e → gdA b d = gdA b e
  | _, _, .nil => rfl
  | _, _, .cons (d := d) (e := e) (ds := ds) (es := es) h r => by
    show (Gn.gd b d && gdA b ds) = (Gn.gd b e && gdA b es)
    rw [Lq.gd h, LqAll.gd r]
end
mutual
theorem Lq.dep : ∀ {d e : PyData}, Lq d e → PyData.depth d = PyData.depth e
  | _, _, .flat _ => rfl
  | d, e, .seq l1 l2 r => by
    have h1 : ∀ x : PyData, isL x = true → PyData.depth x = PyData.depthAll (its x) + 1 := fun x hx => by
      cases x with
      | list _ => rfl
      | tuple _ => rfl
      | _ => exact absurd (show false = true from hx) Bool.false_ne_true
    rw [h1 d l1, h1 e l2, LqAll.dep r]
theorem LqAll.dep : ∀ {d e : List PyData}, LqAll d e → PyData.depthAll d = PyData.depthAll e
  | _, _, .nil => rfl
  | _, _, .cons (d := d) (e := e) (ds := ds) (es := es) h r => by
    show max (PyData.depth d) (PyData.depthAll ds) = max (PyData.depth e) (PyData.depthAll es)
    rw [Lq.dep h, LqAll.dep r]
end
mutual
theorem Lq.wei : ∀ {d e : PyData}, Lq d e → PyData.weight d = PyData.weight e
  | _, _, .flat _ => rfl
  | d, e, .seq l1 l2 r => by
    have h1 : ∀ x : PyData, isL x = true → PyData.weight x = PyData.weightAll (its x) := fun x hx => by
      cases x with
      | list _ => rfl
      | tuple _ => rfl
      | _ => exact absurd (show false = true from hx) Bool.false_ne_true
    rw [h1 d l1, h1 e l2, LqAll.wei r]
theorem LqAll.wei : ∀ {d e : List PyData}, LqAll d e → PyData.weightAll d = PyData.weightAll e
  | _, _, .nil => rfl
  | _, _, .cons (d := d) (e := e) (ds := ds) (es := es) h r => by
    show PyData.weight d + 1 + PyData.weightAll ds = PyData.weight e + 1 + PyData.weightAll es
    rw [Lq.wei h, LqAll.wei r]
end
theorem LqAll.mem : ∀ {ds es : List PyData}, LqAll ds es → ∀ e ∈ es, ∃ d ∈ ds, Lq d e
  | _, _, .nil, e, h => nomatch h
  | _, _, .cons h r, e, hm => by
    rcases List.mem_cons.mp hm with rfl | hm
    · exact ⟨_, List.mem_cons_self .., h⟩
    · obtain ⟨d, hd, q⟩ := r.mem e hm
      exact ⟨d, List.mem_cons_of_mem _ hd, q⟩
theorem Lq.sz : ∀ {n : Nat} {d e : PyData}, Lq d e → Sz n d → Sz n e
  | 0, d, e, h, s => by
    have := h.its.len
    show (K14.its e).length ≤ 500
    rw [← this]
    exact s
  | n + 1, d, e, h, s => by
    have := h.its.len
    refine ⟨by rw [← this]; exact s.1, fun x hx => ?_⟩
    obtain ⟨y, hy, q⟩ := h.its.mem x hx
    exact q.sz (s.2 y hy)
theorem lq_strs : ∀ {ns : List Str} {es : List PyData}, LqAll (ns.map PyData.str) es → es = ns.map PyData.str
  | [], _, .nil => rfl
  | s :: r, _, .cons h q => by
    rw [h.str, lq_strs q]
    rfl
/-- what may be asked of a table and of boxes -/
structure OkT (ns : List Str) (d e : PyData) : Prop where
  fd : fitX 6 d = true
  fe : fitX 6 e = true
  sd : Sz 3 d
  se : Sz 2 e
  law : ∀ z ∈ bxs (its d) ++ its e, Law ns z
  gd : Gn.gd true d = true
  ge : Gn.gd true e = true
  dd : PyData.depth d ≤ 10
  de : PyData.depth e ≤ 10
  wd : PyData.weight d ≤ 100000
  we : PyData.weight e ≤ 100000
  nd : szD 6 d ≤ 1000
  ne : szD 6 e ≤ 1000
abbrev sRt : Stmt := topS 45
abbrev NRt : List Str := ["stream", "ends", "table", "lids", "due", "passed", "was", "found"]
theorem scRt : FnScope NRt ["stream", "ends", "table", "lids"] (defScope sRt) := ⟨rfl, rfl, rfl, by decide +kernel, rfl, by decide +kernel, by decide +kernel⟩
theorem bdRt : defBody sRt = [stOf sRt 0, stOf sRt 1, stOf sRt 2, stOf sRt 3, stOf sRt 4] := by rfl
/-- what the law's tests call -/
structure RtK (P : Program) (w : World) (K : Frag) (mg : Str → Option Value) (base : Heap) : Prop where
  lt : Has P w K mg base "_law_is_table" 2 ["ends", "table", "lids"] spLt
  lo : Has P w K mg base "_law_loose" 9 ["stream", "thing"] (spLo 6)
  it : Has P w K mg base "is_table" 8 ["ends", "table", "shut"] spIt
  itk : HasK3 P w K mg base "is_table" 8 "ends" "table" "shut" spIt
  sm : Has P w K mg base "_law_same" 3 ["found", "due"] (spSm 2)
  sy : SysK K
  np : mg "repr" = none
theorem ix_at {K : Frag} {H : Hp} {a : Addr} {xs : List V} {x : V} {Q : VK} (j : Nat) (h : H a = some (.lst xs)) (e : xs[j]? = some x) (k : Q x H) : rIx K (.ref a) (.int (j : Nat)) H Q := .inl ⟨a, xs, _, x, rfl, rfl, .inl (.inl h), atI_nat e, k⟩
theorem sz_strs (n : Nat) : ∀ ns : List Str, ((ns.map PyData.str).map (szD n)).sum = 0
  | [] => rfl
  | s :: r => by
    rw [List.map_cons, List.map_cons, List.sum_cons, sz_strs n r]
    cases n <;> rfl
theorem fit_strs (n : Nat) (ns : List Str) : (ns.map PyData.str).all (fitX n) = true := List.all_eq_true.mpr fun z hz => by
  obtain ⟨s, _, rfl⟩ := List.mem_map.mp hz
  cases n <;> rfl
theorem wei_strs : ∀ {ns : List Str}, (∀ s ∈ ns, s ∈ endNames) → PyData.weightAll (ns.map PyData.str) ≤ 11 * ns.length ∧ gdA true (ns.map PyData.str) = true ∧ PyData.depthAll (ns.map PyData.str) = 0
  | [], _ => ⟨Nat.zero_le _, rfl, rfl⟩
  | s :: r, h => by
    obtain ⟨a, b, c⟩ := wei_strs fun x hx => h x (List.mem_cons_of_mem _ hx)
    have g := List.all_eq_true.mp names_gd s (h s (List.mem_cons_self ..))
    have g' : (_ && (PyData.strOk s && decide (s.cps.size ≤ 10))) = true := g
    have g2 := of_decide_eq_true (Bool.and_eq_true_iff.mp (Bool.and_eq_true_iff.mp g').2).2
    refine ⟨?_, ?_, ?_⟩
    · show s.cps.size + 1 + PyData.weightAll (r.map PyData.str) ≤ _
      rw [List.length_cons]
      omega
    · show (gdS s && gdA true (r.map PyData.str)) = true
      rw [g, b]
      rfl
    · show max 0 (PyData.depthAll (r.map PyData.str)) = 0
      rw [c]
      rfl
section
variable {P : Program} {w : World} {K : Frag} {mg : Str → Option Value} {base : Heap}
def spRt : Sp := fun vs H Q _ => ∃ (l li : Addr) (c : Int) (ve v u : V) (ns : List Str) (d e : PyData), vs = [.ref l, ve, v, u] ∧ Spr H l li c ∧ Th (Hid [l, li] H) ve (.list (ns.map PyData.str)) ∧ ns.Nodup ∧ (∀ s ∈ ns, s ∈ endNames) ∧ ns.length ≤ 16 ∧ Th (Hid [l, li] H) v d ∧ Th (Hid [l, li] H) u e ∧ OkT ns d e ∧ c < 800000000 ∧
  ∀ (H' : Hp) (c' : Int), ExtS l li H H' → Spr H' l li c' → c' ≤ c + 3000 → Q (.bl true) H'
theorem ok_rt {f : Addr} {fd : FuncData} (F : FunD K "_law_right" "_law_right" (defArgs sRt) (defBody sRt) (defScope sRt) [] [] f fd) (L : RtK P w K mg base) : FnG P w K mg base CX0 10 f fd ["stream", "ends", "table", "lids"] spRt := by
  refine Kz.FunD.okG F scRt (fun vs H Q E h => ?_) (fun cdv A outer s H vs Q XE hg hr h => ?_)
  · obtain ⟨l, li, c, ve, v, u, ns, d, e, rfl, _⟩ := h
    rfl
  · obtain ⟨l, li, c, ve, v, u, ns, d, e, rfl, hs, he, nd, hn, hl, hv, hu, ok, hc, k⟩ := h
    have hr0 : Room 0 (A.deeper (envOfC "_law_right" (defScope sRt) s.heap.objs.size f cdv)) := hr.mono (by decide)
    have h0 : PS (cxOf CX0 P w K mg base NRt "_law_right" (defScope sRt) f cdv A outer s H XE).nox (stOf sRt 0) _ := ps_set (i := 4) scRt.nd rfl (.inl rfl) (pe_has L.lt (hr.mono (by decide)) (by rfl) (pa_cons (pv 1) (pa_cons (pv 2) (pa_cons (pv 3) pa_nil))))
    have h1 : PS (cxOf CX0 P w K mg base NRt "_law_right" (defScope sRt) f cdv A outer s H XE).nox (stOf sRt 1) _ := ps_set (i := 5) scRt.nd rfl (.inl rfl) (pe_lst (pa_cons (pe_has L.lo hr (by rfl) (pa_cons (pv 0) (pa_cons (pv 1) pa_nil))) (pa_cons (pe_has L.lo hr (by rfl) (pa_cons (pv 0) (pa_cons (pv 2) pa_nil))) (pa_cons (pe_has L.lo hr (by rfl) (pa_cons (pv 0) (pa_cons (pv 3) pa_nil))) pa_nil))))
    have h2 : PS (cxOf CX0 P w K mg base NRt "_law_right" (defScope sRt) f cdv A outer s H XE).nox (stOf sRt 2) _ := ps_set (i := 6) scRt.nd rfl (.inl rfl) (pe_callB (call_reprT L.sy hg hr0) (by rfl) L.np Kz.boot_rp (pa_cons (pv 5) pa_nil))
    have h3 : PS (cxOf CX0 P w K mg base NRt "_law_right" (defScope sRt) f cdv A outer s H XE).nox (stOf sRt 3) _ := ps_set (i := 7) scRt.nd rfl (.inl rfl) (pe_lst (pa_cons (pe_has L.it (hr.mono (by decide)) (by rfl) (pa_cons (pe_ix ix_seq (pv 5) pe_int (fun _ _ => rfl)) (pa_cons (pe_ix ix_seq (pv 5) pe_int (fun _ _ => rfl)) (pa_cons (pe_ix ix_seq (pv 5) pe_int (fun _ _ => rfl)) pa_nil))))
      (pa_cons (pe_hasK3 L.itk (hr.mono (by decide)) (by rfl) (pe_ix ix_seq (pv 5) pe_int (fun _ _ => rfl)) (pe_ix ix_seq (pv 5) pe_int (fun _ _ => rfl)) (pe_ix ix_seq (pv 5) pe_int (fun _ _ => rfl))) pa_nil)))
    have h4 : PS (cxOf CX0 P w K mg base NRt "_law_right" (defScope sRt) f cdv A outer s H XE).nox (stOf sRt 4) _ := ps_ret (pe_and (pe_has L.sm (hr.mono (by decide)) (by rfl) (pa_cons (pv 7) (pa_cons (pe_lst (pa_cons (pv 4) (pa_cons (pv 4) pa_nil))) pa_nil))) (pe_one (pe_cmpR op_eq (pe_callB (call_reprT L.sy hg hr0) (by rfl) L.np Kz.boot_rp (pa_cons (pv 5) pa_nil)) (pv 6) (nomark _))))
    refine ⟨_, PSs.nox (PSs.of_eq bdRt (pss_cons h0 (pss_cons h1 (pss_cons h2 (pss_cons h3 (pss_one h4)))))), ?_⟩
    clear h0 h1 h2 h3 h4
    have sm : ∀ {G : Hp}, L2.Same G G := fun _ _ e => e
    have m1 : l ∈ [l, li] := by simp
    have m2 : li ∈ [l, li] := by simp
    have e0 : its (PyData.list (ns.map PyData.str)) = ns.map PyData.str := rfl
    obtain ⟨q1, _, _⟩ := ends_ok (he.ext hid_up) rfl e0 nd hn hl
    refine ⟨ve, rfl, v, rfl, u, rfl, ve, v, u, ns, d, e, rfl, q1, hv.ext hid_up, hu.ext hid_up, ok.sd, ok.se, ok.law, fun H1 S1 => ?_⟩
    refine gset (nx_intro ?_)
    have he1 := he.ext (hid_same S1)
    have hv1 := hv.ext (hid_same S1)
    have hu1 := hu.ext (hid_same S1)
    have s1 := hs.same S1
    have E1 : ExtS l li H H1 := same_S S1
    have I1 := s1.ins
    have z0 : szD 6 (.list (ns.map PyData.str)) = 1 := by
      show 1 + ((ns.map PyData.str).map (szD 5)).sum = 1
      rw [sz_strs]
    refine ⟨.ref l, rfl, ve, rfl, [l, li], l, li, c, ve, _, rfl, m1, m2, I1, he1, ?_, s1, by rw [z0]; omega, fun H2 w0 d0 c2 e2 s2 b2 t2 l2 => ?_⟩
    · show (decide ((ns.map PyData.str).length ≤ 1000) && (ns.map PyData.str).all (fitX 5)) = true
      rw [fit_strs, Bool.and_true]
      exact decide_eq_true (by rw [List.length_map]; omega)
    rw [z0] at b2
    have dn := ok.nd
    have en := ok.ne
    have hv2 := hv1.ext (hid_S m1 m2 e2)
    refine ⟨.ref l, rfl, v, rfl, [l, li], l, li, c2, v, d, rfl, m1, m2, s2.ins, hv2, ok.fd, s2, by omega, fun H3 w1 d1 c3 e3 s3 b3 t3 l3 => ?_⟩
    have hu3 := (hu1.ext (hid_S m1 m2 e2)).ext (hid_S m1 m2 e3)
    refine ⟨.ref l, rfl, u, rfl, [l, li], l, li, c3, u, e, rfl, m1, m2, s3.ins, hu3, ok.fe, s3, by omega, fun H4 w2 d2 c4 e4 s4 b4 t4 l4 => ?_⟩
    refine ⟨small4 3, fun pp npp => ?_⟩
    have S5 := same_new (o := .lst [w0, w1, w2]) npp
    have t0 : Th (upd H4 pp (.lst [w0, w1, w2])) w0 d0 := (((t2.ext (hid_S m1 m2 e3)).ext (hid_S m1 m2 e4)).ext hid_up).ext S5
    have t1 : Th (upd H4 pp (.lst [w0, w1, w2])) w1 d1 := ((t3.ext (hid_S m1 m2 e4)).ext hid_up).ext S5
    have t9 : Th (upd H4 pp (.lst [w0, w1, w2])) w2 d2 := (t4.ext hid_up).ext S5
    have hpp := upd_same (H := H4) (a := pp) (o := .lst [w0, w1, w2])
    have s5 := s4.same S5
    have E5 : ExtS l li H (upd H4 pp (.lst [w0, w1, w2])) := (E1.trans (e2.trans (e3.trans e4))).trans (same_S S5)
    generalize upd H4 pp (.lst [w0, w1, w2]) = H5 at t0 t1 t9 hpp s5 E5 ⊢
    clear t2 t3 t4 hu3 hv2 hu1 hv1 he1 e2 e3 e4 S5 npp
    have tp : Th H5 (.ref pp) (.list [d0, d1, d2]) := .lst hpp (.cons t0 (.cons t1 (.cons t9 .nil)))
    obtain ⟨x1, x2, x3⟩ := wei_strs hn
    have g0 : gdA true [d0, d1, d2] = true := by
      show (gd true d0 && (gd true d1 && (gd true d2 && true))) = true
      rw [← l2.gd, ← l3.gd, ← l4.gd, ok.gd, ok.ge]
      show (gdA true (ns.map PyData.str) && _) = true
      rw [x2]
      rfl
    have dp : PyData.depth (.list [d0, d1, d2]) ≤ 20 := by
      have a1 := ok.dd
      have a2 := ok.de
      have a3 : PyData.depth (.list (ns.map PyData.str)) = 1 := by
        show PyData.depthAll (ns.map PyData.str) + 1 = 1
        rw [x3]
      rw [l3.dep] at a1
      rw [l4.dep] at a2
      rw [l2.dep] at a3
      show max (PyData.depth d0) (max (PyData.depth d1) (max (PyData.depth d2) 0)) + 1 ≤ 20
      omega
    have wp : PyData.weight (.list [d0, d1, d2]) ≤ 1000000 := by
      have a1 := ok.wd
      have a2 := ok.we
      have a3 : PyData.weight (.list (ns.map PyData.str)) ≤ 200 := by
        show PyData.weightAll (ns.map PyData.str) ≤ 200
        omega
      rw [l3.wei] at a1
      rw [l4.wei] at a2
      rw [l2.wei] at a3
      show PyData.weight d0 + 1 + (PyData.weight d1 + 1 + (PyData.weight d2 + 1 + 0)) ≤ 1000000
      omega
    refine gset ?_
    refine ⟨.ref pp, rfl, pp, _, rfl, tp, g0, dp, wp, ?_⟩
    refine gset ?_
    have ed0 : its d0 = ns.map PyData.str := lq_strs l2.its
    have ld0 : isL d0 = true := by rw [← l2.isL]; rfl
    have tabE : tabB ns d1 d2 = lawB ns d e := by rw [← tab_lq l3 l4, law_tab]
    refine ⟨.ref pp, rfl, ix_at 0 hpp rfl ⟨.ref pp, rfl, ix_at 1 hpp rfl ⟨.ref pp, rfl, ix_at 2 hpp rfl ?_⟩⟩⟩
    obtain ⟨y1, y2, y3⟩ := ends_ok t0 ld0 ed0 nd hn hl
    refine ⟨w0, w1, w2, ns, d0, d1, d2, rfl, y1, y2, y3, t1, l3.sz ok.sd, t9, l4.sz ok.se, fun G1 T1 => ?_⟩
    rw [tabE]
    have hp1 := T1 _ _ hpp
    refine ⟨.ref pp, rfl, ix_at 2 hp1 rfl ⟨.ref pp, rfl, ix_at 1 hp1 rfl ⟨.ref pp, rfl, ix_at 0 hp1 rfl ?_⟩⟩⟩
    obtain ⟨y1, y2, y3⟩ := ends_ok (t0.ext T1) ld0 ed0 nd hn hl
    refine ⟨w0, w1, w2, ns, d0, d1, d2, rfl, y1, y2, y3, t1.ext T1, l3.sz ok.sd, t9.ext T1, l4.sz ok.se, fun G2 T2 => ?_⟩
    rw [tabE]
    refine ⟨small4 2, fun ff nff => ?_⟩
    have S6 := same_new (o := .lst [.bl (lawB ns d e), .bl (lawB ns d e)]) nff
    refine gset ?_
    refine ⟨.ref ff, rfl, _, rfl, _, rfl, small4 2, fun gg ngg => ?_⟩
    have S7 := same_new (o := .lst [.bl (lawB ns d e), .bl (lawB ns d e)]) ngg
    have T7 := T1.trans (T2.trans (S6.trans S7))
    refine ⟨.ref ff, .ref gg, .list [.bool (lawB ns d e), .bool (lawB ns d e)], rfl, .lst (S7 _ _ upd_same) (.cons (.bl _) (.cons (.bl _) .nil)), .lst upd_same (.cons (.bl _) (.cons (.bl _) .nil)), by rfl, fun G3 T3 => ⟨true, rfl, iteT ?_⟩⟩
    have T8 := T7.trans T3
    refine ⟨.ref pp, rfl, pp, _, rfl, tp.ext T8, g0, dp, wp, _, rfl, rfl, ?_⟩
    rw [decide_eq_true rfl]
    exact k G3 c4 (E5.trans (same_S T8)) (s5.same T8) (by omega)
end
end K14.T27
namespace K14.T27
open PySem PySem.W PySem.Calls PyProof.Rows L2 LamX
open He (ga)
open Kz (SS ExtS ExtS.trans small4 same_new boot_in boot_li boot_isi Has pe_has noE PSs.of_eq seqI new_ext FnG HasG pe_hasG)
open K14.Gn
/-! ### how much there is of data -/
mutual
def cnt : PyData → Nat
  | .list xs => 1 + cntA xs
  | .tuple xs => 1 + cntA xs
  | _ => 1
def cntA : List PyData → Nat
  | [] => 0
  | x :: xs => cnt x + cntA xs
end
theorem cnt_pos (d : PyData) : 1 ≤ cnt d := by cases d <;> (unfold cnt; omega)
theorem cntA_app : ∀ (a b : List PyData), cntA (a ++ b) = cntA a + cntA b
  | [], b => (Nat.zero_add _).symm
  | x :: a, b => by
    show cnt x + cntA (a ++ b) = cnt x + cntA a + cntA b
    rw [cntA_app a b]
    omega
theorem cntA_mem {x : PyData} : ∀ {xs : List PyData}, x ∈ xs → cnt x ≤ cntA xs
  | y :: xs, h => by
    show cnt x ≤ cnt y + cntA xs
    rcases List.mem_cons.mp h with rfl | h
    · omega
    · have := cntA_mem h
      omega
theorem cntA_len : ∀ xs : List PyData, xs.length ≤ cntA xs
  | [] => Nat.le_refl _
  | x :: xs => by
    show xs.length + 1 ≤ cnt x + cntA xs
    have := cntA_len xs
    have := cnt_pos x
    omega
theorem cntA_set (y : PyData) : ∀ (xs : List PyData) (i : Nat), cntA (xs.set i y) ≤ cntA xs + cnt y
  | [], _ => Nat.zero_le _
  | x :: xs, 0 => by
    show cnt y + cntA xs ≤ cnt x + cntA xs + cnt y
    omega
  | x :: xs, i + 1 => by
    have := cntA_set y xs i
    show cnt x + cntA (xs.set i y) ≤ cnt x + cntA xs + cnt y
    omega
theorem cntA_le {m : Nat} : ∀ {xs : List PyData}, (∀ x ∈ xs, cnt x ≤ m) → cntA xs ≤ m * xs.length
  | [], _ => Nat.zero_le _
  | x :: xs, h => by
    have h1 := h x (List.mem_cons_self ..)
    have h2 := cntA_le fun y hy => h y (List.mem_cons_of_mem _ hy)
    show cnt x + cntA xs ≤ m * (xs.length + 1)
    rw [Nat.mul_add, Nat.mul_one]
    omega
theorem cntA_ints (x : List Int) : cntA (x.map PyData.int) = x.length := by
  induction x with
  | nil => rfl
  | cons a r ih =>
    show 1 + cntA (r.map PyData.int) = r.length + 1
    rw [ih]
    omega
theorem its_cnt (d : PyData) : cntA (its d) ≤ cnt d := by
  cases d with
  | list xs => show cntA xs ≤ 1 + cntA xs; omega
  | tuple xs => show cntA xs ≤ 1 + cntA xs; omega
  | _ => exact Nat.zero_le _
theorem cnt_szD : ∀ (n : Nat) (d : PyData), szD n d ≤ cnt d := by
  intro n
  induction n with
  | zero => intro d; cases d <;> exact Nat.zero_le _
  | succ n ih =>
    intro d
    have h : ∀ xs : List PyData, 1 + (xs.map (szD n)).sum ≤ 1 + cntA xs := fun xs => by
      have : (xs.map (szD n)).sum ≤ cntA xs := by
        induction xs with
        | nil => exact Nat.le_refl _
        | cons x r ih2 =>
          rw [List.map_cons, List.sum_cons]
          show _ ≤ cnt x + cntA r
          have := ih x
          omega
      omega
    cases d with
    | list xs => exact h xs
    | tuple xs => exact h xs
    | _ => exact Nat.zero_le _
theorem cnt_Sz : ∀ (n : Nat) (d : PyData), cnt d ≤ 500 → Sz n d := by
  intro n
  induction n with
  | zero => intro d h; exact Nat.le_trans (cntA_len _) (Nat.le_trans (its_cnt d) h)
  | succ n ih => intro d h; exact ⟨Nat.le_trans (cntA_len _) (Nat.le_trans (its_cnt d) h), fun z hz => ih z (Nat.le_trans (cntA_mem hz) (Nat.le_trans (its_cnt d) h))⟩
theorem wei_int : ∀ i : Int, 0 ≤ i → i ≤ 9 → PyData.weight (.int i) ≤ 4 := fun i h0 h1 => by
  obtain ⟨n, rfl⟩ : ∃ n : Nat, i = (n : Nat) := ⟨i.toNat, by omega⟩
  have hn : n < 10 := by omega
  match n, hn with
  | 0, _ => decide +kernel
  | 1, _ => decide +kernel
  | 2, _ => decide +kernel
  | 3, _ => decide +kernel
  | 4, _ => decide +kernel
  | 5, _ => decide +kernel
  | 6, _ => decide +kernel
  | 7, _ => decide +kernel
  | 8, _ => decide +kernel
  | 9, _ => decide +kernel
mutual
theorem cnt_wei : ∀ (d : PyData), gd true d = true → PyData.weight d + 1 ≤ 11 * cnt d
  | .none, _ => by show 0 + 1 ≤ 11 * 1; omega
  | .bool _, _ => by show 0 + 1 ≤ 11 * 1; omega
  | .int i, h => by
    obtain ⟨a, b⟩ := Bool.and_eq_true_iff.mp (show (decide (0 ≤ i) && decide (i ≤ 9)) = true from h)
    have := wei_int i (of_decide_eq_true a) (of_decide_eq_true b)
    show _ ≤ 11 * 1
    omega
  | .str x, h => by
    have g2 := of_decide_eq_true (Bool.and_eq_true_iff.mp (Bool.and_eq_true_iff.mp (show (_ && (PyData.strOk x && decide (x.cps.size ≤ 10))) = true from h)).2).2
    show x.cps.size + 1 ≤ 11 * 1
    omega
  | .list xs, h => by
    have := cntA_wei xs h
    show PyData.weightAll xs + 1 ≤ 11 * (1 + cntA xs)
    omega
  | .tuple xs, h => by
    have := cntA_wei xs h
    show PyData.weightAll xs + 1 ≤ 11 * (1 + cntA xs)
    omega
  | .dict ps, h => by
    obtain ⟨_, b⟩ := Bool.and_eq_true_iff.mp (show (true && ps.isEmpty) = true from h)
    obtain rfl : ps = [] := List.isEmpty_iff.mp b
    show 0 + 1 ≤ 11 * 1
    omega
theorem cntA_wei : ∀ (xs : List PyData), gdA true xs = true → PyData.weightAll xs ≤ 11 * cntA xs
  | [], _ => Nat.zero_le _
  | x :: xs, h => by
    obtain ⟨a, b⟩ := Bool.and_eq_true_iff.mp (show (gd true x && gdA true xs) = true from h)
    have h1 := cnt_wei x a
    have h2 := cntA_wei xs b
    show PyData.weight x + 1 + PyData.weightAll xs ≤ 11 * (cnt x + cntA xs)
    omega
end
theorem dep_mem {x : PyData} : ∀ {xs : List PyData}, x ∈ xs → PyData.depth x ≤ PyData.depthAll xs
  | y :: xs, h => by
    show PyData.depth x ≤ max (PyData.depth y) (PyData.depthAll xs)
    rcases List.mem_cons.mp h with rfl | h
    · omega
    · have := dep_mem h
      omega
theorem dep_le {k : Nat} : ∀ {xs : List PyData}, (∀ x ∈ xs, PyData.depth x ≤ k) → PyData.depthAll xs ≤ k
  | [], _ => Nat.zero_le _
  | x :: xs, h => by
    have h1 := h x (List.mem_cons_self ..)
    have h2 := dep_le fun y hy => h y (List.mem_cons_of_mem _ hy)
    show max (PyData.depth x) (PyData.depthAll xs) ≤ k
    omega
theorem cnt_fit : ∀ (n : Nat) (d : PyData), gd true d = true → PyData.depth d ≤ n → cnt d ≤ 1000 → fitX n d = true := by
  intro n
  induction n with
  | zero =>
    intro d g h c
    cases d with
    | list xs => exact absurd (show PyData.depthAll xs + 1 ≤ 0 from h) (by omega)
    | tuple xs => exact absurd (show PyData.depthAll xs + 1 ≤ 0 from h) (by omega)
    | dict ps => exact (Bool.and_eq_true_iff.mp (show (true && ps.isEmpty) = true from g)).2
    | _ => rfl
  | succ n ih =>
    intro d g h c
    have go : ∀ xs : List PyData, gdA true xs = true → PyData.depthAll xs + 1 ≤ n + 1 → 1 + cntA xs ≤ 1000 → (decide (xs.length ≤ 1000) && xs.all (fitX n)) = true := fun xs g h c => by
      have h1 := cntA_len xs
      rw [decide_eq_true (show xs.length ≤ 1000 by omega), Bool.true_and]
      refine List.all_eq_true.mpr fun x hx => ih x (gdA_all.mp g x hx) ?_ ?_
      · have := dep_mem hx
        omega
      · have := cntA_mem hx
        omega
    cases d with
    | list xs => exact go xs g h c
    | tuple xs => exact go xs g h c
    | dict ps => exact (Bool.and_eq_true_iff.mp (show (true && ps.isEmpty) = true from g)).2
    | _ => rfl
structure OkA (k m : Nat) (z : PyData) : Prop where
  g : gd true z = true
  d : PyData.depth z ≤ k
  c : cnt z ≤ m
theorem OkA.mono {k m k2 m2 : Nat} {z : PyData} (h : OkA k m z) (hk : k ≤ k2) (hm : m ≤ m2) : OkA k2 m2 z := ⟨h.g, Nat.le_trans h.d hk, Nat.le_trans h.c hm⟩
theorem oka_tup {k m : Nat} {zs : List PyData} (h : ∀ z ∈ zs, OkA k m z) : OkA (k + 1) (1 + m * zs.length) (.tuple zs) :=
  ⟨gdA_all.mpr fun z hz => (h z hz).g, by
    have := dep_le fun z hz => (h z hz).d
    show PyData.depthAll zs + 1 ≤ k + 1
    omega, by
    have := cntA_le fun z hz => (h z hz).c
    show 1 + cntA zs ≤ _
    omega⟩
theorem OkT.of {ns : List Str} {d e : PyData} (hd : OkA 6 500 d) (he : OkA 6 500 e) (ld : ∀ z ∈ bxs (its d), Law ns z) (le : ∀ z ∈ its e, Law ns z) : OkT ns d e := by
  have w1 := cnt_wei d hd.g
  have w2 := cnt_wei e he.g
  have c1 := hd.c
  have c2 := he.c
  refine ⟨cnt_fit 6 d hd.g hd.d (by omega), cnt_fit 6 e he.g he.d (by omega), cnt_Sz 3 d c1, cnt_Sz 2 e c2, fun z hz => ?_, hd.g, he.g, Nat.le_trans hd.d (by decide), Nat.le_trans he.d (by decide), by omega, by omega, Nat.le_trans (cnt_szD 6 d) (by omega), Nat.le_trans (cnt_szD 6 e) (by omega)⟩
  rcases List.mem_append.mp hz with hz | hz
  · exact ld z hz
  · exact le z hz
/-- a row of the law's making -/
abbrev rowD (x : List Int) : PyData := .list (x.map PyData.int)
def smI (m : Nat) (x : List Int) : Prop := (∀ n ∈ x, 0 ≤ n ∧ n ≤ 9) ∧ x.length ≤ m
theorem smI.app {m k : Nat} {x y : List Int} (h : smI m x) (r : smI k y) : smI (m + k) (x ++ y) := ⟨fun n hn => (List.mem_append.mp hn).elim (h.1 n) (r.1 n), by rw [List.length_append]; exact Nat.add_le_add h.2 r.2⟩
theorem smI.mono {m k : Nat} {x : List Int} (h : smI m x) (l : m ≤ k) : smI k x := ⟨h.1, Nat.le_trans h.2 l⟩
theorem smI.take {m j : Nat} {x : List Int} (h : smI m x) : smI m (x.take j) := ⟨fun n hn => h.1 n (List.mem_of_mem_take hn), by rw [List.length_take]; exact Nat.le_trans (Nat.min_le_right _ _) h.2⟩
theorem sm_ints {m : Nat} {x : List Int} (h : smI m x) : OkA 1 (1 + m) (rowD x) :=
  ⟨gdA_all.mpr fun z hz => by
    obtain ⟨n, hn, rfl⟩ := List.mem_map.mp hz
    obtain ⟨a, b⟩ := h.1 n hn
    show (decide (0 ≤ n) && decide (n ≤ 9)) = true
    rw [decide_eq_true a, decide_eq_true b]
    rfl, by
    have : PyData.depthAll (x.map PyData.int) ≤ 0 := dep_le fun z hz => by
      obtain ⟨n, hn, rfl⟩ := List.mem_map.mp hz
      exact Nat.le_refl _
    show PyData.depthAll (x.map PyData.int) + 1 ≤ 1
    omega, by
    show 1 + cntA (x.map PyData.int) ≤ 1 + m
    rw [cntA_ints]
    have := h.2
    omega⟩
theorem oka_str {k : Nat} {s : Str} (h : gdS s = true) : OkA k 1 (.str s) := ⟨h, Nat.zero_le _, Nat.le_refl _⟩
/-- an odd box, or one -/
structure OkZ (ns : List Str) (z : PyData) : Prop where
  a : OkA 3 60 z
  l : Law ns z
theorem law_no {ns : List Str} {z : PyData} (h : boxB ns z = false) : Law ns z := fun q => by rw [h] at q; cases q
theorem law_3 {ns : List Str} {e : Str} {r t : PyData} (h : isR r = true → isR t = true → ∃ x y : List Int, r = rowD x ∧ t = rowD y ∧ x.length ≤ 500 ∧ y.length ≤ 500) : Law ns (.tuple [.str e, r, t]) := fun q => by
  have q : (true && (inN ns e && (isR r && isR t))) = true := q
  rw [Bool.true_and, Bool.and_eq_true, Bool.and_eq_true] at q
  obtain ⟨x, y, rfl, rfl, lx, ly⟩ := h q.2.1 q.2.2
  exact ⟨⟨e, x, y⟩, rfl, lx, ly⟩
theorem okz_tup {ns : List Str} {zs : List PyData} (h : ∀ z ∈ zs, OkA 2 14 z) (l : zs.length ≤ 4) (w : Law ns (.tuple zs)) : OkZ ns (.tuple zs) := ⟨(oka_tup h).mono (by omega) (by omega), w⟩
theorem okz_box {ns : List Str} {e : Str} {x y : List Int} (he : gdS e = true) (hx : smI 13 x) (hy : smI 13 y) : OkZ ns (.tuple [.str e, rowD x, rowD y]) := by
  refine okz_tup (fun z hz => ?_) (by simp) (law_3 fun _ _ => ⟨x, y, rfl, rfl, Nat.le_trans hx.2 (by decide), Nat.le_trans hy.2 (by decide)⟩)
  rcases List.mem_cons.mp hz with rfl | hz
  · exact (oka_str he (k := 2)).mono (by omega) (by omega)
  rcases List.mem_cons.mp hz with rfl | hz
  · exact (sm_ints hx).mono (by omega) (by omega)
  rcases List.mem_cons.mp hz with rfl | hz
  · exact (sm_ints hy).mono (by omega) (by omega)
  · cases hz
theorem LBx.sm {ns : List Str} {b : Bx} (h : LBx ns b) : smI 11 b.x ∧ smI 11 b.y := by
  have := h.l
  have f : ∀ {x : List Int}, figsB x → ∀ n ∈ x, 0 ≤ n ∧ n ≤ 9 := fun hx n hn => by rcases hx n hn with rfl | rfl <;> decide
  exact ⟨⟨f h.x, by omega⟩, ⟨f h.y, by omega⟩⟩
/-! ### expressions that make data, some places left out of sight -/
def Gv (S : List Addr) (σ : L2.St) (H0 : Hp) (te : TE) (z : PyData) : Prop := ∀ (H : Hp) (Q : VK), L2.Same H0 H → Ins S H → (∀ (H' : Hp) (v : V), L2.Same H H' → Th (Hid S H') v z → Q v H') → te σ H Q
def GvA (S : List Addr) (σ : L2.St) (H0 : Hp) (ta : TA) (zs : List PyData) : Prop := ∀ (H : Hp) (Q : List V → Hp → Prop), L2.Same H0 H → Ins S H → (∀ (H' : Hp) (vs : List V), L2.Same H H' → ThAll (Hid S H') vs zs → Q vs H') → ta σ H Q
section
variable {S : List Addr} {σ : L2.St} {H0 : Hp}
theorem gv_var {i : Nat} {v : V} {z : PyData} (e : σ[i]? = some (some v)) (t : Th (Hid S H0) v z) : Gv S σ H0 (tVar i) z := fun H Q s ins k => ⟨v, e, k H v (fun _ _ q => q) (t.ext (hid_same s))⟩
theorem gv_int {i : Int} : Gv S σ H0 (tC (.int i)) (.int i) := fun H Q s ins k => k H _ (fun _ _ q => q) (.int i)
theorem gv_non : Gv S σ H0 (tC .non) .none := fun H Q s ins k => k H _ (fun _ _ q => q) .non
theorem gv_bl {b : Bool} : Gv S σ H0 (tC (.bl b)) (.bool b) := fun H Q s ins k => k H _ (fun _ _ q => q) (.bl b)
theorem gv_str {x : Str} : Gv S σ H0 (tC (.str x)) (.str x) := fun H Q s ins k => k H _ (fun _ _ q => q) (.str x)
theorem gva_nil : GvA S σ H0 tNil [] := fun H Q s ins k => k H [] (fun _ _ q => q) .nil
theorem gva_cons {te : TE} {ta : TA} {z : PyData} {zs : List PyData} (h : Gv S σ H0 te z) (r : GvA S σ H0 ta zs) : GvA S σ H0 (tCons te ta) (z :: zs) := fun H Q s ins k =>
  h H _ s ins fun H1 v s1 t1 => r H1 _ (s.trans s1) (ins.same s1) fun H2 vs s2 t2 => k H2 (v :: vs) (s1.trans s2) (.cons (t1.ext (hid_same s2)) t2)
theorem gv_lst {ta : TA} {zs : List PyData} (h : GvA S σ H0 ta zs) (l : zs.length ≤ 1000 := by simp) : Gv S σ H0 (tLst ta) (.list zs) := fun H Q s ins k =>
  h H _ s ins fun H1 vs s1 t1 => ⟨by rw [t1.length, sizeLine_eq]; omega, fun p np => k _ _ (s1.trans (same_new np)) (.lst (hid_of ((ins.same s1).new np) upd_same fun ps z => nomatch z) (t1.ext (hid_same (same_new np))))⟩
theorem gv_tup {ta : TA} {zs : List PyData} (h : GvA S σ H0 ta zs) (l : zs.length ≤ 1000 := by simp) : Gv S σ H0 (tTup ta) (.tuple zs) := fun H Q s ins k =>
  h H _ s ins fun H1 vs s1 t1 => ⟨by rw [t1.length, sizeLine_eq]; omega, fun p np => k _ _ (s1.trans (same_new np)) (.tup (hid_of ((ins.same s1).new np) upd_same fun ps z => nomatch z) (t1.ext (hid_same (same_new np))))⟩
theorem gv_dict : Gv S σ H0 tDNewK (.dict []) := fun H Q s ins k p np => k _ _ (same_new np) (.dct (hid_of (ins.new np) upd_same fun ps z => nomatch z) .nil)
theorem gv_cat {t1 t2 : TE} {x y : List PyData} (h1 : Gv S σ H0 t1 (.list x)) (h2 : Gv S σ H0 t2 (.list y)) (l : x.length + y.length ≤ 1000) : Gv S σ H0 (tOp rCat t1 t2) (.list (x ++ y)) := fun H Q s ins k =>
  h1 H _ s ins fun H1 v s1 q1 => h2 H1 _ (s.trans s1) (ins.same s1) fun H2 u s2 q2 => by
    cases q1 with
    | @lst a xs _ ha r1 =>
      cases q2 with
      | @lst b ys _ hb r2 =>
        refine ⟨a, b, xs, ys, rfl, rfl, s2 _ _ (hid_up _ _ ha), hid_up _ _ hb, by rw [r1.length, r2.length, sizeLine_eq]; omega, fun p np => ?_⟩
        have s3 := same_new (o := .lst (xs ++ ys)) np
        exact k _ _ (s1.trans (s2.trans s3)) (.lst (hid_of (((ins.same s1).same s2).new np) upd_same fun ps z => nomatch z) (th_app ((r1.ext (hid_same s2)).ext (hid_same s3)) (r2.ext (hid_same s3))))
theorem cut_ini (xs : List V) : cutV xs none (some (-1)) = xs.take (xs.length - 1) := by
  cases xs with
  | nil => rfl
  | cons a r => exact cut_init (by simp)
theorem gv_ini {K : Frag} {t1 : TE} {x : List PyData} (h1 : Gv S σ H0 t1 (.list x)) : Gv S σ H0 (tSl (rSlL K) t1 tNoPart (tPart (tUn (rU fun i => .int (-i)) (tC (.int 1))))) (.list (x.take (x.length - 1))) := fun H Q s ins k =>
  h1 H _ s ins fun H1 v s1 q1 => by
    cases q1 with
    | @lst a xs _ ha r1 =>
      refine ⟨1, rfl, -1, rfl, a, xs, rfl, .inl (.inl (hid_up _ _ ha)), fun p np => ?_⟩
      rw [cut_ini]
      have s2 := same_new (o := .lst (xs.take (xs.length - 1))) np
      refine k _ _ (s1.trans s2) (.lst (hid_of ((ins.same s1).new np) upd_same fun ps z => nomatch z) ?_)
      rw [← r1.length]
      exact thAll_take (r1.ext (hid_same s2))
end
end K14.T27
namespace K14.T27
open PySem PySem.W PySem.Calls PyProof.Rows L2 LamX
open He (ga)
open Kz (SS ExtS ExtS.trans small4 same_new boot_in boot_li boot_isi Has pe_has noE PSs.of_eq seqI new_ext FnG HasG pe_hasG)
open K14.Gn
abbrev sBb : Stmt := topS 43
abbrev NBb : List Str := ["stream", "ends", "box", "end", "s", "t", "found"]
theorem scBb : FnScope NBb ["stream", "ends", "box"] (defScope sBb) := ⟨rfl, rfl, rfl, by decide +kernel, rfl, by decide +kernel, by decide +kernel⟩
theorem bdBb : defBody sBb = [stOf sBb 0, stOf sBb 1, stOf sBb 2, stOf sBb 3, stOf sBb 4] := by rfl
def ob0 (b : Bx) : List PyData := [.tuple [.str b.s, rowD (b.x ++ [0]), rowD b.y], .tuple [.str b.s, rowD (b.x.take (b.x.length - 1)), rowD b.y], .tuple [.str b.s, rowD b.x, rowD (b.y.take (b.y.length - 1))], .tuple [.str b.s, rowD b.x, rowD (b.y ++ [1])], .tuple [.str b.s, rowD b.y, rowD b.x], .tuple [.str "late9", rowD b.x, rowD b.y]]
def ob1 (b : Bx) : List PyData := [.tuple [.str b.s, rowD b.x], .tuple [.str b.s, rowD b.x, rowD b.y, rowD b.y], .tuple [.str b.s, rowD (b.x ++ [2]), rowD b.y], .tuple [.str b.s, rowD b.x, .list (b.y.map PyData.int ++ [.bool true])], .tuple [.str b.s, .str "0", rowD b.y], .tuple [.str b.s, rowD b.x, .none]]
def ob2 (b : Bx) : List PyData := [.tuple [.int 5, rowD b.x, rowD b.y], .tuple [.list [.str b.s], rowD b.x, rowD b.y], .tuple [.str b.s, rowD b.x, .list [.none]], .tuple [.str b.s, .list [.list [.int 0]], rowD b.y], .tuple [.str b.s, rowD b.x, rowD b.y], .none, .str b.s]
theorem forall_c {α : Type} {p : α → Prop} {a : α} {l : List α} (h : p a) (r : ∀ z ∈ l, p z) : ∀ z ∈ a :: l, p z := fun z hz => (List.mem_cons.mp hz).elim (fun e => by rw [e]; exact h) (r z)
theorem forall_n {α : Type} {p : α → Prop} : ∀ z ∈ ([] : List α), p z := fun z hz => nomatch hz
theorem sm1 {i : Int} (h0 : 0 ≤ i) (h1 : i ≤ 9) : smI 1 [i] := ⟨fun n hn => by rw [List.mem_singleton.mp hn]; exact ⟨h0, h1⟩, Nat.le_refl _⟩
section
variable {ns : List Str} {b : Bx}
theorem ob0_ok (h : LBx ns b) (he : gdS b.s = true) : ∀ z ∈ ob0 b, OkZ ns z := by
  obtain ⟨hx, hy⟩ := h.sm
  have hx' := hx.mono (show 11 ≤ 13 by decide)
  have hy' := hy.mono (show 11 ≤ 13 by decide)
  refine forall_c (okz_box he ((hx.app (sm1 (by decide) (by decide))).mono (by decide)) hy') (forall_c (okz_box he hx'.take hy') (forall_c (okz_box he hx' hy'.take) (forall_c (okz_box he hx' ((hy.app (sm1 (by decide) (by decide))).mono (by decide))) (forall_c (okz_box he hy' hx') (forall_c (okz_box (by decide +kernel) hx' hy') forall_n)))))
theorem ob1_ok (h : LBx ns b) (he : gdS b.s = true) : ∀ z ∈ ob1 b, OkZ ns z := by
  obtain ⟨hx, hy⟩ := h.sm
  have hx' := hx.mono (show 11 ≤ 13 by decide)
  have hy' := hy.mono (show 11 ≤ 13 by decide)
  have aE : OkA 2 14 (.str b.s) := (oka_str he (k := 2)).mono (by omega) (by omega)
  have aX : OkA 2 14 (rowD b.x) := (sm_ints hx').mono (by omega) (by omega)
  have aY : OkA 2 14 (rowD b.y) := (sm_ints hy').mono (by omega) (by omega)
  have aT : OkA 2 14 (.list (b.y.map PyData.int ++ [.bool true])) := by
    obtain ⟨g, d, c⟩ := sm_ints hy
    have g : gdA true (b.y.map PyData.int) = true := g
    have d : PyData.depthAll (b.y.map PyData.int) + 1 ≤ 1 := d
    have c : 1 + cntA (b.y.map PyData.int) ≤ 1 + 11 := c
    refine ⟨gdA_all.mpr fun z hz => ?_, ?_, ?_⟩
    · rcases List.mem_append.mp hz with hz | hz
      · exact gdA_all.mp g z hz
      · rw [List.mem_singleton.mp hz]
        rfl
    · have : PyData.depthAll (b.y.map PyData.int ++ [.bool true]) ≤ 0 := dep_le fun z hz => by
        rcases List.mem_append.mp hz with hz | hz
        · have := dep_mem hz
          omega
        · rw [List.mem_singleton.mp hz]
          exact Nat.le_refl _
      show PyData.depthAll (b.y.map PyData.int ++ [.bool true]) + 1 ≤ 2
      omega
    · show 1 + cntA (b.y.map PyData.int ++ [.bool true]) ≤ 14
      rw [cntA_app]
      have e : cntA [PyData.bool true] = 1 := by rfl
      omega
  refine forall_c (okz_tup (forall_c aE (forall_c aX forall_n)) (by simp) (law_no rfl)) (forall_c (okz_tup (forall_c aE (forall_c aX (forall_c aY (forall_c aY forall_n)))) (by simp) (law_no rfl)) (forall_c (okz_box he ((hx.app (sm1 (by decide) (by decide))).mono (by decide)) hy')
    (forall_c (okz_tup (forall_c aE (forall_c aX (forall_c aT forall_n))) (by simp) (law_3 fun _ q => ?_)) (forall_c (okz_tup (forall_c aE (forall_c (oka_str (by decide +kernel) (k := 2) |>.mono (by omega) (by omega)) (forall_c aY forall_n))) (by simp) (law_3 fun q _ => absurd (show false = true from q) Bool.false_ne_true)) (forall_c (okz_tup (forall_c aE (forall_c aX (forall_c ⟨rfl, by decide, by decide⟩ forall_n))) (by simp) (law_3 fun _ q => absurd (show false = true from q) Bool.false_ne_true)) forall_n)))))
  have q : (true && (b.y.map PyData.int ++ [PyData.bool true]).all isF) = true := q
  rw [List.all_append, Bool.true_and, Bool.and_eq_true] at q
  exact absurd (show false = true from q.2) Bool.false_ne_true
theorem ob2_ok (h : LBx ns b) (he : gdS b.s = true) : ∀ z ∈ ob2 b, OkZ ns z := by
  obtain ⟨hx, hy⟩ := h.sm
  have hx' := hx.mono (show 11 ≤ 13 by decide)
  have hy' := hy.mono (show 11 ≤ 13 by decide)
  have aE : OkA 2 14 (.str b.s) := (oka_str he (k := 2)).mono (by omega) (by omega)
  have aX : OkA 2 14 (rowD b.x) := (sm_ints hx').mono (by omega) (by omega)
  have aY : OkA 2 14 (rowD b.y) := (sm_ints hy').mono (by omega) (by omega)
  have a5 : OkA 2 14 (.int 5) := ⟨by decide, by decide, by decide⟩
  have aL : OkA 2 14 (.list [.str b.s]) := ⟨by show (gdS b.s && true) = true; rw [he]; rfl, by show max 0 0 + 1 ≤ 2; decide, by show 1 + (1 + 0) ≤ 14; decide⟩
  have aN : OkA 2 14 (.list [.none]) := ⟨by decide, by decide, by decide⟩
  have aO : OkA 2 14 (.list [.list [.int 0]]) := ⟨by decide, by decide, by decide⟩
  exact forall_c (okz_tup (forall_c a5 (forall_c aX (forall_c aY forall_n))) (by simp) (law_no rfl)) (forall_c (okz_tup (forall_c aL (forall_c aX (forall_c aY forall_n))) (by simp) (law_no rfl)) (forall_c (okz_tup (forall_c aE (forall_c aX (forall_c aN forall_n))) (by simp) (law_3 fun _ q => absurd (show false = true from q) Bool.false_ne_true))
    (forall_c (okz_tup (forall_c aE (forall_c aO (forall_c aY forall_n))) (by simp) (law_3 fun q _ => absurd (show false = true from q) Bool.false_ne_true)) (forall_c (okz_box he hx' hy') (forall_c ⟨⟨rfl, by decide, by decide⟩, law_no rfl⟩ (forall_c ⟨(oka_str he (k := 3)).mono (by omega) (by omega), law_no rfl⟩ forall_n))))))
end
section
variable {S : List Addr} {σ : L2.St} {H0 : Hp}
theorem gv_catI {t1 : TE} {x : List Int} {i : Int} (h1 : Gv S σ H0 t1 (rowD x)) (l : x.length ≤ 900) : Gv S σ H0 (tOp rCat t1 (tLst (tCons (tC (.int i)) tNil))) (rowD (x ++ [i])) := by
  have := gv_cat (x := x.map PyData.int) (y := [PyData.int i]) h1 (gv_lst (gva_cons gv_int gva_nil)) (by rw [List.length_map]; simp; omega)
  unfold rowD
  rw [List.map_append]
  exact this
theorem gv_iniI {K : Frag} {t1 : TE} {x : List Int} (h1 : Gv S σ H0 t1 (rowD x)) : Gv S σ H0 (tSl (rSlL K) t1 tNoPart (tPart (tUn (rU fun i => .int (-i)) (tC (.int 1))))) (rowD (x.take (x.length - 1))) := by
  have := gv_ini (K := K) (x := x.map PyData.int) h1
  rw [List.length_map] at this
  unfold rowD
  rw [List.map_take]
  exact this
end
theorem lst_in {ta : TA} {σ : L2.St} {H : Hp} {Q : VK} (h : ta σ H fun xs H1 => xs.length ≤ sizeLine ∧ ∀ p, H1 p = none → Q (.ref p) (upd H1 p (.lst xs))) : tLst ta σ H Q := h
theorem thAll_mem {H : Hp} {x : V} : ∀ {vs : List V} {zs : List PyData}, ThAll H vs zs → x ∈ vs → ∃ z ∈ zs, Th H x z
  | _, _, .nil, h => nomatch h
  | _, _, .cons (d := d) t r, h => by
    rcases List.mem_cons.mp h with rfl | h
    · exact ⟨_, List.mem_cons_self .., t⟩
    · obtain ⟨z, hz, q⟩ := thAll_mem r h
      exact ⟨z, List.mem_cons_of_mem _ hz, q⟩
/-- all but one place stays -/
def Exc (fd : Addr) (H H' : Hp) : Prop := ∀ b o, H b = some o → b ≠ fd → H' b = some o
theorem Exc.trans {fd : Addr} {H H1 H2 : Hp} (h : Exc fd H H1) (r : Exc fd H1 H2) : Exc fd H H2 := fun b o e n => r b o (h b o e n) n
theorem Exc.of {fd : Addr} {H H1 : Hp} (h : L2.Same H H1) : Exc fd H H1 := fun b o e _ => h b o e
theorem Exc.upd {fd : Addr} {H : Hp} {u : HO} : Exc fd H (upd H fd u) := fun b o e n => by rw [upd_ne n]; exact e
theorem Exc.hid {fd : Addr} {S : List Addr} {H H1 : Hp} (h : Exc fd H H1) (m : fd ∈ S) : L2.Same (Hid S H) (Hid S H1) := fun b o e => by
  obtain ⟨h1, h2, h3⟩ := hid_at e
  exact hid_of h1 (h b o h2 fun z => h1 (by rw [z]; exact m)) h3
theorem Exc.spr {fd l li : Addr} {c : Int} {H H1 : Hp} (h : Exc fd H H1) (n1 : fd ≠ l) (n2 : fd ≠ li) (s : Spr H l li c) : Spr H1 l li c := by
  obtain ⟨ns, b, d, s, n⟩ := s
  exact ⟨ns, b, d, ⟨h _ _ s.l1 n1.symm, h _ _ s.l2 n2.symm, s.ne, s.b0, s.c0, s.d0, s.d1⟩, n⟩
theorem Exc.ext {fd l li : Addr} {H H1 H2 : Hp} (e : ExtS l li H H1) (n : H fd = none) (h : Exc fd H1 H2) : ExtS l li H H2 := fun b o eb z1 z2 => h b o (e b o eb z1 z2) fun z => by rw [z, n] at eb; cases eb
theorem ext_step {K : Frag} {S : List Addr} {fd : Addr} {i : Nat} {xs : List V} {z0 z1 : List PyData} {ta : TA} {u : TS} {D : Ends} {σ : L2.St} {H : Hp} (A : GvA S σ H ta z1) (e : σ[i]? = some (some (.ref fd))) (hf : H fd = some (.lst xs)) (m : fd ∈ S) (ins : Ins S H) (t : ThAll (Hid S H) xs z0) (l : z0.length + z1.length ≤ 900)
    (k : ∀ (H' : Hp) (xs' : List V), Exc fd H H' → H' fd = some (.lst xs') → Ins S H' → ThAll (Hid S H') xs' (z0 ++ z1) → u D σ H') : tSeq (tDrop (tBM K "list" rExtend (tVar i) (tCons (tLst ta) tNil))) u D σ H := by
  refine ⟨.ref fd, e, .inl ⟨rfl, _, .inl (.inl hf)⟩, lst_in (A H _ (fun _ _ e => e) ins fun H1 ys s1 t1 => ⟨by rw [t1.length, sizeLine_eq]; omega, fun p np => ?_⟩)⟩
  have s2 := same_new (o := .lst ys) np
  have s := s1.trans s2
  refine ⟨fd, p, xs, ys, rfl, rfl, s _ _ hf, upd_same, by rw [t.length, t1.length, sizeLine_eq]; omega, ?_⟩
  refine k _ _ ((Exc.of s).trans Exc.upd) upd_same (ins.same s).upd (th_app ((t.ext (hid_same s)).ext (hid_upd m)) ((t1.ext (hid_same s2)).ext (hid_upd m)))
section
variable {P : Program} {w : World} {K : Frag} {mg : Str → Option Value} {base : Heap}
def spBb : Sp := fun vs H Q _ => ∃ (S : List Addr) (l li en : Addr) (c : Int) (ns : List Str) (v : V) (b : Bx), vs = [.ref l, .ref en, v] ∧ l ∈ S ∧ li ∈ S ∧ Ins S H ∧ Spr H l li c ∧ H en = some (.lst (ns.map V.str)) ∧ en ≠ l ∧ en ≠ li ∧ 0 < ns.length ∧ ns.length ≤ 16 ∧ (∀ s ∈ ns, s ∈ endNames) ∧ Th (Hid S H) v (bxD b) ∧ LBx ns b ∧ c < 890000000 ∧
  ∀ (H' : Hp) (v' : V) (z : PyData), ExtS l li H H' → Spr H' l li (c + 2) → Th (Hid S H') v' z → OkZ ns z → Q v' H'
theorem ok_bb {f : Addr} {fd : FuncData} (F : FunD K "_law_bent_box" "_law_bent_box" (defArgs sBb) (defBody sBb) (defScope sBb) [] [] f fd) (PK : Has P w K mg base "_law_pick" 2 ["stream", "some"] spPk) : FnOk P w K mg base CX0 3 f fd ["stream", "ends", "box"] spBb := by
  refine F.ok scBb (fun vs H Q E h => ?_) (fun cdv A outer s H vs Q XE hr h => ?_)
  · obtain ⟨S, l, li, en, c, ns, v, b, rfl, _⟩ := h
    rfl
  · obtain ⟨S, l, li, en, c, ns, v, b, rfl, m1, m2, ins, hs, hen, n1, n2, l0, l16, hn, hv, hb, hc, k⟩ := h
    have h0 : PS (cxOf CX0 P w K mg base NBb "_law_bent_box" (defScope sBb) f cdv A outer s H XE).nox (stOf sBb 0) _ := ps_asg (pv 2) (pg_tup (n := 3) rfl (pgs_cons (pg_name (i := 3) scBb.nd rfl (.inl rfl)) (pgs_cons (pg_name (i := 4) scBb.nd rfl (.inl rfl)) (pgs_cons (pg_name (i := 5) scBb.nd rfl (.inl rfl)) pgs_nil))))
    have h1 : PS (cxOf CX0 P w K mg base NBb "_law_bent_box" (defScope sBb) f cdv A outer s H XE).nox (stOf sBb 1) _ := ps_set (i := 6) scBb.nd rfl (.inl rfl) (pe_lst (pa_cons (pe_tup (pa_cons (pv 3) (pa_cons (pe_op op_cat (pv 4) (pe_lst (pa_cons pe_int pa_nil))) (pa_cons (pv 5) pa_nil)))) (pa_cons (pe_tup (pa_cons (pv 3) (pa_cons (pe_slice sl_list (pv 4) po_none (po_some (pe_un un_neg pe_int))) (pa_cons (pv 5) pa_nil)))) (pa_cons (pe_tup (pa_cons (pv 3) (pa_cons (pv 4) (pa_cons (pe_slice sl_list (pv 5) po_none (po_some (pe_un un_neg pe_int))) pa_nil))))
      (pa_cons (pe_tup (pa_cons (pv 3) (pa_cons (pv 4) (pa_cons (pe_op op_cat (pv 5) (pe_lst (pa_cons pe_int pa_nil))) pa_nil)))) (pa_cons (pe_tup (pa_cons (pv 3) (pa_cons (pv 5) (pa_cons (pv 4) pa_nil)))) (pa_cons (pe_tup (pa_cons pe_str (pa_cons (pv 4) (pa_cons (pv 5) pa_nil)))) pa_nil)))))))
    have h2 : PS (cxOf CX0 P w K mg base NBb "_law_bent_box" (defScope sBb) f cdv A outer s H XE).nox (stOf sBb 2) _ := ps_expr (pe_bm PySem.F.plainAttrs_list PySem.F.slot_list_extend PySem.F.type_list_extend mt_extend (pv 6) (pa_cons (pe_lst (pa_cons (pe_tup (pa_cons (pv 3) (pa_cons (pv 4) pa_nil))) (pa_cons (pe_tup (pa_cons (pv 3) (pa_cons (pv 4) (pa_cons (pv 5) (pa_cons (pv 5) pa_nil))))) (pa_cons (pe_tup (pa_cons (pv 3) (pa_cons (pe_op op_cat (pv 4) (pe_lst (pa_cons pe_int pa_nil))) (pa_cons (pv 5) pa_nil))))
      (pa_cons (pe_tup (pa_cons (pv 3) (pa_cons (pv 4) (pa_cons (pe_op op_cat (pv 5) (pe_lst (pa_cons pe_bl pa_nil))) pa_nil)))) (pa_cons (pe_tup (pa_cons (pv 3) (pa_cons pe_str (pa_cons (pv 5) pa_nil)))) (pa_cons (pe_tup (pa_cons (pv 3) (pa_cons (pv 4) (pa_cons pe_non pa_nil)))) pa_nil))))))) pa_nil))
    have h3 : PS (cxOf CX0 P w K mg base NBb "_law_bent_box" (defScope sBb) f cdv A outer s H XE).nox (stOf sBb 3) _ := ps_expr (pe_bm PySem.F.plainAttrs_list PySem.F.slot_list_extend PySem.F.type_list_extend mt_extend (pv 6) (pa_cons (pe_lst (pa_cons (pe_tup (pa_cons pe_int (pa_cons (pv 4) (pa_cons (pv 5) pa_nil)))) (pa_cons (pe_tup (pa_cons (pe_lst (pa_cons (pv 3) pa_nil)) (pa_cons (pv 4) (pa_cons (pv 5) pa_nil)))) (pa_cons (pe_tup (pa_cons (pv 3) (pa_cons (pv 4) (pa_cons (pe_lst (pa_cons pe_non pa_nil)) pa_nil))))
      (pa_cons (pe_tup (pa_cons (pv 3) (pa_cons (pe_lst (pa_cons (pe_lst (pa_cons pe_int pa_nil)) pa_nil)) (pa_cons (pv 5) pa_nil)))) (pa_cons (pe_tup (pa_cons (pv 3) (pa_cons (pv 4) (pa_cons (pv 5) pa_nil)))) (pa_cons pe_non (pa_cons (pv 3) pa_nil)))))))) pa_nil))
    have h4 : PS (cxOf CX0 P w K mg base NBb "_law_bent_box" (defScope sBb) f cdv A outer s H XE).nox (stOf sBb 4) _ := ps_ret (pe_has PK hr (by rfl) (pa_cons (pv 0) (pa_cons (pe_op op_cat (pv 6) (pe_lst (pa_cons (pe_tup (pa_cons (pe_has PK hr (by rfl) (pa_cons (pv 0) (pa_cons (pv 1) pa_nil))) (pa_cons (pv 4) (pa_cons (pv 5) pa_nil)))) pa_nil))) pa_nil)))
    refine ⟨_, PSs.nox (PSs.of_eq bdBb (pss_cons h0 (pss_cons h1 (pss_cons h2 (pss_cons h3 (pss_one h4)))))), ?_⟩
    clear h0 h1 h2 h3 h4
    have sm : ∀ {G : Hp}, L2.Same G G := fun _ _ e => e
    obtain ⟨a, p, q, rfl, hha, hhp, hhq⟩ := th_bxV hv
    have he := List.all_eq_true.mp names_gd _ (hn _ hb.s)
    obtain ⟨sx, sy⟩ := hb.sm
    have lx := sx.2
    have ly := sy.2
    have tX0 : Th (Hid S H) (.ref p) (rowD b.x) := .lst hhp (th_list _)
    have tY0 : Th (Hid S H) (.ref q) (rowD b.y) := .lst hhq (th_list _)
    refine ⟨.ref a, rfl, a, _, rfl, .inl (.inl (hid_up _ _ hha)), rfl, _, _, rfl, _, _, rfl, _, _, rfl, rfl, ?_⟩
    -- the first ones
    have gE : Gv S [some (.ref l), some (.ref en), some (.ref a), some (.str b.s), some (.ref p), some (.ref q), none] H (tVar 3) (.str b.s) := gv_var rfl (.str b.s)
    have gX : Gv S [some (.ref l), some (.ref en), some (.ref a), some (.str b.s), some (.ref p), some (.ref q), none] H (tVar 4) (rowD b.x) := gv_var rfl tX0
    have gY : Gv S [some (.ref l), some (.ref en), some (.ref a), some (.str b.s), some (.ref p), some (.ref q), none] H (tVar 5) (rowD b.y) := gv_var rfl tY0
    have A1 := gv_tup (gva_cons gE (gva_cons (gv_catI (i := 0) gX (by omega)) (gva_cons gY gva_nil)))
    have A2 := gv_tup (gva_cons gE (gva_cons (gv_iniI (K := K) gX) (gva_cons gY gva_nil)))
    have A3 := gv_tup (gva_cons gE (gva_cons gX (gva_cons (gv_iniI (K := K) gY) gva_nil)))
    have A4 := gv_tup (gva_cons gE (gva_cons gX (gva_cons (gv_catI (i := 1) gY (by omega)) gva_nil)))
    have A5 := gv_tup (gva_cons gE (gva_cons gY (gva_cons gX gva_nil)))
    have A6 := gv_tup (gva_cons (gv_str (x := "late9")) (gva_cons gX (gva_cons gY gva_nil)))
    have A := gva_cons A1 (gva_cons A2 (gva_cons A3 (gva_cons A4 (gva_cons A5 (gva_cons A6 gva_nil)))))
    clear A1 A2 A3 A4 A5 A6
    refine nx_intro (asgS (lst_in (A H _ sm ins fun H1 xs s1 t1 => ?_)))
    refine ⟨by rw [t1.length]; exact small4 6, fun fd nfd => ?_⟩
    refine gset ?_
    have nf := (hs.same s1).new nfd
    have hf0 : H fd = none := s1.free nfd
    have S2 := same_new (o := .lst xs) nfd
    have s12 := s1.trans S2
    have E2 : ExtS l li H (upd H1 fd (.lst xs)) := same_S s12
    have sp2 := hs.same s12
    have I2 : Ins (fd :: S) (upd H1 fd (.lst xs)) := (ins.same s12).cons upd_same
    have hf2 := upd_same (H := H1) (a := fd) (o := .lst xs)
    have hen2 := s12 _ _ hen
    have tt2 : ThAll (Hid (fd :: S) (upd H1 fd (.lst xs))) xs (ob0 b) := t1.ext (hid_D m1 m2 nfd (same_S (l := l) (li := li) S2))
    have up := hid_D m1 m2 hf0 E2
    have tX2 := tX0.ext up
    have tY2 := tY0.ext up
    generalize upd H1 fd (.lst xs) = H2 at E2 sp2 I2 hf2 hen2 tt2 tX2 tY2 ⊢
    clear s12 S2 up A gE gX gY t1
    have nen : en ≠ fd := fun z => by rw [z, hf0] at hen; cases hen
    have mf : fd ∈ fd :: S := List.mem_cons_self ..
    have gE : Gv (fd :: S) [some (.ref l), some (.ref en), some (.ref a), some (.str b.s), some (.ref p), some (.ref q), some (.ref fd)] H2 (tVar 3) (.str b.s) := gv_var rfl (.str b.s)
    have gX : Gv (fd :: S) [some (.ref l), some (.ref en), some (.ref a), some (.str b.s), some (.ref p), some (.ref q), some (.ref fd)] H2 (tVar 4) (rowD b.x) := gv_var rfl tX2
    have gY : Gv (fd :: S) [some (.ref l), some (.ref en), some (.ref a), some (.str b.s), some (.ref p), some (.ref q), some (.ref fd)] H2 (tVar 5) (rowD b.y) := gv_var rfl tY2
    have A1 := gv_tup (gva_cons gE (gva_cons gX gva_nil))
    have A2 := gv_tup (gva_cons gE (gva_cons gX (gva_cons gY (gva_cons gY gva_nil))))
    have A3 := gv_tup (gva_cons gE (gva_cons (gv_catI (i := 2) gX (by omega)) (gva_cons gY gva_nil)))
    have A4 := gv_tup (gva_cons gE (gva_cons gX (gva_cons (gv_cat (y := [.bool true]) gY (gv_lst (gva_cons gv_bl gva_nil)) (by rw [List.length_map]; simp; omega)) gva_nil)))
    have A5 := gv_tup (gva_cons gE (gva_cons (gv_str (x := "0")) (gva_cons gY gva_nil)))
    have A6 := gv_tup (gva_cons gE (gva_cons gX (gva_cons gv_non gva_nil)))
    have A := gva_cons A1 (gva_cons A2 (gva_cons A3 (gva_cons A4 (gva_cons A5 (gva_cons A6 gva_nil)))))
    clear A1 A2 A3 A4 A5 A6 gE gX gY
    refine ext_step A rfl hf2 mf I2 tt2 (Nat.le_of_ble_eq_true rfl) fun H3 xs3 x3 hf3 I3 tt3 => ?_
    have sp3 := x3.spr nf.1 nf.2 sp2
    have E3 := Exc.ext E2 hf0 x3
    have hen3 := x3 _ _ hen2 nen
    have tX3 := tX2.ext (x3.hid mf)
    have tY3 := tY2.ext (x3.hid mf)
    clear A x3 tt2 I2 sp2 hf2 hen2 tX2 tY2
    have gE : Gv (fd :: S) [some (.ref l), some (.ref en), some (.ref a), some (.str b.s), some (.ref p), some (.ref q), some (.ref fd)] H3 (tVar 3) (.str b.s) := gv_var rfl (.str b.s)
    have gX : Gv (fd :: S) [some (.ref l), some (.ref en), some (.ref a), some (.str b.s), some (.ref p), some (.ref q), some (.ref fd)] H3 (tVar 4) (rowD b.x) := gv_var rfl tX3
    have gY : Gv (fd :: S) [some (.ref l), some (.ref en), some (.ref a), some (.str b.s), some (.ref p), some (.ref q), some (.ref fd)] H3 (tVar 5) (rowD b.y) := gv_var rfl tY3
    have A1 := gv_tup (gva_cons (gv_int (i := 5)) (gva_cons gX (gva_cons gY gva_nil)))
    have A2 := gv_tup (gva_cons (gv_lst (gva_cons gE gva_nil)) (gva_cons gX (gva_cons gY gva_nil)))
    have A3 := gv_tup (gva_cons gE (gva_cons gX (gva_cons (gv_lst (gva_cons gv_non gva_nil)) gva_nil)))
    have A4 := gv_tup (gva_cons gE (gva_cons (gv_lst (gva_cons (gv_lst (gva_cons (gv_int (i := 0)) gva_nil)) gva_nil)) (gva_cons gY gva_nil)))
    have A5 := gv_tup (gva_cons gE (gva_cons gX (gva_cons gY gva_nil)))
    have A := gva_cons A1 (gva_cons A2 (gva_cons A3 (gva_cons A4 (gva_cons A5 (gva_cons gv_non (gva_cons gE gva_nil))))))
    clear A1 A2 A3 A4 A5 gE gX gY
    refine ext_step A rfl hf3 mf I3 tt3 (Nat.le_of_ble_eq_true rfl) fun H4 xs4 x4 hf4 I4 tt4 => ?_
    have sp4 := x4.spr nf.1 nf.2 sp3
    have E4 := Exc.ext E3 hf0 x4
    have hen4 := x4 _ _ hen3 nen
    have tX4 := tX3.ext (x4.hid mf)
    have tY4 := tY3.ext (x4.hid mf)
    clear A x4 tt3 I3 sp3 hf3 hen3 tX3 tY3
    have m3 : l ∈ fd :: S := List.mem_cons_of_mem _ m1
    have m4 : li ∈ fd :: S := List.mem_cons_of_mem _ m2
    have l4 : xs4.length = 19 := tt4.length
    refine ⟨.ref l, rfl, .ref fd, rfl, .ref l, rfl, .ref en, rfl, l, li, en, c, ns.map V.str, rfl, sp4, hen4, n1, n2, by rw [List.length_map]; exact l0, by rw [List.length_map]; omega, by omega, fun H5 y e5 s5 my => ?_⟩
    obtain ⟨sy', hsy, rfl⟩ := List.mem_map.mp my
    have gy := List.all_eq_true.mp names_gd _ (hn _ hsy)
    have tX5 := tX4.ext (hid_S m3 m4 e5)
    have tY5 := tY4.ext (hid_S m3 m4 e5)
    have tt5 := tt4.ext (hid_S m3 m4 e5)
    have hf5 := e5 _ _ hf4 nf.1 nf.2
    have I5 := ins_S I4 e5 s5
    have E5 := E4.trans e5
    refine ⟨.ref p, rfl, .ref q, rfl, small4 3, fun tp ntp => ⟨small4 1, fun lp nlp => ?_⟩⟩
    have S6 := same_new (o := .tup [.str sy', .ref p, .ref q]) ntp
    have S7 := same_new (o := .lst [.ref tp]) nlp
    refine ⟨fd, lp, xs4, [.ref tp], rfl, rfl, S7 _ _ (S6 _ _ hf5), upd_same, by rw [l4]; exact small4 20, fun cp ncp => ?_⟩
    have S8 := same_new (o := .lst (xs4 ++ [.ref tp])) ncp
    have S68 := S6.trans (S7.trans S8)
    have nc := (s5.same (S6.trans S7)).new ncp
    have tL : ThAll (Hid (fd :: S) _) (xs4 ++ [.ref tp]) (((ob0 b ++ ob1 b) ++ ob2 b) ++ [.tuple [.str sy', rowD b.x, rowD b.y]]) := th_app (tt5.ext (hid_same S68)) (.cons (.tup (hid_of (I5.new ntp) ((S7.trans S8) _ _ upd_same) fun ps z => nomatch z) (.cons (.str sy') (.cons (tX5.ext (hid_same S68)) (.cons (tY5.ext (hid_same S68)) .nil)))) .nil)
    refine ⟨l, li, cp, c + 1, xs4 ++ [.ref tp], rfl, s5.same S68, upd_same, nc.1, nc.2, by simp, by rw [List.length_append, l4]; simp, by omega, fun H6 x e6 s6 mx => ?_⟩
    obtain ⟨z, hz, tz⟩ := thAll_mem tL mx
    have ec : c + 1 + 1 = c + 2 := by omega
    rw [ec] at s6
    refine k H6 x z ((E5.trans (same_S S68)).trans e6) s6 ((tz.ext (hid_S m3 m4 e6)).ext (hid_less fun b m => List.mem_cons_of_mem _ m)) ?_
    rcases List.mem_append.mp hz with hz | hz
    · rcases List.mem_append.mp hz with hz | hz
      · rcases List.mem_append.mp hz with hz | hz
        · exact ob0_ok hb he z hz
        · exact ob1_ok hb he z hz
      · exact ob2_ok hb he z hz
    · rw [List.mem_singleton.mp hz]
      exact okz_box gy (sx.mono (by decide)) (hb.sm.2.mono (by decide))
end
end K14.T27
namespace K14.T27
open PySem PySem.W PySem.Calls PyProof.Rows L2 LamX
open He (ga)
open Kz (SS ExtS ExtS.trans small4 same_new boot_in boot_li boot_isi Has pe_has noE PSs.of_eq seqI new_ext FnG HasG pe_hasG)
open K14.Gn
abbrev sBt : Stmt := topS 44
abbrev NBt : List Str := ["stream", "ends", "table", "lids", "road", "at", "side", "pair", "some"]
theorem scBt : FnScope NBt ["stream", "ends", "table", "lids"] (defScope sBt) := ⟨rfl, rfl, rfl, by decide +kernel, rfl, by decide +kernel, by decide +kernel⟩
theorem bdBt : defBody sBt = [stOf sBt 0, stOf sBt 1, stOf sBt 2] := by rfl
def ifB : Stmt → List Stmt
  | .If _ b _ _ => b
  | _ => []
/-- an item of a table, odd or not -/
structure TI (ns : List Str) (y : PyData) : Prop where
  a : OkA 4 200 y
  l : ∀ z ∈ its y, Law ns z
theorem okt_of {ns : List Str} {ds es : List PyData} (hd : ∀ y ∈ ds, TI ns y) (cd : cntA ds ≤ 490) (he : ∀ z ∈ es, OkZ ns z) (ce : cntA es ≤ 490) : OkT ns (.list ds) (.list es) := by
  refine OkT.of ⟨gdA_all.mpr fun y hy => (hd y hy).a.g, ?_, ?_⟩ ⟨gdA_all.mpr fun y hy => (he y hy).a.g, ?_, ?_⟩ (fun z hz => ?_) fun z hz => (he z hz).l
  · have := dep_le fun y hy => (hd y hy).a.d
    show PyData.depthAll ds + 1 ≤ 6
    omega
  · show 1 + cntA ds ≤ 500
    omega
  · have := dep_le fun y hy => (he y hy).a.d
    show PyData.depthAll es + 1 ≤ 6
    omega
  · show 1 + cntA es ≤ 500
    omega
  · obtain ⟨y, hy, hz⟩ := List.mem_flatMap.mp hz
    exact (hd y hy).l z hz
theorem bx_cnt {ns : List Str} {b : Bx} (h : LBx ns b) : cnt (bxD b) ≤ 15 := by
  have := h.l
  show 1 + (1 + (1 + cntA (b.x.map PyData.int) + (1 + cntA (b.y.map PyData.int) + 0))) ≤ 15
  rw [cntA_ints, cntA_ints]
  omega
section
variable {ns : List Str} (hn : ∀ s ∈ ns, s ∈ endNames)
include hn
theorem bx_okz {b : Bx} (h : LBx ns b) : OkZ ns (bxD b) := okz_box (List.all_eq_true.mp names_gd _ (hn _ h.s)) (h.sm.1.mono (by decide)) (h.sm.2.mono (by decide))
theorem pair_ti {zs : List PyData} (h : ∀ z ∈ zs, OkZ ns z) (l : zs.length ≤ 2) : TI ns (.tuple zs) := ⟨(oka_tup fun z hz => (h z hz).a).mono (by omega) (by omega), fun z hz => (h z hz).l⟩
theorem tb_ti {ps : List (Bx × Bx)} (h : ∀ b ∈ flatP ps, LBx ns b) : (∀ y ∈ ps.map prD, TI ns y) ∧ cntA (ps.map prD) ≤ 31 * ps.length := by
  have hp : ∀ p ∈ ps, LBx ns p.1 ∧ LBx ns p.2 := fun p hp => ⟨h _ (List.mem_flatMap.mpr ⟨p, hp, by simp⟩), h _ (List.mem_flatMap.mpr ⟨p, hp, by simp⟩)⟩
  refine ⟨fun y hy => ?_, ?_⟩
  · obtain ⟨p, hm, rfl⟩ := List.mem_map.mp hy
    exact pair_ti hn (forall_c (bx_okz hn (hp p hm).1) (forall_c (bx_okz hn (hp p hm).2) forall_n)) (by simp)
  · rw [← List.length_map (f := prD) (as := ps)]
    refine cntA_le fun y hy => ?_
    obtain ⟨p, hm, rfl⟩ := List.mem_map.mp hy
    have h1 := bx_cnt (hp p hm).1
    have h2 := bx_cnt (hp p hm).2
    show 1 + (cnt (bxD p.1) + (cnt (bxD p.2) + 0)) ≤ 31
    omega
theorem ld_okz {bs : List Bx} (h : ∀ b ∈ bs, LBx ns b) : (∀ z ∈ bs.map bxD, OkZ ns z) ∧ cntA (bs.map bxD) ≤ 15 * bs.length := by
  refine ⟨fun z hz => ?_, ?_⟩
  · obtain ⟨b, hb, rfl⟩ := List.mem_map.mp hz
    exact bx_okz hn (h b hb)
  · rw [← List.length_map (f := bxD) (as := bs)]
    refine cntA_le fun y hy => ?_
    obtain ⟨b, hb, rfl⟩ := List.mem_map.mp hy
    exact bx_cnt (h b hb)
theorem tb_gd {ps : List (Bx × Bx)} (h : ∀ b ∈ flatP ps, LBx ns b) (e : Bool) : gd e (tbD ps) = true := gdA_all.mpr fun y hy => by
  obtain ⟨p, hp, rfl⟩ := List.mem_map.mp hy
  show (gd e (bxD p.1) && (gd e (bxD p.2) && true)) = true
  rw [bx_gd hn (h _ (List.mem_flatMap.mpr ⟨p, hp, by simp⟩)) e, bx_gd hn (h _ (List.mem_flatMap.mpr ⟨p, hp, by simp⟩)) e]
  rfl
end
theorem tb_dep (ps : List (Bx × Bx)) : PyData.depth (tbD ps) ≤ 4 := by
  have : PyData.depthAll (ps.map prD) ≤ 3 := dep_le fun y hy => by
    obtain ⟨p, hp, rfl⟩ := List.mem_map.mp hy
    show max (PyData.depth (bxD p.1)) (max (PyData.depth (bxD p.2)) 0) + 1 ≤ 3
    rw [bx_dep, bx_dep]
    decide
  show PyData.depthAll (ps.map prD) + 1 ≤ 4
  omega
theorem thAll_set {H : Hp} {v : V} {z : PyData} (t : Th H v z) : ∀ {vs : List V} {zs : List PyData} (i : Nat), ThAll H vs zs → ThAll H (vs.set i v) (zs.set i z)
  | _, _, _, .nil => .nil
  | _, _, 0, .cons _ r => .cons t r
  | _, _, i + 1, .cons a r => .cons a (thAll_set t i r)
theorem mem_set_or {α : Type} {p : α → Prop} {z : α} (hz : p z) : ∀ {zs : List α} (i : Nat), (∀ x ∈ zs, p x) → ∀ x ∈ zs.set i z, p x := fun i h x hx => (List.mem_or_eq_of_mem_set hx).elim (h x) fun e => by rw [e]; exact hz
theorem and_split {tA tB : TT} {σ : L2.St} {H : Hp} {X Y : Hp → Prop} (Ok : Hp → Prop) (y : ∀ G, Ok G → Y G) (k : (∀ G, Ok G → Y G) → tAnd tA tB σ H fun c G => if c = true then X G else Y G) : tAnd tA tB σ H fun c G => if c = true then X G else Y G := k y
theorem if_intro {tc : TT} {A B : TS} {D : Ends} {σ : L2.St} {H : Hp} (h : tc σ H fun c G => if c = true then A D σ G else B D σ G) : tIfS tc A B D σ H := h
theorem cntA_ins (xs : List PyData) (i : Nat) (y : PyData) : cntA (xs.take i ++ [y] ++ xs.drop i) = cntA xs + cnt y := by
  rw [cntA_app, cntA_app]
  have e : cntA (xs.take i) + cntA (xs.drop i) = cntA xs := by rw [← cntA_app, List.take_append_drop]
  have e2 : cntA [y] = cnt y + 0 := by rfl
  omega
theorem mem_ins {α : Type} {p : α → Prop} {z : α} (hz : p z) {zs : List α} (i : Nat) (h : ∀ x ∈ zs, p x) : ∀ x ∈ zs.take i ++ [z] ++ zs.drop i, p x := fun x hx => by
  rcases List.mem_append.mp hx with hx | hx
  · rcases List.mem_append.mp hx with hx | hx
    · exact h x (List.mem_of_mem_take hx)
    · rw [List.mem_singleton.mp hx]; exact hz
  · exact h x (List.mem_of_mem_drop hx)
theorem thAll_ins {H : Hp} {v : V} {z : PyData} (t : Th H v z) {vs : List V} {zs : List PyData} (i : Nat) (r : ThAll H vs zs) : ThAll H (vs.take i ++ [v] ++ vs.drop i) (zs.take i ++ [z] ++ zs.drop i) := th_app (th_app (thAll_take r) (.cons t .nil)) (thAll_drop r)
theorem ixn {n j : Nat} (hj : j < n) : ixN n (j : Int) = some j := by
  unfold ixN
  rw [if_pos (by omega), if_pos (by omega)]
  simp
/-- two lists that are changed, and what they hold -/
structure Bs (l li en t1 l1 : Addr) (ns : List Str) (H : Hp) (S : List Addr) (c : Int) (xs ys : List V) (ds es : List PyData) (G : Hp) : Prop where
  a1 : G t1 = some (.lst xs)
  a2 : G l1 = some (.lst ys)
  a3 : ThAll (Hid S G) xs ds
  a4 : ThAll (Hid S G) ys es
  sp : Spr G l li c
  E : ExtS l li H G
  I : Ins S G
  en : G en = some (.lst (ns.map V.str))
/-- where they are -/
structure Pl (l li en t1 l1 : Addr) (H : Hp) : Prop where
  t : t1 ≠ l ∧ t1 ≠ li
  u : l1 ≠ l ∧ l1 ≠ li
  e : en ≠ l ∧ en ≠ li
  tu : l1 ≠ t1
  et : en ≠ t1 ∧ en ≠ l1
  n1 : H t1 = none
  n2 : H l1 = none
section
variable {l li en t1 l1 : Addr} {ns : List Str} {H G G' : Hp} {S : List Addr} {c c' : Int} {xs ys : List V} {ds es : List PyData}
theorem Bs.ext (B : Bs l li en t1 l1 ns H S c xs ys ds es G) (p : Pl l li en t1 l1 H) (m1 : l ∈ S) (m2 : li ∈ S) (e : ExtS l li G G') (s : Spr G' l li c') : Bs l li en t1 l1 ns H S c' xs ys ds es G' :=
  ⟨e _ _ B.a1 p.t.1 p.t.2, e _ _ B.a2 p.u.1 p.u.2, B.a3.ext (hid_S m1 m2 e), B.a4.ext (hid_S m1 m2 e), s, B.E.trans e, ins_S B.I e s, e _ _ B.en p.e.1 p.e.2⟩
theorem Bs.same (B : Bs l li en t1 l1 ns H S c xs ys ds es G) (p : Pl l li en t1 l1 H) (m1 : l ∈ S) (m2 : li ∈ S) (e : L2.Same G G') : Bs l li en t1 l1 ns H S c xs ys ds es G' := B.ext p m1 m2 (same_S e) (B.sp.same e)
theorem Bs.push {D : Addr} {o : HO} (B : Bs l li en t1 l1 ns H S c xs ys ds es G) (p : Pl l li en t1 l1 H) (m1 : l ∈ S) (m2 : li ∈ S) (n : G D = none) : Bs l li en t1 l1 ns H (D :: S) c xs ys ds es (upd G D o) := by
  have e := same_new (o := o) n
  have b := B.same p m1 m2 e
  have h := hid_D m1 m2 n (same_S (l := l) (li := li) e)
  exact ⟨b.a1, b.a2, B.a3.ext h, B.a4.ext h, b.sp, b.E, b.I.cons upd_same, b.en⟩
theorem Bs.put {D : Addr} {o : HO} (B : Bs l li en t1 l1 ns H S c xs ys ds es G) (m : D ∈ S) (nl : D ≠ l) (nli : D ≠ li) (nt : t1 ≠ D) (nu : l1 ≠ D) (ne : en ≠ D) (n : H D = none) : Bs l li en t1 l1 ns H S c xs ys ds es (upd G D o) :=
  ⟨by rw [upd_ne nt]; exact B.a1, by rw [upd_ne nu]; exact B.a2, B.a3.ext (hid_upd m), B.a4.ext (hid_upd m), B.sp.upd nl nli, Exc.ext B.E n Exc.upd, B.I.upd, by rw [upd_ne ne]; exact B.en⟩
theorem Bs.setT {xs' : List V} {ds' : List PyData} (B : Bs l li en t1 l1 ns H S c xs ys ds es G) (p : Pl l li en t1 l1 H) (m : t1 ∈ S) (t : ThAll (Hid S G) xs' ds') : Bs l li en t1 l1 ns H S c xs' ys ds' es (upd G t1 (.lst xs')) :=
  ⟨upd_same, by rw [upd_ne p.tu]; exact B.a2, t.ext (hid_upd m), B.a4.ext (hid_upd m), B.sp.upd p.t.1 p.t.2, Exc.ext B.E p.n1 Exc.upd, B.I.upd, by rw [upd_ne p.et.1]; exact B.en⟩
theorem Bs.setL {ys' : List V} {es' : List PyData} (B : Bs l li en t1 l1 ns H S c xs ys ds es G) (p : Pl l li en t1 l1 H) (m : l1 ∈ S) (t : ThAll (Hid S G) ys' es') : Bs l li en t1 l1 ns H S c xs ys' ds es' (upd G l1 (.lst ys')) :=
  ⟨by rw [upd_ne p.tu.symm]; exact B.a1, upd_same, B.a3.ext (hid_upd m), t.ext (hid_upd m), B.sp.upd p.u.1 p.u.2, Exc.ext B.E p.n2 Exc.upd, B.I.upd, by rw [upd_ne p.et.2]; exact B.en⟩
theorem ne_nil {K : Frag} {i : Nat} {a : Addr} {σ : L2.St} {Q : Bool → Hp → Prop} (e : σ[i]? = some (some (.ref a))) (h : G a = some (.lst xs)) (t : ThAll (Hid S G) xs ds) (g : gdA false ds = true) (d : PyData.depth (.list ds) ≤ 64) (k : ∀ p, G p = none → Q (!ds.isEmpty) (upd G p (.lst []))) : tTest (tOp (rNeD K) (tVar i) (tLst tNil)) σ G Q :=
  ⟨.ref a, e, Nat.zero_le _, fun p np => ⟨.list ds, .list [], .lst (.inl (.inl (same_new np _ _ h))) (ThAll.dp ((t.ext hid_up).ext (same_new np)) g), .lst (.inl (.inl upd_same)) .nil, gd_shaped (show gd false (.list ds) = true from g) d, rfl, _, rfl, by
    have : PyData.eqv (.list ds) (.list []) = ds.isEmpty := by cases ds <;> rfl
    rw [this]
    exact k p np⟩⟩
end
section
variable {P : Program} {w : World} {K : Frag} {mg : Str → Option Value} {base : Heap}
def spBt : Sp := fun vs H Q _ => ∃ (l li en : Addr) (c : Int) (ns : List Str) (v u : V) (ps : List (Bx × Bx)) (bs : List Bx), vs = [.ref l, .ref en, v, u] ∧ Spr H l li c ∧ H en = some (.lst (ns.map V.str)) ∧ en ≠ l ∧ en ≠ li ∧ 0 < ns.length ∧ ns.length ≤ 16 ∧ (∀ s ∈ ns, s ∈ endNames) ∧ Th (Hid [l, li] H) v (tbD ps) ∧ Th (Hid [l, li] H) u (ldD bs) ∧ (∀ b ∈ flatP ps ++ bs, LBx ns b) ∧ ps.length ≤ 6 ∧ bs.length ≤ 12 ∧ c < 880000000 ∧
  ∀ (H' : Hp) (r : Addr) (v' u' : V) (d e : PyData) (c' : Int), ExtS l li H H' → Spr H' l li c' → c' ≤ c + 10 → (Hid [l, li] H') r = some (.tup [v', u']) → Th (Hid [l, li] H') v' d → Th (Hid [l, li] H') u' e → OkT ns d e → Q (.ref r) H'
theorem ok_bt {f : Addr} {fd : FuncData} (F : FunD K "_law_bent" "_law_bent" (defArgs sBt) (defBody sBt) (defScope sBt) [] [] f fd) (DR : Has P w K mg base "_law_draw" 1 ["stream", "many"] spDrW) (PK : Has P w K mg base "_law_pick" 2 ["stream", "some"] spPk) (BB : Has P w K mg base "_law_bent_box" 3 ["stream", "ends", "box"] spBb)
    (ml : mg "list" = none) (mn : mg "len" = none) (mt : mg "tuple" = none) : FnOk P w K mg base CX0 4 f fd ["stream", "ends", "table", "lids"] spBt := by
  refine F.ok scBt (fun vs H Q E h => ?_) (fun cdv A outer s H vs Q XE hr h => ?_)
  · obtain ⟨l, li, en, c, ns, v, u, ps, bs, rfl, _⟩ := h
    rfl
  · obtain ⟨l, li, en, c, ns, v, u, ps, bs, rfl, hs, hen, n1, n2, l0, l16, hn, hv, hu, hb, lp, lb, hc, k⟩ := h
    have hr1 := hr.mono (show 1 ≤ 3 by decide)
    have hr2 := hr.mono (show 2 ≤ 3 by decide)
    have h0 : PS (cxOf CX0 P w K mg base NBt "_law_bent" (defScope sBt) f cdv A outer s H XE).nox (stOf sBt 0) _ := ps_par3 (i := 4) (j := 2) (l := 3) rfl scBt.nd rfl rfl rfl (by decide) (by decide) (by decide) rfl rfl rfl (pa_cons (pe_has DR hr1 (by rfl) (pa_cons (pv 0) (pa_cons pe_int pa_nil))) (pa_cons (pe_callTy call_list_of (by rfl) ml boot_li (pa_cons (pv 2) pa_nil)) (pa_cons (pe_callTy call_list_of (by rfl) ml boot_li (pa_cons (pv 3) pa_nil)) pa_nil))) (by rfl)
    have ha0 : PS (cxOf CX0 P w K mg base NBt "_law_bent" (defScope sBt) f cdv A outer s H XE).nox ((ifB (stOf sBt 1)).getD 0 (stOf sBt 2)) _ := ps_par (i := 5) (j := 6) rfl scBt.nd rfl rfl (by decide) rfl rfl (pa_cons (pe_has DR hr1 (by rfl) (pa_cons (pv 0) (pa_cons (pe_callB call_len_seq (by rfl) mn boot_len (pa_cons (pv 2) pa_nil)) pa_nil))) (pa_cons (pe_has DR hr1 (by rfl) (pa_cons (pv 0) (pa_cons pe_int pa_nil))) pa_nil)) (by rfl)
    have ha1 : PS (cxOf CX0 P w K mg base NBt "_law_bent" (defScope sBt) f cdv A outer s H XE).nox ((ifB (stOf sBt 1)).getD 1 (stOf sBt 2)) _ := ps_set (i := 7) scBt.nd rfl (.inl rfl) (pe_callTy call_list_of (by rfl) ml boot_li (pa_cons (pe_ix ix_seq (pv 2) (pv 5) (fun _ _ => rfl)) pa_nil))
    have ha2 : PS (cxOf CX0 P w K mg base NBt "_law_bent" (defScope sBt) f cdv A outer s H XE).nox ((ifB (stOf sBt 1)).getD 2 (stOf sBt 2)) _ := ps_asg (pe_has BB hr (by rfl) (pa_cons (pv 0) (pa_cons (pv 1) (pa_cons (pe_ix ix_seq (pv 7) (pv 6) (fun _ _ => rfl)) pa_nil)))) (pg_sub (pv 7) (pv 6) set_list)
    have ha3 : PS (cxOf CX0 P w K mg base NBt "_law_bent" (defScope sBt) f cdv A outer s H XE).nox ((ifB (stOf sBt 1)).getD 3 (stOf sBt 2)) _ := ps_asg (pe_callTy call_tuple_of (by rfl) mt boot_tu (pa_cons (pv 7) pa_nil)) (pg_sub (pv 2) (pv 5) set_list)
    have h1 : PS (cxOf CX0 P w K mg base NBt "_law_bent" (defScope sBt) f cdv A outer s H XE).nox (stOf sBt 1) _ := ps_if (pw_and (pt_cmpR op_lt (pv 4) pe_int (nomark _)) (pw_and1 (pt_cmpR (op_neD hr.units) (pv 2) (pe_lst pa_nil) (nomark _)))).pt
      (pss_cons ha0 (pss_cons ha1 (pss_cons ha2 (pss_one ha3))))
      (pss_one (ps_if (pw_and (pt_cmpR op_lt (pv 4) pe_int (nomark _)) (pw_and1 (pt_cmpR (op_neD hr.units) (pv 3) (pe_lst pa_nil) (nomark _)))).pt
        (pss_cons (ps_set (i := 5) scBt.nd rfl (.inl rfl) (pe_has DR hr1 (by rfl) (pa_cons (pv 0) (pa_cons (pe_callB call_len_seq (by rfl) mn boot_len (pa_cons (pv 3) pa_nil)) pa_nil))))
          (pss_one (ps_asg (pe_has BB hr (by rfl) (pa_cons (pv 0) (pa_cons (pv 1) (pa_cons (pe_ix ix_seq (pv 3) (pv 5) (fun _ _ => rfl)) pa_nil)))) (pg_sub (pv 3) (pv 5) set_list))))
        (pss_one (ps_if (pw_and (pt_cmpR op_eq (pv 4) pe_int (nomark _)) (pw_and1 (pt_cmpR (op_neD hr.units) (pv 2) (pe_lst pa_nil) (nomark _)))).pt
          (pss_one (ps_expr (pe_bm PySem.F.plainAttrs_list PySem.F.slot_list_append PySem.F.type_list_append mt_append (pv 3) (pa_cons (pe_ix ix_seq (pe_has PK hr2 (by rfl) (pa_cons (pv 0) (pa_cons (pv 2) pa_nil))) pe_int (fun _ _ => rfl)) pa_nil))))
          (pss_one (ps_if (pt_cmpR op_eq (pv 4) pe_int (nomark _))
            (pss_cons (ps_set (i := 8) scBt.nd rfl (.inl rfl) (pe_lst (pa_cons pe_non (pa_cons (pe_tup pa_nil) (pa_cons (pe_lst pa_nil) (pa_cons pe_int (pa_cons pe_str (pa_cons (pe_tup (pa_cons (pe_tup pa_nil) (pa_cons (pe_tup pa_nil) pa_nil))) (pa_cons (pe_tup (pa_cons pe_dnewK (pa_cons pe_dnewK pa_nil))) (pa_cons (pe_tup (pa_cons pe_int pa_nil)) pa_nil))))))))))
              (pss_one (ps_expr (pe_bm PySem.F.plainAttrs_list PySem.F.slot_list_insert PySem.F.type_list_insert mt_insert (pv 2) (pa_cons (pe_has DR hr1 (by rfl) (pa_cons (pv 0) (pa_cons (pe_op op_add (pe_callB call_len_seq (by rfl) mn boot_len (pa_cons (pv 2) pa_nil)) pe_int) pa_nil))) (pa_cons (pe_has PK hr2 (by rfl) (pa_cons (pv 0) (pa_cons (pv 8) pa_nil))) pa_nil))))))
            (pss_one (ps_expr (pe_bm PySem.F.plainAttrs_list PySem.F.slot_list_insert PySem.F.type_list_insert mt_insert (pv 3) (pa_cons (pe_has DR hr1 (by rfl) (pa_cons (pv 0) (pa_cons (pe_op op_add (pe_callB call_len_seq (by rfl) mn boot_len (pa_cons (pv 3) pa_nil)) pe_int) pa_nil))) (pa_cons (pe_has PK hr2 (by rfl) (pa_cons (pv 0) (pa_cons (pe_lst (pa_cons pe_non (pa_cons (pe_tup pa_nil) (pa_cons pe_int (pa_cons pe_str (pa_cons pe_dnewK (pa_cons (pe_lst (pa_cons (pe_lst pa_nil) pa_nil)) (pa_cons (pe_tup (pa_cons pe_int (pa_cons pe_int (pa_cons pe_int pa_nil)))) pa_nil)))))))) pa_nil))) pa_nil)))))))))))
    have h2 : PS (cxOf CX0 P w K mg base NBt "_law_bent" (defScope sBt) f cdv A outer s H XE).nox (stOf sBt 2) _ := ps_ret (pe_tup (pa_cons (pv 2) (pa_cons (pv 3) pa_nil)))
    refine ⟨_, PSs.nox (PSs.of_eq bdBt (pss_cons h0 (pss_cons h1 (pss_one h2)))), ?_⟩
    clear h0 h1 h2 ha0 ha1 ha2 ha3
    have sm : ∀ {G : Hp}, L2.Same G G := fun _ _ e => e
    have bP : ∀ b ∈ flatP ps, LBx ns b := fun b m => hb b (List.mem_append_left _ m)
    have bL : ∀ b ∈ bs, LBx ns b := fun b m => hb b (List.mem_append_right _ m)
    obtain ⟨ti0, ct0⟩ := tb_ti hn bP
    obtain ⟨oz0, cl0⟩ := ld_okz hn bL
    have gT : gdA false (ps.map prD) = true := tb_gd hn bP false
    have gL : gdA false (bs.map bxD) = true := ld_gd hn bL false
    have dT := tb_dep ps
    have dL := ld_dep bs
    unfold tbD at hv dT
    unfold ldD at hu dL
    have m1 : l ∈ [l, li] := by simp
    have m2 : li ∈ [l, li] := by simp
    cases hv with
    | @lst ta xs _ hta rx =>
      cases hu with
      | @lst la ys _ hla ry =>
        refine ⟨.ref l, rfl, l, li, c, 8, rfl, hs, by decide, by decide, by omega, fun H1 road e1 s1 r0 r1 => ?_⟩
        have hta1 := (hid_S m1 m2 e1) _ _ hta
        have hla1 := (hid_S m1 m2 e1) _ _ hla
        refine ⟨.ref ta, rfl, ta, xs, rfl, .inl (.inl (.inl (hid_up _ _ hta1))), fun t1 nt1 => ⟨.ref la, rfl, la, ys, rfl, .inl (.inl (.inl (same_new nt1 _ _ (hid_up _ _ hla1)))), fun l1 nl1 => ⟨_, _, _, rfl, ?_⟩⟩⟩
        have S2 := same_new (o := .lst xs) nt1
        have S3 := same_new (o := .lst ys) nl1
        have nt := s1.new nt1
        have nl := (s1.same S2).new nl1
        have E1 : ExtS l li H (upd H1 t1 (.lst xs)) := e1.trans (same_S S2)
        have ht0 : H t1 = none := ext_none e1 nt1 nt.1 nt.2
        have hl0 : H l1 = none := ext_none E1 nl1 nl.1 nl.2
        have ne : l1 ≠ t1 := fun z => by rw [z, upd_same] at nl1; cases nl1
        have pl : Pl l li en t1 l1 H := ⟨nt, nl, ⟨n1, n2⟩, ne, ⟨fun z => (by rw [z, ht0] at hen; exact nomatch hen), fun z => (by rw [z, hl0] at hen; exact nomatch hen)⟩, ht0, hl0⟩
        have up1 := hid_D m1 m2 ht0 E1
        have up2 := hid_D (l := l) (li := li) (S := [t1, l, li]) (by simp) (by simp) nl1 (same_S (l := l) (li := li) S3)
        have B : Bs l li en t1 l1 ns H [l1, t1, l, li] (c + 1) xs ys (ps.map prD) (bs.map bxD) (upd (upd H1 t1 (.lst xs)) l1 (.lst ys)) :=
          ⟨S3 _ _ upd_same, upd_same, (rx.ext up1).ext up2, (ry.ext up1).ext up2, (s1.same S2).same S3, E1.trans (same_S S3), (((s1.same S2).same S3).ins.cons (S3 _ _ upd_same)).cons upd_same, S3 _ _ (S2 _ _ (e1 en _ hen n1 n2))⟩
        generalize upd (upd H1 t1 (.lst xs)) l1 (.lst ys) = H2 at B ⊢
        clear up1 up2 S2 S3 E1 nt1 nl1 hta1 hla1 e1 s1 rx ry hta hla nt nl ht0 hl0 ne
        have ml0 : l ∈ [l1, t1, l, li] := by simp
        have mli0 : li ∈ [l1, t1, l, li] := by simp
        have fin : ∀ {σ : L2.St} {G : Hp} {S : List Addr} {xs ys : List V} {ds es : List PyData} {c' : Int}, Bs l li en t1 l1 ns H S c' xs ys ds es G → σ[2]? = some (some (.ref t1)) → σ[3]? = some (some (.ref l1)) → l ∈ S → li ∈ S → c' ≤ c + 10 → (∀ y ∈ ds, TI ns y) → cntA ds ≤ 490 → (∀ z ∈ es, OkZ ns z) → cntA es ≤ 490 → tRet (tTup (tCons (tVar 2) (tCons (tVar 3) tNil))) { nx := fun _ H' => Q V.non H', rt := Q } σ G := by
          intro σ G S xs ys ds es c' B g2 g3 m3 m4 cb hd cd he ce
          refine ⟨.ref t1, g2, .ref l1, g3, small4 2, fun rr nr => ?_⟩
          have S4 := same_new (o := .tup [.ref t1, .ref l1]) nr
          have less : L2.Same (Hid S G) (Hid [l, li] G) := hid_less fun b m => by
            rcases List.mem_cons.mp m with rfl | m
            · exact m3
            · rw [List.mem_singleton.mp m]; exact m4
          have h2 : ∀ {x : Addr}, x ≠ l ∧ x ≠ li → x ∉ [l, li] := fun h => by simp [h.1, h.2]
          exact k _ rr (.ref t1) (.ref l1) (.list ds) (.list es) c' (B.E.trans (same_S S4)) (B.sp.same S4) cb (hid_of (h2 (B.sp.new nr)) upd_same fun ps z => nomatch z) (.lst (hid_of (h2 pl.t) (S4 _ _ B.a1) fun ps z => nomatch z) ((B.a3.ext less).ext (hid_same S4))) (.lst (hid_of (h2 pl.u) (S4 _ _ B.a2) fun ps z => nomatch z) ((B.a4.ext less).ext (hid_same S4))) (okt_of hd cd he ce)
        have lxs : xs.length = ps.length := by rw [B.a3.length, List.length_map]
        have lys : ys.length = bs.length := by rw [B.a4.length, List.length_map]
        have eT : ∀ {q : List (Bx × Bx)}, (!(q.map prD).isEmpty) = !q.isEmpty := fun {q} => by cases q <;> rfl
        have eL : ∀ {q : List Bx}, (!(q.map bxD).isEmpty) = !q.isEmpty := fun {q} => by cases q <;> rfl
        have ty0 : ∀ {z : PyData} {ds : List PyData}, TI ns z → cntA ds ≤ 31 * ps.length → cntA ds + cnt z ≤ 490 := fun h c => by
          have := h.a.c
          omega
        have oz1 : ∀ {z : PyData} {ds : List PyData}, OkZ ns z → cntA ds ≤ 15 * bs.length → cntA ds + cnt z ≤ 490 := fun h c => by
          have := h.a.c
          omega
        refine nx_intro (ifS_intro ?_)
        refine and_split (fun G => Bs l li en t1 l1 ns H [l1, t1, l, li] (c + 1) xs ys (ps.map prD) (bs.map bxD) G) (fun G B => ?_) (fun els => ?_)
        rotate_left
        · refine ⟨.int road, rfl, road, 3, rfl, rfl, _, rfl, ite2 (fun _ => ?_) (fun _ => iteF (els _ B))⟩
          refine ne_nil rfl B.a1 B.a3 gT (Nat.le_trans dT (by decide)) fun p np => ?_
          have B := B.same pl ml0 mli0 (same_new (o := .lst []) np)
          generalize upd H2 p (.lst []) = G at B ⊢
          rw [eT]
          cases q : ps.isEmpty with
          | true => exact iteF (els _ B)
          | false =>
            refine iteT ?_
            clear els
            have p0 : 0 < ps.length := by
              cases ps with
              | nil => cases q
              | cons _ _ => simp
            refine ⟨.ref l, rfl, .ref t1, rfl, t1, xs, rfl, .inl (.inl (.inl B.a1)), l, li, c + 1, (xs.length : Nat), rfl, B.sp, by omega, by omega, by omega, fun G1 r e1 s1 r0 r1 => ⟨.ref l, rfl, l, li, _, 2, rfl, s1, by decide, by decide, by omega, fun G2 r' e2 s2 q0 q1 => ⟨_, _, rfl, ?_⟩⟩⟩
            obtain ⟨k0, rfl⟩ : ∃ n : Nat, r = (n : Nat) := ⟨r.toNat, by omega⟩
            obtain ⟨j, rfl⟩ : ∃ n : Nat, r' = (n : Nat) := ⟨r'.toNat, by omega⟩
            have B := (B.ext pl ml0 mli0 e1 s1).ext pl ml0 mli0 e2 s2
            have kx : k0 < xs.length := by omega
            have kp : k0 < ps.length := by omega
            have jl : j < 2 := by omega
            obtain ⟨z0, hz0, tz⟩ := B.a3.get (List.getElem?_eq_getElem kx)
            rw [List.getElem?_map, List.getElem?_eq_getElem kp] at hz0
            obtain rfl := Option.some.inj hz0
            have okp : ∀ z ∈ [bxD ps[k0].1, bxD ps[k0].2], ∃ b, z = bxD b ∧ LBx ns b := forall_c ⟨_, rfl, bP _ (List.mem_flatMap.mpr ⟨_, List.getElem_mem kp, by simp⟩)⟩ (forall_c ⟨_, rfl, bP _ (List.mem_flatMap.mpr ⟨_, List.getElem_mem kp, by simp⟩)⟩ forall_n)
            obtain ⟨pa, vs2, epa, rv, hpa⟩ := Th.seq (K := K) tz rfl
            have rv : ThAll (Hid [l1, t1, l, li] G2) vs2 [bxD ps[k0].1, bxD ps[k0].2] := rv
            have hpa' : G2 pa = some (.lst vs2) ∨ G2 pa = some (.tup vs2) := hpa.elim (fun h => .inl (hid_up _ _ h)) fun h => .inr (hid_up _ _ h)
            have lv2 : vs2.length = 2 := rv.length
            refine ⟨.ref t1, rfl, .int (k0 : Nat), rfl, ix_at k0 B.a1 (List.getElem?_eq_getElem kx) ⟨pa, vs2, by rw [epa], sl_of hpa', fun pq npq => ?_⟩⟩
            refine gset ?_
            have nq := B.sp.new npq
            have hq0 : H pq = none := ext_none B.E npq nq.1 nq.2
            have nqt : t1 ≠ pq := fun z => by rw [← z, B.a1] at npq; cases npq
            have nql : l1 ≠ pq := fun z => by rw [← z, B.a2] at npq; cases npq
            have nqe : en ≠ pq := fun z => by rw [← z, B.en] at npq; cases npq
            have rv3 := rv.ext (hid_D (l := l) (li := li) (D := pq) ml0 mli0 npq (same_S (same_new (o := .lst vs2) npq)))
            have B3 := B.push (o := .lst vs2) pl ml0 mli0 npq
            have hq3 := upd_same (H := G2) (a := pq) (o := .lst vs2)
            generalize upd G2 pq (.lst vs2) = G3 at rv3 B3 hq3 ⊢
            have mq : pq ∈ pq :: [l1, t1, l, li] := List.mem_cons_self ..
            have mt1 : t1 ∈ pq :: [l1, t1, l, li] := by simp
            have ml3 := List.mem_cons_of_mem pq ml0
            have mli3 := List.mem_cons_of_mem pq mli0
            have jv : j < vs2.length := by omega
            obtain ⟨zj, hzj, tj⟩ := rv3.get (List.getElem?_eq_getElem jv)
            obtain ⟨bj, rfl, lbj⟩ := okp zj (List.mem_of_getElem? hzj)
            refine ⟨.ref l, rfl, .ref en, rfl, .ref pq, rfl, .int (j : Nat), rfl, ix_at j hq3 (List.getElem?_eq_getElem jv) ⟨pq :: [l1, t1, l, li], l, li, en, _, ns, vs2[j], bj, rfl, ml3, mli3, B3.I, B3.sp, B3.en, n1, n2, l0, l16, hn, tj, lbj, by omega, fun G4 v' z e4 s4 tz4 oz => ?_⟩⟩
            have B4 := B3.ext pl ml3 mli3 e4 s4
            have rv4 := rv3.ext (hid_S ml3 mli3 e4)
            have hq4 := e4 _ _ hq3 nq.1 nq.2
            refine ⟨.ref pq, rfl, .int (j : Nat), rfl, pq, vs2, (j : Nat), j, rfl, rfl, hq4, ixn jv, ?_⟩
            have B5 := B4.put (o := .lst (vs2.set j v')) mq nq.1 nq.2 nqt nql nqe hq0
            have rv5 : ThAll (Hid (pq :: [l1, t1, l, li]) (upd G4 pq (.lst (vs2.set j v')))) (vs2.set j v') ([bxD ps[k0].1, bxD ps[k0].2].set j z) := (thAll_set tz4 j rv4).ext (hid_upd mq)
            have hq5 := upd_same (H := G4) (a := pq) (o := .lst (vs2.set j v'))
            generalize upd G4 pq (.lst (vs2.set j v')) = G5 at rv5 B5 hq5 ⊢
            refine ⟨.ref pq, rfl, pq, _, rfl, .inl ⟨.inl (.inl hq5), fun tp ntp => ?_⟩⟩
            have S6 := same_new (o := .tup (vs2.set j v')) ntp
            have B6 := B5.same pl ml3 mli3 S6
            have tt6 : Th (Hid (pq :: [l1, t1, l, li]) (upd G5 tp (.tup (vs2.set j v')))) (.ref tp) (.tuple ([bxD ps[k0].1, bxD ps[k0].2].set j z)) := .tup (hid_of (B5.I.new ntp) upd_same fun ps z => nomatch z) (rv5.ext (hid_same S6))
            generalize upd G5 tp (.tup (vs2.set j v')) = G6 at tt6 B6 ⊢
            refine ⟨.ref t1, rfl, .int (k0 : Nat), rfl, t1, xs, (k0 : Nat), k0, rfl, rfl, B6.a1, ixn kx, ?_⟩
            have B7 := B6.setT pl mt1 (thAll_set tt6 k0 B6.a3)
            have ti : TI ns (.tuple ([bxD ps[k0].1, bxD ps[k0].2].set j z)) := pair_ti hn (mem_set_or oz j fun z' hz' => by
              obtain ⟨b, rfl, hb⟩ := okp z' hz'
              exact bx_okz hn hb) (by simp)
            exact fin B7 rfl rfl ml3 mli3 (by omega) (mem_set_or ti k0 ti0) (Nat.le_trans (cntA_set _ _ _) (ty0 ti ct0)) oz0 (by omega)
        · refine if_intro (and_split (fun G => Bs l li en t1 l1 ns H [l1, t1, l, li] (c + 1) xs ys (ps.map prD) (bs.map bxD) G) (fun G B => ?_) (fun els => ?_))
          rotate_left
          · refine ⟨.int road, rfl, road, 5, rfl, rfl, _, rfl, ite2 (fun _ => ?_) (fun _ => iteF (els _ B))⟩
            refine ne_nil rfl B.a2 B.a4 gL (Nat.le_trans dL (by decide)) fun p np => ?_
            have B := B.same pl ml0 mli0 (same_new (o := .lst []) np)
            generalize upd G p (.lst []) = G0 at B ⊢
            rw [eL]
            cases q : bs.isEmpty with
            | true => exact iteF (els _ B)
            | false =>
              refine iteT ?_
              clear els
              have p0 : 0 < bs.length := by
                cases bs with
                | nil => cases q
                | cons _ _ => simp
              refine ⟨.ref l, rfl, .ref l1, rfl, l1, ys, rfl, .inl (.inl (.inl B.a2)), l, li, c + 1, (ys.length : Nat), rfl, B.sp, by omega, by omega, by omega, fun G1 r e1 s1 r0 r1 => ?_⟩
              obtain ⟨k0, rfl⟩ : ∃ n : Nat, r = (n : Nat) := ⟨r.toNat, by omega⟩
              have B := B.ext pl ml0 mli0 e1 s1
              have kx : k0 < ys.length := by omega
              have kp : k0 < bs.length := by omega
              obtain ⟨z0, hz0, tz⟩ := B.a4.get (List.getElem?_eq_getElem kx)
              rw [List.getElem?_map, List.getElem?_eq_getElem kp] at hz0
              obtain rfl := Option.some.inj hz0
              refine gset ?_
              refine ⟨.ref l, rfl, .ref en, rfl, .ref l1, rfl, .int (k0 : Nat), rfl, ix_at k0 B.a2 (List.getElem?_eq_getElem kx) ⟨[l1, t1, l, li], l, li, en, _, ns, ys[k0], bs[k0], rfl, ml0, mli0, B.I, B.sp, B.en, n1, n2, l0, l16, hn, tz, bL _ (List.getElem_mem kp), by omega, fun G4 v' z e4 s4 tz4 oz => ?_⟩⟩
              have B4 := B.ext pl ml0 mli0 e4 s4
              refine ⟨.ref l1, rfl, .int (k0 : Nat), rfl, l1, ys, (k0 : Nat), k0, rfl, rfl, B4.a2, ixn kx, ?_⟩
              have B7 := B4.setL pl (by simp) (thAll_set tz4 k0 B4.a4)
              exact fin B7 rfl rfl ml0 mli0 (by omega) ti0 (by omega) (mem_set_or oz k0 oz0) (Nat.le_trans (cntA_set _ _ _) (oz1 oz cl0))
          · refine if_intro (and_split (fun G => Bs l li en t1 l1 ns H [l1, t1, l, li] (c + 1) xs ys (ps.map prD) (bs.map bxD) G) (fun G B => ?_) (fun els => ?_))
            rotate_left
            · refine ⟨.int road, rfl, rfl, _, rfl, ite2 (fun _ => ?_) (fun _ => iteF (els _ B))⟩
              refine ne_nil rfl B.a1 B.a3 gT (Nat.le_trans dT (by decide)) fun p np => ?_
              have B := B.same pl ml0 mli0 (same_new (o := .lst []) np)
              generalize upd G p (.lst []) = G0 at B ⊢
              rw [eT]
              cases q : ps.isEmpty with
              | true => exact iteF (els _ B)
              | false =>
                refine iteT ?_
                clear els
                have p0 : 0 < ps.length := by
                  cases ps with
                  | nil => cases q
                  | cons _ _ => simp
                refine ⟨.ref l1, rfl, .inl ⟨rfl, _, .inl (.inl B.a2)⟩, .ref l, rfl, .ref t1, rfl, l, li, t1, c + 1, xs, rfl, B.sp, B.a1, pl.t.1, pl.t.2, by omega, by omega, by omega, fun G1 x e1 s1 mx => ?_⟩
                have B := B.ext pl ml0 mli0 e1 s1
                obtain ⟨z, hz, tz⟩ := thAll_mem B.a3 mx
                obtain ⟨pp, hp, rfl⟩ := List.mem_map.mp hz
                obtain ⟨x0, t0, i0⟩ := th_ixS (K := K) (j := 0) tz rfl (z := bxD pp.1) rfl
                refine i0 _ hid_up _ ⟨l1, ys, x0, rfl, rfl, B.a2, by rw [lys, sizeLine_eq]; omega, ?_⟩
                have B7 := B.setL pl (by simp) (th_app B.a4 (.cons t0 .nil))
                have oz : OkZ ns (bxD pp.1) := bx_okz hn (bP _ (List.mem_flatMap.mpr ⟨_, hp, by simp⟩))
                refine fin B7 rfl rfl ml0 mli0 (by omega) ti0 (by omega) (fun z hz => ?_) ?_
                · rcases List.mem_append.mp hz with hz | hz
                  · exact oz0 z hz
                  · rw [List.mem_singleton.mp hz]; exact oz
                · rw [cntA_app]
                  exact oz1 oz cl0
            · refine if_intro ?_
              refine ⟨.int road, rfl, rfl, _, rfl, ite2 (fun _ => ?_) (fun _ => ?_)⟩
              · have A := gva_cons (S := [l1, t1, l, li]) (H0 := G) (σ := [some (.ref l), some (.ref en), some (.ref t1), some (.ref l1), some (.int road), none, none, none, none]) gv_non (gva_cons (gv_tup gva_nil) (gva_cons (gv_lst gva_nil) (gva_cons (gv_int (i := 5)) (gva_cons (gv_str (x := "ab")) (gva_cons (gv_tup (gva_cons (gv_tup gva_nil) (gva_cons (gv_tup gva_nil) gva_nil))) (gva_cons (gv_tup (gva_cons gv_dict (gva_cons gv_dict gva_nil))) (gva_cons (gv_tup (gva_cons (gv_int (i := 1)) gva_nil)) gva_nil)))))))
                refine asgS (lst_in (A G _ sm B.I fun G1 vs s1 t1' => ⟨by rw [t1'.length]; exact small4 8, fun sp nsp => ?_⟩))
                refine gset ?_
                clear A
                have S2 := same_new (o := .lst vs) nsp
                have nsp' := (B.sp.same s1).new nsp
                have B := B.same pl ml0 mli0 (s1.trans S2)
                have t2 := t1'.ext (hid_same S2)
                have hsp := upd_same (H := G1) (a := sp) (o := .lst vs)
                have lvs : vs.length = 8 := t1'.length
                generalize upd G1 sp (.lst vs) = G2 at B t2 hsp ⊢
                refine ⟨.ref t1, rfl, .inl ⟨rfl, _, .inl (.inl B.a1)⟩, .ref l, rfl, .ref t1, rfl, t1, xs, rfl, .inl (.inl (.inl B.a1)), (xs.length : Nat), 1, rfl, rfl, l, li, _, _, rfl, B.sp, by omega, by omega, by omega, fun G3 r e3 s3 r0 r1 => ⟨.ref l, rfl, .ref sp, rfl, l, li, sp, _, vs, rfl, s3, e3 _ _ hsp nsp'.1 nsp'.2, nsp'.1, nsp'.2, by omega, by omega, by omega, fun G4 x e4 s4 mx => ?_⟩⟩
                have B4 := (B.ext pl ml0 mli0 e3 s3).ext pl ml0 mli0 e4 s4
                obtain ⟨z, hz, tz⟩ := thAll_mem ((t2.ext (hid_S ml0 mli0 e3)).ext (hid_S ml0 mli0 e4)) mx
                refine ⟨t1, xs, r, x, rfl, rfl, B4.a1, by rw [lxs, sizeLine_eq]; omega, r0, by omega, ?_⟩
                have tis : ∀ z ∈ [PyData.none, .tuple [], .list [], .int 5, .str "ab", .tuple [.tuple [], .tuple []], .tuple [.dict [], .dict []], .tuple [.int 1]], TI ns z := by
                  exact forall_c (p := TI ns) ⟨⟨rfl, by decide, by decide⟩, forall_n⟩ (forall_c ⟨⟨rfl, by decide, by decide⟩, forall_n⟩ (forall_c ⟨⟨rfl, by decide, by decide⟩, forall_n⟩ (forall_c ⟨⟨by decide, by decide, by decide⟩, forall_n⟩ (forall_c ⟨⟨by decide +kernel, by decide, by decide⟩, forall_n⟩ (forall_c ⟨⟨rfl, by decide, by decide⟩, forall_c (law_no rfl) (forall_c (law_no rfl) forall_n)⟩ (forall_c ⟨⟨rfl, by decide, by decide⟩, forall_c (law_no rfl) (forall_c (law_no rfl) forall_n)⟩ (forall_c ⟨⟨by decide, by decide, by decide⟩, forall_c (law_no rfl) forall_n⟩ forall_n)))))))
                have ti := tis z hz
                have B7 := B4.setT pl (by simp) (thAll_ins tz r.toNat B4.a3)
                refine fin B7 rfl rfl ml0 mli0 (by omega) (mem_ins ti _ ti0) ?_ oz0 (by omega)
                rw [cntA_ins]
                exact ty0 ti ct0
              · refine ⟨.ref l1, rfl, .inl ⟨rfl, _, .inl (.inl B.a2)⟩, .ref l, rfl, .ref l1, rfl, l1, ys, rfl, .inl (.inl (.inl B.a2)), (ys.length : Nat), 1, rfl, rfl, l, li, _, _, rfl, B.sp, by omega, by omega, by omega, fun G3 r e3 s3 r0 r1 => ⟨.ref l, rfl, ?_⟩⟩
                have B := B.ext pl ml0 mli0 e3 s3
                have A := gva_cons (S := [l1, t1, l, li]) (H0 := G3) (σ := [some (.ref l), some (.ref en), some (.ref t1), some (.ref l1), some (.int road), none, none, none, none]) gv_non (gva_cons (gv_tup gva_nil) (gva_cons (gv_int (i := 5)) (gva_cons (gv_str (x := "a")) (gva_cons gv_dict (gva_cons (gv_lst (gva_cons (gv_lst gva_nil) gva_nil)) (gva_cons (gv_tup (gva_cons (gv_int (i := 1)) (gva_cons (gv_int (i := 2)) (gva_cons (gv_int (i := 3)) gva_nil)))) gva_nil))))))
                refine lst_in (A G3 _ sm B.I fun G1 vs s1 t1' => ⟨by rw [t1'.length]; exact small4 7, fun sp nsp => ?_⟩)
                clear A
                have S2 := same_new (o := .lst vs) nsp
                have nsp' := (B.sp.same s1).new nsp
                have B := B.same pl ml0 mli0 (s1.trans S2)
                have t2 := t1'.ext (hid_same S2)
                have hsp := upd_same (H := G1) (a := sp) (o := .lst vs)
                have lvs : vs.length = 7 := t1'.length
                generalize upd G1 sp (.lst vs) = G2 at B t2 hsp ⊢
                refine ⟨l, li, sp, _, vs, rfl, B.sp, hsp, nsp'.1, nsp'.2, by omega, by omega, by omega, fun G4 x e4 s4 mx => ?_⟩
                have B4 := B.ext pl ml0 mli0 e4 s4
                obtain ⟨z, hz, tz⟩ := thAll_mem (t2.ext (hid_S ml0 mli0 e4)) mx
                refine ⟨l1, ys, r, x, rfl, rfl, B4.a2, by rw [lys, sizeLine_eq]; omega, r0, by omega, ?_⟩
                have ozs : ∀ z ∈ [PyData.none, .tuple [], .int 5, .str "a", .dict [], .list [.list []], .tuple [.int 1, .int 2, .int 3]], OkZ ns z := by
                  exact forall_c (p := OkZ ns) ⟨⟨rfl, by decide, by decide⟩, law_no rfl⟩ (forall_c ⟨⟨rfl, by decide, by decide⟩, law_no rfl⟩ (forall_c ⟨⟨by decide, by decide, by decide⟩, law_no rfl⟩ (forall_c ⟨⟨by decide +kernel, by decide, by decide⟩, law_no rfl⟩ (forall_c ⟨⟨rfl, by decide, by decide⟩, law_no rfl⟩ (forall_c ⟨⟨rfl, by decide, by decide⟩, law_no rfl⟩ (forall_c ⟨⟨by decide, by decide, by decide⟩, law_no rfl⟩ forall_n))))))
                have oz := ozs z hz
                have B7 := B4.setL pl (by simp) (thAll_ins tz r.toNat B4.a4)
                refine fin B7 rfl rfl ml0 mli0 (by omega) ti0 (by omega) (mem_ins oz _ oz0) ?_
                rw [cntA_ins]
                exact oz1 oz cl0
end
end K14.T27
namespace K14.T27
open PySem PySem.W PySem.Calls PyProof.Rows L2 LamX
open He (ga)
open Kz (SS ExtS ExtS.trans small4 same_new boot_in boot_li boot_isi Has pe_has noE PSs.of_eq seqI new_ext FnG HasG pe_hasG X1)
open K14.Gn
/-! ### _law_refused -/
abbrev sRf : Stmt := topS 46
abbrev NRf : List Str := ["odd", "due", "e"]
theorem scRf : FnScope NRf ["odd", "due"] (defScope sRf) := ⟨rfl, rfl, rfl, by decide +kernel, rfl, by decide +kernel, by decide +kernel⟩
theorem bdRf : defBody sRf = [stOf sRf 0] := by rfl
section
variable {P : Program} {w : World} {K : Frag} {mg : Str → Option Value} {base : Heap}
def spRf : Sp := fun vs H Q _ => ∃ (v : V) (d : PyData) (j : Nat), vs = [v, .int (j : Nat)] ∧ EndsOk H v d ∧ fne d = some j ∧ ∀ H', L2.Same H H' → Q (.bl true) H'
theorem ok_rf {f : Addr} {fd : FuncData} (F : FunD K "_law_refused" "_law_refused" (defArgs sRf) (defBody sRf) (defScope sRf) [] [] f fd) (I : HasX P w K mg base "is_table" 5 ["ends", "table", "shut"] (spItX K)) (T : mg "BadEnds" = some (.ref (ga K "BadEnds")) ∧ X1 P K (ga K "BadEnds") "index")
    (ex : exmOne K (.ref (ga K "BadEnds")) (.ref (ga K "BadEnds")) = some true) : FnOk P w K mg base CX0 6 f fd ["odd", "due"] spRf := by
  refine F.ok scRf (fun vs H Q E h => ?_) (fun cdv A outer s H vs Q XE hr h => ?_)
  · obtain ⟨v, d, j, rfl, _⟩ := h
    rfl
  · obtain ⟨v, d, j, rfl, hO, e, k⟩ := h
    obtain ⟨f2, fd2, mm, kp, bd, F2⟩ := I
    have h0 : PS (cxOf CX0 P w K mg base NRf "_law_refused" (defScope sRf) f cdv A outer s H XE).nox (stOf sRf 0) _ := ps_try_as (i := 2) (X := (cxOf CX0 P w K mg base NRf "_law_refused" (defScope sRf) f cdv A outer s H XE).nox)
      (tb := fun W => tRet (tOp rEq (tCallS (spItX K) (WE W) (tCons (tVar 0) (tCons (tC .non) (tCons (tC .non) tNil)))) (tC (.str "refused")))) (ts := fun a cls d => tRet (tOp rEq (tXf a cls d (ga K "BadEnds") "index" (tVar 2)) (tVar 1))) (Wout := fun _ _ _ _ => False)
      rfl rfl scRf.nd rfl rfl ⟨rfl, by decide, .inl T.1⟩ takes0
      (fun W pn xe tk _ => pss_one (ps_ret (pe_cmpR op_eq (pe_callS F2 hr (by rfl) mm kp bd (fun σ => passAt tk σ) (pa_cons (pv 0) (pa_cons pe_non (pa_cons pe_non pa_nil)))) pe_str (nomark _))))
      (fun a oe cls d pn hz hf => pss_one (ps_ret (pe_cmpR op_eq (pe_xf (x1_xf T.2) T.2.no hz hf (pv 2)) (pv 1) (nomark _))))
    refine ⟨_, PSs.nox (PSs.of_eq bdRf (pss_one h0)), ?_⟩
    clear h0
    refine ⟨v, rfl, v, .non, .non, d, j, rfl, hO, e, fun H' dx s hx => ⟨true, ex, fun _ a ha => ?_, fun z => nomatch z⟩⟩
    refine ⟨.ref a, rfl, rfl, rfl, dx, _, .int (j : Nat), rfl, hx, rfl, .int (j : Nat), rfl, rfl, ?_⟩
    rw [decide_eq_true rfl]
    exact k H' s
end
end K14.T27
namespace K14.T27
open PySem PySem.W PySem.Calls PyProof.Rows L2 LamX
open He (ga)
open Kz (SS ExtS ExtS.trans spStart small4 same_new boot_in boot_li boot_isi Has pe_has noE PSs.of_eq seqI new_ext FnG HasG pe_hasG X1)
open K14.Gn
/-! ### what the law makes is a table -/
theorem inN_of {ns : List Str} {s : Str} (h : s ∈ ns) : inN ns s = true := by
  unfold inN
  refine List.any_eq_true.mpr ⟨.str s, List.mem_map.mpr ⟨s, h, rfl⟩, ?_⟩
  show eqV (.str s) (.str s) = true
  unfold eqV
  simp
theorem figs_isR {x : List Int} (h : figsB x) : isR (rowD x) = true := by
  show (true && (x.map PyData.int).all isF) = true
  rw [Bool.true_and]
  refine List.all_eq_true.mpr fun z hz => ?_
  obtain ⟨n, hn, rfl⟩ := List.mem_map.mp hz
  rcases h n hn with rfl | rfl <;> rfl
theorem bx_box {ns : List Str} {b : Bx} (h : LBx ns b) : boxB ns (bxD b) = true := by
  show (true && (inN ns b.s && (isR (rowD b.x) && isR (rowD b.y)))) = true
  rw [inN_of h.s, figs_isR h.x, figs_isR h.y]
  rfl
theorem bxs_flat (ps : List (Bx × Bx)) : bxs (ps.map prD) = (flatP ps).map bxD := by
  unfold bxs flatP
  rw [List.flatMap_map, List.map_flatMap]
  rfl
theorem fam_law {ns : List Str} {ps : List (Bx × Bx)} {bs : List Bx} (f : Fam ns (flatP ps ++ bs)) : lawB ns (tbD ps) (ldD bs) = true := by
  have e1 : bxs (its (tbD ps)) ++ its (ldD bs) = (flatP ps ++ bs).map bxD := by
    show bxs (ps.map prD) ++ bs.map bxD = _
    rw [bxs_flat, List.map_append]
  unfold lawB
  rw [e1]
  generalize flatP ps ++ bs = cs at f
  have h1 : (its (tbD ps)).all isP = true := List.all_eq_true.mpr fun z hz => by
    obtain ⟨p, _, rfl⟩ := List.mem_map.mp (show z ∈ ps.map prD from hz)
    rfl
  have h2 : (cs.map bxD).all (boxB ns) = true := List.all_eq_true.mpr fun z hz => by
    obtain ⟨b, hb, rfl⟩ := List.mem_map.mp hz
    exact bx_box (f.all b hb)
  rw [h1, h2]
  show (!(((List.range (cs.map bxD).length).map fun j => ((cs.map bxD).take j).any fun o => meetB (bxOf ((cs.map bxD).getD j .none)) (bxOf o)).any id)) = true
  have h3 : ((List.range (cs.map bxD).length).map fun j => ((cs.map bxD).take j).any fun o => meetB (bxOf ((cs.map bxD).getD j .none)) (bxOf o)).any id = false := by
    rw [List.any_eq_false]
    intro x hx
    obtain ⟨j, hj, rfl⟩ := List.mem_map.mp hx
    have hj' : j < cs.length := by
      have := List.mem_range.mp hj
      rwa [List.length_map] at this
    show ¬ (id _) = true
    rw [id, Bool.not_eq_true, List.any_eq_false]
    intro o ho
    rw [← List.map_take] at ho
    obtain ⟨b, hb, rfl⟩ := List.mem_map.mp ho
    obtain ⟨i, hi, eb⟩ := List.getElem_of_mem hb
    have hij : i < j := by
      have := hi
      rw [List.length_take] at this
      omega
    rw [List.getElem_take] at eb
    have eg : (cs.map bxD).getD j .none = bxD cs[j] := by
      rw [List.getD_eq_getElem?_getD, List.getElem?_map, List.getElem?_eq_getElem hj']
      rfl
    rw [eg, bxD_of, bxD_of, meet_ba, baB_symm]
    have := List.pairwise_iff_getElem.mp f.prs i j (by omega) hj' hij
    rw [← eb, this]
    decide
  rw [h3]
  rfl
/-- what stands for a table, or for the boxes -/
def oddD : List PyData := [.none, .int 5, .str "ab", .dict [], .list [], .tuple [], .bool true, .list [.tuple []], .list [.none], .list [.list []]]
theorem oka_dec {k m : Nat} {z : PyData} (h : (gd true z && (decide (PyData.depth z ≤ k) && decide (cnt z ≤ m))) = true) : OkA k m z := by
  rw [Bool.and_eq_true, Bool.and_eq_true] at h
  exact ⟨h.1, of_decide_eq_true h.2.1, of_decide_eq_true h.2.2⟩
theorem odd_ok (ns : List Str) : ∀ z ∈ oddD, OkA 6 500 z ∧ (∀ y ∈ bxs (its z), Law ns y) ∧ ∀ y ∈ its z, Law ns y := by
  have a : ∀ z ∈ oddD, OkA 6 500 z := fun z hz => oka_dec (List.all_eq_true.mp (show oddD.all (fun z => gd true z && (decide (PyData.depth z ≤ 6) && decide (cnt z ≤ 500))) = true by decide +kernel) z hz)
  have b : ∀ z ∈ oddD, ((bxs (its z)).isEmpty && (its z).all fun y => !boxB ns y) = true := forall_c rfl (forall_c rfl (forall_c rfl (forall_c rfl (forall_c rfl (forall_c rfl (forall_c rfl (forall_c rfl (forall_c rfl (forall_c rfl forall_n)))))))))
  refine fun z hz => ⟨a z hz, ?_, ?_⟩
  · have := (Bool.and_eq_true_iff.mp (b z hz)).1
    rw [List.isEmpty_iff.mp this]
    exact forall_n
  · have := (Bool.and_eq_true_iff.mp (b z hz)).2
    intro y hy
    have := List.all_eq_true.mp this y hy
    refine law_no ?_
    cases q : boxB ns y with
    | false => rfl
    | true => rw [q] at this; cases this
/-- what is refused, and where -/
def badD : List (PyData × Nat) := [(.none, 0), (.str "ab", 0), (.dict [], 0), (.list [.str "a", .str "a"], 1), (.list [.str "a", .int 5], 1), (.list [.str "x"], 0), (.list [.str "a", .str "b", .str "stop"], 2)]
theorem bad_ok : ∀ p ∈ badD, fne p.1 = some p.2 ∧ (its p.1).length ≤ 1000 ∧ ∀ s, .str s ∈ its p.1 → s.length ≤ 100000 := by
  have a : badD.all (fun p => decide (fne p.1 = some p.2) && (decide ((its p.1).length ≤ 1000) && (its p.1).all fun z => match z with | .str s => decide (s.length ≤ 100000) | _ => true)) = true := by decide +kernel
  intro p hp
  have := List.all_eq_true.mp a p hp
  rw [Bool.and_eq_true, Bool.and_eq_true] at this
  refine ⟨of_decide_eq_true this.1, of_decide_eq_true this.2.1, fun s hs => ?_⟩
  exact of_decide_eq_true (List.all_eq_true.mp this.2.2 _ hs)
def badP (p : PyData × Nat) : PyData := .tuple [p.1, .int (p.2 : Nat)]
end K14.T27
namespace K14.T27
open PySem PySem.W PySem.Calls PyProof.Rows L2 LamX
open He (ga)
open Kz (SS ExtS ExtS.trans spStart small4 same_new boot_in boot_li boot_isi Has pe_has noE PSs.of_eq seqI new_ext FnG HasG pe_hasG X1)
open K14.Gn
abbrev sLw : Stmt := topS 47
abbrev NLw : List Str := ["script", "stream", "turn", "ends", "table", "lids", "k", "some", "odds", "odd", "due"]
theorem scLw : FnScope NLw ["script"] (defScope sLw) := ⟨rfl, rfl, rfl, by decide +kernel, rfl, by decide +kernel, by decide +kernel⟩
def fbL (i : Nat) : Stmt := (forBody (stOf sLw 1)).getD i (.Pass ⟨0, 0, 0, 0⟩)
def fbK (i : Nat) : Stmt := (forBody (fbL 3)).getD i (.Pass ⟨0, 0, 0, 0⟩)
theorem bdLw : defBody sLw = [stOf sLw 0, stOf sLw 1, stOf sLw 2, stOf sLw 3, stOf sLw 4] := by rfl
theorem bdFL : forBody (stOf sLw 1) = [fbL 0, fbL 1, fbL 2, fbL 3, fbL 4, fbL 5] := by rfl
theorem bdFK : forBody (fbL 3) = [fbK 0, fbK 1] := by rfl
def lwSc1 : Scope := scOfL (fbL 5)
def lwSc2 : Scope := scOfL (stOf sLw 3)
theorem chkW1 : blkC NLw (defScope sLw) lwSc1 [("odd", 9)] = true := by decide +kernel
theorem chkW2 : blkC NLw (defScope sLw) lwSc2 [("odd", 9), ("due", 10)] = true := by decide +kernel
structure LwK (P : Program) (w : World) (K : Frag) (mg : Str → Option Value) (base : Heap) : Prop where
  st : Has P w K mg base "_law_start" 1 ["script"] (spStart K)
  dr : Has P w K mg base "_law_draw" 1 ["stream", "many"] spDrW
  en : Has P w K mg base "_law_ends" 3 ["stream", "many"] spEn
  tt : Has P w K mg base "_law_t_table" 3 ["stream", "ends", "cuts"] spTt
  lt : Has P w K mg base "_law_is_table" 2 ["ends", "table", "lids"] spLt
  rt : HasG P w K mg base "_law_right" 10 ["stream", "ends", "table", "lids"] spRt
  bt : Has P w K mg base "_law_bent" 4 ["stream", "ends", "table", "lids"] spBt
  rf : Has P w K mg base "_law_refused" 6 ["odd", "due"] spRf
  it : Has P w K mg base "is_table" 8 ["ends", "table", "shut"] spIt
  sm : Has P w K mg base "_law_same" 3 ["found", "due"] (spSm 2)
  nr : mg "range" = none
  na : mg "all" = none
theorem all_in {K : Frag} {t : TE} {σ : L2.St} {H : Hp} {Q : VK} (h : t σ H fun v G => rAll K [v] G Q) : tCB (rAll K) (tCons t tNil) σ H Q := h
theorem ix_tp {K : Frag} {H : Hp} {a : Addr} {xs : List V} {x : V} {Q : VK} (j : Nat) (h : H a = some (.tup xs)) (e : xs[j]? = some x) (k : Q x H) : rIx K (.ref a) (.int (j : Nat)) H Q := .inr (.inl ⟨a, xs, _, x, rfl, rfl, .inl (.inl h), atI_nat e, k⟩)
theorem rep_all (n : Nat) : (List.replicate n true).all id = true := by
  rw [List.all_eq_true]
  intro x hx
  rw [List.eq_of_mem_replicate hx]
  rfl
def spLw (K : Frag) : Sp := fun vs H Q _ => ∃ (a : Addr) (ns : List Int), vs = [.ref a] ∧ SqL K H a (ns.map V.int) ∧ ns.length ≤ 1000 ∧ ∀ H', Q (.bl true) H'
section
variable {P : Program} {w : World} {K : Frag} {mg : Str → Option Value} {base : Heap}
abbrev XLw (P : Program) (w : World) (K : Frag) (mg : Str → Option Value) (base : Heap) (f : Addr) (cdv : Value) (A : Around) (outer : List Env) (s : Shared) (H : Hp) (XE : XK) : Cx := (cxOf CX0 P w K mg base NLw "law" (defScope sLw) f cdv A outer s H XE).nox
theorem ok_lw {f : Addr} {fd : FuncData} (Fn : FunD K "law" "law" (defArgs sLw) (defBody sLw) (defScope sLw) [] [] f fd) (L : LwK P w K mg base) : FnG P w K mg base CX0 11 f fd ["script"] (spLw K) := by
  refine Kz.FunD.okG Fn scLw (fun vs H Q E h => ?_) (fun cdv A outer s H vs Q XE hg hr h => ?_)
  · obtain ⟨a, ns, rfl, _⟩ := h
    rfl
  · obtain ⟨a, ns, rfl, hS, hn, k⟩ := h
    have v0 : PS (XLw P w K mg base f cdv A outer s H XE) (fbL 0) _ := ps_set (i := 3) scLw.nd rfl (.inr rfl) (pe_has L.en (hr.mono (by decide)) (by rfl) (pa_cons (pv 1) (pa_cons (pe_op op_add pe_int (pe_has L.dr (hr.mono (by decide)) (by rfl) (pa_cons (pv 1) (pa_cons pe_int pa_nil)))) pa_nil)))
    have v1 : PS (XLw P w K mg base f cdv A outer s H XE) (fbL 1) _ := ps_asg (pe_has L.tt (hr.mono (by decide)) (by rfl) (pa_cons (pv 1) (pa_cons (pv 3) (pa_cons (pe_has L.dr (hr.mono (by decide)) (by rfl) (pa_cons (pv 1) (pa_cons pe_int pa_nil))) pa_nil)))) (pg_tup (n := 2) rfl (pgs_cons (pg_name (i := 4) scLw.nd rfl (.inr rfl)) (pgs_cons (pg_name (i := 5) scLw.nd rfl (.inr rfl)) pgs_nil)))
    have v2 : PS (XLw P w K mg base f cdv A outer s H XE) (fbL 2) _ := ps_if ((pw_or (pt_not (pt_val (pe_has L.lt (hr.mono (by decide)) (by rfl) (pa_cons (pv 3) (pa_cons (pv 4) (pa_cons (pv 5) pa_nil))))))
      (pw_or1 (pt_not (pt_val (pe_hasG hg L.rt hr (by rfl) (pa_cons (pv 1) (pa_cons (pv 3) (pa_cons (pv 4) (pa_cons (pv 5) pa_nil))))))))).pt) (pss_one (ps_ret pe_bl)) pss_nil
    have k0 : PS (XLw P w K mg base f cdv A outer s H XE) (fbK 0) _ := ps_set (i := 7) scLw.nd rfl (.inl rfl) (pe_has L.bt (hr.mono (by decide)) (by rfl) (pa_cons (pv 1) (pa_cons (pv 3) (pa_cons (pv 4) (pa_cons (pv 5) pa_nil)))))
    have k1 : PS (XLw P w K mg base f cdv A outer s H XE) (fbK 1) _ := ps_if (pt_not (pt_val (pe_hasG hg L.rt hr (by rfl) (pa_cons (pv 1) (pa_cons (pv 3) (pa_cons (pe_ix ix_seq (pv 7) pe_int (fun _ _ => rfl)) (pa_cons (pe_ix ix_seq (pv 7) pe_int (fun _ _ => rfl)) pa_nil))))))) (pss_one (ps_ret pe_bl)) pss_nil
    have v3 : PS (XLw P w K mg base f cdv A outer s H XE) (fbL 3) _ := ps_for PassesOwn.never rfl (pi_range1 (by rfl) L.nr (pa_cons pe_int pa_nil)) (pg_name (i := 6) scLw.nd rfl (.inl rfl)) (PSs.of_eq bdFK (pss_cons k0 (pss_one k1)))
    have v4 : PS (XLw P w K mg base f cdv A outer s H XE) (fbL 4) _ := ps_set (i := 8) scLw.nd rfl (.inl rfl) (pe_lst (pa_cons pe_non (pa_cons pe_int (pa_cons pe_str (pa_cons pe_dnewK (pa_cons (pe_lst pa_nil) (pa_cons (pe_tup pa_nil) (pa_cons pe_bl (pa_cons (pe_lst (pa_cons (pe_tup pa_nil) pa_nil)) (pa_cons (pe_lst (pa_cons pe_non pa_nil)) (pa_cons (pe_lst (pa_cons (pe_lst pa_nil) pa_nil)) pa_nil)))))))))))
    have v5 : PS (XLw P w K mg base f cdv A outer s H XE) (fbL 5) _ := ps_if (pt_not (pt_val (pe_callB (cr_all rfl) (by rfl) L.na boot_all (pa_cons (pe_lc (X := XLw P w K mg base f cdv A outer s H XE) (scope := lwSc1) (own := [("odd", 9)]) (g := gName 9) (tt := tYes)
      (te := tAndV (tCall spRt [] noE (tCons (tVar 1) (tCons (tVar 3) (tCons (tVar 9) (tCons (tVar 5) tNil))))) (tCall spRt [] noE (tCons (tVar 1) (tCons (tVar 3) (tCons (tVar 4) (tCons (tVar 9) tNil)))))) rfl scLw.nd
      (pi_list (pv 8)) (blkOk_by chkW1) (fun _ _ _ _ _ => pg_name (i := 9) scLw.nd rfl (Or.inl rfl)) (fun _ _ _ _ _ => pts_nil)
      (fun s0 H0 C0 cl0 fp0 => by exact pe_and (pe_hasG hg L.rt hr (by rfl) (pa_cons (pv 1) (pa_cons (pv 3) (pa_cons (pv 9) (pa_cons (pv 5) pa_nil))))) (pe_one (pe_hasG hg L.rt hr (by rfl) (pa_cons (pv 1) (pa_cons (pv 3) (pa_cons (pv 4) (pa_cons (pv 9) pa_nil)))))))) pa_nil)))) (pss_one (ps_ret pe_bl)) pss_nil
    have w0 : PS (XLw P w K mg base f cdv A outer s H XE) (stOf sLw 0) _ := ps_set (i := 1) scLw.nd rfl (.inr rfl) (pe_has L.st (hr.mono (by decide)) (by rfl) (pa_cons (pv 0) pa_nil))
    have w1 : PS (XLw P w K mg base f cdv A outer s H XE) (stOf sLw 1) _ := ps_for PassesOwn.never rfl (pi_range1 (by rfl) L.nr (pa_cons pe_int pa_nil)) (pg_name (i := 2) scLw.nd rfl (.inl rfl)) (PSs.of_eq bdFL (pss_cons v0 (pss_cons v1 (pss_cons v2 (pss_cons v3 (pss_cons v4 (pss_one v5)))))))
    have w2 : PS (XLw P w K mg base f cdv A outer s H XE) (stOf sLw 2) _ := ps_set (i := 8) scLw.nd rfl (.inl rfl) (pe_lst (pa_cons (pe_tup (pa_cons pe_non (pa_cons pe_int pa_nil))) (pa_cons (pe_tup (pa_cons pe_str (pa_cons pe_int pa_nil))) (pa_cons (pe_tup (pa_cons pe_dnewK (pa_cons pe_int pa_nil))) (pa_cons (pe_tup (pa_cons (pe_lst (pa_cons pe_str (pa_cons pe_str pa_nil))) (pa_cons pe_int pa_nil)))
      (pa_cons (pe_tup (pa_cons (pe_lst (pa_cons pe_str (pa_cons pe_int pa_nil))) (pa_cons pe_int pa_nil))) (pa_cons (pe_tup (pa_cons (pe_lst (pa_cons pe_str pa_nil)) (pa_cons pe_int pa_nil))) (pa_cons (pe_tup (pa_cons (pe_lst (pa_cons pe_str (pa_cons pe_str (pa_cons pe_str pa_nil)))) (pa_cons pe_int pa_nil))) pa_nil))))))))
    have w3 : PS (XLw P w K mg base f cdv A outer s H XE) (stOf sLw 3) _ := ps_if (pt_not (pt_val (pe_callB (cr_all rfl) (by rfl) L.na boot_all (pa_cons (pe_lc (X := XLw P w K mg base f cdv A outer s H XE) (scope := lwSc2) (own := [("odd", 9), ("due", 10)]) (g := gTup K 2 (gCons (gName 9) (gCons (gName 10) gNil))) (tt := tYes)
      (te := tCall spRf [] noE (tCons (tVar 9) (tCons (tVar 10) tNil))) rfl scLw.nd
      (pi_list (pv 8)) (blkOk_by chkW2) (fun _ _ _ _ _ => pg_tup (n := 2) rfl (pgs_cons (pg_name (i := 9) scLw.nd rfl (Or.inl rfl)) (pgs_cons (pg_name (i := 10) scLw.nd rfl (Or.inl rfl)) pgs_nil))) (fun _ _ _ _ _ => pts_nil)
      (fun s0 H0 C0 cl0 fp0 => by exact pe_has L.rf (hr.mono (by decide)) (by rfl) (pa_cons (pv 9) (pa_cons (pv 10) pa_nil)))) pa_nil)))) (pss_one (ps_ret pe_bl)) pss_nil
    have w4 : PS (XLw P w K mg base f cdv A outer s H XE) (stOf sLw 4) _ := ps_ret (pe_has L.sm (hr.mono (by decide)) (by rfl) (pa_cons (pe_lst (pa_cons (pe_has L.it (hr.mono (by decide)) (by rfl) (pa_cons (pe_lst pa_nil) (pa_cons (pe_lst pa_nil) (pa_cons (pe_lst pa_nil) pa_nil)))) (pa_cons (pe_has L.it (hr.mono (by decide)) (by rfl) (pa_cons (pe_lst pa_nil) (pa_cons (pe_lst pa_nil) (pa_cons (pe_lst (pa_cons (pe_tup (pa_cons pe_str (pa_cons (pe_lst pa_nil) (pa_cons (pe_lst pa_nil) pa_nil)))) pa_nil)) pa_nil)))) pa_nil)))
      (pa_cons (pe_lst (pa_cons pe_bl (pa_cons pe_bl pa_nil))) pa_nil)))
    have PP := PSs.of_eq bdLw (pss_cons w0 (pss_cons w1 (pss_cons w2 (pss_cons w3 (pss_one w4)))))
    clear v0 v1 v2 v3 v4 v5 w0 w1 w2 w3 w4 k0 k1
    refine ⟨_, PSs.nox PP, ?_⟩
    clear PP
    refine ⟨.ref a, rfl, a, ns, rfl, hS, fun H1 l li e1 n1 n2 ss => ?_⟩
    have m1 : l ∈ [l, li] := by simp
    have m2 : li ∈ [l, li] := by simp
    have s1 : Spr H1 l li 0 := ⟨ns, 0, 19, ss, hn⟩
    refine ⟨10, rfl, by decide, by decide, for_range (lo := 0) (n := (10 : Int).toNat) (fun j σ G => ∃ (a2 a3 a4 a5 a6 a7 a8 : Option V) (c : Int), σ = [some (.ref a), some (.ref l), a2, a3, a4, a5, a6, a7, a8, none, none] ∧ Spr G l li c ∧ c ≤ 100000 * (j : Nat)) ⟨none, none, none, none, none, none, none, 0, rfl, s1, by decide⟩ (fun j σ G hj e => ?_) (fun σ G e => ?_)⟩
    · obtain ⟨a2, a3, a4, a5, a6, a7, a8, c, rfl, sp, cb⟩ := e
      have j10 : j < 10 := hj
      clear s1 ss e1 n1 n2
      refine ⟨.ref l, rfl, .ref l, rfl, l, li, c, 4, rfl, sp, by decide, by decide, by omega, fun G1 r e1 s1 r0 r1 => ⟨1, r, rfl, rfl, ?_⟩⟩
      obtain ⟨r, rfl⟩ : ∃ n : Nat, r = (n : Nat) := ⟨r.toNat, by omega⟩
      refine ⟨l, li, c + 1, 1 + r, by show [V.ref l, V.int (1 + (r : Nat))] = _; rw [show (1 : Int) + (r : Nat) = ((1 + r : Nat) : Int) by omega], s1, by omega, by omega, fun G2 en ns e2 s2 ne0 n1 n2 hen ln nd hn => ?_⟩
      refine gset ?_
      refine ⟨.ref l, rfl, .ref en, rfl, .ref l, rfl, l, li, _, 9, rfl, s2, by decide, by decide, by omega, fun G3 q e3 s3 q0 q1 => ?_⟩
      obtain ⟨q, rfl⟩ : ∃ n : Nat, q = (n : Nat) := ⟨q.toNat, by omega⟩
      refine ⟨l, li, en, _, ns, q, rfl, s3, e3 _ _ hen n1 n2, n1, n2, nd, by omega, by omega, by omega, hn, by omega, fun G4 rr t u ps bs c4 e4 s4 b4 hrr ht hu fam lp lb => ?_⟩
      refine ⟨rr, _, rfl, .inl (.inl (hid_up _ _ hrr)), rfl, _, _, rfl, _, _, rfl, rfl, ?_⟩
      have hen4 := e4 _ _ (e3 _ _ hen n1 n2) n1 n2
      have tE : Th (Hid [l, li] G4) (.ref en) (.list (ns.map PyData.str)) := .lst (hid_of (by simp [n1, n2]) hen4 fun ps z => nomatch z) (th_strs ns)
      clear e1 e2 e3 e4 s1 s2 s3 hen hrr ne0 sp
      have bP : ∀ b ∈ flatP ps, LBx ns b := fun b m => fam.all b (List.mem_append_left _ m)
      have bL : ∀ b ∈ bs, LBx ns b := fun b m => fam.all b (List.mem_append_right _ m)
      obtain ⟨ti0, ct0⟩ := tb_ti hn bP
      obtain ⟨oz0, cl0⟩ := ld_okz hn bL
      have ok0 : OkT ns (tbD ps) (ldD bs) := okt_of ti0 (by omega) oz0 (by omega)
      have okl := fam_law fam
      have aT : OkA 6 500 (tbD ps) := ⟨ok0.gd, Nat.le_trans (tb_dep ps) (by decide), by show 1 + cntA (ps.map prD) ≤ 500; omega⟩
      have aL : OkA 6 500 (ldD bs) := ⟨ok0.ge, Nat.le_trans (ld_dep bs) (by decide), by show 1 + cntA (bs.map bxD) ≤ 500; omega⟩
      have lT : ∀ z ∈ bxs (its (tbD ps)), Law ns z := fun z hz => ok0.law z (List.mem_append_left _ hz)
      have lL : ∀ z ∈ its (ldD bs), Law ns z := fun z hz => ok0.law z (List.mem_append_right _ hz)
      clear ti0 ct0 oz0 cl0
      -- it is a table
      have upE := tE.ext hid_up
      obtain ⟨y1, _, _⟩ := ends_ok upE rfl rfl nd hn (by omega)
      refine ⟨.ref en, rfl, .ref t, rfl, .ref u, rfl, .ref en, .ref t, .ref u, ns, tbD ps, ldD bs, rfl, y1, ht.ext hid_up, hu.ext hid_up, ok0.sd, ok0.se, ok0.law, fun G5 S5 => ⟨_, rfl, ?_⟩⟩
      rw [okl]
      refine iteF ?_
      have s5 := s4.same S5
      have tE5 := tE.ext (hid_same S5)
      have tT5 := ht.ext (hid_same S5)
      have tU5 := hu.ext (hid_same S5)
      have hen5 := S5 _ _ hen4
      clear tE ht hu hen4 upE y1 s4 S5
      refine ⟨.ref l, rfl, .ref en, rfl, .ref t, rfl, .ref u, rfl, l, li, c4, .ref en, .ref t, .ref u, ns, tbD ps, ldD bs, rfl, s5, tE5, nd, hn, by omega, tT5, tU5, ok0, by omega, fun G6 c6 e6 s6 b6 => ⟨true, rfl, iteF ?_⟩⟩
      have tE6 := tE5.ext (hid_S m1 m2 e6)
      have tT6 := tT5.ext (hid_S m1 m2 e6)
      have tU6 := tU5.ext (hid_S m1 m2 e6)
      have hen6 := e6 _ _ hen5 n1 n2
      clear tE5 tT5 tU5 hen5 e6 s5
      -- bent ones
      refine ⟨7, rfl, by decide, by decide, for_range (lo := 0) (n := (7 : Int).toNat) (fun j2 σ G => ∃ (a6 a7 : Option V) (c' : Int), σ = [some (.ref a), some (.ref l), some (.int (0 + (j : Nat))), some (.ref en), some (.ref t), some (.ref u), a6, a7, a8, none, none] ∧ Spr G l li c' ∧ c' ≤ c6 + 3010 * (j2 : Nat) ∧ ExtS l li G6 G) ⟨a6, a7, c6, rfl, s6, by simp, fun _ _ e _ _ => e⟩ (fun j2 σ G hj2 e => ?_) (fun σ G e => ?_)⟩
      · obtain ⟨a6, a7, c', rfl, sp, cb2, E⟩ := e
        have j7 : j2 < 7 := hj2
        refine ⟨.ref l, rfl, .ref en, rfl, .ref t, rfl, .ref u, rfl, l, li, en, c', ns, .ref t, .ref u, ps, bs, rfl, sp, E _ _ hen6 n1 n2, n1, n2, by omega, by omega, hn, tT6.ext (hid_S m1 m2 E), tU6.ext (hid_S m1 m2 E), fam.all, lp, lb, by omega, fun G7 r7 v' u' d' e' c7 e7 s7 b7 hr7 tv tu ok7 => ?_⟩
        refine gset ?_
        have E7 := E.trans e7
        refine ⟨.ref l, rfl, .ref en, rfl, .ref r7, rfl, ix_tp 0 (hid_up _ _ hr7) rfl ⟨.ref r7, rfl, ix_tp 1 (hid_up _ _ hr7) rfl ⟨l, li, c7, .ref en, v', u', ns, d', e', rfl, s7, tE6.ext (hid_S m1 m2 E7), nd, hn, by omega, tv, tu, ok7, by omega, fun G8 c8 e8 s8 b8 => ⟨true, rfl, iteF ?_⟩⟩⟩⟩
        exact ⟨_, _, c8, rfl, s8, by omega, E7.trans e8⟩
      · obtain ⟨a6, a7, c', rfl, sp, cb2, E⟩ := e
        have cb3 : c' ≤ c6 + 3010 * 7 := cb2
        clear cb2
        have tE7 := tE6.ext (hid_S m1 m2 E)
        have tT7 := tT6.ext (hid_S m1 m2 E)
        have tU7 := tU6.ext (hid_S m1 m2 E)
        clear tE6 tT6 tU6 hen6 E s6
        -- odd things
        have e0 : GvA [l, li] [some (.ref a), some (.ref l), some (.int (0 + (j : Nat))), some (.ref en), some (.ref t), some (.ref u), a6, a7, a8, none, none] G tNil [] := gva_nil
        have A := gva_cons (gv_non (S := [l, li]) (H0 := G) (σ := [some (.ref a), some (.ref l), some (.int (0 + (j : Nat))), some (.ref en), some (.ref t), some (.ref u), a6, a7, a8, none, none])) (gva_cons (gv_int (i := 5)) (gva_cons (gv_str (x := "ab")) (gva_cons gv_dict (gva_cons (gv_lst e0) (gva_cons (gv_tup e0) (gva_cons (gv_bl (b := true)) (gva_cons (gv_lst (gva_cons (gv_tup e0) e0)) (gva_cons (gv_lst (gva_cons gv_non e0)) (gva_cons (gv_lst (gva_cons (gv_lst e0) e0)) e0)))))))))
        refine asgS (lst_in (A G _ (fun _ _ e => e) sp.ins fun G1 vs x1 t1' => ⟨by rw [t1'.length]; exact small4 10, fun oa noa => ?_⟩))
        refine gset ?_
        clear A e0
        have no := (sp.same x1).new noa
        have x2 := same_new (o := .lst vs) noa
        have sp2 := (sp.same x1).same x2
        have X := x1.trans x2
        have to2 : ThAll (Hid [l, li] (upd G1 oa (.lst vs))) vs oddD := t1'.ext (hid_same x2)
        have tE8 := tE7.ext (hid_same X)
        have tT8 := tT7.ext (hid_same X)
        have tU8 := tU7.ext (hid_same X)
        have hoa := upd_same (H := G1) (a := oa) (o := .lst vs)
        generalize upd G1 oa (.lst vs) = G2 at sp2 to2 tE8 tT8 tU8 hoa ⊢
        clear tE7 tT7 tU7 x1 x2 X t1' noa sp
        have lvs : vs.length = 10 := to2.length
        refine if_intro (notB (all_in ⟨.ref oa, rfl, oa, rfl, ⟨vs, .inl (.inl hoa)⟩, fun D hD => lc_list (xs := vs) (fun i G' => ∃ c9 : Int, G' D = some (.lst (List.replicate i (.bl true))) ∧ Spr G' l li c9 ∧ c9 ≤ c' + 6000 * (i : Nat) ∧ ExtS l li G2 G') ⟨c', upd_same, sp2.same (same_new hD), by simp, same_S (same_new hD)⟩ (fun i H2 _ e => ?_) (fun i x H2 hi e => ?_) (fun H2 e => ?_)⟩))
        · obtain ⟨_, _, _, _, E⟩ := e
          exact .inl (.inl (E _ _ hoa no.1 no.2))
        · obtain ⟨c9, hDl, sp9, cb9, E9⟩ := e
          have nD := sp2.new hD
          have i10 : i < 10 := by
            have := (List.getElem?_eq_some_iff.mp hi).1
            omega
          obtain ⟨z, hz, tz⟩ := to2.get hi
          obtain ⟨az, lz1, lz2⟩ := odd_ok ns z (List.mem_of_getElem? hz)
          refine ⟨rfl, ?_⟩
          unfold tYes
          show (if true = true then _ else _)
          rw [if_pos rfl]
          refine ⟨.ref l, rfl, .ref en, rfl, x, rfl, .ref u, rfl, l, li, c9, .ref en, x, .ref u, ns, z, ldD bs, rfl, sp9, tE8.ext (hid_S m1 m2 E9), nd, hn, by omega, tz.ext (hid_S m1 m2 E9), tU8.ext (hid_S m1 m2 E9), OkT.of az aL lz1 lL, by omega, fun G7 c7 e7 s7 b7 => ⟨true, rfl, iteT ?_⟩⟩
          have E7 := E9.trans e7
          refine ⟨.ref l, rfl, .ref en, rfl, .ref t, rfl, x, rfl, l, li, c7, .ref en, .ref t, x, ns, tbD ps, z, rfl, s7, tE8.ext (hid_S m1 m2 E7), nd, hn, by omega, tT8.ext (hid_S m1 m2 E7), tz.ext (hid_S m1 m2 E7), OkT.of aT az lT lz2, by omega, fun G8 c8 e8 s8 b8 => ?_⟩
          have hD8 := e8 _ _ (e7 _ _ hDl nD.1 nD.2) nD.1 nD.2
          refine ⟨_, hD8, by rw [List.length_replicate, sizeLine_eq]; omega, c8, by rw [upd_same, List.replicate_succ'], s8.upd nD.1 nD.2, by omega, Exc.ext (E7.trans e8) hD Exc.upd⟩
        · obtain ⟨c9, hDl, sp9, cb9, E9⟩ := e
          rw [lvs] at cb9
          refine ⟨D, List.replicate vs.length true, rfl, .inl (.inl (by rw [List.map_replicate]; exact hDl)), true, by rw [rep_all], iteF ?_⟩
          exact ⟨_, _, _, _, _, _, _, c9, rfl, sp9, by omega⟩
    · obtain ⟨a2, a3, a4, a5, a6, a7, a8, c, rfl, sp, cb⟩ := e
      clear s1 ss e1 n1 n2 cb
      have sm : ∀ {G : Hp}, L2.Same G G := fun _ _ e => e
      have e0 : GvA [l, li] [some (.ref a), some (.ref l), a2, a3, a4, a5, a6, a7, a8, none, none] G tNil [] := gva_nil
      have pr : ∀ {te : TE} {z : PyData} {i : Int}, Gv [l, li] [some (.ref a), some (.ref l), a2, a3, a4, a5, a6, a7, a8, none, none] G te z → Gv [l, li] [some (.ref a), some (.ref l), a2, a3, a4, a5, a6, a7, a8, none, none] G (tTup (tCons te (tCons (tC (.int i)) tNil))) (.tuple [z, .int i]) := fun h => gv_tup (gva_cons h (gva_cons gv_int e0))
      have A := gva_cons (pr gv_non (i := 0)) (gva_cons (pr (gv_str (x := "ab")) (i := 0)) (gva_cons (pr gv_dict (i := 0)) (gva_cons (pr (gv_lst (gva_cons (gv_str (x := "a")) (gva_cons (gv_str (x := "a")) e0))) (i := 1)) (gva_cons (pr (gv_lst (gva_cons (gv_str (x := "a")) (gva_cons (gv_int (i := 5)) e0))) (i := 1)) (gva_cons (pr (gv_lst (gva_cons (gv_str (x := "x")) e0)) (i := 0)) (gva_cons (pr (gv_lst (gva_cons (gv_str (x := "a")) (gva_cons (gv_str (x := "b")) (gva_cons (gv_str (x := "stop")) e0)))) (i := 2)) e0))))))
      refine asgS (lst_in (A G _ sm sp.ins fun G1 vs x1 t1' => ⟨by rw [t1'.length]; exact small4 7, fun oa noa => ?_⟩))
      refine gset ?_
      clear A e0 pr
      have x2 := same_new (o := .lst vs) noa
      have to2 : ThAll (upd G1 oa (.lst vs)) vs (badD.map badP) := (t1'.ext hid_up).ext x2
      have hoa := upd_same (H := G1) (a := oa) (o := .lst vs)
      generalize upd G1 oa (.lst vs) = G2 at to2 hoa ⊢
      clear x1 x2 t1' noa sp
      have lvs : vs.length = 7 := to2.length
      refine ifS_intro (notB (all_in ⟨.ref oa, rfl, oa, rfl, ⟨vs, .inl (.inl hoa)⟩, fun D hD => lc_list (xs := vs) (fun i G' => G' D = some (.lst (List.replicate i (.bl true))) ∧ L2.Same G2 G') ⟨upd_same, same_new hD⟩ (fun i H2 _ e => .inl (.inl (e.2 _ _ hoa))) (fun i x H2 hi e => ?_) (fun H2 e => ?_)⟩))
      · obtain ⟨hDl, E9⟩ := e
        have i7 : i < 7 := by
          have := (List.getElem?_eq_some_iff.mp hi).1
          omega
        obtain ⟨z, hz, tz⟩ := to2.get hi
        obtain ⟨p, hp, rfl⟩ := List.mem_map.mp (List.mem_of_getElem? hz)
        obtain ⟨b1, b2, b3⟩ := bad_ok p hp
        unfold badP at tz
        cases tz with
        | @tup pa xs _ hpa rr =>
          cases rr with
          | @cons v0 _ _ _ t0 rr =>
            cases rr with
            | @cons v1 _ _ _ t1 rr =>
              cases rr
              cases t1
              refine ⟨pa, _, rfl, .inl (.inl (E9 _ _ hpa)), rfl, _, _, rfl, _, _, rfl, rfl, ?_⟩
              refine ⟨rfl, ?_⟩
              unfold tYes
              show (if true = true then _ else _)
              rw [if_pos rfl]
              refine ⟨v0, rfl, .int (p.2 : Nat), rfl, v0, p.1, p.2, rfl, ⟨t0.ext E9, b2, b3⟩, b1, fun G7 S7 => ?_⟩
              refine ⟨_, S7 _ _ hDl, by rw [List.length_replicate, sizeLine_eq]; omega, by rw [upd_same, List.replicate_succ'], fun b o eb => ?_⟩
              rw [upd_ne (ne_of_none eb hD)]
              exact S7 _ _ (E9 _ _ eb)
      · obtain ⟨hDl, E9⟩ := e
        refine ⟨D, List.replicate vs.length true, rfl, .inl (.inl (by rw [List.map_replicate]; exact hDl)), true, by rw [rep_all], iteF ?_⟩
        clear hDl E9 hD to2 hoa
        -- no ends at all
        refine nx_intro ?_
        refine ⟨Nat.zero_le _, fun p1 np1 => ⟨Nat.zero_le _, fun p2 np2 => ⟨Nat.zero_le _, fun p3 np3 => ?_⟩⟩⟩
        have S1 := same_new (o := .lst []) np1
        have S2 := same_new (o := .lst []) np2
        have S3 := same_new (o := .lst []) np3
        have tp1 : Th (upd (upd (upd H2 p1 (.lst [])) p2 (.lst [])) p3 (.lst [])) (.ref p1) (.list []) := .lst (S3 _ _ (S2 _ _ upd_same)) .nil
        have tp2 : Th (upd (upd (upd H2 p1 (.lst [])) p2 (.lst [])) p3 (.lst [])) (.ref p2) (.list []) := .lst (S3 _ _ upd_same) .nil
        have tp3 : Th (upd (upd (upd H2 p1 (.lst [])) p2 (.lst [])) p3 (.lst [])) (.ref p3) (.list []) := .lst upd_same .nil
        obtain ⟨y1, y2, y3⟩ := ends_ok (ns := []) tp1 rfl rfl .nil (fun s h => nomatch h) (by decide)
        refine ⟨.ref p1, .ref p2, .ref p3, [], .list [], .list [], .list [], rfl, y1, y2, y3, tp2, cnt_Sz 3 _ (by decide), tp3, cnt_Sz 2 _ (by decide), fun G5 S5 => ?_⟩
        generalize upd (upd (upd H2 p1 (.lst [])) p2 (.lst [])) p3 (.lst []) = G3 at S5
        clear S1 S2 S3 tp1 tp2 tp3 y1 y2 y3 np1 np2 np3
        refine ⟨Nat.zero_le _, fun p1 np1 => ⟨Nat.zero_le _, fun p2 np2 => ⟨Nat.zero_le _, fun p4 np4 => ⟨Nat.zero_le _, fun p5 np5 => ⟨small4 3, fun p6 np6 => ⟨small4 1, fun p3 np3 => ?_⟩⟩⟩⟩⟩⟩
        have S1 := same_new (o := .lst []) np1
        have S2 := same_new (o := .lst []) np2
        have S4 := same_new (o := .lst []) np4
        have S6 := same_new (o := .lst []) np5
        have S7 := same_new (o := .tup [.str "a", .ref p4, .ref p5]) np6
        have S8 := same_new (o := .lst [.ref p6]) np3
        have tp1 : Th _ (.ref p1) (.list []) := .lst (S8 _ _ (S7 _ _ (S6 _ _ (S4 _ _ (S2 _ _ upd_same))))) .nil
        have tp2 : Th _ (.ref p2) (.list []) := .lst (S8 _ _ (S7 _ _ (S6 _ _ (S4 _ _ upd_same)))) .nil
        have tp3 : Th _ (.ref p3) (.list [.tuple [.str "a", .list [], .list []]]) := .lst upd_same (.cons (.tup (S8 _ _ upd_same) (.cons (.str _) (.cons (.lst (S8 _ _ (S7 _ _ (S6 _ _ upd_same))) .nil) (.cons (.lst (S8 _ _ (S7 _ _ upd_same)) .nil) .nil)))) .nil)
        obtain ⟨y1, y2, y3⟩ := ends_ok (ns := []) tp1 rfl rfl .nil (fun s h => nomatch h) (by decide)
        refine ⟨.ref p1, .ref p2, .ref p3, [], .list [], .list [], .list [.tuple [.str "a", .list [], .list []]], rfl, y1, y2, y3, tp2, cnt_Sz 3 _ (by decide), tp3, cnt_Sz 2 _ (by decide), fun G6 S9 => ?_⟩
        clear S1 S2 S4 S6 S7 S8 S9 tp1 tp2 tp3 y1 y2 y3
        rw [show tabB [] (.list []) (.list []) = true by rfl, show tabB [] (.list []) (.list [.tuple [.str "a", .list [], .list []]]) = false by rfl]
        refine ⟨small4 2, fun q1 nq1 => ⟨small4 2, fun q2 nq2 => ?_⟩⟩
        have T2 := same_new (o := .lst [.bl true, .bl false]) nq2
        exact ⟨.ref q1, .ref q2, .list [.bool true, .bool false], rfl, .lst (T2 _ _ upd_same) (.cons (.bl _) (.cons (.bl _) .nil)), .lst upd_same (.cons (.bl _) (.cons (.bl _) .nil)), rfl, fun G7 _ => k G7⟩
end
end K14.T27
namespace Kz
open PySem PySem.W PySem.Calls PyProof.Rows L2 LamX

/-! ### the end: the script's list and the tables alone are followed -/
section
variable {P : Program} {w : World} {K : Frag} {mg mb : Str → Option Value} {s : Shared} {cs : List (Addr × Addr)} {a : Addr} {vs : List Value} {ns : List Int}
/-- the script's list as it stands -/
abbrev scO (vs : List Value) : Obj := { cls := .type "list", data := .seq vs.toArray }
abbrev emO : Obj := { cls := .none, data := .fields #[] }
/-- what is followed at the law's start: fr, whether the script's list is (it isn't where the written part holds it) -/
def endH (cs : List (Addr × Addr)) (a : Addr) (vs : List Value) (ns : List Int) (fr : Bool) : Hp := fun b => if b ∈ cs.map (·.2) then some (.tbl #[]) else if fr = true ∧ b = a then some (.frz (scO vs) (.lst (ns.map V.int))) else none
theorem endH_tab {fr : Bool} {p : Addr × Addr} (hp : p ∈ cs) : endH cs a vs ns fr p.2 = some (.tbl #[]) := if_pos (List.mem_map.mpr ⟨p, hp, rfl⟩)
theorem endH_cases {fr : Bool} {b : Addr} {o : HO} (h : endH cs a vs ns fr b = some o) : (b ∈ cs.map (·.2) ∧ o = .tbl #[]) ∨ (fr = true ∧ b = a ∧ o = .frz (scO vs) (.lst (ns.map V.int))) := by
  unfold endH at h
  by_cases h1 : b ∈ cs.map (·.2)
  · rw [if_pos h1] at h
    exact .inl ⟨h1, (Option.some.inj h).symm⟩
  · rw [if_neg h1] at h
    by_cases h2 : fr = true ∧ b = a
    · rw [if_pos h2] at h
      exact .inr ⟨h2.1, h2.2, (Option.some.inj h).symm⟩
    · rw [if_neg h2] at h
      cases h
theorem end_law {CX : CXT} {k : Nat} {fa : Addr} {fd : FuncData} {x : Str} {sp : Sp} (KX : K.In s.heap) (hns : s.heap.Ns mainGlobals mg) (hb : s.heap.Ns builtinsNs mb) (hbb : ∀ y : Str, y ≠ "__name__" → mb y = bootBuiltins y) (hlim : s.heap.NoLimit) (hg : s.gens = #[])
    (hT : ∀ p ∈ cs, s.heap.get? p.2 = some emO) (nT : ∀ p ∈ cs, K.lookup p.2 = none) (C : ∀ p ∈ cs, CodeHd s.heap p.1 p.2)
    (hbm : ∃ (bm : Addr) (ob : Obj), mg "__builtins__" = some (.ref bm) ∧ bm ≠ builtinsNs ∧ s.heap.get? bm = some ob ∧ ob.cls = .type "module" ∧ ob.dict = some builtinsNs ∧ ob.data = .plain)
    (ha : s.heap.get? a = some (scO vs)) (hi : IntsAre vs ns) (hl : ns.length ≤ sizeLine) (hr : Room k callerA)
    (G : ∀ base : Heap, K.In base → base.Ns mainGlobals mg → (∀ p ∈ cs, TabB base mg p.1 p.2) → FnG P w K mg base CX k fa fd [x] sp) (hbind : ∀ (s : Shared) (u : Value), BindsTo s fd ⟨[u], []⟩ [(x, u)])
    (hsp : ∀ H : Hp, (∀ p ∈ cs, H p.2 = some (.tbl #[])) → SqL K H a (ns.map V.int) → sp [.ref a] H (fun v _ => v = .bl true) fun _ _ _ => False) (hCX : ∀ H e s', CX [] H s (fun _ _ _ => False) e s' → False) :
    codeAny (model P w) callerA (.call (.ref fa) ⟨[.ref a], []⟩) (fun r s' => r = .ok (.ret (.bool true)) ∧ OldK s.heap s'.heap ∧ s'.os = s.os ∧ AllBare s'.gens) s := by
  have rv := vals_ints hi
  have lv := hi.length
  have tabAt : ∀ b, b ∈ cs.map (·.2) → s.heap.get? b = some emO := fun b hb => by
    obtain ⟨p, hp, rfl⟩ := List.mem_map.mp hb
    exact hT p hp
  have tabK : ∀ b, b ∈ cs.map (·.2) → K.lookup b = none := fun b hb => by
    obtain ⟨p, hp, rfl⟩ := List.mem_map.mp hb
    exact nT p hp
  have aN : a ∉ cs.map (·.2) := fun z => by
    have q := (tabAt a z).symm.trans ha
    cases congrArg (fun o : Option Obj => o.map (·.data)) q
  generalize hfr : (K.lookup a).isNone = fr
  have eA : fr = true → K.lookup a = none := fun z => by
    rw [z] at hfr
    exact Option.isNone_iff_eq_none.mp hfr
  have hS : SqL K (endH cs a vs ns fr) a (ns.map V.int) := by
    cases fr with
    | true => exact .inl (.inr ⟨scO vs, by unfold endH; rw [if_neg aN, if_pos ⟨rfl, rfl⟩]⟩)
    | false =>
      cases q : K.lookup a with
      | none => rw [q] at hfr; cases hfr
      | some o =>
        obtain rfl : scO vs = o := Option.some.inj (ha.symm.trans (KX a o q))
        exact .inr ⟨_, vs.toArray, _, q, rfl, rfl, rfl, by rw [List.size_toArray, lv]; exact hl, by simpa using rv⟩
  have hok : HOk P w (endH cs a vs ns fr) s.heap := fun b o e => by
    rcases endH_cases e with ⟨h1, rfl⟩ | ⟨h1, rfl, rfl⟩
    · exact tabAt b h1
    · exact ⟨ha, by rw [List.length_map]; exact hl, vs, _, rv, ha⟩
  -- what is not followed stands in the base
  have toB : ∀ {b : Addr} {o : Obj}, s.heap.get? b = some o → (∀ vs n, o.data ≠ .seq vs n) → o.data ≠ .fields #[] → (hidT s.heap (endH cs a vs ns fr)).get? b = some o := fun {b o} e h1 h2 => hidT_get e (by
    cases q : endH cs a vs ns fr b with
    | none => rfl
    | some u =>
      rcases endH_cases q with ⟨z, _⟩ | ⟨_, rfl, _⟩
      · exact absurd (congrArg Obj.data (Option.some.inj (e.symm.trans (tabAt b z)))) h2
      · exact absurd (congrArg Obj.data (Option.some.inj (e.symm.trans ha))) (h1 _ _))
  have nsB : ∀ {b : Addr} {m : Str → Option Value}, s.heap.Ns b m → (hidT s.heap (endH cs a vs ns fr)).Ns b m := fun {b m} ⟨o, es, ep, e, d, r⟩ => ⟨o, es, ep, toB e (fun _ _ z => by rw [d] at z; cases z) (fun z => by rw [d] at z; cases z), d, r⟩
  have kB : K.In (hidT s.heap (endH cs a vs ns fr)) := fun b o e => hidT_get (KX b o e) (by
    cases q : endH cs a vs ns fr b with
    | none => rfl
    | some u =>
      rcases endH_cases q with ⟨z, _⟩ | ⟨z, rfl, _⟩
      · rw [tabK b z] at e; cases e
      · rw [eA z] at e; cases e)
  have M : L2.Mod K mg (hidT s.heap (endH cs a vs ns fr)) := ⟨kB, nsB hns, ⟨mb, nsB hb, hbb⟩, let ⟨mc, h1, h2⟩ := hlim; ⟨mc, nsB h1, h2⟩⟩
  have TB : ∀ p ∈ cs, TabB (hidT s.heap (endH cs a vs ns fr)) mg p.1 p.2 := fun p hp => by
    have tp := hT p hp
    refine ⟨?_, ?_, fun z => ?_⟩
    · obtain ⟨o, us, file, tf, flags, tg, inF, text, tt, e1, e2, e3, e4, r⟩ := C p hp
      exact ⟨o, us, file, tf, flags, tg, inF, text, tt, toB e1 (fun _ _ z => by rw [e3] at z; cases z) (fun z => by rw [e3] at z; cases z; simp at e4), e2, e3, e4, r⟩
    · obtain ⟨bm, ob, b1, b2, b3, b4, b5, b6⟩ := hbm
      refine ⟨bm, ob, b1, b2, fun q => ?_, fun q => ?_, toB b3 (fun _ _ z => by rw [b6] at z; cases z) (fun z => by rw [b6] at z; cases z), b4, b5, b6⟩
      · obtain ⟨o, es, ep, e, hd, _⟩ := hns
        rw [q, e] at b3
        cases b3
        rw [hd] at b6
        cases b6
      · rw [q, tp] at b3
        cases b3
        cases b6
    · obtain ⟨o, es, ep, e, hd, _⟩ := hns
      rw [z, tp] at e
      cases e
      cases hd
  have E0 : Env0 P w K mg (hidT s.heap (endH cs a vs ns fr)) callerA [] s (endH cs a vs ns fr) := ⟨rfl, M, fun b o e => of_hidT e, Nat.le_of_eq (hidT_size _ _), trivial, fun b hb => (nomatch (show b ∈ ([] : List Addr) from hb)), hok, .of_eq hg⟩
  refine codeAny_mono ((G _ kB (nsB hns) TB).run callerA [] s _ ⟨[.ref a], []⟩ [.ref a] [.ref a] _ _ rfl hr E0 (hbind s (.ref a)) (.cons rfl .nil) (hsp _ (fun p hp => endH_tab hp) hS)) fun r s' h => ?_
  cases r with
  | error e => exact (hCX _ e s' h).elim
  | ok fl =>
    cases fl with
    | ret u =>
      obtain ⟨v, H', os, bare, un, hok', r', q⟩ := h
      obtain rfl : v = .bl true := q
      obtain rfl : u = Value.bool true := r'
      have keep : ∀ b o, b ∉ cs.map (·.2) → s.heap.get? b = some o → s'.heap.get? b = some o := fun b o nb e => by
        cases q : endH cs a vs ns fr b with
        | none => exact un.keep b o e q (fun z => nomatch (show b ∈ ([] : List Addr) from z)) (by simp)
        | some u =>
          rcases endH_cases q with ⟨z, _⟩ | ⟨_, _, rfl⟩
          · exact absurd z nb
          · have e1 := (hok b _ q).1
            rw [Option.some.inj (e.symm.trans e1)]
            exact (hok' b _ (un.frzs b _ _ q)).1
      have grow : ∀ b, b ∈ cs.map (·.2) → ∃ c, CodeHd s.heap c b ∧ ∃ more : Array Value, s'.heap.get? b = some { cls := .none, data := .fields more } := fun b hb => by
        obtain ⟨p, hp, rfl⟩ := List.mem_map.mp hb
        obtain ⟨more, z⟩ := un.tbls p.2 #[] (endH_tab hp)
        exact ⟨p.1, C p hp, _, hok' p.2 _ z⟩
      refine ⟨rfl, ⟨fun b o e => ?_, fun b o e => ?_⟩, os, bare⟩
      · by_cases hb : b ∈ cs.map (·.2)
        · obtain ⟨c, hc, more, hm⟩ := grow b hb
          obtain rfl : emO = o := Option.some.inj ((tabAt b hb).symm.trans e)
          exact .inr (.inl ⟨(hc.tab (tabAt b hb)).isCodeTable, rfl, #[], more, rfl, by rw [Array.empty_append]; exact hm⟩)
        · exact .inl (keep b o hb e)
      · by_cases hb : b ∈ cs.map (·.2)
        · obtain ⟨c, hc, more, hm⟩ := grow b hb
          exact ⟨_, hm⟩
        · exact ⟨o, keep b o hb e⟩
    | _ => exact h.elim
end
end Kz
namespace Kz
open PySem PySem.W PySem.Calls PyProof.Rows L2 LamX
open He (ga ma eqO eqO_ok ba)
theorem walk_G {l : OpenLaw} {n k : Nat} {q : Program} {loose : List Str} {XP : (Str → Option Value) → Heap → Prop} {YP : World → Heap → Prop} {d : DefRec} {CX : World → CXT} {x : Str} (hn : l.most = some n) (hn2 : n ≤ sizeLine) (hdf : d.params.defaults = []) (hr : Room k callerA)
    (F : ∀ (w : World) (mg : Str → Option Value) (fa : Addr) (h : Heap), YP w h → h.Ns mainGlobals mg → mg d.name = some (.ref fa) → ∃ (K : Frag) (fd : FuncData) (cs : List (Addr × Addr)) (sp : Sp), K.In h ∧ (∀ p ∈ cs, h.get? p.2 = some emO) ∧ (∀ p ∈ cs, K.lookup p.2 = none) ∧ (∀ p ∈ cs, CodeHd h p.1 p.2) ∧
      (∀ (s : Shared) (u : Value), BindsTo s fd ⟨[u], []⟩ [(x, u)]) ∧ (∀ (H : Hp) (a : Addr) (ns : List Int), ns.length ≤ n → (∀ p ∈ cs, H p.2 = some (.tbl #[])) → SqL K H a (ns.map V.int) → sp [.ref a] H (fun v _ => v = .bl true) fun _ _ _ => False) ∧
      ∀ base : Heap, K.In base → base.Ns mainGlobals mg → (∀ p ∈ cs, TabB base mg p.1 p.2) → FnG l.prog w K mg base (CX w) k fa fd [x] sp)
    (hCX : ∀ (w : World) (H : Hp) (s : Shared) (e : Value) (s' : Shared), CX w [] H s (fun _ _ _ => False) e s' → False) : WalkO q loose XP YP l.row.toRowW d [] (fun f vs => PySem.call f vs) := by
  refine Att.attach_callB hn hdf fun w s0 s1 mg mb fa o pm cd doc a vs ns G Y ho hd hcd hmg hobj hints hlen hbits hg => ?_
  obtain ⟨K, fd, cs, sp, KX, hT, nT, C, hb, hsp, hF⟩ := F w mg fa _ Y G.T.g hmg
  exact end_law KX G.T.g G.T.b G.T.builtins G.T.nolimit hg hT nT C G.T.bmain hobj hints (Nat.le_trans hlen hn2) hr hF hb (fun H hH hS => hsp H a ns hlen hH hS) fun H e s' => hCX w H s1 e s'

/-! ### what the looks say of a class -/
end Kz
namespace K14.T27
open PySem PySem.W PySem.Calls PyProof.Rows L2 LamX
open He (ga ma eqO ba frT fAd)
open K14.Gn
def pgm : Program := PySem.Challenge.pw_twinforks_k27_whole_tables
def FEa (K : Frag) : Addr := ga K "ForkError"
def veT : List Value := [.type "ValueError", .type "Exception", .type "BaseException", .type "object"]
def shapeB (K : Frag) (FE C : Addr) : Bool := match K.lookup C with
  | some ⟨.type t, _, .cls cd, sl⟩ => decide (t = "type") && (decide (cd.mro = .ref C :: .ref FE :: veT) && (cd.hasDict && (!cd.hasDel && (match sl.toList with | [_, _, _, _, some (.builtin n), _] => decide (n = "ValueError.__new__") | _ => false))))
  | _ => false
def initB (K : Frag) (C : Addr) : Bool := match K.lookup (ma K C "__init__") with
  | some ⟨cl, _, .func fd, _⟩ => decide (cl = .type "function") && ((match fd.code with
    | .ref c => codeIn K (.ref c) fd.qualname && (match K.lookup c with
      | some ⟨_, _, .fields vs, _⟩ => (match (vs[2]? : Option Value) with | some (.str file _) => (pgm.main.file : Str) == file | _ => false)
      | _ => false)
    | _ => false) && (match fd.closure with
    | [(_, cc)] => (match K.lookup cc with | some ⟨_, _, .cell (some v), _⟩ => decide (v = .ref C) | _ => false)
    | _ => false))
  | _ => false
def xiB (K : Frag) (C : Addr) : Bool := xfB K C && ((clsIn K C).isSome && (eqO (findIn K (.ref C) "__class__") (some (some (.builtin "object.__class__"))) && decide (mroIn K C (.type "object") = some true)))
def clsB (K : Frag) (FE C : Addr) (fs : List Str) : Bool :=
  shapeB K FE C && (initB K C && (xiB K C && (eqO (findIn K (.ref C) "__setattr__") (some (some (.builtin "object.__setattr__"))) && (keepIn K (.ref C) && (eqO (findIn K (.ref C) "__init__") (some (some (.ref (ma K C "__init__")))) &&
    (decide (ks_superIn K C C "__init__" = some (some (.builtin "ValueError.__init__"))) && (decide (subIn K (.ref C) (.type "ValueError") = some true) && (decide (mroIn K C (.ref C) = some true) &&
    (decide (kitOne K (.ref C) (.ref FE) = some true) && (decide (kitOne K (.ref C) (.type "ValueError") = some true) && (decide (kitOne K (.ref C) (.type "LookupError") = some false) && fs.all fun f => eqO (findIn K (.ref C) f) (some none))))))))))))
def feB (K : Frag) (FE : Addr) : Bool := xiB K FE && (keepIn K (.ref FE) && (excIn K FE veT "ValueError.__new__" && (decide (kitOne K (.ref FE) (.type "ValueError") = some true) && (match K.lookup FE with
  | some ⟨_, _, .cls cd, _⟩ => decide (cd.mro = .ref FE :: veT)
  | _ => false))))
def oncB (K : Frag) : Bool := decide (nsIn K cStatics "thirdparty.any" = some none) && (decide (specialIn K (.builtin "object.__class__") "__get__" = some (some (.builtin "getset_descriptor.__get__"))) && decide (takesIn K (.builtin "object.__class__") = some true))
def ones : List (Str × Str) := [("BadEnds", "index")]
def strV : Value → Option Str
  | .str x _ => some x
  | _ => none
def keptK (K : Frag) : Bool := match K.lookup (ga K "KEPT") with
  | some ⟨cl, _, .seq its _, _⟩ => decide (cl = .type "tuple") && (decide (its.toList.map strV = kept.map some) && decide (its.size ≤ 10))
  | _ => false
def sysB (K : Frag) : Bool := match K.lookup sysModules with
  | some o => decide (o.cls = .type "dict")
  | none => false
def dsAll (K : Frag) : List Addr := ones.map fun p => ga K p.1
def exZ (K : Frag) : Bool := oncB K && (feB K (FEa K) && (decide ((FEa K :: dsAll K).Nodup) && ((ones.all fun p => clsB K (FEa K) (ga K p.1) [p.2]) && (keptK K && sysB K))))
/-! the texts of the classes' own -/
abbrev FnI : Type := Option (Str × Str × Arguments × FuncBody × Scope × Addr × Value × Addr × List Str)
def fnI (K : Frag) (C : Addr) : FnI := match K.lookup (ma K C "__init__") with
  | some ⟨_, _, .func fd, _⟩ => some (fd.name, fd.qualname, fd.params, fd.body, fd.scope, fd.globals, fd.defaults, fd.builtins, fd.closure.map (·.1))
  | _ => none
def initS : Stmt → Stmt
  | .ClassDef _ _ _ (i :: _) _ _ _ _ _ _ _ => i
  | s => s
/-- the class that the top's i-th statement makes -/
def clsName : Stmt → Str
  | .ClassDef n _ _ _ _ _ _ _ _ _ _ => n
  | _ => ""
def valI (st : Stmt) : FnI := some ("__init__", clsName st ++ ".__init__", defArgs (initS st), .stmts (defBody (initS st)), defScope (initS st), mainGlobals, .none, builtinsNs, ["__class__"])

/-! ### what the head looks at -/
def glG (g : Addr → Option Obj) (x : Str) : Addr := match g mainGlobals with
  | some ⟨_, _, .dict es _, _⟩ => (match es.toList.find? (·.key.isStr x) with | some e => (match e.val with | .ref a => a | _ => 0) | none => 0)
  | _ => 0
def fnG (g : Addr → Option Obj) (f : Addr) : List Addr := match g f with
  | some ⟨_, _, .func fd, _⟩ => (match fd.code with | .ref c => [c] | _ => []) ++ fd.closure.map (·.2)
  | _ => []
def moreG (g : Addr → Option Obj) (a : Addr) : List Addr := match g a with
  | some ⟨_, _, .cls cd, _⟩ => cd.ns :: (match g cd.ns with
    | some ⟨_, _, .dict es _, _⟩ => es.toList.flatMap fun e => match e.val with | .ref f => f :: fnG g f | _ => []
    | _ => [])
  | some ⟨_, _, .func _, _⟩ => fnG g a
  | _ => []
def clsNames : List Str := ones.map (·.1)
def defNames1 : List Str := ["is_list", "is_pair", "is_number", "begins_name", "is_name", "first_no_end", "check_ends", "is_figure", "is_row", "is_box_at", "are_apart", "boxes_apart", "all_apart", "is_new_box", "is_new_pair", "boxes_in", "first_no_pair", "first_not_shut", "is_table"]
def defNames2 : List Str := ["_law_ends", "_law_t_halves", "_law_t_meet", "_law_t_table", "_law_start", "_law_draw", "_law_pick", "_law_mixed", "_law_same", "_law_loose", "_law_is_box", "_law_is_table", "_law_bent_box", "_law_bent", "_law_right", "_law_refused", "law"]
def defNames : List Str := defNames1 ++ defNames2
def allNames : List Str := ("ForkError" : Str) :: ("KEPT" : Str) :: (clsNames ++ defNames)
def needs (g : Addr → Option Obj) : List Addr := mainGlobals :: cStatics :: sysModules :: allNames.flatMap fun x => glG g x :: moreG g (glG g x)
def defAt (i : Nat) : He.DefD := match topS i with
  | .FunctionDef n a b _ _ _ sc _ _ _ => ⟨(n, none), n, n, a, b, sc, [], []⟩
  | _ => ⟨("", none), "", "", ⟨[], [], none, [], [], none, []⟩, [], ⟨.function, [], false, false, []⟩, [], []⟩
def fns : List He.DefD := [defAt 8, defAt 9, defAt 10, defAt 11, defAt 12, defAt 13, defAt 14, defAt 16, defAt 17, defAt 18, defAt 19, defAt 20, defAt 22, defAt 23, defAt 24, defAt 25, defAt 26, defAt 27, defAt 29, defAt 31, defAt 32, defAt 33, defAt 34, defAt 35, defAt 36, defAt 37, defAt 38, defAt 39, defAt 40, defAt 41, defAt 42, defAt 43, defAt 44, defAt 45, defAt 46, defAt 47]
def fas : List He.Fa := allNames.map He.Fa.glo ++ [.free "super", .free "list", .free "int", .free "len", .free "range", .free "isinstance", .free "repr", .free "tuple", .free "dict", .free "zip", .free "all", .free "any", .free "sum", .free "enumerate", .free "bool", .free "str", .free "min", .str "LETTERS" letters, .str "NAME_SIGNS" signs, .int "LONGEST_NAME" 8]
def stsI : List Stmt := [topS 2]
abbrev AlZ : Type := He.AlD × (List FnI × Bool)
def obsK (K : Frag) : AlZ := (He.obsD fas fns K, (clsNames.map fun x => fnI K (ga K x)), exZ K)
def obsZ (g : Addr → Option Obj) : AlZ := obsK (frT g (needs g))
def valZ : AlZ := (He.valD fns, stsI.map valI, true)
def hookZ : Hook where
  α := AlZ
  obs := fun s => obsZ s.heap.get?
  val := fun _ => valZ
  says := fun _ h => ∃ K : Frag, K.In h ∧ (He.obsD fas fns K = He.valD fns ∧ (clsNames.map fun x => fnI K (ga K x)) = stsI.map valI) ∧ exZ K = true
  of := fun _ h e => by
    have e1 := congrArg (fun z : AlZ => z.1) e
    have e2 := congrArg (fun z : AlZ => z.2.1) e
    have e3 := congrArg (fun z : AlZ => z.2.2) e
    exact ⟨_, He.frT_in, ⟨e1, e2⟩, e3⟩
  keeps := fun _ _ _ ⟨K, hK, c, c2⟩ k => ⟨K, Frag.In.keeps hK k, c, c2⟩
def obZ (s : SharedT) : AlZ := obsZ (HandSHeadRun.getT s)
theorem obZ_eq (s : SharedT) : obZ s = hookZ.obs s.abs := by
  have e : HandSHeadRun.getT s = s.abs.heap.get? := funext (HandSHeadRun.getT_eq s)
  show obsZ (HandSHeadRun.getT s) = obsZ s.abs.heap.get?
  rw [e]
abbrev RZ : OpenRow := OpenLaw.row PySem.Challenge.rw_twinforks_k27_whole_tables
def nms1 : List Str := (["ForkError", "BadEnds", "KEPT", "LETTERS", "NAME_SIGNS", "LONGEST_NAME"] : List Str) ++ defNames1
def nms2 : List Str := ["_law_ends", "_law_t_halves", "_law_t_meet", "_law_t_table", "_law_start", "_law_draw", "_law_pick", "_law_mixed", "_law_same", "_law_loose", "_law_is_box", "_law_is_table", "_law_bent_box", "_law_bent", "_law_right", "_law_refused"]
def nms : List Str := nms1 ++ nms2
end K14.T27
namespace K14.T27
open PySem PySem.W PySem.Calls PyProof.Rows L2 LamX
open He (ga ma eqO eqO_ok ba)
open K14.Gn
open Kz (XF X1 ScI sSuper sPut)
/-! ### what the looks say of a class -/
section
variable {K : Frag} {FE C : Addr} {fs : List Str}
theorem shape_ok (h : shapeB K FE C = true) : (∃ nm q N bs sn sub ab col dd k0 k1 k2 k3 k5, K.lookup C = some (excClassObj nm q C N bs (.ref FE :: veT) true sn sub ab col dd k0 k1 k2 k3 k5 "ValueError.__new__")) := by
  unfold shapeB at h
  split at h
  · rename_i t od cd sl q
    obtain ⟨h1, h2⟩ := ba h
    obtain ⟨h3, h4⟩ := ba h2
    obtain ⟨h5, h6⟩ := ba h4
    obtain ⟨h7, h8⟩ := ba h6
    split at h8
    · rename_i k0 k1 k2 k3 n k5 e
      obtain ⟨nm, bs, mro, N, qn, hd, sn, sub, ab, col, hdel⟩ := cd
      have e1 : t = "type" := of_decide_eq_true h1
      have e2 : mro = .ref C :: .ref FE :: veT := of_decide_eq_true h3
      have e3 : hd = true := h5
      have e4 : hdel = false := by simpa using h7
      have e5 : n = "ValueError.__new__" := of_decide_eq_true h8
      obtain ⟨sl⟩ := sl
      have e6 : sl = [k0, k1, k2, k3, some (.builtin n), k5] := e
      subst e1 e2 e3 e4 e5 e6
      exact ⟨nm, qn, N, bs, sn, sub, ab, col, od, k0, k1, k2, k3, k5, q⟩
    · cases h8
  · cases h
/-- all that clsB says -/
structure CB (K : Frag) (FE C : Addr) (fs : List Str) : Prop where
  sh : shapeB K FE C = true
  ib : initB K C = true
  xi : xiB K C = true
  sa : findIn K (.ref C) "__setattr__" = some (some (.builtin "object.__setattr__"))
  kp : keepIn K (.ref C) = true
  ini : findIn K (.ref C) "__init__" = some (some (.ref (ma K C "__init__")))
  sup : ks_superIn K C C "__init__" = some (some (.builtin "ValueError.__init__"))
  sv : subIn K (.ref C) (.type "ValueError") = some true
  slf : mroIn K C (.ref C) = some true
  kF : kitOne K (.ref C) (.ref FE) = some true
  kV : kitOne K (.ref C) (.type "ValueError") = some true
  kL : kitOne K (.ref C) (.type "LookupError") = some false
  no : ∀ f ∈ fs, findIn K (.ref C) f = some none
theorem cb_ok (h : clsB K FE C fs = true) : CB K FE C fs := by
  obtain ⟨a1, h⟩ := ba h
  obtain ⟨a2, h⟩ := ba h
  obtain ⟨a3, h⟩ := ba h
  obtain ⟨a4, h⟩ := ba h
  obtain ⟨a5, h⟩ := ba h
  obtain ⟨a6, h⟩ := ba h
  obtain ⟨a7, h⟩ := ba h
  obtain ⟨a8, h⟩ := ba h
  obtain ⟨a9, h⟩ := ba h
  obtain ⟨b1, h⟩ := ba h
  obtain ⟨b2, h⟩ := ba h
  obtain ⟨b3, h⟩ := ba h
  exact ⟨a1, a2, a3, eqO_ok a4, a5, eqO_ok a6, of_decide_eq_true a7, of_decide_eq_true a8, of_decide_eq_true a9, of_decide_eq_true b1, of_decide_eq_true b2, of_decide_eq_true b3, fun f hf => eqO_ok (List.all_eq_true.mp h f hf)⟩
theorem CB.oex (c : CB K FE C fs) : OexC K C := by
  obtain ⟨nm, q, N, bs, sn, sub, ab, col, dd, k0, k1, k2, k3, k5, e⟩ := shape_ok c.sh
  exact ⟨⟨nm, q, N, bs, _, sn, sub, ab, col, dd, k0, k1, k2, k3, k5, e, rfl⟩, c.sa, (xfB_ok (ba c.xi).1).exC, (show (K.lookup C).map (·.cls) = some (.type "type") by rw [e]; rfl), c.kp⟩
theorem CB.mro (c : CB K FE C fs) (v : Value) : subIn K (.ref C) v = some ((.ref C :: .ref FE :: veT : List Value).contains v) := by
  obtain ⟨nm, q, N, bs, sn, sub, ab, col, dd, k0, k1, k2, k3, k5, e⟩ := shape_ok c.sh
  show mroIn K C v = _
  unfold mroIn clsIn
  rw [e]
  rfl
theorem CB.ex (c : CB K FE C fs) {d : Addr} {gs : List Str} (cd : CB K FE d gs) (nf : FE ≠ d) : exmOne K (.ref C) (.ref d) = some (decide (C = d)) := by
  have b : subIn K (.ref d) (.type "BaseException") = some true := by
    rw [cd.mro]
    rfl
  unfold exmOne
  rw [b, if_pos (by rfl)]
  unfold kitCls
  obtain ⟨nm, q, N, bs, sn, sub, ab, col, dd, k0, k1, k2, k3, k5, ed⟩ := shape_ok cd.sh
  have e1 : ((clsIn K d).isSome && typeIn K (.ref d) == some (.type "type")) = true := by
    show ((clsIn K d).isSome && (K.lookup d).map (·.cls) == some (.type "type")) = true
    unfold clsIn
    rw [ed]
    rfl
  show (if ((clsIn K d).isSome && typeIn K (.ref d) == some (.type "type")) = true then subIn K (.ref C) (.ref d) else none) = _
  rw [if_pos e1, c.mro]
  by_cases e : C = d
  · rw [decide_eq_true e, e]
    simp
  · rw [decide_eq_false e]
    have n1 : ((Value.ref d) == Value.ref C) = false := by simpa using fun z => e z.symm
    have n2 : ((Value.ref d) == Value.ref FE) = false := by simpa using fun z => nf z.symm
    show some ((Value.ref d == Value.ref C) || ((Value.ref d == Value.ref FE) || veT.contains (Value.ref d))) = _
    rw [n1, n2]
    rfl
end
section
variable {K : Frag} {FE C : Addr} {fs : List Str} {st : Stmt}
/-- the facts of an own __init__, its text in hand -/
theorem xf_of (c : CB K FE C fs) (hI : fnI K C = valI st) {params : Arguments} {body : List Stmt} {scope : Scope} (hp : defArgs (initS st) = params) (hb : defBody (initS st) = body) (hs : defScope (initS st) = scope) (on : oncB K = true) (glo : nsIn K mainGlobals "super" = some none) :
    XF pgm K C (ma K C "__init__") (clsName st ++ ".__init__") params body scope := by
  have hi := c.ib
  unfold initB at hi
  unfold fnI valI at hI
  cases q : K.lookup (ma K C "__init__") with
  | none =>
    rw [q] at hi
    cases hi
  | some o =>
    obtain ⟨cl, od, dt, sl⟩ := o
    rw [q] at hi hI
    cases dt with
    | func fd =>
      obtain ⟨n1, n2, n3, n4, n5, n6, n7, n8, n9, n10, n11, n12, n13, n14, n15⟩ := fd
      have e2 : (some (n1, n2, n3, n4, n5, n6, n8, n15, n7.map (·.1)) : FnI) = (some ("__init__", clsName st ++ ".__init__", defArgs (initS st), FuncBody.stmts (defBody (initS st)), defScope (initS st), mainGlobals, Value.none, builtinsNs, ["__class__"]) : FnI) := hI
      simp only [FnI, Option.some.injEq, Prod.mk.injEq] at e2
      obtain ⟨g1, g2, g3, g4, g5, g6, g7, g8, g9⟩ := e2
      subst g1 g2 g3 g4 g5 g6 g7 g8
      obtain ⟨j1, j2⟩ := ba hi
      obtain ⟨j3, j4⟩ := ba j2
      obtain rfl : cl = .type "function" := of_decide_eq_true j1
      rw [hp, hb, hs] at q
      obtain ⟨o1, _⟩ := ba on
      cases n13 with
      | ref cda =>
        obtain ⟨j5, j6⟩ := ba (show (codeIn K (.ref cda) (clsName st ++ ".__init__") && _) = true from j3)
        cases qc : K.lookup cda with
        | none =>
          rw [qc] at j6
          cases j6
        | some oc =>
          obtain ⟨ccl, cdd, cdt, ccs⟩ := oc
          rw [qc] at j6
          cases cdt with
          | fields vs =>
            cases q2 : (vs[2]? : Option Value) with
            | none =>
              have j7 : (match (vs[2]? : Option Value) with | some (.str file _) => (pgm.main.file : Str) == file | _ => false) = true := j6
              rw [q2] at j7
              cases j7
            | some fv =>
              have j7 : (match (vs[2]? : Option Value) with | some (.str file _) => (pgm.main.file : Str) == file | _ => false) = true := j6
              rw [q2] at j7
              cases fv with
              | str file tf =>
                cases n7 with
                | nil => cases g9
                | cons p r =>
                  cases r with
                  | cons p2 r2 => simp at g9
                  | nil =>
                    obtain ⟨x, cc⟩ := p
                    obtain rfl : x = "__class__" := by simpa using g9
                    have j8 : (match K.lookup cc with | some ⟨_, _, .cell (some v), _⟩ => decide (v = .ref C) | _ => false) = true := j4
                    cases qd : K.lookup cc with
                    | none =>
                      rw [qd] at j8
                      cases j8
                    | some od2 =>
                      obtain ⟨dcl, ddd, ddt, dsl⟩ := od2
                      rw [qd] at j8
                      cases ddt with
                      | cell ov =>
                        cases ov with
                        | none => cases j8
                        | some v =>
                          obtain rfl : v = .ref C := of_decide_eq_true j8
                          exact ⟨c.oex, c.ini, (show (K.lookup (ma K C "__init__")).map (·.cls) = some (.type "function") by rw [q]; rfl), ⟨_, _, _, _, _, _, cda, _, _, cc, ccl, cdd, vs, ccs, file, tf, _, _, _, q, j5, qc, q2, j7, qd⟩, c.sup, c.sv, c.slf, of_decide_eq_true o1, glo, by decide +kernel, xfB_ok (ba c.xi).1⟩
                      | _ => cases j8
              | _ => cases j7
          | _ => cases j6
      | _ => cases j3
    | _ => cases hi
end
/-- the text of an own error class with one field: what must be seen of it -/
structure T1 (st : Stmt) (f : Str) : Prop where
  ex : ∃ (params : Arguments) (scope : Scope) (msg : Str) (j : Nat) (p0 p1 p2 p3 p4 p5 q0 q1 q2 q3 : Pos), defArgs (initS st) = params ∧ defBody (initS st) = [sSuper msg j p0 p1 p2 p3 p4 p5, sPut f q0 q1 q2 q3] ∧ defScope (initS st) = scope ∧ (p2.endLine == p4.line) = true ∧ ScI params scope [f] ∧
    (∀ (qual : Str) (kV doc pm : Value) (an : Option Addr) (cdv ct : Value) (cc : Addr) (a u : Value), bindArgs (ksFn "__init__" qual params [sSuper msg j p0 p1 p2 p3 p4 p5, sPut f q0 q1 q2 q3] scope .none kV doc pm an cdv ct cc) ⟨[a, u], []⟩ = pure [(("self" : Str), a), (f, u)]) ∧
    (∀ (qual : Str) (kV doc pm : Value) (an : Option Addr) (cdv ct : Value) (cc : Addr) (a u : Value), bindArgs (ksFn "__init__" qual params [sSuper msg j p0 p1 p2 p3 p4 p5, sPut f q0 q1 q2 q3] scope .none kV doc pm an cdv ct cc) ⟨[a], [(f, u)]⟩ = pure [(("self" : Str), a), (f, u)])
  fs : (f == ("self" : Str)) = false
  fd : (f == ("__debug__" : Str)) = false
theorem x1_of {K : Frag} {FE C : Addr} {f : Str} {st : Stmt} (t : T1 st f) (c : CB K FE C [f]) (hI : fnI K C = valI st) (on : oncB K = true) (glo : nsIn K mainGlobals "super" = some none) : X1 pgm K C f := by
  obtain ⟨params, scope, msg, j, p0, p1, p2, p3, p4, p5, q0, q1, q2, q3, e1, e2, e3, e4, e5, e6, e7⟩ := t.ex
  exact ⟨⟨_, _, params, scope, msg, j, p0, p1, p2, p3, p4, p5, q0, q1, q2, q3, e4, xf_of c hI e1 e2 e3 on glo, e5, e6 _, e7 _⟩, t.fs, t.fd, c.no f (by simp), c.kp⟩
theorem t1_0 : T1 (topS 2) "index" := ⟨⟨_, _, _, _, _, _, _, _, _, _, _, _, _, _, rfl, rfl, rfl, rfl, ⟨⟨_, rfl, rfl⟩, rfl, rfl, rfl, by decide +kernel, by decide +kernel, rfl, rfl, rfl⟩, fun _ _ _ _ _ _ _ _ _ _ => rfl, fun _ _ _ _ _ _ _ _ _ _ => rfl⟩, by decide, by decide⟩
/-- what the head says, together -/
structure Sy (K : Frag) : Prop where
  d : He.SaysD fas fns K
  i : (clsNames.map fun x => fnI K (ga K x)) = stsI.map valI
  on : oncB K = true
  nd : (FEa K :: dsAll K).Nodup
  one : ∀ p ∈ ones, clsB K (FEa K) (ga K p.1) [p.2] = true
  kp : keptK K = true
  sy : sysB K = true
theorem sy_of {K : Frag} (h1 : He.obsD fas fns K = He.valD fns) (h2 : (clsNames.map fun x => fnI K (ga K x)) = stsI.map valI) (h3 : exZ K = true) : Sy K := by
  obtain ⟨b1, b2⟩ := ba h3
  obtain ⟨c1, c2⟩ := ba b2
  obtain ⟨d1, d2⟩ := ba c2
  obtain ⟨d2, d3⟩ := ba d2
  obtain ⟨d3, d4⟩ := ba d3
  exact ⟨h1, h2, b1, of_decide_eq_true d1, fun p hp => List.all_eq_true.mp d2 p hp, d3, d4⟩
section
variable {K : Frag}
theorem Sy.fa (S : Sy K) {f : He.Fa} (h : f ∈ fas) : f.ok K = true := He.SaysD.facts S.d h
theorem glo_mem {x : Str} (h : x ∈ allNames) : He.Fa.glo x ∈ fas := List.mem_append_left _ (List.mem_map.mpr ⟨x, h, rfl⟩)
theorem cls_mem {x : Str} (h : x ∈ clsNames) : x ∈ allNames := List.mem_cons_of_mem _ (List.mem_cons_of_mem _ (List.mem_append_left _ h))
theorem def_mem {x : Str} (h : x ∈ defNames) : x ∈ allNames := List.mem_cons_of_mem _ (List.mem_cons_of_mem _ (List.mem_append_right _ h))
theorem Sy.free (S : Sy K) (i : Nat) {x : Str} (h : fas[i]? = some (.free x) := by rfl) : (He.Fa.free x).ok K = true := S.fa (List.mem_of_getElem? h)
theorem Sy.at0 (S : Sy K) : fnI K (ga K "BadEnds") = valI (topS 2) := by
  have e := congrArg (fun l : List FnI => l[0]?) S.i
  exact Option.some.inj e
theorem Sy.fn (S : Sy K) {p : Str × Str} (h : p ∈ ones) : FEa K ≠ ga K p.1 := fun z => by
  have h' := (List.nodup_cons.mp S.nd).1
  rw [z] at h'
  exact h' (List.mem_map.mpr ⟨p, h, rfl⟩)
theorem Sy.sysK (S : Sy K) : SysK K := by
  have h := S.sy
  unfold sysB at h
  split at h
  · rename_i o q
    exact ⟨o, q, of_decide_eq_true h⟩
  · cases h
theorem vals_str : ∀ {vs : List Value} {ss : List Str}, vs.map strV = ss.map some → Vals (ss.map V.str) vs
  | [], [], _ => .nil
  | [], _ :: _, h => by cases h
  | _ :: _, [], h => by cases h
  | v :: vs, x :: ss, h => by
    rw [List.map_cons, List.map_cons] at h
    injection h with h1 h2
    refine .cons ?_ (vals_str h2)
    cases v with
    | str y t =>
      obtain rfl : y = x := Option.some.inj h1
      exact ⟨t, rfl⟩
    | _ => cases h1
theorem Sy.kept (S : Sy K) (H : Hp) : SqT K H (ga K "KEPT") (T27.kept.map V.str) := by
  have h := S.kp
  unfold keptK at h
  split at h
  · rename_i cl od its n sl q
    obtain ⟨h1, h2⟩ := ba h
    obtain ⟨h2, h3⟩ := ba h2
    have h3 := of_decide_eq_true h3
    exact .inr ⟨_, its, n, q, of_decide_eq_true h1, rfl, by rw [sizeLine_eq]; omega, vals_str (of_decide_eq_true h2)⟩
  · cases h
end
section
variable {K : Frag} {mg : Str → Option Value} {h : Heap}
theorem Sy.mgC (S : Sy K) (X : K.In h) (G : h.Ns mainGlobals mg) {x : Str} (hx : x ∈ allNames) : mg x = some (.ref (ga K x)) := He.glo_ok X G (S.fa (glo_mem hx))
theorem Sy.err (S : Sy K) (X : K.In h) (G : h.Ns mainGlobals mg) : (mg "BadEnds" = some (.ref (ga K "BadEnds")) ∧ X1 pgm K (ga K "BadEnds") "index") ∧ exmOne K (.ref (ga K "BadEnds")) (.ref (ga K "BadEnds")) = some true := by
  have glo : nsIn K mainGlobals "super" = some none := eqO_ok (S.free 39 (x := "super"))
  have m : (("BadEnds", "index") : Str × Str) ∈ ones := by simp [ones]
  have c := cb_ok (S.one _ m)
  refine ⟨⟨S.mgC X G (cls_mem (x := "BadEnds") (by simp [clsNames, ones])), x1_of t1_0 c S.at0 S.on glo⟩, ?_⟩
  rw [c.ex c (S.fn m), decide_eq_true rfl]
end
end K14.T27
namespace K14.T27
open PySem PySem.W PySem.Calls PyProof.Rows L2 LamX
open He (ga ma eqO eqO_ok ba)
open Kz (Has HasG pe_has FnG spStart)
open K14.Gn
theorem lk_of {K : Frag} {mg : Str → Option Value} {w : World} {base : Heap} (S : Sy K) (X : K.In base) (G : base.Ns mainGlobals mg) : LwK pgm w K mg base := by
  obtain ⟨eB, eX⟩ := S.err X G
  have fr : ∀ (i : Nat) {x : Str}, fas[i]? = some (.free x) → mg x = none := fun i x h => He.free_ok X G (S.free i h)
  have gm : ∀ (i : Nat) {x : Str}, defNames[i]? = some x → mg x = some (.ref (ga K x)) := fun i x h => S.mgC X G (def_mem (List.mem_of_getElem? h))
  have q_list := fr 40 (x := "list") rfl
  have q_int := fr 41 (x := "int") rfl
  have q_len := fr 42 (x := "len") rfl
  have q_range := fr 43 (x := "range") rfl
  have q_isinstance := fr 44 (x := "isinstance") rfl
  have q_repr := fr 45 (x := "repr") rfl
  have q_tuple := fr 46 (x := "tuple") rfl
  have q_dict := fr 47 (x := "dict") rfl
  have q_zip := fr 48 (x := "zip") rfl
  have q_all := fr 49 (x := "all") rfl
  have q_any := fr 50 (x := "any") rfl
  have q_sum := fr 51 (x := "sum") rfl
  have q_enumerate := fr 52 (x := "enumerate") rfl
  have q_bool := fr 53 (x := "bool") rfl
  have q_str := fr 54 (x := "str") rfl
  have q_min := fr 55 (x := "min") rfl
  have N : NmK K mg := { ll := He.str_ok X G (S.fa (f := .str "LETTERS" letters) (List.mem_of_getElem? (i := 56) rfl)), ns := He.str_ok X G (S.fa (f := .str "NAME_SIGNS" signs) (List.mem_of_getElem? (i := 57) rfl)), ln := He.int_ok X G (S.fa (f := .int "LONGEST_NAME" 8) (List.mem_of_getElem? (i := 58) rfl)), kp := ⟨_, S.mgC X G (x := "KEPT") (List.mem_cons_of_mem _ List.mem_cons_self), S.kept⟩, len := q_len, all := q_all, isi := q_isinstance, str := q_str, enu := q_enumerate }
  obtain ⟨g0, F0⟩ := S.d.def_ 0 (d := defAt 8) rfl
  have F0 : FunD K "is_list" "is_list" (defArgs sIl) (defBody sIl) (defScope sIl) [] [] (ga K "is_list") g0 := F0
  have b0 : L2.Binds K g0 ["thing"] [] := F0.bindsN fun _ _ _ _ _ _ us hl => match us, hl with | [_], _ => rfl
  obtain ⟨g1, F1⟩ := S.d.def_ 1 (d := defAt 9) rfl
  have F1 : FunD K "is_pair" "is_pair" (defArgs sIp) (defBody sIp) (defScope sIp) [] [] (ga K "is_pair") g1 := F1
  have b1 : L2.Binds K g1 ["thing"] [] := F1.bindsN fun _ _ _ _ _ _ us hl => match us, hl with | [_], _ => rfl
  obtain ⟨g2, F2⟩ := S.d.def_ 2 (d := defAt 10) rfl
  have F2 : FunD K "is_number" "is_number" (defArgs sIn) (defBody sIn) (defScope sIn) [] [] (ga K "is_number") g2 := F2
  have b2 : L2.Binds K g2 ["thing"] [] := F2.bindsN fun _ _ _ _ _ _ us hl => match us, hl with | [_], _ => rfl
  obtain ⟨g3, F3⟩ := S.d.def_ 3 (d := defAt 11) rfl
  have F3 : FunD K "begins_name" "begins_name" (defArgs sBn) (defBody sBn) (defScope sBn) [] [] (ga K "begins_name") g3 := F3
  have b3 : L2.Binds K g3 ["word"] [] := F3.bindsN fun _ _ _ _ _ _ us hl => match us, hl with | [_], _ => rfl
  obtain ⟨g4, F4⟩ := S.d.def_ 4 (d := defAt 12) rfl
  have F4 : FunD K "is_name" "is_name" (defArgs sNm) (defBody sNm) (defScope sNm) [] [] (ga K "is_name") g4 := F4
  have b4 : L2.Binds K g4 ["thing"] [] := F4.bindsN fun _ _ _ _ _ _ us hl => match us, hl with | [_], _ => rfl
  obtain ⟨g5, F5⟩ := S.d.def_ 5 (d := defAt 13) rfl
  have F5 : FunD K "first_no_end" "first_no_end" (defArgs sFn) (defBody sFn) (defScope sFn) [] [] (ga K "first_no_end") g5 := F5
  have b5 : L2.Binds K g5 ["ends"] [] := F5.bindsN fun _ _ _ _ _ _ us hl => match us, hl with | [_], _ => rfl
  obtain ⟨g6, F6⟩ := S.d.def_ 6 (d := defAt 14) rfl
  have F6 : FunD K "check_ends" "check_ends" (defArgs sCk) (defBody sCk) (defScope sCk) [] [] (ga K "check_ends") g6 := F6
  have b6 : L2.Binds K g6 ["ends"] [] := F6.bindsN fun _ _ _ _ _ _ us hl => match us, hl with | [_], _ => rfl
  obtain ⟨g7, F7⟩ := S.d.def_ 7 (d := defAt 16) rfl
  have F7 : FunD K "is_figure" "is_figure" (defArgs sIf) (defBody sIf) (defScope sIf) [] [] (ga K "is_figure") g7 := F7
  have b7 : L2.Binds K g7 ["thing"] [] := F7.bindsN fun _ _ _ _ _ _ us hl => match us, hl with | [_], _ => rfl
  obtain ⟨g8, F8⟩ := S.d.def_ 8 (d := defAt 17) rfl
  have F8 : FunD K "is_row" "is_row" (defArgs sIr) (defBody sIr) (defScope sIr) [] [] (ga K "is_row") g8 := F8
  have b8 : L2.Binds K g8 ["thing"] [] := F8.bindsN fun _ _ _ _ _ _ us hl => match us, hl with | [_], _ => rfl
  obtain ⟨g9, F9⟩ := S.d.def_ 9 (d := defAt 18) rfl
  have F9 : FunD K "is_box_at" "is_box_at" (defArgs sBa) (defBody sBa) (defScope sBa) [] [] (ga K "is_box_at") g9 := F9
  have b9 : L2.Binds K g9 ["ends", "thing"] [] := F9.bindsN fun _ _ _ _ _ _ us hl => match us, hl with | [_, _], _ => rfl
  obtain ⟨g10, F10⟩ := S.d.def_ 10 (d := defAt 19) rfl
  have F10 : FunD K "are_apart" "are_apart" (defArgs sAp) (defBody sAp) (defScope sAp) [] [] (ga K "are_apart") g10 := F10
  have b10 : L2.Binds K g10 ["row", "other"] [] := F10.bindsN fun _ _ _ _ _ _ us hl => match us, hl with | [_, _], _ => rfl
  obtain ⟨g11, F11⟩ := S.d.def_ 11 (d := defAt 20) rfl
  have F11 : FunD K "boxes_apart" "boxes_apart" (defArgs sBp) (defBody sBp) (defScope sBp) [] [] (ga K "boxes_apart") g11 := F11
  have b11 : L2.Binds K g11 ["box", "other"] [] := F11.bindsN fun _ _ _ _ _ _ us hl => match us, hl with | [_, _], _ => rfl
  obtain ⟨g12, F12⟩ := S.d.def_ 12 (d := defAt 22) rfl
  have F12 : FunD K "all_apart" "all_apart" (defArgs sAa) (defBody sAa) (defScope sAa) [] [] (ga K "all_apart") g12 := F12
  have b12 : L2.Binds K g12 ["box", "others"] [] := F12.bindsN fun _ _ _ _ _ _ us hl => match us, hl with | [_, _], _ => rfl
  obtain ⟨g13, F13⟩ := S.d.def_ 13 (d := defAt 23) rfl
  have F13 : FunD K "is_new_box" "is_new_box" (defArgs sNb) (defBody sNb) (defScope sNb) [] [] (ga K "is_new_box") g13 := F13
  have b13 : L2.Binds K g13 ["ends", "thing", "ahead"] [] := F13.bindsN fun _ _ _ _ _ _ us hl => match us, hl with | [_, _, _], _ => rfl
  obtain ⟨g14, F14⟩ := S.d.def_ 14 (d := defAt 24) rfl
  have F14 : FunD K "is_new_pair" "is_new_pair" (defArgs sNp) (defBody sNp) (defScope sNp) [] [] (ga K "is_new_pair") g14 := F14
  have b14 : L2.Binds K g14 ["ends", "thing", "ahead"] [] := F14.bindsN fun _ _ _ _ _ _ us hl => match us, hl with | [_, _, _], _ => rfl
  obtain ⟨g15, F15⟩ := S.d.def_ 15 (d := defAt 25) rfl
  have F15 : FunD K "boxes_in" "boxes_in" (defArgs sBi) (defBody sBi) (defScope sBi) [] [] (ga K "boxes_in") g15 := F15
  have b15 : L2.Binds K g15 ["table"] [] := F15.bindsN fun _ _ _ _ _ _ us hl => match us, hl with | [_], _ => rfl
  obtain ⟨g16, F16⟩ := S.d.def_ 16 (d := defAt 26) rfl
  have F16 : FunD K "first_no_pair" "first_no_pair" (defArgs sFp) (defBody sFp) (defScope sFp) [] [] (ga K "first_no_pair") g16 := F16
  have b16 : L2.Binds K g16 ["ends", "table"] [] := F16.bindsN fun _ _ _ _ _ _ us hl => match us, hl with | [_, _], _ => rfl
  obtain ⟨g17, F17⟩ := S.d.def_ 17 (d := defAt 27) rfl
  have F17 : FunD K "first_not_shut" "first_not_shut" (defArgs sFs) (defBody sFs) (defScope sFs) [] [] (ga K "first_not_shut") g17 := F17
  have b17 : L2.Binds K g17 ["ends", "boxes", "shut"] [] := F17.bindsN fun _ _ _ _ _ _ us hl => match us, hl with | [_, _, _], _ => rfl
  obtain ⟨g18, F18⟩ := S.d.def_ 18 (d := defAt 29) rfl
  have F18 : FunD K "is_table" "is_table" (defArgs sIt) (defBody sIt) (defScope sIt) [] [] (ga K "is_table") g18 := F18
  have b18 : L2.Binds K g18 ["ends", "table", "shut"] [] := F18.bindsN fun _ _ _ _ _ _ us hl => match us, hl with | [_, _, _], _ => rfl
  obtain ⟨g19, F19⟩ := S.d.def_ 19 (d := defAt 31) rfl
  have F19 : FunD K "_law_ends" "_law_ends" (defArgs sEn) (defBody sEn) (defScope sEn) [] [] (ga K "_law_ends") g19 := F19
  have b19 : L2.Binds K g19 ["stream", "many"] [] := F19.bindsN fun _ _ _ _ _ _ us hl => match us, hl with | [_, _], _ => rfl
  obtain ⟨g20, F20⟩ := S.d.def_ 20 (d := defAt 32) rfl
  have F20 : FunD K "_law_t_halves" "_law_t_halves" (defArgs sTh) (defBody sTh) (defScope sTh) [] [] (ga K "_law_t_halves") g20 := F20
  have b20 : L2.Binds K g20 ["box", "kind"] [] := F20.bindsN fun _ _ _ _ _ _ us hl => match us, hl with | [_, _], _ => rfl
  obtain ⟨g21, F21⟩ := S.d.def_ 21 (d := defAt 33) rfl
  have F21 : FunD K "_law_t_meet" "_law_t_meet" (defArgs sTm) (defBody sTm) (defScope sTm) [] [] (ga K "_law_t_meet") g21 := F21
  have b21 : L2.Binds K g21 ["one", "other"] [] := F21.bindsN fun _ _ _ _ _ _ us hl => match us, hl with | [_, _], _ => rfl
  obtain ⟨g22, F22⟩ := S.d.def_ 22 (d := defAt 34) rfl
  have F22 : FunD K "_law_t_table" "_law_t_table" (defArgs sTt) (defBody sTt) (defScope sTt) [] [] (ga K "_law_t_table") g22 := F22
  have b22 : L2.Binds K g22 ["stream", "ends", "cuts"] [] := F22.bindsN fun _ _ _ _ _ _ us hl => match us, hl with | [_, _, _], _ => rfl
  obtain ⟨g23, F23⟩ := S.d.def_ 23 (d := defAt 35) rfl
  have F23 : FunD K "_law_start" "_law_start" (defArgs sSt) (defBody sSt) (defScope sSt) [] [] (ga K "_law_start") g23 := F23
  have b23 : L2.Binds K g23 ["script"] [] := F23.bindsN fun _ _ _ _ _ _ us hl => match us, hl with | [_], _ => rfl
  obtain ⟨g24, F24⟩ := S.d.def_ 24 (d := defAt 36) rfl
  have F24 : FunD K "_law_draw" "_law_draw" (defArgs sDr) (defBody sDr) (defScope sDr) [] [] (ga K "_law_draw") g24 := F24
  have b24 : L2.Binds K g24 ["stream", "many"] [] := F24.bindsN fun _ _ _ _ _ _ us hl => match us, hl with | [_, _], _ => rfl
  obtain ⟨g25, F25⟩ := S.d.def_ 25 (d := defAt 37) rfl
  have F25 : FunD K "_law_pick" "_law_pick" (defArgs sPk) (defBody sPk) (defScope sPk) [] [] (ga K "_law_pick") g25 := F25
  have b25 : L2.Binds K g25 ["stream", "some"] [] := F25.bindsN fun _ _ _ _ _ _ us hl => match us, hl with | [_, _], _ => rfl
  obtain ⟨g26, F26⟩ := S.d.def_ 26 (d := defAt 38) rfl
  have F26 : FunD K "_law_mixed" "_law_mixed" (defArgs sMx) (defBody sMx) (defScope sMx) [] [] (ga K "_law_mixed") g26 := F26
  have b26 : L2.Binds K g26 ["stream", "some"] [] := F26.bindsN fun _ _ _ _ _ _ us hl => match us, hl with | [_, _], _ => rfl
  obtain ⟨g27, F27⟩ := S.d.def_ 27 (d := defAt 39) rfl
  have F27 : FunD K "_law_same" "_law_same" (defArgs sSm) (defBody sSm) (defScope sSm) [] [] (ga K "_law_same") g27 := F27
  have b27 : L2.Binds K g27 ["found", "due"] [] := F27.bindsN fun _ _ _ _ _ _ us hl => match us, hl with | [_, _], _ => rfl
  obtain ⟨g28, F28⟩ := S.d.def_ 28 (d := defAt 40) rfl
  have F28 : FunD K "_law_loose" "_law_loose" (defArgs sLo) (defBody sLo) (defScope sLo) [] [] (ga K "_law_loose") g28 := F28
  have b28 : L2.Binds K g28 ["stream", "thing"] [] := F28.bindsN fun _ _ _ _ _ _ us hl => match us, hl with | [_, _], _ => rfl
  obtain ⟨g29, F29⟩ := S.d.def_ 29 (d := defAt 41) rfl
  have F29 : FunD K "_law_is_box" "_law_is_box" (defArgs sLb1) (defBody sLb1) (defScope sLb1) [] [] (ga K "_law_is_box") g29 := F29
  have b29 : L2.Binds K g29 ["ends", "thing"] [] := F29.bindsN fun _ _ _ _ _ _ us hl => match us, hl with | [_, _], _ => rfl
  obtain ⟨g30, F30⟩ := S.d.def_ 30 (d := defAt 42) rfl
  have F30 : FunD K "_law_is_table" "_law_is_table" (defArgs sLt) (defBody sLt) (defScope sLt) [] [] (ga K "_law_is_table") g30 := F30
  have b30 : L2.Binds K g30 ["ends", "table", "lids"] [] := F30.bindsN fun _ _ _ _ _ _ us hl => match us, hl with | [_, _, _], _ => rfl
  obtain ⟨g31, F31⟩ := S.d.def_ 31 (d := defAt 43) rfl
  have F31 : FunD K "_law_bent_box" "_law_bent_box" (defArgs sBb) (defBody sBb) (defScope sBb) [] [] (ga K "_law_bent_box") g31 := F31
  have b31 : L2.Binds K g31 ["stream", "ends", "box"] [] := F31.bindsN fun _ _ _ _ _ _ us hl => match us, hl with | [_, _, _], _ => rfl
  obtain ⟨g32, F32⟩ := S.d.def_ 32 (d := defAt 44) rfl
  have F32 : FunD K "_law_bent" "_law_bent" (defArgs sBt) (defBody sBt) (defScope sBt) [] [] (ga K "_law_bent") g32 := F32
  have b32 : L2.Binds K g32 ["stream", "ends", "table", "lids"] [] := F32.bindsN fun _ _ _ _ _ _ us hl => match us, hl with | [_, _, _, _], _ => rfl
  obtain ⟨g33, F33⟩ := S.d.def_ 33 (d := defAt 45) rfl
  have F33 : FunD K "_law_right" "_law_right" (defArgs sRt) (defBody sRt) (defScope sRt) [] [] (ga K "_law_right") g33 := F33
  have b33 : L2.Binds K g33 ["stream", "ends", "table", "lids"] [] := F33.bindsN fun _ _ _ _ _ _ us hl => match us, hl with | [_, _, _, _], _ => rfl
  obtain ⟨g34, F34⟩ := S.d.def_ 34 (d := defAt 46) rfl
  have F34 : FunD K "_law_refused" "_law_refused" (defArgs sRf) (defBody sRf) (defScope sRf) [] [] (ga K "_law_refused") g34 := F34
  have b34 : L2.Binds K g34 ["odd", "due"] [] := F34.bindsN fun _ _ _ _ _ _ us hl => match us, hl with | [_, _], _ => rfl
  have hil : Has pgm w K mg base "is_list" 1 ["thing"] (spLook isL) := ⟨_, g0, gm 0 rfl, F0.kp, b0, ok_il F0 q_isinstance q_list q_tuple⟩
  have hin : Has pgm w K mg base "is_number" 1 ["thing"] (spLook isN) := ⟨_, g2, gm 2 rfl, F2.kp, b2, ok_in F2 q_isinstance q_int q_bool⟩
  have hip : Has pgm w K mg base "is_pair" 2 ["thing"] (spLook isP) := ⟨_, g1, gm 1 rfl, F1.kp, b1, ok_ip F1 hil q_len⟩
  have hif : Has pgm w K mg base "is_figure" 2 ["thing"] (spLook isF) := ⟨_, g7, gm 7 rfl, F7.kp, b7, ok_if F7 hin⟩
  have hir : Has pgm w K mg base "is_row" 3 ["thing"] spRow := ⟨_, g8, gm 8 rfl, F8.kp, b8, ok_ir F8 hil hif q_all⟩
  have hbn : Has pgm w K mg base "begins_name" 1 ["word"] spBn := ⟨_, g3, gm 3 rfl, F3.kp, b3, ok_bn F3 N⟩
  have hnm : Has pgm w K mg base "is_name" 2 ["thing"] spNm := ⟨_, g4, gm 4 rfl, F4.kp, b4, ok_nm F4 N hbn⟩
  have hfn : Has pgm w K mg base "first_no_end" 3 ["ends"] spFn := ⟨_, g5, gm 5 rfl, F5.kp, b5, ok_fn F5 N hil hnm⟩
  have hck : Has pgm w K mg base "check_ends" 4 ["ends"] spCk := ⟨_, g6, gm 6 rfl, F6.kp, b6, ok_ck F6 hfn⟩
  have xck : HasX pgm w K mg base "check_ends" 4 ["ends"] (spCkX K) := ⟨_, g6, gm 6 rfl, F6.kp, b6, okx_ck F6 hfn eB⟩
  have hba : Has pgm w K mg base "is_box_at" 4 ["ends", "thing"] spBa := ⟨_, g9, gm 9 rfl, F9.kp, b9, ok_ba F9 N hil hir⟩
  have hap : Has pgm w K mg base "are_apart" 1 ["row", "other"] spAp := ⟨_, g10, gm 10 rfl, F10.kp, b10, ok_ap F10 N q_min q_list⟩
  have hbp : Has pgm w K mg base "boxes_apart" 2 ["box", "other"] spBp := ⟨_, g11, gm 11 rfl, F11.kp, b11, ok_bp F11 hap⟩
  have haa : Has pgm w K mg base "all_apart" 3 ["box", "others"] spAa := ⟨_, g12, gm 12 rfl, F12.kp, b12, ok_aa F12 N hbp⟩
  have hnb : Has pgm w K mg base "is_new_box" 5 ["ends", "thing", "ahead"] spNb := ⟨_, g13, gm 13 rfl, F13.kp, b13, ok_nb F13 hba haa⟩
  have hnp : Has pgm w K mg base "is_new_pair" 6 ["ends", "thing", "ahead"] spNp := ⟨_, g14, gm 14 rfl, F14.kp, b14, ok_np F14 hip hnb⟩
  have hbi : Has pgm w K mg base "boxes_in" 1 ["table"] spBi := ⟨_, g15, gm 15 rfl, F15.kp, b15, ok_bi F15⟩
  have hfp : Has pgm w K mg base "first_no_pair" 7 ["ends", "table"] spFp := ⟨_, g16, gm 16 rfl, F16.kp, b16, ok_fp F16 N hil hnp hbi⟩
  have hfs : Has pgm w K mg base "first_not_shut" 6 ["ends", "boxes", "shut"] spFs := ⟨_, g17, gm 17 rfl, F17.kp, b17, ok_fs F17 N hil hnb⟩
  have hit : Has pgm w K mg base "is_table" 8 ["ends", "table", "shut"] spIt := ⟨_, g18, gm 18 rfl, F18.kp, b18, ok_it F18 hck hfp hfs hbi⟩
  have kit : HasK3 pgm w K mg base "is_table" 8 "ends" "table" "shut" spIt := ⟨_, g18, gm 18 rfl, F18.kp, kb_rev3 F18 (fun _ _ _ _ _ _ _ _ _ => rfl), ok_it F18 hck hfp hfs hbi⟩
  have xit : HasX pgm w K mg base "is_table" 5 ["ends", "table", "shut"] (spItX K) := ⟨_, g18, gm 18 rfl, F18.kp, b18, okx_it F18 xck⟩
  have hst : Has pgm w K mg base "_law_start" 1 ["script"] (spStart K) := ⟨_, g23, gm 23 rfl, F23.kp, b23, ok_st F23 q_list⟩
  have hdr : Has pgm w K mg base "_law_draw" 1 ["stream", "many"] spDrW := ⟨_, g24, gm 24 rfl, F24.kp, b24, ok_drw F24 q_int⟩
  have hpk : Has pgm w K mg base "_law_pick" 2 ["stream", "some"] spPk := ⟨_, g25, gm 25 rfl, F25.kp, b25, ok_pk F25 hdr q_len⟩
  have hmx : Has pgm w K mg base "_law_mixed" 2 ["stream", "some"] spMxW := ⟨_, g26, gm 26 rfl, F26.kp, b26, ok_mxw F26 hdr q_list q_len q_range⟩
  have hen : Has pgm w K mg base "_law_ends" 3 ["stream", "many"] spEn := ⟨_, g19, gm 19 rfl, F19.kp, b19, ok_en F19 hmx⟩
  have hth : Has pgm w K mg base "_law_t_halves" 1 ["box", "kind"] spThS := ⟨_, g20, gm 20 rfl, F20.kp, b20, ok_thS F20⟩
  have htm : Has pgm w K mg base "_law_t_meet" 1 ["one", "other"] spTm := ⟨_, g21, gm 21 rfl, F21.kp, b21, ok_tm F21 q_list q_zip q_all⟩
  have htt : Has pgm w K mg base "_law_t_table" 3 ["stream", "ends", "cuts"] spTt := ⟨_, g22, gm 22 rfl, F22.kp, b22, ok_tt F22 hdr hmx hpk hth q_range q_len⟩
  have hsm : Has pgm w K mg base "_law_same" 3 ["found", "due"] (spSm 2) := ⟨_, g27, gm 27 rfl, F27.kp, b27, ok_sm F27 (gm 27 rfl) F27.kp b27 ⟨q_isinstance, q_list, q_tuple, q_dict, q_int, q_bool, q_len, q_all, q_zip⟩ 2⟩
  have hlo : Has pgm w K mg base "_law_loose" 9 ["stream", "thing"] (spLo 6) := ⟨_, g28, gm 28 rfl, F28.kp, b28, ok_lo F28 hdr hmx (gm 28 rfl) F28.kp b28 q_isinstance q_list q_tuple q_dict 6⟩
  have hlb : Has pgm w K mg base "_law_is_box" 1 ["ends", "thing"] spLb := ⟨_, g29, gm 29 rfl, F29.kp, b29, ok_lb1 F29 N q_list q_tuple q_int q_bool⟩
  have hlt : Has pgm w K mg base "_law_is_table" 2 ["ends", "table", "lids"] spLt := ⟨_, g30, gm 30 rfl, F30.kp, b30, ok_lt27 F30 N q_list q_tuple q_sum q_any hlb htm⟩
  have hbb : Has pgm w K mg base "_law_bent_box" 3 ["stream", "ends", "box"] spBb := ⟨_, g31, gm 31 rfl, F31.kp, b31, ok_bb F31 hpk⟩
  have hbt : Has pgm w K mg base "_law_bent" 4 ["stream", "ends", "table", "lids"] spBt := ⟨_, g32, gm 32 rfl, F32.kp, b32, ok_bt F32 hdr hpk hbb q_list q_len q_tuple⟩
  have RT : RtK pgm w K mg base := { lt := hlt, lo := hlo, it := hit, itk := kit, sm := hsm, sy := S.sysK, np := q_repr }
  have hrt : HasG pgm w K mg base "_law_right" 10 ["stream", "ends", "table", "lids"] spRt := ⟨_, g33, gm 33 rfl, F33.kp, b33, ok_rt F33 RT⟩
  have hrf : Has pgm w K mg base "_law_refused" 6 ["odd", "due"] spRf := ⟨_, g34, gm 34 rfl, F34.kp, b34, ok_rf F34 xit eB eX⟩
  exact { st := hst, dr := hdr, en := hen, tt := htt, lt := hlt, rt := hrt, bt := hbt, rf := hrf, it := hit, sm := hsm, nr := q_range, na := q_all }
end K14.T27
namespace K14.T27
open PySem PySem.W PySem.Calls PyProof.Rows
theorem runZ (w : World) : HandSHeadRun.RunEq RZ (view RZ.prog [47]) hookZ obZ 20000 nms w := by
  intro os
  kernel_rfl
end K14.T27
namespace K14.T27
open PySem PySem.W PySem.Calls PyProof.Rows L2 LamX
open He (ga ma eqO eqO_ok ba)
open K14.Gn
theorem nm_law : (HandSHeadRun.topDef RZ.prog 47).name = ("law" : PySem.Str) := by kernel_rfl
theorem walk : WalkO (view RZ.prog [47]) nms (XL (view RZ.prog [47]) []) hookZ.says (PySem.Challenge.rw_twinforks_k27_whole_tables.row).toRowW (HandSHeadRun.topDef RZ.prog 47) [] (fun f vs => PySem.call f vs) := by
  refine Kz.walk_G (l := PySem.Challenge.rw_twinforks_k27_whole_tables) (n := 63) (k := 11) (x := "script") (CX := fun _ => CX0) rfl (by decide) (by kernel_rfl) ⟨rfl, by decide, by decide⟩ ?_ (fun _ _ _ _ _ z => z)
  intro w mg fa h Y G hmg0
  obtain ⟨K, KX, ⟨c1, c2⟩, c3⟩ := Y
  have S := sy_of c1 c2 c3
  have hmg : mg ("law" : PySem.Str) = some (.ref fa) := by
    rw [← nm_law]
    exact hmg0
  obtain rfl : ga K "law" = fa := by
    have e := (S.mgC KX G (def_mem (x := "law") (List.mem_of_getElem? (i := 35) rfl))).symm.trans hmg
    injection e with e
    injection e
  obtain ⟨g, F⟩ := S.d.def_ 35 (d := defAt 47) rfl
  have F : FunD K "law" "law" (defArgs sLw) (defBody sLw) (defScope sLw) [] [] (ga K "law") g := F
  have bL := FunD.bindsA (ps := ["script"]) F fun _ _ _ _ _ _ us hl => match us, hl with | [_], _ => rfl
  refine ⟨K, g, [], spLw K, KX, (fun p hp => nomatch hp), (fun p hp => nomatch hp), (fun p hp => nomatch hp), fun s v => bL s [v] rfl, fun H a ns hl hT hS => ⟨a, ns, rfl, hS, Nat.le_trans hl (by decide), fun _ => rfl⟩, fun base X0 G0 TB => ok_lw F (lk_of S X0 G0)⟩
end K14.T27
open PySem PySem.W PySem.Calls PyProof.Rows
theorem PySem.Challenge.cw_twinforks_k27_whole_tables_holds : PySem.Challenge.rw_twinforks_k27_whole_tables.Holds := by
  w_on; o_law
  refine HandSHeadRun.head_any (r := OpenLaw.row PySem.Challenge.rw_twinforks_k27_whole_tables) (q := view K14.T27.RZ.prog [47]) (H := K14.T27.hookZ) (ob := K14.T27.obZ) (M := 20000) (loose := K14.T27.nms) (d := HandSHeadRun.topDef K14.T27.RZ.prog 47) (kwd := []) K14.T27.obZ_eq
    (by kernel_rfl) (fun s => by kernel_rfl) K14.T27.runZ (by kernel_rfl) (by kernel_rfl) (by kernel_rfl) (by rfl) (by first | assumption | decide +kernel) (by decide +kernel) ⟨rfl, rfl, rfl, rfl, rfl, by decide +kernel⟩ ?hw ?hc
  case hw => w_witness2
  case hc => exact K14.T27.walk
