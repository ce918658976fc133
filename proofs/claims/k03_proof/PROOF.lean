import PyProof.Rows.All
import Wide.All
import OpenK.AllK
import Wide.FinOn
import HandS.ExcValue
import HandS.ExcInit
import HandS.ExcField
import HandS.List
import HandS.IsInst
import HandS.Words
import KE.KExcSuper
import HandS.ExcSuper
import HandS.Defaults
import HandS.Lambda
import KE.KExcIs
import HandS.CallLocal
import HandS.Dict
import PyProof.Rows.ReprR
import HandS.HeadHook4
import HandS.ForMost
import HandS.EndTab
import HandS.NoneIn
import HandS.TryOnly
import HandS.Iter
import HandS.Walk
import HandS.TryMany
import HandS.Zip
import HandS.ListItems
import KE.GoesEnum
import HandS.Small
import HandS.TupAny
import HandS.Star
import KE.KDictZip
import KE.KItemsList
import PyProof.ReprLen
import HandS.Conv
import HandS.Style
import HandS.More
import PySem.Challenge.RW_twinforks_k03_whole_rows_and_boxes
import HandS.Text
import HandS.FStr
import HandS.LawCells
import HandS.HeadEnd
import HandS.HeadWalk
import HandS.Head2
import KE.KStateDown
set_option Elab.async false
set_option linter.all false
set_option maxRecDepth 100000
set_option maxHeartbeats 0
namespace Kz
open PySem PySem.W PySem.Calls PyProof.Rows L2

/-- what the written part says of an own error class and of its __init__ -/
structure XF (prog : Program) (K : Frag) (C fI : Addr) (qual : Str) (params : Arguments) (body : List Stmt) (scope : Scope) : Prop where
  oex : OexC K C
  ini : findIn K (.ref C) "__init__" = some (some (.ref fI))
  tyI : typeIn K (.ref fI) = some (.type "function")
  fn : ∃ (oc : Value) (od : Option Addr) (kV doc pm : Value) (an : Option Addr) (cda : Addr) (ct : Value) (osl : Array (Option Value)) (cc : Addr) (ccl : Value) (cdd : Option Addr) (vs : Array Value) (ccs : Array (Option Value)) (file : Str) (tf : Tok)
      (cl : Value) (cld : Option Addr) (csl : Array (Option Value)),
    K.lookup fI = some ⟨oc, od, .func (ksFn "__init__" qual params body scope .none kV doc pm an (.ref cda) ct cc), osl⟩ ∧ codeIn K (.ref cda) qual = true ∧ K.lookup cda = some ⟨ccl, cdd, .fields vs, ccs⟩ ∧ vs[2]? = some (.str file tf) ∧
      ((prog.main.file : Str) == file) = true ∧ K.lookup cc = some ⟨cl, cld, .cell (some (.ref C)), csl⟩
  sup : ks_superIn K C C "__init__" = some (some (.builtin "ValueError.__init__"))
  sbV : subIn K (.ref C) (.type "ValueError") = some true
  slf : mroIn K C (.ref C) = some true
  opq : nsIn K cStatics "thirdparty.any" = some none
  glo : nsIn K mainGlobals "super" = some none
  top : (prog.main.scope.names.lookup ("super" : Str)).isSome = false
  xf : XfC K C

/-- the scope of such an __init__ -/
structure ScI (params : Arguments) (scope : Scope) (fs : List Str) : Prop where
  hd : ∃ ar, (params.posonlyargs ++ params.args).head? = some ar ∧ ar.arg = ("self" : Str)
  ks : scope.names.lookup ("super" : Str) = some .globalImplicit
  kc : scope.names.lookup ("__class__" : Str) = some .free
  ka : scope.names.lookup ("self" : Str) = some .local
  kf : ∀ f ∈ fs, scope.names.lookup f = some .local
  cell : ∀ x ∈ scope.names, x.2 ≠ .cell
  kind : scope.kind = .function
  co : scope.isCoroutine = false
  gen : scope.isGenerator = false

def sSuper (msg : Str) (j : Nat) (p0 p1 p2 p3 p4 p5 : Pos) : Stmt := .Expr (.Call (.Attribute (.Call (.Name "super" p0) [] [] p1) "__init__" p2) [.Constant (.str msg) j p3] [] p4) p5
def sPut (f : Str) (q0 q1 q2 q3 : Pos) : Stmt := .Assign [.Attribute (.Name "self" q0) f q1] (.Name f q2) q3

section
variable {X : Cx} {pins : List (Addr × Obj)} {σ : L2.St} {H : Hp} {s : Shared} {a C fI : Addr} {A : Around} {E : Value → Shared → Prop}

/-- the record of an exception that is being made, behind super().__init__(..) -/
theorem call_up {u : Addr} {rest : List Value} {Q : Value → Shared → Prop} (T : OexC X.K C) (I : Inv X pins σ H s) (e : H a = some (exo a C none)) (hu : s.heap.get? u = some (kxs_mw "ValueError.__init__" a)) (hl : rest.length ≤ sizeLine)
    (h : ∀ s', Inv X pins σ H s' → (∀ b o, b ≠ a → s.heap.get? b = some o → s'.heap.get? b = some o) → Q .none s') : wpAny (model X.prog X.w) A (call (.ref u) rest) Q E s := by
  obtain ⟨nm, q, N, bs, bm, sn, sub, ab, col, dd, k0, k1, k2, k3, k5, hC, hbm⟩ := T.cls
  obtain ⟨t1, ho⟩ := exo_at I.hok e
  have hCs := I.kIn _ _ hC
  obtain ⟨hp, g, d, t, os⟩ := s
  refine wpAny_call (codeAny_of_tree ?_)
  show wpAny _ A.in1 (callAny (.ref u) ⟨rest, []⟩) _ _ _
  simp only [callAny]
  refine wpAny_bind (wpAny_load hu ?_)
  simp only [kxs_mw, show (Value.type "method-wrapper" == Value.type "method" || Value.type "method-wrapper" == Value.type "builtin_function_or_method" || Value.type "method-wrapper" == Value.type "method-wrapper") = true by decide, if_true]
  refine KFB.if_so (by decide) ?_
  refine wpAny_bind (check_bound_init F.excBase_ValueError.toExcCallFacts hCs ho rfl ?_)
  refine wpAny_bind (wpAny_pure (wpAny_pure ?_))
  refine ⟨plainId_quiet F.excBase_ValueError.init.plain _, codeAny_builtin F.excBase_ValueError.initEntry ?_⟩
  refine exc_init_tree (cls := .ref C) (t0 := t1) (dv := none) (c2 := .none) (c3 := .none) (b4 := .bool false) ho hl (fun h' k e' _ => ?_)
  have J := I.write (t' := t) (x := a) (e := a) (o := exo a C none) (by rw [e]; exact True.intro) (.inl rfl) k ⟨_, e'⟩ (exo_ok e')
  have eu : upd H a (exo a C none) = H := by
    funext b
    by_cases hb : b = a
    · rw [hb, upd_same, e]
    · rw [upd_ne hb]
  rw [eu] at J
  exact h _ J k

/-- a pin more: the dict of a callee's locals -/
theorem pinned {L : Addr} {m : Str → Option Value} (I : Inv X pins σ H s) (hn : s.heap.Ns L m) (hH : H L = none) (h1 : L ≠ X.env.locals) (h2 : L ∉ X.fs) :
    ∃ oL, Inv X ((L, oL) :: pins) σ H s ∧ (∃ es ep, oL.data = .dict es ep ∧ ∀ s' : Shared, s'.heap.get? L = some oL → s'.heap.Ns L m) := by
  obtain ⟨oL, es, ep, hL, hd, r⟩ := hn
  refine ⟨oL, I.pins_of fun p hp => ?_, es, ep, hd, fun s' e => ⟨oL, es, ep, e, hd, r⟩⟩
  rcases List.mem_cons.mp hp with rfl | hp
  · exact ⟨hL, hH, h1, h2, fun v z => by rw [hd] at z; cases z⟩
  · exact I.pin p (List.mem_append_right _ hp)
theorem unpin {q : Addr × Obj} (I : Inv X (q :: pins) σ H s) : Inv X pins σ H s := I.pins_of fun p hp => I.pin p (List.mem_append_right _ (List.mem_cons_of_mem _ hp))

theorem ev_super {msg : Str} {j : Nat} {p0 p1 p2 p3 p4 : Pos} (hm : (p2.endLine == p4.line) = true) (env : Env) :
    eval (.Call (.Attribute (.Call (.Name "super" p0) [] [] p1) "__init__" p2) [.Constant (.str msg) j p3] [] p4) env = (do
      let ov ← attributeBase (.Call (.Name "super" p0) [] [] p1) "__init__" env (eval (.Call (.Name "super" p0) [] [] p1) env)
      standAt p2.atName
      let (f, first) ← holding [ov] (getMethod ov "__init__" (do return (← importBound (.Call (.Name "super" p0) [] [] p1) env).getD true))
      callWith p4 f first (backTo p4 (starEach [.Constant (.str msg) j p3] env)) []) := by
  have e : methodCallPos true (.Call (.Name "super" p0) [] [] p1) env p2 p4 = pure p4 := by
    unfold methodCallPos
    rw [hm]
    rfl
  show (attributeBase _ _ _ _ >>= fun ov => standAt p2.atName >>= fun _ => holding [ov] (calleeOf true (.Call (.Name "super" p0) [] [] p1) env ov "__init__") >>= fun fx => methodCallPos true (.Call (.Name "super" p0) [] [] p1) env p2 p4 >>= fun q => callWith q fx.1 fx.2 _ _) = _
  rw [e]
  rfl
/-- an own __init__ to where super().__init__(text) is done -/
theorem init_pre {qual : Str} {params : Arguments} {scope : Scope} {msg : Str} {j : Nat} {p0 p1 p2 p3 p4 p5 : Pos} {fs : List Str} {rest : List Stmt} {R : Result → Shared → Prop} {args : Args} {binds : List (Str × Value)}
    (hm : (p2.endLine == p4.line) = true) (T : XF X.prog X.K C fI qual params (sSuper msg j p0 p1 p2 p3 p4 p5 :: rest) scope) (S : ScI params scope fs) (I : Inv X pins σ H s) (e : H a = some (exo a C none)) (hroom : A.depth < recursionLimit)
    (hbind : ∀ (kV doc pm : Value) (an : Option Addr) (cdv ct : Value) (cc : Addr), bindArgs (ksFn "__init__" qual params (sSuper msg j p0 p1 p2 p3 p4 p5 :: rest) scope .none kV doc pm an cdv ct cc) args = pure binds)
    (hloc : ∀ x ∈ binds, scope.names.lookup x.1 = some .local) (hs : binds.reverse.lookup ("self" : Str) = some (.ref a))
    (h : ∀ (env : Env) (oL : Obj) (s' : Shared), env.scope.kind = .function → (∀ x, env.kindOf x = scope.names.lookup x) → (∀ s2 : Shared, s2.heap.get? env.locals = some oL → s2.heap.Ns env.locals (fun x => binds.reverse.lookup x)) → Inv X ((env.locals, oL) :: pins) σ H s' →
      wpAny (model X.prog X.w) (A.deeper env) (execs rest env) (fun fl s' => R (.ok (.ret (match fl with | .ret v => v | _ => .none))) s') (fun e s' => wpAny (model X.prog X.w) (A.deeper env) (leaving env e) (fun _ s'' => R (.error e) s'') (fun e' s'' => R (.error e') s'') s') s') :
    codeAny (model X.prog X.w) A (.call (.ref fI) args) R s := by
  obtain ⟨oc, od, kV, doc, pm, an, cda, ct, osl, cc, ccl, cdd, vs, ccs, file, tf, cl, cld, csl, lk, hcd, lcd, hvs, hfile, lcc⟩ := T.fn
  obtain ⟨ar, hh1, hh2⟩ := S.hd
  obtain ⟨mb, bl1, bl2⟩ := I.mod.blt
  refine ks_codeAny_call_defAt (fd := ksFn "__init__" qual params (sSuper msg j p0 p1 p2 p3 p4 p5 :: rest) scope .none kV doc pm an (.ref cda) ct cc) hroom (I.kIn _ _ lk) rfl I.nolimit (codeRec_of I.kIn hcd) rfl (.of_eq (hbind kV doc pm an (.ref cda) ct cc)) S.cell hloc
    (fun h₁ hns kp => ?_) S.co S.gen S.kind
  have I1 : Inv X pins σ H { s with heap := h₁, toks := s.toks + binds.length } := I.kept kp
  have nX : s.heap.objs.size ≠ X.env.locals := Nat.ne_of_gt I.lt
  have nF : s.heap.objs.size ∉ X.fs := I.nofs (Nat.le_refl _)
  let fdI := ksFn "__init__" qual params (sSuper msg j p0 p1 p2 p3 p4 p5 :: rest) scope .none kV doc pm an (.ref cda) ct cc
  have ek : ∀ x, (callEnv fdI s.heap.objs.size fI).kindOf x = scope.names.lookup x := fun x => rfl
  have eK : (callEnv fdI s.heap.objs.size fI).scope.kind = .function := S.kind
  have eI : interactive (callEnv fdI s.heap.objs.size fI) = false := by
    unfold interactive
    rw [eK]
    rfl
  obtain ⟨oL, I1', es, ep, _, back⟩ := pinned I1 hns (I.hok.fresh (Nat.le_refl _)) nX nF
  refine ks_wpAt_execs_cons (ks_wpAt_Expr_any (ks_wpAt_MethodCall ?_ (ev_super hm _)) eI (by rfl))
  refine ks_wpAt_super_base ((ek _).trans S.ks) ((ek _).trans S.kc) (by decide) rfl (I1'.kIn _ _ lk) rfl hh1 rfl (I1'.kIn _ _ lcd) rfl hvs hfile T.top ?_
  refine ks_loadName_global eK ((ek _).trans S.ks) (loadGlobal_builtin (mg := X.mg) (mb := mb) (v := .type "super") (I1'.mod.glob.keeps I1'.bk) (mg_none_of I1'.mod.kin I1'.mod.glob T.glo) (bl1.keeps I1'.bk) ((bl2 _ (by decide +kernel)).trans (by first | rfl | kernel_rfl)) ⟨rfl, ?_⟩)
  refine wpAny_loadName_free eK ((ek _).trans S.kc) rfl ⟨_, I1'.kIn _ _ lcc, rfl⟩ ?_
  rw [hh2]
  refine wpAny_loadName_local eK ((ek _).trans S.ka) hns hs ?_
  obtain ⟨nm, qn, N, bs, bm, sn, sub, ab, col, dd, k0, k1, k2, k3, k5, hC, hbm⟩ := T.oex.cls
  have hC1 := I1'.kIn _ _ hC
  obtain ⟨t1, ho⟩ := exo_at I1'.hok e
  refine ks_wpAny_isType_cls hC1 rfl ⟨rfl, ?_⟩
  refine ks_wpAny_call_super hC1 rfl ho rfl (fun c z => nomatch z) (looks_mroIn I1'.kIn T.slf) (fun h2 e2 kp2 => ?_)
  have I2 : Inv X ((s.heap.objs.size, oL) :: pins) σ H { s with heap := h2, toks := s.toks + binds.length } := I1'.kept kp2
  obtain ⟨t2, ho2⟩ := exo_at I2.hok e
  have hsm := T.sup
  have hcl : clsIn X.K C = some { name := nm, bases := bs, mro := .ref C :: bm, ns := N, qualname := qn, hasDict := true, slotNames := sn, subclasses := sub, abstract := ab, collection := col, hasDel := false } := by unfold clsIn; rw [hC] <;> rfl
  have IA : InstAt h2 a _ C none := ⟨ho2, rfl, rfl, trivial⟩
  unfold ks_superIn at hsm
  rw [hcl] at hsm
  refine kxs_getMethod kxs_ValueError (so := h₁.objs.size) e2 (looks_opaque I2.kIn T.opq) (l₀ := .ref C :: bm) (fun A Q E s k q => wpAny_bind ((looks_clsIn I2.kIn hcl) A _ E s k (wpAny_pure q))) rfl I2.kIn hsm (IA.type.andThen (looks_subIn I2.kIn T.sbV)) (ks_ne I2.kIn IA hcl) (by decide) ?_
  have kp3 : ∀ b o, h2.get? b = some o → (h2.push (kxs_mw "ValueError.__init__" a)).get? b = some o := fun b o z => Heap.get?_push_of_some _ z
  have I3 : Inv X ((s.heap.objs.size, oL) :: pins) σ H { s with heap := h2.push (kxs_mw "ValueError.__init__" a), toks := s.toks + binds.length + 1 } := I2.kept kp3
  have hbw : (h2.push (kxs_mw "ValueError.__init__" a)).get? h2.objs.size = some (kxs_mw "ValueError.__init__" a) := Heap.get?_push_at rfl rfl
  refine kxs_callWith (i := "ValueError.__init__") (x := a) (by rfl) (evalArgs_plain (Calls.spliced_cons (wpAny_Constant_str (k := j) (pos := p3) (Calls.spliced_nil ⟨hbw, ?_⟩))))
  have I4 := I3.tok (s.toks + binds.length + 1 + 1)
  refine call_up T.oex I4 e hbw (by rw [sizeLine_eq]; exact Nat.le_of_ble_eq_true rfl) (fun s5 I5 _ => ?_)
  exact wpAt_of_wpAny (h (callEnv fdI s.heap.objs.size fI) oL s5 eK ek back I5)

theorem pin_at {q : Addr × Obj} (I : Inv X (q :: pins) σ H s) : s.heap.get? q.1 = some q.2 := (I.pin q (List.mem_append_right _ (List.mem_cons_self ..))).1

/-- an own __init__(self, f): super().__init__(text); self.f = f -/
theorem init1 {qual : Str} {params : Arguments} {scope : Scope} {f msg : Str} {j : Nat} {p0 p1 p2 p3 p4 p5 q0 q1 q2 q3 : Pos} {R : Result → Shared → Prop} {args : Args} {y : V} {u : Value}
    (hm : (p2.endLine == p4.line) = true) (T : XF X.prog X.K C fI qual params [sSuper msg j p0 p1 p2 p3 p4 p5, sPut f q0 q1 q2 q3] scope) (S : ScI params scope [f]) (I : Inv X pins σ H s) (e : H a = some (exo a C none)) (ry : RelV y u) (hroom : A.depth < recursionLimit)
    (hbind : ∀ (kV doc pm : Value) (an : Option Addr) (cdv ct : Value) (cc : Addr), bindArgs (ksFn "__init__" qual params [sSuper msg j p0 p1 p2 p3 p4 p5, sPut f q0 q1 q2 q3] scope .none kV doc pm an cdv ct cc) args = pure [(("self" : Str), Value.ref a), (f, u)])
    (hfs : (f == ("self" : Str)) = false) (hfd : (f == ("__debug__" : Str)) = false) (hno : findIn X.K (.ref C) f = some none)
    (h : ∀ (dx : Addr) (s' : Shared), H dx = none → dx ≠ a → Inv X pins σ (upd (upd H dx (exd dx [(f, y)])) a (exo a C (some dx))) s' → R (.ok (.ret .none)) s') :
    codeAny (model X.prog X.w) A (.call (.ref fI) args) R s := by
  have e1 : ([((("self" : Str)), Value.ref a), (f, u)].reverse).lookup ("self" : Str) = some (.ref a) := by
    have q : (("self" : Str) == f) = false := by rw [Bool.beq_comm]; exact hfs
    simp [List.lookup, q]
  have e2 : ([((("self" : Str)), Value.ref a), (f, u)].reverse).lookup f = some u := by simp [List.lookup]
  refine init_pre (binds := [(("self" : Str), Value.ref a), (f, u)]) hm T S I e hroom hbind (fun x hx => ?_) e1 (fun env oL s1 hk ek back I1 => ?_)
  · rcases List.mem_cons.mp hx with rfl | hx
    · exact S.ka
    · rcases List.mem_cons.mp hx with rfl | hx
      · exact S.kf f (List.mem_cons_self ..)
      · cases hx
  · refine wpAny_execs_cons (plainObj_wpAny_Assign_Attribute ?_ (by rfl))
    refine ESX.ldL (back _ (pin_at I1)) e2 ?_ hk ((ek _).trans (S.kf f (List.mem_cons_self ..))) hfd
    refine ESX.ldL (back _ (pin_at I1)) e1 ?_ hk ((ek _).trans S.ka) (by decide)
    refine ost_new T.oex I1 e hno ry (fun dx s2 hd hne I2 => ?_)
    exact wpAny_pure (h dx s2 hd hne (unpin I2))
end
end Kz
namespace Kz
open PySem PySem.W PySem.Calls L2 PySem.HandSPX

section
variable {M : Model} {A : Around} {E : Value → Shared → Prop} {h : Heap} {g : Array GenState} {d : Drawn} {t : Nat} {os : OsState}
variable {nm q : Str} {C N : Addr} {bs bm bmB : List Value} {hdct : Bool} {sn : List Str} {sub : List Value} {ab : Bool} {col : Option Bool} {dd : Option Addr} {k0 k1 k2 k3 k5 : Option Value} {B newId initId : String}
/-- keywords let through: the check of the built-in __new__ -/
theorem kwCheck (FB : ExcBaseFacts B newId initId bmB) (hT : ∀ X : String, bm.contains (.type X) = bmB.contains (.type X)) {us : List Value} {kw : List (Str × Value)} {Q : Unit → Shared → Prop}
    (hC : h.get? C = some (excClassObj nm q C N bs bm hdct sn sub ab col dd k0 k1 k2 k3 k5 newId)) (z : Q () ⟨h, g, d, t, os⟩) : wpAny M A (checkBuiltinCall newId ⟨.ref C :: us, kw⟩) Q E ⟨h, g, d, t, os⟩ := by
  have hin : (Value.ref C :: bm).contains (.type B) = true := by rw [List.contains_cons, hT, FB.hasB, Bool.or_true]
  have hst := FB.noStar
  simp only [checkBuiltinCall, FB.newKind, FB.newSplit, FB.newRow]
  repeat (first | refine wpAny_loadPart_at hC ?_ | (refine wpAny_isSubtype_exc hC ?_; rw [hin]) | refine wpAny_staticBase_exc hC ?_ | refine wpAny_madeBy_exc hC ?_ | simp only [bne_self_eq_false, Bool.false_eq_true, if_false] | wp_step)
  exact z
end
section
variable {prog : Program} {w : World} {A : Around} {E : Value → Shared → Prop} {R : Result → Shared → Prop} {h : Heap} {g : Array GenState} {d : Drawn} {t : Nat} {os : OsState}
variable {nm q : Str} {C N : Addr} {bs bm bmB : List Value} {hdct : Bool} {sn : List Str} {sub : List Value} {ab : Bool} {col : Option Bool} {dd : Option Addr} {k0 k1 k2 k3 k5 : Option Value} {B newId initId : String}
theorem kwNew (FB : ExcBaseFacts B newId initId bmB) (hT : ∀ X : String, bm.contains (.type X) = bmB.contains (.type X)) {us : List Value} {kw : List (Str × Value)}
    (hC : h.get? C = some (excClassObj nm q C N bs bm hdct sn sub ab col dd k0 k1 k2 k3 k5 newId))
    (z : R (.ok (.ret (.ref (h.objs.size + 1)))) ⟨(h.push (W.kdv_tup us)).push (excO C h.objs.size), g, d, t, os⟩) (hl : us.length ≤ sizeLine) :
    codeAny (model prog w) A (.builtin newId ⟨.ref C :: us, kw⟩) R ⟨h, g, d, t, os⟩ := by
  have he := FB.ends
  have c1 : (Value.ref C :: bm).contains (.type B) = true := by rw [List.contains_cons, hT, FB.hasB, Bool.or_true]
  have c2 : (Value.ref C :: bm).contains (.type "AttributeError") = false := by rw [List.contains_cons, hT, FB.noAttr]; rfl
  have c3 : (Value.ref C :: bm).contains (.type "NameError") = false := by rw [List.contains_cons, hT, FB.noName]; rfl
  refine codeAny_builtinAt FB.entry ?_
  unfold Builtin.«BaseException.__new__»
  refine _root_.PySem.wpAt_bind ?_
  show _root_.PySem.wpAt _ _ _ (stack >>= _) _ _ _
  refine _root_.PySem.wpAt_bind (_root_.PySem.wpAt_stack fun _ _ => _root_.PySem.wpAt_of_wpAny ?_)
  wp_walk
  refine _root_.PySem.wpAt_of_wpAny ?_
  rw [FB.owner]
  repeat (first | with_reducible refine wpAny_madeHere_exc FB.canon hC ?_ | with_reducible refine wpAny_loadPart_at hC ?_ | (with_reducible refine wpAny_isSubtype_exc hC ?_; first | rw [c1] | rw [c2] | rw [c3]) | wp_step)
  show R _ _
  rw [Heap.size_push]
  exact z
theorem kwType (FB : ExcBaseFacts B newId initId bmB) (hT : ∀ X : String, bm.contains (.type X) = bmB.contains (.type X)) {us : List Value} {kw : List (Str × Value)} {fI : Addr} {Q : Fin → Shared → Prop}
    (hC : h.get? C = some (excClassObj nm q C N bs bm hdct sn sub ab col dd k0 k1 k2 k3 k5 newId))
    (hi : W.Looks (model prog w) h (typeLookup (.ref C) "__init__") (some (.ref fI))) (hb : ∀ self, W.Looks (model prog w) h (bindSpecial (.ref fI) self) (.ref fI, [self])) (hl : us.length ≤ sizeLine)
    (z : codeAny (model prog w) A (.call (.ref fI) ⟨.ref (h.objs.size + 1) :: us, kw⟩)
      (fun r s' => match r with | .ok (.ret v) => v = .none ∧ Q (.done (.ret (.ref (h.objs.size + 1)))) s' | .ok _ => False | .error e => E e s')
      ⟨(h.push (W.kdv_tup us)).push (excO C h.objs.size), g, d, t, os⟩) :
    wpAny (model prog w) A (Builtin.«type.__call__» ⟨.ref C :: us, kw⟩) Q E ⟨h, g, d, t, os⟩ := by
  repeat (first | with_reducible refine wpAny_loadPart_at hC ?_ | with_reducible refine wpAny_madeBy_exc hC ?_ | wp_step)
  refine codeAny_call_builtin_code (Code.quiet_builtin _ FB.quiet) (kwCheck FB hT hC (kwNew FB hT hC ?_ hl))
  show wpAny _ _ _ _ _ _
  have kp : ∀ b o, h.get? b = some o → ((h.push (W.kdv_tup us)).push (excO C h.objs.size)).get? b = some o := fun b o e => Heap.get?_push_of_some _ (Heap.get?_push_of_some _ e)
  have hC1 := kp _ _ hC
  have hx : ((h.push (W.kdv_tup us)).push (excO C h.objs.size)).get? (h.objs.size + 1) = some (excO C h.objs.size) := by heap_get
  have hcc : (Value.ref C :: bm).contains (.ref C) = true := by simp
  have i1 := hi.keeps kp
  have b1 := (hb (.ref (h.objs.size + 1))).keeps kp
  unfold isInstance
  repeat (first | with_reducible refine wpAny_loadPart_at hx ?_ | (with_reducible refine wpAny_isSubtype_exc hC1 ?_; rw [hcc]) | wp_step)
  show wpAny _ _ (typeLookup (.ref C) _) _ _ _
  refine i1.at (wpAny_holding (wpAny_bind (b1.at (wpAny_bind (wpAny_call (codeAny_mono z fun r s' y => ?_))))))
  rcases r with e | (v | _ | _ | _) <;> first | exact y | exact y.elim | skip
  obtain ⟨rfl, y⟩ := y
  first
    | exact wpAny_pure (wpAny_pure y)
    | (wp_walk; exact y)
theorem kwCall (FB : ExcBaseFacts B newId initId bmB) (hT : ∀ X : String, bm.contains (.type X) = bmB.contains (.type X)) {us : List Value} {kw : List (Str × Value)} {fI : Addr}
    (hC : h.get? C = some (excClassObj nm q C N bs bm hdct sn sub ab col dd k0 k1 k2 k3 k5 newId))
    (hi : W.Looks (model prog w) h (typeLookup (.ref C) "__init__") (some (.ref fI))) (hb : ∀ self, W.Looks (model prog w) h (bindSpecial (.ref fI) self) (.ref fI, [self])) (hl : us.length ≤ sizeLine)
    (z : codeAny (model prog w) (A.under (.builtin "type.__call__" ⟨.ref C :: us, kw⟩)) (.call (.ref fI) ⟨.ref (h.objs.size + 1) :: us, kw⟩) (W.InitBack (h.objs.size + 1) R)
      ⟨(h.push (W.kdv_tup us)).push (excO C h.objs.size), g, d, t, os⟩) :
    codeAny (model prog w) A (.call (.ref C) ⟨us, kw⟩) R ⟨h, g, d, t, os⟩ := by
  have f1 := tc_lookup
  have f2 := tc_bind (.ref C)
  have hTy : (⟨h, g, d, t, os⟩ : Shared).TypeIs (.ref C) "type" := ⟨_, hC, rfl⟩
  refine codeAny_of_tree (show wpAny _ _ (callAny (.ref C) _) _ _ _ from ?_)
  repeat (any_goals (first | assumption | with_reducible refine wpAny_loadPart_at hC ?_ | wp_step))
  refine ⟨rfl, codeAny_call_builtin_at (Code.quiet_builtin _ (by decide +kernel)) entry_typeCall (wpAny_check_type_call_sub hC (kwType FB hT hC hi hb hl (codeAny_mono z fun r s' y => ?_)))⟩
  rcases r with e | (v | _ | _ | _) <;> exact y
end
end Kz
namespace Kz
open PySem PySem.W PySem.Calls PyProof.Rows L2

section
variable {X : Cx} {pins : List (Addr × Obj)} {σ : L2.St} {H : Hp} {s : Shared} {a C fI : Addr} {A : Around} {E : Value → Shared → Prop}

/-- the heap behind the making of an error: at a the error, at dx its dict -/
def mkH (H : Hp) (a C dx : Addr) (fs : List (Str × V)) : Hp := upd (upd H dx (exd dx fs)) a (exo a C (some dx))
theorem mkH_over {fs : List (Str × V)} {dx : Addr} {o : HO} : mkH (upd H a o) a C dx fs = mkH H a C dx fs := by
  funext b
  unfold mkH upd
  by_cases hb : b = a
  · simp [hb]
  · simp [hb]

end

/-! ### the rules -/
/-- the texts of an own error class with one field -/
structure X1 (prog : Program) (K : Frag) (C : Addr) (f : Str) : Prop where
  ex : ∃ (fI : Addr) (qual : Str) (params : Arguments) (scope : Scope) (msg : Str) (j : Nat) (p0 p1 p2 p3 p4 p5 q0 q1 q2 q3 : Pos), (p2.endLine == p4.line) = true ∧ XF prog K C fI qual params [sSuper msg j p0 p1 p2 p3 p4 p5, sPut f q0 q1 q2 q3] scope ∧ ScI params scope [f] ∧
    (∀ (kV doc pm : Value) (an : Option Addr) (cdv ct : Value) (cc : Addr) (a u : Value), bindArgs (ksFn "__init__" qual params [sSuper msg j p0 p1 p2 p3 p4 p5, sPut f q0 q1 q2 q3] scope .none kV doc pm an cdv ct cc) ⟨[a, u], []⟩ = pure [(("self" : Str), a), (f, u)]) ∧
    (∀ (kV doc pm : Value) (an : Option Addr) (cdv ct : Value) (cc : Addr) (a u : Value), bindArgs (ksFn "__init__" qual params [sSuper msg j p0 p1 p2 p3 p4 p5, sPut f q0 q1 q2 q3] scope .none kV doc pm an cdv ct cc) ⟨[a], [(f, u)]⟩ = pure [(("self" : Str), a), (f, u)])
  fs : (f == ("self" : Str)) = false
  fd : (f == ("__debug__" : Str)) = false
  no : findIn K (.ref C) f = some none
  kC : keepIn K (.ref C) = true
theorem under_depth {A : Around} {C : Addr} {us : List Value} {kw : List (Str × Value)} {k : Nat} (hr : Room k A) : (A.under (.builtin "type.__call__" ⟨.ref C :: us, kw⟩)).depth < recursionLimit := by
  rw [make_depth]
  have := hr.dp
  omega

end Kz
namespace Kz
open PySem PySem.W PySem.Calls PyProof.Rows L2 LamX


theorem mkH_a {H : Hp} {a C dx : Addr} {fs : List (Str × V)} : mkH H a C dx fs a = some (exo a C (some dx)) := upd_same
theorem mkH_d {H : Hp} {a C dx : Addr} {fs : List (Str × V)} (ne : dx ≠ a) : mkH H a C dx fs dx = some (exd dx fs) := by
  unfold mkH
  rw [upd_ne ne, upd_same]
theorem new_ext {H : Hp} {a : Addr} {o : HO} (n : H a = none) : ∀ b u, H b = some u → upd H a o b = some u := fun b u e => by
  rw [upd_ne (ne_of_none e n)]
  exact e

theorem small4 (n : Nat) (h : n ≤ 1000 := by decide) : n ≤ sizeLine := by
  rw [sizeLine_eq]
  omega
end Kz
namespace Kz
open PySem PySem.W PySem.Calls PyProof.Rows L2 LamX

theorem boot_isi : bootBuiltins "isinstance" = some (.builtin "isinstance") := by decide +kernel

end Kz
namespace Kz
open PySem PySem.W PySem.Calls PyProof.Rows L2 LamX
open He (ga)

/-! ### the text -/
theorem PSs.of_eq {X : Cx} {a b : List Stmt} {t : TS} (e : b = a) (h : PSs X a t) : PSs X b t := by
  rw [e]
  exact h
section
variable {P : Program} {w : World} {K : Frag} {mg : Str → Option Value} {base : Heap}

end
end Kz
namespace Kz
open PySem PySem.W PySem.Calls PyProof.Rows L2 LamX
open He (ga)

theorem same_new {H : Hp} {p : Addr} {o : HO} (h : H p = none) : Same H (upd H p o) := new_ext h

section
variable {P : Program} {w : World} {K : Frag} {mg : Str → Option Value} {base : Heap}
/-! ### lists of truths -/
end
end Kz
namespace Kz
open PySem PySem.W PySem.Calls PyProof.Rows L2 LamX
open He (ga)
theorem boot_in : bootBuiltins "int" = some (.type "int") := by decide +kernel
theorem boot_li : bootBuiltins "list" = some (.type "list") := by decide +kernel

/-- the spring of draws -/
structure SS (H : Hp) (l li : Addr) (ns : List Int) (b c d : Int) : Prop where
  l1 : H l = some (.lst [.ref li, .int b, .int c, .int d])
  l2 : H li = some (.lst (ns.map V.int))
  ne : l ≠ li
  b0 : 0 ≤ b
  c0 : 0 ≤ c
  d0 : 0 ≤ d
  d1 : d < 2147483647
/-- all but the spring stands -/
def ExtS (l li : Addr) (H H' : Hp) : Prop := ∀ x o, H x = some o → x ≠ l → x ≠ li → H' x = some o
theorem ExtS.trans {l li : Addr} {H H1 H2 : Hp} (a : ExtS l li H H1) (b : ExtS l li H1 H2) : ExtS l li H H2 := fun x o e h1 h2 => b x o (a x o e h1 h2) h1 h2
theorem ExtS.refl {l li : Addr} {H : Hp} : ExtS l li H H := fun _ _ e _ _ => e
theorem SS.set {H : Hp} {l li : Addr} {ns : List Int} {b c d b' c' d' : Int} (s : SS H l li ns b c d) (hb : 0 ≤ b') (hc : 0 ≤ c') (hd : 0 ≤ d') (hd1 : d' < 2147483647) : SS (upd H l (.lst [.ref li, .int b', .int c', .int d'])) l li ns b' c' d' ∧ ExtS l li H (upd H l (.lst [.ref li, .int b', .int c', .int d'])) :=
  ⟨⟨upd_same, by rw [upd_ne s.ne.symm]; exact s.l2, s.ne, hb, hc, hd, hd1⟩, fun x o e h1 _ => by rw [upd_ne h1]; exact e⟩
theorem SS.pop {H : Hp} {l li : Addr} {n : Int} {ns : List Int} {b c d : Int} (s : SS H l li (n :: ns) b c d) : SS (upd H li (.lst (ns.map V.int))) l li ns b c d ∧ ExtS l li H (upd H li (.lst (ns.map V.int))) :=
  ⟨⟨by rw [upd_ne s.ne]; exact s.l1, upd_same, s.ne, s.b0, s.c0, s.d0, s.d1⟩, fun x o e _ h2 => by rw [upd_ne h2]; exact e⟩
theorem SS.new {H : Hp} {l li p : Addr} {ns : List Int} {b c d : Int} {o : HO} (s : SS H l li ns b c d) (n : H p = none) : SS (upd H p o) l li ns b c d ∧ ExtS l li H (upd H p o) :=
  ⟨⟨new_ext n _ _ s.l1, new_ext n _ _ s.l2, s.ne, s.b0, s.c0, s.d0, s.d1⟩, fun x o e _ _ => new_ext n _ _ e⟩

theorem tWhile_split {c : TT} {tb : TS} {D : Ends} {σ : L2.St} {H : Hp} (Ok : L2.St → Hp → Prop) (a : ∀ σ H, Ok σ H → D.nx σ H) (k : (∀ σ H, Ok σ H → D.nx σ H) → tWhile c tb D σ H) : tWhile c tb D σ H := k a
theorem seq0 {α : Type} (x : α) (r : List α) : seqIndex? 0 (x :: r).length = some 0 := by
  unfold seqIndex?
  simp
theorem canLay_int : ∀ bs : List Int, PyData.canLayAll0 (bs.map PyData.int) = true
  | [] => rfl
  | b :: r => by
    show (PyData.canLay0 (.int b) && PyData.canLayAll0 _) = true
    rw [canLay_int r]
    rfl
theorem depth_int : ∀ bs : List Int, PyData.depthAll (bs.map PyData.int) = 0
  | [] => rfl
  | b :: r => by
    simp only [List.map_cons, PyData.depthAll, PyData.depth, depth_int r]
    rfl
theorem shaped_int (bs : List Int) : SeqAt.shaped (.list (bs.map PyData.int)) = true := by
  unfold SeqAt.shaped
  rw [Bool.and_eq_true]
  constructor
  · simp only [PyData.canLay0, canLay_int]
  · simp only [PyData.depth, depth_int]
    rfl
theorem dpAll_int {K : Frag} {H : Hp} : ∀ bs : List Int, DpAll K H (bs.map V.int) (bs.map PyData.int)
  | [] => .nil
  | b :: r => .cons (.int b) (dpAll_int r)
section
variable {P : Program} {w : World} {K : Frag} {mg : Str → Option Value} {base : Heap}
def spStart (K : Frag) : Sp := fun vs H Q _ => ∃ (a : Addr) (ns : List Int), vs = [.ref a] ∧ SqL K H a (ns.map V.int) ∧ ∀ (H' : Hp) (l li : Addr), Same H H' → H l = none → H li = none → SS H' l li ns 0 0 19 → Q (.ref l) H'
end
end Kz
namespace Kz
open PySem PySem.W PySem.Calls PyProof.Rows L2 LamX
open He (ga)

/-! ### a def that is only called where nothing is being shown -/
structure FnG (P : Program) (w : World) (K : PySem.W.Frag) (mg : Str → Option Value) (base : Heap) (CX : CXT) (k : Nat) (f : Addr) (fd : FuncData) (ps : List Str) (sp : Sp) : Prop where
  len : ∀ vs H Q E, sp vs H Q E → vs.length = ps.length
  run : ∀ (A : Around) (outer : List Env) (s : Shared) (H : Hp) (args : Args) (us : List Value) (vs : List V) (Q : VK) (E : XK), A.guards = some [] → Room k A → Env0 P w K mg base A outer s H → BindsTo s fd args (ps.zip us) → Vals vs us → sp vs H Q E →
    codeAny (model P w) A (.call (.ref f) args) (CR CX outer P w H s Q E) s
theorem FunD.okG {CX : CXT} {P : Program} {w : World} {K : PySem.W.Frag} {mg : Str → Option Value} {base : Heap} {x qual : Str} {params : Arguments} {body : List Stmt} {scope : Scope} {dvs : List V} {kws : List (Str × V)} {f : Addr} {fd : FuncData} {N ps : List Str} {k : Nat} {sp : Sp}
    (F : FunD K x qual params body scope dvs kws f fd) (S : FnScope N ps scope) (len : ∀ vs H Q E, sp vs H Q E → vs.length = ps.length)
    (hbody : ∀ (cdv : Value) (A : Around) (outer : List Env) (s : Shared) (H : Hp) (vs : List V) (Q : VK) (E : XK), (A.deeper (envOfC qual scope s.heap.objs.size f cdv)).guards = some [] → Room k (A.deeper (envOfC qual scope s.heap.objs.size f cdv)) → sp vs H Q E →
      ∃ t, PSs (cxOf CX P w K mg base N qual scope f cdv A outer s H E) body t ∧ t { nx := fun _ H' => Q .non H', rt := Q } (start N vs) H) : FnG P w K mg base CX (k + 1) f fd ps sp := by
  obtain ⟨oc, od, dV, kV, doc, pm, an, cdv, ct, osl, rfl, lk, hcd, _, _⟩ := F.ex
  exact ⟨len, fun A outer s H args us vs Q E hg hr e0 hb r hsp => LamX.run_ofS lk hcd S hr e0 hb r (len _ _ _ _ hsp) fun hr' => hbody cdv A outer s H vs Q E hg hr' hsp⟩

/-! ### repr, the dicts known to be no table of modules -/
end Kz
namespace Kz
open PySem PySem.W PySem.Calls PyProof.Rows L2 LamX
open He (ga)
theorem seqI {r : Int} {n : Nat} (h0 : 0 ≤ r) (h1 : r < n) : seqIndex? r n = some r.toNat := by
  unfold seqIndex?
  have a1 : ¬ r < 0 := by omega
  simp [a1]
  omega
def rLen (K : Frag) : List V → Hp → VK → Prop := fun xs H Q => ∃ p ys, xs = [.ref p] ∧ (SqL K H p ys ∨ SqT K H p ys) ∧ Q (.int ys.length) H
end Kz
namespace K14
open PySem PySem.W PySem.Calls PyProof.Rows L2 LamX
open He (ga)
open Kz (boot_isi same_new small4 new_ext boot_li boot_in)
/-! ### any thing that the law passes -/
def kd : Key → PyData
  | .inl i => .int i
  | .inr x => .str x
mutual
inductive Th (H : Hp) : V → PyData → Prop
  | non : Th H .non .none
  | bl (b : Bool) : Th H (.bl b) (.bool b)
  | int (i : Int) : Th H (.int i) (.int i)
  | str (x : Str) : Th H (.str x) (.str x)
  | lst {a : Addr} {xs : List V} {ds : List PyData} : H a = some (.lst xs) → ThAll H xs ds → Th H (.ref a) (.list ds)
  | tup {a : Addr} {xs : List V} {ds : List PyData} : H a = some (.tup xs) → ThAll H xs ds → Th H (.ref a) (.tuple ds)
  | dct {a : Addr} {kvs : List (Key × V)} {ps : List (PyData × PyData)} : H a = some (.dK kvs) → ThKv H kvs ps → Th H (.ref a) (.dict ps)
inductive ThAll (H : Hp) : List V → List PyData → Prop
  | nil : ThAll H [] []
  | cons {v : V} {vs : List V} {d : PyData} {ds : List PyData} : Th H v d → ThAll H vs ds → ThAll H (v :: vs) (d :: ds)
inductive ThKv (H : Hp) : List (Key × V) → List (PyData × PyData) → Prop
  | nil : ThKv H [] []
  | cons {k : Key} {v : V} {vs : List (Key × V)} {d : PyData} {ds : List (PyData × PyData)} : Th H v d → ThKv H vs ds → ThKv H ((k, v) :: vs) ((kd k, d) :: ds)
end
mutual
theorem Th.ext {H H1 : Hp} (e : L2.Same H H1) : ∀ {v : V} {d : PyData}, Th H v d → Th H1 v d
  | _, _, .non => .non
  | _, _, .bl b => .bl b
  | _, _, .int i => .int i
  | _, _, .str x => .str x
  | _, _, .lst h r => .lst (e _ _ h) (ThAll.ext e r)
  | _, _, .tup h r => .tup (e _ _ h) (ThAll.ext e r)
  | _, _, .dct h r => .dct (e _ _ h) (ThKv.ext e r)
theorem ThAll.ext {H H1 : Hp} (e : L2.Same H H1) : ∀ {v : List V} {d : List PyData}, ThAll H v d → ThAll H1 v d
  | _, _, .nil => .nil
  | _, _, .cons h r => .cons (Th.ext e h) (ThAll.ext e r)
theorem ThKv.ext {H H1 : Hp} (e : L2.Same H H1) : ∀ {v : List (Key × V)} {d : List (PyData × PyData)}, ThKv H v d → ThKv H1 v d
  | _, _, .nil => .nil
  | _, _, .cons h r => .cons (Th.ext e h) (ThKv.ext e r)
end
theorem ThAll.length {H : Hp} : ∀ {vs : List V} {ds : List PyData}, ThAll H vs ds → vs.length = ds.length
  | _, _, .nil => rfl
  | _, _, .cons _ r => by rw [List.length_cons, List.length_cons, r.length]
def isL : PyData → Bool
  | .list _ => true
  | .tuple _ => true
  | _ => false
def isN : PyData → Bool
  | .int i => decide (0 ≤ i)
  | _ => false
def tyN : PyData → String
  | .none => "NoneType"
  | .bool _ => "bool"
  | .int _ => "int"
  | .str _ => "str"
  | .list _ => "list"
  | .tuple _ => "tuple"
  | .dict _ => "dict"
theorem Th.ty {K : Frag} {H : Hp} {v : V} {d : PyData} (h : Th H v d) : TyX K H v (.type (tyN d)) := by
  cases h with
  | non => exact .base .non
  | bl b => exact .base (.bl b)
  | int i => exact .base (.int i)
  | str x => exact .base (.str x)
  | lst h r => exact .base (.lst h)
  | tup h r => exact .base (.tup h)
  | dct h r => exact .base (.dK h)
theorem boot_tu : bootBuiltins "tuple" = some (.type "tuple") := by decide +kernel
theorem boot_bo : bootBuiltins "bool" = some (.type "bool") := by decide +kernel
theorem is_lt {K : Frag} (d : PyData) : kitAny K (.type (tyN d)) [.type "list", .type "tuple"] = some (isL d) := by
  cases d <;> rfl
theorem is_in {K : Frag} (d : PyData) : kitOne K (.type (tyN d)) (.type "int") = some (match d with | .int _ => true | .bool _ => true | _ => false) := by
  cases d <;> rfl
theorem is_bo {K : Frag} (d : PyData) : kitOne K (.type (tyN d)) (.type "bool") = some (match d with | .bool _ => true | _ => false) := by
  cases d <;> rfl
section
variable {P : Program} {w : World} {K : Frag} {mg : Str → Option Value} {base : Heap}
/-- a look at any thing -/
def spLook (f : PyData → Bool) : Sp := fun vs H Q _ => ∃ (v : V) (d : PyData), vs = [v] ∧ Th H v d ∧ ∀ H', L2.Same H H' → Q (.bl (f d)) H'
end
end K14
namespace Kz
open PySem PySem.W PySem.Calls PyProof.Rows L2 LamX
open He (ga)
def Has (P : Program) (w : World) (K : Frag) (mg : Str → Option Value) (base : Heap) (x : Str) (k : Nat) (ps : List Str) (sp : Sp) : Prop := ∃ f fd, mg x = some (.ref f) ∧ keepIn K (.ref f) = true ∧ L2.Binds K fd ps [] ∧ FnOk P w K mg base CX0 k f fd ps sp
abbrev noE : XK := fun _ _ _ => False
section
variable {X : Cx} {x : Str} {p pos : Pos} {e : Expr} {es : List Expr} {ps : List Str} {sp : Sp} {k : Nat} {t : TA}
theorem pe_has (h : Has X.prog X.w X.K X.mg X.base x k ps sp) (hr : Room k X.A) (hg : Gl X x) (ha : PA X (e :: es) t) (hdb : (x == ("__debug__" : Str)) = false := by decide) (he : starEach (e :: es) X.env = (false, eval e X.env) :: starEach es X.env := by rfl) (hpl : (backTo pos (starEach es X.env)).any (·.1) = false := by rfl) :
    PE X (.Call (.Name x p) (e :: es) [] pos) (tCall sp [] noE t) := by
  obtain ⟨f, fd, h1, h2, h3, h4⟩ := h
  exact pe_call h4 hr hg h1 h2 h3 .nil pass0 ha hdb he hpl
end
end Kz
namespace K14
open PySem PySem.W PySem.Calls PyProof.Rows L2 LamX
open He (ga)
open Kz (boot_isi same_new small4 new_ext boot_li boot_in Has pe_has noE)
def its : PyData → List PyData
  | .list ds => ds
  | .tuple ds => ds
  | _ => []
def isF : PyData → Bool
  | .int i => decide (0 ≤ i) && decide (i ≤ 1)
  | _ => false
def isR (d : PyData) : Bool := isL d && (its d).all isF
def isP (d : PyData) : Bool := isL d && decide ((its d).length = 2)
def isE (d : PyData) : Bool := match its d with
  | [x, y] => isL d && (isR x && (isR y && decide (0 < (its y).length)))
  | _ => false
/-- a list or a tuple, as a list of values -/
theorem Th.seq {K : Frag} {H : Hp} {v : V} {d : PyData} (h : Th H v d) (l : isL d = true) : ∃ a xs, v = .ref a ∧ ThAll H xs (its d) ∧ (H a = some (.lst xs) ∨ H a = some (.tup xs)) := by
  cases h with
  | lst h r => exact ⟨_, _, rfl, r, .inl h⟩
  | tup h r => exact ⟨_, _, rfl, r, .inr h⟩
  | _ => cases l
theorem ThAll.get {H : Hp} : ∀ {vs : List V} {ds : List PyData}, ThAll H vs ds → ∀ {i : Nat} {v : V}, vs[i]? = some v → ∃ d, ds[i]? = some d ∧ Th H v d
  | _, _, .nil, i, v, e => by simp at e
  | _, _, .cons h r, i, v, e => by
    cases i with
    | zero => obtain rfl := Option.some.inj e; exact ⟨_, rfl, h⟩
    | succ i => exact r.get e
section
variable {X : Cx} {tg e : Expr} {w1 w2 : TI}
theorem pi_or (h1 : PI X tg e w1) (h2 : PI X tg e w2) : PI X tg e (fun σ H R => w1 σ H R ∨ w2 σ H R) := ⟨fun pins s σ H R I h => h.elim (h1.run pins s σ H R I) (h2.run pins s σ H R I)⟩
end
theorem boot_all : bootBuiltins "all" = some (.builtin "all") := by decide +kernel
/-- a look at any thing with bounded lists -/
def spLookB (f : PyData → Bool) : Sp := fun vs H Q _ => ∃ (v : V) (d : PyData), vs = [v] ∧ Th H v d ∧ (its d).length ≤ 100000 ∧ (∀ x ∈ its d, (its x).length ≤ 100000) ∧ ∀ H', L2.Same H H' → Q (.bl (f d)) H'
end K14
namespace K14
open PySem PySem.W PySem.Calls PyProof.Rows L2 LamX
open He (ga)
open Kz (boot_isi same_new small4 new_ext boot_li boot_in Has pe_has noE)
section
variable {P : Program} {w : World} {K : Frag} {mg : Str → Option Value} {base : Heap}
def spRow : Sp := fun vs H Q _ => ∃ (v : V) (d : PyData), vs = [v] ∧ Th H v d ∧ (its d).length ≤ 100000 ∧ ∀ H', L2.Same H H' → Q (.bl (isR d)) H'
theorem seq_ix {H : Hp} {v : V} {d : PyData} {x y : PyData} (h : Th H v d) (l : isL d = true) (e : its d = [x, y]) : ∃ a p q, v = .ref a ∧ Th H p x ∧ Th H q y ∧ (H a = some (.lst [p, q]) ∨ H a = some (.tup [p, q])) := by
  obtain ⟨a, xs, rfl, r, hx⟩ := h.seq (K := []) l
  rw [e] at r
  cases r with
  | cons r1 r2 =>
    cases r2 with
    | cons r2 r3 =>
      cases r3
      exact ⟨a, _, _, rfl, r1, r2, hx⟩
end
end K14
namespace K14
open PySem PySem.W PySem.Calls PyProof.Rows L2 LamX
open He (ga)
open Kz (boot_isi same_new small4 new_ext boot_li boot_in Has pe_has noE shaped_int dpAll_int)
theorem cutV_take {xs : List V} {l : Nat} (h : l ≤ xs.length) : cutV xs none (some (l : Int)) = xs.take l := by
  unfold cutV
  have e1 : HT.sIx xs.length 0 none = 0 := rfl
  have e2 : HT.sIx xs.length xs.length (some (l : Int)) = l := by
    rw [HT.sIx_nat]
    omega
  rw [e1, e2]
  rfl
theorem eqv_ints : ∀ xs ys : List Int, PyData.eqvAll (xs.map PyData.int) (ys.map PyData.int) = decide (xs = ys)
  | [], [] => rfl
  | [], y :: ys => rfl
  | x :: xs, [] => rfl
  | x :: xs, y :: ys => by
    show (PyData.eqv (.int x) (.int y) && PyData.eqvAll (xs.map PyData.int) (ys.map PyData.int)) = _
    rw [eqv_ints xs ys]
    have e : PyData.eqv (.int x) (.int y) = decide (x = y) := rfl
    rw [e]
    by_cases h1 : x = y
    · by_cases h2 : xs = ys
      · simp [h1, h2]
      · simp [h1, h2]
    · simp [h1]
theorem eqv_il (xs ys : List Int) : PyData.eqv (.list (xs.map PyData.int)) (.list (ys.map PyData.int)) = decide (xs = ys) := eqv_ints xs ys
def condR (ns : List Int) (l : Nat) : Prop := ns.length % l = 0 ∧ (List.replicate (ns.length / l) (ns.take l)).flatten = ns
/-- rs is the shortest round of ns -/
def IsShort (ns rs : List Int) : Prop := ∃ l, 1 ≤ l ∧ l ≤ ns.length ∧ condR ns l ∧ (∀ m, 1 ≤ m → m < l → ¬ condR ns m) ∧ rs = ns.take l
theorem flat_map (k : Nat) (xs : List Int) : (List.replicate k (xs.map V.int)).flatten = ((List.replicate k xs).flatten).map V.int := by
  rw [List.map_flatten, List.map_replicate]
section
variable {P : Program} {w : World} {K : Frag} {mg : Str → Option Value} {base : Heap}
def spShort : Sp := fun vs H Q _ => ∃ (a : Addr) (ns : List Int), vs = [.ref a] ∧ H a = some (.lst (ns.map V.int)) ∧ 0 < ns.length ∧ ns.length ≤ 1000 ∧ ∀ (H' : Hp) (p : Addr) (rs : List Int), L2.Same H H' → H' p = some (.lst (rs.map V.int)) → IsShort ns rs → Q (.ref p) H'
end
end K14
namespace K14
open PySem PySem.W PySem.Calls PyProof.Rows L2 LamX
open He (ga)
open Kz (boot_isi same_new small4 new_ext boot_li boot_in Has pe_has noE shaped_int dpAll_int)
/-- a statement that is never come to -/
def tNever : TS := fun _ _ _ => False
theorem ps_never {X : Cx} {st : Stmt} : PS X st tNever := ⟨fun _ _ _ _ _ _ h => h.elim⟩
section
variable {P : Program} {w : World} {K : Frag} {mg : Str → Option Value} {base : Heap}
/-- asked of what is right -/
def spRight (f : PyData → Bool) : Sp := fun vs H Q _ => ∃ (v : V) (d : PyData), vs = [v] ∧ Th H v d ∧ f d = true ∧ (its d).length ≤ 100000 ∧ (∀ x ∈ its d, (its x).length ≤ 100000) ∧ ∀ H', L2.Same H H' → Q .non H'
end
end K14
namespace K14
open PySem PySem.W PySem.Calls PyProof.Rows L2 LamX
open He (ga)
open Kz (boot_isi same_new small4 new_ext boot_li boot_in Has pe_has noE shaped_int dpAll_int)
theorem th_ints {H : Hp} : ∀ {xs : List V} {ns : List Int}, ThAll H xs (ns.map PyData.int) → xs = ns.map V.int
  | _, [], h => by cases h; rfl
  | _, n :: ns, h => by
    cases h with
    | cons h1 h2 =>
      cases h1
      rw [th_ints h2]
      rfl
theorem atI_back {α : Type} {xs : List α} {k : Nat} (h : k < xs.length) : atI xs (-1 - (k : Int)) = xs[xs.length - 1 - k]? := by
  unfold atI ixN
  rw [if_neg (by omega), if_pos (by omega)]
  have e : (-1 - (k : Int) + (xs.length : Int)).toNat = xs.length - 1 - k := by omega
  rw [e]
  rfl
/-- k of the last figures of hs go on from the round's end -/
def Rolls (hs rs : List Int) (k : Nat) : Prop := ∀ i, i < k → hs[hs.length - 1 - i]? = rs[rs.length - 1 - i % rs.length]?
def IsLeast (hs as hs' as' : List Int) : Prop := ∃ (rs : List Int) (k : Nat), IsShort as rs ∧ k ≤ hs.length ∧ Rolls hs rs k ∧ (k = hs.length ∨ hs[hs.length - 1 - k]? ≠ rs[rs.length - 1 - k % rs.length]?) ∧
  hs' = hs.take (hs.length - k) ∧ as' = rs.drop (rs.length - k % rs.length) ++ rs.take (rs.length - k % rs.length)
theorem short_len {as rs : List Int} (h : IsShort as rs) (h0 : 0 < as.length) : 0 < rs.length ∧ rs.length ≤ as.length := by
  obtain ⟨l, h1, h2, _, _, rfl⟩ := h
  rw [List.length_take]
  omega
theorem cut_drop {xs : List V} {l : Nat} (h : l ≤ xs.length) : cutV xs (some (l : Int)) none = xs.drop l := by
  unfold cutV
  rw [HT.sIx_nat, HT.sIx_none]
  have e : min l xs.length = l := by omega
  rw [e]
  exact List.take_of_length_le (by rw [List.length_drop]; omega)
section
variable {P : Program} {w : World} {K : Frag} {mg : Str → Option Value} {base : Heap}
/-- an endless row: hs, then as for ever -/
def EndV (H : Hp) (v : V) (hs as : List Int) : Prop := ∃ (x y : PyData) (d : PyData), Th H v d ∧ isE d = true ∧ its d = [x, y] ∧ its x = hs.map PyData.int ∧ its y = as.map PyData.int ∧ 0 < as.length ∧ hs.length ≤ 500 ∧ as.length ≤ 500
theorem EndV.look {H : Hp} {v : V} {hs as : List Int} (h : EndV H v hs as) : ∃ d, Th H v d ∧ isE d = true ∧ (its d).length ≤ 100000 ∧ ∀ x ∈ its d, (its x).length ≤ 100000 := by
  obtain ⟨x, y, d, t, e, q, hx, hy, p0, p1, p2⟩ := h
  refine ⟨d, t, e, by rw [q]; exact Nat.le_of_ble_eq_true rfl, fun z hz => ?_⟩
  rw [q] at hz
  rcases List.mem_cons.mp hz with rfl | hz
  · rw [hx, List.length_map]; omega
  · rcases List.mem_singleton.mp hz with rfl
    rw [hy, List.length_map]; omega
/-- its parts, where they stand -/
theorem EndV.parts {H : Hp} {v : V} {hs as : List Int} (h : EndV H v hs as) : ∃ a p q, v = .ref a ∧ (H a = some (.lst [.ref p, .ref q]) ∨ H a = some (.tup [.ref p, .ref q])) ∧ (H p = some (.lst (hs.map V.int)) ∨ H p = some (.tup (hs.map V.int))) ∧ (H q = some (.lst (as.map V.int)) ∨ H q = some (.tup (as.map V.int))) := by
  obtain ⟨x, y, d, t, e, q, hx, hy, p0, p1, p2⟩ := h
  have e' : (isL d && (isR x && (isR y && decide (0 < (its y).length)))) = true := by
    unfold isE at e
    rw [q] at e
    exact e
  obtain ⟨e1, e2⟩ := Bool.and_eq_true_iff.mp e'
  obtain ⟨e3, e4⟩ := Bool.and_eq_true_iff.mp e2
  obtain ⟨e5, e6⟩ := Bool.and_eq_true_iff.mp e4
  obtain ⟨a, u, v', rfl, tu, tv, ha⟩ := seq_ix t e1 q
  obtain ⟨p, ps, rfl, rp, hp⟩ := tu.seq (K := []) (Bool.and_eq_true_iff.mp (show (isL x && _) = true from e3)).1
  obtain ⟨r, rs, rfl, rr, hr⟩ := tv.seq (K := []) (Bool.and_eq_true_iff.mp (show (isL y && _) = true from e5)).1
  rw [hx] at rp
  rw [hy] at rr
  rw [th_ints rp] at hp
  rw [th_ints rr] at hr
  exact ⟨a, p, r, rfl, ha, hp, hr⟩
theorem EndV.ext {H H1 : Hp} {v : V} {hs as : List Int} (h : EndV H v hs as) (e : L2.Same H H1) : EndV H1 v hs as := by
  obtain ⟨x, y, d, t, r⟩ := h
  exact ⟨x, y, d, t.ext e, r⟩
theorem ix_p0 {H : Hp} {a p q : Addr} {Q : VK} (h : H a = some (.lst [.ref p, .ref q]) ∨ H a = some (.tup [.ref p, .ref q])) (k : Q (.ref p) H) : rIx K (.ref a) (.int 0) H Q :=
  h.elim (fun h => .inl ⟨a, _, 0, .ref p, rfl, rfl, .inl (.inl h), atI_nat (j := 0) rfl, k⟩) fun h => .inr (.inl ⟨a, _, 0, .ref p, rfl, rfl, .inl (.inl h), atI_nat (j := 0) rfl, k⟩)
theorem ix_p1 {H : Hp} {a p q : Addr} {Q : VK} (h : H a = some (.lst [.ref p, .ref q]) ∨ H a = some (.tup [.ref p, .ref q])) (k : Q (.ref q) H) : rIx K (.ref a) (.int 1) H Q :=
  h.elim (fun h => .inl ⟨a, _, 1, .ref q, rfl, rfl, .inl (.inl h), atI_nat (j := 1) rfl, k⟩) fun h => .inr (.inl ⟨a, _, 1, .ref q, rfl, rfl, .inl (.inl h), atI_nat (j := 1) rfl, k⟩)
theorem st_or {H H1 : Hp} {a : Addr} {o u : HO} (e : L2.Same H H1) (h : H a = some o ∨ H a = some u) : H1 a = some o ∨ H1 a = some u := h.elim (fun h => .inl (e _ _ h)) fun h => .inr (e _ _ h)
theorem sl_of {H : Hp} {a : Addr} {xs : List V} (h : H a = some (.lst xs) ∨ H a = some (.tup xs)) : SqL K H a xs ∨ SqT K H a xs := h.elim (fun h => .inl (.inl (.inl h))) fun h => .inr (.inl (.inl h))
def spLeast (K : Frag) : Sp := fun vs H Q _ => ∃ (v : V) (hs as : List Int), vs = [v] ∧ EndV H v hs as ∧ ∀ (H' : Hp) (p q r : Addr) (hs' as' : List Int), L2.Same H H' → H' p = some (.tup [.ref q, .ref r]) → H' q = some (.lst (hs'.map V.int)) → H' r = some (.lst (as'.map V.int)) → H q = none → H r = none → q ≠ r → IsLeast hs as hs' as' → Q (.ref p) H'
end
end K14
namespace K14
open PySem PySem.W PySem.Calls PyProof.Rows L2 LamX
open He (ga)
open Kz (boot_isi same_new small4 new_ext boot_li boot_in Has pe_has noE shaped_int dpAll_int)
section
variable {X : Cx} {tg : Expr} {g1 g2 : TG}
theorem pg_or (h1 : PG X tg g1) (h2 : PG X tg g2) : PG X tg (fun v σ H Q => g1 v σ H Q ∨ g2 v σ H Q) := ⟨fun pins s σ H v u Q I r h => h.elim (h1.run pins s σ H v u Q I r) (h2.run pins s σ H v u Q I r)⟩
end
/-- the figure of the endless row at a place -/
def figAt (hs as : List Int) (i : Nat) : Int := if i < hs.length then hs.getD i 0 else as.getD ((i - hs.length) % as.length) 0
theorem getD_some {xs : List Int} {i : Nat} (h : i < xs.length) : (xs.map V.int)[i]? = some (.int (xs.getD i 0)) := by
  rw [List.getElem?_map, List.getElem?_eq_getElem h]
  simp [List.getD, List.getElem?_eq_getElem h]
section
variable {P : Program} {w : World} {K : Frag} {mg : Str → Option Value} {base : Heap}
theorem ix_any {H : Hp} {a : Addr} {xs : List Int} {i : Nat} {Q : VK} (h : H a = some (.lst (xs.map V.int)) ∨ H a = some (.tup (xs.map V.int))) (hi : i < xs.length) (k : Q (.int (xs.getD i 0)) H) : rIx K (.ref a) (.int (i : Nat)) H Q :=
  h.elim (fun h => .inl ⟨a, _, _, _, rfl, rfl, .inl (.inl h), atI_nat (getD_some hi), k⟩) fun h => .inr (.inl ⟨a, _, _, _, rfl, rfl, .inl (.inl h), atI_nat (getD_some hi), k⟩)
def spFig : Sp := fun vs H Q _ => ∃ (v : V) (hs as : List Int) (i : Nat), vs = [v, .int (i : Nat)] ∧ EndV H v hs as ∧ Q (.int (figAt hs as i)) H
end
end K14
namespace K14
open PySem PySem.W PySem.Calls PyProof.Rows L2 LamX
open He (ga)
open Kz (boot_isi same_new small4 new_ext boot_li boot_in Has pe_has noE shaped_int dpAll_int)
theorem all_isF {ns : List Int} (h : ∀ n ∈ ns, isF (.int n) = true) : (ns.map PyData.int).all isF = true := List.all_eq_true.mpr fun d hd => by
  obtain ⟨n, hn, rfl⟩ := List.mem_map.mp hd
  exact h n hn
end K14
namespace K14
open PySem PySem.W PySem.Calls PyProof.Rows L2 LamX
open He (ga)
open Kz (boot_isi same_new small4 new_ext boot_li boot_in Has pe_has noE shaped_int dpAll_int)
/-! ### the two tops are one -/
theorem rep_get {as : List Int} (h0 : 0 < as.length) : ∀ (n i : Nat), i < n * as.length → (List.replicate n as).flatten[i]? = some (as.getD (i % as.length) 0)
  | 0, i, h => by omega
  | n + 1, i, h => by
    rw [List.replicate_succ, List.flatten_cons]
    rcases Nat.lt_or_ge i as.length with z | z
    · rw [List.getElem?_append_left z, Nat.mod_eq_of_lt z]
      simp [List.getD, List.getElem?_eq_getElem z]
    · rw [List.getElem?_append_right z, rep_get h0 n (i - as.length) (by rw [Nat.add_mul, Nat.one_mul] at h; omega)]
      have e : i % as.length = (i - as.length) % as.length := by
        rw [Nat.mod_eq_sub_mod z]
      rw [e]
end K14
namespace K14
open PySem PySem.W PySem.Calls PyProof.Rows L2 LamX
/-- rs, its last k taken to the front -/
def turned (rs : List Int) (k : Nat) : List Int := rs.drop (rs.length - k % rs.length) ++ rs.take (rs.length - k % rs.length)
theorem turned_len (rs : List Int) (k : Nat) : (turned rs k).length = rs.length := by
  unfold turned
  rw [List.length_append, List.length_drop, List.length_take]
  omega
theorem turned_last {rs : List Int} (h : 0 < rs.length) (k : Nat) : (turned rs k)[rs.length - 1]? = rs[rs.length - 1 - k % rs.length]? := by
  have hc : k % rs.length < rs.length := Nat.mod_lt _ h
  unfold turned
  rw [List.getElem?_append_right (by rw [List.length_drop]; omega), List.length_drop, List.getElem?_take_of_lt (by omega)]
  congr 1
  omega
end K14
namespace K14
open PySem PySem.W PySem.Calls PyProof.Rows L2 LamX
open Kz (XF X1 mkH mkH_over mkH_a mkH_d kwCall init1 under_depth)
section
variable {X : Cx} {pins : List (Addr × Obj)} {σ : L2.St} {H : Hp} {s : Shared} {a C fI d : Addr} {E : Value → Shared → Prop} {fs : List (Str × V)}
theorem not_exo {o : HO} {b : Addr} (ea : H a = some (exo a C (some d))) (eb : H b = some o) (n : ∀ φ, o ≠ .ext φ) : b ≠ a := fun z => by
  rw [z, ea] at eb
  exact n _ (Option.some.inj eb).symm
theorem not_exd {o : HO} {b : Addr} (ed : H d = some (exd d fs)) (eb : H b = some o) (n : ∀ φ, o ≠ .ext φ) : b ≠ d := fun z => by
  rw [z, ed] at eb
  exact n _ (Option.some.inj eb).symm
/-- an exception that was made since the def began is let go: its dict is kept -/
theorem let_go (I : Inv X pins σ H s) (ea : H a = some (exo a C (some d))) (ed : H d = some (exd d fs)) (n0 : X.s_0.heap.get? a = none) (nda : d ≠ a) :
    ∃ (t0 : Addr) (G : Heap), Inv X pins σ (upd (del H a) d (.xd fs)) { s with heap := G } ∧ (∀ b o, G.get? b = some o → s.heap.get? b = some o) ∧ G.get? a = none ∧
      s.heap.get? a = some ({ cls := .ref C, dict := some d, data := .fields #[.ref t0, .none, .none, .none, .bool false, .none] } : Obj) := by
  obtain ⟨t0, h0⟩ := exo_at I.hok ea
  obtain ⟨mA, hns, rel⟩ := exd_at I.hok ed
  obtain ⟨G, g1, g2⟩ := restrict s.heap fun b => decide (b ≠ a)
  have on : ∀ b, b ≠ a → G.get? b = s.heap.get? b := fun b q => g1 b (decide_eq_true q)
  have off : G.get? a = none := g2 a (by simp)
  have bef : ∀ {b : Addr} {o : Obj}, X.s_0.heap.get? b = some o → b ≠ a := fun e z => by
    rw [z, n0] at e
    cases e
  have un := I.base
  have U : Un X.fs X.ex X.H_0 (upd (del H a) d (.xd fs)) X.s_0.heap G := {
    keep := fun b o e n f x => (on b (bef e)).trans (un.keep b o e n f x)
    slot := fun b o e n f x => by
      obtain ⟨sl, q⟩ := un.slot b o e n f x
      exact ⟨sl, (on b (bef e)).trans q⟩
    free := fun b o e n x => by
      have q := un.free b o e n x
      rw [upd_ne (fun z => by rw [z, ed] at q; cases q), del_ne (bef e)]
      exact q
    there := fun b o e x => by
      obtain ⟨o', q⟩ := un.there b o e x
      exact ⟨o', (on b (bef e)).trans q⟩
    tups := fun b xs e => by
      have q := un.tups b xs e
      rw [upd_ne (not_exd ed q (fun φ z => nomatch z)), del_ne (not_exo ea q (fun φ z => nomatch z))]
      exact q
    frzs := fun b o u e => by
      have q := un.frzs b o u e
      rw [upd_ne (not_exd ed q (fun φ z => nomatch z)), del_ne (not_exo ea q (fun φ z => nomatch z))]
      exact q
    tbls := fun b ps e => by
      obtain ⟨more, q⟩ := un.tbls b ps e
      exact ⟨more, by rw [upd_ne (not_exd ed q (fun φ z => nomatch z)), del_ne (not_exo ea q (fun φ z => nomatch z))]; exact q⟩ }
  have gone : ∀ {b : Addr}, H b = none → upd (del H a) d (.xd fs) b = none := fun {b} q => by
    rw [upd_ne (fun z => by rw [z, ed] at q; cases q)]
    unfold del
    split
    · rfl
    · exact q
  have nfree : ∀ {b : Addr}, H b = none → b ≠ a := fun q z => by
    rw [z, ea] at q
    cases q
  refine ⟨t0, G, ⟨I.ok, I.os, I.bare, U, ?_, fun x c e => ?_, gone I.free, fun x c e => gone (I.freeC x c e), fun p hp => ?_, fun b o z => ?_, I.len⟩, fun b o q => ?_, off, h0⟩
  · obtain ⟨m, hn, hl⟩ := I.loc
    refine ⟨m, hn.at fun o y => (on _ (nfree I.free)).trans y, fun i x v e1 e2 e3 => ?_⟩
    obtain ⟨u, ru, q⟩ := hl i x v e1 e2 e3
    refine ⟨u, ru, ?_⟩
    rcases q with q | ⟨k, c, e, z⟩
    · exact .inl q
    · refine .inr ⟨k, c, e, ?_⟩
      obtain ⟨oc, e1, e2⟩ := z
      exact ⟨oc, (on c (nfree (I.freeC x c e))).trans e1, e2⟩
  · obtain ⟨v, oc, e1, e2⟩ := I.cell x c e
    exact ⟨v, oc, (on c (nfree (I.freeC x c e))).trans e1, e2⟩
  · obtain ⟨q1, q2, q3, q4, q5⟩ := I.pin p hp
    exact ⟨(on _ (nfree q2)).trans q1, gone q2, q3, q4, q5⟩
  · by_cases hb : b = d
    · subst hb
      rw [upd_same] at z
      cases z
      exact ⟨mA, hns.at fun o y => (on b nda).trans y, rel⟩
    · rw [upd_ne hb] at z
      have hba : b ≠ a := fun e => by
        rw [e, del_same] at z
        cases z
      rw [del_ne hba] at z
      have oa : ∀ {c : Addr}, H c = some (.own b) → c ≠ a := fun q => not_exo ea q (fun φ z => nomatch z)
      refine (I.hok b o z).stay (fun c v hc y => ?_) (fun c hc => ?_) fun c xs hc => ?_
      · have hca : c ≠ a := hc.elim (fun q => by rw [q]; exact hba) oa
        exact (on c hca).trans y
      · rw [upd_ne (not_exd ed hc (fun φ z => nomatch z)), del_ne (oa hc)]
        exact hc
      · rw [upd_ne (not_exd ed hc (fun φ z => nomatch z)), del_ne (not_exo ea hc (fun φ z => nomatch z))]
        exact hc
  · by_cases hba : b = a
    · rw [hba, off] at q
      cases q
    · exact (on b hba).symm.trans q
/-- C(..) of an own error class; where it stands there was nothing -/
theorem call_mk3 {qual : Str} {params : Arguments} {body : List Stmt} {scope : Scope} {us : List Value} {Q : Value → Shared → Prop}
    (T : XF X.prog X.K C fI qual params body scope) (I : Inv X pins σ H s) (hl : us.length ≤ sizeLine)
    (hini : ∀ (b : Addr) (s1 : Shared) (R : Result → Shared → Prop), Inv X pins σ (upd H b (exo b C none)) s1 → H b = none → (∀ (dx : Addr) (s' : Shared), (upd H b (exo b C none)) dx = none → dx ≠ b → Inv X pins σ (mkH (upd H b (exo b C none)) b C dx fs) s' → R (.ok (.ret .none)) s') →
      codeAny (model X.prog X.w) (X.A.under (.builtin "type.__call__" ⟨.ref C :: us, []⟩)) (.call (.ref fI) ⟨.ref b :: us, []⟩) R s1)
    (h : ∀ (b dx : Addr) (s' : Shared), s.heap.get? b = none → H b = none → H dx = none → dx ≠ b → Inv X pins σ (mkH H b C dx fs) s' → Q (.ref b) s') :
    wpAny (model X.prog X.w) X.A (call (.ref C) us []) Q E s := by
  obtain ⟨nm, q, N, bs, bm, sn, sub, ab, col, dd, k0, k1, k2, k3, k5, hC, hbm⟩ := T.oex.cls
  obtain ⟨hp, g, dr, tk, os⟩ := s
  have hn : H (hp.objs.size + 1) = none := I.hok.fresh (Nat.le_succ _)
  have h0 : hp.get? (hp.objs.size + 1) = none := by
    cases e : hp.get? (hp.objs.size + 1) with
    | none => rfl
    | some o =>
      exact absurd (Heap.lt_size e) (Nat.not_lt_of_le (Nat.le_succ _))
  have stay2 : ∀ b o, hp.get? b = some o → ((hp.push (kdv_tup us)).push (HandSPX.excO C hp.objs.size)).get? b = some o := fun b o e => Heap.get?_push_of_some _ (Heap.get?_push_of_some _ e)
  have at2 : ((hp.push (kdv_tup us)).push (HandSPX.excO C hp.objs.size)).get? (hp.objs.size + 1) = some (HandSPX.excO C hp.objs.size) := by heap_get
  have I2 : Inv X pins σ (upd H (hp.objs.size + 1) (exo (hp.objs.size + 1) C none)) ⟨(hp.push (kdv_tup us)).push (HandSPX.excO C hp.objs.size), g, dr, tk, os⟩ := I.laid (t' := tk) (a := hp.objs.size + 1) stay2 (Nat.le_succ _) (exo_ok at2)
  refine wpAny_call (kwCall F.excBase_ValueError (fun Y => HandSPX.refsVE_contains Y bm hbm) (I.kIn _ _ hC) (looks_findIn I.kIn T.ini) (fun self => bind_fn I.kIn self T.tyI) hl (hini _ _ _ I2 hn fun dx s' hd hne I3 => ?_))
  rw [mkH_over] at I3
  exact ⟨rfl, h _ dx s' h0 hn (by rw [upd_ne hne] at hd; exact hd) hne I3⟩
end
/-- raise C(e): its reading -/
def tRs1 (C : Addr) (f : Str) (te : TE) : L2.St → Hp → XK → Prop := fun σ H Q => te σ H fun y H1 => ∀ d : Addr, H1 d = none → Q (.ref C) (some d) (upd H1 d (.xd [(f, y)]))
theorem pmk_x1 {X : Cx} {C : Addr} {f x : Str} {e : Expr} {te : TE} {p pos : Pos} (T : X1 X.prog X.K C f) (hr : Room 1 X.A) (hex : X.ex = []) (hg : Gl X x) (hm : X.mg x = some (.ref C)) (he : PE X e te) (hdb : (x == ("__debug__" : Str)) = false := by decide)
    (hs : starEach [e] X.env = (false, eval e X.env) :: starEach [] X.env := by rfl) : PMk X (.Call (.Name x p) [e] [] pos) (tRs1 C f te) := by
  intro pins s σ H Q I h
  refine wpAny_Call_Name_kw (ld_glob I hg hm ?_ hdb)
  refine callWith_K (h₀ := X.base) I.ok.mod.kin T.kC ?_ hs (by rfl)
  rw [hs]
  refine Calls.spliced_cons (thn (he.run pins s σ H _ I h) fun u s1 ⟨y, H1, I1, ry, q1⟩ => Calls.spliced_nil ⟨I1.kIn, ?_⟩)
  show wpAny _ _ (call (.ref C) [u]) _ _ _
  obtain ⟨fI, qual, params, scope, msg, j, p0, p1, p2, p3, p4, p5, q0, q1', q2, q3, hpos, T1, S, b1, b2⟩ := T.ex
  refine call_mk3 (fs := [(f, y)]) T1 I1 (by rw [sizeLine_eq]; exact Nat.le_of_ble_eq_true rfl) (fun b s1 R I1 hb k => init1 hpos T1 S I1 upd_same ry (under_depth hr) (fun kV doc pm an cdv ct cc => b1 kV doc pm an cdv ct cc _ _) T.fs T.fd T.no k) fun b dx s' nb n1 n2 ne J => ?_
  have n0 : X.s_0.heap.get? b = none := by
    cases z : X.s_0.heap.get? b with
    | none => rfl
    | some o =>
      obtain ⟨o', q⟩ := I1.base.there b o z (by rw [hex]; exact fun q => nomatch q)
      rw [nb] at q
      cases q
  obtain ⟨t0, G, J2, kG, ge, hoe⟩ := let_go J mkH_a (mkH_d ne) n0 ne
  have eH : upd (del (mkH H1 b C dx [(f, y)]) b) dx (.xd [(f, y)]) = upd H1 dx (.xd [(f, y)]) := by
    funext c
    unfold mkH upd del
    by_cases h1 : c = dx
    · simp [h1]
    · by_cases h2 : c = b
      · subst h2
        simp [h1, n1]
      · simp [h1, h2]
  rw [eH] at J2
  have ox := T1.oex
  exact ⟨b, _, _, { s' with heap := G }, _, .ref C, some dx, rfl, J2, kG, ge, hoe, ⟨rfl, rfl⟩, rfl, rfl, by rw [upd_ne (Ne.symm ne)]; exact n1, rfl, J.bare, raises_own ox.exC ox.tyC, q1 dx n2⟩
end K14
namespace K14
open PySem PySem.W PySem.Calls PyProof.Rows L2 LamX
/-! ### try with several clauses, each with a name -/
abbrev Suite := Addr → Value → Option Addr → TS
/-- the ends of a suite whose name stands in slot i -/
def endsOf (D : Ends) (i : Nat) : Ends := { nx := fun σ H => D.nx (σ.set i none) H, rt := D.rt, bk := fun σ H => D.bk (σ.set i none) H, ct := fun σ H => D.ct (σ.set i none) H }
def wEach (K : Frag) (n : Nat) (Wout : WX) (D : Ends) : List (Value × Nat × Suite) → WX
  | [] => Wout
  | (c, i, ts) :: r => fun cls d σ H => ∃ b, exmOne K cls c = some b ∧ (b = true → ∀ a, H a = none → σ.length = n → ts a cls d (endsOf D i) (σ.set i (some (.ref a))) H) ∧ (b = false → wEach K n Wout D r cls d σ H)
structure Clause (X : Cx) (x n : Str) (c : Value) (i : Nat) (b0 : Stmt) (rest : List Stmt) (ts : Suite) : Prop where
  hi : X.N[i]? = some n
  lo : X.env.kindOf n = some .local
  nm : Names X x c
  su : ∀ (a : Addr) (oe : Obj) (cls : Value) (d : Option Addr) (pn : List (Addr × Obj)), Zc cls d oe → (∃ vs, oe.data = .fields vs) → PSs (X.suite a ((a, oe) :: pn)) (b0 :: rest) (ts a cls d)
inductive Clauses (X : Cx) : List ExceptHandler → List (Value × Nat × Suite) → Prop
  | nil : Clauses X [] []
  | cons {x n : Str} {c : Value} {i : Nat} {ts : Suite} {b0 : Stmt} {rest : List Stmt} {q1 q2 : Pos} {hs : List ExceptHandler} {l : List (Value × Nat × Suite)} : Clause X x n c i b0 rest ts → Clauses X hs l → Clauses X (.ExceptHandler (some (.Name x q1)) (some n) (b0 :: rest) q2 :: hs) ((c, i, ts) :: l)
section
variable {X : Cx} {pins : List (Addr × Obj)} {σ : L2.St} {H : Hp} {sI s : Shared} {B : Heap} {a : Addr} {cls : Value} {d : Option Addr} {Wout : WX} {D : Ends}
/-- what is known where clauses are tried -/
structure Caught (X : Cx) (pins : List (Addr × Obj)) (σ : L2.St) (H : Hp) (sI s : Shared) (B : Heap) (a : Addr) (cls : Value) (d : Option Addr) : Prop where
  inv : Inv X pins σ H sI
  nb : ∀ b o, sI.heap.get? b = some o → b ∉ frs X.stack → B.get? b = some o
  up : sI.heap.UpToSlots s.heap
  fl : HandSPX.FlyingZ B (X.env :: X.outer) a (Zc cls d) s.heap
  na : H a = none
  nL : a ≠ X.env.locals
  nF : a ∉ X.fs
  os : s.os = sI.os
  ag : AllBare s.gens
/-- the clauses, one behind another -/
theorem clauses_run (hs : X.stack = X.env :: X.outer) (hf : X.env.frame = some X.env.locals) (nd : X.N.Nodup) (tk : Takes X Wout) :
    ∀ {hds : List ExceptHandler} {l : List (Value × Nat × Suite)}, Clauses X hds l → Caught X pins σ H sI s B a cls d → wEach X.K X.N.length Wout D l cls d σ H → wpAny (model X.prog X.w) X.A (handleBy (.ref a) X.env hds) (SP X pins D) X.xe s := by
  intro hds l C
  induction C with
  | nil =>
    intro G w
    obtain ⟨oe, vs, T, oT, ts, e1, e2, e3, e4, _⟩ := G.fl.2.2.2
    refine wpAny_handleBy_nil ?_
    have go : wpAny (model X.prog X.w) X.A (setFlight (.ref a) X.env.frame) (fun _ s4 => wpAny (model X.prog X.w) X.A (throw (.ref a) : Sem Flow) (SP X pins D) X.xe s4) X.xe s := by
      rw [hf]
      exact HandSPX.setFlight_upZ G.fl fun h4 hh up => wpAny_throw (tk _ _ ⟨a, B, sI, pins, σ, H, cls, d, rfl, G.inv, G.nb, G.up.trans up, .inr (.inr (by rw [hs]; exact hh)), G.na, G.os, G.ag, w⟩)
    unfold PySem.passOn
    refine wpAny_bind (wpAny_field e1 e3 e4 ?_)
    rw [if_neg (by simp : ¬ (Value.ref T == Value.none) = true)]
    first
      | exact wpAny_bind (wpAny_pure (wpAny_bind go))
      | exact wpAny_bind go
  | @cons x n c i ts b0 rest q1 q2 hs' l' cl r ih =>
    intro G w
    obtain ⟨b, hb, yes, no⟩ := w
    obtain ⟨oe, vs, he, hz, hd⟩ := G.fl.there
    have J := G.inv.landed G.nb G.fl.1 G.up G.os G.ag
    have S := J.suite he hd G.na G.nL G.nF
    refine wpAny_handleBy_cons (codeAny_handlers_test ?_) (fun q => nomatch q)
    have ty : Looks (model X.prog X.w) s.heap (typeOf (.ref a)) cls := fun A Q E s' k q => wpAny_typeOf_ref (k _ _ he) (by rw [hz.1]; exact q)
    have is := exm_one (M := model X.prog X.w) J.kIn ty hb
    have ask : ∀ {Q E : Value → Shared → Prop}, Q c s → wpAny (model X.prog X.w) (X.A.mark (some (.ref a))) (eval (.Name x q1) X.env) Q E s := fun {Q E} q => by
      obtain ⟨g, gd, m | ⟨m, v, nn⟩⟩ := cl.nm
      · exact ld_glob (X := X.suite a ((a, oe) :: (X.pn ++ pins))) S g m q gd
      · exact ld_blt (X := X.suite a ((a, oe) :: (X.pn ++ pins))) S g m v q nn gd
    refine ask (is.here ?_)
    cases b with
    | false => exact ih G (no rfl)
    | true =>
      refine codeAny_handlers_suite_as (HandSPX.lands_againZ G.fl fun h4 fl4 up4 => ?_)
      obtain ⟨oe4, vs4, he4, hz4, hd4⟩ := fl4.there
      have J4 : Inv X pins σ H { s with heap := h4 } := G.inv.landed G.nb fl4.1 (G.up.trans up4) G.os G.ag
      have S4 := J4.suite he4 hd4 G.na G.nL G.nF
      refine store_ok (X := X.suite a ((a, oe4) :: (X.pn ++ pins))) (v := .ref a) S4 nd cl.hi (.inl cl.lo) rfl (fun s5 S5 => ?_) (.inr cl.lo)
      have run := (cl.su a oe4 cls d (X.pn ++ pins) hz4 ⟨_, hd4⟩).run [] s5 _ H (endsOf D i) S5 (yes rfl a G.na G.inv.len)
      refine wpAny_mono run (fun f s6 out => ?_) (fun _ _ z => z.elim)
      cases f with
      | ret u =>
        obtain ⟨v6, σ6, H6, S6, r6, q6⟩ := out
        exact gone_ok (S6.unsuite G.inv.ok) nd cl.hi cl.lo fun s7 J7 => ⟨v6, _, _, J7, r6, q6⟩
      | next =>
        obtain ⟨σ6, H6, S6, q6⟩ := out
        exact gone_ok (S6.unsuite G.inv.ok) nd cl.hi cl.lo fun s7 J7 => ⟨_, _, J7, q6⟩
      | brk =>
        obtain ⟨σ6, H6, S6, q6⟩ := out
        exact gone_ok (S6.unsuite G.inv.ok) nd cl.hi cl.lo fun s7 J7 => ⟨_, _, J7, q6⟩
      | cont =>
        obtain ⟨σ6, H6, S6, q6⟩ := out
        exact gone_ok (S6.unsuite G.inv.ok) nd cl.hi cl.lo fun s7 J7 => ⟨_, _, J7, q6⟩
end
section
variable {X : Cx} {body : List Stmt} {h0 : ExceptHandler} {hds : List ExceptHandler} {l : List (Value × Nat × Suite)} {pos : Pos} {tb : WX → TS} {Wout : WX}
/-- try: body, except A as e: .., except B as e: .. -/
theorem ps_try_each (hs : X.stack = X.env :: X.outer) (hf : X.env.frame = some X.env.locals) (nd : X.N.Nodup) (tk : Takes X Wout)
    (hb : ∀ (W : WX) (pn : List (Addr × Obj)) (xe : Value → Shared → Prop), Takes (X.tr pn xe) W → PassesOwn (model X.prog X.w) X.A X.env xe → PSs (X.tr pn xe) body (tb W))
    (C : Clauses X (h0 :: hds) l) : PS X (.Try body (h0 :: hds) [] [] pos) (fun D σ H => tb (wEach X.K X.N.length Wout D l) D σ H) := by
  refine ⟨fun pins s σ H D I h => wpAny_Try_except ?_⟩
  have ok := I.ok
  have fr : X.A.frames = some (X.env :: X.outer) := by rw [ok.frames, hs]
  refine wpAny_mono ((hb (wEach X.K X.N.length Wout D l) (X.pn ++ pins) (fun e s1 => wpAny (model X.prog X.w) X.A (noteFrame e X.env) (fun _ s2 => wpAny (model X.prog X.w) X.A (setFlight e none) (fun _ s3 =>
    wpAny (model X.prog X.w) X.A (handleBy e X.env (h0 :: hds)) (SP X pins D) X.xe s3) X.xe s2) X.xe s1) (fun u s' xx => ?_) PassesOwn.looking).run [] s σ H D (I.toTry _) h) (fun f s1 out => ?_) (fun _ _ z => z)
  · obtain ⟨a, B, sI, pins', σ', H', cls, d, rfl, J', nb, up, sky, na, os, ag, w⟩ := xx
    have J : Inv X pins σ' H' sI := J'.ofTry ok
    rw [show (X.tr (X.pn ++ pins) _).stack = X.env :: X.outer from hs] at sky
    refine Sky.land Zc.steady fr hf sky fun h3 fl up3 => ?_
    obtain ⟨oe, vs, he, hz, hd⟩ := fl.there
    have nfr : a ∉ frs (X.env :: X.outer) := fun m => by
      obtain ⟨_, o, eo, no⟩ := fl.2.2.1.mem m
      rw [he] at eo
      cases eo
      exact no _ hd
    refine clauses_run (sI := sI) (B := B) hs hf nd tk C ⟨J, nb, up.trans up3, fl, na, fun z => nfr (List.mem_filterMap.mpr ⟨X.env, List.mem_cons_self, by rw [hf, z]⟩), fun m => ?_, os, ag⟩ w
    obtain ⟨e, me, q⟩ := List.mem_filterMap.mp m
    exact nfr (List.mem_filterMap.mpr ⟨e, List.mem_cons_of_mem _ me, q⟩)
  · cases f with
    | ret u =>
      obtain ⟨v, σ', H', J, r, q⟩ := out
      exact ⟨v, σ', H', J.ofTry ok, r, q⟩
    | next =>
      obtain ⟨σ', H', J, q⟩ := out
      exact wpAny_execs_nil ⟨σ', H', J.ofTry ok, q⟩
    | brk =>
      obtain ⟨σ', H', J, q⟩ := out
      exact ⟨σ', H', J.ofTry ok, q⟩
    | cont =>
      obtain ⟨σ', H', J, q⟩ := out
      exact ⟨σ', H', J.ofTry ok, q⟩
end
end K14
namespace K14
open PySem PySem.W PySem.Calls PyProof.Rows L2 LamX
open He (ga)
open Kz (boot_isi same_new small4 new_ext boot_li boot_in Has pe_has noE X1)
def HasX (P : Program) (w : World) (K : Frag) (mg : Str → Option Value) (base : Heap) (x : Str) (k : Nat) (ps : List Str) (sp : Sp) : Prop := ∃ f fd, mg x = some (.ref f) ∧ keepIn K (.ref f) = true ∧ L2.Binds K fd ps [] ∧ FnOk P w K mg base (L2.CX P w) k f fd ps sp
section
variable {X : Cx} {x : Str} {p pos : Pos} {e : Expr} {es : List Expr} {ps : List Str} {sp : Sp} {k : Nat} {t : TA} {E : XK}
theorem pe_hasX (h : HasX X.prog X.w X.K X.mg X.base x k ps sp) (hr : Room k X.A) (hg : Gl X x) (hx : Passes (L2.CX X.prog X.w) X E) (ha : PA X (e :: es) t) (hdb : (x == ("__debug__" : Str)) = false := by decide) (he : starEach (e :: es) X.env = (false, eval e X.env) :: starEach es X.env := by rfl) (hpl : (backTo pos (starEach es X.env)).any (·.1) = false := by rfl) :
    PE X (.Call (.Name x p) (e :: es) [] pos) (tCall sp [] E t) := by
  obtain ⟨f, fd, h1, h2, h3, h4⟩ := h
  exact pe_call h4 hr hg h1 h2 h3 .nil hx ha hdb he hpl
theorem pss_never {X : Cx} {b : List Stmt} : PSs X b tNever := ⟨fun _ _ _ _ _ _ h => h.elim⟩
end
/-- a thing that is not so -/
def Odd (f : PyData → Bool) (H : Hp) (v : V) : Prop := ∃ d, Th H v d ∧ f d = false ∧ (its d).length ≤ 100000 ∧ ∀ x ∈ its d, (its x).length ≤ 100000
/-- the error of the class C that holds v is let out -/
def Says (C : Addr) (v : V) (H : Hp) (E : XK) : Prop := ∀ (H' : Hp) (dx : Addr), L2.Same H H' → H' dx = some (.xd [("thing", v)]) → E (.ref C) (some dx) H'
def spOdd (f : PyData → Bool) (C : Addr) : Sp := fun vs H Q E => ∃ v, vs = [v] ∧ Odd f H v ∧ Says C v H E
/-- what is known of an error of the program -/
def ErK (P : Program) (K : Frag) (mg : Str → Option Value) (x : Str) : Prop := mg x = some (.ref (ga K x)) ∧ X1 P K (ga K x) "thing"
section
variable {P : Program} {w : World} {K : Frag} {mg : Str → Option Value} {base : Heap}
theorem noX {P : Program} {w : World} {K : Frag} {mg : Str → Option Value} {base : Heap} {N : List Str} {x : Str} {sc : Scope} {f : Addr} {cdv : Value} {A : Around} {outer : List Env} {s : Shared} {H : Hp} {XE : XK} : Passes (L2.CX P w) (cxOf (L2.CX P w) P w K mg base N x sc f cdv A outer s H XE) XE := passes_call (takes_of rfl rfl rfl rfl) (fun _ _ _ _ h => h)
end
end K14
namespace K14
open PySem PySem.W PySem.Calls PyProof.Rows L2 LamX
open He (ga)
open Kz (boot_isi same_new small4 new_ext boot_li boot_in Has pe_has noE X1)
theorem x1_xf {P : Program} {K : Frag} {C : Addr} {f : Str} (T : X1 P K C f) : XfC K C := by
  obtain ⟨fI, qual, params, scope, msg, j, p0, p1, p2, p3, p4, p5, q0, q1, q2, q3, _, T1, _⟩ := T.ex
  exact T1.xf
end K14
namespace K14
open PySem PySem.W PySem.Calls PyProof.Rows L2 LamX
open He (ga)
open Kz (SS ExtS ExtS.trans ExtS.refl small4 same_new boot_in boot_li tWhile_split shaped_int dpAll_int seq0 new_ext Has pe_has noE)
/-! ### the spring, for many draws -/
def Spr (H : Hp) (l li : Addr) (c : Int) : Prop := ∃ (ns : List Int) (b d : Int), SS H l li ns b c d ∧ ns.length ≤ 1000
def spDrW : Sp := fun vs H Q _ => ∃ (l li : Addr) (c many : Int), vs = [.ref l, .int many] ∧ Spr H l li c ∧ 0 < many ∧ many < 1073741824 ∧ c < 1000000000 ∧ ∀ (H' : Hp) (r : Int), ExtS l li H H' → Spr H' l li (c + 1) → 0 ≤ r → r < many → Q (.int r) H'
/-! ### all but some objects and the tables of code -/
def Hid (S : List Addr) (H : Hp) : Hp := fun b => if b ∈ S then none else match H b with
  | some (.tbl _) => none
  | o => o
/-- all of them stand -/
def Ins (S : List Addr) (H : Hp) : Prop := ∀ b ∈ S, ∃ o, H b = some o
section
variable {S : List Addr} {l li b : Addr} {H H1 : Hp} {o : HO}
theorem hid_at (h : Hid S H b = some o) : b ∉ S ∧ H b = some o ∧ ∀ ps, o ≠ .tbl ps := by
  unfold Hid at h
  split at h
  · cases h
  · rename_i n
    refine ⟨n, ?_⟩
    split at h
    · cases h
    · rename_i q
      exact ⟨h, fun ps z => q ps (by rw [h, z])⟩
theorem hid_of (h1 : b ∉ S) (h : H b = some o) (n : ∀ ps, o ≠ .tbl ps) : Hid S H b = some o := by
  unfold Hid
  rw [if_neg h1]
  split
  · rename_i ps q
    exact absurd (Option.some.inj (h.symm.trans q)) (n ps)
  · exact h
theorem hid_up : L2.Same (Hid S H) H := fun b o h => (hid_at h).2.1
theorem hid_less {S1 : List Addr} (e : ∀ b ∈ S, b ∈ S1) : L2.Same (Hid S1 H) (Hid S H) := fun b o h => by
  obtain ⟨h1, h2, h3⟩ := hid_at h
  exact hid_of (fun z => h1 (e b z)) h2 h3
theorem hid_same (e : L2.Same H H1) : L2.Same (Hid S H) (Hid S H1) := fun b o h => by
  obtain ⟨h1, h2, h3⟩ := hid_at h
  exact hid_of h1 (e b o h2) h3
theorem hid_upd {a : Addr} {u : HO} (m : a ∈ S) : L2.Same (Hid S H) (Hid S (upd H a u)) := fun b o h => by
  obtain ⟨h1, h2, h3⟩ := hid_at h
  exact hid_of h1 (by rw [upd_ne (fun z => h1 (by rw [z]; exact m))]; exact h2) h3
theorem hid_S (m : l ∈ S) (mi : li ∈ S) (e : ExtS l li H H1) : L2.Same (Hid S H) (Hid S H1) := fun b o h => by
  obtain ⟨h1, h2, h3⟩ := hid_at h
  exact hid_of h1 (e b o h2 (fun z => h1 (by rw [z]; exact m)) (fun z => h1 (by rw [z]; exact mi))) h3
theorem hid_N (e : ExtN H H1) : L2.Same (Hid S H) (Hid S H1) := fun b o h => by
  obtain ⟨h1, h2, h3⟩ := hid_at h
  exact hid_of h1 (e b o h2 h3) h3
theorem Ins.new {p : Addr} (i : Ins S H) (n : H p = none) : p ∉ S := fun m => by
  obtain ⟨o, q⟩ := i p m
  rw [q] at n
  cases n
theorem Ins.same (i : Ins S H) (e : L2.Same H H1) : Ins S H1 := fun b m => by
  obtain ⟨o, q⟩ := i b m
  exact ⟨o, e _ _ q⟩
theorem Ins.cons {p : Addr} (i : Ins S H) (q : H p = some o) : Ins (p :: S) H := fun b m => by
  rcases List.mem_cons.mp m with rfl | m
  · exact ⟨o, q⟩
  · exact i b m
theorem Ins.upd {a : Addr} {u : HO} (i : Ins S H) : Ins S (L2.upd H a u) := fun b m => by
  by_cases z : b = a
  · rw [z]
    exact ⟨u, upd_same⟩
  · obtain ⟨o, q⟩ := i b m
    exact ⟨o, by rw [upd_ne z]; exact q⟩
theorem same_S (e : L2.Same H H1) : ExtS l li H H1 := fun b o h _ _ => e b o h
theorem Spr.same {c : Int} (s : Spr H l li c) (e : L2.Same H H1) : Spr H1 l li c := by
  obtain ⟨ns, b, d, s, n⟩ := s
  exact ⟨ns, b, d, ⟨e _ _ s.l1, e _ _ s.l2, s.ne, s.b0, s.c0, s.d0, s.d1⟩, n⟩
theorem Spr.extN {c : Int} (s : Spr H l li c) (e : ExtN H H1) : Spr H1 l li c := by
  obtain ⟨ns, b, d, s, n⟩ := s
  exact ⟨ns, b, d, ⟨e _ _ s.l1 (fun ps z => nomatch z), e _ _ s.l2 (fun ps z => nomatch z), s.ne, s.b0, s.c0, s.d0, s.d1⟩, n⟩
theorem Spr.new {c : Int} (s : Spr H l li c) {p : Addr} (n : H p = none) : p ≠ l ∧ p ≠ li := by
  obtain ⟨ns, b, d, s, _⟩ := s
  exact ⟨Ne.symm (ne_of_none s.l1 n), Ne.symm (ne_of_none s.l2 n)⟩
theorem Spr.ins {c : Int} (s : Spr H l li c) : Ins [l, li] H := fun b m => by
  obtain ⟨ns, b', d, s, _⟩ := s
  rcases List.mem_cons.mp m with rfl | m
  · exact ⟨_, s.l1⟩
  · rw [List.mem_singleton.mp m]
    exact ⟨_, s.l2⟩
theorem ins_S {c : Int} (i : Ins S H) (e : ExtS l li H H1) (s : Spr H1 l li c) : Ins S H1 := fun b m => by
  obtain ⟨o, q⟩ := i b m
  by_cases z : b = l
  · rw [z]
    exact s.ins l (by simp)
  · by_cases y : b = li
    · rw [y]
      exact s.ins li (by simp)
    · exact ⟨o, e b o q z y⟩
theorem Spr.upd {c : Int} {a : Addr} {u : HO} (s : Spr H l li c) (h1 : a ≠ l) (h2 : a ≠ li) : Spr (L2.upd H a u) l li c := by
  obtain ⟨ns, b, d, s, n⟩ := s
  exact ⟨ns, b, d, ⟨by rw [upd_ne h1.symm]; exact s.l1, by rw [upd_ne h2.symm]; exact s.l2, s.ne, s.b0, s.c0, s.d0, s.d1⟩, n⟩
end
end K14
namespace K14
open PySem PySem.W PySem.Calls PyProof.Rows L2 LamX
open He (ga)
open Kz (SS ExtS ExtS.trans ExtS.refl small4 same_new boot_in boot_li new_ext Has pe_has noE)
theorem ext_none {l li p : Addr} {H H1 : Hp} (e : ExtS l li H H1) (n : H1 p = none) (h1 : p ≠ l) (h2 : p ≠ li) : H p = none := by
  cases q : H p with
  | none => rfl
  | some o =>
    rw [e p o q h1 h2] at n
    cases n
end K14
namespace K14
open PySem PySem.W PySem.Calls PyProof.Rows L2 LamX
open He (ga)
open Kz (SS ExtS ExtS.trans ExtS.refl small4 same_new boot_in boot_li new_ext Has pe_has noE boot_isi)
abbrev Nlo : List Str := ["stream", "thing", "found", "part"]
theorem boot_di : bootBuiltins "dict" = some (.type "dict") := by decide +kernel
/-! ### lists told as tuples, tuples as lists -/
mutual
inductive Ld : PyData → PyData → Prop
  | non : Ld .none .none
  | bl (b : Bool) : Ld (.bool b) (.bool b)
  | int (i : Int) : Ld (.int i) (.int i)
  | str (x : Str) : Ld (.str x) (.str x)
  | ll {xs ys : List PyData} : LdAll xs ys → Ld (.list xs) (.list ys)
  | lt {xs ys : List PyData} : LdAll xs ys → Ld (.list xs) (.tuple ys)
  | tl {xs ys : List PyData} : LdAll xs ys → Ld (.tuple xs) (.list ys)
  | tt {xs ys : List PyData} : LdAll xs ys → Ld (.tuple xs) (.tuple ys)
inductive LdAll : List PyData → List PyData → Prop
  | nil : LdAll [] []
  | cons {x y : PyData} {xs ys : List PyData} : Ld x y → LdAll xs ys → LdAll (x :: xs) (y :: ys)
end
theorem LdAll.snoc {x y : PyData} (h : Ld x y) : ∀ {xs ys : List PyData}, LdAll xs ys → LdAll (xs ++ [x]) (ys ++ [y])
  | _, _, .nil => .cons h .nil
  | _, _, .cons a r => .cons a (r.snoc h)
theorem ThAll.snoc {H : Hp} {v : V} {d : PyData} (h : Th H v d) : ∀ {vs : List V} {ds : List PyData}, ThAll H vs ds → ThAll H (vs ++ [v]) (ds ++ [d])
  | _, _, .nil => .cons h .nil
  | _, _, .cons a r => .cons a (r.snoc h)
/-- lists within lists, n deep, no dicts -/
def fitD : Nat → PyData → Bool
  | n + 1, .list xs => decide (xs.length ≤ 1000) && xs.all (fitD n)
  | n + 1, .tuple xs => decide (xs.length ≤ 1000) && xs.all (fitD n)
  | _, .none => true
  | _, .bool _ => true
  | _, .int _ => true
  | _, .str _ => true
  | _, _ => false
def szD : Nat → PyData → Nat
  | n + 1, .list xs => 1 + (xs.map (szD n)).sum
  | n + 1, .tuple xs => 1 + (xs.map (szD n)).sum
  | _, _ => 0
theorem fit_seq {n : Nat} {d : PyData} (l : isL d = true) (h : fitD n d = true) : ∃ m, n = m + 1 ∧ (its d).length ≤ 1000 ∧ (∀ x ∈ its d, fitD m x = true) ∧ szD n d = 1 + ((its d).map (szD m)).sum := by
  cases n with
  | zero => cases d <;> first | exact absurd (show false = true from h) Bool.false_ne_true | exact absurd (show false = true from l) Bool.false_ne_true
  | succ m =>
    refine ⟨m, rfl, ?_⟩
    cases d with
    | list xs =>
      obtain ⟨h1, h2⟩ := Bool.and_eq_true_iff.mp (show (decide (xs.length ≤ 1000) && xs.all (fitD m)) = true from h)
      exact ⟨of_decide_eq_true h1, fun x hx => List.all_eq_true.mp h2 x hx, rfl⟩
    | tuple xs =>
      obtain ⟨h1, h2⟩ := Bool.and_eq_true_iff.mp (show (decide (xs.length ≤ 1000) && xs.all (fitD m)) = true from h)
      exact ⟨of_decide_eq_true h1, fun x hx => List.all_eq_true.mp h2 x hx, rfl⟩
    | _ => cases l
def isD : PyData → Bool
  | .dict _ => true
  | _ => false
theorem no_dict {n : Nat} {d : PyData} (h : fitD n d = true) : isD d = false := by
  cases d with
  | dict ps => cases n <;> cases h
  | _ => rfl
theorem Ld.flat {n : Nat} {d : PyData} (l : isL d = false) (h : fitD n d = true) : Ld d d := by
  cases d with
  | none => exact .non
  | bool b => exact .bl b
  | int i => exact .int i
  | str x => exact .str x
  | dict ps => cases n <;> cases h
  | _ => cases l
theorem is_di {K : Frag} (d : PyData) : kitOne K (.type (tyN d)) (.type "dict") = some (isD d) := by
  cases d <;> rfl
theorem ld_seq {d : PyData} {ys : List PyData} (l : isL d = true) (h : LdAll (its d) ys) : Ld d (.list ys) ∧ Ld d (.tuple ys) := by
  cases d with
  | list xs => exact ⟨.ll h, .lt h⟩
  | tuple xs => exact ⟨.tl h, .tt h⟩
  | _ => cases l
theorem hid_D {S : List Addr} {l li D : Addr} {H H2 : Hp} (m : l ∈ S) (mi : li ∈ S) (n : H D = none) (e : ExtS l li H H2) : L2.Same (Hid S H) (Hid (D :: S) H2) := fun b o h => by
  obtain ⟨h1, h2, h3⟩ := hid_at h
  refine hid_of (fun z => ?_) (e b o h2 (fun z => h1 (by rw [z]; exact m)) (fun z => h1 (by rw [z]; exact mi))) h3
  rcases List.mem_cons.mp z with z | z
  · exact ne_of_none h2 n z
  · exact h1 z
section
variable {P : Program} {w : World} {K : Frag} {mg : Str → Option Value} {base : Heap}
def spLo (n : Nat) : Sp := fun vs H Q _ => ∃ (S : List Addr) (l li : Addr) (c : Int) (v : V) (d : PyData), vs = [.ref l, v] ∧ l ∈ S ∧ li ∈ S ∧ Ins S H ∧ Th (Hid S H) v d ∧ fitD n d = true ∧ Spr H l li c ∧ c + (szD n d : Nat) < 900000000 ∧
  ∀ (H' : Hp) (v' : V) (d' : PyData) (c' : Int), ExtS l li H H' → Spr H' l li c' → c' ≤ c + (szD n d : Nat) → Th (Hid S H') v' d' → Ld d d' → Q v' H'
theorem lo_len {n : Nat} {vs : List V} {H : Hp} {Q : VK} {E : XK} (h : spLo n vs H Q E) : vs.length = 2 := by
  obtain ⟨S, l, li, c, v, d, rfl, _⟩ := h
  rfl
end
end K14
namespace K14
open PySem PySem.W PySem.Calls PyProof.Rows L2 LamX
open He (ga)
open Kz (small4 same_new boot_in boot_li new_ext Has pe_has noE boot_isi)
open RZ
open LiI
abbrev Nsm : List Str := ["found", "due", "x", "y"]
def fitS : Nat → PyData → Bool
  | n + 1, .list xs => decide (xs.length ≤ 1000) && xs.all (fitS n)
  | n + 1, .tuple xs => decide (xs.length ≤ 1000) && xs.all (fitS n)
  | n + 1, .dict ps => decide (ps.length ≤ 1000) && fitS n (.list (ps.map fun p => .tuple [p.1, p.2]))
  | _, .none => true
  | _, .bool _ => true
  | _, .int _ => true
  | _, .str _ => true
  | _, _ => false
def isLs : PyData → Bool
  | .list _ => true
  | _ => false
def isTu : PyData → Bool
  | .tuple _ => true
  | _ => false
def isIn : PyData → Bool
  | .int _ => true
  | .bool _ => true
  | _ => false
def isBo : PyData → Bool
  | .bool _ => true
  | _ => false
def isAny : PyData → Bool
  | .none => false
  | .str _ => false
  | _ => true
section
variable {K : Frag}
theorem kit_ls (d : PyData) : kitOne K (.type (tyN d)) (.type "list") = some (isLs d) := by cases d <;> rfl
theorem kit_tu (d : PyData) : kitOne K (.type (tyN d)) (.type "tuple") = some (isTu d) := by cases d <;> rfl
theorem kit_in (d : PyData) : kitOne K (.type (tyN d)) (.type "int") = some (isIn d) := by cases d <;> rfl
theorem kit_bo (d : PyData) : kitOne K (.type (tyN d)) (.type "bool") = some (isBo d) := by cases d <;> rfl
theorem kit_an (d : PyData) : kitAny K (.type (tyN d)) [.type "int", .type "list", .type "tuple", .type "dict"] = some (isAny d) := by cases d <;> rfl
theorem walk_zipT {a b : Addr} {xs ys : List V} {n : Nat} (hn : n = min xs.length ys.length) : Walk (ItzT K a b) n (fun H => SqT K H a xs ∧ SqT K H b ys) (YPair (fun i => xs[i]?) (fun i => ys[i]?)) := by
  subst hn
  refine ⟨fun i _ hi q => ?_, fun _ q => ⟨xs, ys, q.1, q.2, by omega⟩, fun i H v H' _ q ⟨T, x, z, h1, h2, h3, h4, h5⟩ => ⟨T, x, z, h1, h2, h3, h4 xs q.1, h5 ys q.2⟩⟩
  have l1 : i < xs.length := by omega
  have l2 : i < ys.length := by omega
  exact ⟨xs, ys, xs[i], ys[i], q.1, q.2, by simp [l1], by simp [l2]⟩
end
theorem th_key {H : Hp} : ∀ k : Key, Th H (kV k) (kd k)
  | .inl i => .int i
  | .inr x => .str x
theorem th_items {H H' : Hp} (e : L2.Same H H') : ∀ {ts : List Addr} {kvs : List (Key × V)} {ps : List (PyData × PyData)}, Paired (fun (t : Addr) (q : Key × V) => H' t = some (.tup [kV q.1, q.2])) ts kvs → ThKv H kvs ps → ThAll H' (ts.map V.ref) (ps.map fun p => .tuple [p.1, p.2])
  | _, _, _, .nil, .nil => .nil
  | _, _, _, .cons h r, .cons t q => .cons (.tup h (.cons (th_key _) (.cons (t.ext e) .nil))) (th_items e r q)
section
variable {P : Program} {w : World} {K : Frag} {mg : Str → Option Value} {base : Heap}
def spSm (n : Nat) : Sp := fun vs H Q _ => ∃ (v u : V) (d : PyData), vs = [v, u] ∧ Th H v d ∧ Th H u d ∧ fitS n d = true ∧ ∀ H', L2.Same H H' → Q (.bl true) H'
theorem sm_len {n : Nat} {vs : List V} {H : Hp} {Q : VK} {E : XK} (h : spSm n vs H Q E) : vs.length = 2 := by
  obtain ⟨v, u, d, rfl, _⟩ := h
  rfl
/-- what is asked of the builtins -/
structure BtK (mg : Str → Option Value) : Prop where
  is : mg "isinstance" = none
  li : mg "list" = none
  tu : mg "tuple" = none
  di : mg "dict" = none
  it : mg "int" = none
  bo : mg "bool" = none
  ln : mg "len" = none
  al : mg "all" = none
  zi : mg "zip" = none
end
end K14
namespace K14.EnT
open PySem PySem.W PySem.Calls PyProof.Rows L2
/-! ### enumerate over a tuple, one argument -/
theorem meets_one {src : Value} {ob : Obj} {Hs : Heap → Prop} (B : Begins src ob Hs) :
    Meets (Builtin.«enumerate.__new__» ⟨[.type "enumerate", src], []⟩) (fun _ R z => Hs z.heap ∧
      R (.ok (.ret (.ref (z.heap.push ob).objs.size)))
        { z with heap := (z.heap.push ob).push { cls := .type "enumerate", data := .fields #[.none, .bool false, .ref z.heap.objs.size, rawInt 0, .none, .none] } }) :=
  .of_wp fun pr wo Ar R z hz => by
    obtain ⟨hp, gs, dr, tk, os⟩ := z
    obtain ⟨b1, b2⟩ := hz
    have sub1 := sub_enumerate
    have it1 : ∀ {Ar' : Around} {E' : Value → Shared → Prop} {Q' : Value → Shared → Prop}, Q' (.ref hp.objs.size) ⟨hp.push ob, gs, dr, tk, os⟩ → wpAny (model pr wo) Ar' (pyIter src) Q' E' ⟨hp, gs, dr, tk, os⟩ := fun q' => B.iter pr wo _ _ ⟨hp, gs, dr, tk, os⟩ _ b1 q'
    wp_walk using it1
    refine wpAny_stack_any fun st1 => wpAny_pure ?_
    split
    · rename_i cx _ _ _ _ _
      cases (cx == Value.type "enumerate")
      · wp_walk using it1
        exact ⟨_, rfl, b2⟩
      · wp_walk using it1
        exact ⟨_, rfl, b2⟩
    · wp_walk using it1
      exact ⟨_, rfl, b2⟩
section
variable {pr : Program} {wo : World} {Ar : Around} {E' : Value → Shared → Prop} {z : Shared}
theorem new_enum {src : Value} {ob : Obj} {Hs : Heap → Prop} {Q' : Value → Shared → Prop} (B : Begins src ob Hs) (b1 : Hs z.heap)
    (k : ∀ g, IsEnum g (z.heap.objs.size + 1) z.heap.objs.size 0 .none → g.get? z.heap.objs.size = some ob → g.objs.size = z.heap.objs.size + 2 → (∀ b o, z.heap.get? b = some o → g.get? b = some o) → Q' (.ref (z.heap.objs.size + 1)) { z with heap := g }) :
    wpAny (model pr wo) Ar (call (.type "enumerate") [src]) Q' E' z := by
  refine callType_new F.called_enumerate (by decide) (F.typeCall_enumerate_1 _) (F.newCall_enumerate_1 _) (fun obj => F.args_object_init_2 obj _) F.entry_enumerate_new (meets_one B) ⟨b1, ?_⟩
  have sz : (z.heap.push ob).objs.size = z.heap.objs.size + 1 := Heap.size_push ..
  show _ ∧ _
  rw [sz]
  have en : IsEnum ((z.heap.push ob).push { cls := .type "enumerate", data := .fields #[.none, .bool false, .ref z.heap.objs.size, rawInt 0, .none, .none] }) (z.heap.objs.size + 1) z.heap.objs.size 0 .none := by
    have q := Heap.get?_push_size (z.heap.push ob) (o := { cls := .type "enumerate", data := .fields #[.none, .bool false, .ref z.heap.objs.size, rawInt 0, .none, .none] }) rfl
    rw [sz] at q
    exact q
  exact ⟨⟨_, en, rfl⟩, k _ en (Heap.get?_push_of_some _ (Heap.get?_push_size _ B.free)) (by rw [Heap.size_push, sz]) fun b o q => Heap.get?_push_of_some _ (Heap.get?_push_of_some _ q)⟩
end
def IteT (K : Frag) (a : Addr) : It :=
  ⟨fun j G => ∃ (vs : List V) (y : V), SqT K G a vs ∧ vs[j]? = some y, fun j G r G' => ∃ T y, r = .ref T ∧ G T = none ∧ G' = upd G T (.tup [.int (j : Nat), y]) ∧ ∀ vs, SqT K G a vs → vs[j]? = some y, fun j G => ∃ vs : List V, SqT K G a vs ∧ vs.length = j⟩
theorem turn_enT {P : Program} {w : World} {K : Frag} {elts : List Expr} {kk : Nat} {tpos : Pos} (a e it : Addr) :
    Turn P w K (.Tuple elts kk tpos) (IteT K a) [e, it] e (fun j g => (∃ prev, IsEnum g e it ((j : Nat) : Int) prev) ∧ g.IsTupleIter it a j ∧ e ≠ it ∧ e ≠ a ∧ a ≠ it) where
  mem := by simp
  obj := fun j g st b hb => by
    obtain ⟨⟨prev, en⟩, ⟨o, ho, hc, hd⟩, _⟩ := st
    have c2 : b = e ∨ b = it := by simpa using hb
    rcases c2 with q | q
    · rw [q]
      exact ⟨_, en, fun v y => nomatch y⟩
    · rw [q]
      exact ⟨o, ho, fun v y => by rw [hd] at y; cases y⟩
  keep := fun j g g' st k => by
    obtain ⟨⟨prev, en⟩, ti, r⟩ := st
    exact ⟨⟨prev, k e (by simp) _ en⟩, ti.at fun o q => k it (by simp) o q, r⟩
  item := by
    intro X hP hw hK hc j pins s σ H E I fp st hg
    subst hP hw hK
    obtain ⟨⟨prev, en⟩, ti, n1, n2, n3⟩ := st
    obtain ⟨vs, y, hq, hy⟩ := hg
    obtain ⟨its, rv, p, _⟩ := I.tuple hq
    obtain ⟨u, hu, ru⟩ := rv.get hy
    have le : e < s.heap.objs.size := Heap.lt_size en
    have li : it < s.heap.objs.size := by
      obtain ⟨_, q, _⟩ := ti
      exact Heap.lt_size q
    have jl : j < its.toArray.size := by
      have := (List.getElem?_eq_some_iff.mp hu).1
      simpa using this
    refine wpAny_pyNext_enum_itemD (Draws.tuple (prog := X.prog) (w := X.w) (A := X.A.in1) (show X.A.in1.handled = none from I.ok.hd hc) it a n3 its.toArray) en ⟨ti, p⟩ jl n1 (by simp [n1, n2]) fun x g tk hx eo tg hT sz hk => ?_
    obtain rfl : x = u := by
      have hx : its.toArray[j]? = some x := hx
      rw [List.getElem?_toArray, hu] at hx
      exact (Option.some.inj hx).symm
    refine ⟨_, rfl, wpAny_letOwnedTupleGo_enum (s := { s with heap := g, toks := tk + 1 }) eo fun g2 en2 sb => ?_⟩
    have hT2 : g2.get? s.heap.objs.size = some { cls := .type "tuple", data := .seq #[.int j tk, x] } := (sb.2 _ (Nat.ne_of_gt le)).trans hT
    have ok2 : ObjOk X.prog X.w (upd H s.heap.objs.size (.tup [.int (j : Nat), y])) g2 s.heap.objs.size (.tup [.int (j : Nat), y]) :=
      ⟨by show 2 ≤ sizeLine; decide, [.int j tk, x], .cons ⟨_, rfl⟩ (.cons ru .nil), ⟨_, hT2, rfl, _, rfl⟩⟩
    have I2 : Inv X pins σ (upd H s.heap.objs.size (.tup [.int (j : Nat), y])) { s with heap := g2, toks := tk + 1 } :=
      I.turnedNew (ch := [e, it]) (fun b ob hb q => (sb.2 b (fun y => hb (by simp [y]))).trans (hk b ob (fun y => hb (by simp [y])) (fun y => hb (by simp [y])) q)) fp (Nat.le_refl _) ok2
    refine ⟨.ref s.heap.objs.size, _, I2, rfl, ⟨_, y, rfl, I.hok.fresh (Nat.le_refl _), rfl, fun ys h => by rw [I.tuple_inj h hq]; exact hy⟩, ⟨⟨x, ?_⟩, tg.1.at fun o q => (sb.2 it (Ne.symm n1)).trans q, n1, n2, n3⟩, fun b hb => ?_⟩
    · have c1 : ((j + 1 : Nat) : Int) = (j : Int) + 1 := by omega
      rw [c1]
      exact en2
    · have c2 : b < s.heap.objs.size := by
        have c3 : b = e ∨ b = it := by simpa using hb
        rcases c3 with q | q
        · rw [q]; exact le
        · rw [q]; exact li
      rw [upd_ne (Nat.ne_of_lt c2)]
      exact (fp b hb).1
  done := by
    intro X hP hw hK hc j pins s σ H E I fp st hg
    subst hP hw hK
    obtain ⟨⟨prev, en⟩, ti, n1, n2, n3⟩ := st
    obtain ⟨vs, hq, hl⟩ := hg
    obtain ⟨its, rv, p, _⟩ := I.tuple hq
    obtain ⟨f0, f1, f2, f3, f4, f5⟩ := fp it (by simp)
    have el := rv.length
    have ej : j = its.toArray.size := by
      rw [List.size_toArray, ← el]
      exact hl.symm
    rw [ej] at ti
    exact wpAny_pyNext_enum_endD (Draws.tuple (prog := X.prog) (w := X.w) (A := X.A.in1) (show X.A.in1.handled = none from I.ok.hd hc) it a n3 its.toArray) en ⟨ti, p⟩ fun g eb => ⟨rfl, I.turned (t' := s.toks) (fun b o hb q => eb b o hb q) f0 f1 f3 f4 f5⟩
  self := fun Ar j s Q E st k => by
    obtain ⟨⟨_, en⟩, _⟩ := st
    exact wpAny_pyIter_enum en k
theorem walk_enT {K : Frag} {a : Addr} {xs : List V} : Walk (IteT K a) xs.length (fun G => SqT K G a xs) (YPair (fun j => some (.int (j : Nat))) (fun j => xs[j]?)) := by
  refine ⟨fun j _ hj q => ⟨xs, xs[j], q, by simp [hj]⟩, fun _ q => ⟨xs, q, rfl⟩, fun j G r G' _ q y => ?_⟩
  obtain ⟨T, x, h1, h2, h3, h4⟩ := y
  exact ⟨T, .int (j : Nat), x, h1, h2, h3, rfl, h4 xs q⟩
/-- enumerate of a list or of a tuple -/
def iEnB (K : Frag) (ta : TA) : TI := fun σ H R => ta σ H fun vs G => ∃ a xs, vs = [.ref a] ∧ ((SqL K G a xs ∧ R (Ite K a) G) ∨ (SqT K G a xs ∧ R (IteT K a) G))
theorem pi_enB {X : Cx} {e : Expr} {ta : TA} {p pos tpos : Pos} {elts : List Expr} {kk : Nat} (hg : Gl X "enumerate") (hm : X.mg "enumerate" = none) (ha : PA X [e] ta) (hs : starEach [e] X.env = [(false, eval e X.env)] := by rfl) :
    PI X (.Tuple elts kk tpos) (.Call (.Name "enumerate" p) [e] [] pos) (iEnB X.K ta) := by
  refine ⟨fun pins s σ H R I h => ?_⟩
  refine Call_ (ld_blt I hg hm boot_enumerate (PyProof.Rows.callWith_type1 (thn (ha.run pos pins s σ H _ I h) fun us z ⟨vs, G, J, r1, q1⟩ => ?_) hs rfl))
  obtain ⟨a, xs, ex, q1⟩ := q1
  subst ex
  cases r1 with
  | cons r rr =>
    cases rr
    cases r
    have big : ∀ b, b ∈ [z.heap.objs.size + 1, z.heap.objs.size] → z.heap.objs.size ≤ b := fun b hb => by
      have c3 : b = z.heap.objs.size + 1 ∨ b = z.heap.objs.size := by simpa using hb
      rcases c3 with q | q
      · rw [q]; exact Nat.le_add_right _ _
      · rw [q]; exact Nat.le_refl _
    rcases q1 with ⟨hq, q⟩ | ⟨hq, q⟩
    · obtain ⟨its, rv, p', _⟩ := J.list hq
      refine call_enumerate_list p'.isList fun g en li sz hk => wpAny_pyIter_enum en ?_
      exact ⟨z.heap.objs.size + 1, [z.heap.objs.size + 1, z.heap.objs.size], _, _, G, rfl, J.kept (t' := z.toks) hk, turn_enum a (z.heap.objs.size + 1) z.heap.objs.size, ⟨⟨.none, en⟩, li, Nat.succ_ne_self _⟩, fun b hb => J.fpOk (big b hb) (J.hok.fresh (big b hb)), q⟩
    · obtain ⟨its, rv, p', _⟩ := J.tuple hq
      have la : a < z.heap.objs.size := by
        obtain ⟨_, q, _⟩ := p'
        exact Heap.lt_size q
      refine new_enum (begins_tuple a its.toArray) p' fun g en ob sz hk => wpAny_pyIter_enum en ?_
      exact ⟨z.heap.objs.size + 1, [z.heap.objs.size + 1, z.heap.objs.size], _, _, G, rfl, J.kept (t' := z.toks) hk, turn_enT a (z.heap.objs.size + 1) z.heap.objs.size, ⟨⟨.none, en⟩, ⟨_, ob, rfl, rfl⟩, Nat.succ_ne_self _, Nat.ne_of_gt (Nat.lt_succ_of_lt la), Nat.ne_of_lt la⟩, fun b hb => J.fpOk (big b hb) (J.hok.fresh (big b hb)), q⟩
end K14.EnT
namespace K14.Gn
open PySem PySem.W PySem.Calls PyProof.Rows L2 LamX
open Kz (same_new small4)
/-! ### going over a list or a tuple -/
def iSq (K : Frag) (tl : TE) : TI := fun σ H R => iList K tl σ H R ∨ iTup K tl σ H R
theorem pi_sq {X : Cx} {tg e : Expr} {tl : TE} (h : PE X e tl) : PI X tg e (iSq X.K tl) := pi_or (pi_list h) (pi_tup h)
/-- for j, y in enumerate(data) -/
theorem for_en {K : Frag} {i1 i2 : Nat} {v : V} {d : PyData} {σ : L2.St} {H H0 : Hp} {tl : TE} {tb : TS} {D : Ends} (ht : ∀ R : VK, R v H → tl σ H R) (t : Th H0 v d) (l : isL d = true) (Pv : Nat → L2.St → Hp → Prop) (h0 : Pv 0 σ H) (hx : ∀ j σ G, Pv j σ G → L2.Same H0 G)
    (hs : ∀ (j : Nat) (z : PyData) (x : V) (σ' : L2.St) (G : Hp), (its d)[j]? = some z → Th G x z → Pv j σ' G → ∀ G', L2.Same G G' → tb { nx := Pv (j + 1), rt := D.rt, bk := D.nx, ct := Pv (j + 1) } ((σ'.set i1 (some (.int (j : Nat)))).set i2 (some x)) G')
    (hd : ∀ σ' G, Pv (its d).length σ' G → D.nx σ' G) : tFor (EnT.iEnB K (tCons tl tNil)) (gTup K 2 (gCons (gName i1) (gCons (gName i2) gNil))) tb D σ H := by
  obtain ⟨a, xs, rfl, r, hq⟩ := t.seq (K := K) l
  have lx : xs.length = (its d).length := r.length
  have go : ∀ (j : Nat) (x : V) (σ' : L2.St) (G G' : Hp), j < xs.length → Pv j σ' G → YPair (fun j => some (.int (j : Nat))) (fun j => xs[j]?) j G x G' → gTup K 2 (gCons (gName i1) (gCons (gName i2) gNil)) x σ' G' fun σ2 H2 => tb { nx := Pv (j + 1), rt := D.rt, bk := D.nx, ct := Pv (j + 1) } σ2 H2 := by
    intro j x σ' G G' hj hp ⟨T, p, y, ex, nT, eG, ep, ey⟩
    obtain ⟨z, hz, tz⟩ := r.get ey
    subst ex eG
    obtain rfl : V.int (j : Nat) = p := Option.some.inj ep
    refine ⟨T, _, rfl, .inl (.inl upd_same), rfl, _, _, rfl, _, _, rfl, rfl, ?_⟩
    exact hs j z y σ' G hz (tz.ext (hx j σ' G hp)) hp _ (same_new nT)
  refine ht _ ⟨a, xs, rfl, ?_⟩
  have q0 := hx 0 σ H h0
  rcases hq with hq | hq
  · exact .inl ⟨.inl (.inl (q0 _ _ hq)), for_it walk_enum Pv h0 (fun j σ' G _ p => .inl (.inl (hx j σ' G p _ _ hq))) go (fun σ' G p => hd σ' G (by rw [← lx]; exact p))⟩
  · exact .inr ⟨.inl (.inl (q0 _ _ hq)), for_it EnT.walk_enT Pv h0 (fun j σ' G _ p => .inl (.inl (hx j σ' G p _ _ hq))) go (fun σ' G p => hd σ' G (by rw [← lx]; exact p))⟩
theorem nx_intro {nx bk ct : L2.St → Hp → Prop} {rt : VK} {σ : L2.St} {H : Hp} (h : nx σ H) : Ends.nx { nx := nx, rt := rt, bk := bk, ct := ct } σ H := h
theorem gset {i : Nat} {v : V} {σ : L2.St} {H : Hp} {Q : L2.St → Hp → Prop} (h : Q (List.set σ i (some v)) H) : gName i v σ H Q := h
theorem for_enS {K : Frag} {i1 i2 : Nat} {v : V} {d : PyData} {σ : L2.St} {H H0 : Hp} {tl : TE} {tb u : TS} {D : Ends} (ht : ∀ R : VK, R v H → tl σ H R) (t : Th H0 v d) (l : isL d = true) (Pv : Nat → L2.St → Hp → Prop) (h0 : Pv 0 σ H) (hx : ∀ j σ G, Pv j σ G → L2.Same H0 G)
    (hs : ∀ (j : Nat) (z : PyData) (x : V) (σ' : L2.St) (G : Hp), (its d)[j]? = some z → Th G x z → Pv j σ' G → ∀ G', L2.Same G G' → tb { nx := Pv (j + 1), rt := D.rt, bk := u D, ct := Pv (j + 1) } ((σ'.set i1 (some (.int (j : Nat)))).set i2 (some x)) G')
    (hd : ∀ σ' G, Pv (its d).length σ' G → u D σ' G) : tSeq (tFor (EnT.iEnB K (tCons tl tNil)) (gTup K 2 (gCons (gName i1) (gCons (gName i2) gNil))) tb) u D σ H :=
  for_en (D := { nx := u D, rt := D.rt, bk := D.bk, ct := D.ct }) ht t l Pv h0 hx hs hd
theorem drop_get {ds : List PyData} {j : Nat} {z : PyData} (h : ds[j]? = some z) : ds.drop j = z :: ds.drop (j + 1) := by
  obtain ⟨hl, e⟩ := List.getElem?_eq_some_iff.mp h
  rw [List.drop_eq_getElem_cons hl, e]
end K14.Gn
namespace K14.T27
open PySem PySem.W PySem.Calls PyProof.Rows L2 LamX
open He (ga)
open Kz (small4 same_new boot_in boot_li boot_isi Has pe_has noE)
open K14.Gn
def stOf (s : Stmt) (i : Nat) : Stmt := (defBody s).getD i (.Pass ⟨0, 0, 0, 0⟩)
def letters : Str := "abcdefghijklmnopqrstuvwxyz"
def signs : Str := "abcdefghijklmnopqrstuvwxyz0123456789"
def kept : List Str := ["x", "y", "stop", "join", "loop", "use", "part", "net", "to", "shut"]
def bnB (s : Str) : Bool := match s.cps.toList with
  | [] => false
  | c :: r => decide (s.length ≤ 8) && (decide (c ∈ letters.cps.toList) && (c :: r).all fun c => decide (c ∈ signs.cps.toList))
def isSt : PyData → Bool
  | .str _ => true
  | _ => false
def keptB (s : Str) : Bool := (kept.map V.str).any fun y => eqV y (.str s)
def nameB : PyData → Bool
  | .str s => bnB s && !keptB s
  | _ => false
theorem is_st {K : Frag} (d : PyData) : kitOne K (.type (tyN d)) (.type "str") = some (isSt d) := by cases d <;> rfl
theorem boot_st : bootBuiltins "str" = some (.type "str") := by decide +kernel
/-- the program's own names -/
structure NmK (K : Frag) (mg : Str → Option Value) : Prop where
  ll : ∃ t, mg "LETTERS" = some (.str letters t)
  ns : ∃ t, mg "NAME_SIGNS" = some (.str signs t)
  ln : ∃ t, mg "LONGEST_NAME" = some (.int 8 t)
  kp : ∃ a, mg "KEPT" = some (.ref a) ∧ ∀ H : Hp, SqT K H a (kept.map V.str)
  len : mg "len" = none
  all : mg "all" = none
  isi : mg "isinstance" = none
  str : mg "str" = none
  enu : mg "enumerate" = none
section
variable {P : Program} {w : World} {K : Frag} {mg : Str → Option Value} {base : Heap}
def spBn : Sp := fun vs H Q _ => ∃ s : Str, vs = [.str s] ∧ s.length ≤ 100000 ∧ ∀ H', L2.Same H H' → Q (.bl (bnB s)) H'
def spNm : Sp := fun vs H Q _ => ∃ (v : V) (d : PyData), vs = [v] ∧ Th H v d ∧ (∀ s, d = .str s → s.length ≤ 100000) ∧ ∀ H', L2.Same H H' → Q (.bl (nameB d)) H'
/-! ### the first that is no end -/
def fneL : List PyData → List Str → Nat → Option Nat
  | [], _, _ => none
  | .str s :: r, st, j => if (nameB (.str s) && !st.contains s) = true then fneL r (st ++ [s]) (j + 1) else some j
  | _ :: _, _, j => some j
def fne (d : PyData) : Option Nat := if isL d = true then fneL (its d) [] 0 else some 0
def oV : Option Nat → V
  | none => .non
  | some j => .int (j : Nat)
def spFn : Sp := fun vs H Q _ => ∃ (v : V) (d : PyData), vs = [v] ∧ Th H v d ∧ (its d).length ≤ 1000 ∧ (∀ s, .str s ∈ its d → s.length ≤ 100000) ∧ ∀ H', L2.Same H H' → Q (oV (fne d)) H'
def forBody : Stmt → List Stmt
  | .For _ _ b .. => b
  | _ => []
end
end K14.T27
namespace K14.T27
open PySem PySem.W PySem.Calls PyProof.Rows L2 LamX
open He (ga)
open Kz (small4 same_new boot_in boot_li boot_isi Has pe_has noE X1 PSs.of_eq)
open K14.Gn
/-! ### check_ends -/
/-- the error of the class C that holds v, in the field f, is let out -/
def SaysF (C : Addr) (f : Str) (v : V) (H : Hp) (E : XK) : Prop := ∀ (H' : Hp) (dx : Addr), L2.Same H H' → H' dx = some (.xd [(f, v)]) → E (.ref C) (some dx) H'
def EndsOk (H : Hp) (v : V) (d : PyData) : Prop := Th H v d ∧ (its d).length ≤ 1000 ∧ ∀ s, .str s ∈ its d → s.length ≤ 100000
theorem EndsOk.ext {H H1 : Hp} {v : V} {d : PyData} (h : EndsOk H v d) (e : L2.Same H H1) : EndsOk H1 v d := ⟨h.1.ext e, h.2⟩
section
variable {P : Program} {w : World} {K : Frag} {mg : Str → Option Value} {base : Heap}
def spCk : Sp := fun vs H Q _ => ∃ (v : V) (d : PyData), vs = [v] ∧ EndsOk H v d ∧ fne d = none ∧ ∀ H', L2.Same H H' → Q .non H'
def spCkX (K : Frag) : Sp := fun vs H Q E => ∃ (v : V) (d : PyData) (j : Nat), vs = [v] ∧ EndsOk H v d ∧ fne d = some j ∧ SaysF (ga K "BadEnds") "index" (.int (j : Nat)) H E
end
end K14.T27
namespace K14.T27
open PySem PySem.W PySem.Calls PyProof.Rows L2 LamX
open He (ga)
open Kz (small4 same_new boot_in boot_li boot_isi Has pe_has noE PSs.of_eq)
open K14.Gn
/-! ### boxes -/
theorem th_ix {K : Frag} {H : Hp} {v : V} {d z : PyData} {j : Nat} (t : Th H v d) (l : isL d = true) (h : (its d)[j]? = some z) : ∃ x, Th H x z ∧ ∀ Q : VK, Q x H → rIx K v (.int (j : Nat)) H Q := by
  obtain ⟨a, xs, rfl, r, hx⟩ := t.seq (K := K) l
  have jl : j < xs.length := by
    rw [r.length]
    exact (List.getElem?_eq_some_iff.mp h).1
  obtain ⟨z', hz', tz⟩ := r.get (List.getElem?_eq_getElem jl)
  rw [h] at hz'
  obtain rfl := Option.some.inj hz'
  refine ⟨_, tz, fun Q q => ?_⟩
  rcases hx with hx | hx
  · exact .inl ⟨a, xs, _, _, rfl, rfl, .inl (.inl hx), atI_nat (j := j) (List.getElem?_eq_getElem jl), q⟩
  · exact .inr (.inl ⟨a, xs, _, _, rfl, rfl, .inl (.inl hx), atI_nat (j := j) (List.getElem?_eq_getElem jl), q⟩)
/-- the ends that are passed -/
structure EndsS (H : Hp) (v : V) (ns : List Str) : Prop where
  ex : ∃ a, v = .ref a ∧ (H a = some (.lst (ns.map V.str)) ∨ H a = some (.tup (ns.map V.str)))
theorem EndsS.ext {H H1 : Hp} {v : V} {ns : List Str} (h : EndsS H v ns) (e : L2.Same H H1) : EndsS H1 v ns := by
  obtain ⟨a, e1, e2⟩ := h.ex
  exact ⟨a, e1, e2.elim (fun q => .inl (e _ _ q)) fun q => .inr (e _ _ q)⟩
def inN (ns : List Str) (s : Str) : Bool := (ns.map V.str).any fun y => eqV y (.str s)
theorem flat_strs (ns : List Str) : (ns.map V.str).all flatV = true := List.all_eq_true.mpr fun x hx => by
  obtain ⟨s, _, rfl⟩ := List.mem_map.mp hx
  rfl
def boxB (ns : List Str) (d : PyData) : Bool := isL d && (match its d with
  | [.str s, r, t] => inN ns s && (isR r && isR t)
  | _ => false)
section
variable {P : Program} {w : World} {K : Frag} {mg : Str → Option Value} {base : Heap}
def Bd (d : PyData) : Prop := (its d).length ≤ 100000 ∧ ∀ x ∈ its d, (its x).length ≤ 100000
def spBa : Sp := fun vs H Q _ => ∃ (ve v : V) (ns : List Str) (d : PyData), vs = [ve, v] ∧ EndsS H ve ns ∧ Th H v d ∧ Bd d ∧ ∀ H', L2.Same H H' → Q (.bl (boxB ns d)) H'
end
end K14.T27
namespace K14.T27
open PySem PySem.W PySem.Calls PyProof.Rows L2 LamX
open He (ga)
open Kz (small4 same_new boot_in boot_li boot_isi Has pe_has noE PSs.of_eq)
open K14.Gn
open StX
/-! ### pairs of boxes -/
theorem th_app {H : Hp} : ∀ {x1 x2 : List V} {d1 d2 : List PyData}, ThAll H x1 d1 → ThAll H x2 d2 → ThAll H (x1 ++ x2) (d1 ++ d2)
  | [], _, _, _, h1, h2 => by cases h1; exact h2
  | _ :: _, _, _, _, h1, h2 => by cases h1 with | cons a b => exact .cons a (th_app b h2)
end K14.T27
namespace K14.T27
open PySem PySem.W PySem.Calls PyProof.Rows L2 LamX
open He (ga)
open Kz (small4 same_new boot_in boot_li boot_isi Has pe_has noE PSs.of_eq)
open K14.Gn
open StX
theorem th_ixS {K : Frag} {H : Hp} {v : V} {d z : PyData} {j : Nat} (t : Th H v d) (l : isL d = true) (h : (its d)[j]? = some z) : ∃ x, Th H x z ∧ ∀ G, L2.Same H G → ∀ Q : VK, Q x G → rIx K v (.int (j : Nat)) G Q := by
  obtain ⟨a, xs, rfl, r, hx⟩ := t.seq (K := K) l
  have jl : j < xs.length := by
    rw [r.length]
    exact (List.getElem?_eq_some_iff.mp h).1
  obtain ⟨z', hz', tz⟩ := r.get (List.getElem?_eq_getElem jl)
  rw [h] at hz'
  obtain rfl := Option.some.inj hz'
  refine ⟨_, tz, fun G e Q q => ?_⟩
  rcases hx with hx | hx
  · exact .inl ⟨a, xs, _, _, rfl, rfl, .inl (.inl (e _ _ hx)), atI_nat (j := j) (List.getElem?_eq_getElem jl), q⟩
  · exact .inr (.inl ⟨a, xs, _, _, rfl, rfl, .inl (.inl (e _ _ hx)), atI_nat (j := j) (List.getElem?_eq_getElem jl), q⟩)
end K14.T27
namespace K14.Gn
open PySem PySem.W PySem.Calls PyProof.Rows L2 LamX
open Kz (same_new small4)
/-- as lc_bl, over data that the row itself makes -/
theorem lc_blG {K : Frag} {k : Nat} {d : PyData} {σ : L2.St} {H : Hp} {tl te : TE} {vs : List Nat} {b : PyData → Bool} {Q : VK} (ht : ∀ R : VK, (∀ (v' : V) (G0 : Hp), L2.Same H G0 → Th G0 v' d → R v' G0) → tl σ H R) (l : isL d = true) (len : (its d).length ≤ 100000)
    (hw : ∀ x : V, wipe ((wipe σ vs).set k (some x)) vs = wipe σ vs)
    (hs : ∀ (j : Nat) (z : PyData) (x : V) (G : Hp) (Q' : VK), (its d)[j]? = some z → L2.Same H G → Th G x z → (∀ G', L2.Same G G' → Q' (.bl (b z)) G') → te ((wipe σ vs).set k (some x)) G Q')
    (hq : ∀ (G : Hp) (D : Addr), L2.Same H G → G D = some (.lst ((its d).map fun z => V.bl (b z))) → Q (.ref D) G) : tLc (iSq K tl) (gName k) tYes te vs σ H Q := by
  have step : ∀ (G0 : Hp) (xs : List V), L2.Same H G0 → ThAll G0 xs (its d) → ∀ (D : Addr), G0 D = none → ∀ (i : Nat) (x : V) (H2 : Hp), xs[i]? = some x → (L2.Same G0 H2 ∧ H2 D = some (.lst (((its d).take i).map fun z => V.bl (b z)))) →
      (wipe ((wipe σ vs).set k (some x)) vs = wipe σ vs ∧ tYes ((wipe σ vs).set k (some x)) H2 fun c H3 => if c = true then te ((wipe σ vs).set k (some x)) H3 fun y H4 => ∃ acc, H4 D = some (.lst acc) ∧ acc.length < sizeLine ∧ (L2.Same G0 (upd H4 D (.lst (acc ++ [y]))) ∧ (upd H4 D (.lst (acc ++ [y]))) D = some (.lst (((its d).take (i + 1)).map fun z => V.bl (b z)))) else
        (L2.Same G0 H3 ∧ H3 D = some (.lst (((its d).take (i + 1)).map fun z => V.bl (b z))))) := by
    intro G0 xs s0 r D hD i x H2 hi ⟨S, hA⟩
    obtain ⟨z, hz, tz⟩ := r.get hi
    refine ⟨hw x, ?_⟩
    unfold tYes
    show (if true = true then _ else _)
    rw [if_pos rfl]
    refine hs i z x H2 _ hz (s0.trans S) (tz.ext S) fun H4 s4 => ⟨_, s4 _ _ hA, ?_, fun c o e => ?_, ?_⟩
    · rw [List.length_map, List.length_take, sizeLine_eq]
      omega
    · rw [upd_ne (ne_of_none e hD)]
      exact s4 _ _ (S _ _ e)
    · rw [upd_same]
      have et : (its d).take (i + 1) = (its d).take i ++ [z] := by
        rw [List.take_add_one, hz]
        rfl
      rw [et, List.map_append]
      rfl
  have fin : ∀ (G0 : Hp) (xs : List V), L2.Same H G0 → ThAll G0 xs (its d) → ∀ (D : Addr) (H2 : Hp), (L2.Same G0 H2 ∧ H2 D = some (.lst (((its d).take xs.length).map fun z => V.bl (b z)))) → Q (.ref D) H2 := fun G0 xs s0 r D H2 ⟨S, hA⟩ => by
    rw [r.length, List.take_length] at hA
    exact hq H2 D (s0.trans S) hA
  cases d with
  | list ds =>
    refine .inl (ht _ fun v' G0 s0 t0 => ?_)
    cases t0 with
    | @lst a xs _ hx r => exact ⟨a, rfl, ⟨xs, .inl (.inl hx)⟩, fun D hD => lc_list (xs := xs) (fun i H2 => L2.Same G0 H2 ∧ H2 D = some (.lst ((ds.take i).map fun z => V.bl (b z)))) ⟨same_new hD, upd_same⟩ (fun i H2 _ e => .inl (.inl (e.1 _ _ hx))) (fun i x H2 hi e => step G0 xs s0 r D hD i x H2 hi e) (fun H2 e => fin G0 xs s0 r D H2 e)⟩
  | tuple ds =>
    refine .inr (ht _ fun v' G0 s0 t0 => ?_)
    cases t0 with
    | @tup a xs _ hx r => exact ⟨a, rfl, ⟨xs, .inl (.inl hx)⟩, fun D hD => lc_tup (xs := xs) (fun i H2 => L2.Same G0 H2 ∧ H2 D = some (.lst ((ds.take i).map fun z => V.bl (b z)))) ⟨same_new hD, upd_same⟩ (fun i H2 _ e => .inl (.inl (e.1 _ _ hx))) (fun i x H2 hi e => step G0 xs s0 r D hD i x H2 hi e) (fun H2 e => fin G0 xs s0 r D H2 e)⟩
  | _ => exact absurd (show false = true from l) Bool.false_ne_true
theorem lc_allG {K : Frag} {k : Nat} {d : PyData} {σ : L2.St} {H : Hp} {tl te : TE} {vs : List Nat} (b : PyData → Bool) {Q : VK} (ht : ∀ R : VK, (∀ (v' : V) (G0 : Hp), L2.Same H G0 → Th G0 v' d → R v' G0) → tl σ H R) (l : isL d = true) (len : (its d).length ≤ 100000)
    (hw : ∀ x : V, wipe ((wipe σ vs).set k (some x)) vs = wipe σ vs)
    (hs : ∀ (j : Nat) (z : PyData) (x : V) (G : Hp) (Q' : VK), (its d)[j]? = some z → L2.Same H G → Th G x z → (∀ G', L2.Same G G' → Q' (.bl (b z)) G') → te ((wipe σ vs).set k (some x)) G Q')
    (hq : ∀ G : Hp, L2.Same H G → Q (.bl ((its d).all b)) G) : tCB (rAll K) (tCons (tLc (iSq K tl) (gName k) tYes te vs) tNil) σ H Q := by
  unfold tCB tCons tNil
  exact lc_blG (b := b) ht l len hw hs fun G D S hA => ⟨D, (its d).map b, rfl, .inl (.inl (by rw [List.map_map]; exact hA)), by rw [List.all_map]; exact hq G S⟩
theorem ifS_intro {tc : TT} {A B u : TS} {D : Ends} {σ : L2.St} {H : Hp} (h : tc σ H fun c G => if c = true then A { nx := u D, rt := D.rt, bk := D.bk, ct := D.ct } σ G else B { nx := u D, rt := D.rt, bk := D.bk, ct := D.ct } σ G) : tSeq (tIfS tc A B) u D σ H := h
theorem ret_intro {te : TE} {D : Ends} {σ : L2.St} {H : Hp} (h : te σ H D.rt) : tRet te D σ H := h
end K14.Gn
namespace K14.T27
open PySem PySem.W PySem.Calls PyProof.Rows L2 LamX
open He (ga)
open Kz (small4 same_new boot_in boot_li boot_isi Has pe_has noE PSs.of_eq)
open K14.Gn
open StX
/-! ### the law's own box -/
theorem thAll_drop {H : Hp} {m : Nat} {xs : List V} {ds : List PyData} (h : ThAll H xs ds) : ThAll H (xs.drop m) (ds.drop m) := by
  induction m generalizing xs ds with
  | zero => exact h
  | succ m ih =>
    cases h with
    | nil => exact .nil
    | cons a r => exact ih r
theorem cutV_drop {xs : List V} {m : Nat} (h : m ≤ xs.length) : cutV xs (some (m : Int)) none = xs.drop m := by
  unfold cutV
  have e1 : HT.sIx xs.length 0 (some (m : Int)) = m := by
    rw [HT.sIx_nat]
    omega
  have e2 : HT.sIx xs.length xs.length none = xs.length := rfl
  rw [e1, e2]
  exact List.take_of_length_le (by rw [List.length_drop]; exact Nat.le_refl _)
theorem in01 (i : Int) : ([V.int 0, V.int 1].any fun y => eqV y (.int i)) = isF (.int i) := by
  show ((0 : Int) == i || ((1 : Int) == i || false)) = (decide (0 ≤ i) && decide (i ≤ 1))
  rw [Bool.or_false, Bool.eq_iff_iff]
  simp only [Bool.or_eq_true, Bool.and_eq_true, beq_iff_eq, decide_eq_true_eq]
  omega
end K14.T27
namespace K14.T27
open PySem PySem.W PySem.Calls PyProof.Rows L2 LamX
open He (ga)
open Kz (SS ExtS ExtS.trans ExtS.refl small4 same_new boot_in boot_li boot_isi Has pe_has noE PSs.of_eq seqI new_ext)
open K14.Gn
/-! ### _law_pick, _law_mixed -/
section
variable {P : Program} {w : World} {K : Frag} {mg : Str → Option Value} {base : Heap}
def spPk : Sp := fun vs H Q _ => ∃ (l li sa : Addr) (c : Int) (xs : List V), vs = [.ref l, .ref sa] ∧ Spr H l li c ∧ H sa = some (.lst xs) ∧ sa ≠ l ∧ sa ≠ li ∧ 0 < xs.length ∧ xs.length ≤ 1000 ∧ c < 900000000 ∧ ∀ (H' : Hp) (x : V), ExtS l li H H' → Spr H' l li (c + 1) → x ∈ xs → Q x H'
def spMxW : Sp := fun vs H Q _ => ∃ (l li sa : Addr) (c : Int) (xs : List V), vs = [.ref l, .ref sa] ∧ Spr H l li c ∧ H sa = some (.lst xs) ∧ xs.length ≤ 1000 ∧ c < 900000000 ∧
  ∀ (H' : Hp) (r : Addr) (ys : List V), ExtS l li H H' → Spr H' l li (c + (xs.length : Nat)) → H r = none → r ≠ l → r ≠ li → H' r = some (.lst ys) → ys.Perm xs → Q (.ref r) H'
theorem perm_pop {zs ys xs : List V} {i : Nat} (h : i < zs.length) (p : (zs ++ ys).Perm xs) : (zs.eraseIdx i ++ (ys ++ [zs[i]])).Perm xs := by
  refine List.Perm.trans ?_ p
  have e : (zs[i] :: zs.eraseIdx i).Perm zs := by
    rw [List.eraseIdx_eq_take_drop_succ]
    have e2 : zs.take i ++ zs[i] :: zs.drop (i + 1) = zs := by rw [← List.drop_eq_getElem_cons h, List.take_append_drop]
    exact (List.perm_middle.symm).trans (List.Perm.of_eq e2)
  calc (zs.eraseIdx i ++ (ys ++ [zs[i]])).Perm (zs.eraseIdx i ++ ([zs[i]] ++ ys)) := List.Perm.append_left _ List.perm_append_comm
    _ |>.Perm ((zs[i] :: zs.eraseIdx i) ++ ys) := by
      rw [← List.append_assoc]
      exact List.Perm.append_right _ (List.perm_append_singleton _ _)
    _ |>.Perm (zs ++ ys) := List.Perm.append_right _ e
end
end K14.T27
namespace K14.T27
open PySem PySem.W PySem.Calls PyProof.Rows L2 LamX
open He (ga)
open Kz (SS ExtS ExtS.trans ExtS.refl small4 same_new boot_in boot_li boot_isi Has pe_has noE PSs.of_eq seqI new_ext)
open K14.Gn
def endNames : List Str := ["a", "b", "c", "d", "e", "w1", "w2", "in", "out", "in1", "w10", "ends", "lastname", "x0", "y1", "z"]
def unS : V → Str
  | .str s => s
  | _ => ""
theorem strs_of {ys : List V} {ns : List Str} (p : ys.Perm (ns.map V.str)) : ∃ ms : List Str, ys = ms.map V.str ∧ ms.Perm ns := by
  refine ⟨ys.map unS, ?_, ?_⟩
  · rw [List.map_map]
    have all : ∀ y ∈ ys, V.str (unS y) = y := fun y hy => by
      obtain ⟨s, _, rfl⟩ := List.mem_map.mp (p.mem_iff.mp hy)
      rfl
    clear p
    induction ys with
    | nil => rfl
    | cons y r ih =>
      rw [List.map_cons, ← ih fun z hz => all z (List.mem_cons_of_mem _ hz)]
      show y :: r = V.str (unS y) :: r
      rw [all y (List.mem_cons_self ..)]
  · have := p.map unS
    rw [List.map_map] at this
    have e : ns.map (unS ∘ V.str) = ns := (List.map_congr_left (g := id) fun _ _ => rfl).trans (List.map_id ns)
    rw [e] at this
    exact this
section
variable {P : Program} {w : World} {K : Frag} {mg : Str → Option Value} {base : Heap}
def spEn : Sp := fun vs H Q _ => ∃ (l li : Addr) (c : Int) (m : Nat), vs = [.ref l, .int (m : Nat)] ∧ Spr H l li c ∧ m ≤ 16 ∧ c < 800000000 ∧
  ∀ (H' : Hp) (r : Addr) (ns : List Str), ExtS l li H H' → Spr H' l li (c + 16) → H r = none → r ≠ l → r ≠ li → H' r = some (.lst (ns.map V.str)) → ns.length = m → ns.Nodup → (∀ s ∈ ns, s ∈ endNames) → Q (.ref r) H'
end
theorem names_all : endNames.all (fun s => nameB (.str s)) = true := by decide +kernel
theorem fne_names : ∀ {ns st : List Str} {j : Nat}, ns.Nodup → (∀ s ∈ ns, s ∈ endNames) → (∀ s ∈ ns, s ∉ st) → fneL (ns.map PyData.str) st j = none
  | [], _, _, _, _, _ => rfl
  | s :: r, st, j, nd, hm, hn => by
    have n0 : nameB (.str s) = true := List.all_eq_true.mp names_all s (hm s (List.mem_cons_self ..))
    have c0 : st.contains s = false := by
      cases q : st.contains s with
      | false => rfl
      | true => exact absurd (List.contains_iff_mem.mp q) (hn s (List.mem_cons_self ..))
    obtain ⟨d1, d2⟩ := List.nodup_cons.mp nd
    have ef : fneL ((s :: r).map PyData.str) st j = if (nameB (.str s) && !st.contains s) = true then fneL (r.map PyData.str) (st ++ [s]) (j + 1) else some j := rfl
    rw [ef, n0, c0]
    refine fne_names d2 (fun x hx => hm x (List.mem_cons_of_mem _ hx)) (fun x hx hs => ?_)
    rcases List.mem_append.mp hs with hs | hs
    · exact hn x (List.mem_cons_of_mem _ hx) hs
    · rw [List.mem_singleton.mp hs] at hx
      exact d1 hx
theorem th_strs {H : Hp} : ∀ ns : List Str, ThAll H (ns.map V.str) (ns.map PyData.str)
  | [] => .nil
  | s :: r => .cons (.str s) (th_strs r)
/-- names told as a list or a tuple are ends -/
theorem ends_ok {H : Hp} {v : V} {d : PyData} {ns : List Str} (t : Th H v d) (l : isL d = true) (e : its d = ns.map PyData.str) (nd : ns.Nodup) (hm : ∀ s ∈ ns, s ∈ endNames) (hl : ns.length ≤ 16) : EndsS H v ns ∧ EndsOk H v d ∧ fne d = none := by
  refine ⟨?_, ⟨t, by rw [e, List.length_map]; omega, fun s hs => ?_⟩, ?_⟩
  · cases t with
    | @lst a xs ds hx r =>
      have e : ds = ns.map PyData.str := e
      subst e
      refine ⟨a, rfl, .inl ?_⟩
      have : xs = ns.map V.str := by
        clear hx l nd hm hl
        induction ns generalizing xs with
        | nil => cases r; rfl
        | cons s q ih =>
          cases r with
          | cons h1 h2 =>
            cases h1
            exact congrArg (V.str s :: ·) (ih h2 rfl)
      rw [← this]
      exact hx
    | @tup a xs ds hx r =>
      have e : ds = ns.map PyData.str := e
      subst e
      refine ⟨a, rfl, .inr ?_⟩
      have : xs = ns.map V.str := by
        clear hx l nd hm hl
        induction ns generalizing xs with
        | nil => cases r; rfl
        | cons s q ih =>
          cases r with
          | cons h1 h2 =>
            cases h1
            exact congrArg (V.str s :: ·) (ih h2 rfl)
      rw [← this]
      exact hx
    | _ => exact absurd (show false = true from l) Bool.false_ne_true
  · rw [e] at hs
    obtain ⟨x, hx, ex⟩ := List.mem_map.mp hs
    obtain rfl := PyData.str.inj ex
    have : endNames.all (fun s => decide (s.length ≤ 100000)) = true := by decide +kernel
    exact of_decide_eq_true (List.all_eq_true.mp this x (hm x hx))
  · unfold fne
    rw [l, if_pos rfl, e]
    exact fne_names nd hm (fun s _ h => absurd h (by simp))
end K14.T27
namespace K14.Gn
open PySem PySem.W PySem.Calls PyProof.Rows L2 LamX
open Kz (same_new small4)
mutual
/-- data never stands in a table of code, nor in a place that was free -/
theorem Th.hid {D : Addr} {H H2 : Hp} (n : H D = none) (e : L2.Same H H2) : ∀ {v : V} {d : PyData}, Th H v d → Th (Hid [D] H2) v d
  | _, _, .non => .non
  | _, _, .bl b => .bl b
  | _, _, .int i => .int i
  | _, _, .str x => .str x
  | _, _, .lst h r => .lst (hid_of (by simpa using ne_of_none h n) (e _ _ h) fun ps z => nomatch z) (ThAll.hid n e r)
  | _, _, .tup h r => .tup (hid_of (by simpa using ne_of_none h n) (e _ _ h) fun ps z => nomatch z) (ThAll.hid n e r)
  | _, _, .dct h r => .dct (hid_of (by simpa using ne_of_none h n) (e _ _ h) fun ps z => nomatch z) (ThKv.hid n e r)
theorem ThAll.hid {D : Addr} {H H2 : Hp} (n : H D = none) (e : L2.Same H H2) : ∀ {v : List V} {d : List PyData}, ThAll H v d → ThAll (Hid [D] H2) v d
  | _, _, .nil => .nil
  | _, _, .cons h r => .cons (Th.hid n e h) (ThAll.hid n e r)
theorem ThKv.hid {D : Addr} {H H2 : Hp} (n : H D = none) (e : L2.Same H H2) : ∀ {v : List (Key × V)} {d : List (PyData × PyData)}, ThKv H v d → ThKv (Hid [D] H2) v d
  | _, _, .nil => .nil
  | _, _, .cons h r => .cons (Th.hid n e h) (ThKv.hid n e r)
end
/-- a comprehension over data, each element data again -/
theorem lc_th {K : Frag} {k : Nat} {d : PyData} {σ : L2.St} {H : Hp} {tl te : TE} {vs : List Nat} {Q : VK} (f : PyData → PyData) (ht : ∀ R : VK, (∀ (v' : V) (G0 : Hp), L2.Same H G0 → Th G0 v' d → R v' G0) → tl σ H R) (l : isL d = true) (len : (its d).length ≤ 100000)
    (hw : ∀ x : V, wipe ((wipe σ vs).set k (some x)) vs = wipe σ vs)
    (hs : ∀ (D : Addr) (j : Nat) (z : PyData) (x : V) (G : Hp) (Q' : VK), (its d)[j]? = some z → L2.Same H G → (∃ o, G D = some o) → Th (Hid [D] G) x z → (∀ (G' : Hp) (y : V), L2.Same G G' → Th (Hid [D] G') y (f z) → Q' y G') → te ((wipe σ vs).set k (some x)) G Q')
    (hq : ∀ (G : Hp) (D : Addr), L2.Same H G → H D = none → Th G (.ref D) (.list ((its d).map f)) → Q (.ref D) G) : tLc (iSq K tl) (gName k) tYes te vs σ H Q := by
  let Pv (G0 : Hp) (D : Addr) (j : Nat) (H2 : Hp) : Prop := L2.Same G0 H2 ∧ ∃ ys, H2 D = some (.lst ys) ∧ ys.length = j ∧ ThAll (Hid [D] H2) ys (((its d).take j).map f)
  have step : ∀ (G0 : Hp) (xs : List V), L2.Same H G0 → ThAll G0 xs (its d) → ∀ (D : Addr), G0 D = none → ∀ (i : Nat) (x : V) (H2 : Hp), xs[i]? = some x → Pv G0 D i H2 →
      (wipe ((wipe σ vs).set k (some x)) vs = wipe σ vs ∧ tYes ((wipe σ vs).set k (some x)) H2 fun c H3 => if c = true then te ((wipe σ vs).set k (some x)) H3 fun y H4 => ∃ acc, H4 D = some (.lst acc) ∧ acc.length < sizeLine ∧ Pv G0 D (i + 1) (upd H4 D (.lst (acc ++ [y]))) else Pv G0 D (i + 1) H3) := by
    intro G0 xs s0 r D hD i x H2 hi ⟨S, ys, hA, ly, ty⟩
    obtain ⟨z, hz, tz⟩ := r.get hi
    refine ⟨hw x, ?_⟩
    unfold tYes
    show (if true = true then _ else _)
    rw [if_pos rfl]
    have il : i < (its d).length := (List.getElem?_eq_some_iff.mp hz).1
    refine hs D i z x H2 _ hz (s0.trans S) ⟨_, hA⟩ (Th.hid hD S tz) fun H4 y s4 t4 => ⟨ys, s4 _ _ hA, by rw [ly, sizeLine_eq]; omega, fun c o e => ?_, ys ++ [y], upd_same, by rw [List.length_append, ly]; rfl, ?_⟩
    · rw [upd_ne (ne_of_none e hD)]
      exact s4 _ _ (S _ _ e)
    · have et : (its d).take (i + 1) = (its d).take i ++ [z] := by
        rw [List.take_add_one, hz]
        rfl
      rw [et, List.map_append]
      exact ThAll.snoc (t4.ext (hid_upd (List.mem_cons_self ..))) ((ty.ext (hid_same s4)).ext (hid_upd (List.mem_cons_self ..)))
  have start : ∀ (G0 : Hp) (D : Addr), G0 D = none → Pv G0 D 0 (upd G0 D (.lst [])) := fun G0 D hD => ⟨same_new hD, [], upd_same, rfl, .nil⟩
  have fin : ∀ (G0 : Hp) (xs : List V), L2.Same H G0 → ThAll G0 xs (its d) → ∀ (D : Addr), G0 D = none → ∀ (H2 : Hp), Pv G0 D xs.length H2 → Q (.ref D) H2 := fun G0 xs s0 r D hD H2 ⟨S, ys, hA, ly, ty⟩ => by
    rw [r.length, List.take_length] at ty
    exact hq H2 D (s0.trans S) (s0.free hD) (.lst hA (ty.ext hid_up))
  cases d with
  | list ds =>
    refine .inl (ht _ fun v' G0 s0 t0 => ?_)
    cases t0 with
    | @lst a xs _ hx r => exact ⟨a, rfl, ⟨xs, .inl (.inl hx)⟩, fun D hD => lc_list (xs := xs) (Pv G0 D) (start G0 D hD) (fun i H2 _ e => .inl (.inl (e.1 _ _ hx))) (fun i x H2 hi e => step G0 xs s0 r D hD i x H2 hi e) (fun H2 e => fin G0 xs s0 r D hD H2 e)⟩
  | tuple ds =>
    refine .inr (ht _ fun v' G0 s0 t0 => ?_)
    cases t0 with
    | @tup a xs _ hx r => exact ⟨a, rfl, ⟨xs, .inl (.inl hx)⟩, fun D hD => lc_tup (xs := xs) (Pv G0 D) (start G0 D hD) (fun i H2 _ e => .inl (.inl (e.1 _ _ hx))) (fun i x H2 hi e => step G0 xs s0 r D hD i x H2 hi e) (fun H2 e => fin G0 xs s0 r D hD H2 e)⟩
  | _ => exact absurd (show false = true from l) Bool.false_ne_true
end K14.Gn
namespace K14.Gn
open PySem PySem.W PySem.Calls PyProof.Rows L2 LamX
open Kz (same_new small4)
theorem thAll_take {H : Hp} : ∀ {m : Nat} {xs : List V} {ds : List PyData}, ThAll H xs ds → ThAll H (xs.take m) (ds.take m)
  | 0, _, _, _ => .nil
  | m + 1, _, _, .nil => .nil
  | m + 1, _, _, .cons a r => .cons a (thAll_take r)
end K14.Gn
namespace K14.T27
open PySem PySem.W PySem.Calls PyProof.Rows L2 LamX
open K14.Gn
/-! ### boxes that come of whole ones by halving -/
def figsB (x : List Int) : Prop := ∀ n ∈ x, n = 0 ∨ n = 1
end K14.T27
namespace K14.Gn
open PySem PySem.W PySem.Calls PyProof.Rows L2 LamX
open Kz (same_new small4)
theorem asgS {te : TE} {g : TG} {u : TS} {D : Ends} {σ : L2.St} {H : Hp} (h : te σ H fun x H1 => g x σ H1 fun σ2 H2 => u D σ2 H2) : tSeq (tAsg te g) u D σ H := h
end K14.Gn
namespace K14
/-! ### endless sequences -/
/-- from N on f has the period p -/
def PB (f : Nat → Int) (N p : Nat) : Prop := ∀ i, N ≤ i → f (i + p) = f i
theorem PB.mul {f : Nat → Int} {N p : Nat} (h : PB f N p) : ∀ k, PB f N (p * k)
  | 0 => fun i _ => by rw [Nat.mul_zero, Nat.add_zero]
  | k + 1 => fun i hi => by
    rw [Nat.mul_succ, ← Nat.add_assoc, h (i + p * k) (by omega), h.mul k i hi]
/-- a period from later on is one from where f has any period -/
theorem PB.back {f : Nat → Int} {N M p q : Nat} (h : PB f N p) (hp : 0 < p) (g : PB f M q) : PB f N q := fun i hi => by
  have e1 := (h.mul M) i hi
  have e2 := (h.mul M) (i + q) (by omega)
  have le : M ≤ i + p * M := by
    have := Nat.le_mul_of_pos_left M hp
    omega
  have e3 := g (i + p * M) le
  have e4 : i + p * M + q = i + q + p * M := by omega
  rw [e4] at e3
  rw [← e2, e3, e1]
theorem least_per {f : Nat → Int} {N : Nat} : ∀ (b p : Nat), p ≤ b → 0 < p → PB f N p → ∃ q, 0 < q ∧ q ≤ p ∧ PB f N q ∧ ∀ z, 0 < z → PB f N z → q ≤ z
  | 0, p, h1, h2, _ => by omega
  | b + 1, p, h1, h2, h3 => by
    by_cases c : ∃ z, 0 < z ∧ z < p ∧ PB f N z
    · obtain ⟨z, z1, z2, z3⟩ := c
      obtain ⟨q, q1, q2, q3, q4⟩ := least_per b z (by omega) z1 z3
      exact ⟨q, q1, by omega, q3, q4⟩
    · exact ⟨p, h2, Nat.le_refl _, h3, fun z z1 z2 => Nat.le_of_not_lt fun z3 => c ⟨z, z1, z3, z2⟩⟩
/-- the least period divides each -/
theorem per_dvd {f : Nat → Int} {N p q : Nat} (hq : 0 < q) (h : PB f N q) (least : ∀ z, 0 < z → PB f N z → q ≤ z) (g : PB f N p) : p % q = 0 := by
  rcases Nat.eq_zero_or_pos (p % q) with z | z
  · exact z
  · have per : PB f N (p % q) := fun i hi => by
      have e1 := (h.mul (p / q)) (i + p % q) (by omega)
      have e2 := Nat.mod_add_div p q
      rw [Nat.add_assoc, e2] at e1
      rw [← e1, g i hi]
    have := least _ z per
    have := Nat.mod_lt p hq
    omega
section
variable {hs as rs : List Int} {k : Nat}
theorem fig_tail (i : Nat) (h : hs.length ≤ i) : figAt hs as i = as.getD ((i - hs.length) % as.length) 0 := by
  unfold figAt
  rw [if_neg (by omega)]
theorem fig_head (i : Nat) (h : i < hs.length) : figAt hs as i = hs.getD i 0 := by
  unfold figAt
  rw [if_pos h]
theorem pb_tail (h0 : 0 < as.length) : PB (figAt hs as) hs.length as.length := fun i hi => by
  rw [fig_tail (hs := hs) (as := as) (i + as.length) (by omega), fig_tail (hs := hs) (as := as) i hi]
  have e : i + as.length - hs.length = i - hs.length + as.length := by omega
  rw [e, Nat.add_mod_right]
/-- as is a power of its first l, told place by place -/
theorem cond_get (h0 : 0 < as.length) {l : Nat} (l1 : 1 ≤ l) (l2 : l ≤ as.length) : condR as l ↔ as.length % l = 0 ∧ ∀ i, i < as.length → as.getD i 0 = as.getD (i % l) 0 := by
  have tl : (as.take l).length = l := by rw [List.length_take]; omega
  have tg : ∀ j, j < l → (as.take l).getD j 0 = as.getD j 0 := fun j hj => by
    simp only [List.getD]
    rw [List.getElem?_take_of_lt hj]
  constructor
  · rintro ⟨e1, e2⟩
    refine ⟨e1, fun i hi => ?_⟩
    have e3 : as.length / l * l = as.length := Nat.div_mul_cancel (Nat.dvd_of_mod_eq_zero e1)
    have e4 := rep_get (as := as.take l) (by omega) (as.length / l) i (by rw [tl]; omega)
    rw [e2, tl, tg _ (Nat.mod_lt _ l1)] at e4
    simp only [List.getD, e4]
    rfl
  · rintro ⟨e1, e2⟩
    have e3 : as.length / l * l = as.length := Nat.div_mul_cancel (Nat.dvd_of_mod_eq_zero e1)
    refine ⟨e1, List.ext_getElem? fun i => ?_⟩
    rcases Nat.lt_or_ge i as.length with hi | hi
    · rw [rep_get (as := as.take l) (by omega) (as.length / l) i (by rw [tl]; omega), tl, tg _ (Nat.mod_lt _ l1), ← e2 i hi]
      simp [List.getD, List.getElem?_eq_getElem hi]
    · rw [List.getElem?_eq_none hi, List.getElem?_eq_none (by simp [List.length_flatten, List.map_replicate, tl]; omega)]
theorem short_get (h0 : 0 < as.length) (s : IsShort as rs) : 0 < rs.length ∧ as.length % rs.length = 0 ∧ (∀ i, as.getD (i % as.length) 0 = rs.getD (i % rs.length) 0) ∧ ∀ m, 1 ≤ m → m < rs.length → ¬ condR as m := by
  obtain ⟨l, l1, l2, c, no, rfl⟩ := s
  have tl : (as.take l).length = l := by rw [List.length_take]; omega
  obtain ⟨c1, c2⟩ := (cond_get h0 l1 l2).mp c
  rw [tl]
  refine ⟨l1, c1, fun i => ?_, no⟩
  rw [c2 _ (Nat.mod_lt _ h0), Nat.mod_mod_of_dvd _ (Nat.dvd_of_mod_eq_zero c1)]
  simp only [List.getD]
  rw [List.getElem?_take_of_lt (Nat.mod_lt _ l1)]
/-- the figures from the k-th last of the head on, if k of the last roll -/
theorem roll_fig (h0 : 0 < as.length) (s : IsShort as rs) (kl : k ≤ hs.length) (r : Rolls hs rs k) (i : Nat) (hi : hs.length - k ≤ i) : figAt hs as i = rs.getD ((i + hs.length * rs.length - hs.length) % rs.length) 0 := by
  obtain ⟨r0, _, sg, _⟩ := short_get h0 s
  have big : hs.length ≤ hs.length * rs.length := Nat.le_mul_of_pos_right _ r0
  rcases Nat.lt_or_ge i hs.length with c | c
  · obtain ⟨j, hj, ej⟩ : ∃ j, j < k ∧ i = hs.length - 1 - j := ⟨hs.length - 1 - i, by omega, by omega⟩
    have e := r j hj
    have q1 := Nat.div_add_mod j rs.length
    have q2 := Nat.mod_lt j r0
    have q3 : j / rs.length ≤ j := Nat.div_le_self _ _
    obtain ⟨a, ea⟩ : ∃ a, hs.length = a + 1 + j / rs.length := ⟨hs.length - 1 - j / rs.length, by omega⟩
    have q4 : hs.length * rs.length = a * rs.length + rs.length + rs.length * (j / rs.length) := by
      rw [ea, Nat.add_mul, Nat.add_mul, Nat.one_mul, Nat.mul_comm (j / rs.length)]
    have q5 : i + hs.length * rs.length - hs.length = (rs.length - 1 - j % rs.length) + rs.length * a := by
      rw [Nat.mul_comm rs.length a]
      omega
    rw [q5, Nat.add_mul_mod_self_left, Nat.mod_eq_of_lt (by omega), fig_head (hs := hs) (as := as) i c]
    simp only [List.getD]
    rw [ej, e]
  · rw [fig_tail (hs := hs) (as := as) i c, sg]
    have q5 : i + hs.length * rs.length - hs.length = (i - hs.length) + rs.length * hs.length := by
      rw [Nat.mul_comm rs.length]
      omega
    rw [q5, Nat.add_mul_mod_self_left]
theorem roll_per (h0 : 0 < as.length) (s : IsShort as rs) (kl : k ≤ hs.length) (r : Rolls hs rs k) : PB (figAt hs as) (hs.length - k) rs.length := fun i hi => by
  obtain ⟨r0, _⟩ := short_get h0 s
  have big : hs.length ≤ hs.length * rs.length := Nat.le_mul_of_pos_right _ r0
  rw [roll_fig h0 s kl r i hi, roll_fig h0 s kl r (i + rs.length) (by omega)]
  have e : i + rs.length + hs.length * rs.length - hs.length = i + hs.length * rs.length - hs.length + rs.length := by omega
  rw [e, Nat.add_mod_right]
theorem roll_get (h0 : 0 < as.length) (s : IsShort as rs) (kl : k ≤ hs.length) (r : Rolls hs rs k) (j : Nat) (hj : j < rs.length) : figAt hs as (hs.length - k + j) = (turned rs k).getD j 0 := by
  obtain ⟨r0, _⟩ := short_get h0 s
  rw [roll_fig h0 s kl r (hs.length - k + j) (by omega)]
  have q1 := Nat.div_add_mod k rs.length
  have q2 := Nat.mod_lt k r0
  have big : hs.length ≤ hs.length * rs.length := Nat.le_mul_of_pos_right _ r0
  have lc : k / rs.length ≤ hs.length := Nat.le_trans (Nat.div_le_self _ _) kl
  have q3 : hs.length * rs.length = (hs.length - k / rs.length) * rs.length + rs.length * (k / rs.length) := by
    rw [Nat.mul_comm rs.length, ← Nat.add_mul]
    congr 1
    omega
  unfold turned
  simp only [List.getD]
  rcases Nat.lt_or_ge j (k % rs.length) with c | c
  · rw [List.getElem?_append_left (by rw [List.length_drop]; omega), List.getElem?_drop]
    have l1 : k / rs.length < hs.length := by
      have : k / rs.length ≤ rs.length * (k / rs.length) := Nat.le_mul_of_pos_left _ r0
      omega
    obtain ⟨a, ea⟩ : ∃ a, hs.length - k / rs.length = a + 1 := ⟨hs.length - k / rs.length - 1, by omega⟩
    rw [ea, Nat.add_mul, Nat.one_mul] at q3
    have e : hs.length - k + j + hs.length * rs.length - hs.length = (rs.length - k % rs.length + j) + rs.length * a := by
      rw [Nat.mul_comm rs.length a]
      omega
    rw [e, Nat.add_mul_mod_self_left, Nat.mod_eq_of_lt (by omega)]
  · rw [List.getElem?_append_right (by rw [List.length_drop]; omega), List.length_drop, List.getElem?_take_of_lt (by omega)]
    have e : hs.length - k + j + hs.length * rs.length - hs.length = (j - k % rs.length) + rs.length * (hs.length - k / rs.length) := by
      rw [Nat.mul_comm rs.length (hs.length - _)]
      omega
    rw [e, Nat.add_mul_mod_self_left, Nat.mod_eq_of_lt (by omega)]
    have e2 : j - (rs.length - (rs.length - k % rs.length)) = j - k % rs.length := by omega
    rw [e2]
/-- the least pair, told by the figures alone -/
structure LeastOf (f : Nat → Int) (h a : List Int) : Prop where
  pos : 0 < a.length
  per : PB f h.length a.length
  low : ∀ N q, 0 < q → PB f N q → a.length ≤ q
  far : ∀ N, PB f N a.length → h.length ≤ N
  hd : ∀ i, i < h.length → h.getD i 0 = f i
  rd : ∀ j, j < a.length → a.getD j 0 = f (h.length + j)
theorem least_fig {h a : List Int} (h0 : 0 < as.length) (x : IsLeast hs as h a) : LeastOf (figAt hs as) h a := by
  obtain ⟨rs, k, s, kl, r, stop, rfl, e⟩ := x
  have et : a = turned rs k := e
  subst et
  obtain ⟨r0, rdv, sg, no⟩ := short_get h0 s
  have lh : (hs.take (hs.length - k)).length = hs.length - k := by rw [List.length_take]; omega
  have per := roll_per h0 s kl r
  have tail := pb_tail (hs := hs) h0
  have low : ∀ N q, 0 < q → PB (figAt hs as) N q → rs.length ≤ q := fun N q q0 hq => by
    obtain ⟨z, z1, z2, z3, z4⟩ := least_per (f := figAt hs as) (N := hs.length) q q (Nat.le_refl _) q0 (tail.back h0 hq)
    have dv := per_dvd z1 z3 z4 tail
    have zl : z ≤ as.length := Nat.le_of_dvd h0 (Nat.dvd_of_mod_eq_zero dv)
    refine Nat.le_trans (Nat.le_of_not_lt fun c => no z z1 c ?_) z2
    refine (cond_get h0 z1 zl).mpr ⟨dv, fun i hi => ?_⟩
    have e1 := (z3.mul (i / z)) (hs.length + i % z) (by omega)
    have e2 := Nat.mod_add_div i z
    rw [Nat.add_assoc, e2, fig_tail (hs := hs) (as := as) _ (by omega), fig_tail (hs := hs) (as := as) _ (by omega), Nat.add_sub_cancel_left, Nat.add_sub_cancel_left, Nat.mod_eq_of_lt hi, Nat.mod_eq_of_lt (Nat.lt_of_le_of_lt (Nat.mod_le i z) hi)] at e1
    exact e1
  refine ⟨by rw [turned_len]; exact r0, by rw [lh, turned_len]; exact per, fun N q q0 hq => by rw [turned_len]; exact low N q q0 hq, fun N hN => ?_, fun i hi => ?_, fun j hj => ?_⟩
  · rw [lh]
    rw [turned_len] at hN
    rcases stop with c | c
    · omega
    · refine Nat.le_of_not_lt fun l => c ?_
      have kn : k < hs.length := by omega
      have e1 := hN (hs.length - 1 - k) (by omega)
      have e2 : hs.length - 1 - k + rs.length = hs.length - k + (rs.length - 1) := by omega
      rw [e2, roll_get h0 s kl r _ (by omega), fig_head (hs := hs) (as := as) _ (by omega)] at e1
      have e3 := turned_last r0 k
      simp only [List.getD] at e1
      rw [e3] at e1
      rw [List.getElem?_eq_getElem (by omega), List.getElem?_eq_getElem (by omega)] at e1 ⊢
      simp only [Option.getD_some] at e1
      rw [e1]
  · rw [lh] at hi
    rw [fig_head (hs := hs) (as := as) i (by omega)]
    simp only [List.getD]
    rw [List.getElem?_take_of_lt hi]
  · rw [turned_len] at hj
    rw [lh, roll_get h0 s kl r j hj]
theorem LeastOf.one {f : Nat → Int} {h a h2 a2 : List Int} (x : LeastOf f h a) (y : LeastOf f h2 a2) : h = h2 ∧ a = a2 := by
  have ea : a.length = a2.length := Nat.le_antisymm (x.low _ _ y.pos y.per) (y.low _ _ x.pos x.per)
  have eh : h.length = h2.length := Nat.le_antisymm (x.far _ (ea ▸ y.per)) (y.far _ (ea ▸ x.per))
  constructor
  · refine List.ext_getElem eh fun i h1 h3 => ?_
    have q1 := x.hd i h1
    have q2 := y.hd i h3
    simp only [List.getD, List.getElem?_eq_getElem h1, List.getElem?_eq_getElem h3, Option.getD_some] at q1 q2
    rw [q1, q2]
  · refine List.ext_getElem ea fun j h1 h3 => ?_
    have q1 := x.rd j h1
    have q2 := y.rd j h3
    simp only [List.getD, List.getElem?_eq_getElem h1, List.getElem?_eq_getElem h3, Option.getD_some] at q1 q2
    rw [q1, q2, eh]
/-! ### figures of rows put together and cut -/
end
end K14
namespace K14
open PySem PySem.W PySem.Calls PyProof.Rows L2 LamX
open He (ga)
open Kz (SS ExtS ExtS.trans ExtS.refl small4 same_new boot_in boot_li new_ext Has pe_has noE)
/-- figures, not too many -/
structure Figs (b : Nat) (hs as : List Int) : Prop where
  fh : ∀ n ∈ hs, isF (.int n) = true
  fa : ∀ n ∈ as, isF (.int n) = true
  lh : hs.length ≤ b
  la : as.length ≤ b
  a0 : 0 < as.length
end K14
namespace K14
open PySem PySem.W PySem.Calls PyProof.Rows L2 LamX
open He (ga)
open Kz (SS ExtS ExtS.trans ExtS.refl small4 same_new boot_in boot_li new_ext Has pe_has noE)
theorem ld_ints : ∀ {ns : List Int} {ds : List PyData}, LdAll (ns.map PyData.int) ds → ds = ns.map PyData.int
  | [], _, h => by cases h; rfl
  | n :: ns, _, h => by
    cases h with
    | cons a r =>
      cases a
      rw [ld_ints r]
      rfl
theorem ld_row {ns : List Int} {d : PyData} (h : Ld (.list (ns.map PyData.int)) d) : isL d = true ∧ its d = ns.map PyData.int := by
  cases h with
  | ll r => exact ⟨rfl, ld_ints r⟩
  | lt r => exact ⟨rfl, ld_ints r⟩
theorem ld_pair {hs as : List Int} {d : PyData} (h : Ld (.tuple [.list (hs.map PyData.int), .list (as.map PyData.int)]) d) : ∃ x y, isL d = true ∧ its d = [x, y] ∧ isL x = true ∧ its x = hs.map PyData.int ∧ isL y = true ∧ its y = as.map PyData.int := by
  have go : ∀ {ys : List PyData}, LdAll [.list (hs.map PyData.int), .list (as.map PyData.int)] ys → ∃ x y, ys = [x, y] ∧ isL x = true ∧ its x = hs.map PyData.int ∧ isL y = true ∧ its y = as.map PyData.int := fun r => by
    cases r with
    | cons a r =>
      cases r with
      | cons b r =>
        cases r
        exact ⟨_, _, rfl, (ld_row a).1, (ld_row a).2, (ld_row b).1, (ld_row b).2⟩
  cases h with
  | tl r =>
    obtain ⟨x, y, rfl, q⟩ := go r
    exact ⟨x, y, rfl, rfl, q⟩
  | tt r =>
    obtain ⟨x, y, rfl, q⟩ := go r
    exact ⟨x, y, rfl, rfl, q⟩
theorem ld_end {H : Hp} {v : V} {hs as : List Int} {d : PyData} {b : Nat} (t : Th H v d) (h : Ld (.tuple [.list (hs.map PyData.int), .list (as.map PyData.int)]) d) (g : Figs b hs as) (hb : b ≤ 500) : EndV H v hs as := by
  obtain ⟨x, y, e1, e2, x1, x2, y1, y2⟩ := ld_pair h
  refine ⟨x, y, d, t, ?_, e2, x2, y2, g.a0, Nat.le_trans g.lh hb, Nat.le_trans g.la hb⟩
  unfold isE
  rw [e2]
  show (isL d && ((isL x && (its x).all isF) && ((isL y && (its y).all isF) && decide (0 < (its y).length)))) = true
  rw [e1, x1, y1, x2, y2, all_isF g.fh, all_isF g.fa, List.length_map, decide_eq_true g.a0]
  rfl
theorem fit_ints (n : Nat) : ∀ ns : List Int, (ns.map PyData.int).all (fitD n) = true := fun ns => List.all_eq_true.mpr fun d hd => by
  obtain ⟨m, _, rfl⟩ := List.mem_map.mp hd
  cases n <;> rfl
theorem sz_ints (n : Nat) : ∀ ns : List Int, ((ns.map PyData.int).map (szD n)).sum = 0
  | [] => rfl
  | m :: ns => by
    have e : szD n (.int m) = 0 := by cases n <;> rfl
    rw [List.map_cons, List.map_cons, List.sum_cons, e, sz_ints n ns]
theorem fit_pair {hs as : List Int} (h1 : hs.length ≤ 1000) (h2 : as.length ≤ 1000) : fitD 2 (.tuple [.list (hs.map PyData.int), .list (as.map PyData.int)]) = true ∧ szD 2 (.tuple [.list (hs.map PyData.int), .list (as.map PyData.int)]) = 3 := by
  constructor
  · show (decide (2 ≤ 1000) && ((decide ((hs.map PyData.int).length ≤ 1000) && (hs.map PyData.int).all (fitD 0)) && ((decide ((as.map PyData.int).length ≤ 1000) && (as.map PyData.int).all (fitD 0)) && true))) = true
    rw [fit_ints, fit_ints, List.length_map, List.length_map, decide_eq_true h1, decide_eq_true h2]
    rfl
  · show 1 + ((1 + ((hs.map PyData.int).map (szD 0)).sum) + ((1 + ((as.map PyData.int).map (szD 0)).sum) + 0)) = 3
    rw [sz_ints, sz_ints]
end K14
namespace K14
open PySem PySem.W PySem.Calls PyProof.Rows L2 LamX
open He (ga)
open Kz (SS ExtS ExtS.trans ExtS.refl small4 same_new boot_in boot_li new_ext Has pe_has noE FnG)
/-! ### calls by keywords alone, both turned about -/
def revG : List Value → List Value → List Value
  | [], ws => ws.reverse
  | _, _ => []
def revV : List V → List V → List V
  | [], zs => zs.reverse
  | _, _ => []
theorem vals_snoc {v : V} {u : Value} (r : RelV v u) : ∀ {vs : List V} {us : List Value}, Vals vs us → Vals (vs ++ [v]) (us ++ [u])
  | _, _, .nil => .cons r .nil
  | _, _, .cons a t => .cons a (vals_snoc r t)
theorem vals_rev : ∀ {vs : List V} {us : List Value}, Vals vs us → Vals vs.reverse us.reverse
  | _, _, .nil => .nil
  | _, _, .cons a t => by
    rw [List.reverse_cons, List.reverse_cons]
    exact vals_snoc a (vals_rev t)
theorem kb_rev {K : Frag} {x qual : Str} {params : Arguments} {body : List Stmt} {scope : Scope} {f : Addr} {fd : FuncData} {p1 p2 : Str} (F : FunD K x qual params body scope [] [] f fd)
    (h : ∀ (kV doc pm : Value) (an : Option Addr) (cdv ct a b : Value), bindArgs (fnOf x qual params body scope .none kV doc pm an cdv ct) ⟨[], [(p2, a), (p1, b)]⟩ = pure [(p1, b), (p2, a)]) : KBinds K fd [p1, p2] [p2, p1] revG revV := by
  obtain ⟨oc, od, dV, kV, doc, pm, an, cdv, ct, osl, rfl, lk, hcd, hD, hK⟩ := F.ex
  rcases hD with ⟨_, rfl⟩ | ⟨e, _⟩
  · refine ⟨fun s us ws _ hl => ?_, fun {vs us zs ws} r1 r2 => ?_⟩
    · cases us with
      | cons _ _ => exact absurd (show 0 = 2 from hl) (by decide)
      | nil =>
        have hl : ws.reverse.length = 2 := hl
        rw [List.length_reverse] at hl
        match ws, hl with
        | [a, b], _ => exact .of_eq (h kV doc pm an cdv ct a b)
    · cases r1 with
      | nil => exact vals_rev r2
      | cons _ _ => exact .nil
  · exact absurd rfl e
def HasK (P : Program) (w : World) (K : Frag) (mg : Str → Option Value) (base : Heap) (x : Str) (k : Nat) (p1 p2 : Str) (sp : Sp) : Prop := ∃ f fd, mg x = some (.ref f) ∧ keepIn K (.ref f) = true ∧ KBinds K fd [p1, p2] [p2, p1] revG revV ∧ FnOk P w K mg base CX0 k f fd [p1, p2] sp
def tCallR (sp : Sp) (t1 t2 : TE) : TE := fun σ H Q => t2 σ H fun b H1 => t1 σ H1 fun a H2 => sp [a, b] H2 Q noE
theorem pe_hasK {X : Cx} {x p1 p2 : Str} {k : Nat} {sp : Sp} {e1 e2 : Expr} {t1 t2 : TE} {p pos q1 q2 : Pos} (h : HasK X.prog X.w X.K X.mg X.base x k p1 p2 sp) (hr : Room k X.A) (hg : Gl X x) (h2 : PE X e2 t2) (h1 : PE X e1 t1) (hdb : (x == ("__debug__" : Str)) = false := by decide) :
    PE X (.Call (.Name x p) [] [⟨some p2, e2, q2⟩, ⟨some p1, e1, q1⟩] pos) (tCallR sp t1 t2) := by
  obtain ⟨f, fd, hm, hk, hb, F⟩ := h
  refine ⟨fun pins s σ H Q I q => ?_⟩
  refine wpAny_Call_Name_kw (ld_glob I hg hm ?_ hdb)
  refine callWith_KW0 (h₀ := X.base) I.ok.mod.kin hk (by rfl) ?_ (by rfl)
  refine thn ((pk_cons h2 (pk_cons h1 pk_nil)).run pos pins s σ H (fun zs H2 => sp zs.reverse H2 Q noE) I q) fun ws s2 ⟨zs, H2, I2, rz, q2⟩ => ⟨I2.kIn, ?_⟩
  exact run_fnk (us := []) (vs := []) F hr hb pass0 I2 .nil rz q2
/-! ### what repr shows of a row -/
end K14
namespace K14.Gn
open PySem PySem.W PySem.Calls PyProof.Rows L2 LamX
/-! ### good data: small numbers, short texts, at most empty dicts -/
def gdS (x : Str) : Bool := (x.cps.toList.all fun c => c < 16 ^ 8) && (PyData.strOk x && decide (x.cps.size ≤ 10))
mutual
def gd (e : Bool) : PyData → Bool
  | .none => true
  | .bool _ => true
  | .int i => decide (0 ≤ i) && decide (i ≤ 9)
  | .str x => gdS x
  | .list xs => gdA e xs
  | .tuple xs => gdA e xs
  | .dict ps => e && ps.isEmpty
def gdA (e : Bool) : List PyData → Bool
  | [] => true
  | x :: xs => gd e x && gdA e xs
end
theorem gdA_all {e : Bool} : ∀ {xs : List PyData}, gdA e xs = true ↔ ∀ x ∈ xs, gd e x = true
  | [] => ⟨(fun _ x h => nomatch h), fun _ => rfl⟩
  | x :: xs => by
    show (gd e x && gdA e xs) = true ↔ _
    rw [Bool.and_eq_true, gdA_all]
    exact ⟨fun h y hy => (List.mem_cons.mp hy).elim (fun q => by rw [q]; exact h.1) fun q => h.2 y q, fun h => ⟨h x (List.mem_cons_self ..), fun y hy => h y (List.mem_cons_of_mem _ hy)⟩⟩
theorem small_int : ∀ i : Int, 0 ≤ i → i ≤ 9 → (PyData.leavesShort 8 (.int i)) = true := fun i h0 h1 => by
  obtain ⟨n, rfl⟩ : ∃ n : Nat, i = (n : Nat) := ⟨i.toNat, by omega⟩
  have hn : n < 10 := by omega
  match n, hn with
  | 0, _ => decide +kernel
  | 1, _ => decide +kernel
  | 2, _ => decide +kernel
  | 3, _ => decide +kernel
  | 4, _ => decide +kernel
  | 5, _ => decide +kernel
  | 6, _ => decide +kernel
  | 7, _ => decide +kernel
  | 8, _ => decide +kernel
  | 9, _ => decide +kernel
mutual
theorem gd_short {e : Bool} : ∀ (d : PyData), gd e d = true → PyData.leavesShort 8 d = true
  | .none, _ => rfl
  | .bool _, _ => rfl
  | .int i, h => by
    obtain ⟨a, b⟩ := Bool.and_eq_true_iff.mp (show (decide (0 ≤ i) && decide (i ≤ 9)) = true from h)
    exact small_int i (of_decide_eq_true a) (of_decide_eq_true b)
  | .str x, h => (Bool.and_eq_true_iff.mp (show (_ && _) = true from h)).1
  | .list xs, h => gdA_short xs h
  | .tuple xs, h => gdA_short xs h
  | .dict ps, h => by
    obtain ⟨_, b⟩ := Bool.and_eq_true_iff.mp (show (e && ps.isEmpty) = true from h)
    have : ps = [] := List.isEmpty_iff.mp b
    subst this
    rfl
theorem gdA_short {e : Bool} : ∀ (xs : List PyData), gdA e xs = true → PyData.leavesShortAll 8 xs = true
  | [], _ => rfl
  | x :: xs, h => by
    obtain ⟨a, b⟩ := Bool.and_eq_true_iff.mp (show (gd e x && gdA e xs) = true from h)
    show (PyData.leavesShort 8 x && PyData.leavesShortAll 8 xs) = true
    rw [gd_short x a, gdA_short xs b]
    rfl
end
mutual
theorem gd_show {e : Bool} : ∀ (d : PyData), gd e d = true → PyData.showable d = true
  | .none, _ => rfl
  | .bool _, _ => rfl
  | .int i, h => by
    obtain ⟨a, b⟩ := Bool.and_eq_true_iff.mp (show (decide (0 ≤ i) && decide (i ≤ 9)) = true from h)
    have := of_decide_eq_true a
    have := of_decide_eq_true b
    obtain ⟨n, rfl⟩ : ∃ n : Nat, i = (n : Nat) := ⟨i.toNat, by omega⟩
    have hn : n < 10 := by omega
    match n, hn with
    | 0, _ => decide
    | 1, _ => decide
    | 2, _ => decide
    | 3, _ => decide
    | 4, _ => decide
    | 5, _ => decide
    | 6, _ => decide
    | 7, _ => decide
    | 8, _ => decide
    | 9, _ => decide
  | .str x, h => rfl
  | .list xs, h => gdA_show xs h
  | .tuple xs, h => gdA_show xs h
  | .dict ps, h => by
    obtain ⟨_, b⟩ := Bool.and_eq_true_iff.mp (show (e && ps.isEmpty) = true from h)
    have : ps = [] := List.isEmpty_iff.mp b
    subst this
    rfl
theorem gdA_show {e : Bool} : ∀ (xs : List PyData), gdA e xs = true → PyData.showableAll xs = true
  | [], _ => rfl
  | x :: xs, h => by
    obtain ⟨a, b⟩ := Bool.and_eq_true_iff.mp (show (gd e x && gdA e xs) = true from h)
    show (PyData.showable x && PyData.showableAll xs) = true
    rw [gd_show x a, gdA_show xs b]
    rfl
end
end K14.Gn
namespace K14.T27
open PySem PySem.W PySem.Calls PyProof.Rows L2 LamX
open He (ga)
open Kz (SS ExtS ExtS.trans ExtS.refl small4 same_new boot_in boot_li boot_isi Has pe_has noE PSs.of_eq seqI new_ext FnG)
open K14.Gn
/-! ### three keywords, turned about -/
/-! ### repr of data, empty dicts and all -/
theorem thAll_get_dict {P : Program} {w : World} {H : Hp} {h : Heap} {a : Addr} (hok : HOk P w H h) (e : H a = some (.dK [])) : a ≠ sysModules ∧ ∃ o n, h.get? a = some o ∧ o.cls = .type "dict" ∧ o.data = .dict #[] n := by
  obtain ⟨_, hs, vs, rv, o, es, ep, e1, e2, e3, _, e4, _⟩ := (show ObjOk P w H h a (.dK []) from hok a _ e)
  cases rv
  have : es.toList = [] := by
    cases q : es.toList with
    | nil => rfl
    | cons x r => rw [q] at e4; cases e4
  have : es = #[] := by
    cases es
    simp at this
    rw [this]
  subst this
  refine ⟨?_, o, ep, e1, e2.1, e3⟩
  simpa using hs
section
variable {P : Program} {w : World} {H : Hp} {h : Heap}
mutual
theorem Th.reads (hok : HOk P w H h) : ∀ {v : V} {d : PyData} {u : Value}, Th H v d → gd true d = true → RelV v u → ∃ as, Reads h u d as ∧ ∀ a ∈ as, (∃ xs, H a = some (.lst xs)) ∨ H a = some (.dK [])
  | _, _, u, .non, _, r => by
    obtain rfl : u = Value.none := r
    exact ⟨_, .none, fun a h => nomatch h⟩
  | _, _, u, .bl b, _, r => by
    obtain rfl : u = Value.bool b := r
    exact ⟨_, .bool b, fun a h => nomatch h⟩
  | _, _, u, .int i, _, r => by
    obtain ⟨t, rfl⟩ : ∃ t, u = Value.int i t := r
    exact ⟨_, .int i t, fun a h => nomatch h⟩
  | _, _, u, .str x, _, r => by
    obtain ⟨t, rfl⟩ : ∃ t, u = Value.str x t := r
    exact ⟨_, .str x t, fun a h => nomatch h⟩
  | _, _, u, @Th.lst _ a xs ds e q, g, r => by
    obtain rfl : u = Value.ref a := r
    obtain ⟨_, its, n, rv, e1⟩ := (show ObjOk P w H h a (.lst xs) from hok a _ e)
    obtain ⟨as, r1, r2⟩ := ThAll.reads hok q g rv
    exact ⟨_, .list e1 rfl rfl r1, fun b hb => (List.mem_cons.mp hb).elim (fun z => by rw [z]; exact .inl ⟨_, e⟩) (r2 b)⟩
  | _, _, u, @Th.tup _ a xs ds e q, g, r => by
    obtain rfl : u = Value.ref a := r
    obtain ⟨_, its, rv, o, e1, e2, n, e3⟩ := (show ObjOk P w H h a (.tup xs) from hok a _ e)
    obtain ⟨as, r1, r2⟩ := ThAll.reads hok q g rv
    exact ⟨_, .tuple e1 e2 e3 r1, r2⟩
  | _, _, u, @Th.dct _ a kvs ps e q, g, r => by
    obtain rfl : u = Value.ref a := r
    obtain ⟨_, b⟩ := Bool.and_eq_true_iff.mp (show (true && ps.isEmpty) = true from g)
    obtain rfl : ps = [] := List.isEmpty_iff.mp b
    cases q
    obtain ⟨_, o, n, e1, e2, e3⟩ := thAll_get_dict hok e
    refine ⟨_, .dict (kvs := []) (as := []) (bs := []) e1 e2 e3 .nil .nil, fun b hb => ?_⟩
    have : b = a := by simpa using hb
    rw [this]
    exact .inr e
theorem ThAll.reads (hok : HOk P w H h) : ∀ {v : List V} {d : List PyData} {u : List Value}, ThAll H v d → gdA true d = true → Vals v u → ∃ as, ReadsAll h u d as ∧ ∀ a ∈ as, (∃ xs, H a = some (.lst xs)) ∨ H a = some (.dK [])
  | _, _, _, .nil, _, .nil => ⟨_, .nil, fun a h => nomatch h⟩
  | _, _, _, .cons q qs, g, .cons r rs => by
    obtain ⟨a, b⟩ := Bool.and_eq_true_iff.mp (show (gd true _ && gdA true _) = true from g)
    obtain ⟨as, r1, r2⟩ := Th.reads hok q a r
    obtain ⟨bs, r3, r4⟩ := ThAll.reads hok qs b rs
    exact ⟨_, .cons r1 r3, fun x hx => (List.mem_append.mp hx).elim (r2 x) (r4 x)⟩
end
end
/-- sys.modules is a dict, and stays what it is -/
def SysK (K : Frag) : Prop := ∃ o, K.lookup sysModules = some o ∧ o.cls = .type "dict"
def rReprT : List V → Hp → VK → Prop := fun xs H Q => ∃ (a : Addr) (d : PyData), xs = [.ref a] ∧ Th H (.ref a) d ∧ gd true d = true ∧ PyData.depth d ≤ 20 ∧ PyData.weight d ≤ 1000000 ∧ Q (.str d.shown) H
theorem call_reprT {X : Cx} (hK : SysK X.K) (hg : X.A.guards = some []) (hr : Room 0 X.A) : CallR X (.builtin "repr") rReprT := by
  intro pins s σ H xs us Q I r h
  obtain ⟨a, d, rfl, th, g, hd, hw, q⟩ := h
  cases r with
  | @cons _ u _ ur r1 r2 =>
    cases r2
    obtain rfl : u = Value.ref a := r1
    obtain ⟨as, rd, ra⟩ := Th.reads I.hok th g rfl
    refine repr_of_reads' (h₀ := s.heap) rd (gd_show d g) (fun _ hm => ?_) hg (by have := hr.un; omega) (fun _ _ e => e) (fun h' u tk hk => ⟨.str d.shown, H, I.kept hk, ⟨_, rfl⟩, q⟩) (PyData.shown_fits (B := 8) (by decide) (by decide) (gd_short d g) ?_)
    · rcases ra _ hm with ⟨xs, e⟩ | e
      · obtain ⟨_, its, n, rv, e1⟩ := (show ObjOk X.prog X.w H s.heap sysModules (.lst xs) from I.hok _ _ e)
        obtain ⟨o, k1, k2⟩ := hK
        have e2 := I.kIn _ _ k1
        rw [e1] at e2
        obtain rfl := Option.some.inj e2
        exact absurd (show Value.type "list" = Value.type "dict" from k2) (by decide)
      · exact (thAll_get_dict I.hok e).1 rfl
    · have : (2 : Nat) ^ 20 = 1048576 := by decide
      omega
end K14.T27
namespace K14.T27
open PySem PySem.W PySem.Calls PyProof.Rows L2 LamX
open He (ga)
open Kz (SS ExtS ExtS.trans ExtS.refl small4 same_new boot_in boot_li boot_isi Has pe_has noE PSs.of_eq seqI new_ext FnG)
open K14.Gn
/-! ### what stays, however lists are told -/
theorem ix_at {K : Frag} {H : Hp} {a : Addr} {xs : List V} {x : V} {Q : VK} (j : Nat) (h : H a = some (.lst xs)) (e : xs[j]? = some x) (k : Q x H) : rIx K (.ref a) (.int (j : Nat)) H Q := .inl ⟨a, xs, _, x, rfl, rfl, .inl (.inl h), atI_nat e, k⟩
end K14.T27
namespace K14.T27
open PySem PySem.W PySem.Calls PyProof.Rows L2 LamX
open He (ga)
open Kz (SS ExtS ExtS.trans ExtS.refl small4 same_new boot_in boot_li boot_isi Has pe_has noE PSs.of_eq seqI new_ext FnG)
open K14.Gn
/-! ### how much there is of data -/
mutual
def cnt : PyData → Nat
  | .list xs => 1 + cntA xs
  | .tuple xs => 1 + cntA xs
  | _ => 1
def cntA : List PyData → Nat
  | [] => 0
  | x :: xs => cnt x + cntA xs
end
theorem cntA_le {m : Nat} : ∀ {xs : List PyData}, (∀ x ∈ xs, cnt x ≤ m) → cntA xs ≤ m * xs.length
  | [], _ => Nat.zero_le _
  | x :: xs, h => by
    have h1 := h x (List.mem_cons_self ..)
    have h2 := cntA_le fun y hy => h y (List.mem_cons_of_mem _ hy)
    show cnt x + cntA xs ≤ m * (xs.length + 1)
    rw [Nat.mul_add, Nat.mul_one]
    omega
theorem cntA_ints (x : List Int) : cntA (x.map PyData.int) = x.length := by
  induction x with
  | nil => rfl
  | cons a r ih =>
    show 1 + cntA (r.map PyData.int) = r.length + 1
    rw [ih]
    omega
theorem wei_int : ∀ i : Int, 0 ≤ i → i ≤ 9 → PyData.weight (.int i) ≤ 4 := fun i h0 h1 => by
  obtain ⟨n, rfl⟩ : ∃ n : Nat, i = (n : Nat) := ⟨i.toNat, by omega⟩
  have hn : n < 10 := by omega
  match n, hn with
  | 0, _ => decide +kernel
  | 1, _ => decide +kernel
  | 2, _ => decide +kernel
  | 3, _ => decide +kernel
  | 4, _ => decide +kernel
  | 5, _ => decide +kernel
  | 6, _ => decide +kernel
  | 7, _ => decide +kernel
  | 8, _ => decide +kernel
  | 9, _ => decide +kernel
mutual
theorem cnt_wei : ∀ (d : PyData), gd true d = true → PyData.weight d + 1 ≤ 11 * cnt d
  | .none, _ => by show 0 + 1 ≤ 11 * 1; omega
  | .bool _, _ => by show 0 + 1 ≤ 11 * 1; omega
  | .int i, h => by
    obtain ⟨a, b⟩ := Bool.and_eq_true_iff.mp (show (decide (0 ≤ i) && decide (i ≤ 9)) = true from h)
    have := wei_int i (of_decide_eq_true a) (of_decide_eq_true b)
    show _ ≤ 11 * 1
    omega
  | .str x, h => by
    have g2 := of_decide_eq_true (Bool.and_eq_true_iff.mp (Bool.and_eq_true_iff.mp (show (_ && (PyData.strOk x && decide (x.cps.size ≤ 10))) = true from h)).2).2
    show x.cps.size + 1 ≤ 11 * 1
    omega
  | .list xs, h => by
    have := cntA_wei xs h
    show PyData.weightAll xs + 1 ≤ 11 * (1 + cntA xs)
    omega
  | .tuple xs, h => by
    have := cntA_wei xs h
    show PyData.weightAll xs + 1 ≤ 11 * (1 + cntA xs)
    omega
  | .dict ps, h => by
    obtain ⟨_, b⟩ := Bool.and_eq_true_iff.mp (show (true && ps.isEmpty) = true from h)
    obtain rfl : ps = [] := List.isEmpty_iff.mp b
    show 0 + 1 ≤ 11 * 1
    omega
theorem cntA_wei : ∀ (xs : List PyData), gdA true xs = true → PyData.weightAll xs ≤ 11 * cntA xs
  | [], _ => Nat.zero_le _
  | x :: xs, h => by
    obtain ⟨a, b⟩ := Bool.and_eq_true_iff.mp (show (gd true x && gdA true xs) = true from h)
    have h1 := cnt_wei x a
    have h2 := cntA_wei xs b
    show PyData.weight x + 1 + PyData.weightAll xs ≤ 11 * (cnt x + cntA xs)
    omega
end
theorem dep_le {k : Nat} : ∀ {xs : List PyData}, (∀ x ∈ xs, PyData.depth x ≤ k) → PyData.depthAll xs ≤ k
  | [], _ => Nat.zero_le _
  | x :: xs, h => by
    have h1 := h x (List.mem_cons_self ..)
    have h2 := dep_le fun y hy => h y (List.mem_cons_of_mem _ hy)
    show max (PyData.depth x) (PyData.depthAll xs) ≤ k
    omega
structure OkA (k m : Nat) (z : PyData) : Prop where
  g : gd true z = true
  d : PyData.depth z ≤ k
  c : cnt z ≤ m
theorem oka_tup {k m : Nat} {zs : List PyData} (h : ∀ z ∈ zs, OkA k m z) : OkA (k + 1) (1 + m * zs.length) (.tuple zs) :=
  ⟨gdA_all.mpr fun z hz => (h z hz).g, by
    have := dep_le fun z hz => (h z hz).d
    show PyData.depthAll zs + 1 ≤ k + 1
    omega, by
    have := cntA_le fun z hz => (h z hz).c
    show 1 + cntA zs ≤ _
    omega⟩
/-- a row of the law's making -/
abbrev rowD (x : List Int) : PyData := .list (x.map PyData.int)
def smI (m : Nat) (x : List Int) : Prop := (∀ n ∈ x, 0 ≤ n ∧ n ≤ 9) ∧ x.length ≤ m
theorem sm_ints {m : Nat} {x : List Int} (h : smI m x) : OkA 1 (1 + m) (rowD x) :=
  ⟨gdA_all.mpr fun z hz => by
    obtain ⟨n, hn, rfl⟩ := List.mem_map.mp hz
    obtain ⟨a, b⟩ := h.1 n hn
    show (decide (0 ≤ n) && decide (n ≤ 9)) = true
    rw [decide_eq_true a, decide_eq_true b]
    rfl, by
    have : PyData.depthAll (x.map PyData.int) ≤ 0 := dep_le fun z hz => by
      obtain ⟨n, hn, rfl⟩ := List.mem_map.mp hz
      exact Nat.le_refl _
    show PyData.depthAll (x.map PyData.int) + 1 ≤ 1
    omega, by
    show 1 + cntA (x.map PyData.int) ≤ 1 + m
    rw [cntA_ints]
    have := h.2
    omega⟩
/-! ### expressions that make data, some places left out of sight -/
def Gv (S : List Addr) (σ : L2.St) (H0 : Hp) (te : TE) (z : PyData) : Prop := ∀ (H : Hp) (Q : VK), L2.Same H0 H → Ins S H → (∀ (H' : Hp) (v : V), L2.Same H H' → Th (Hid S H') v z → Q v H') → te σ H Q
def GvA (S : List Addr) (σ : L2.St) (H0 : Hp) (ta : TA) (zs : List PyData) : Prop := ∀ (H : Hp) (Q : List V → Hp → Prop), L2.Same H0 H → Ins S H → (∀ (H' : Hp) (vs : List V), L2.Same H H' → ThAll (Hid S H') vs zs → Q vs H') → ta σ H Q
section
variable {S : List Addr} {σ : L2.St} {H0 : Hp}
theorem gv_var {i : Nat} {v : V} {z : PyData} (e : σ[i]? = some (some v)) (t : Th (Hid S H0) v z) : Gv S σ H0 (tVar i) z := fun H Q s ins k => ⟨v, e, k H v (fun _ _ q => q) (t.ext (hid_same s))⟩
theorem gv_int {i : Int} : Gv S σ H0 (tC (.int i)) (.int i) := fun H Q s ins k => k H _ (fun _ _ q => q) (.int i)
theorem gv_non : Gv S σ H0 (tC .non) .none := fun H Q s ins k => k H _ (fun _ _ q => q) .non
theorem gv_bl {b : Bool} : Gv S σ H0 (tC (.bl b)) (.bool b) := fun H Q s ins k => k H _ (fun _ _ q => q) (.bl b)
theorem gv_str {x : Str} : Gv S σ H0 (tC (.str x)) (.str x) := fun H Q s ins k => k H _ (fun _ _ q => q) (.str x)
theorem gva_nil : GvA S σ H0 tNil [] := fun H Q s ins k => k H [] (fun _ _ q => q) .nil
theorem gva_cons {te : TE} {ta : TA} {z : PyData} {zs : List PyData} (h : Gv S σ H0 te z) (r : GvA S σ H0 ta zs) : GvA S σ H0 (tCons te ta) (z :: zs) := fun H Q s ins k =>
  h H _ s ins fun H1 v s1 t1 => r H1 _ (s.trans s1) (ins.same s1) fun H2 vs s2 t2 => k H2 (v :: vs) (s1.trans s2) (.cons (t1.ext (hid_same s2)) t2)
theorem gv_lst {ta : TA} {zs : List PyData} (h : GvA S σ H0 ta zs) (l : zs.length ≤ 1000 := by simp) : Gv S σ H0 (tLst ta) (.list zs) := fun H Q s ins k =>
  h H _ s ins fun H1 vs s1 t1 => ⟨by rw [t1.length, sizeLine_eq]; omega, fun p np => k _ _ (s1.trans (same_new np)) (.lst (hid_of ((ins.same s1).new np) upd_same fun ps z => nomatch z) (t1.ext (hid_same (same_new np))))⟩
theorem gv_tup {ta : TA} {zs : List PyData} (h : GvA S σ H0 ta zs) (l : zs.length ≤ 1000 := by simp) : Gv S σ H0 (tTup ta) (.tuple zs) := fun H Q s ins k =>
  h H _ s ins fun H1 vs s1 t1 => ⟨by rw [t1.length, sizeLine_eq]; omega, fun p np => k _ _ (s1.trans (same_new np)) (.tup (hid_of ((ins.same s1).new np) upd_same fun ps z => nomatch z) (t1.ext (hid_same (same_new np))))⟩
theorem gv_dict : Gv S σ H0 tDNewK (.dict []) := fun H Q s ins k p np => k _ _ (same_new np) (.dct (hid_of (ins.new np) upd_same fun ps z => nomatch z) .nil)
theorem gv_cat {t1 t2 : TE} {x y : List PyData} (h1 : Gv S σ H0 t1 (.list x)) (h2 : Gv S σ H0 t2 (.list y)) (l : x.length + y.length ≤ 1000) : Gv S σ H0 (tOp rCat t1 t2) (.list (x ++ y)) := fun H Q s ins k =>
  h1 H _ s ins fun H1 v s1 q1 => h2 H1 _ (s.trans s1) (ins.same s1) fun H2 u s2 q2 => by
    cases q1 with
    | @lst a xs _ ha r1 =>
      cases q2 with
      | @lst b ys _ hb r2 =>
        refine ⟨a, b, xs, ys, rfl, rfl, s2 _ _ (hid_up _ _ ha), hid_up _ _ hb, by rw [r1.length, r2.length, sizeLine_eq]; omega, fun p np => ?_⟩
        have s3 := same_new (o := .lst (xs ++ ys)) np
        exact k _ _ (s1.trans (s2.trans s3)) (.lst (hid_of (((ins.same s1).same s2).new np) upd_same fun ps z => nomatch z) (th_app ((r1.ext (hid_same s2)).ext (hid_same s3)) (r2.ext (hid_same s3))))
end
end K14.T27
namespace K14.T27
open PySem PySem.W PySem.Calls PyProof.Rows L2 LamX
open He (ga)
open Kz (SS ExtS ExtS.trans ExtS.refl small4 same_new boot_in boot_li boot_isi Has pe_has noE PSs.of_eq seqI new_ext FnG)
open K14.Gn
theorem forall_c {α : Type} {p : α → Prop} {a : α} {l : List α} (h : p a) (r : ∀ z ∈ l, p z) : ∀ z ∈ a :: l, p z := fun z hz => (List.mem_cons.mp hz).elim (fun e => by rw [e]; exact h) (r z)
theorem forall_n {α : Type} {p : α → Prop} : ∀ z ∈ ([] : List α), p z := fun z hz => nomatch hz
theorem lst_in {ta : TA} {σ : L2.St} {H : Hp} {Q : VK} (h : ta σ H fun xs H1 => xs.length ≤ sizeLine ∧ ∀ p, H1 p = none → Q (.ref p) (upd H1 p (.lst xs))) : tLst ta σ H Q := h
theorem thAll_mem {H : Hp} {x : V} : ∀ {vs : List V} {zs : List PyData}, ThAll H vs zs → x ∈ vs → ∃ z ∈ zs, Th H x z
  | _, _, .nil, h => nomatch h
  | _, _, .cons (d := d) t r, h => by
    rcases List.mem_cons.mp h with rfl | h
    · exact ⟨_, List.mem_cons_self .., t⟩
    · obtain ⟨z, hz, q⟩ := thAll_mem r h
      exact ⟨z, List.mem_cons_of_mem _ hz, q⟩
/-- all but one place stays -/
def Exc (fd : Addr) (H H' : Hp) : Prop := ∀ b o, H b = some o → b ≠ fd → H' b = some o
theorem Exc.trans {fd : Addr} {H H1 H2 : Hp} (h : Exc fd H H1) (r : Exc fd H1 H2) : Exc fd H H2 := fun b o e n => r b o (h b o e n) n
theorem Exc.of {fd : Addr} {H H1 : Hp} (h : L2.Same H H1) : Exc fd H H1 := fun b o e _ => h b o e
theorem Exc.upd {fd : Addr} {H : Hp} {u : HO} : Exc fd H (upd H fd u) := fun b o e n => by rw [upd_ne n]; exact e
theorem ext_step {K : Frag} {S : List Addr} {fd : Addr} {i : Nat} {xs : List V} {z0 z1 : List PyData} {ta : TA} {u : TS} {D : Ends} {σ : L2.St} {H : Hp} (A : GvA S σ H ta z1) (e : σ[i]? = some (some (.ref fd))) (hf : H fd = some (.lst xs)) (m : fd ∈ S) (ins : Ins S H) (t : ThAll (Hid S H) xs z0) (l : z0.length + z1.length ≤ 900)
    (k : ∀ (H' : Hp) (xs' : List V), Exc fd H H' → H' fd = some (.lst xs') → Ins S H' → ThAll (Hid S H') xs' (z0 ++ z1) → u D σ H') : tSeq (tDrop (tBM K "list" rExtend (tVar i) (tCons (tLst ta) tNil))) u D σ H := by
  refine ⟨.ref fd, e, .inl ⟨rfl, _, .inl (.inl hf)⟩, lst_in (A H _ (fun _ _ e => e) ins fun H1 ys s1 t1 => ⟨by rw [t1.length, sizeLine_eq]; omega, fun p np => ?_⟩)⟩
  have s2 := same_new (o := .lst ys) np
  have s := s1.trans s2
  refine ⟨fd, p, xs, ys, rfl, rfl, s _ _ hf, upd_same, by rw [t.length, t1.length, sizeLine_eq]; omega, ?_⟩
  refine k _ _ ((Exc.of s).trans Exc.upd) upd_same (ins.same s).upd (th_app ((t.ext (hid_same s)).ext (hid_upd m)) ((t1.ext (hid_same s2)).ext (hid_upd m)))
end K14.T27
namespace K14.T27
open PySem PySem.W PySem.Calls PyProof.Rows L2 LamX
open He (ga)
open Kz (SS ExtS ExtS.trans ExtS.refl small4 same_new boot_in boot_li boot_isi Has pe_has noE PSs.of_eq seqI new_ext FnG)
open K14.Gn
def ifB : Stmt → List Stmt
  | .If _ b _ _ => b
  | _ => []
section
variable {ns : List Str} (hn : ∀ s ∈ ns, s ∈ endNames)
include hn
end
theorem and_split {tA tB : TT} {σ : L2.St} {H : Hp} {X Y : Hp → Prop} (Ok : Hp → Prop) (y : ∀ G, Ok G → Y G) (k : (∀ G, Ok G → Y G) → tAnd tA tB σ H fun c G => if c = true then X G else Y G) : tAnd tA tB σ H fun c G => if c = true then X G else Y G := k y
theorem if_intro {tc : TT} {A B : TS} {D : Ends} {σ : L2.St} {H : Hp} (h : tc σ H fun c G => if c = true then A D σ G else B D σ G) : tIfS tc A B D σ H := h
end K14.T27
namespace K14.T3
open T27
open K14.Gn
open PySem PySem.W PySem.Calls PyProof.Rows L2 LamX
open He (ga)
open Kz (boot_isi same_new small4 new_ext boot_li boot_in Has pe_has noE)
def topS (i : Nat) : Stmt := PySem.Challenge.pw_twinforks_k03_whole_rows_and_boxes.main.body.getD i (.Pass ⟨0, 0, 0, 0⟩)
abbrev sIl : Stmt := topS 11
abbrev sIp : Stmt := topS 12
abbrev sIn : Stmt := topS 13
abbrev sBn : Stmt := topS 14
abbrev sNm : Stmt := topS 15
abbrev sFn : Stmt := topS 16
abbrev sCk : Stmt := topS 17
abbrev sIf : Stmt := topS 19
abbrev sIr : Stmt := topS 20
abbrev sIe : Stmt := topS 21
abbrev sCe : Stmt := topS 22
abbrev sSr : Stmt := topS 23
abbrev sLe : Stmt := topS 24
abbrev sFt : Stmt := topS 25
abbrev sBa : Stmt := topS 27
abbrev sEn : Stmt := topS 42
abbrev sSt : Stmt := topS 43
abbrev sDr : Stmt := topS 44
abbrev sPk : Stmt := topS 45
abbrev sMx : Stmt := topS 46
abbrev sSm : Stmt := topS 47
abbrev sLo : Stmt := topS 48
theorem scIe : FnScope ["thing"] ["thing"] (defScope sIe) := ⟨rfl, rfl, rfl, by decide +kernel, rfl, by decide +kernel, by decide +kernel⟩

end K14.T3
namespace K14.T3
open T27
open K14.Gn
open PySem PySem.W PySem.Calls PyProof.Rows L2 LamX
open He (ga)
open Kz (boot_isi same_new small4 new_ext boot_li boot_in Has pe_has noE)
section
variable {P : Program} {w : World} {K : Frag} {mg : Str → Option Value} {base : Heap}
theorem ok_ie {f : Addr} {fd : FuncData} (F : FunD K "is_endless" "is_endless" (defArgs sIe) (defBody sIe) (defScope sIe) [] [] f fd) (L : Has P w K mg base "is_pair" 2 ["thing"] (spLook isP)) (G : Has P w K mg base "is_row" 3 ["thing"] spRow) (mn : mg "len" = none) : FnOk P w K mg base CX0 4 f fd ["thing"] (spLookB isE) := by
  refine F.ok scIe (fun vs H Q E h => ?_) (fun cdv A outer s H vs Q XE hr h => ?_)
  · obtain ⟨v, d, rfl, _⟩ := h
    rfl
  · obtain ⟨v, d, rfl, hv, hl, hl2, k⟩ := h
    refine ⟨_, PSs.nox (pss_one (ps_ret (pe_and (pe_has L (hr.mono (by decide)) (by rfl) (pa_cons (pv 0) pa_nil)) (pe_and (pe_has G hr (by rfl) (pa_cons (pe_ix ix_seq (pv 0) pe_int (fun _ _ => rfl)) pa_nil)) (pe_and (pe_has G hr (by rfl) (pa_cons (pe_ix ix_seq (pv 0) pe_int (fun _ _ => rfl)) pa_nil))
      (pe_one (pe_cmpR op_gt (pe_callB call_len_seq (by rfl) mn boot_len (pa_cons (pe_ix ix_seq (pv 0) pe_int (fun _ _ => rfl)) pa_nil)) pe_int (nomark _)))))))), ?_⟩
    refine ⟨v, rfl, v, d, rfl, hv, fun H1 s1 => ⟨isP d, rfl, ?_⟩⟩
    cases l : isP d with
    | false =>
      refine iteF ?_
      have e := k H1 s1
      have z : isE d = false := by
        unfold isE
        split
        · rename_i x y q
          unfold isP at l
          rw [q] at l
          have l2 : isL d = false := by simpa using l
          rw [l2]
          rfl
        · rfl
      rw [z] at e
      exact e
    | true =>
      obtain ⟨l1, l2⟩ := Bool.and_eq_true_iff.mp (show (isL d && decide ((its d).length = 2)) = true from l)
      have l3 := of_decide_eq_true l2
      obtain ⟨x, y, q⟩ : ∃ x y, its d = [x, y] := by
        match its d, l3 with
        | [x, y], _ => exact ⟨x, y, rfl⟩
      have zE : isE d = (isR x && (isR y && decide (0 < (its y).length))) := by
        unfold isE
        rw [q, l1]
        rfl
      obtain ⟨a, p, r, rfl, tx, ty, hx⟩ := seq_ix hv l1 q
      have bx : (its x).length ≤ 100000 := hl2 x (by rw [q]; simp)
      have by' : (its y).length ≤ 100000 := hl2 y (by rw [q]; simp)
      have ix0 : ∀ {G : Hp} {Q' : VK}, L2.Same H G → Q' p G → rIx K (.ref a) (.int 0) G Q' := fun {G Q'} S hq => by
        rcases hx with hx | hx
        · exact .inl ⟨a, [p, r], 0, p, rfl, rfl, .inl (.inl (S _ _ hx)), atI_nat (j := 0) rfl, hq⟩
        · exact .inr (.inl ⟨a, [p, r], 0, p, rfl, rfl, .inl (.inl (S _ _ hx)), atI_nat (j := 0) rfl, hq⟩)
      have ix1 : ∀ {G : Hp} {Q' : VK}, L2.Same H G → Q' r G → rIx K (.ref a) (.int 1) G Q' := fun {G Q'} S hq => by
        rcases hx with hx | hx
        · exact .inl ⟨a, [p, r], 1, r, rfl, rfl, .inl (.inl (S _ _ hx)), atI_nat (j := 1) rfl, hq⟩
        · exact .inr (.inl ⟨a, [p, r], 1, r, rfl, rfl, .inl (.inl (S _ _ hx)), atI_nat (j := 1) rfl, hq⟩)
      refine iteT ⟨.ref a, rfl, ix0 s1 ⟨p, x, rfl, tx.ext s1, bx, fun H2 s2 => ⟨isR x, rfl, ?_⟩⟩⟩
      have S2 := s1.trans s2
      cases gx : isR x with
      | false =>
        refine iteF ?_
        have e := k H2 S2
        rw [zE, gx] at e
        exact e
      | true =>
        refine iteT ⟨.ref a, rfl, ix1 S2 ⟨r, y, rfl, ty.ext S2, by', fun H3 s3 => ⟨isR y, rfl, ?_⟩⟩⟩
        have S3 := S2.trans s3
        cases gy : isR y with
        | false =>
          refine iteF ?_
          have e := k H3 S3
          rw [zE, gx, gy] at e
          exact e
        | true =>
          have ly : isL y = true := (Bool.and_eq_true_iff.mp (show (isL y && _) = true from gy)).1
          obtain ⟨b, ys, rfl, ry, hy⟩ := (ty.ext S3).seq (K := K) ly
          refine iteT ⟨.ref a, rfl, ix1 S3 ⟨b, ys, rfl, ?_, ?_⟩⟩
          · rcases hy with hy | hy
            · exact .inl (.inl (.inl hy))
            · exact .inr (.inl (.inl hy))
          · have e := k H3 S3
            rw [zE, gx, gy, ← ry.length] at e
            have z : decide ((0 : Int) < (ys.length : Int)) = decide (0 < ys.length) := by
              by_cases c : 0 < ys.length
              · rw [decide_eq_true c, decide_eq_true (by omega)]
              · rw [decide_eq_false c, decide_eq_false (by omega)]
            refine ⟨(ys.length : Int), 0, rfl, rfl, ?_⟩
            rw [← z] at e
            exact e
end
end K14.T3
namespace K14.T3
open T27
open K14.Gn
open PySem PySem.W PySem.Calls PyProof.Rows L2 LamX
open He (ga)
open Kz (boot_isi same_new small4 new_ext boot_li boot_in Has pe_has noE shaped_int dpAll_int)
theorem scSr : FnScope ["figures", "many", "length"] ["figures"] (defScope sSr) := ⟨rfl, rfl, rfl, by decide +kernel, rfl, by decide +kernel, by decide +kernel⟩
section
variable {P : Program} {w : World} {K : Frag} {mg : Str → Option Value} {base : Heap}
theorem ok_sr {f : Addr} {fd : FuncData} (F : FunD K "shortest_round" "shortest_round" (defArgs sSr) (defBody sSr) (defScope sSr) [] [] f fd) (mn : mg "len" = none) (mr : mg "range" = none) : FnOk P w K mg base CX0 1 f fd ["figures"] spShort := by
  refine F.ok scSr (fun vs H Q E h => ?_) (fun cdv A outer s H vs Q XE hr h => ?_)
  · obtain ⟨a, ns, rfl, _⟩ := h
    rfl
  · obtain ⟨a, ns, rfl, ha, n0, n1, k⟩ := h
    refine ⟨_, PSs.nox (pss_cons (ps_set (i := 1) scSr.nd rfl (.inl rfl) (pe_callB call_len_seq (by rfl) mn boot_len (pa_cons (pv 0) pa_nil)))
      (pss_cons (ps_for PassesOwn.never rfl (pi_range2 (by rfl) mr (pa_cons pe_int (pa_cons (pv 1) pa_nil))) (pg_name (i := 2) scSr.nd rfl (.inl rfl)) (pss_one (ps_if ((pw_and (pt_cmpR op_eq (pe_op op_mod (pv 1) (pv 2)) pe_int (nomark _)) (pw_and1 (pt_cmpR (op_eqD hr.units) (pe_op op_rep (pe_slice sl_list (pv 0) po_none (po_some (pv 2))) (pe_op op_fdiv (pv 1) (pv 2))) (pv 0) (nomark _)))).pt)
        (pss_one (ps_ret (pe_slice sl_list (pv 0) po_none (po_some (pv 2))))) pss_nil)))
      (pss_one (ps_ret (pv 0))))), ?_⟩
    have ln : (ns.map V.int).length = ns.length := List.length_map ..
    refine ⟨.ref a, rfl, a, _, rfl, .inl (.inl (.inl ha)), ?_⟩
    refine ⟨.int (ns.map V.int).length, rfl, 1, _, rfl, ⟨by decide, by decide, by omega, by omega⟩, ?_⟩
    refine for_range (lo := 1) (n := (((ns.map V.int).length : Int) - 1).toNat) (fun j σ H' => (∃ x, σ = [some (.ref a), some (.int (ns.map V.int).length), x]) ∧ L2.Same H H' ∧ ∀ m, 1 ≤ m → m < j + 1 → ¬ condR ns m) ⟨⟨none, rfl⟩, fun _ _ e => e, fun m h1 h2 => by omega⟩ (fun j σ H' hj e => ?_) (fun σ H' e => ?_)
    · obtain ⟨⟨x, rfl⟩, S, no⟩ := e
      have ha' := S _ _ ha
      have jl : j + 1 < ns.length := by omega
      refine ⟨.int (ns.map V.int).length, rfl, .int (1 + (j : Nat)), rfl, _, _, rfl, rfl, (show (0 : Int) < 1 + (j : Nat) by omega), rfl, _, rfl, ite2 (fun c => ?_) (fun c => ?_)⟩
      · have c1 : ((ns.map V.int).length : Int) % (1 + (j : Nat)) = 0 := by
          have z := of_decide_eq_true c
          exact V.int.inj z
        have c2 : ns.length % (j + 1) = 0 := by
          rw [ln] at c1
          have e : ((ns.length % (j + 1) : Nat) : Int) = (ns.length : Int) % (1 + (j : Nat)) := by
            rw [Int.natCast_emod]
            congr 1
            omega
          omega
        have cl : (ns.map V.int).take (j + 1) = (ns.take (j + 1)).map V.int := by rw [List.map_take]
        have cut : cutV (ns.map V.int) none (some (1 + (j : Nat))) = (ns.take (j + 1)).map V.int := by
          have e : (1 + (j : Nat) : Int) = ((j + 1 : Nat) : Int) := by omega
          rw [e, cutV_take (by omega), cl]
        have dv : ((ns.map V.int).length : Int) / (1 + (j : Nat)) = ((ns.length / (j + 1) : Nat) : Int) := by
          rw [ln, Int.natCast_ediv]
          congr 1
          omega
        have dle : ns.length / (j + 1) ≤ ns.length := Nat.div_le_self _ _
        refine ⟨.ref a, rfl, .int (1 + (j : Nat)), rfl, 1 + (j : Nat), rfl, a, _, rfl, .inl (.inl ha'), fun p np => ?_⟩
        rw [cut]
        refine ⟨.int (ns.map V.int).length, rfl, .int (1 + (j : Nat)), rfl, _, _, rfl, rfl, ⟨by omega, by show (1 : Int) + (j : Nat) < 1073741824; omega⟩, p, _, _, rfl, rfl, upd_same, ?_, ?_, ?_, fun q nq => ?_⟩
        · rw [dv]
          exact Int.le_trans (by decide) (Int.natCast_nonneg _)
        · rw [dv]
          exact Int.lt_of_le_of_lt (Int.ofNat_le.mpr (Nat.le_trans dle n1)) (by decide)
        · rw [dv, List.length_map, List.length_take, sizeLine_eq, Int.toNat_natCast]
          have h1 : min (j + 1) ns.length ≤ 1000 := by omega
          have h2 : ns.length / (j + 1) ≤ 1000 := by omega
          have h3 := Nat.mul_le_mul h1 h2
          omega
        · have S1 := same_new (o := .lst ((ns.take (j + 1)).map V.int)) np
          have S2 := same_new (o := .lst (List.replicate (((ns.map V.int).length : Int) / (1 + (j : Nat))).toNat ((ns.take (j + 1)).map V.int)).flatten) nq
          rw [dv, Int.toNat_natCast, flat_map] at S2 ⊢
          refine ⟨.ref a, rfl, .list (((List.replicate (ns.length / (j + 1)) (ns.take (j + 1))).flatten).map PyData.int), .list (ns.map PyData.int), .lst (.inl (.inl upd_same)) (dpAll_int _), .lst (.inl (.inl (S2 _ _ (S1 _ _ ha')))) (dpAll_int _), shaped_int _, shaped_int _, ?_⟩
          rw [eqv_il]
          refine ⟨_, rfl, ite2 (fun d => ?_) (fun d => ?_)⟩
          · refine ⟨.ref a, rfl, .int (1 + (j : Nat)), rfl, 1 + (j : Nat), rfl, a, _, rfl, .inl (.inl (S2 _ _ (S1 _ _ ha'))), fun r nr => ?_⟩
            rw [cut]
            exact k _ r (ns.take (j + 1)) ((S.trans (S1.trans S2)).trans (same_new nr)) upd_same ⟨j + 1, by omega, by omega, ⟨c2, of_decide_eq_true d⟩, fun m h1 h2 => no m h1 h2, rfl⟩
          · refine ⟨⟨_, rfl⟩, S.trans (S1.trans S2), fun m h1 h2 => ?_⟩
            rcases Nat.lt_or_ge m (j + 1) with h | h
            · exact no m h1 h
            · obtain rfl : m = j + 1 := by omega
              exact fun z => d (decide_eq_true z.2)
      · refine iteF ⟨⟨_, rfl⟩, S, fun m h1 h2 => ?_⟩
        rcases Nat.lt_or_ge m (j + 1) with h | h
        · exact no m h1 h
        · obtain rfl : m = j + 1 := by omega
          refine fun z => c (decide_eq_true ?_)
          have e : ((ns.length % (j + 1) : Nat) : Int) = (ns.length : Int) % (1 + (j : Nat)) := by
            rw [Int.natCast_emod]
            congr 1
            omega
          show V.int (((ns.map V.int).length : Int) % (1 + (j : Nat))) = V.int 0
          rw [ln, ← e, z.1]
          rfl
    · obtain ⟨⟨x, rfl⟩, S, no⟩ := e
      refine ⟨.ref a, rfl, k H' a ns S (S _ _ ha) ⟨ns.length, n0, Nat.le_refl _, ⟨Nat.mod_self _, ?_⟩, fun m h1 h2 => no m h1 (by omega), (List.take_length).symm⟩⟩
      rw [Nat.div_self n0, List.take_length]
      simp
end
end K14.T3
namespace K14.T3
open T27
open K14.Gn
open PySem PySem.W PySem.Calls PyProof.Rows L2 LamX
open He (ga)
open Kz (boot_isi same_new small4 new_ext boot_li boot_in Has pe_has noE shaped_int dpAll_int)
theorem scCe : FnScope ["endless"] ["endless"] (defScope sCe) := ⟨rfl, rfl, rfl, by decide +kernel, rfl, by decide +kernel, by decide +kernel⟩
theorem scLe : FnScope ["endless", "head", "again", "rolled", "turn"] ["endless"] (defScope sLe) := ⟨rfl, rfl, rfl, by decide +kernel, rfl, by decide +kernel, by decide +kernel⟩
section
variable {P : Program} {w : World} {K : Frag} {mg : Str → Option Value} {base : Heap}
theorem ok_ce {f : Addr} {fd : FuncData} (F : FunD K "check_endless" "check_endless" (defArgs sCe) (defBody sCe) (defScope sCe) [] [] f fd) (L : Has P w K mg base "is_endless" 4 ["thing"] (spLookB isE)) : FnOk P w K mg base CX0 5 f fd ["endless"] (spRight isE) := by
  refine F.ok scCe (fun vs H Q E h => ?_) (fun cdv A outer s H vs Q XE hr h => ?_)
  · obtain ⟨v, d, rfl, _⟩ := h
    rfl
  · obtain ⟨v, d, rfl, hv, g, b1, b2, k⟩ := h
    refine ⟨_, PSs.nox (pss_one (ps_if (pt_not (pt_val (pe_has L hr (by rfl) (pa_cons (pv 0) pa_nil)))) (pss_one ps_never) pss_nil)), ?_⟩
    refine ⟨v, rfl, v, d, rfl, hv, b1, b2, fun H1 s1 => ⟨true, by rw [g], iteF (k H1 s1)⟩⟩
end
end K14.T3
namespace K14.T3
open T27
open K14.Gn
open PySem PySem.W PySem.Calls PyProof.Rows L2 LamX
open He (ga)
open Kz (boot_isi same_new small4 new_ext boot_li boot_in Has pe_has noE shaped_int dpAll_int)
section
variable {P : Program} {w : World} {K : Frag} {mg : Str → Option Value} {base : Heap}
theorem ok_le {f : Addr} {fd : FuncData} (F : FunD K "least_endless" "least_endless" (defArgs sLe) (defBody sLe) (defScope sLe) [] [] f fd) (C : Has P w K mg base "check_endless" 5 ["endless"] (spRight isE)) (R : Has P w K mg base "shortest_round" 1 ["figures"] spShort) (mn : mg "len" = none) (ml : mg "list" = none) :
    FnOk P w K mg base CX0 6 f fd ["endless"] (spLeast K) := by
  refine F.ok scLe (fun vs H Q E h => ?_) (fun cdv A outer s H vs Q XE hr h => ?_)
  · obtain ⟨v, hs, as, rfl, _⟩ := h
    rfl
  · obtain ⟨v, hs, as, rfl, hv, k⟩ := h
    refine ⟨_, PSs.nox (pss_cons (ps_expr (pe_has C hr (by rfl) (pa_cons (pv 0) pa_nil)))
      (pss_cons (ps_set (i := 1) scLe.nd rfl (.inl rfl) (pe_callTy call_list_of (by rfl) ml boot_li (pa_cons (pe_ix ix_seq (pv 0) pe_int (fun _ _ => rfl)) pa_nil)))
      (pss_cons (ps_set (i := 2) scLe.nd rfl (.inl rfl) (pe_has R (hr.mono (by decide)) (by rfl) (pa_cons (pe_callTy call_list_of (by rfl) ml boot_li (pa_cons (pe_ix ix_seq (pv 0) pe_int (fun _ _ => rfl)) pa_nil)) pa_nil)))
      (pss_cons (ps_set (i := 3) scLe.nd rfl (.inl rfl) pe_int)
      (pss_cons (ps_while PassesOwn.never ((pw_and (pt_cmp (pc_lt (pv 3) (pe_callB call_len_seq (by rfl) mn boot_len (pa_cons (pv 1) pa_nil)))) (pw_and1 (pt_cmpR op_eq (pe_ix ix_list (pv 1) (pe_op op_sub (pe_un un_neg pe_int) (pv 3)) (fun _ _ => rfl)) (pe_ix ix_list (pv 2) (pe_op op_sub (pe_un un_neg pe_int) (pe_op op_mod (pv 3) (pe_callB call_len_seq (by rfl) mn boot_len (pa_cons (pv 2) pa_nil)))) (fun _ _ => rfl)) (nomark _)))).pt)
        (pss_one (ps_aug (i := 3) scLe.nd rfl (.inl rfl) pe_int ip_add)))
      (pss_cons (ps_set (i := 4) scLe.nd rfl (.inl rfl) (pe_op op_sub (pe_callB call_len_seq (by rfl) mn boot_len (pa_cons (pv 2) pa_nil)) (pe_op op_mod (pv 3) (pe_callB call_len_seq (by rfl) mn boot_len (pa_cons (pv 2) pa_nil)))))
      (pss_one (ps_ret (pe_tup (pa_cons (pe_slice sl_list (pv 1) po_none (po_some (pe_op op_sub (pe_callB call_len_seq (by rfl) mn boot_len (pa_cons (pv 1) pa_nil)) (pv 3)))) (pa_cons (pe_op op_cat (pe_slice sl_list (pv 2) (po_some (pv 4)) po_none) (pe_slice sl_list (pv 2) po_none (po_some (pv 4)))) pa_nil))))))))))), ?_⟩
    obtain ⟨d, td, ed, bd1, bd2⟩ := hv.look
    have la : 0 < as.length ∧ hs.length ≤ 500 ∧ as.length ≤ 500 := by
      obtain ⟨_, _, _, _, _, _, _, _, z⟩ := hv
      exact z
    refine ⟨v, rfl, v, d, rfl, td, ed, bd1, bd2, fun H1 s1 => ?_⟩
    obtain ⟨a, p, q, rfl, ha, hp, hq⟩ := (hv.ext s1).parts
    refine ⟨.ref a, rfl, ix_p0 ha ⟨p, _, rfl, sl_of hp, fun h nh => ?_⟩⟩
    have s2 := same_new (o := .lst (hs.map V.int)) nh
    refine ⟨.ref a, rfl, ix_p1 (st_or s2 ha) ⟨q, _, rfl, sl_of (st_or s2 hq), fun g ng => ?_⟩⟩
    have s3 := same_new (o := .lst (as.map V.int)) ng
    refine ⟨g, as, rfl, upd_same, la.1, by omega, fun H4 r rs s4 hr sh => ?_⟩
    have hh : H4 h = some (.lst (hs.map V.int)) := s4 _ _ (s3 _ _ upd_same)
    have S4 := ((s1.trans s2).trans s3).trans s4
    obtain ⟨r0, r1⟩ := short_len sh la.1
    have lh : (hs.map V.int).length = hs.length := List.length_map ..
    have lr : (rs.map V.int).length = rs.length := List.length_map ..
    refine Kz.tWhile_split (fun σ H' => ∃ n : Nat, σ = [some (.ref a), some (.ref h), some (.ref r), some (.int (n : Nat)), none] ∧ H' = H4 ∧ n ≤ hs.length ∧ Rolls hs rs n ∧ (n = hs.length ∨ hs[hs.length - 1 - n]? ≠ rs[rs.length - 1 - n % rs.length]?)) (fun σ H' e => ?_) (fun after => ?_)
    · obtain ⟨n, rfl, rfl, nle, ro, nd⟩ := e
      have nm : n % rs.length < rs.length := Nat.mod_lt _ r0
      have em : ((n : Nat) : Int) % ((rs.map V.int).length : Int) = ((n % rs.length : Nat) : Int) := by rw [lr, Int.natCast_emod]
      have et : ((rs.map V.int).length : Int) - ((n : Nat) : Int) % ((rs.map V.int).length : Int) = ((rs.length - n % rs.length : Nat) : Int) := by rw [em, lr]; omega
      have eh : ((hs.map V.int).length : Int) - ((n : Nat) : Int) = ((hs.length - n : Nat) : Int) := by rw [lh]; omega
      refine ⟨.ref r, rfl, r, _, rfl, .inl (.inl (.inl hr)), .int (n : Nat), rfl, .ref r, rfl, r, _, rfl, .inl (.inl (.inl hr)), n, _, rfl, rfl, (show (0 : Int) < ((rs.map V.int).length : Int) by omega), _, _, rfl, rfl, ?_⟩
      refine ⟨.ref h, rfl, .ref h, rfl, h, _, rfl, .inl (.inl (.inl hh)), .int (n : Nat), rfl, _, _, rfl, rfl, _, rfl, h, _, rfl, .inl (.inl hh), fun u nu => ?_⟩
      rw [eh, cutV_take (by omega)]
      have t1 := same_new (o := .lst ((hs.map V.int).take (hs.length - n))) nu
      refine ⟨.ref r, rfl, _, rfl, _, rfl, r, _, rfl, .inl (.inl (t1 _ _ hr)), fun x nx => ?_⟩
      first | rw [et, cut_drop (by omega)] | rw [cut_drop (by omega)]
      have t2 := same_new (o := .lst ((rs.map V.int).drop (rs.length - n % rs.length))) nx
      refine ⟨.ref r, rfl, _, rfl, _, rfl, r, _, rfl, .inl (.inl (t2 _ _ (t1 _ _ hr))), fun y ny => ?_⟩
      first | rw [et, cutV_take (by omega)] | rw [cutV_take (by omega)]
      have t3 := same_new (o := .lst ((rs.map V.int).take (rs.length - n % rs.length))) ny
      refine ⟨x, y, _, _, rfl, rfl, t3 _ _ upd_same, upd_same, ?_, fun z nz => ?_⟩
      · rw [List.length_drop, List.length_take, lr, sizeLine_eq]
        omega
      have t4 := same_new (o := .lst ((rs.map V.int).drop (rs.length - n % rs.length) ++ (rs.map V.int).take (rs.length - n % rs.length))) nz
      refine ⟨small4 2, fun pt npt => ?_⟩
      have t5 := same_new (o := .tup [.ref u, .ref z]) npt
      refine k _ pt u z (hs.take (hs.length - n)) (rs.drop (rs.length - n % rs.length) ++ rs.take (rs.length - n % rs.length)) (S4.trans (t1.trans (t2.trans (t3.trans (t4.trans t5))))) upd_same (t5 _ _ (t4 _ _ (t3 _ _ (t2 _ _ ?_)))) (t5 _ _ ?_) (S4.free nu) ((S4.trans (t1.trans (t2.trans t3))).free nz) (ne_of_none (t3 _ _ (t2 _ _ upd_same)) nz) ⟨rs, n, sh, nle, ro, nd, rfl, rfl⟩
      · rw [List.map_take]
        exact upd_same
      · rw [List.map_append, List.map_drop, List.map_take]
        exact upd_same
    refine ⟨fun m σ H' => ∃ k : Nat, σ = [some (.ref a), some (.ref h), some (.ref r), some (.int (k : Nat)), none] ∧ H' = H4 ∧ k ≤ hs.length ∧ Rolls hs rs k ∧ m = hs.length - k, ⟨hs.length, 0, rfl, rfl, Nat.zero_le _, fun i hi => absurd hi (Nat.not_lt_zero _), rfl⟩, fun m σ H' hW => ?_⟩
    obtain ⟨n, rfl, rfl, nle, ro, rfl⟩ := hW
    refine ⟨.int (n : Nat), rfl, .ref h, rfl, h, _, rfl, .inl (.inl (.inl hh)), n, _, rfl, rfl, _, rfl, ite2 (fun c => ?_) (fun c => ?_)⟩
    · have nl : n < hs.length := by
        have z := of_decide_eq_true c
        rw [lh] at z
        omega
      have nm : n % rs.length < rs.length := Nat.mod_lt _ r0
      have em : ((n : Nat) : Int) % ((rs.map V.int).length : Int) = ((n % rs.length : Nat) : Int) := by rw [lr, Int.natCast_emod]
      refine ⟨.ref h, rfl, 1, rfl, .int (n : Nat), rfl, -1, n, rfl, rfl, h, _, _, V.int (hs[hs.length - 1 - n]'(by omega)), rfl, rfl, .inl (.inl hh), ?_, ?_⟩
      · show atI (hs.map V.int) (-1 - (n : Int)) = _
        rw [atI_back (by omega), lh]
        simp
      refine ⟨.ref r, rfl, 1, rfl, .int (n : Nat), rfl, .ref r, rfl, r, _, rfl, .inl (.inl (.inl hr)), n, _, rfl, rfl, (show (0 : Int) < ((rs.map V.int).length : Int) by omega), -1, _, rfl, rfl, r, _, _, V.int (rs[rs.length - 1 - n % rs.length]'(by omega)), rfl, rfl, .inl (.inl hr), ?_, rfl, _, rfl, ite2 (fun e => ?_) (fun e => ?_)⟩
      · show atI (rs.map V.int) (-1 - (((n : Nat) : Int) % ((rs.map V.int).length : Int))) = _
        rw [em, atI_back (by omega), lr]
        simp
      · refine ⟨fun σ' H' => σ' = [some (.ref a), some (.ref h), some (.ref r), some (.int ((n + 1 : Nat) : Int)), none] ∧ H' = _, fun σ' H' e1 => ⟨hs.length - (n + 1), by omega, n + 1, e1.1, e1.2, by omega, fun i hi => ?_, rfl⟩, ?_⟩
        · rcases Nat.lt_or_ge i n with z | z
          · exact ro i z
          · obtain rfl : i = n := by omega
            have z2 := V.int.inj (of_decide_eq_true e)
            rw [List.getElem?_eq_getElem (by omega), List.getElem?_eq_getElem (by omega), z2]
        · exact ⟨.int (n : Nat), rfl, n, 1, rfl, rfl, rfl, rfl⟩
      · refine after _ _ ⟨n, rfl, rfl, nle, ro, .inr fun z => e (decide_eq_true ?_)⟩
        rw [List.getElem?_eq_getElem (by omega), List.getElem?_eq_getElem (by omega)] at z
        rw [Option.some.inj z]
    · have z : ¬ (n : Int) < ((hs.map V.int).length : Int) := fun z => c (decide_eq_true z)
      rw [lh] at z
      exact iteF (after _ _ ⟨n, rfl, rfl, nle, ro, .inl (by omega)⟩)
end
end K14.T3
namespace K14.T3
open T27
open K14.Gn
open PySem PySem.W PySem.Calls PyProof.Rows L2 LamX
open He (ga)
open Kz (boot_isi same_new small4 new_ext boot_li boot_in Has pe_has noE shaped_int dpAll_int)
theorem scFt : FnScope ["endless", "index", "head", "again"] ["endless", "index"] (defScope sFt) := ⟨rfl, rfl, rfl, by decide +kernel, rfl, by decide +kernel, by decide +kernel⟩
section
variable {P : Program} {w : World} {K : Frag} {mg : Str → Option Value} {base : Heap}
theorem ok_ft {f : Addr} {fd : FuncData} (F : FunD K "figure_there" "figure_there" (defArgs sFt) (defBody sFt) (defScope sFt) [] [] f fd) (mn : mg "len" = none) : FnOk P w K mg base CX0 1 f fd ["endless", "index"] spFig := by
  refine F.ok scFt (fun vs H Q E h => ?_) (fun cdv A outer s H vs Q XE hr h => ?_)
  · obtain ⟨v, hs, as, i, rfl, _⟩ := h
    rfl
  · obtain ⟨v, hs, as, i, rfl, hv, k⟩ := h
    have la : 0 < as.length ∧ hs.length ≤ 500 ∧ as.length ≤ 500 := by
      obtain ⟨_, _, _, _, _, _, _, _, z⟩ := hv
      exact z
    obtain ⟨a, p, q, rfl, ha, hp, hq⟩ := hv.parts
    refine ⟨_, PSs.nox (pss_cons (ps_asg (pv 0) (pg_or (pg_tup rfl (pgs_cons (pg_name (i := 2) scFt.nd rfl (.inl rfl)) (pgs_cons (pg_name (i := 3) scFt.nd rfl (.inl rfl)) pgs_nil))) (pg_lst rfl (pgs_cons (pg_name (i := 2) scFt.nd rfl (.inl rfl)) (pgs_cons (pg_name (i := 3) scFt.nd rfl (.inl rfl)) pgs_nil)))))
      (pss_cons (ps_if (pt_cmp (pc_lt (pv 1) (pe_callB call_len_seq (by rfl) mn boot_len (pa_cons (pv 2) pa_nil)))) (pss_one (ps_ret (pe_ix ix_seq (pv 2) (pv 1) (fun _ _ => rfl)))) pss_nil)
      (pss_one (ps_ret (pe_ix ix_seq (pv 3) (pe_op op_mod (pe_op op_sub (pv 1) (pe_callB call_len_seq (by rfl) mn boot_len (pa_cons (pv 2) pa_nil))) (pe_callB call_len_seq (by rfl) mn boot_len (pa_cons (pv 3) pa_nil))) (fun _ _ => rfl)))))), ?_⟩
    have lh : (hs.map V.int).length = hs.length := List.length_map ..
    have lq : (as.map V.int).length = as.length := List.length_map ..
    rcases ha with ha | ha <;> first
      | refine ⟨.ref a, rfl, .inr ⟨a, _, rfl, .inl (.inl ha), rfl, .ref p, _, rfl, .ref q, _, rfl, rfl, ?_⟩⟩
      | refine ⟨.ref a, rfl, .inl ⟨a, _, rfl, .inl (.inl ha), rfl, .ref p, _, rfl, .ref q, _, rfl, rfl, ?_⟩⟩
    all_goals
      refine ⟨.int (i : Nat), rfl, .ref p, rfl, p, _, rfl, sl_of hp, i, _, rfl, rfl, _, rfl, ite2 (fun c => ?_) (fun c => ?_)⟩
      · have il : i < hs.length := by
          have z := of_decide_eq_true c
          rw [lh] at z
          omega
        refine ⟨.ref p, rfl, .int (i : Nat), rfl, ix_any hp il ?_⟩
        unfold figAt at k
        rw [if_pos il] at k
        exact k
      · have il : ¬ i < hs.length := fun z => c (decide_eq_true (by rw [lh]; omega))
        have e1 : ((i : Nat) : Int) - ((hs.map V.int).length : Int) = ((i - hs.length : Nat) : Int) := by rw [lh]; omega
        have e2 : ((i : Nat) : Int) - ((hs.map V.int).length : Int) = ((i - hs.length : Nat) : Int) → (((i : Nat) : Int) - ((hs.map V.int).length : Int)) % ((as.map V.int).length : Int) = (((i - hs.length) % as.length : Nat) : Int) := fun z => by rw [z, lq, Int.natCast_emod]
        refine ⟨.ref q, rfl, .int (i : Nat), rfl, .ref p, rfl, p, _, rfl, sl_of hp, _, _, rfl, rfl, .ref q, rfl, q, _, rfl, sl_of hq, _, _, rfl, rfl, (show (0 : Int) < ((as.map V.int).length : Int) by omega), ?_⟩
        show rIx K (.ref q) (.int ((((i : Nat) : Int) - ((hs.map V.int).length : Int)) % ((as.map V.int).length : Int))) H _
        rw [e2 e1]
        refine ix_any hq (Nat.mod_lt _ la.1) ?_
        unfold figAt at k
        rw [if_neg il] at k
        exact k
end
end K14.T3
namespace K14.T3
open T27
open K14.Gn
open PySem PySem.W PySem.Calls PyProof.Rows L2 LamX
open He (ga)
open Kz (boot_isi same_new small4 new_ext boot_li boot_in Has pe_has noE X1)
section
variable {P : Program} {w : World} {K : Frag} {mg : Str → Option Value} {base : Heap}
theorem okx_ce {f : Addr} {fd : FuncData} (F : FunD K "check_endless" "check_endless" (defArgs sCe) (defBody sCe) (defScope sCe) [] [] f fd) (L : Has P w K mg base "is_endless" 4 ["thing"] (spLookB isE)) (T : ErK P K mg "BadEndless") : FnOk P w K mg base (L2.CX P w) 5 f fd ["endless"] (spOdd isE (ga K "BadEndless")) := by
  refine F.ok scCe (fun vs H Q E h => ?_) (fun cdv A outer s H vs Q XE hr h => ?_)
  · obtain ⟨v, rfl, _⟩ := h
    rfl
  · obtain ⟨v, rfl, ⟨d, hv, g, b1, b2⟩, k⟩ := h
    refine ⟨_, pss_one (ps_if (pt_not (pt_val (pe_has L hr (by rfl) (pa_cons (pv 0) pa_nil)))) (pss_one (ps_raise rfl (takes_of rfl rfl rfl rfl) (pmk_x1 T.2 (hr.mono (by decide)) rfl (by rfl) T.1 (pv 0)))) pss_nil), ?_⟩
    refine ⟨v, rfl, v, d, rfl, hv, b1, b2, fun H1 s1 => ⟨false, by rw [g], iteT ⟨v, rfl, fun dx n => k _ dx (s1.trans (same_new n)) upd_same⟩⟩⟩
end
end K14.T3
namespace K14.T3
open T27
open K14.Gn
open PySem PySem.W PySem.Calls PyProof.Rows L2 LamX
open He (ga)
open Kz (SS ExtS ExtS.trans ExtS.refl small4 same_new boot_in boot_li new_ext Has pe_has noE boot_isi)
theorem scLo : FnScope Nlo ["stream", "thing"] (defScope sLo) := ⟨rfl, rfl, rfl, by decide +kernel, rfl, by decide +kernel, by decide +kernel⟩
def scOfC : List Stmt → Scope
  | [_, _, .Assign _ (.ListComp _ _ sc _) _, _] => sc
  | _ => defScope sLo
def loSc : Scope := scOfC (defBody sLo)
section
variable {P : Program} {w : World} {K : Frag} {mg : Str → Option Value} {base : Heap}
theorem ok_lo {f : Addr} {fd : FuncData} (F : FunD K "_law_loose" "_law_loose" (defArgs sLo) (defBody sLo) (defScope sLo) [] [] f fd) (D : Has P w K mg base "_law_draw" 1 ["stream", "many"] spDrW) (mm : mg "_law_loose" = some (.ref f)) (kp : keepIn K (.ref f) = true) (bd : L2.Binds K fd ["stream", "thing"] [])
    (mi : mg "isinstance" = none) (ml : mg "list" = none) (mt : mg "tuple" = none) (md : mg "dict" = none) : ∀ n, FnOk P w K mg base CX0 (n + 2) f fd ["stream", "thing"] (spLo n) := by
  intro n
  induction n with
  | zero =>
    refine F.ok scLo (fun vs H Q E h => lo_len h) (fun cdv A outer s H vs Q XE hr h => ?_)
    obtain ⟨S, l, li, c, v, d, rfl, m1, m2, ins, hv, hf, hs, hc, k⟩ := h
    have l0 : isL d = false := by
      cases q : isL d with
      | false => rfl
      | true =>
        obtain ⟨m, z, _⟩ := fit_seq q hf
        cases z
    have hV := hv.ext hid_up
    refine ⟨_, PSs.nox (pss_cons (ps_if (pt_val (pe_callB call_isi (by rfl) mi boot_isi (pa_cons (pv 1) (pa_cons (pe_bltn (by rfl) md boot_di (v := .ty "dict") rfl) pa_nil)))) (pss_one ps_never) pss_nil)
      (pss_cons (ps_if (pt_not (pt_val (pe_callB call_isiT (by rfl) mi boot_isi (pa_cons (pv 1) (pa_cons (pe_tup (pa_cons (pe_bltn (by rfl) ml boot_li (v := .ty "list") rfl) (pa_cons (pe_bltn (by rfl) mt boot_tu (v := .ty "tuple") rfl) pa_nil))) pa_nil))))) (pss_one (ps_ret (pv 1))) pss_nil) pss_never)), ?_⟩
    refine ⟨v, rfl, v, _, _, _, _, rfl, .ty _, hV.ty, is_di d, _, rfl, ?_⟩
    rw [no_dict hf]
    refine iteF ⟨v, rfl, small4 2, fun p np => ⟨v, p, _, _, _, _, rfl, upd_same, .cons (.ty _) (.cons (.ty _) .nil), (hV.ext (same_new np)).ty, is_lt d, _, rfl, ?_⟩⟩
    rw [l0]
    exact iteT ⟨v, rfl, k _ v d c (same_S (same_new np)) (hs.same (same_new np)) (by omega) (hv.ext (hid_same (same_new np))) (Ld.flat l0 hf)⟩
  | succ n ih =>
    have SELF : Has P w K mg base "_law_loose" (n + 2) ["stream", "thing"] (spLo n) := ⟨f, fd, mm, kp, bd, ih⟩
    refine F.ok scLo (fun vs H Q E h => lo_len h) (fun cdv A outer s H vs Q XE hr h => ?_)
    obtain ⟨S, l, li, c, v, d, rfl, m1, m2, ins, hv, hf, hs, hc, k⟩ := h
    have hV := hv.ext hid_up
    refine ⟨_, PSs.nox (pss_cons (ps_if (pt_val (pe_callB call_isi (by rfl) mi boot_isi (pa_cons (pv 1) (pa_cons (pe_bltn (by rfl) md boot_di (v := .ty "dict") rfl) pa_nil)))) (pss_one ps_never) pss_nil)
      (pss_cons (ps_if (pt_not (pt_val (pe_callB call_isiT (by rfl) mi boot_isi (pa_cons (pv 1) (pa_cons (pe_tup (pa_cons (pe_bltn (by rfl) ml boot_li (v := .ty "list") rfl) (pa_cons (pe_bltn (by rfl) mt boot_tu (v := .ty "tuple") rfl) pa_nil))) pa_nil))))) (pss_one (ps_ret (pv 1))) pss_nil)
      (pss_cons (ps_setLc (X := (cxOf CX0 P w K mg base Nlo "_law_loose" (defScope sLo) f cdv A outer s H XE).nox) (i := 2) (te := tCall (spLo n) [] noE (tCons (tVar 0) (tCons (tVar 3) tNil))) (scope := loSc) (own := [("part", 3)]) (g := gName 3) (tt := tYes) rfl scLo.nd rfl rfl (sw_true rfl rfl rfl (by decide +kernel)) (pi_or (pi_list (pv 1)) (pi_tup (pv 1))) (blkOk_by (N := Nlo) (sc := defScope sLo) (by decide +kernel)) (fun _ _ _ _ _ => pg_name (i := 3) scLo.nd rfl (Or.inl rfl)) (fun _ _ _ _ _ => pts_nil)
        (fun s0 H0 C0 cl0 fp0 => pe_has (X := Cx.blk ((cxOf CX0 P w K mg base Nlo "_law_loose" (defScope sLo) f cdv A outer s H XE).nox) s0 H0 loSc (compEnvC loSc cl0 C0 (Cx.env ((cxOf CX0 P w K mg base Nlo "_law_loose" (defScope sLo) f cdv A outer s H XE).nox))) fp0) SELF hr (by rfl) (pa_cons (pv 0) (pa_cons (pv 3) pa_nil))))
      (pss_one (ps_ret (pe_ifExp (pt_cmpR op_eq (pe_has D (hr.mono (by omega)) (by rfl) (pa_cons (pv 0) (pa_cons pe_int pa_nil))) pe_int (nomark _)) (pv 2) (pe_callTy call_tuple_of (by rfl) mt boot_tu (pa_cons (pv 2) pa_nil)))))))), ?_⟩
    refine ⟨v, rfl, v, _, _, _, _, rfl, .ty _, hV.ty, is_di d, _, rfl, ?_⟩
    rw [no_dict hf]
    refine iteF ⟨v, rfl, small4 2, fun p np => ⟨v, p, _, _, _, _, rfl, upd_same, .cons (.ty _) (.cons (.ty _) .nil), (hV.ext (same_new np)).ty, is_lt d, _, rfl, ?_⟩⟩
    have e1 : ExtS l li H (upd H p (.tup [.ty "list", .ty "tuple"])) := same_S (same_new np)
    have s1 := hs.same (same_new (o := .tup [.ty "list", .ty "tuple"]) np)
    cases l0 : isL d with
    | false => exact iteT ⟨v, rfl, k _ v d c e1 s1 (by omega) (hv.ext (hid_same (same_new np))) (Ld.flat l0 hf)⟩
    | true =>
      obtain ⟨m, em, len, fits, esz⟩ := fit_seq l0 hf
      obtain rfl : n = m := Nat.succ.inj em
      rw [esz] at hc k
      refine iteF ?_
      clear hV
      obtain ⟨a, xs, rfl, r, hx⟩ := hv.seq (K := K) l0
      have lx : xs.length = (its d).length := r.length
      have kind : (∀ {G : Hp}, ExtS l li H G → G a = some (.lst xs)) ∨ (∀ {G : Hp}, ExtS l li H G → G a = some (.tup xs)) := by
        rcases hx with q | q
        · obtain ⟨q1, q2, _⟩ := hid_at q
          exact .inl fun e => e _ _ q2 (fun z => q1 (by rw [z]; exact m1)) (fun z => q1 (by rw [z]; exact m2))
        · obtain ⟨q1, q2, _⟩ := hid_at q
          exact .inr fun e => e _ _ q2 (fun z => q1 (by rw [z]; exact m1)) (fun z => q1 (by rw [z]; exact m2))
      generalize upd H p (.tup [.ty "list", .ty "tuple"]) = H1 at e1 s1 ⊢
      let Pv (D0 : Addr) (j : Nat) (H2 : Hp) : Prop := ∃ (ys : List V) (ds : List PyData) (c2 : Int), H2 D0 = some (.lst ys) ∧ ys.length = j ∧ ThAll (Hid (D0 :: S) H2) ys ds ∧ LdAll ((its d).take j) ds ∧ ExtS l li H H2 ∧ Spr H2 l li c2 ∧ c2 ≤ c + ((((its d).take j).map (szD n)).sum : Nat)
      have start : ∀ D0, H1 D0 = none → Pv D0 0 (upd H1 D0 (.lst [])) := fun D0 hD => ⟨[], [], c, upd_same, rfl, .nil, .nil, e1.trans (same_S (same_new hD)), s1.same (same_new hD), by simp⟩
      have turn : ∀ D0, H1 D0 = none → ∀ (j : Nat) (x : V) (H2 : Hp), xs[j]? = some x → Pv D0 j H2 → ∀ (σ2 : L2.St), σ2[0]? = some (some (.ref l)) → σ2[3]? = some (some x) →
          tCall (spLo n) [] noE (tCons (tVar 0) (tCons (tVar 3) tNil)) σ2 H2 fun y H4 => ∃ acc, H4 D0 = some (.lst acc) ∧ acc.length < sizeLine ∧ Pv D0 (j + 1) (upd H4 D0 (.lst (acc ++ [y]))) := by
        intro D0 hD j x H2 hj hp σ2 g0 g3
        obtain ⟨ys, ds, c2, q1, q2, q3, q4, q5, q6, q7⟩ := hp
        have nD := s1.new hD
        have HD : H D0 = none := ext_none e1 hD nD.1 nD.2
        obtain ⟨z, hz, tz⟩ := r.get hj
        have jl : j < (its d).length := by
          rcases Nat.lt_or_ge j (its d).length with q | q
          · exact q
          · rw [List.getElem?_eq_none q] at hz
            cases hz
        have et : (its d).take (j + 1) = (its d).take j ++ [z] := by
          rw [List.take_add_one, hz]
          rfl
        have esum : (((its d).take (j + 1)).map (szD n)).sum = (((its d).take j).map (szD n)).sum + szD n z := by
          rw [et, List.map_append, List.sum_append]
          simp
        have eall : (((its d).take (j + 1)).map (szD n)).sum ≤ ((its d).map (szD n)).sum := by
          have e := List.take_append_drop (j + 1) (its d)
          calc (((its d).take (j + 1)).map (szD n)).sum ≤ (((its d).take (j + 1)).map (szD n)).sum + (((its d).drop (j + 1)).map (szD n)).sum := Nat.le_add_right _ _
            _ = ((its d).map (szD n)).sum := by rw [← List.sum_append, ← List.map_append, e]
        refine ⟨.ref l, g0, x, g3, D0 :: S, l, li, c2, x, z, rfl, List.mem_cons_of_mem _ m1, List.mem_cons_of_mem _ m2, (ins_S ins q5 q6).cons q1, tz.ext (hid_D m1 m2 HD q5), fits z (List.mem_of_getElem? hz), q6, by omega, fun H4 v4 d4 c4 e4 s4 b4 t4 ld4 => ?_⟩
        have hD4 := e4 _ _ q1 nD.1 nD.2
        refine ⟨ys, hD4, by rw [q2, sizeLine_eq]; omega, ys ++ [v4], ds ++ [d4], c4, upd_same, by rw [List.length_append, q2]; rfl, ?_, by rw [et]; exact q4.snoc ld4, fun b o eb z1 z2 => ?_, s4.upd nD.1 nD.2, by rw [esum]; omega⟩
        · refine ThAll.snoc (t4.ext (hid_upd (List.mem_cons_self ..))) ((q3.ext (hid_S (List.mem_cons_of_mem _ m1) (List.mem_cons_of_mem _ m2) e4)).ext (hid_upd (List.mem_cons_self ..)))
        · rw [upd_ne (ne_of_none eb HD)]
          exact e4 b o (q5 b o eb z1 z2) z1 z2
      have post : ∀ D0, H1 D0 = none → ∀ H2, Pv D0 xs.length H2 → ∃ c2, Spr H2 l li c2 ∧ c2 < 900000000 ∧ ∀ (H5 : Hp), ExtS l li H2 H5 → Spr H5 l li (c2 + 1) → Q (.ref D0) H5 ∧ ∃ ys, H5 D0 = some (.lst ys) ∧ ∀ t, H5 t = none → Q (.ref t) (upd H5 t (.tup ys)) := by
        intro D0 hD H2 hp
        obtain ⟨ys, ds, c2, q1, q2, q3, q4, q5, q6, q7⟩ := hp
        have nD := s1.new hD
        have HD : H D0 = none := ext_none e1 hD nD.1 nD.2
        rw [lx, List.take_length] at q4 q7
        obtain ⟨g1, g2⟩ := ld_seq l0 q4
        refine ⟨c2, q6, by omega, fun H5 e5 s5 => ?_⟩
        have nS : D0 ∉ S := fun z => by
          obtain ⟨o, q⟩ := ins D0 z
          rw [HD] at q
          cases q
        have hD5 := e5 _ _ q1 nD.1 nD.2
        have t5 := (q3.ext (hid_S (List.mem_cons_of_mem _ m1) (List.mem_cons_of_mem _ m2) e5)).ext (hid_less (S := S) (fun b m => List.mem_cons_of_mem _ m))
        refine ⟨k H5 _ _ _ (q5.trans e5) s5 (by omega) (.lst (hid_of nS hD5 (fun ps z => nomatch z)) t5) g1, ys, hD5, fun t nt => ?_⟩
        have nT := s5.new nt
        exact k _ _ _ _ ((q5.trans e5).trans (same_S (same_new nt))) (s5.same (same_new nt)) (by omega) (.tup (hid_of ((ins_S (ins_S ins q5 q6) e5 s5).new nt) upd_same (fun ps z => nomatch z)) (t5.ext (hid_same (same_new nt)))) g2
      rcases kind with kd | kd
      · refine .inl ⟨.ref a, rfl, a, rfl, ⟨xs, .inl (.inl (kd e1))⟩, fun D0 hD => lc_list (xs := xs) (Pv D0) (start D0 hD) (fun i H2 _ e => ?_) (fun i x H2 hi e => ?_) (fun H2 e => ?_)⟩
        · obtain ⟨_, _, _, _, _, _, _, q5, _⟩ := e
          exact .inl (.inl (kd q5))
        · refine ⟨rfl, ?_⟩
          unfold tYes
          show (if true = true then _ else _)
          rw [if_pos rfl]
          exact turn D0 hD i x H2 hi e _ rfl rfl
        · obtain ⟨c2, w1, w2, w3⟩ := post D0 hD H2 e
          refine ⟨.ref l, rfl, l, li, c2, 3, rfl, w1, by decide, by decide, by omega, fun H5 q e5 s5 q0 q1 => ?_⟩
          obtain ⟨z1, ys, z2, z3⟩ := w3 H5 e5 s5
          exact ⟨rfl, _, rfl, ite2 (fun _ => ⟨.ref D0, rfl, z1⟩) (fun _ => ⟨.ref D0, rfl, D0, ys, rfl, .inl ⟨.inl (.inl z2), z3⟩⟩)⟩
      · refine .inr ⟨.ref a, rfl, a, rfl, ⟨xs, .inl (.inl (kd e1))⟩, fun D0 hD => lc_tup (xs := xs) (Pv D0) (start D0 hD) (fun i H2 _ e => ?_) (fun i x H2 hi e => ?_) (fun H2 e => ?_)⟩
        · obtain ⟨_, _, _, _, _, _, _, q5, _⟩ := e
          exact .inl (.inl (kd q5))
        · refine ⟨rfl, ?_⟩
          unfold tYes
          show (if true = true then _ else _)
          rw [if_pos rfl]
          exact turn D0 hD i x H2 hi e _ rfl rfl
        · obtain ⟨c2, w1, w2, w3⟩ := post D0 hD H2 e
          refine ⟨.ref l, rfl, l, li, c2, 3, rfl, w1, by decide, by decide, by omega, fun H5 q e5 s5 q0 q1 => ?_⟩
          obtain ⟨z1, ys, z2, z3⟩ := w3 H5 e5 s5
          exact ⟨rfl, _, rfl, ite2 (fun _ => ⟨.ref D0, rfl, z1⟩) (fun _ => ⟨.ref D0, rfl, D0, ys, rfl, .inl ⟨.inl (.inl z2), z3⟩⟩)⟩
end
end K14.T3
namespace K14.T3
open T27
open K14.Gn
open PySem PySem.W PySem.Calls PyProof.Rows L2 LamX RZ LiI
open He (ga)

open Kz (SS ExtS ExtS.trans ExtS.refl spStart small4 same_new boot_in boot_li boot_isi tWhile_split shaped_int dpAll_int seq0 new_ext seqI Has pe_has noE rLen)
theorem scSt : FnScope ["script"] ["script"] (defScope sSt) := ⟨rfl, rfl, rfl, by decide +kernel, rfl, by decide +kernel, by decide +kernel⟩
theorem scDr : FnScope ["stream", "many", "cell", "digit", "mixed"] ["stream", "many"] (defScope sDr) := ⟨rfl, rfl, rfl, by decide +kernel, rfl, by decide +kernel, by decide +kernel⟩
theorem scMx : FnScope ["stream", "some", "left", "k"] ["stream", "some"] (defScope sMx) := ⟨rfl, rfl, rfl, by decide +kernel, rfl, by decide +kernel, by decide +kernel⟩
def scOf : List Stmt → Scope
  | [_, .Return (some (.ListComp _ _ sc _)) _] => sc
  | _ => defScope sMx
def mxSc : Scope := scOf (defBody sMx)
theorem scIl : FnScope ["thing"] ["thing"] (defScope sIl) := ⟨rfl, rfl, rfl, by decide +kernel, rfl, by decide +kernel, by decide +kernel⟩
theorem scIp : FnScope ["thing"] ["thing"] (defScope sIp) := ⟨rfl, rfl, rfl, by decide +kernel, rfl, by decide +kernel, by decide +kernel⟩
theorem scIn : FnScope ["thing"] ["thing"] (defScope sIn) := ⟨rfl, rfl, rfl, by decide +kernel, rfl, by decide +kernel, by decide +kernel⟩
theorem scIf : FnScope ["thing"] ["thing"] (defScope sIf) := ⟨rfl, rfl, rfl, by decide +kernel, rfl, by decide +kernel, by decide +kernel⟩
theorem scIr : FnScope ["thing", "figure"] ["thing"] (defScope sIr) := ⟨rfl, rfl, rfl, by decide +kernel, rfl, by decide +kernel, by decide +kernel⟩
def scOfA : List Stmt → Scope
  | [.Return (some (.BoolOp _ [_, .Call _ [.ListComp _ _ sc _] _ _] _)) _] => sc
  | _ => defScope sIr
def irSc : Scope := scOfA (defBody sIr)
theorem scSm : FnScope Nsm ["found", "due"] (defScope sSm) := ⟨rfl, rfl, rfl, by decide +kernel, rfl, by decide +kernel, by decide +kernel⟩
def scOfD : List Stmt → Scope
  | .If _ (_ :: .Return (some (.BoolOp _ [_, .Call _ [.ListComp _ _ sc _] _ _] _)) _ :: _) _ _ :: _ => sc
  | _ => defScope sSm
def smSc : Scope := scOfD (defBody sSm)
section
variable {P : Program} {w : World} {K : Frag} {mg : Str → Option Value} {base : Heap}
theorem ok_st {f : Addr} {fd : FuncData} (F : FunD K "_law_start" "_law_start" (defArgs sSt) (defBody sSt) (defScope sSt) [] [] f fd) (ml : mg "list" = none) : FnOk P w K mg base CX0 1 f fd ["script"] (spStart K) := by
  refine F.ok scSt (fun vs H Q E h => ?_) (fun cdv A outer s H vs Q XE hr h => ?_)
  · obtain ⟨a, ns, rfl, _⟩ := h
    rfl
  · obtain ⟨a, ns, rfl, hS, k⟩ := h
    refine ⟨_, PSs.nox (pss_one (ps_ret (pe_lst (pa_cons (pe_callTy call_list_of (by rfl) ml boot_li (pa_cons (pv 0) pa_nil)) (pa_cons pe_int (pa_cons pe_int (pa_cons pe_int pa_nil))))))), ?_⟩
    refine ⟨.ref a, rfl, a, _, rfl, .inl hS, fun li n1 => ⟨small4 4, fun l n2 => ?_⟩⟩
    have ne : l ≠ li := fun z => by
      rw [z, upd_same] at n2
      cases n2
    refine k _ l li ((same_new n1).trans (same_new n2)) ((same_new n1).free n2) n1 ⟨upd_same, by rw [upd_ne ne.symm, upd_same], ne, by decide, by decide, by decide, by decide⟩
theorem ok_drw {f : Addr} {fd : FuncData} (F : FunD K "_law_draw" "_law_draw" (defArgs sDr) (defBody sDr) (defScope sDr) [] [] f fd) (mi : mg "int" = none) : FnOk P w K mg base CX0 1 f fd ["stream", "many"] spDrW := by
  refine F.ok scDr (fun vs H Q E h => ?_) (fun cdv A outer s H vs Q XE hr h => ?_)
  · obtain ⟨l, li, c, many, rfl, _⟩ := h
    rfl
  · obtain ⟨l, li, c, many, rfl, ⟨ns, b, d, hs, nl⟩, m0, m1, c1, k0⟩ := h
    have k : ∀ (H' : Hp) (ns' : List Int) (b' d' r : Int), ExtS l li H H' → SS H' l li ns' b' (c + 1) d' → ns'.length ≤ 1000 → 0 ≤ r → r < many → Q (.int r) H' := fun H' ns' b' d' r e s n a1 a2 => k0 H' r e ⟨ns', b', d', s, n⟩ a1 a2
    refine ⟨_, PSs.nox (pss_cons (ps_asg (pe_op op_add (pe_ix ix_list (pv 0) pe_int (fun _ _ => rfl)) pe_int) (pg_sub (pv 0) pe_int set_list))
      (pss_cons (ps_while PassesOwn.never ((pw_and (pt_cmpR op_eq (pe_ix ix_list (pv 0) pe_int (fun _ _ => rfl)) pe_int (nomark _)) (pw_and1 (pt_cmpR (op_neD hr.units) (pe_ix ix_list (pv 0) pe_int (fun _ _ => rfl)) (pe_lst pa_nil) (nomark _)))).pt)
        (pss_cons (ps_set (i := 2) scDr.nd rfl (.inl rfl) (pe_bm PySem.F.plainAttrs_list PySem.F.slot_list_pop PySem.F.type_list_pop mt_popAt (pe_ix ix_list (pv 0) pe_int (fun _ _ => rfl)) (pa_cons pe_int pa_nil)))
        (pss_cons (ps_asg (pe_op op_mod (pe_callTy call_int1 (by rfl) mi boot_in (pa_cons (pe_op op_add (pe_op op_add (pe_op op_mul (pe_ix ix_list (pv 0) pe_int (fun _ _ => rfl)) pe_int) (pv 2)) pe_int) pa_nil)) pe_int) (pg_sub (pv 0) pe_int set_list))
        (pss_one (ps_asg (pe_ifExp (pt_cmpR op_ge (pv 2) (pe_op op_pow pe_int pe_int) (nomark _)) (pv 2) pe_int) (pg_sub (pv 0) pe_int set_list))))))
      (pss_cons (ps_if (pt_cmpR op_gt (pe_ix ix_list (pv 0) pe_int (fun _ _ => rfl)) pe_int (nomark _))
        (pss_cons (ps_set (i := 3) scDr.nd rfl (.inl rfl) (pe_op op_mod (pe_callTy call_int1 (by rfl) mi boot_in (pa_cons (pe_ix ix_list (pv 0) pe_int (fun _ _ => rfl)) pa_nil)) (pv 1)))
        (pss_cons (ps_asg (pe_op op_fdiv (pe_ix ix_list (pv 0) pe_int (fun _ _ => rfl)) (pv 1)) (pg_sub (pv 0) pe_int set_list))
        (pss_one (ps_ret (pv 3))))) pss_nil)
      (pss_cons (ps_set (i := 4) scDr.nd rfl (.inl rfl) (pe_op op_mod (pe_callTy call_int1 (by rfl) mi boot_in (pa_cons (pe_op op_pow (pe_op op_add (pe_op op_add (pe_ix ix_list (pv 0) pe_int (fun _ _ => rfl)) (pe_op op_mul pe_int (pe_ix ix_list (pv 0) pe_int (fun _ _ => rfl)))) pe_int) pe_int) pa_nil)) pe_int))
      (pss_one (ps_ret (pe_op op_mod (pe_op op_mod (pe_callTy call_int1 (by rfl) mi boot_in (pa_cons (pe_op op_pow (pe_op op_add (pe_op op_add (pe_op op_mul (pv 4) pe_int) (pe_op op_mul pe_int (pe_ix ix_list (pv 0) pe_int (fun _ _ => rfl)))) pe_int) pe_int) pa_nil)) pe_int) (pv 1)))))))), ?_⟩
    have q2 := hs.set (b' := b) (c' := c + 1) (d' := d) hs.b0 (by have := hs.c0; omega) hs.d0 hs.d1
    refine ⟨.ref l, rfl, l, _, 2, .int c, rfl, rfl, .inl (.inl hs.l1), atI_nat (j := 2) rfl, c, 1, rfl, rfl, .ref l, rfl, l, _, 2, 2, rfl, rfl, hs.l1, rfl, ?_⟩
    refine tWhile_split (fun σ H' => ∃ (x2 : Option V) (ns' : List Int) (b' d' : Int), σ = [some (.ref l), some (.int many), x2, none, none] ∧ SS H' l li ns' b' (c + 1) d' ∧ ExtS l li H H' ∧ ns'.length ≤ 1000) (fun σ H' ⟨x2, ns', b', d', e, s, ex, nl'⟩ => ?_) (fun after => ?_)
    · subst e
      have c0 := s.c0
      have d0 := s.d0
      have d1 := s.d1
      have c00 := hs.c0
      refine ⟨.ref l, rfl, l, _, 1, .int b', rfl, rfl, .inl (.inl s.l1), atI_nat (j := 1) rfl, b', 0, rfl, rfl, _, rfl, ite2 (fun e => ?_) (fun e => ?_)⟩
      · refine ⟨.ref l, rfl, l, _, 1, .int b', rfl, rfl, .inl (.inl s.l1), atI_nat (j := 1) rfl, .inl ⟨_, rfl, .int many, rfl, b', many, rfl, rfl, m0, ?_⟩⟩
        obtain ⟨s2, ex2⟩ := s.set (b' := b' / many) (c' := c + 1) (d' := d') (Int.ediv_nonneg s.b0 (Int.le_of_lt m0)) c0 d0 d1
        refine ⟨.ref l, rfl, l, _, 1, .int b', rfl, rfl, .inl (.inl s.l1), atI_nat (j := 1) rfl, .int many, rfl, b', many, rfl, rfl, ⟨m0, by show many < 1073741824; omega⟩, .ref l, rfl, l, _, 1, 1, rfl, rfl, s.l1, rfl, .int (b' % many), rfl, ?_⟩
        exact k _ ns' _ d' _ (ex.trans ex2) s2 nl' (Int.emod_nonneg _ (by omega)) (Int.emod_lt_of_pos _ m0)
      · have t1 : (6151 : Int) * (c + 1) = 6151 * c + 6151 := by omega
        have t2 : (40009 : Int) * (c + 1) = 40009 * c + 40009 := by omega
        refine ⟨.ref l, rfl, l, _, 3, .int d', rfl, rfl, .inl (.inl s.l1), atI_nat (j := 3) rfl, .ref l, rfl, l, _, 2, .int (c + 1), rfl, rfl, .inl (.inl s.l1), atI_nat (j := 2) rfl, 6151, c + 1, rfl, rfl, .inl ⟨by decide, by decide⟩, d', _, rfl, rfl, _, 130003, rfl, rfl, _, 5, rfl, rfl,
          ⟨by decide, by decide, ?_⟩, .inl ⟨_, rfl, _, 2147483629, rfl, rfl, (show (0:Int) < 2147483629 by decide), ?_⟩⟩
        · rw [t1]
          show Int.natAbs _ < 18446744073709551616
          omega
        · have x0 : ∀ z : Int, 0 ≤ z % 2147483629 := fun z => Int.emod_nonneg _ (by decide)
          have x1 : ∀ z : Int, z % 2147483629 < 2147483629 := fun z => Int.emod_lt_of_pos _ (by decide)
          have x2 := x0 ((d' + 6151 * (c + 1) + 130003) ^ (5 : Int).toNat)
          have x3 := x1 ((d' + 6151 * (c + 1) + 130003) ^ (5 : Int).toNat)
          refine ⟨_, rfl, _, 69621, rfl, rfl, .inl ⟨by omega, by omega⟩, .ref l, rfl, l, _, 2, .int (c + 1), rfl, rfl, .inl (.inl s.l1), atI_nat (j := 2) rfl, 40009, c + 1, rfl, rfl, .inl ⟨by decide, by decide⟩, _, _, rfl, rfl, _, 31, rfl, rfl, _, 3, rfl, rfl, ⟨by decide, by decide, ?_⟩,
            .inl ⟨_, rfl, _, 1000000007, rfl, rfl, (show (0:Int) < 1000000007 by decide), .int many, rfl, _, many, rfl, rfl, m0, ?_⟩⟩
          · rw [t2]
            show Int.natAbs _ < 18446744073709551616
            omega
          · exact k _ ns' b' d' _ ex s nl' (Int.emod_nonneg _ (by omega)) (Int.emod_lt_of_pos _ m0)
    · refine ⟨fun m σ H' => ∃ x2, σ = [some (.ref l), some (.int many), x2, none, none] ∧ ∃ (ns' : List Int) (b' d' : Int), SS H' l li ns' b' (c + 1) d' ∧ ExtS l li H H' ∧ ns'.length ≤ 1000 ∧ m = ns'.length, ⟨ns.length, none, rfl, ns, b, d, q2.1, q2.2, nl, rfl⟩, fun m σ H' hW => ?_⟩
      obtain ⟨x2, rfl, ns', b', d', s, ex, nl', rfl⟩ := hW
      have c0 := s.c0
      have d0 := s.d0
      have d1 := s.d1
      refine ⟨.ref l, rfl, l, _, 1, .int b', rfl, rfl, .inl (.inl s.l1), atI_nat (j := 1) rfl, rfl, _, rfl, ite2 (fun e => ?_) (fun e => ?_)⟩
      · refine ⟨.ref l, rfl, l, _, 0, .ref li, rfl, rfl, .inl (.inl s.l1), atI_nat (j := 0) rfl, Nat.zero_le _, fun p np => ?_⟩
        obtain ⟨s2, ex2⟩ := s.new (o := .lst []) np
        refine ⟨.list (ns'.map PyData.int), .list [], .lst (.inl (.inl s2.l2)) (dpAll_int _), .lst (.inl (.inl upd_same)) .nil, shaped_int _ , rfl, _, rfl, ?_⟩
        cases ns' with
        | nil => exact iteF (after _ _ ⟨x2, [], b', d', rfl, s2, ex.trans ex2, nl'⟩)
        | cons n r =>
          obtain ⟨s3, ex3⟩ := s2.pop
          refine iteT ⟨fun σ' H' => ∃ x2, σ' = [some (.ref l), some (.int many), x2, none, none] ∧ ∃ (b' d' : Int), SS H' l li r b' (c + 1) d' ∧ ExtS l li H H', fun σ' H' ⟨y2, e1, b2, d2, e2, e3⟩ => ⟨r.length, Nat.lt_succ_self _, y2, e1, r, b2, d2, e2, e3, by simp at nl'; omega, rfl⟩, ?_⟩
          refine ⟨.ref l, rfl, l, _, 0, .ref li, rfl, rfl, .inl (.inl s2.l1), atI_nat (j := 0) rfl, .inl ⟨rfl, _, .inl (.inl s2.l2)⟩, li, _, 0, 0, .int n, rfl, rfl, s2.l2, by decide, by decide, seq0 _ _, rfl, ?_⟩
          have hd : 0 ≤ (d' * 65599 + n + 7) % 2147483647 := Int.emod_nonneg _ (by decide)
          have hd1 : (d' * 65599 + n + 7) % 2147483647 < 2147483647 := Int.emod_lt_of_pos _ (by decide)
          obtain ⟨s4, ex4⟩ := s3.set (b' := b') (c' := c + 1) (d' := (d' * 65599 + n + 7) % 2147483647) s.b0 c0 hd hd1
          refine ⟨.ref l, rfl, l, _, 3, .int d', rfl, rfl, .inl (.inl s3.l1), atI_nat (j := 3) rfl, d', 65599, rfl, rfl, .inl ⟨by omega, by omega⟩, .int n, rfl, _, n, rfl, rfl, _, 7, rfl, rfl, .inl ⟨_, rfl, _, 2147483647, rfl, rfl, (show (0:Int) < 2147483647 by decide), .ref l, rfl, l, _, 3, 3, rfl, rfl, s3.l1, rfl, ?_⟩⟩
          have exx := ((ex.trans ex2).trans ex3).trans ex4
          refine ⟨.int n, rfl, 10, 18, rfl, rfl, ⟨by decide, by decide, by decide⟩, n, _, rfl, rfl, _, rfl, ite2 (fun g => ?_) (fun g => ?_)⟩
          · have n0 : 0 ≤ n := by
              have g1 := of_decide_eq_true g
              have g2 : ((10 : Int) ^ (18 : Int).toNat) = 1000000000000000000 := by decide
              rw [g2] at g1
              omega
            obtain ⟨s5, ex5⟩ := s4.set (b' := n) (c' := c + 1) (d' := (d' * 65599 + n + 7) % 2147483647) n0 c0 hd hd1
            exact ⟨.int n, rfl, .ref l, rfl, l, _, 1, 1, rfl, rfl, s4.l1, rfl, _, rfl, n, _, s5, exx.trans ex5⟩
          · obtain ⟨s5, ex5⟩ := s4.set (b' := 0) (c' := c + 1) (d' := (d' * 65599 + n + 7) % 2147483647) (Int.le_refl _) c0 hd hd1
            exact ⟨.ref l, rfl, l, _, 1, 1, rfl, rfl, s4.l1, rfl, _, rfl, 0, _, s5, exx.trans ex5⟩
      · exact iteF (after _ _ ⟨x2, ns', b', d', rfl, s, ex, nl'⟩)
theorem ok_il {f : Addr} {fd : FuncData} (F : FunD K "is_list" "is_list" (defArgs sIl) (defBody sIl) (defScope sIl) [] [] f fd) (mi : mg "isinstance" = none) (ml : mg "list" = none) (mt : mg "tuple" = none) : FnOk P w K mg base CX0 1 f fd ["thing"] (spLook isL) := by
  refine F.ok scIl (fun vs H Q E h => ?_) (fun cdv A outer s H vs Q XE hr h => ?_)
  · obtain ⟨v, d, rfl, _⟩ := h
    rfl
  · obtain ⟨v, d, rfl, hv, k⟩ := h
    refine ⟨_, PSs.nox (pss_one (ps_ret (pe_callB call_isiT (by rfl) mi boot_isi (pa_cons (pv 0) (pa_cons (pe_tup (pa_cons (pe_bltn (by rfl) ml boot_li (v := .ty "list") rfl) (pa_cons (pe_bltn (by rfl) mt boot_tu (v := .ty "tuple") rfl) pa_nil))) pa_nil))))), ?_⟩
    refine ⟨v, rfl, small4 2, fun p np => ⟨v, p, _, _, _, _, rfl, upd_same, .cons (.ty _) (.cons (.ty _) .nil), (hv.ext (same_new np)).ty, is_lt d, k _ (same_new np)⟩⟩
theorem ok_in {f : Addr} {fd : FuncData} (F : FunD K "is_number" "is_number" (defArgs sIn) (defBody sIn) (defScope sIn) [] [] f fd) (mi : mg "isinstance" = none) (mn : mg "int" = none) (mb : mg "bool" = none) : FnOk P w K mg base CX0 1 f fd ["thing"] (spLook isN) := by
  refine F.ok scIn (fun vs H Q E h => ?_) (fun cdv A outer s H vs Q XE hr h => ?_)
  · obtain ⟨v, d, rfl, _⟩ := h
    rfl
  · obtain ⟨v, d, rfl, hv, k⟩ := h
    refine ⟨_, PSs.nox (pss_one (ps_ret (pe_and (pe_callB call_isi (by rfl) mi boot_isi (pa_cons (pv 0) (pa_cons (pe_bltn (by rfl) mn boot_in (v := .ty "int") rfl) pa_nil))) (pe_and (pe_not (pe_callB call_isi (by rfl) mi boot_isi (pa_cons (pv 0) (pa_cons (pe_bltn (by rfl) mb boot_bo (v := .ty "bool") rfl) pa_nil)))) (pe_one (pe_cmpR op_ge (pv 0) pe_int (nomark _))))))), ?_⟩
    refine ⟨v, rfl, v, _, _, _, _, rfl, .ty _, hv.ty, is_in d, _, rfl, ?_⟩
    cases hv with
    | int i =>
      refine iteT ⟨.int i, rfl, .int i, _, _, _, _, rfl, .ty _, .base (.int i), is_bo (.int i), _, rfl, _, rfl, iteT ⟨.int i, rfl, i, 0, rfl, rfl, ?_⟩⟩
      have e := k H (fun _ _ e => e)
      exact e
    | bl b =>
      refine iteT ⟨.bl b, rfl, .bl b, _, _, _, _, rfl, .ty _, .base (.bl b), is_bo (.bool b), _, rfl, _, rfl, iteF ?_⟩
      exact k H (fun _ _ e => e)
    | _ => exact iteF (k H (fun _ _ e => e))
theorem ok_ip {f : Addr} {fd : FuncData} (F : FunD K "is_pair" "is_pair" (defArgs sIp) (defBody sIp) (defScope sIp) [] [] f fd) (L : Has P w K mg base "is_list" 1 ["thing"] (spLook isL)) (mn : mg "len" = none) : FnOk P w K mg base CX0 2 f fd ["thing"] (spLook isP) := by
  refine F.ok scIp (fun vs H Q E h => ?_) (fun cdv A outer s H vs Q XE hr h => ?_)
  · obtain ⟨v, d, rfl, _⟩ := h
    rfl
  · obtain ⟨v, d, rfl, hv, k⟩ := h
    refine ⟨_, PSs.nox (pss_one (ps_ret (pe_and (pe_has L hr (by rfl) (pa_cons (pv 0) pa_nil)) (pe_one (pe_cmpR op_eq (pe_callB call_len_seq (by rfl) mn boot_len (pa_cons (pv 0) pa_nil)) pe_int (nomark _)))))), ?_⟩
    refine ⟨v, rfl, v, d, rfl, hv, fun H1 s1 => ⟨isL d, rfl, ?_⟩⟩
    cases l : isL d with
    | false =>
      refine iteF ?_
      have e := k H1 s1
      unfold isP at e
      rw [l] at e
      exact e
    | true =>
      obtain ⟨a, xs, rfl, r, hx⟩ := (hv.ext s1).seq (K := K) l
      refine iteT ⟨.ref a, rfl, a, xs, rfl, ?_, rfl, ?_⟩
      · rcases hx with hx | hx
        · exact .inl (.inl (.inl hx))
        · exact .inr (.inl (.inl hx))
      · have e := k H1 s1
        unfold isP at e
        rw [l, Bool.true_and, ← r.length] at e
        have e2 : (decide (V.int (xs.length : Int) = V.int 2)) = decide (xs.length = 2) := by
          by_cases q : xs.length = 2
          · rw [q]; rfl
          · rw [decide_eq_false q, decide_eq_false (fun z => q (by have := V.int.inj z; omega))]
        show Q (.bl (decide (V.int (xs.length : Int) = V.int 2))) H1
        rw [e2]
        exact e
theorem ok_if {f : Addr} {fd : FuncData} (F : FunD K "is_figure" "is_figure" (defArgs sIf) (defBody sIf) (defScope sIf) [] [] f fd) (L : Has P w K mg base "is_number" 1 ["thing"] (spLook isN)) : FnOk P w K mg base CX0 2 f fd ["thing"] (spLook isF) := by
  refine F.ok scIf (fun vs H Q E h => ?_) (fun cdv A outer s H vs Q XE hr h => ?_)
  · obtain ⟨v, d, rfl, _⟩ := h
    rfl
  · obtain ⟨v, d, rfl, hv, k⟩ := h
    refine ⟨_, PSs.nox (pss_one (ps_ret (pe_and (pe_has L hr (by rfl) (pa_cons (pv 0) pa_nil)) (pe_one (pe_cmpR op_le (pv 0) pe_int (nomark _)))))), ?_⟩
    refine ⟨v, rfl, v, d, rfl, hv, fun H1 s1 => ⟨isN d, rfl, ?_⟩⟩
    have e := k H1 s1
    cases hv with
    | int i =>
      have e : Q (.bl (decide (0 ≤ i) && decide (i ≤ 1))) H1 := e
      cases l : isN (.int i) with
      | false =>
        refine iteF ?_
        have l2 : decide (0 ≤ i) = false := l
        rw [l2] at e
        exact e
      | true =>
        have l2 : decide (0 ≤ i) = true := l
        rw [l2, Bool.true_and] at e
        exact iteT ⟨.int i, rfl, i, 1, rfl, rfl, e⟩
    | _ => exact iteF e
theorem ok_ir {f : Addr} {fd : FuncData} (F : FunD K "is_row" "is_row" (defArgs sIr) (defBody sIr) (defScope sIr) [] [] f fd) (L : Has P w K mg base "is_list" 1 ["thing"] (spLook isL)) (G : Has P w K mg base "is_figure" 2 ["thing"] (spLook isF)) (ma : mg "all" = none) :
    FnOk P w K mg base CX0 3 f fd ["thing"] (fun vs H Q E => ∃ (v : V) (d : PyData), vs = [v] ∧ Th H v d ∧ (its d).length ≤ 100000 ∧ ∀ H', L2.Same H H' → Q (.bl (isR d)) H') := by
  refine F.ok scIr (fun vs H Q E h => ?_) (fun cdv A outer s H vs Q XE hr h => ?_)
  · obtain ⟨v, d, rfl, _⟩ := h
    rfl
  · obtain ⟨v, d, rfl, hv, hl, k⟩ := h
    refine ⟨_, PSs.nox (pss_one (ps_ret (pe_and (pe_has L (hr.mono (by decide)) (by rfl) (pa_cons (pv 0) pa_nil)) (pe_one (pe_callB (cr_all rfl) (by rfl) ma boot_all (pa_cons (pe_lc (X := (cxOf CX0 P w K mg base ["thing", "figure"] "is_row" (defScope sIr) f cdv A outer s H XE).nox) (scope := irSc) (te := tCall (spLook isF) [] noE (tCons (tVar 1) tNil)) (own := [("figure", 1)]) (g := gName 1) (tt := tYes) rfl scIr.nd
      (pi_or (pi_list (pv 0)) (pi_tup (pv 0))) (blkOk_by (N := ["thing", "figure"]) (sc := defScope sIr) (by decide +kernel)) (fun _ _ _ _ _ => pg_name (i := 1) scIr.nd rfl (Or.inl rfl)) (fun _ _ _ _ _ => pts_nil)
      (fun s0 H0 C0 cl0 fp0 => pe_has (X := Cx.blk ((cxOf CX0 P w K mg base ["thing", "figure"] "is_row" (defScope sIr) f cdv A outer s H XE).nox) s0 H0 irSc (compEnvC irSc cl0 C0 (Cx.env ((cxOf CX0 P w K mg base ["thing", "figure"] "is_row" (defScope sIr) f cdv A outer s H XE).nox))) fp0) G hr (by rfl) (pa_cons (pv 1) pa_nil))) pa_nil)))))), ?_⟩
    refine ⟨v, rfl, v, d, rfl, hv, fun H1 s1 => ⟨isL d, rfl, ?_⟩⟩
    cases l : isL d with
    | false =>
      refine iteF ?_
      have e := k H1 s1
      unfold isR at e
      rw [l] at e
      exact e
    | true =>
      obtain ⟨a, xs, rfl, r, hx⟩ := (hv.ext s1).seq (K := K) l
      have lx : xs.length = (its d).length := r.length
      have step : ∀ (D : Addr), H1 D = none → ∀ (i : Nat) (x : V) (H2 : Hp), xs[i]? = some x → (L2.Same H1 H2 ∧ H2 D = some (.lst (((its d).take i).map fun z => V.bl (isF z)))) → ∀ (σ2 : L2.St), σ2[1]? = some (some x) →
          tCall (spLook isF) [] noE (tCons (tVar 1) tNil) σ2 H2 fun y H4 => ∃ acc, H4 D = some (.lst acc) ∧ acc.length < sizeLine ∧ (L2.Same H1 (upd H4 D (.lst (acc ++ [y]))) ∧ (upd H4 D (.lst (acc ++ [y]))) D = some (.lst (((its d).take (i + 1)).map fun z => V.bl (isF z)))) := by
        intro D hD i x H2 hi ⟨S, hA⟩ σ2 h2
        obtain ⟨z, hz, tz⟩ := r.get hi
        refine ⟨x, h2, x, z, rfl, tz.ext S, fun H4 s4 => ⟨_, s4 _ _ hA, ?_, fun b o e => ?_, ?_⟩⟩
        · rw [List.length_map, List.length_take, sizeLine_eq]
          omega
        · rw [upd_ne (ne_of_none e hD)]
          exact s4 _ _ (S _ _ e)
        · rw [upd_same]
          have et : (its d).take (i + 1) = (its d).take i ++ [z] := by
            rw [List.take_add_one, hz]
            rfl
          rw [et, List.map_append]
          rfl
      have fin : ∀ (D : Addr) (H2 : Hp), (L2.Same H1 H2 ∧ H2 D = some (.lst (((its d).take xs.length).map fun z => V.bl (isF z)))) → rAll K [.ref D] H2 Q := by
        intro D H2 ⟨S, hA⟩
        refine ⟨D, ((its d).take xs.length).map isF, rfl, .inl (.inl (by rw [List.map_map]; exact hA)), ?_⟩
        rw [lx, List.take_length, List.all_map]
        have e := k H2 (s1.trans S)
        unfold isR at e
        rw [l, Bool.true_and] at e
        exact e
      refine iteT ?_
      rcases hx with hx | hx
      · refine .inl ⟨.ref a, rfl, a, rfl, ⟨xs, .inl (.inl hx)⟩, fun D hD => lc_list (xs := xs) (fun i H2 => L2.Same H1 H2 ∧ H2 D = some (.lst (((its d).take i).map fun z => V.bl (isF z)))) ⟨same_new hD, upd_same⟩ (fun i H2 _ e => .inl (.inl (e.1 _ _ hx))) (fun i x H2 hi e => ?_) (fun H2 e => fin D H2 e)⟩
        refine ⟨rfl, ?_⟩
        unfold tYes
        show (if true = true then _ else _)
        rw [if_pos rfl]
        exact step D hD i x H2 hi e _ rfl
      · refine .inr ⟨.ref a, rfl, a, rfl, ⟨xs, .inl (.inl hx)⟩, fun D hD => lc_tup (xs := xs) (fun i H2 => L2.Same H1 H2 ∧ H2 D = some (.lst (((its d).take i).map fun z => V.bl (isF z)))) ⟨same_new hD, upd_same⟩ (fun i H2 _ e => .inl (.inl (e.1 _ _ hx))) (fun i x H2 hi e => ?_) (fun H2 e => fin D H2 e)⟩
        refine ⟨rfl, ?_⟩
        unfold tYes
        show (if true = true then _ else _)
        rw [if_pos rfl]
        exact step D hD i x H2 hi e _ rfl
/-- things that are no lists and no dicts -/
theorem sm_flat (B : BtK mg) {f : Addr} {cdv : Value} {A : Around} {outer : List Env} {s : Shared} {H : Hp} {Q : VK} {XE : XK} {v u : V} {d : PyData} (hv : Th H v d) (hu : Th H u d) (l0 : isL d = false) (d0 : isD d = false) (k : ∀ H', L2.Same H H' → Q (.bl true) H') :
    ∃ t, PSs (cxOf CX0 P w K mg base Nsm "_law_same" (defScope sSm) f cdv A outer s H XE) (defBody sSm) t ∧ t { nx := fun _ H' => Q .non H', rt := Q } (L2.start Nsm [v, u]) H := by
  refine ⟨_, PSs.nox (pss_cons (ps_if (pt_val (pe_callB call_isiT (by rfl) B.is boot_isi (pa_cons (pv 1) (pa_cons (pe_tup (pa_cons (pe_bltn (by rfl) B.li boot_li (v := .ty "list") rfl) (pa_cons (pe_bltn (by rfl) B.tu boot_tu (v := .ty "tuple") rfl) pa_nil))) pa_nil)))) pss_never pss_nil)
    (pss_cons (ps_if (pt_val (pe_callB call_isi (by rfl) B.is boot_isi (pa_cons (pv 1) (pa_cons (pe_bltn (by rfl) B.di boot_di (v := .ty "dict") rfl) pa_nil)))) pss_never pss_nil)
    (pss_cons (ps_if (pt_val (pe_callB call_isi (by rfl) B.is boot_isi (pa_cons (pv 1) (pa_cons (pe_bltn (by rfl) B.it boot_in (v := .ty "int") rfl) pa_nil))))
      (pss_one (ps_ret (pe_and (pe_callB call_isi (by rfl) B.is boot_isi (pa_cons (pv 0) (pa_cons (pe_bltn (by rfl) B.it boot_in (v := .ty "int") rfl) pa_nil))) (pe_and (pe_cmpR op_eq (pe_callB call_isi (by rfl) B.is boot_isi (pa_cons (pv 0) (pa_cons (pe_bltn (by rfl) B.bo boot_bo (v := .ty "bool") rfl) pa_nil))) (pe_callB call_isi (by rfl) B.is boot_isi (pa_cons (pv 1) (pa_cons (pe_bltn (by rfl) B.bo boot_bo (v := .ty "bool") rfl) pa_nil))) (nomark _))
        (pe_one (pe_cmpR op_eq (pv 0) (pv 1) (nomark _))))))) pss_nil)
    (pss_one (ps_ret (pe_and (pe_not (pe_callB call_isiT (by rfl) B.is boot_isi (pa_cons (pv 0) (pa_cons (pe_tup (pa_cons (pe_bltn (by rfl) B.it boot_in (v := .ty "int") rfl) (pa_cons (pe_bltn (by rfl) B.li boot_li (v := .ty "list") rfl) (pa_cons (pe_bltn (by rfl) B.tu boot_tu (v := .ty "tuple") rfl) (pa_cons (pe_bltn (by rfl) B.di boot_di (v := .ty "dict") rfl) pa_nil))))) pa_nil)))) (pe_one (pe_cmpR op_eq (pv 0) (pv 1) (nomark _))))))))), ?_⟩
  refine ⟨u, rfl, small4 2, fun p np => ⟨u, p, _, _, _, _, rfl, upd_same, .cons (.ty _) (.cons (.ty _) .nil), (hu.ext (same_new np)).ty, is_lt d, _, rfl, ?_⟩⟩
  rw [l0]
  have e1 : L2.Same H (upd H p (.tup [.ty "list", .ty "tuple"])) := same_new np
  generalize upd H p (.tup [.ty "list", .ty "tuple"]) = H1 at e1 ⊢
  have hv1 := hv.ext e1
  have hu1 := hu.ext e1
  refine iteF ⟨u, rfl, u, _, _, _, _, rfl, .ty _, hu1.ty, is_di d, _, rfl, ?_⟩
  rw [d0]
  refine iteF ⟨u, rfl, u, _, _, _, _, rfl, .ty _, hu1.ty, kit_in d, _, rfl, ?_⟩
  cases li : isIn d with
  | true =>
    have sc : v = u ∧ scal v u = true := by
      cases hv1 <;> cases hu1 <;> first | exact ⟨rfl, rfl⟩ | exact absurd (show false = true from li) Bool.false_ne_true
    refine iteT ⟨v, rfl, v, _, _, _, _, rfl, .ty _, hv1.ty, kit_in d, _, rfl, ?_⟩
    rw [li]
    refine iteT ⟨v, rfl, v, _, _, _, _, rfl, .ty _, hv1.ty, kit_bo d, u, rfl, u, _, _, _, _, rfl, .ty _, hu1.ty, kit_bo d, rfl, _, rfl, ?_⟩
    rw [decide_eq_true rfl]
    refine iteT ⟨v, rfl, u, rfl, sc.2, ?_⟩
    rw [decide_eq_true sc.1]
    exact k _ e1
  | false =>
    have sc : v = u ∧ scal v u = true ∧ isAny d = false := by
      cases hv1 <;> cases hu1 <;> first | exact ⟨rfl, rfl, rfl⟩ | exact absurd (show true = false from li) (fun z => nomatch z) | exact absurd (show true = false from l0) (fun z => nomatch z) | exact absurd (show true = false from d0) (fun z => nomatch z)
    refine iteF ⟨v, rfl, small4 4, fun q nq => ⟨v, q, _, _, _, _, rfl, upd_same, .cons (.ty _) (.cons (.ty _) (.cons (.ty _) (.cons (.ty _) .nil))), (hv1.ext (same_new nq)).ty, kit_an d, _, rfl, _, rfl, ?_⟩⟩
    rw [sc.2.2]
    refine iteT ⟨v, rfl, u, rfl, sc.2.1, ?_⟩
    rw [decide_eq_true sc.1]
    exact k _ (e1.trans (same_new nq))
/-- the found and the due thing are of one data: the answer is True -/
theorem ok_sm {f : Addr} {fd : FuncData} (F : FunD K "_law_same" "_law_same" (defArgs sSm) (defBody sSm) (defScope sSm) [] [] f fd) (mm : mg "_law_same" = some (.ref f)) (kp : keepIn K (.ref f) = true) (bd : L2.Binds K fd ["found", "due"] []) (B : BtK mg) : ∀ n, FnOk P w K mg base CX0 (n + 1) f fd ["found", "due"] (spSm n) := by
  intro n
  induction n with
  | zero =>
    refine F.ok scSm (fun vs H Q E h => sm_len h) (fun cdv A outer s H vs Q XE hr h => ?_)
    obtain ⟨v, u, d, rfl, hv, hu, hf, k⟩ := h
    refine sm_flat B hv hu ?_ ?_ k
    · cases d <;> first | rfl | exact absurd (show false = true from hf) Bool.false_ne_true
    · cases d <;> first | rfl | exact absurd (show false = true from hf) Bool.false_ne_true
  | succ n ih =>
    have SELF : Has P w K mg base "_law_same" (n + 1) ["found", "due"] (spSm n) := ⟨f, fd, mm, kp, bd, ih⟩
    refine F.ok scSm (fun vs H Q E h => sm_len h) (fun cdv A outer s H vs Q XE hr h => ?_)
    obtain ⟨v, u, d, rfl, hv, hu, hf, k⟩ := h
    have t0 : ∀ {G : Hp} (p : Addr), G p = none → L2.Same G (upd G p (.tup [.ty "list", .ty "tuple"])) := fun p n => same_new n
    cases l0 : isL d with
    | true =>
      refine ⟨_, PSs.nox (pss_cons (ps_if (pt_val (pe_callB call_isiT (by rfl) B.is boot_isi (pa_cons (pv 1) (pa_cons (pe_tup (pa_cons (pe_bltn (by rfl) B.li boot_li (v := .ty "list") rfl) (pa_cons (pe_bltn (by rfl) B.tu boot_tu (v := .ty "tuple") rfl) pa_nil))) pa_nil))))
        (pss_cons (ps_if ((pw_or (pt_cmpR op_ne (pe_callB call_isi (by rfl) B.is boot_isi (pa_cons (pv 0) (pa_cons (pe_bltn (by rfl) B.li boot_li (v := .ty "list") rfl) pa_nil))) (pe_callB call_isi (by rfl) B.is boot_isi (pa_cons (pv 1) (pa_cons (pe_bltn (by rfl) B.li boot_li (v := .ty "list") rfl) pa_nil))) (nomark _))
          (pw_or1 (pt_cmpR op_ne (pe_callB call_isi (by rfl) B.is boot_isi (pa_cons (pv 0) (pa_cons (pe_bltn (by rfl) B.tu boot_tu (v := .ty "tuple") rfl) pa_nil))) (pe_callB call_isi (by rfl) B.is boot_isi (pa_cons (pv 1) (pa_cons (pe_bltn (by rfl) B.tu boot_tu (v := .ty "tuple") rfl) pa_nil))) (nomark _)))).pt) (pss_one (ps_ret pe_bl)) pss_nil)
        (pss_one (ps_ret (pe_and (pe_cmpR op_eq (pe_callB call_len_seq (by rfl) B.ln boot_len (pa_cons (pv 0) pa_nil)) (pe_callB call_len_seq (by rfl) B.ln boot_len (pa_cons (pv 1) pa_nil)) (nomark _)) (pe_one (pe_callB (cr_all rfl) (by rfl) B.al boot_all (pa_cons
          (pe_lc (X := (cxOf CX0 P w K mg base Nsm "_law_same" (defScope sSm) f cdv A outer s H XE).nox) (te := tCall (spSm n) [] noE (tCons (tVar 2) (tCons (tVar 3) tNil))) (scope := smSc) (own := [("x", 2), ("y", 3)]) (g := gTup K 2 (gCons (gName 2) (gCons (gName 3) gNil))) (tt := tYes) rfl scSm.nd (pi_zipA (by rfl) B.zi (pa_cons (pv 0) (pa_cons (pv 1) pa_nil))) (blkOk_by (N := Nsm) (sc := defScope sSm) (by decide +kernel))
            (fun _ _ _ _ _ => pg_tup rfl (pgs_cons (pg_name (i := 2) scSm.nd rfl (Or.inl rfl)) (pgs_cons (pg_name (i := 3) scSm.nd rfl (Or.inl rfl)) pgs_nil))) (fun _ _ _ _ _ => pts_nil)
            (fun s0 H0 C0 cl0 fp0 => pe_has (X := Cx.blk ((cxOf CX0 P w K mg base Nsm "_law_same" (defScope sSm) f cdv A outer s H XE).nox) s0 H0 smSc (compEnvC smSc cl0 C0 (Cx.env ((cxOf CX0 P w K mg base Nsm "_law_same" (defScope sSm) f cdv A outer s H XE).nox))) fp0) SELF hr (by rfl) (pa_cons (pv 2) (pa_cons (pv 3) pa_nil)))) pa_nil))))))) pss_nil) pss_never), ?_⟩
      obtain ⟨m, em, len, fits⟩ : ∃ m, n + 1 = m + 1 ∧ (its d).length ≤ 1000 ∧ ∀ x ∈ its d, fitS m x = true := by
        cases d with
        | list xs =>
          obtain ⟨h1, h2⟩ := Bool.and_eq_true_iff.mp (show (decide (xs.length ≤ 1000) && xs.all (fitS n)) = true from hf)
          exact ⟨n, rfl, of_decide_eq_true h1, fun x hx => List.all_eq_true.mp h2 x hx⟩
        | tuple xs =>
          obtain ⟨h1, h2⟩ := Bool.and_eq_true_iff.mp (show (decide (xs.length ≤ 1000) && xs.all (fitS n)) = true from hf)
          exact ⟨n, rfl, of_decide_eq_true h1, fun x hx => List.all_eq_true.mp h2 x hx⟩
        | _ => exact absurd (show false = true from l0) Bool.false_ne_true
      obtain rfl : n = m := Nat.succ.inj em
      refine ⟨u, rfl, small4 2, fun p np => ⟨u, p, _, _, _, _, rfl, upd_same, .cons (.ty _) (.cons (.ty _) .nil), (hu.ext (same_new np)).ty, is_lt d, _, rfl, ?_⟩⟩
      rw [l0]
      have e1 : L2.Same H (upd H p (.tup [.ty "list", .ty "tuple"])) := same_new np
      generalize upd H p (.tup [.ty "list", .ty "tuple"]) = H1 at e1 ⊢
      have hv1 := hv.ext e1
      have hu1 := hu.ext e1
      refine iteT ⟨v, rfl, v, _, _, _, _, rfl, .ty _, hv1.ty, kit_ls d, u, rfl, u, _, _, _, _, rfl, .ty _, hu1.ty, kit_ls d, rfl, _, rfl, ?_⟩
      rw [decide_eq_true rfl]
      refine iteF ⟨v, rfl, v, _, _, _, _, rfl, .ty _, hv1.ty, kit_tu d, u, rfl, u, _, _, _, _, rfl, .ty _, hu1.ty, kit_tu d, rfl, _, rfl, ?_⟩
      rw [decide_eq_true rfl]
      refine iteF ?_
      have kind : ∃ (a b : Addr) (xs ys : List V), v = .ref a ∧ u = .ref b ∧ ThAll H1 xs (its d) ∧ ThAll H1 ys (its d) ∧ ((H1 a = some (.lst xs) ∧ H1 b = some (.lst ys)) ∨ (H1 a = some (.tup xs) ∧ H1 b = some (.tup ys))) := by
        cases hv1 with
        | lst h r => cases hu1 with | lst h2 r2 => exact ⟨_, _, _, _, rfl, rfl, r, r2, .inl ⟨h, h2⟩⟩
        | tup h r => cases hu1 with | tup h2 r2 => exact ⟨_, _, _, _, rfl, rfl, r, r2, .inr ⟨h, h2⟩⟩
        | _ => exact absurd (show false = true from l0) Bool.false_ne_true
      obtain ⟨a, b, xs, ys, rfl, rfl, rx, ry, hk⟩ := kind
      have lx : xs.length = (its d).length := rx.length
      have ly : ys.length = (its d).length := ry.length
      have sA : SqL K H1 a xs ∨ SqT K H1 a xs := hk.elim (fun q => .inl (.inl (.inl q.1))) fun q => .inr (.inl (.inl q.1))
      have sB : SqL K H1 b ys ∨ SqT K H1 b ys := hk.elim (fun q => .inl (.inl (.inl q.2))) fun q => .inr (.inl (.inl q.2))
      refine ⟨.ref a, rfl, a, xs, rfl, sA, .ref b, rfl, b, ys, rfl, sB, rfl, _, rfl, ?_⟩
      rw [lx, ly, decide_eq_true rfl]
      refine iteT ⟨.ref a, rfl, .ref b, rfl, a, b, xs, ys, rfl, ?_⟩
      let Pv (D0 : Addr) (j : Nat) (H2 : Hp) : Prop := L2.Same H1 H2 ∧ H2 D0 = some (.lst ((List.replicate j true).map V.bl))
      have start : ∀ D0, H1 D0 = none → Pv D0 0 (upd H1 D0 (.lst [])) := fun D0 hD => ⟨same_new hD, upd_same⟩
      have turn : ∀ D0, H1 D0 = none → ∀ (j : Nat) (x : V) (H2 H3 : Hp) (σ : L2.St), j < (its d).length → Pv D0 j H2 → YPair (fun i => xs[i]?) (fun i => ys[i]?) j H2 x H3 → σ = [some (.ref a), some (.ref b), none, none] →
          gTup K 2 (gCons (gName 2) (gCons (gName 3) gNil)) x σ H3 fun σ2 H4 => wipe σ2 [2, 3] = wipe σ [2, 3] ∧ tYes σ2 H4 fun c H5 => if c = true then tCall (spSm n) [] noE (tCons (tVar 2) (tCons (tVar 3) tNil)) σ2 H5 fun y H6 => ∃ acc, H6 D0 = some (.lst acc) ∧ acc.length < sizeLine ∧ Pv D0 (j + 1) (upd H6 D0 (.lst (acc ++ [y]))) else Pv D0 (j + 1) H5 := by
        intro D0 hD j x H2 H3 σ hj hp hy es
        subst es
        obtain ⟨T, x0, y0, rfl, nT, rfl, g1, g2⟩ := hy
        obtain ⟨q1, q2⟩ := hp
        obtain ⟨z, hz, tz⟩ := rx.get g1
        obtain ⟨z2, hz2, tz2⟩ := ry.get g2
        rw [hz] at hz2
        obtain rfl := Option.some.inj hz2
        have eT : L2.Same H2 (upd H2 T (.tup [x0, y0])) := same_new nT
        refine ⟨T, [x0, y0], rfl, .inl (.inl upd_same), rfl, x0, [y0], rfl, y0, [], rfl, rfl, rfl, ?_⟩
        unfold tYes
        show (if true = true then _ else _)
        rw [if_pos rfl]
        refine ⟨x0, rfl, y0, rfl, x0, y0, z, rfl, tz.ext (q1.trans eT), tz2.ext (q1.trans eT), fits z (List.mem_of_getElem? hz), fun H6 e6 => ⟨_, e6 _ _ (eT _ _ q2), ?_, fun c o ec => ?_, ?_⟩⟩
        · rw [List.length_map, List.length_replicate, sizeLine_eq]
          omega
        · rw [upd_ne (ne_of_none ec hD)]
          exact e6 _ _ (eT _ _ (q1 _ _ ec))
        · rw [upd_same, List.replicate_succ', List.map_append]
          rfl
      have fin : ∀ D0, H1 D0 = none → ∀ H2, Pv D0 (its d).length H2 → rAll K [.ref D0] H2 Q := fun D0 hD H2 ⟨q1, q2⟩ => by
        refine ⟨D0, List.replicate (its d).length true, rfl, .inl (.inl q2), ?_⟩
        have e : (List.replicate (its d).length true).all id = true := List.all_eq_true.mpr fun x hx => (List.mem_replicate.mp hx).2
        rw [e]
        exact k H2 (e1.trans q1)
      rcases hk with ⟨ha, hb⟩ | ⟨ha, hb⟩
      · exact .inl ⟨.inl (.inl ha), .inl (.inl hb), fun D0 hD => lc_it (walk_zip (n := (its d).length) (by omega)) (Pv D0) (start D0 hD) (fun i H2 _ e => ⟨.inl (.inl (e.1 _ _ ha)), .inl (.inl (e.1 _ _ hb))⟩) (fun i x H2 H3 hi e hy => turn D0 hD i x H2 H3 _ hi e hy rfl) (fun H2 e => fin D0 hD H2 e)⟩
      · exact .inr ⟨.inl (.inl ha), .inl (.inl hb), fun D0 hD => lc_it (walk_zipT (n := (its d).length) (by omega)) (Pv D0) (start D0 hD) (fun i H2 _ e => ⟨.inl (.inl (e.1 _ _ ha)), .inl (.inl (e.1 _ _ hb))⟩) (fun i x H2 H3 hi e hy => turn D0 hD i x H2 H3 _ hi e hy rfl) (fun H2 e => fin D0 hD H2 e)⟩
    | false =>
      cases d0 : isD d with
      | false => exact sm_flat B hv hu l0 d0 k
      | true =>
        refine ⟨_, PSs.nox (pss_cons (ps_if (pt_val (pe_callB call_isiT (by rfl) B.is boot_isi (pa_cons (pv 1) (pa_cons (pe_tup (pa_cons (pe_bltn (by rfl) B.li boot_li (v := .ty "list") rfl) (pa_cons (pe_bltn (by rfl) B.tu boot_tu (v := .ty "tuple") rfl) pa_nil))) pa_nil)))) pss_never pss_nil)
          (pss_cons (ps_if (pt_val (pe_callB call_isi (by rfl) B.is boot_isi (pa_cons (pv 1) (pa_cons (pe_bltn (by rfl) B.di boot_di (v := .ty "dict") rfl) pa_nil))))
            (pss_one (ps_ret (pe_and (pe_callB call_isi (by rfl) B.is boot_isi (pa_cons (pv 0) (pa_cons (pe_bltn (by rfl) B.di boot_di (v := .ty "dict") rfl) pa_nil))) (pe_one (pe_has SELF hr (by rfl) (pa_cons (pe_listItems rfl (pv 0) (by rfl) B.li boot_li) (pa_cons (pe_listItems rfl (pv 1) (by rfl) B.li boot_li) pa_nil))))))) pss_nil) pss_never)), ?_⟩
        refine ⟨u, rfl, small4 2, fun p np => ⟨u, p, _, _, _, _, rfl, upd_same, .cons (.ty _) (.cons (.ty _) .nil), (hu.ext (same_new np)).ty, is_lt d, _, rfl, ?_⟩⟩
        rw [l0]
        have e1 : L2.Same H (upd H p (.tup [.ty "list", .ty "tuple"])) := same_new np
        generalize upd H p (.tup [.ty "list", .ty "tuple"]) = H1 at e1 ⊢
        have hv1 := hv.ext e1
        have hu1 := hu.ext e1
        refine iteF ⟨u, rfl, u, _, _, _, _, rfl, .ty _, hu1.ty, is_di d, _, rfl, ?_⟩
        rw [d0]
        refine iteT ⟨v, rfl, v, _, _, _, _, rfl, .ty _, hv1.ty, is_di d, _, rfl, ?_⟩
        rw [d0]
        cases hv1 with
        | @dct a kvs ps h r =>
          cases hu1 with
          | @dct b kvs2 ps2 h2 r2 =>
            obtain ⟨f1, f2⟩ := Bool.and_eq_true_iff.mp (show (decide (ps.length ≤ 1000) && fitS n (.list (ps.map fun p => .tuple [p.1, p.2]))) = true from hf)
            refine iteT ⟨.ref a, rfl, a, kvs, rfl, h, fun H2 q ts e2 nq nt nm hq pr => ?_⟩
            refine ⟨.ref b, rfl, b, kvs2, rfl, e2 _ _ h2, fun H3 q2 ts2 e3 nq2 nt2 nm2 hq2 pr2 => ?_⟩
            have ta : Th H3 (.ref q) (.list (ps.map fun p => .tuple [p.1, p.2])) := (Th.lst hq (th_items e2 pr r)).ext e3
            have tb : Th H3 (.ref q2) (.list (ps.map fun p => .tuple [p.1, p.2])) := .lst hq2 (th_items (fun b o z => e3 b o (e2 b o z)) pr2 r2)
            exact ⟨.ref q, .ref q2, _, rfl, ta, tb, f2, fun H' e => k H' (e1.trans (fun b o z => e b o (e3 b o (e2 b o z))))⟩
        | _ => exact absurd (show false = true from d0) Bool.false_ne_true
end
end K14.T3
namespace K14.T3
open T27
open K14.Gn
open PySem PySem.W PySem.Calls PyProof.Rows L2 LamX
open He (ga)
open Kz (small4 same_new boot_in boot_li boot_isi Has pe_has noE)
theorem scBn : FnScope ["word", "sign"] ["word"] (defScope sBn) := ⟨rfl, rfl, rfl, by decide +kernel, rfl, by decide +kernel, by decide +kernel⟩
theorem scNm : FnScope ["thing"] ["thing"] (defScope sNm) := ⟨rfl, rfl, rfl, by decide +kernel, rfl, by decide +kernel, by decide +kernel⟩
theorem scFn : FnScope ["ends", "stood", "at", "end"] ["ends"] (defScope sFn) := ⟨rfl, rfl, rfl, by decide +kernel, rfl, by decide +kernel, by decide +kernel⟩
theorem scCk : FnScope ["ends", "at"] ["ends"] (defScope sCk) := ⟨rfl, rfl, rfl, by decide +kernel, rfl, by decide +kernel, by decide +kernel⟩
def scOfB1 : List Stmt → Scope
  | [_, .Return (some (.Call _ [.ListComp _ _ sc _] _ _)) _] => sc
  | _ => defScope sBn
def bnSc : Scope := scOfB1 (defBody sBn)
theorem bdBn : defBody sBn = [stOf sBn 0, stOf sBn 1] := by rfl
section
variable {P : Program} {w : World} {K : Frag} {mg : Str → Option Value} {base : Heap}
theorem ok_bn {f : Addr} {fd : FuncData} (F : FunD K "begins_name" "begins_name" (defArgs sBn) (defBody sBn) (defScope sBn) [] [] f fd) (N : NmK K mg) : FnOk P w K mg base CX0 1 f fd ["word"] spBn := by
  obtain ⟨t1, g1⟩ := N.ll
  obtain ⟨t2, g2⟩ := N.ns
  obtain ⟨t3, g3⟩ := N.ln
  refine F.ok scBn (fun vs H Q E h => ?_) (fun cdv A outer s H vs Q XE hr h => ?_)
  · obtain ⟨s, rfl, _⟩ := h
    rfl
  · obtain ⟨z, rfl, hz, k⟩ := h
    have h0 : PS (cxOf CX0 P w K mg base ["word", "sign"] "begins_name" (defScope sBn) f cdv A outer s H XE).nox (stOf sBn 0) _ := ps_if ((pw_or (pt_not (pt_chain op_lt op_le pe_int (pe_callB call_len_str (by rfl) N.len boot_len (pa_cons (pv 0) pa_nil)) (pe_glob (v := .int 8) (by rfl) g3 ⟨_, rfl⟩ (by decide)))))
      (pw_or1 (pt_cmpR op_notIn_sign (pe_ix ix_str (pv 0) pe_int (fun _ _ => rfl)) (pe_glob (v := .str letters) (by rfl) g1 ⟨_, rfl⟩ (by decide)) (by rfl)))).pt (pss_one (ps_ret pe_bl)) pss_nil
    have h1 : PS (cxOf CX0 P w K mg base ["word", "sign"] "begins_name" (defScope sBn) f cdv A outer s H XE).nox (stOf sBn 1) _ := ps_ret (pe_callB (cr_all rfl) (by rfl) N.all boot_all (pa_cons (pe_lc (X := (cxOf CX0 P w K mg base ["word", "sign"] "begins_name" (defScope sBn) f cdv A outer s H XE).nox) (scope := bnSc) (own := [("sign", 1)]) (g := gName 1) (tt := tYes)
      (te := tOp (fun x y H Q => ∃ (c : Nat) (z : Str), x = .str ⟨#[c]⟩ ∧ y = .str z ∧ Q (.bl (decide (c ∈ z.cps.toList))) H) (tVar 1) (tC (.str signs))) rfl scBn.nd
      (pi_str (pv 0)) (blkOk_by (N := ["word", "sign"]) (sc := defScope sBn) (by decide +kernel)) (fun _ _ _ _ _ => pg_name (i := 1) scBn.nd rfl (Or.inl rfl)) (fun _ _ _ _ _ => pts_nil)
      (fun s0 H0 C0 cl0 fp0 => pe_cmpR (X := Cx.blk ((cxOf CX0 P w K mg base ["word", "sign"] "begins_name" (defScope sBn) f cdv A outer s H XE).nox) s0 H0 bnSc (compEnvC bnSc cl0 C0 (Cx.env ((cxOf CX0 P w K mg base ["word", "sign"] "begins_name" (defScope sBn) f cdv A outer s H XE).nox))) fp0) op_in_sign (pv 1) (pe_glob (v := .str signs) (by rfl) g2 ⟨_, rfl⟩ (by decide)) (by rfl))) pa_nil))
    refine ⟨_, PSs.nox (Kz.PSs.of_eq bdBn (pss_cons h0 (pss_one h1))), ?_⟩
    clear h0 h1
    have LC : z.length = z.cps.toList.length := by rw [Array.length_toList]; rfl
    refine ⟨.str z, rfl, z, rfl, (by rw [sizeLine_eq]; omega), 0, _, rfl, rfl, _, rfl, ite2 (fun e0 => ?_) (fun e0 => ?_)⟩
    · refine ⟨_, 8, rfl, rfl, _, rfl, ?_⟩
      obtain ⟨c, r, ez⟩ : ∃ c r, z.cps.toList = c :: r := by
        cases q : z.cps.toList with
        | nil =>
          rw [q] at LC
          have := of_decide_eq_true e0
          simp at LC
          omega
        | cons c r => exact ⟨c, r, rfl⟩
      have eb : bnB z = (decide (z.length ≤ 8) && (decide (c ∈ letters.cps.toList) && (c :: r).all fun c => decide (c ∈ signs.cps.toList))) := by
        unfold bnB
        rw [ez]
      by_cases hl : z.length ≤ 8
      · have e8 : decide ((z.length : Int) ≤ 8) = true := decide_eq_true (by omega)
        show (if (!decide ((z.length : Int) ≤ 8)) = true then _ else _)
        rw [e8]
        refine iteF ⟨.str z, rfl, z, 0, c, rfl, rfl, (by rw [sizeLine_eq]; omega), (by rw [ez]; exact atI_nat (j := 0) rfl), c, letters, rfl, rfl, _, rfl, ?_⟩
        rw [decide_eq_true hl, Bool.true_and] at eb
        cases q : decide (c ∈ letters.cps.toList) with
        | false =>
          rw [q] at eb
          refine iteT ?_
          have kk := k H (fun _ _ e => e)
          rw [eb] at kk
          exact kk
        | true =>
          rw [q, Bool.true_and] at eb
          refine iteF ?_
          refine ⟨.str z, rfl, z, rfl, fun D hD => lc_it walk_str (fun j G => L2.Same H G ∧ G D = some (.lst ((z.cps.toList.take j).map fun c => V.bl (decide (c ∈ signs.cps.toList))))) ⟨same_new hD, upd_same⟩ (fun _ _ _ _ => trivial) (fun j x G G' hj hp hy => ?_) (fun G hp => ?_)⟩
          · obtain ⟨rfl, ch, ec, rfl⟩ := hy
            obtain ⟨S, hA⟩ := hp
            refine ⟨rfl, ?_⟩
            unfold tYes
            show (if true = true then _ else _)
            rw [if_pos rfl]
            refine ⟨_, rfl, ch, signs, rfl, rfl, _, hA, ?_, fun b o e => ?_, ?_⟩
            · rw [List.length_map, List.length_take, sizeLine_eq]
              omega
            · rw [upd_ne (ne_of_none e hD)]
              exact S _ _ e
            · rw [upd_same]
              have ec' : z.cps.toList[j]? = some ch := by rw [Array.getElem?_toList]; exact ec
              have et : z.cps.toList.take (j + 1) = z.cps.toList.take j ++ [ch] := by
                rw [List.take_add_one, ec']
                rfl
              rw [et, List.map_append]
              rfl
          · obtain ⟨S, hA⟩ := hp
            have hA : G D = some (.lst ((z.cps.toList.take z.cps.size).map fun c => V.bl (decide (c ∈ signs.cps.toList)))) := hA
            rw [show z.cps.size = z.cps.toList.length from (Array.length_toList).symm, List.take_length] at hA
            refine ⟨D, z.cps.toList.map fun c => decide (c ∈ signs.cps.toList), rfl, .inl (.inl (by rw [List.map_map]; exact hA)), ?_⟩
            rw [List.all_map]
            have kk := k G S
            rw [eb, ← ez] at kk
            exact kk
      · have e8 : decide ((z.length : Int) ≤ 8) = false := decide_eq_false (by omega)
        show (if (!decide ((z.length : Int) ≤ 8)) = true then _ else _)
        rw [e8]
        refine iteT (iteT ?_)
        have kk := k H (fun _ _ e => e)
        rw [eb, decide_eq_false hl, Bool.false_and] at kk
        exact kk
    · refine ⟨false, rfl, iteT (iteT ?_)⟩
      have kk := k H (fun _ _ e => e)
      have eb : bnB z = false := by
        unfold bnB
        cases q : z.cps.toList with
        | nil => rfl
        | cons c r =>
          rw [q] at LC
          exact absurd (decide_eq_true (by rw [LC]; simp)) e0
      rw [eb] at kk
      exact kk
theorem ok_nm {f : Addr} {fd : FuncData} (F : FunD K "is_name" "is_name" (defArgs sNm) (defBody sNm) (defScope sNm) [] [] f fd) (N : NmK K mg) (B : Has P w K mg base "begins_name" 1 ["word"] spBn) : FnOk P w K mg base CX0 2 f fd ["thing"] spNm := by
  obtain ⟨ak, gk, qk⟩ := N.kp
  refine F.ok scNm (fun vs H Q E h => ?_) (fun cdv A outer s H vs Q XE hr h => ?_)
  · obtain ⟨v, d, rfl, _⟩ := h
    rfl
  · obtain ⟨v, d, rfl, hv, hl, k⟩ := h
    refine ⟨_, PSs.nox (pss_one (ps_ret (pe_and (pe_callB call_isi (by rfl) N.isi boot_isi (pa_cons (pv 0) (pa_cons (pe_bltn (by rfl) N.str boot_st (v := .ty "str") rfl) pa_nil))) (pe_and (pe_has B hr (by rfl) (pa_cons (pv 0) pa_nil)) (pe_one (pe_cmpR op_notIn_seq (pv 0) (pe_glob (v := .ref ak) (by rfl) gk rfl (by decide)) (by rfl))))))), ?_⟩
    refine ⟨v, rfl, v, _, _, _, _, rfl, .ty _, hv.ty, is_st d, _, rfl, ?_⟩
    cases hv with
    | str x =>
      refine iteT ⟨.str x, rfl, x, rfl, hl x rfl, fun H1 s1 => ⟨_, rfl, ?_⟩⟩
      have kk := k H1 s1
      have eb : nameB (.str x) = (bnB x && !keptB x) := rfl
      rw [eb] at kk
      cases q : bnB x with
      | false =>
        rw [q] at kk
        exact iteF kk
      | true =>
        rw [q, Bool.true_and] at kk
        exact iteT ⟨.str x, rfl, ak, _, rfl, .inr (qk H1), rfl, rfl, kk⟩
    | _ => exact iteF (k H (fun _ _ e => e))
theorem bdFn : defBody sFn = [stOf sFn 0, stOf sFn 1, stOf sFn 2, stOf sFn 3] := by rfl
theorem bdFn2 : forBody (stOf sFn 2) = [(forBody (stOf sFn 2)).getD 0 (.Pass ⟨0, 0, 0, 0⟩), (forBody (stOf sFn 2)).getD 1 (.Pass ⟨0, 0, 0, 0⟩)] := by rfl
theorem ok_fn {f : Addr} {fd : FuncData} (F : FunD K "first_no_end" "first_no_end" (defArgs sFn) (defBody sFn) (defScope sFn) [] [] f fd) (N : NmK K mg) (L : Has P w K mg base "is_list" 1 ["thing"] (spLook isL)) (M : Has P w K mg base "is_name" 2 ["thing"] spNm) : FnOk P w K mg base CX0 3 f fd ["ends"] spFn := by
  refine F.ok scFn (fun vs H Q E h => ?_) (fun cdv A outer s H vs Q XE hr h => ?_)
  · obtain ⟨v, d, rfl, _⟩ := h
    rfl
  · obtain ⟨v, d, rfl, hv, hl, hss, k⟩ := h
    have hu : (cxOf CX0 P w K mg base ["ends", "stood", "at", "end"] "first_no_end" (defScope sFn) f cdv A outer s H XE).nox.A.units + 1 < cLine := by
      have := hr.units
      show (A.deeper _).units + 1 < cLine
      omega
    have h0 : PS (cxOf CX0 P w K mg base ["ends", "stood", "at", "end"] "first_no_end" (defScope sFn) f cdv A outer s H XE).nox (stOf sFn 0) _ := ps_if (pt_not (pt_val (pe_has L (hr.mono (by decide)) (by rfl) (pa_cons (pv 0) pa_nil)))) (pss_one (ps_ret pe_int)) pss_nil
    have h1 : PS (cxOf CX0 P w K mg base ["ends", "stood", "at", "end"] "first_no_end" (defScope sFn) f cdv A outer s H XE).nox (stOf sFn 1) _ := ps_set (i := 1) scFn.nd rfl (.inl rfl) pe_dnewK
    have b0 : PS (cxOf CX0 P w K mg base ["ends", "stood", "at", "end"] "first_no_end" (defScope sFn) f cdv A outer s H XE).nox ((forBody (stOf sFn 2)).getD 0 (.Pass ⟨0, 0, 0, 0⟩)) _ := ps_if ((pw_or (pt_not (pt_val (pe_has M hr (by rfl) (pa_cons (pv 3) pa_nil))))) (pw_or1 (pt_cmp (pc_din hu (pv 3) (pv 1)) (by rfl)))).pt (pss_one (ps_ret (pv 2))) pss_nil
    have b1 : PS (cxOf CX0 P w K mg base ["ends", "stood", "at", "end"] "first_no_end" (defScope sFn) f cdv A outer s H XE).nox ((forBody (stOf sFn 2)).getD 1 (.Pass ⟨0, 0, 0, 0⟩)) _ := ps_asg pe_bl (pg_sub (pv 1) (pv 3) (_root_.L2.set_dict hu))
    have h2 : PS (cxOf CX0 P w K mg base ["ends", "stood", "at", "end"] "first_no_end" (defScope sFn) f cdv A outer s H XE).nox (stOf sFn 2) _ := ps_for PassesOwn.never rfl (EnT.pi_enB (by rfl) N.enu (pa_cons (pv 0) pa_nil)) (pg_tup (n := 2) rfl (pgs_cons (pg_name (i := 2) scFn.nd rfl (.inl rfl)) (pgs_cons (pg_name (i := 3) scFn.nd rfl (.inl rfl)) pgs_nil))) (Kz.PSs.of_eq bdFn2 (pss_cons b0 (pss_one b1)))
    have h3 : PS (cxOf CX0 P w K mg base ["ends", "stood", "at", "end"] "first_no_end" (defScope sFn) f cdv A outer s H XE).nox (stOf sFn 3) _ := ps_ret pe_non
    refine ⟨_, PSs.nox (Kz.PSs.of_eq bdFn (pss_cons h0 (pss_cons h1 (pss_cons h2 (pss_one h3))))), ?_⟩
    clear h0 h1 h2 h3 b0 b1
    refine ⟨v, rfl, v, d, rfl, hv, fun H1 s1 => ⟨isL d, rfl, ?_⟩⟩
    cases l : isL d with
    | false =>
      refine iteT ?_
      have kk := k H1 s1
      unfold fne at kk
      rw [l] at kk
      exact kk
    | true =>
      refine iteF fun p np => ?_
      have kf : ∀ G, L2.Same H1 G → Q (oV (fneL (its d) [] 0)) G := fun G e => by
        have kk := k G (s1.trans e)
        unfold fne at kk
        rw [l] at kk
        exact kk
      refine gset ?_
      refine nx_intro ?_
      refine for_enS (H0 := H1) (v := v) (d := d) (i1 := 2) (i2 := 3) (fun R h => ⟨v, rfl, h⟩) (hv.ext s1) l (fun j σ G => ∃ (a2 a3 : Option V) (kvs : List (Key × V)) (st : List Str), σ = [some v, some (.ref p), a2, a3] ∧ L2.Same H1 G ∧ G p = some (.dK kvs) ∧ kvs.length ≤ j ∧ (∀ s : Str, (valV kvs (.inr s)).isSome = st.contains s) ∧ fneL (its d) [] 0 = fneL ((its d).drop j) st j)
        ⟨none, none, [], [], rfl, same_new np, upd_same, Nat.le_refl _, fun s => rfl, rfl⟩ (fun j σ G e => ?_) (fun j z x σ' G hz tx e G' e' => ?_) (fun σ G e => ?_)
      · obtain ⟨_, _, _, _, _, e, _⟩ := e
        exact e
      · obtain ⟨a2, a3, kvs, st, rfl, S, hp, hk, hin, hf⟩ := e
        have jl : j < (its d).length := (List.getElem?_eq_some_iff.mp hz).1
        rw [drop_get hz] at hf
        refine ⟨x, rfl, x, z, rfl, tx.ext e', (fun s es => hss s (by rw [← es]; exact List.mem_of_getElem? hz)), fun G2 s2 => ⟨nameB z, rfl, ?_⟩⟩
        have S2 := (S.trans e').trans s2
        cases q : nameB z with
        | false =>
          refine iteT (iteT ⟨.int (j : Nat), rfl, ?_⟩)
          have kk := kf G2 S2
          have ef : fneL (z :: (its d).drop (j + 1)) st j = some j := by
            cases z with
            | str s =>
              unfold fneL
              rw [q]
              rfl
            | _ => rfl
          rw [hf, ef] at kk
          exact kk
        | true =>
          cases z with
          | str s =>
            cases tx with
            | str =>
              have hp2 := s2 _ _ (e' _ _ hp)
              refine iteF ⟨.str s, rfl, .ref p, rfl, p, _, rfl, DGet.k (k := .inr s) hp2, _, rfl, ?_⟩
              rw [hin s]
              have ef : fneL (.str s :: (its d).drop (j + 1)) st j = if (nameB (.str s) && !st.contains s) = true then fneL ((its d).drop (j + 1)) (st ++ [s]) (j + 1) else some j := rfl
              rw [q, Bool.true_and] at ef
              cases c : st.contains s with
              | true =>
                rw [c] at ef
                refine iteT ⟨.int (j : Nat), rfl, ?_⟩
                have kk := kf G2 S2
                rw [hf, ef] at kk
                exact kk
              | false =>
                rw [c] at ef
                refine iteF ⟨.ref p, rfl, .str s, rfl, p, _, rfl, DPut.k (k := .inr s) hp2 (by rw [sizeLine_eq]; omega), ?_⟩
                refine ⟨_, _, _, st ++ [s], rfl, fun b o hb => ?_, upd_same, Nat.le_trans (length_putK _ _ _) (by omega), fun s' => ?_, by rw [hf, ef]; rfl⟩
                · rw [upd_ne (ne_of_none hb np)]
                  exact S2 _ _ hb
                · rw [valV_put, List.contains_append]
                  by_cases es : s' = s
                  · rw [if_pos (by rw [es]), es]
                    simp
                  · rw [if_neg (fun y => es (Sum.inr.inj y)), hin s']
                    simp [es]
          | _ => exact absurd (show false = true from q) Bool.false_ne_true
      · obtain ⟨a2, a3, kvs, st, rfl, S, hp, hk, hin, hf⟩ := e
        rw [List.drop_length] at hf
        have kk := kf G S
        rw [hf] at kk
        exact kk
end
end K14.T3
namespace K14.T3
open T27
open K14.Gn
open PySem PySem.W PySem.Calls PyProof.Rows L2 LamX
open He (ga)
open Kz (small4 same_new boot_in boot_li boot_isi Has pe_has noE X1 PSs.of_eq)
theorem bdCk : defBody sCk = [stOf sCk 0, stOf sCk 1] := by rfl
section
variable {P : Program} {w : World} {K : Frag} {mg : Str → Option Value} {base : Heap}
theorem ok_ck {f : Addr} {fd : FuncData} (F : FunD K "check_ends" "check_ends" (defArgs sCk) (defBody sCk) (defScope sCk) [] [] f fd) (L : Has P w K mg base "first_no_end" 3 ["ends"] spFn) : FnOk P w K mg base CX0 4 f fd ["ends"] spCk := by
  refine F.ok scCk (fun vs H Q E h => ?_) (fun cdv A outer s H vs Q XE hr h => ?_)
  · obtain ⟨v, d, rfl, _⟩ := h
    rfl
  · obtain ⟨v, d, rfl, ⟨t, l1, l2⟩, e, k⟩ := h
    have h0 : PS (cxOf CX0 P w K mg base ["ends", "at"] "check_ends" (defScope sCk) f cdv A outer s H XE).nox (stOf sCk 0) _ := ps_set (i := 1) scCk.nd rfl (.inl rfl) (pe_has L hr (by rfl) (pa_cons (pv 0) pa_nil))
    have h1 : PS (cxOf CX0 P w K mg base ["ends", "at"] "check_ends" (defScope sCk) f cdv A outer s H XE).nox (stOf sCk 1) _ := ps_if (pt_cmp (pc_notN (pv 1)) (by rfl)) (pss_one ps_never) pss_nil
    refine ⟨_, PSs.nox (PSs.of_eq bdCk (pss_cons h0 (pss_one h1))), ?_⟩
    refine ⟨v, rfl, v, d, rfl, t, l1, l2, fun H1 s1 => ?_⟩
    rw [e]
    exact ⟨.non, rfl, _, rfl, iteF (k H1 s1)⟩
theorem okx_ck {f : Addr} {fd : FuncData} (F : FunD K "check_ends" "check_ends" (defArgs sCk) (defBody sCk) (defScope sCk) [] [] f fd) (L : Has P w K mg base "first_no_end" 3 ["ends"] spFn) (T : mg "BadEnds" = some (.ref (ga K "BadEnds")) ∧ X1 P K (ga K "BadEnds") "index") : FnOk P w K mg base (L2.CX P w) 4 f fd ["ends"] (spCkX K) := by
  refine F.ok scCk (fun vs H Q E h => ?_) (fun cdv A outer s H vs Q XE hr h => ?_)
  · obtain ⟨v, d, j, rfl, _⟩ := h
    rfl
  · obtain ⟨v, d, j, rfl, ⟨t, l1, l2⟩, e, k⟩ := h
    refine ⟨_, PSs.of_eq bdCk (pss_cons (ps_set (i := 1) scCk.nd rfl (.inl rfl) (pe_has L hr (by rfl) (pa_cons (pv 0) pa_nil))) (pss_one (ps_if (pt_cmp (pc_notN (pv 1)) (by rfl)) (pss_one (ps_raise rfl (takes_of rfl rfl rfl rfl) (pmk_x1 T.2 (hr.mono (by decide)) rfl (by rfl) T.1 (pv 1)))) pss_nil))), ?_⟩
    refine ⟨v, rfl, v, d, rfl, t, l1, l2, fun H1 s1 => ?_⟩
    rw [e]
    exact ⟨.int (j : Nat), rfl, _, rfl, iteT ⟨.int (j : Nat), rfl, fun dx n => k _ dx (s1.trans (same_new n)) upd_same⟩⟩
end
end K14.T3
namespace K14.T3
open T27
open K14.Gn
open PySem PySem.W PySem.Calls PyProof.Rows L2 LamX
open He (ga)
open Kz (small4 same_new boot_in boot_li boot_isi Has pe_has noE PSs.of_eq)
theorem scBa : FnScope ["ends", "thing"] ["ends", "thing"] (defScope sBa) := ⟨rfl, rfl, rfl, by decide +kernel, rfl, by decide +kernel, by decide +kernel⟩
theorem bdBa : defBody sBa = [stOf sBa 0, stOf sBa 1] := by rfl
section
variable {P : Program} {w : World} {K : Frag} {mg : Str → Option Value} {base : Heap}
theorem ok_ba {f : Addr} {fd : FuncData} (F : FunD K "is_box_at" "is_box_at" (defArgs sBa) (defBody sBa) (defScope sBa) [] [] f fd) (N : NmK K mg) (L : Has P w K mg base "is_list" 1 ["thing"] (spLook isL)) (R : Has P w K mg base "is_row" 3 ["thing"] spRow) : FnOk P w K mg base CX0 4 f fd ["ends", "thing"] spBa := by
  refine F.ok scBa (fun vs H Q E h => ?_) (fun cdv A outer s H vs Q XE hr h => ?_)
  · obtain ⟨ve, v, ns, d, rfl, _⟩ := h
    rfl
  · obtain ⟨ve, v, ns, d, rfl, hE, hv, ⟨b1, b2⟩, k⟩ := h
    have h0 : PS (cxOf CX0 P w K mg base ["ends", "thing"] "is_box_at" (defScope sBa) f cdv A outer s H XE).nox (stOf sBa 0) _ := ps_if (PW.pt (pw_or (pt_not (pt_val (pe_has L (hr.mono (by decide)) (by rfl) (pa_cons (pv 1) pa_nil)))) (pw_or (pt_cmpR op_ne (pe_callB call_len_seq (by rfl) N.len boot_len (pa_cons (pv 1) pa_nil)) pe_int (nomark _)) (pw_or1 (pt_not (pt_val (pe_callB call_isi (by rfl) N.isi boot_isi (pa_cons (pe_ix ix_seq (pv 1) pe_int (fun _ _ => rfl)) (pa_cons (pe_bltn (by rfl) N.str boot_st (v := .ty "str") rfl) pa_nil))))))))) (pss_one (ps_ret pe_bl)) pss_nil
    have h1 : PS (cxOf CX0 P w K mg base ["ends", "thing"] "is_box_at" (defScope sBa) f cdv A outer s H XE).nox (stOf sBa 1) _ := ps_ret (pe_and (pe_cmpR op_in_seq (pe_ix ix_seq (pv 1) pe_int (fun _ _ => rfl)) (pv 0) (by rfl)) (pe_and (pe_has R hr (by rfl) (pa_cons (pe_ix ix_seq (pv 1) pe_int (fun _ _ => rfl)) pa_nil)) (pe_one (pe_has R hr (by rfl) (pa_cons (pe_ix ix_seq (pv 1) pe_int (fun _ _ => rfl)) pa_nil)))))
    refine ⟨_, PSs.nox (PSs.of_eq bdBa (pss_cons h0 (pss_one h1))), ?_⟩
    clear h0 h1
    refine ⟨v, rfl, v, d, rfl, hv, fun H1 s1 => ⟨isL d, rfl, ?_⟩⟩
    cases l : isL d with
    | false =>
      refine iteT (iteT ?_)
      have kk := k H1 s1
      unfold boxB at kk
      rw [l] at kk
      exact kk
    | true =>
      have hv1 := hv.ext s1
      obtain ⟨a, xs, ea, r, hx⟩ := hv1.seq (K := K) l
      have lx : xs.length = (its d).length := r.length
      refine iteF ⟨v, rfl, a, xs, by rw [ea], sl_of hx, rfl, _, rfl, ?_⟩
      rw [lx]
      by_cases h3 : (its d).length = 3
      · have e3 : decide (V.int (((its d).length : Nat) : Int) = V.int 3) = true := decide_eq_true (by rw [h3]; rfl)
        rw [e3]
        obtain ⟨z0, z1, z2, ed⟩ : ∃ z0 z1 z2, its d = [z0, z1, z2] := by
          match its d, h3 with
          | [z0, z1, z2], _ => exact ⟨z0, z1, z2, rfl⟩
        have m1 : z1 ∈ its d := by rw [ed]; simp
        have m2 : z2 ∈ its d := by rw [ed]; simp
        obtain ⟨x0, t0, i0⟩ := th_ix (K := K) (j := 0) hv1 l (z := z0) (by rw [ed]; rfl)
        refine iteF ⟨v, rfl, i0 _ ⟨x0, _, _, _, _, rfl, .ty _, t0.ty, is_st z0, _, rfl, ?_⟩⟩
        have no : isSt z0 = false → boxB ns d = false := fun q => by
          unfold boxB
          rw [ed, l]
          cases z0 with
          | str s => cases q
          | _ => rfl
        cases z0 with
        | str s0 =>
          have eb : boxB ns d = (inN ns s0 && (isR z1 && isR z2)) := by
            unfold boxB
            rw [ed, l]
            rfl
          rw [eb] at k
          refine iteF ?_
          cases t0 with
          | str =>
            obtain ⟨ae, rfl, qe⟩ := (hE.ext s1).ex
            refine ⟨v, rfl, i0 _ ⟨.ref ae, rfl, ae, _, rfl, sl_of qe, rfl, flat_strs ns, inN ns s0, rfl, ?_⟩⟩
            cases q : inN ns s0 with
            | false =>
              rw [q] at k
              exact iteF (k H1 s1)
            | true =>
              rw [q] at k
              obtain ⟨x1, t1, i1⟩ := th_ix (K := K) (j := 1) hv1 l (z := z1) (by rw [ed]; rfl)
              refine iteT ⟨v, rfl, i1 _ ⟨x1, z1, rfl, t1, b2 _ m1, fun H2 s2 => ⟨isR z1, rfl, ?_⟩⟩⟩
              cases q1 : isR z1 with
              | false =>
                rw [q1] at k
                exact iteF (k H2 (s1.trans s2))
              | true =>
                rw [q1] at k
                obtain ⟨x2, t2, i2⟩ := th_ix (K := K) (j := 2) (hv1.ext s2) l (z := z2) (by rw [ed]; rfl)
                exact iteT ⟨v, rfl, i2 _ ⟨x2, z2, rfl, t2, b2 _ m2, fun H3 s3 => k H3 ((s1.trans s2).trans s3)⟩⟩
        | _ =>
          rw [no rfl] at k
          exact iteT (k H1 s1)
      · have e3 : decide (V.int (((its d).length : Nat) : Int) = V.int 3) = false := decide_eq_false (fun y => h3 (by have := V.int.inj y; omega))
        rw [e3]
        refine iteT (iteT ?_)
        have kk := k H1 s1
        have eb : boxB ns d = false := by
          unfold boxB
          split
          · rename_i q
            rw [q] at h3
            exact absurd rfl h3
          · rw [Bool.and_false]
        rw [eb] at kk
        exact kk
end
end K14.T3
namespace K14.T3
open T27
open K14.Gn
open PySem PySem.W PySem.Calls PyProof.Rows L2 LamX
open He (ga)
open Kz (SS ExtS ExtS.trans ExtS.refl small4 same_new boot_in boot_li boot_isi Has pe_has noE PSs.of_eq seqI new_ext)
theorem scPk : FnScope ["stream", "some"] ["stream", "some"] (defScope sPk) := ⟨rfl, rfl, rfl, by decide +kernel, rfl, by decide +kernel, by decide +kernel⟩
theorem bdPk : defBody sPk = [stOf sPk 0] := by rfl
theorem bdMx : defBody sMx = [stOf sMx 0, stOf sMx 1] := by rfl
section
variable {P : Program} {w : World} {K : Frag} {mg : Str → Option Value} {base : Heap}
theorem ok_pk {f : Addr} {fd : FuncData} (F : FunD K "_law_pick" "_law_pick" (defArgs sPk) (defBody sPk) (defScope sPk) [] [] f fd) (D : Has P w K mg base "_law_draw" 1 ["stream", "many"] spDrW) (mn : mg "len" = none) : FnOk P w K mg base CX0 2 f fd ["stream", "some"] spPk := by
  refine F.ok scPk (fun vs H Q E h => ?_) (fun cdv A outer s H vs Q XE hr h => ?_)
  · obtain ⟨l, li, sa, c, xs, rfl, _⟩ := h
    rfl
  · obtain ⟨l, li, sa, c, xs, rfl, hs, hsa, n1, n2, x0, x1, c1, k⟩ := h
    have h0 : PS (cxOf CX0 P w K mg base ["stream", "some"] "_law_pick" (defScope sPk) f cdv A outer s H XE).nox (stOf sPk 0) _ := ps_ret (pe_ix ix_seq (pv 1) (pe_has D hr (by rfl) (pa_cons (pv 0) (pa_cons (pe_callB call_len_seq (by rfl) mn boot_len (pa_cons (pv 1) pa_nil)) pa_nil))) (fun _ _ => rfl))
    refine ⟨_, PSs.nox (PSs.of_eq bdPk (pss_one h0)), ?_⟩
    clear h0
    refine ⟨.ref sa, rfl, .ref l, rfl, .ref sa, rfl, sa, xs, rfl, .inl (.inl (.inl hsa)), l, li, c, (xs.length : Nat), rfl, hs, by omega, by omega, by omega, fun H1 r e1 s1 r0 r1 => ?_⟩
    obtain ⟨n, rfl⟩ : ∃ n : Nat, r = (n : Nat) := ⟨r.toNat, by omega⟩
    have rk : n < xs.length := by omega
    exact .inl ⟨sa, xs, _, xs[n], rfl, rfl, .inl (.inl (e1 _ _ hsa n1 n2)), atI_nat (List.getElem?_eq_getElem rk), k H1 _ e1 s1 (List.getElem_mem _)⟩
theorem ok_mxw {f : Addr} {fd : FuncData} (F : FunD K "_law_mixed" "_law_mixed" (defArgs sMx) (defBody sMx) (defScope sMx) [] [] f fd) (D : Has P w K mg base "_law_draw" 1 ["stream", "many"] spDrW) (ml : mg "list" = none) (mn : mg "len" = none) (mr : mg "range" = none) : FnOk P w K mg base CX0 2 f fd ["stream", "some"] spMxW := by
  refine F.ok scMx (fun vs H Q E h => ?_) (fun cdv A outer s H vs Q XE hr h => ?_)
  · obtain ⟨l, li, sa, c, xs, rfl, _⟩ := h
    rfl
  · obtain ⟨l, li, sa, c, xs, rfl, hs, hsa, x1, c1, k⟩ := h
    have h0 : PS (cxOf CX0 P w K mg base ["stream", "some", "left", "k"] "_law_mixed" (defScope sMx) f cdv A outer s H XE).nox (stOf sMx 0) _ := ps_set (i := 2) scMx.nd rfl (.inr rfl) (pe_callTy call_list_of (by rfl) ml boot_li (pa_cons (pv 1) pa_nil))
    have h1 : PS (cxOf CX0 P w K mg base ["stream", "some", "left", "k"] "_law_mixed" (defScope sMx) f cdv A outer s H XE).nox (stOf sMx 1) _ := ps_ret (pe_lc (X := (cxOf CX0 P w K mg base ["stream", "some", "left", "k"] "_law_mixed" (defScope sMx) f cdv A outer s H XE).nox) (te := tBM K "list" rPopAt (tVar 2) (tCons (tCall spDrW [] noE (tCons (tVar 0) (tCons (tCB (Kz.rLen K) (tCons (tVar 2) tNil)) tNil))) tNil)) (scope := mxSc) (own := [("k", 3)]) (g := gName 3) (tt := tYes) rfl scMx.nd
      (pi_range1 (by rfl) mr (pa_cons (pe_callB call_len_seq (by rfl) mn boot_len (pa_cons (pv 2) pa_nil)) pa_nil)) (blkOk_by (N := ["stream", "some", "left", "k"]) (sc := defScope sMx) (by decide +kernel)) (fun _ _ _ _ _ => pg_name (i := 3) scMx.nd rfl (Or.inl rfl)) (fun _ _ _ _ _ => pts_nil)
      (fun s0 H0 C0 cl0 fp0 => pe_bm (X := Cx.blk ((cxOf CX0 P w K mg base ["stream", "some", "left", "k"] "_law_mixed" (defScope sMx) f cdv A outer s H XE).nox) s0 H0 mxSc (compEnvC mxSc cl0 C0 (Cx.env ((cxOf CX0 P w K mg base ["stream", "some", "left", "k"] "_law_mixed" (defScope sMx) f cdv A outer s H XE).nox))) fp0) PySem.F.plainAttrs_list PySem.F.slot_list_pop PySem.F.type_list_pop mt_popAt (pv 2) (pa_cons (pe_has D hr (by rfl) (pa_cons (pv 0) (pa_cons (pe_callB call_len_seq (by rfl) mn boot_len (pa_cons (pv 2) pa_nil)) pa_nil))) pa_nil)))
    refine ⟨_, PSs.nox (PSs.of_eq bdMx (pss_cons h0 (pss_one h1))), ?_⟩
    clear h0 h1
    refine ⟨.ref sa, rfl, sa, xs, rfl, .inl (.inl (.inl hsa)), fun lf nf => ?_⟩
    have nl := hs.new nf
    have s1 := hs.same (same_new (o := .lst xs) nf)
    refine ⟨.ref lf, rfl, lf, xs, rfl, .inl (.inl (.inl upd_same)), (xs.length : Int), rfl, by omega, by omega, fun D0 hD => ?_⟩
    have nD := s1.new hD
    have Df : D0 ≠ lf := Ne.symm (ne_of_none upd_same hD)
    have HD : H D0 = none := ext_none (same_S (l := l) (li := li) (same_new nf)) hD nD.1 nD.2
    refine lc_range (n := ((xs.length : Nat) : Int).toNat) (fun j G => ∃ (zs ys : List V), G lf = some (.lst zs) ∧ G D0 = some (.lst ys) ∧ ys.length = j ∧ (zs ++ ys).Perm xs ∧ Spr G l li (c + (j : Nat)) ∧ ExtS l li H G)
      ⟨xs, [], by rw [upd_ne Df.symm, upd_same], upd_same, rfl, by simp, by simpa using s1.same (same_new hD), same_S ((same_new nf).trans (same_new hD))⟩ (fun j G hj e => ?_) fun G e => ?_
    · obtain ⟨zs, ys, hz, hy, ly, pm, s3, e3⟩ := e
      have hj' : j < xs.length := by simpa using hj
      have lz : zs.length = xs.length - j := by
        have := pm.length_eq
        rw [List.length_append] at this
        omega
      refine ⟨rfl, ?_⟩
      unfold tYes
      show (if true = true then _ else _)
      rw [if_pos rfl]
      refine ⟨.ref lf, rfl, .inl ⟨rfl, _, .inl (.inl hz)⟩, .ref l, rfl, .ref lf, rfl, lf, zs, rfl, .inl (.inl (.inl hz)), ?_⟩
      refine ⟨l, li, c + (j : Nat), (zs.length : Int), rfl, s3, by omega, by omega, by omega, fun H4 r e4 s4 r0 r1 => ?_⟩
      have hz4 := e4 lf _ hz nl.1 nl.2
      have hy4 := e4 D0 _ hy nD.1 nD.2
      have rk : r.toNat < zs.length := by omega
      refine ⟨lf, zs, r, r.toNat, zs[r.toNat], rfl, rfl, hz4, by omega, by omega, seqI r0 r1, by simp [rk], ys, by rw [upd_ne Df]; exact hy4, by rw [sizeLine_eq]; omega, zs.eraseIdx r.toNat, ys ++ [zs[r.toNat]], by rw [upd_ne Df.symm, upd_same], upd_same, by rw [List.length_append, List.length_singleton, ly], perm_pop rk pm, ?_, fun x o ex h1 h2 => ?_⟩
      · have ec : c + ((j + 1 : Nat) : Int) = c + (j : Nat) + 1 := by omega
        rw [ec]
        exact (s4.upd nl.1 nl.2).upd nD.1 nD.2
      · rw [upd_ne (ne_of_none ex HD), upd_ne (ne_of_none ex nf)]
        exact e4 x o (e3 x o ex h1 h2) h1 h2
    · obtain ⟨zs, ys, hz, hy, ly, pm, s3, e3⟩ := e
      have ly' : ys.length = xs.length := by simpa using ly
      have zn : zs = [] := by
        have := pm.length_eq
        rw [List.length_append] at this
        exact List.eq_nil_of_length_eq_zero (by omega)
      rw [zn, List.nil_append] at pm
      exact k G D0 ys e3 (by simpa using s3) HD nD.1 nD.2 hy pm
end
end K14.T3
namespace K14.T3
open T27
open K14.Gn
open PySem PySem.W PySem.Calls PyProof.Rows L2 LamX
open He (ga)
open Kz (SS ExtS ExtS.trans ExtS.refl small4 same_new boot_in boot_li boot_isi Has pe_has noE PSs.of_eq seqI new_ext)
theorem scEn : FnScope ["stream", "many", "some"] ["stream", "many"] (defScope sEn) := ⟨rfl, rfl, rfl, by decide +kernel, rfl, by decide +kernel, by decide +kernel⟩
theorem bdEn : defBody sEn = [stOf sEn 0, stOf sEn 1] := by rfl
section
variable {P : Program} {w : World} {K : Frag} {mg : Str → Option Value} {base : Heap}
theorem ok_en {f : Addr} {fd : FuncData} (F : FunD K "_law_ends" "_law_ends" (defArgs sEn) (defBody sEn) (defScope sEn) [] [] f fd) (M : Has P w K mg base "_law_mixed" 2 ["stream", "some"] spMxW) : FnOk P w K mg base CX0 3 f fd ["stream", "many"] spEn := by
  refine F.ok scEn (fun vs H Q E h => ?_) (fun cdv A outer s H vs Q XE hr h => ?_)
  · obtain ⟨l, li, c, m, rfl, _⟩ := h
    rfl
  · obtain ⟨l, li, c, m, rfl, hs, hm, hc, k⟩ := h
    have h0 : PS (cxOf CX0 P w K mg base ["stream", "many", "some"] "_law_ends" (defScope sEn) f cdv A outer s H XE).nox (stOf sEn 0) _ := ps_set (i := 2) scEn.nd rfl (.inl rfl) (pe_lst (pa_cons pe_str (pa_cons pe_str (pa_cons pe_str (pa_cons pe_str (pa_cons pe_str (pa_cons pe_str (pa_cons pe_str (pa_cons pe_str (pa_cons pe_str (pa_cons pe_str (pa_cons pe_str (pa_cons pe_str (pa_cons pe_str (pa_cons pe_str (pa_cons pe_str (pa_cons pe_str pa_nil)))))))))))))))))
    have h1 : PS (cxOf CX0 P w K mg base ["stream", "many", "some"] "_law_ends" (defScope sEn) f cdv A outer s H XE).nox (stOf sEn 1) _ := ps_ret (pe_slice sl_list (pe_has M hr (by rfl) (pa_cons (pv 0) (pa_cons (pv 2) pa_nil))) po_none (po_some (pv 1)))
    refine ⟨_, PSs.nox (PSs.of_eq bdEn (pss_cons h0 (pss_one h1))), ?_⟩
    clear h0 h1
    refine ⟨small4 16, fun sa nsa => ?_⟩
    have na := hs.new nsa
    have s1 := hs.same (same_new (o := .lst (endNames.map V.str)) nsa)
    refine ⟨.ref l, rfl, .ref sa, rfl, l, li, sa, c, endNames.map V.str, rfl, s1, upd_same, by decide, by omega, fun H1 r ys e1 s2 nr r1 r2 hy pm => ?_⟩
    obtain ⟨ms, rfl, pn⟩ := strs_of pm
    have lm : ms.length = 16 := by rw [pn.length_eq]; rfl
    refine ⟨.int (m : Nat), rfl, m, rfl, r, _, rfl, .inl (.inl hy), fun p np => ?_⟩
    rw [cutV_take (by rw [List.length_map, lm]; exact hm), ← List.map_take]
    have E1 : ExtS l li H H1 := (same_S (same_new nsa)).trans e1
    have nP := s2.new np
    have eN : c + ((endNames.map V.str).length : Nat) = c + 16 := rfl
    rw [eN] at s2
    exact k _ p (ms.take m) (E1.trans (same_S (same_new np))) (s2.same (same_new np)) (ext_none E1 np nP.1 nP.2) nP.1 nP.2 upd_same (by rw [List.length_take, lm]; omega) ((pn.nodup_iff.mpr (by decide +kernel)).sublist (List.take_sublist _ _)) (fun s hs => pn.mem_iff.mp (List.mem_of_mem_take hs))
end
end K14.T3
namespace K14.T3
open T27
open K14.Gn
open PySem PySem.W PySem.Calls PyProof.Rows L2 LamX
open He (ga)
open Kz (SS ExtS ExtS.trans ExtS.refl small4 same_new boot_in boot_li boot_isi Has pe_has noE PSs.of_eq seqI new_ext X1)
/-! ### figure_at, is_box -/
abbrev sFa : Stmt := topS 26
abbrev sBx : Stmt := topS 28
theorem scFa : FnScope ["endless", "index"] ["endless", "index"] (defScope sFa) := ⟨rfl, rfl, rfl, by decide +kernel, rfl, by decide +kernel, by decide +kernel⟩
theorem scBx : FnScope ["ends", "thing"] ["ends", "thing"] (defScope sBx) := ⟨rfl, rfl, rfl, by decide +kernel, rfl, by decide +kernel, by decide +kernel⟩
section
variable {P : Program} {w : World} {K : Frag} {mg : Str → Option Value} {base : Heap}
def spFa : Sp := fun vs H Q _ => ∃ (v : V) (hs as : List Int) (i : Nat), vs = [v, .int (i : Nat)] ∧ EndV H v hs as ∧ ∀ H', L2.Same H H' → Q (.int (figAt hs as i)) H'
theorem ok_fa {f : Addr} {fd : FuncData} (F : FunD K "figure_at" "figure_at" (defArgs sFa) (defBody sFa) (defScope sFa) [] [] f fd) (C : Has P w K mg base "check_endless" 5 ["endless"] (spRight isE)) (I : Has P w K mg base "is_number" 1 ["thing"] (spLook isN)) (T : Has P w K mg base "figure_there" 1 ["endless", "index"] spFig) : FnOk P w K mg base CX0 6 f fd ["endless", "index"] spFa := by
  refine F.ok scFa (fun vs H Q E h => ?_) (fun cdv A outer s H vs Q XE hr h => ?_)
  · obtain ⟨v, hs, as, i, rfl, _⟩ := h
    rfl
  · obtain ⟨v, hs, as, i, rfl, hv, k⟩ := h
    refine ⟨_, PSs.nox (pss_cons (ps_expr (pe_has C hr (by rfl) (pa_cons (pv 0) pa_nil))) (pss_cons (ps_if (pt_not (pt_val (pe_has I (hr.mono (by decide)) (by rfl) (pa_cons (pv 1) pa_nil)))) (pss_one ps_never) pss_nil) (pss_one (ps_ret (pe_has T (hr.mono (by decide)) (by rfl) (pa_cons (pv 0) (pa_cons (pv 1) pa_nil))))))), ?_⟩
    obtain ⟨d, td, ed, b1, b2⟩ := hv.look
    refine ⟨v, rfl, v, d, rfl, td, ed, b1, b2, fun H1 s1 => ⟨.int (i : Nat), rfl, .int (i : Nat), .int (i : Nat), rfl, .int _, fun H2 s2 => ⟨true, ?_, iteF ⟨v, rfl, .int (i : Nat), rfl, v, hs, as, i, rfl, hv.ext (s1.trans s2), k H2 (s1.trans s2)⟩⟩⟩⟩
    show V.bl (decide (0 ≤ ((i : Nat) : Int))) = V.bl true
    rw [decide_eq_true (by omega)]
def spFaX (K : Frag) : Sp := fun vs H Q E => (∃ v u, vs = [v, u] ∧ Odd isE H v ∧ Says (ga K "BadEndless") v H E) ∨ ∃ v u hs as d, vs = [v, u] ∧ EndV H v hs as ∧ Th H u d ∧ isN d = false ∧ Says (ga K "BadIndex") u H E
theorem okx_fa {f : Addr} {fd : FuncData} (F : FunD K "figure_at" "figure_at" (defArgs sFa) (defBody sFa) (defScope sFa) [] [] f fd) (C : Has P w K mg base "check_endless" 5 ["endless"] (spRight isE)) (CX : HasX P w K mg base "check_endless" 5 ["endless"] (spOdd isE (ga K "BadEndless"))) (I : Has P w K mg base "is_number" 1 ["thing"] (spLook isN)) (T : ErK P K mg "BadIndex") : FnOk P w K mg base (L2.CX P w) 6 f fd ["endless", "index"] (spFaX K) := by
  refine F.ok scFa (fun vs H Q E h => ?_) (fun cdv A outer s H vs Q XE hr h => ?_)
  · obtain ⟨v, u, rfl, _⟩ | ⟨v, u, _, _, _, rfl, _⟩ := h <;> rfl
  · obtain ⟨v, u, rfl, o, k⟩ | ⟨v, u, hs, as, d, rfl, hv, tu, e, k⟩ := h
    · refine ⟨_, pss_cons (ps_expr (pe_hasX CX hr (by rfl) noX (pa_cons (pv 0) pa_nil))) pss_never, ?_⟩
      exact ⟨v, rfl, v, rfl, o, k⟩
    · obtain ⟨d0, td, ed, b1, b2⟩ := hv.look
      refine ⟨_, pss_cons (ps_expr (pe_has C hr (by rfl) (pa_cons (pv 0) pa_nil))) (pss_cons (ps_if (pt_not (pt_val (pe_has I (hr.mono (by decide)) (by rfl) (pa_cons (pv 1) pa_nil)))) (pss_one (ps_raise rfl (takes_of rfl rfl rfl rfl) (pmk_x1 T.2 (hr.mono (by decide)) rfl (by rfl) T.1 (pv 1)))) pss_nil) pss_never), ?_⟩
      refine ⟨v, rfl, v, d0, rfl, td, ed, b1, b2, fun H1 s1 => ⟨u, rfl, u, d, rfl, tu.ext s1, fun H2 s2 => ⟨_, rfl, ?_⟩⟩⟩
      rw [e]
      exact iteT ⟨u, rfl, fun dx n => k _ dx ((s1.trans s2).trans (same_new n)) upd_same⟩
def spBx : Sp := fun vs H Q _ => ∃ (ve v : V) (ns : List Str) (de d : PyData), vs = [ve, v] ∧ EndsS H ve ns ∧ EndsOk H ve de ∧ fne de = none ∧ Th H v d ∧ Bd d ∧ ∀ H', L2.Same H H' → Q (.bl (boxB ns d)) H'
theorem ok_bx {f : Addr} {fd : FuncData} (F : FunD K "is_box" "is_box" (defArgs sBx) (defBody sBx) (defScope sBx) [] [] f fd) (C : Has P w K mg base "check_ends" 4 ["ends"] spCk) (B : Has P w K mg base "is_box_at" 4 ["ends", "thing"] spBa) : FnOk P w K mg base CX0 5 f fd ["ends", "thing"] spBx := by
  refine F.ok scBx (fun vs H Q E h => ?_) (fun cdv A outer s H vs Q XE hr h => ?_)
  · obtain ⟨ve, v, ns, de, d, rfl, _⟩ := h
    rfl
  · obtain ⟨ve, v, ns, de, d, rfl, hE, hO, e, hv, bd, k⟩ := h
    refine ⟨_, PSs.nox (pss_cons (ps_expr (pe_has C hr (by rfl) (pa_cons (pv 0) pa_nil))) (pss_one (ps_ret (pe_has B hr (by rfl) (pa_cons (pv 0) (pa_cons (pv 1) pa_nil)))))), ?_⟩
    exact ⟨ve, rfl, ve, de, rfl, hO, e, fun H1 s1 => ⟨ve, rfl, v, rfl, ve, v, ns, d, rfl, hE.ext s1, hv.ext s1, bd, fun H2 s2 => k H2 (s1.trans s2)⟩⟩
def spBxX (K : Frag) : Sp := fun vs H Q E => ∃ (ve v : V) (de : PyData) (j : Nat), vs = [ve, v] ∧ EndsOk H ve de ∧ fne de = some j ∧ SaysF (ga K "BadEnds") "index" (.int (j : Nat)) H E
theorem okx_bx {f : Addr} {fd : FuncData} (F : FunD K "is_box" "is_box" (defArgs sBx) (defBody sBx) (defScope sBx) [] [] f fd) (C : HasX P w K mg base "check_ends" 4 ["ends"] (spCkX K)) : FnOk P w K mg base (L2.CX P w) 5 f fd ["ends", "thing"] (spBxX K) := by
  refine F.ok scBx (fun vs H Q E h => ?_) (fun cdv A outer s H vs Q XE hr h => ?_)
  · obtain ⟨ve, v, de, j, rfl, _⟩ := h
    rfl
  · obtain ⟨ve, v, de, j, rfl, hO, e, k⟩ := h
    refine ⟨_, pss_cons (ps_expr (pe_hasX C hr (by rfl) noX (pa_cons (pv 0) pa_nil))) pss_never, ?_⟩
    exact ⟨ve, rfl, ve, de, j, rfl, hO, e, k⟩
end
end K14.T3
namespace K14.T3
open T27
open K14.Gn
open PySem PySem.W PySem.Calls PyProof.Rows L2 LamX
open He (ga)
open Kz (SS ExtS ExtS.trans ExtS.refl small4 same_new boot_in boot_li boot_isi Has pe_has noE PSs.of_eq seqI new_ext X1)
/-! ### figures as signs -/
def fg (n : Int) : Nat := if n = 0 then 48 else 49
def rowS (ns : List Int) : Str := ⟨(ns.map fg).toArray⟩
theorem rowS_tl (ns : List Int) : TL.tl (rowS ns) = ns.map fg := rfl
theorem rowS_len (ns : List Int) : (rowS ns).length = ns.length := by
  rw [TL.len_tl, rowS_tl, List.length_map]
theorem joinL_nil : ∀ ps : List (List Nat), TL.joinL [] ps = ps.flatten
  | [] => rfl
  | [p] => by simp [TL.joinL]
  | p :: q :: r => by
    show p ++ ([] ++ TL.joinL [] (q :: r)) = (p :: q :: r).flatten
    rw [joinL_nil (q :: r), List.nil_append]
    rfl
theorem fg_txt {n : Int} (h : n = 0 ∨ n = 1) : TL.tl (Str.ofString (toString n)) = [fg n] := by
  rcases h with rfl | rfl <;> decide +kernel
theorem join_row {ns : List Int} (h : figsB ns) : Txt.join "" (ns.map fun n => Str.ofString (toString n)) = rowS ns := by
  refine TL.ext_tl ?_
  rw [TL.join_eq, TL.tl_join, rowS_tl, List.map_map]
  have e0 : TL.tl ("" : Str) = [] := by decide +kernel
  rw [e0, joinL_nil]
  induction ns with
  | nil => rfl
  | cons n r ih =>
    rw [List.map_cons, List.flatten_cons, List.map_cons, ih fun m hm => h m (List.mem_cons_of_mem _ hm)]
    show TL.tl (Str.ofString (toString n)) ++ _ = fg n :: _
    rw [fg_txt (h n (List.mem_cons_self ..))]
    rfl
abbrev sSo : Stmt := topS 29
abbrev NSo : List Str := ["row", "figure"]
theorem scSo : FnScope NSo ["row"] (defScope sSo) := ⟨rfl, rfl, rfl, by decide +kernel, rfl, by decide +kernel, by decide +kernel⟩
theorem bdSo : defBody sSo = [stOf sSo 0] := by rfl
def scOfJ : Stmt → Scope
  | .Return (some (.Call _ [.ListComp _ _ sc _] _ _)) _ => sc
  | _ => defScope sSo
def soSc : Scope := scOfJ (stOf sSo 0)
theorem chkS : blkC NSo (defScope sSo) soSc [("figure", 1)] = true := by decide +kernel
def strD : PyData → PyData
  | .int n => .str (Str.ofString (toString n))
  | _ => .none
theorem th_strsV {H : Hp} : ∀ {vs : List V} {ss : List Str}, ThAll H vs (ss.map PyData.str) → vs = ss.map V.str
  | _, [], .nil => rfl
  | _, s :: r, .cons h q => by
    cases h
    rw [th_strsV q]
    rfl
section
variable {P : Program} {w : World} {K : Frag} {mg : Str → Option Value} {base : Heap}
def spSo : Sp := fun vs H Q _ => ∃ (v : V) (d : PyData) (ns : List Int), vs = [v] ∧ Th H v d ∧ isL d = true ∧ its d = ns.map PyData.int ∧ figsB ns ∧ ns.length ≤ 1000 ∧ ∀ H', L2.Same H H' → Q (.str (rowS ns)) H'
theorem ok_so {f : Addr} {fd : FuncData} (F : FunD K "signs_of" "signs_of" (defArgs sSo) (defBody sSo) (defScope sSo) [] [] f fd) (ms : mg "str" = none) : FnOk P w K mg base CX0 1 f fd ["row"] spSo := by
  refine F.ok scSo (fun vs H Q E h => ?_) (fun cdv A outer s H vs Q XE hr h => ?_)
  · obtain ⟨v, d, ns, rfl, _⟩ := h
    rfl
  · obtain ⟨v, d, ns, rfl, hv, l, e, hf, ln, k⟩ := h
    have h0 : PS (cxOf CX0 P w K mg base NSo "signs_of" (defScope sSo) f cdv A outer s H XE).nox (stOf sSo 0) _ := ps_ret (pe_join pe_str (pe_lc (X := (cxOf CX0 P w K mg base NSo "signs_of" (defScope sSo) f cdv A outer s H XE).nox) (scope := soSc) (own := [("figure", 1)]) (g := gName 1) (tt := tYes) rfl scSo.nd
      (pi_sq (pv 0)) (blkOk_by chkS) (fun _ _ _ _ _ => pg_name (i := 1) scSo.nd rfl (Or.inl rfl)) (fun _ _ _ _ _ => pts_nil)
      (fun s0 H0 C0 cl0 fp0 => by exact pe_callTy call_str_int (by rfl) ms boot_st (pa_cons (pv 1) pa_nil))))
    refine ⟨_, PSs.nox (PSs.of_eq bdSo (pss_one h0)), ?_⟩
    clear h0
    have sm : ∀ {G : Hp}, L2.Same G G := fun _ _ e => e
    refine ⟨⟨_, rfl⟩, lc_th (d := d) strD (fun R h => ⟨v, rfl, h _ _ sm hv⟩) l (by rw [e, List.length_map]; omega) (fun x => rfl) (fun D j z x G Q' hz S ho tz kk => ?_) (fun G D S hD tD => ?_)⟩
    · rw [e, List.getElem?_map] at hz
      obtain ⟨n, hn, rfl⟩ := Option.map_eq_some_iff.mp hz
      cases tz
      have hn' := hf n (List.mem_of_getElem? hn)
      refine ⟨.int n, rfl, n, rfl, ?_, kk _ _ sm (.str _)⟩
      rcases hn' with rfl | rfl <;> decide +kernel
    · have e2 : (its d).map strD = (ns.map fun n => Str.ofString (toString n)).map PyData.str := by
        rw [e, List.map_map, List.map_map]
        rfl
      rw [e2] at tD
      cases tD with
      | @lst a xs _ ha r =>
        rw [th_strsV r] at ha
        refine ⟨"", D, ns.map fun n => Str.ofString (toString n), rfl, rfl, .inl (.inl (.inl ha)), ?_, ?_⟩
        · have b : ((ns.map fun n => Str.ofString (toString n)).map (·.length)).sum ≤ ns.length := by
            clear e2 ha r e k
            induction ns with
            | nil => exact Nat.le_refl _
            | cons n q ih =>
              have h1 : (Str.ofString (toString n)).length = 1 := by
                rw [TL.len_tl, fg_txt (hf n (List.mem_cons_self ..))]
                rfl
              have h2 := ih (fun m hm => hf m (List.mem_cons_of_mem _ hm)) (by simp at ln; omega)
              simp only [List.map_cons, List.sum_cons, List.length_cons]
              omega
          have z : ("" : Str).length = 0 := by decide +kernel
          rw [z, Nat.mul_zero]
          omega
        · have := k G S
          rwa [← join_row hf] at this
end
end K14.T3
namespace K14.T3
open T27
open K14.Gn
open PySem PySem.W PySem.Calls PyProof.Rows L2 LamX
open He (ga)
open Kz (SS ExtS ExtS.trans ExtS.refl small4 same_new boot_in boot_li boot_isi Has pe_has noE PSs.of_eq seqI new_ext X1)
/-! ### the text of an endless row -/
def endT (hs as : List Int) : Str := ((rowS hs ++ "(") ++ rowS as) ++ ")"
theorem endT_tl (hs as : List Int) : TL.tl (endT hs as) = hs.map fg ++ 40 :: (as.map fg ++ [41]) := by
  unfold endT
  rw [TL.tl_append, TL.tl_append, TL.tl_append, rowS_tl, rowS_tl]
  have e1 : TL.tl ("(" : Str) = [40] := by decide +kernel
  have e2 : TL.tl (")" : Str) = [41] := by decide +kernel
  rw [e1, e2]
  simp
theorem app_len (a b : Str) : (a ++ b).length = a.length + b.length := by rw [TL.len_tl, TL.tl_append, List.length_append, ← TL.len_tl, ← TL.len_tl]
theorem empty_app (a : Str) : Str.empty ++ a = a := TL.ext_tl (by
  rw [TL.tl_append]
  rfl)
theorem figs_of {x : PyData} {ns : List Int} (h : isR x = true) (e : its x = ns.map PyData.int) : isL x = true ∧ figsB ns := by
  obtain ⟨h1, h2⟩ := Bool.and_eq_true_iff.mp (show (isL x && (its x).all isF) = true from h)
  refine ⟨h1, fun n hn => ?_⟩
  rw [e] at h2
  have := List.all_eq_true.mp h2 (.int n) (List.mem_map.mpr ⟨n, hn, rfl⟩)
  obtain ⟨a, b⟩ := Bool.and_eq_true_iff.mp (show (decide (0 ≤ n) && decide (n ≤ 1)) = true from this)
  have := of_decide_eq_true a
  have := of_decide_eq_true b
  omega
/-- an endless row that is passed: its parts -/
theorem EndV.parts {K : Frag} {H : Hp} {v : V} {hs as : List Int} (h : EndV H v hs as) : figsB hs ∧ figsB as ∧ 0 < as.length ∧ hs.length ≤ 500 ∧ as.length ≤ 500 ∧ ∃ (x y : PyData) (vx vy : V), isL x = true ∧ isL y = true ∧ its x = hs.map PyData.int ∧ its y = as.map PyData.int ∧ Th H vx x ∧ Th H vy y ∧
    (∀ G, L2.Same H G → ∀ Q : VK, Q vx G → rIx K v (.int (0 : Nat)) G Q) ∧ ∀ G, L2.Same H G → ∀ Q : VK, Q vy G → rIx K v (.int (1 : Nat)) G Q := by
  obtain ⟨x, y, d, t, e, q, hx, hy, p0, p1, p2⟩ := h
  have e' : (isL d && (isR x && (isR y && decide (0 < (its y).length)))) = true := by
    unfold isE at e
    rw [q] at e
    exact e
  rw [Bool.and_eq_true, Bool.and_eq_true, Bool.and_eq_true] at e'
  obtain ⟨ld, rx, ry, _⟩ := e'
  obtain ⟨lx, fx⟩ := figs_of rx hx
  obtain ⟨ly, fy⟩ := figs_of ry hy
  obtain ⟨vx, tx, ix⟩ := th_ixS (K := K) (j := 0) t ld (z := x) (by rw [q]; rfl)
  obtain ⟨vy, ty, iy⟩ := th_ixS (K := K) (j := 1) t ld (z := y) (by rw [q]; rfl)
  exact ⟨fx, fy, p0, p1, p2, x, y, vx, vy, lx, ly, hx, hy, tx, ty, ix, iy⟩
abbrev sEt : Stmt := topS 37
abbrev sLe2 : Stmt := topS 57
theorem scEt : FnScope ["endless"] ["endless"] (defScope sEt) := ⟨rfl, rfl, rfl, by decide +kernel, rfl, by decide +kernel, by decide +kernel⟩
abbrev NLe2 : List Str := ["endless", "part"]
theorem scLe2 : FnScope NLe2 ["endless"] (defScope sLe2) := ⟨rfl, rfl, rfl, by decide +kernel, rfl, by decide +kernel, by decide +kernel⟩
theorem bdEt : defBody sEt = [stOf sEt 0, stOf sEt 1] := by rfl
theorem bdLe2 : defBody sLe2 = [stOf sLe2 0] := by rfl
def scOfE1 : Stmt → Scope
  | .Return (some (.BinOp (.BinOp (.BinOp (.Call _ [.ListComp _ _ sc _] _ _) _ _ _) _ _ _) _ _ _)) _ => sc
  | _ => defScope sLe2
def scOfE2 : Stmt → Scope
  | .Return (some (.BinOp (.BinOp _ _ (.Call _ [.ListComp _ _ sc _] _ _) _) _ _ _)) _ => sc
  | _ => defScope sLe2
def leSc1 : Scope := scOfE1 (stOf sLe2 0)
def leSc2 : Scope := scOfE2 (stOf sLe2 0)
theorem chkE1 : blkC NLe2 (defScope sLe2) leSc1 [("part", 1)] = true := by decide +kernel
theorem chkE2 : blkC NLe2 (defScope sLe2) leSc2 [("part", 1)] = true := by decide +kernel
section
variable {P : Program} {w : World} {K : Frag} {mg : Str → Option Value} {base : Heap}
def spEt : Sp := fun vs H Q _ => ∃ (v : V) (hs as : List Int), vs = [v] ∧ EndV H v hs as ∧ ∀ H', L2.Same H H' → Q (.str (endT hs as)) H'
theorem ok_et {f : Addr} {fd : FuncData} (F : FunD K "endless_text" "endless_text" (defArgs sEt) (defBody sEt) (defScope sEt) [] [] f fd) (C : Has P w K mg base "check_endless" 5 ["endless"] (spRight isE)) (S : Has P w K mg base "signs_of" 1 ["row"] spSo) : FnOk P w K mg base CX0 6 f fd ["endless"] spEt := by
  refine F.ok scEt (fun vs H Q E h => ?_) (fun cdv A outer s H vs Q XE hr h => ?_)
  · obtain ⟨v, hs, as, rfl, _⟩ := h
    rfl
  · obtain ⟨v, hs, as, rfl, hv, k⟩ := h
    have h0 : PS (cxOf CX0 P w K mg base ["endless"] "endless_text" (defScope sEt) f cdv A outer s H XE).nox (stOf sEt 0) _ := ps_expr (pe_has C hr (by rfl) (pa_cons (pv 0) pa_nil))
    have h1 : PS (cxOf CX0 P w K mg base ["endless"] "endless_text" (defScope sEt) f cdv A outer s H XE).nox (stOf sEt 1) _ := ps_ret (pe_joined (.cons (pe_fmt (pe_has S (hr.mono (by decide)) (by rfl) (pa_cons (pe_ix ix_seq (pv 0) pe_int (fun _ _ => rfl)) pa_nil))) (.cons pe_str (.cons (pe_fmt (pe_has S (hr.mono (by decide)) (by rfl) (pa_cons (pe_ix ix_seq (pv 0) pe_int (fun _ _ => rfl)) pa_nil))) (.cons pe_str .nil)))))
    refine ⟨_, PSs.nox (PSs.of_eq bdEt (pss_cons h0 (pss_one h1))), ?_⟩
    clear h0 h1
    obtain ⟨d, td, ed, b1, b2⟩ := hv.look
    obtain ⟨fx, fy, p0, p1, p2, x, y, vx, vy, lx, ly, ex, ey, tx, ty, ix, iy⟩ := EndV.parts (K := K) hv
    have o1 : ("(" : Str).length = 1 := by decide +kernel
    have o2 : (")" : Str).length = 1 := by decide +kernel
    refine ⟨v, rfl, v, d, rfl, td, ed, b1, b2, fun H1 s1 => ?_⟩
    refine ⟨v, rfl, ix _ s1 _ ⟨vx, x, hs, rfl, tx.ext s1, lx, ex, fx, by omega, fun H2 s2 => .inl ⟨rowS hs, rfl, by rw [rowS_len, sizeLine_eq]; omega, rowS hs, rfl, by rw [empty_app, rowS_len, sizeLine_eq]; omega, ?_⟩⟩⟩
    rw [empty_app]
    have s12 := s1.trans s2
    refine ⟨"(", rfl, by rw [app_len, rowS_len, o1, sizeLine_eq]; omega, v, rfl, iy _ s12 _ ⟨vy, y, as, rfl, ty.ext s12, ly, ey, fy, by omega, fun H3 s3 => .inl ⟨rowS as, rfl, by rw [rowS_len, sizeLine_eq]; omega, rowS as, rfl, by rw [app_len, app_len, rowS_len, rowS_len, o1, sizeLine_eq]; omega, ?_⟩⟩⟩
    exact ⟨")", rfl, by rw [app_len, app_len, app_len, rowS_len, rowS_len, o1, o2, sizeLine_eq]; omega, k H3 (s12.trans s3)⟩
end
end K14.T3
namespace K14.T3
open T27
open K14.Gn
open PySem PySem.W PySem.Calls PyProof.Rows L2 LamX
open He (ga)
open Kz (SS ExtS ExtS.trans ExtS.refl small4 same_new boot_in boot_li boot_isi Has pe_has noE PSs.of_eq seqI new_ext X1)
def rJ (K : Frag) : V → List V → Hp → VK → Prop := fun x xs H Q => ∃ a p, ∃ ys : List Str, x = .str a ∧ xs = [.ref p] ∧ (SqL K H p (ys.map V.str) ∨ SqT K H p (ys.map V.str)) ∧ (ys.map (·.length)).sum + ys.length * a.length ≤ 16777216 ∧ Q (.str (Txt.join a ys)) H
/-- the signs of figures, joined -/
theorem join_sq {K : Frag} {k : Nat} {d : PyData} {ns : List Int} {σ : L2.St} {H : Hp} {tl te : TE} {vs : List Nat} {Q : VK} (ht : ∀ R : VK, (∀ (v' : V) (G0 : Hp), L2.Same H G0 → Th G0 v' d → R v' G0) → tl σ H R) (l : isL d = true) (e : its d = ns.map PyData.int) (hf : figsB ns) (ln : ns.length ≤ 1000)
    (hw : ∀ x : V, wipe ((wipe σ vs).set k (some x)) vs = wipe σ vs) (hte : ∀ (n : Int) (G : Hp) (Q' : VK), n.natAbs.log2 < 1920 → Q' (.str (toString n)) G → te ((wipe σ vs).set k (some (.int n))) G Q') (hq : ∀ G, L2.Same H G → Q (.str (rowS ns)) G) :
    tM1 (rJ K) (tC (.str "")) (tLc (iSq K tl) (gName k) tYes te vs) σ H Q := by
  refine ⟨⟨_, rfl⟩, lc_th (d := d) strD ht l (by rw [e, List.length_map]; omega) hw (fun D j z x G Q' hz S ho tz kk => ?_) (fun G D S hD tD => ?_)⟩
  · rw [e, List.getElem?_map] at hz
    obtain ⟨n, hn, rfl⟩ := Option.map_eq_some_iff.mp hz
    cases tz
    have hn' := hf n (List.mem_of_getElem? hn)
    refine hte n G Q' ?_ (kk _ _ (fun _ _ q => q) (.str _))
    rcases hn' with rfl | rfl <;> decide +kernel
  · have e2 : (its d).map strD = (ns.map fun n => Str.ofString (toString n)).map PyData.str := by
      rw [e, List.map_map, List.map_map]
      rfl
    rw [e2] at tD
    cases tD with
    | @lst a xs _ ha r =>
      rw [th_strsV r] at ha
      refine ⟨"", D, ns.map fun n => Str.ofString (toString n), rfl, rfl, .inl (.inl (.inl ha)), ?_, ?_⟩
      · have b : ((ns.map fun n => Str.ofString (toString n)).map (·.length)).sum ≤ ns.length := by
          clear e2 ha r e hq
          induction ns with
          | nil => exact Nat.le_refl _
          | cons n q ih =>
            have h1 : (Str.ofString (toString n)).length = 1 := by
              rw [TL.len_tl, fg_txt (hf n (List.mem_cons_self ..))]
              rfl
            have h2 := ih (fun m hm => hf m (List.mem_cons_of_mem _ hm)) (by simp at ln; omega)
            simp only [List.map_cons, List.sum_cons, List.length_cons]
            omega
        have z : ("" : Str).length = 0 := by decide +kernel
        rw [z, Nat.mul_zero]
        omega
      · have := hq G S
        rwa [← join_row hf] at this
theorem op_in {r : R2} {ta tb : TE} {σ : L2.St} {H : Hp} {Q : VK} (h : ta σ H fun x H1 => tb σ H1 fun y H2 => r x y H2 Q) : tOp r ta tb σ H Q := h
section
variable {P : Program} {w : World} {K : Frag} {mg : Str → Option Value} {base : Heap}
theorem ok_le2 {f : Addr} {fd : FuncData} (F : FunD K "_law_endless_text" "_law_endless_text" (defArgs sLe2) (defBody sLe2) (defScope sLe2) [] [] f fd) (ms : mg "str" = none) : FnOk P w K mg base CX0 1 f fd ["endless"] spEt := by
  refine F.ok scLe2 (fun vs H Q E h => ?_) (fun cdv A outer s H vs Q XE hr h => ?_)
  · obtain ⟨v, hs, as, rfl, _⟩ := h
    rfl
  · obtain ⟨v, hs, as, rfl, hv, k⟩ := h
    have h0 : PS (cxOf CX0 P w K mg base NLe2 "_law_endless_text" (defScope sLe2) f cdv A outer s H XE).nox (stOf sLe2 0) _ := ps_ret (pe_op op_add_str (pe_op op_add_str (pe_op op_add_str
      (pe_join pe_str (pe_lc (X := (cxOf CX0 P w K mg base NLe2 "_law_endless_text" (defScope sLe2) f cdv A outer s H XE).nox) (scope := leSc1) (own := [("part", 1)]) (g := gName 1) (tt := tYes) (te := tCB (fun xs H Q => ∃ i, xs = [.int i] ∧ i.natAbs.log2 < 1920 ∧ Q (.str (toString i)) H) (tCons (tVar 1) tNil)) rfl scLe2.nd (pi_sq (pe_ix ix_seq (pv 0) pe_int (fun _ _ => rfl))) (blkOk_by chkE1) (fun _ _ _ _ _ => pg_name (i := 1) scLe2.nd rfl (Or.inl rfl)) (fun _ _ _ _ _ => pts_nil) (fun s0 H0 C0 cl0 fp0 => by exact pe_callTy call_str_int (by rfl) ms boot_st (pa_cons (pv 1) pa_nil))))
      pe_str) (pe_join pe_str (pe_lc (X := (cxOf CX0 P w K mg base NLe2 "_law_endless_text" (defScope sLe2) f cdv A outer s H XE).nox) (scope := leSc2) (own := [("part", 1)]) (g := gName 1) (tt := tYes) (te := tCB (fun xs H Q => ∃ i, xs = [.int i] ∧ i.natAbs.log2 < 1920 ∧ Q (.str (toString i)) H) (tCons (tVar 1) tNil)) rfl scLe2.nd (pi_sq (pe_ix ix_seq (pv 0) pe_int (fun _ _ => rfl))) (blkOk_by chkE2) (fun _ _ _ _ _ => pg_name (i := 1) scLe2.nd rfl (Or.inl rfl)) (fun _ _ _ _ _ => pts_nil) (fun s0 H0 C0 cl0 fp0 => by exact pe_callTy call_str_int (by rfl) ms boot_st (pa_cons (pv 1) pa_nil))))) pe_str)
    refine ⟨_, PSs.nox (PSs.of_eq bdLe2 (pss_one h0)), ?_⟩
    clear h0
    obtain ⟨fx, fy, p0, p1, p2, x, y, vx, vy, lx, ly, ex, ey, tx, ty, ix, iy⟩ := EndV.parts (K := K) hv
    have o1 : ("(" : Str).length = 1 := by decide +kernel
    have o2 : (")" : Str).length = 1 := by decide +kernel
    refine ret_intro (op_in (op_in (op_in (join_sq (K := K) (d := x) (ns := hs) (fun R h => ⟨v, rfl, ix _ (fun _ _ q => q) _ (h _ _ (fun _ _ q => q) tx)⟩) lx ex fx (by omega) (fun _ => rfl) (fun n G Q' hn q => ⟨.int n, rfl, n, rfl, hn, q⟩) (fun G1 s1 => ?_)))))
    refine ⟨_, _, rfl, rfl, by rw [rowS_len, o1, sizeLine_eq]; omega, ?_⟩
    refine join_sq (K := K) (d := y) (ns := as) (fun R h => ⟨v, rfl, iy _ s1 _ (h _ _ (fun _ _ q => q) (ty.ext s1))⟩) ly ey fy (by omega) (fun _ => rfl) (fun n G Q' hn q => ⟨.int n, rfl, n, rfl, hn, q⟩) (fun G2 s2 => ?_)
    exact ⟨_, _, rfl, rfl, by rw [app_len, rowS_len, rowS_len, o1, sizeLine_eq]; omega, _, _, rfl, rfl, by rw [app_len, app_len, rowS_len, rowS_len, o1, o2, sizeLine_eq]; omega, k G2 (s1.trans s2)⟩
end
end K14.T3
namespace K14.DiM
open PySem PySem.W PySem.Calls PyProof.Rows L2 LamX
/-- a dict of the module's top, that stays as it is -/
def DcK (P : Program) (w : World) (K : Frag) (a : Addr) (kvs : List (Key × V)) : Prop := kvs.length ≤ sizeLine ∧ (a == sysModules) = false ∧ ∀ h : Heap, K.In h → ∃ vs, KV kvs vs ∧ h.DictOf (mixKind P w) a vs
/-- dict(D): a copy of such a dict -/
theorem call_dictM {X : Cx} : CallR X (.type "dict") (fun xs H Q => ∃ (a : Addr) (kvs : List (Key × V)), xs = [.ref a] ∧ DcK X.prog X.w X.K a kvs ∧ ∀ p, H p = none → Q (.ref p) (upd H p (.dK kvs))) := by
  intro pins s σ H xs us Q I r q
  obtain ⟨a, kvs, ex, ⟨z, lo, hd⟩, q⟩ := q
  subst ex
  obtain ⟨u, eu, rx⟩ := vals1 r
  subst eu
  cases rx
  obtain ⟨vs, rel, dd⟩ := hd s.heap I.kIn
  refine kt_call_dict lo dd (by rw [← rel.length]; exact z) fun h' d' hs => ?_
  have hm : (s.heap.objs.size == sysModules) = false := beq_eq_false_iff_ne.mpr (Nat.ne_of_gt I.big)
  exact ⟨.ref s.heap.objs.size, upd H s.heap.objs.size (.dK kvs), I.laid (t' := s.toks) (fun b u e => (hs.2 b (Nat.ne_of_lt (Heap.lt_size e))).trans (Heap.get?_push_of_some _ e)) (Nat.le_refl _)
    (show ObjOk X.prog X.w _ _ _ (.dK kvs) from ⟨z, hm, vs, rel, d'⟩), rfl, q _ (I.hok.fresh (Nat.le_refl _))⟩
end K14.DiM
namespace K14.EnS
open PySem PySem.W PySem.Calls PyProof.Rows L2
open K14.EnT
/-! ### enumerate over a text -/
def IteS (x : Str) : It :=
  ⟨fun j _ => j < x.cps.size, fun j G r G' => ∃ T c, r = .ref T ∧ G T = none ∧ G' = upd G T (.tup [.int (j : Nat), .str ⟨#[c]⟩]) ∧ x.cps[j]? = some c, fun j _ => j = x.cps.size⟩
theorem turn_enS {P : Program} {w : World} {K : Frag} {elts : List Expr} {kk : Nat} {tpos : Pos} (x : Str) (t : Tok) (e it : Addr) :
    Turn P w K (.Tuple elts kk tpos) (IteS x) [e, it] e (fun j g => (∃ prev, IsEnum g e it ((j : Nat) : Int) prev) ∧ g.IsStrIter it (strIterType x) x t j ∧ e ≠ it) where
  mem := by simp
  obj := fun j g st b hb => by
    obtain ⟨⟨prev, en⟩, ⟨o, ho, hc, hd⟩, _⟩ := st
    have c2 : b = e ∨ b = it := by simpa using hb
    rcases c2 with q | q
    · rw [q]
      exact ⟨_, en, fun v y => nomatch y⟩
    · rw [q]
      exact ⟨o, ho, fun v y => by rw [hd] at y; cases y⟩
  keep := fun j g g' st k => by
    obtain ⟨⟨prev, en⟩, ⟨o, ho, r⟩, n⟩ := st
    exact ⟨⟨prev, k e (by simp) _ en⟩, ⟨o, k it (by simp) o ho, r⟩, n⟩
  item := by
    intro X hP hw hK hc j pins s σ H E I fp st hg
    subst hP hw hK
    obtain ⟨⟨prev, en⟩, ti, n1⟩ := st
    have le : e < s.heap.objs.size := Heap.lt_size en
    have li : it < s.heap.objs.size := by
      obtain ⟨_, q, _⟩ := ti
      exact Heap.lt_size q
    refine wpAny_pyNext_enum_itemD (Draws.text (prog := X.prog) (w := X.w) (A := X.A.in1) (show X.A.in1.handled = none from I.ok.hd hc) it x t) en ti hg n1 (by simp [n1]) fun y g tk hx eo tg hT sz hk => ?_
    obtain ⟨c, u, hcx, rfl⟩ := hx
    refine ⟨_, rfl, wpAny_letOwnedTupleGo_enum (s := { s with heap := g, toks := tk + 1 }) eo fun g2 en2 sb => ?_⟩
    have hT2 : g2.get? s.heap.objs.size = some { cls := .type "tuple", data := .seq #[.int j tk, .str ⟨#[c]⟩ u] } := (sb.2 _ (Nat.ne_of_gt le)).trans hT
    have ok2 : ObjOk X.prog X.w (upd H s.heap.objs.size (.tup [.int (j : Nat), .str ⟨#[c]⟩])) g2 s.heap.objs.size (.tup [.int (j : Nat), .str ⟨#[c]⟩]) :=
      ⟨by show 2 ≤ sizeLine; decide, [.int j tk, .str ⟨#[c]⟩ u], .cons ⟨_, rfl⟩ (.cons ⟨u, rfl⟩ .nil), ⟨_, hT2, rfl, _, rfl⟩⟩
    have I2 : Inv X pins σ (upd H s.heap.objs.size (.tup [.int (j : Nat), .str ⟨#[c]⟩])) { s with heap := g2, toks := tk + 1 } :=
      I.turnedNew (ch := [e, it]) (fun b ob hb q => (sb.2 b (fun y => hb (by simp [y]))).trans (hk b ob (fun y => hb (by simp [y])) (fun y => hb (by simp [y])) q)) fp (Nat.le_refl _) ok2
    refine ⟨.ref s.heap.objs.size, _, I2, rfl, ⟨_, c, rfl, I.hok.fresh (Nat.le_refl _), rfl, hcx⟩, ⟨⟨.str ⟨#[c]⟩ u, ?_⟩, ?_, n1⟩, fun b hb => ?_⟩
    · have c1 : ((j + 1 : Nat) : Int) = (j : Int) + 1 := by omega
      rw [c1]
      exact en2
    · obtain ⟨o, ho, r⟩ := tg
      exact ⟨o, (sb.2 it (Ne.symm n1)).trans ho, r⟩
    · have c2 : b < s.heap.objs.size := by
        have c3 : b = e ∨ b = it := by simpa using hb
        rcases c3 with q | q
        · rw [q]; exact le
        · rw [q]; exact li
      rw [upd_ne (Nat.ne_of_lt c2)]
      exact (fp b hb).1
  done := by
    intro X hP hw hK hc j pins s σ H E I fp st hg
    subst hP hw hK
    obtain ⟨⟨prev, en⟩, ti, n1⟩ := st
    obtain ⟨f0, f1, f2, f3, f4, f5⟩ := fp it (by simp)
    obtain rfl : j = x.cps.size := hg
    exact wpAny_pyNext_enum_endD (Draws.text (prog := X.prog) (w := X.w) (A := X.A.in1) (show X.A.in1.handled = none from I.ok.hd hc) it x t) en ti fun g eb => ⟨rfl, I.turned (t' := s.toks) (fun b o hb q => eb b o hb q) f0 f1 f3 f4 f5⟩
  self := fun Ar j s Q E st k => by
    obtain ⟨⟨_, en⟩, _⟩ := st
    exact wpAny_pyIter_enum en k
theorem walk_enS {x : Str} : Walk (IteS x) x.cps.size (fun _ => True) (YPair (fun j => some (.int (j : Nat))) (fun j => (x.cps[j]?).map fun c => .str ⟨#[c]⟩)) := by
  refine ⟨fun j _ hj q => hj, fun _ q => rfl, fun j G r G' _ q y => ?_⟩
  obtain ⟨T, c, h1, h2, h3, h4⟩ := y
  exact ⟨T, .int (j : Nat), .str ⟨#[c]⟩, h1, h2, h3, rfl, by show Option.map _ (x.cps[j]?) = _; rw [h4]; rfl⟩
def iEnS (ta : TA) : TI := fun σ H R => ta σ H fun vs G => ∃ x, vs = [.str x] ∧ R (IteS x) G
theorem pi_enS {X : Cx} {e : Expr} {ta : TA} {p pos tpos : Pos} {elts : List Expr} {kk : Nat} (hg : Gl X "enumerate") (hm : X.mg "enumerate" = none) (ha : PA X [e] ta) (hs : starEach [e] X.env = [(false, eval e X.env)] := by rfl) :
    PI X (.Tuple elts kk tpos) (.Call (.Name "enumerate" p) [e] [] pos) (iEnS ta) := by
  refine ⟨fun pins s σ H R I h => ?_⟩
  refine Call_ (ld_blt I hg hm boot_enumerate (PyProof.Rows.callWith_type1 (thn (ha.run pos pins s σ H _ I h) fun us z ⟨vs, G, J, r1, q1⟩ => ?_) hs rfl))
  obtain ⟨x, ex, q⟩ := q1
  subst ex
  cases r1 with
  | cons r rr =>
    cases rr
    obtain ⟨t, rfl⟩ := r
    have big : ∀ b, b ∈ [z.heap.objs.size + 1, z.heap.objs.size] → z.heap.objs.size ≤ b := fun b hb => by
      have c3 : b = z.heap.objs.size + 1 ∨ b = z.heap.objs.size := by simpa using hb
      rcases c3 with q | q
      · rw [q]; exact Nat.le_add_right _ _
      · rw [q]; exact Nat.le_refl _
    refine new_enum (begins_text x t) trivial fun g en ob sz hk => wpAny_pyIter_enum en ?_
    exact ⟨z.heap.objs.size + 1, [z.heap.objs.size + 1, z.heap.objs.size], _, _, G, rfl, J.kept (t' := z.toks) hk, turn_enS x t (z.heap.objs.size + 1) z.heap.objs.size, ⟨⟨.none, en⟩, ⟨_, ob, rfl, rfl⟩, Nat.succ_ne_self _⟩, fun b hb => J.fpOk (big b hb) (J.hok.fresh (big b hb)), q⟩
end K14.EnS
namespace K14.T3
open T27
open K14.Gn
open PySem PySem.W PySem.Calls PyProof.Rows L2 LamX
open He (ga)
open Kz (SS ExtS ExtS.trans ExtS.refl small4 same_new boot_in boot_li boot_isi Has pe_has noE PSs.of_eq seqI new_ext X1)
open DiM
/-- for j, sign in enumerate(text) -/
theorem for_enT {K : Frag} {i1 i2 : Nat} {x : Str} {σ : L2.St} {H : Hp} {tl : TE} {tb u : TS} {D : Ends} (ht : ∀ R : VK, R (.str x) H → tl σ H R) (Pv : Nat → L2.St → Hp → Prop) (h0 : Pv 0 σ H)
    (hs : ∀ (j c : Nat) (σ' : L2.St) (G : Hp), (TL.tl x)[j]? = some c → Pv j σ' G → ∀ G', L2.Same G G' → tb { nx := Pv (j + 1), rt := D.rt, bk := u D, ct := Pv (j + 1) } ((σ'.set i1 (some (.int (j : Nat)))).set i2 (some (.str ⟨#[c]⟩))) G')
    (hd : ∀ σ' G, Pv (TL.tl x).length σ' G → u D σ' G) : tSeq (tFor (EnS.iEnS (tCons tl tNil)) (gTup K 2 (gCons (gName i1) (gCons (gName i2) gNil))) tb) u D σ H := by
  have sz : x.cps.size = (TL.tl x).length := by simp [TL.tl]
  have go : ∀ (j : Nat) (v : V) (σ' : L2.St) (G G' : Hp), j < x.cps.size → Pv j σ' G → YPair (fun j => some (.int (j : Nat))) (fun j => (x.cps[j]?).map fun c => .str ⟨#[c]⟩) j G v G' → gTup K 2 (gCons (gName i1) (gCons (gName i2) gNil)) v σ' G' fun σ2 H2 => tb { nx := Pv (j + 1), rt := D.rt, bk := u D, ct := Pv (j + 1) } σ2 H2 := by
    intro j v σ' G G' hj hp ⟨T, p, y, ex, nT, eG, ep, ey⟩
    subst ex eG
    obtain rfl : V.int (j : Nat) = p := Option.some.inj ep
    have ey : (x.cps[j]?).map (fun c => V.str ⟨#[c]⟩) = some y := ey
    obtain ⟨c, hc, rfl⟩ := Option.map_eq_some_iff.mp ey
    refine ⟨T, _, rfl, .inl (.inl upd_same), rfl, _, _, rfl, _, _, rfl, rfl, ?_⟩
    exact hs j c σ' G (by rw [← hc]; simp [TL.tl]) hp _ (same_new nT)
  refine ht _ ⟨x, rfl, for_it (D := { nx := u D, rt := D.rt, bk := D.bk, ct := D.ct }) EnS.walk_enS Pv h0 (fun j σ' G _ p => trivial) go (fun σ' G p => hd σ' G (by rw [← sz]; exact p))⟩
/-! ### the stages of the text of an endless row -/
def stN : Nat → Str
  | 0 => "head"
  | 1 => "bracket"
  | 2 => "round"
  | _ => "all"
def nxK : Nat → List (Key × V)
  | 0 => [(.inr "0", .str "head"), (.inr "1", .str "head"), (.inr "(", .str "bracket")]
  | 1 => [(.inr "0", .str "round"), (.inr "1", .str "round")]
  | 2 => [(.inr "0", .str "round"), (.inr "1", .str "round"), (.inr ")", .str "all")]
  | _ => []
def nxS : Nat → Nat → Option Nat
  | 0, c => if c = 48 ∨ c = 49 then some 0 else if c = 40 then some 1 else none
  | 1, c => if c = 48 ∨ c = 49 then some 2 else none
  | 2, c => if c = 48 ∨ c = 49 then some 2 else if c = 41 then some 3 else none
  | _, _ => none
def flt : List Nat → Nat → Nat → Option Nat
  | [], st, at_ => if st = 3 then none else some at_
  | c :: r, st, at_ => match nxS st c with
    | some st' => flt r st' (at_ + 1)
    | none => some at_
/-- the names of the three tables -/
structure StK (P : Program) (w : World) (K : Frag) (mg : Str → Option Value) : Prop where
  h : ∃ a, mg "BEHIND_HEAD" = some (.ref a) ∧ DcK P w K a (nxK 0)
  b : ∃ a, mg "BEHIND_BRACKET" = some (.ref a) ∧ DcK P w K a (nxK 1)
  r : ∃ a, mg "BEHIND_ROUND" = some (.ref a) ∧ DcK P w K a (nxK 2)
  di : mg "dict" = none
abbrev sSn : Stmt := topS 39
abbrev sEf : Stmt := topS 40
theorem scSn : FnScope ["read"] ["read"] (defScope sSn) := ⟨rfl, rfl, rfl, by decide +kernel, rfl, by decide +kernel, by decide +kernel⟩
abbrev NEf : List Str := ["text", "read", "at", "sign", "behind"]
theorem scEf : FnScope NEf ["text"] (defScope sEf) := ⟨rfl, rfl, rfl, by decide +kernel, rfl, by decide +kernel, by decide +kernel⟩
theorem bdSn : defBody sSn = [stOf sSn 0, stOf sSn 1, stOf sSn 2] := by rfl
theorem bdEf : defBody sEf = [stOf sEf 0, stOf sEf 1, stOf sEf 2, stOf sEf 3] := by rfl
def fbE (i : Nat) : Stmt := (forBody (stOf sEf 2)).getD i (.Pass ⟨0, 0, 0, 0⟩)
theorem bdFE : forBody (stOf sEf 2) = [fbE 0, fbE 1, fbE 2] := by rfl
section
variable {P : Program} {w : World} {K : Frag} {mg : Str → Option Value} {base : Heap}
def spSn : Sp := fun vs H Q _ => ∃ st : Nat, vs = [.str (stN st)] ∧ st ≤ 3 ∧ ∀ (H' : Hp) (p : Addr), L2.Same H H' → H' p = some (.dK (nxK st)) → Q (.ref p) H'
theorem ok_sn {f : Addr} {fd : FuncData} (F : FunD K "signs_next" "signs_next" (defArgs sSn) (defBody sSn) (defScope sSn) [] [] f fd) (T : StK P w K mg) : FnOk P w K mg base CX0 1 f fd ["read"] spSn := by
  obtain ⟨a0, g0, d0⟩ := T.h
  obtain ⟨a1, g1, d1⟩ := T.b
  obtain ⟨a2, g2, d2⟩ := T.r
  refine F.ok scSn (fun vs H Q E h => ?_) (fun cdv A outer s H vs Q XE hr h => ?_)
  · obtain ⟨st, rfl, _⟩ := h
    rfl
  · obtain ⟨st, rfl, s3, k⟩ := h
    have h0 : PS (cxOf CX0 P w K mg base ["read"] "signs_next" (defScope sSn) f cdv A outer s H XE).nox (stOf sSn 0) _ := ps_if (pt_cmpR op_eq (pv 0) pe_str (nomark _)) (pss_one (ps_ret (pe_callTy call_dictM (by rfl) T.di boot_di (pa_cons (pe_glob (v := .ref a0) (by rfl) g0 rfl (by decide)) pa_nil)))) pss_nil
    have h1 : PS (cxOf CX0 P w K mg base ["read"] "signs_next" (defScope sSn) f cdv A outer s H XE).nox (stOf sSn 1) _ := ps_if (pt_cmpR op_eq (pv 0) pe_str (nomark _)) (pss_one (ps_ret (pe_callTy call_dictM (by rfl) T.di boot_di (pa_cons (pe_glob (v := .ref a1) (by rfl) g1 rfl (by decide)) pa_nil)))) pss_nil
    have h2 : PS (cxOf CX0 P w K mg base ["read"] "signs_next" (defScope sSn) f cdv A outer s H XE).nox (stOf sSn 2) _ := ps_ret (pe_ifExp (pt_cmpR op_eq (pv 0) pe_str (nomark _)) (pe_callTy call_dictM (by rfl) T.di boot_di (pa_cons (pe_glob (v := .ref a2) (by rfl) g2 rfl (by decide)) pa_nil)) pe_dnewK)
    refine ⟨_, PSs.nox (PSs.of_eq bdSn (pss_cons h0 (pss_cons h1 (pss_one h2)))), ?_⟩
    clear h0 h1 h2
    refine ⟨_, rfl, rfl, _, rfl, ?_⟩
    match st, s3 with
    | 0, _ =>
      rw [show decide (V.str (stN 0) = V.str "head") = true from by decide +kernel]
      exact iteT ⟨a0, _, rfl, d0, fun p np => k _ p (same_new np) upd_same⟩
    | 1, _ =>
      rw [show decide (V.str (stN 1) = V.str "head") = false from by decide +kernel]
      refine iteF ⟨_, rfl, rfl, _, rfl, ?_⟩
      rw [show decide (V.str (stN 1) = V.str "bracket") = true from by decide +kernel]
      exact iteT ⟨a1, _, rfl, d1, fun p np => k _ p (same_new np) upd_same⟩
    | 2, _ =>
      rw [show decide (V.str (stN 2) = V.str "head") = false from by decide +kernel]
      refine iteF ⟨_, rfl, rfl, _, rfl, ?_⟩
      rw [show decide (V.str (stN 2) = V.str "bracket") = false from by decide +kernel]
      refine iteF ⟨_, rfl, rfl, _, rfl, ?_⟩
      rw [show decide (V.str (stN 2) = V.str "round") = true from by decide +kernel]
      exact iteT ⟨a2, _, rfl, d2, fun p np => k _ p (same_new np) upd_same⟩
    | 3, _ =>
      rw [show decide (V.str (stN 3) = V.str "head") = false from by decide +kernel]
      refine iteF ⟨_, rfl, rfl, _, rfl, ?_⟩
      rw [show decide (V.str (stN 3) = V.str "bracket") = false from by decide +kernel]
      refine iteF ⟨_, rfl, rfl, _, rfl, ?_⟩
      rw [show decide (V.str (stN 3) = V.str "round") = false from by decide +kernel]
      exact iteF fun p np => k _ p (same_new np) upd_same
end
end K14.T3
namespace K14.T3
open T27
open K14.Gn
open PySem PySem.W PySem.Calls PyProof.Rows L2 LamX
open He (ga)
open Kz (SS ExtS ExtS.trans ExtS.refl small4 same_new boot_in boot_li boot_isi Has pe_has noE PSs.of_eq seqI new_ext X1)
open DiM
theorem key_eq (n c : Nat) : decide ((.inr ⟨#[n]⟩ : Key) = .inr ⟨#[c]⟩) = decide (n = c) := by
  by_cases h : n = c
  · rw [h, decide_eq_true rfl, decide_eq_true rfl]
  · rw [decide_eq_false h, decide_eq_false]
    intro z
    injection z with z
    injection z with z
    have : n = c := by simpa using z
    exact h this
theorem sg : ("0" : Str) = ⟨#[48]⟩ ∧ ("1" : Str) = ⟨#[49]⟩ ∧ ("(" : Str) = ⟨#[40]⟩ ∧ (")" : Str) = ⟨#[41]⟩ := by decide +kernel
theorem nx_val (st c : Nat) : valV (nxK st) (.inr ⟨#[c]⟩) = (nxS st c).map fun s => V.str (stN s) := by
  obtain ⟨e0, e1, e2, e3⟩ := sg
  match st with
  | 0 =>
    unfold nxK valV nxS
    rw [e0, e1, e2]
    simp only [List.find?_cons, List.find?_nil, key_eq]
    by_cases h0 : c = 48
    · subst h0; rfl
    · by_cases h1 : c = 49
      · subst h1; rfl
      · by_cases h2 : c = 40
        · subst h2; rfl
        · rw [decide_eq_false (Ne.symm h0), decide_eq_false (Ne.symm h1), decide_eq_false (Ne.symm h2), if_neg (by omega), if_neg h2]
          rfl
  | 1 =>
    unfold nxK valV nxS
    rw [e0, e1]
    simp only [List.find?_cons, List.find?_nil, key_eq]
    by_cases h0 : c = 48
    · subst h0; rfl
    · by_cases h1 : c = 49
      · subst h1; rfl
      · rw [decide_eq_false (Ne.symm h0), decide_eq_false (Ne.symm h1), if_neg (by omega)]
        rfl
  | 2 =>
    unfold nxK valV nxS
    rw [e0, e1, e3]
    simp only [List.find?_cons, List.find?_nil, key_eq]
    by_cases h0 : c = 48
    · subst h0; rfl
    · by_cases h1 : c = 49
      · subst h1; rfl
      · by_cases h2 : c = 41
        · subst h2; rfl
        · rw [decide_eq_false (Ne.symm h0), decide_eq_false (Ne.symm h1), decide_eq_false (Ne.symm h2), if_neg (by omega), if_neg h2]
          rfl
  | n + 3 => rfl
theorem nx_le {st c s : Nat} (h : nxS st c = some s) : s ≤ 3 := by
  match st with
  | 0 =>
    have h : (if c = 48 ∨ c = 49 then some 0 else if c = 40 then some 1 else none) = some s := h
    by_cases h0 : c = 48 ∨ c = 49
    · rw [if_pos h0] at h
      rw [← Option.some.inj h]
      decide
    · rw [if_neg h0] at h
      by_cases h1 : c = 40
      · rw [if_pos h1] at h
        rw [← Option.some.inj h]
        decide
      · rw [if_neg h1] at h
        cases h
  | 1 =>
    have h : (if c = 48 ∨ c = 49 then some 2 else none) = some s := h
    by_cases h0 : c = 48 ∨ c = 49
    · rw [if_pos h0] at h
      rw [← Option.some.inj h]
      decide
    · rw [if_neg h0] at h
      cases h
  | 2 =>
    have h : (if c = 48 ∨ c = 49 then some 2 else if c = 41 then some 3 else none) = some s := h
    by_cases h0 : c = 48 ∨ c = 49
    · rw [if_pos h0] at h
      rw [← Option.some.inj h]
      decide
    · rw [if_neg h0] at h
      by_cases h1 : c = 41
      · rw [if_pos h1] at h
        rw [← Option.some.inj h]
        decide
      · rw [if_neg h1] at h
        cases h
  | n + 3 => cases h
theorem tc_in {v : V} {σ : L2.St} {H : Hp} {Q : VK} (h : Q v H) : tC v σ H Q := h
theorem drop_at {l : List Nat} {j c : Nat} (h : l[j]? = some c) : l.drop j = c :: l.drop (j + 1) := by
  obtain ⟨hl, e⟩ := List.getElem?_eq_some_iff.mp h
  rw [List.drop_eq_getElem_cons hl, e]
section
variable {P : Program} {w : World} {K : Frag} {mg : Str → Option Value} {base : Heap}
def spEf : Sp := fun vs H Q _ => (∃ x : Str, vs = [.str x] ∧ x.length ≤ 100000 ∧ ∀ H', L2.Same H H' → Q (oV (flt (TL.tl x) 0 0)) H') ∨ ∃ (v : V) (d : PyData), vs = [v] ∧ Th H v d ∧ isSt d = false ∧ ∀ H', L2.Same H H' → Q (.int (-1)) H'
theorem ok_ef {f : Addr} {fd : FuncData} (F : FunD K "endless_fault" "endless_fault" (defArgs sEf) (defBody sEf) (defScope sEf) [] [] f fd) (S : Has P w K mg base "signs_next" 1 ["read"] spSn) (mi : mg "isinstance" = none) (ms : mg "str" = none) (mn : mg "len" = none) (me : mg "enumerate" = none) : FnOk P w K mg base CX0 2 f fd ["text"] spEf := by
  refine F.ok scEf (fun vs H Q E h => ?_) (fun cdv A outer s H vs Q XE hr h => ?_)
  · obtain ⟨x, rfl, _⟩ | ⟨v, d, rfl, _⟩ := h <;> rfl
  · have hu : (cxOf CX0 P w K mg base NEf "endless_fault" (defScope sEf) f cdv A outer s H XE).nox.A.units + 1 < cLine := by
      have := hr.units
      show (A.deeper _).units + 1 < cLine
      omega
    have h0 : PS (cxOf CX0 P w K mg base NEf "endless_fault" (defScope sEf) f cdv A outer s H XE).nox (stOf sEf 0) _ := ps_if (pt_not (pt_val (pe_callB call_isi (by rfl) mi boot_isi (pa_cons (pv 0) (pa_cons (pe_bltn (by rfl) ms boot_st (v := .ty "str") rfl) pa_nil))))) (pss_one (ps_ret (pe_un un_neg pe_int))) pss_nil
    have h1 : PS (cxOf CX0 P w K mg base NEf "endless_fault" (defScope sEf) f cdv A outer s H XE).nox (stOf sEf 1) _ := ps_set (i := 1) scEf.nd rfl (.inl rfl) pe_str
    have b0 : PS (cxOf CX0 P w K mg base NEf "endless_fault" (defScope sEf) f cdv A outer s H XE).nox (fbE 0) _ := ps_set (i := 4) scEf.nd rfl (.inl rfl) (pe_has S hr (by rfl) (pa_cons (pv 1) pa_nil))
    have b1 : PS (cxOf CX0 P w K mg base NEf "endless_fault" (defScope sEf) f cdv A outer s H XE).nox (fbE 1) _ := ps_if (pt_cmp (pc_dnotin hu (pv 3) (pv 4)) (by rfl)) (pss_one (ps_ret (pv 2))) pss_nil
    have b2 : PS (cxOf CX0 P w K mg base NEf "endless_fault" (defScope sEf) f cdv A outer s H XE).nox (fbE 2) _ := ps_set (i := 1) scEf.nd rfl (.inl rfl) (pe_dget hu (pv 4) (pv 3) (fun _ _ => rfl))
    have h2 : PS (cxOf CX0 P w K mg base NEf "endless_fault" (defScope sEf) f cdv A outer s H XE).nox (stOf sEf 2) _ := ps_for PassesOwn.never rfl (EnS.pi_enS (by rfl) me (pa_cons (pv 0) pa_nil)) (pg_tup (n := 2) rfl (pgs_cons (pg_name (i := 2) scEf.nd rfl (.inl rfl)) (pgs_cons (pg_name (i := 3) scEf.nd rfl (.inl rfl)) pgs_nil))) (PSs.of_eq bdFE (pss_cons b0 (pss_cons b1 (pss_one b2))))
    have h3 : PS (cxOf CX0 P w K mg base NEf "endless_fault" (defScope sEf) f cdv A outer s H XE).nox (stOf sEf 3) _ := ps_ret (pe_ifExp (pt_cmpR op_eq (pv 1) pe_str (nomark _)) pe_non (pe_callB call_len_str (by rfl) mn boot_len (pa_cons (pv 0) pa_nil)))
    refine ⟨_, PSs.nox (PSs.of_eq bdEf (pss_cons h0 (pss_cons h1 (pss_cons h2 (pss_one h3))))), ?_⟩
    clear h0 h1 h2 h3 b0 b1 b2
    rcases h with ⟨x, rfl, lx, k⟩ | ⟨v, d, rfl, hv, hd, k⟩
    · refine ⟨.str x, rfl, .str x, _, _, _, _, rfl, .ty _, (Th.str x : Th H (.str x) (.str x)).ty, is_st (.str x), _, rfl, iteF ?_⟩
      refine nx_intro (asgS (tc_in (gset ?_)))
      refine for_enT (K := K) (x := x) (i1 := 2) (i2 := 3) (fun R h => ⟨.str x, rfl, h⟩) (fun j σ G => ∃ (a2 a3 a4 : Option V) (st : Nat), σ = [some (.str x), some (.str (stN st)), a2, a3, a4] ∧ st ≤ 3 ∧ L2.Same H G ∧ flt (TL.tl x) 0 0 = flt ((TL.tl x).drop j) st j) ⟨none, none, none, 0, rfl, by decide, fun _ _ e => e, rfl⟩ (fun j c σ' G hc e G' s' => ?_) (fun σ' G e => ?_)
      · obtain ⟨a2, a3, a4, st, rfl, s3, S, ef⟩ := e
        rw [drop_at hc] at ef
        refine ⟨.str (stN st), rfl, st, rfl, s3, fun G2 p s2 hp => ?_⟩
        refine gset ?_
        have S2 := (S.trans s').trans s2
        refine ⟨.str ⟨#[c]⟩, rfl, .ref p, rfl, p, _, rfl, DGet.k (k := .inr ⟨#[c]⟩) hp, _, rfl, ?_⟩
        rw [nx_val]
        have ef' : flt (c :: (TL.tl x).drop (j + 1)) st j = match nxS st c with | some st' => flt ((TL.tl x).drop (j + 1)) st' (j + 1) | none => some j := rfl
        cases q : nxS st c with
        | none =>
          rw [q] at ef'
          refine iteT ⟨.int (j : Nat), rfl, ?_⟩
          have kk := k G2 S2
          rw [ef, ef'] at kk
          exact kk
        | some s4 =>
          rw [q] at ef'
          refine iteF ⟨.ref p, rfl, .str ⟨#[c]⟩, rfl, p, .str (stN s4), rfl, ?_, ?_⟩
          · have := DGet.k (k := .inr ⟨#[c]⟩) hp
            rw [nx_val, q] at this
            exact this
          · exact ⟨_, _, _, s4, rfl, nx_le q, S2, by rw [ef, ef']⟩
      · obtain ⟨a2, a3, a4, st, rfl, s3, S, ef⟩ := e
        rw [List.drop_length] at ef
        have e2 : flt [] st (TL.tl x).length = if st = 3 then none else some (TL.tl x).length := rfl
        have kk := k G S
        rw [ef, e2] at kk
        refine ⟨_, rfl, rfl, _, rfl, ?_⟩
        by_cases h3 : st = 3
        · subst h3
          rw [show decide (V.str (stN 3) = V.str "all") = true from by decide +kernel]
          exact iteT kk
        · rw [if_neg h3] at kk
          have : decide (V.str (stN st) = V.str "all") = false := by
            match st, s3, h3 with
            | 0, _, _ => decide +kernel
            | 1, _, _ => decide +kernel
            | 2, _, _ => decide +kernel
            | 3, _, h => exact absurd rfl h
          rw [this]
          refine iteF ⟨.str x, rfl, x, rfl, by rw [sizeLine_eq]; omega, ?_⟩
          rw [TL.len_tl]
          exact kk
    · refine ⟨v, rfl, v, _, _, _, _, rfl, .ty _, hv.ty, is_st d, _, rfl, ?_⟩
      rw [hd]
      exact iteT ⟨1, rfl, k H fun _ _ e => e⟩
end
end K14.T3
namespace K14.T3
open T27
open K14.Gn
open PySem PySem.W PySem.Calls PyProof.Rows L2 LamX
open He (ga)
open Kz (SS ExtS ExtS.trans ExtS.refl small4 same_new boot_in boot_li boot_isi Has pe_has noE PSs.of_eq seqI new_ext X1)
open DiM
abbrev sFo : Stmt := topS 30
abbrev sCf : Stmt := topS 32
abbrev sRe : Stmt := topS 38
abbrev NFo : List Str := ["signs", "sign"]
theorem scFo : FnScope NFo ["signs"] (defScope sFo) := ⟨rfl, rfl, rfl, by decide +kernel, rfl, by decide +kernel, by decide +kernel⟩
theorem scCf : FnScope ["fault"] ["fault"] (defScope sCf) := ⟨rfl, rfl, rfl, by decide +kernel, rfl, by decide +kernel, by decide +kernel⟩
theorem scRe : FnScope ["text", "head", "_", "again"] ["text"] (defScope sRe) := ⟨rfl, rfl, rfl, by decide +kernel, rfl, by decide +kernel, by decide +kernel⟩
theorem bdFo : defBody sFo = [stOf sFo 0] := by rfl
theorem bdRe : defBody sRe = [stOf sRe 0, stOf sRe 1, stOf sRe 2] := by rfl
def scOfF : Stmt → Scope
  | .Return (some (.ListComp _ _ sc _)) _ => sc
  | _ => defScope sFo
def foSc : Scope := scOfF (stOf sFo 0)
theorem chkF : blkC NFo (defScope sFo) foSc [("sign", 1)] = true := by decide +kernel
theorem fg_int (n : Int) (h : n = 0 ∨ n = 1) : PySem.intText? ⟨#[fg n]⟩ = some n := by
  rcases h with rfl | rfl <;> decide +kernel
section
variable {P : Program} {w : World} {K : Frag} {mg : Str → Option Value} {base : Heap}
def spFo : Sp := fun vs H Q _ => ∃ ns : List Int, vs = [.str (rowS ns)] ∧ figsB ns ∧ ns.length ≤ 1000 ∧ ∀ (H' : Hp) (p : Addr), L2.Same H H' → H p = none → H' p = some (.lst (ns.map V.int)) → Q (.ref p) H'
theorem ok_fo {f : Addr} {fd : FuncData} (F : FunD K "figures_of" "figures_of" (defArgs sFo) (defBody sFo) (defScope sFo) [] [] f fd) (mi : mg "int" = none) : FnOk P w K mg base CX0 1 f fd ["signs"] spFo := by
  refine F.ok scFo (fun vs H Q E h => ?_) (fun cdv A outer s H vs Q XE hr h => ?_)
  · obtain ⟨ns, rfl, _⟩ := h
    rfl
  · obtain ⟨ns, rfl, hf, ln, k⟩ := h
    have h0 : PS (cxOf CX0 P w K mg base NFo "figures_of" (defScope sFo) f cdv A outer s H XE).nox (stOf sFo 0) _ := ps_ret (pe_lc (X := (cxOf CX0 P w K mg base NFo "figures_of" (defScope sFo) f cdv A outer s H XE).nox) (scope := foSc) (own := [("sign", 1)]) (g := gName 1) (tt := tYes) rfl scFo.nd
      (pi_str (pv 0)) (blkOk_by chkF) (fun _ _ _ _ _ => pg_name (i := 1) scFo.nd rfl (Or.inl rfl)) (fun _ _ _ _ _ => pts_nil)
      (fun s0 H0 C0 cl0 fp0 => by exact pe_callTy call_int_str (by rfl) mi boot_in (pa_cons (pv 1) pa_nil)))
    refine ⟨_, PSs.nox (PSs.of_eq bdFo (pss_one h0)), ?_⟩
    clear h0
    have sz : (rowS ns).cps.size = ns.length := by
      have := rowS_len ns
      exact this
    refine ⟨.str (rowS ns), rfl, rowS ns, rfl, fun D hD => lc_it walk_str (fun j G => L2.Same H G ∧ G D = some (.lst ((ns.take j).map V.int))) ⟨same_new hD, upd_same⟩ (fun _ _ _ _ => trivial) (fun j x G G' hj hp hy => ?_) (fun G hp => ?_)⟩
    · obtain ⟨rfl, ch, ec, rfl⟩ := hy
      obtain ⟨S, hA⟩ := hp
      refine ⟨rfl, ?_⟩
      unfold tYes
      show (if true = true then _ else _)
      rw [if_pos rfl]
      have jl : j < ns.length := by omega
      have e1 : (rowS ns).cps[j]? = some (fg ns[j]) := by
        show ((ns.map fg).toArray)[j]? = _
        rw [List.getElem?_toArray, List.getElem?_map, List.getElem?_eq_getElem jl]
        rfl
      rw [e1] at ec
      obtain rfl := Option.some.inj ec
      refine ⟨_, rfl, _, ns[j], rfl, fg_int _ (hf _ (List.getElem_mem jl)), ?_, _, hA, ?_, fun b o e => ?_, ?_⟩
      · show (1 : Nat) ≤ 640
        decide
      · rw [List.length_map, List.length_take, sizeLine_eq]
        omega
      · rw [upd_ne (ne_of_none e hD)]
        exact S _ _ e
      · rw [upd_same]
        have et : ns.take (j + 1) = ns.take j ++ [ns[j]] := by
          rw [List.take_add_one, List.getElem?_eq_getElem jl]
          rfl
        rw [et, List.map_append]
        rfl
    · obtain ⟨S, hA⟩ := hp
      rw [sz, List.take_length] at hA
      exact k G D S hD hA
def spCf : Sp := fun vs H Q _ => vs = [.non] ∧ Q .non H
theorem ok_cf {f : Addr} {fd : FuncData} (F : FunD K "check_fault" "check_fault" (defArgs sCf) (defBody sCf) (defScope sCf) [] [] f fd) : FnOk P w K mg base CX0 1 f fd ["fault"] spCf := by
  refine F.ok scCf (fun vs H Q E h => ?_) (fun cdv A outer s H vs Q XE hr h => ?_)
  · obtain ⟨rfl, _⟩ := h
    rfl
  · obtain ⟨rfl, k⟩ := h
    refine ⟨_, PSs.nox (pss_one (ps_if (pt_cmp (pc_notN (pv 0)) (by rfl)) (pss_one ps_never) pss_nil)), ?_⟩
    exact ⟨.non, rfl, _, rfl, iteF k⟩
def spCfX (K : Frag) : Sp := fun vs H Q E => ∃ i : Int, vs = [.int i] ∧ SaysF (ga K "BadText") "index" (.int i) H E
theorem okx_cf {f : Addr} {fd : FuncData} (F : FunD K "check_fault" "check_fault" (defArgs sCf) (defBody sCf) (defScope sCf) [] [] f fd) (T : mg "BadText" = some (.ref (ga K "BadText")) ∧ X1 P K (ga K "BadText") "index") : FnOk P w K mg base (L2.CX P w) 2 f fd ["fault"] (spCfX K) := by
  refine F.ok scCf (fun vs H Q E h => ?_) (fun cdv A outer s H vs Q XE hr h => ?_)
  · obtain ⟨i, rfl, _⟩ := h
    rfl
  · obtain ⟨i, rfl, k⟩ := h
    refine ⟨_, pss_one (ps_if (pt_cmp (pc_notN (pv 0)) (by rfl)) (pss_one (ps_raise rfl (takes_of rfl rfl rfl rfl) (pmk_x1 T.2 (hr.mono (by decide)) rfl (by rfl) T.1 (pv 0)))) pss_nil), ?_⟩
    exact ⟨.int i, rfl, _, rfl, iteT ⟨.int i, rfl, fun dx n => k _ dx (same_new n) upd_same⟩⟩
end
end K14.T3
namespace K14.T3
open T27
open K14.Gn
open PySem PySem.W PySem.Calls PyProof.Rows L2 LamX
open He (ga)
open Kz (SS ExtS ExtS.trans ExtS.refl small4 same_new boot_in boot_li boot_isi Has pe_has noE PSs.of_eq seqI new_ext X1)
open DiM
theorem fg_or (n : Int) : fg n = 48 ∨ fg n = 49 := by
  unfold fg
  by_cases h : n = 0
  · rw [if_pos h]; exact .inl rfl
  · rw [if_neg h]; exact .inr rfl
theorem flt_fig {st : Nat} (hs : st = 0 ∨ st = 2) (r : List Nat) : ∀ (ns : List Int) (at_ : Nat), flt (ns.map fg ++ r) st at_ = flt r st (at_ + ns.length)
  | [], _ => rfl
  | n :: ns, at_ => by
    have e : nxS st (fg n) = some st := by
      rcases hs with rfl | rfl
      · show (if fg n = 48 ∨ fg n = 49 then some 0 else _) = _
        rw [if_pos (fg_or n)]
      · show (if fg n = 48 ∨ fg n = 49 then some 2 else _) = _
        rw [if_pos (fg_or n)]
    have e2 : flt (fg n :: (ns.map fg ++ r)) st at_ = match nxS st (fg n) with | some st' => flt (ns.map fg ++ r) st' (at_ + 1) | none => some at_ := rfl
    rw [List.map_cons, List.cons_append, e2, e]
    show flt (ns.map fg ++ r) st (at_ + 1) = _
    rw [flt_fig hs r ns (at_ + 1), List.length_cons]
    congr 1
    omega
theorem flt_end {hs as : List Int} (p : 0 < as.length) : flt (TL.tl (endT hs as)) 0 0 = none := by
  rw [endT_tl, flt_fig (.inl rfl)]
  match as, p with
  | a :: q, _ =>
    show flt (List.map fg (a :: q) ++ [41]) 1 _ = none
    rw [List.map_cons, List.cons_append]
    have e2 : ∀ (l : List Nat) (k : Nat), flt (fg a :: l) 1 k = match nxS 1 (fg a) with | some st' => flt l st' (k + 1) | none => some k := fun _ _ => rfl
    have e : nxS 1 (fg a) = some 2 := by
      show (if fg a = 48 ∨ fg a = 49 then some 2 else _) = _
      rw [if_pos (fg_or a)]
    rw [e2, e]
    show flt (q.map fg ++ [41]) 2 _ = none
    rw [flt_fig (.inr rfl)]
    rfl
theorem end_part {hs as : List Int} : Txt.partition (endT hs as) "(" = (rowS hs, ("(" : Str), rowS as ++ ")") := by
  have e : endT hs as = rowS hs ++ "(" ++ (rowS as ++ ")") := by
    refine TL.ext_tl ?_
    unfold endT
    rw [TL.tl_append, TL.tl_append, TL.tl_append, TL.tl_append, TL.tl_append, TL.tl_append]
    simp
  rw [e]
  refine TL.partition_app (s := 40) (S := []) (by decide +kernel) fun h => ?_
  rw [rowS_tl] at h
  obtain ⟨n, _, e⟩ := List.mem_map.mp h
  rcases fg_or n with q | q <;> (rw [q] at e; cases e)
theorem cut_row (as : List Int) : cutS (rowS as ++ ")") none (some (-1)) = rowS as := by
  have ln : (rowS as ++ ")" : Str).length = as.length + 1 := by
    rw [app_len, rowS_len]
    rfl
  refine TL.ext_tl ?_
  unfold cutS
  rw [ln, HT.sIx_none]
  have e1 : HT.sIx (as.length + 1) (as.length + 1) (some (-1)) = as.length := by
    show (if (-1 : Int) < 0 then ((-1 : Int) + ((as.length + 1 : Nat) : Int)).toNat else min (-1 : Int).toNat (as.length + 1)) = _
    rw [if_pos (by decide)]
    omega
  rw [e1]
  show ((TL.tl (rowS as ++ ")")).drop 0).take (as.length - 0) = TL.tl (rowS as)
  rw [TL.tl_append, List.drop_zero, Nat.sub_zero, rowS_tl]
  have : as.length = (as.map fg).length := (List.length_map ..).symm
  rw [this, List.take_left]
section
variable {P : Program} {w : World} {K : Frag} {mg : Str → Option Value} {base : Heap}
def spRe : Sp := fun vs H Q _ => ∃ (hs as : List Int), vs = [.str (endT hs as)] ∧ figsB hs ∧ figsB as ∧ 0 < as.length ∧ hs.length ≤ 500 ∧ as.length ≤ 500 ∧ ∀ (H' : Hp) (p q r : Addr), L2.Same H H' → H' p = some (.tup [.ref q, .ref r]) → H' q = some (.lst (hs.map V.int)) → H' r = some (.lst (as.map V.int)) → H q = none → H r = none → q ≠ r → Q (.ref p) H'
theorem ok_re {f : Addr} {fd : FuncData} (F : FunD K "read_endless" "read_endless" (defArgs sRe) (defBody sRe) (defScope sRe) [] [] f fd) (C : Has P w K mg base "check_fault" 1 ["fault"] spCf) (E : Has P w K mg base "endless_fault" 2 ["text"] spEf) (G : Has P w K mg base "figures_of" 1 ["signs"] spFo) : FnOk P w K mg base CX0 3 f fd ["text"] spRe := by
  refine F.ok scRe (fun vs H Q E h => ?_) (fun cdv A outer s H vs Q XE hr h => ?_)
  · obtain ⟨hs, as, rfl, _⟩ := h
    rfl
  · obtain ⟨hs, as, rfl, fh, fa, p0, p1, p2, k⟩ := h
    have h0 : PS (cxOf CX0 P w K mg base ["text", "head", "_", "again"] "read_endless" (defScope sRe) f cdv A outer s H XE).nox (stOf sRe 0) _ := ps_expr (pe_has C (hr.mono (by decide)) (by rfl) (pa_cons (pe_has E hr (by rfl) (pa_cons (pv 0) pa_nil)) pa_nil))
    have h1 : PS (cxOf CX0 P w K mg base ["text", "head", "_", "again"] "read_endless" (defScope sRe) f cdv A outer s H XE).nox (stOf sRe 1) _ := ps_asg (pe_partition (pv 0) pe_str) (pg_tup (n := 3) rfl (pgs_cons (pg_name (i := 1) scRe.nd rfl (.inl rfl)) (pgs_cons (pg_name (i := 2) scRe.nd rfl (.inl rfl)) (pgs_cons (pg_name (i := 3) scRe.nd rfl (.inl rfl)) pgs_nil))))
    have h2 : PS (cxOf CX0 P w K mg base ["text", "head", "_", "again"] "read_endless" (defScope sRe) f cdv A outer s H XE).nox (stOf sRe 2) _ := ps_ret (pe_tup (pa_cons (pe_has G (hr.mono (by decide)) (by rfl) (pa_cons (pv 1) pa_nil)) (pa_cons (pe_has G (hr.mono (by decide)) (by rfl) (pa_cons (pe_slice sl_str (pv 3) po_none (po_some (pe_un un_neg pe_int))) pa_nil)) pa_nil)))
    refine ⟨_, PSs.nox (PSs.of_eq bdRe (pss_cons h0 (pss_cons h1 (pss_one h2)))), ?_⟩
    clear h0 h1 h2
    have ln : (endT hs as).length ≤ 2000 := by
      rw [TL.len_tl, endT_tl]
      simp
      omega
    refine ⟨_, rfl, .inl ⟨endT hs as, rfl, by omega, fun H1 s1 => ?_⟩⟩
    rw [flt_end p0]
    refine ⟨rfl, ?_⟩
    refine ⟨_, rfl, ⟨_, rfl⟩, _, _, rfl, rfl, by decide +kernel, by rw [sizeLine_eq]; omega, fun pt npt => ?_⟩
    rw [end_part]
    refine ⟨pt, _, rfl, .inl (.inl upd_same), rfl, _, _, rfl, _, _, rfl, _, _, rfl, rfl, ?_⟩
    have s2 := same_new (o := .tup [.str (rowS hs), .str "(", .str (rowS as ++ ")")]) npt
    refine ⟨_, rfl, hs, rfl, fh, by omega, fun H3 q s3 nq hq => ?_⟩
    refine ⟨_, rfl, 1, rfl, -1, rfl, rowS as ++ ")", rfl, ?_, ?_⟩
    · rw [app_len, rowS_len, sizeLine_eq]
      have : (")" : Str).length = 1 := by decide +kernel
      omega
    · rw [cut_row]
      refine ⟨as, rfl, fa, by omega, fun H4 r s4 nr hr4 => ⟨small4 2, fun p np => ?_⟩⟩
      have s5 := same_new (o := .tup [.ref q, .ref r]) np
      have S3 := (s1.trans s2).trans s3
      refine k _ p q r (S3.trans (s4.trans s5)) upd_same (s5 _ _ (s4 _ _ hq)) (s5 _ _ hr4) ((s1.trans s2).free nq) (S3.free nr) fun z => ?_
      rw [z] at hq
      rw [hq] at nr
      cases nr
def spReX (K : Frag) : Sp := fun vs H Q E => (∃ (x : Str) (i : Nat), vs = [.str x] ∧ x.length ≤ 100000 ∧ flt (TL.tl x) 0 0 = some i ∧ SaysF (ga K "BadText") "index" (.int (i : Nat)) H E) ∨ ∃ (v : V) (d : PyData), vs = [v] ∧ Th H v d ∧ isSt d = false ∧ SaysF (ga K "BadText") "index" (.int (-1)) H E
theorem okx_re {f : Addr} {fd : FuncData} (F : FunD K "read_endless" "read_endless" (defArgs sRe) (defBody sRe) (defScope sRe) [] [] f fd) (C : HasX P w K mg base "check_fault" 2 ["fault"] (spCfX K)) (E : Has P w K mg base "endless_fault" 2 ["text"] spEf) : FnOk P w K mg base (L2.CX P w) 3 f fd ["text"] (spReX K) := by
  refine F.ok scRe (fun vs H Q E h => ?_) (fun cdv A outer s H vs Q XE hr h => ?_)
  · obtain ⟨x, i, rfl, _⟩ | ⟨v, d, rfl, _⟩ := h <;> rfl
  · refine ⟨_, PSs.of_eq bdRe (pss_cons (ps_expr (pe_hasX C hr (by rfl) noX (pa_cons (pe_has E hr (by rfl) (pa_cons (pv 0) pa_nil)) pa_nil))) pss_never), ?_⟩
    rcases h with ⟨x, i, rfl, lx, e, k⟩ | ⟨v, d, rfl, hv, hd, k⟩
    · refine ⟨_, rfl, .inl ⟨x, rfl, lx, fun H1 s1 => ?_⟩⟩
      rw [e]
      exact ⟨_, rfl, fun H' dx s q => k H' dx (s1.trans s) q⟩
    · exact ⟨_, rfl, .inr ⟨v, d, rfl, hv, hd, fun H1 s1 => ⟨_, rfl, fun H' dx s q => k H' dx (s1.trans s) q⟩⟩⟩
end
end K14.T3
namespace K14.T3
open T27
open K14.Gn
open PySem PySem.W PySem.Calls PyProof.Rows L2 LamX
open He (ga)
open Kz (SS ExtS ExtS.trans ExtS.refl small4 same_new boot_in boot_li boot_isi Has pe_has noE PSs.of_eq seqI new_ext X1)
abbrev sIg : Stmt := topS 52
abbrev sIo : Stmt := topS 53
abbrev sFg : Stmt := topS 54
abbrev NIg : List Str := ["thing", "part"]
theorem scIg : FnScope NIg ["thing"] (defScope sIg) := ⟨rfl, rfl, rfl, by decide +kernel, rfl, by decide +kernel, by decide +kernel⟩
theorem scIo : FnScope ["thing"] ["thing"] (defScope sIo) := ⟨rfl, rfl, rfl, by decide +kernel, rfl, by decide +kernel, by decide +kernel⟩
theorem scFg : FnScope ["endless", "at", "head", "again"] ["endless", "at"] (defScope sFg) := ⟨rfl, rfl, rfl, by decide +kernel, rfl, by decide +kernel, by decide +kernel⟩
theorem bdIg : defBody sIg = [stOf sIg 0, stOf sIg 1] := by rfl
theorem bdIo : defBody sIo = [stOf sIo 0, stOf sIo 1] := by rfl
def scOfR : Stmt → Scope
  | .Return (some (.Call _ [.ListComp _ _ sc _] _ _)) _ => sc
  | _ => defScope sIg
def igSc : Scope := scOfR (stOf sIg 1)
theorem chkI : blkC NIg (defScope sIg) igSc [("part", 1)] = true := by decide +kernel
section
variable {P : Program} {w : World} {K : Frag} {mg : Str → Option Value} {base : Heap}
def spIg : Sp := fun vs H Q _ => ∃ (v : V) (d : PyData), vs = [v] ∧ Th H v d ∧ (its d).length ≤ 100000 ∧ ∀ H', L2.Same H H' → Q (.bl (isR d)) H'
theorem ok_ig {f : Addr} {fd : FuncData} (F : FunD K "_law_is_figures" "_law_is_figures" (defArgs sIg) (defBody sIg) (defScope sIg) [] [] f fd) (mi : mg "isinstance" = none) (ml : mg "list" = none) (mt : mg "tuple" = none) (mn : mg "int" = none) (mb : mg "bool" = none) (ma : mg "all" = none) : FnOk P w K mg base CX0 1 f fd ["thing"] spIg := by
  refine F.ok scIg (fun vs H Q E h => ?_) (fun cdv A outer s H vs Q XE hr h => ?_)
  · obtain ⟨v, d, rfl, _⟩ := h
    rfl
  · obtain ⟨v, d, rfl, hv, ln, k⟩ := h
    have h0 : PS (cxOf CX0 P w K mg base NIg "_law_is_figures" (defScope sIg) f cdv A outer s H XE).nox (stOf sIg 0) _ := ps_if (pt_not (pt_val (pe_callB call_isiT (by rfl) mi boot_isi (pa_cons (pv 0) (pa_cons (pe_tup (pa_cons (pe_bltn (by rfl) ml boot_li (v := .ty "list") rfl) (pa_cons (pe_bltn (by rfl) mt boot_tu (v := .ty "tuple") rfl) pa_nil))) pa_nil))))) (pss_one (ps_ret pe_bl)) pss_nil
    have h1 : PS (cxOf CX0 P w K mg base NIg "_law_is_figures" (defScope sIg) f cdv A outer s H XE).nox (stOf sIg 1) _ := ps_ret (pe_callB (cr_all rfl) (by rfl) ma boot_all (pa_cons (pe_lc (X := (cxOf CX0 P w K mg base NIg "_law_is_figures" (defScope sIg) f cdv A outer s H XE).nox) (scope := igSc) (own := [("part", 1)]) (g := gName 1) (tt := tYes) (te := tAndV (tCB (rIsi K) (tCons (tVar 1) (tCons (tC (.ty "int")) tNil))) (tAndV (tNotV (tCB (rIsi K) (tCons (tVar 1) (tCons (tC (.ty "bool")) tNil)))) (tOp (rIn K false) (tVar 1) (tTup (tCons (tC (.int 0)) (tCons (tC (.int 1)) tNil)))))) rfl scIg.nd
      (pi_sq (pv 0)) (blkOk_by chkI) (fun _ _ _ _ _ => pg_name (i := 1) scIg.nd rfl (Or.inl rfl)) (fun _ _ _ _ _ => pts_nil)
      (fun s0 H0 C0 cl0 fp0 => by exact pe_and (pe_callB call_isi (by rfl) mi boot_isi (pa_cons (pv 1) (pa_cons (pe_bltn (by rfl) mn boot_in (v := .ty "int") rfl) pa_nil))) (pe_and (pe_not (pe_callB call_isi (by rfl) mi boot_isi (pa_cons (pv 1) (pa_cons (pe_bltn (by rfl) mb boot_bo (v := .ty "bool") rfl) pa_nil)))) (pe_one (pe_cmpR op_in_seq (pv 1) (pe_tup (pa_cons pe_int (pa_cons pe_int pa_nil))) (by rfl)))))) pa_nil))
    refine ⟨_, PSs.nox (PSs.of_eq bdIg (pss_cons h0 (pss_one h1))), ?_⟩
    clear h0 h1
    refine ⟨v, rfl, small4 2, fun p np => ⟨v, p, _, _, _, _, rfl, upd_same, .cons (.ty _) (.cons (.ty _) .nil), (hv.ext (same_new np)).ty, is_lt d, _, rfl, ?_⟩⟩
    have s1 := same_new (o := .tup [.ty "list", .ty "tuple"]) np
    generalize upd H p (.tup [.ty "list", .ty "tuple"]) = H1 at s1 ⊢
    unfold isR at k
    cases l : isL d with
    | false =>
      rw [l] at k
      exact iteT (k H1 s1)
    | true =>
      rw [l] at k
      refine iteF (nx_intro (ret_intro ?_))
      refine lc_allG (d := d) isF (fun R h => ⟨v, rfl, h _ _ (fun _ _ e => e) (hv.ext s1)⟩) l ln (fun x => rfl) (fun j z x G' Q' hz S' tz kk => ⟨x, rfl, x, _, _, _, _, rfl, .ty _, tz.ty, is_in z, _, rfl, ?_⟩) (fun G' S' => k G' (s1.trans S'))
      cases tz with
      | int i =>
        refine iteT ⟨.int i, rfl, .int i, _, _, _, _, rfl, .ty _, .base (.int i), is_bo (.int i), _, rfl, _, rfl, iteT ⟨.int i, rfl, small4 2, fun p np => ⟨p, _, rfl, .inr (.inl (.inl upd_same)), rfl, rfl, ?_⟩⟩⟩
        have k2 := kk _ (same_new (o := .tup [.int 0, .int 1]) np)
        rw [← in01] at k2
        exact k2
      | bl b => exact iteT ⟨.bl b, rfl, .bl b, _, _, _, _, rfl, .ty _, .base (.bl b), is_bo (.bool b), _, rfl, _, rfl, iteF (kk _ (fun _ _ e => e))⟩
      | _ => exact iteF (kk _ (fun _ _ e => e))
def spIo : Sp := fun vs H Q _ => ∃ (v : V) (d : PyData), vs = [v] ∧ Th H v d ∧ (its d).length ≤ 100000 ∧ (∀ z ∈ its d, (its z).length ≤ 100000) ∧ ∀ H', L2.Same H H' → Q (.bl (isE d)) H'
theorem ok_io {f : Addr} {fd : FuncData} (F : FunD K "_law_is_endless_one" "_law_is_endless_one" (defArgs sIo) (defBody sIo) (defScope sIo) [] [] f fd) (G : Has P w K mg base "_law_is_figures" 1 ["thing"] spIg) (mi : mg "isinstance" = none) (ml : mg "list" = none) (mt : mg "tuple" = none) (mn : mg "len" = none) : FnOk P w K mg base CX0 2 f fd ["thing"] spIo := by
  refine F.ok scIo (fun vs H Q E h => ?_) (fun cdv A outer s H vs Q XE hr h => ?_)
  · obtain ⟨v, d, rfl, _⟩ := h
    rfl
  · obtain ⟨v, d, rfl, hv, ln, lz, k⟩ := h
    have h0 : PS (cxOf CX0 P w K mg base ["thing"] "_law_is_endless_one" (defScope sIo) f cdv A outer s H XE).nox (stOf sIo 0) _ := ps_if (PW.pt (pw_or (pt_not (pt_val (pe_callB call_isiT (by rfl) mi boot_isi (pa_cons (pv 0) (pa_cons (pe_tup (pa_cons (pe_bltn (by rfl) ml boot_li (v := .ty "list") rfl) (pa_cons (pe_bltn (by rfl) mt boot_tu (v := .ty "tuple") rfl) pa_nil))) pa_nil))))) (pw_or1 (pt_cmpR op_ne (pe_callB call_len_seq (by rfl) mn boot_len (pa_cons (pv 0) pa_nil)) pe_int (nomark _))))) (pss_one (ps_ret pe_bl)) pss_nil
    have h1 : PS (cxOf CX0 P w K mg base ["thing"] "_law_is_endless_one" (defScope sIo) f cdv A outer s H XE).nox (stOf sIo 1) _ := ps_ret (pe_and (pe_has G hr (by rfl) (pa_cons (pe_ix ix_seq (pv 0) pe_int (fun _ _ => rfl)) pa_nil)) (pe_and (pe_has G hr (by rfl) (pa_cons (pe_ix ix_seq (pv 0) pe_int (fun _ _ => rfl)) pa_nil)) (pe_one (pe_cmpR op_gt (pe_callB call_len_seq (by rfl) mn boot_len (pa_cons (pe_ix ix_seq (pv 0) pe_int (fun _ _ => rfl)) pa_nil)) pe_int (nomark _)))))
    refine ⟨_, PSs.nox (PSs.of_eq bdIo (pss_cons h0 (pss_one h1))), ?_⟩
    clear h0 h1
    refine ⟨v, rfl, small4 2, fun p np => ⟨v, p, _, _, _, _, rfl, upd_same, .cons (.ty _) (.cons (.ty _) .nil), (hv.ext (same_new np)).ty, is_lt d, _, rfl, ?_⟩⟩
    have s1 := same_new (o := .tup [.ty "list", .ty "tuple"]) np
    generalize upd H p (.tup [.ty "list", .ty "tuple"]) = H1 at s1 ⊢
    cases l : isL d with
    | false =>
      have e : isE d = false := by
        unfold isE
        split
        · rw [l]; rfl
        · rfl
      rw [e] at k
      exact iteT (iteT (k H1 s1))
    | true =>
      obtain ⟨a, xs, ea, r, hx⟩ := (hv.ext s1).seq (K := K) l
      have lx : xs.length = (its d).length := r.length
      refine iteF ⟨v, rfl, a, xs, by rw [ea], sl_of hx, rfl, _, rfl, ?_⟩
      rw [lx]
      by_cases h2 : (its d).length = 2
      · have e2 : decide (V.int (((its d).length : Nat) : Int) = V.int 2) = true := decide_eq_true (by rw [h2]; rfl)
        rw [e2]
        obtain ⟨z0, z1, ed⟩ : ∃ z0 z1, its d = [z0, z1] := by
          match its d, h2 with
          | [z0, z1], _ => exact ⟨z0, z1, rfl⟩
        have m0 : z0 ∈ its d := by rw [ed]; simp
        have m1 : z1 ∈ its d := by rw [ed]; simp
        have eE : isE d = (isR z0 && (isR z1 && decide (0 < (its z1).length))) := by
          unfold isE
          rw [ed, l]
          rfl
        rw [eE] at k
        obtain ⟨x0, t0, i0⟩ := th_ixS (K := K) (j := 0) (hv.ext s1) l (z := z0) (by rw [ed]; rfl)
        obtain ⟨x1, t1, i1⟩ := th_ixS (K := K) (j := 1) (hv.ext s1) l (z := z1) (by rw [ed]; rfl)
        refine iteF ⟨v, rfl, i0 _ (fun _ _ e => e) _ ⟨x0, z0, rfl, t0, lz z0 m0, fun H2 s2 => ⟨_, rfl, ?_⟩⟩⟩
        cases r0 : isR z0 with
        | false =>
          rw [r0] at k
          exact iteF (k H2 (s1.trans s2))
        | true =>
          rw [r0] at k
          refine iteT ⟨v, rfl, i1 _ s2 _ ⟨x1, z1, rfl, t1.ext s2, lz z1 m1, fun H3 s3 => ⟨_, rfl, ?_⟩⟩⟩
          have S3 := (s1.trans s2).trans s3
          cases r1 : isR z1 with
          | false =>
            rw [r1] at k
            exact iteF (k H3 S3)
          | true =>
            rw [r1] at k
            have l1 : isL z1 = true := (Bool.and_eq_true_iff.mp (show (isL z1 && (its z1).all isF) = true from r1)).1
            obtain ⟨a1, xs1, e1, rr, hx1⟩ := (t1.ext (s2.trans s3)).seq (K := K) l1
            refine iteT ⟨v, rfl, i1 _ (s2.trans s3) _ ⟨a1, xs1, by rw [e1], sl_of hx1, _, _, rfl, rfl, ?_⟩⟩
            have kk := k H3 S3
            have e3 : decide ((0 : Int) < (xs1.length : Nat)) = decide (0 < (its z1).length) := by
              rw [rr.length]
              by_cases q : 0 < (its z1).length
              · rw [decide_eq_true q, decide_eq_true (by omega)]
              · rw [decide_eq_false q, decide_eq_false (by omega)]
            rw [← e3] at kk
            exact kk
      · have e2 : decide (V.int (((its d).length : Nat) : Int) = V.int 2) = false := decide_eq_false (fun y => h2 (by have := V.int.inj y; omega))
        rw [e2]
        have e : isE d = false := by
          unfold isE
          split
          · rename_i x y q
            rw [q] at h2
            exact absurd rfl h2
          · rfl
        rw [e] at k
        exact iteT (k H1 s1)
theorem ok_fg {f : Addr} {fd : FuncData} (F : FunD K "_law_figure" "_law_figure" (defArgs sFg) (defBody sFg) (defScope sFg) [] [] f fd) (mn : mg "len" = none) (mi : mg "int" = none) : FnOk P w K mg base CX0 1 f fd ["endless", "at"] spFig := by
  refine F.ok scFg (fun vs H Q E h => ?_) (fun cdv A outer s H vs Q XE hr h => ?_)
  · obtain ⟨v, hs, as, i, rfl, _⟩ := h
    rfl
  · obtain ⟨v, hs, as, i, rfl, hv, k⟩ := h
    have la : 0 < as.length ∧ hs.length ≤ 500 ∧ as.length ≤ 500 := by
      obtain ⟨_, _, _, _, _, _, _, _, z⟩ := hv
      exact z
    obtain ⟨a, p, q, rfl, ha, hp, hq⟩ := hv.parts
    refine ⟨_, PSs.nox (pss_cons (ps_asg (pv 0) (pg_or (pg_tup rfl (pgs_cons (pg_name (i := 2) scFg.nd rfl (.inl rfl)) (pgs_cons (pg_name (i := 3) scFg.nd rfl (.inl rfl)) pgs_nil))) (pg_lst rfl (pgs_cons (pg_name (i := 2) scFg.nd rfl (.inl rfl)) (pgs_cons (pg_name (i := 3) scFg.nd rfl (.inl rfl)) pgs_nil)))))
      (pss_one (ps_ret (pe_ifExp (pt_cmp (pc_lt (pv 1) (pe_callB call_len_seq (by rfl) mn boot_len (pa_cons (pv 2) pa_nil)))) (pe_ix ix_seq (pv 2) (pv 1) (fun _ _ => rfl)) (pe_ix ix_seq (pv 3) (pe_op op_mod (pe_callTy call_int1 (by rfl) mi boot_in (pa_cons (pe_op op_sub (pv 1) (pe_callB call_len_seq (by rfl) mn boot_len (pa_cons (pv 2) pa_nil))) pa_nil)) (pe_callB call_len_seq (by rfl) mn boot_len (pa_cons (pv 3) pa_nil))) (fun _ _ => rfl)))))), ?_⟩
    have lh : (hs.map V.int).length = hs.length := List.length_map ..
    have lq : (as.map V.int).length = as.length := List.length_map ..
    rcases ha with ha | ha <;> first
      | refine ⟨.ref a, rfl, .inr ⟨a, _, rfl, .inl (.inl ha), rfl, .ref p, _, rfl, .ref q, _, rfl, rfl, ?_⟩⟩
      | refine ⟨.ref a, rfl, .inl ⟨a, _, rfl, .inl (.inl ha), rfl, .ref p, _, rfl, .ref q, _, rfl, rfl, ?_⟩⟩
    all_goals
      refine ⟨.int (i : Nat), rfl, .ref p, rfl, p, _, rfl, sl_of hp, i, _, rfl, rfl, _, rfl, ite2 (fun c => ?_) (fun c => ?_)⟩
      · have il : i < hs.length := by
          have z := of_decide_eq_true c
          rw [lh] at z
          omega
        refine ⟨.ref p, rfl, .int (i : Nat), rfl, ix_any hp il ?_⟩
        unfold figAt at k
        rw [if_pos il] at k
        exact k
      · have il : ¬ i < hs.length := fun z => c (decide_eq_true (by rw [lh]; omega))
        have e1 : ((i : Nat) : Int) - ((hs.map V.int).length : Int) = ((i - hs.length : Nat) : Int) := by rw [lh]; omega
        have e2 : ((i : Nat) : Int) - ((hs.map V.int).length : Int) = ((i - hs.length : Nat) : Int) → (((i : Nat) : Int) - ((hs.map V.int).length : Int)) % ((as.map V.int).length : Int) = (((i - hs.length) % as.length : Nat) : Int) := fun z => by rw [z, lq, Int.natCast_emod]
        refine ⟨.ref q, rfl, .int (i : Nat), rfl, .ref p, rfl, p, _, rfl, sl_of hp, _, _, rfl, rfl, .inl ⟨_, rfl, .ref q, rfl, q, _, rfl, sl_of hq, _, _, rfl, rfl, (show (0 : Int) < ((as.map V.int).length : Int) by omega), ?_⟩⟩
        show rIx K (.ref q) (.int ((((i : Nat) : Int) - ((hs.map V.int).length : Int)) % ((as.map V.int).length : Int))) H _
        rw [e2 e1]
        refine ix_any hq (Nat.mod_lt _ la.1) ?_
        unfold figAt at k
        rw [if_neg il] at k
        exact k
end
end K14.T3
namespace K14.T3
open T27
open K14.Gn
open PySem PySem.W PySem.Calls PyProof.Rows L2 LamX
open He (ga)
open Kz (SS ExtS ExtS.trans ExtS.refl small4 same_new boot_in boot_li boot_isi Has pe_has noE PSs.of_eq seqI new_ext X1)
abbrev sDe : Stmt := topS 56
abbrev NDe : List Str := ["stream", "head", "again", "how", "many", "k"]
theorem scDe : FnScope NDe ["stream"] (defScope sDe) := ⟨rfl, rfl, rfl, by decide +kernel, rfl, by decide +kernel, by decide +kernel⟩
theorem bdDe : defBody sDe = [stOf sDe 0, stOf sDe 1, stOf sDe 2, stOf sDe 3, stOf sDe 4, stOf sDe 5] := by rfl
def scOfK3 : Stmt → Scope
  | .Assign _ (.ListComp _ _ sc _) _ => sc
  | _ => defScope sDe
def deSc1 : Scope := scOfK3 (stOf sDe 0)
def deSc2 : Scope := scOfK3 (stOf sDe 1)
theorem chkD1 : blkC NDe (defScope sDe) deSc1 [("k", 5)] = true := by decide +kernel
theorem chkD2 : blkC NDe (defScope sDe) deSc2 [("k", 5)] = true := by decide +kernel
theorem rep_map (n : Nat) (as : List Int) : (List.replicate n (as.map V.int)).flatten = ((List.replicate n as).flatten).map V.int := by
  induction n with
  | zero => rfl
  | succ n ih => rw [List.replicate_succ, List.replicate_succ, List.flatten_cons, List.flatten_cons, List.map_append, ih]
theorem rep_len (n : Nat) (as : List Int) : ((List.replicate n as).flatten).length = n * as.length := by
  induction n with
  | zero => simp
  | succ n ih =>
    rw [List.replicate_succ, List.flatten_cons, List.length_append, ih, Nat.succ_mul]
    omega
theorem rep_figs {n : Nat} {as : List Int} (h : figsB as) : figsB ((List.replicate n as).flatten) := fun x hx => by
  obtain ⟨l, hl, hx⟩ := List.mem_flatten.mp hx
  rw [List.eq_of_mem_replicate hl] at hx
  exact h x hx
theorem cut_mid {xs : List V} (a b : Nat) (h : a ≤ xs.length) (h2 : b ≤ xs.length) : cutV xs (some (a : Int)) (some (b : Int)) = (xs.drop a).take (b - a) := by
  unfold cutV
  have e1 : HT.sIx xs.length 0 (some (a : Int)) = a := by
    show (if (a : Int) < 0 then ((a : Int) + (xs.length : Int)).toNat else min (a : Int).toNat xs.length) = _
    rw [if_neg (by omega)]
    omega
  have e2 : HT.sIx xs.length xs.length (some (b : Int)) = b := by
    show (if (b : Int) < 0 then ((b : Int) + (xs.length : Int)).toNat else min (b : Int).toNat xs.length) = _
    rw [if_neg (by omega)]
    omega
  rw [e1, e2]
theorem figs_app {a b : List Int} (h : figsB a) (r : figsB b) : figsB (a ++ b) := fun x hx => (List.mem_append.mp hx).elim (h x) (r x)
theorem fig01 {r : Int} (h0 : 0 ≤ r) (h1 : r < 2) : r = 0 ∨ r = 1 := by omega
theorem seq_split {t u : TS} {D : Ends} {σ : L2.St} {H : Hp} (Ok : L2.St → Hp → Prop) (a : ∀ σ H, Ok σ H → u D σ H) (k : (∀ σ H, Ok σ H → u D σ H) → tSeq t u D σ H) : tSeq t u D σ H := k a
/-- two lists of figures, new -/
structure Two (l li : Addr) (H : Hp) (c : Int) (m n : Nat) (u x : Addr) (hs as : List Int) (G : Hp) : Prop where
  hu : G u = some (.lst (hs.map V.int))
  hx : G x = some (.lst (as.map V.int))
  nu : u ≠ l ∧ u ≠ li
  nx : x ≠ l ∧ x ≠ li
  sp : Spr G l li c
  E : ExtS l li H G
  fh : figsB hs
  fa : figsB as
  lh : hs.length ≤ m
  p : 0 < as.length
  la : as.length ≤ n
theorem Two.ext {l li : Addr} {H G G' : Hp} {c c' : Int} {m n : Nat} {u x : Addr} {hs as : List Int} (t : Two l li H c m n u x hs as G) (e : ExtS l li G G') (s : Spr G' l li c') : Two l li H c' m n u x hs as G' :=
  ⟨e _ _ t.hu t.nu.1 t.nu.2, e _ _ t.hx t.nx.1 t.nx.2, t.nu, t.nx, s, t.E.trans e, t.fh, t.fa, t.lh, t.p, t.la⟩
section
variable {P : Program} {w : World} {K : Frag} {mg : Str → Option Value} {base : Heap}
def spDe : Sp := fun vs H Q _ => ∃ (l li : Addr) (c : Int), vs = [.ref l] ∧ Spr H l li c ∧ c < 800000000 ∧
  ∀ (H' : Hp) (t u x : Addr) (hs as : List Int) (c' : Int), ExtS l li H H' → Spr H' l li c' → c' ≤ c + 20 → (Hid [l, li] H') t = some (.tup [.ref u, .ref x]) → (Hid [l, li] H') u = some (.lst (hs.map V.int)) → (Hid [l, li] H') x = some (.lst (as.map V.int)) → hs.length ≤ 50 → 0 < as.length → as.length ≤ 50 → figsB hs → figsB as → Q (.ref t) H'
theorem ok_de {f : Addr} {fd : FuncData} (F : FunD K "_law_drawn_endless" "_law_drawn_endless" (defArgs sDe) (defBody sDe) (defScope sDe) [] [] f fd) (D : Has P w K mg base "_law_draw" 1 ["stream", "many"] spDrW) (mr : mg "range" = none) (mn : mg "len" = none) : FnOk P w K mg base CX0 2 f fd ["stream"] spDe := by
  refine F.ok scDe (fun vs H Q E h => ?_) (fun cdv A outer s H vs Q XE hr h => ?_)
  · obtain ⟨l, li, c, rfl, _⟩ := h
    rfl
  · obtain ⟨l, li, c, rfl, hs, hc, k⟩ := h
    have h0 : PS (cxOf CX0 P w K mg base NDe "_law_drawn_endless" (defScope sDe) f cdv A outer s H XE).nox (stOf sDe 0) _ := ps_setLc (X := (cxOf CX0 P w K mg base NDe "_law_drawn_endless" (defScope sDe) f cdv A outer s H XE).nox) (i := 1) (te := tCall spDrW [] noE (tCons (tVar 0) (tCons (tC (.int 2)) tNil))) (scope := deSc1) (own := [("k", 5)]) (g := gName 5) (tt := tYes) rfl scDe.nd rfl rfl (sw_true rfl rfl rfl (by decide +kernel))
      (pi_range1 (by rfl) mr (pa_cons (pe_has D hr (by rfl) (pa_cons (pv 0) (pa_cons pe_int pa_nil))) pa_nil)) (blkOk_by chkD1) (fun _ _ _ _ _ => pg_name (i := 5) scDe.nd rfl (Or.inl rfl)) (fun _ _ _ _ _ => pts_nil)
      (fun s0 H0 C0 cl0 fp0 => by exact pe_has D hr (by rfl) (pa_cons (pv 0) (pa_cons pe_int pa_nil)))
    have h1 : PS (cxOf CX0 P w K mg base NDe "_law_drawn_endless" (defScope sDe) f cdv A outer s H XE).nox (stOf sDe 1) _ := ps_setLc (X := (cxOf CX0 P w K mg base NDe "_law_drawn_endless" (defScope sDe) f cdv A outer s H XE).nox) (i := 2) (te := tCall spDrW [] noE (tCons (tVar 0) (tCons (tC (.int 2)) tNil))) (scope := deSc2) (own := [("k", 5)]) (g := gName 5) (tt := tYes) rfl scDe.nd rfl rfl (sw_true rfl rfl rfl (by decide +kernel))
      (pi_range1 (by rfl) mr (pa_cons (pe_op op_add pe_int (pe_has D hr (by rfl) (pa_cons (pv 0) (pa_cons pe_int pa_nil)))) pa_nil)) (blkOk_by chkD2) (fun _ _ _ _ _ => pg_name (i := 5) scDe.nd rfl (Or.inl rfl)) (fun _ _ _ _ _ => pts_nil)
      (fun s0 H0 C0 cl0 fp0 => by exact pe_has D hr (by rfl) (pa_cons (pv 0) (pa_cons pe_int pa_nil)))
    have h2 : PS (cxOf CX0 P w K mg base NDe "_law_drawn_endless" (defScope sDe) f cdv A outer s H XE).nox (stOf sDe 2) _ := ps_set (i := 3) scDe.nd rfl (.inl rfl) (pe_has D hr (by rfl) (pa_cons (pv 0) (pa_cons pe_int pa_nil)))
    have h3 : PS (cxOf CX0 P w K mg base NDe "_law_drawn_endless" (defScope sDe) f cdv A outer s H XE).nox (stOf sDe 3) _ := ps_if (pt_cmpR op_eq (pv 3) pe_int (nomark _)) (pss_one (ps_set (i := 2) scDe.nd rfl (.inl rfl) (pe_op op_rep (pv 2) (pe_op op_add pe_int (pe_has D hr (by rfl) (pa_cons (pv 0) (pa_cons pe_int pa_nil))))))) pss_nil
    have h4 : PS (cxOf CX0 P w K mg base NDe "_law_drawn_endless" (defScope sDe) f cdv A outer s H XE).nox (stOf sDe 4) _ := ps_if (pt_cmpR op_eq (pv 3) pe_int (nomark _)) (pss_cons (ps_set (i := 4) scDe.nd rfl (.inl rfl) (pe_has D hr (by rfl) (pa_cons (pv 0) (pa_cons (pe_op op_mul pe_int (pe_callB call_len_seq (by rfl) mn boot_len (pa_cons (pv 2) pa_nil))) pa_nil))))
      (pss_cons (ps_set (i := 1) scDe.nd rfl (.inl rfl) (pe_op op_cat (pv 1) (pe_slice sl_list (pe_op op_rep (pv 2) pe_int) po_none (po_some (pv 4))))) (pss_one (ps_set (i := 2) scDe.nd rfl (.inl rfl) (pe_slice sl_list (pe_op op_rep (pv 2) pe_int) (po_some (pv 4)) (po_some (pe_op op_add (pv 4) (pe_callB call_len_seq (by rfl) mn boot_len (pa_cons (pv 2) pa_nil))))))))) pss_nil
    have h5 : PS (cxOf CX0 P w K mg base NDe "_law_drawn_endless" (defScope sDe) f cdv A outer s H XE).nox (stOf sDe 5) _ := ps_ret (pe_tup (pa_cons (pv 1) (pa_cons (pv 2) pa_nil)))
    refine ⟨_, PSs.nox (PSs.of_eq bdDe (pss_cons h0 (pss_cons h1 (pss_cons h2 (pss_cons h3 (pss_cons h4 (pss_one h5))))))), ?_⟩
    clear h0 h1 h2 h3 h4 h5
    refine ⟨.ref l, rfl, l, li, c, 5, rfl, hs, by decide, by decide, by omega, fun H1 r e1 s1 r0 r1 => ⟨r, rfl, by omega, by omega, fun D0 hD => ?_⟩⟩
    have nD := s1.new hD
    have HD : H D0 = none := ext_none e1 hD nD.1 nD.2
    refine lc_range (n := r.toNat) (fun j H' => ∃ (ns : List Int), H' D0 = some (.lst (ns.map V.int)) ∧ ns.length = j ∧ figsB ns ∧ Spr H' l li (c + 1 + (j : Nat)) ∧ ExtS l li H H') ⟨[], upd_same, rfl, (fun n h => nomatch h), by simpa using s1.same (same_new hD), e1.trans (same_S (same_new hD))⟩ (fun j H' hj e => ?_) fun H2 e => ?_
    · obtain ⟨ns, h1, h2, h3, h4, h5⟩ := e
      refine ⟨rfl, ?_⟩
      unfold tYes
      show (if true = true then _ else _)
      rw [if_pos rfl]
      refine ⟨.ref l, rfl, l, li, _, 2, rfl, h4, by decide, by decide, by omega, fun H4 q e4 s4 q0 q1 => ?_⟩
      have hD4 := e4 _ _ h1 nD.1 nD.2
      refine ⟨_, hD4, by rw [List.length_map, sizeLine_eq]; omega, ns ++ [q], by rw [upd_same, List.map_append]; rfl, by rw [List.length_append, h2]; rfl, figs_app h3 (fun n hn => by rw [List.mem_singleton.mp hn]; exact fig01 q0 q1), ?_, fun b o eb z1 z2 => ?_⟩
      · have ec : c + 1 + ((j + 1 : Nat) : Int) = c + 1 + (j : Nat) + 1 := by omega
        rw [ec]
        exact s4.upd nD.1 nD.2
      · rw [upd_ne (ne_of_none eb HD)]
        exact e4 b o (h5 b o eb z1 z2) z1 z2
    · obtain ⟨hs0, g1, g2, g3, g4, g5⟩ := e
      refine ⟨.ref l, rfl, l, li, _, 4, rfl, g4, by decide, by decide, by omega, fun H3 r2 e3 s3 q0 q1 => ⟨1, r2, rfl, rfl, 1 + r2, rfl, by omega, by omega, fun D1 hD1 => ?_⟩⟩
      have nD1 := s3.new hD1
      have g1' := e3 _ _ g1 nD.1 nD.2
      have ne : D0 ≠ D1 := fun z => by rw [← z, g1'] at hD1; cases hD1
      have HD1 : H D1 = none := ext_none (g5.trans e3) hD1 nD1.1 nD1.2
      refine lc_range (n := (1 + r2).toNat) (fun j H' => ∃ (ns : List Int), H' D1 = some (.lst (ns.map V.int)) ∧ ns.length = j ∧ figsB ns ∧ Spr H' l li (c + 1 + (r.toNat : Nat) + 1 + (j : Nat)) ∧ ExtS l li H H' ∧ H' D0 = some (.lst (hs0.map V.int))) ⟨[], upd_same, rfl, (fun n h => nomatch h), by simpa using s3.same (same_new hD1), (g5.trans e3).trans (same_S (same_new hD1)), same_new hD1 _ _ g1'⟩ (fun j H' hj e => ?_) fun H5 e => ?_
      · obtain ⟨ns, h1, h2, h3, h4, h5, h6⟩ := e
        refine ⟨rfl, ?_⟩
        unfold tYes
        show (if true = true then _ else _)
        rw [if_pos rfl]
        refine ⟨.ref l, rfl, l, li, _, 2, rfl, h4, by decide, by decide, by omega, fun H4 q e4 s4 q0 q1 => ?_⟩
        have hD4 := e4 _ _ h1 nD1.1 nD1.2
        refine ⟨_, hD4, by rw [List.length_map, sizeLine_eq]; omega, ns ++ [q], by rw [upd_same, List.map_append]; rfl, by rw [List.length_append, h2]; rfl, figs_app h3 (fun n hn => by rw [List.mem_singleton.mp hn]; exact fig01 q0 q1), ?_, fun b o eb z1 z2 => ?_, by rw [upd_ne ne]; exact e4 _ _ h6 nD.1 nD.2⟩
        · have ec : c + 1 + (r.toNat : Nat) + 1 + ((j + 1 : Nat) : Int) = c + 1 + (r.toNat : Nat) + 1 + (j : Nat) + 1 := by omega
          rw [ec]
          exact s4.upd nD1.1 nD1.2
        · rw [upd_ne (ne_of_none eb HD1)]
          exact e4 b o (h5 b o eb z1 z2) z1 z2
      · obtain ⟨as0, k1, k2, k3, k4, k5, k6⟩ := e
        have T0 : Two l li H _ 4 4 D0 D1 hs0 as0 H5 := ⟨k6, k1, nD, nD1, k4, k5, g3, k3, by omega, by omega, by omega⟩
        clear g1 g4 g5 e3 s3 g1' k1 k4 k5 k6 hD hD1
        refine ⟨.ref l, rfl, l, li, _, 4, rfl, T0.sp, by decide, by decide, by omega, fun H6 how e6 s6 w0 w1 => ?_⟩
        have T1 := T0.ext e6 s6
        refine gset ?_
        refine nx_intro (seq_split (fun σ G => ∃ (x : Addr) (as : List Int) (c' : Int), σ = [some (.ref l), some (.ref D0), some (.ref x), some (.int how), none, none] ∧ Two l li H c' 4 12 D0 x hs0 as G ∧ c' ≤ c + 15) (fun σ G e => ?_) (fun rest => ?_))
        rotate_left
        · refine ifS_intro ?_
          refine ⟨.int how, rfl, rfl, _, rfl, ite2 (fun _ => ?_) (fun _ => ?_)⟩
          · refine ⟨.ref D1, rfl, .ref l, rfl, l, li, _, 3, rfl, s6, by decide, by decide, by omega, fun H7 q e7 s7 u0 u1 => ⟨1, q, rfl, rfl, ?_⟩⟩
            have T2 := T1.ext e7 s7
            have la := T2.la
            have lp := T2.p
            obtain ⟨n, rfl⟩ : ∃ n : Nat, q = (n : Nat) := ⟨q.toNat, by omega⟩
            have en : ((1 : Int) + (n : Nat)).toNat = 1 + n := by omega
            have n3 : n ≤ 2 := by omega
            have mu : as0.length * (1 + n) ≤ 12 := by
              calc as0.length * (1 + n) ≤ 4 * 3 := Nat.mul_le_mul la (by omega)
                _ = 12 := by decide
            refine ⟨D1, 1 + (n : Nat), _, rfl, rfl, T2.hx, by omega, by omega, by rw [List.length_map, en, sizeLine_eq]; omega, fun p np => ?_⟩
            rw [en, rep_map]
            have S := same_new (o := .lst (((List.replicate (1 + n) as0).flatten).map V.int)) np
            have T3 := T2.ext (same_S S) (s7.same S)
            have lr := rep_len (1 + n) as0
            have mu2 : (1 + n) * as0.length ≤ 12 := by rw [Nat.mul_comm]; exact mu
            refine gset (rest _ _ ⟨p, (List.replicate (1 + n) as0).flatten, _, rfl, ⟨T3.hu, upd_same, T3.nu, s7.new np, T3.sp, T3.E, T3.fh, rep_figs T3.fa, T3.lh, ?_, by rw [lr]; exact mu2⟩, by omega⟩)
            rw [lr]
            exact Nat.mul_pos (by omega) lp
          · exact rest _ _ ⟨D1, as0, _, rfl, ⟨T1.hu, T1.hx, T1.nu, T1.nx, T1.sp, T1.E, T1.fh, T1.fa, T1.lh, T1.p, Nat.le_trans T1.la (by decide)⟩, by omega⟩
        · obtain ⟨x, as, c', rfl, T, cb⟩ := e
          clear T0 T1 e6 s6
          refine seq_split (fun σ G => ∃ (u x : Addr) (hs as : List Int) (c' : Int) (a3 a4 : Option V), σ = [some (.ref l), some (.ref u), some (.ref x), a3, a4, none] ∧ Two l li H c' 50 50 u x hs as G ∧ c' ≤ c + 18) (fun σ G e => ?_) (fun rest => ?_)
          · obtain ⟨u, x, hs, as, c', a3, a4, rfl, T, cb⟩ := e
            refine ⟨.ref u, rfl, .ref x, rfl, small4 2, fun t nt => ?_⟩
            have S := same_new (o := .tup [.ref u, .ref x]) nt
            have h2 : ∀ {x : Addr}, x ≠ l ∧ x ≠ li → x ∉ [l, li] := fun h => by simp [h.1, h.2]
            exact k _ t u x hs as c' (T.E.trans (same_S S)) (T.sp.same S) (by omega) (hid_of (h2 (T.sp.new nt)) upd_same fun ps z => nomatch z) (hid_of (h2 T.nu) (S _ _ T.hu) fun ps z => nomatch z) (hid_of (h2 T.nx) (S _ _ T.hx) fun ps z => nomatch z) T.lh T.p T.la T.fh T.fa
          · refine ifS_intro ?_
            refine ⟨.int how, rfl, rfl, _, rfl, ite2 (fun _ => ?_) (fun _ => ?_)⟩
            · have la := T.la
              have lp := T.p
              refine ⟨.ref l, rfl, .ref x, rfl, x, _, rfl, .inl (.inl (.inl T.hx)), 3, _, rfl, rfl, .inl ⟨by decide, by decide⟩, l, li, c', _, rfl, T.sp, ?_, ?_, by omega, fun H7 q e7 s7 u0 u1 => ?_⟩
              · rw [List.length_map]
                omega
              · rw [List.length_map]
                omega
              · rw [List.length_map] at u1
                obtain ⟨n, rfl⟩ : ∃ n : Nat, q = (n : Nat) := ⟨q.toNat, by omega⟩
                have T2 := T.ext e7 s7
                refine gset ?_
                refine ⟨.ref D0, rfl, .ref x, rfl, x, 3, _, rfl, rfl, T2.hx, by decide, by decide, by rw [List.length_map, show (3 : Int).toNat = 3 from rfl, sizeLine_eq]; omega, fun p np => ?_⟩
                have e3 : (3 : Int).toNat = 3 := by decide
                rw [e3, rep_map]
                have lr := rep_len 3 as
                have S := same_new (o := .lst (((List.replicate 3 as).flatten).map V.int)) np
                have T3 := T2.ext (same_S S) (s7.same S)
                have s7 := s7.same S
                have hp := upd_same (H := H7) (a := p) (o := .lst (((List.replicate 3 as).flatten).map V.int))
                generalize upd H7 p (.lst (((List.replicate 3 as).flatten).map V.int)) = G3 at T3 s7 hp ⊢
                refine ⟨.int (n : Nat), rfl, (n : Nat), rfl, p, _, rfl, .inl (.inl hp), fun p2 np2 => ?_⟩
                rw [cutV_take (by rw [List.length_map, lr]; omega), ← List.map_take]
                have S2 := same_new (o := .lst ((((List.replicate 3 as).flatten).take n).map V.int)) np2
                have s8 := s7.same S2
                have T4 := T3.ext (same_S S2) s8
                have hp2 := upd_same (H := G3) (a := p2) (o := .lst ((((List.replicate 3 as).flatten).take n).map V.int))
                generalize upd G3 p2 (.lst ((((List.replicate 3 as).flatten).take n).map V.int)) = G4 at T4 s8 hp2 ⊢
                refine ⟨D0, p2, _, _, rfl, rfl, T4.hu, hp2, ?_, fun u2 nu2 => ?_⟩
                · rw [List.length_map, List.length_map, List.length_take, lr, sizeLine_eq]
                  have := T4.lh
                  omega
                rw [← List.map_append]
                have S5 := same_new (o := .lst ((hs0 ++ ((List.replicate 3 as).flatten).take n).map V.int)) nu2
                have s9 := s8.same S5
                have T5 := T4.ext (same_S S5) s9
                have n5 := s8.new nu2
                have hu5 := upd_same (H := G4) (a := u2) (o := .lst ((hs0 ++ ((List.replicate 3 as).flatten).take n).map V.int))
                generalize upd G4 u2 (.lst ((hs0 ++ ((List.replicate 3 as).flatten).take n).map V.int)) = G5 at T5 s9 hu5 ⊢
                refine gset ?_
                refine ⟨.ref x, rfl, x, 4, _, rfl, rfl, T5.hx, by decide, by decide, by rw [List.length_map, show (4 : Int).toNat = 4 from rfl, sizeLine_eq]; omega, fun p3 np3 => ?_⟩
                have e4 : (4 : Int).toNat = 4 := by decide
                rw [e4, rep_map]
                have lr4 := rep_len 4 as
                have S6 := same_new (o := .lst (((List.replicate 4 as).flatten).map V.int)) np3
                have s10 := s9.same S6
                have T6 := T5.ext (same_S S6) s10
                have hu6 := S6 _ _ hu5
                have hp3 := upd_same (H := G5) (a := p3) (o := .lst (((List.replicate 4 as).flatten).map V.int))
                generalize upd G5 p3 (.lst (((List.replicate 4 as).flatten).map V.int)) = G6 at T6 s10 hu6 hp3 ⊢
                refine ⟨.int (n : Nat), rfl, (n : Nat), rfl, .int (n : Nat), rfl, .ref x, rfl, x, _, rfl, .inl (.inl (.inl T6.hx)), _, _, rfl, rfl, ?_⟩
                rw [List.length_map]
                refine ⟨((n + as.length : Nat) : Int), by show V.int (((n : Nat) : Int) + (as.length : Nat)) = _; rw [show ((n : Nat) : Int) + (as.length : Nat) = ((n + as.length : Nat) : Int) by omega], p3, _, rfl, .inl (.inl hp3), fun x2 nx2 => ?_⟩
                rw [cut_mid n (n + as.length) (by rw [List.length_map, lr4]; omega) (by rw [List.length_map, lr4]; omega), ← List.map_drop, ← List.map_take]
                have S7 := same_new (o := .lst (((((List.replicate 4 as).flatten).drop n).take (n + as.length - n)).map V.int)) nx2
                have s11 := s10.same S7
                have T7 := T6.ext (same_S S7) s11
                have lt : ((((List.replicate 4 as).flatten).drop n).take (n + as.length - n)).length = as.length := by
                  rw [List.length_take, List.length_drop, lr4]
                  omega
                refine gset (rest _ _ ⟨u2, x2, hs0 ++ ((List.replicate 3 as).flatten).take n, _, _, _, _, rfl, ⟨S7 _ _ hu6, upd_same, n5, s10.new nx2, T7.sp, T7.E, figs_app T7.fh fun y hy => rep_figs T7.fa y (List.mem_of_mem_take hy), fun y hy => rep_figs T7.fa y (List.mem_of_mem_drop (List.mem_of_mem_take hy)), ?_, by rw [lt]; exact lp, by rw [lt]; omega⟩, by omega⟩)
                rw [List.length_append, List.length_take, lr]
                have := T7.lh
                omega
            · exact rest _ _ ⟨D0, x, hs0, as, c', _, _, rfl, ⟨T.hu, T.hx, T.nu, T.nx, T.sp, T.E, T.fh, T.fa, Nat.le_trans T.lh (by decide), T.p, Nat.le_trans T.la (by decide)⟩, by omega⟩
end
end K14.T3
namespace K14.T3
open T27
open K14.Gn
/-! ### the least pair, found by looking at figures alone -/
section
variable {hs as : List Int}
/-- the figures repeat by m from N on, as far as far -/
def repB (f : Nat → Int) (N far m : Nat) : Bool := (List.range (far - N)).all fun k => decide (f (N + k) = f (N + k + m))
theorem repB_iff {f : Nat → Int} {N far m : Nat} : repB f N far m = true ↔ ∀ i, N ≤ i → i < far → f i = f (i + m) := by
  unfold repB
  rw [List.all_eq_true]
  constructor
  · intro h i h1 h2
    have := of_decide_eq_true (h (i - N) (List.mem_range.mpr (by omega)))
    rwa [show N + (i - N) = i by omega] at this
  · intro h k hk
    have := List.mem_range.mp hk
    exact decide_eq_true (h (N + k) (by omega) (by omega))
theorem wide_pb (h0 : 0 < as.length) {m : Nat} (h : repB (figAt hs as) hs.length (hs.length + as.length) m = true) : PB (figAt hs as) hs.length m := fun i hi => by
  rw [repB_iff] at h
  have t := pb_tail (hs := hs) h0
  have q := Nat.mod_add_div (i - hs.length) as.length
  have ql := Nat.mod_lt (i - hs.length) h0
  have e1 := t.mul ((i - hs.length) / as.length) (hs.length + (i - hs.length) % as.length) (by omega)
  have e2 := t.mul ((i - hs.length) / as.length) (hs.length + (i - hs.length) % as.length + m) (by omega)
  have e3 := h (hs.length + (i - hs.length) % as.length) (by omega) (by omega)
  have i1 : hs.length + (i - hs.length) % as.length + as.length * ((i - hs.length) / as.length) = i := by omega
  have i2 : hs.length + (i - hs.length) % as.length + m + as.length * ((i - hs.length) / as.length) = i + m := by omega
  rw [i1] at e1
  rw [i2] at e2
  rw [e1, e2, e3]
theorem long_pb {W m : Nat} (hw : PB (figAt hs as) hs.length W) (hm : m ≤ hs.length) {far : Nat} (hf : hs.length ≤ far) (h : repB (figAt hs as) m far W = true) : PB (figAt hs as) m W := fun i hi => by
  rw [repB_iff] at h
  by_cases c : i < far
  · exact (h i hi c).symm
  · exact hw i (by omega)
theorem range_get {g : Nat → Int} {n i : Nat} (h : i < n) : ((List.range n).map g).getD i 0 = g i := by
  simp [List.getD, List.getElem?_map, List.getElem?_range h]
theorem short_least (h0 : 0 < as.length) {W M : Nat} (w1 : 1 ≤ W) (w2 : W ≤ as.length) (wc : repB (figAt hs as) hs.length (hs.length + as.length) W = true) (wm : ∀ m, 1 ≤ m → m < W → repB (figAt hs as) hs.length (hs.length + as.length) m = false)
    (m2 : M ≤ hs.length) (mc : repB (figAt hs as) M (hs.length + as.length) W = true) (mm : ∀ m, m < M → repB (figAt hs as) m (hs.length + as.length) W = false) :
    LeastOf (figAt hs as) ((List.range M).map (figAt hs as)) ((List.range W).map fun j => figAt hs as (M + j)) := by
  have pw := wide_pb h0 wc
  have pm := long_pb pw m2 (Nat.le_add_right _ _) mc
  have t := pb_tail (hs := hs) h0
  have lh : ((List.range M).map (figAt hs as)).length = M := by simp
  have la : ((List.range W).map fun j => figAt hs as (M + j)).length = W := by simp
  refine ⟨by rw [la]; exact w1, by rw [lh, la]; exact pm, fun N q q0 hq => ?_, fun N hN => ?_, fun i hi => ?_, fun j hj => ?_⟩
  · rw [la]
    refine Nat.le_of_not_lt fun c => ?_
    have hq2 := t.back h0 hq
    have := wm q q0 c
    rw [Bool.eq_false_iff] at this
    exact this (repB_iff.mpr fun i h1 _ => (hq2 i h1).symm)
  · rw [lh]
    rw [la] at hN
    refine Nat.le_of_not_lt fun c => ?_
    have := mm N c
    rw [Bool.eq_false_iff] at this
    exact this (repB_iff.mpr fun i h1 _ => (hN i h1).symm)
  · rw [lh] at hi
    exact range_get hi
  · rw [la] at hj
    rw [lh]
    exact range_get (g := fun j => figAt hs as (M + j)) hj
/-- the least that holds, of the first n from lo on -/
theorem first_of (b : Nat → Bool) (lo : Nat) : ∀ n, (∃ k, k < n ∧ b (lo + k) = true) → ∃ r, (((List.range n).map fun k => lo + k).filter b) = r ∧ ∃ x t, r = x :: t ∧ lo ≤ x ∧ x < lo + n ∧ b x = true ∧ ∀ m, lo ≤ m → m < x → b m = false
  | 0, ⟨k, hk, _⟩ => by omega
  | n + 1, ⟨k, hk, hb⟩ => by
    rw [List.range_succ, List.map_append, List.filter_append]
    by_cases c : ∃ k, k < n ∧ b (lo + k) = true
    · obtain ⟨r, e, x, t, rfl, x1, x2, x3, x4⟩ := first_of b lo n c
      rw [e]
      exact ⟨_, rfl, x, _, rfl, x1, by omega, x3, x4⟩
    · have e : ((List.range n).map fun k => lo + k).filter b = [] := List.filter_eq_nil_iff.mpr fun y hy q => by
        obtain ⟨j, hj, rfl⟩ := List.mem_map.mp hy
        exact c ⟨j, List.mem_range.mp hj, q⟩
      have kn : k = n := by
        refine Nat.le_antisymm (by omega) (Nat.le_of_not_lt fun q => c ⟨k, q, hb⟩)
      subst kn
      rw [e, List.nil_append]
      have e2 : ([k].map fun k => lo + k).filter b = [lo + k] := by
        rw [List.map_cons, List.map_nil, List.filter_cons_of_pos hb, List.filter_nil]
      have e3 : ([k].map fun k => lo + k).filter b = [lo + k] := e2
      refine ⟨_, rfl, lo + k, [], e3, by omega, by omega, hb, fun m h1 h2 => ?_⟩
      cases q : b m with
      | false => rfl
      | true => exact absurd ⟨m - lo, by omega, by rw [show lo + (m - lo) = m by omega]; exact q⟩ c
end
end K14.T3
namespace K14.T3
open T27
open K14.Gn
open PySem PySem.W PySem.Calls PyProof.Rows L2 LamX
open Kz (small4 same_new)
abbrev tI (K : Frag) (i j k : Nat) : TE := tOp rEq (tOp (rIx K) (tVar i) (tVar j)) (tOp (rIx K) (tVar i) (tOp (rI0 fun a b => .int (a + b)) (tVar j) (tVar k)))
def figV (f : Nat → Int) (N : Nat) : List V := (List.range N).map fun i => V.int (f i)
theorem figV_get {f : Nat → Int} {N i : Nat} (h : i < N) : (figV f N)[i]? = some (.int (f i)) := by
  unfold figV
  rw [List.getElem?_map, List.getElem?_range h]
  rfl
/-- all([figures[at] == figures[at + many] for at in range(lo, far)]) -/
theorem all_rep {K : Frag} {σ : L2.St} {H : Hp} {Q : Bool → Hp → Prop} {f : Nat → Int} {DF : Addr} {N lo far mny kk : Nat} {args : TA} (ha : ∀ R : List V → Hp → Prop, R [.int (lo : Nat), .int (far : Nat)] H → args σ H R) (hF : H DF = some (.lst (figV f N)))
    (hw : ∀ x : V, wipe ((wipe σ [7]).set 7 (some x)) [7] = wipe σ [7]) (g4 : ∀ x : V, ((wipe σ [7]).set 7 (some x))[4]? = some (some (.ref DF))) (g7 : ∀ x : V, ((wipe σ [7]).set 7 (some x))[7]? = some (some x)) (gk : ∀ x : V, ((wipe σ [7]).set 7 (some x))[kk]? = some (some (.int (mny : Nat))))
    (hl : lo ≤ far) (l2 : far + mny ≤ N) (l3 : N ≤ 10000) (k : ∀ H', L2.Same H H' → Q (repB f lo far mny) H') : tB (tCB (rAll K) (tCons (tLc (iRng2 args) (gName 7) tYes (tI K 4 7 kk) [7]) tNil)) σ H Q := by
  have body : (tLc (iRng2 args) (gName 7) tYes (tI K 4 7 kk) [7]) σ H fun v G => rAll K [v] G fun x H1 => ∃ c, x = .bl c ∧ Q c H1 := by
    refine ha _ ⟨_, _, rfl, ⟨by omega, by omega, by omega, by omega⟩, fun D hD => ?_⟩
    have en : (((far : Nat) : Int) - (lo : Nat)).toNat = far - lo := by omega
    rw [en]
    refine lc_range (lo := (lo : Nat)) (n := far - lo) (fun i G => L2.Same H G ∧ G D = some (.lst ((List.range i).map fun k => V.bl (decide (f (lo + k) = f (lo + k + mny)))))) ⟨same_new hD, upd_same⟩ (fun i G hi e => ?_) fun G e => ?_
    · obtain ⟨S, hA⟩ := e
      refine ⟨hw _, ?_⟩
      unfold tYes
      show (if true = true then _ else _)
      rw [if_pos rfl]
      have e1 : ((lo : Nat) : Int) + (i : Nat) = ((lo + i : Nat) : Int) := by omega
      rw [e1]
      refine ⟨.ref DF, g4 _, .int ((lo + i : Nat) : Int), g7 _, ix_at (lo + i) (S _ _ hF) (figV_get (by omega)) ?_⟩
      refine ⟨.ref DF, g4 _, .int ((lo + i : Nat) : Int), g7 _, .int (mny : Nat), gk _, _, _, rfl, rfl, ?_⟩
      show rIx K (.ref DF) (.int (((lo + i : Nat) : Int) + (mny : Nat))) G _
      have e2 : ((lo + i : Nat) : Int) + (mny : Nat) = ((lo + i + mny : Nat) : Int) := by omega
      rw [e2]
      refine ix_at (lo + i + mny) (S _ _ hF) (figV_get (by omega)) ⟨rfl, _, hA, ?_, fun b o eb => ?_, ?_⟩
      · rw [List.length_map, List.length_range, sizeLine_eq]
        omega
      · rw [upd_ne (ne_of_none eb hD)]
        exact S _ _ eb
      · rw [upd_same, List.range_succ, List.map_append]
        have : decide (V.int (f (lo + i)) = V.int (f (lo + i + mny))) = decide (f (lo + i) = f (lo + i + mny)) := by
          by_cases q : f (lo + i) = f (lo + i + mny)
          · rw [q, decide_eq_true rfl, decide_eq_true rfl]
          · rw [decide_eq_false q, decide_eq_false fun z => q (V.int.inj z)]
        show some (HO.lst (_ ++ [V.bl (decide (V.int (f (lo + i)) = V.int (f (lo + i + mny))))])) = _
        rw [this]
        rfl
    · obtain ⟨S, hA⟩ := e
      refine ⟨D, (List.range (far - lo)).map fun k => decide (f (lo + k) = f (lo + k + mny)), rfl, .inl (.inl (by rw [List.map_map]; exact hA)), _, rfl, ?_⟩
      have := k G S
      unfold repB at this
      rw [List.all_map]
      exact this
  exact body
end K14.T3
namespace K14.T3
open T27
open K14.Gn
open PySem PySem.W PySem.Calls PyProof.Rows L2 LamX
open He (ga)
open Kz (SS ExtS ExtS.trans ExtS.refl small4 same_new boot_in boot_li boot_isi Has pe_has noE PSs.of_eq seqI new_ext X1)
abbrev sSh : Stmt := topS 55
abbrev NSh : List Str := ["endless", "head", "again", "far", "figures", "wide", "long", "at", "many"]
theorem scSh : FnScope NSh ["endless"] (defScope sSh) := ⟨rfl, rfl, rfl, by decide +kernel, rfl, by decide +kernel, by decide +kernel⟩
theorem bdSh : defBody sSh = [stOf sSh 0, stOf sSh 1, stOf sSh 2, stOf sSh 3, stOf sSh 4, stOf sSh 5] := by rfl
def scS2 : Stmt → Scope
  | .Assign _ (.ListComp _ _ sc _) _ => sc
  | .Assign _ (.Subscript (.ListComp _ _ sc _) _ _) _ => sc
  | _ => defScope sSh
def scSi : Stmt → Scope
  | .Assign _ (.Subscript (.ListComp _ [⟨_, _, [.Call _ [.ListComp _ _ sc _] _ _], _⟩] _ _) _ _) _ => sc
  | _ => defScope sSh
def shSc0 : Scope := scS2 (stOf sSh 2)
def shSc1 : Scope := scS2 (stOf sSh 3)
def shSc1i : Scope := scSi (stOf sSh 3)
def shSc2 : Scope := scS2 (stOf sSh 4)
def shSc2i : Scope := scSi (stOf sSh 4)
theorem chS0 : blkC NSh (defScope sSh) shSc0 [("at", 7)] = true := by decide +kernel
theorem chS1 : blkC NSh (defScope sSh) shSc1 [("many", 8)] = true := by decide +kernel
theorem chS1i : blkC NSh shSc1 shSc1i [("at", 7)] = true := by decide +kernel
theorem chS2 : blkC NSh (defScope sSh) shSc2 [("many", 8)] = true := by decide +kernel
theorem chS2i : blkC NSh shSc2 shSc2i [("at", 7)] = true := by decide +kernel
theorem figV_take {f : Nat → Int} {N M : Nat} (h : M ≤ N) : (figV f N).take M = ((List.range M).map f).map V.int := by
  unfold figV
  rw [← List.map_take, List.take_range, Nat.min_eq_left h, List.map_map]
  rfl
theorem figV_mid {f : Nat → Int} {N M W : Nat} (h : M + W ≤ N) : ((figV f N).drop M).take (M + W - M) = ((List.range W).map fun j => f (M + j)).map V.int := by
  refine List.ext_getElem? fun i => ?_
  rw [Nat.add_sub_cancel_left]
  by_cases c : i < W
  · rw [List.getElem?_take_of_lt c, List.getElem?_drop, figV_get (by omega), List.getElem?_map, List.getElem?_map, List.getElem?_range c]
    rfl
  · rw [List.getElem?_eq_none (by rw [List.length_take]; omega), List.getElem?_eq_none (by simp; omega)]
theorem filt_snoc (b : Nat → Bool) (lo j : Nat) : ((List.range (j + 1)).map fun k => lo + k).filter b = (((List.range j).map fun k => lo + k).filter b) ++ (if b (lo + j) = true then [lo + j] else []) := by
  rw [List.range_succ, List.map_append, List.filter_append]
  congr 1
  show List.filter b [lo + j] = _
  cases q : b (lo + j) with
  | true => rw [List.filter_cons_of_pos q, if_pos rfl, List.filter_nil]
  | false => rw [List.filter_cons_of_neg (by rw [q]; decide), if_neg (by decide), List.filter_nil]
abbrev tLen (K : Frag) (i : Nat) : TE := tCB (Kz.rLen K) (tCons (tVar i) tNil)
abbrev tW (K : Frag) : TT := tB (tCB (rAll K) (tCons (tLc (iRng2 (tCons (tLen K 1) (tCons (tVar 3) tNil))) (gName 7) tYes (tI K 4 7 8) [7]) tNil))
abbrev tM (K : Frag) : TT := tB (tCB (rAll K) (tCons (tLc (iRng2 (tCons (tVar 8) (tCons (tVar 3) tNil))) (gName 7) tYes (tI K 4 7 5) [7]) tNil))
section
variable {P : Program} {w : World} {K : Frag} {mg : Str → Option Value} {base : Heap}
abbrev XSh (P : Program) (w : World) (K : Frag) (mg : Str → Option Value) (base : Heap) (f : Addr) (cdv : Value) (A : Around) (outer : List Env) (s : Shared) (H : Hp) (XE : XK) : Cx := (cxOf CX0 P w K mg base NSh "_law_shortest" (defScope sSh) f cdv A outer s H XE).nox
def spSh : Sp := fun vs H Q _ => ∃ (v : V) (hs as : List Int), vs = [v] ∧ EndV H v hs as ∧ hs.length ≤ 50 ∧ as.length ≤ 50 ∧ ∀ (H' : Hp) (t u x : Addr) (h a : List Int), L2.Same H H' → H' t = some (.tup [.ref u, .ref x]) → H' u = some (.lst (h.map V.int)) → H' x = some (.lst (a.map V.int)) → H u = none → H x = none → LeastOf (figAt hs as) h a → Q (.ref t) H'
theorem ok_sh {f : Addr} {fd : FuncData} (F : FunD K "_law_shortest" "_law_shortest" (defArgs sSh) (defBody sSh) (defScope sSh) [] [] f fd) (G : Has P w K mg base "_law_figure" 1 ["endless", "at"] spFig) (mn : mg "len" = none) (mr : mg "range" = none) (ma : mg "all" = none) : FnOk P w K mg base CX0 2 f fd ["endless"] spSh := by
  refine F.ok scSh (fun vs H Q E h => ?_) (fun cdv A outer s H vs Q XE hr h => ?_)
  · obtain ⟨v, hs, as, rfl, _⟩ := h
    rfl
  · obtain ⟨v, hs, as, rfl, hv, l1, l2, k⟩ := h
    have h0 : PS (XSh P w K mg base f cdv A outer s H XE) (stOf sSh 0) _ := ps_asg (pv 0) (pg_or (pg_tup (n := 2) rfl (pgs_cons (pg_name (i := 1) scSh.nd rfl (.inr rfl)) (pgs_cons (pg_name (i := 2) scSh.nd rfl (.inl rfl)) pgs_nil))) (pg_lst (n := 2) rfl (pgs_cons (pg_name (i := 1) scSh.nd rfl (.inr rfl)) (pgs_cons (pg_name (i := 2) scSh.nd rfl (.inl rfl)) pgs_nil))))
    have h1 : PS (XSh P w K mg base f cdv A outer s H XE) (stOf sSh 1) _ := ps_set (i := 3) scSh.nd rfl (.inr rfl) (pe_op op_add (pe_callB call_len_seq (by rfl) mn boot_len (pa_cons (pv 1) pa_nil)) (pe_callB call_len_seq (by rfl) mn boot_len (pa_cons (pv 2) pa_nil)))
    have h2 : PS (XSh P w K mg base f cdv A outer s H XE) (stOf sSh 2) _ := ps_asg (pe_lc (X := XSh P w K mg base f cdv A outer s H XE) (scope := shSc0) (own := [("at", 7)]) (g := gName 7) (tt := tYes) (te := tCall spFig [] noE (tCons (tVar 0) (tCons (tVar 7) tNil))) rfl scSh.nd
      (pi_range1 (by rfl) mr (pa_cons (pe_op op_add (pe_op op_add (pv 3) (pe_op op_mul pe_int (pe_callB call_len_seq (by rfl) mn boot_len (pa_cons (pv 2) pa_nil)))) pe_int) pa_nil)) (blkOk_by chS0) (fun _ _ _ _ _ => pg_name (i := 7) scSh.nd rfl (Or.inl rfl)) (fun _ _ _ _ _ => pts_nil)
      (fun s0 H0 C0 cl0 fp0 => by exact pe_has G hr (by rfl) (pa_cons (pv 0) (pa_cons (pv 7) pa_nil)))) (pg_name (i := 4) scSh.nd rfl (.inr rfl))
    have h3 : PS (XSh P w K mg base f cdv A outer s H XE) (stOf sSh 3) _ := ps_set (i := 5) scSh.nd rfl (.inr rfl) (pe_ix ix_list (pe_lc (X := XSh P w K mg base f cdv A outer s H XE) (scope := shSc1) (own := [("many", 8)]) (g := gName 8) (tt := tW K) (te := tVar 8) rfl scSh.nd
      (pi_range2 (by rfl) mr (pa_cons pe_int (pa_cons (pe_op op_add (pe_callB call_len_seq (by rfl) mn boot_len (pa_cons (pv 2) pa_nil)) pe_int) pa_nil))) (blkOk_by chS1) (fun _ _ _ _ _ => pg_name (i := 8) scSh.nd rfl (Or.inr rfl))
      (fun s0 H0 C0 cl0 fp0 => pts_one (pt_val (by exact pe_callB (cr_all rfl) (by rfl) ma boot_all (pa_cons (pe_lc (X := Cx.blk (XSh P w K mg base f cdv A outer s H XE) s0 H0 shSc1 (compEnvC shSc1 cl0 C0 (Cx.env (XSh P w K mg base f cdv A outer s H XE))) fp0) (scope := shSc1i) (own := [("at", 7)]) (g := gName 7) (tt := tYes) (te := tI K 4 7 8) rfl scSh.nd
        (pi_range2 (by rfl) mr (pa_cons (pe_callB call_len_seq (by rfl) mn boot_len (pa_cons (pv 1) pa_nil)) (pa_cons (pv 3) pa_nil))) (blkOk_by chS1i) (fun _ _ _ _ _ => pg_name (i := 7) scSh.nd rfl (Or.inl rfl)) (fun _ _ _ _ _ => pts_nil)
        (fun s1 H1 C1 cl1 fp1 => by exact pe_cmpR op_eq (pe_ix ix_seq (pv 4) (pv 7) (fun _ _ => rfl)) (pe_ix ix_seq (pv 4) (pe_op op_add (pv 7) (pv 8)) (fun _ _ => rfl)) (nomark _))) pa_nil))))
      (fun s0 H0 C0 cl0 fp0 => by exact pv 8)) pe_int (fun _ _ => rfl))
    have h4 : PS (XSh P w K mg base f cdv A outer s H XE) (stOf sSh 4) _ := ps_set (i := 6) scSh.nd rfl (.inl rfl) (pe_ix ix_list (pe_lc (X := XSh P w K mg base f cdv A outer s H XE) (scope := shSc2) (own := [("many", 8)]) (g := gName 8) (tt := tM K) (te := tVar 8) rfl scSh.nd
      (pi_range1 (by rfl) mr (pa_cons (pe_op op_add (pe_callB call_len_seq (by rfl) mn boot_len (pa_cons (pv 1) pa_nil)) pe_int) pa_nil)) (blkOk_by chS2) (fun _ _ _ _ _ => pg_name (i := 8) scSh.nd rfl (Or.inl rfl))
      (fun s0 H0 C0 cl0 fp0 => pts_one (pt_val (by exact pe_callB (cr_all rfl) (by rfl) ma boot_all (pa_cons (pe_lc (X := Cx.blk (XSh P w K mg base f cdv A outer s H XE) s0 H0 shSc2 (compEnvC shSc2 cl0 C0 (Cx.env (XSh P w K mg base f cdv A outer s H XE))) fp0) (scope := shSc2i) (own := [("at", 7)]) (g := gName 7) (tt := tYes) (te := tI K 4 7 5) rfl scSh.nd
        (pi_range2 (by rfl) mr (pa_cons (pv 8) (pa_cons (pv 3) pa_nil))) (blkOk_by chS2i) (fun _ _ _ _ _ => pg_name (i := 7) scSh.nd rfl (Or.inl rfl)) (fun _ _ _ _ _ => pts_nil)
        (fun s1 H1 C1 cl1 fp1 => by exact pe_cmpR op_eq (pe_ix ix_seq (pv 4) (pv 7) (fun _ _ => rfl)) (pe_ix ix_seq (pv 4) (pe_op op_add (pv 7) (pv 5)) (fun _ _ => rfl)) (nomark _))) pa_nil))))
      (fun s0 H0 C0 cl0 fp0 => by exact pv 8)) pe_int (fun _ _ => rfl))
    have h5 : PS (XSh P w K mg base f cdv A outer s H XE) (stOf sSh 5) _ := ps_ret (pe_tup (pa_cons (pe_slice sl_list (pv 4) po_none (po_some (pv 6))) (pa_cons (pe_slice sl_list (pv 4) (po_some (pv 6)) (po_some (pe_op op_add (pv 6) (pv 5)))) pa_nil)))
    refine ⟨_, PSs.nox (PSs.of_eq bdSh (pss_cons h0 (pss_cons h1 (pss_cons h2 (pss_cons h3 (pss_cons h4 (pss_one h5))))))), ?_⟩
    clear h0 h1 h2 h3 h4 h5
    have sm : ∀ {G : Hp}, L2.Same G G := fun _ _ e => e
    have la : 0 < as.length := by
      obtain ⟨_, _, _, _, _, _, _, _, z, _⟩ := hv
      exact z
    obtain ⟨a, p, q, rfl, ha, hp, hq⟩ := hv.parts
    have eh : (hs.map V.int).length = hs.length := List.length_map ..
    have ea : (as.map V.int).length = as.length := List.length_map ..
    have hf := hv
    rcases ha with ha | ha <;> first
      | refine ⟨.ref a, rfl, .inr ⟨a, _, rfl, .inl (.inl ha), rfl, .ref p, _, rfl, .ref q, _, rfl, rfl, ?_⟩⟩
      | refine ⟨.ref a, rfl, .inl ⟨a, _, rfl, .inl (.inl ha), rfl, .ref p, _, rfl, .ref q, _, rfl, rfl, ?_⟩⟩
    all_goals
      refine ⟨.ref p, rfl, p, _, rfl, sl_of hp, .ref q, rfl, q, _, rfl, sl_of hq, _, _, rfl, rfl, ?_⟩
      rw [eh, ea]
      have ef : ((hs.length : Nat) : Int) + (as.length : Nat) = ((hs.length + as.length : Nat) : Int) := by omega
      refine gset ?_
      show Ends.nx _ (List.set _ 3 (some (.int (((hs.length : Nat) : Int) + (as.length : Nat))))) H
      rw [ef]
      refine nx_intro ?_
      refine ⟨.int _, rfl, .ref q, rfl, q, _, rfl, sl_of hq, 2, _, rfl, rfl, .inl ⟨by decide, by decide⟩, _, _, rfl, rfl, _, 2, rfl, rfl, _, rfl, by omega, by rw [ea]; omega, fun D hD => ?_⟩
      rw [ea]
      have eN : (((hs.length + as.length : Nat) : Int) + 2 * (as.length : Nat) + 2).toNat = hs.length + as.length + 2 * as.length + 2 := by omega
      rw [eN]
      refine lc_range (lo := 0) (n := hs.length + as.length + 2 * as.length + 2) (fun j G => L2.Same H G ∧ G D = some (.lst (figV (figAt hs as) j))) ⟨same_new hD, upd_same⟩ (fun j G hj e => ?_) (fun G e => ?_)
      · obtain ⟨S, hA⟩ := e
        refine ⟨rfl, ?_⟩
        unfold tYes
        show (if true = true then _ else _)
        rw [if_pos rfl]
        refine ⟨.ref a, rfl, .int (0 + (j : Nat)), rfl, .ref a, hs, as, j, by rw [Int.zero_add]; rfl, hf.ext S, _, hA, ?_, fun b o eb => ?_, ?_⟩
        · unfold figV
          rw [List.length_map, List.length_range, sizeLine_eq]
          omega
        · rw [upd_ne (ne_of_none eb hD)]
          exact S _ _ eb
        · rw [upd_same]
          unfold figV
          rw [List.range_succ, List.map_append]
          rfl
      · obtain ⟨S, hF⟩ := e
        have hp1 := st_or S hp
        have hq1 := st_or S hq
        refine ⟨.ref q, rfl, q, _, rfl, sl_of hq1, _, 1, rfl, rfl, 1, _, rfl, ⟨by decide, by decide, by rw [ea]; omega, by rw [ea]; omega⟩, fun D1 hD1 => ?_⟩
        rw [ea]
        have en : (((as.length : Nat) : Int) + 1 - 1).toNat = as.length := by omega
        rw [en]
        refine lc_range (lo := 1) (n := as.length) (fun j G' => L2.Same G G' ∧ G' D1 = some (.lst ((((List.range j).map fun k => 1 + k).filter fun m => repB (figAt hs as) hs.length (hs.length + as.length) m).map fun x => V.int (x : Nat)))) ⟨same_new hD1, upd_same⟩ (fun j G' hj e => ?_) (fun G' e => ?_)
        · obtain ⟨S2, hA⟩ := e
          have e1 : (1 : Int) + (j : Nat) = ((1 + j : Nat) : Int) := by omega
          rw [e1]
          refine ⟨rfl, all_rep (f := figAt hs as) (DF := D) (N := hs.length + as.length + 2 * as.length + 2) (lo := hs.length) (far := hs.length + as.length) (mny := 1 + j) (kk := 8) (fun R h => ⟨.ref p, rfl, p, _, rfl, sl_of (st_or S2 hp1), .int _, rfl, by rw [eh]; exact h⟩) (S2 _ _ hF) (fun x => rfl) (fun x => rfl) (fun x => rfl) (fun x => rfl) (by omega) (by omega) (by omega) (fun G2 S3 => ?_)⟩
          have hA2 := S3 _ _ hA
          have S4 := S2.trans S3
          cases qb : repB (figAt hs as) hs.length (hs.length + as.length) (1 + j) with
          | true =>
            refine iteT ⟨.int _, rfl, _, hA2, ?_, fun b o eb => ?_, ?_⟩
            · rw [List.length_map, sizeLine_eq]
              have := List.length_filter_le (fun m => repB (figAt hs as) hs.length (hs.length + as.length) m) ((List.range j).map fun k => 1 + k)
              rw [List.length_map, List.length_range] at this
              omega
            · rw [upd_ne (ne_of_none eb hD1)]
              exact S4 _ _ eb
            · rw [upd_same, filt_snoc, if_pos qb, List.map_append]
              rfl
          | false =>
            refine iteF ⟨S4, ?_⟩
            rw [filt_snoc, if_neg (by rw [qb]; decide), List.append_nil]
            exact hA2
        · obtain ⟨S2, hA⟩ := e
          have t := pb_tail (hs := hs) la
          obtain ⟨r, er, W, tl, rfl, W1, W2, W3, W4⟩ := first_of (fun m => repB (figAt hs as) hs.length (hs.length + as.length) m) 1 as.length ⟨as.length - 1, by omega, by
            rw [show 1 + (as.length - 1) = as.length by omega]
            exact repB_iff.mpr fun i h1 _ => (t i h1).symm⟩
          rw [er] at hA
          refine ⟨D1, _, 0, .int (W : Nat), rfl, rfl, .inl (.inl hA), atI_nat (j := 0) rfl, ?_⟩
          refine gset (nx_intro ?_)
          have S3 := S.trans S2
          have hF2 := S2 _ _ hF
          have hp2 := st_or S2 hp1
          refine ⟨.ref p, rfl, p, _, rfl, sl_of hp2, _, 1, rfl, rfl, _, rfl, by rw [eh]; omega, by rw [eh]; omega, fun D2 hD2 => ?_⟩
          rw [eh]
          have en2 : (((hs.length : Nat) : Int) + 1).toNat = hs.length + 1 := by omega
          rw [en2]
          have pw := wide_pb la W3
          refine lc_range (lo := 0) (n := hs.length + 1) (fun j G3 => L2.Same G' G3 ∧ G3 D2 = some (.lst ((((List.range j).map fun k => 0 + k).filter fun m => repB (figAt hs as) m (hs.length + as.length) W).map fun x => V.int (x : Nat)))) ⟨same_new hD2, upd_same⟩ (fun j G3 hj e => ?_) (fun G3 e => ?_)
          · obtain ⟨S5, hA⟩ := e
            have e1 : (0 : Int) + (j : Nat) = ((0 + j : Nat) : Int) := by omega
            rw [e1]
            refine ⟨rfl, all_rep (f := figAt hs as) (DF := D) (N := hs.length + as.length + 2 * as.length + 2) (lo := 0 + j) (far := hs.length + as.length) (mny := W) (kk := 5) (fun R h => ⟨.int _, rfl, .int _, rfl, h⟩) (S5 _ _ hF2) (fun x => rfl) (fun x => rfl) (fun x => rfl) (fun x => rfl) (by omega) (by omega) (by omega) (fun G4 S6 => ?_)⟩
            have hA2 := S6 _ _ hA
            have S7 := S5.trans S6
            cases qb : repB (figAt hs as) (0 + j) (hs.length + as.length) W with
            | true =>
              refine iteT ⟨.int _, rfl, _, hA2, ?_, fun b o eb => ?_, ?_⟩
              · rw [List.length_map, sizeLine_eq]
                have := List.length_filter_le (fun m => repB (figAt hs as) m (hs.length + as.length) W) ((List.range j).map fun k => 0 + k)
                rw [List.length_map, List.length_range] at this
                omega
              · rw [upd_ne (ne_of_none eb hD2)]
                exact S7 _ _ eb
              · rw [upd_same, filt_snoc, if_pos qb, List.map_append]
                rfl
            | false =>
              refine iteF ⟨S7, ?_⟩
              rw [filt_snoc, if_neg (by rw [qb]; decide), List.append_nil]
              exact hA2
          · obtain ⟨S5, hA⟩ := e
            obtain ⟨r, er2, M, tl2, rfl, M1, M2, M3, M4⟩ := first_of (fun m => repB (figAt hs as) m (hs.length + as.length) W) 0 (hs.length + 1) ⟨hs.length, by omega, by
              rw [Nat.zero_add]
              exact repB_iff.mpr fun i h1 _ => (pw i h1).symm⟩
            rw [er2] at hA
            refine ⟨D2, _, 0, .int (M : Nat), rfl, rfl, .inl (.inl hA), atI_nat (j := 0) rfl, ?_⟩
            refine gset (nx_intro ?_)
            have S6 := S3.trans S5
            have hF3 := S5 _ _ hF2
            have lF : (figV (figAt hs as) (hs.length + as.length + 2 * as.length + 2)).length = hs.length + as.length + 2 * as.length + 2 := by
              unfold figV
              rw [List.length_map, List.length_range]
            refine ⟨.ref D, rfl, .int (M : Nat), rfl, (M : Nat), rfl, D, _, rfl, .inl (.inl hF3), fun u nu => ?_⟩
            rw [cutV_take (by rw [lF]; omega), figV_take (by omega)]
            have S7 := same_new (o := .lst (((List.range M).map (figAt hs as)).map V.int)) nu
            have hu := upd_same (H := G3) (a := u) (o := .lst (((List.range M).map (figAt hs as)).map V.int))
            have hF4 := S7 _ _ hF3
            generalize upd G3 u (.lst (((List.range M).map (figAt hs as)).map V.int)) = G4 at S7 hu hF4 ⊢
            refine ⟨.ref D, rfl, .int (M : Nat), rfl, (M : Nat), rfl, .int (M : Nat), rfl, .int (W : Nat), rfl, _, _, rfl, rfl, ((M + W : Nat) : Int), by show V.int (((M : Nat) : Int) + (W : Nat)) = _; rw [show ((M : Nat) : Int) + (W : Nat) = ((M + W : Nat) : Int) by omega], D, _, rfl, .inl (.inl hF4), fun x nx => ?_⟩
            rw [cut_mid M (M + W) (by rw [lF]; omega) (by rw [lF]; omega), figV_mid (by omega)]
            refine ⟨small4 2, fun t' nt => ?_⟩
            have S8 := same_new (o := .lst (((List.range W).map fun j => figAt hs as (M + j)).map V.int)) nx
            have S9 := same_new (o := .tup [.ref u, .ref x]) nt
            exact k _ t' u x _ _ (S6.trans (S7.trans (S8.trans S9))) upd_same (S9 _ _ (S8 _ _ hu)) (S9 _ _ upd_same) (S6.free nu) ((S6.trans S7).free nx) (short_least la W1 (by omega) W3 (fun m h1 h2 => W4 m h1 h2) (by omega) M3 (fun m h2 => M4 m (Nat.zero_le _) h2))
end
end K14.T3
namespace K14.T3
open T27
open K14.Gn
open PySem PySem.W PySem.Calls PyProof.Rows L2 LamX
open He (ga)
open Kz (SS ExtS ExtS.trans ExtS.refl small4 same_new boot_in boot_li boot_isi Has pe_has noE PSs.of_eq seqI new_ext X1)
abbrev sLf : Stmt := topS 58
abbrev NLf : List Str := ["text", "stage", "since", "at", "sign"]
theorem scLf : FnScope NLf ["text"] (defScope sLf) := ⟨rfl, rfl, rfl, by decide +kernel, rfl, by decide +kernel, by decide +kernel⟩
theorem bdLf : defBody sLf = [stOf sLf 0, stOf sLf 1, stOf sLf 2] := by rfl
def fbF (i : Nat) : Stmt := (forBody (stOf sLf 1)).getD i (.Pass ⟨0, 0, 0, 0⟩)
theorem bdFF : forBody (stOf sLf 1) = [fbF 0, fbF 1] := by rfl
/-- the law's stage beside the program's -/
def RelS (st : Nat) (stg snc : Int) : Prop := (st = 0 ∧ stg = 0 ∧ 0 ≤ snc) ∨ (st = 1 ∧ stg = 1 ∧ snc = 0) ∨ (st = 2 ∧ stg = 1 ∧ 1 ≤ snc) ∨ (st = 3 ∧ stg = 2 ∧ 0 ≤ snc)
theorem str1 {c n : Nat} : V.str ⟨#[c]⟩ = V.str ⟨#[n]⟩ → c = n := fun z => by
  injection z with z
  injection z with z
  simpa using z
section
variable {P : Program} {w : World} {K : Frag} {mg : Str → Option Value} {base : Heap}
def spLf : Sp := fun vs H Q _ => ∃ x : Str, vs = [.str x] ∧ x.length ≤ 100000 ∧ ∀ H', L2.Same H H' → Q (oV (flt (TL.tl x) 0 0)) H'
theorem ok_lf {f : Addr} {fd : FuncData} (F : FunD K "_law_endless_fault" "_law_endless_fault" (defArgs sLf) (defBody sLf) (defScope sLf) [] [] f fd) (mn : mg "len" = none) (me : mg "enumerate" = none) : FnOk P w K mg base CX0 1 f fd ["text"] spLf := by
  refine F.ok scLf (fun vs H Q E h => ?_) (fun cdv A outer s H vs Q XE hr h => ?_)
  · obtain ⟨x, rfl, _⟩ := h
    rfl
  · obtain ⟨x, rfl, lx, k⟩ := h
    have h0 : PS (cxOf CX0 P w K mg base NLf "_law_endless_fault" (defScope sLf) f cdv A outer s H XE).nox (stOf sLf 0) _ := ps_asg (pe_tup (pa_cons pe_int (pa_cons pe_int pa_nil))) (pg_tup (n := 2) rfl (pgs_cons (pg_name (i := 1) scLf.nd rfl (.inl rfl)) (pgs_cons (pg_name (i := 2) scLf.nd rfl (.inl rfl)) pgs_nil)))
    have b0 : PS (cxOf CX0 P w K mg base NLf "_law_endless_fault" (defScope sLf) f cdv A outer s H XE).nox (fbF 0) _ := ps_set (i := 2) scLf.nd rfl (.inl rfl) (pe_op op_add (pv 2) pe_int)
    have b1 : PS (cxOf CX0 P w K mg base NLf "_law_endless_fault" (defScope sLf) f cdv A outer s H XE).nox (fbF 1) _ := ps_if (pw_and (pt_cmpR op_eq (pv 1) pe_int (nomark _)) (pw_and1 (pt_cmpR op_eq (pv 4) pe_str (nomark _)))).pt
      (pss_one (ps_asg (pe_tup (pa_cons pe_int (pa_cons pe_int pa_nil))) (pg_tup (n := 2) rfl (pgs_cons (pg_name (i := 1) scLf.nd rfl (.inl rfl)) (pgs_cons (pg_name (i := 2) scLf.nd rfl (.inl rfl)) pgs_nil)))))
      (pss_one (ps_if (pw_and (pt_cmpR op_eq (pv 1) pe_int (nomark _)) (pw_and (pt_cmpR op_eq (pv 4) pe_str (nomark _)) (pw_and1 (pt_cmpR op_gt (pv 2) pe_int (nomark _))))).pt
        (pss_one (ps_set (i := 1) scLf.nd rfl (.inl rfl) pe_int))
        (pss_one (ps_if (PW.pt (pw_or (pt_cmpR op_eq (pv 1) pe_int (nomark _)) (pw_or1 (pt_cmpR op_notIn_seq (pv 4) (pe_tup (pa_cons pe_str (pa_cons pe_str pa_nil))) (by rfl))))) (pss_one (ps_ret (pv 3))) pss_nil))))
    have h1 : PS (cxOf CX0 P w K mg base NLf "_law_endless_fault" (defScope sLf) f cdv A outer s H XE).nox (stOf sLf 1) _ := ps_for PassesOwn.never rfl (EnS.pi_enS (by rfl) me (pa_cons (pv 0) pa_nil)) (pg_tup (n := 2) rfl (pgs_cons (pg_name (i := 3) scLf.nd rfl (.inl rfl)) (pgs_cons (pg_name (i := 4) scLf.nd rfl (.inl rfl)) pgs_nil))) (PSs.of_eq bdFF (pss_cons b0 (pss_one b1)))
    have h2 : PS (cxOf CX0 P w K mg base NLf "_law_endless_fault" (defScope sLf) f cdv A outer s H XE).nox (stOf sLf 2) _ := ps_ret (pe_ifExp (pt_cmpR op_eq (pv 1) pe_int (nomark _)) pe_non (pe_callB call_len_str (by rfl) mn boot_len (pa_cons (pv 0) pa_nil)))
    refine ⟨_, PSs.nox (PSs.of_eq bdLf (pss_cons h0 (pss_cons h1 (pss_one h2)))), ?_⟩
    clear h0 h1 h2 b0 b1
    obtain ⟨g0, g1, g2, g3⟩ := sg
    refine ⟨small4 2, fun p0 np0 => ⟨p0, _, rfl, .inl (.inl upd_same), rfl, _, _, rfl, _, _, rfl, rfl, ?_⟩⟩
    refine nx_intro ?_
    refine for_enT (K := K) (x := x) (i1 := 3) (i2 := 4) (fun R h => ⟨.str x, rfl, h⟩) (fun j σ G => ∃ (stg snc : Int) (a3 a4 : Option V) (st : Nat), σ = [some (.str x), some (.int stg), some (.int snc), a3, a4] ∧ RelS st stg snc ∧ L2.Same H G ∧ flt (TL.tl x) 0 0 = flt ((TL.tl x).drop j) st j) ⟨0, 0, none, none, 0, rfl, .inl ⟨rfl, rfl, by decide⟩, same_new np0, rfl⟩ (fun j c σ' G hc e G' s' => ?_) (fun σ' G e => ?_)
    · obtain ⟨stg, snc, a3, a4, st, rfl, rel, S, ef⟩ := e
      rw [drop_at hc] at ef
      have ef' : flt (c :: (TL.tl x).drop (j + 1)) st j = match nxS st c with | some st' => flt ((TL.tl x).drop (j + 1)) st' (j + 1) | none => some j := rfl
      have S2 := S.trans s'
      have go : ∀ {G2 : Hp} {stg' snc' : Int} {st' : Nat}, L2.Same H G2 → nxS st c = some st' → RelS st' stg' snc' → ∃ (stg snc : Int) (a3 a4 : Option V) (st : Nat), [some (V.str x), some (.int stg'), some (.int snc'), some (.int (j : Nat)), some (.str ⟨#[c]⟩)] = [some (V.str x), some (.int stg), some (.int snc), a3, a4] ∧ RelS st stg snc ∧ L2.Same H G2 ∧ flt (TL.tl x) 0 0 = flt ((TL.tl x).drop (j + 1)) st (j + 1) := fun S3 e r => ⟨_, _, _, _, _, rfl, r, S3, by rw [ef, ef', e]⟩
      refine ⟨.int snc, rfl, snc, 1, rfl, rfl, ?_⟩
      refine gset (nx_intro (if_intro (and_split (fun G2 => L2.Same H G2 ∧ ¬ (stg = 0 ∧ c = 40)) (fun G2 B => ?_) (fun els => ?_))))
      rotate_left
      · refine ⟨.int stg, rfl, rfl, _, rfl, ite2 (fun q1 => ?_) (fun q1 => ?_)⟩
        · have z1 : stg = 0 := V.int.inj (of_decide_eq_true q1)
          refine ⟨_, rfl, rfl, _, rfl, ite2 (fun q2 => ?_) (fun q2 => ?_)⟩
          · have q2 := of_decide_eq_true q2
            rw [g2] at q2
            have z2 := str1 q2
            refine ⟨small4 2, fun p1 np1 => ⟨p1, _, rfl, .inl (.inl upd_same), rfl, _, _, rfl, _, _, rfl, rfl, ?_⟩⟩
            have s0 : st = 0 := by rcases rel with r | r | r | r <;> omega
            subst s0 z2
            exact go (stg' := 1) (snc' := 0) (S2.trans (same_new np1)) rfl (.inr (.inl ⟨rfl, rfl, rfl⟩))
          · refine els _ ⟨S2, fun z => q2 (decide_eq_true ?_)⟩
            rw [z.2, g2]
        · exact iteF (els _ ⟨S2, fun z => q1 (decide_eq_true (by rw [z.1]))⟩)
      · obtain ⟨S3, nA⟩ := B
        refine if_intro (and_split (fun G2 => L2.Same H G2 ∧ ¬ (stg = 1 ∧ c = 41 ∧ 1 ≤ snc)) (fun G2 B => ?_) (fun els => ?_))
        rotate_left
        · refine ⟨.int stg, rfl, rfl, _, rfl, ite2 (fun q1 => ?_) (fun q1 => ?_)⟩
          · have z1 : stg = 1 := V.int.inj (of_decide_eq_true q1)
            refine ⟨_, rfl, rfl, _, rfl, ite2 (fun q2 => ?_) (fun q2 => ?_)⟩
            · have q2 := of_decide_eq_true q2
              rw [g3] at q2
              have z2 := str1 q2
              refine ⟨_, rfl, _, _, rfl, rfl, _, rfl, ite2 (fun q3 => ?_) (fun q3 => ?_)⟩
              · have z3 := of_decide_eq_true q3
                have s0 : st = 2 := by rcases rel with r | r | r | r <;> omega
                subst s0 z2
                exact go (stg' := 2) (snc' := snc + 1) S3 rfl (.inr (.inr (.inr ⟨rfl, rfl, by omega⟩)))
              · refine els _ ⟨S3, fun z => q3 (decide_eq_true ?_)⟩
                omega
            · refine iteF (els _ ⟨S3, fun z => q2 (decide_eq_true ?_)⟩)
              rw [z.2.1, g3]
          · exact iteF (els _ ⟨S3, fun z => q1 (decide_eq_true (by rw [z.1]))⟩)
        · obtain ⟨S4, nB⟩ := B
          have back : ∀ {G4 : Hp}, L2.Same H G4 → nxS st c = none → Q (.int (j : Nat)) G4 := fun S5 e => by
            have kk := k _ S5
            rw [ef, ef', e] at kk
            exact kk
          refine if_intro ?_
          refine ⟨.int stg, rfl, rfl, _, rfl, ite2 (fun q1 => ?_) (fun q1 => ?_)⟩
          · have z1 : stg = 2 := V.int.inj (of_decide_eq_true q1)
            have s0 : st = 3 := by rcases rel with r | r | r | r <;> omega
            refine iteT ⟨_, rfl, back S4 ?_⟩
            rw [s0]
            rfl
          · have n2 : stg ≠ 2 := fun z => q1 (decide_eq_true (by rw [z]))
            refine ⟨_, rfl, small4 2, fun p np => ⟨p, _, rfl, .inr (.inl (.inl upd_same)), rfl, rfl, _, rfl, ?_⟩⟩
            have S5 := S4.trans (same_new (o := .tup [.str "0", .str "1"]) np)
            have em : ([V.str "0", V.str "1"].any fun y => eqV y (.str ⟨#[c]⟩)) = (decide (c = 48) || decide (c = 49)) := by
              rw [g0, g1]
              show (eqV (.str ⟨#[48]⟩) (.str ⟨#[c]⟩) || (eqV (.str ⟨#[49]⟩) (.str ⟨#[c]⟩) || false)) = _
              have e : ∀ n : Nat, eqV (.str ⟨#[n]⟩) (.str ⟨#[c]⟩) = decide (c = n) := fun n => by
                show ((⟨#[n]⟩ : Str) == ⟨#[c]⟩) = _
                by_cases h : c = n
                · rw [h, decide_eq_true rfl]
                  simp
                · rw [decide_eq_false h]
                  refine beq_eq_false_iff_ne.mpr fun z => h ?_
                  injection z with z
                  have : n = c := by simpa using z
                  exact this.symm
              rw [e, e, Bool.or_false]
            have em' : (if true = true then !inV (V.str ⟨#[c]⟩) [V.str "0", V.str "1"] else inV (V.str ⟨#[c]⟩) [V.str "0", V.str "1"]) = !(decide (c = 48) || decide (c = 49)) := by
              rw [if_pos rfl, ← em]
              rfl
            rw [em']
            by_cases h8 : c = 48 ∨ c = 49
            · have e8 : (decide (c = 48) || decide (c = 49)) = true := by
                rcases h8 with h | h
                · rw [decide_eq_true h]; rfl
                · rw [decide_eq_true h, Bool.or_true]
              rw [e8]
              refine iteF ?_
              rcases rel with r | r | r | r
              · obtain ⟨r1, r2, r3⟩ := r
                subst r1
                refine go (stg' := stg) (snc' := snc + 1) S5 ?_ (.inl ⟨rfl, r2, by omega⟩)
                show (if c = 48 ∨ c = 49 then some 0 else _) = _
                rw [if_pos h8]
              · obtain ⟨r1, r2, r3⟩ := r
                subst r1
                refine go (stg' := stg) (snc' := snc + 1) S5 ?_ (.inr (.inr (.inl ⟨rfl, r2, by omega⟩)))
                show (if c = 48 ∨ c = 49 then some 2 else _) = _
                rw [if_pos h8]
              · obtain ⟨r1, r2, r3⟩ := r
                subst r1
                refine go (stg' := stg) (snc' := snc + 1) S5 ?_ (.inr (.inr (.inl ⟨rfl, r2, by omega⟩)))
                show (if c = 48 ∨ c = 49 then some 2 else _) = _
                rw [if_pos h8]
              · exact absurd r.2.1 n2
            · have e8 : (decide (c = 48) || decide (c = 49)) = false := by
                rw [decide_eq_false fun z => h8 (.inl z), decide_eq_false fun z => h8 (.inr z)]
                rfl
              rw [e8]
              refine iteT ⟨_, rfl, back S5 ?_⟩
              rcases rel with r | r | r | r
              · rw [r.1]
                show (if c = 48 ∨ c = 49 then some 0 else if c = 40 then some 1 else none) = _
                rw [if_neg h8, if_neg fun z => nA ⟨r.2.1, z⟩]
              · rw [r.1]
                show (if c = 48 ∨ c = 49 then some 2 else none) = _
                rw [if_neg h8]
              · rw [r.1]
                show (if c = 48 ∨ c = 49 then some 2 else if c = 41 then some 3 else none) = _
                rw [if_neg h8, if_neg fun z => nB ⟨r.2.1, z, r.2.2⟩]
              · exact absurd r.2.1 n2
    · obtain ⟨stg, snc, a3, a4, st, rfl, rel, S, ef⟩ := e
      rw [List.drop_length] at ef
      have e2 : flt [] st (TL.tl x).length = if st = 3 then none else some (TL.tl x).length := rfl
      have kk := k G S
      rw [ef, e2] at kk
      refine ⟨_, rfl, rfl, _, rfl, ite2 (fun q1 => ?_) (fun q1 => ?_)⟩
      · have z1 : stg = 2 := V.int.inj (of_decide_eq_true q1)
        rw [if_pos (by rcases rel with r | r | r | r <;> omega)] at kk
        exact kk
      · rw [if_neg (fun z => q1 (decide_eq_true (by rcases rel with r | r | r | r <;> first | omega | rw [r.2.1]))) ] at kk
        refine ⟨.str x, rfl, x, rfl, by rw [sizeLine_eq]; omega, ?_⟩
        rw [TL.len_tl]
        exact kk
end
end K14.T3
namespace K14.T3
open T27
open K14.Gn
open PySem PySem.W PySem.Calls PyProof.Rows L2 LamX
open He (ga)
open Kz (SS ExtS ExtS.trans ExtS.refl small4 same_new boot_in boot_li boot_isi Has pe_has noE PSs.of_eq seqI new_ext X1)
abbrev sBe : Stmt := topS 61
abbrev NBe : List Str := ["stream", "text", "at", "sign", "how"]
theorem scBe : FnScope NBe ["stream", "text"] (defScope sBe) := ⟨rfl, rfl, rfl, by decide +kernel, rfl, by decide +kernel, by decide +kernel⟩
theorem bdBe : defBody sBe = [stOf sBe 0, stOf sBe 1, stOf sBe 2, stOf sBe 3, stOf sBe 4] := by rfl
def bentS : List Str := ["0", "1", "(", ")", "2", " ", "x", "-", "()"]
theorem bentS_len : ∀ s ∈ bentS, s.length ≤ 2 := by
  have : bentS.all (fun s => decide (s.length ≤ 2)) = true := by decide +kernel
  exact fun s hs => of_decide_eq_true (List.all_eq_true.mp this s hs)
section
variable {P : Program} {w : World} {K : Frag} {mg : Str → Option Value} {base : Heap}
def spBe : Sp := fun vs H Q _ => ∃ (l li : Addr) (c : Int) (x : Str), vs = [.ref l, .str x] ∧ Spr H l li c ∧ c < 800000000 ∧ x.length ≤ 10000 ∧ ∀ (H' : Hp) (y : Str), ExtS l li H H' → Spr H' l li (c + 3) → y.length ≤ 2 * x.length + 2 → Q (.str y) H'
theorem ok_be {f : Addr} {fd : FuncData} (F : FunD K "_law_bent_text" "_law_bent_text" (defArgs sBe) (defBody sBe) (defScope sBe) [] [] f fd) (D : Has P w K mg base "_law_draw" 1 ["stream", "many"] spDrW) (PK : Has P w K mg base "_law_pick" 2 ["stream", "some"] spPk) (mn : mg "len" = none) (mi : mg "int" = none) : FnOk P w K mg base CX0 3 f fd ["stream", "text"] spBe := by
  refine F.ok scBe (fun vs H Q E h => ?_) (fun cdv A outer s H vs Q XE hr h => ?_)
  · obtain ⟨l, li, c, x, rfl, _⟩ := h
    rfl
  · obtain ⟨l, li, c, x, rfl, hs, hc, lx, k⟩ := h
    have h0 : PS (cxOf CX0 P w K mg base NBe "_law_bent_text" (defScope sBe) f cdv A outer s H XE).nox (stOf sBe 0) _ := ps_set (i := 2) scBe.nd rfl (.inl rfl) (pe_has D (hr.mono (by decide)) (by rfl) (pa_cons (pv 0) (pa_cons (pe_op op_add (pe_callB call_len_str (by rfl) mn boot_len (pa_cons (pv 1) pa_nil)) pe_int) pa_nil)))
    have h1 : PS (cxOf CX0 P w K mg base NBe "_law_bent_text" (defScope sBe) f cdv A outer s H XE).nox (stOf sBe 1) _ := ps_set (i := 3) scBe.nd rfl (.inl rfl) (pe_has PK hr (by rfl) (pa_cons (pv 0) (pa_cons (pe_lst (pa_cons pe_str (pa_cons pe_str (pa_cons pe_str (pa_cons pe_str (pa_cons pe_str (pa_cons pe_str (pa_cons pe_str (pa_cons pe_str (pa_cons pe_str pa_nil)))))))))) pa_nil)))
    have h2 : PS (cxOf CX0 P w K mg base NBe "_law_bent_text" (defScope sBe) f cdv A outer s H XE).nox (stOf sBe 2) _ := ps_set (i := 4) scBe.nd rfl (.inl rfl) (pe_has D (hr.mono (by decide)) (by rfl) (pa_cons (pv 0) (pa_cons pe_int pa_nil)))
    have h3 : PS (cxOf CX0 P w K mg base NBe "_law_bent_text" (defScope sBe) f cdv A outer s H XE).nox (stOf sBe 3) _ := ps_if (pt_cmpR op_eq (pv 4) pe_int (nomark _)) (pss_one (ps_ret (pe_slice sl_str (pv 1) po_none (po_some (pv 2))))) pss_nil
    have h4 : PS (cxOf CX0 P w K mg base NBe "_law_bent_text" (defScope sBe) f cdv A outer s H XE).nox (stOf sBe 4) _ := ps_ret (pe_op op_add_str (pe_op op_add_str (pe_slice sl_str (pv 1) po_none (po_some (pv 2))) (pe_ifExp (pt_cmpR op_lt (pv 4) pe_int (nomark _)) (pv 3) pe_str)) (pe_slice sl_str (pv 1) (po_some (pe_op op_add (pv 2) (pe_callTy call_int1 (by rfl) mi boot_in (pa_cons (pe_cmpR op_gt (pv 4) pe_int (nomark _)) pa_nil)))) po_none))
    refine ⟨_, PSs.nox (PSs.of_eq bdBe (pss_cons h0 (pss_cons h1 (pss_cons h2 (pss_cons h3 (pss_one h4)))))), ?_⟩
    clear h0 h1 h2 h3 h4
    have sz : x.length ≤ sizeLine := by rw [sizeLine_eq]; omega
    refine ⟨.ref l, rfl, .str x, rfl, x, rfl, sz, _, 1, rfl, rfl, l, li, c, _, rfl, hs, by omega, by omega, by omega, fun H1 at_ e1 s1 a0 a1 => ?_⟩
    refine gset (nx_intro ?_)
    refine ⟨.ref l, rfl, small4 9, fun p np => ?_⟩
    have n1 := s1.new np
    have S := same_new (o := .lst [.str "0", .str "1", .str "(", .str ")", .str "2", .str " ", .str "x", .str "-", .str "()"]) np
    refine ⟨l, li, p, c + 1, bentS.map V.str, rfl, s1.same S, upd_same, n1.1, n1.2, by decide, by decide, by omega, fun H2 y e2 s2 my => ?_⟩
    obtain ⟨sg, hsg, rfl⟩ := List.mem_map.mp my
    have lsg := bentS_len sg hsg
    refine gset (nx_intro ?_)
    refine ⟨.ref l, rfl, l, li, c + 1 + 1, 4, rfl, s2, by decide, by decide, by omega, fun H3 how e3 s3 w0 w1 => ?_⟩
    have ec : c + 1 + 1 + 1 = c + 3 := by omega
    rw [ec] at s3
    have E3 := e1.trans ((same_S S).trans (e2.trans e3))
    refine gset (nx_intro (ifS_intro ?_))
    refine ⟨.int how, rfl, rfl, _, rfl, ite2 (fun _ => ?_) (fun _ => ?_)⟩
    · refine ⟨_, rfl, _, rfl, _, rfl, x, rfl, sz, k H3 _ E3 s3 ?_⟩
      have := cutS_length x none (some at_)
      omega
    · have c1 := cutS_length x none (some at_)
      have c0 : ("" : Str).length = 0 := by decide +kernel
      refine ⟨.str x, rfl, .int at_, rfl, at_, rfl, x, rfl, sz, ?_⟩
      refine ⟨.int how, rfl, how, 3, rfl, rfl, _, rfl, ite2 (fun _ => ⟨.str sg, rfl, ?_⟩) (fun _ => ?_)⟩
      · refine ⟨_, _, rfl, rfl, by rw [sizeLine_eq]; omega, .str x, rfl, .int at_, rfl, .int how, rfl, how, 1, rfl, rfl, .inr ⟨_, rfl, at_, _, rfl, rfl, _, rfl, x, rfl, sz, ?_⟩⟩
        have c2 := cutS_length x (some (at_ + (if decide ((1 : Int) < how) = true then 1 else 0))) none
        refine ⟨_, _, rfl, rfl, by rw [app_len, sizeLine_eq]; omega, k H3 _ E3 s3 ?_⟩
        rw [app_len, app_len]
        omega
      · refine ⟨_, _, rfl, rfl, by rw [sizeLine_eq]; omega, .str x, rfl, .int at_, rfl, .int how, rfl, how, 1, rfl, rfl, .inr ⟨_, rfl, at_, _, rfl, rfl, _, rfl, x, rfl, sz, ?_⟩⟩
        have c2 := cutS_length x (some (at_ + (if decide ((1 : Int) < how) = true then 1 else 0))) none
        refine ⟨_, _, rfl, rfl, by rw [app_len, sizeLine_eq]; omega, k H3 _ E3 s3 ?_⟩
        rw [app_len, app_len]
        omega
end
end K14.T3
namespace K14.T3
open T27
open K14.Gn
open PySem PySem.W PySem.Calls PyProof.Rows L2 LamX
open He (ga)
open Kz (boot_isi same_new small4 new_ext boot_li boot_in Has pe_has noE X1)
abbrev sAk : Stmt := topS 59
abbrev NAk : List Str := ["ask", "e"]
theorem scAk : FnScope NAk ["ask"] (defScope sAk) := ⟨rfl, rfl, rfl, by decide +kernel, rfl, by decide +kernel, by decide +kernel⟩
/-- the errors, the words that the law has for them, the fields it tells -/
def asks : List (Str × Str × Str) := [("BadEndless", "endless", "thing"), ("BadIndex", "index", "thing"), ("BadEnds", "ends", "index"), ("BadText", "text", "index")]
/-- what the law's try does with an error -/
def Ea (K : Frag) (Q : VK) : XK := fun cls d H' => ∃ p ∈ asks, cls = .ref (ga K p.1) ∧ ∃ (dx : Addr) (v : V), d = some dx ∧ H' dx = some (.xd [(p.2.2, v)]) ∧ ∀ (H'' : Hp) (t : Addr), L2.Same H' H'' → H'' t = some (.tup [.str p.2.1, v]) → Q (.ref t) H''
structure AkK (P : Program) (K : Frag) (mg : Str → Option Value) : Prop where
  er : ∀ p ∈ asks, mg p.1 = some (.ref (ga K p.1)) ∧ X1 P K (ga K p.1) p.2.2
  ex : ∀ p ∈ asks, ∀ q ∈ asks, exmOne K (.ref (ga K p.1)) (.ref (ga K q.1)) = some (decide (p.1 = q.1))
/-- asked: told, or refused -/
def tlA (K : Frag) : (XK → Hp → VK → Prop) → Hp → VK → Prop := fun tl H Q => tl (Ea K Q) H fun v H1 => 2 ≤ sizeLine ∧ ∀ p, H1 p = none → Q (.ref p) (upd H1 p (.tup [.str "told", v]))
section
variable {X : Cx} {g : Addr} {cdg : Value} {q : Str}
theorem ak_gives (R : AkK X.prog X.K X.mg) : GivesTo X NAk "_law_asked" (defScope sAk) g cdg (defBody sAk) "ask" q (tlA X.K) := by
  intro f c' s H Q tl act hc h
  have cl : ∀ p ∈ asks, ∀ {b0 : Stmt} {q1 q2 q3 q4 q5 : Pos} {j k : Nat}, b0 = .Return (some (.Tuple [.Constant (.str p.2.1) j q1, .Attribute (.Name "e" q2) p.2.2 q3] k q4)) q5 →
      Clause (cxOf C8.CX0 X.prog X.w X.K X.mg X.base NAk "_law_asked" (defScope sAk) g cdg X.A X.stack s H C8.E0).nox p.1 "e" (.ref (ga X.K p.1)) 1 b0 [] (fun a cls d => tRet (tTup (tCons (fun σ H Q => Q (.str p.2.1) H) (tCons (tXf a cls d (ga X.K p.1) p.2.2 (tVar 1)) tNil)))) := fun p hp b0 q1 q2 q3 q4 q5 j k e => by
    subst e
    have glo : ∀ p ∈ asks, Gl (cxOf C8.CX0 X.prog X.w X.K X.mg X.base NAk "_law_asked" (defScope sAk) g cdg X.A X.stack s H C8.E0).nox p.1 ∧ (p.1 == ("__debug__" : Str)) = false := fun p hp => by
      simp only [asks, List.mem_cons, List.not_mem_nil, or_false] at hp
      rcases hp with rfl | rfl | rfl | rfl <;> exact ⟨rfl, by decide⟩
    refine ⟨rfl, rfl, ⟨(glo p hp).1, (glo p hp).2, .inl (R.er p hp).1⟩, fun a oe cls d pn hz hf => ?_⟩
    exact pss_one (ps_ret (pe_tup (pa_cons pe_str (pa_cons (pe_xf (x1_xf (R.er p hp).2) (R.er p hp).2.no hz hf (pv 1)) pa_nil))))
  have m0 : (("BadEndless", "endless", "thing") : Str × Str × Str) ∈ asks := by simp [asks]
  have m1 : (("BadIndex", "index", "thing") : Str × Str × Str) ∈ asks := by simp [asks]
  have m2 : (("BadEnds", "ends", "index") : Str × Str × Str) ∈ asks := by simp [asks]
  have m3 : (("BadText", "text", "index") : Str × Str × Str) ∈ asks := by simp [asks]
  refine ⟨_, pss_one (ps_try_each (X := (cxOf C8.CX0 X.prog X.w X.K X.mg X.base NAk "_law_asked" (defScope sAk) g cdg X.A X.stack s H C8.E0).nox)
    (tb := fun W D σ H => ∃ Ech : XK, (∀ cls d σ' H', Ech cls d H' → W cls d σ' H') ∧ σ[0]? = some (some (.ref f)) ∧ H c' = some (CodeO c' q) ∧ tl Ech H fun v H1 => 2 ≤ sizeLine ∧ ∀ p, H1 p = none → D.rt (.ref p) (upd H1 p (.tup [.str "told", v])))
    rfl rfl scAk.nd takes0 (fun W pn xe tk _ => ⟨fun pins s' σ H' D I h' => ?_⟩) (.cons (cl _ m0 rfl) (.cons (cl _ m1 rfl) (.cons (cl _ m2 rfl) (.cons (cl _ m3 rfl) .nil))))), ?_⟩
  · obtain ⟨Ech, hW, h1, h2, h3⟩ := h'
    exact (pss_one (ps_ret (pe_tup (pa_cons pe_str (pa_cons (act W pn xe Ech _ _ tk hW) pa_nil))))).run pins s' σ H' D I ⟨h1, h2, h3⟩
  · refine ⟨Ea X.K Q, fun cls d σ' H' ⟨p, hp, ec, dx, v, ed, hx, k⟩ => ?_, rfl, hc, ?_⟩
    · subst ec
      subst ed
      have fin : ∀ (a : Addr), σ'.length = 2 → tRet (tTup (tCons (fun σ H Q => Q (.str p.2.1) H) (tCons (tXf a (.ref (ga X.K p.1)) (some dx) (ga X.K p.1) p.2.2 (tVar 1)) tNil))) (endsOf { nx := fun _ H' => Q .non H', rt := Q } 1) (σ'.set 1 (some (.ref a))) H' := fun a l => by
        obtain ⟨x0, x1, rfl⟩ : ∃ x0 x1, σ' = [x0, x1] := by
          match σ', l with
          | [x0, x1], _ => exact ⟨x0, x1, rfl⟩
        exact ⟨.ref a, rfl, rfl, rfl, dx, _, v, rfl, hx, by simp [List.lookup], small4 2, fun t nt => k _ t (same_new nt) upd_same⟩
      have ex := R.ex p hp
      simp only [asks, List.mem_cons, List.not_mem_nil, or_false] at hp
      rcases hp with rfl | rfl | rfl | rfl
      · exact ⟨true, ex _ m0, fun _ a _ l => fin a l, fun z => nomatch z⟩
      · exact ⟨false, ex _ m0, (fun z => nomatch z), fun _ => ⟨true, ex _ m1, fun _ a _ l => fin a l, fun z => nomatch z⟩⟩
      · exact ⟨false, ex _ m0, (fun z => nomatch z), fun _ => ⟨false, ex _ m1, (fun z => nomatch z), fun _ => ⟨true, ex _ m2, fun _ a _ l => fin a l, fun z => nomatch z⟩⟩⟩
      · exact ⟨false, ex _ m0, (fun z => nomatch z), fun _ => ⟨false, ex _ m1, (fun z => nomatch z), fun _ => ⟨false, ex _ m2, (fun z => nomatch z), fun _ => ⟨true, ex _ m3, fun _ a _ l => fin a l, fun z => nomatch z⟩⟩⟩⟩
    · exact h
end
end K14.T3
namespace K14.T3
open T27
open K14.Gn
open PySem
/-! ### what has no fault is the text of a pair -/
theorem fg_back {c : Nat} (h : c = 48 ∨ c = 49) : ∃ n : Int, (n = 0 ∨ n = 1) ∧ fg n = c := by
  rcases h with rfl | rfl
  · exact ⟨0, .inl rfl, rfl⟩
  · exact ⟨1, .inr rfl, rfl⟩
theorem flt_cons (c : Nat) (r : List Nat) (st k : Nat) : flt (c :: r) st k = match nxS st c with | some st' => flt r st' (k + 1) | none => some k := rfl
theorem flt0 : ∀ {l : List Nat} {k : Nat}, flt l 0 k = none → ∃ (hs : List Int) (r : List Nat) (k' : Nat), figsB hs ∧ l = hs.map fg ++ 40 :: r ∧ flt r 1 k' = none
  | [], k, h => by
    have h : (if (0 : Nat) = 3 then none else some k) = none := h
    rw [if_neg (by decide)] at h
    cases h
  | c :: l, k, h => by
    rw [flt_cons] at h
    by_cases h0 : c = 48 ∨ c = 49
    · have e : nxS 0 c = some 0 := by
        show (if c = 48 ∨ c = 49 then some 0 else _) = _
        rw [if_pos h0]
      rw [e] at h
      obtain ⟨hs, r, k', f, rfl, q⟩ := flt0 h
      obtain ⟨n, hn, rfl⟩ := fg_back h0
      exact ⟨n :: hs, r, k', fun m hm => (List.mem_cons.mp hm).elim (fun z => by rw [z]; exact hn) (f m), rfl, q⟩
    · by_cases h1 : c = 40
      · have e : nxS 0 c = some 1 := by
          show (if c = 48 ∨ c = 49 then some 0 else if c = 40 then some 1 else none) = _
          rw [if_neg h0, if_pos h1]
        rw [e] at h
        exact ⟨[], l, _, (fun m hm => nomatch hm), by rw [h1]; rfl, h⟩
      · have e : nxS 0 c = none := by
          show (if c = 48 ∨ c = 49 then some 0 else if c = 40 then some 1 else none) = _
          rw [if_neg h0, if_neg h1]
        rw [e] at h
        cases h
theorem flt3 : ∀ {l : List Nat} {k : Nat}, flt l 3 k = none → l = []
  | [], _, _ => rfl
  | c :: l, k, h => by
    rw [flt_cons] at h
    cases h
theorem flt2 : ∀ {l : List Nat} {k : Nat}, flt l 2 k = none → ∃ as : List Int, figsB as ∧ l = as.map fg ++ [41]
  | [], k, h => by
    have h : (if (2 : Nat) = 3 then none else some k) = none := h
    rw [if_neg (by decide)] at h
    cases h
  | c :: l, k, h => by
    rw [flt_cons] at h
    by_cases h0 : c = 48 ∨ c = 49
    · have e : nxS 2 c = some 2 := by
        show (if c = 48 ∨ c = 49 then some 2 else _) = _
        rw [if_pos h0]
      rw [e] at h
      obtain ⟨as, f, rfl⟩ := flt2 h
      obtain ⟨n, hn, rfl⟩ := fg_back h0
      exact ⟨n :: as, fun m hm => (List.mem_cons.mp hm).elim (fun z => by rw [z]; exact hn) (f m), rfl⟩
    · by_cases h1 : c = 41
      · have e : nxS 2 c = some 3 := by
          show (if c = 48 ∨ c = 49 then some 2 else if c = 41 then some 3 else none) = _
          rw [if_neg h0, if_pos h1]
        rw [e] at h
        rw [flt3 h, h1]
        exact ⟨[], (fun m hm => nomatch hm), rfl⟩
      · have e : nxS 2 c = none := by
          show (if c = 48 ∨ c = 49 then some 2 else if c = 41 then some 3 else none) = _
          rw [if_neg h0, if_neg h1]
        rw [e] at h
        cases h
theorem flt1 {l : List Nat} {k : Nat} (h : flt l 1 k = none) : ∃ as : List Int, figsB as ∧ 0 < as.length ∧ l = as.map fg ++ [41] := by
  cases l with
  | nil =>
    have h : (if (1 : Nat) = 3 then none else some k) = none := h
    rw [if_neg (by decide)] at h
    cases h
  | cons c l =>
    rw [flt_cons] at h
    by_cases h0 : c = 48 ∨ c = 49
    · have e : nxS 1 c = some 2 := by
        show (if c = 48 ∨ c = 49 then some 2 else _) = _
        rw [if_pos h0]
      rw [e] at h
      obtain ⟨as, f, rfl⟩ := flt2 h
      obtain ⟨n, hn, rfl⟩ := fg_back h0
      exact ⟨n :: as, fun m hm => (List.mem_cons.mp hm).elim (fun z => by rw [z]; exact hn) (f m), by simp, rfl⟩
    · have e : nxS 1 c = none := by
        show (if c = 48 ∨ c = 49 then some 2 else none) = _
        rw [if_neg h0]
      rw [e] at h
      cases h
theorem flt_none {x : Str} (h : flt (TL.tl x) 0 0 = none) : ∃ hs as : List Int, figsB hs ∧ figsB as ∧ 0 < as.length ∧ x = endT hs as ∧ hs.length + as.length ≤ x.length := by
  obtain ⟨hs, r, k', f, e, q⟩ := flt0 h
  obtain ⟨as, fa, p, rfl⟩ := flt1 q
  refine ⟨hs, as, f, fa, p, TL.ext_tl ?_, ?_⟩
  · rw [endT_tl, e]
  · rw [TL.len_tl, e]
    simp
    omega
end K14.T3
namespace K14.T3
open T27
open K14.Gn
open PySem PySem.W PySem.Calls PyProof.Rows L2 LamX
open He (ga)
open Kz (SS ExtS ExtS.trans ExtS.refl small4 same_new boot_in boot_li boot_isi Has pe_has noE PSs.of_eq seqI new_ext X1)
abbrev sOr : Stmt := topS 60
theorem scOr : FnScope ["found"] [] (defScope sOr) := ⟨rfl, rfl, rfl, by decide +kernel, rfl, by decide +kernel, by decide +kernel⟩
theorem bdOr : defBody sOr = [stOf sOr 0, stOf sOr 1, stOf sOr 2, stOf sOr 3] := by rfl
def or0 : List PyData := [.none, .int 5, .bool true, .str "01", .str "", .list [], .tuple [], .dict [], .list [.int 0], .list [.int 1, .int 0], .tuple [.int 1], .list [.int 0, .int 2], .list [.bool true], .list [.int 0, .str "1"], .list [.list [.int 0]], .list [.int (-1)], .list [.int 0, .none]]
def or1 : List PyData := [.list [.list [], .list []], .list [.list [.int 0], .list []], .list [.list [], .list [.int 0]], .tuple [.list [.int 1], .tuple [.int 0, .int 1]], .list [.list [.int 0], .list [.int 1], .list [.int 0]], .list [.list [.int 0]], .list [.list [.int 2], .list [.int 0]], .list [.list [], .list [.int 2]]]
def or2 : PyData := .list [.int 0, .list [.int 1]]
def or3 : List PyData := [.list [.list [.bool false], .list [.int 1]], .list [.list [], .list [.bool true]], .list [.str "0", .str "1"], .list [.none, .list [.int 0]], .dict [(.str "head", .list [.int 0])], .list [.list [], .list [.int 0, .int 1, .none]], .list [.int 10]]
def orAll : List PyData := (or0 ++ or1) ++ [or2] ++ or3
section
variable {S : List Addr} {σ : L2.St} {H0 : Hp}
theorem gv_neg {i : Int} : Gv S σ H0 (tUn (rU fun i => .int (-i)) (tC (.int i))) (.int (-i)) := fun H Q s ins k => ⟨i, rfl, k H _ (fun _ _ q => q) (.int _)⟩
theorem gv_head : Gv S σ H0 (tDisp [(tC (.str "head"), tLst (tCons (tC (.int 0)) tNil))]) (.dict [(.str "head", .list [.int 0])]) := fun H Q s ins k => fun p np => ⟨small4 1, fun q nq => by
  have qp : q ≠ p := Ne.symm (ne_of_none upd_same nq)
  have n1 := ins.new np
  have n2 := (ins.same (same_new np)).new nq
  refine ⟨by rw [upd_ne qp.symm]; exact upd_same, [(.inr "head", .ref q)], rfl, Nat.le_of_ble_eq_true rfl, ?_⟩
  refine k _ _ (fun b o e => ?_) (.dct (hid_of n1 upd_same fun ps z => nomatch z) (.cons (k := .inr "head") (.lst (hid_of n2 (by rw [upd_ne qp]; exact upd_same) fun ps z => nomatch z) (.cons (.int 0) .nil)) .nil))
  rw [upd_ne (ne_of_none e np)]
  exact same_new nq _ _ (same_new np _ _ e)⟩
end
section
variable {P : Program} {w : World} {K : Frag} {mg : Str → Option Value} {base : Heap}
def spOr : Sp := fun vs H Q _ => vs = [] ∧ ∀ (H' : Hp) (p : Addr) (xs : List V), L2.Same H H' → H' p = some (.lst xs) → ThAll H' xs orAll → Q (.ref p) H'
theorem ok_or {f : Addr} {fd : FuncData} (F : FunD K "_law_odd_rows" "_law_odd_rows" (defArgs sOr) (defBody sOr) (defScope sOr) [] [] f fd) : FnOk P w K mg base CX0 1 f fd [] spOr := by
  refine F.ok scOr (fun vs H Q E h => ?_) (fun cdv A outer s H vs Q XE hr h => ?_)
  · obtain ⟨rfl, _⟩ := h
    rfl
  · obtain ⟨rfl, k⟩ := h
    have h0 : PS (cxOf CX0 P w K mg base ["found"] "_law_odd_rows" (defScope sOr) f cdv A outer s H XE).nox (stOf sOr 0) _ := ps_set (i := 0) scOr.nd rfl (.inl rfl) (pe_lst (pa_cons pe_non (pa_cons pe_int (pa_cons pe_bl (pa_cons pe_str (pa_cons pe_str (pa_cons (pe_lst pa_nil) (pa_cons (pe_tup pa_nil) (pa_cons pe_dnewK (pa_cons (pe_lst (pa_cons pe_int pa_nil)) (pa_cons (pe_lst (pa_cons pe_int (pa_cons pe_int pa_nil)))
      (pa_cons (pe_tup (pa_cons pe_int pa_nil)) (pa_cons (pe_lst (pa_cons pe_int (pa_cons pe_int pa_nil))) (pa_cons (pe_lst (pa_cons pe_bl pa_nil)) (pa_cons (pe_lst (pa_cons pe_int (pa_cons pe_str pa_nil))) (pa_cons (pe_lst (pa_cons (pe_lst (pa_cons pe_int pa_nil)) pa_nil)) (pa_cons (pe_lst (pa_cons (pe_un un_neg pe_int) pa_nil)) (pa_cons (pe_lst (pa_cons pe_int (pa_cons pe_non pa_nil))) pa_nil))))))))))))))))))
    have h1 : PS (cxOf CX0 P w K mg base ["found"] "_law_odd_rows" (defScope sOr) f cdv A outer s H XE).nox (stOf sOr 1) _ := ps_expr (pe_bm PySem.F.plainAttrs_list PySem.F.slot_list_extend PySem.F.type_list_extend mt_extend (pv 0) (pa_cons (pe_lst (pa_cons (pe_lst (pa_cons (pe_lst pa_nil) (pa_cons (pe_lst pa_nil) pa_nil))) (pa_cons (pe_lst (pa_cons (pe_lst (pa_cons pe_int pa_nil)) (pa_cons (pe_lst pa_nil) pa_nil))) (pa_cons (pe_lst (pa_cons (pe_lst pa_nil) (pa_cons (pe_lst (pa_cons pe_int pa_nil)) pa_nil)))
      (pa_cons (pe_tup (pa_cons (pe_lst (pa_cons pe_int pa_nil)) (pa_cons (pe_tup (pa_cons pe_int (pa_cons pe_int pa_nil))) pa_nil))) (pa_cons (pe_lst (pa_cons (pe_lst (pa_cons pe_int pa_nil)) (pa_cons (pe_lst (pa_cons pe_int pa_nil)) (pa_cons (pe_lst (pa_cons pe_int pa_nil)) pa_nil)))) (pa_cons (pe_lst (pa_cons (pe_lst (pa_cons pe_int pa_nil)) pa_nil)) (pa_cons (pe_lst (pa_cons (pe_lst (pa_cons pe_int pa_nil)) (pa_cons (pe_lst (pa_cons pe_int pa_nil)) pa_nil))) (pa_cons (pe_lst (pa_cons (pe_lst pa_nil) (pa_cons (pe_lst (pa_cons pe_int pa_nil)) pa_nil))) pa_nil))))))))) pa_nil))
    have h2 : PS (cxOf CX0 P w K mg base ["found"] "_law_odd_rows" (defScope sOr) f cdv A outer s H XE).nox (stOf sOr 2) _ := ps_expr (pe_bm PySem.F.plainAttrs_list PySem.F.slot_list_append PySem.F.type_list_append mt_append (pv 0) (pa_cons (pe_lst (pa_cons pe_int (pa_cons (pe_lst (pa_cons pe_int pa_nil)) pa_nil))) pa_nil))
    have h3 : PS (cxOf CX0 P w K mg base ["found"] "_law_odd_rows" (defScope sOr) f cdv A outer s H XE).nox (stOf sOr 3) _ := ps_ret (pe_op op_cat (pv 0) (pe_lst (pa_cons (pe_lst (pa_cons (pe_lst (pa_cons pe_bl pa_nil)) (pa_cons (pe_lst (pa_cons pe_int pa_nil)) pa_nil))) (pa_cons (pe_lst (pa_cons (pe_lst pa_nil) (pa_cons (pe_lst (pa_cons pe_bl pa_nil)) pa_nil))) (pa_cons (pe_lst (pa_cons pe_str (pa_cons pe_str pa_nil))) (pa_cons (pe_lst (pa_cons pe_non (pa_cons (pe_lst (pa_cons pe_int pa_nil)) pa_nil)))
      (pa_cons (pe_disp (pps_cons pe_str (pe_lst (pa_cons pe_int pa_nil)) pps_nil) rfl rfl (by simp) (by decide)) (pa_cons (pe_lst (pa_cons (pe_lst pa_nil) (pa_cons (pe_lst (pa_cons pe_int (pa_cons pe_int (pa_cons pe_non pa_nil)))) pa_nil))) (pa_cons (pe_lst (pa_cons pe_int pa_nil)) pa_nil)))))))))
    refine ⟨_, PSs.nox (PSs.of_eq bdOr (pss_cons h0 (pss_cons h1 (pss_cons h2 (pss_one h3))))), ?_⟩
    clear h0 h1 h2 h3
    have sm : ∀ {G : Hp}, L2.Same G G := fun _ _ e => e
    have no : Ins [] H := fun b hb => nomatch hb
    have e0 : GvA [] [none] H tNil [] := gva_nil
    have A0 := gva_cons (gv_non (S := []) (σ := [none]) (H0 := H)) (gva_cons (gv_int (i := 5)) (gva_cons (gv_bl (b := true)) (gva_cons (gv_str (x := "01")) (gva_cons (gv_str (x := "")) (gva_cons (gv_lst e0) (gva_cons (gv_tup e0) (gva_cons gv_dict (gva_cons (gv_lst (gva_cons (gv_int (i := 0)) e0)) (gva_cons (gv_lst (gva_cons (gv_int (i := 1)) (gva_cons (gv_int (i := 0)) e0)))
      (gva_cons (gv_tup (gva_cons (gv_int (i := 1)) e0)) (gva_cons (gv_lst (gva_cons (gv_int (i := 0)) (gva_cons (gv_int (i := 2)) e0))) (gva_cons (gv_lst (gva_cons (gv_bl (b := true)) e0)) (gva_cons (gv_lst (gva_cons (gv_int (i := 0)) (gva_cons (gv_str (x := "1")) e0))) (gva_cons (gv_lst (gva_cons (gv_lst (gva_cons (gv_int (i := 0)) e0)) e0)) (gva_cons (gv_lst (gva_cons (gv_neg (i := 1)) e0)) (gva_cons (gv_lst (gva_cons (gv_int (i := 0)) (gva_cons gv_non e0))) e0))))))))))))))))
    refine asgS (lst_in (A0 H _ sm no fun H1 xs s1 t1 => ⟨by rw [t1.length]; exact small4 17, fun fd nfd => ?_⟩))
    refine gset ?_
    clear A0 e0
    have hf := upd_same (H := H1) (a := fd) (o := .lst xs)
    have tt : ThAll (Hid [fd] (upd H1 fd (.lst xs))) xs or0 := ThAll.hid nfd (same_new nfd) (t1.ext hid_up)
    have ins : Ins [fd] (upd H1 fd (.lst xs)) := fun b hb => by
      rw [List.mem_singleton.mp hb]
      exact ⟨_, upd_same⟩
    have X0 : Exc fd H (upd H1 fd (.lst xs)) := (Exc.of s1).trans Exc.upd
    have f0 : H fd = none := s1.free nfd
    generalize upd H1 fd (.lst xs) = H2 at hf tt ins X0 ⊢
    have mf : fd ∈ [fd] := List.mem_singleton.mpr rfl
    have e1 : GvA [fd] [some (.ref fd)] H2 tNil [] := gva_nil
    have i0 : ∀ {n : Int}, Gv [fd] [some (.ref fd)] H2 (tLst (tCons (tC (.int n)) tNil)) (.list [.int n]) := gv_lst (gva_cons gv_int e1)
    have z0 : Gv [fd] [some (.ref fd)] H2 (tLst tNil) (.list []) := gv_lst e1
    have A1 := gva_cons (gv_lst (gva_cons z0 (gva_cons z0 e1))) (gva_cons (gv_lst (gva_cons (i0 (n := 0)) (gva_cons z0 e1))) (gva_cons (gv_lst (gva_cons z0 (gva_cons (i0 (n := 0)) e1))) (gva_cons (gv_tup (gva_cons (i0 (n := 1)) (gva_cons (gv_tup (gva_cons (gv_int (i := 0)) (gva_cons (gv_int (i := 1)) e1))) e1))) (gva_cons (gv_lst (gva_cons (i0 (n := 0)) (gva_cons (i0 (n := 1)) (gva_cons (i0 (n := 0)) e1))))
      (gva_cons (gv_lst (gva_cons (i0 (n := 0)) e1)) (gva_cons (gv_lst (gva_cons (i0 (n := 2)) (gva_cons (i0 (n := 0)) e1))) (gva_cons (gv_lst (gva_cons z0 (gva_cons (i0 (n := 2)) e1))) e1)))))))
    refine ext_step A1 rfl hf mf ins tt (Nat.le_of_ble_eq_true rfl) fun H3 xs3 x3 hf3 ins3 tt3 => ?_
    clear A1 e1 i0 z0
    have X3 := X0.trans x3
    have e1 : GvA [fd] [some (.ref fd)] H3 tNil [] := gva_nil
    have i0 : ∀ {n : Int}, Gv [fd] [some (.ref fd)] H3 (tLst (tCons (tC (.int n)) tNil)) (.list [.int n]) := gv_lst (gva_cons gv_int e1)
    refine ⟨.ref fd, rfl, .inl ⟨rfl, _, .inl (.inl hf3)⟩, gv_lst (gva_cons (gv_int (i := 0)) (gva_cons (i0 (n := 1)) e1)) (by simp) H3 _ sm ins3 fun H4 y s4 ty => ?_⟩
    have hf4 := s4 _ _ hf3
    refine ⟨fd, xs3, y, rfl, rfl, hf4, by rw [tt3.length, sizeLine_eq]; exact Nat.le_of_ble_eq_true rfl, ?_⟩
    have tt5 : ThAll (Hid [fd] (upd H4 fd (.lst (xs3 ++ [y])))) (xs3 ++ [y]) ((or0 ++ or1) ++ [or2]) := th_app ((tt3.ext (hid_same s4)).ext (hid_upd mf)) (.cons (ty.ext (hid_upd mf)) .nil)
    have hf5 := upd_same (H := H4) (a := fd) (o := .lst (xs3 ++ [y]))
    have ins5 : Ins [fd] (upd H4 fd (.lst (xs3 ++ [y]))) := (ins3.same s4).upd
    have X5 : Exc fd H (upd H4 fd (.lst (xs3 ++ [y]))) := X3.trans ((Exc.of s4).trans Exc.upd)
    generalize upd H4 fd (.lst (xs3 ++ [y])) = H5 at tt5 hf5 ins5 X5 ⊢
    clear e1 i0
    have e1 : GvA [fd] [some (.ref fd)] H5 tNil [] := gva_nil
    have i0 : ∀ {n : Int}, Gv [fd] [some (.ref fd)] H5 (tLst (tCons (tC (.int n)) tNil)) (.list [.int n]) := gv_lst (gva_cons gv_int e1)
    have b0 : ∀ {b : Bool}, Gv [fd] [some (.ref fd)] H5 (tLst (tCons (tC (.bl b)) tNil)) (.list [.bool b]) := gv_lst (gva_cons gv_bl e1)
    have z0 : Gv [fd] [some (.ref fd)] H5 (tLst tNil) (.list []) := gv_lst e1
    have A3 := gva_cons (gv_lst (gva_cons (b0 (b := false)) (gva_cons (i0 (n := 1)) e1))) (gva_cons (gv_lst (gva_cons z0 (gva_cons (b0 (b := true)) e1))) (gva_cons (gv_lst (gva_cons (gv_str (x := "0")) (gva_cons (gv_str (x := "1")) e1))) (gva_cons (gv_lst (gva_cons gv_non (gva_cons (i0 (n := 0)) e1))) (gva_cons gv_head (gva_cons (gv_lst (gva_cons z0 (gva_cons (gv_lst (gva_cons (gv_int (i := 0)) (gva_cons (gv_int (i := 1)) (gva_cons gv_non e1)))) e1))) (gva_cons (i0 (n := 10)) e1))))))
    refine nx_intro ?_
    refine ret_intro (op_in ?_)
    refine ⟨.ref fd, rfl, ?_⟩
    refine lst_in (A3 H5 _ sm ins5 fun H6 ys s6 t6 => ⟨by rw [t6.length]; exact small4 7, fun q nq => ?_⟩)
    have s7 := same_new (o := .lst ys) nq
    have S := s6.trans s7
    refine ⟨fd, q, xs3 ++ [y], ys, rfl, rfl, S _ _ hf5, upd_same, by rw [tt5.length, t6.length, sizeLine_eq]; exact Nat.le_of_ble_eq_true rfl, fun p np => ?_⟩
    have s8 := same_new (o := .lst ((xs3 ++ [y]) ++ ys)) np
    refine k _ p _ (fun b o eb => ?_) upd_same (th_app ((tt5.ext hid_up).ext (S.trans s8)) ((t6.ext hid_up).ext (s7.trans s8)))
    exact s8 _ _ (S _ _ (X5 b o eb (ne_of_none eb f0)))
end
end K14.T3
namespace K14.T3
open T27
open K14.Gn
open PySem PySem.W PySem.Calls PyProof.Rows L2 LamX
open He (ga)
open Kz (SS ExtS ExtS.trans ExtS.refl small4 same_new boot_in boot_li boot_isi Has pe_has noE PSs.of_eq seqI new_ext X1)
/-! ### data whose lists stand apart; _law_spoilt -/
mutual
/-- data without dicts, and the places of its lists -/
inductive Own (H : Hp) : V → PyData → List Addr → Prop
  | non : Own H .non .none []
  | bl (b : Bool) : Own H (.bl b) (.bool b) []
  | int (i : Int) : Own H (.int i) (.int i) []
  | str (x : Str) : Own H (.str x) (.str x) []
  | lst {a : Addr} {xs : List V} {ds : List PyData} {fp : List Addr} : H a = some (.lst xs) → xs.length ≤ 1000 → OwnA H xs ds fp → Own H (.ref a) (.list ds) (a :: fp)
  | tup {a : Addr} {xs : List V} {ds : List PyData} {fp : List Addr} : H a = some (.tup xs) → OwnA H xs ds fp → Own H (.ref a) (.tuple ds) fp
inductive OwnA (H : Hp) : List V → List PyData → List Addr → Prop
  | nil : OwnA H [] [] []
  | cons {v : V} {vs : List V} {d : PyData} {ds : List PyData} {f g : List Addr} : Own H v d f → OwnA H vs ds g → OwnA H (v :: vs) (d :: ds) (f ++ g)
end
mutual
theorem Own.th {H : Hp} : ∀ {v : V} {d : PyData} {f : List Addr}, Own H v d f → Th H v d
  | _, _, _, .non => .non
  | _, _, _, .bl b => .bl b
  | _, _, _, .int i => .int i
  | _, _, _, .str x => .str x
  | _, _, _, .lst h _ r => .lst h (OwnA.th r)
  | _, _, _, .tup h r => .tup h (OwnA.th r)
theorem OwnA.th {H : Hp} : ∀ {vs : List V} {ds : List PyData} {f : List Addr}, OwnA H vs ds f → ThAll H vs ds
  | _, _, _, .nil => .nil
  | _, _, _, .cons h r => .cons (Own.th h) (OwnA.th r)
end
mutual
theorem Own.keep {H G : Hp} : ∀ {v : V} {d : PyData} {f : List Addr}, Own H v d f → (∀ b ∈ f, ∀ o, H b = some o → G b = some o) → (∀ b xs, H b = some (.tup xs) → G b = some (.tup xs)) → Own G v d f
  | _, _, _, .non, _, _ => .non
  | _, _, _, .bl b, _, _ => .bl b
  | _, _, _, .int i, _, _ => .int i
  | _, _, _, .str x, _, _ => .str x
  | _, _, _, .lst h l r, e, t => .lst (e _ (List.mem_cons_self) _ h) l (OwnA.keep r (fun b hb => e b (List.mem_cons_of_mem _ hb)) t)
  | _, _, _, .tup h r, e, t => .tup (t _ _ h) (OwnA.keep r e t)
theorem OwnA.keep {H G : Hp} : ∀ {vs : List V} {ds : List PyData} {f : List Addr}, OwnA H vs ds f → (∀ b ∈ f, ∀ o, H b = some o → G b = some o) → (∀ b xs, H b = some (.tup xs) → G b = some (.tup xs)) → OwnA G vs ds f
  | _, _, _, .nil, _, _ => .nil
  | _, _, _, .cons h r, e, t => .cons (Own.keep h (fun b hb => e b (List.mem_append_left _ hb)) t) (OwnA.keep r (fun b hb => e b (List.mem_append_right _ hb)) t)
end
theorem Own.ext {H G : Hp} (e : L2.Same H G) {v : V} {d : PyData} {f : List Addr} (h : Own H v d f) : Own G v d f := h.keep (fun b _ o q => e b o q) (fun b xs q => e b _ q)
theorem OwnA.ext {H G : Hp} (e : L2.Same H G) {v : List V} {d : List PyData} {f : List Addr} (h : OwnA H v d f) : OwnA G v d f := h.keep (fun b _ o q => e b o q) (fun b xs q => e b _ q)
mutual
theorem Own.lsts {H : Hp} : ∀ {v : V} {d : PyData} {f : List Addr}, Own H v d f → ∀ b ∈ f, ∃ xs, H b = some (.lst xs)
  | _, _, _, .non, b, h => nomatch h
  | _, _, _, .bl _, b, h => nomatch h
  | _, _, _, .int _, b, h => nomatch h
  | _, _, _, .str _, b, h => nomatch h
  | _, _, _, .lst h l r, b, m => by
    rcases List.mem_cons.mp m with rfl | m
    · exact ⟨_, h⟩
    · exact OwnA.lsts r b m
  | _, _, _, .tup h r, b, m => OwnA.lsts r b m
theorem OwnA.lsts {H : Hp} : ∀ {vs : List V} {ds : List PyData} {f : List Addr}, OwnA H vs ds f → ∀ b ∈ f, ∃ xs, H b = some (.lst xs)
  | _, _, _, .nil, b, h => nomatch h
  | _, _, _, .cons h r, b, m => by
    rcases List.mem_append.mp m with m | m
    · exact Own.lsts h b m
    · exact OwnA.lsts r b m
end
theorem Own.no_dict {H : Hp} {v : V} {d : PyData} {f : List Addr} (h : Own H v d f) : isD d = false := by cases h <;> rfl
abbrev lateS : V := .str "late9"
/-- the lists at fp have got one thing more, all else stays -/
def Spl (fp : List Addr) (H G : Hp) : Prop := (∀ b o, b ∉ fp → H b = some o → G b = some o) ∧ ∀ b ∈ fp, ∀ xs, H b = some (.lst xs) → G b = some (.lst (xs ++ [lateS]))
theorem Spl.nil {H G : Hp} (e : L2.Same H G) : Spl [] H G := ⟨fun b o _ h => e b o h, fun b h => nomatch h⟩
theorem Spl.trans {f g : List Addr} {H G J : Hp} (a : Spl f H G) (b : Spl g G J) (d : ∀ x ∈ f, x ∉ g) : Spl (f ++ g) H J := by
  refine ⟨fun x o n h => ?_, fun x m xs h => ?_⟩
  · exact b.1 x o (fun z => n (List.mem_append_right _ z)) (a.1 x o (fun z => n (List.mem_append_left _ z)) h)
  · rcases List.mem_append.mp m with m | m
    · exact b.1 x _ (d x m) (a.2 x m xs h)
    · exact b.2 x m xs (a.1 x _ (fun z => d x z m) h)
theorem Spl.tup {f : List Addr} {H G : Hp} (a : Spl f H G) (l : ∀ b ∈ f, ∃ xs, H b = some (.lst xs)) (b : Addr) (xs : List V) (h : H b = some (.tup xs)) : G b = some (.tup xs) :=
  a.1 b _ (fun m => by obtain ⟨ys, e⟩ := l b m; rw [h] at e; cases e) h
theorem Spl.own {f g : List Addr} {H G : Hp} (a : Spl f H G) (l : ∀ b ∈ f, ∃ xs, H b = some (.lst xs)) (d : ∀ x ∈ f, x ∉ g) {vs : List V} {ds : List PyData} (h : OwnA H vs ds g) : OwnA G vs ds g :=
  h.keep (fun b m o e => a.1 b o (fun z => d b z m) e) (a.tup l)
abbrev sSp : Stmt := topS 49
abbrev NSp : List Str := ["thing", "key", "part"]
theorem scSp : FnScope NSp ["thing"] (defScope sSp) := ⟨rfl, rfl, rfl, by decide +kernel, rfl, by decide +kernel, by decide +kernel⟩
theorem bdSp : defBody sSp = [stOf sSp 0, stOf sSp 1, stOf sSp 2] := by rfl
section
variable {P : Program} {w : World} {K : Frag} {mg : Str → Option Value} {base : Heap}
def spSp (n : Nat) : Sp := fun vs H Q _ => ∃ (v : V) (d : PyData) (f : List Addr), vs = [v] ∧ Own H v d f ∧ fitS n d = true ∧ f.Nodup ∧ ∀ H', Spl f H H' → Q .non H'
theorem sp_len {n : Nat} {vs : List V} {H : Hp} {Q : VK} {E : XK} (h : spSp n vs H Q E) : vs.length = 1 := by
  obtain ⟨v, d, f, rfl, _⟩ := h
  rfl
theorem sp_flat (B : BtK mg) {f : Addr} {cdv : Value} {A : Around} {outer : List Env} {s : Shared} {H : Hp} {Q : VK} {XE : XK} {v : V} {d : PyData} {fp : List Addr} (hv : Own H v d fp) (l0 : isL d = false) (k : ∀ H', Spl fp H H' → Q .non H') :
    ∃ t, PSs (cxOf CX0 P w K mg base NSp "_law_spoilt" (defScope sSp) f cdv A outer s H XE) (defBody sSp) t ∧ t { nx := fun _ H' => Q .non H', rt := Q } (L2.start NSp [v]) H := by
  have e0 : fp = [] := by cases hv <;> first | rfl | exact absurd (show true = false from l0) (fun z => nomatch z)
  have l1 : isLs d = false := by cases hv <;> first | rfl | exact absurd (show true = false from l0) (fun z => nomatch z)
  subst e0
  have tv := hv.th
  refine ⟨_, PSs.nox (PSs.of_eq bdSp (pss_cons (ps_if (pt_val (pe_callB call_isi (by rfl) B.is boot_isi (pa_cons (pv 0) (pa_cons (pe_bltn (by rfl) B.di boot_di (v := .ty "dict") rfl) pa_nil)))) pss_never pss_nil)
    (pss_cons (ps_if (pt_val (pe_callB call_isiT (by rfl) B.is boot_isi (pa_cons (pv 0) (pa_cons (pe_tup (pa_cons (pe_bltn (by rfl) B.li boot_li (v := .ty "list") rfl) (pa_cons (pe_bltn (by rfl) B.tu boot_tu (v := .ty "tuple") rfl) pa_nil))) pa_nil)))) pss_never pss_nil)
    (pss_one (ps_if (pt_val (pe_callB call_isi (by rfl) B.is boot_isi (pa_cons (pv 0) (pa_cons (pe_bltn (by rfl) B.li boot_li (v := .ty "list") rfl) pa_nil)))) pss_never pss_nil))))), ?_⟩
  refine ⟨v, rfl, v, _, _, _, _, rfl, .ty _, tv.ty, is_di d, _, rfl, ?_⟩
  rw [hv.no_dict]
  refine iteF ⟨v, rfl, small4 2, fun p np => ⟨v, p, _, _, _, _, rfl, upd_same, .cons (.ty _) (.cons (.ty _) .nil), (tv.ext (same_new np)).ty, is_lt d, _, rfl, ?_⟩⟩
  rw [l0]
  refine iteF ⟨v, rfl, v, _, _, _, _, rfl, .ty _, (tv.ext (same_new np)).ty, kit_ls d, _, rfl, ?_⟩
  rw [l1]
  exact iteF (k _ (Spl.nil (same_new np)))
def spB : Stmt := match stOf sSp 1 with
  | .If _ [s] _ _ => s
  | s => s
theorem OwnA.len {H : Hp} {vs : List V} {ds : List PyData} {f : List Addr} (h : OwnA H vs ds f) : vs.length = ds.length := h.th.length
theorem OwnA.step {H : Hp} {vs : List V} {ds : List PyData} {f : List Addr} {j : Nat} {x : V} (h : OwnA H (vs.drop j) (ds.drop j) f) (e : vs[j]? = some x) (l : vs.length = ds.length) :
    ∃ z g1 g2, ds[j]? = some z ∧ f = g1 ++ g2 ∧ Own H x z g1 ∧ OwnA H (vs.drop (j + 1)) (ds.drop (j + 1)) g2 := by
  obtain ⟨hl, ex⟩ := List.getElem?_eq_some_iff.mp e
  have hl2 : j < ds.length := by omega
  rw [List.drop_eq_getElem_cons hl, List.drop_eq_getElem_cons hl2] at h
  cases h with
  | cons a b => exact ⟨_, _, _, List.getElem?_eq_getElem hl2, rfl, ex ▸ a, b⟩
/-- the loop over the parts -/
theorem sp_loop {a : Addr} {xs : List V} {ds : List PyData} {fp : List Addr} {H : Hp} {n : Nat} {D : Ends} (ow : OwnA H xs ds fp) (fit : ∀ x ∈ ds, fitS n x = true) (nd : fp.Nodup)
    (ha : (H a = some (.lst xs) ∧ a ∉ fp) ∨ H a = some (.tup xs))
    (hd : ∀ G x1 x2, Spl fp H G → D.nx [some (.ref a), x1, x2] G) :
    tFor (iSq K (tVar 0)) (gName 2) (tDrop (tCall (spSp n) [] noE (tCons (tVar 2) tNil))) D [some (.ref a), none, none] H := by
  let Pv : Nat → L2.St → Hp → Prop := fun j σ G => ∃ x1 x2 f g, σ = [some (.ref a), x1, x2] ∧ fp = f ++ g ∧ Spl f H G ∧ (∀ b ∈ f, ∃ xs, H b = some (.lst xs)) ∧ OwnA G (xs.drop j) (ds.drop j) g
  have ll := ow.lsts
  have st : ∀ {j σ G}, Pv j σ G → (H a = some (.lst xs) ∧ a ∉ fp → G a = some (.lst xs)) ∧ (H a = some (.tup xs) → G a = some (.tup xs)) := fun {j σ G} ⟨_, _, f, g, _, e, s, l, _⟩ =>
    ⟨fun h => s.1 _ _ (fun z => h.2 (e ▸ List.mem_append_left _ z)) h.1, fun h => s.tup l _ _ h⟩
  have h0 : Pv 0 [some (.ref a), none, none] H := ⟨none, none, [], fp, rfl, rfl, Spl.nil (fun _ _ e => e), (fun _ z => nomatch z), ow⟩
  have go : ∀ (j : Nat) (x : V) (σ' : L2.St) (G G' : Hp), j < xs.length → Pv j σ' G → YAt xs j G x G' → gName 2 x σ' G' fun σ2 H2 => tDrop (tCall (spSp n) [] noE (tCons (tVar 2) tNil)) { nx := Pv (j + 1), rt := D.rt, bk := D.nx, ct := Pv (j + 1) } σ2 H2 := by
    rintro j x σ' G G' hj ⟨x1, x2, f, g, rfl, rfl, s, l, o⟩ ⟨eG, ey⟩
    subst eG
    obtain ⟨z, g1, g2, hz, rfl, ox, oz⟩ := o.step ey ow.len
    obtain ⟨ndf, ndg, dj⟩ := List.nodup_append.mp nd
    obtain ⟨nd1, nd2, dj2⟩ := List.nodup_append.mp ndg
    refine gset ⟨x, rfl, x, z, g1, rfl, ox, fit z (List.mem_of_getElem? hz), nd1, fun G2 s2 => ?_⟩
    refine ⟨x1, some x, f ++ g1, g2, rfl, (List.append_assoc ..).symm, s.trans s2 (fun b hb z => dj b hb b (List.mem_append_left _ z) rfl), fun b hb => ll b ?_, ?_⟩
    · rcases List.mem_append.mp hb with q | q
      · exact List.mem_append_left _ q
      · exact List.mem_append_right _ (List.mem_append_left _ q)
    · exact s2.own ox.lsts (fun b hb z => dj2 b hb b z rfl) oz
  have fin : ∀ σ' G, Pv xs.length σ' G → D.nx σ' G := by
    rintro σ' G ⟨x1, x2, f, g, rfl, rfl, s, l, o⟩
    rw [List.drop_length] at o
    have eg : g = [] := by
      generalize ds.drop xs.length = q at o
      generalize hq : ([] : List V) = e at o
      cases o with
      | nil => rfl
      | cons _ _ => cases hq
    subst eg
    rw [List.append_nil] at hd
    exact hd G x1 x2 s
  unfold tFor
  rcases ha with hq | hq
  · exact .inl ⟨.ref a, rfl, a, rfl, ⟨xs, .inl (.inl hq.1)⟩, for_it (D := D) walk_list Pv h0 (fun j σ' G _ p => .inl (.inl ((st p).1 hq))) go fin⟩
  · exact .inr ⟨.ref a, rfl, a, rfl, ⟨xs, .inl (.inl hq)⟩, for_it (D := D) walk_tup Pv h0 (fun j σ' G _ p => .inl (.inl ((st p).2 hq))) go fin⟩
theorem ok_sp {f : Addr} {fd : FuncData} (F : FunD K "_law_spoilt" "_law_spoilt" (defArgs sSp) (defBody sSp) (defScope sSp) [] [] f fd) (mm : mg "_law_spoilt" = some (.ref f)) (kp : keepIn K (.ref f) = true) (bd : L2.Binds K fd ["thing"] []) (B : BtK mg) : ∀ n, FnOk P w K mg base CX0 (n + 1) f fd ["thing"] (spSp n) := by
  intro n
  induction n with
  | zero =>
    refine F.ok scSp (fun vs H Q E h => sp_len h) (fun cdv A outer s H vs Q XE hr h => ?_)
    obtain ⟨v, d, g, rfl, hv, hf, nd, k⟩ := h
    refine sp_flat B hv ?_ k
    cases d <;> first | rfl | exact absurd (show false = true from hf) Bool.false_ne_true
  | succ n ih =>
    have SELF : Has P w K mg base "_law_spoilt" (n + 1) ["thing"] (spSp n) := ⟨f, fd, mm, kp, bd, ih⟩
    refine F.ok scSp (fun vs H Q E h => sp_len h) (fun cdv A outer s H vs Q XE hr h => ?_)
    obtain ⟨v, d, g, rfl, hv, hf, nd, k⟩ := h
    cases l0 : isL d with
    | false => exact sp_flat B hv l0 k
    | true =>
      have bF : PS (cxOf CX0 P w K mg base NSp "_law_spoilt" (defScope sSp) f cdv A outer s H XE).nox ((forBody spB).getD 0 (.Pass ⟨0, 0, 0, 0⟩)) _ := ps_expr (pe_has SELF hr (by rfl) (pa_cons (pv 2) pa_nil))
      refine ⟨_, PSs.nox (PSs.of_eq bdSp (pss_cons (ps_if (pt_val (pe_callB call_isi (by rfl) B.is boot_isi (pa_cons (pv 0) (pa_cons (pe_bltn (by rfl) B.di boot_di (v := .ty "dict") rfl) pa_nil)))) pss_never pss_nil)
        (pss_cons (ps_if (pt_val (pe_callB call_isiT (by rfl) B.is boot_isi (pa_cons (pv 0) (pa_cons (pe_tup (pa_cons (pe_bltn (by rfl) B.li boot_li (v := .ty "list") rfl) (pa_cons (pe_bltn (by rfl) B.tu boot_tu (v := .ty "tuple") rfl) pa_nil))) pa_nil))))
          (pss_one (ps_for PassesOwn.never rfl (pi_sq (pv 0)) (pg_name (i := 2) scSp.nd rfl (.inl rfl)) (pss_one bF))) pss_nil)
        (pss_one (ps_if (pt_val (pe_callB call_isi (by rfl) B.is boot_isi (pa_cons (pv 0) (pa_cons (pe_bltn (by rfl) B.li boot_li (v := .ty "list") rfl) pa_nil))))
          (pss_one (ps_expr (pe_bm PySem.F.plainAttrs_list PySem.F.slot_list_append PySem.F.type_list_append mt_append (pv 0) (pa_cons pe_str pa_nil)))) pss_nil))))), ?_⟩
      clear bF
      have tv := hv.th
      obtain ⟨a, xs, ds, fp, rfl, ow, ha, fit, ndp, kk⟩ : ∃ (a : Addr) (xs : List V) (ds : List PyData) (fp : List Addr), v = .ref a ∧ OwnA H xs ds fp ∧ ((H a = some (.lst xs) ∧ a ∉ fp ∧ isLs d = true ∧ g = a :: fp ∧ xs.length ≤ 1000) ∨ (H a = some (.tup xs) ∧ isLs d = false ∧ g = fp)) ∧ (∀ x ∈ ds, fitS n x = true) ∧ fp.Nodup ∧ True := by
        cases hv with
        | lst h l r =>
          obtain ⟨n1, n2⟩ := List.nodup_cons.mp nd
          exact ⟨_, _, _, _, rfl, r, .inl ⟨h, n1, rfl, rfl, l⟩, fun x hx => List.all_eq_true.mp (Bool.and_eq_true_iff.mp hf).2 x hx, n2, trivial⟩
        | tup h r => exact ⟨_, _, _, _, rfl, r, .inr ⟨h, rfl, rfl⟩, fun x hx => List.all_eq_true.mp (Bool.and_eq_true_iff.mp hf).2 x hx, nd, trivial⟩
        | _ => exact absurd (show false = true from l0) Bool.false_ne_true
      refine ⟨.ref a, rfl, .ref a, _, _, _, _, rfl, .ty _, tv.ty, is_di d, _, rfl, ?_⟩
      rw [hv.no_dict]
      refine iteF ⟨.ref a, rfl, small4 2, fun p np => ⟨.ref a, p, _, _, _, _, rfl, upd_same, .cons (.ty _) (.cons (.ty _) .nil), (tv.ext (same_new np)).ty, is_lt d, _, rfl, ?_⟩⟩
      rw [l0]
      have e1 : L2.Same H (upd H p (.tup [.ty "list", .ty "tuple"])) := same_new np
      generalize upd H p (.tup [.ty "list", .ty "tuple"]) = H1 at e1 ⊢
      refine iteT (sp_loop (ow.ext e1) fit ndp (ha.imp (fun h => ⟨e1 _ _ h.1, h.2.1⟩) (fun h => e1 _ _ h.1)) fun G x1 x2 S => ?_)
      have S0 : Spl fp H G := ⟨fun b o n h => S.1 b o n (e1 _ _ h), fun b m ys h => S.2 b m ys (e1 _ _ h)⟩
      rcases ha with ⟨ha, na, li, rfl, lx⟩ | ⟨ha, li, rfl⟩
      · have hG := S0.1 _ _ na ha
        refine ⟨.ref a, rfl, .ref a, _, _, _, _, rfl, .ty _, .base (.lst hG), (show kitOne K (.type "list") (.type "list") = some true from kit_ls (.list [])), _, rfl, ?_⟩
        refine iteT ⟨.ref a, rfl, .inl ⟨rfl, _, .inl (.inl hG)⟩, a, xs, lateS, rfl, rfl, hG, (by rw [sizeLine_eq]; omega), ?_⟩
        refine k _ ⟨fun b o n h => ?_, fun b m ys h => ?_⟩
        · rw [upd_ne (fun z => n (by rw [z]; exact List.mem_cons_self))]
          exact S0.1 b o (fun z => n (List.mem_cons_of_mem _ z)) h
        · rcases List.mem_cons.mp m with rfl | m
          · rw [ha] at h
            cases h
            exact upd_same
          · rw [upd_ne (fun z => na (by rw [← z]; exact m))]
            exact S0.2 b m ys h
      · refine ⟨.ref a, rfl, .ref a, _, _, _, _, rfl, .ty _, .base (.tup (S0.tup ow.lsts _ _ ha)), (show kitOne K (.type "tuple") (.type "list") = some false from kit_ls (.tuple [])), _, rfl, ?_⟩
        exact iteF (k _ S0)
end
end K14.T3
namespace K14.Gn
open PySem PySem.W PySem.Calls PyProof.Rows L2
/-! ### l.count(a text), the things of l being numbers, truths, None, texts, lists, tuples -/
def eqK (k : Str) : Value → Bool
  | .str x _ => x == k
  | _ => false
def plnV (H : Hp) (v : V) : Prop := v = .non ∨ (∃ b, v = .bl b) ∨ (∃ i, v = .int i) ∨ (∃ x, v = .str x) ∨ ∃ a xs, v = .ref a ∧ (H a = some (.lst xs) ∨ H a = some (.tup xs))
def rCount : V → List V → Hp → VK → Prop := fun x vs H Q => ∃ l xs k, x = .ref l ∧ vs = [.str k] ∧ H l = some (.lst xs) ∧ (∀ y ∈ xs, plnV H y) ∧ Q (.int (xs.countP (fun y => decide (y = V.str k)) : Nat)) H
theorem vals_mem : ∀ {xs : List V} {us : List Value}, Vals xs us → ∀ y ∈ us, ∃ x ∈ xs, RelV x y
  | _, _, .nil, y, h => nomatch h
  | _, _, .cons r t, y, h => by
    rcases List.mem_cons.mp h with rfl | h
    · exact ⟨_, List.mem_cons_self, r⟩
    · obtain ⟨x, hx, q⟩ := vals_mem t y h
      exact ⟨x, List.mem_cons_of_mem _ hx, q⟩
theorem relK {k : Str} {x : V} {y : Value} (r : RelV x y) : eqK k y = decide (x = V.str k) := by
  cases x with
  | str z =>
    obtain ⟨t, rfl⟩ := r
    show (z == k) = _
    by_cases h : z = k
    · subst h
      simp
    · rw [decide_eq_false (fun q => h (V.str.inj q))]
      exact beq_eq_false_iff_ne.mpr h
  | non => cases r; rfl
  | bl b => cases r; rfl
  | int i => obtain ⟨t, rfl⟩ := r; rfl
  | byt b => obtain ⟨t, rfl⟩ := r; rfl
  | flt b => obtain ⟨t, rfl⟩ := r; rfl
  | ref a => cases r; rfl
  | ty n => cases r; rfl
theorem vals_count {k : Str} : ∀ {xs : List V} {us : List Value}, Vals xs us → us.countP (eqK k) = xs.countP fun y => decide (y = V.str k)
  | _, _, .nil => rfl
  | _, _, .cons r t => by
    rw [List.countP_cons, List.countP_cons, vals_count t, relK r]
theorem mt_count {X : Cx} (hu : X.A.units + 64 < cLine) : MtR X "list.count" rCount := by
  intro pins s σ H x vs v us Q I rx rv h
  obtain ⟨l, xs, k, rfl, rfl, hH, hp, q⟩ := h
  cases rx
  obtain ⟨u, rfl, ru⟩ := rv.one
  obtain ⟨t, rfl⟩ := ru
  obtain ⟨z, its, n, r, hl, e⟩ := I.lstM hH
  have hu1 : X.A.in1.units < cLine := by
    show X.A.units + 1 < cLine
    omega
  refine call_meets F.slot_list_count ⟨_, e, rfl⟩ F.entry_list_count (F.args_list_count_2 _ _) (SeqAt.list_countAt l its.toArray n none #[] (.str k t) (eqK k)) ⟨e, fun y hy => ?_, ?_⟩
  · obtain ⟨x, hx, rl⟩ := vals_mem r y (by simpa using hy)
    rcases hp x hx with rfl | ⟨b, rfl⟩ | ⟨i, rfl⟩ | ⟨w, rfl⟩ | ⟨a, ys, rfl, ha | ha⟩
    · cases rl
      exact SeqAt.EqAt.none_str _ _
    · cases rl
      exact SeqAt.EqAt.bool_str _ _ _
    · obtain ⟨t2, rfl⟩ := rl
      exact SeqAt.EqAt.int_str _ _ _ _
    · obtain ⟨t2, rfl⟩ := rl
      exact SeqAt.EqAt.str_str _ _ _ _
    · cases rl
      obtain ⟨_, its2, n2, _, _, e2⟩ := I.lstM ha
      exact SeqAt.EqAt.list_str _ _ ⟨_, e2, rfl, n2, rfl⟩ hu1
    · cases rl
      obtain ⟨its2, _, ⟨o2, h2, c2, n2, d2⟩, _⟩ := I.tuple (.inl (.inl ha))
      exact SeqAt.EqAt.tuple_str _ _ ⟨o2, h2, c2, n2, d2⟩ hu1
  · refine ⟨.int _, H, I.tok _, ⟨_, rfl⟩, ?_⟩
    rw [show its.toArray.toList = its from rfl, vals_count r]
    exact q
end K14.Gn
namespace K14.T3
open T27
open K14.Gn
open PySem PySem.W PySem.Calls PyProof.Rows L2 LamX
open He (ga)
open Kz (SS ExtS ExtS.trans ExtS.refl small4 same_new boot_in boot_li boot_isi Has pe_has noE PSs.of_eq seqI new_ext X1)
/-! ### _law_is_once -/
def isLate : PyData → Bool
  | .str x => decide (x = ("late9" : Str))
  | _ => false
/-- data of a spoilt thing, each list changed once -/
def onc : Nat → PyData → Bool
  | n + 1, .list xs => decide (xs.length ≤ 2000) && (decide (xs.countP isLate = 1) && xs.all (onc n))
  | n + 1, .tuple xs => decide (xs.length ≤ 2000) && (decide (xs.countP isLate = 0) && xs.all (onc n))
  | _, .none => true
  | _, .bool _ => true
  | _, .int _ => true
  | _, .str _ => true
  | _, _ => false
/-- no text of a thing is the law's mark -/
def cln : Nat → PyData → Bool
  | n + 1, .list xs => xs.all (cln n)
  | n + 1, .tuple xs => xs.all (cln n)
  | _, .str x => !decide (x = ("late9" : Str))
  | _, _ => true
theorem cln_late {n : Nat} {d : PyData} (h : cln n d = true) : isLate d = false := by
  cases d with
  | str x =>
    have h : (!decide (x = ("late9" : Str))) = true := by cases n <;> exact h
    show decide _ = false
    rw [Bool.not_eq_true'] at h
    exact h
  | _ => rfl
mutual
/-- what a thing is once it's spoilt -/
theorem Own.spoilt {H G : Hp} : ∀ {v : V} {d : PyData} {f : List Addr}, Own H v d f → ∀ n, fitS n d = true → cln n d = true → (∀ b ∈ f, ∀ xs, H b = some (.lst xs) → G b = some (.lst (xs ++ [lateS]))) → (∀ b xs, H b = some (.tup xs) → G b = some (.tup xs)) →
    ∃ d', Th G v d' ∧ onc n d' = true ∧ isLate d' = false
  | _, _, _, .non, n, _, _, _, _ => ⟨_, .non, by cases n <;> rfl, rfl⟩
  | _, _, _, .bl b, n, _, _, _, _ => ⟨_, .bl b, by cases n <;> rfl, rfl⟩
  | _, _, _, .int i, n, _, _, _, _ => ⟨_, .int i, by cases n <;> rfl, rfl⟩
  | _, _, _, .str x, n, _, c, _, _ => ⟨_, .str x, by cases n <;> rfl, cln_late c⟩
  | _, _, _, .lst h l r, 0, f, _, _, _ => absurd (show false = true from f) Bool.false_ne_true
  | _, _, _, .tup h r, 0, f, _, _, _ => absurd (show false = true from f) Bool.false_ne_true
  | _, _, _, .lst (xs := xs) h l r, n + 1, f, c, e, t => by
    obtain ⟨f1, f2⟩ := Bool.and_eq_true_iff.mp f
    obtain ⟨ds', t', o', c'⟩ := OwnA.spoilt r n (fun x hx => List.all_eq_true.mp f2 x hx) (fun x hx => List.all_eq_true.mp c x hx) (fun b hb => e b (List.mem_cons_of_mem _ hb)) t
    refine ⟨.list (ds' ++ [.str "late9"]), .lst (e _ List.mem_cons_self _ h) (th_app t' (.cons (.str _) .nil)), ?_, rfl⟩
    have ll := t'.length
    show (decide ((ds' ++ [PyData.str "late9"]).length ≤ 2000) && (decide ((ds' ++ [PyData.str "late9"]).countP isLate = 1) && (ds' ++ [PyData.str "late9"]).all (onc n))) = true
    rw [decide_eq_true (by rw [List.length_append, List.length_singleton]; omega), decide_eq_true (by rw [List.countP_append, c']; rfl), List.all_append, o']
    cases n <;> rfl
  | _, _, _, .tup h r, n + 1, f, c, e, t => by
    obtain ⟨f1, f2⟩ := Bool.and_eq_true_iff.mp f
    obtain ⟨ds', t', o', c'⟩ := OwnA.spoilt r n (fun x hx => List.all_eq_true.mp f2 x hx) (fun x hx => List.all_eq_true.mp c x hx) e t
    refine ⟨.tuple ds', .tup (t _ _ h) t', ?_, rfl⟩
    have ll := t'.length
    have l2 := r.len
    have f1 := of_decide_eq_true f1
    show (decide (ds'.length ≤ 2000) && (decide (ds'.countP isLate = 0) && ds'.all (onc n))) = true
    rw [decide_eq_true (by omega), decide_eq_true c', o']
    rfl
theorem OwnA.spoilt {H G : Hp} : ∀ {vs : List V} {ds : List PyData} {f : List Addr}, OwnA H vs ds f → ∀ n, (∀ x ∈ ds, fitS n x = true) → (∀ x ∈ ds, cln n x = true) → (∀ b ∈ f, ∀ xs, H b = some (.lst xs) → G b = some (.lst (xs ++ [lateS]))) → (∀ b xs, H b = some (.tup xs) → G b = some (.tup xs)) →
    ∃ ds', ThAll G vs ds' ∧ ds'.all (onc n) = true ∧ ds'.countP isLate = 0
  | _, _, _, .nil, _, _, _, _, _ => ⟨[], .nil, rfl, rfl⟩
  | _, _, _, .cons h r, n, f, c, e, t => by
    obtain ⟨d', t1, o1, c1⟩ := Own.spoilt h n (f _ List.mem_cons_self) (c _ List.mem_cons_self) (fun b hb => e b (List.mem_append_left _ hb)) t
    obtain ⟨ds', t2, o2, c2⟩ := OwnA.spoilt r n (fun x hx => f x (List.mem_cons_of_mem _ hx)) (fun x hx => c x (List.mem_cons_of_mem _ hx)) (fun b hb => e b (List.mem_append_right _ hb)) t
    refine ⟨d' :: ds', .cons t1 t2, ?_, ?_⟩
    · rw [List.all_cons, o1, o2]
      rfl
    · rw [List.countP_cons, c2, c1]
      rfl
end
abbrev sIn1 : Stmt := topS 50
abbrev NIn1 : List Str := ["thing", "many", "key", "part"]
theorem scIn1 : FnScope NIn1 ["thing"] (defScope sIn1) := ⟨rfl, rfl, rfl, by decide +kernel, rfl, by decide +kernel, by decide +kernel⟩
theorem bdIn1 : defBody sIn1 = [stOf sIn1 0, stOf sIn1 1, stOf sIn1 2] := by rfl
def scOnc : Stmt → Scope
  | .If _ (_ :: .Return (some (.BoolOp _ [_, .Call _ [.ListComp _ _ sc _] _ _] _)) _ :: _) _ _ => sc
  | _ => defScope sIn1
def onB (i : Nat) : Stmt := (ifB (stOf sIn1 1)).getD i (.Pass ⟨0, 0, 0, 0⟩)
def onSc : Scope := scOnc (stOf sIn1 1)
theorem chkOn : blkC NIn1 (defScope sIn1) onSc [("part", 3)] = true := by decide +kernel
theorem th_count {H : Hp} : ∀ {xs : List V} {ds : List PyData}, ThAll H xs ds → xs.countP (fun y => decide (y = V.str "late9")) = ds.countP isLate
  | _, _, .nil => rfl
  | _, _, .cons r t => by
    rw [List.countP_cons, List.countP_cons, th_count t]
    congr 1
    cases r with
    | str x =>
      show (if decide (V.str x = V.str "late9") = true then 1 else 0) = if decide (x = ("late9" : Str)) = true then 1 else 0
      by_cases q : x = ("late9" : Str)
      · rw [decide_eq_true q, decide_eq_true (by rw [q])]
      · rw [decide_eq_false q, decide_eq_false (fun z => q (V.str.inj z))]
    | _ => rfl
theorem th_pln {n : Nat} {H : Hp} : ∀ {xs : List V} {ds : List PyData}, ThAll H xs ds → ds.all (onc n) = true → ∀ y ∈ xs, plnV H y
  | _, _, .nil, _, y, h => nomatch h
  | _, _, .cons r t, o, y, h => by
    rw [List.all_cons] at o
    obtain ⟨o1, o2⟩ := Bool.and_eq_true_iff.mp o
    rcases List.mem_cons.mp h with rfl | h
    · cases r with
      | non => exact .inl rfl
      | bl b => exact .inr (.inl ⟨_, rfl⟩)
      | int i => exact .inr (.inr (.inl ⟨_, rfl⟩))
      | str x => exact .inr (.inr (.inr (.inl ⟨_, rfl⟩)))
      | lst h0 _ => exact .inr (.inr (.inr (.inr ⟨_, _, rfl, .inl h0⟩)))
      | tup h0 _ => exact .inr (.inr (.inr (.inr ⟨_, _, rfl, .inr h0⟩)))
      | dct _ _ => cases n <;> exact absurd (show false = true from o1) Bool.false_ne_true
    · exact th_pln t o2 y h
section
variable {P : Program} {w : World} {K : Frag} {mg : Str → Option Value} {base : Heap}
def spOn (n : Nat) : Sp := fun vs H Q _ => ∃ (v : V) (d : PyData), vs = [v] ∧ Th H v d ∧ onc n d = true ∧ ∀ H', L2.Same H H' → Q (.bl true) H'
theorem on_len {n : Nat} {vs : List V} {H : Hp} {Q : VK} {E : XK} (h : spOn n vs H Q E) : vs.length = 1 := by
  obtain ⟨v, d, rfl, _⟩ := h
  rfl
theorem on_dict {n : Nat} {d : PyData} (h : onc n d = true) : isD d = false := by
  cases d with
  | dict ps => cases n <;> exact absurd (show false = true from h) Bool.false_ne_true
  | _ => rfl
theorem on_flat (B : BtK mg) {f : Addr} {cdv : Value} {A : Around} {outer : List Env} {s : Shared} {H : Hp} {Q : VK} {XE : XK} {v : V} {d : PyData} (tv : Th H v d) (dd : isD d = false) (l0 : isL d = false) (k : ∀ H', L2.Same H H' → Q (.bl true) H') :
    ∃ t, PSs (cxOf CX0 P w K mg base NIn1 "_law_is_once" (defScope sIn1) f cdv A outer s H XE) (defBody sIn1) t ∧ t { nx := fun _ H' => Q .non H', rt := Q } (L2.start NIn1 [v]) H := by
  refine ⟨_, PSs.nox (PSs.of_eq bdIn1 (pss_cons (ps_if (pt_val (pe_callB call_isi (by rfl) B.is boot_isi (pa_cons (pv 0) (pa_cons (pe_bltn (by rfl) B.di boot_di (v := .ty "dict") rfl) pa_nil)))) pss_never pss_nil)
    (pss_cons (ps_if (pt_val (pe_callB call_isiT (by rfl) B.is boot_isi (pa_cons (pv 0) (pa_cons (pe_tup (pa_cons (pe_bltn (by rfl) B.li boot_li (v := .ty "list") rfl) (pa_cons (pe_bltn (by rfl) B.tu boot_tu (v := .ty "tuple") rfl) pa_nil))) pa_nil)))) pss_never pss_nil)
    (pss_one (ps_ret pe_bl))))), ?_⟩
  refine ⟨v, rfl, v, _, _, _, _, rfl, .ty _, tv.ty, is_di d, _, rfl, ?_⟩
  rw [dd]
  refine iteF ⟨v, rfl, small4 2, fun p np => ⟨v, p, _, _, _, _, rfl, upd_same, .cons (.ty _) (.cons (.ty _) .nil), (tv.ext (same_new np)).ty, is_lt d, _, rfl, ?_⟩⟩
  rw [l0]
  exact iteF (k _ (same_new np))
theorem ok_on {f : Addr} {fd : FuncData} (F : FunD K "_law_is_once" "_law_is_once" (defArgs sIn1) (defBody sIn1) (defScope sIn1) [] [] f fd) (mm : mg "_law_is_once" = some (.ref f)) (kp : keepIn K (.ref f) = true) (bd : L2.Binds K fd ["thing"] []) (B : BtK mg) : ∀ n, FnOk P w K mg base CX0 (n + 1) f fd ["thing"] (spOn n) := by
  intro n
  induction n with
  | zero =>
    refine F.ok scIn1 (fun vs H Q E h => on_len h) (fun cdv A outer s H vs Q XE hr h => ?_)
    obtain ⟨v, d, rfl, tv, ho, k⟩ := h
    refine on_flat B tv (on_dict ho) ?_ k
    cases d <;> first | rfl | exact absurd (show false = true from ho) Bool.false_ne_true
  | succ n ih =>
    have SELF : Has P w K mg base "_law_is_once" (n + 1) ["thing"] (spOn n) := ⟨f, fd, mm, kp, bd, ih⟩
    refine F.ok scIn1 (fun vs H Q E h => on_len h) (fun cdv A outer s H vs Q XE hr h => ?_)
    obtain ⟨v, d, rfl, tv, ho, k⟩ := h
    cases l0 : isL d with
    | false => exact on_flat B tv (on_dict ho) l0 k
    | true =>
      have b0 : PS (cxOf CX0 P w K mg base NIn1 "_law_is_once" (defScope sIn1) f cdv A outer s H XE).nox (onB 0) _ := ps_set (i := 1) scIn1.nd rfl (.inl rfl) (pe_callTy call_int1 (by rfl) B.it boot_in (pa_cons (pe_callB call_isi (by rfl) B.is boot_isi (pa_cons (pv 0) (pa_cons (pe_bltn (by rfl) B.li boot_li (v := .ty "list") rfl) pa_nil))) pa_nil))
      have b1 : PS (cxOf CX0 P w K mg base NIn1 "_law_is_once" (defScope sIn1) f cdv A outer s H XE).nox (onB 1) _ := ps_ret (pe_and (pe_cmpR op_eq (pe_bm PySem.F.plainAttrs_list PySem.F.slot_list_count PySem.F.type_list_count (mt_count hr.units) (pe_callTy call_list_of (by rfl) B.li boot_li (pa_cons (pv 0) pa_nil)) (pa_cons pe_str pa_nil)) (pv 1) (nomark _))
        (pe_one (pe_callB (cr_all rfl) (by rfl) B.al boot_all (pa_cons (pe_lc (X := (cxOf CX0 P w K mg base NIn1 "_law_is_once" (defScope sIn1) f cdv A outer s H XE).nox) (scope := onSc) (own := [("part", 3)]) (g := gName 3) (tt := tYes) (te := tCall (spOn n) [] noE (tCons (tVar 3) tNil)) rfl scIn1.nd
          (pi_sq (pv 0)) (blkOk_by chkOn) (fun _ _ _ _ _ => pg_name (i := 3) scIn1.nd rfl (Or.inl rfl)) (fun _ _ _ _ _ => pts_nil)
          (fun s0 H0 C0 cl0 fp0 => by exact pe_has SELF hr (by rfl) (pa_cons (pv 3) pa_nil))) pa_nil))))
      refine ⟨_, PSs.nox (PSs.of_eq bdIn1 (pss_cons (ps_if (pt_val (pe_callB call_isi (by rfl) B.is boot_isi (pa_cons (pv 0) (pa_cons (pe_bltn (by rfl) B.di boot_di (v := .ty "dict") rfl) pa_nil)))) pss_never pss_nil)
        (pss_cons (ps_if (pt_val (pe_callB call_isiT (by rfl) B.is boot_isi (pa_cons (pv 0) (pa_cons (pe_tup (pa_cons (pe_bltn (by rfl) B.li boot_li (v := .ty "list") rfl) (pa_cons (pe_bltn (by rfl) B.tu boot_tu (v := .ty "tuple") rfl) pa_nil))) pa_nil)))) (pss_cons b0 (pss_one b1)) pss_nil)
        (pss_one (ps_ret pe_bl))))), ?_⟩
      clear b0 b1
      refine ⟨v, rfl, v, _, _, _, _, rfl, .ty _, tv.ty, is_di d, _, rfl, ?_⟩
      rw [on_dict ho]
      refine iteF ⟨v, rfl, small4 2, fun p np => ⟨v, p, _, _, _, _, rfl, upd_same, .cons (.ty _) (.cons (.ty _) .nil), (tv.ext (same_new np)).ty, is_lt d, _, rfl, ?_⟩⟩
      rw [l0]
      have e1 : L2.Same H (upd H p (.tup [.ty "list", .ty "tuple"])) := same_new np
      generalize upd H p (.tup [.ty "list", .ty "tuple"]) = H1 at e1 ⊢
      have t1 := tv.ext e1
      have ob : (its d).length ≤ 2000 ∧ (its d).countP isLate = (if isLs d = true then 1 else 0) ∧ (its d).all (onc n) = true := by
        cases d with
        | list xs =>
          obtain ⟨h1, h2⟩ := Bool.and_eq_true_iff.mp (show (decide (xs.length ≤ 2000) && (decide (xs.countP isLate = 1) && xs.all (onc n))) = true from ho)
          obtain ⟨h2, h3⟩ := Bool.and_eq_true_iff.mp h2
          exact ⟨of_decide_eq_true h1, of_decide_eq_true h2, h3⟩
        | tuple xs =>
          obtain ⟨h1, h2⟩ := Bool.and_eq_true_iff.mp (show (decide (xs.length ≤ 2000) && (decide (xs.countP isLate = 0) && xs.all (onc n))) = true from ho)
          obtain ⟨h2, h3⟩ := Bool.and_eq_true_iff.mp h2
          exact ⟨of_decide_eq_true h1, of_decide_eq_true h2, h3⟩
        | _ => exact absurd (show false = true from l0) Bool.false_ne_true
      obtain ⟨ol, oc, oa⟩ := ob
      refine iteT ⟨v, rfl, v, _, _, _, _, rfl, .ty _, t1.ty, kit_ls d, .inr ⟨_, rfl, ?_⟩⟩
      refine gset (nx_intro ?_)
      obtain ⟨a, xs, rfl, r, hx⟩ := t1.seq (K := K) l0
      refine ret_intro ⟨.ref a, rfl, a, xs, rfl, hx.elim (fun q => .inl (.inl (.inl q))) (fun q => .inr (.inl (.inl q))), fun c nc => ?_⟩
      have e2 := same_new (o := .lst xs) nc
      have r2 := r.ext e2
      refine ⟨.inl ⟨rfl, _, .inl (.inl upd_same)⟩, c, xs, "late9", rfl, rfl, upd_same, th_pln r2 oa, .int _, rfl, rfl, _, rfl, ?_⟩
      rw [th_count r, oc, decide_eq_true (by cases isLs d <;> rfl)]
      refine iteT ?_
      refine lc_allG (d := d) (onc n) (fun R h => ⟨.ref a, rfl, h _ _ (fun _ _ e => e) (t1.ext e2)⟩) l0 (by omega) (fun x => rfl) (fun j z x G Q' hz S tz kk => ?_) (fun G S => ?_)
      · have oz := List.all_eq_true.mp oa z (List.mem_of_getElem? hz)
        rw [oz] at kk
        exact ⟨x, rfl, x, z, rfl, tz, oz, kk⟩
      · rw [oa]
        exact k _ (e1.trans (e2.trans S))
end
end K14.T3
namespace K14.T3
open T27
open K14.Gn
open PySem PySem.W PySem.Calls PyProof.Rows L2 LamX
open He (ga)
open Kz (SS ExtS ExtS.trans ExtS.refl small4 same_new boot_in boot_li boot_isi Has pe_has noE PSs.of_eq seqI new_ext X1)
/-! ### _law_apart -/
abbrev sAp : Stmt := topS 51
theorem scAp : FnScope ["thing"] ["thing"] (defScope sAp) := ⟨rfl, rfl, rfl, by decide +kernel, rfl, by decide +kernel, by decide +kernel⟩
theorem bdAp : defBody sAp = [stOf sAp 0, stOf sAp 1] := by rfl
section
variable {P : Program} {w : World} {K : Frag} {mg : Str → Option Value} {base : Heap}
/-- the lists at f are changed, all else stays -/
def spAp (n : Nat) : Sp := fun vs H Q _ => ∃ (v : V) (d : PyData) (f : List Addr), vs = [v] ∧ Own H v d f ∧ fitS n d = true ∧ cln n d = true ∧ f.Nodup ∧ ∀ H', (∀ b o, b ∉ f → H b = some o → H' b = some o) → Q (.bl true) H'
theorem ok_ap {n : Nat} {f : Addr} {fd : FuncData} (F : FunD K "_law_apart" "_law_apart" (defArgs sAp) (defBody sAp) (defScope sAp) [] [] f fd) (S : Has P w K mg base "_law_spoilt" (n + 1) ["thing"] (spSp n)) (O : Has P w K mg base "_law_is_once" (n + 1) ["thing"] (spOn n)) : FnOk P w K mg base CX0 (n + 2) f fd ["thing"] (spAp n) := by
  refine F.ok scAp (fun vs H Q E h => ?_) (fun cdv A outer s H vs Q XE hr h => ?_)
  · obtain ⟨v, d, g, rfl, _⟩ := h
    rfl
  · obtain ⟨v, d, g, rfl, ow, fi, cl, nd, k⟩ := h
    have h0 : PS (cxOf CX0 P w K mg base ["thing"] "_law_apart" (defScope sAp) f cdv A outer s H XE).nox (stOf sAp 0) _ := ps_expr (pe_has S hr (by rfl) (pa_cons (pv 0) pa_nil))
    have h1 : PS (cxOf CX0 P w K mg base ["thing"] "_law_apart" (defScope sAp) f cdv A outer s H XE).nox (stOf sAp 1) _ := ps_ret (pe_has O hr (by rfl) (pa_cons (pv 0) pa_nil))
    refine ⟨_, PSs.nox (PSs.of_eq bdAp (pss_cons h0 (pss_one h1))), ?_⟩
    clear h0 h1
    refine ⟨v, rfl, v, d, g, rfl, ow, fi, nd, fun G s => ?_⟩
    obtain ⟨d', t', o', _⟩ := Own.spoilt ow n fi cl s.2 (s.tup ow.lsts)
    exact ⟨v, rfl, v, d', rfl, t', o', fun G2 s2 => k G2 fun b o nb hb => s2 _ _ (s.1 b o nb hb)⟩
end
end K14.T3
namespace K14.Gn
open PySem PySem.W PySem.Calls PyProof.Rows L2 LamX
open He (ga)
open Kz (noE)
/-! ### one keyword -/
theorem kb_one {K : Frag} {x qual : Str} {params : Arguments} {body : List Stmt} {scope : Scope} {f : Addr} {fd : FuncData} {p1 : Str} (F : FunD K x qual params body scope [] [] f fd)
    (h : ∀ (kV doc pm : Value) (an : Option Addr) (cdv ct a : Value), bindArgs (fnOf x qual params body scope .none kV doc pm an cdv ct) ⟨[], [(p1, a)]⟩ = pure [(p1, a)]) : KBinds K fd [p1] [p1] revG revV := by
  obtain ⟨oc, od, dV, kV, doc, pm, an, cdv, ct, osl, rfl, lk, hcd, hD, hK⟩ := F.ex
  rcases hD with ⟨_, rfl⟩ | ⟨e, _⟩
  · refine ⟨fun s us ws _ hl => ?_, fun {vs us zs ws} r1 r2 => ?_⟩
    · cases us with
      | cons _ _ => exact absurd (show 0 = 1 from hl) (by decide)
      | nil =>
        have hl : ws.reverse.length = 1 := hl
        rw [List.length_reverse] at hl
        match ws, hl with
        | [a], _ => exact .of_eq (h kV doc pm an cdv ct a)
    · cases r1 with
      | nil => exact vals_rev r2
      | cons _ _ => exact .nil
  · exact absurd rfl e
def HasK1 (P : Program) (w : World) (K : Frag) (mg : Str → Option Value) (base : Heap) (x : Str) (k : Nat) (p1 : Str) (sp : Sp) : Prop := ∃ f fd, mg x = some (.ref f) ∧ keepIn K (.ref f) = true ∧ KBinds K fd [p1] [p1] revG revV ∧ FnOk P w K mg base CX0 k f fd [p1] sp
def tCallR1 (sp : Sp) (t1 : TE) : TE := fun σ H Q => t1 σ H fun a H1 => sp [a] H1 Q noE
theorem pe_hasK1 {X : Cx} {x p1 : Str} {k : Nat} {sp : Sp} {e1 : Expr} {t1 : TE} {p pos q1 : Pos} (h : HasK1 X.prog X.w X.K X.mg X.base x k p1 sp) (hr : Room k X.A) (hg : Gl X x) (h1 : PE X e1 t1) (hdb : (x == ("__debug__" : Str)) = false := by decide) :
    PE X (.Call (.Name x p) [] [⟨some p1, e1, q1⟩] pos) (tCallR1 sp t1) := by
  obtain ⟨f, fd, hm, hk, hb, F⟩ := h
  refine ⟨fun pins s σ H Q I q => ?_⟩
  refine wpAny_Call_Name_kw (ld_glob I hg hm ?_ hdb)
  refine callWith_KW0 (h₀ := X.base) I.ok.mod.kin hk (by rfl) ?_ (by rfl)
  refine thn ((pk_cons h1 pk_nil).run pos pins s σ H (fun zs H2 => sp zs.reverse H2 Q noE) I q) fun ws s2 ⟨zs, H2, I2, rz, q2⟩ => ⟨I2.kIn, ?_⟩
  exact run_fnk (us := []) (vs := []) F hr hb pass0 I2 .nil rz q2
end K14.Gn
namespace K14.T3
open T27
open K14.Gn
open PySem PySem.W PySem.Calls PyProof.Rows L2 LamX
open He (ga)
open Kz (SS ExtS ExtS.trans ExtS.refl small4 same_new boot_in boot_li boot_isi Has pe_has noE PSs.of_eq seqI new_ext X1)
/-! ### _law_is_told -/
abbrev sTo : Stmt := topS 63
abbrev NTo : List Str := ["handed", "at", "due", "found"]
theorem scTo : FnScope NTo ["handed", "at", "due"] (defScope sTo) := ⟨rfl, rfl, rfl, by decide +kernel, rfl, by decide +kernel, by decide +kernel⟩
theorem bdTo : defBody sTo = [stOf sTo 0, stOf sTo 1, stOf sTo 2, stOf sTo 3] := by rfl
theorem own_ints {H : Hp} : ∀ ns : List Int, OwnA H (ns.map V.int) (ns.map PyData.int) []
  | [] => .nil
  | n :: ns => OwnA.cons (f := []) (.int n) (own_ints ns)
theorem own_pair {H : Hp} {p q r : Addr} {h a : List Int} (hp : H p = some (.tup [.ref q, .ref r])) (hq : H q = some (.lst (h.map V.int))) (hr : H r = some (.lst (a.map V.int))) (lh : h.length ≤ 1000) (la : a.length ≤ 1000) :
    Own H (.ref p) (.tuple [.list (h.map .int), .list (a.map .int)]) [q, r] :=
  .tup hp (OwnA.cons (f := [q]) (g := [r]) (.lst hq (by rw [List.length_map]; exact lh) (own_ints h)) (OwnA.cons (f := [r]) (g := []) (.lst hr (by rw [List.length_map]; exact la) (own_ints a)) .nil))
def toD (h a : List Int) (fig : Int) (t : Str) : PyData := .list [.tuple [.list (h.map .int), .list (a.map .int)], .tuple [.list (h.map .int), .list (a.map .int)], .int fig, .int fig, .str t, .str t, .bool true, .bool true, .bool true, .bool true]
theorem ints_fit {n : Nat} (h : List Int) : (h.map PyData.int).all (fitS n) = true := List.all_eq_true.mpr fun x hx => by
  obtain ⟨i, _, rfl⟩ := List.mem_map.mp hx
  cases n <;> rfl
theorem ints_cln {n : Nat} (h : List Int) : (h.map PyData.int).all (cln n) = true := List.all_eq_true.mpr fun x hx => by
  obtain ⟨i, _, rfl⟩ := List.mem_map.mp hx
  cases n <;> rfl
theorem toD_fit {h a : List Int} {fig : Int} {t : Str} (lh : h.length ≤ 1000) (la : a.length ≤ 1000) : fitS 3 (toD h a fig t) = true := by
  have e : ∀ g : List Int, g.length ≤ 1000 → fitS 1 (.list (g.map .int)) = true := fun g lg => by
    show (decide ((g.map PyData.int).length ≤ 1000) && (g.map PyData.int).all (fitS 0)) = true
    rw [ints_fit, List.length_map, decide_eq_true lg]
    rfl
  have e2 : fitS 2 (.tuple [.list (h.map .int), .list (a.map .int)]) = true := by
    show (decide (2 ≤ 1000) && (fitS 1 (.list (h.map .int)) && (fitS 1 (.list (a.map .int)) && true))) = true
    rw [e h lh, e a la]
    rfl
  show (decide (10 ≤ 1000) && (fitS 2 (.tuple [.list (h.map .int), .list (a.map .int)]) && (fitS 2 (.tuple [.list (h.map .int), .list (a.map .int)]) && _))) = true
  rw [e2]
  rfl
theorem end_late {hs as : List Int} : endT hs as ≠ ("late9" : Str) := fun z => by
  have m : 41 ∈ TL.tl (endT hs as) := by
    rw [endT_tl]
    simp
  rw [z] at m
  exact absurd m (by decide +kernel)
theorem toD_cln {h a hs as : List Int} {fig : Int} : cln 3 (toD h a fig (endT hs as)) = true := by
  have e : ∀ g : List Int, cln 1 (.list (g.map .int)) = true := fun g => ints_cln g
  have e2 : cln 2 (.tuple [.list (h.map .int), .list (a.map .int)]) = true := by
    show (cln 1 (.list (h.map .int)) && (cln 1 (.list (a.map .int)) && true)) = true
    rw [e, e]
    rfl
  have e3 : cln 2 (.str (endT hs as)) = true := by
    show (!decide (endT hs as = ("late9" : Str))) = true
    rw [decide_eq_false end_late]
    rfl
  show (cln 2 (.tuple [.list (h.map .int), .list (a.map .int)]) && (cln 2 (.tuple [.list (h.map .int), .list (a.map .int)]) && (true && (true && (cln 2 (.str (endT hs as)) && (cln 2 (.str (endT hs as)) && _)))))) = true
  rw [e2, e3]
  rfl
section
variable {P : Program} {w : World} {K : Frag} {mg : Str → Option Value} {base : Heap}
def spTo : Sp := fun vs H Q _ => ∃ (v u : V) (hs as h a : List Int) (i : Nat), vs = [v, .int (i : Nat), u] ∧ EndV H v hs as ∧ LeastOf (figAt hs as) h a ∧ h.length ≤ 1000 ∧ a.length ≤ 1000 ∧ Th H u (toD h a (figAt hs as i) (endT hs as)) ∧ ∀ H', L2.Same H H' → Q (.bl true) H'
structure ToK (P : Program) (w : World) (K : Frag) (mg : Str → Option Value) (base : Heap) : Prop where
  le : Has P w K mg base "least_endless" 6 ["endless"] (spLeast K)
  lek : HasK1 P w K mg base "least_endless" 6 "endless" (spLeast K)
  fa : Has P w K mg base "figure_at" 6 ["endless", "index"] spFa
  fak : HasK P w K mg base "figure_at" 6 "endless" "index" spFa
  et : Has P w K mg base "endless_text" 6 ["endless"] spEt
  etk : HasK1 P w K mg base "endless_text" 6 "endless" spEt
  ie : Has P w K mg base "is_endless" 4 ["thing"] (spLookB isE)
  iek : HasK1 P w K mg base "is_endless" 4 "thing" (spLookB isE)
  ir : Has P w K mg base "is_row" 3 ["thing"] spRow
  irk : HasK1 P w K mg base "is_row" 3 "thing" spRow
  sm : Has P w K mg base "_law_same" 4 ["found", "due"] (spSm 3)
  ap : Has P w K mg base "_law_apart" 5 ["thing"] (spAp 3)
theorem ok_to {f : Addr} {fd : FuncData} (F : FunD K "_law_is_told" "_law_is_told" (defArgs sTo) (defBody sTo) (defScope sTo) [] [] f fd) (L : ToK P w K mg base) : FnOk P w K mg base CX0 7 f fd ["handed", "at", "due"] spTo := by
  refine F.ok scTo (fun vs H Q E h => ?_) (fun cdv A outer s H vs Q XE hr h => ?_)
  · obtain ⟨v, u, hs, as, h, a, i, rfl, _⟩ := h
    rfl
  · obtain ⟨v, u, hs, as, h, a, i, rfl, hv, hl, lh, la, tu, k⟩ := h
    have h0 : PS (cxOf CX0 P w K mg base NTo "_law_is_told" (defScope sTo) f cdv A outer s H XE).nox (stOf sTo 0) _ := ps_set (i := 3) scTo.nd rfl (.inl rfl) (pe_lst (pa_cons (pe_has L.le hr (by rfl) (pa_cons (pv 0) pa_nil)) (pa_cons (pe_hasK1 L.lek hr (by rfl) (pv 0)) (pa_cons (pe_has L.fa hr (by rfl) (pa_cons (pv 0) (pa_cons (pv 1) pa_nil))) pa_nil))))
    have h1 : PS (cxOf CX0 P w K mg base NTo "_law_is_told" (defScope sTo) f cdv A outer s H XE).nox (stOf sTo 1) _ := ps_expr (pe_bm PySem.F.plainAttrs_list PySem.F.slot_list_extend PySem.F.type_list_extend mt_extend (pv 3) (pa_cons (pe_lst (pa_cons (pe_hasK L.fak hr (by rfl) (pv 1) (pv 0)) (pa_cons (pe_has L.et hr (by rfl) (pa_cons (pv 0) pa_nil)) (pa_cons (pe_hasK1 L.etk hr (by rfl) (pv 0)) pa_nil)))) pa_nil))
    have h2 : PS (cxOf CX0 P w K mg base NTo "_law_is_told" (defScope sTo) f cdv A outer s H XE).nox (stOf sTo 2) _ := ps_expr (pe_bm PySem.F.plainAttrs_list PySem.F.slot_list_extend PySem.F.type_list_extend mt_extend (pv 3) (pa_cons (pe_lst (pa_cons (pe_has L.ie (hr.mono (by decide)) (by rfl) (pa_cons (pv 0) pa_nil)) (pa_cons (pe_hasK1 L.iek (hr.mono (by decide)) (by rfl) (pv 0)) (pa_cons (pe_has L.ir (hr.mono (by decide)) (by rfl) (pa_cons (pe_ix ix_seq (pv 0) pe_int (fun _ _ => rfl)) pa_nil)) (pa_cons (pe_hasK1 L.irk (hr.mono (by decide)) (by rfl) (pe_ix ix_seq (pv 0) pe_int (fun _ _ => rfl))) pa_nil))))) pa_nil))
    have h3 : PS (cxOf CX0 P w K mg base NTo "_law_is_told" (defScope sTo) f cdv A outer s H XE).nox (stOf sTo 3) _ := ps_ret (pe_and (pe_has L.sm (hr.mono (by decide)) (by rfl) (pa_cons (pv 3) (pa_cons (pv 2) pa_nil))) (pe_one (pe_has L.ap (hr.mono (by decide)) (by rfl) (pa_cons (pv 3) pa_nil))))
    refine ⟨_, PSs.nox (PSs.of_eq bdTo (pss_cons h0 (pss_cons h1 (pss_cons h2 (pss_one h3))))), ?_⟩
    clear h0 h1 h2 h3
    obtain ⟨fx, fy, a0, l1, l2, x, y, vx, vy, lx, ly, ex, ey, tx, ty, ix, iy⟩ := K14.T3.EndV.parts (K := K) hv
    refine ⟨v, rfl, v, hs, as, rfl, hv, fun H1 p1 q1 r1 g1 b1 s1 t1 t2 t3 n1 n2 n3 il1 => ?_⟩
    obtain ⟨rfl, rfl⟩ := hl.one (least_fig a0 il1)
    refine ⟨v, rfl, v, hs, as, rfl, hv.ext s1, fun H2 p2 q2 r2 g2 b2 s2 w1 w2 w3 m1 m2 m3 il2 => ?_⟩
    obtain ⟨rfl, rfl⟩ := hl.one (least_fig a0 il2)
    refine ⟨v, rfl, .int (i : Nat), rfl, v, hs, as, i, rfl, (hv.ext s1).ext s2, fun H3 s3 => ⟨small4 3, fun F nF => ?_⟩⟩
    have s4 := same_new (o := .lst [.ref p1, .ref p2, .int (figAt hs as i)]) nF
    have hF := upd_same (H := H3) (a := F) (o := .lst [.ref p1, .ref p2, .int (figAt hs as i)])
    have S4 : L2.Same H (upd H3 F (.lst [.ref p1, .ref p2, .int (figAt hs as i)])) := s1.trans (s2.trans (s3.trans s4))
    have o1 := own_pair (s4 _ _ (s3 _ _ (s2 _ _ t1))) (s4 _ _ (s3 _ _ (s2 _ _ t2))) (s4 _ _ (s3 _ _ (s2 _ _ t3))) lh la
    have o2 := own_pair (s4 _ _ (s3 _ _ w1)) (s4 _ _ (s3 _ _ w2)) (s4 _ _ (s3 _ _ w3)) lh la
    have d1 : q1 ≠ q2 := ne_of_none t2 m1
    have d2 : q1 ≠ r2 := ne_of_none t2 m2
    have d3 : r1 ≠ q2 := ne_of_none t3 m1
    have d4 : r1 ≠ r2 := ne_of_none t3 m2
    have f1 : F ≠ q1 := fun z => ne_of_none (s3 _ _ (s2 _ _ t2)) nF z.symm
    have f2 : F ≠ r1 := fun z => ne_of_none (s3 _ _ (s2 _ _ t3)) nF z.symm
    have f3 : F ≠ q2 := fun z => ne_of_none (s3 _ _ w2) nF z.symm
    have f4 : F ≠ r2 := fun z => ne_of_none (s3 _ _ w3) nF z.symm
    have nFH : H F = none := (s1.trans (s2.trans s3)).free nF
    have u1 : H q1 = none := n1
    have u2 : H r1 = none := n2
    have u3 : H q2 = none := s1.free m1
    have u4 : H r2 = none := s1.free m2
    generalize upd H3 F (.lst [.ref p1, .ref p2, .int (figAt hs as i)]) = H4 at hF S4 o1 o2 ⊢
    clear t1 t2 t3 n1 n2 w1 w2 w3 m1 m2 s1 s2 s3 s4 nF il1 il2 hl
    refine gset ?_
    -- what is kept through a change of F
    have kp : ∀ {G J : Hp} {q r : Addr} {x : V} {d : PyData}, Exc F G J → (∃ ys, G F = some (.lst ys)) → F ≠ q → F ≠ r → Own G x d [q, r] → Own J x d [q, r] := fun {G J q r x d} e ⟨ys, hf⟩ n1 n2 o => o.keep (fun b m o eb => e b o eb (by
      rcases List.mem_cons.mp m with z | z
      · rw [z]; exact n1.symm
      · rw [List.mem_singleton.mp z]; exact n2.symm)) (fun b xs eb => e b _ eb (fun z => by rw [z, hf] at eb; cases eb))
    refine ⟨.ref F, rfl, .inl ⟨rfl, _, .inl (.inl hF)⟩, .int (i : Nat), rfl, v, rfl, v, hs, as, i, rfl, hv.ext S4, fun H5 s5 => ⟨v, rfl, v, hs, as, rfl, (hv.ext S4).ext s5, fun H6 s6 => ⟨v, rfl, v, hs, as, rfl, ((hv.ext S4).ext s5).ext s6, fun H7 s7 => ⟨small4 3, fun p np => ?_⟩⟩⟩⟩
    have s8 := same_new (o := .lst [.int (figAt hs as i), .str (endT hs as), .str (endT hs as)]) np
    have T8 := s5.trans (s6.trans (s7.trans s8))
    refine ⟨F, p, _, _, rfl, rfl, T8 _ _ hF, upd_same, by rw [sizeLine_eq]; exact Nat.le_of_ble_eq_true rfl, ?_⟩
    generalize upd H7 p (.lst [.int (figAt hs as i), .str (endT hs as), .str (endT hs as)]) = H8 at T8 ⊢
    clear s5 s6 s7 s8 np
    have X9 : Exc F H4 (upd H8 F (.lst ([.ref p1, .ref p2, .int (figAt hs as i)] ++ [.int (figAt hs as i), .str (endT hs as), .str (endT hs as)]))) := (Exc.of T8).trans Exc.upd
    have hF9 := upd_same (H := H8) (a := F) (o := .lst ([.ref p1, .ref p2, .int (figAt hs as i)] ++ [.int (figAt hs as i), .str (endT hs as), .str (endT hs as)]))
    generalize upd H8 F (.lst ([.ref p1, .ref p2, .int (figAt hs as i)] ++ [.int (figAt hs as i), .str (endT hs as), .str (endT hs as)])) = H9 at X9 hF9 ⊢
    have S9 : L2.Same H H9 := fun b o e => X9 b o (S4 b o e) (ne_of_none e nFH)
    have o1 := kp X9 ⟨_, hF⟩ f1 f2 o1
    have o2 := kp X9 ⟨_, hF⟩ f3 f4 o2
    clear X9 hF S4 T8
    have rw1 : ∀ {z : PyData} {ns : List Int}, isL z = true → its z = ns.map PyData.int → figsB ns → isR z = true := fun {z ns} l e f => by
      unfold isR
      rw [l, e, Bool.true_and]
      exact List.all_eq_true.mpr fun q hq => by
        obtain ⟨n, hn, rfl⟩ := List.mem_map.mp hq
        rcases f n hn with rfl | rfl <;> rfl
    have rx := rw1 lx ex fx
    have ry := rw1 ly ey fy
    obtain ⟨d, td, ed, bd1, bd2⟩ := hv.look
    refine ⟨.ref F, rfl, .inl ⟨rfl, _, .inl (.inl hF9)⟩, v, rfl, v, d, rfl, td.ext S9, bd1, bd2, fun H10 s10 => ⟨v, rfl, v, d, rfl, (td.ext S9).ext s10, bd1, bd2, fun H11 s11 => ?_⟩⟩
    have S11 := S9.trans (s10.trans s11)
    refine ⟨v, rfl, ix H11 S11 _ ⟨vx, x, rfl, tx.ext S11, by rw [ex, List.length_map]; omega, fun H12 s12 => ?_⟩⟩
    refine ⟨v, rfl, iy H12 (S11.trans s12) _ ⟨vy, y, rfl, ty.ext (S11.trans s12), by rw [ey, List.length_map]; omega, fun H13 s13 => ⟨small4 4, fun p np => ?_⟩⟩⟩
    rw [ed, rx, ry]
    have s14 := same_new (o := .lst [.bl true, .bl true, .bl true, .bl true]) np
    have T14 := s10.trans (s11.trans (s12.trans (s13.trans s14)))
    refine ⟨F, p, _, _, rfl, rfl, T14 _ _ hF9, upd_same, by rw [sizeLine_eq]; exact Nat.le_of_ble_eq_true rfl, ?_⟩
    generalize upd H13 p (.lst [.bl true, .bl true, .bl true, .bl true]) = H14 at T14 ⊢
    clear s10 s11 s12 s13 s14 np S11
    have o1 := kp (Exc.of T14) ⟨_, hF9⟩ f1 f2 o1
    have o2 := kp (Exc.of T14) ⟨_, hF9⟩ f3 f4 o2
    have hF14 := T14 _ _ hF9
    have S14 := S9.trans T14
    generalize hxs : ([V.ref p1, .ref p2, .int (figAt hs as i)] ++ [.int (figAt hs as i), .str (endT hs as), .str (endT hs as)]) ++ [.bl true, .bl true, .bl true, .bl true] = xs
    have X15 : Exc F H14 (upd H14 F (.lst xs)) := Exc.upd
    have hF15 := upd_same (H := H14) (a := F) (o := .lst xs)
    generalize upd H14 F (.lst xs) = H15 at X15 hF15 ⊢
    have o1 := kp X15 ⟨_, hF14⟩ f1 f2 o1
    have o2 := kp X15 ⟨_, hF14⟩ f3 f4 o2
    have S15 : L2.Same H H15 := fun b o e => X15 b o (S14 b o e) (ne_of_none e nFH)
    have oF : Own H15 (.ref F) (toD h a (figAt hs as i) (endT hs as)) [F, q1, r1, q2, r2] := by
      refine .lst hF15 (by rw [← hxs]; exact Nat.le_of_ble_eq_true rfl) ?_
      rw [← hxs]
      exact OwnA.cons (f := [q1, r1]) (g := [q2, r2]) o1 (OwnA.cons (f := [q2, r2]) (g := []) o2 (OwnA.cons (f := []) (g := []) (.int _) (OwnA.cons (f := []) (g := []) (.int _) (OwnA.cons (f := []) (g := []) (.str _) (OwnA.cons (f := []) (g := []) (.str _)
        (OwnA.cons (f := []) (g := []) (.bl _) (OwnA.cons (f := []) (g := []) (.bl _) (OwnA.cons (f := []) (g := []) (.bl _) (OwnA.cons (f := []) (g := []) (.bl _) .nil)))))))))
    have nd : [F, q1, r1, q2, r2].Nodup := by
      simp only [List.nodup_cons, List.mem_cons, List.not_mem_nil, or_false, not_or, not_false_eq_true, List.nodup_nil, and_true]
      exact ⟨⟨f1, f2, f3, f4⟩, ⟨n3, d1, d2⟩, ⟨d3, d4⟩, m3⟩
    refine nx_intro (ret_intro ?_)
    refine ⟨.ref F, rfl, u, rfl, .ref F, u, _, rfl, oF.th, tu.ext S15, toD_fit lh la, fun H16 s16 => ⟨_, rfl, ?_⟩⟩
    refine iteT ⟨.ref F, rfl, .ref F, _, _, rfl, oF.ext s16, toD_fit lh la, toD_cln, nd, fun H17 e => k H17 fun b o eb => e b o (fun z => ?_) (s16 b o (S15 b o eb))⟩
    have nn : H b ≠ none := by
      rw [eb]
      exact fun z => nomatch z
    simp only [List.mem_cons, List.not_mem_nil, or_false] at z
    rcases z with rfl | rfl | rfl | rfl | rfl
    · exact nn nFH
    · exact nn u1
    · exact nn u2
    · exact nn u3
    · exact nn u4
end
end K14.T3
namespace K14
open PySem PySem.W PySem.Calls PyProof.Rows L2 LamX
open He (ga)
open Kz (small4 same_new boot_in boot_li new_ext Has pe_has noE PSs.of_eq)
/-! ### displays of data -/
/-- the expression makes a new thing that is d -/
def Mk (te : TE) (d : PyData) : Prop := ∀ (σ : L2.St) (H : Hp) (Q : VK), (∀ (v : V) (H' : Hp), L2.Same H H' → Th H' v d → Q v H') → te σ H Q
def MkA (ta : TA) (ds : List PyData) : Prop := ∀ (σ : L2.St) (H : Hp) (Q : List V → Hp → Prop), (∀ (vs : List V) (H' : Hp), L2.Same H H' → ThAll H' vs ds → Q vs H') → ta σ H Q
theorem mk_non : Mk (tC .non) .none := fun σ H Q k => k _ H (fun _ _ e => e) .non
theorem mk_int {i : Int} : Mk (tC (.int i)) (.int i) := fun σ H Q k => k _ H (fun _ _ e => e) (.int i)
theorem mk_bl {b : Bool} : Mk (tC (.bl b)) (.bool b) := fun σ H Q k => k _ H (fun _ _ e => e) (.bl b)
theorem mk_str {x : Str} : Mk (tC (.str x)) (.str x) := fun σ H Q k => k _ H (fun _ _ e => e) (.str x)
theorem mka_nil : MkA tNil [] := fun σ H Q k => k [] H (fun _ _ e => e) .nil
theorem mka_cons {te : TE} {ta : TA} {d : PyData} {ds : List PyData} (h1 : Mk te d) (h2 : MkA ta ds) : MkA (tCons te ta) (d :: ds) := fun σ H Q k => h1 σ H _ fun v H1 e1 t1 => h2 σ H1 _ fun vs H2 e2 t2 => k (v :: vs) H2 (e1.trans e2) (.cons (t1.ext e2) t2)
theorem mk_lst {ta : TA} {ds : List PyData} (h : MkA ta ds) (l : ds.length ≤ 1000 := by exact Nat.le_of_ble_eq_true rfl) : Mk (tLst ta) (.list ds) := fun σ H Q k => h σ H _ fun vs H1 e1 t1 => ⟨by rw [t1.length, sizeLine_eq]; omega, fun p np => k _ _ (e1.trans (same_new np)) (.lst upd_same (t1.ext (same_new np)))⟩
theorem mk_tup {ta : TA} {ds : List PyData} (h : MkA ta ds) (l : ds.length ≤ 1000 := by exact Nat.le_of_ble_eq_true rfl) : Mk (tTup ta) (.tuple ds) := fun σ H Q k => h σ H _ fun vs H1 e1 t1 => ⟨by rw [t1.length, sizeLine_eq]; omega, fun p np => k _ _ (e1.trans (same_new np)) (.tup upd_same (t1.ext (same_new np)))⟩
/-- what is a thing in H is one where the tables aren't looked at -/
theorem Th.hid {H : Hp} : ∀ {v : V} {d : PyData}, Th H v d → Th (Hid [] H) v d := fun {v d} t => by
  refine Th.rec (motive_1 := fun v d _ => Th (Hid [] H) v d) (motive_2 := fun vs ds _ => ThAll (Hid [] H) vs ds) (motive_3 := fun kvs ps _ => ThKv (Hid [] H) kvs ps) .non .bl .int .str (fun h _ r => .lst (hid_of (fun z => nomatch z) h (fun ps z => nomatch z)) r) (fun h _ r => .tup (hid_of (fun z => nomatch z) h (fun ps z => nomatch z)) r) (fun h _ r => .dct (hid_of (fun z => nomatch z) h (fun ps z => nomatch z)) r) .nil (fun _ _ a b => .cons a b) .nil (fun _ _ a b => .cons a b) t
end K14
namespace K14
open PySem PySem.W PySem.Calls PyProof.Rows L2 LamX
open He (ga)
open Kz (SS ExtS ExtS.trans ExtS.refl small4 same_new boot_in boot_li new_ext Has pe_has noE PSs.of_eq)
/-! ### asks: _law_row_or(lambda: ..) -/
theorem same_N {H H1 : Hp} (e : L2.Same H H1) : ExtN H H1 := ExtN.of e
def Gives (T : List (Addr × Str)) (te : TE) (S : L2.St → Prop) (H0 : Hp) (w : Str) (v : V) : Prop := ∀ (σ : L2.St) (H : Hp) (Q : VK), S σ → ExtN H0 H → Tabs T H → (∀ (H' : Hp) (t : Addr), ExtN H H' → Tabs T H' → H' t = some (.tup [.str w, v]) → Q (.ref t) H') → te σ H Q
theorem tabS_lst {H : Hp} {P F : Addr} {q : Str} {xs ys : List V} (t : TabS H P q) (hF : H F = some (.lst xs)) : TabS (upd H F (.lst ys)) P q := by
  obtain ⟨ps, h1, h2, h3⟩ := t
  refine ⟨ps, ?_, h2, fun pos cv hc => ?_⟩
  · rw [upd_ne (fun z => by rw [z, hF] at h1; cases h1)]
    exact h1
  · obtain ⟨c, e, h⟩ := h3 pos cv hc
    refine ⟨c, e, ?_⟩
    rw [upd_ne (fun z => by
      rw [z, hF] at h
      unfold CodeO at h
      cases h)]
    exact h
theorem tabs_lst {T : List (Addr × Str)} {H : Hp} {F : Addr} {xs ys : List V} (t : Tabs T H) (hF : H F = some (.lst xs)) : Tabs T (upd H F (.lst ys)) := fun p hp => tabS_lst (t p hp) hF
theorem ext_lst {H0 H : Hp} {F : Addr} {u : HO} (n : ∀ o, H0 F = some o → ∃ ps, o = .tbl ps) (e : ExtN H0 H) : ExtN H0 (upd H F u) := fun b o h t => by
  rw [upd_ne (fun z => by
    rw [z] at h
    obtain ⟨ps, q⟩ := n o h
    exact t ps q)]
  exact e b o h t
theorem none_tbl {H0 H : Hp} {F : Addr} (e : ExtN H0 H) (n : H F = none) : ∀ o, H0 F = some o → ∃ ps, o = .tbl ps := fun o h => by
  cases o with
  | tbl ps => exact ⟨ps, rfl⟩
  | _ =>
    rw [e _ _ h (fun ps z => nomatch z)] at n
    cases n
theorem fit_mono : ∀ {n : Nat} {d : PyData}, fitS n d = true → fitS (n + 1) d = true := by
  intro n
  induction n with
  | zero => intro d h; cases d <;> first | rfl | exact absurd (show false = true from h) Bool.false_ne_true
  | succ n ih =>
    intro d h
    have go : ∀ xs : List PyData, (decide (xs.length ≤ 1000) && xs.all (fitS n)) = true → (decide (xs.length ≤ 1000) && xs.all (fitS (n + 1))) = true := fun xs h => by
      obtain ⟨h1, h2⟩ := Bool.and_eq_true_iff.mp h
      rw [h1, Bool.true_and]
      exact List.all_eq_true.mpr fun x hx => ih (List.all_eq_true.mp h2 x hx)
    cases d with
    | list xs => exact go xs h
    | tuple xs => exact go xs h
    | dict ps =>
      obtain ⟨h1, h2⟩ := Bool.and_eq_true_iff.mp (show (decide (ps.length ≤ 1000) && fitS n (.list (ps.map fun p => .tuple [p.1, p.2]))) = true from h)
      show (decide (ps.length ≤ 1000) && fitS (n + 1) (.list (ps.map fun p => .tuple [p.1, p.2]))) = true
      rw [h1, Bool.true_and]
      exact ih h2
    | _ => rfl
section
variable {K : Frag} {T : List (Addr × Str)} {te : TE} {S : L2.St → Prop} {H0 H : Hp} {w : Str} {v : V} {σ : L2.St} {D : Ends} {F : Addr} {n : Nat}
theorem fit_say {m : Nat} {d : PyData} (hd : fitS m d = true) : fitS (m + 1) (.tuple [.str w, d]) = true := by
  show (decide (2 ≤ 1000) && (fitS m (.str w) && (fitS m d && true))) = true
  rw [hd]
  cases m <;> rfl
end
end K14
namespace K14
open PySem PySem.W PySem.Calls PyProof.Rows L2 LamX
open He (ga)
open Kz (SS ExtS ExtS.trans ExtS.refl small4 same_new boot_in boot_li new_ext Has pe_has noE PSs.of_eq)
section
variable {K : Frag} {T : List (Addr × Str)} {te : TE} {S : L2.St → Prop} {H0 H : Hp} {w : Str} {v : V} {σ : L2.St} {D : Ends} {F : Addr} {n : Nat} {u A : TS}
theorem mk_neg {i : Int} : Mk (tUn (rU fun i => .int (-i)) (tC (.int i))) (.int (-i)) := fun σ H Q k => ⟨i, rfl, k _ H (fun _ _ e => e) (.int _)⟩
theorem mk_d0 : Mk tDNewK (.dict []) := fun σ H Q k p np => k _ _ (same_new np) (.dct upd_same .nil)
theorem run_tup {ds : List PyData} {R : It → Hp → Prop} (m : Mk te (.tuple ds)) (k : ∀ (H' : Hp) (a : Addr) (xs : List V), L2.Same H H' → H' a = some (.tup xs) → ThAll H' xs ds → R (Itt K a) H') : iTup K te σ H R := m σ H _ fun v H' e t => by
  cases t with
  | tup h r => exact ⟨_, rfl, ⟨_, .inl (.inl h)⟩, k H' _ _ e h r⟩
theorem tup_for {ds : List PyData} {g : TG} {tb : TS} (m : Mk te (.tuple ds)) (Pv : Hp → L2.St → Hp → Prop) (h0 : ∀ H', L2.Same H H' → Pv H' σ H') (hk : ∀ HU σ' G, Pv HU σ' G → ExtN HU G)
    (hs : ∀ HU y d σ' G, L2.Same H HU → d ∈ ds → Th (Hid [] HU) y d → Pv HU σ' G → g y σ' G fun σ2 H2 => tb { nx := Pv HU, rt := D.rt, bk := u D, ct := Pv HU } σ2 H2) (he : ∀ HU σ' G, L2.Same H HU → Pv HU σ' G → u D σ' G) : tSeq (tFor (iTup K te) g tb) u D σ H := by
  unfold tSeq tFor
  refine run_tup m fun HU pu us eU qU rU => ?_
  refine for_tup (D := { nx := u D, rt := D.rt, bk := D.bk, ct := D.ct }) (xs := us) (fun _ => Pv HU) (h0 HU eU) (fun j σ G _ e => .inl (.inl (hk HU σ G e _ _ qU (fun ps z => nomatch z)))) (fun j y σ G hy e => ?_) (fun σ G e => he HU σ G eU e)
  obtain ⟨d, hd, ty⟩ := rU.get hy
  exact hs HU y d σ G eU (List.mem_of_getElem? hd) ty.hid e
end
theorem fun_code {K : Frag} {x : Str} {params : Arguments} {body : List Stmt} {scope : Scope} {f : Addr} {fd : FuncData} (F : FunD K x x params body scope [] [] f fd) : ∃ (oc : Value) (od : Option Addr) (kV doc pm : Value) (an : Option Addr) (c : Addr) (ct : Value) (osl : Array (Option Value)),
    fd = fnOf x x params body scope .none kV doc pm an (.ref c) ct ∧ K.lookup f = some ⟨oc, od, .func (fnOf x x params body scope .none kV doc pm an (.ref c) ct), osl⟩ ∧ codeIn K (.ref c) x = true := by
  obtain ⟨oc, od, dV, kV, doc, pm, an, cdv, ct, osl, rfl, lk, hcd, hD, _⟩ := F.ex
  obtain ⟨c, rfl⟩ := He.codeIn_ref hcd
  rcases hD with ⟨_, rfl⟩ | ⟨e, _⟩
  · exact ⟨oc, od, kV, doc, pm, an, c, ct, osl, rfl, lk, hcd⟩
  · exact absurd rfl e
end K14
namespace K14
open PySem PySem.W PySem.Calls PyProof.Rows L2 LamX
open He (ga)
open Kz (SS ExtS ExtS.trans ExtS.refl spStart small4 same_new boot_in boot_li new_ext Has pe_has noE FnG PSs.of_eq)
theorem tabs_S {T : List (Addr × Str)} {H H1 : Hp} {l li : Addr} {c : Int} (t : Tabs T H) (s : Spr H l li c) (e : ExtS l li H H1) : Tabs T H1 := fun p hp => by
  obtain ⟨ps, h1, h2, h3⟩ := t p hp
  obtain ⟨ns, b, d, ss, _⟩ := s
  have nl : ∀ {a : Addr} {o : HO}, H a = some o → (∀ xs, o ≠ .lst xs) → a ≠ l ∧ a ≠ li := fun h n => ⟨fun z => (by rw [z, ss.l1] at h; exact n _ (Option.some.inj h).symm), fun z => (by rw [z, ss.l2] at h; exact n _ (Option.some.inj h).symm)⟩
  have n1 := nl h1 (fun xs z => nomatch z)
  refine ⟨ps, e _ _ h1 n1.1 n1.2, h2, fun pos cv hc => ?_⟩
  obtain ⟨c, ec, h⟩ := h3 pos cv hc
  have n2 := nl h (fun xs z => by
    unfold CodeO at z
    cases z)
  exact ⟨c, ec, e _ _ h n2.1 n2.2⟩
end K14
namespace K14.T3
open T27
open K14.Gn
open PySem PySem.W PySem.Calls PyProof.Rows L2 LamX
open He (ga)
open Kz (SS ExtS ExtS.trans ExtS.refl small4 same_new boot_in boot_li boot_isi Has pe_has noE PSs.of_eq seqI new_ext X1)
/-! ### _law_texts_right -/
theorem pe_alt {X : Cx} {e : Expr} {t1 t2 : TE} (h1 : PE X e t1) (h2 : PE X e t2) : PE X e (fun σ H Q => t1 σ H Q ∨ t2 σ H Q) := ⟨fun pins s σ H Q I h => h.elim (h1.run pins s σ H Q I) (h2.run pins s σ H Q I)⟩
abbrev sTr : Stmt := topS 62
abbrev NTr : List Str := ["stream", "endless", "text", "k", "bent", "due", "found"]
theorem scTr : FnScope NTr ["stream", "endless"] (defScope sTr) := ⟨rfl, rfl, rfl, by decide +kernel, rfl, by decide +kernel, by decide +kernel⟩
theorem bdTr : defBody sTr = [stOf sTr 0, stOf sTr 1, stOf sTr 2, stOf sTr 3] := by rfl
def fbT (i : Nat) : Stmt := (forBody (stOf sTr 2)).getD i (.Pass ⟨0, 0, 0, 0⟩)
theorem bdTF : forBody (stOf sTr 2) = [fbT 0, fbT 1, fbT 2, fbT 3, fbT 4, fbT 5] := by rfl
def qTr : Str := (("_law_texts_right" : Str) ++ ".<locals>.") ++ "<lambda>"
structure TrK (P : Program) (w : World) (K : Frag) (mg : Str → Option Value) (base : Heap) : Prop where
  lt : Has P w K mg base "_law_endless_text" 1 ["endless"] spEt
  re : Has P w K mg base "read_endless" 3 ["text"] spRe
  rek : HasK1 P w K mg base "read_endless" 3 "text" spRe
  rex : HasX P w K mg base "read_endless" 3 ["text"] (spReX K)
  be : Has P w K mg base "_law_bent_text" 3 ["stream", "text"] spBe
  lf : Has P w K mg base "_law_endless_fault" 1 ["text"] spLf
  ef : Has P w K mg base "endless_fault" 2 ["text"] spEf
  efk : HasK1 P w K mg base "endless_fault" 2 "text" spEf
  sm : Has P w K mg base "_law_same" 4 ["found", "due"] (spSm 3)
section
variable {P : Program} {w : World} {K : Frag} {mg : Str → Option Value} {base : Heap}
abbrev XTr (P : Program) (w : World) (K : Frag) (mg : Str → Option Value) (base : Heap) (f : Addr) (cdv : Value) (A : Around) (outer : List Env) (s : Shared) (H : Hp) (XE : XK) : Cx := (cxOf CX0 P w K mg base NTr "_law_texts_right" (defScope sTr) f cdv A outer s H XE).nox
theorem noXt {f : Addr} {cdv : Value} {A : Around} {outer : List Env} {s : Shared} {H : Hp} {XE : XK} {A' : Around} {outer' : List Env} {s' : Shared} {H' : Hp} {E : XK} {scope : Scope} {f' c' : Addr} : Passes (L2.CX P w) (lamCx (XTr P w K mg base f cdv A outer s H XE) A' outer' s' H' E scope f' c') E := passes_call (takes_of rfl rfl rfl rfl) (fun _ _ _ _ h => h)
/-- what stays: all but the stream, and the tables of codes -/
def ExtL (l li : Addr) (H H' : Hp) : Prop := ∀ b o, H b = some o → (∀ ps, o ≠ .tbl ps) → b ≠ l → b ≠ li → H' b = some o
theorem ExtL.trans {l li : Addr} {H H1 H2 : Hp} (a : ExtL l li H H1) (b : ExtL l li H1 H2) : ExtL l li H H2 := fun x o e t n1 n2 => b x o (a x o e t n1 n2) t n1 n2
theorem ExtL.ofN {l li : Addr} {H H1 : Hp} (a : ExtN H H1) : ExtL l li H H1 := fun x o e t _ _ => a x o e t
theorem ExtL.ofS {l li : Addr} {H H1 : Hp} (a : ExtS l li H H1) : ExtL l li H H1 := fun x o e _ n1 n2 => a x o e n1 n2
def dE (hs as : List Int) : PyData := .tuple [.list (hs.map .int), .list (as.map .int)]
theorem endV_of {H : Hp} {v : V} {hs as : List Int} (t : Th H v (dE hs as)) (f1 : figsB hs) (f2 : figsB as) (p : 0 < as.length) (l1 : hs.length ≤ 500) (l2 : as.length ≤ 500) : EndV H v hs as := by
  have fig : ∀ ns : List Int, figsB ns → isR (.list (ns.map .int)) = true := fun ns f => by
    show (true && (ns.map PyData.int).all isF) = true
    rw [Bool.true_and]
    exact List.all_eq_true.mpr fun q hq => by
      obtain ⟨n, hn, rfl⟩ := List.mem_map.mp hq
      rcases f n hn with rfl | rfl <;> rfl
  refine ⟨.list (hs.map .int), .list (as.map .int), _, t, ?_, rfl, rfl, rfl, p, l1, l2⟩
  show (true && (isR (.list (hs.map .int)) && (isR (.list (as.map .int)) && decide (0 < (as.map PyData.int).length)))) = true
  rw [fig hs f1, fig as f2, List.length_map, decide_eq_true p]
  rfl
theorem dE_fit {h a : List Int} (lh : h.length ≤ 1000) (la : a.length ≤ 1000) : fitS 3 (dE h a) = true := by
  have e : ∀ g : List Int, g.length ≤ 1000 → fitS 2 (.list (g.map .int)) = true := fun g lg => by
    show (decide ((g.map PyData.int).length ≤ 1000) && (g.map PyData.int).all (fitS 1)) = true
    rw [ints_fit, List.length_map, decide_eq_true lg]
    rfl
  show (decide (2 ≤ 1000) && (fitS 2 (.list (h.map .int)) && (fitS 2 (.list (a.map .int)) && true))) = true
  rw [e h lh, e a la]
  rfl
def oD : Option Nat → PyData
  | none => .none
  | some i => .int (i : Nat)
theorem th_oV {H : Hp} : ∀ o : Option Nat, Th H (oV o) (oD o)
  | none => .non
  | some i => .int _
def spTr (T : List (Addr × Str)) : Sp := fun vs H Q _ => ∃ (l li : Addr) (c : Int) (v : V) (hs as : List Int), vs = [.ref l, v] ∧ Spr H l li c ∧ c < 700000000 ∧ Tabs T H ∧ Th (Hid [l, li] H) v (dE hs as) ∧ figsB hs ∧ figsB as ∧ 0 < as.length ∧ hs.length ≤ 50 ∧ as.length ≤ 50 ∧ ∀ H', ExtL l li H H' → Spr H' l li (c + 18) → Tabs T H' → Q (.bl true) H'
theorem tix0 {G : Hp} {t : Addr} {x0 x1 : V} {Q : VK} (h : G t = some (.tup [x0, x1])) (k : Q x0 G) : rIx K (.ref t) (.int 0) G Q := .inr (.inl ⟨t, _, 0, x0, rfl, rfl, .inl (.inl h), atI_nat (j := 0) rfl, k⟩)
theorem tix1 {G : Hp} {t : Addr} {x0 x1 : V} {Q : VK} (h : G t = some (.tup [x0, x1])) (k : Q x1 G) : rIx K (.ref t) (.int 1) G Q := .inr (.inl ⟨t, _, 1, x1, rfl, rfl, .inl (.inl h), atI_nat (j := 1) rfl, k⟩)
theorem ok_tr {f c Pt g : Addr} {gd : FuncData} {T : List (Addr × Str)} {oc kV doc pm ct : Value} {od an : Option Addr} {osl : Array (Option Value)} (lk : K.lookup f = some ⟨oc, od, .func (fnOf "_law_texts_right" "_law_texts_right" (defArgs sTr) (defBody sTr) (defScope sTr) .none kV doc pm an (.ref c) ct), osl⟩) (hcd : codeIn K (.ref c) "_law_texts_right" = true)
    (TB : TabB base mg c Pt) (hmT : (Pt, qTr) ∈ T) (hu : ∀ p ∈ T, p.1 = Pt → p.2 = qTr)
    (G : FunD K "_law_asked" "_law_asked" (defArgs sAk) (defBody sAk) (defScope sAk) [] [] g gd) (mo : mg "_law_asked" = some (.ref g)) (kp : keepIn K (.ref g) = true) (bd : L2.Binds K gd ["ask"] []) (R : AkK P K mg) (L : TrK P w K mg base) (mr : mg "range" = none) :
    FnOk P w K mg base CX0 6 f (fnOf "_law_texts_right" "_law_texts_right" (defArgs sTr) (defBody sTr) (defScope sTr) .none kV doc pm an (.ref c) ct) ["stream", "endless"] (spTr T) := by
  obtain ⟨og, odg, kVg, docg, pmg, ang, cg, ctg, oslg, rfl, lkg, hcg⟩ := fun_code G
  refine fn_of (CX := CX0) (P := P) (w := w) (mg := mg) (base := base) (k := 5) (N := NTr) lk hcd scTr (fun vs H Q E h => ?_) (fun A outer s H vs Q XE hr hsp => ?_)
  · obtain ⟨l, li, c, v, hs, as, rfl, _⟩ := h
    rfl
  obtain ⟨l, li, ct0, v, hs, as, rfl, sp, cb, hT, tv, fx, fy, a0, l1, l2, k⟩ := hsp
  have gl : Gl (XTr P w K mg base f (.ref c) A outer s H XE) "_law_asked" := rfl
  have gv := ak_gives (X := XTr P w K mg base f (.ref c) A outer s H XE) (g := g) (cdg := .ref cg) (q := qTr) R
  have ask : ∀ {params : Arguments} {body : Expr} {scope : Scope} {p lpos pos : Pos} {t : XK → TE}, LamS (defScope sTr) scope → defaultsOf params (XTr P w K mg base f (.ref c) A outer s H XE).env = ([], []) → (∀ (q : Str) (cl : List (Str × Addr)) (pm cv ctv : Value), bindArgs (kla_fn "<lambda>" q params body scope cl pm cv ctv) ⟨[], []⟩ = pure []) →
      (∀ (A' : Around) (outer' : List Env) (s' : Shared) (H' : Hp) (E : XK) (f' c' : Addr), Room 3 (A'.deeper (lamEnv (XTr P w K mg base f (.ref c) A outer s H XE) scope s'.heap.objs.size f' c')) → PE (lamCx (XTr P w K mg base f (.ref c) A outer s H XE) A' outer' s' H' E scope f' c') body (t E)) →
      PE (XTr P w K mg base f (.ref c) A outer s H XE) (.Call (.Name "_law_asked" p) [.Lambda params body scope lpos] [] pos) (tLam T (tlA K) t) :=
    fun hL hd hb hbody => pe_lamcall gl mo kp lkg hcg bd scAk rfl (.inl rfl) gv TB rfl hmT hu hr hL hd hb hbody
  have h0 : PS (XTr P w K mg base f (.ref c) A outer s H XE) (stOf sTr 0) _ := ps_set (i := 2) scTr.nd rfl (.inl rfl) (pe_has L.lt (hr.mono (by decide)) (by rfl) (pa_cons (pv 1) pa_nil))
  have h1 : PS (XTr P w K mg base f (.ref c) A outer s H XE) (stOf sTr 1) _ := ps_if (PW.pt (pw_or (pt_not (pt_val (pe_has L.sm (hr.mono (by decide)) (by rfl) (pa_cons (pe_has L.re (hr.mono (by decide)) (by rfl) (pa_cons (pv 2) pa_nil)) (pa_cons (pv 1) pa_nil))))) (pw_or1 (pt_not (pt_val (pe_has L.sm (hr.mono (by decide)) (by rfl) (pa_cons (pe_hasK1 L.rek (hr.mono (by decide)) (by rfl) (pv 2)) (pa_cons (pv 1) pa_nil)))))))) (pss_one (ps_ret pe_bl)) pss_nil
  have b0 : PS (XTr P w K mg base f (.ref c) A outer s H XE) (fbT 0) _ := ps_set (i := 4) scTr.nd rfl (.inr rfl) (pe_has L.be (hr.mono (by decide)) (by rfl) (pa_cons (pv 0) (pa_cons (pv 2) pa_nil)))
  have b1 : PS (XTr P w K mg base f (.ref c) A outer s H XE) (fbT 1) _ := ps_set (i := 5) scTr.nd rfl (.inl rfl) (pe_has L.lf (hr.mono (by decide)) (by rfl) (pa_cons (pv 4) pa_nil))
  have b2 : PS (XTr P w K mg base f (.ref c) A outer s H XE) (fbT 2) _ := ps_if (pt_not (pt_val (pe_has L.sm (hr.mono (by decide)) (by rfl) (pa_cons (pe_lst (pa_cons (pe_has L.ef (hr.mono (by decide)) (by rfl) (pa_cons (pv 4) pa_nil)) (pa_cons (pe_hasK1 L.efk (hr.mono (by decide)) (by rfl) (pv 4)) pa_nil))) (pa_cons (pe_lst (pa_cons (pv 5) (pa_cons (pv 5) pa_nil))) pa_nil))))) (pss_one (ps_ret pe_bl)) pss_nil
  have b3 : PS (XTr P w K mg base f (.ref c) A outer s H XE) (fbT 3) _ := ps_set (i := 6) scTr.nd rfl (.inl rfl) (ask (lamS_by (by decide +kernel)) rfl (fun _ _ _ _ _ => rfl) (fun A' o' s' H' E f' c' hr2 => pe_alt (pe_has L.re hr2 (by rfl) (pa_cons (pv 4) pa_nil)) (pe_hasX L.rex hr2 (by rfl) noXt (pa_cons (pv 4) pa_nil))))
  have b4 : PS (XTr P w K mg base f (.ref c) A outer s H XE) (fbT 4) _ := ps_if (PW.pt (pw_or (pt_cmpR op_ne (pe_ix ix_seq (pv 6) pe_int (fun _ _ => rfl)) (pe_ifExp (pt_cmp (pc_isN (pv 5)) (by rfl)) pe_str pe_str) (nomark _)) (pw_or1 (pw_and (pt_cmp (pc_notN (pv 5)) (by rfl)) (pw_and1 (pt_not (pt_val (pe_has L.sm (hr.mono (by decide)) (by rfl) (pa_cons (pe_ix ix_seq (pv 6) pe_int (fun _ _ => rfl)) (pa_cons (pv 5) pa_nil))))))).pt))) (pss_one (ps_ret pe_bl)) pss_nil
  have b5 : PS (XTr P w K mg base f (.ref c) A outer s H XE) (fbT 5) _ := ps_if (pw_and (pt_cmp (pc_isN (pv 5)) (by rfl)) (pw_and1 (pt_cmpR op_ne (pe_has L.lt (hr.mono (by decide)) (by rfl) (pa_cons (pe_ix ix_seq (pv 6) pe_int (fun _ _ => rfl)) pa_nil)) (pv 4) (nomark _)))).pt (pss_one (ps_ret pe_bl)) pss_nil
  have h2 : PS (XTr P w K mg base f (.ref c) A outer s H XE) (stOf sTr 2) _ := ps_for PassesOwn.never rfl (pi_range1 (by rfl) mr (pa_cons pe_int pa_nil)) (pg_name (i := 3) scTr.nd rfl (.inl rfl)) (PSs.of_eq bdTF (pss_cons b0 (pss_cons b1 (pss_cons b2 (pss_cons b3 (pss_cons b4 (pss_one b5)))))))
  have h3 : PS (XTr P w K mg base f (.ref c) A outer s H XE) (stOf sTr 3) _ := ps_ret pe_bl
  have PP := PSs.of_eq bdTr (pss_cons h0 (pss_cons h1 (pss_cons h2 (pss_one h3))))
  clear h0 h1 h2 h3 b0 b1 b2 b3 b4 b5 ask gv
  refine ⟨_, PSs.nox PP, ?_⟩
  clear PP
  have ev := endV_of (tv.ext hid_up) fx fy a0 (by omega) (by omega)
  have lt : (endT hs as).length ≤ 102 := by
    rw [TL.len_tl, endT_tl]
    simp
    omega
  refine ⟨v, rfl, v, hs, as, rfl, ev, fun H1 s1 => ?_⟩
  refine gset ?_
  have thE : ∀ {G : Hp} {p q r : Addr}, G p = some (.tup [.ref q, .ref r]) → G q = some (.lst (hs.map V.int)) → G r = some (.lst (as.map V.int)) → Th G (.ref p) (dE hs as) := fun t1 t2 t3 => .tup t1 (.cons (.lst t2 (own_ints hs).th) (.cons (.lst t3 (own_ints as).th) .nil))
  have tv0 : Th H v (dE hs as) := tv.ext hid_up
  refine ⟨_, rfl, hs, as, rfl, fx, fy, a0, by omega, by omega, fun H2 p2 q2 r2 s2 u1 u2 u3 _ _ _ => ⟨v, rfl, .ref p2, v, dE hs as, rfl, thE u1 u2 u3, (tv0.ext s1).ext s2, dE_fit (by omega) (by omega), fun H3 s3 => ⟨true, rfl, iteF ?_⟩⟩⟩
  have S3 := s1.trans (s2.trans s3)
  refine ⟨_, rfl, hs, as, rfl, fx, fy, a0, by omega, by omega, fun H4 p4 q4 r4 s4 u1 u2 u3 _ _ _ => ⟨v, rfl, .ref p4, v, dE hs as, rfl, thE u1 u2 u3, (tv0.ext S3).ext s4, dE_fit (by omega) (by omega), fun H5 s5 => ⟨true, rfl, iteF ?_⟩⟩⟩
  have S5 := S3.trans (s4.trans s5)
  clear s1 s2 s3 s4 s5 S3
  refine nx_intro ?_
  refine ⟨6, rfl, by decide, by decide, for_range (lo := 0) (n := (6 : Int).toNat) (fun j σ G => ∃ (a3 a4 a5 a6 : Option V), σ = [some (.ref l), some v, some (.str (endT hs as)), a3, a4, a5, a6] ∧ Spr G l li (ct0 + 3 * (j : Nat)) ∧ ExtL l li H G ∧ Tabs T G) ⟨none, none, none, none, rfl, ?_, .ofN (.of S5), hT.ext S5⟩ (fun j σ G hj e => ?_) (fun σ G e => ?_)⟩
  · have := sp.same S5
    simpa using this
  · obtain ⟨a3, a4, a5, a6, rfl, sG, eG, tG⟩ := e
    have j6 : j < 6 := hj
    refine gset ?_
    refine ⟨.ref l, rfl, _, rfl, l, li, ct0 + 3 * (j : Nat), endT hs as, rfl, sG, by omega, by omega, fun G1 y e1 sp1 ly => ?_⟩
    refine gset ?_
    have ly2 : y.length ≤ 206 := by omega
    have T1 := tabs_S tG sG e1
    have E1 : ExtL l li H G1 := eG.trans (.ofS e1)
    refine ⟨_, rfl, y, rfl, by omega, fun G2 s2 => ?_⟩
    refine gset ?_
    refine ⟨_, rfl, .inl ⟨y, rfl, by omega, fun G3 s3 => ⟨_, rfl, .inl ⟨y, rfl, by omega, fun G4 s4 => ⟨small4 2, fun p1 n1 => ?_⟩⟩⟩⟩⟩
    refine ⟨_, rfl, _, rfl, small4 2, fun p2 n2 => ?_⟩
    generalize ho : flt (TL.tl y) 0 0 = o at n2 ⊢
    have x1 := same_new (o := .lst [oV o, oV o]) n1
    have x2 := same_new (o := .lst [oV o, oV o]) n2
    have foo : fitS 3 (.list [oD o, oD o]) = true := by cases o <;> rfl
    refine ⟨.ref p1, .ref p2, .list [oD o, oD o], rfl, .lst (x2 _ _ upd_same) (.cons (th_oV o) (.cons (th_oV o) .nil)), .lst upd_same (.cons (th_oV o) (.cons (th_oV o) .nil)), foo, fun G7 s7 => ⟨true, rfl, iteF ?_⟩⟩
    have S7 := s2.trans (s3.trans (s4.trans (x1.trans (x2.trans s7))))
    clear s2 s3 s4 x1 x2 s7 n1 n2
    have T7 := T1.ext S7
    have sp7 := sp1.same S7
    have E7 : ExtL l li H G7 := E1.trans (.ofN (.of S7))
    clear S7 T1 sp1 E1 e1 sG eG tG
    refine ⟨T7, fun G8 e8 T8 => ?_⟩
    have sp8 := sp7.extN e8
    have E8 : ExtL l li H G8 := E7.trans (.ofN e8)
    clear e8 T7 sp7 E7
    have ec : ct0 + 3 * ((j : Nat) : Int) + 3 = ct0 + 3 * ((j + 1 : Nat) : Int) := by push_cast; omega
    rw [ec] at sp8
    have fin : ∀ {G9 : Hp} {b3 b6 : Option V}, L2.Same G8 G9 → ∃ (a3 a4 a5 a6 : Option V), [some (.ref l), some v, some (.str (endT hs as)), b3, some (.str y), some (oV o), b6] = [some (.ref l), some v, some (.str (endT hs as)), a3, a4, a5, a6] ∧ Spr G9 l li (ct0 + 3 * ((j + 1 : Nat) : Int)) ∧ ExtL l li H G9 ∧ Tabs T G9 := fun s => ⟨_, _, _, _, rfl, sp8.same s, E8.trans (.ofN (.of s)), T8.ext s⟩
    cases o with
    | none =>
      obtain ⟨hs', as', f1, f2, p0, rfl, ll⟩ := flt_none ho
      refine .inl ⟨_, rfl, hs', as', rfl, f1, f2, p0, by omega, by omega, fun G9 p q r s9 u1 u2 u3 _ _ _ => ⟨small4 2, fun t nt => ?_⟩⟩
      have z1 := same_new (o := .tup [.str "told", .ref p]) nt
      have thp : Th G9 (.ref p) (dE hs' as') := .tup u1 (.cons (.lst u2 (own_ints hs').th) (.cons (.lst u3 (own_ints as').th) .nil))
      have thq := thp.ext z1
      have ht := upd_same (H := G9) (a := t) (o := .tup [.str "told", .ref p])
      have S9 := s9.trans z1
      generalize upd G9 t (.tup [.str "told", .ref p]) = G10 at thq ht S9 ⊢
      refine gset (nx_intro ?_)
      refine ⟨.ref t, rfl, tix0 ht ⟨.non, rfl, _, rfl, iteT ⟨rfl, _, rfl, iteF ?_⟩⟩⟩
      refine ⟨.non, rfl, _, rfl, iteF (iteF ?_)⟩
      refine ⟨.non, rfl, _, rfl, iteT ⟨.ref t, rfl, tix1 ht ⟨.ref p, hs', as', rfl, endV_of thq f1 f2 p0 (by omega) (by omega), fun G11 s11 => ⟨_, rfl, ?_⟩⟩⟩⟩
      refine ⟨rfl, _, rfl, ?_⟩
      rw [decide_eq_true rfl]
      exact iteF (fin (S9.trans s11))
    | some i =>
      refine .inr ⟨_, rfl, .inl ⟨y, i, rfl, by omega, ho, fun H' dx s9 q9 => ⟨("BadText", "text", "index"), by simp [asks], rfl, dx, _, rfl, q9, fun G10 t s10 ht => ?_⟩⟩⟩
      have S9 := s9.trans s10
      refine gset (nx_intro ?_)
      refine ⟨.ref t, rfl, tix0 ht ⟨.int (i : Nat), rfl, _, rfl, iteF ⟨rfl, _, rfl, iteF ?_⟩⟩⟩
      refine ⟨.int (i : Nat), rfl, _, rfl, iteT ⟨.ref t, rfl, tix1 ht ⟨.int (i : Nat), rfl, .int (i : Nat), .int (i : Nat), .int (i : Nat), rfl, .int _, .int _, rfl, fun G11 s11 => ⟨true, rfl, iteF ?_⟩⟩⟩⟩
      exact ⟨.int (i : Nat), rfl, _, rfl, iteF (iteF (fin (S9.trans s11)))⟩
  · obtain ⟨a3, a4, a5, a6, rfl, sG, eG, tG⟩ := e
    exact k G eG (by simpa using sG) tG
end
end K14.T3
namespace K14.T3
open T27
open K14.Gn
open PySem PySem.W PySem.Calls PyProof.Rows L2 LamX
open He (ga)
open Kz (SS ExtS ExtS.trans ExtS.refl small4 same_new boot_in boot_li boot_isi Has pe_has noE PSs.of_eq seqI new_ext X1)
/-! ### _law_boxes_right -/
abbrev sBr : Stmt := topS 64
abbrev NBr : List Str := ["stream", "ends", "rows", "k", "end", "one", "other", "some", "thing", "due", "at", "odd", "bad"]
theorem scBr : FnScope NBr ["stream"] (defScope sBr) := ⟨rfl, rfl, rfl, by decide +kernel, rfl, by decide +kernel, by decide +kernel⟩
theorem bdBr : defBody sBr = [stOf sBr 0, stOf sBr 1, stOf sBr 2, stOf sBr 3, stOf sBr 4, stOf sBr 5] := by rfl
def fbB (i : Nat) : Stmt := (forBody (stOf sBr 2)).getD i (.Pass ⟨0, 0, 0, 0⟩)
theorem bdBF : forBody (stOf sBr 2) = [fbB 0, fbB 1, fbB 2, fbB 3, fbB 4, fbB 5, fbB 6] := by rfl
def fbO : Stmt := (forBody (stOf sBr 3)).getD 0 (.Pass ⟨0, 0, 0, 0⟩)
theorem bdBO : forBody (stOf sBr 3) = [fbO] := by rfl
def fbI (i : Nat) : Stmt := (forBody fbO).getD i (.Pass ⟨0, 0, 0, 0⟩)
theorem bdBI : forBody fbO = [fbI 0, fbI 1] := by rfl
def qBr : Str := (("_law_boxes_right" : Str) ++ ".<locals>.") ++ "<lambda>"
structure BrK (P : Program) (w : World) (K : Frag) (mg : Str → Option Value) (base : Heap) : Prop where
  en : Has P w K mg base "_law_ends" 3 ["stream", "many"] spEn
  dr : Has P w K mg base "_law_draw" 1 ["stream", "many"] spDrW
  pk : Has P w K mg base "_law_pick" 2 ["stream", "some"] spPk
  ig : Has P w K mg base "_law_is_figures" 1 ["thing"] spIg
  bx : Has P w K mg base "is_box" 5 ["ends", "thing"] spBx
  bxk : HasK P w K mg base "is_box" 5 "ends" "thing" spBx
  bxx : HasX P w K mg base "is_box" 5 ["ends", "thing"] (spBxX K)
  sm : Has P w K mg base "_law_same" 4 ["found", "due"] (spSm 3)
section
variable {P : Program} {w : World} {K : Frag} {mg : Str → Option Value} {base : Heap}
abbrev XBr (P : Program) (w : World) (K : Frag) (mg : Str → Option Value) (base : Heap) (f : Addr) (cdv : Value) (A : Around) (outer : List Env) (s : Shared) (H : Hp) (XE : XK) : Cx := (cxOf CX0 P w K mg base NBr "_law_boxes_right" (defScope sBr) f cdv A outer s H XE).nox
theorem noXb {f : Addr} {cdv : Value} {A : Around} {outer : List Env} {s : Shared} {H : Hp} {XE : XK} {A' : Around} {outer' : List Env} {s' : Shared} {H' : Hp} {E : XK} {scope : Scope} {f' c' : Addr} : Passes (L2.CX P w) (lamCx (XBr P w K mg base f cdv A outer s H XE) A' outer' s' H' E scope f' c') E := passes_call (takes_of rfl rfl rfl rfl) (fun _ _ _ _ h => h)
end
end K14.T3
namespace K14.T3
open T27
open K14.Gn
open PySem PySem.W PySem.Calls PyProof.Rows L2 LamX
open He (ga)
open Kz (SS ExtS ExtS.trans ExtS.refl small4 same_new boot_in boot_li boot_isi Has pe_has noE PSs.of_eq seqI new_ext X1)
/-! ### least_endless, endless_text, refused; _law_refused_right -/
section
variable {P : Program} {w : World} {K : Frag} {mg : Str → Option Value} {base : Heap}
theorem okx_le {f : Addr} {fd : FuncData} (F : FunD K "least_endless" "least_endless" (defArgs sLe) (defBody sLe) (defScope sLe) [] [] f fd) (CX : HasX P w K mg base "check_endless" 5 ["endless"] (spOdd isE (ga K "BadEndless"))) : FnOk P w K mg base (L2.CX P w) 6 f fd ["endless"] (spOdd isE (ga K "BadEndless")) := by
  refine F.ok scLe (fun vs H Q E h => ?_) (fun cdv A outer s H vs Q XE hr h => ?_)
  · obtain ⟨v, rfl, _⟩ := h
    rfl
  · obtain ⟨v, rfl, o, k⟩ := h
    exact ⟨_, pss_cons (ps_expr (pe_hasX CX hr (by rfl) noX (pa_cons (pv 0) pa_nil))) pss_never, v, rfl, v, rfl, o, k⟩
theorem okx_et {f : Addr} {fd : FuncData} (F : FunD K "endless_text" "endless_text" (defArgs sEt) (defBody sEt) (defScope sEt) [] [] f fd) (CX : HasX P w K mg base "check_endless" 5 ["endless"] (spOdd isE (ga K "BadEndless"))) : FnOk P w K mg base (L2.CX P w) 6 f fd ["endless"] (spOdd isE (ga K "BadEndless")) := by
  refine F.ok scEt (fun vs H Q E h => ?_) (fun cdv A outer s H vs Q XE hr h => ?_)
  · obtain ⟨v, rfl, _⟩ := h
    rfl
  · obtain ⟨v, rfl, o, k⟩ := h
    exact ⟨_, pss_cons (ps_expr (pe_hasX CX hr (by rfl) noX (pa_cons (pv 0) pa_nil))) pss_never, v, rfl, v, rfl, o, k⟩
end
abbrev sRr : Stmt := topS 65
abbrev NRr : List Str := ["thing", "is_one", "due", "found", "one", "odd"]
theorem scRr : FnScope NRr [] (defScope sRr) := ⟨rfl, rfl, rfl, by decide +kernel, rfl, by decide +kernel, by decide +kernel⟩
theorem bdRr : defBody sRr = [stOf sRr 0, stOf sRr 1, stOf sRr 2, stOf sRr 3] := by rfl
def rfB (i : Nat) : Stmt := (forBody (stOf sRr 0)).getD i (.Pass ⟨0, 0, 0, 0⟩)
theorem bdR0 : forBody (stOf sRr 0) = [rfB 0, rfB 1, rfB 2, rfB 3, rfB 4, rfB 5, rfB 6, rfB 7, rfB 8] := by rfl
def rfO : Stmt := (forBody (rfB 6)).getD 0 (.Pass ⟨0, 0, 0, 0⟩)
theorem bdR6 : forBody (rfB 6) = [rfO] := by rfl
def rf1 : Stmt := (forBody (stOf sRr 1)).getD 0 (.Pass ⟨0, 0, 0, 0⟩)
theorem bdR1 : forBody (stOf sRr 1) = [rf1] := by rfl
def rf2 : Stmt := (forBody (stOf sRr 2)).getD 0 (.Pass ⟨0, 0, 0, 0⟩)
theorem bdR2 : forBody (stOf sRr 2) = [rf2] := by rfl
def qRr : Str := (("_law_refused_right" : Str) ++ ".<locals>.") ++ "<lambda>"
structure RrK (P : Program) (w : World) (K : Frag) (mg : Str → Option Value) (base : Heap) : Prop where
  od : ∃ f fd, mg "_law_odd_rows" = some (.ref f) ∧ keepIn K (.ref f) = true ∧ L2.Binds K fd [] [] ∧ FnOk P w K mg base CX0 1 f fd [] spOr
  io : Has P w K mg base "_law_is_endless_one" 2 ["thing"] spIo
  ig : Has P w K mg base "_law_is_figures" 1 ["thing"] spIg
  ir : Has P w K mg base "is_row" 3 ["thing"] spRow
  ie : Has P w K mg base "is_endless" 4 ["thing"] (spLookB isE)
  le : Has P w K mg base "least_endless" 6 ["endless"] (spLeast K)
  lex : HasX P w K mg base "least_endless" 6 ["endless"] (spOdd isE (ga K "BadEndless"))
  fa : Has P w K mg base "figure_at" 6 ["endless", "index"] spFa
  fax : HasX P w K mg base "figure_at" 6 ["endless", "index"] (spFaX K)
  et : Has P w K mg base "endless_text" 6 ["endless"] spEt
  etx : HasX P w K mg base "endless_text" 6 ["endless"] (spOdd isE (ga K "BadEndless"))
  ef : Has P w K mg base "endless_fault" 2 ["text"] spEf
  rex : HasX P w K mg base "read_endless" 3 ["text"] (spReX K)
  sm : Has P w K mg base "_law_same" 7 ["found", "due"] (spSm 6)
section
variable {P : Program} {w : World} {K : Frag} {mg : Str → Option Value} {base : Heap}
abbrev XRr (P : Program) (w : World) (K : Frag) (mg : Str → Option Value) (base : Heap) (f : Addr) (cdv : Value) (A : Around) (outer : List Env) (s : Shared) (H : Hp) (XE : XK) : Cx := (cxOf CX0 P w K mg base NRr "_law_refused_right" (defScope sRr) f cdv A outer s H XE).nox
theorem noXr {f : Addr} {cdv : Value} {A : Around} {outer : List Env} {s : Shared} {H : Hp} {XE : XK} {A' : Around} {outer' : List Env} {s' : Shared} {H' : Hp} {E : XK} {scope : Scope} {f' c' : Addr} : Passes (L2.CX P w) (lamCx (XRr P w K mg base f cdv A outer s H XE) A' outer' s' H' E scope f' c') E := passes_call (takes_of rfl rfl rfl rfl) (fun _ _ _ _ h => h)
end
end K14.T3
namespace K14.T3
open T27
open K14.Gn
open PySem PySem.W PySem.Calls PyProof.Rows L2 LamX
open He (ga)
open Kz (SS ExtS ExtS.trans ExtS.refl small4 same_new boot_in boot_li boot_isi Has pe_has noE PSs.of_eq seqI new_ext X1)
/-! ### asks: _law_asked(lambda: ..), refused -/
theorem gives_ofA {K : Frag} {T : List (Addr × Str)} {t : XK → TE} {S : L2.St → Prop} {H0 : Hp} {w : Str} {v : V} (h : ∀ (σ : L2.St) (H1 : Hp) (Q Q' : VK), S σ → ExtN H0 H1 → (∀ (H' : Hp) (t' : Addr), L2.Same H1 H' → H' t' = some (.tup [.str w, v]) → Q (.ref t') H') → t (Ea K Q) σ H1 Q') : Gives T (tLam T (tlA K) t) S H0 w v :=
  fun σ H Q hS e hT k => ⟨hT, fun H1 e1 T1 => h σ H1 Q _ hS (e.trans e1) fun H' t' s q => k H' t' (e1.trans (ExtN.of s)) (T1.ext s) q⟩
theorem says_ea {K : Frag} (p : Str × Str × Str) (hp : p ∈ asks) {v : V} {H1 : Hp} {Q : VK} (k : ∀ (H' : Hp) (t : Addr), L2.Same H1 H' → H' t = some (.tup [.str p.2.1, v]) → Q (.ref t) H') : SaysF (ga K p.1) p.2.2 v H1 (Ea K Q) :=
  fun H' dx s q => ⟨p, hp, rfl, dx, v, rfl, q, fun H'' t e h => k H'' t (s.trans e) h⟩
theorem a_bad : (("BadEndless", "endless", "thing") : Str × Str × Str) ∈ asks := by simp [asks]
theorem a_ix : (("BadIndex", "index", "thing") : Str × Str × Str) ∈ asks := by simp [asks]
theorem a_ends : (("BadEnds", "ends", "index") : Str × Str × Str) ∈ asks := by simp [asks]
theorem a_text : (("BadText", "text", "index") : Str × Str × Str) ∈ asks := by simp [asks]
section
variable {K : Frag} {T : List (Addr × Str)} {te : TE} {S : L2.St → Prop} {H0 H : Hp} {w : Str} {v : V} {σ : L2.St} {D : Ends} {F : Addr} {n : Nat}
/-- if not _law_same(_law_asked(..), (w, the thing at i)): return False -/
theorem asked_oneA {i m : Nat} {d : PyData} {A : TS} (hG : Gives T te S H0 w v) (hS : S σ) (h4 : σ[i]? = some (some v)) (ex : ExtN H0 H) (hT : Tabs T H) (tv : Th (Hid [] H0) v d) (hd : fitS m d = true) (k : ∀ H', ExtN H0 H' → Tabs T H' → D.nx σ H') :
    tIfS (tNot (tB (tCall (spSm (m + 2)) [] noE (tCons te (tCons (tTup (tCons (tC (.str w)) (tCons (tVar i) tNil))) tNil))))) A tNext D σ H := by
  refine hG σ H _ hS ex hT fun H1 t e1 T1 q => ⟨v, h4, small4 2, fun p np => ?_⟩
  have tv1 : Th H1 v d := (tv.ext (hid_N (ex.trans e1))).ext hid_up
  have e2 := same_new (o := .tup [.str w, v]) np
  refine ⟨.ref t, .ref p, .tuple [.str w, d], rfl, .tup (e2 _ _ q) (.cons (.str w) (.cons (tv1.ext e2) .nil)), .tup upd_same (.cons (.str w) (.cons (tv1.ext e2) .nil)), ?_, fun H' e4 => ⟨true, rfl, iteF (k H' ((ex.trans e1).trans (same_N (e2.trans e4))) (T1.ext (e2.trans e4)))⟩⟩
  exact fit_mono (fit_say hd)
end
def odI : List PyData := [.none, .int (-1), .bool true, .str "0", .list [.int 0], .dict []]
def odT : List PyData := [.none, .int 5, .bool true, .list [], .list [.str "(0)"], .dict [], .tuple [.str "(0)"]]
theorem odI_all : odI.all (fun d => !isN d && fitS 4 d) = true := by decide +kernel
theorem odT_all : odT.all (fun d => !isSt d) = true := by decide +kernel
section
variable {P : Program} {w : World} {K : Frag} {T : List (Addr × Str)}
/-- no numbers: the loop's body -/
theorem rr_ix {A : TS} {D : Ends} {σ : L2.St} {G : Hp} {y : V} {d : PyData} (h5 : σ[5]? = some (some y)) (hd : d ∈ odI) (ty : Th (Hid [] G) y d) (hT : Tabs T G) (k : ∀ H', ExtN G H' → Tabs T H' → D.nx σ H') :
    tIfS (tNot (tB (tCall (spSm 6) [] noE (tCons (tLam T (tlA K) fun E => tCall (spFaX K) [] E (tCons (tTup (tCons (tLst tNil) (tCons (tLst (tCons (tC (.int 0)) tNil)) tNil))) (tCons (tVar 5) tNil))) (tCons (tTup (tCons (tC (.str "index")) (tCons (tVar 5) tNil))) tNil))))) A tNext D σ G := by
  obtain ⟨i1, i2⟩ := Bool.and_eq_true_iff.mp (List.all_eq_true.mp odI_all d hd)
  rw [Bool.not_eq_true'] at i1
  refine asked_oneA (m := 4) (H0 := G) (S := fun σ : L2.St => σ[5]? = some (some y)) (d := d) (v := y) (gives_ofA fun σ H1 Q Q' hS e kk => ?_) h5 h5 (.refl _) hT ty i2 k
  refine ⟨small4 0, fun p1 n1 => ⟨small4 1, fun p2 n2 => ⟨small4 2, fun p3 n3 => ⟨y, hS, ?_⟩⟩⟩⟩
  have s1 := same_new (o := .lst []) n1
  have s2 := same_new (o := .lst [V.int 0]) n2
  have s3 := same_new (o := .tup [V.ref p1, .ref p2]) n3
  have S3 := s1.trans (s2.trans s3)
  have tE : Th (upd (upd (upd H1 p1 (.lst [])) p2 (.lst [V.int 0])) p3 (.tup [V.ref p1, .ref p2])) (.ref p3) (dE [] [0]) := .tup upd_same (.cons (.lst (s3 _ _ (s2 _ _ upd_same)) .nil) (.cons (.lst (s3 _ _ upd_same) (.cons (.int 0) .nil)) .nil))
  have ty1 : Th H1 y d := (ty.ext (hid_N e)).ext hid_up
  exact .inr ⟨.ref p3, y, [], [0], d, rfl, endV_of tE (fun n h => nomatch h) (fun n h => by rw [List.mem_singleton.mp h]; exact .inl rfl) (by decide) (by decide) (by decide), ty1.ext S3, i1, says_ea _ a_ix fun H' t s q => kk H' t (S3.trans s) q⟩
/-- no texts: the loop's body -/
theorem rr_text {A : TS} {D : Ends} {σ : L2.St} {G : Hp} {y : V} {d : PyData} (h5 : σ[5]? = some (some y)) (hd : d ∈ odT) (ty : Th (Hid [] G) y d) (hT : Tabs T G) (k : ∀ H', ExtN G H' → Tabs T H' → D.nx σ H') :
    tIfS (tNot (tB (tCall (spSm 6) [] noE (tCons (tLst (tCons (tCall spEf [] noE (tCons (tVar 5) tNil)) (tCons (tLam T (tlA K) fun E => tCall (spReX K) [] E (tCons (tVar 5) tNil)) tNil))) (tCons (tLst (tCons (tUn (rU fun i => .int (-i)) (tC (.int 1))) (tCons (tTup (tCons (tC (.str "text")) (tCons (tUn (rU fun i => .int (-i)) (tC (.int 1))) tNil))) tNil))) tNil))))) A tNext D σ G := by
  have st : isSt d = false := by
    have := List.all_eq_true.mp odT_all d hd
    rw [Bool.not_eq_true'] at this
    exact this
  have ty0 : Th G y d := ty.ext hid_up
  refine ⟨y, h5, .inr ⟨y, d, rfl, ty0, st, fun H1 s1 => ?_⟩⟩
  have hG : Gives T (tLam T (tlA K) fun E => tCall (spReX K) [] E (tCons (tVar 5) tNil)) (fun σ : L2.St => σ[5]? = some (some y)) H1 "text" (.int (-1)) := gives_ofA fun σ H2 Q Q' hS e kk =>
    ⟨y, hS, .inr ⟨y, d, rfl, (((ty.ext (hid_same s1)).ext (hid_N e)).ext hid_up), st, says_ea _ a_text kk⟩⟩
  refine hG σ H1 _ h5 (.refl _) (hT.ext s1) fun H2 t e2 T2 q => ⟨small4 2, fun p1 n1 => ⟨1, rfl, 1, rfl, small4 2, fun p2 n2 => ⟨small4 2, fun p3 n3 => ?_⟩⟩⟩
  have x1 := same_new (o := .lst [V.int (-1), .ref t]) n1
  have x2 := same_new (o := .tup [V.str "text", .int (-1)]) n2
  have x3 := same_new (o := .lst [V.int (-1), .ref p2]) n3
  have X3 := x1.trans (x2.trans x3)
  refine ⟨.ref p1, .ref p3, .list [.int (-1), .tuple [.str "text", .int (-1)]], rfl, .lst (x3 _ _ (x2 _ _ upd_same)) (.cons (.int _) (.cons (.tup (X3 _ _ q) (.cons (.str _) (.cons (.int _) .nil))) .nil)), .lst upd_same (.cons (.int _) (.cons (.tup (x3 _ _ upd_same) (.cons (.str _) (.cons (.int _) .nil))) .nil)), by decide +kernel, fun H' s4 => ⟨true, rfl, iteF ?_⟩⟩
  exact k H' ((ExtN.of s1).trans (e2.trans (ExtN.of (X3.trans s4)))) (T2.ext (X3.trans s4))
end
end K14.T3
namespace K14.T3
open T27
open K14.Gn
open PySem PySem.W PySem.Calls PyProof.Rows L2 LamX
open He (ga)
open Kz (SS ExtS ExtS.trans ExtS.refl small4 same_new boot_in boot_li boot_isi Has pe_has noE PSs.of_eq seqI new_ext X1)
/-! ### objects, some of them endless rows: what is told or refused -/
theorem figs_ex : ∀ {l : List PyData}, l.all isF = true → ∃ ns : List Int, l = ns.map PyData.int
  | [], _ => ⟨[], rfl⟩
  | x :: r, h => by
    rw [List.all_cons] at h
    obtain ⟨h1, h2⟩ := Bool.and_eq_true_iff.mp h
    obtain ⟨ns, rfl⟩ := figs_ex h2
    cases x with
    | int i => exact ⟨i :: ns, rfl⟩
    | _ => exact absurd (show false = true from h1) Bool.false_ne_true
theorem or_small : orAll.all (fun d => decide ((its d).length ≤ 500) && ((its d).all (fun z => decide ((its z).length ≤ 500)) && fitS 4 d)) = true := by decide +kernel
theorem or_at {d : PyData} (m : d ∈ orAll) : (its d).length ≤ 500 ∧ (∀ z ∈ its d, (its z).length ≤ 500) ∧ fitS 4 d = true := by
  have q := List.all_eq_true.mp or_small d m
  obtain ⟨h1, q⟩ := Bool.and_eq_true_iff.mp q
  obtain ⟨h2, h3⟩ := Bool.and_eq_true_iff.mp q
  exact ⟨of_decide_eq_true h1, fun z hz => of_decide_eq_true (List.all_eq_true.mp h2 z hz), h3⟩
theorem or_end {d : PyData} (m : d ∈ orAll) (e : isE d = true) : ∃ hs as : List Int, ∀ (H : Hp) (v : V), Th H v d → EndV H v hs as := by
  obtain ⟨b1, b2, _⟩ := or_at m
  have e0 := e
  unfold isE at e
  match hd : its d, e with
  | [x, y], e =>
    rw [hd] at b2
    obtain ⟨_, e2⟩ := Bool.and_eq_true_iff.mp (show (isL d && (isR x && (isR y && decide (0 < (its y).length)))) = true from e)
    obtain ⟨e3, e4⟩ := Bool.and_eq_true_iff.mp e2
    obtain ⟨e5, e6⟩ := Bool.and_eq_true_iff.mp e4
    obtain ⟨hs, ex⟩ := figs_ex (Bool.and_eq_true_iff.mp (show (isL x && (its x).all isF) = true from e3)).2
    obtain ⟨as, ey⟩ := figs_ex (Bool.and_eq_true_iff.mp (show (isL y && (its y).all isF) = true from e5)).2
    have l1 := b2 x (by simp)
    have l2 := b2 y (by simp)
    have p := of_decide_eq_true e6
    rw [ex, List.length_map] at l1
    rw [ey, List.length_map] at l2 p
    exact ⟨hs, as, fun H v t => ⟨x, y, d, t, e0, hd, ex, ey, p, l1, l2⟩⟩
/-- what an ask tells of y: told, or refused -/
def ToldOr (b : Bool) (y : V) (w : Str) (x : V) : Prop := (b = true ∧ w = "told") ∨ (b = false ∧ w = "endless" ∧ x = y)
def GivesP (T : List (Addr × Str)) (te : TE) (S : L2.St → Prop) (H0 : Hp) (R : Str → V → Prop) : Prop := ∀ (σ : L2.St) (H : Hp) (Q : VK), S σ → ExtN H0 H → Tabs T H → (∀ (H' : Hp) (t : Addr) (w : Str) (x : V), ExtN H H' → Tabs T H' → R w x → H' t = some (.tup [.str w, x]) → Q (.ref t) H') → te σ H Q
section
variable {K : Frag} {T : List (Addr × Str)} {y : V} {d : PyData} {G : Hp}
abbrev S0y (y : V) : L2.St → Prop := fun σ => σ[0]? = some (some y)
theorem odd_or (m : d ∈ orAll) (e : isE d = false) {H : Hp} (t : Th H y d) : Odd isE H y := by
  obtain ⟨b1, b2, _⟩ := or_at m
  exact ⟨d, t, e, by omega, fun z hz => by have := b2 z hz; omega⟩
theorem gives_two {t1 : TE} {t2 : XK → TE} {b : Bool} (h1 : b = true → ∀ (σ : L2.St) (H1 : Hp) (Q : VK), S0y y σ → ExtN G H1 → (∀ (H' : Hp) (x : V), L2.Same H1 H' → Q x H') → t1 σ H1 Q)
    (h2 : b = false → ∀ (σ : L2.St) (H1 : Hp) (E : XK) (Q : VK), S0y y σ → ExtN G H1 → Says (ga K "BadEndless") y H1 E → t2 E σ H1 Q) :
    GivesP T (tLam T (tlA K) fun E σ H Q => t1 σ H Q ∨ t2 E σ H Q) (S0y y) G (ToldOr b y) := fun σ H Q hS e hT k => ⟨hT, fun H1 e1 T1 => by
  cases b with
  | true =>
    refine .inl (h1 rfl σ H1 _ hS (e.trans e1) fun H' x s => ⟨small4 2, fun t nt => ?_⟩)
    have s2 := same_new (o := .tup [.str "told", x]) nt
    exact k _ t "told" x (e1.trans (ExtN.of (s.trans s2))) (T1.ext (s.trans s2)) (.inl ⟨rfl, rfl⟩) upd_same
  | false =>
    exact .inr (h2 rfl σ H1 _ _ hS (e.trans e1) (says_ea _ a_bad fun H' t s q => k H' t "endless" y (e1.trans (ExtN.of s)) (T1.ext s) (.inr ⟨rfl, rfl, rfl⟩) q))⟩
theorem gv_le (m : d ∈ orAll) (ty : Th (Hid [] G) y d) : GivesP T (tLam T (tlA K) fun E σ H Q => tCall (spLeast K) [] noE (tCons (tVar 0) tNil) σ H Q ∨ tCall (spOdd isE (ga K "BadEndless")) [] E (tCons (tVar 0) tNil) σ H Q) (S0y y) G (ToldOr (isE d) y) :=
  gives_two (fun b σ H1 Q hS e k => by
    obtain ⟨hs, as, ev⟩ := or_end m b
    exact ⟨y, hS, y, hs, as, rfl, ev _ _ ((ty.ext (hid_N e)).ext hid_up), fun H' p q r _ _ s _ _ _ _ _ _ _ => k H' _ s⟩)
    (fun b σ H1 E Q hS e k => ⟨y, hS, y, rfl, odd_or m b ((ty.ext (hid_N e)).ext hid_up), k⟩)
theorem gv_fa (m : d ∈ orAll) (ty : Th (Hid [] G) y d) : GivesP T (tLam T (tlA K) fun E σ H Q => tCall spFa [] noE (tCons (tVar 0) (tCons (tC (.int 0)) tNil)) σ H Q ∨ tCall (spFaX K) [] E (tCons (tVar 0) (tCons (tC (.int 0)) tNil)) σ H Q) (S0y y) G (ToldOr (isE d) y) :=
  gives_two (fun b σ H1 Q hS e k => by
    obtain ⟨hs, as, ev⟩ := or_end m b
    exact ⟨y, hS, y, hs, as, 0, rfl, ev _ _ ((ty.ext (hid_N e)).ext hid_up), fun H' s => k H' _ s⟩)
    (fun b σ H1 E Q hS e k => ⟨y, hS, .inl ⟨y, .int 0, rfl, odd_or m b ((ty.ext (hid_N e)).ext hid_up), k⟩⟩)
theorem gv_et (m : d ∈ orAll) (ty : Th (Hid [] G) y d) : GivesP T (tLam T (tlA K) fun E σ H Q => tCall spEt [] noE (tCons (tVar 0) tNil) σ H Q ∨ tCall (spOdd isE (ga K "BadEndless")) [] E (tCons (tVar 0) tNil) σ H Q) (S0y y) G (ToldOr (isE d) y) :=
  gives_two (fun b σ H1 Q hS e k => by
    obtain ⟨hs, as, ev⟩ := or_end m b
    exact ⟨y, hS, y, hs, as, rfl, ev _ _ ((ty.ext (hid_N e)).ext hid_up), fun H' s => k H' _ s⟩)
    (fun b σ H1 E Q hS e k => ⟨y, hS, y, rfl, odd_or m b ((ty.ext (hid_N e)).ext hid_up), k⟩)
/-- figure_at(thing, -1): refused either way -/
def RefOr (b : Bool) (y : V) (w : Str) (x : V) : Prop := (b = true ∧ w = "index" ∧ x = .int (-1)) ∨ (b = false ∧ w = "endless" ∧ x = y)
theorem gv_neg1 (m : d ∈ orAll) (ty : Th (Hid [] G) y d) : GivesP T (tLam T (tlA K) fun E => tCall (spFaX K) [] E (tCons (tVar 0) (tCons (tUn (rU fun i => .int (-i)) (tC (.int 1))) tNil))) (S0y y) G (RefOr (isE d) y) := fun σ H Q hS e hT k => ⟨hT, fun H1 e1 T1 => by
  have t1 : Th H1 y d := (ty.ext (hid_N (e.trans e1))).ext hid_up
  cases b : isE d with
  | true =>
    obtain ⟨hs, as, ev⟩ := or_end m b
    exact ⟨y, hS, 1, rfl, .inr ⟨y, .int (-1), hs, as, .int (-1), rfl, ev _ _ t1, .int _, rfl, says_ea _ a_ix fun H' t s q => k H' t "index" (.int (-1)) (e1.trans (ExtN.of s)) (T1.ext s) (.inl ⟨b, rfl, rfl⟩) q⟩⟩
  | false =>
    exact ⟨y, hS, 1, rfl, .inl ⟨y, .int (-1), rfl, odd_or m b t1, says_ea _ a_bad fun H' t s q => k H' t "endless" y (e1.trans (ExtN.of s)) (T1.ext s) (.inr ⟨b, rfl, rfl⟩) q⟩⟩⟩
end
end K14.T3
namespace K14.T3
open T27
open K14.Gn
open PySem PySem.W PySem.Calls PyProof.Rows L2 LamX
open He (ga)
open Kz (SS ExtS ExtS.trans ExtS.refl small4 same_new boot_in boot_li boot_isi Has pe_has noE PSs.of_eq seqI new_ext X1)
/-! ### the run of _law_refused_right -/
section
variable {P : Program} {w : World} {K : Frag} {mg : Str → Option Value} {base : Heap}
def spRr (T : List (Addr × Str)) : Sp := fun vs H Q _ => vs = [] ∧ Tabs T H ∧ ∀ H', ExtN H H' → Tabs T H' → Q (.bl true) H'
theorem ok_rr {f c Pt g : Addr} {gd : FuncData} {T : List (Addr × Str)} {oc kV doc pm ct : Value} {od an : Option Addr} {osl : Array (Option Value)} (lk : K.lookup f = some ⟨oc, od, .func (fnOf "_law_refused_right" "_law_refused_right" (defArgs sRr) (defBody sRr) (defScope sRr) .none kV doc pm an (.ref c) ct), osl⟩) (hcd : codeIn K (.ref c) "_law_refused_right" = true)
    (TB : TabB base mg c Pt) (hmT : (Pt, qRr) ∈ T) (hu : ∀ p ∈ T, p.1 = Pt → p.2 = qRr)
    (G : FunD K "_law_asked" "_law_asked" (defArgs sAk) (defBody sAk) (defScope sAk) [] [] g gd) (mo : mg "_law_asked" = some (.ref g)) (kp : keepIn K (.ref g) = true) (bd : L2.Binds K gd ["ask"] []) (R : AkK P K mg) (L : RrK P w K mg base) :
    FnOk P w K mg base CX0 9 f (fnOf "_law_refused_right" "_law_refused_right" (defArgs sRr) (defBody sRr) (defScope sRr) .none kV doc pm an (.ref c) ct) [] (spRr T) := by
  obtain ⟨og, odg, kVg, docg, pmg, ang, cg, ctg, oslg, rfl, lkg, hcg⟩ := fun_code G
  refine fn_of (CX := CX0) (P := P) (w := w) (mg := mg) (base := base) (k := 8) (N := NRr) lk hcd scRr (fun vs H Q E h => by rw [h.1]; rfl) (fun A outer s H vs Q XE hr hsp => ?_)
  obtain ⟨rfl, hT, k⟩ := hsp
  have gl : Gl (XRr P w K mg base f (.ref c) A outer s H XE) "_law_asked" := rfl
  have gv := ak_gives (X := XRr P w K mg base f (.ref c) A outer s H XE) (g := g) (cdg := .ref cg) (q := qRr) R
  have ask : ∀ {params : Arguments} {body : Expr} {scope : Scope} {p lpos pos : Pos} {t : XK → TE}, LamS (defScope sRr) scope → defaultsOf params (XRr P w K mg base f (.ref c) A outer s H XE).env = ([], []) → (∀ (q : Str) (cl : List (Str × Addr)) (pm cv ctv : Value), bindArgs (kla_fn "<lambda>" q params body scope cl pm cv ctv) ⟨[], []⟩ = pure []) →
      (∀ (A' : Around) (outer' : List Env) (s' : Shared) (H' : Hp) (E : XK) (f' c' : Addr), Room 6 (A'.deeper (lamEnv (XRr P w K mg base f (.ref c) A outer s H XE) scope s'.heap.objs.size f' c')) → PE (lamCx (XRr P w K mg base f (.ref c) A outer s H XE) A' outer' s' H' E scope f' c') body (t E)) →
      PE (XRr P w K mg base f (.ref c) A outer s H XE) (.Call (.Name "_law_asked" p) [.Lambda params body scope lpos] [] pos) (tLam T (tlA K) t) :=
    fun hL hd hb hbody => pe_lamcall gl mo kp lkg hcg bd scAk rfl (.inl rfl) gv TB rfl hmT hu hr hL hd hb hbody
  obtain ⟨fo, fdo, ho1, ho2, ho3, ho4⟩ := L.od
  have b0 : PS (XRr P w K mg base f (.ref c) A outer s H XE) (rfB 0) _ := ps_set (i := 1) scRr.nd rfl (.inl rfl) (pe_has L.io (hr.mono (by decide)) (by rfl) (pa_cons (pv 0) pa_nil))
  have b1 : PS (XRr P w K mg base f (.ref c) A outer s H XE) (rfB 1) _ := ps_set (i := 2) scRr.nd rfl (.inl rfl) (pe_lst (pa_cons (pe_has L.ig (hr.mono (by decide)) (by rfl) (pa_cons (pv 0) pa_nil)) (pa_cons (pv 1) pa_nil)))
  have b2 : PS (XRr P w K mg base f (.ref c) A outer s H XE) (rfB 2) _ := ps_if (pt_not (pt_val (pe_has L.sm (hr.mono (by decide)) (by rfl) (pa_cons (pe_lst (pa_cons (pe_has L.ir (hr.mono (by decide)) (by rfl) (pa_cons (pv 0) pa_nil)) (pa_cons (pe_has L.ie (hr.mono (by decide)) (by rfl) (pa_cons (pv 0) pa_nil)) pa_nil))) (pa_cons (pv 2) pa_nil))))) (pss_one (ps_ret pe_bl)) pss_nil
  have b3 : PS (XRr P w K mg base f (.ref c) A outer s H XE) (rfB 3) _ := ps_set (i := 3) scRr.nd rfl (.inl rfl) (pe_lst (pa_cons (ask (lamS_by (by decide +kernel)) rfl (fun _ _ _ _ _ => rfl) (fun A' o' s' H' E f' c' hr2 => pe_alt (pe_has L.le hr2 (by rfl) (pa_cons (pv 0) pa_nil)) (pe_hasX L.lex hr2 (by rfl) noXr (pa_cons (pv 0) pa_nil)))) pa_nil))
  have b4 : PS (XRr P w K mg base f (.ref c) A outer s H XE) (rfB 4) _ := ps_expr (pe_bm PySem.F.plainAttrs_list PySem.F.slot_list_append PySem.F.type_list_append mt_append (pv 3) (pa_cons (ask (lamS_by (by decide +kernel)) rfl (fun _ _ _ _ _ => rfl) (fun A' o' s' H' E f' c' hr2 => pe_alt (pe_has L.fa hr2 (by rfl) (pa_cons (pv 0) (pa_cons pe_int pa_nil))) (pe_hasX L.fax hr2 (by rfl) noXr (pa_cons (pv 0) (pa_cons pe_int pa_nil))))) pa_nil))
  have b5 : PS (XRr P w K mg base f (.ref c) A outer s H XE) (rfB 5) _ := ps_expr (pe_bm PySem.F.plainAttrs_list PySem.F.slot_list_append PySem.F.type_list_append mt_append (pv 3) (pa_cons (ask (lamS_by (by decide +kernel)) rfl (fun _ _ _ _ _ => rfl) (fun A' o' s' H' E f' c' hr2 => pe_alt (pe_has L.et hr2 (by rfl) (pa_cons (pv 0) pa_nil)) (pe_hasX L.etx hr2 (by rfl) noXr (pa_cons (pv 0) pa_nil)))) pa_nil))
  have b7 : PS (XRr P w K mg base f (.ref c) A outer s H XE) (rfB 7) _ := ps_set (i := 3) scRr.nd rfl (.inl rfl) (ask (lamS_by (by decide +kernel)) rfl (fun _ _ _ _ _ => rfl) (fun A' o' s' H' E f' c' hr2 => pe_hasX L.fax hr2 (by rfl) noXr (pa_cons (pv 0) (pa_cons (pe_un un_neg pe_int) pa_nil))))
  have b8 : PS (XRr P w K mg base f (.ref c) A outer s H XE) (rfB 8) _ := ps_if (pt_not (pt_val (pe_has L.sm (hr.mono (by decide)) (by rfl) (pa_cons (pv 3) (pa_cons (pe_ifExp (pt_val (pv 1)) (pe_tup (pa_cons pe_str (pa_cons (pe_un un_neg pe_int) pa_nil))) (pe_tup (pa_cons pe_str (pa_cons (pv 0) pa_nil)))) pa_nil))))) (pss_one (ps_ret pe_bl)) pss_nil
  have o0 : PS (XRr P w K mg base f (.ref c) A outer s H XE) rf1 _ := ps_if (pt_not (pt_val (pe_has L.sm (hr.mono (by decide)) (by rfl) (pa_cons (ask (lamS_by (by decide +kernel)) rfl (fun _ _ _ _ _ => rfl) (fun A' o' s' H' E f' c' hr2 => pe_hasX L.fax hr2 (by rfl) noXr (pa_cons (pe_tup (pa_cons (pe_lst pa_nil) (pa_cons (pe_lst (pa_cons pe_int pa_nil)) pa_nil))) (pa_cons (pv 5) pa_nil)))) (pa_cons (pe_tup (pa_cons pe_str (pa_cons (pv 5) pa_nil))) pa_nil))))) (pss_one (ps_ret pe_bl)) pss_nil
  have q0 : PS (XRr P w K mg base f (.ref c) A outer s H XE) rf2 _ := ps_if (pt_not (pt_val (pe_has L.sm (hr.mono (by decide)) (by rfl) (pa_cons (pe_lst (pa_cons (pe_has L.ef (hr.mono (by decide)) (by rfl) (pa_cons (pv 5) pa_nil)) (pa_cons (ask (lamS_by (by decide +kernel)) rfl (fun _ _ _ _ _ => rfl) (fun A' o' s' H' E f' c' hr2 => pe_hasX L.rex (hr2.mono (by decide)) (by rfl) noXr (pa_cons (pv 5) pa_nil))) pa_nil))) (pa_cons (pe_lst (pa_cons (pe_un un_neg pe_int) (pa_cons (pe_tup (pa_cons pe_str (pa_cons (pe_un un_neg pe_int) pa_nil))) pa_nil))) pa_nil))))) (pss_one (ps_ret pe_bl)) pss_nil
  have b6o : PS (XRr P w K mg base f (.ref c) A outer s H XE) rfO _ := ps_if (PW.pt (pw_or (pt_cmpR op_ne (pe_cmpR op_eq (pe_ix ix_seq (pv 4) pe_int (fun _ _ => rfl)) pe_str (nomark _)) (pv 1) (nomark _)) (pw_or1 (pw_and (pt_not (pt_val (pv 1))) (pw_and1 (pt_not (pt_val (pe_has L.sm (hr.mono (by decide)) (by rfl) (pa_cons (pv 4) (pa_cons (pe_tup (pa_cons pe_str (pa_cons (pv 0) pa_nil))) pa_nil))))))).pt))) (pss_one (ps_ret pe_bl)) pss_nil
  have b6 : PS (XRr P w K mg base f (.ref c) A outer s H XE) (rfB 6) _ := ps_for PassesOwn.never rfl (pi_list (pv 3)) (pg_name (i := 4) scRr.nd rfl (.inl rfl)) (PSs.of_eq bdR6 (pss_one b6o))
  have r0 : PS (XRr P w K mg base f (.ref c) A outer s H XE) (stOf sRr 0) _ := ps_for PassesOwn.never rfl (pi_list (pe_call0 ho4 (hr.mono (by decide)) (by rfl) ho1 ho2 ho3 .nil pass0)) (pg_name (i := 0) scRr.nd rfl (.inr rfl)) (PSs.of_eq bdR0 (pss_cons b0 (pss_cons b1 (pss_cons b2 (pss_cons b3 (pss_cons b4 (pss_cons b5 (pss_cons b6 (pss_cons b7 (pss_one b8))))))))))
  have r1 : PS (XRr P w K mg base f (.ref c) A outer s H XE) (stOf sRr 1) _ := ps_for PassesOwn.never rfl (pi_tup (pe_tup (pa_cons pe_non (pa_cons (pe_un un_neg pe_int) (pa_cons pe_bl (pa_cons pe_str (pa_cons (pe_lst (pa_cons pe_int pa_nil)) (pa_cons pe_dnewK pa_nil)))))))) (pg_name (i := 5) scRr.nd rfl (.inr rfl)) (PSs.of_eq bdR1 (pss_one o0))
  have r2 : PS (XRr P w K mg base f (.ref c) A outer s H XE) (stOf sRr 2) _ := ps_for PassesOwn.never rfl (pi_tup (pe_tup (pa_cons pe_non (pa_cons pe_int (pa_cons pe_bl (pa_cons (pe_lst pa_nil) (pa_cons (pe_lst (pa_cons pe_str pa_nil)) (pa_cons pe_dnewK (pa_cons (pe_tup (pa_cons pe_str pa_nil)) pa_nil))))))))) (pg_name (i := 5) scRr.nd rfl (.inr rfl)) (PSs.of_eq bdR2 (pss_one q0))
  have r3 : PS (XRr P w K mg base f (.ref c) A outer s H XE) (stOf sRr 3) _ := ps_ret pe_bl
  have PP := PSs.of_eq bdRr (pss_cons r0 (pss_cons r1 (pss_cons r2 (pss_one r3))))
  clear b0 b1 b2 b3 b4 b5 b6 b6o b7 b8 o0 q0 r0 r1 r2 r3 ask gv
  refine ⟨_, PSs.nox PP, ?_⟩
  clear PP
  refine ⟨rfl, fun HT p xs eT qT rT => ⟨p, rfl, ⟨_, .inl (.inl qT)⟩, ?_⟩⟩
  refine for_list (xs := xs) (fun j σ G => ∃ (x0 x1 x2 x3 x4 : Option V), σ = [x0, x1, x2, x3, x4, none] ∧ ExtN HT G ∧ Tabs T G) ⟨none, none, none, none, none, rfl, .refl _, hT.ext eT⟩ (fun j σ G _ e => ?_) (fun j y σ G hy e => ?_) (fun σ G e => ?_)
  · obtain ⟨_, _, _, _, _, _, e, _⟩ := e
    exact .inl (.inl (e _ _ qT (fun ps z => nomatch z)))
  · obtain ⟨x0, x1, x2, x3, x4, rfl, E0, T0⟩ := e
    obtain ⟨d, hd, ty0⟩ := rT.get hy
    have m := List.mem_of_getElem? hd
    have ty : Th (Hid [] G) y d := ty0.hid.ext (hid_N E0)
    obtain ⟨bd1, bd2, bd3⟩ := or_at m
    have at_ : ∀ {G1 : Hp}, ExtN G G1 → Th G1 y d := fun e => (ty.ext (hid_N e)).ext hid_up
    have b5 : ∀ z ∈ its d, (its z).length ≤ 100000 := fun z hz => by have := bd2 z hz; omega
    refine gset ?_
    refine ⟨y, rfl, y, d, rfl, at_ (.refl _), by omega, b5, fun G1 s1 => ?_⟩
    refine gset ?_
    refine ⟨y, rfl, y, d, rfl, at_ (.of s1), by omega, fun G2 s2 => ⟨_, rfl, small4 2, fun p1 n1 => ?_⟩⟩
    have z1 := same_new (o := .lst [.bl (isR d), .bl (isE d)]) n1
    have hp1 := upd_same (H := G2) (a := p1) (o := .lst [.bl (isR d), .bl (isE d)])
    have S2 := s1.trans (s2.trans z1)
    generalize upd G2 p1 (.lst [.bl (isR d), .bl (isE d)]) = G3 at hp1 S2 ⊢
    refine gset ?_
    refine ⟨y, rfl, y, d, rfl, at_ (.of S2), by omega, fun G4 s4 => ⟨y, rfl, y, d, rfl, at_ (.of (S2.trans s4)), by omega, b5, fun G5 s5 => ⟨small4 2, fun p2 n2 => ?_⟩⟩⟩
    have z2 := same_new (o := .lst [.bl (isR d), .bl (isE d)]) n2
    refine ⟨.ref p1, rfl, .ref p2, .ref p1, .list [.bool (isR d), .bool (isE d)], rfl, .lst upd_same (.cons (.bl _) (.cons (.bl _) .nil)), .lst (z2 _ _ (s5 _ _ (s4 _ _ hp1))) (.cons (.bl _) (.cons (.bl _) .nil)), rfl, fun G6 s6 => ⟨true, rfl, iteF ?_⟩⟩
    have S6 := S2.trans (s4.trans (s5.trans (z2.trans s6)))
    have T6 := T0.ext S6
    clear s1 s2 z1 n1 n2 hp1 S2 s4 s5 z2 s6
    refine gv_le m ty _ _ _ rfl (.of S6) T6 fun G7 t1 w1 v1 e7 T7 r1 q1 => ⟨small4 1, fun F nF => ?_⟩
    have nT := none_tbl ((ExtN.of S6).trans e7) nF
    have z3 := same_new (o := .lst [.ref t1]) nF
    have hF := upd_same (H := G7) (a := F) (o := .lst [.ref t1])
    have q1 := z3 _ _ q1
    have T8 := T7.ext z3
    have E8 : ExtN G (upd G7 F (.lst [.ref t1])) := ((ExtN.of S6).trans e7).trans (.of z3)
    generalize upd G7 F (.lst [.ref t1]) = G8 at hF q1 T8 E8 ⊢
    clear e7 T7 nF z3 S6 T6
    refine gset ?_
    refine ⟨.ref F, rfl, .inl ⟨rfl, _, .inl (.inl hF)⟩, gv_fa m ty _ _ _ rfl E8 T8 fun G9 t2 w2 v2 e9 T9 r2 q2 => ?_⟩
    have hF9 := e9 _ _ hF (fun ps z => nomatch z)
    have q1 := e9 _ _ q1 (fun ps z => nomatch z)
    refine ⟨F, _, .ref t2, rfl, rfl, hF9, by rw [sizeLine_eq]; exact Nat.le_of_ble_eq_true rfl, ?_⟩
    have k1 : (upd G9 F (.lst ([.ref t1] ++ [.ref t2]))) t1 = some (.tup [.str w1, v1]) := by rw [upd_ne (fun z => by rw [z, hF9] at q1; cases q1)]; exact q1
    have k2 : (upd G9 F (.lst ([.ref t1] ++ [.ref t2]))) t2 = some (.tup [.str w2, v2]) := by rw [upd_ne (fun z => by rw [z, hF9] at q2; cases q2)]; exact q2
    have T10 := tabs_lst (ys := [.ref t1] ++ [.ref t2]) T9 hF9
    have E10 : ExtN G (upd G9 F (.lst ([.ref t1] ++ [.ref t2]))) := ext_lst nT (E8.trans e9)
    have hF10 := upd_same (H := G9) (a := F) (o := .lst ([.ref t1] ++ [.ref t2]))
    generalize upd G9 F (.lst ([.ref t1] ++ [.ref t2])) = G10 at k1 k2 T10 E10 hF10 ⊢
    clear hF T8 E8 e9 T9 q1 q2 hF9
    refine ⟨.ref F, rfl, .inl ⟨rfl, _, .inl (.inl hF10)⟩, gv_et m ty _ _ _ rfl E10 T10 fun G11 t3 w3 v3 e11 T11 r3 q3 => ?_⟩
    have hF11 := e11 _ _ hF10 (fun ps z => nomatch z)
    have q1 := e11 _ _ k1 (fun ps z => nomatch z)
    have q2 := e11 _ _ k2 (fun ps z => nomatch z)
    refine ⟨F, _, .ref t3, rfl, rfl, hF11, by rw [sizeLine_eq]; exact Nat.le_of_ble_eq_true rfl, ?_⟩
    have k1 : (upd G11 F (.lst (([.ref t1] ++ [.ref t2]) ++ [.ref t3]))) t1 = some (.tup [.str w1, v1]) := by rw [upd_ne (fun z => by rw [z, hF11] at q1; cases q1)]; exact q1
    have k2 : (upd G11 F (.lst (([.ref t1] ++ [.ref t2]) ++ [.ref t3]))) t2 = some (.tup [.str w2, v2]) := by rw [upd_ne (fun z => by rw [z, hF11] at q2; cases q2)]; exact q2
    have k3 : (upd G11 F (.lst (([.ref t1] ++ [.ref t2]) ++ [.ref t3]))) t3 = some (.tup [.str w3, v3]) := by rw [upd_ne (fun z => by rw [z, hF11] at q3; cases q3)]; exact q3
    have T12 := tabs_lst (ys := ([.ref t1] ++ [.ref t2]) ++ [.ref t3]) T11 hF11
    have E12 : ExtN G (upd G11 F (.lst (([.ref t1] ++ [.ref t2]) ++ [.ref t3]))) := ext_lst nT (E10.trans e11)
    have hF12 := upd_same (H := G11) (a := F) (o := .lst (([.ref t1] ++ [.ref t2]) ++ [.ref t3]))
    generalize upd G11 F (.lst (([.ref t1] ++ [.ref t2]) ++ [.ref t3])) = G12 at k1 k2 k3 T12 E12 hF12 ⊢
    clear hF10 T10 E10 e11 T11 q1 q2 q3 hF11
    have key : ∀ x ∈ ([.ref t1] ++ [.ref t2]) ++ [V.ref t3], ∃ t w v, x = .ref t ∧ G12 t = some (.tup [.str w, v]) ∧ ToldOr (isE d) y w v := fun x hx => by
      have hx : x ∈ [V.ref t1, .ref t2, .ref t3] := hx
      simp only [List.mem_cons, List.not_mem_nil, or_false] at hx
      rcases hx with rfl | rfl | rfl
      · exact ⟨_, _, _, rfl, k1, r1⟩
      · exact ⟨_, _, _, rfl, k2, r2⟩
      · exact ⟨_, _, _, rfl, k3, r3⟩
    have gvn := gv_neg1 (K := K) (T := T) m ty
    generalize isE d = bb at key gvn ⊢
    clear k1 k2 k3 r1 r2 r3
    refine ⟨.ref F, rfl, F, rfl, ⟨_, .inl (.inl hF12)⟩, for_list (xs := ([.ref t1] ++ [.ref t2]) ++ [V.ref t3]) (fun j σ J => ∃ x4, σ = [some y, some (.bl bb), some (.ref p1), some (.ref F), x4, none] ∧ L2.Same G12 J) ⟨_, rfl, fun _ _ e => e⟩ (fun j σ J _ e => ?_) (fun j one σ J ho e => ?_) (fun σ J e => ?_)⟩
    · obtain ⟨_, _, e⟩ := e
      exact .inl (.inl (e _ _ hF12))
    · obtain ⟨x4, rfl, eJ⟩ := e
      obtain ⟨t, w, v, rfl, ht, r⟩ := key one (List.mem_of_getElem? ho)
      have hJ := eJ _ _ ht
      refine gset ?_
      rcases r with ⟨rfl, rfl⟩ | ⟨rfl, rfl, rfl⟩
      · refine ⟨.ref t, rfl, tix0 hJ ⟨rfl, ?_⟩⟩
        rw [decide_eq_true rfl]
        refine ⟨_, rfl, rfl, _, rfl, iteF ?_⟩
        exact ⟨_, rfl, _, rfl, iteF (iteF ⟨_, rfl, eJ⟩)⟩
      · refine ⟨.ref t, rfl, tix0 hJ ⟨rfl, ?_⟩⟩
        rw [decide_eq_false (by decide)]
        refine ⟨_, rfl, rfl, _, rfl, iteF ?_⟩
        refine ⟨_, rfl, _, rfl, iteT ⟨.ref t, rfl, v, rfl, small4 2, fun p np => ?_⟩⟩
        have z := same_new (o := .tup [V.str "endless", v]) np
        have tv := (ty.ext (hid_N (E12.trans ((ExtN.of eJ).trans (.of z))))).ext hid_up
        refine ⟨.ref t, .ref p, .tuple [.str "endless", d], rfl, .tup (z _ _ hJ) (.cons (.str _) (.cons tv .nil)), .tup upd_same (.cons (.str _) (.cons tv .nil)), fit_mono (fit_say bd3), fun J' s => ⟨true, rfl, iteF ⟨_, rfl, eJ.trans (z.trans s)⟩⟩⟩
    · obtain ⟨x4, rfl, eJ⟩ := e
      show tSeq _ _ _ _ _
      have E13 := E12.trans (.of eJ)
      refine gvn _ _ _ rfl E13 (T12.ext eJ) fun G14 t w v e14 T14 r q => ?_
      refine gset ?_
      have E14 := E13.trans e14
      have done : ∀ {J : Hp}, ExtN G14 J → Tabs T J → ∃ (x0 x1 x2 x3 x4' : Option V), [some y, some (.bl bb), some (.ref p1), some (.ref t), x4, none] = [x0, x1, x2, x3, x4', none] ∧ ExtN HT J ∧ Tabs T J := fun e t => ⟨_, _, _, _, _, rfl, E0.trans (E14.trans e), t⟩
      rcases r with ⟨rfl, rfl, rfl⟩ | ⟨rfl, rfl, rfl⟩
      · refine ⟨.ref t, rfl, _, rfl, _, rfl, iteT ⟨1, rfl, small4 2, fun p np => ?_⟩⟩
        have z := same_new (o := .tup [V.str "index", .int (-1)]) np
        exact ⟨.ref t, .ref p, .tuple [.str "index", .int (-1)], rfl, .tup (z _ _ q) (.cons (.str _) (.cons (.int _) .nil)), .tup upd_same (.cons (.str _) (.cons (.int _) .nil)), by decide +kernel, fun J' s => ⟨true, rfl, iteF (done (.of (z.trans s)) (T14.ext (z.trans s)))⟩⟩
      · refine ⟨.ref t, rfl, _, rfl, _, rfl, iteF ⟨v, rfl, small4 2, fun p np => ?_⟩⟩
        have z := same_new (o := .tup [V.str "endless", v]) np
        have tv := (ty.ext (hid_N (E14.trans (.of z)))).ext hid_up
        exact ⟨.ref t, .ref p, .tuple [.str "endless", d], rfl, .tup (z _ _ q) (.cons (.str _) (.cons tv .nil)), .tup upd_same (.cons (.str _) (.cons tv .nil)), fit_mono (fit_say bd3), fun J' s => ⟨true, rfl, iteF (done (.of (z.trans s)) (T14.ext (z.trans s)))⟩⟩
  · obtain ⟨x0, x1, x2, x3, x4, rfl, E1, T1⟩ := e
    have EH := (same_N eT).trans E1
    show tSeq _ _ _ _ _
    refine tup_for (ds := odI) (mk_tup (mka_cons mk_non (mka_cons mk_neg (mka_cons mk_bl (mka_cons mk_str (mka_cons (mk_lst (mka_cons mk_int mka_nil)) (mka_cons mk_d0 mka_nil))))))) (fun HU σ G => ∃ (x5 : Option V), σ = [x0, x1, x2, x3, x4, x5] ∧ ExtN HU G ∧ Tabs T G) (fun HU eU => ⟨_, rfl, .refl _, T1.ext eU⟩) (fun HU σ G e => ?_) (fun HU y d σ G eU hd ty e => ?_) (fun HU σ G eU e => ?_)
    · obtain ⟨_, _, e, _⟩ := e
      exact e
    · obtain ⟨x5, rfl, E0, T0⟩ := e
      refine gset ?_
      exact rr_ix rfl hd (ty.ext (hid_N E0)) T0 fun H' e T' => ⟨_, rfl, E0.trans e, T'⟩
    · obtain ⟨x5, rfl, E2, T2⟩ := e
      have EJ := (EH.trans (same_N eU)).trans E2
      show tSeq _ _ _ _ _
      refine tup_for (ds := odT) (mk_tup (mka_cons mk_non (mka_cons mk_int (mka_cons mk_bl (mka_cons (mk_lst mka_nil) (mka_cons (mk_lst (mka_cons mk_str mka_nil)) (mka_cons mk_d0 (mka_cons (mk_tup (mka_cons mk_str mka_nil)) mka_nil)))))))) (fun HU σ G => ∃ (x5 : Option V), σ = [x0, x1, x2, x3, x4, x5] ∧ ExtN HU G ∧ Tabs T G) (fun HU eU => ⟨_, rfl, .refl _, T2.ext eU⟩) (fun HU σ G e => ?_) (fun HU y d σ G eU hd ty e => ?_) (fun HU σ G eU e => ?_)
      · obtain ⟨_, _, e, _⟩ := e
        exact e
      · obtain ⟨x5, rfl, E0, T0⟩ := e
        refine gset ?_
        exact rr_text rfl hd (ty.ext (hid_N E0)) T0 fun H' e T' => ⟨_, rfl, E0.trans e, T'⟩
      · obtain ⟨x5, rfl, E3, T3⟩ := e
        exact k G ((EJ.trans (same_N eU)).trans E3) T3
end
end K14.T3
namespace K14.T3
open T27
open K14.Gn
open PySem PySem.W PySem.Calls PyProof.Rows L2 LamX
open He (ga)
open Kz (SS ExtS ExtS.trans ExtS.refl small4 same_new boot_in boot_li boot_isi Has pe_has noE PSs.of_eq seqI new_ext X1)
/-! ### is_box of bad ends: the asks of _law_boxes_right -/
section
variable {K : Frag} {T : List (Addr × Str)} {vb : V} {db : PyData} {j : Nat} {G : Hp}
abbrev teBx (K : Frag) (T : List (Addr × Str)) : TE := tLam T (tlA K) fun E => tCall (spBxX K) [] E (tCons (tVar 12) (tCons (tTup (tCons (tC (.str "a")) (tCons (tLst tNil) (tCons (tLst tNil) tNil)))) tNil))
theorem gv_bx (eo : EndsOk (Hid [] G) vb db) (f : fne db = some j) : Gives T (teBx K T) (fun σ : L2.St => σ[12]? = some (some vb)) G "ends" (.int (j : Nat)) :=
  gives_ofA fun σ H1 Q Q' hS e kk => by
    refine ⟨vb, hS, small4 0, fun p1 n1 => ⟨small4 0, fun p2 n2 => ⟨small4 3, fun p3 n3 => ?_⟩⟩⟩
    have s1 := same_new (o := .lst []) n1
    have s2 := same_new (o := .lst []) n2
    have s3 := same_new (o := .tup [V.str "a", .ref p1, .ref p2]) n3
    have S3 := s1.trans (s2.trans s3)
    exact ⟨vb, .ref p3, db, j, rfl, ((eo.ext (hid_N e)).ext hid_up).ext S3, f, says_ea _ a_ends fun H' t s q => kk H' t (S3.trans s) q⟩
/-- if not _law_same(_law_asked(..), ("ends", at)): return False -/
theorem br_ends {A : TS} {D : Ends} {σ : L2.St} (h12 : σ[12]? = some (some vb)) (h10 : σ[10]? = some (some (.int (j : Nat)))) (eo : EndsOk (Hid [] G) vb db) (f : fne db = some j) (hT : Tabs T G) (k : ∀ H', ExtN G H' → Tabs T H' → D.nx σ H') :
    tIfS (tNot (tB (tCall (spSm 3) [] noE (tCons (teBx K T) (tCons (tTup (tCons (tC (.str "ends")) (tCons (tVar 10) tNil))) tNil))))) A tNext D σ G :=
  asked_oneA (m := 1) (H0 := G) (d := .int (j : Nat)) (gv_bx eo f) h12 h10 (.refl _) hT (.int _) rfl k
/-- return _law_same(_law_asked(..), ("ends", 0)) -/
theorem br_last {D : Ends} {σ : L2.St} (h12 : σ[12]? = some (some vb)) (eo : EndsOk (Hid [] G) vb db) (f : fne db = some 0) (hT : Tabs T G) (k : ∀ H', ExtN G H' → Tabs T H' → D.rt (.bl true) H') :
    tRet (tCall (spSm 3) [] noE (tCons (teBx K T) (tCons (tTup (tCons (tC (.str "ends")) (tCons (tC (.int 0)) tNil))) tNil))) D σ G := by
  refine gv_bx (K := K) (T := T) eo f σ G _ h12 (.refl _) hT fun H1 t e1 T1 q => ⟨small4 2, fun p np => ?_⟩
  have e2 := same_new (o := .tup [.str "ends", .int 0]) np
  exact ⟨.ref t, .ref p, .tuple [.str "ends", .int 0], rfl, .tup (e2 _ _ q) (.cons (.str _) (.cons (.int _) .nil)), .tup upd_same (.cons (.str _) (.cons (.int _) .nil)), by decide +kernel, fun H' e4 => k H' (e1.trans (.of (e2.trans e4))) (T1.ext (e2.trans e4))⟩
/-- no name, or one that was told before -/
def BadName (o : PyData) (seen : List Str) : Prop := ∀ s, o = .str s → (nameB (.str s) && !seen.contains s) = false
theorem fne_bad {o : PyData} {r : List PyData} : ∀ {ns st : List Str} {j : Nat}, ns.Nodup → (∀ s ∈ ns, s ∈ endNames) → (∀ s ∈ ns, s ∉ st) → BadName o (st ++ ns) → fneL (ns.map PyData.str ++ o :: r) st j = some (j + ns.length)
  | [], st, j, _, _, _, b => by
    rw [List.append_nil] at b
    cases o with
    | str s =>
      have e : fneL (([] : List Str).map PyData.str ++ PyData.str s :: r) st j = if (nameB (.str s) && !st.contains s) = true then fneL r (st ++ [s]) (j + 1) else some j := rfl
      rw [e, b s rfl]
      rfl
    | _ => rfl
  | s :: q, st, j, nd, hm, hn, b => by
    have n0 : nameB (.str s) = true := List.all_eq_true.mp names_all s (hm s (List.mem_cons_self ..))
    have c0 : st.contains s = false := by
      cases q : st.contains s with
      | false => rfl
      | true => exact absurd (List.contains_iff_mem.mp q) (hn s (List.mem_cons_self ..))
    obtain ⟨d1, d2⟩ := List.nodup_cons.mp nd
    have ef : fneL ((s :: q).map PyData.str ++ o :: r) st j = if (nameB (.str s) && !st.contains s) = true then fneL (q.map PyData.str ++ o :: r) (st ++ [s]) (j + 1) else some j := rfl
    rw [ef, n0, c0]
    have ih := fne_bad (o := o) (r := r) (ns := q) (st := st ++ [s]) (j := j + 1) d2 (fun x hx => hm x (List.mem_cons_of_mem _ hx)) (fun x hx h => by
      rcases List.mem_append.mp h with h | h
      · exact hn x (List.mem_cons_of_mem _ hx) h
      · rw [List.mem_singleton.mp h] at hx
        exact d1 hx) (by rw [List.append_assoc]; exact b)
    show fneL (q.map PyData.str ++ o :: r) (st ++ [s]) (j + 1) = _
    rw [ih, List.length_cons]
    congr 1
    omega
end
end K14.T3
namespace K14.T3
open T27
open K14.Gn
open PySem PySem.W PySem.Calls PyProof.Rows L2 LamX
open He (ga)
open Kz (SS ExtS ExtS.trans ExtS.refl small4 same_new boot_in boot_li boot_isi Has pe_has noE PSs.of_eq seqI new_ext X1)
/-! ### drawn data for _law_boxes_right -/
/-- a statement that sets a name -/
theorem set_intro {i : Nat} {te : TE} {u : TS} {D : Ends} {σ : L2.St} {H : Hp} (h : te σ H fun v G => u D (List.set σ i (some v)) G) : tSeq (tAsg te (gName i)) u D σ H := h
theorem par_intro {i j : Nat} {ta : TA} {u : TS} {D : Ends} {σ : L2.St} {H : Hp} (h : ta σ H fun vs G => ∃ v w, vs = [v, w] ∧ u D ((List.set σ i (some v)).set j (some w)) G) : tSeq (tPar i j ta) u D σ H := h
theorem cons2_intro {t1 t2 : TE} {σ : L2.St} {H : Hp} {Q : List V → Hp → Prop} (h : t1 σ H fun v G => t2 σ G fun w G' => Q [v, w] G') : tCons t1 (tCons t2 tNil) σ H Q := h
theorem if_intro {tc : TT} {A B : TS} {D : Ends} {σ : L2.St} {H : Hp} (h : tc σ H fun c G => if c = true then A D σ G else B D σ G) : tIfS tc A B D σ H := h
/-- _law_pick(stream, a list of data) -/
theorem pick_gv {S : List Addr} {σ : L2.St} {H0 H : Hp} {te : TE} {zs : List PyData} {l li : Addr} {c : Int} {Q : VK} (h0 : σ[0]? = some (some (.ref l))) (g : Gv S σ H0 te (.list zs)) (s : L2.Same H0 H) (ins : Ins S H) (m1 : l ∈ S) (m2 : li ∈ S) (sp : Spr H l li c) (z0 : 0 < zs.length) (z1 : zs.length ≤ 1000) (hc : c < 900000000)
    (k : ∀ (H' : Hp) (x : V) (z : PyData), ExtS l li H H' → Spr H' l li (c + 1) → z ∈ zs → Th (Hid S H') x z → Q x H') : tCall spPk [] noE (tCons (tVar 0) (tCons te tNil)) σ H Q := by
  refine ⟨.ref l, h0, g H _ s ins fun H1 v s1 t1 => ?_⟩
  cases t1 with
  | @lst a xs _ ha r1 =>
    have nm := (hid_at ha).1
    refine ⟨l, li, a, c, xs, rfl, sp.same s1, hid_up _ _ ha, fun z => nm (by rw [z]; exact m1), fun z => nm (by rw [z]; exact m2), by rw [r1.length]; exact z0, by rw [r1.length]; exact z1, hc, fun H2 x e2 sp2 hx => ?_⟩
    obtain ⟨z, hz, tz⟩ := thAll_mem r1 hx
    exact k H2 x z ((same_S s1).trans e2) sp2 hz (tz.ext (hid_S m1 m2 e2))
def rowsD : List PyData := [.list [], .list [.int 0], .tuple [.int 1, .int 0], .list [.int 2], .none, .list [.bool true], .str "0", .list [.int 0, .list [.int 1]]]
def endO : List PyData := [.str "q9", .none, .int 5, .list [.str "a"], .str "x"]
def someD (a b c : PyData) : List PyData := [.tuple [a, b, c], .list [a, b, c], .tuple [a, b, c], .tuple [a, b], .tuple [a, b, c, .list []], .none, .str "abc"]
theorem rowsD_small : ∀ z ∈ rowsD, (its z).length ≤ 5 := by
  have : rowsD.all (fun z => decide ((its z).length ≤ 5)) = true := by decide +kernel
  exact fun z hz => of_decide_eq_true (List.all_eq_true.mp this z hz)
theorem endO_small {ns : List Str} : ∀ z ∈ ns.map PyData.str ++ endO, (its z).length ≤ 5 := fun z hz => by
  rcases List.mem_append.mp hz with h | h
  · obtain ⟨s, _, rfl⟩ := List.mem_map.mp h
    exact Nat.zero_le _
  · have : endO.all (fun z => decide ((its z).length ≤ 5)) = true := by decide +kernel
    exact of_decide_eq_true (List.all_eq_true.mp this z h)
theorem someD_small {a b c : PyData} (ha : (its a).length ≤ 5) (hb : (its b).length ≤ 5) (hc : (its c).length ≤ 5) : ∀ z ∈ someD a b c, (its z).length ≤ 5 ∧ ∀ x ∈ its z, (its x).length ≤ 5 := by
  have i3 : ∀ x ∈ [a, b, c], (its x).length ≤ 5 := forall_c ha (forall_c hb (forall_c hc forall_n))
  refine forall_c ⟨Nat.le_of_ble_eq_true rfl, i3⟩ (forall_c ⟨Nat.le_of_ble_eq_true rfl, i3⟩ (forall_c ⟨Nat.le_of_ble_eq_true rfl, i3⟩ (forall_c ⟨Nat.le_of_ble_eq_true rfl, forall_c ha (forall_c hb forall_n)⟩ (forall_c ⟨Nat.le_of_ble_eq_true rfl, forall_c ha (forall_c hb (forall_c hc (forall_c (Nat.zero_le _) forall_n)))⟩ (forall_c ⟨Nat.le_of_ble_eq_true rfl, fun x h => nomatch h⟩ (forall_c ⟨Nat.le_of_ble_eq_true rfl, fun x h => nomatch h⟩ forall_n))))))
/-! slices of a list of data -/
section
variable {S : List Addr} {σ : L2.St} {H0 : Hp} {K : Frag}
def PureI (ti : TE) (σ : L2.St) (m : Nat) : Prop := ∀ (H : Hp) (Q : VK), Q (.int (m : Nat)) H → ti σ H Q
theorem cut_takeA (xs : List V) (m : Nat) : cutV xs none (some (m : Int)) = xs.take m := by
  unfold cutV
  have e1 : HT.sIx xs.length 0 none = 0 := rfl
  have e2 : HT.sIx xs.length xs.length (some (m : Int)) = min m xs.length := HT.sIx_nat ..
  rw [e1, e2, List.drop_zero, Nat.sub_zero, ← List.take_take, List.take_length]
theorem gv_take {t1 ti : TE} {x : List PyData} {m : Nat} (h1 : Gv S σ H0 t1 (.list x)) (hi : PureI ti σ m) : Gv S σ H0 (tSl (rSlL K) t1 tNoPart (tPart ti)) (.list (x.take m)) := fun H Q s ins k =>
  h1 H _ s ins fun H1 v s1 q1 => hi H1 _ ⟨m, rfl, by
    cases q1 with
    | @lst a xs _ ha r1 =>
      refine ⟨a, xs, rfl, .inl (.inl (hid_up _ _ ha)), fun p np => ?_⟩
      rw [cut_takeA]
      have s2 := same_new (o := .lst (xs.take m)) np
      exact k _ _ (s1.trans s2) (.lst (hid_of ((ins.same s1).new np) upd_same fun ps z => nomatch z) (thAll_take (r1.ext (hid_same s2))))⟩
theorem gv_drop {t1 ti : TE} {x : List PyData} {m : Nat} (h1 : Gv S σ H0 t1 (.list x)) (hi : PureI ti σ m) (hm : m ≤ x.length) : Gv S σ H0 (tSl (rSlL K) t1 (tPart ti) tNoPart) (.list (x.drop m)) := fun H Q s ins k =>
  h1 H _ s ins fun H1 v s1 q1 => hi H1 _ ⟨m, rfl, by
    cases q1 with
    | @lst a xs _ ha r1 =>
      refine ⟨a, xs, rfl, .inl (.inl (hid_up _ _ ha)), fun p np => ?_⟩
      rw [cutV_drop (by rw [r1.length]; exact hm)]
      have s2 := same_new (o := .lst (xs.drop m)) np
      exact k _ _ (s1.trans s2) (.lst (hid_of ((ins.same s1).new np) upd_same fun ps z => nomatch z) (thAll_drop (r1.ext (hid_same s2))))⟩
end
def oddE : List PyData := [.str "X", .str "", .str "stop", .int 5, .none, .list [.str "a"]]
theorem odd_bad {ns : List Str} {at' : Nat} : ∀ z ∈ oddE ++ ((ns.map PyData.str).take at').take 1, BadName z (ns.take at') := fun z hz => by
  rcases List.mem_append.mp hz with h | h
  · have c : ∀ t : Str, nameB (.str t) = false → ∀ st : List Str, BadName (.str t) st := fun t e st s q => by
      obtain rfl := PyData.str.inj q
      rw [e]
      rfl
    have key : ∀ z ∈ oddE, BadName z (ns.take at') := by
      refine forall_c (c _ (by decide +kernel) _) (forall_c (c _ (by decide +kernel) _) (forall_c (c _ (by decide +kernel) _) (forall_c (fun s q => nomatch q) (forall_c (fun s q => nomatch q) (forall_c (fun s q => nomatch q) forall_n)))))
    exact key z h
  · rw [← List.map_take, ← List.map_take] at h
    obtain ⟨s, hs, rfl⟩ := List.mem_map.mp h
    intro t q
    obtain rfl := PyData.str.inj q
    rw [List.contains_iff_mem.mpr (List.mem_of_mem_take hs)]
    simp
def lastD : List PyData := [.none, .int 5, .str "ab", .dict [], .bool true]
theorem last_ends {H : Hp} {v : V} {z : PyData} (h : z ∈ lastD) (t : Th H v z) : EndsOk H v z ∧ fne z = some 0 := by
  have key : ∀ z ∈ lastD, its z = [] ∧ fne z = some 0 := forall_c ⟨rfl, rfl⟩ (forall_c ⟨rfl, rfl⟩ (forall_c ⟨rfl, rfl⟩ (forall_c ⟨rfl, rfl⟩ (forall_c ⟨rfl, rfl⟩ forall_n))))
  obtain ⟨e, f⟩ := key z h
  exact ⟨⟨t, by rw [e]; exact Nat.zero_le _, fun s hs => by rw [e] at hs; cases hs⟩, f⟩
theorem bad_ends {H : Hp} {v : V} {o : PyData} {ns : List Str} {at' : Nat} (hat : at' ≤ ns.length) (l16 : ns.length ≤ 16) (nd : ns.Nodup) (hm : ∀ s ∈ ns, s ∈ endNames) (ho : o ∈ oddE ++ ((ns.map PyData.str).take at').take 1)
    (t : Th H v (.list (((ns.map PyData.str).take at' ++ [o]) ++ (ns.map PyData.str).drop at'))) : EndsOk H v (.list (((ns.map PyData.str).take at' ++ [o]) ++ (ns.map PyData.str).drop at')) ∧ fne (.list (((ns.map PyData.str).take at' ++ [o]) ++ (ns.map PyData.str).drop at')) = some at' := by
  have nm : ∀ s ∈ endNames, s.length ≤ 100000 := by
    have : endNames.all (fun s => decide (s.length ≤ 100000)) = true := by decide +kernel
    exact fun s hs => of_decide_eq_true (List.all_eq_true.mp this s hs)
  refine ⟨⟨t, ?_, fun s hs => ?_⟩, ?_⟩
  · show (((ns.map PyData.str).take at' ++ [o]) ++ (ns.map PyData.str).drop at').length ≤ 1000
    rw [List.length_append, List.length_append, List.length_take, List.length_drop, List.length_map]
    simp only [List.length_cons, List.length_nil]
    omega
  · have inm : ∀ s, PyData.str s ∈ ns.map PyData.str → s.length ≤ 100000 := fun s h => by
      obtain ⟨x, hx, ex⟩ := List.mem_map.mp h
      obtain rfl := PyData.str.inj ex
      exact nm x (hm x hx)
    have hs : PyData.str s ∈ ((ns.map PyData.str).take at' ++ [o]) ++ (ns.map PyData.str).drop at' := hs
    rcases List.mem_append.mp hs with hs | hs
    · rcases List.mem_append.mp hs with hs | hs
      · exact inm s (List.mem_of_mem_take hs)
      · rw [← List.mem_singleton.mp hs] at ho
        rcases List.mem_append.mp ho with h | h
        · have key : ∀ z ∈ oddE, ∀ s, z = PyData.str s → s.length ≤ 100000 := by
            have c : ∀ t : Str, t.length ≤ 100000 → ∀ s, PyData.str t = PyData.str s → s.length ≤ 100000 := fun t e s q => by
              obtain rfl := PyData.str.inj q
              exact e
            exact forall_c (c _ (by decide +kernel)) (forall_c (c _ (by decide +kernel)) (forall_c (c _ (by decide +kernel)) (forall_c (fun s q => nomatch q) (forall_c (fun s q => nomatch q) (forall_c (fun s q => nomatch q) forall_n)))))
          exact key _ h s rfl
        · exact inm s (List.mem_of_mem_take (List.mem_of_mem_take h))
    · exact inm s (List.mem_of_mem_drop hs)
  · show fneL _ [] 0 = _
    rw [List.append_assoc, ← List.map_take]
    show fneL ((ns.take at').map PyData.str ++ o :: _) [] 0 = _
    rw [fne_bad (nd.sublist (List.take_sublist _ _)) (fun s hs => hm s (List.mem_of_mem_take hs)) (fun s _ h => absurd h (by simp)) (odd_bad o ho), List.length_take]
    congr 1
    omega
/-! the lists of data, made -/
section
variable {S : List Addr} {σ : L2.St} {H0 : Hp}
abbrev teRows : TE := tLst (tCons (tLst tNil) (tCons (tLst (tCons (tC (.int 0)) tNil)) (tCons (tTup (tCons (tC (.int 1)) (tCons (tC (.int 0)) tNil))) (tCons (tLst (tCons (tC (.int 2)) tNil)) (tCons (tC .non) (tCons (tLst (tCons (tC (.bl true)) tNil)) (tCons (tC (.str "0")) (tCons (tLst (tCons (tC (.int 0)) (tCons (tLst (tCons (tC (.int 1)) tNil)) tNil))) tNil))))))))
theorem gv_rows : Gv S σ H0 teRows (.list rowsD) := by
  have a1 : Gv S σ H0 (tLst (tCons (tC (.int 0)) tNil)) (.list [.int 0]) := gv_lst (gva_cons gv_int gva_nil)
  have a2 : Gv S σ H0 (tTup (tCons (tC (.int 1)) (tCons (tC (.int 0)) tNil))) (.tuple [.int 1, .int 0]) := gv_tup (gva_cons gv_int (gva_cons gv_int gva_nil))
  have a3 : Gv S σ H0 (tLst (tCons (tC (.int 2)) tNil)) (.list [.int 2]) := gv_lst (gva_cons gv_int gva_nil)
  have a5 : Gv S σ H0 (tLst (tCons (tC (.bl true)) tNil)) (.list [.bool true]) := gv_lst (gva_cons gv_bl gva_nil)
  have a6 : Gv S σ H0 (tLst (tCons (tC (.int 1)) tNil)) (.list [.int 1]) := gv_lst (gva_cons gv_int gva_nil)
  have a7 : Gv S σ H0 (tLst (tCons (tC (.int 0)) (tCons (tLst (tCons (tC (.int 1)) tNil)) tNil))) (.list [.int 0, .list [.int 1]]) := gv_lst (gva_cons gv_int (gva_cons a6 gva_nil))
  exact gv_lst (gva_cons (gv_lst gva_nil) (gva_cons a1 (gva_cons a2 (gva_cons a3 (gva_cons gv_non (gva_cons a5 (gva_cons gv_str (gva_cons a7 gva_nil)))))))) (Nat.le_of_ble_eq_true rfl)
abbrev teEndO : TE := tLst (tCons (tC (.str "q9")) (tCons (tC .non) (tCons (tC (.int 5)) (tCons (tLst (tCons (tC (.str "a")) tNil)) (tCons (tC (.str "x")) tNil)))))
theorem gv_endO : Gv S σ H0 teEndO (.list endO) := by
  have a1 : Gv S σ H0 (tLst (tCons (tC (.str "a")) tNil)) (.list [.str "a"]) := gv_lst (gva_cons gv_str gva_nil)
  exact gv_lst (gva_cons gv_str (gva_cons gv_non (gva_cons gv_int (gva_cons a1 (gva_cons gv_str gva_nil))))) (Nat.le_of_ble_eq_true rfl)
abbrev teLast : TE := tLst (tCons (tC .non) (tCons (tC (.int 5)) (tCons (tC (.str "ab")) (tCons tDNewK (tCons (tC (.bl true)) tNil)))))
theorem gv_last : Gv S σ H0 teLast (.list lastD) := gv_lst (gva_cons gv_non (gva_cons gv_int (gva_cons gv_str (gva_cons gv_dict (gva_cons gv_bl gva_nil))))) (Nat.le_of_ble_eq_true rfl)
abbrev teOdd : TE := tLst (tCons (tC (.str "X")) (tCons (tC (.str "")) (tCons (tC (.str "stop")) (tCons (tC (.int 5)) (tCons (tC .non) (tCons (tLst (tCons (tC (.str "a")) tNil)) tNil))))))
theorem gv_odd : Gv S σ H0 teOdd (.list oddE) := by
  have a1 : Gv S σ H0 (tLst (tCons (tC (.str "a")) tNil)) (.list [.str "a"]) := gv_lst (gva_cons gv_str gva_nil)
  exact gv_lst (gva_cons gv_str (gva_cons gv_str (gva_cons gv_str (gva_cons gv_int (gva_cons gv_non (gva_cons a1 gva_nil)))))) (Nat.le_of_ble_eq_true rfl)
abbrev te3 : TA := tCons (tVar 4) (tCons (tVar 5) (tCons (tVar 6) tNil))
abbrev teSome : TE := tLst (tCons (tTup te3) (tCons (tLst te3) (tCons (tTup te3) (tCons (tTup (tCons (tVar 4) (tCons (tVar 5) tNil))) (tCons (tTup (tCons (tVar 4) (tCons (tVar 5) (tCons (tVar 6) (tCons (tLst tNil) tNil))))) (tCons (tC .non) (tCons (tC (.str "abc")) tNil)))))))
theorem gv_some {a b c : PyData} (g4 : Gv S σ H0 (tVar 4) a) (g5 : Gv S σ H0 (tVar 5) b) (g6 : Gv S σ H0 (tVar 6) c) : Gv S σ H0 teSome (.list (someD a b c)) := by
  have g3 : GvA S σ H0 te3 [a, b, c] := gva_cons g4 (gva_cons g5 (gva_cons g6 gva_nil))
  have b1 : Gv S σ H0 (tTup te3) (.tuple [a, b, c]) := gv_tup g3
  have b2 : Gv S σ H0 (tLst te3) (.list [a, b, c]) := gv_lst g3
  have b4 : Gv S σ H0 (tTup (tCons (tVar 4) (tCons (tVar 5) tNil))) (.tuple [a, b]) := gv_tup (gva_cons g4 (gva_cons g5 gva_nil))
  have b5 : Gv S σ H0 (tTup (tCons (tVar 4) (tCons (tVar 5) (tCons (tVar 6) (tCons (tLst tNil) tNil))))) (.tuple [a, b, c, .list []]) := gv_tup (gva_cons g4 (gva_cons g5 (gva_cons g6 (gva_cons (gv_lst gva_nil) gva_nil))))
  exact gv_lst (gva_cons b1 (gva_cons b2 (gva_cons b1 (gva_cons b4 (gva_cons b5 (gva_cons gv_non (gva_cons gv_str gva_nil))))))) (Nat.le_of_ble_eq_true rfl)
end
end K14.T3
namespace K14.T3
open T27
open K14.Gn
open PySem PySem.W PySem.Calls PyProof.Rows L2 LamX
open He (ga)
open Kz (SS ExtS ExtS.trans ExtS.refl small4 same_new boot_in boot_li boot_isi Has pe_has noE PSs.of_eq seqI new_ext X1)
/-! ### what is due of a thing -/
def dueA (ns : List Str) (d : PyData) : Bool := isL d && (match its d with
  | [.str s, _, _] => inN ns s
  | _ => false)
def teD (K : Frag) : TE := tAndV (tCB (rIsiT K) (tCons (tVar 8) (tCons (tTup (tCons (tC (.ty "list")) (tCons (tC (.ty "tuple")) tNil))) tNil)))
  (tAndV (tOp rEq (tCB (Kz.rLen K) (tCons (tVar 8) tNil)) (tC (.int 3))) (tAndV (tCB (rIsi K) (tCons (tOp (rIx K) (tVar 8) (tC (.int 0))) (tCons (tC (.ty "str")) tNil))) (tOp (rIn K false) (tOp (rIx K) (tVar 8) (tC (.int 0))) (tVar 1))))
def teF (K : Frag) : TE := tAndV (tVar 9) (tAndV (tCall spIg [] noE (tCons (tOp (rIx K) (tVar 8) (tC (.int 1))) tNil)) (tCall spIg [] noE (tCons (tOp (rIx K) (tVar 8) (tC (.int 2))) tNil)))
section
variable {K : Frag} {σ : L2.St} {H : Hp} {v ve : V} {d : PyData} {ns : List Str} {Q : VK}
theorem due_run (h8 : σ[8]? = some (some v)) (h1 : σ[1]? = some (some ve)) (hv : Th H v d) (hE : EndsS H ve ns) (k : ∀ H', L2.Same H H' → Q (.bl (dueA ns d)) H') : teD K σ H Q := by
  refine ⟨v, h8, small4 2, fun p np => ⟨v, p, _, _, _, _, rfl, upd_same, .cons (.ty _) (.cons (.ty _) .nil), (hv.ext (same_new np)).ty, is_lt d, _, rfl, ?_⟩⟩
  have s1 := same_new (o := .tup [.ty "list", .ty "tuple"]) np
  generalize upd H p (.tup [.ty "list", .ty "tuple"]) = H1 at s1 ⊢
  have kk := k H1 s1
  cases l : isL d with
  | false =>
    have e : dueA ns d = false := by unfold dueA; rw [l]; rfl
    rw [e] at kk
    exact iteF kk
  | true =>
    have hv1 := hv.ext s1
    obtain ⟨a, xs, ea, r, hx⟩ := hv1.seq (K := K) l
    have lx : xs.length = (its d).length := r.length
    refine iteT ⟨v, h8, a, xs, by rw [ea], sl_of hx, rfl, _, rfl, ?_⟩
    rw [lx]
    by_cases h3 : (its d).length = 3
    · have e3 : decide (V.int (((its d).length : Nat) : Int) = V.int 3) = true := decide_eq_true (by rw [h3]; rfl)
      rw [e3]
      obtain ⟨z0, z1, z2, ed⟩ : ∃ z0 z1 z2, its d = [z0, z1, z2] := by
        match its d, h3 with
        | [z0, z1, z2], _ => exact ⟨z0, z1, z2, rfl⟩
      obtain ⟨x0, t0, i0⟩ := th_ix (K := K) (j := 0) hv1 l (z := z0) (by rw [ed]; rfl)
      refine iteT ⟨v, h8, i0 _ ⟨x0, _, _, _, _, rfl, .ty _, t0.ty, is_st z0, _, rfl, ?_⟩⟩
      have no : isSt z0 = false → dueA ns d = false := fun q => by
        unfold dueA
        rw [ed, l]
        cases z0 with
        | str s => cases q
        | _ => rfl
      cases z0 with
      | str s0 =>
        have eb : dueA ns d = inN ns s0 := by
          unfold dueA
          rw [ed, l]
          rfl
        rw [eb] at kk
        refine iteT ?_
        cases t0 with
        | str =>
          obtain ⟨ae, rfl, qe⟩ := (hE.ext s1).ex
          exact ⟨v, h8, i0 _ ⟨.ref ae, h1, ae, _, rfl, sl_of qe, rfl, flat_strs ns, kk⟩⟩
      | _ =>
        rw [no rfl] at kk
        exact iteF kk
    · have e3 : decide (V.int (((its d).length : Nat) : Int) = V.int 3) = false := decide_eq_false (fun y => h3 (by have := V.int.inj y; omega))
      rw [e3]
      have eb : dueA ns d = false := by
        unfold dueA
        split
        · rename_i q
          rw [q] at h3
          exact absurd rfl h3
        · rw [Bool.and_false]
      rw [eb] at kk
      exact iteF kk
theorem due_run2 (h8 : σ[8]? = some (some v)) (h9 : σ[9]? = some (some (.bl (dueA ns d)))) (hv : Th H v d) (bd : Bd d) (k : ∀ H', L2.Same H H' → Q (.bl (boxB ns d)) H') : teF K σ H Q := by
  refine ⟨_, h9, _, rfl, ?_⟩
  cases c : dueA ns d with
  | false =>
    have e : boxB ns d = false := by
      unfold dueA at c
      unfold boxB
      cases l : isL d with
      | false => rfl
      | true =>
        rw [l, Bool.true_and] at c
        rw [Bool.true_and]
        split
        · rename_i q
          rw [q] at c
          have c : inN ns _ = false := c
          rw [c]
          rfl
        · rfl
    have kk := k H (fun _ _ q => q)
    rw [e] at kk
    exact iteF kk
  | true =>
    unfold dueA at c
    obtain ⟨l, c2⟩ := Bool.and_eq_true_iff.mp c
    obtain ⟨s, z1, z2, ed, ci⟩ : ∃ s z1 z2, its d = [.str s, z1, z2] ∧ inN ns s = true := by
      split at c2
      · rename_i s z1 z2 q
        exact ⟨s, z1, z2, q, c2⟩
      · cases c2
    have eb : boxB ns d = (isR z1 && isR z2) := by
      unfold boxB
      rw [ed, l]
      show (true && (inN ns s && (isR z1 && isR z2))) = _
      rw [ci, Bool.true_and, Bool.true_and]
    rw [eb] at k
    have m1 : z1 ∈ its d := by rw [ed]; simp
    have m2 : z2 ∈ its d := by rw [ed]; simp
    obtain ⟨x1, t1, i1⟩ := th_ix (K := K) (j := 1) hv l (z := z1) (by rw [ed]; rfl)
    refine iteT ⟨v, h8, i1 _ ⟨x1, z1, rfl, t1, bd.2 _ m1, fun H2 s2 => ⟨_, rfl, ?_⟩⟩⟩
    cases q1 : isR z1 with
    | false =>
      rw [q1] at k
      exact iteF (k H2 s2)
    | true =>
      rw [q1] at k
      obtain ⟨x2, t2, i2⟩ := th_ix (K := K) (j := 2) (hv.ext s2) l (z := z2) (by rw [ed]; rfl)
      exact iteT ⟨v, h8, i2 _ ⟨x2, z2, rfl, t2, bd.2 _ m2, fun H3 s3 => k H3 (s2.trans s3)⟩⟩
end
end K14.T3
namespace K14.T3
open T27
open K14.Gn
open PySem PySem.W PySem.Calls PyProof.Rows L2 LamX
open He (ga)
open Kz (SS ExtS ExtS.trans ExtS.refl small4 same_new boot_in boot_li boot_isi Has pe_has noE PSs.of_eq seqI new_ext X1)
/-! ### the run of _law_boxes_right -/
section
variable {P : Program} {w : World} {K : Frag} {mg : Str → Option Value} {base : Heap}
def spBr (T : List (Addr × Str)) : Sp := fun vs H Q _ => ∃ (l li : Addr) (c : Int), vs = [.ref l] ∧ Spr H l li c ∧ c < 700000000 ∧ Tabs T H ∧ ∀ H', ExtL l li H H' → Spr H' l li (c + 50) → Tabs T H' → Q (.bl true) H'
theorem ok_br {f c Pt g : Addr} {gd : FuncData} {T : List (Addr × Str)} {oc kV doc pm ct : Value} {od an : Option Addr} {osl : Array (Option Value)} (lk : K.lookup f = some ⟨oc, od, .func (fnOf "_law_boxes_right" "_law_boxes_right" (defArgs sBr) (defBody sBr) (defScope sBr) .none kV doc pm an (.ref c) ct), osl⟩) (hcd : codeIn K (.ref c) "_law_boxes_right" = true)
    (TB : TabB base mg c Pt) (hmT : (Pt, qBr) ∈ T) (hu : ∀ p ∈ T, p.1 = Pt → p.2 = qBr)
    (G : FunD K "_law_asked" "_law_asked" (defArgs sAk) (defBody sAk) (defScope sAk) [] [] g gd) (mo : mg "_law_asked" = some (.ref g)) (kp : keepIn K (.ref g) = true) (bd : L2.Binds K gd ["ask"] []) (R : AkK P K mg) (L : BrK P w K mg base) (mr : mg "range" = none) (B : BtK mg) (ms : mg "str" = none) :
    FnOk P w K mg base CX0 8 f (fnOf "_law_boxes_right" "_law_boxes_right" (defArgs sBr) (defBody sBr) (defScope sBr) .none kV doc pm an (.ref c) ct) ["stream"] (spBr T) := by
  obtain ⟨og, odg, kVg, docg, pmg, ang, cg, ctg, oslg, rfl, lkg, hcg⟩ := fun_code G
  refine fn_of (CX := CX0) (P := P) (w := w) (mg := mg) (base := base) (k := 7) (N := NBr) lk hcd scBr (fun vs H Q E h => ?_) (fun A outer s H vs Q XE hr hsp => ?_)
  · obtain ⟨l, li, c, rfl, _⟩ := h
    rfl
  obtain ⟨l, li, c0, rfl, sp, cb, hT, k⟩ := hsp
  have gl : Gl (XBr P w K mg base f (.ref c) A outer s H XE) "_law_asked" := rfl
  have gv := ak_gives (X := XBr P w K mg base f (.ref c) A outer s H XE) (g := g) (cdg := .ref cg) (q := qBr) R
  have ask : ∀ {params : Arguments} {body : Expr} {scope : Scope} {p lpos pos : Pos} {t : XK → TE}, LamS (defScope sBr) scope → defaultsOf params (XBr P w K mg base f (.ref c) A outer s H XE).env = ([], []) → (∀ (q : Str) (cl : List (Str × Addr)) (pm cv ctv : Value), bindArgs (kla_fn "<lambda>" q params body scope cl pm cv ctv) ⟨[], []⟩ = pure []) →
      (∀ (A' : Around) (outer' : List Env) (s' : Shared) (H' : Hp) (E : XK) (f' c' : Addr), Room 5 (A'.deeper (lamEnv (XBr P w K mg base f (.ref c) A outer s H XE) scope s'.heap.objs.size f' c')) → PE (lamCx (XBr P w K mg base f (.ref c) A outer s H XE) A' outer' s' H' E scope f' c') body (t E)) →
      PE (XBr P w K mg base f (.ref c) A outer s H XE) (.Call (.Name "_law_asked" p) [.Lambda params body scope lpos] [] pos) (tLam T (tlA K) t) :=
    fun hL hd hb hbody => pe_lamcall gl mo kp lkg hcg bd scAk rfl (.inl rfl) gv TB rfl hmT hu hr hL hd hb hbody
  have h0 : PS (XBr P w K mg base f (.ref c) A outer s H XE) (stOf sBr 0) _ := ps_set (i := 1) scBr.nd rfl (.inl rfl) (pe_has L.en (hr.mono (by decide)) (by rfl) (pa_cons (pv 0) (pa_cons (pe_has L.dr (hr.mono (by decide)) (by rfl) (pa_cons (pv 0) (pa_cons pe_int pa_nil))) pa_nil)))
  have h1 : PS (XBr P w K mg base f (.ref c) A outer s H XE) (stOf sBr 1) _ := ps_set (i := 2) scBr.nd rfl (.inl rfl) (pe_lst (pa_cons (pe_lst pa_nil) (pa_cons (pe_lst (pa_cons pe_int pa_nil)) (pa_cons (pe_tup (pa_cons pe_int (pa_cons pe_int pa_nil))) (pa_cons (pe_lst (pa_cons pe_int pa_nil)) (pa_cons pe_non (pa_cons (pe_lst (pa_cons pe_bl pa_nil)) (pa_cons pe_str (pa_cons (pe_lst (pa_cons pe_int (pa_cons (pe_lst (pa_cons pe_int pa_nil)) pa_nil))) pa_nil)))))))))
  have b0 : PS (XBr P w K mg base f (.ref c) A outer s H XE) (fbB 0) _ := ps_set (i := 4) scBr.nd rfl (.inl rfl) (pe_has L.pk (hr.mono (by decide)) (by rfl) (pa_cons (pv 0) (pa_cons (pe_op op_cat (pv 1) (pe_lst (pa_cons pe_str (pa_cons pe_non (pa_cons pe_int (pa_cons (pe_lst (pa_cons pe_str pa_nil)) (pa_cons pe_str pa_nil))))))) pa_nil)))
  have b1 : PS (XBr P w K mg base f (.ref c) A outer s H XE) (fbB 1) _ := ps_par (i := 5) (j := 6) rfl scBr.nd rfl rfl (by decide) rfl rfl (pa_cons (pe_has L.pk (hr.mono (by decide)) (by rfl) (pa_cons (pv 0) (pa_cons (pv 2) pa_nil))) (pa_cons (pe_has L.pk (hr.mono (by decide)) (by rfl) (pa_cons (pv 0) (pa_cons (pv 2) pa_nil))) pa_nil)) (by rfl)
  have tp3 : ∀ {p q1 q2 q3 : Pos} {k : Nat}, PE (XBr P w K mg base f (.ref c) A outer s H XE) (.Tuple [.Name "end" q1, .Name "one" q2, .Name "other" q3] k p) _ := fun {p q1 q2 q3 k} => pe_tup (pa_cons (pv 4) (pa_cons (pv 5) (pa_cons (pv 6) pa_nil)))
  have b2 : PS (XBr P w K mg base f (.ref c) A outer s H XE) (fbB 2) _ := ps_set (i := 7) scBr.nd rfl (.inl rfl) (pe_lst (pa_cons tp3 (pa_cons (pe_lst (pa_cons (pv 4) (pa_cons (pv 5) (pa_cons (pv 6) pa_nil)))) (pa_cons tp3 (pa_cons (pe_tup (pa_cons (pv 4) (pa_cons (pv 5) pa_nil))) (pa_cons (pe_tup (pa_cons (pv 4) (pa_cons (pv 5) (pa_cons (pv 6) (pa_cons (pe_lst pa_nil) pa_nil))))) (pa_cons pe_non (pa_cons pe_str pa_nil))))))))
  have b3 : PS (XBr P w K mg base f (.ref c) A outer s H XE) (fbB 3) _ := ps_set (i := 8) scBr.nd rfl (.inl rfl) (pe_has L.pk (hr.mono (by decide)) (by rfl) (pa_cons (pv 0) (pa_cons (pv 7) pa_nil)))
  have b5 : PS (XBr P w K mg base f (.ref c) A outer s H XE) (fbB 5) _ := ps_set (i := 9) scBr.nd rfl (.inl rfl) (pe_and (pv 9) (pe_and (pe_has L.ig (hr.mono (by decide)) (by rfl) (pa_cons (pe_ix ix_seq (pv 8) pe_int (fun _ _ => rfl)) pa_nil)) (pe_one (pe_has L.ig (hr.mono (by decide)) (by rfl) (pa_cons (pe_ix ix_seq (pv 8) pe_int (fun _ _ => rfl)) pa_nil)))))
  have b4 : PS (XBr P w K mg base f (.ref c) A outer s H XE) (fbB 4) _ := ps_set (i := 9) scBr.nd rfl (.inl rfl) (pe_and (pe_callB call_isiT (by rfl) B.is boot_isi (pa_cons (pv 8) (pa_cons (pe_tup (pa_cons (pe_bltn (by rfl) B.li boot_li (v := .ty "list") rfl) (pa_cons (pe_bltn (by rfl) B.tu boot_tu (v := .ty "tuple") rfl) pa_nil))) pa_nil))) (pe_and (pe_cmpR op_eq (pe_callB call_len_seq (by rfl) B.ln boot_len (pa_cons (pv 8) pa_nil)) pe_int (nomark _)) (pe_and (pe_callB call_isi (by rfl) B.is boot_isi (pa_cons (pe_ix ix_seq (pv 8) pe_int (fun _ _ => rfl)) (pa_cons (pe_bltn (by rfl) ms boot_st (v := .ty "str") rfl) pa_nil))) (pe_one (pe_cmpR op_in_seq (pe_ix ix_seq (pv 8) pe_int (fun _ _ => rfl)) (pv 1) (by rfl))))))
  have b6 : PS (XBr P w K mg base f (.ref c) A outer s H XE) (fbB 6) _ := ps_if (pt_not (pt_val (pe_has L.sm (hr.mono (by decide)) (by rfl) (pa_cons (pe_lst (pa_cons (pe_has L.bx (hr.mono (by decide)) (by rfl) (pa_cons (pv 1) (pa_cons (pv 8) pa_nil))) (pa_cons (pe_hasK L.bxk (hr.mono (by decide)) (by rfl) (pv 8) (pe_callTy call_tuple_of (by rfl) B.tu boot_tu (pa_cons (pv 1) pa_nil))) pa_nil))) (pa_cons (pe_lst (pa_cons (pv 9) (pa_cons (pv 9) pa_nil))) pa_nil))))) (pss_one (ps_ret pe_bl)) pss_nil
  have i0 : PS (XBr P w K mg base f (.ref c) A outer s H XE) (fbI 0) _ := ps_set (i := 12) scBr.nd rfl (.inr rfl) (pe_op op_cat (pe_op op_cat (pe_slice sl_list (pv 1) po_none (po_some (pv 10))) (pe_lst (pa_cons (pv 11) pa_nil))) (pe_slice sl_list (pv 1) (po_some (pv 10)) po_none))
  have i1 : PS (XBr P w K mg base f (.ref c) A outer s H XE) (fbI 1) _ := ps_if (pt_not (pt_val (pe_has L.sm (hr.mono (by decide)) (by rfl) (pa_cons (ask (lamS_by (by decide +kernel)) rfl (fun _ _ _ _ _ => rfl) (fun A' o' s' H' E f' c' hr2 => pe_hasX L.bxx hr2 (by rfl) noXb (pa_cons (pv 12) (pa_cons (pe_tup (pa_cons pe_str (pa_cons (pe_lst pa_nil) (pa_cons (pe_lst pa_nil) pa_nil)))) pa_nil)))) (pa_cons (pe_tup (pa_cons pe_str (pa_cons (pv 10) pa_nil))) pa_nil))))) (pss_one (ps_ret pe_bl)) pss_nil
  have h2 : PS (XBr P w K mg base f (.ref c) A outer s H XE) (stOf sBr 2) _ := ps_for PassesOwn.never rfl (pi_range1 (by rfl) mr (pa_cons pe_int pa_nil)) (pg_name (i := 3) scBr.nd rfl (.inl rfl)) (PSs.of_eq bdBF (pss_cons b0 (pss_cons b1 (pss_cons b2 (pss_cons b3 (pss_cons b4 (pss_cons b5 (pss_one b6))))))))
  have o0 : PS (XBr P w K mg base f (.ref c) A outer s H XE) fbO _ := ps_for PassesOwn.never rfl (pi_list (pe_op op_cat (pe_lst (pa_cons pe_str (pa_cons pe_str (pa_cons pe_str (pa_cons pe_int (pa_cons pe_non (pa_cons (pe_lst (pa_cons pe_str pa_nil)) pa_nil))))))) (pe_slice sl_list (pe_slice sl_list (pv 1) po_none (po_some (pv 10))) po_none (po_some pe_int)))) (pg_name (i := 11) scBr.nd rfl (.inl rfl)) (PSs.of_eq bdBI (pss_cons i0 (pss_one i1)))
  have h3 : PS (XBr P w K mg base f (.ref c) A outer s H XE) (stOf sBr 3) _ := ps_for PassesOwn.never rfl (pi_range1 (by rfl) mr (pa_cons (pe_op op_add (pe_callB call_len_seq (by rfl) B.ln boot_len (pa_cons (pv 1) pa_nil)) pe_int) pa_nil)) (pg_name (i := 10) scBr.nd rfl (.inl rfl)) (PSs.of_eq bdBO (pss_one o0))
  have h4 : PS (XBr P w K mg base f (.ref c) A outer s H XE) (stOf sBr 4) _ := ps_set (i := 12) scBr.nd rfl (.inr rfl) (pe_has L.pk (hr.mono (by decide)) (by rfl) (pa_cons (pv 0) (pa_cons (pe_lst (pa_cons pe_non (pa_cons pe_int (pa_cons pe_str (pa_cons pe_dnewK (pa_cons pe_bl pa_nil)))))) pa_nil)))
  have h5 : PS (XBr P w K mg base f (.ref c) A outer s H XE) (stOf sBr 5) _ := ps_ret (pe_has L.sm (hr.mono (by decide)) (by rfl) (pa_cons (ask (lamS_by (by decide +kernel)) rfl (fun _ _ _ _ _ => rfl) (fun A' o' s' H' E f' c' hr2 => pe_hasX L.bxx hr2 (by rfl) noXb (pa_cons (pv 12) (pa_cons (pe_tup (pa_cons pe_str (pa_cons (pe_lst pa_nil) (pa_cons (pe_lst pa_nil) pa_nil)))) pa_nil)))) (pa_cons (pe_tup (pa_cons pe_str (pa_cons pe_int pa_nil))) pa_nil)))
  have PP := PSs.of_eq bdBr (pss_cons h0 (pss_cons h1 (pss_cons h2 (pss_cons h3 (pss_cons h4 (pss_one h5))))))
  clear h0 h1 h2 h3 h4 h5 b0 b1 b2 b3 b4 b5 b6 i0 i1 o0 tp3 ask gv
  refine ⟨_, PSs.nox PP, ?_⟩
  clear PP
  refine ⟨.ref l, rfl, .ref l, rfl, l, li, c0, 4, rfl, sp, by decide, by decide, by omega, fun H1 r e1 sp1 r0 r1 => ?_⟩
  obtain ⟨m, rfl⟩ : ∃ m : Nat, r = (m : Nat) := ⟨r.toNat, by omega⟩
  refine ⟨l, li, c0 + 1, m, rfl, sp1, by omega, by omega, fun H2 p ns e2 sp2 np n1 n2 hp lns nd hm => ?_⟩
  refine nx_intro ?_
  have mS1 : l ∈ [l, li] := by simp
  have mS2 : li ∈ [l, li] := by simp
  have pS : p ∉ [l, li] := by simp [n1, n2]
  refine set_intro (i := 2) ?_
  refine gv_rows (S := [l, li]) (H0 := H2) _ _ (fun _ _ e => e) sp2.ins fun H3 rv s3 t3 => ?_
  have hE3 : ExtS l li H H3 := (e1.trans e2).trans (same_S s3)
  have ec : c0 + 1 + 16 = c0 + 17 := by omega
  rw [ec] at sp2
  have sp3 := sp2.same s3
  have T3 := tabs_S hT sp hE3
  have hp3 := s3 _ _ hp
  have tp : ∀ {G : Hp}, ExtS l li H3 G → Th (Hid [l, li] G) (.ref p) (.list (ns.map PyData.str)) := fun {G} e => .lst (hid_of pS (e _ _ hp3 n1 n2) (fun ps z => nomatch z)) (th_strs ns)
  have l16 : ns.length ≤ 16 := by omega
  show tSeq _ _ _ _ _
  refine ⟨8, rfl, by decide, by decide, for_range (lo := 0) (n := (8 : Int).toNat) (fun j σ G => ∃ (a3 a4 a5 a6 a7 a8 a9 : Option V), σ = [some (.ref l), some (.ref p), some rv, a3, a4, a5, a6, a7, a8, a9, none, none, none] ∧ Spr G l li (c0 + 17 + 4 * (j : Nat)) ∧ ExtS l li H3 G) ⟨none, none, none, none, none, none, none, rfl, by simpa using sp3, .refl⟩ (fun j σ G hj e => ?_) (fun σ G e => ?_)⟩
  · obtain ⟨a3, a4, a5, a6, a7, a8, a9, rfl, sG, eG⟩ := e
    have j8 : j < 8 := hj
    refine gset ?_
    show tSeq _ _ _ _ _
    have tr : ∀ {G : Hp}, ExtS l li H3 G → Th (Hid [l, li] G) rv (.list rowsD) := fun {G} e => t3.ext (hid_S mS1 mS2 e)
    refine set_intro (i := 4) ?_
    refine pick_gv (S := [l, li]) (H0 := G) rfl (gv_cat (gv_var rfl (tp eG)) gv_endO (by rw [List.length_map]; show ns.length + 5 ≤ 1000; omega)) (fun _ _ e => e) sG.ins mS1 mS2 sG (by simp [endO]) (by rw [List.length_append, List.length_map]; show ns.length + 5 ≤ 1000; omega) (by omega) fun G1 x4 z4 e4 sp4 m4 t4 => ?_
    have E1 := eG.trans e4
    refine par_intro (i := 5) (j := 6) ?_
    refine cons2_intro ?_
    refine pick_gv (S := [l, li]) (H0 := G1) rfl (gv_var rfl (tr E1)) (fun _ _ e => e) sp4.ins mS1 mS2 sp4 (by decide) (by decide) (by omega) fun G2 x5 z5 e5 sp5 m5 t5 => ?_
    have E2 := E1.trans e5
    refine pick_gv (S := [l, li]) (H0 := G2) rfl (gv_var rfl (tr E2)) (fun _ _ e => e) sp5.ins mS1 mS2 sp5 (by decide) (by decide) (by omega) fun G3 x6 z6 e6 sp6 m6 t6 => ?_
    refine ⟨_, _, rfl, ?_⟩
    have E3 := E2.trans e6
    have t4' := t4.ext ((hid_S mS1 mS2 e5).trans (hid_S mS1 mS2 e6))
    have t5' := t5.ext (hid_S mS1 mS2 e6)
    refine set_intro (i := 7) ?_
    refine gv_some (S := [l, li]) (H0 := G3) (gv_var rfl t4') (gv_var rfl t5') (gv_var rfl t6) G3 _ (fun _ _ e => e) sp6.ins fun G4 x7 s4 t7 => ?_
    have sp7 := sp6.same s4
    refine set_intro (i := 8) ?_
    refine pick_gv (S := [l, li]) (H0 := G4) rfl (gv_var rfl t7) (fun _ _ e => e) sp7.ins mS1 mS2 sp7 (by simp [someD]) (by simp [someD]) (by omega) fun G5 x8 z8 e8 sp8 m8 t8 => ?_
    have E5 := (E3.trans (same_S s4)).trans e8
    obtain ⟨bz1, bz2⟩ := someD_small (endO_small z4 m4) (rowsD_small z5 m5) (rowsD_small z6 m6) z8 m8
    have bdd : Bd z8 := ⟨by omega, fun x hx => by have := bz2 x hx; omega⟩
    have t8' : Th G5 x8 z8 := t8.ext hid_up
    obtain ⟨hE, hO, hf⟩ := ends_ok ((tp E5).ext hid_up) rfl rfl nd hm l16
    refine set_intro (i := 9) ?_
    refine due_run (K := K) rfl rfl t8' hE fun G6 s6 => ?_
    refine set_intro (i := 9) ?_
    refine due_run2 (K := K) rfl rfl (t8'.ext s6) bdd fun G7 s7 => ?_
    generalize hb : boxB ns z8 = b
    have S7 := s6.trans s7
    refine if_intro ?_
    refine ⟨.ref p, rfl, x8, rfl, .ref p, x8, ns, _, z8, rfl, hE.ext S7, hO.ext S7, hf, t8'.ext S7, bdd, fun G8 s8 => ?_⟩
    have S8 := S7.trans s8
    have hp8 := S8 _ _ (E5 _ _ hp3 n1 n2)
    refine ⟨x8, rfl, .ref p, rfl, p, _, rfl, .inl ⟨.inl (.inl hp8), fun q nq => ?_⟩⟩
    have s9 := same_new (o := .tup (ns.map V.str)) nq
    have S9 := S8.trans s9
    obtain ⟨hE2, hO2, hf2⟩ := ends_ok (v := .ref q) (d := .tuple (ns.map PyData.str)) (.tup upd_same (th_strs ns)) rfl rfl nd hm l16
    refine ⟨.ref q, x8, ns, _, z8, rfl, hE2, hO2, hf2, t8'.ext S9, bdd, fun G10 s10 => ⟨small4 2, fun p1 q1 => ?_⟩⟩
    rw [hb]
    have s11 := same_new (o := .lst [.bl b, .bl b]) q1
    refine ⟨.bl b, rfl, .bl b, rfl, small4 2, fun p2 q2 => ?_⟩
    have s12 := same_new (o := .lst [.bl b, .bl b]) q2
    refine ⟨.ref p1, .ref p2, .list [.bool b, .bool b], rfl, .lst (s12 _ _ upd_same) (.cons (.bl _) (.cons (.bl _) .nil)), .lst upd_same (.cons (.bl _) (.cons (.bl _) .nil)), by cases b <;> rfl, fun G13 s13 => ⟨true, rfl, iteF ?_⟩⟩
    have S13 := S9.trans (s10.trans (s11.trans (s12.trans s13)))
    have ec2 : c0 + 17 + 4 * ((j : Nat) : Int) + 1 + 1 + 1 + 1 = c0 + 17 + 4 * ((j + 1 : Nat) : Int) := by push_cast; omega
    rw [ec2] at sp8
    exact ⟨_, _, _, _, _, _, _, rfl, sp8.same S13, E5.trans (same_S S13)⟩
  · obtain ⟨a3, a4, a5, a6, a7, a8, a9, rfl, sG, eG⟩ := e
    have TG := tabs_S T3 sp3 eG
    have hpG := eG _ _ hp3 n1 n2
    have sG : Spr G l li (c0 + 17 + 4 * 8) := sG
    have EG : ExtL l li H G := .ofS (hE3.trans eG)
    have tpE : ∀ {J : Hp}, ExtN G J → Th (Hid [] J) (.ref p) (.list (ns.map PyData.str)) := fun {J} e => .lst (hid_of (fun z => nomatch z) (e _ _ hpG (fun ps z => nomatch z)) (fun ps z => nomatch z)) (th_strs ns)
    show tSeq _ _ _ _ _
    refine ⟨.ref p, rfl, p, _, rfl, .inl (.inl (.inl hpG)), _, 1, rfl, rfl, ?_⟩
    refine ⟨((ns.length + 1 : Nat) : Int), congrArg (fun z => [V.int z]) (by rw [List.length_map]; push_cast; rfl), by omega, by omega, for_range (lo := 0) (n := (((ns.length + 1 : Nat) : Int)).toNat) (fun j σ J => ∃ (b10 b11 b12 : Option V), σ = [some (.ref l), some (.ref p), some rv, a3, a4, a5, a6, a7, a8, a9, b10, b11, b12] ∧ ExtN G J ∧ Tabs T J) ⟨none, none, none, rfl, .refl _, TG⟩ (fun j σ J hj e => ?_) (fun σ J e => ?_)⟩
    · obtain ⟨b10, b11, b12, rfl, eJ, TJ⟩ := e
      have j16 : j ≤ ns.length := by have : j < (((ns.length + 1 : Nat) : Int)).toNat := hj; omega
      have e0 : (0 : Int) + ((j : Nat) : Int) = ((j : Nat) : Int) := by omega
      rw [e0]
      refine gset ?_
      have pi1 : ∀ {τ : L2.St}, PureI (tC (.int 1)) τ 1 := fun H Q q => q
      have p10 : ∀ {τ : L2.St}, τ[10]? = some (some (.int (j : Nat))) → PureI (tVar 10) τ j := fun e H Q q => ⟨_, e, q⟩
      have lt1 : (((ns.map PyData.str).take j).take 1).length ≤ 1 := by rw [List.length_take]; exact Nat.min_le_left _ _
      refine gv_cat (S := []) (H0 := J) gv_odd (gv_take (gv_take (gv_var rfl (tpE eJ)) (p10 rfl)) pi1) (by show 6 + _ ≤ 1000; omega) J _ (fun _ _ e => e) (fun b h => nomatch h) fun J1 v s1 t1 => ?_
      cases t1 with
      | @lst a xs _ ha r1 =>
        refine ⟨a, rfl, ⟨_, .inl (.inl (hid_up _ _ ha))⟩, for_list (xs := xs) (fun i σ L => ∃ (b11 b12 : Option V), σ = [some (.ref l), some (.ref p), some rv, a3, a4, a5, a6, a7, a8, a9, some (.int (j : Nat)), b11, b12] ∧ ExtN J1 L ∧ Tabs T L) ⟨b11, b12, rfl, .refl _, TJ.ext s1⟩ (fun i σ L _ e => ?_) (fun i y σ L hy e => ?_) (fun σ L e => ?_)⟩
        · obtain ⟨_, _, _, e, _⟩ := e
          exact .inl (.inl (e _ _ (hid_up _ _ ha) (fun ps z => nomatch z)))
        · obtain ⟨c11, c12, rfl, eL, TL⟩ := e
          obtain ⟨d, hd, ty⟩ := r1.get hy
          have md := List.mem_of_getElem? hd
          have ty1 : Th (Hid [] L) y d := ty.ext (hid_N eL)
          have EL := eJ.trans ((ExtN.of s1).trans eL)
          refine gset ?_
          show tSeq _ _ _ _ _
          refine set_intro (i := 12) ?_
          refine gv_cat (S := []) (H0 := L) (gv_cat (gv_take (gv_var rfl (tpE EL)) (p10 rfl)) (gv_lst (gva_cons (gv_var rfl ty1) gva_nil)) (by rw [List.length_take, List.length_map]; show _ + 1 ≤ 1000; omega)) (gv_drop (gv_var rfl (tpE EL)) (p10 rfl) (by rw [List.length_map]; exact j16)) (by rw [List.length_append, List.length_take, List.length_drop, List.length_map]; show _ + 1 + _ ≤ 1000; omega) L _ (fun _ _ e => e) (fun b h => nomatch h) fun L1 vb s2 tb => ?_
          obtain ⟨eo, ef⟩ := bad_ends j16 l16 nd hm md tb
          refine br_ends (K := K) (T := T) rfl rfl eo ef (TL.ext s2) fun L2 e3 T3' => ?_
          exact ⟨_, _, rfl, eL.trans ((ExtN.of s2).trans e3), T3'⟩
        · obtain ⟨c11, c12, rfl, eL, TL⟩ := e
          exact ⟨_, _, _, rfl, eJ.trans ((ExtN.of s1).trans eL), TL⟩
    · obtain ⟨b10, b11, b12, rfl, eJ, TJ⟩ := e
      have sJ := sG.extN eJ
      refine nx_intro ?_
      refine set_intro (i := 12) ?_
      refine pick_gv (S := [l, li]) (H0 := J) rfl gv_last (fun _ _ e => e) sJ.ins mS1 mS2 sJ (by decide) (by decide) (by omega) fun G1 x z e1' sp1' mz tz => ?_
      obtain ⟨eo, ef⟩ := last_ends mz (tz.ext (hid_less (S := []) (fun b h => nomatch h)))
      refine br_last (K := K) (T := T) rfl eo ef (tabs_S TJ sJ e1') fun H' e' T' => ?_
      have ec3 : c0 + 17 + 4 * 8 + 1 = c0 + 50 := by omega
      rw [ec3] at sp1'
      exact k H' (((EG.trans (.ofN eJ)).trans (.ofS e1')).trans (.ofN e')) (sp1'.extN e') T'
end
end K14.T3
namespace K14.T3
open T27
open K14.Gn
open PySem PySem.W PySem.Calls PyProof.Rows L2 LamX
open He (ga)
open Kz (SS ExtS ExtS.trans ExtS.refl spStart small4 same_new boot_in boot_li boot_isi Has pe_has noE PSs.of_eq seqI new_ext X1 FnG)
/-! ### the law -/
abbrev sLw : Stmt := topS 66
abbrev NLw : List Str := ["script", "stream", "turn", "endless", "handed", "was", "at", "short", "figure", "text", "due"]
theorem scLw : FnScope NLw ["script"] (defScope sLw) := ⟨rfl, rfl, rfl, by decide +kernel, rfl, by decide +kernel, by decide +kernel⟩
theorem bdLw : defBody sLw = [stOf sLw 0, stOf sLw 1, stOf sLw 2] := by rfl
def fbL (i : Nat) : Stmt := (forBody (stOf sLw 1)).getD i (.Pass ⟨0, 0, 0, 0⟩)
theorem bdFL : forBody (stOf sLw 1) = [fbL 0, fbL 1, fbL 2, fbL 3, fbL 4, fbL 5, fbL 6] := by rfl
structure LwK (P : Program) (w : World) (K : Frag) (mg : Str → Option Value) (base : Heap) (T : List (Addr × Str)) : Prop where
  st : Has P w K mg base "_law_start" 1 ["script"] (spStart K)
  de : Has P w K mg base "_law_drawn_endless" 2 ["stream"] spDe
  lo : Has P w K mg base "_law_loose" 4 ["stream", "thing"] (K14.spLo 2)
  pk : Has P w K mg base "_law_pick" 2 ["stream", "some"] spPk
  dr : Has P w K mg base "_law_draw" 1 ["stream", "many"] spDrW
  sh : Has P w K mg base "_law_shortest" 2 ["endless"] spSh
  fg : Has P w K mg base "_law_figure" 1 ["endless", "at"] spFig
  lt : Has P w K mg base "_law_endless_text" 1 ["endless"] spEt
  to : Has P w K mg base "_law_is_told" 7 ["handed", "at", "due"] spTo
  tr : Has P w K mg base "_law_texts_right" 6 ["stream", "endless"] (spTr T)
  br : Has P w K mg base "_law_boxes_right" 8 ["stream"] (spBr T)
  rf : ∃ f fd, mg "_law_refused_right" = some (.ref f) ∧ keepIn K (.ref f) = true ∧ L2.Binds K fd [] [] ∧ FnOk P w K mg base CX0 9 f fd [] (spRr T)
  nr : mg "range" = none
  np : mg "repr" = none
  sy : SysK K
theorem boot_repr : bootBuiltins "repr" = some (.builtin "repr") := by decide +kernel
def spLw (K : Frag) (T : List (Addr × Str)) : Sp := fun vs H Q _ => ∃ (a : Addr) (ns : List Int), vs = [.ref a] ∧ SqL K H a (ns.map V.int) ∧ ns.length ≤ 1000 ∧ Tabs T H ∧ ∀ H', Q (.bl true) H'
/-! what is drawn, told loosely -/
theorem least_len {hs as h a : List Int} (p : 0 < as.length) (x : LeastOf (figAt hs as) h a) : h.length ≤ hs.length ∧ a.length ≤ as.length := by
  have t := pb_tail (hs := hs) p
  exact ⟨x.far _ (t.back p x.per), x.low _ _ p t⟩
theorem oka_row {x : PyData} {ns : List Int} (l : isL x = true) (e : its x = ns.map PyData.int) (h : smI 50 ns) : OkA 1 51 x := by
  have o := sm_ints h
  cases x with
  | list q =>
    obtain rfl : q = ns.map PyData.int := e
    exact o
  | tuple q =>
    obtain rfl : q = ns.map PyData.int := e
    exact ⟨o.g, o.d, o.c⟩
  | _ => cases l
theorem oka_pair {d x y : PyData} {hs as : List Int} (l : isL d = true) (e : its d = [x, y]) (hx : OkA 1 51 x) (hy : OkA 1 51 y) : OkA 2 103 d := by
  have o : OkA 2 103 (.tuple [x, y]) := oka_tup (forall_c hx (forall_c hy forall_n))
  cases d with
  | list q =>
    obtain rfl : q = [x, y] := e
    exact ⟨o.g, o.d, o.c⟩
  | tuple q =>
    obtain rfl : q = [x, y] := e
    exact o
  | _ => cases l
theorem smI_figs {ns : List Int} (f : figsB ns) (l : ns.length ≤ 50) : smI 50 ns := ⟨fun n hn => by rcases f n hn with rfl | rfl <;> decide, l⟩
theorem isF_figs {ns : List Int} (f : figsB ns) : ∀ n ∈ ns, isF (.int n) = true := fun n hn => by rcases f n hn with rfl | rfl <;> rfl
theorem par3_intro {i j m : Nat} {ta : TA} {u : TS} {D : Ends} {σ : L2.St} {H : Hp} (h : ta σ H fun vs G => ∃ x y z, vs = [x, y, z] ∧ u D (((List.set σ i (some x)).set j (some y)).set m (some z)) G) : tSeq (tPar3 i j m ta) u D σ H := h
theorem cons3_intro {t1 t2 t3 : TE} {σ : L2.St} {H : Hp} {Q : List V → Hp → Prop} (h : t1 σ H fun v G => t2 σ G fun w G' => t3 σ G' fun x G2 => Q [v, w, x] G2) : tCons t1 (tCons t2 (tCons t3 tNil)) σ H Q := h
theorem next_intro {D : Ends} {σ : L2.St} {H : Hp} (h : D.nx σ H) : tNext D σ H := h
structure LooseE (d : PyData) (hs as : List Int) : Prop where
  l : isL d = true
  g : gd true d = true
  dp : PyData.depth d ≤ 20
  w : PyData.weight d ≤ 1000000
  e : ∀ (H : Hp) (v : V), Th H v d → EndV H v hs as
theorem loose_e {d : PyData} {hs as : List Int} (h : Ld (dE hs as) d) (f1 : figsB hs) (f2 : figsB as) (a0 : 0 < as.length) (l1 : hs.length ≤ 50) (l2 : as.length ≤ 50) : LooseE d hs as := by
  obtain ⟨x, y, e1, e2, x1, x2, y1, y2⟩ := ld_pair h
  have o := oka_pair (hs := hs) (as := as) e1 e2 (oka_row x1 x2 (smI_figs f1 l1)) (oka_row y1 y2 (smI_figs f2 l2))
  have w := cnt_wei d o.g
  have c := o.c
  exact ⟨e1, o.g, Nat.le_trans o.d (by decide), by omega, fun H v t => ld_end t h ⟨isF_figs f1, isF_figs f2, l1, l2, a0⟩ (by decide)⟩
section
variable {P : Program} {w : World} {K : Frag} {mg : Str → Option Value} {base : Heap}
abbrev XLw (P : Program) (w : World) (K : Frag) (mg : Str → Option Value) (base : Heap) (f : Addr) (cdv : Value) (A : Around) (outer : List Env) (s : Shared) (H : Hp) (XE : XK) : Cx := (cxOf CX0 P w K mg base NLw "law" (defScope sLw) f cdv A outer s H XE).nox
theorem ok_lw {T : List (Addr × Str)} {f : Addr} {fd : FuncData} (Fn : FunD K "law" "law" (defArgs sLw) (defBody sLw) (defScope sLw) [] [] f fd) (L : LwK P w K mg base T) : FnG P w K mg base CX0 10 f fd ["script"] (spLw K T) := by
  refine Kz.FunD.okG Fn scLw (fun vs H Q E h => ?_) (fun cdv A outer s H vs Q XE hg hr h => ?_)
  · obtain ⟨a, ns, rfl, _⟩ := h
    rfl
  · obtain ⟨a, ns, rfl, hS, hn, hT, k⟩ := h
    obtain ⟨fo, fdo, ho1, ho2, ho3, ho4⟩ := L.rf
    have rp : ∀ {p q r : Pos}, PE (XLw P w K mg base f cdv A outer s H XE) (.Call (.Name "repr" p) [.Name "handed" q] [] r) (tCB rReprT (tCons (tVar 4) tNil)) := fun {p q r} => pe_callB (call_reprT (X := XLw P w K mg base f cdv A outer s H XE) L.sy hg (hr.mono (by decide))) (by rfl) L.np boot_repr (pa_cons (pv 4) pa_nil)
    have v0 : PS (XLw P w K mg base f cdv A outer s H XE) (fbL 0) _ := ps_set (i := 3) scLw.nd rfl (.inl rfl) (pe_has L.de (hr.mono (by decide)) (by rfl) (pa_cons (pv 1) pa_nil))
    have v1 : PS (XLw P w K mg base f cdv A outer s H XE) (fbL 1) _ := ps_set (i := 4) scLw.nd rfl (.inl rfl) (pe_has L.lo (hr.mono (by decide)) (by rfl) (pa_cons (pv 1) (pa_cons (pv 3) pa_nil)))
    have v2 : PS (XLw P w K mg base f cdv A outer s H XE) (fbL 2) _ := ps_par (i := 5) (j := 6) rfl scLw.nd rfl rfl (by decide) rfl rfl (pa_cons rp (pa_cons (pe_has L.pk (hr.mono (by decide)) (by rfl) (pa_cons (pv 1) (pa_cons (pe_lst (pa_cons pe_int (pa_cons pe_int (pa_cons pe_int (pa_cons pe_int (pa_cons pe_int (pa_cons pe_int (pa_cons pe_int (pa_cons pe_int (pa_cons pe_int (pa_cons (pe_has L.dr (hr.mono (by decide)) (by rfl) (pa_cons (pv 1) (pa_cons pe_int pa_nil))) pa_nil))))))))))) pa_nil))) pa_nil)) (by rfl)
    have v3 : PS (XLw P w K mg base f cdv A outer s H XE) (fbL 3) _ := ps_par3 (i := 7) (j := 8) (l := 9) rfl scLw.nd rfl rfl rfl (by decide) (by decide) (by decide) rfl rfl rfl (pa_cons (pe_has L.sh (hr.mono (by decide)) (by rfl) (pa_cons (pv 3) pa_nil)) (pa_cons (pe_has L.fg (hr.mono (by decide)) (by rfl) (pa_cons (pv 3) (pa_cons (pv 6) pa_nil))) (pa_cons (pe_has L.lt (hr.mono (by decide)) (by rfl) (pa_cons (pv 3) pa_nil)) pa_nil))) (by rfl)
    have v4 : PS (XLw P w K mg base f cdv A outer s H XE) (fbL 4) _ := ps_set (i := 10) scLw.nd rfl (.inl rfl) (pe_lst (pa_cons (pv 7) (pa_cons (pv 7) (pa_cons (pv 8) (pa_cons (pv 8) (pa_cons (pv 9) (pa_cons (pv 9) (pa_cons pe_bl (pa_cons pe_bl (pa_cons pe_bl (pa_cons pe_bl pa_nil)))))))))))
    have v5 : PS (XLw P w K mg base f cdv A outer s H XE) (fbL 5) _ := ps_if (PW.pt (pw_or (pt_not (pt_val (pe_has L.to (hr.mono (by decide)) (by rfl) (pa_cons (pv 4) (pa_cons (pv 6) (pa_cons (pv 10) pa_nil)))))) (pw_or (pt_cmpR op_ne rp (pv 5) (nomark _)) (pw_or1 (pt_not (pt_val (pe_has L.to (hr.mono (by decide)) (by rfl) (pa_cons (pv 4) (pa_cons (pv 6) (pa_cons (pv 10) pa_nil)))))))))) (pss_one (ps_ret pe_bl)) pss_nil
    have v6 : PS (XLw P w K mg base f cdv A outer s H XE) (fbL 6) _ := ps_if (PW.pt (pw_or (pt_not (pt_val (pe_has L.tr (hr.mono (by decide)) (by rfl) (pa_cons (pv 1) (pa_cons (pv 3) pa_nil))))) (pw_or1 (pt_not (pt_val (pe_has L.br (hr.mono (by decide)) (by rfl) (pa_cons (pv 1) pa_nil))))))) (pss_one (ps_ret pe_bl)) pss_nil
    have w0 : PS (XLw P w K mg base f cdv A outer s H XE) (stOf sLw 0) _ := ps_set (i := 1) scLw.nd rfl (.inl rfl) (pe_has L.st (hr.mono (by decide)) (by rfl) (pa_cons (pv 0) pa_nil))
    have w1 : PS (XLw P w K mg base f cdv A outer s H XE) (stOf sLw 1) _ := ps_for PassesOwn.never rfl (pi_range1 (by rfl) L.nr (pa_cons pe_int pa_nil)) (pg_name (i := 2) scLw.nd rfl (.inl rfl)) (PSs.of_eq bdFL (pss_cons v0 (pss_cons v1 (pss_cons v2 (pss_cons v3 (pss_cons v4 (pss_cons v5 (pss_one v6))))))))
    have w2 : PS (XLw P w K mg base f cdv A outer s H XE) (stOf sLw 2) _ := ps_ret (pe_call0 ho4 (hr.mono (by decide)) (by rfl) ho1 ho2 ho3 .nil pass0)
    have PP := PSs.of_eq bdLw (pss_cons w0 (pss_cons w1 (pss_one w2)))
    clear v0 v1 v2 v3 v4 v5 v6 w0 w1 w2 rp
    refine ⟨_, PSs.nox PP, ?_⟩
    clear PP
    refine ⟨.ref a, rfl, a, ns, rfl, hS, fun H1 l li e1 n1 n2 ss => ?_⟩
    have s1 : Spr H1 l li 0 := ⟨ns, 0, 19, ss, hn⟩
    have m1 : l ∈ [l, li] := by simp
    have m2 : li ∈ [l, li] := by simp
    refine gset (nx_intro ?_)
    refine ⟨10, rfl, by decide, by decide, for_range (lo := 0) (n := (10 : Int).toNat) (fun j σ G => ∃ (a2 a3 a4 a5 a6 a7 a8 a9 a10 : Option V) (c : Int), σ = [some (.ref a), some (.ref l), a2, a3, a4, a5, a6, a7, a8, a9, a10] ∧ Spr G l li c ∧ c ≤ 1000 * (j : Nat) ∧ Tabs T G) ⟨none, none, none, none, none, none, none, none, none, 0, rfl, s1, by decide, hT.ext e1⟩ (fun j σ G hj e => ?_) (fun σ G e => ?_)⟩
    · obtain ⟨a2, a3, a4, a5, a6, a7, a8, a9, a10, c, rfl, sp, cb, TG⟩ := e
      have j10 : j < 10 := hj
      refine gset ?_
      show tSeq _ _ _ _ _
      refine set_intro (i := 3) ?_
      refine ⟨.ref l, rfl, l, li, c, rfl, sp, by omega, fun G1 t u x hs as c1 e1' s1' b1 h1 h2 h3 l1 a0 l2 f1 f2 => ?_⟩
      have T1 := tabs_S TG sp e1'
      have tD : Th (Hid [l, li] G1) (.ref t) (dE hs as) := .tup h1 (.cons (.lst h2 (own_ints hs).th) (.cons (.lst h3 (own_ints as).th) .nil))
      obtain ⟨fp, sz⟩ := fit_pair (hs := hs) (as := as) (by omega) (by omega)
      have sz : szD 2 (dE hs as) = 3 := sz
      refine set_intro (i := 4) ?_
      refine ⟨.ref l, rfl, .ref t, rfl, [l, li], l, li, c1, .ref t, dE hs as, rfl, m1, m2, s1'.ins, tD, fp, s1', by rw [sz]; omega, fun G2 v d c2 e2 s2 b2 tv ld => ?_⟩
      rw [sz] at b2
      have le := loose_e ld f1 f2 a0 l1 l2
      have T2 := tabs_S T1 s1' e2
      have tD2 := tD.ext (hid_S m1 m2 e2)
      obtain ⟨va, vxs, rfl, _, _⟩ := (tv.ext hid_up).seq (K := K) le.l
      refine par_intro (i := 5) (j := 6) ?_
      refine cons2_intro ?_
      refine ⟨.ref va, rfl, va, d, rfl, tv.ext hid_up, le.g, le.dp, le.w, ?_⟩
      refine ⟨.ref l, rfl, .ref l, rfl, l, li, c2, 1000000000, rfl, s2, by decide, by decide, by omega, fun G3 r e3 s3 r0 r1 => ⟨small4 10, fun p np => ?_⟩⟩
      obtain ⟨r, rfl⟩ : ∃ n : Nat, r = (n : Nat) := ⟨r.toNat, by omega⟩
      have nP := s3.new np
      have x4 := same_new (o := .lst [.int 0, .int 1, .int 2, .int 3, .int 4, .int 5, .int 7, .int 12, .int 60, .int (r : Nat)]) np
      refine ⟨l, li, p, c2 + 1, _, rfl, s3.same x4, upd_same, nP.1, nP.2, Nat.le_of_ble_eq_true rfl, Nat.le_of_ble_eq_true rfl, by omega, fun G5 at' e5 s5 hat => ?_⟩
      obtain ⟨i, rfl⟩ : ∃ i : Nat, at' = .int (i : Nat) := by
        simp only [List.mem_cons, List.not_mem_nil, or_false] at hat
        rcases hat with rfl | rfl | rfl | rfl | rfl | rfl | rfl | rfl | rfl | rfl
        · exact ⟨0, rfl⟩
        · exact ⟨1, rfl⟩
        · exact ⟨2, rfl⟩
        · exact ⟨3, rfl⟩
        · exact ⟨4, rfl⟩
        · exact ⟨5, rfl⟩
        · exact ⟨7, rfl⟩
        · exact ⟨12, rfl⟩
        · exact ⟨60, rfl⟩
        · exact ⟨r, rfl⟩
      have E5 := e3.trans ((same_S x4).trans e5)
      have T5 := tabs_S T2 s2 E5
      have tD5 := tD2.ext (hid_S m1 m2 E5)
      have tv5 := tv.ext (hid_S m1 m2 E5)
      clear e3 x4 e5 np hat tD tD2 tv e2 e1' h1 h2 h3 E5 T1 T2 TG s3
      refine ⟨_, _, rfl, ?_⟩
      have evT : ∀ {Z : Hp}, L2.Same G5 Z → EndV Z (.ref t) hs as := fun e => endV_of ((tD5.ext hid_up).ext e) f1 f2 a0 (by omega) (by omega)
      have evV : ∀ {Z : Hp}, L2.Same G5 Z → EndV Z (.ref va) hs as := fun e => le.e _ _ ((tv5.ext hid_up).ext e)
      refine par3_intro (i := 7) (j := 8) (m := 9) ?_
      refine cons3_intro ?_
      refine ⟨.ref t, rfl, .ref t, hs, as, rfl, evT (fun _ _ e => e), l1, l2, fun G6 st su sx h a' s6 y1 y2 y3 y4 y5 lo => ?_⟩
      obtain ⟨lh, la⟩ := least_len a0 lo
      refine ⟨.ref t, rfl, .int (i : Nat), rfl, .ref t, hs, as, i, rfl, evT s6, ?_⟩
      refine ⟨.ref t, rfl, .ref t, hs, as, rfl, evT s6, fun G7 s7 => ?_⟩
      refine ⟨_, _, _, rfl, ?_⟩
      refine set_intro (i := 10) ?_
      refine ⟨_, rfl, _, rfl, _, rfl, _, rfl, _, rfl, _, rfl, small4 10, fun q nq => ?_⟩
      have s8 := same_new (o := .lst [.ref st, .ref st, .int (figAt hs as i), .int (figAt hs as i), .str (endT hs as), .str (endT hs as), .bl true, .bl true, .bl true, .bl true]) nq
      have tS0 : Th G6 (.ref st) (.tuple [.list (h.map .int), .list (a'.map .int)]) := Th.tup y1 (.cons (.lst y2 (own_ints h).th) (.cons (.lst y3 (own_ints a').th) .nil))
      have tS := (tS0.ext s7).ext s8
      have tDue : Th (upd G7 q (.lst [.ref st, .ref st, .int (figAt hs as i), .int (figAt hs as i), .str (endT hs as), .str (endT hs as), .bl true, .bl true, .bl true, .bl true])) (.ref q) (toD h a' (figAt hs as i) (endT hs as)) :=
        .lst upd_same (.cons tS (.cons tS (.cons (.int _) (.cons (.int _) (.cons (.str _) (.cons (.str _) (.cons (.bl _) (.cons (.bl _) (.cons (.bl _) (.cons (.bl _) .nil))))))))))
      have S8 := s6.trans (s7.trans s8)
      generalize upd G7 q (.lst [.ref st, .ref st, .int (figAt hs as i), .int (figAt hs as i), .str (endT hs as), .str (endT hs as), .bl true, .bl true, .bl true, .bl true]) = G8 at tDue S8 ⊢
      clear s6 s7 s8 nq tS tS0 y1 y2 y3 y4 y5
      refine ifS_intro ?_
      refine ⟨.ref va, rfl, .int (i : Nat), rfl, .ref q, rfl, .ref va, .ref q, hs, as, h, a', i, rfl, evV S8, lo, by omega, by omega, tDue, fun G9 s9 => ⟨true, rfl, iteF ?_⟩⟩
      have S9 := S8.trans s9
      refine ⟨.ref va, rfl, va, d, rfl, (tv5.ext hid_up).ext S9, le.g, le.dp, le.w, .str d.shown, rfl, rfl, _, rfl, ?_⟩
      rw [decide_eq_true rfl]
      refine iteF ?_
      refine ⟨.ref va, rfl, .int (i : Nat), rfl, .ref q, rfl, .ref va, .ref q, hs, as, h, a', i, rfl, evV S9, lo, by omega, by omega, tDue.ext s9, fun G10 s10 => ⟨true, rfl, iteF ?_⟩⟩
      have S10 := S9.trans s10
      have s11 := s5.same S10
      have T11 := T5.ext S10
      have tD11 := tD5.ext (hid_same S10)
      refine next_intro (nx_intro (if_intro ?_))
      refine ⟨.ref l, rfl, .ref t, rfl, l, li, c2 + 1 + 1, .ref t, hs, as, rfl, s11, by omega, T11, tD11, f1, f2, a0, l1, l2, fun G12 e12 s12 T12 => ⟨true, rfl, iteF ?_⟩⟩
      refine ⟨.ref l, rfl, l, li, c2 + 1 + 1 + 18, rfl, s12, by omega, T12, fun G13 e13 s13 T13 => ⟨true, rfl, iteF ?_⟩⟩
      exact ⟨_, _, _, _, _, _, _, _, _, _, rfl, s13, by push_cast; omega, T13⟩
    · obtain ⟨a2, a3, a4, a5, a6, a7, a8, a9, a10, c, rfl, sp, cb, TG⟩ := e
      refine nx_intro (ret_intro ?_)
      exact ⟨rfl, TG, fun H' _ _ => k H'⟩
end
end K14.T3
namespace Kz
open PySem PySem.W PySem.Calls PyProof.Rows L2 LamX

/-! ### the end: the script's list and the tables alone are followed -/
section
variable {P : Program} {w : World} {K : Frag} {mg mb : Str → Option Value} {s : Shared} {cs : List (Addr × Addr)} {a : Addr} {vs : List Value} {ns : List Int}
/-- the script's list as it stands -/
abbrev scO (vs : List Value) : Obj := { cls := .type "list", data := .seq vs.toArray }
abbrev emO : Obj := { cls := .none, data := .fields #[] }
/-- what is followed at the law's start: fr, whether the script's list is (it isn't where the written part holds it) -/
def endH (cs : List (Addr × Addr)) (a : Addr) (vs : List Value) (ns : List Int) (fr : Bool) : Hp := fun b => if b ∈ cs.map (·.2) then some (.tbl #[]) else if fr = true ∧ b = a then some (.frz (scO vs) (.lst (ns.map V.int))) else none
theorem endH_tab {fr : Bool} {p : Addr × Addr} (hp : p ∈ cs) : endH cs a vs ns fr p.2 = some (.tbl #[]) := if_pos (List.mem_map.mpr ⟨p, hp, rfl⟩)
theorem endH_cases {fr : Bool} {b : Addr} {o : HO} (h : endH cs a vs ns fr b = some o) : (b ∈ cs.map (·.2) ∧ o = .tbl #[]) ∨ (fr = true ∧ b = a ∧ o = .frz (scO vs) (.lst (ns.map V.int))) := by
  unfold endH at h
  by_cases h1 : b ∈ cs.map (·.2)
  · rw [if_pos h1] at h
    exact .inl ⟨h1, (Option.some.inj h).symm⟩
  · rw [if_neg h1] at h
    by_cases h2 : fr = true ∧ b = a
    · rw [if_pos h2] at h
      exact .inr ⟨h2.1, h2.2, (Option.some.inj h).symm⟩
    · rw [if_neg h2] at h
      cases h
theorem end_law {CX : CXT} {k : Nat} {fa : Addr} {fd : FuncData} {x : Str} {sp : Sp} (KX : K.In s.heap) (hns : s.heap.Ns mainGlobals mg) (hb : s.heap.Ns builtinsNs mb) (hbb : ∀ y : Str, y ≠ "__name__" → mb y = bootBuiltins y) (hlim : s.heap.NoLimit) (hg : s.gens = #[])
    (hT : ∀ p ∈ cs, s.heap.get? p.2 = some emO) (nT : ∀ p ∈ cs, K.lookup p.2 = none) (C : ∀ p ∈ cs, CodeHd s.heap p.1 p.2)
    (hbm : ∃ (bm : Addr) (ob : Obj), mg "__builtins__" = some (.ref bm) ∧ bm ≠ builtinsNs ∧ s.heap.get? bm = some ob ∧ ob.cls = .type "module" ∧ ob.dict = some builtinsNs ∧ ob.data = .plain)
    (ha : s.heap.get? a = some (scO vs)) (hi : IntsAre vs ns) (hl : ns.length ≤ sizeLine) (hr : Room k callerA)
    (G : ∀ base : Heap, K.In base → base.Ns mainGlobals mg → (∀ p ∈ cs, TabB base mg p.1 p.2) → FnG P w K mg base CX k fa fd [x] sp) (hbind : ∀ (s : Shared) (u : Value), BindsTo s fd ⟨[u], []⟩ [(x, u)])
    (hsp : ∀ H : Hp, (∀ p ∈ cs, H p.2 = some (.tbl #[])) → SqL K H a (ns.map V.int) → sp [.ref a] H (fun v _ => v = .bl true) fun _ _ _ => False) (hCX : ∀ H e s', CX [] H s (fun _ _ _ => False) e s' → False) :
    codeAny (model P w) callerA (.call (.ref fa) ⟨[.ref a], []⟩) (fun r s' => r = .ok (.ret (.bool true)) ∧ OldK s.heap s'.heap ∧ s'.os = s.os ∧ AllBare s'.gens) s := by
  have rv := vals_ints hi
  have lv := hi.length
  have tabAt : ∀ b, b ∈ cs.map (·.2) → s.heap.get? b = some emO := fun b hb => by
    obtain ⟨p, hp, rfl⟩ := List.mem_map.mp hb
    exact hT p hp
  have tabK : ∀ b, b ∈ cs.map (·.2) → K.lookup b = none := fun b hb => by
    obtain ⟨p, hp, rfl⟩ := List.mem_map.mp hb
    exact nT p hp
  have aN : a ∉ cs.map (·.2) := fun z => by
    have q := (tabAt a z).symm.trans ha
    cases congrArg (fun o : Option Obj => o.map (·.data)) q
  generalize hfr : (K.lookup a).isNone = fr
  have eA : fr = true → K.lookup a = none := fun z => by
    rw [z] at hfr
    exact Option.isNone_iff_eq_none.mp hfr
  have hS : SqL K (endH cs a vs ns fr) a (ns.map V.int) := by
    cases fr with
    | true => exact .inl (.inr ⟨scO vs, by unfold endH; rw [if_neg aN, if_pos ⟨rfl, rfl⟩]⟩)
    | false =>
      cases q : K.lookup a with
      | none => rw [q] at hfr; cases hfr
      | some o =>
        obtain rfl : scO vs = o := Option.some.inj (ha.symm.trans (KX a o q))
        exact .inr ⟨_, vs.toArray, _, q, rfl, rfl, rfl, by rw [List.size_toArray, lv]; exact hl, by simpa using rv⟩
  have hok : HOk P w (endH cs a vs ns fr) s.heap := fun b o e => by
    rcases endH_cases e with ⟨h1, rfl⟩ | ⟨h1, rfl, rfl⟩
    · exact tabAt b h1
    · exact ⟨ha, by rw [List.length_map]; exact hl, vs, _, rv, ha⟩
  -- what is not followed stands in the base
  have toB : ∀ {b : Addr} {o : Obj}, s.heap.get? b = some o → (∀ vs n, o.data ≠ .seq vs n) → o.data ≠ .fields #[] → (hidT s.heap (endH cs a vs ns fr)).get? b = some o := fun {b o} e h1 h2 => hidT_get e (by
    cases q : endH cs a vs ns fr b with
    | none => rfl
    | some u =>
      rcases endH_cases q with ⟨z, _⟩ | ⟨_, rfl, _⟩
      · exact absurd (congrArg Obj.data (Option.some.inj (e.symm.trans (tabAt b z)))) h2
      · exact absurd (congrArg Obj.data (Option.some.inj (e.symm.trans ha))) (h1 _ _))
  have nsB : ∀ {b : Addr} {m : Str → Option Value}, s.heap.Ns b m → (hidT s.heap (endH cs a vs ns fr)).Ns b m := fun {b m} ⟨o, es, ep, e, d, r⟩ => ⟨o, es, ep, toB e (fun _ _ z => by rw [d] at z; cases z) (fun z => by rw [d] at z; cases z), d, r⟩
  have kB : K.In (hidT s.heap (endH cs a vs ns fr)) := fun b o e => hidT_get (KX b o e) (by
    cases q : endH cs a vs ns fr b with
    | none => rfl
    | some u =>
      rcases endH_cases q with ⟨z, _⟩ | ⟨z, rfl, _⟩
      · rw [tabK b z] at e; cases e
      · rw [eA z] at e; cases e)
  have M : L2.Mod K mg (hidT s.heap (endH cs a vs ns fr)) := ⟨kB, nsB hns, ⟨mb, nsB hb, hbb⟩, let ⟨mc, h1, h2⟩ := hlim; ⟨mc, nsB h1, h2⟩⟩
  have TB : ∀ p ∈ cs, TabB (hidT s.heap (endH cs a vs ns fr)) mg p.1 p.2 := fun p hp => by
    have tp := hT p hp
    refine ⟨?_, ?_, fun z => ?_⟩
    · obtain ⟨o, us, file, tf, flags, tg, inF, text, tt, e1, e2, e3, e4, r⟩ := C p hp
      exact ⟨o, us, file, tf, flags, tg, inF, text, tt, toB e1 (fun _ _ z => by rw [e3] at z; cases z) (fun z => by rw [e3] at z; cases z; simp at e4), e2, e3, e4, r⟩
    · obtain ⟨bm, ob, b1, b2, b3, b4, b5, b6⟩ := hbm
      refine ⟨bm, ob, b1, b2, fun q => ?_, fun q => ?_, toB b3 (fun _ _ z => by rw [b6] at z; cases z) (fun z => by rw [b6] at z; cases z), b4, b5, b6⟩
      · obtain ⟨o, es, ep, e, hd, _⟩ := hns
        rw [q, e] at b3
        cases b3
        rw [hd] at b6
        cases b6
      · rw [q, tp] at b3
        cases b3
        cases b6
    · obtain ⟨o, es, ep, e, hd, _⟩ := hns
      rw [z, tp] at e
      cases e
      cases hd
  have E0 : Env0 P w K mg (hidT s.heap (endH cs a vs ns fr)) callerA [] s (endH cs a vs ns fr) := ⟨rfl, M, fun b o e => of_hidT e, Nat.le_of_eq (hidT_size _ _), trivial, fun b hb => (nomatch (show b ∈ ([] : List Addr) from hb)), hok, .of_eq hg⟩
  refine codeAny_mono ((G _ kB (nsB hns) TB).run callerA [] s _ ⟨[.ref a], []⟩ [.ref a] [.ref a] _ _ rfl hr E0 (hbind s (.ref a)) (.cons rfl .nil) (hsp _ (fun p hp => endH_tab hp) hS)) fun r s' h => ?_
  cases r with
  | error e => exact (hCX _ e s' h).elim
  | ok fl =>
    cases fl with
    | ret u =>
      obtain ⟨v, H', os, bare, un, hok', r', q⟩ := h
      obtain rfl : v = .bl true := q
      obtain rfl : u = Value.bool true := r'
      have keep : ∀ b o, b ∉ cs.map (·.2) → s.heap.get? b = some o → s'.heap.get? b = some o := fun b o nb e => by
        cases q : endH cs a vs ns fr b with
        | none => exact un.keep b o e q (fun z => nomatch (show b ∈ ([] : List Addr) from z)) (by simp)
        | some u =>
          rcases endH_cases q with ⟨z, _⟩ | ⟨_, _, rfl⟩
          · exact absurd z nb
          · have e1 := (hok b _ q).1
            rw [Option.some.inj (e.symm.trans e1)]
            exact (hok' b _ (un.frzs b _ _ q)).1
      have grow : ∀ b, b ∈ cs.map (·.2) → ∃ c, CodeHd s.heap c b ∧ ∃ more : Array Value, s'.heap.get? b = some { cls := .none, data := .fields more } := fun b hb => by
        obtain ⟨p, hp, rfl⟩ := List.mem_map.mp hb
        obtain ⟨more, z⟩ := un.tbls p.2 #[] (endH_tab hp)
        exact ⟨p.1, C p hp, _, hok' p.2 _ z⟩
      refine ⟨rfl, ⟨fun b o e => ?_, fun b o e => ?_⟩, os, bare⟩
      · by_cases hb : b ∈ cs.map (·.2)
        · obtain ⟨c, hc, more, hm⟩ := grow b hb
          obtain rfl : emO = o := Option.some.inj ((tabAt b hb).symm.trans e)
          exact .inr (.inl ⟨(hc.tab (tabAt b hb)).isCodeTable, rfl, #[], more, rfl, by rw [Array.empty_append]; exact hm⟩)
        · exact .inl (keep b o hb e)
      · by_cases hb : b ∈ cs.map (·.2)
        · obtain ⟨c, hc, more, hm⟩ := grow b hb
          exact ⟨_, hm⟩
        · exact ⟨o, keep b o hb e⟩
    | _ => exact h.elim
end
end Kz
namespace Kz
open PySem PySem.W PySem.Calls PyProof.Rows L2 LamX
open He (ga ma eqO eqO_ok ba)
theorem walk_G {l : OpenLaw} {n k : Nat} {q : Program} {loose : List Str} {XP : (Str → Option Value) → Heap → Prop} {YP : World → Heap → Prop} {d : DefRec} {CX : World → CXT} {x : Str} (hn : l.most = some n) (hn2 : n ≤ sizeLine) (hdf : d.params.defaults = []) (hr : Room k callerA)
    (F : ∀ (w : World) (mg : Str → Option Value) (fa : Addr) (h : Heap), YP w h → h.Ns mainGlobals mg → mg d.name = some (.ref fa) → ∃ (K : Frag) (fd : FuncData) (cs : List (Addr × Addr)) (sp : Sp), K.In h ∧ (∀ p ∈ cs, h.get? p.2 = some emO) ∧ (∀ p ∈ cs, K.lookup p.2 = none) ∧ (∀ p ∈ cs, CodeHd h p.1 p.2) ∧
      (∀ (s : Shared) (u : Value), BindsTo s fd ⟨[u], []⟩ [(x, u)]) ∧ (∀ (H : Hp) (a : Addr) (ns : List Int), ns.length ≤ n → (∀ p ∈ cs, H p.2 = some (.tbl #[])) → SqL K H a (ns.map V.int) → sp [.ref a] H (fun v _ => v = .bl true) fun _ _ _ => False) ∧
      ∀ base : Heap, K.In base → base.Ns mainGlobals mg → (∀ p ∈ cs, TabB base mg p.1 p.2) → FnG l.prog w K mg base (CX w) k fa fd [x] sp)
    (hCX : ∀ (w : World) (H : Hp) (s : Shared) (e : Value) (s' : Shared), CX w [] H s (fun _ _ _ => False) e s' → False) : WalkO q loose XP YP l.row.toRowW d [] (fun f vs => PySem.call f vs) := by
  refine Att.attach_callB hn hdf fun w s0 s1 mg mb fa o pm cd doc a vs ns G Y ho hd hcd hmg hobj hints hlen hbits hg => ?_
  obtain ⟨K, fd, cs, sp, KX, hT, nT, C, hb, hsp, hF⟩ := F w mg fa _ Y G.T.g hmg
  exact end_law KX G.T.g G.T.b G.T.builtins G.T.nolimit hg hT nT C G.T.bmain hobj hints (Nat.le_trans hlen hn2) hr hF hb (fun H hH hS => hsp H a ns hlen hH hS) fun H e s' => hCX w H s1 e s'

/-! ### what the looks say of a class -/
end Kz
namespace K14.T3
open T27
open K14.Gn
open PySem PySem.W PySem.Calls PyProof.Rows L2 LamX
open He (ga ma eqO ba frT fAd cT codeOf tabOf emptyTab)
def pgm : Program := PySem.Challenge.pw_twinforks_k03_whole_rows_and_boxes
def FEa (K : Frag) : Addr := ga K "ForkError"
def veT : List Value := [.type "ValueError", .type "Exception", .type "BaseException", .type "object"]
def shapeB (K : Frag) (FE C : Addr) : Bool := match K.lookup C with
  | some ⟨.type t, _, .cls cd, sl⟩ => decide (t = "type") && (decide (cd.mro = .ref C :: .ref FE :: veT) && (cd.hasDict && (!cd.hasDel && (match sl.toList with | [_, _, _, _, some (.builtin n), _] => decide (n = "ValueError.__new__") | _ => false))))
  | _ => false
def initB (K : Frag) (C : Addr) : Bool := match K.lookup (ma K C "__init__") with
  | some ⟨cl, _, .func fd, _⟩ => decide (cl = .type "function") && ((match fd.code with
    | .ref c => codeIn K (.ref c) fd.qualname && (match K.lookup c with
      | some ⟨_, _, .fields vs, _⟩ => (match (vs[2]? : Option Value) with | some (.str file _) => (pgm.main.file : Str) == file | _ => false)
      | _ => false)
    | _ => false) && (match fd.closure with
    | [(_, cc)] => (match K.lookup cc with | some ⟨_, _, .cell (some v), _⟩ => decide (v = .ref C) | _ => false)
    | _ => false))
  | _ => false
def xiB (K : Frag) (C : Addr) : Bool := xfB K C && ((clsIn K C).isSome && (eqO (findIn K (.ref C) "__class__") (some (some (.builtin "object.__class__"))) && decide (mroIn K C (.type "object") = some true)))
def clsB (K : Frag) (FE C : Addr) (fs : List Str) : Bool :=
  shapeB K FE C && (initB K C && (xiB K C && (eqO (findIn K (.ref C) "__setattr__") (some (some (.builtin "object.__setattr__"))) && (keepIn K (.ref C) && (eqO (findIn K (.ref C) "__init__") (some (some (.ref (ma K C "__init__")))) &&
    (decide (ks_superIn K C C "__init__" = some (some (.builtin "ValueError.__init__"))) && (decide (subIn K (.ref C) (.type "ValueError") = some true) && (decide (mroIn K C (.ref C) = some true) &&
    (decide (kitOne K (.ref C) (.ref FE) = some true) && (decide (kitOne K (.ref C) (.type "ValueError") = some true) && (decide (kitOne K (.ref C) (.type "LookupError") = some false) && fs.all fun f => eqO (findIn K (.ref C) f) (some none))))))))))))
def feB (K : Frag) (FE : Addr) : Bool := xiB K FE && (keepIn K (.ref FE) && (excIn K FE veT "ValueError.__new__" && (decide (kitOne K (.ref FE) (.type "ValueError") = some true) && (match K.lookup FE with
  | some ⟨_, _, .cls cd, _⟩ => decide (cd.mro = .ref FE :: veT)
  | _ => false))))
def oncB (K : Frag) : Bool := decide (nsIn K cStatics "thirdparty.any" = some none) && (decide (specialIn K (.builtin "object.__class__") "__get__" = some (some (.builtin "getset_descriptor.__get__"))) && decide (takesIn K (.builtin "object.__class__") = some true))
def ones : List (Str × Str) := [("BadEndless", "thing"), ("BadEnds", "index"), ("BadIndex", "thing"), ("BadText", "index")]
def tfs : List He.Defn := [("_law_texts_right", none), ("_law_boxes_right", none), ("_law_refused_right", none)]
def strV : Value → Option Str
  | .str x _ => some x
  | _ => none
def keptK (K : Frag) : Bool := match K.lookup (ga K "KEPT") with
  | some ⟨cl, _, .seq its _, _⟩ => decide (cl = .type "tuple") && (decide (its.toList.map strV = kept.map some) && decide (its.size ≤ 10))
  | _ => false
def sysB (K : Frag) : Bool := match K.lookup sysModules with
  | some o => decide (o.cls = .type "dict")
  | none => false
def dsAll (K : Frag) : List Addr := ones.map fun p => ga K p.1
def exZ (K : Frag) : Bool := oncB K && (feB K (FEa K) && (decide ((FEa K :: dsAll K).Nodup) && ((ones.all fun p => clsB K (FEa K) (ga K p.1) [p.2]) && ((keptK K && sysB K) && decide ((tfs.map fun p => (cT K p).2).Nodup)))))
/-! a dict of the top, texts to texts -/
def entOf (e : DictEntry) : Option (Str × Int × Str) := match e.key, e.val with
  | .str x _, .str y _ => some (x, e.hash, y)
  | _, _ => none
def dicB (K : Frag) (a : Addr) : Option (List (Option (Str × Int × Str))) := match K.lookup a with
  | some ⟨.type c, none, .dict es _, sl⟩ => (match decide (c = "dict") && (sl.isEmpty && !(a == sysModules)) with
    | true => some (es.toList.map entOf)
    | false => none)
  | _ => none
def dicN : List (Str × List (Str × Str)) := [("BEHIND_HEAD", [("0", "head"), ("1", "head"), ("(", "bracket")]), ("BEHIND_BRACKET", [("0", "round"), ("1", "round")]), ("BEHIND_ROUND", [("0", "round"), ("1", "round"), (")", "all")])]
def dicV (w : World) (kvs : List (Str × Str)) : Option (List (Option (Str × Int × Str))) := some (kvs.map fun p => some (p.1, PyData.keyHash w.params p.1, p.2))
/-! the texts of the classes' own -/
abbrev FnI : Type := Option (Str × Str × Arguments × FuncBody × Scope × Addr × Value × Addr × List Str)
def fnI (K : Frag) (C : Addr) : FnI := match K.lookup (ma K C "__init__") with
  | some ⟨_, _, .func fd, _⟩ => some (fd.name, fd.qualname, fd.params, fd.body, fd.scope, fd.globals, fd.defaults, fd.builtins, fd.closure.map (·.1))
  | _ => none
def initS : Stmt → Stmt
  | .ClassDef _ _ _ (i :: _) _ _ _ _ _ _ _ => i
  | s => s
/-- the class that the top's i-th statement makes -/
def clsName : Stmt → Str
  | .ClassDef n _ _ _ _ _ _ _ _ _ _ => n
  | _ => ""
def valI (st : Stmt) : FnI := some ("__init__", clsName st ++ ".__init__", defArgs (initS st), .stmts (defBody (initS st)), defScope (initS st), mainGlobals, .none, builtinsNs, ["__class__"])

/-! ### what the head looks at -/
def glG (g : Addr → Option Obj) (x : Str) : Addr := match g mainGlobals with
  | some ⟨_, _, .dict es _, _⟩ => (match es.toList.find? (·.key.isStr x) with | some e => (match e.val with | .ref a => a | _ => 0) | none => 0)
  | _ => 0
def fnG (g : Addr → Option Obj) (f : Addr) : List Addr := match g f with
  | some ⟨_, _, .func fd, _⟩ => (match fd.code with | .ref c => [c] | _ => []) ++ fd.closure.map (·.2)
  | _ => []
def moreG (g : Addr → Option Obj) (a : Addr) : List Addr := match g a with
  | some ⟨_, _, .cls cd, _⟩ => cd.ns :: (match g cd.ns with
    | some ⟨_, _, .dict es _, _⟩ => es.toList.flatMap fun e => match e.val with | .ref f => f :: fnG g f | _ => []
    | _ => [])
  | some ⟨_, _, .func _, _⟩ => fnG g a
  | _ => []
def clsNames : List Str := ones.map (·.1)
def defNames1 : List Str := (["is_list", "is_pair", "is_number", "begins_name", "is_name", "first_no_end", "check_ends", "is_figure", "is_row", "is_endless", "check_endless", "shortest_round", "least_endless", "figure_there", "figure_at", "is_box_at", "is_box", "signs_of", "figures_of", "check_fault"] : List Str) ++ (["endless_text", "read_endless", "signs_next", "endless_fault"] : List Str)
def defNames2 : List Str := (["_law_ends", "_law_start", "_law_draw", "_law_pick", "_law_mixed", "_law_same", "_law_loose", "_law_spoilt", "_law_is_once", "_law_apart", "_law_is_figures", "_law_is_endless_one", "_law_figure", "_law_shortest", "_law_drawn_endless", "_law_endless_text", "_law_endless_fault", "_law_asked", "_law_odd_rows", "_law_bent_text"] : List Str) ++ (["_law_texts_right", "_law_is_told", "_law_boxes_right", "_law_refused_right", "law"] : List Str)
def defNames : List Str := defNames1 ++ defNames2
def conNames : List Str := ["KEPT", "BEHIND_HEAD", "BEHIND_BRACKET", "BEHIND_ROUND"]
def allNames : List Str := ("ForkError" : Str) :: (conNames ++ (clsNames ++ defNames))
def needs (g : Addr → Option Obj) : List Addr := mainGlobals :: cStatics :: sysModules :: allNames.flatMap fun x => glG g x :: moreG g (glG g x)
def defAt (i : Nat) : He.DefD := match topS i with
  | .FunctionDef n a b _ _ _ sc _ _ _ => ⟨(n, none), n, n, a, b, sc, [], []⟩
  | _ => ⟨("", none), "", "", ⟨[], [], none, [], [], none, []⟩, [], ⟨.function, [], false, false, []⟩, [], []⟩
def fns : List He.DefD := [defAt 11, defAt 12, defAt 13, defAt 14, defAt 15, defAt 16, defAt 17, defAt 19, defAt 20, defAt 21, defAt 22, defAt 23, defAt 24, defAt 25, defAt 26, defAt 27, defAt 28, defAt 29, defAt 30, defAt 32, defAt 37, defAt 38, defAt 39, defAt 40, defAt 42, defAt 43, defAt 44, defAt 45, defAt 46, defAt 47, defAt 48, defAt 49, defAt 50, defAt 51, defAt 52, defAt 53, defAt 54, defAt 55, defAt 56, defAt 57, defAt 58, defAt 59, defAt 60, defAt 61, defAt 62, defAt 63, defAt 64, defAt 65, defAt 66]
def fas : List He.Fa := allNames.map He.Fa.glo ++ [.free "super", .free "list", .free "int", .free "len", .free "range", .free "isinstance", .free "repr", .free "tuple", .free "dict", .free "zip", .free "all", .free "enumerate", .free "bool", .free "str", .free "any", .str "LETTERS" letters, .str "NAME_SIGNS" signs, .int "LONGEST_NAME" 8]
def stsI : List Stmt := [topS 2, topS 3, topS 4, topS 5]
abbrev DiZ : Type := List (Option (List (Option (Str × Int × Str))))
abbrev AlZ : Type := He.AlD × (List FnI × (Bool × DiZ))
def obsK (g : Addr → Option Obj) (K : Frag) : AlZ := (He.obsD fas fns K, (clsNames.map fun x => fnI K (ga K x)), (exZ K && He.tabsB g tfs K, dicN.map fun p => dicB K (ga K p.1)))
def obsZ (g : Addr → Option Obj) : AlZ := obsK g (frT g (needs g))
def valZ (w : World) : AlZ := (He.valD fns, stsI.map valI, (true, dicN.map fun p => dicV w p.2))
structure SaysZ (w : World) (h : Heap) (K : Frag) : Prop where
  i : K.In h
  d : He.obsD fas fns K = He.valD fns
  c : (clsNames.map fun x => fnI K (ga K x)) = stsI.map valI
  e : exZ K = true
  t1 : ∀ p ∈ tfs, codeHdIn K (cT K p).1 (cT K p).2 = true
  t2 : ∀ p ∈ tfs, K.lookup (cT K p).2 = none
  t3 : ∀ p ∈ tfs, h.get? (cT K p).2 = some { cls := .none, data := .fields #[] }
  f : (dicN.map fun p => dicB K (ga K p.1)) = dicN.map fun p => dicV w p.2
def hookZ : Hook where
  α := AlZ
  obs := fun s => obsZ s.heap.get?
  val := fun w => valZ w
  says := fun w h => ∃ K : Frag, SaysZ w h K
  of := fun _ h e => by
    have e1 := congrArg (fun z : AlZ => z.1) e
    have e2 := congrArg (fun z : AlZ => z.2.1) e
    have e3 : (exZ (frT h.heap.get? (needs h.heap.get?)) && He.tabsB h.heap.get? tfs (frT h.heap.get? (needs h.heap.get?))) = true := congrArg (fun z : AlZ => z.2.2.1) e
    have e4 := congrArg (fun z : AlZ => z.2.2.2) e
    obtain ⟨h1, h2⟩ := ba e3
    have key : ∀ p ∈ tfs, codeHdIn (frT h.heap.get? (needs h.heap.get?)) (cT (frT h.heap.get? (needs h.heap.get?)) p).1 (cT (frT h.heap.get? (needs h.heap.get?)) p).2 = true ∧ ∃ o, h.heap.get? (cT (frT h.heap.get? (needs h.heap.get?)) p).2 = some o ∧ emptyTab o = true := fun p hp => by
      obtain ⟨k1, k2⟩ := ba (List.all_eq_true.mp h2 p hp)
      refine ⟨k1, ?_⟩
      cases q : h.heap.get? (cT (frT h.heap.get? (needs h.heap.get?)) p).2 with
      | none => rw [q] at k2; cases k2
      | some o => rw [q] at k2; exact ⟨o, rfl, k2⟩
    refine ⟨_, He.frT_in, e1, e2, h1, fun p hp => (key p hp).1, fun p hp => ?_, fun p hp => ?_, e4⟩
    · obtain ⟨_, o, q, z⟩ := key p hp
      exact He.frT_none q z
    · obtain ⟨_, o, q, z⟩ := key p hp
      rw [q, He.emptyTab_eq z]
  keeps := fun _ _ _ ⟨K, z⟩ k => ⟨K, ⟨Frag.In.keeps z.i k, z.d, z.c, z.e, z.t1, z.t2, fun p hp => k _ _ (z.t3 p hp), z.f⟩⟩
def obZ (s : SharedT) : AlZ := obsZ (HandSHeadRun.getT s)
theorem obZ_eq (s : SharedT) : obZ s = hookZ.obs s.abs := by
  have e : HandSHeadRun.getT s = s.abs.heap.get? := funext (HandSHeadRun.getT_eq s)
  show obsZ (HandSHeadRun.getT s) = obsZ s.abs.heap.get?
  rw [e]
abbrev RZ : OpenRow := OpenLaw.row PySem.Challenge.rw_twinforks_k03_whole_rows_and_boxes
def nms1 : List Str := (["ForkError", "BadEndless", "BadEnds", "BadIndex", "BadText", "KEPT", "LETTERS", "NAME_SIGNS", "LONGEST_NAME", "is_list", "is_pair", "is_number", "begins_name", "is_name", "first_no_end", "check_ends", "is_figure", "is_row", "is_endless", "check_endless"] : List Str) ++ (["shortest_round", "least_endless", "figure_there", "figure_at", "is_box_at", "is_box", "signs_of", "figures_of", "check_fault", "BEHIND_HEAD", "BEHIND_BRACKET", "BEHIND_ROUND", "endless_text", "read_endless", "signs_next", "endless_fault"] : List Str)
def nms2 : List Str := (["_law_ends", "_law_start", "_law_draw", "_law_pick", "_law_mixed", "_law_same", "_law_loose", "_law_spoilt", "_law_is_once", "_law_apart", "_law_is_figures", "_law_is_endless_one", "_law_figure", "_law_shortest", "_law_drawn_endless", "_law_endless_text", "_law_endless_fault", "_law_asked", "_law_odd_rows", "_law_bent_text"] : List Str) ++ (["_law_texts_right", "_law_is_told", "_law_boxes_right", "_law_refused_right"] : List Str)
def nms : List Str := nms1 ++ nms2
end K14.T3
namespace K14.T3
open T27
open K14.Gn
open PySem PySem.W PySem.Calls PyProof.Rows L2 LamX
open He (ga ma eqO eqO_ok ba cT)
open Kz (XF X1 ScI sSuper sPut)
/-! ### what the looks say of a class -/
section
variable {K : Frag} {FE C : Addr} {fs : List Str}
theorem shape_ok (h : shapeB K FE C = true) : (∃ nm q N bs sn sub ab col dd k0 k1 k2 k3 k5, K.lookup C = some (excClassObj nm q C N bs (.ref FE :: veT) true sn sub ab col dd k0 k1 k2 k3 k5 "ValueError.__new__")) := by
  unfold shapeB at h
  split at h
  · rename_i t od cd sl q
    obtain ⟨h1, h2⟩ := ba h
    obtain ⟨h3, h4⟩ := ba h2
    obtain ⟨h5, h6⟩ := ba h4
    obtain ⟨h7, h8⟩ := ba h6
    split at h8
    · rename_i k0 k1 k2 k3 n k5 e
      obtain ⟨nm, bs, mro, N, qn, hd, sn, sub, ab, col, hdel⟩ := cd
      have e1 : t = "type" := of_decide_eq_true h1
      have e2 : mro = .ref C :: .ref FE :: veT := of_decide_eq_true h3
      have e3 : hd = true := h5
      have e4 : hdel = false := by simpa using h7
      have e5 : n = "ValueError.__new__" := of_decide_eq_true h8
      obtain ⟨sl⟩ := sl
      have e6 : sl = [k0, k1, k2, k3, some (.builtin n), k5] := e
      subst e1 e2 e3 e4 e5 e6
      exact ⟨nm, qn, N, bs, sn, sub, ab, col, od, k0, k1, k2, k3, k5, q⟩
    · cases h8
  · cases h
/-- all that clsB says -/
structure CB (K : Frag) (FE C : Addr) (fs : List Str) : Prop where
  sh : shapeB K FE C = true
  ib : initB K C = true
  xi : xiB K C = true
  sa : findIn K (.ref C) "__setattr__" = some (some (.builtin "object.__setattr__"))
  kp : keepIn K (.ref C) = true
  ini : findIn K (.ref C) "__init__" = some (some (.ref (ma K C "__init__")))
  sup : ks_superIn K C C "__init__" = some (some (.builtin "ValueError.__init__"))
  sv : subIn K (.ref C) (.type "ValueError") = some true
  slf : mroIn K C (.ref C) = some true
  kF : kitOne K (.ref C) (.ref FE) = some true
  kV : kitOne K (.ref C) (.type "ValueError") = some true
  kL : kitOne K (.ref C) (.type "LookupError") = some false
  no : ∀ f ∈ fs, findIn K (.ref C) f = some none
theorem cb_ok (h : clsB K FE C fs = true) : CB K FE C fs := by
  obtain ⟨a1, h⟩ := ba h
  obtain ⟨a2, h⟩ := ba h
  obtain ⟨a3, h⟩ := ba h
  obtain ⟨a4, h⟩ := ba h
  obtain ⟨a5, h⟩ := ba h
  obtain ⟨a6, h⟩ := ba h
  obtain ⟨a7, h⟩ := ba h
  obtain ⟨a8, h⟩ := ba h
  obtain ⟨a9, h⟩ := ba h
  obtain ⟨b1, h⟩ := ba h
  obtain ⟨b2, h⟩ := ba h
  obtain ⟨b3, h⟩ := ba h
  exact ⟨a1, a2, a3, eqO_ok a4, a5, eqO_ok a6, of_decide_eq_true a7, of_decide_eq_true a8, of_decide_eq_true a9, of_decide_eq_true b1, of_decide_eq_true b2, of_decide_eq_true b3, fun f hf => eqO_ok (List.all_eq_true.mp h f hf)⟩
theorem CB.oex (c : CB K FE C fs) : OexC K C := by
  obtain ⟨nm, q, N, bs, sn, sub, ab, col, dd, k0, k1, k2, k3, k5, e⟩ := shape_ok c.sh
  exact ⟨⟨nm, q, N, bs, _, sn, sub, ab, col, dd, k0, k1, k2, k3, k5, e, rfl⟩, c.sa, (xfB_ok (ba c.xi).1).exC, (show (K.lookup C).map (·.cls) = some (.type "type") by rw [e]; rfl), c.kp⟩
theorem CB.mro (c : CB K FE C fs) (v : Value) : subIn K (.ref C) v = some ((.ref C :: .ref FE :: veT : List Value).contains v) := by
  obtain ⟨nm, q, N, bs, sn, sub, ab, col, dd, k0, k1, k2, k3, k5, e⟩ := shape_ok c.sh
  show mroIn K C v = _
  unfold mroIn clsIn
  rw [e]
  rfl
theorem CB.ex (c : CB K FE C fs) {d : Addr} {gs : List Str} (cd : CB K FE d gs) (nf : FE ≠ d) : exmOne K (.ref C) (.ref d) = some (decide (C = d)) := by
  have b : subIn K (.ref d) (.type "BaseException") = some true := by
    rw [cd.mro]
    rfl
  unfold exmOne
  rw [b, if_pos (by rfl)]
  unfold kitCls
  obtain ⟨nm, q, N, bs, sn, sub, ab, col, dd, k0, k1, k2, k3, k5, ed⟩ := shape_ok cd.sh
  have e1 : ((clsIn K d).isSome && typeIn K (.ref d) == some (.type "type")) = true := by
    show ((clsIn K d).isSome && (K.lookup d).map (·.cls) == some (.type "type")) = true
    unfold clsIn
    rw [ed]
    rfl
  show (if ((clsIn K d).isSome && typeIn K (.ref d) == some (.type "type")) = true then subIn K (.ref C) (.ref d) else none) = _
  rw [if_pos e1, c.mro]
  by_cases e : C = d
  · rw [decide_eq_true e, e]
    simp
  · rw [decide_eq_false e]
    have n1 : ((Value.ref d) == Value.ref C) = false := by simpa using fun z => e z.symm
    have n2 : ((Value.ref d) == Value.ref FE) = false := by simpa using fun z => nf z.symm
    show some ((Value.ref d == Value.ref C) || ((Value.ref d == Value.ref FE) || veT.contains (Value.ref d))) = _
    rw [n1, n2]
    rfl
end
section
variable {K : Frag} {FE C : Addr} {fs : List Str} {st : Stmt}
/-- the facts of an own __init__, its text in hand -/
theorem xf_of (c : CB K FE C fs) (hI : fnI K C = valI st) {params : Arguments} {body : List Stmt} {scope : Scope} (hp : defArgs (initS st) = params) (hb : defBody (initS st) = body) (hs : defScope (initS st) = scope) (on : oncB K = true) (glo : nsIn K mainGlobals "super" = some none) :
    XF pgm K C (ma K C "__init__") (clsName st ++ ".__init__") params body scope := by
  have hi := c.ib
  unfold initB at hi
  unfold fnI valI at hI
  cases q : K.lookup (ma K C "__init__") with
  | none =>
    rw [q] at hi
    cases hi
  | some o =>
    obtain ⟨cl, od, dt, sl⟩ := o
    rw [q] at hi hI
    cases dt with
    | func fd =>
      obtain ⟨n1, n2, n3, n4, n5, n6, n7, n8, n9, n10, n11, n12, n13, n14, n15⟩ := fd
      have e2 : (some (n1, n2, n3, n4, n5, n6, n8, n15, n7.map (·.1)) : FnI) = (some ("__init__", clsName st ++ ".__init__", defArgs (initS st), FuncBody.stmts (defBody (initS st)), defScope (initS st), mainGlobals, Value.none, builtinsNs, ["__class__"]) : FnI) := hI
      simp only [FnI, Option.some.injEq, Prod.mk.injEq] at e2
      obtain ⟨g1, g2, g3, g4, g5, g6, g7, g8, g9⟩ := e2
      subst g1 g2 g3 g4 g5 g6 g7 g8
      obtain ⟨j1, j2⟩ := ba hi
      obtain ⟨j3, j4⟩ := ba j2
      obtain rfl : cl = .type "function" := of_decide_eq_true j1
      rw [hp, hb, hs] at q
      obtain ⟨o1, _⟩ := ba on
      cases n13 with
      | ref cda =>
        obtain ⟨j5, j6⟩ := ba (show (codeIn K (.ref cda) (clsName st ++ ".__init__") && _) = true from j3)
        cases qc : K.lookup cda with
        | none =>
          rw [qc] at j6
          cases j6
        | some oc =>
          obtain ⟨ccl, cdd, cdt, ccs⟩ := oc
          rw [qc] at j6
          cases cdt with
          | fields vs =>
            cases q2 : (vs[2]? : Option Value) with
            | none =>
              have j7 : (match (vs[2]? : Option Value) with | some (.str file _) => (pgm.main.file : Str) == file | _ => false) = true := j6
              rw [q2] at j7
              cases j7
            | some fv =>
              have j7 : (match (vs[2]? : Option Value) with | some (.str file _) => (pgm.main.file : Str) == file | _ => false) = true := j6
              rw [q2] at j7
              cases fv with
              | str file tf =>
                cases n7 with
                | nil => cases g9
                | cons p r =>
                  cases r with
                  | cons p2 r2 => simp at g9
                  | nil =>
                    obtain ⟨x, cc⟩ := p
                    obtain rfl : x = "__class__" := by simpa using g9
                    have j8 : (match K.lookup cc with | some ⟨_, _, .cell (some v), _⟩ => decide (v = .ref C) | _ => false) = true := j4
                    cases qd : K.lookup cc with
                    | none =>
                      rw [qd] at j8
                      cases j8
                    | some od2 =>
                      obtain ⟨dcl, ddd, ddt, dsl⟩ := od2
                      rw [qd] at j8
                      cases ddt with
                      | cell ov =>
                        cases ov with
                        | none => cases j8
                        | some v =>
                          obtain rfl : v = .ref C := of_decide_eq_true j8
                          exact ⟨c.oex, c.ini, (show (K.lookup (ma K C "__init__")).map (·.cls) = some (.type "function") by rw [q]; rfl), ⟨_, _, _, _, _, _, cda, _, _, cc, ccl, cdd, vs, ccs, file, tf, _, _, _, q, j5, qc, q2, j7, qd⟩, c.sup, c.sv, c.slf, of_decide_eq_true o1, glo, by decide +kernel, xfB_ok (ba c.xi).1⟩
                      | _ => cases j8
              | _ => cases j7
          | _ => cases j6
      | _ => cases j3
    | _ => cases hi
end
/-- the text of an own error class with one field: what must be seen of it -/
structure T1 (st : Stmt) (f : Str) : Prop where
  ex : ∃ (params : Arguments) (scope : Scope) (msg : Str) (j : Nat) (p0 p1 p2 p3 p4 p5 q0 q1 q2 q3 : Pos), defArgs (initS st) = params ∧ defBody (initS st) = [sSuper msg j p0 p1 p2 p3 p4 p5, sPut f q0 q1 q2 q3] ∧ defScope (initS st) = scope ∧ (p2.endLine == p4.line) = true ∧ ScI params scope [f] ∧
    (∀ (qual : Str) (kV doc pm : Value) (an : Option Addr) (cdv ct : Value) (cc : Addr) (a u : Value), bindArgs (ksFn "__init__" qual params [sSuper msg j p0 p1 p2 p3 p4 p5, sPut f q0 q1 q2 q3] scope .none kV doc pm an cdv ct cc) ⟨[a, u], []⟩ = pure [(("self" : Str), a), (f, u)]) ∧
    (∀ (qual : Str) (kV doc pm : Value) (an : Option Addr) (cdv ct : Value) (cc : Addr) (a u : Value), bindArgs (ksFn "__init__" qual params [sSuper msg j p0 p1 p2 p3 p4 p5, sPut f q0 q1 q2 q3] scope .none kV doc pm an cdv ct cc) ⟨[a], [(f, u)]⟩ = pure [(("self" : Str), a), (f, u)])
  fs : (f == ("self" : Str)) = false
  fd : (f == ("__debug__" : Str)) = false
theorem x1_of {K : Frag} {FE C : Addr} {f : Str} {st : Stmt} (t : T1 st f) (c : CB K FE C [f]) (hI : fnI K C = valI st) (on : oncB K = true) (glo : nsIn K mainGlobals "super" = some none) : X1 pgm K C f := by
  obtain ⟨params, scope, msg, j, p0, p1, p2, p3, p4, p5, q0, q1, q2, q3, e1, e2, e3, e4, e5, e6, e7⟩ := t.ex
  exact ⟨⟨_, _, params, scope, msg, j, p0, p1, p2, p3, p4, p5, q0, q1, q2, q3, e4, xf_of c hI e1 e2 e3 on glo, e5, e6 _, e7 _⟩, t.fs, t.fd, c.no f (by simp), c.kp⟩
theorem t1_0 : T1 (topS 2) "thing" := ⟨⟨_, _, _, _, _, _, _, _, _, _, _, _, _, _, rfl, rfl, rfl, rfl, ⟨⟨_, rfl, rfl⟩, rfl, rfl, rfl, by decide +kernel, by decide +kernel, rfl, rfl, rfl⟩, fun _ _ _ _ _ _ _ _ _ _ => rfl, fun _ _ _ _ _ _ _ _ _ _ => rfl⟩, by decide, by decide⟩
theorem t1_1 : T1 (topS 3) "index" := ⟨⟨_, _, _, _, _, _, _, _, _, _, _, _, _, _, rfl, rfl, rfl, rfl, ⟨⟨_, rfl, rfl⟩, rfl, rfl, rfl, by decide +kernel, by decide +kernel, rfl, rfl, rfl⟩, fun _ _ _ _ _ _ _ _ _ _ => rfl, fun _ _ _ _ _ _ _ _ _ _ => rfl⟩, by decide, by decide⟩
theorem t1_2 : T1 (topS 4) "thing" := ⟨⟨_, _, _, _, _, _, _, _, _, _, _, _, _, _, rfl, rfl, rfl, rfl, ⟨⟨_, rfl, rfl⟩, rfl, rfl, rfl, by decide +kernel, by decide +kernel, rfl, rfl, rfl⟩, fun _ _ _ _ _ _ _ _ _ _ => rfl, fun _ _ _ _ _ _ _ _ _ _ => rfl⟩, by decide, by decide⟩
theorem t1_3 : T1 (topS 5) "index" := ⟨⟨_, _, _, _, _, _, _, _, _, _, _, _, _, _, rfl, rfl, rfl, rfl, ⟨⟨_, rfl, rfl⟩, rfl, rfl, rfl, by decide +kernel, by decide +kernel, rfl, rfl, rfl⟩, fun _ _ _ _ _ _ _ _ _ _ => rfl, fun _ _ _ _ _ _ _ _ _ _ => rfl⟩, by decide, by decide⟩
/-- what the head says, together -/
structure Sy (w : World) (K : Frag) : Prop where
  d : He.SaysD fas fns K
  i : (clsNames.map fun x => fnI K (ga K x)) = stsI.map valI
  on : oncB K = true
  nd : (FEa K :: dsAll K).Nodup
  one : ∀ p ∈ ones, clsB K (FEa K) (ga K p.1) [p.2] = true
  kp : keptK K = true
  sy : sysB K = true
  tn : (tfs.map fun p => (cT K p).2).Nodup
  f : (dicN.map fun p => dicB K (ga K p.1)) = dicN.map fun p => dicV w p.2
theorem sy_of {w : World} {h : Heap} {K : Frag} (z : SaysZ w h K) : Sy w K := by
  obtain ⟨b1, b2⟩ := ba z.e
  obtain ⟨c1, c2⟩ := ba b2
  obtain ⟨d1, d2⟩ := ba c2
  obtain ⟨d2, d3⟩ := ba d2
  obtain ⟨d3, d5⟩ := ba d3
  obtain ⟨d3, d4⟩ := ba d3
  exact ⟨z.d, z.c, b1, of_decide_eq_true d1, fun p hp => List.all_eq_true.mp d2 p hp, d3, d4, of_decide_eq_true d5, z.f⟩
section
variable {w : World} {K : Frag}
theorem Sy.fa (S : Sy w K) {f : He.Fa} (h : f ∈ fas) : f.ok K = true := He.SaysD.facts S.d h
theorem glo_mem {x : Str} (h : x ∈ allNames) : He.Fa.glo x ∈ fas := List.mem_append_left _ (List.mem_map.mpr ⟨x, h, rfl⟩)
theorem con_mem {x : Str} (h : x ∈ conNames) : x ∈ allNames := List.mem_cons_of_mem _ (List.mem_append_left _ h)
theorem cls_mem {x : Str} (h : x ∈ clsNames) : x ∈ allNames := List.mem_cons_of_mem _ (List.mem_append_right _ (List.mem_append_left _ h))
theorem def_mem {x : Str} (h : x ∈ defNames) : x ∈ allNames := List.mem_cons_of_mem _ (List.mem_append_right _ (List.mem_append_right _ h))
theorem Sy.free (S : Sy w K) (i : Nat) {x : Str} (h : fas[i]? = some (.free x) := by rfl) : (He.Fa.free x).ok K = true := S.fa (List.mem_of_getElem? h)
theorem Sy.fn (S : Sy w K) {p : Str × Str} (h : p ∈ ones) : FEa K ≠ ga K p.1 := fun z => by
  have h' := (List.nodup_cons.mp S.nd).1
  rw [z] at h'
  exact h' (List.mem_map.mpr ⟨p, h, rfl⟩)
theorem Sy.at (S : Sy w K) (i : Nat) {p : Str × Str} {s : Stmt} (h : ones[i]? = some p) (hs : stsI[i]? = some s) : fnI K (ga K p.1) = valI s := by
  have e1 : clsNames[i]? = some p.1 := by
    unfold clsNames
    rw [List.getElem?_map, h]
    rfl
  have e := congrArg (fun l : List FnI => l[i]?) S.i
  have e3 : (clsNames.map fun x => fnI K (ga K x))[i]? = (stsI.map valI)[i]? := e
  rw [List.getElem?_map, List.getElem?_map, e1, hs] at e3
  exact Option.some.inj e3
theorem nodup_map_inj {α β : Type} {f : α → β} : ∀ {l : List α}, (l.map f).Nodup → ∀ {x y : α}, x ∈ l → y ∈ l → f x = f y → x = y
  | [], _, _, _, h, _, _ => nomatch h
  | z :: l, h, x, y, hx, hy, e => by
    obtain ⟨h1, h2⟩ := List.nodup_cons.mp h
    rcases List.mem_cons.mp hx with q1 | q1
    · rcases List.mem_cons.mp hy with q2 | q2
      · rw [q1, q2]
      · rw [q1] at e
        exact absurd (List.mem_map.mpr ⟨y, q2, e.symm⟩) h1
    · rcases List.mem_cons.mp hy with q2 | q2
      · rw [q2] at e
        exact absurd (List.mem_map.mpr ⟨x, q1, e⟩) h1
      · exact nodup_map_inj h2 q1 q2 e
theorem Sy.inj (S : Sy w K) {p q : Str × Str} (hp : p ∈ ones) (hq : q ∈ ones) : decide (ga K p.1 = ga K q.1) = decide (p.1 = q.1) := by
  have h := (List.nodup_cons.mp S.nd).2
  by_cases e : p.1 = q.1
  · rw [e, decide_eq_true rfl, decide_eq_true rfl]
  · rw [decide_eq_false e, decide_eq_false fun z => e (congrArg (·.1) (nodup_map_inj h hp hq z))]
theorem Sy.sysK (S : Sy w K) : SysK K := by
  have h := S.sy
  unfold sysB at h
  split at h
  · rename_i o q
    exact ⟨o, q, of_decide_eq_true h⟩
  · cases h
theorem vals_str : ∀ {vs : List Value} {ss : List Str}, vs.map strV = ss.map some → Vals (ss.map V.str) vs
  | [], [], _ => .nil
  | [], _ :: _, h => by cases h
  | _ :: _, [], h => by cases h
  | v :: vs, x :: ss, h => by
    rw [List.map_cons, List.map_cons] at h
    injection h with h1 h2
    refine .cons ?_ (vals_str h2)
    cases v with
    | str y t =>
      obtain rfl : y = x := Option.some.inj h1
      exact ⟨t, rfl⟩
    | _ => cases h1
theorem Sy.kept (S : Sy w K) (H : Hp) : SqT K H (ga K "KEPT") (T27.kept.map V.str) := by
  have h := S.kp
  unfold keptK at h
  split at h
  · rename_i cl od its n sl q
    obtain ⟨h1, h2⟩ := ba h
    obtain ⟨h2, h3⟩ := ba h2
    have h3 := of_decide_eq_true h3
    exact .inr ⟨_, its, n, q, of_decide_eq_true h1, rfl, by rw [sizeLine_eq]; omega, vals_str (of_decide_eq_true h2)⟩
  · cases h
/-! dicts of texts -/
theorem ent_of {P : Program} : ∀ {l : List DictEntry} {kvs : List (Str × Str)}, l.map entOf = (kvs.map fun p => some (p.1, PyData.keyHash w.params p.1, p.2)) → ∃ vs : List (Key × Value), Pairs (mixKind P w) l vs ∧ KV (kvs.map fun p => ((.inr p.1 : Key), V.str p.2)) vs ∧ vs.map (·.1) = kvs.map (fun p => (.inr p.1 : Key)) ∧ ∀ e ∈ l, ∃ k, (mixKind P w).is k e.key = true ∧ e.hash = (mixKind P w).hash k
  | [], [], _ => ⟨[], .nil, .nil, rfl, fun e h => nomatch h⟩
  | [], _ :: _, h => by cases h
  | _ :: _, [], h => by cases h
  | e :: l, (x, y) :: kvs, h => by
    have h : entOf e :: l.map entOf = some (x, PyData.keyHash w.params x, y) :: _ := h
    injection h with h1 h2
    obtain ⟨vs, p1, p2, p3, p4⟩ := ent_of (P := P) h2
    obtain ⟨eh, ek, ev⟩ := e
    unfold entOf at h1
    split at h1
    · rename_i x' t1 y' t2 q1 q2
      have q1 : ek = .str x' t1 := q1
      have q2 : ev = .str y' t2 := q2
      subst q1 q2
      have h3 := Option.some.inj h1
      obtain ⟨g1, g0⟩ := Prod.mk.inj h3
      obtain ⟨g2, g3⟩ := Prod.mk.inj g0
      have g4 : eh = PyData.keyHash w.params x := g2
      clear h3 g0 g2 h1 h
      subst g1
      subst g3
      subst g4
      refine ⟨(.inr x', .str y' t2) :: vs, .cons (keyIs_str x' t1) rfl p1, .cons ⟨rfl, ⟨t2, rfl⟩⟩ p2, by rw [List.map_cons, p3]; rfl, fun e he => ?_⟩
      rcases List.mem_cons.mp he with rfl | he
      · exact ⟨.inr x', keyIs_str x' t1, rfl⟩
      · exact p4 e he
    · cases h1
theorem dck_of {P : Program} {a : Addr} {kvs : List (Str × Str)} (h : dicB K a = dicV w kvs) (nd : (kvs.map fun p => (.inr p.1 : Key)).Nodup) (l : kvs.length ≤ 1000) : DiM.DcK P w K a (kvs.map fun p => ((.inr p.1 : Key), V.str p.2)) := by
  unfold dicB dicV at h
  cases q : K.lookup a with
  | none =>
    rw [q] at h
    cases h
  | some o =>
    obtain ⟨oc, od, dt, osl⟩ := o
    rw [q] at h
    cases oc with
    | type c =>
      cases od with
      | none =>
        cases dt with
        | dict es n =>
          have h1 : (match decide (c = "dict") && (osl.isEmpty && !(a == sysModules)) with
            | true => some (es.toList.map entOf)
            | false => none) = some (kvs.map fun p => some (p.1, PyData.keyHash w.params p.1, p.2)) := h
          cases z : decide (c = "dict") && (osl.isEmpty && !(a == sysModules)) with
          | false =>
            rw [z] at h1
            cases h1
          | true =>
            rw [z] at h1
            obtain ⟨z1, z2⟩ := ba z
            obtain ⟨z3, z4⟩ := ba z2
            have e1 : c = "dict" := of_decide_eq_true z1
            have e2 : osl = #[] := Array.isEmpty_iff.mp z3
            have e3 : (a == sysModules) = false := by
              cases y : a == sysModules with
              | false => rfl
              | true =>
                rw [y] at z4
                cases z4
            subst e1 e2
            obtain ⟨vs, p1, p2, p3, p4⟩ := ent_of (P := P) (Option.some.inj h1)
            refine ⟨by rw [List.length_map, sizeLine_eq]; omega, e3, fun h hI => ⟨vs, p2, _, es, n, hI _ _ q, ⟨rfl, rfl, rfl⟩, rfl, fun e he => p4 e (Array.mem_toList_iff.mpr he), p1, by rw [p3]; exact nd⟩⟩
        | _ => cases h
      | some b => cases dt <;> cases h
    | _ => cases od <;> cases dt <;> cases h
theorem Sy.dic (S : Sy w K) {P : Program} (i : Nat) {x : Str} {kvs : List (Str × Str)} (h : dicN[i]? = some (x, kvs)) (nd : (kvs.map fun p => (.inr p.1 : Key)).Nodup) (l : kvs.length ≤ 1000) : DiM.DcK P w K (ga K x) (kvs.map fun p => ((.inr p.1 : Key), V.str p.2)) := by
  have e := congrArg (fun l : DiZ => l[i]?) S.f
  have e : (dicN.map fun p => dicB K (ga K p.1))[i]? = (dicN.map fun p => dicV w p.2)[i]? := e
  rw [List.getElem?_map, List.getElem?_map, h] at e
  exact dck_of (Option.some.inj e) nd l
end
section
variable {w : World} {K : Frag} {mg : Str → Option Value} {h : Heap}
theorem Sy.mgC (S : Sy w K) (X : K.In h) (G : h.Ns mainGlobals mg) {x : Str} (hx : x ∈ allNames) : mg x = some (.ref (ga K x)) := He.glo_ok X G (S.fa (glo_mem hx))
theorem Sy.er (S : Sy w K) (X : K.In h) (G : h.Ns mainGlobals mg) (i : Nat) {p : Str × Str} {s : Stmt} (e : ones[i]? = some p) (hs : stsI[i]? = some s) (t : T1 s p.2) : mg p.1 = some (.ref (ga K p.1)) ∧ X1 pgm K (ga K p.1) p.2 := by
  have glo : nsIn K mainGlobals "super" = some none := eqO_ok (S.free 58 (x := "super"))
  have hm := List.mem_of_getElem? e
  exact ⟨S.mgC X G (cls_mem (List.mem_map.mpr ⟨_, hm, rfl⟩)), x1_of t (cb_ok (S.one _ hm)) (S.at i e hs) S.on glo⟩
theorem Sy.ex (S : Sy w K) {p q : Str × Str} (hp : p ∈ ones) (hq : q ∈ ones) : exmOne K (.ref (ga K p.1)) (.ref (ga K q.1)) = some (decide (p.1 = q.1)) := by
  rw [(cb_ok (S.one _ hp)).ex (cb_ok (S.one _ hq)) (S.fn hq)]
  exact congrArg some (S.inj hp hq)
end
end K14.T3
namespace K14.T3
open T27
open K14.Gn
open PySem PySem.W PySem.Calls PyProof.Rows L2 LamX
open He (ga ma eqO eqO_ok ba cT codeOf tabOf)
open Kz (Has pe_has FnG spStart)
theorem ask_ones {p : Str × Str × Str} (h : p ∈ asks) : ((p.1, p.2.2) : Str × Str) ∈ ones := by
  simp only [asks, List.mem_cons, List.not_mem_nil, or_false] at h
  rcases h with rfl | rfl | rfl | rfl <;> simp [ones]
theorem ak_er {K : Frag} {mg : Str → Option Value} (h1 : mg "BadEndless" = some (.ref (ga K "BadEndless")) ∧ Kz.X1 pgm K (ga K "BadEndless") "thing") (h2 : mg "BadIndex" = some (.ref (ga K "BadIndex")) ∧ Kz.X1 pgm K (ga K "BadIndex") "thing") (h3 : mg "BadEnds" = some (.ref (ga K "BadEnds")) ∧ Kz.X1 pgm K (ga K "BadEnds") "index") (h4 : mg "BadText" = some (.ref (ga K "BadText")) ∧ Kz.X1 pgm K (ga K "BadText") "index") : ∀ p ∈ asks, mg p.1 = some (.ref (ga K p.1)) ∧ Kz.X1 pgm K (ga K p.1) p.2.2 := fun p hp => by
  simp only [asks, List.mem_cons, List.not_mem_nil, or_false] at hp
  rcases hp with rfl | rfl | rfl | rfl
  · exact h1
  · exact h2
  · exact h3
  · exact h4
def TT (K : Frag) : List (Addr × Str) := [((cT K ("_law_texts_right", none)).2, qTr), ((cT K ("_law_boxes_right", none)).2, qBr), ((cT K ("_law_refused_right", none)).2, qRr)]
theorem tt_one {w : World} {K : Frag} (S : Sy w K) : ∀ p ∈ TT K, ∀ p' ∈ TT K, p.1 = p'.1 → p = p' := by
  have h := S.tn
  have e : (TT K).map (·.1) = tfs.map fun p => (cT K p).2 := rfl
  rw [← e] at h
  exact fun p hp p' hp' z => nodup_map_inj h hp hp' z
theorem lk_of {K : Frag} {mg : Str → Option Value} {w : World} {base : Heap} (S : Sy w K) (X : K.In base) (G : base.Ns mainGlobals mg) (TB : ∀ p ∈ tfs.map (cT K), TabB base mg p.1 p.2) : LwK pgm w K mg base (TT K) := by
  have e_BadEndless := S.er X G 0 (p := ("BadEndless", "thing")) rfl rfl t1_0
  have e_BadEnds := S.er X G 1 (p := ("BadEnds", "index")) rfl rfl t1_1
  have e_BadIndex := S.er X G 2 (p := ("BadIndex", "thing")) rfl rfl t1_2
  have e_BadText := S.er X G 3 (p := ("BadText", "index")) rfl rfl t1_3
  have fr : ∀ (i : Nat) {x : Str}, fas[i]? = some (.free x) → mg x = none := fun i x h => He.free_ok X G (S.free i h)
  have gm : ∀ (i : Nat) {x : Str}, defNames[i]? = some x → mg x = some (.ref (ga K x)) := fun i x h => S.mgC X G (def_mem (List.mem_of_getElem? h))
  have q_list := fr 59 (x := "list") rfl
  have q_int := fr 60 (x := "int") rfl
  have q_len := fr 61 (x := "len") rfl
  have q_range := fr 62 (x := "range") rfl
  have q_isinstance := fr 63 (x := "isinstance") rfl
  have q_repr := fr 64 (x := "repr") rfl
  have q_tuple := fr 65 (x := "tuple") rfl
  have q_dict := fr 66 (x := "dict") rfl
  have q_zip := fr 67 (x := "zip") rfl
  have q_all := fr 68 (x := "all") rfl
  have q_enumerate := fr 69 (x := "enumerate") rfl
  have q_bool := fr 70 (x := "bool") rfl
  have q_str := fr 71 (x := "str") rfl
  have q_any := fr 72 (x := "any") rfl
  have N : NmK K mg := { ll := He.str_ok X G (S.fa (f := .str "LETTERS" letters) (List.mem_of_getElem? (i := 73) rfl)), ns := He.str_ok X G (S.fa (f := .str "NAME_SIGNS" signs) (List.mem_of_getElem? (i := 74) rfl)), ln := He.int_ok X G (S.fa (f := .int "LONGEST_NAME" 8) (List.mem_of_getElem? (i := 75) rfl)), kp := ⟨_, S.mgC X G (x := "KEPT") (con_mem (by simp [conNames])), S.kept⟩, len := q_len, all := q_all, isi := q_isinstance, str := q_str, enu := q_enumerate }
  obtain ⟨g0, F0⟩ := S.d.def_ 0 (d := defAt 11) rfl
  have F0 : FunD K "is_list" "is_list" (defArgs sIl) (defBody sIl) (defScope sIl) [] [] (ga K "is_list") g0 := F0
  have b0 : L2.Binds K g0 ["thing"] [] := F0.bindsN fun _ _ _ _ _ _ us hl => match us, hl with | [_], _ => rfl
  obtain ⟨g1, F1⟩ := S.d.def_ 1 (d := defAt 12) rfl
  have F1 : FunD K "is_pair" "is_pair" (defArgs sIp) (defBody sIp) (defScope sIp) [] [] (ga K "is_pair") g1 := F1
  have b1 : L2.Binds K g1 ["thing"] [] := F1.bindsN fun _ _ _ _ _ _ us hl => match us, hl with | [_], _ => rfl
  obtain ⟨g2, F2⟩ := S.d.def_ 2 (d := defAt 13) rfl
  have F2 : FunD K "is_number" "is_number" (defArgs sIn) (defBody sIn) (defScope sIn) [] [] (ga K "is_number") g2 := F2
  have b2 : L2.Binds K g2 ["thing"] [] := F2.bindsN fun _ _ _ _ _ _ us hl => match us, hl with | [_], _ => rfl
  obtain ⟨g3, F3⟩ := S.d.def_ 3 (d := defAt 14) rfl
  have F3 : FunD K "begins_name" "begins_name" (defArgs sBn) (defBody sBn) (defScope sBn) [] [] (ga K "begins_name") g3 := F3
  have b3 : L2.Binds K g3 ["word"] [] := F3.bindsN fun _ _ _ _ _ _ us hl => match us, hl with | [_], _ => rfl
  obtain ⟨g4, F4⟩ := S.d.def_ 4 (d := defAt 15) rfl
  have F4 : FunD K "is_name" "is_name" (defArgs sNm) (defBody sNm) (defScope sNm) [] [] (ga K "is_name") g4 := F4
  have b4 : L2.Binds K g4 ["thing"] [] := F4.bindsN fun _ _ _ _ _ _ us hl => match us, hl with | [_], _ => rfl
  obtain ⟨g5, F5⟩ := S.d.def_ 5 (d := defAt 16) rfl
  have F5 : FunD K "first_no_end" "first_no_end" (defArgs sFn) (defBody sFn) (defScope sFn) [] [] (ga K "first_no_end") g5 := F5
  have b5 : L2.Binds K g5 ["ends"] [] := F5.bindsN fun _ _ _ _ _ _ us hl => match us, hl with | [_], _ => rfl
  obtain ⟨g6, F6⟩ := S.d.def_ 6 (d := defAt 17) rfl
  have F6 : FunD K "check_ends" "check_ends" (defArgs sCk) (defBody sCk) (defScope sCk) [] [] (ga K "check_ends") g6 := F6
  have b6 : L2.Binds K g6 ["ends"] [] := F6.bindsN fun _ _ _ _ _ _ us hl => match us, hl with | [_], _ => rfl
  obtain ⟨g7, F7⟩ := S.d.def_ 7 (d := defAt 19) rfl
  have F7 : FunD K "is_figure" "is_figure" (defArgs sIf) (defBody sIf) (defScope sIf) [] [] (ga K "is_figure") g7 := F7
  have b7 : L2.Binds K g7 ["thing"] [] := F7.bindsN fun _ _ _ _ _ _ us hl => match us, hl with | [_], _ => rfl
  obtain ⟨g8, F8⟩ := S.d.def_ 8 (d := defAt 20) rfl
  have F8 : FunD K "is_row" "is_row" (defArgs sIr) (defBody sIr) (defScope sIr) [] [] (ga K "is_row") g8 := F8
  have b8 : L2.Binds K g8 ["thing"] [] := F8.bindsN fun _ _ _ _ _ _ us hl => match us, hl with | [_], _ => rfl
  obtain ⟨g9, F9⟩ := S.d.def_ 9 (d := defAt 21) rfl
  have F9 : FunD K "is_endless" "is_endless" (defArgs sIe) (defBody sIe) (defScope sIe) [] [] (ga K "is_endless") g9 := F9
  have b9 : L2.Binds K g9 ["thing"] [] := F9.bindsN fun _ _ _ _ _ _ us hl => match us, hl with | [_], _ => rfl
  obtain ⟨g10, F10⟩ := S.d.def_ 10 (d := defAt 22) rfl
  have F10 : FunD K "check_endless" "check_endless" (defArgs sCe) (defBody sCe) (defScope sCe) [] [] (ga K "check_endless") g10 := F10
  have b10 : L2.Binds K g10 ["endless"] [] := F10.bindsN fun _ _ _ _ _ _ us hl => match us, hl with | [_], _ => rfl
  obtain ⟨g11, F11⟩ := S.d.def_ 11 (d := defAt 23) rfl
  have F11 : FunD K "shortest_round" "shortest_round" (defArgs sSr) (defBody sSr) (defScope sSr) [] [] (ga K "shortest_round") g11 := F11
  have b11 : L2.Binds K g11 ["figures"] [] := F11.bindsN fun _ _ _ _ _ _ us hl => match us, hl with | [_], _ => rfl
  obtain ⟨g12, F12⟩ := S.d.def_ 12 (d := defAt 24) rfl
  have F12 : FunD K "least_endless" "least_endless" (defArgs sLe) (defBody sLe) (defScope sLe) [] [] (ga K "least_endless") g12 := F12
  have b12 : L2.Binds K g12 ["endless"] [] := F12.bindsN fun _ _ _ _ _ _ us hl => match us, hl with | [_], _ => rfl
  obtain ⟨g13, F13⟩ := S.d.def_ 13 (d := defAt 25) rfl
  have F13 : FunD K "figure_there" "figure_there" (defArgs sFt) (defBody sFt) (defScope sFt) [] [] (ga K "figure_there") g13 := F13
  have b13 : L2.Binds K g13 ["endless", "index"] [] := F13.bindsN fun _ _ _ _ _ _ us hl => match us, hl with | [_, _], _ => rfl
  obtain ⟨g14, F14⟩ := S.d.def_ 14 (d := defAt 26) rfl
  have F14 : FunD K "figure_at" "figure_at" (defArgs sFa) (defBody sFa) (defScope sFa) [] [] (ga K "figure_at") g14 := F14
  have b14 : L2.Binds K g14 ["endless", "index"] [] := F14.bindsN fun _ _ _ _ _ _ us hl => match us, hl with | [_, _], _ => rfl
  obtain ⟨g15, F15⟩ := S.d.def_ 15 (d := defAt 27) rfl
  have F15 : FunD K "is_box_at" "is_box_at" (defArgs sBa) (defBody sBa) (defScope sBa) [] [] (ga K "is_box_at") g15 := F15
  have b15 : L2.Binds K g15 ["ends", "thing"] [] := F15.bindsN fun _ _ _ _ _ _ us hl => match us, hl with | [_, _], _ => rfl
  obtain ⟨g16, F16⟩ := S.d.def_ 16 (d := defAt 28) rfl
  have F16 : FunD K "is_box" "is_box" (defArgs sBx) (defBody sBx) (defScope sBx) [] [] (ga K "is_box") g16 := F16
  have b16 : L2.Binds K g16 ["ends", "thing"] [] := F16.bindsN fun _ _ _ _ _ _ us hl => match us, hl with | [_, _], _ => rfl
  obtain ⟨g17, F17⟩ := S.d.def_ 17 (d := defAt 29) rfl
  have F17 : FunD K "signs_of" "signs_of" (defArgs sSo) (defBody sSo) (defScope sSo) [] [] (ga K "signs_of") g17 := F17
  have b17 : L2.Binds K g17 ["row"] [] := F17.bindsN fun _ _ _ _ _ _ us hl => match us, hl with | [_], _ => rfl
  obtain ⟨g18, F18⟩ := S.d.def_ 18 (d := defAt 30) rfl
  have F18 : FunD K "figures_of" "figures_of" (defArgs sFo) (defBody sFo) (defScope sFo) [] [] (ga K "figures_of") g18 := F18
  have b18 : L2.Binds K g18 ["signs"] [] := F18.bindsN fun _ _ _ _ _ _ us hl => match us, hl with | [_], _ => rfl
  obtain ⟨g19, F19⟩ := S.d.def_ 19 (d := defAt 32) rfl
  have F19 : FunD K "check_fault" "check_fault" (defArgs sCf) (defBody sCf) (defScope sCf) [] [] (ga K "check_fault") g19 := F19
  have b19 : L2.Binds K g19 ["fault"] [] := F19.bindsN fun _ _ _ _ _ _ us hl => match us, hl with | [_], _ => rfl
  obtain ⟨g20, F20⟩ := S.d.def_ 20 (d := defAt 37) rfl
  have F20 : FunD K "endless_text" "endless_text" (defArgs sEt) (defBody sEt) (defScope sEt) [] [] (ga K "endless_text") g20 := F20
  have b20 : L2.Binds K g20 ["endless"] [] := F20.bindsN fun _ _ _ _ _ _ us hl => match us, hl with | [_], _ => rfl
  obtain ⟨g21, F21⟩ := S.d.def_ 21 (d := defAt 38) rfl
  have F21 : FunD K "read_endless" "read_endless" (defArgs sRe) (defBody sRe) (defScope sRe) [] [] (ga K "read_endless") g21 := F21
  have b21 : L2.Binds K g21 ["text"] [] := F21.bindsN fun _ _ _ _ _ _ us hl => match us, hl with | [_], _ => rfl
  obtain ⟨g22, F22⟩ := S.d.def_ 22 (d := defAt 39) rfl
  have F22 : FunD K "signs_next" "signs_next" (defArgs sSn) (defBody sSn) (defScope sSn) [] [] (ga K "signs_next") g22 := F22
  have b22 : L2.Binds K g22 ["read"] [] := F22.bindsN fun _ _ _ _ _ _ us hl => match us, hl with | [_], _ => rfl
  obtain ⟨g23, F23⟩ := S.d.def_ 23 (d := defAt 40) rfl
  have F23 : FunD K "endless_fault" "endless_fault" (defArgs sEf) (defBody sEf) (defScope sEf) [] [] (ga K "endless_fault") g23 := F23
  have b23 : L2.Binds K g23 ["text"] [] := F23.bindsN fun _ _ _ _ _ _ us hl => match us, hl with | [_], _ => rfl
  obtain ⟨g24, F24⟩ := S.d.def_ 24 (d := defAt 42) rfl
  have F24 : FunD K "_law_ends" "_law_ends" (defArgs sEn) (defBody sEn) (defScope sEn) [] [] (ga K "_law_ends") g24 := F24
  have b24 : L2.Binds K g24 ["stream", "many"] [] := F24.bindsN fun _ _ _ _ _ _ us hl => match us, hl with | [_, _], _ => rfl
  obtain ⟨g25, F25⟩ := S.d.def_ 25 (d := defAt 43) rfl
  have F25 : FunD K "_law_start" "_law_start" (defArgs sSt) (defBody sSt) (defScope sSt) [] [] (ga K "_law_start") g25 := F25
  have b25 : L2.Binds K g25 ["script"] [] := F25.bindsN fun _ _ _ _ _ _ us hl => match us, hl with | [_], _ => rfl
  obtain ⟨g26, F26⟩ := S.d.def_ 26 (d := defAt 44) rfl
  have F26 : FunD K "_law_draw" "_law_draw" (defArgs sDr) (defBody sDr) (defScope sDr) [] [] (ga K "_law_draw") g26 := F26
  have b26 : L2.Binds K g26 ["stream", "many"] [] := F26.bindsN fun _ _ _ _ _ _ us hl => match us, hl with | [_, _], _ => rfl
  obtain ⟨g27, F27⟩ := S.d.def_ 27 (d := defAt 45) rfl
  have F27 : FunD K "_law_pick" "_law_pick" (defArgs sPk) (defBody sPk) (defScope sPk) [] [] (ga K "_law_pick") g27 := F27
  have b27 : L2.Binds K g27 ["stream", "some"] [] := F27.bindsN fun _ _ _ _ _ _ us hl => match us, hl with | [_, _], _ => rfl
  obtain ⟨g28, F28⟩ := S.d.def_ 28 (d := defAt 46) rfl
  have F28 : FunD K "_law_mixed" "_law_mixed" (defArgs sMx) (defBody sMx) (defScope sMx) [] [] (ga K "_law_mixed") g28 := F28
  have b28 : L2.Binds K g28 ["stream", "some"] [] := F28.bindsN fun _ _ _ _ _ _ us hl => match us, hl with | [_, _], _ => rfl
  obtain ⟨g29, F29⟩ := S.d.def_ 29 (d := defAt 47) rfl
  have F29 : FunD K "_law_same" "_law_same" (defArgs sSm) (defBody sSm) (defScope sSm) [] [] (ga K "_law_same") g29 := F29
  have b29 : L2.Binds K g29 ["found", "due"] [] := F29.bindsN fun _ _ _ _ _ _ us hl => match us, hl with | [_, _], _ => rfl
  obtain ⟨g30, F30⟩ := S.d.def_ 30 (d := defAt 48) rfl
  have F30 : FunD K "_law_loose" "_law_loose" (defArgs sLo) (defBody sLo) (defScope sLo) [] [] (ga K "_law_loose") g30 := F30
  have b30 : L2.Binds K g30 ["stream", "thing"] [] := F30.bindsN fun _ _ _ _ _ _ us hl => match us, hl with | [_, _], _ => rfl
  obtain ⟨g31, F31⟩ := S.d.def_ 31 (d := defAt 49) rfl
  have F31 : FunD K "_law_spoilt" "_law_spoilt" (defArgs sSp) (defBody sSp) (defScope sSp) [] [] (ga K "_law_spoilt") g31 := F31
  have b31 : L2.Binds K g31 ["thing"] [] := F31.bindsN fun _ _ _ _ _ _ us hl => match us, hl with | [_], _ => rfl
  obtain ⟨g32, F32⟩ := S.d.def_ 32 (d := defAt 50) rfl
  have F32 : FunD K "_law_is_once" "_law_is_once" (defArgs sIn1) (defBody sIn1) (defScope sIn1) [] [] (ga K "_law_is_once") g32 := F32
  have b32 : L2.Binds K g32 ["thing"] [] := F32.bindsN fun _ _ _ _ _ _ us hl => match us, hl with | [_], _ => rfl
  obtain ⟨g33, F33⟩ := S.d.def_ 33 (d := defAt 51) rfl
  have F33 : FunD K "_law_apart" "_law_apart" (defArgs sAp) (defBody sAp) (defScope sAp) [] [] (ga K "_law_apart") g33 := F33
  have b33 : L2.Binds K g33 ["thing"] [] := F33.bindsN fun _ _ _ _ _ _ us hl => match us, hl with | [_], _ => rfl
  obtain ⟨g34, F34⟩ := S.d.def_ 34 (d := defAt 52) rfl
  have F34 : FunD K "_law_is_figures" "_law_is_figures" (defArgs sIg) (defBody sIg) (defScope sIg) [] [] (ga K "_law_is_figures") g34 := F34
  have b34 : L2.Binds K g34 ["thing"] [] := F34.bindsN fun _ _ _ _ _ _ us hl => match us, hl with | [_], _ => rfl
  obtain ⟨g35, F35⟩ := S.d.def_ 35 (d := defAt 53) rfl
  have F35 : FunD K "_law_is_endless_one" "_law_is_endless_one" (defArgs sIo) (defBody sIo) (defScope sIo) [] [] (ga K "_law_is_endless_one") g35 := F35
  have b35 : L2.Binds K g35 ["thing"] [] := F35.bindsN fun _ _ _ _ _ _ us hl => match us, hl with | [_], _ => rfl
  obtain ⟨g36, F36⟩ := S.d.def_ 36 (d := defAt 54) rfl
  have F36 : FunD K "_law_figure" "_law_figure" (defArgs sFg) (defBody sFg) (defScope sFg) [] [] (ga K "_law_figure") g36 := F36
  have b36 : L2.Binds K g36 ["endless", "at"] [] := F36.bindsN fun _ _ _ _ _ _ us hl => match us, hl with | [_, _], _ => rfl
  obtain ⟨g37, F37⟩ := S.d.def_ 37 (d := defAt 55) rfl
  have F37 : FunD K "_law_shortest" "_law_shortest" (defArgs sSh) (defBody sSh) (defScope sSh) [] [] (ga K "_law_shortest") g37 := F37
  have b37 : L2.Binds K g37 ["endless"] [] := F37.bindsN fun _ _ _ _ _ _ us hl => match us, hl with | [_], _ => rfl
  obtain ⟨g38, F38⟩ := S.d.def_ 38 (d := defAt 56) rfl
  have F38 : FunD K "_law_drawn_endless" "_law_drawn_endless" (defArgs sDe) (defBody sDe) (defScope sDe) [] [] (ga K "_law_drawn_endless") g38 := F38
  have b38 : L2.Binds K g38 ["stream"] [] := F38.bindsN fun _ _ _ _ _ _ us hl => match us, hl with | [_], _ => rfl
  obtain ⟨g39, F39⟩ := S.d.def_ 39 (d := defAt 57) rfl
  have F39 : FunD K "_law_endless_text" "_law_endless_text" (defArgs sLe2) (defBody sLe2) (defScope sLe2) [] [] (ga K "_law_endless_text") g39 := F39
  have b39 : L2.Binds K g39 ["endless"] [] := F39.bindsN fun _ _ _ _ _ _ us hl => match us, hl with | [_], _ => rfl
  obtain ⟨g40, F40⟩ := S.d.def_ 40 (d := defAt 58) rfl
  have F40 : FunD K "_law_endless_fault" "_law_endless_fault" (defArgs sLf) (defBody sLf) (defScope sLf) [] [] (ga K "_law_endless_fault") g40 := F40
  have b40 : L2.Binds K g40 ["text"] [] := F40.bindsN fun _ _ _ _ _ _ us hl => match us, hl with | [_], _ => rfl
  obtain ⟨g41, F41⟩ := S.d.def_ 41 (d := defAt 59) rfl
  have F41 : FunD K "_law_asked" "_law_asked" (defArgs sAk) (defBody sAk) (defScope sAk) [] [] (ga K "_law_asked") g41 := F41
  have b41 : L2.Binds K g41 ["ask"] [] := F41.bindsN fun _ _ _ _ _ _ us hl => match us, hl with | [_], _ => rfl
  obtain ⟨g42, F42⟩ := S.d.def_ 42 (d := defAt 60) rfl
  have F42 : FunD K "_law_odd_rows" "_law_odd_rows" (defArgs sOr) (defBody sOr) (defScope sOr) [] [] (ga K "_law_odd_rows") g42 := F42
  have b42 : L2.Binds K g42 [] [] := F42.bindsN fun _ _ _ _ _ _ us hl => match us, hl with | [], _ => rfl
  obtain ⟨g43, F43⟩ := S.d.def_ 43 (d := defAt 61) rfl
  have F43 : FunD K "_law_bent_text" "_law_bent_text" (defArgs sBe) (defBody sBe) (defScope sBe) [] [] (ga K "_law_bent_text") g43 := F43
  have b43 : L2.Binds K g43 ["stream", "text"] [] := F43.bindsN fun _ _ _ _ _ _ us hl => match us, hl with | [_, _], _ => rfl
  obtain ⟨g44, F44⟩ := S.d.def_ 44 (d := defAt 62) rfl
  have F44 : FunD K "_law_texts_right" "_law_texts_right" (defArgs sTr) (defBody sTr) (defScope sTr) [] [] (ga K "_law_texts_right") g44 := F44
  have b44 : L2.Binds K g44 ["stream", "endless"] [] := F44.bindsN fun _ _ _ _ _ _ us hl => match us, hl with | [_, _], _ => rfl
  obtain ⟨g45, F45⟩ := S.d.def_ 45 (d := defAt 63) rfl
  have F45 : FunD K "_law_is_told" "_law_is_told" (defArgs sTo) (defBody sTo) (defScope sTo) [] [] (ga K "_law_is_told") g45 := F45
  have b45 : L2.Binds K g45 ["handed", "at", "due"] [] := F45.bindsN fun _ _ _ _ _ _ us hl => match us, hl with | [_, _, _], _ => rfl
  obtain ⟨g46, F46⟩ := S.d.def_ 46 (d := defAt 64) rfl
  have F46 : FunD K "_law_boxes_right" "_law_boxes_right" (defArgs sBr) (defBody sBr) (defScope sBr) [] [] (ga K "_law_boxes_right") g46 := F46
  have b46 : L2.Binds K g46 ["stream"] [] := F46.bindsN fun _ _ _ _ _ _ us hl => match us, hl with | [_], _ => rfl
  obtain ⟨g47, F47⟩ := S.d.def_ 47 (d := defAt 65) rfl
  have F47 : FunD K "_law_refused_right" "_law_refused_right" (defArgs sRr) (defBody sRr) (defScope sRr) [] [] (ga K "_law_refused_right") g47 := F47
  have b47 : L2.Binds K g47 [] [] := F47.bindsN fun _ _ _ _ _ _ us hl => match us, hl with | [], _ => rfl
  have hil : Has pgm w K mg base "is_list" 1 ["thing"] (spLook isL) := ⟨_, g0, gm 0 rfl, F0.kp, b0, ok_il F0 q_isinstance q_list q_tuple⟩
  have hin : Has pgm w K mg base "is_number" 1 ["thing"] (spLook isN) := ⟨_, g2, gm 2 rfl, F2.kp, b2, ok_in F2 q_isinstance q_int q_bool⟩
  have hip : Has pgm w K mg base "is_pair" 2 ["thing"] (spLook isP) := ⟨_, g1, gm 1 rfl, F1.kp, b1, ok_ip F1 hil q_len⟩
  have hbn : Has pgm w K mg base "begins_name" 1 ["word"] (spBn) := ⟨_, g3, gm 3 rfl, F3.kp, b3, ok_bn F3 N⟩
  have hnm : Has pgm w K mg base "is_name" 2 ["thing"] (spNm) := ⟨_, g4, gm 4 rfl, F4.kp, b4, ok_nm F4 N hbn⟩
  have hfn : Has pgm w K mg base "first_no_end" 3 ["ends"] (spFn) := ⟨_, g5, gm 5 rfl, F5.kp, b5, ok_fn F5 N hil hnm⟩
  have hck : Has pgm w K mg base "check_ends" 4 ["ends"] (spCk) := ⟨_, g6, gm 6 rfl, F6.kp, b6, ok_ck F6 hfn⟩
  have xck : HasX pgm w K mg base "check_ends" 4 ["ends"] (spCkX K) := ⟨_, g6, gm 6 rfl, F6.kp, b6, okx_ck F6 hfn e_BadEnds⟩
  have hif : Has pgm w K mg base "is_figure" 2 ["thing"] (spLook isF) := ⟨_, g7, gm 7 rfl, F7.kp, b7, ok_if F7 hin⟩
  have hir : Has pgm w K mg base "is_row" 3 ["thing"] (spRow) := ⟨_, g8, gm 8 rfl, F8.kp, b8, ok_ir F8 hil hif q_all⟩
  have kir : HasK1 pgm w K mg base "is_row" 3 "thing" (spRow) := ⟨_, g8, gm 8 rfl, F8.kp, kb_one F8 (fun _ _ _ _ _ _ _ => rfl), ok_ir F8 hil hif q_all⟩
  have hie : Has pgm w K mg base "is_endless" 4 ["thing"] (spLookB isE) := ⟨_, g9, gm 9 rfl, F9.kp, b9, ok_ie F9 hip hir q_len⟩
  have kie : HasK1 pgm w K mg base "is_endless" 4 "thing" (spLookB isE) := ⟨_, g9, gm 9 rfl, F9.kp, kb_one F9 (fun _ _ _ _ _ _ _ => rfl), ok_ie F9 hip hir q_len⟩
  have hce : Has pgm w K mg base "check_endless" 5 ["endless"] (spRight isE) := ⟨_, g10, gm 10 rfl, F10.kp, b10, ok_ce F10 hie⟩
  have xce : HasX pgm w K mg base "check_endless" 5 ["endless"] (spOdd isE (ga K "BadEndless")) := ⟨_, g10, gm 10 rfl, F10.kp, b10, okx_ce F10 hie e_BadEndless⟩
  have hsr : Has pgm w K mg base "shortest_round" 1 ["figures"] (spShort) := ⟨_, g11, gm 11 rfl, F11.kp, b11, ok_sr F11 q_len q_range⟩
  have hle : Has pgm w K mg base "least_endless" 6 ["endless"] (spLeast K) := ⟨_, g12, gm 12 rfl, F12.kp, b12, ok_le F12 hce hsr q_len q_list⟩
  have kle : HasK1 pgm w K mg base "least_endless" 6 "endless" (spLeast K) := ⟨_, g12, gm 12 rfl, F12.kp, kb_one F12 (fun _ _ _ _ _ _ _ => rfl), ok_le F12 hce hsr q_len q_list⟩
  have xle : HasX pgm w K mg base "least_endless" 6 ["endless"] (spOdd isE (ga K "BadEndless")) := ⟨_, g12, gm 12 rfl, F12.kp, b12, okx_le F12 xce⟩
  have hft : Has pgm w K mg base "figure_there" 1 ["endless", "index"] (spFig) := ⟨_, g13, gm 13 rfl, F13.kp, b13, ok_ft F13 q_len⟩
  have hfa : Has pgm w K mg base "figure_at" 6 ["endless", "index"] (spFa) := ⟨_, g14, gm 14 rfl, F14.kp, b14, ok_fa F14 hce hin hft⟩
  have kfa : HasK pgm w K mg base "figure_at" 6 "endless" "index" (spFa) := ⟨_, g14, gm 14 rfl, F14.kp, kb_rev F14 (fun _ _ _ _ _ _ _ _ => rfl), ok_fa F14 hce hin hft⟩
  have xfa : HasX pgm w K mg base "figure_at" 6 ["endless", "index"] (spFaX K) := ⟨_, g14, gm 14 rfl, F14.kp, b14, okx_fa F14 hce xce hin e_BadIndex⟩
  have hba : Has pgm w K mg base "is_box_at" 4 ["ends", "thing"] (spBa) := ⟨_, g15, gm 15 rfl, F15.kp, b15, ok_ba F15 N hil hir⟩
  have hbx : Has pgm w K mg base "is_box" 5 ["ends", "thing"] (spBx) := ⟨_, g16, gm 16 rfl, F16.kp, b16, ok_bx F16 hck hba⟩
  have kbx : HasK pgm w K mg base "is_box" 5 "ends" "thing" (spBx) := ⟨_, g16, gm 16 rfl, F16.kp, kb_rev F16 (fun _ _ _ _ _ _ _ _ => rfl), ok_bx F16 hck hba⟩
  have xbx : HasX pgm w K mg base "is_box" 5 ["ends", "thing"] (spBxX K) := ⟨_, g16, gm 16 rfl, F16.kp, b16, okx_bx F16 xck⟩
  have hso : Has pgm w K mg base "signs_of" 1 ["row"] (spSo) := ⟨_, g17, gm 17 rfl, F17.kp, b17, ok_so F17 q_str⟩
  have hfo : Has pgm w K mg base "figures_of" 1 ["signs"] (spFo) := ⟨_, g18, gm 18 rfl, F18.kp, b18, ok_fo F18 q_int⟩
  have hcf : Has pgm w K mg base "check_fault" 1 ["fault"] (spCf) := ⟨_, g19, gm 19 rfl, F19.kp, b19, ok_cf F19⟩
  have xcf : HasX pgm w K mg base "check_fault" 2 ["fault"] (spCfX K) := ⟨_, g19, gm 19 rfl, F19.kp, b19, okx_cf F19 e_BadText⟩
  have het : Has pgm w K mg base "endless_text" 6 ["endless"] (spEt) := ⟨_, g20, gm 20 rfl, F20.kp, b20, ok_et F20 hce hso⟩
  have ket : HasK1 pgm w K mg base "endless_text" 6 "endless" (spEt) := ⟨_, g20, gm 20 rfl, F20.kp, kb_one F20 (fun _ _ _ _ _ _ _ => rfl), ok_et F20 hce hso⟩
  have xet : HasX pgm w K mg base "endless_text" 6 ["endless"] (spOdd isE (ga K "BadEndless")) := ⟨_, g20, gm 20 rfl, F20.kp, b20, okx_et F20 xce⟩
  have D : StK pgm w K mg := { h := ⟨_, S.mgC X G (x := "BEHIND_HEAD") (con_mem (by simp [conNames])), S.dic 0 rfl (by decide) (by decide)⟩, b := ⟨_, S.mgC X G (x := "BEHIND_BRACKET") (con_mem (by simp [conNames])), S.dic 1 rfl (by decide) (by decide)⟩, r := ⟨_, S.mgC X G (x := "BEHIND_ROUND") (con_mem (by simp [conNames])), S.dic 2 rfl (by decide) (by decide)⟩, di := q_dict }
  have hsn : Has pgm w K mg base "signs_next" 1 ["read"] (spSn) := ⟨_, g22, gm 22 rfl, F22.kp, b22, ok_sn F22 D⟩
  have hef : Has pgm w K mg base "endless_fault" 2 ["text"] (spEf) := ⟨_, g23, gm 23 rfl, F23.kp, b23, ok_ef F23 hsn q_isinstance q_str q_len q_enumerate⟩
  have kef : HasK1 pgm w K mg base "endless_fault" 2 "text" (spEf) := ⟨_, g23, gm 23 rfl, F23.kp, kb_one F23 (fun _ _ _ _ _ _ _ => rfl), ok_ef F23 hsn q_isinstance q_str q_len q_enumerate⟩
  have hre : Has pgm w K mg base "read_endless" 3 ["text"] (spRe) := ⟨_, g21, gm 21 rfl, F21.kp, b21, ok_re F21 hcf hef hfo⟩
  have kre : HasK1 pgm w K mg base "read_endless" 3 "text" (spRe) := ⟨_, g21, gm 21 rfl, F21.kp, kb_one F21 (fun _ _ _ _ _ _ _ => rfl), ok_re F21 hcf hef hfo⟩
  have xre : HasX pgm w K mg base "read_endless" 3 ["text"] (spReX K) := ⟨_, g21, gm 21 rfl, F21.kp, b21, okx_re F21 xcf hef⟩
  have hst : Has pgm w K mg base "_law_start" 1 ["script"] (spStart K) := ⟨_, g25, gm 25 rfl, F25.kp, b25, ok_st F25 q_list⟩
  have hdr : Has pgm w K mg base "_law_draw" 1 ["stream", "many"] (spDrW) := ⟨_, g26, gm 26 rfl, F26.kp, b26, ok_drw F26 q_int⟩
  have hpk : Has pgm w K mg base "_law_pick" 2 ["stream", "some"] (spPk) := ⟨_, g27, gm 27 rfl, F27.kp, b27, ok_pk F27 hdr q_len⟩
  have hmx : Has pgm w K mg base "_law_mixed" 2 ["stream", "some"] (spMxW) := ⟨_, g28, gm 28 rfl, F28.kp, b28, ok_mxw F28 hdr q_list q_len q_range⟩
  have hen : Has pgm w K mg base "_law_ends" 3 ["stream", "many"] (spEn) := ⟨_, g24, gm 24 rfl, F24.kp, b24, ok_en F24 hmx⟩
  have hsm4 : Has pgm w K mg base "_law_same" 4 ["found", "due"] (spSm 3) := ⟨_, g29, gm 29 rfl, F29.kp, b29, ok_sm F29 (gm 29 rfl) F29.kp b29 ⟨q_isinstance, q_list, q_tuple, q_dict, q_int, q_bool, q_len, q_all, q_zip⟩ 3⟩
  have hsm7 : Has pgm w K mg base "_law_same" 7 ["found", "due"] (spSm 6) := ⟨_, g29, gm 29 rfl, F29.kp, b29, ok_sm F29 (gm 29 rfl) F29.kp b29 ⟨q_isinstance, q_list, q_tuple, q_dict, q_int, q_bool, q_len, q_all, q_zip⟩ 6⟩
  have hlo : Has pgm w K mg base "_law_loose" 4 ["stream", "thing"] (K14.spLo 2) := ⟨_, g30, gm 30 rfl, F30.kp, b30, ok_lo F30 hdr (gm 30 rfl) F30.kp b30 q_isinstance q_list q_tuple q_dict 2⟩
  have hsp : Has pgm w K mg base "_law_spoilt" 4 ["thing"] (spSp 3) := ⟨_, g31, gm 31 rfl, F31.kp, b31, ok_sp F31 (gm 31 rfl) F31.kp b31 ⟨q_isinstance, q_list, q_tuple, q_dict, q_int, q_bool, q_len, q_all, q_zip⟩ 3⟩
  have hon : Has pgm w K mg base "_law_is_once" 4 ["thing"] (spOn 3) := ⟨_, g32, gm 32 rfl, F32.kp, b32, ok_on F32 (gm 32 rfl) F32.kp b32 ⟨q_isinstance, q_list, q_tuple, q_dict, q_int, q_bool, q_len, q_all, q_zip⟩ 3⟩
  have hap : Has pgm w K mg base "_law_apart" 5 ["thing"] (spAp 3) := ⟨_, g33, gm 33 rfl, F33.kp, b33, ok_ap F33 hsp hon⟩
  have hig : Has pgm w K mg base "_law_is_figures" 1 ["thing"] (spIg) := ⟨_, g34, gm 34 rfl, F34.kp, b34, ok_ig F34 q_isinstance q_list q_tuple q_int q_bool q_all⟩
  have hio : Has pgm w K mg base "_law_is_endless_one" 2 ["thing"] (spIo) := ⟨_, g35, gm 35 rfl, F35.kp, b35, ok_io F35 hig q_isinstance q_list q_tuple q_len⟩
  have hfg : Has pgm w K mg base "_law_figure" 1 ["endless", "at"] (spFig) := ⟨_, g36, gm 36 rfl, F36.kp, b36, ok_fg F36 q_len q_int⟩
  have hsh : Has pgm w K mg base "_law_shortest" 2 ["endless"] (spSh) := ⟨_, g37, gm 37 rfl, F37.kp, b37, ok_sh F37 hfg q_len q_range q_all⟩
  have hde : Has pgm w K mg base "_law_drawn_endless" 2 ["stream"] (spDe) := ⟨_, g38, gm 38 rfl, F38.kp, b38, ok_de F38 hdr q_range q_len⟩
  have hlt : Has pgm w K mg base "_law_endless_text" 1 ["endless"] (spEt) := ⟨_, g39, gm 39 rfl, F39.kp, b39, ok_le2 F39 q_str⟩
  have hlf : Has pgm w K mg base "_law_endless_fault" 1 ["text"] (spLf) := ⟨_, g40, gm 40 rfl, F40.kp, b40, ok_lf F40 q_len q_enumerate⟩
  have hor : ∃ f fd, mg "_law_odd_rows" = some (.ref f) ∧ keepIn K (.ref f) = true ∧ L2.Binds K fd [] [] ∧ FnOk pgm w K mg base CX0 1 f fd [] (spOr) := ⟨_, g42, gm 42 rfl, F42.kp, b42, ok_or F42⟩
  have hbe : Has pgm w K mg base "_law_bent_text" 3 ["stream", "text"] (spBe) := ⟨_, g43, gm 43 rfl, F43.kp, b43, ok_be F43 hdr hpk q_len q_int⟩
  have R : AkK pgm K mg := ⟨fun p hp => ak_er e_BadEndless e_BadIndex e_BadEnds e_BadText p hp, fun p hp q hq => S.ex (ask_ones hp) (ask_ones hq)⟩
  have t_htr : TabB base mg (codeOf K ("_law_texts_right", none)) ((cT K ("_law_texts_right", none)).2) := TB (cT K ("_law_texts_right", none)) (List.mem_map.mpr ⟨("_law_texts_right", none), by decide, rfl⟩)
  have htr : Has pgm w K mg base "_law_texts_right" 6 ["stream", "endless"] (spTr (TT K)) := by
    refine ⟨_, g44, gm 44 rfl, F44.kp, b44, ?_⟩
    obtain ⟨oc, od, kV, doc, pm, an, c, ct, osl, rfl, lk, hcd⟩ := fun_code F44
    have ec : codeOf K ("_law_texts_right", none) = c := He.codeOf_eq (p := ("_law_texts_right", none)) lk rfl
    rw [ec] at t_htr
    have mT : ((cT K ("_law_texts_right", none)).2, qTr) ∈ TT K := by simp [TT]
    refine ok_tr lk hcd t_htr mT (fun p hp e => ?_) F41 (gm 41 rfl) F41.kp b41 R { lt := hlt, re := hre, rek := kre, rex := xre, be := hbe, lf := hlf, ef := hef, efk := kef, sm := hsm4 } q_range
    exact congrArg (·.2) (tt_one S p hp _ mT e)
  have hto : Has pgm w K mg base "_law_is_told" 7 ["handed", "at", "due"] (spTo) := ⟨_, g45, gm 45 rfl, F45.kp, b45, ok_to F45 { le := hle, lek := kle, fa := hfa, fak := kfa, et := het, etk := ket, ie := hie, iek := kie, ir := hir, irk := kir, sm := hsm4, ap := hap }⟩
  have t_hbr : TabB base mg (codeOf K ("_law_boxes_right", none)) ((cT K ("_law_boxes_right", none)).2) := TB (cT K ("_law_boxes_right", none)) (List.mem_map.mpr ⟨("_law_boxes_right", none), by decide, rfl⟩)
  have hbr : Has pgm w K mg base "_law_boxes_right" 8 ["stream"] (spBr (TT K)) := by
    refine ⟨_, g46, gm 46 rfl, F46.kp, b46, ?_⟩
    obtain ⟨oc, od, kV, doc, pm, an, c, ct, osl, rfl, lk, hcd⟩ := fun_code F46
    have ec : codeOf K ("_law_boxes_right", none) = c := He.codeOf_eq (p := ("_law_boxes_right", none)) lk rfl
    rw [ec] at t_hbr
    have mT : ((cT K ("_law_boxes_right", none)).2, qBr) ∈ TT K := by simp [TT]
    refine ok_br lk hcd t_hbr mT (fun p hp e => ?_) F41 (gm 41 rfl) F41.kp b41 R { en := hen, dr := hdr, pk := hpk, ig := hig, bx := hbx, bxk := kbx, bxx := xbx, sm := hsm4 } q_range ⟨q_isinstance, q_list, q_tuple, q_dict, q_int, q_bool, q_len, q_all, q_zip⟩ q_str
    exact congrArg (·.2) (tt_one S p hp _ mT e)
  have t_hrr : TabB base mg (codeOf K ("_law_refused_right", none)) ((cT K ("_law_refused_right", none)).2) := TB (cT K ("_law_refused_right", none)) (List.mem_map.mpr ⟨("_law_refused_right", none), by decide, rfl⟩)
  have hrr : ∃ f fd, mg "_law_refused_right" = some (.ref f) ∧ keepIn K (.ref f) = true ∧ L2.Binds K fd [] [] ∧ FnOk pgm w K mg base CX0 9 f fd [] (spRr (TT K)) := by
    refine ⟨_, g47, gm 47 rfl, F47.kp, b47, ?_⟩
    obtain ⟨oc, od, kV, doc, pm, an, c, ct, osl, rfl, lk, hcd⟩ := fun_code F47
    have ec : codeOf K ("_law_refused_right", none) = c := He.codeOf_eq (p := ("_law_refused_right", none)) lk rfl
    rw [ec] at t_hrr
    have mT : ((cT K ("_law_refused_right", none)).2, qRr) ∈ TT K := by simp [TT]
    refine ok_rr lk hcd t_hrr mT (fun p hp e => ?_) F41 (gm 41 rfl) F41.kp b41 R { od := hor, io := hio, ig := hig, ir := hir, ie := hie, le := hle, lex := xle, fa := hfa, fax := xfa, et := het, etx := xet, ef := hef, rex := xre, sm := hsm7 }
    exact congrArg (·.2) (tt_one S p hp _ mT e)
  exact { st := hst, de := hde, lo := hlo, pk := hpk, dr := hdr, sh := hsh, fg := hfg, lt := hlt, to := hto, tr := htr, br := hbr, rf := hrr, nr := q_range, np := q_repr, sy := S.sysK }
end K14.T3
namespace K14.T3
open PySem PySem.W PySem.Calls PyProof.Rows
theorem runF (w : World) : HandSHeadRun.RunEq RZ (view RZ.prog [66]) hookZ obZ 20000 nms (w.withFollow "special-get-raises" false) := by
  intro os
  kernel_rfl
theorem runT (w : World) : HandSHeadRun.RunEq RZ (view RZ.prog [66]) hookZ obZ 20000 nms (w.withFollow "special-get-raises" true) := by
  intro os
  kernel_rfl
theorem runZ (w : World) : HandSHeadRun.RunEq RZ (view RZ.prog [66]) hookZ obZ 20000 nms w := byRow2 "special-get-raises" (P := fun w => HandSHeadRun.RunEq RZ (view RZ.prog [66]) hookZ obZ 20000 nms w) runF runT w
end K14.T3
namespace K14.T3
open T27
open K14.Gn
open PySem PySem.W PySem.Calls PyProof.Rows L2 LamX
open He (ga ma eqO eqO_ok ba cT codeOf tabOf)
theorem tabs_new {K : Frag} {H : Hp} (h : ∀ p ∈ tfs.map (cT K), H p.2 = some (.tbl #[])) : Tabs (TT K) H := fun p hp => by
  have m : p.1 ∈ (tfs.map (cT K)).map (·.2) := by
    have e : (TT K).map (·.1) = (tfs.map (cT K)).map (·.2) := rfl
    rw [← e]
    exact List.mem_map.mpr ⟨p, hp, rfl⟩
  obtain ⟨r, hr, e⟩ := List.mem_map.mp m
  exact ⟨#[], by rw [← e]; exact h r hr, by first | exact trivial | simp [TriplesOk], fun pos cv z => by simp [codeAmong] at z⟩
theorem nm_law : (HandSHeadRun.topDef RZ.prog 66).name = ("law" : PySem.Str) := by kernel_rfl
theorem walk : WalkO (view RZ.prog [66]) nms (XL (view RZ.prog [66]) []) hookZ.says (PySem.Challenge.rw_twinforks_k03_whole_rows_and_boxes.row).toRowW (HandSHeadRun.topDef RZ.prog 66) [] (fun f vs => PySem.call f vs) := by
  refine Kz.walk_G (l := PySem.Challenge.rw_twinforks_k03_whole_rows_and_boxes) (n := 63) (k := 10) (x := "script") (CX := fun _ => CX0) rfl (by decide) (by kernel_rfl) ⟨rfl, by decide, by decide⟩ ?_ (fun _ _ _ _ _ z => z)
  intro w mg fa h Y G hmg0
  obtain ⟨K, Z⟩ := Y
  have S := sy_of Z
  have KX := Z.i
  have hmg : mg ("law" : PySem.Str) = some (.ref fa) := by
    rw [← nm_law]
    exact hmg0
  obtain rfl : ga K "law" = fa := by
    have e := (S.mgC KX G (def_mem (x := "law") (List.mem_of_getElem? (i := 48) rfl))).symm.trans hmg
    injection e with e
    injection e
  obtain ⟨g, F⟩ := S.d.def_ 48 (d := defAt 66) rfl
  have F : FunD K "law" "law" (defArgs sLw) (defBody sLw) (defScope sLw) [] [] (ga K "law") g := F
  have bL := FunD.bindsA (ps := ["script"]) F fun _ _ _ _ _ _ us hl => match us, hl with | [_], _ => rfl
  refine ⟨K, g, tfs.map (cT K), spLw K (TT K), KX, fun p hp => ?_, fun p hp => ?_, fun p hp => ?_, fun s v => bL s [v] rfl, fun H a ns hl hT hS => ⟨a, ns, rfl, hS, Nat.le_trans hl (by decide), tabs_new hT, fun _ => rfl⟩, fun base X0 G0 TB => ok_lw F (lk_of S X0 G0 TB)⟩
  · obtain ⟨q, hq, rfl⟩ := List.mem_map.mp hp
    exact Z.t3 q hq
  · obtain ⟨q, hq, rfl⟩ := List.mem_map.mp hp
    exact Z.t2 q hq
  · obtain ⟨q, hq, rfl⟩ := List.mem_map.mp hp
    exact codeHd_of_K KX (Z.t1 q hq)
end K14.T3
open PySem PySem.W PySem.Calls PyProof.Rows
theorem PySem.Challenge.cw_twinforks_k03_whole_rows_and_boxes_holds : PySem.Challenge.rw_twinforks_k03_whole_rows_and_boxes.Holds := by
  w_on; o_law
  refine HandSHeadRun.head_any (r := OpenLaw.row PySem.Challenge.rw_twinforks_k03_whole_rows_and_boxes) (q := view K14.T3.RZ.prog [66]) (H := K14.T3.hookZ) (ob := K14.T3.obZ) (M := 20000) (loose := K14.T3.nms) (d := HandSHeadRun.topDef K14.T3.RZ.prog 66) (kwd := []) K14.T3.obZ_eq
    (by kernel_rfl) (fun s => by kernel_rfl) K14.T3.runZ (by kernel_rfl) (by kernel_rfl) (by kernel_rfl) (by rfl) (by first | assumption | decide +kernel) (by decide +kernel) ⟨rfl, rfl, rfl, rfl, rfl, by decide +kernel⟩ ?hw ?hc
  case hw => w_witness2
  case hc => exact K14.T3.walk
