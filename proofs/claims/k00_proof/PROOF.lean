import PyProof.Rows.All
import Wide.All
import OpenK.AllK
import Wide.FinOn
import HandS.ExcInit
import HandS.ExcField
import HandS.List
import HandS.IsInst
import HandS.Words
import KE.KExcSuper
import HandS.ExcSuper
import HandS.Defaults
import HandS.Lambda
import KE.KExcIs
import HandS.CallLocal
import HandS.Dict
import PyProof.Rows.ReprR
import HandS.HeadHook4
import PySem.Challenge.RW_twinforks_k00_errors_made
import HandS.ForMost
import HandS.EndTab
import HandS.ExcValue
import HandS.NoneIn
import HandS.TryOnly
import HandS.Iter
import HandS.Walk
import HandS.HeadWalk
import HandS.HeadEnd
import HandS.Head2
import KE.KStateDown
set_option Elab.async false
set_option linter.all false
set_option maxRecDepth 100000
set_option maxHeartbeats 0
namespace Kz
open PySem PySem.W PySem.Calls PyProof.Rows L2 LamX
open He (ga)
def topS (i : Nat) : Stmt := PySem.Challenge.pw_twinforks_k00_errors_made.main.body.getD i (.Pass ⟨0, 0, 0, 0⟩)
def ones0 : List (Str × Str) := [("BadBook", "index"), ("BadBox", "thing"), ("BadCells", "index"), ("BadChoice", "thing"), ("BadCourse", "index"), ("BadDeed", "deed"), ("BadEnd", "thing"), ("BadEndless", "thing"), ("BadEnds", "index"), ("BadFigures", "thing"), ("BadForm", "thing"), ("BadIndex", "thing"), ("BadItems", "index"), ("BadJoins", "index"), ("BadKind", "thing"), ("BadLot", "index")]
def ones1 : List (Str × Str) := [("BadMachine", "thing"), ("BadMany", "thing"), ("BadMost", "thing"), ("BadNames", "names"), ("BadNet", "thing"), ("BadOther", "thing"), ("BadPair", "thing"), ("BadParts", "index"), ("BadPlan", "thing"), ("BadProgram", "thing"), ("BadQuestion", "thing"), ("BadRules", "index"), ("BadSession", "thing"), ("BadShut", "index"), ("BadStates", "index"), ("BadStep", "step")]
def ones2 : List (Str × Str) := [("BadSurroundings", "thing"), ("BadTable", "index"), ("BadText", "index"), ("BadTies", "index"), ("BadWay", "thing"), ("BadWire", "name"), ("InUse", "question"), ("IsWatched", "question"), ("Meets", "end"), ("NoCount", "thing"), ("NotNow", "why"), ("NotOpen", "index"), ("NotStill", "pair"), ("NotWatched", "question"), ("NotWithout", "index")]
def ones : List (Str × Str) := ones0 ++ (ones1 ++ ones2)
def dssA (K : Frag) : List (List Addr) := [[ga K "BadBook", ga K "BadBox"], [ga K "BadCells", ga K "BadChoice"], [ga K "BadCourse", ga K "BadDeed"], [ga K "BadEnd", ga K "BadEndless"], [ga K "BadEnds", ga K "BadFigures"], [ga K "BadForm", ga K "BadIndex"], [ga K "BadItems", ga K "BadJoins"], [ga K "BadKind", ga K "BadLot"], [ga K "BadMachine", ga K "BadMany"]]
def dssB (K : Frag) : List (List Addr) := [[ga K "BadMost", ga K "BadNames"], [ga K "BadNet", ga K "BadOther"], [ga K "BadPair", ga K "BadParts"], [ga K "BadPlan", ga K "BadProgram"], [ga K "BadQuestion", ga K "BadRules"], [ga K "BadSession", ga K "BadShut"], [ga K "BadStates", ga K "BadStep"], [ga K "BadSurroundings", ga K "BadTable"], [ga K "BadText", ga K "BadTies"]]
def dssC (K : Frag) : List (List Addr) := [[ga K "BadWay", ga K "BadWire"], [ga K "InUse", ga K "IsWatched"], [ga K "Meets", ga K "NoCount"], [ga K "NotNow", ga K "NotOpen"], [ga K "NotStill", ga K "NotWatched"], [ga K "NotWithout", ga K "WouldChange"]]
def dsAll (K : Frag) : List Addr := ((dssA K).flatten ++ (dssB K).flatten) ++ (dssC K).flatten
end Kz
namespace Kz
open PySem PySem.W PySem.Calls PyProof.Rows L2 LamX
open He (ga ma eqO ba frT fAd cT codeOf tabOf emptyTab)
def pgm : Program := PySem.Challenge.pw_twinforks_k00_errors_made
def FEa (K : Frag) : Addr := ga K "ForkError"
def veT : List Value := [.type "ValueError", .type "Exception", .type "BaseException", .type "object"]
def shapeB (K : Frag) (FE C : Addr) : Bool := match K.lookup C with
  | some ⟨.type t, _, .cls cd, sl⟩ => decide (t = "type") && (decide (cd.mro = .ref C :: .ref FE :: veT) && (cd.hasDict && (!cd.hasDel && (match sl.toList with | [_, _, _, _, some (.builtin n), _] => decide (n = "ValueError.__new__") | _ => false))))
  | _ => false
def initB (K : Frag) (C : Addr) : Bool := match K.lookup (ma K C "__init__") with
  | some ⟨cl, _, .func fd, _⟩ => decide (cl = .type "function") && ((match fd.code with
    | .ref c => codeIn K (.ref c) fd.qualname && (match K.lookup c with
      | some ⟨_, _, .fields vs, _⟩ => (match (vs[2]? : Option Value) with | some (.str file _) => (pgm.main.file : Str) == file | _ => false)
      | _ => false)
    | _ => false) && (match fd.closure with
    | [(_, cc)] => (match K.lookup cc with | some ⟨_, _, .cell (some v), _⟩ => decide (v = .ref C) | _ => false)
    | _ => false))
  | _ => false
def xiB (K : Frag) (C : Addr) : Bool := xfB K C && ((clsIn K C).isSome && (eqO (findIn K (.ref C) "__class__") (some (some (.builtin "object.__class__"))) && decide (mroIn K C (.type "object") = some true)))
def clsB (K : Frag) (FE C : Addr) (fs : List Str) : Bool :=
  shapeB K FE C && (initB K C && (xiB K C && (eqO (findIn K (.ref C) "__setattr__") (some (some (.builtin "object.__setattr__"))) && (keepIn K (.ref C) && (eqO (findIn K (.ref C) "__init__") (some (some (.ref (ma K C "__init__")))) &&
    (decide (ks_superIn K C C "__init__" = some (some (.builtin "ValueError.__init__"))) && (decide (subIn K (.ref C) (.type "ValueError") = some true) && (decide (mroIn K C (.ref C) = some true) &&
    (decide (kitOne K (.ref C) (.ref FE) = some true) && (decide (kitOne K (.ref C) (.type "ValueError") = some true) && (decide (kitOne K (.ref C) (.type "LookupError") = some false) && fs.all fun f => eqO (findIn K (.ref C) f) (some none))))))))))))
def feB (K : Frag) (FE : Addr) : Bool := xiB K FE && (keepIn K (.ref FE) && (excIn K FE veT "ValueError.__new__" && (decide (kitOne K (.ref FE) (.type "ValueError") = some true) && (match K.lookup FE with
  | some ⟨_, _, .cls cd, _⟩ => decide (cd.mro = .ref FE :: veT)
  | _ => false))))
def oncB (K : Frag) : Bool := decide (nsIn K cStatics "thirdparty.any" = some none) && (decide (specialIn K (.builtin "object.__class__") "__get__" = some (some (.builtin "getset_descriptor.__get__"))) && decide (takesIn K (.builtin "object.__class__") = some true))
def exZ (K : Frag) : Bool := oncB K && (feB K (FEa K) && (decide ((FEa K :: dsAll K).Nodup) && ((ones.all fun p => clsB K (FEa K) (ga K p.1) [p.2]) && clsB K (FEa K) (ga K "WouldChange") ["question", "why"])))

/-! the texts of the classes' own -/
abbrev FnI : Type := Option (Str × Str × Arguments × FuncBody × Scope × Addr × Value × Addr × List Str)
def fnI (K : Frag) (C : Addr) : FnI := match K.lookup (ma K C "__init__") with
  | some ⟨_, _, .func fd, _⟩ => some (fd.name, fd.qualname, fd.params, fd.body, fd.scope, fd.globals, fd.defaults, fd.builtins, fd.closure.map (·.1))
  | _ => none
def initS : Stmt → Stmt
  | .ClassDef _ _ _ (i :: _) _ _ _ _ _ _ _ => i
  | s => s
/-- the class that the top's i-th statement makes -/
def clsName : Stmt → Str
  | .ClassDef n _ _ _ _ _ _ _ _ _ _ => n
  | _ => ""
def valI (st : Stmt) : FnI := some ("__init__", clsName st ++ ".__init__", defArgs (initS st), .stmts (defBody (initS st)), defScope (initS st), mainGlobals, .none, builtinsNs, ["__class__"])

/-! ### what the head looks at -/
def glG (g : Addr → Option Obj) (x : Str) : Addr := match g mainGlobals with
  | some ⟨_, _, .dict es _, _⟩ => (match es.toList.find? (·.key.isStr x) with | some e => (match e.val with | .ref a => a | _ => 0) | none => 0)
  | _ => 0
def fnG (g : Addr → Option Obj) (f : Addr) : List Addr := match g f with
  | some ⟨_, _, .func fd, _⟩ => (match fd.code with | .ref c => [c] | _ => []) ++ fd.closure.map (·.2)
  | _ => []
def moreG (g : Addr → Option Obj) (a : Addr) : List Addr := match g a with
  | some ⟨_, _, .cls cd, _⟩ => cd.ns :: (match g cd.ns with
    | some ⟨_, _, .dict es _, _⟩ => es.toList.flatMap fun e => match e.val with | .ref f => f :: fnG g f | _ => []
    | _ => [])
  | some ⟨_, _, .func _, _⟩ => fnG g a
  | _ => []
def clsNames : List Str := ones.map (·.1) ++ [("WouldChange" : Str)]
def defNames : List Str := ["_law_start", "_law_draw", "_law_mixed", "_law_made_a", "_law_made_b", "_law_made_c", "_law_kinds_a", "_law_kinds_b", "_law_kinds_c", "_law_kinds", "_law_is_own", "_law_are_these", "law"]
def allNames : List Str := ("ForkError" : Str) :: (clsNames ++ defNames)
def needs (g : Addr → Option Obj) : List Addr := mainGlobals :: cStatics :: allNames.flatMap fun x => glG g x :: moreG g (glG g x)
def defAt (i : Nat) : He.DefD := match topS i with
  | .FunctionDef n a b _ _ _ sc _ _ _ => ⟨(n, none), n, n, a, b, sc, [], []⟩
  | _ => ⟨("", none), "", "", ⟨[], [], none, [], [], none, []⟩, [], ⟨.function, [], false, false, []⟩, [], []⟩
def fns : List He.DefD := [defAt 51, defAt 52, defAt 53, defAt 54, defAt 55, defAt 56, defAt 57, defAt 58, defAt 59, defAt 60, defAt 61, defAt 62, defAt 63]
def fas : List He.Fa := allNames.map He.Fa.glo ++ [.free "super", .free "list", .free "int", .free "len", .free "range", .free "isinstance", .free "repr", .free "enumerate", .free "ValueError", .free "LookupError"]
def tfs : List He.Defn := [("_law_made_a", none), ("_law_made_b", none), ("_law_made_c", none)]
def stsI : List Stmt := (List.range 48).map fun i => topS (i + 2)
abbrev RZ : OpenRow := OpenLaw.row PySem.Challenge.rw_twinforks_k00_errors_made
def nms1 : List Str := ["ForkError", "BadBook", "BadBox", "BadCells", "BadChoice", "BadCourse", "BadDeed", "BadEnd", "BadEndless", "BadEnds", "BadFigures", "BadForm", "BadIndex", "BadItems", "BadJoins", "BadKind", "BadLot", "BadMachine", "BadMany", "BadMost", "BadNames", "BadNet", "BadOther", "BadPair", "BadParts", "BadPlan", "BadProgram", "BadQuestion", "BadRules", "BadSession", "BadShut"]
def nms2 : List Str := ["BadStates", "BadStep", "BadSurroundings", "BadTable", "BadText", "BadTies", "BadWay", "BadWire", "InUse", "IsWatched", "Meets", "NoCount", "NotNow", "NotOpen", "NotStill", "NotWatched", "NotWithout", "WouldChange", "_law_start", "_law_draw", "_law_mixed", "_law_made_a", "_law_made_b", "_law_made_c", "_law_kinds_a", "_law_kinds_b", "_law_kinds_c", "_law_kinds", "_law_is_own", "_law_are_these"]
def nms : List Str := nms1 ++ nms2
end Kz
namespace Kz
open PySem PySem.W PySem.Calls PyProof.Rows L2 LamX
open He (ga ma eqO ba frT fAd cT codeOf tabOf emptyTab)
def exZ2 (K : Frag) : Bool := exZ K && decide ((tfs.map fun p => (cT K p).2).Nodup)
abbrev AlZ2 : Type := He.AlD × (List FnI × Bool)
def obsK2 (g : Addr → Option Obj) (K : Frag) : AlZ2 := (He.obsD fas fns K, (clsNames.map fun x => fnI K (ga K x)), exZ2 K && He.tabsB g tfs K)
def obsZ2 (g : Addr → Option Obj) : AlZ2 := obsK2 g (frT g (needs g))
def valZ2 : AlZ2 := (He.valD fns, stsI.map valI, true)
def hookZ2 : Hook where
  α := AlZ2
  obs := fun s => obsZ2 s.heap.get?
  val := fun _ => valZ2
  says := fun _ h => ∃ K : Frag, K.In h ∧ ((He.obsD fas fns K = He.valD fns ∧ (clsNames.map fun x => fnI K (ga K x)) = stsI.map valI) ∧ exZ2 K = true ∧ (∀ p ∈ tfs, codeHdIn K (cT K p).1 (cT K p).2 = true) ∧ (∀ p ∈ tfs, K.lookup (cT K p).2 = none) ∧ ∀ p ∈ tfs, h.get? (cT K p).2 = some { cls := .none, data := .fields #[] })
  of := fun _ h e => by
    have e1 := congrArg (fun z : AlZ2 => z.1) e
    have e2 := congrArg (fun z : AlZ2 => z.2.1) e
    have e3 : (exZ2 (frT h.heap.get? (needs h.heap.get?)) && He.tabsB h.heap.get? tfs (frT h.heap.get? (needs h.heap.get?))) = true := congrArg (fun z : AlZ2 => z.2.2) e
    obtain ⟨h1, h2⟩ := ba e3
    have key : ∀ p ∈ tfs, codeHdIn (frT h.heap.get? (needs h.heap.get?)) (cT (frT h.heap.get? (needs h.heap.get?)) p).1 (cT (frT h.heap.get? (needs h.heap.get?)) p).2 = true ∧ ∃ o, h.heap.get? (cT (frT h.heap.get? (needs h.heap.get?)) p).2 = some o ∧ emptyTab o = true := fun p hp => by
      obtain ⟨k1, k2⟩ := ba (List.all_eq_true.mp h2 p hp)
      refine ⟨k1, ?_⟩
      cases q : h.heap.get? (cT (frT h.heap.get? (needs h.heap.get?)) p).2 with
      | none => rw [q] at k2; cases k2
      | some o => rw [q] at k2; exact ⟨o, rfl, k2⟩
    refine ⟨_, He.frT_in, ⟨e1, e2⟩, h1, fun p hp => (key p hp).1, fun p hp => ?_, fun p hp => ?_⟩
    · obtain ⟨_, o, q, z⟩ := key p hp
      exact He.frT_none q z
    · obtain ⟨_, o, q, z⟩ := key p hp
      rw [q, He.emptyTab_eq z]
  keeps := fun _ _ _ ⟨K, hK, c, c2, c3, c4, c5⟩ k => ⟨K, Frag.In.keeps hK k, c, c2, c3, c4, fun p hp => k _ _ (c5 p hp)⟩
def obZ2 (s : SharedT) : AlZ2 := obsZ2 (HandSHeadRun.getT s)
theorem obZ2_eq (s : SharedT) : obZ2 s = hookZ2.obs s.abs := by
  have e : HandSHeadRun.getT s = s.abs.heap.get? := funext (HandSHeadRun.getT_eq s)
  show obsZ2 (HandSHeadRun.getT s) = obsZ2 s.abs.heap.get?
  rw [e]
end Kz
namespace Kz
open PySem PySem.W PySem.Calls PyProof.Rows L2 LamX
open He (ga ma eqO ba frT fAd cT codeOf tabOf emptyTab)
/-- a look alone, nothing told -/
def lookH (α : Type) (f : (Addr → Option Obj) → α) (v : α) : Hook where
  α := α
  obs := fun s => f s.heap.get?
  val := fun _ => v
  says := fun _ _ => True
  of := fun _ _ _ => trivial
  keeps := fun _ _ _ _ _ => trivial
def fK (g : Addr → Option Obj) : Frag := frT g (needs g)
def lk1 (g : Addr → Option Obj) : He.AlD × List FnI := (He.obsD fas fns (fK g), clsNames.map fun x => fnI (fK g) (ga (fK g) x))
def ex2 (K : Frag) : Bool := oncB K && (feB K (FEa K) && (decide ((FEa K :: dsAll K).Nodup) && ((ones.take 24).all fun p => clsB K (FEa K) (ga K p.1) [p.2])))
def lk2 (g : Addr → Option Obj) : Bool := ex2 (fK g)
def ex3 (K : Frag) : Bool := decide ((tfs.map fun p => (cT K p).2).Nodup) && (((ones.drop 24).all fun p => clsB K (FEa K) (ga K p.1) [p.2]) && clsB K (FEa K) (ga K "WouldChange") ["question", "why"])
def lk3 (g : Addr → Option Obj) : Bool := ex3 (fK g) && He.tabsB g tfs (fK g)
abbrev H1k : Hook := lookH (He.AlD × List FnI) lk1 (He.valD fns, stsI.map valI)
abbrev H2k : Hook := lookH Bool lk2 true
abbrev H3k : Hook := lookH Bool lk3 true
def o1 (s : SharedT) : He.AlD × List FnI := lk1 (HandSHeadRun.getT s)
def o2 (s : SharedT) : Bool := lk2 (HandSHeadRun.getT s)
def o3 (s : SharedT) : Bool := lk3 (HandSHeadRun.getT s)
end Kz
namespace Kz
open PySem PySem.W PySem.Calls PyProof.Rows
theorem run1 (w : World) : HandSHeadRun.RunEq RZ (view RZ.prog [63]) H1k o1 20000 nms w := by
  intro os
  kernel_rfl
end Kz
namespace Kz
open PySem PySem.W PySem.Calls PyProof.Rows
theorem run2 (w : World) : HandSHeadRun.RunEq RZ (view RZ.prog [63]) H2k o2 20000 nms w := by
  intro os
  kernel_rfl
end Kz
namespace Kz
open PySem PySem.W PySem.Calls PyProof.Rows
theorem run3 (w : World) : HandSHeadRun.RunEq RZ (view RZ.prog [63]) H3k o3 20000 nms w := by
  intro os
  kernel_rfl
end Kz
namespace Kz
open PySem PySem.W PySem.Calls PyProof.Rows L2 LamX
open He (ga ma eqO ba frT fAd cT codeOf tabOf emptyTab)
theorem obs_all {g : Addr → Option Obj} (h1 : lk1 g = (He.valD fns, stsI.map valI)) (h2 : lk2 g = true) (h3 : lk3 g = true) : obsZ2 g = valZ2 := by
  have a1 : He.obsD fas fns (fK g) = He.valD fns := congrArg (·.1) h1
  have a2 : (clsNames.map fun x => fnI (fK g) (ga (fK g) x)) = stsI.map valI := congrArg (·.2) h1
  obtain ⟨b1, b2⟩ := ba (show (oncB (fK g) && _) = true from h2)
  obtain ⟨b3, b4⟩ := ba b2
  obtain ⟨b5, b6⟩ := ba b4
  obtain ⟨c1, c2⟩ := ba (show (ex3 (fK g) && _) = true from h3)
  obtain ⟨c3, c4⟩ := ba (show (_ && (_ && _)) = true from c1)
  obtain ⟨c5, c6⟩ := ba c4
  have e : (ones.all fun p => clsB (fK g) (FEa (fK g)) (ga (fK g) p.1) [p.2]) = true := by
    rw [← List.take_append_drop 24 ones, List.all_append, b6, c5]
    rfl
  have x1 : exZ (fK g) = true := by
    unfold exZ
    rw [b1, b3, b5, e, c6]
    rfl
  have x2 : (exZ2 (fK g) && He.tabsB g tfs (fK g)) = true := by
    unfold exZ2
    rw [x1, c3, c2]
    rfl
  show (He.obsD fas fns (fK g), (clsNames.map fun x => fnI (fK g) (ga (fK g) x)), exZ2 (fK g) && He.tabsB g tfs (fK g)) = (He.valD fns, stsI.map valI, true)
  rw [a1, a2, x2]
theorem runZ2' (r1 : ∀ w, HandSHeadRun.RunEq RZ (view RZ.prog [63]) H1k o1 20000 nms w) (r2 : ∀ w, HandSHeadRun.RunEq RZ (view RZ.prog [63]) H2k o2 20000 nms w) (r3 : ∀ w, HandSHeadRun.RunEq RZ (view RZ.prog [63]) H3k o3 20000 nms w) (w : World) :
    HandSHeadRun.RunEq RZ (view RZ.prog [63]) hookZ2 obZ2 20000 nms w := by
  intro os
  have h1 := r1 w os
  have h2 := r2 w os
  have h3 := r3 w os
  revert h1 h2 h3
  generalize HandSHeadRun.endF _ _ _ _ _ = x
  intro h1 h2 h3
  cases x with
  | none => cases h1
  | some s =>
    have e1 := Option.some.inj h1
    have e2 := Option.some.inj h2
    have e3 := Option.some.inj h3
    have f1 : lk1 (HandSHeadRun.getT s) = (He.valD fns, stsI.map valI) := congrArg (fun z => z.2.2) e1
    have f2 : lk2 (HandSHeadRun.getT s) = true := congrArg (fun z => z.2.2) e2
    have f3 : lk3 (HandSHeadRun.getT s) = true := congrArg (fun z => z.2.2) e3
    have g1 := congrArg (fun z => z.1) e1
    have g2 := congrArg (fun z => z.2.1) e1
    show some (_, _, obsZ2 (HandSHeadRun.getT s)) = some (_, _, valZ2)
    rw [obs_all f1 f2 f3]
    exact congrArg some (Prod.ext g1 (Prod.ext g2 rfl))
end Kz
namespace Kz
open PySem PySem.W PySem.Calls PyProof.Rows L2

/-- what the written part says of an own error class and of its __init__ -/
structure XF (prog : Program) (K : Frag) (C fI : Addr) (qual : Str) (params : Arguments) (body : List Stmt) (scope : Scope) : Prop where
  oex : OexC K C
  ini : findIn K (.ref C) "__init__" = some (some (.ref fI))
  tyI : typeIn K (.ref fI) = some (.type "function")
  fn : ∃ (oc : Value) (od : Option Addr) (kV doc pm : Value) (an : Option Addr) (cda : Addr) (ct : Value) (osl : Array (Option Value)) (cc : Addr) (ccl : Value) (cdd : Option Addr) (vs : Array Value) (ccs : Array (Option Value)) (file : Str) (tf : Tok)
      (cl : Value) (cld : Option Addr) (csl : Array (Option Value)),
    K.lookup fI = some ⟨oc, od, .func (ksFn "__init__" qual params body scope .none kV doc pm an (.ref cda) ct cc), osl⟩ ∧ codeIn K (.ref cda) qual = true ∧ K.lookup cda = some ⟨ccl, cdd, .fields vs, ccs⟩ ∧ vs[2]? = some (.str file tf) ∧
      ((prog.main.file : Str) == file) = true ∧ K.lookup cc = some ⟨cl, cld, .cell (some (.ref C)), csl⟩
  sup : ks_superIn K C C "__init__" = some (some (.builtin "ValueError.__init__"))
  sbV : subIn K (.ref C) (.type "ValueError") = some true
  slf : mroIn K C (.ref C) = some true
  opq : nsIn K cStatics "thirdparty.any" = some none
  glo : nsIn K mainGlobals "super" = some none
  top : (prog.main.scope.names.lookup ("super" : Str)).isSome = false
  xf : XfC K C

/-- the scope of such an __init__ -/
structure ScI (params : Arguments) (scope : Scope) (fs : List Str) : Prop where
  hd : ∃ ar, (params.posonlyargs ++ params.args).head? = some ar ∧ ar.arg = ("self" : Str)
  ks : scope.names.lookup ("super" : Str) = some .globalImplicit
  kc : scope.names.lookup ("__class__" : Str) = some .free
  ka : scope.names.lookup ("self" : Str) = some .local
  kf : ∀ f ∈ fs, scope.names.lookup f = some .local
  cell : ∀ x ∈ scope.names, x.2 ≠ .cell
  kind : scope.kind = .function
  co : scope.isCoroutine = false
  gen : scope.isGenerator = false

def sSuper (msg : Str) (j : Nat) (p0 p1 p2 p3 p4 p5 : Pos) : Stmt := .Expr (.Call (.Attribute (.Call (.Name "super" p0) [] [] p1) "__init__" p2) [.Constant (.str msg) j p3] [] p4) p5
def sPut (f : Str) (q0 q1 q2 q3 : Pos) : Stmt := .Assign [.Attribute (.Name "self" q0) f q1] (.Name f q2) q3

section
variable {X : Cx} {pins : List (Addr × Obj)} {σ : L2.St} {H : Hp} {s : Shared} {a C fI : Addr} {A : Around} {E : Value → Shared → Prop}

/-- the record of an exception that is being made, behind super().__init__(..) -/
theorem call_up {u : Addr} {rest : List Value} {Q : Value → Shared → Prop} (T : OexC X.K C) (I : Inv X pins σ H s) (e : H a = some (exo a C none)) (hu : s.heap.get? u = some (kxs_mw "ValueError.__init__" a)) (hl : rest.length ≤ sizeLine)
    (h : ∀ s', Inv X pins σ H s' → (∀ b o, b ≠ a → s.heap.get? b = some o → s'.heap.get? b = some o) → Q .none s') : wpAny (model X.prog X.w) A (call (.ref u) rest) Q E s := by
  obtain ⟨nm, q, N, bs, bm, sn, sub, ab, col, dd, k0, k1, k2, k3, k5, hC, hbm⟩ := T.cls
  obtain ⟨t1, ho⟩ := exo_at I.hok e
  have hCs := I.kIn _ _ hC
  obtain ⟨hp, g, d, t, os⟩ := s
  refine wpAny_call (codeAny_of_tree ?_)
  show wpAny _ A.in1 (callAny (.ref u) ⟨rest, []⟩) _ _ _
  simp only [callAny]
  refine wpAny_bind (wpAny_load hu ?_)
  simp only [kxs_mw, show (Value.type "method-wrapper" == Value.type "method" || Value.type "method-wrapper" == Value.type "builtin_function_or_method" || Value.type "method-wrapper" == Value.type "method-wrapper") = true by decide, if_true]
  refine KFB.if_so (by decide) ?_
  refine wpAny_bind (check_bound_init F.excBase_ValueError.toExcCallFacts hCs ho rfl ?_)
  refine wpAny_bind (wpAny_pure (wpAny_pure ?_))
  refine ⟨plainId_quiet F.excBase_ValueError.init.plain _, codeAny_builtin F.excBase_ValueError.initEntry ?_⟩
  refine exc_init_tree (cls := .ref C) (t0 := t1) (dv := none) (c2 := .none) (c3 := .none) (b4 := .bool false) ho hl (fun h' k e' _ => ?_)
  have J := I.write (t' := t) (x := a) (e := a) (o := exo a C none) (by rw [e]; exact True.intro) (.inl rfl) k ⟨_, e'⟩ (exo_ok e')
  have eu : upd H a (exo a C none) = H := by
    funext b
    by_cases hb : b = a
    · rw [hb, upd_same, e]
    · rw [upd_ne hb]
  rw [eu] at J
  exact h _ J k

/-- a pin more: the dict of a callee's locals -/
theorem pinned {L : Addr} {m : Str → Option Value} (I : Inv X pins σ H s) (hn : s.heap.Ns L m) (hH : H L = none) (h1 : L ≠ X.env.locals) (h2 : L ∉ X.fs) :
    ∃ oL, Inv X ((L, oL) :: pins) σ H s ∧ (∃ es ep, oL.data = .dict es ep ∧ ∀ s' : Shared, s'.heap.get? L = some oL → s'.heap.Ns L m) := by
  obtain ⟨oL, es, ep, hL, hd, r⟩ := hn
  refine ⟨oL, I.pins_of fun p hp => ?_, es, ep, hd, fun s' e => ⟨oL, es, ep, e, hd, r⟩⟩
  rcases List.mem_cons.mp hp with rfl | hp
  · exact ⟨hL, hH, h1, h2, fun v z => by rw [hd] at z; cases z⟩
  · exact I.pin p (List.mem_append_right _ hp)
theorem unpin {q : Addr × Obj} (I : Inv X (q :: pins) σ H s) : Inv X pins σ H s := I.pins_of fun p hp => I.pin p (List.mem_append_right _ (List.mem_cons_of_mem _ hp))

theorem ev_super {msg : Str} {j : Nat} {p0 p1 p2 p3 p4 : Pos} (hm : (p2.endLine == p4.line) = true) (env : Env) :
    eval (.Call (.Attribute (.Call (.Name "super" p0) [] [] p1) "__init__" p2) [.Constant (.str msg) j p3] [] p4) env = (do
      let ov ← attributeBase (.Call (.Name "super" p0) [] [] p1) "__init__" env (eval (.Call (.Name "super" p0) [] [] p1) env)
      standAt p2.atName
      let (f, first) ← holding [ov] (getMethod ov "__init__" (do return (← importBound (.Call (.Name "super" p0) [] [] p1) env).getD true))
      callWith p4 f first (backTo p4 (starEach [.Constant (.str msg) j p3] env)) []) := by
  have e : methodCallPos true (.Call (.Name "super" p0) [] [] p1) env p2 p4 = pure p4 := by
    unfold methodCallPos
    rw [hm]
    rfl
  show (attributeBase _ _ _ _ >>= fun ov => standAt p2.atName >>= fun _ => holding [ov] (calleeOf true (.Call (.Name "super" p0) [] [] p1) env ov "__init__") >>= fun fx => methodCallPos true (.Call (.Name "super" p0) [] [] p1) env p2 p4 >>= fun q => callWith q fx.1 fx.2 _ _) = _
  rw [e]
  rfl
/-- an own __init__ to where super().__init__(text) is done -/
theorem init_pre {qual : Str} {params : Arguments} {scope : Scope} {msg : Str} {j : Nat} {p0 p1 p2 p3 p4 p5 : Pos} {fs : List Str} {rest : List Stmt} {R : Result → Shared → Prop} {args : Args} {binds : List (Str × Value)}
    (hm : (p2.endLine == p4.line) = true) (T : XF X.prog X.K C fI qual params (sSuper msg j p0 p1 p2 p3 p4 p5 :: rest) scope) (S : ScI params scope fs) (I : Inv X pins σ H s) (e : H a = some (exo a C none)) (hroom : A.depth < recursionLimit)
    (hbind : ∀ (kV doc pm : Value) (an : Option Addr) (cdv ct : Value) (cc : Addr), bindArgs (ksFn "__init__" qual params (sSuper msg j p0 p1 p2 p3 p4 p5 :: rest) scope .none kV doc pm an cdv ct cc) args = pure binds)
    (hloc : ∀ x ∈ binds, scope.names.lookup x.1 = some .local) (hs : binds.reverse.lookup ("self" : Str) = some (.ref a))
    (h : ∀ (env : Env) (oL : Obj) (s' : Shared), env.scope.kind = .function → (∀ x, env.kindOf x = scope.names.lookup x) → (∀ s2 : Shared, s2.heap.get? env.locals = some oL → s2.heap.Ns env.locals (fun x => binds.reverse.lookup x)) → Inv X ((env.locals, oL) :: pins) σ H s' →
      wpAny (model X.prog X.w) (A.deeper env) (execs rest env) (fun fl s' => R (.ok (.ret (match fl with | .ret v => v | _ => .none))) s') (fun e s' => wpAny (model X.prog X.w) (A.deeper env) (leaving env e) (fun _ s'' => R (.error e) s'') (fun e' s'' => R (.error e') s'') s') s') :
    codeAny (model X.prog X.w) A (.call (.ref fI) args) R s := by
  obtain ⟨oc, od, kV, doc, pm, an, cda, ct, osl, cc, ccl, cdd, vs, ccs, file, tf, cl, cld, csl, lk, hcd, lcd, hvs, hfile, lcc⟩ := T.fn
  obtain ⟨ar, hh1, hh2⟩ := S.hd
  obtain ⟨mb, bl1, bl2⟩ := I.mod.blt
  refine ks_codeAny_call_defAt (fd := ksFn "__init__" qual params (sSuper msg j p0 p1 p2 p3 p4 p5 :: rest) scope .none kV doc pm an (.ref cda) ct cc) hroom (I.kIn _ _ lk) rfl I.nolimit (codeRec_of I.kIn hcd) rfl (.of_eq (hbind kV doc pm an (.ref cda) ct cc)) S.cell hloc
    (fun h₁ hns kp => ?_) S.co S.gen S.kind
  have I1 : Inv X pins σ H { s with heap := h₁, toks := s.toks + binds.length } := I.kept kp
  have nX : s.heap.objs.size ≠ X.env.locals := Nat.ne_of_gt I.lt
  have nF : s.heap.objs.size ∉ X.fs := I.nofs (Nat.le_refl _)
  let fdI := ksFn "__init__" qual params (sSuper msg j p0 p1 p2 p3 p4 p5 :: rest) scope .none kV doc pm an (.ref cda) ct cc
  have ek : ∀ x, (callEnv fdI s.heap.objs.size fI).kindOf x = scope.names.lookup x := fun x => rfl
  have eK : (callEnv fdI s.heap.objs.size fI).scope.kind = .function := S.kind
  have eI : interactive (callEnv fdI s.heap.objs.size fI) = false := by
    unfold interactive
    rw [eK]
    rfl
  obtain ⟨oL, I1', es, ep, _, back⟩ := pinned I1 hns (I.hok.fresh (Nat.le_refl _)) nX nF
  refine ks_wpAt_execs_cons (ks_wpAt_Expr_any (ks_wpAt_MethodCall ?_ (ev_super hm _)) eI (by rfl))
  refine ks_wpAt_super_base ((ek _).trans S.ks) ((ek _).trans S.kc) (by decide) rfl (I1'.kIn _ _ lk) rfl hh1 rfl (I1'.kIn _ _ lcd) rfl hvs hfile T.top ?_
  refine ks_loadName_global eK ((ek _).trans S.ks) (loadGlobal_builtin (mg := X.mg) (mb := mb) (v := .type "super") (I1'.mod.glob.keeps I1'.bk) (mg_none_of I1'.mod.kin I1'.mod.glob T.glo) (bl1.keeps I1'.bk) ((bl2 _ (by decide +kernel)).trans (by first | rfl | kernel_rfl)) ⟨rfl, ?_⟩)
  refine wpAny_loadName_free eK ((ek _).trans S.kc) rfl ⟨_, I1'.kIn _ _ lcc, rfl⟩ ?_
  rw [hh2]
  refine wpAny_loadName_local eK ((ek _).trans S.ka) hns hs ?_
  obtain ⟨nm, qn, N, bs, bm, sn, sub, ab, col, dd, k0, k1, k2, k3, k5, hC, hbm⟩ := T.oex.cls
  have hC1 := I1'.kIn _ _ hC
  obtain ⟨t1, ho⟩ := exo_at I1'.hok e
  refine ks_wpAny_isType_cls hC1 rfl ⟨rfl, ?_⟩
  refine ks_wpAny_call_super hC1 rfl ho rfl (fun c z => nomatch z) (looks_mroIn I1'.kIn T.slf) (fun h2 e2 kp2 => ?_)
  have I2 : Inv X ((s.heap.objs.size, oL) :: pins) σ H { s with heap := h2, toks := s.toks + binds.length } := I1'.kept kp2
  obtain ⟨t2, ho2⟩ := exo_at I2.hok e
  have hsm := T.sup
  have hcl : clsIn X.K C = some { name := nm, bases := bs, mro := .ref C :: bm, ns := N, qualname := qn, hasDict := true, slotNames := sn, subclasses := sub, abstract := ab, collection := col, hasDel := false } := by unfold clsIn; rw [hC] <;> rfl
  have IA : InstAt h2 a _ C none := ⟨ho2, rfl, rfl, trivial⟩
  unfold ks_superIn at hsm
  rw [hcl] at hsm
  refine kxs_getMethod kxs_ValueError (so := h₁.objs.size) e2 (looks_opaque I2.kIn T.opq) (l₀ := .ref C :: bm) (fun A Q E s k q => wpAny_bind ((looks_clsIn I2.kIn hcl) A _ E s k (wpAny_pure q))) rfl I2.kIn hsm (IA.type.andThen (looks_subIn I2.kIn T.sbV)) (ks_ne I2.kIn IA hcl) (by decide) ?_
  have kp3 : ∀ b o, h2.get? b = some o → (h2.push (kxs_mw "ValueError.__init__" a)).get? b = some o := fun b o z => Heap.get?_push_of_some _ z
  have I3 : Inv X ((s.heap.objs.size, oL) :: pins) σ H { s with heap := h2.push (kxs_mw "ValueError.__init__" a), toks := s.toks + binds.length + 1 } := I2.kept kp3
  have hbw : (h2.push (kxs_mw "ValueError.__init__" a)).get? h2.objs.size = some (kxs_mw "ValueError.__init__" a) := Heap.get?_push_at rfl rfl
  refine kxs_callWith (i := "ValueError.__init__") (x := a) (by rfl) (evalArgs_plain (Calls.spliced_cons (wpAny_Constant_str (k := j) (pos := p3) (Calls.spliced_nil ⟨hbw, ?_⟩))))
  have I4 := I3.tok (s.toks + binds.length + 1 + 1)
  refine call_up T.oex I4 e hbw (by rw [sizeLine_eq]; exact Nat.le_of_ble_eq_true rfl) (fun s5 I5 _ => ?_)
  exact wpAt_of_wpAny (h (callEnv fdI s.heap.objs.size fI) oL s5 eK ek back I5)

theorem pin_at {q : Addr × Obj} (I : Inv X (q :: pins) σ H s) : s.heap.get? q.1 = some q.2 := (I.pin q (List.mem_append_right _ (List.mem_cons_self ..))).1

/-- an own __init__(self, f): super().__init__(text); self.f = f -/
theorem init1 {qual : Str} {params : Arguments} {scope : Scope} {f msg : Str} {j : Nat} {p0 p1 p2 p3 p4 p5 q0 q1 q2 q3 : Pos} {R : Result → Shared → Prop} {args : Args} {y : V} {u : Value}
    (hm : (p2.endLine == p4.line) = true) (T : XF X.prog X.K C fI qual params [sSuper msg j p0 p1 p2 p3 p4 p5, sPut f q0 q1 q2 q3] scope) (S : ScI params scope [f]) (I : Inv X pins σ H s) (e : H a = some (exo a C none)) (ry : RelV y u) (hroom : A.depth < recursionLimit)
    (hbind : ∀ (kV doc pm : Value) (an : Option Addr) (cdv ct : Value) (cc : Addr), bindArgs (ksFn "__init__" qual params [sSuper msg j p0 p1 p2 p3 p4 p5, sPut f q0 q1 q2 q3] scope .none kV doc pm an cdv ct cc) args = pure [(("self" : Str), Value.ref a), (f, u)])
    (hfs : (f == ("self" : Str)) = false) (hfd : (f == ("__debug__" : Str)) = false) (hno : findIn X.K (.ref C) f = some none)
    (h : ∀ (dx : Addr) (s' : Shared), H dx = none → dx ≠ a → Inv X pins σ (upd (upd H dx (exd dx [(f, y)])) a (exo a C (some dx))) s' → R (.ok (.ret .none)) s') :
    codeAny (model X.prog X.w) A (.call (.ref fI) args) R s := by
  have e1 : ([((("self" : Str)), Value.ref a), (f, u)].reverse).lookup ("self" : Str) = some (.ref a) := by
    have q : (("self" : Str) == f) = false := by rw [Bool.beq_comm]; exact hfs
    simp [List.lookup, q]
  have e2 : ([((("self" : Str)), Value.ref a), (f, u)].reverse).lookup f = some u := by simp [List.lookup]
  refine init_pre (binds := [(("self" : Str), Value.ref a), (f, u)]) hm T S I e hroom hbind (fun x hx => ?_) e1 (fun env oL s1 hk ek back I1 => ?_)
  · rcases List.mem_cons.mp hx with rfl | hx
    · exact S.ka
    · rcases List.mem_cons.mp hx with rfl | hx
      · exact S.kf f (List.mem_cons_self ..)
      · cases hx
  · refine wpAny_execs_cons (plainObj_wpAny_Assign_Attribute ?_ (by rfl))
    refine ESX.ldL (back _ (pin_at I1)) e2 ?_ hk ((ek _).trans (S.kf f (List.mem_cons_self ..))) hfd
    refine ESX.ldL (back _ (pin_at I1)) e1 ?_ hk ((ek _).trans S.ka) (by decide)
    refine ost_new T.oex I1 e hno ry (fun dx s2 hd hne I2 => ?_)
    exact wpAny_pure (h dx s2 hd hne (unpin I2))
end
end Kz
namespace Kz
open PySem PySem.W PySem.Calls L2 PySem.HandSPX

section
variable {M : Model} {A : Around} {E : Value → Shared → Prop} {h : Heap} {g : Array GenState} {d : Drawn} {t : Nat} {os : OsState}
variable {nm q : Str} {C N : Addr} {bs bm bmB : List Value} {hdct : Bool} {sn : List Str} {sub : List Value} {ab : Bool} {col : Option Bool} {dd : Option Addr} {k0 k1 k2 k3 k5 : Option Value} {B newId initId : String}
/-- keywords let through: the check of the built-in __new__ -/
theorem kwCheck (FB : ExcBaseFacts B newId initId bmB) (hT : ∀ X : String, bm.contains (.type X) = bmB.contains (.type X)) {us : List Value} {kw : List (Str × Value)} {Q : Unit → Shared → Prop}
    (hC : h.get? C = some (excClassObj nm q C N bs bm hdct sn sub ab col dd k0 k1 k2 k3 k5 newId)) (z : Q () ⟨h, g, d, t, os⟩) : wpAny M A (checkBuiltinCall newId ⟨.ref C :: us, kw⟩) Q E ⟨h, g, d, t, os⟩ := by
  have hin : (Value.ref C :: bm).contains (.type B) = true := by rw [List.contains_cons, hT, FB.hasB, Bool.or_true]
  have hst := FB.noStar
  simp only [checkBuiltinCall, FB.newKind, FB.newSplit, FB.newRow]
  repeat (first | refine wpAny_loadPart_at hC ?_ | (refine wpAny_isSubtype_exc hC ?_; rw [hin]) | refine wpAny_staticBase_exc hC ?_ | refine wpAny_madeBy_exc hC ?_ | simp only [bne_self_eq_false, Bool.false_eq_true, if_false] | wp_step)
  exact z
end
section
variable {prog : Program} {w : World} {A : Around} {E : Value → Shared → Prop} {R : Result → Shared → Prop} {h : Heap} {g : Array GenState} {d : Drawn} {t : Nat} {os : OsState}
variable {nm q : Str} {C N : Addr} {bs bm bmB : List Value} {hdct : Bool} {sn : List Str} {sub : List Value} {ab : Bool} {col : Option Bool} {dd : Option Addr} {k0 k1 k2 k3 k5 : Option Value} {B newId initId : String}
theorem kwNew (FB : ExcBaseFacts B newId initId bmB) (hT : ∀ X : String, bm.contains (.type X) = bmB.contains (.type X)) {us : List Value} {kw : List (Str × Value)}
    (hC : h.get? C = some (excClassObj nm q C N bs bm hdct sn sub ab col dd k0 k1 k2 k3 k5 newId))
    (z : R (.ok (.ret (.ref (h.objs.size + 1)))) ⟨(h.push (W.kdv_tup us)).push (excO C h.objs.size), g, d, t, os⟩) (hl : us.length ≤ sizeLine) :
    codeAny (model prog w) A (.builtin newId ⟨.ref C :: us, kw⟩) R ⟨h, g, d, t, os⟩ := by
  have he := FB.ends
  have c1 : (Value.ref C :: bm).contains (.type B) = true := by rw [List.contains_cons, hT, FB.hasB, Bool.or_true]
  have c2 : (Value.ref C :: bm).contains (.type "AttributeError") = false := by rw [List.contains_cons, hT, FB.noAttr]; rfl
  have c3 : (Value.ref C :: bm).contains (.type "NameError") = false := by rw [List.contains_cons, hT, FB.noName]; rfl
  refine codeAny_builtinAt FB.entry ?_
  unfold Builtin.«BaseException.__new__»
  refine _root_.PySem.wpAt_bind ?_
  show _root_.PySem.wpAt _ _ _ (stack >>= _) _ _ _
  refine _root_.PySem.wpAt_bind (_root_.PySem.wpAt_stack fun _ _ => _root_.PySem.wpAt_of_wpAny ?_)
  wp_walk
  refine _root_.PySem.wpAt_of_wpAny ?_
  rw [FB.owner]
  repeat (first | with_reducible refine wpAny_madeHere_exc FB.canon hC ?_ | with_reducible refine wpAny_loadPart_at hC ?_ | (with_reducible refine wpAny_isSubtype_exc hC ?_; first | rw [c1] | rw [c2] | rw [c3]) | wp_step)
  show R _ _
  rw [Heap.size_push]
  exact z
theorem kwType (FB : ExcBaseFacts B newId initId bmB) (hT : ∀ X : String, bm.contains (.type X) = bmB.contains (.type X)) {us : List Value} {kw : List (Str × Value)} {fI : Addr} {Q : Fin → Shared → Prop}
    (hC : h.get? C = some (excClassObj nm q C N bs bm hdct sn sub ab col dd k0 k1 k2 k3 k5 newId))
    (hi : W.Looks (model prog w) h (typeLookup (.ref C) "__init__") (some (.ref fI))) (hb : ∀ self, W.Looks (model prog w) h (bindSpecial (.ref fI) self) (.ref fI, [self])) (hl : us.length ≤ sizeLine)
    (z : codeAny (model prog w) A (.call (.ref fI) ⟨.ref (h.objs.size + 1) :: us, kw⟩)
      (fun r s' => match r with | .ok (.ret v) => v = .none ∧ Q (.done (.ret (.ref (h.objs.size + 1)))) s' | .ok _ => False | .error e => E e s')
      ⟨(h.push (W.kdv_tup us)).push (excO C h.objs.size), g, d, t, os⟩) :
    wpAny (model prog w) A (Builtin.«type.__call__» ⟨.ref C :: us, kw⟩) Q E ⟨h, g, d, t, os⟩ := by
  repeat (first | with_reducible refine wpAny_loadPart_at hC ?_ | with_reducible refine wpAny_madeBy_exc hC ?_ | wp_step)
  refine codeAny_call_builtin_code (Code.quiet_builtin _ FB.quiet) (kwCheck FB hT hC (kwNew FB hT hC ?_ hl))
  show wpAny _ _ _ _ _ _
  have kp : ∀ b o, h.get? b = some o → ((h.push (W.kdv_tup us)).push (excO C h.objs.size)).get? b = some o := fun b o e => Heap.get?_push_of_some _ (Heap.get?_push_of_some _ e)
  have hC1 := kp _ _ hC
  have hx : ((h.push (W.kdv_tup us)).push (excO C h.objs.size)).get? (h.objs.size + 1) = some (excO C h.objs.size) := by heap_get
  have hcc : (Value.ref C :: bm).contains (.ref C) = true := by simp
  have i1 := hi.keeps kp
  have b1 := (hb (.ref (h.objs.size + 1))).keeps kp
  unfold isInstance
  repeat (first | with_reducible refine wpAny_loadPart_at hx ?_ | (with_reducible refine wpAny_isSubtype_exc hC1 ?_; rw [hcc]) | wp_step)
  show wpAny _ _ (typeLookup (.ref C) _) _ _ _
  refine i1.at (wpAny_holding (wpAny_bind (b1.at (wpAny_bind (wpAny_call (codeAny_mono z fun r s' y => ?_))))))
  rcases r with e | (v | _ | _ | _) <;> first | exact y | exact y.elim | skip
  obtain ⟨rfl, y⟩ := y
  first
    | exact wpAny_pure (wpAny_pure y)
    | (wp_walk; exact y)
theorem kwCall (FB : ExcBaseFacts B newId initId bmB) (hT : ∀ X : String, bm.contains (.type X) = bmB.contains (.type X)) {us : List Value} {kw : List (Str × Value)} {fI : Addr}
    (hC : h.get? C = some (excClassObj nm q C N bs bm hdct sn sub ab col dd k0 k1 k2 k3 k5 newId))
    (hi : W.Looks (model prog w) h (typeLookup (.ref C) "__init__") (some (.ref fI))) (hb : ∀ self, W.Looks (model prog w) h (bindSpecial (.ref fI) self) (.ref fI, [self])) (hl : us.length ≤ sizeLine)
    (z : codeAny (model prog w) (A.under (.builtin "type.__call__" ⟨.ref C :: us, kw⟩)) (.call (.ref fI) ⟨.ref (h.objs.size + 1) :: us, kw⟩) (W.InitBack (h.objs.size + 1) R)
      ⟨(h.push (W.kdv_tup us)).push (excO C h.objs.size), g, d, t, os⟩) :
    codeAny (model prog w) A (.call (.ref C) ⟨us, kw⟩) R ⟨h, g, d, t, os⟩ := by
  have f1 := tc_lookup
  have f2 := tc_bind (.ref C)
  have hTy : (⟨h, g, d, t, os⟩ : Shared).TypeIs (.ref C) "type" := ⟨_, hC, rfl⟩
  refine codeAny_of_tree (show wpAny _ _ (callAny (.ref C) _) _ _ _ from ?_)
  repeat (any_goals (first | assumption | with_reducible refine wpAny_loadPart_at hC ?_ | wp_step))
  refine ⟨rfl, codeAny_call_builtin_at (Code.quiet_builtin _ (by decide +kernel)) entry_typeCall (wpAny_check_type_call_sub hC (kwType FB hT hC hi hb hl (codeAny_mono z fun r s' y => ?_)))⟩
  rcases r with e | (v | _ | _ | _) <;> exact y
end
end Kz
namespace Kz
open PySem PySem.W PySem.Calls PyProof.Rows L2

section
variable {X : Cx} {pins : List (Addr × Obj)} {σ : L2.St} {H : Hp} {s : Shared} {a C fI : Addr} {A : Around} {E : Value → Shared → Prop}

/-- the heap behind the making of an error: at a the error, at dx its dict -/
def mkH (H : Hp) (a C dx : Addr) (fs : List (Str × V)) : Hp := upd (upd H dx (exd dx fs)) a (exo a C (some dx))
theorem mkH_over {fs : List (Str × V)} {dx : Addr} {o : HO} : mkH (upd H a o) a C dx fs = mkH H a C dx fs := by
  funext b
  unfold mkH upd
  by_cases hb : b = a
  · simp [hb]
  · simp [hb]

/-- an own __init__(self, f, g) -/
theorem init2 {qual : Str} {params : Arguments} {scope : Scope} {f g msg : Str} {j : Nat} {p0 p1 p2 p3 p4 p5 q0 q1 q2 q3 r0 r1 r2 r3 : Pos} {R : Result → Shared → Prop} {args : Args} {y z : V} {u v : Value}
    (hm : (p2.endLine == p4.line) = true) (T : XF X.prog X.K C fI qual params [sSuper msg j p0 p1 p2 p3 p4 p5, sPut f q0 q1 q2 q3, sPut g r0 r1 r2 r3] scope) (S : ScI params scope [f, g]) (I : Inv X pins σ H s) (e : H a = some (exo a C none)) (ry : RelV y u) (rz : RelV z v) (hroom : A.depth < recursionLimit)
    (hbind : ∀ (kV doc pm : Value) (an : Option Addr) (cdv ct : Value) (cc : Addr), bindArgs (ksFn "__init__" qual params [sSuper msg j p0 p1 p2 p3 p4 p5, sPut f q0 q1 q2 q3, sPut g r0 r1 r2 r3] scope .none kV doc pm an cdv ct cc) args = pure [(("self" : Str), Value.ref a), (f, u), (g, v)])
    (hfs : (f == ("self" : Str)) = false) (hgs : (g == ("self" : Str)) = false) (hfg : (g == f) = false) (hfd : (f == ("__debug__" : Str)) = false) (hgd : (g == ("__debug__" : Str)) = false) (hno : findIn X.K (.ref C) f = some none) (hno2 : findIn X.K (.ref C) g = some none)
    (h : ∀ (dx : Addr) (s' : Shared), H dx = none → dx ≠ a → Inv X pins σ (mkH H a C dx [(g, z), (f, y)]) s' → R (.ok (.ret .none)) s') :
    codeAny (model X.prog X.w) A (.call (.ref fI) args) R s := by
  have q1' : (("self" : Str) == f) = false := by rw [Bool.beq_comm]; exact hfs
  have q2' : (("self" : Str) == g) = false := by rw [Bool.beq_comm]; exact hgs
  have q3' : (f == g) = false := by rw [Bool.beq_comm]; exact hfg
  have e1 : ([((("self" : Str)), Value.ref a), (f, u), (g, v)].reverse).lookup ("self" : Str) = some (.ref a) := by simp [List.lookup, q1', q2']
  have e2 : ([((("self" : Str)), Value.ref a), (f, u), (g, v)].reverse).lookup f = some u := by simp [List.lookup, q3']
  have e3 : ([((("self" : Str)), Value.ref a), (f, u), (g, v)].reverse).lookup g = some v := by simp [List.lookup]
  refine init_pre (binds := [(("self" : Str), Value.ref a), (f, u), (g, v)]) hm T S I e hroom hbind (fun x hx => ?_) e1 (fun env oL s1 hk ek back I1 => ?_)
  · rcases List.mem_cons.mp hx with rfl | hx
    · exact S.ka
    · rcases List.mem_cons.mp hx with rfl | hx
      · exact S.kf f (by simp)
      · rcases List.mem_cons.mp hx with rfl | hx
        · exact S.kf g (by simp)
        · cases hx
  · refine wpAny_execs_cons (plainObj_wpAny_Assign_Attribute ?_ (by rfl))
    refine ESX.ldL (back _ (pin_at I1)) e2 ?_ hk ((ek _).trans (S.kf f (by simp))) hfd
    refine ESX.ldL (back _ (pin_at I1)) e1 ?_ hk ((ek _).trans S.ka) (by decide)
    refine ost_new T.oex I1 e hno ry (fun dx s2 hd hne I2 => ?_)
    refine wpAny_execs_cons (plainObj_wpAny_Assign_Attribute ?_ (by rfl))
    refine ESX.ldL (back _ (pin_at I2)) e3 ?_ hk ((ek _).trans (S.kf g (by simp))) hgd
    refine ESX.ldL (back _ (pin_at I2)) e1 ?_ hk ((ek _).trans S.ka) (by decide)
    have ed : (upd (upd H dx (exd dx [(f, y)])) a (exo a C (some dx))) dx = some (exd dx [(f, y)]) := by rw [upd_ne hne, upd_same]
    refine ost_old T.oex I2 upd_same ed (show 1 ≤ 900 by decide) hno2 rz (fun s3 I3 => ?_)
    have eu : upd (upd (upd H dx (exd dx [(f, y)])) a (exo a C (some dx))) dx (exd dx [(g, z), (f, y)]) = mkH H a C dx [(g, z), (f, y)] := by
      funext b
      unfold mkH upd
      by_cases hb : b = a
      · by_cases hb2 : b = dx
        · exact absurd (hb2.symm.trans hb) hne
        · simp [hb, Ne.symm hne]
      · by_cases hb2 : b = dx
        · simp [hb2, hne]
        · simp [hb, hb2]
    rw [eu] at I3
    exact wpAny_pure (h dx s3 hd hne (unpin I3))

/-- C(..) of an own error class: the error and its dict are new -/
theorem call_mk {qual : Str} {params : Arguments} {body : List Stmt} {scope : Scope} {us : List Value} {kw : List (Str × Value)} {fs : List (Str × V)} {Q : Value → Shared → Prop}
    (T : XF X.prog X.K C fI qual params body scope) (I : Inv X pins σ H s) (hr : Room 1 X.A) (hl : us.length ≤ sizeLine)
    (hini : ∀ (b : Addr) (s1 : Shared) (R : Result → Shared → Prop), Inv X pins σ (upd H b (exo b C none)) s1 → H b = none → (∀ (dx : Addr) (s' : Shared), (upd H b (exo b C none)) dx = none → dx ≠ b → Inv X pins σ (mkH (upd H b (exo b C none)) b C dx fs) s' → R (.ok (.ret .none)) s') →
      codeAny (model X.prog X.w) (X.A.under (.builtin "type.__call__" ⟨.ref C :: us, kw⟩)) (.call (.ref fI) ⟨.ref b :: us, kw⟩) R s1)
    (h : ∀ (b dx : Addr) (s' : Shared), H b = none → H dx = none → dx ≠ b → Inv X pins σ (mkH H b C dx fs) s' → Q (.ref b) s') :
    wpAny (model X.prog X.w) X.A (call (.ref C) us kw) Q E s := by
  obtain ⟨nm, q, N, bs, bm, sn, sub, ab, col, dd, k0, k1, k2, k3, k5, hC, hbm⟩ := T.oex.cls
  obtain ⟨hp, g, dr, tk, os⟩ := s
  have hn : H (hp.objs.size + 1) = none := I.hok.fresh (Nat.le_succ _)
  have kk : ∀ b o, hp.get? b = some o → ((hp.push (PySem.W.kdv_tup us)).push (PySem.HandSPX.excO C hp.objs.size)).get? b = some o := fun b o e => Heap.get?_push_of_some _ (Heap.get?_push_of_some _ e)
  have hget : ((hp.push (PySem.W.kdv_tup us)).push (PySem.HandSPX.excO C hp.objs.size)).get? (hp.objs.size + 1) = some (PySem.HandSPX.excO C hp.objs.size) := by heap_get
  have I2 : Inv X pins σ (upd H (hp.objs.size + 1) (exo (hp.objs.size + 1) C none)) ⟨(hp.push (PySem.W.kdv_tup us)).push (PySem.HandSPX.excO C hp.objs.size), g, dr, tk, os⟩ :=
    I.laid (t' := tk) (a := hp.objs.size + 1) (o := exo (hp.objs.size + 1) C none) (h' := (hp.push (PySem.W.kdv_tup us)).push (PySem.HandSPX.excO C hp.objs.size)) kk (Nat.le_succ _) (exo_ok hget)
  refine wpAny_call (kwCall F.excBase_ValueError (fun Y => PySem.HandSPX.refsVE_contains Y bm hbm) (I.kIn _ _ hC) (looks_findIn I.kIn T.ini) (fun self => bind_fn I.kIn self T.tyI) hl (hini _ _ _ I2 hn fun dx s' hd hne I3 => ?_))
  rw [mkH_over] at I3
  exact ⟨rfl, h _ dx s' hn (by rw [upd_ne hne] at hd; exact hd) hne I3⟩
end

/-! ### the rules -/
def tMk1 (C : Addr) (f : Str) (te : TE) : TE := fun σ H Q => te σ H fun y H1 => ∀ b dx : Addr, H1 b = none → H1 dx = none → dx ≠ b → Q (.ref b) (mkH H1 b C dx [(f, y)])
/-- the texts of an own error class with one field -/
structure X1 (prog : Program) (K : Frag) (C : Addr) (f : Str) : Prop where
  ex : ∃ (fI : Addr) (qual : Str) (params : Arguments) (scope : Scope) (msg : Str) (j : Nat) (p0 p1 p2 p3 p4 p5 q0 q1 q2 q3 : Pos), (p2.endLine == p4.line) = true ∧ XF prog K C fI qual params [sSuper msg j p0 p1 p2 p3 p4 p5, sPut f q0 q1 q2 q3] scope ∧ ScI params scope [f] ∧
    (∀ (kV doc pm : Value) (an : Option Addr) (cdv ct : Value) (cc : Addr) (a u : Value), bindArgs (ksFn "__init__" qual params [sSuper msg j p0 p1 p2 p3 p4 p5, sPut f q0 q1 q2 q3] scope .none kV doc pm an cdv ct cc) ⟨[a, u], []⟩ = pure [(("self" : Str), a), (f, u)]) ∧
    (∀ (kV doc pm : Value) (an : Option Addr) (cdv ct : Value) (cc : Addr) (a u : Value), bindArgs (ksFn "__init__" qual params [sSuper msg j p0 p1 p2 p3 p4 p5, sPut f q0 q1 q2 q3] scope .none kV doc pm an cdv ct cc) ⟨[a], [(f, u)]⟩ = pure [(("self" : Str), a), (f, u)])
  fs : (f == ("self" : Str)) = false
  fd : (f == ("__debug__" : Str)) = false
  no : findIn K (.ref C) f = some none
  kC : keepIn K (.ref C) = true
theorem under_depth {A : Around} {C : Addr} {us : List Value} {kw : List (Str × Value)} {k : Nat} (hr : Room k A) : (A.under (.builtin "type.__call__" ⟨.ref C :: us, kw⟩)).depth < recursionLimit := by
  rw [make_depth]
  have := hr.dp
  omega

section
variable {X : Cx} {C : Addr} {f x : Str} {e : Expr} {te : TE} {p pos kp : Pos} {pins : List (Addr × Obj)} {σ : L2.St} {H : Hp} {s : Shared} {E : Value → Shared → Prop}
theorem run_mk1 (T : X1 X.prog X.K C f) (hr : Room 1 X.A) (I : Inv X pins σ H s) {y : V} {u : Value} {Q : VK} (ry : RelV y u) (h : ∀ b dx : Addr, H b = none → H dx = none → dx ≠ b → Q (.ref b) (mkH H b C dx [(f, y)])) :
    wpAny (model X.prog X.w) X.A (call (.ref C) [u]) (EP X pins σ Q) E s := by
  obtain ⟨fI, qual, params, scope, msg, j, p0, p1, p2, p3, p4, p5, q0, q1, q2, q3, hpos, T1, S, b1, b2⟩ := T.ex
  refine call_mk (fs := [(f, y)]) T1 I hr (by rw [sizeLine_eq]; exact Nat.le_of_ble_eq_true rfl) (fun b s1 R I1 hb k => ?_) fun b dx s' n1 n2 ne J => ⟨.ref b, _, J, rfl, h b dx n1 n2 ne⟩
  exact init1 hpos T1 S I1 upd_same ry (under_depth hr) (fun kV doc pm an cdv ct cc => b1 kV doc pm an cdv ct cc _ _) T.fs T.fd T.no k
theorem run_mk1k (T : X1 X.prog X.K C f) (hr : Room 1 X.A) (I : Inv X pins σ H s) {y : V} {u : Value} {Q : VK} (ry : RelV y u) (h : ∀ b dx : Addr, H b = none → H dx = none → dx ≠ b → Q (.ref b) (mkH H b C dx [(f, y)])) :
    wpAny (model X.prog X.w) X.A (call (.ref C) [] [(f, u)]) (EP X pins σ Q) E s := by
  obtain ⟨fI, qual, params, scope, msg, j, p0, p1, p2, p3, p4, p5, q0, q1, q2, q3, hpos, T1, S, b1, b2⟩ := T.ex
  refine call_mk (fs := [(f, y)]) T1 I hr (by rw [sizeLine_eq]; exact Nat.le_of_ble_eq_true rfl) (fun b s1 R I1 hb k => ?_) fun b dx s' n1 n2 ne J => ⟨.ref b, _, J, rfl, h b dx n1 n2 ne⟩
  exact init1 hpos T1 S I1 upd_same ry (under_depth hr) (fun kV doc pm an cdv ct cc => b2 kV doc pm an cdv ct cc _ _) T.fs T.fd T.no k
end
end Kz
namespace Kz
open PySem PySem.W PySem.Calls PyProof.Rows L2
section
variable {X : Cx} {C : Addr} {f x : Str} {e : Expr} {te : TE} {p pos kp : Pos} {pins : List (Addr × Obj)} {σ : L2.St} {H : Hp} {s : Shared} {E : Value → Shared → Prop}
/-- C(e) -/
theorem pe_mk1 (T : X1 X.prog X.K C f) (hr : Room 1 X.A) (hg : Gl X x) (hm : X.mg x = some (.ref C)) (he : PE X e te) (hdb : (x == ("__debug__" : Str)) = false := by decide)
    (hs : starEach [e] X.env = (false, eval e X.env) :: starEach [] X.env := by rfl) : PE X (.Call (.Name x p) [e] [] pos) (tMk1 C f te) := by
  refine ⟨fun pins s σ H Q I h => ?_⟩
  refine wpAny_Call_Name_kw (ld_glob I hg hm ?_ hdb)
  refine callWith_K (h₀ := X.base) I.ok.mod.kin T.kC (thn ((pa_cons he pa_nil hs).run pos pins s σ H (fun vs H1 => match vs with | [y] => ∀ b dx : Addr, H1 b = none → H1 dx = none → dx ≠ b → Q (.ref b) (mkH H1 b C dx [(f, y)]) | _ => False) I h) fun us s1 ⟨vs, H1, I1, r1, q⟩ => ⟨I1.kIn, ?_⟩) hs (by rfl)
  cases r1 with
  | nil => exact q.elim
  | cons ry r2 =>
    cases r2 with
    | nil => exact run_mk1 T hr I1 ry q
    | cons _ _ => exact q.elim
/-- C(f = e) -/
theorem pe_mk1k (T : X1 X.prog X.K C f) (hr : Room 1 X.A) (hg : Gl X x) (hm : X.mg x = some (.ref C)) (he : PE X e te) (hdb : (x == ("__debug__" : Str)) = false := by decide) : PE X (.Call (.Name x p) [] [⟨some f, e, kp⟩] pos) (tMk1 C f te) := by
  refine ⟨fun pins s σ H Q I h => ?_⟩
  refine wpAny_Call_Name_kw (ld_glob I hg hm ?_ hdb)
  refine callWith_KW0 (h₀ := X.base) I.ok.mod.kin T.kC (by rfl) ?_ (by rfl)
  refine thn ((pk_cons he pk_nil).run pos pins s σ H (fun vs H1 => match vs with | [y] => ∀ b dx : Addr, H1 b = none → H1 dx = none → dx ≠ b → Q (.ref b) (mkH H1 b C dx [(f, y)]) | _ => False) I h) fun us s1 ⟨vs, H1, I1, r1, q⟩ => ⟨I1.kIn, ?_⟩
  cases r1 with
  | nil => exact q.elim
  | cons ry r2 =>
    cases r2 with
    | nil => exact run_mk1k T hr I1 ry q
    | cons _ _ => exact q.elim
end

/-! ### two fields -/
def tMk2 (C : Addr) (f g : Str) (te th : TE) : TE := fun σ H Q => te σ H fun y H1 => th σ H1 fun z H2 => ∀ b dx : Addr, H2 b = none → H2 dx = none → dx ≠ b → Q (.ref b) (mkH H2 b C dx [(g, z), (f, y)])
/-- .. by keywords, the second one ahead -/
def tMk2k (C : Addr) (f g : Str) (te th : TE) : TE := fun σ H Q => th σ H fun z H1 => te σ H1 fun y H2 => ∀ b dx : Addr, H2 b = none → H2 dx = none → dx ≠ b → Q (.ref b) (mkH H2 b C dx [(g, z), (f, y)])
structure X2 (prog : Program) (K : Frag) (C : Addr) (f g : Str) : Prop where
  ex : ∃ (fI : Addr) (qual : Str) (params : Arguments) (scope : Scope) (msg : Str) (j : Nat) (p0 p1 p2 p3 p4 p5 q0 q1 q2 q3 r0 r1 r2 r3 : Pos), (p2.endLine == p4.line) = true ∧ XF prog K C fI qual params [sSuper msg j p0 p1 p2 p3 p4 p5, sPut f q0 q1 q2 q3, sPut g r0 r1 r2 r3] scope ∧ ScI params scope [f, g] ∧
    (∀ (kV doc pm : Value) (an : Option Addr) (cdv ct : Value) (cc : Addr) (a u v : Value), bindArgs (ksFn "__init__" qual params [sSuper msg j p0 p1 p2 p3 p4 p5, sPut f q0 q1 q2 q3, sPut g r0 r1 r2 r3] scope .none kV doc pm an cdv ct cc) ⟨[a, u, v], []⟩ = pure [(("self" : Str), a), (f, u), (g, v)]) ∧
    (∀ (kV doc pm : Value) (an : Option Addr) (cdv ct : Value) (cc : Addr) (a u v : Value), bindArgs (ksFn "__init__" qual params [sSuper msg j p0 p1 p2 p3 p4 p5, sPut f q0 q1 q2 q3, sPut g r0 r1 r2 r3] scope .none kV doc pm an cdv ct cc) ⟨[a], [(g, v), (f, u)]⟩ = pure [(("self" : Str), a), (f, u), (g, v)])
  fs : (f == ("self" : Str)) = false
  gs : (g == ("self" : Str)) = false
  fg : (g == f) = false
  fd : (f == ("__debug__" : Str)) = false
  gd : (g == ("__debug__" : Str)) = false
  no : findIn K (.ref C) f = some none
  no2 : findIn K (.ref C) g = some none
  kC : keepIn K (.ref C) = true
section
variable {X : Cx} {C : Addr} {f g x : Str} {e e2 : Expr} {te th : TE} {p pos kp kp2 : Pos} {pins : List (Addr × Obj)} {σ : L2.St} {H : Hp} {s : Shared} {E : Value → Shared → Prop}
theorem run_mk2 (T : X2 X.prog X.K C f g) (hr : Room 1 X.A) (I : Inv X pins σ H s) {y z : V} {u v : Value} {Q : VK} (ry : RelV y u) (rz : RelV z v) (h : ∀ b dx : Addr, H b = none → H dx = none → dx ≠ b → Q (.ref b) (mkH H b C dx [(g, z), (f, y)])) :
    wpAny (model X.prog X.w) X.A (call (.ref C) [u, v]) (EP X pins σ Q) E s ∧ wpAny (model X.prog X.w) X.A (call (.ref C) [] [(g, v), (f, u)]) (EP X pins σ Q) E s := by
  obtain ⟨fI, qual, params, scope, msg, j, p0, p1, p2, p3, p4, p5, q0, q1, q2, q3, r0, r1, r2, r3, hpos, T1, S, b1, b2⟩ := T.ex
  constructor
  · refine call_mk (fs := [(g, z), (f, y)]) T1 I hr (by rw [sizeLine_eq]; exact Nat.le_of_ble_eq_true rfl) (fun b s1 R I1 hb k => ?_) fun b dx s' n1 n2 ne J => ⟨.ref b, _, J, rfl, h b dx n1 n2 ne⟩
    exact init2 hpos T1 S I1 upd_same ry rz (under_depth hr) (fun kV doc pm an cdv ct cc => b1 kV doc pm an cdv ct cc _ _ _) T.fs T.gs T.fg T.fd T.gd T.no T.no2 k
  · refine call_mk (fs := [(g, z), (f, y)]) T1 I hr (by rw [sizeLine_eq]; exact Nat.le_of_ble_eq_true rfl) (fun b s1 R I1 hb k => ?_) fun b dx s' n1 n2 ne J => ⟨.ref b, _, J, rfl, h b dx n1 n2 ne⟩
    exact init2 hpos T1 S I1 upd_same ry rz (under_depth hr) (fun kV doc pm an cdv ct cc => b2 kV doc pm an cdv ct cc _ _ _) T.fs T.gs T.fg T.fd T.gd T.no T.no2 k
/-- C(e, e2) -/
theorem pe_mk2 (T : X2 X.prog X.K C f g) (hr : Room 1 X.A) (hg : Gl X x) (hm : X.mg x = some (.ref C)) (he : PE X e te) (he2 : PE X e2 th) (hdb : (x == ("__debug__" : Str)) = false := by decide)
    (hs : starEach [e, e2] X.env = (false, eval e X.env) :: starEach [e2] X.env := by rfl) (hs2 : starEach [e2] X.env = (false, eval e2 X.env) :: starEach [] X.env := by rfl) (hpl : (backTo pos (starEach [e2] X.env)).any (·.1) = false := by rfl) :
    PE X (.Call (.Name x p) [e, e2] [] pos) (tMk2 C f g te th) := by
  refine ⟨fun pins s σ H Q I h => ?_⟩
  refine wpAny_Call_Name_kw (ld_glob I hg hm ?_ hdb)
  refine callWith_K (h₀ := X.base) I.ok.mod.kin T.kC (thn ((pa_cons he (pa_cons he2 pa_nil hs2) hs).run pos pins s σ H (fun vs H1 => match vs with | [y, z] => ∀ b dx : Addr, H1 b = none → H1 dx = none → dx ≠ b → Q (.ref b) (mkH H1 b C dx [(g, z), (f, y)]) | _ => False) I h) fun us s1 ⟨vs, H1, I1, r1, q⟩ => ⟨I1.kIn, ?_⟩) hs hpl
  cases r1 with
  | nil => exact q.elim
  | cons ry r2 =>
    cases r2 with
    | nil => exact q.elim
    | cons rz r3 =>
      cases r3 with
      | nil => exact (run_mk2 T hr I1 ry rz q).1
      | cons _ _ => exact q.elim
/-- C(g = e2, f = e) -/
theorem pe_mk2k (T : X2 X.prog X.K C f g) (hr : Room 1 X.A) (hg : Gl X x) (hm : X.mg x = some (.ref C)) (he : PE X e te) (he2 : PE X e2 th) (hdb : (x == ("__debug__" : Str)) = false := by decide) :
    PE X (.Call (.Name x p) [] [⟨some g, e2, kp2⟩, ⟨some f, e, kp⟩] pos) (tMk2k C f g te th) := by
  refine ⟨fun pins s σ H Q I h => ?_⟩
  refine wpAny_Call_Name_kw (ld_glob I hg hm ?_ hdb)
  refine callWith_KW0 (h₀ := X.base) I.ok.mod.kin T.kC (by rfl) ?_ (by rfl)
  refine thn ((pk_cons he2 (pk_cons he pk_nil)).run pos pins s σ H (fun vs H1 => match vs with | [z, y] => ∀ b dx : Addr, H1 b = none → H1 dx = none → dx ≠ b → Q (.ref b) (mkH H1 b C dx [(g, z), (f, y)]) | _ => False) I h) fun us s1 ⟨vs, H1, I1, r1, q⟩ => ⟨I1.kIn, ?_⟩
  cases r1 with
  | nil => exact q.elim
  | cons rz r2 =>
    cases r2 with
    | nil => exact q.elim
    | cons ry r3 =>
      cases r3 with
      | nil => exact (run_mk2 T hr I1 ry rz q).2
      | cons _ _ => exact q.elim
end
end Kz
namespace Kz
open PySem PySem.W PySem.Calls PyProof.Rows L2 LamX

section
variable {X : Cx} {pins : List (Addr × Obj)} {σ : L2.St} {H : Hp} {s : Shared} {a C dx : Addr} {A : Around} {E : Value → Shared → Prop} {fs : List (Str × V)}

/-- the error's own look, for the library's rules -/
theorem exo_inst (I : Inv X pins σ H s) (ea : H a = some (exo a C (some dx))) (ed : H dx = some (exd dx fs)) :
    ∃ (ox od : Obj), InstAt s.heap a ox C (some od) ∧ ∀ n v, fs.lookup n = some v → ∃ u, lookIn n od = some (some u) ∧ RelV v u := by
  obtain ⟨t1, ho⟩ := exo_at I.hok ea
  obtain ⟨mA, hns, rel⟩ := exd_at I.hok ed
  obtain ⟨od, hd, hl⟩ := lookIn_ns hns
  refine ⟨_, od, ⟨ho, rfl, rfl, hd⟩, fun n v e => ?_⟩
  obtain ⟨u, hu, ru⟩ := RelO.some_of (v := v) (o := mA n) (by rw [← e]; exact rel n)
  exact ⟨u, by rw [hl, hu], ru⟩
/-- e.f -/
theorem get_fld {n : Str} {v : V} {expr : Bool} {Q : Value → Shared → Prop} (T : XfC X.K C) (hno : findIn X.K (.ref C) n = some none) (I : Inv X pins σ H s) (ea : H a = some (exo a C (some dx))) (ed : H dx = some (exd dx fs)) (hl : fs.lookup n = some v)
    (h : ∀ u, RelV v u → Q u { s with toks := s.toks + 1 }) : wpAny (model X.prog X.w) A (getAttr (.ref a) n expr) Q E s := by
  obtain ⟨ox, od, J, look⟩ := exo_inst I ea ed
  obtain ⟨u, hu, ru⟩ := look n v hl
  exact HandSPX.exc_get I.kIn J T.ga T.gg T.exC (findObj_own T.hdC hno rfl hu) (handed_of ru) (h u ru)
end

/-! ### a lambda of one parameter e that hands back a list of e's fields -/
inductive Flds : List Expr → List Str → Prop
  | nil : Flds [] []
  | cons {es : List Expr} {gs : List Str} {g : Str} {p q : Pos} (h : Flds es gs) : Flds (.Attribute (.Name "e" p) g q :: es) (g :: gs)
structure LamGood (params : Arguments) (body : Expr) (scope : Scope) (gs : List Str) : Prop where
  bind : ∀ (q : Str) (pm cv ctv u : Value), bindArgs (kla_fn "<lambda>" q params body scope [] pm cv ctv) ⟨[u], []⟩ = pure [(("e" : Str), u)]
  loc : scope.names.lookup ("e" : Str) = some .local
  cell : ∀ y ∈ scope.names, y.2 ≠ .cell
  kind : scope.kind = .function
  co : scope.isCoroutine = false
  gen : scope.isGenerator = false
  body : ∃ es pos, body = .List es pos ∧ Flds es gs
/-- the function object of such a lambda -/
def LamO (f c' : Addr) (q : Str) (params : Arguments) (body : Expr) (scope : Scope) : HO := .ext fun h => ∃ pm ctv : Value, h.get? f = some (kla_obj "<lambda>" q params body scope [] pm c' ctv)
theorem lamO_ok {P : Program} {w : World} {H : Hp} {h : Heap} {f c' : Addr} {q : Str} {params : Arguments} {body : Expr} {scope : Scope} {pm ctv : Value} (e : h.get? f = some (kla_obj "<lambda>" q params body scope [] pm c' ctv)) : ObjOk P w H h f (LamO f c' q params body scope) :=
  ⟨⟨pm, ctv, e⟩, ⟨_, e⟩, fun h1 h2 ⟨pm, ctv, e⟩ k => ⟨pm, ctv, k _ e⟩⟩

section
variable {X : Cx} {pins : List (Addr × Obj)} {σ : L2.St} {H : Hp} {s : Shared} {a C dx : Addr} {A : Around} {E : Value → Shared → Prop} {fs : List (Str × V)}
/-- its making -/
def tLamV (T : List (Addr × Str)) (q : Str) (params : Arguments) (body : Expr) (scope : Scope) : TE := fun σ H Q => Tabs T H ∧ ∀ (f c' : Addr) (H1 : Hp), ExtN H H1 → Tabs T H1 → H1 c' = some (CodeO c' q) → H1 f = none → Q (.ref f) (upd H1 f (LamO f c' q params body scope))
theorem pe_lam {T : List (Addr × Str)} {c P : Addr} {params : Arguments} {body : Expr} {scope : Scope} {pos : Pos} (TB : TabB X.base X.mg c P) (hcode : X.env.code = .ref c) (hm : (P, X.env.qual ++ "<lambda>") ∈ T) (hu : ∀ p ∈ T, p.1 = P → p.2 = X.env.qual ++ "<lambda>")
    (hdef : defaultsOf params X.env = ([], [])) (hcl : closureFor scope X.env = pure []) : PE X (.Lambda params body scope pos) (tLamV T (X.env.qual ++ "<lambda>") params body scope) := by
  refine ⟨fun pins s σ H Q I h => ?_⟩
  obtain ⟨hT, h⟩ := h
  obtain ⟨ps, hP, ht, ha⟩ := hT _ hm
  have bP : s.heap.BuiltinsAt X.mg P := TB.bm.keeps I.bk
  have hPs : s.heap.get? P = some { cls := .none, data := .fields ps } := I.hok P _ hP
  refine kla_eval hdef ?_
  cases hc : codeAmong pos ps.toList with
  | none =>
    refine kla_makeFunction (mg := X.mg) (c := c) (P := P) (ps := ps) hcl I.ok.glob (I.mod.glob.keeps I.bk) hcode (TB.code.keeps I.bk) hPs ht hc TB.gP bP fun c' ctv h1 tk hx hge hlt hrec htb => ?_
    obtain ⟨c2, oc, vs, t, e2, hoc, hd, hv⟩ := hrec
    cases e2
    have nC : H c' = none := I.hok.fresh hge
    have I1 := inv_table (t' := tk) (q := X.env.qual ++ "<lambda>") (more := #[rawInt pos.line, rawInt pos.col, .ref c']) (h' := h1) I hP hx htb hge ⟨oc, vs, t, hoc, hd, hv⟩
    have hE : ExtN H (upd (upd H P (.tbl (ps ++ #[rawInt pos.line, rawInt pos.col, .ref c']))) c' (CodeO c' (X.env.qual ++ "<lambda>"))) := fun b o e n => by
      have b1 : b ≠ P := fun z => by
        rw [z, hP] at e
        exact n ps (Option.some.inj e).symm
      rw [upd_ne (ne_of_none e nC), upd_ne b1]
      exact e
    have eL : (ps ++ #[rawInt pos.line, rawInt pos.col, .ref c']).toList = ps.toList ++ [rawInt pos.line, rawInt pos.col, .ref c'] := by simp
    have I2 := I1.laid (a := h1.objs.size) (t' := tk) (o := LamO h1.objs.size c' (X.env.qual ++ "<lambda>") params body scope) (h' := h1.push (kla_obj "<lambda>" (X.env.qual ++ "<lambda>") params body scope [] ((X.mg "__name__").getD .none) c' ctv))
      (fun b u e => Heap.get?_push_of_some _ e) (Nat.le_refl _) (lamO_ok (Heap.get?_push_size _ rfl))
    have hsz : s.heap.objs.size ≤ h1.objs.size := Nat.le_trans hge (Nat.le_of_lt hlt)
    refine ⟨.ref h1.objs.size, _, I2, rfl, h _ c' _ hE (fun p hp => ?_) upd_same (I1.hok.fresh (Nat.le_refl _))⟩
    by_cases hb : p.1 = P
    · rw [hu p hp hb, hb]
      refine ⟨_, by rw [upd_ne (ne_of_none hP nC), upd_same], by rw [eL]; exact PySem.TriplesOk_snoc _ _ _ _ ht, fun p' cv hcv => ?_⟩
      rw [eL] at hcv
      rcases among_app _ ht hcv with z | z
      · obtain ⟨c0, e1, e2⟩ := ha p' cv z
        exact ⟨c0, e1, hE _ _ e2 codeO_ne⟩
      · exact ⟨c', z, upd_same⟩
    · obtain ⟨ps', a1, a2, a3⟩ := hT p hp
      refine ⟨ps', by rw [upd_ne (ne_of_none a1 nC), upd_ne hb]; exact a1, a2, fun p' cv hcv => ?_⟩
      obtain ⟨c0, e1, e2⟩ := a3 p' cv hcv
      exact ⟨c0, e1, hE _ _ e2 codeO_ne⟩
  | some cv =>
    obtain ⟨c', e, hco⟩ := ha pos cv hc
    subst e
    refine kla_makeFunctionHit (mg := X.mg) (c := c) (P := P) (ps := ps) hcl I.ok.glob (I.mod.glob.keeps I.bk) hcode (TB.code.keeps I.bk) hPs ht hc bP fun ctv h1 tk hx hsz => ?_
    have I1 : Inv X pins σ H { s with heap := h1, toks := tk } := I.kept hx
    have I2 := I1.laid (a := h1.objs.size) (t' := tk) (o := LamO h1.objs.size c' (X.env.qual ++ "<lambda>") params body scope) (h' := h1.push (kla_obj "<lambda>" (X.env.qual ++ "<lambda>") params body scope [] ((X.mg "__name__").getD .none) c' ctv))
      (fun b u e => Heap.get?_push_of_some _ e) (Nat.le_refl _) (lamO_ok (Heap.get?_push_size _ rfl))
    exact ⟨.ref h1.objs.size, _, I2, rfl, h _ c' H (ExtN.refl H) hT hco (I1.hok.fresh (Nat.le_refl _))⟩

/-- the fields, one by one -/
theorem ev_flds {L : Addr} {oL : Obj} {env : Env} {pos : Pos} (T : XfC X.K C) (hk : env.scope.kind = .function) (hl : env.kindOf ("e" : Str) = some .local) (hL : env.locals = L)
    (back : ∀ s2 : Shared, s2.heap.get? L = some oL → s2.heap.Ns L (fun x => [(("e" : Str), Value.ref a)].reverse.lookup x)) (ea : H a = some (exo a C (some dx))) (ed : H dx = some (exd dx fs)) :
    ∀ {es : List Expr} {gs : List Str} (_ : Flds es gs) (vals : List V), gs.map (fun g => fs.lookup g) = vals.map some → (∀ g ∈ gs, findIn X.K (.ref C) g = some none) → ∀ (s : Shared) (Q : List Value → Shared → Prop), Inv X ((L, oL) :: pins) σ H s →
      (∀ us s', Vals vals us → Inv X ((L, oL) :: pins) σ H s' → Q us s') → wpAny (model X.prog X.w) A (spliced (backTo pos (starEach es env))) Q E s := by
  intro es gs F
  induction F with
  | nil =>
    intro vals hv _ s Q I h
    cases vals with
    | nil => exact Calls.spliced_nil (h [] s .nil I)
    | cons v r => simp at hv
  | @cons es gs g p q F ih =>
    intro vals hv hno s Q I h
    cases vals with
    | nil => simp at hv
    | cons v r =>
      simp only [List.map_cons, List.cons.injEq] at hv
      refine Calls.spliced_cons (x := eval (.Attribute (.Name "e" p) g q) env) (rest := backTo pos (starEach es env)) ?_
      refine attr_of (by rfl) ?_
      refine ESX.ldL (by rw [hL]; exact back _ (pin_at I)) (v := .ref a) (by simp [List.lookup]) ?_ hk hl (by decide)
      refine get_fld T (hno g (by simp)) I ea ed hv.1 (fun u ru => ?_)
      exact ih r hv.2 (fun g' hg' => hno g' (by simp [hg'])) _ _ (I.tok _) fun us s' rv I' => h (u :: us) s' (.cons ru rv) I'
end
end Kz
namespace Kz
open PySem PySem.W PySem.Calls PyProof.Rows L2 LamX

section
variable {X : Cx} {pins : List (Addr × Obj)} {σ : L2.St} {H : Hp} {s : Shared} {a C dx f c' : Addr} {A : Around} {E : Value → Shared → Prop} {fs : List (Str × V)}
/-- such a lambda called with an error -/
theorem call_lam {q : Str} {params : Arguments} {body : Expr} {scope : Scope} {gs : List Str} {vals : List V} {Q : VK} (G : LamGood params body scope gs) (hr : Room 1 X.A) (I : Inv X pins σ H s) (hf : H f = some (LamO f c' q params body scope)) (hc : H c' = some (CodeO c' q))
    (T : XfC X.K C) (ea : H a = some (exo a C (some dx))) (ed : H dx = some (exd dx fs)) (hv : gs.map (fun g => fs.lookup g) = vals.map some) (hno : ∀ g ∈ gs, findIn X.K (.ref C) g = some none) (hl : vals.length ≤ 1000)
    (h : ∀ l, H l = none → l ≠ sysModules → Q (.ref l) (upd H l (.lst vals))) : wpAny (model X.prog X.w) X.A (call (.ref f) [.ref a]) (EP X pins σ Q) E s := by
  obtain ⟨es, pos, hb, F⟩ := G.body
  obtain ⟨⟨pm, ctv, of⟩, _, _⟩ := I.hok f _ hf
  obtain ⟨⟨oc, vs, t, hoc, hdc, hvc⟩, _, _⟩ := I.hok c' _ hc
  refine wpAny_call (kla_callFunE hr.depth of rfl G.co G.gen rfl ⟨c', oc, vs, t, rfl, hoc, hdc, hvc⟩ ?_)
  rw [G.bind]
  refine wpAny_pure (wpAny_newFunctionEnv G.cell (fun y hy => ?_) (fun h₁ hns hsb => ⟨I.nolimit.fresh _ hsb, ?_⟩) G.kind)
  · rcases List.mem_cons.mp hy with rfl | hy
    · exact G.loc
    · cases hy
  show codeAny _ _ (.expr body (envX q scope s.heap.objs.size f (.ref c') [])) _ _
  have kp : ∀ b o, s.heap.get? b = some o → h₁.get? b = some o := fun b o e => hsb.extBut b o (Nat.ne_of_lt (Heap.lt_size e)) (Heap.get?_push_of_some _ e)
  have I1 := I.kept (t' := s.toks + 1) kp
  obtain ⟨oL, I2, _, _, _, back⟩ := pinned I1 hns (I.hok.fresh (Nat.le_refl _)) (Nat.ne_of_gt I.lt) (I.nofs (Nat.le_refl _))
  subst hb
  refine kla_codeExpr (wpAny_List_spliced ?_)
  refine ev_flds (L := s.heap.objs.size) (env := envX q scope s.heap.objs.size f (.ref c') []) T G.kind G.loc rfl back ea ed F vals hv hno _ _ I2 fun us s' rv I3 => ⟨?_, ?_⟩
  · rw [← rv.length, sizeLine_eq]
    omega
  · have I4 := (unpin I3).laid (a := s'.heap.objs.size) (t' := s'.toks) (o := .lst vals) (h' := s'.heap.push { cls := .type "list", data := .seq us.toArray }) (fun b u e => Heap.get?_push_of_some _ e) (Nat.le_refl _)
      ⟨by rw [sizeLine_eq]; omega, us, 0, rv, Heap.get?_push_size _ rfl⟩
    exact ⟨.ref s'.heap.objs.size, _, I4, rfl, h _ ((unpin I3).hok.fresh (Nat.le_refl _)) (Nat.ne_of_gt I3.big)⟩

/-- x(e), x a local name that holds such a lambda -/
def tLamC (K : Frag) (i : Nat) (te : TE) : TE := fun σ H Q => ∃ (f c' : Addr) (q : Str) (params : Arguments) (body : Expr) (scope : Scope), σ[i]? = some (some (.ref f)) ∧ H f = some (LamO f c' q params body scope) ∧
  te σ H fun y H1 => ∃ (gs : List Str) (vals : List V) (a C dx : Addr) (fs : List (Str × V)), LamGood params body scope gs ∧ H1 f = some (LamO f c' q params body scope) ∧ H1 c' = some (CodeO c' q) ∧ y = .ref a ∧ XfC K C ∧ H1 a = some (exo a C (some dx)) ∧ H1 dx = some (exd dx fs) ∧
    gs.map (fun g => fs.lookup g) = vals.map some ∧ (∀ g ∈ gs, findIn K (.ref C) g = some none) ∧ vals.length ≤ 1000 ∧ ∀ l, H1 l = none → l ≠ sysModules → Q (.ref l) (upd H1 l (.lst vals))
theorem fnAt {q : Str} {params : Arguments} {body : Expr} {scope : Scope} (I : Inv X pins σ H s) (hf : H f = some (LamO f c' q params body scope)) : FnAt f s.heap := by
  obtain ⟨⟨pm, ctv, e⟩, _, _⟩ := I.hok f _ hf
  exact ⟨_, _, _, _, e⟩
theorem pe_lamC {i : Nat} {x : Str} {e : Expr} {te : TE} {p pos : Pos} (hr : Room 1 X.A) (hN : X.N[i]? = some x) (hv : Vis X.env.scope x) (he : PE X e te) (hdb : (x == ("__debug__" : Str)) = false := by decide) (hcd : (x == ("__classdict__" : Str)) = false := by decide)
    (hs : starEach [e] X.env = (false, eval e X.env) :: starEach [] X.env := by rfl) : PE X (.Call (.Name x p) [e] [] pos) (tLamC X.K i te) := by
  refine ⟨fun pins s σ H Q I h => ?_⟩
  obtain ⟨f, c', q, params, body, scope, h0, hf, ht⟩ := h
  refine wpAny_Call_Name_kw (thn ((pe_var (pos := p) hN hv hdb hcd).run pins s σ H (fun v H1 => v = .ref f ∧ H1 = H) I ⟨.ref f, h0, rfl, rfl⟩) fun u s1 ⟨v, H1, I1, r1, q1⟩ => ?_)
  obtain ⟨rfl, rfl⟩ := q1
  obtain rfl : u = Value.ref f := r1
  refine callWith_F (fnAt I1 hf) ?_ hs (by rfl)
  rw [hs]
  refine Calls.spliced_cons (thn (he.run pins s1 σ H1 _ I1 ht) fun w s2 ⟨y, H2, I2, r2, gs, vals, a, C, dx, fs, G, hf2, hc, ey, T, ea, ed, hv, hno, hl, k⟩ => Calls.spliced_nil ⟨fnAt I2 hf2, ?_⟩)
  subst ey
  obtain rfl : w = Value.ref a := r2
  exact call_lam G hr I2 hf2 hc T ea ed hv hno hl k

/-! ### isinstance of an own error -/
/-- what the written part says of the class for isinstance -/
structure XiC (K : Frag) (C : Addr) : Prop where
  xf : XfC K C
  cl : (clsIn K C).isSome = true
  ha : findIn K (.ref C) "__class__" = some (some (.builtin "object.__class__"))
  hn : specialIn K (.builtin "object.__class__") "__get__" = some (some (.builtin "getset_descriptor.__get__"))
  tk : takesIn K (.builtin "object.__class__") = some true
  hm : mroIn K C (.type "object") = some true
/-- an own error, with its dict or without one -/
def IsErr (H : Hp) (a C : Addr) : Prop := H a = some (exo a C none) ∨ ∃ (dx : Addr) (fs : List (Str × V)), H a = some (exo a C (some dx)) ∧ H dx = some (exd dx fs)
theorem isErr_inst (I : Inv X pins σ H s) (h : IsErr H a C) : ∃ (ox : Obj) (od : Option Obj), InstAt s.heap a ox C od := by
  rcases h with e | ⟨dx, fs, ea, ed⟩
  · obtain ⟨t1, ho⟩ := exo_at I.hok e
    exact ⟨_, none, ho, rfl, rfl, trivial⟩
  · obtain ⟨ox, od, J, _⟩ := exo_inst I ea ed
    exact ⟨ox, some od, J⟩
/-- isinstance(x, c), one class -/
def rIsE (K : Frag) : List V → Hp → VK → Prop := fun xs H Q => ∃ (a C : Addr) (c : V) (u : Value) (b : Bool), xs = [.ref a, c] ∧ IsErr H a C ∧ XiC K C ∧ ClsV c u ∧ kitOne K (.ref C) u = some b ∧ Q (.bl b) H
theorem call_isE : CallR X (.builtin "isinstance") (rIsE X.K) := by
  intro pins s σ H xs us Q I r h
  obtain ⟨a, C, c, u, b, rfl, he, T, k, e, q⟩ := h
  obtain ⟨u1, u2, rfl, r1, r2⟩ := vals2 r
  have e2 := k.eq r2
  subst e2
  obtain rfl : u1 = Value.ref a := r1
  obtain ⟨ox, od, J⟩ := isErr_inst I he
  exact kia_one (kitx_exc T.cl T.xf.ga T.xf.gg T.xf.exC T.ha T.hn T.tk T.hm) I.kIn J e (fun z => nomatch z) fun tk => ⟨.bl b, H, I.tok tk, rfl, q⟩
end
end Kz
namespace Kz
open PySem PySem.W PySem.Calls PyProof.Rows L2 LamX

/-! ### plain data over the abstract heap, and repr -/
mutual
inductive Rd (H : Hp) : V → PyData → List Addr → Prop
  | non : Rd H .non .none []
  | bl (b : Bool) : Rd H (.bl b) (.bool b) []
  | int (i : Int) : Rd H (.int i) (.int i) []
  | str (x : Str) : Rd H (.str x) (.str x) []
  | lst {a : Addr} {xs : List V} {ds : List PyData} {as : List Addr} : H a = some (.lst xs) → RdAll H xs ds as → Rd H (.ref a) (.list ds) (a :: as)
  | tup {a : Addr} {xs : List V} {ds : List PyData} {as : List Addr} : H a = some (.tup xs) → RdAll H xs ds as → Rd H (.ref a) (.tuple ds) as
  | dct {a : Addr} {k : Str} {v : V} {d : PyData} {as : List Addr} : H a = some (.dK [(.inr k, v)]) → Rd H v d as → Rd H (.ref a) (.dict [(.str k, d)]) (a :: (([] : List Addr) ++ []) ++ (as ++ []))
inductive RdAll (H : Hp) : List V → List PyData → List Addr → Prop
  | nil : RdAll H [] [] []
  | cons {v : V} {vs : List V} {d : PyData} {ds : List PyData} {as bs : List Addr} : Rd H v d as → RdAll H vs ds bs → RdAll H (v :: vs) (d :: ds) (as ++ bs)
end
mutual
theorem Rd.ext {H H1 : Hp} (e : ExtN H H1) : ∀ {v : V} {d : PyData} {as : List Addr}, Rd H v d as → Rd H1 v d as
  | _, _, _, .non => .non
  | _, _, _, .bl b => .bl b
  | _, _, _, .int i => .int i
  | _, _, _, .str x => .str x
  | _, _, _, .lst h r => .lst (e _ _ h fun ps z => by cases z) (RdAll.ext e r)
  | _, _, _, .tup h r => .tup (e _ _ h fun ps z => by cases z) (RdAll.ext e r)
  | _, _, _, .dct h r => .dct (e _ _ h fun ps z => by cases z) (Rd.ext e r)
theorem RdAll.ext {H H1 : Hp} (e : ExtN H H1) : ∀ {v : List V} {d : List PyData} {as : List Addr}, RdAll H v d as → RdAll H1 v d as
  | _, _, _, .nil => .nil
  | _, _, _, .cons h r => .cons (Rd.ext e h) (RdAll.ext e r)
end
section
variable {P : Program} {w : World} {H : Hp} {h : Heap}
mutual
theorem Rd.reads (hok : HOk P w H h) : ∀ {v : V} {d : PyData} {as : List Addr} {u : Value}, Rd H v d as → RelV v u → Reads h u d as
  | _, _, _, u, .non, r => by
    obtain rfl : u = Value.none := r
    exact .none
  | _, _, _, u, .bl b, r => by
    obtain rfl : u = Value.bool b := r
    exact .bool b
  | _, _, _, u, .int i, r => by
    obtain ⟨t, rfl⟩ : ∃ t, u = Value.int i t := r
    exact .int i t
  | _, _, _, u, .str x, r => by
    obtain ⟨t, rfl⟩ : ∃ t, u = Value.str x t := r
    exact .str x t
  | _, _, _, u, @Rd.lst _ a xs ds as e q, r => by
    obtain rfl : u = Value.ref a := r
    obtain ⟨_, its, n, rv, e1⟩ := (show ObjOk P w H h a (.lst xs) from hok a _ e)
    exact .list e1 rfl rfl (RdAll.reads hok q rv)
  | _, _, _, u, @Rd.tup _ a xs ds as e q, r => by
    obtain rfl : u = Value.ref a := r
    obtain ⟨_, its, rv, o, e1, e2, n, e3⟩ := (show ObjOk P w H h a (.tup xs) from hok a _ e)
    exact .tuple e1 e2 e3 (RdAll.reads hok q rv)
  | _, _, _, u, @Rd.dct _ a k v d as e q, r => by
    obtain rfl : u = Value.ref a := r
    obtain ⟨_, _, vs, rv, o, es, ep, e1, e2, e3, _, e4, _⟩ := (show ObjOk P w H h a (.dK [(.inr k, v)]) from hok a _ e)
    cases rv with
    | @cons _ p _ ps r1 r2 =>
      cases r2
      obtain ⟨k2, w2⟩ := p
      obtain ⟨q1, q2⟩ := r1
      have q1 : (Sum.inr k : Key) = k2 := q1
      have q2 : RelV v w2 := q2
      subst q1
      obtain ⟨en, hes, p1, p2⟩ : ∃ en : DictEntry, es.toList = [en] ∧ (mixKind P w).is (.inr k) en.key = true ∧ en.val = w2 := by
        revert e4
        generalize es.toList = l
        intro e4
        match l, e4 with
        | [en], .cons p1 p2 .nil => exact ⟨en, rfl, p1, p2⟩
      obtain ⟨tk, hk⟩ := Value.isStrOf_shape (x := k) (v := en.key) p1
      have f1 : ReadsAll h (es.toList.map (·.key)) [PyData.str k] ([] ++ []) := by
        rw [hes]
        show ReadsAll h [en.key] _ _
        rw [hk]
        exact .cons (.str k tk) .nil
      have f2 : ReadsAll h (es.toList.map (·.val)) [d] (as ++ []) := by
        rw [hes]
        show ReadsAll h [en.val] _ _
        rw [p2]
        exact .cons (Rd.reads hok q q2) .nil
      exact .dict e1 e2.1 e3 f1 f2
theorem RdAll.reads (hok : HOk P w H h) : ∀ {v : List V} {d : List PyData} {as : List Addr} {u : List Value}, RdAll H v d as → Vals v u → ReadsAll h u d as
  | _, _, _, _, .nil, .nil => .nil
  | _, _, _, _, .cons q qs, .cons r rs => .cons (Rd.reads hok q r) (RdAll.reads hok qs rs)
end
end
section
variable {X : Cx}
def rRepr : List V → Hp → VK → Prop := fun xs H Q => ∃ (a : Addr) (d : PyData) (as : List Addr), xs = [.ref a] ∧ Rd H (.ref a) d as ∧ d.showable = true ∧ (d.hasDict = true → sysModules ∉ as) ∧ d.depth ≤ 20 ∧ d.shown.length ≤ sizeLine ∧ Q (.str d.shown) H
theorem call_repr (hg : X.A.guards = some []) (hr : Room 0 X.A) : CallR X (.builtin "repr") rRepr := by
  intro pins s σ H xs us Q I r h
  obtain ⟨a, d, as, rfl, rd, hs, hsm, hd, hz, q⟩ := h
  cases r with
  | @cons _ u _ ur r1 r2 =>
    cases r2
    obtain rfl : u = Value.ref a := r1
    refine repr_of_reads' (h₀ := s.heap) (rd.reads I.hok rfl) hs hsm hg (by have := hr.un; omega) (fun _ _ e => e) (fun h' u tk hk => ⟨.str d.shown, H, I.kept hk, ⟨_, rfl⟩, q⟩) hz
end
end Kz
namespace Kz
open PySem PySem.W PySem.Calls PyProof.Rows L2 LamX

section
variable {X : Cx} {es : List Expr} {t : TA} {pos : Pos}
/-- a new list, known to be no module's table -/
def tLstB (t : TA) : TE := fun σ H Q => t σ H fun xs H1 => xs.length ≤ sizeLine ∧ ∀ p, H1 p = none → p ≠ sysModules → Q (.ref p) (upd H1 p (.lst xs))
theorem pe_lstB (h : PA X es t) : PE X (.List es pos) (tLstB t) := by
  refine ⟨fun pins s σ H Q I hq => ?_⟩
  refine wpAny_List_spliced (thn (h.run pos pins s σ H _ I hq) fun us s1 ⟨xs, H1, I1, r, z, q⟩ => ⟨by rw [← r.length]; exact z, ?_⟩)
  exact ⟨.ref s1.heap.objs.size, _, I1.laid (t' := s1.toks) (o := .lst xs) (fun b u e => Heap.get?_push_of_some _ e) (Nat.le_refl _) ⟨z, us, 0, r, Heap.get?_push_size _ rfl⟩, rfl, q _ (I1.hok.fresh (Nat.le_refl _)) (Nat.ne_of_gt I1.big)⟩
end

/-- a class of errors: where it stands, its field, a second one perhaps -/
abbrev Info := Addr × Str × Option Str
def Info.gs (i : Info) : List Str := match i.2.2 with | none => [i.2.1] | some g => [i.2.1, g]
def Info.vals (i : Info) (v w : V) : List V := match i.2.2 with | none => [v] | some _ => [v, w]
def Info.fs (i : Info) (v w : V) : List (Str × V) := match i.2.2 with | none => [(i.2.1, v)] | some g => [(g, w), (i.2.1, v)]
/-- one row: an error made by place, one by names, a lambda that reads its fields, what they have to be -/
def Row (K : Frag) (H : Hp) (i : Info) (p : Addr) (v w : V) (a : Addr) : Prop := ∃ (m dm t dt l c' r : Addr) (q : Str) (params : Arguments) (body : Expr) (scope : Scope),
  H p = some (.tup [.ref m, .ref t, .ref l, .ref r]) ∧ H m = some (exo m i.1 (some dm)) ∧ H dm = some (exd dm (i.fs v w)) ∧ H t = some (exo t i.1 (some dt)) ∧ H dt = some (exd dt (i.fs v w)) ∧
  H l = some (LamO l c' q params body scope) ∧ H c' = some (CodeO c' q) ∧ LamGood params body scope i.gs ∧ H r = some (.lst (i.vals v w)) ∧ r ≠ sysModules ∧ r ≠ a ∧ i.gs.map (fun g => (i.fs v w).lookup g) = (i.vals v w).map some ∧ ∀ g ∈ i.gs, findIn K (.ref i.1) g = some none
theorem exo_nt {e C : Addr} {d : Option Addr} (ps : Array Value) : exo e C d ≠ .tbl ps := exo_tbl
theorem exd_nt {dx : Addr} {fs : List (Str × V)} (ps : Array Value) : exd dx fs ≠ .tbl ps := fun z => by
  unfold exd at z
  cases z
theorem lamO_nt {f c' : Addr} {q : Str} {params : Arguments} {body : Expr} {scope : Scope} (ps : Array Value) : LamO f c' q params body scope ≠ .tbl ps := fun z => by
  unfold LamO at z
  cases z
theorem lst_nt {xs : List V} (ps : Array Value) : HO.lst xs ≠ .tbl ps := fun z => nomatch z
theorem tup_nt {xs : List V} (ps : Array Value) : HO.tup xs ≠ .tbl ps := fun z => nomatch z
theorem Row.ext {K : Frag} {H H1 : Hp} {i : Info} {p a : Addr} {v w : V} (r : Row K H i p v w a) (e : ExtN H H1) : Row K H1 i p v w a := by
  obtain ⟨m, dm, t, dt, l, c', r, q, params, body, scope, h1, h2, h3, h4, h5, h6, h7, h8, h9, h10, h13, h11, h12⟩ := r
  exact ⟨m, dm, t, dt, l, c', r, q, params, body, scope, e _ _ h1 tup_nt, e _ _ h2 exo_nt, e _ _ h3 exd_nt, e _ _ h4 exo_nt, e _ _ h5 exd_nt, e _ _ h6 lamO_nt, e _ _ h7 codeO_ne, h8, e _ _ h9 lst_nt, h10, h13, h11, h12⟩
/-- all but the tables and the list at a stay -/
def ExtB (a : Addr) (H H' : Hp) : Prop := ∀ b o, H b = some o → b ≠ a → (∀ ps, o ≠ .tbl ps) → H' b = some o
theorem ExtB.trans {a : Addr} {H H1 H2 : Hp} (x : ExtB a H H1) (y : ExtB a H1 H2) : ExtB a H H2 := fun b o e h z => y b o (x b o e h z) h z
theorem Row.extB {K : Frag} {H H1 : Hp} {i : Info} {p a : Addr} {v w : V} {xs : List V} (ha : H a = some (.lst xs)) (r : Row K H i p v w a) (e : ExtB a H H1) : Row K H1 i p v w a := by
  obtain ⟨m, dm, t, dt, l, c', r, q, params, body, scope, h1, h2, h3, h4, h5, h6, h7, h8, h9, h10, h13, h11, h12⟩ := r
  have na : ∀ {b o}, H b = some o → o ≠ .lst xs → b ≠ a := fun e z y => by
    rw [y, ha] at e
    exact z (Option.some.inj e).symm
  have z1 : ∀ {e C : Addr} {d : Option Addr}, exo e C d ≠ .lst xs := fun z => by
    unfold exo at z
    cases z
  have z2 : ∀ {e : Addr} {fs : List (Str × V)}, exd e fs ≠ .lst xs := fun z => by
    unfold exd at z
    cases z
  have z3 : CodeO c' q ≠ .lst xs := fun z => by
    unfold CodeO at z
    cases z
  have z4 : LamO l c' q params body scope ≠ .lst xs := fun z => by
    unfold LamO at z
    cases z
  exact ⟨m, dm, t, dt, l, c', r, q, params, body, scope, e _ _ h1 (na h1 (fun z => nomatch z)) tup_nt, e _ _ h2 (na h2 z1) exo_nt, e _ _ h3 (na h3 z2) exd_nt, e _ _ h4 (na h4 z1) exo_nt, e _ _ h5 (na h5 z2) exd_nt, e _ _ h6 (na h6 z4) lamO_nt, e _ _ h7 (na h7 z3) codeO_ne, h8,
    e _ _ h9 h13 lst_nt, h10, h13, h11, h12⟩
theorem mkH_ext {H : Hp} {a C dx : Addr} {fs : List (Str × V)} (n1 : H a = none) (n2 : H dx = none) : ∀ b o, H b = some o → mkH H a C dx fs b = some o := fun b o e => by
  unfold mkH
  rw [upd_ne (ne_of_none e n1), upd_ne (ne_of_none e n2)]
  exact e
theorem mkH_a {H : Hp} {a C dx : Addr} {fs : List (Str × V)} : mkH H a C dx fs a = some (exo a C (some dx)) := upd_same
theorem mkH_d {H : Hp} {a C dx : Addr} {fs : List (Str × V)} (ne : dx ≠ a) : mkH H a C dx fs dx = some (exd dx fs) := by
  unfold mkH
  rw [upd_ne ne, upd_same]
theorem new_ext {H : Hp} {a : Addr} {o : HO} (n : H a = none) : ∀ b u, H b = some u → upd H a o b = some u := fun b u e => by
  rw [upd_ne (ne_of_none e n)]
  exact e

theorem small4 (n : Nat) (h : n ≤ 1000 := by decide) : n ≤ sizeLine := by
  rw [sizeLine_eq]
  omega
/-- the end of a row's statement -/
theorem row_end {K : Frag} {T : List (Addr × Str)} {H H1 : Hp} {i : Info} {xs : List V} {a m dm t dt l c' r p : Addr} {v w : V} {q : Str} {params : Arguments} {body : Expr} {scope : Scope} {D : Hp → Prop} (ha : H a = some (.lst xs)) (hl : xs.length < 1000)
    (n1 : H m = none) (n2 : H dm = none) (ne1 : dm ≠ m) (n3 : mkH H m i.1 dm (i.fs v w) t = none) (n4 : mkH H m i.1 dm (i.fs v w) dt = none) (ne2 : dt ≠ t) (eN : ExtN (mkH (mkH H m i.1 dm (i.fs v w)) t i.1 dt (i.fs v w)) H1) (hT : Tabs T H1) (hc : H1 c' = some (CodeO c' q)) (nl : H1 l = none)
    (nr : upd H1 l (LamO l c' q params body scope) r = none) (hr : r ≠ sysModules) (np : upd (upd H1 l (LamO l c' q params body scope)) r (.lst (i.vals v w)) p = none) (G : LamGood params body scope i.gs) (hv : i.gs.map (fun g => (i.fs v w).lookup g) = (i.vals v w).map some)
    (hno : ∀ g ∈ i.gs, findIn K (.ref i.1) g = some none) (k : ∀ H', ExtB a H H' → Row K H' i p v w a → H' a = some (.lst (xs ++ [.ref p])) → Tabs T H' → D H') :
    ∃ (l2 : Addr) (xs2 : List V) (y : V), V.ref a = V.ref l2 ∧ [V.ref p] = [y] ∧ (upd (upd (upd H1 l (LamO l c' q params body scope)) r (.lst (i.vals v w))) p (.tup [.ref m, .ref t, .ref l, .ref r])) l2 = some (.lst xs2) ∧ xs2.length < sizeLine ∧
      D (upd (upd (upd (upd H1 l (LamO l c' q params body scope)) r (.lst (i.vals v w))) p (.tup [.ref m, .ref t, .ref l, .ref r])) l2 (.lst (xs2 ++ [y]))) := by
  have up : ∀ b o, H1 b = some o → (upd (upd (upd H1 l (LamO l c' q params body scope)) r (.lst (i.vals v w))) p (.tup [.ref m, .ref t, .ref l, .ref r])) b = some o := fun b o e => new_ext np b o (new_ext nr b o (new_ext nl b o e))
  have low : ∀ b o, H b = some o → (∀ ps, o ≠ .tbl ps) → H1 b = some o := fun b o e z => eN b o (mkH_ext n3 n4 b o (mkH_ext n1 n2 b o e)) z
  have aE := up a _ (low a _ ha lst_nt)
  refine ⟨a, xs, .ref p, rfl, rfl, aE, by rw [sizeLine_eq]; omega, ?_⟩
  have na : ∀ b o, H1 b = some o → o ≠ .lst xs → b ≠ a := fun b o e z y => by
    rw [y, low a _ ha lst_nt] at e
    exact z (Option.some.inj e).symm
  have fin : ∀ b o, b ≠ a → (upd (upd (upd H1 l (LamO l c' q params body scope)) r (.lst (i.vals v w))) p (.tup [.ref m, .ref t, .ref l, .ref r])) b = some o → (upd (upd (upd (upd H1 l (LamO l c' q params body scope)) r (.lst (i.vals v w))) p (.tup [.ref m, .ref t, .ref l, .ref r])) a (.lst (xs ++ [.ref p]))) b = some o := fun b o h e => by
    rw [upd_ne h]
    exact e
  have a1 : H1 a = some (.lst xs) := low a _ ha lst_nt
  have la : l ≠ a := Ne.symm (ne_of_none a1 nl)
  have ra : r ≠ a := Ne.symm (ne_of_none (new_ext nl _ _ a1) nr)
  have pa : p ≠ a := Ne.symm (ne_of_none (new_ext nr _ _ (new_ext nl _ _ a1)) np)
  have m1 := eN m _ (mkH_ext n3 n4 _ _ (mkH_a (H := H) (C := i.1) (dx := dm) (fs := i.fs v w))) exo_nt
  have d1 := eN dm _ (mkH_ext n3 n4 _ _ (mkH_d (H := H) (C := i.1) (fs := i.fs v w) ne1)) exd_nt
  have m2 := eN t _ (mkH_a (C := i.1) (dx := dt) (fs := i.fs v w)) exo_nt
  have d2 := eN dt _ (mkH_d (C := i.1) (fs := i.fs v w) ne2) exd_nt
  have ne_exo : ∀ {e C : Addr} {d : Option Addr}, exo e C d ≠ .lst xs := fun z => by
    unfold exo at z
    cases z
  have ne_exd : ∀ {e : Addr} {fs : List (Str × V)}, exd e fs ≠ .lst xs := fun z => by
    unfold exd at z
    cases z
  have ne_cod : CodeO c' q ≠ .lst xs := fun z => by
    unfold CodeO at z
    cases z
  refine k _ (fun b o e h z => fin b o h (up b o (low b o e z))) ⟨m, dm, t, dt, l, c', r, q, params, body, scope, fin _ _ pa upd_same, fin _ _ (na _ _ m1 ne_exo) (up _ _ m1), fin _ _ (na _ _ d1 ne_exd) (up _ _ d1), fin _ _ (na _ _ m2 ne_exo) (up _ _ m2), fin _ _ (na _ _ d2 ne_exd) (up _ _ d2),
    fin _ _ la (new_ext np _ _ (new_ext nr _ _ upd_same)), fin _ _ (na _ _ hc ne_cod) (up _ _ hc), G, fin _ _ ra (new_ext np _ _ upd_same), hr, ra, hv, hno⟩ upd_same (fun p' hp' => ?_)
  obtain ⟨ps, t1, t2, t3⟩ := hT p' hp'
  have tn : p'.1 ≠ a := na _ _ t1 (fun z => nomatch z)
  refine ⟨ps, fin _ _ tn (up _ _ t1), t2, fun pos cv hcv => ?_⟩
  obtain ⟨c0, e1, e2⟩ := t3 pos cv hcv
  have nc : CodeO c0 p'.2 ≠ .lst xs := fun z => by
    unfold CodeO at z
    cases z
  exact ⟨c0, e1, fin _ _ (na _ _ e2 nc) (up _ _ e2)⟩

section
variable {X : Cx}
/-- found.append((C(x), C(f=x), lambda e: [e.f], [x])) and the like -/
inductive RowSt (X : Cx) : Stmt → Info → Prop
  | one {C : Addr} {f cn : Str} {params : Arguments} {body : Expr} {scope : Scope} {a1 a2 b1 b2 b3 d1 d2 d3 d4 lp l1 l2 tp cp ps : Pos} {kk : Nat} (T1 : X1 X.prog X.K C f) (hg : Gl X cn) (hm : X.mg cn = some (.ref C)) (hdb : (cn == ("__debug__" : Str)) = false)
      (G : LamGood params body scope [f]) (hdef : defaultsOf params X.env = ([], [])) (hcl : closureFor scope X.env = pure []) (hline : (a2.endLine == cp.line) = true) :
      RowSt X (.Expr (.Call (.Attribute (.Name "found" a1) "append" a2) [.Tuple [.Call (.Name cn b1) [.Name "x" b2] [] b3, .Call (.Name cn d1) [] [⟨some f, .Name "x" d2, d3⟩] d4, .Lambda params body scope lp, .List [.Name "x" l1] l2] kk tp] [] cp) ps) (C, f, none)
  | two {C : Addr} {f g cn : Str} {params : Arguments} {body : Expr} {scope : Scope} {a1 a2 b1 b2 b3 b4 d1 d2 d3 d4 d5 d6 lp l1 l2 l3 tp cp ps : Pos} {kk : Nat} (T1 : X2 X.prog X.K C f g) (hg : Gl X cn) (hm : X.mg cn = some (.ref C)) (hdb : (cn == ("__debug__" : Str)) = false)
      (G : LamGood params body scope [f, g]) (hdef : defaultsOf params X.env = ([], [])) (hcl : closureFor scope X.env = pure []) (hline : (a2.endLine == cp.line) = true) :
      RowSt X (.Expr (.Call (.Attribute (.Name "found" a1) "append" a2) [.Tuple [.Call (.Name cn b1) [.Name "x" b2, .Name "y" b4] [] b3, .Call (.Name cn d1) [] [⟨some g, .Name "y" d2, d3⟩, ⟨some f, .Name "x" d5, d6⟩] d4, .Lambda params body scope lp, .List [.Name "x" l1, .Name "y" l3] l2] kk tp] [] cp) ps) (C, f, some g)

/-- what a row's statement asks and does -/
def tRow (K : Frag) (T : List (Addr × Str)) (i : Info) : TS := fun D σ H => ∃ (a : Addr) (xs : List V) (v w : V), σ[3]? = some (some (.ref a)) ∧ σ[0]? = some (some v) ∧ σ[1]? = some (some w) ∧ H a = some (.lst xs) ∧ xs.length < 1000 ∧ Tabs T H ∧
  ∀ (H' : Hp) (p : Addr), ExtB a H H' → Row K H' i p v w a → H' a = some (.lst (xs ++ [.ref p])) → Tabs T H' → D.nx σ H'

theorem ps_row {T : List (Addr × Str)} {c P : Addr} (TB : TabB X.base X.mg c P) (hcode : X.env.code = .ref c) (hmT : (P, X.env.qual ++ "<lambda>") ∈ T) (hu : ∀ p ∈ T, p.1 = P → p.2 = X.env.qual ++ "<lambda>") (hr : Room 1 X.A)
    (hN : X.N = ([("x" : Str), "y", "z", "found"] : List Str)) (hv : ∀ n ∈ X.N, Vis X.env.scope n) {st : Stmt} {i : Info} (R : RowSt X st i) : PS X st (tRow X.K T i) := by
  have px : ∀ {p : Pos}, PE X (.Name "x" p) (tVar 0) := pe_var (by rw [hN]; rfl) (hv _ (by rw [hN]; simp))
  have py : ∀ {p : Pos}, PE X (.Name "y" p) (tVar 1) := pe_var (by rw [hN]; rfl) (hv _ (by rw [hN]; simp))
  have pf : ∀ {p : Pos}, PE X (.Name "found" p) (tVar 3) := pe_var (by rw [hN]; rfl) (hv _ (by rw [hN]; simp))
  cases R with
  | one T1 hg hm hdb G hdef hcl hline =>
    rename_i C f cn params body scope a1 a2 b1 b2 b3 d1 d2 d3 d4 lp l1 l2 tp cp ps kk
    have PP := ps_expr (X := X) (pos := ps) (pe_bm (cpos := cp) PySem.F.plainAttrs_list PySem.F.slot_list_append PySem.F.type_list_append mt_append (pf (p := a1)) (pa_cons (pe_tup (x1 := kk) (pos := tp) (pa_cons (pe_mk1 (p := b1) (pos := b3) T1 hr hg hm (px (p := b2)) hdb)
      (pa_cons (pe_mk1k (p := d1) (pos := d4) (kp := d3) T1 hr hg hm (px (p := d2)) hdb) (pa_cons (pe_lam (body := body) (pos := lp) TB hcode hmT hu hdef hcl) (pa_cons (pe_lstB (pos := l2) (pa_cons (px (p := l1)) pa_nil)) pa_nil))))) pa_nil) (hline := hline))
    refine ⟨fun pins s σ H D I h => PP.run pins s σ H D I ?_⟩
    obtain ⟨a, xs, v, w, h3, h0, h1, ha, hl, hT, k⟩ := h
    refine ⟨.ref a, h3, .inl ⟨rfl, _, .inl (.inl ha)⟩, v, h0, fun m dm n1 n2 ne1 => ⟨v, h0, fun t dt n3 n4 ne2 => ⟨(hT.ext (mkH_ext n1 n2)).ext (mkH_ext n3 n4), fun l c' H1 eN T1' hc nl => ⟨v, h0, small4 1, fun r nr hr => ⟨small4 4, fun p np => ?_⟩⟩⟩⟩⟩
    exact row_end (i := (C, f, none)) ha hl n1 n2 ne1 n3 n4 ne2 eN T1' hc nl nr hr np G (by simp [Info.gs, Info.fs, Info.vals, List.lookup]) (fun g hg => by
      rcases List.mem_singleton.mp hg with rfl
      exact T1.no) fun H' e1 e2 e3 e4 => k H' p e1 e2 e3 e4
  | two T1 hg hm hdb G hdef hcl hline =>
    rename_i C f g cn params body scope a1 a2 b1 b2 b3 b4 d1 d2 d3 d4 d5 d6 lp l1 l2 l3 tp cp ps kk
    have PP := ps_expr (X := X) (pos := ps) (pe_bm (cpos := cp) PySem.F.plainAttrs_list PySem.F.slot_list_append PySem.F.type_list_append mt_append (pf (p := a1)) (pa_cons (pe_tup (x1 := kk) (pos := tp) (pa_cons (pe_mk2 (p := b1) (pos := b3) T1 hr hg hm (px (p := b2)) (py (p := b4)) hdb)
      (pa_cons (pe_mk2k (p := d1) (pos := d4) (kp := d6) (kp2 := d3) T1 hr hg hm (px (p := d5)) (py (p := d2)) hdb) (pa_cons (pe_lam (body := body) (pos := lp) TB hcode hmT hu hdef hcl) (pa_cons (pe_lstB (pos := l2) (pa_cons (px (p := l1)) (pa_cons (py (p := l3)) pa_nil))) pa_nil))))) pa_nil) (hline := hline))
    refine ⟨fun pins s σ H D I h => PP.run pins s σ H D I ?_⟩
    obtain ⟨a, xs, v, w, h3, h0, h1, ha, hl, hT, k⟩ := h
    refine ⟨.ref a, h3, .inl ⟨rfl, _, .inl (.inl ha)⟩, v, h0, w, h1, fun m dm n1 n2 ne1 => ⟨w, h1, v, h0, fun t dt n3 n4 ne2 => ⟨(hT.ext (mkH_ext n1 n2)).ext (mkH_ext n3 n4), fun l c' H1 eN T1' hc nl => ⟨v, h0, w, h1, small4 2, fun r nr hr => ⟨small4 4, fun p np => ?_⟩⟩⟩⟩⟩
    have e1 : (f == g) = false := by rw [Bool.beq_comm]; exact T1.fg
    exact row_end (i := (C, f, some g)) ha hl n1 n2 ne1 n3 n4 ne2 eN T1' hc nl nr hr np G (by simp [Info.gs, Info.fs, Info.vals, List.lookup, e1]) (fun g' hg => by
      rcases List.mem_cons.mp hg with rfl | hg
      · exact T1.no
      · rcases List.mem_singleton.mp hg with rfl
        exact T1.no2) fun H' e1 e2 e3 e4 => k H' p e1 e2 e3 e4

/-- all rows of a def, and its return -/
def tRows (K : Frag) (T : List (Addr × Str)) (is : List Info) : TS := fun D σ H => ∃ (a : Addr) (xs : List V) (v w : V), σ[3]? = some (some (.ref a)) ∧ σ[0]? = some (some v) ∧ σ[1]? = some (some w) ∧ H a = some (.lst xs) ∧ xs.length + is.length < 1000 ∧ Tabs T H ∧
  ∀ (H' : Hp) (ps : List Addr), ExtB a H H' → Paired (fun i p => Row K H' i p v w a) is ps → H' a = some (.lst (xs ++ ps.map V.ref)) → Tabs T H' → D.rt (.ref a) H'
theorem pss_rows {T : List (Addr × Str)} {c P : Addr} {rp1 rp2 : Pos} (TB : TabB X.base X.mg c P) (hcode : X.env.code = .ref c) (hmT : (P, X.env.qual ++ "<lambda>") ∈ T) (hu : ∀ p ∈ T, p.1 = P → p.2 = X.env.qual ++ "<lambda>") (hr : Room 1 X.A)
    (hN : X.N = ([("x" : Str), "y", "z", "found"] : List Str)) (hv : ∀ n ∈ X.N, Vis X.env.scope n) : ∀ {sts : List Stmt} {is : List Info}, Paired (RowSt X) sts is → PSs X (sts ++ [.Return (some (.Name "found" rp1)) rp2]) (tRows X.K T is)
  | _, _, .nil => by
    have pf : PE X (.Name "found" rp1) (tVar 3) := pe_var (by rw [hN]; rfl) (hv _ (by rw [hN]; simp))
    refine ⟨fun pins s σ H D I h => (pss_one (ps_ret (pos := rp2) pf)).run pins s σ H D I ?_⟩
    obtain ⟨a, xs, v, w, h3, h0, h1, ha, hl, hT, k⟩ := h
    exact ⟨.ref a, h3, k H [] (fun b o e _ _ => e) .nil (by simpa using ha) hT⟩
  | _, _, @Paired.cons _ _ _ st i sts is R Rs => by
    have ih := pss_rows TB hcode hmT hu hr hN hv Rs (rp1 := rp1) (rp2 := rp2)
    have h0 := ps_row TB hcode hmT hu hr hN hv R
    refine ⟨fun pins s σ H D I h => (pss_cons h0 ih).run pins s σ H D I ?_⟩
    obtain ⟨a, xs, v, w, h3, h0, h1, ha, hl, hT, k⟩ := h
    have hl' : xs.length + (is.length + 1) < 1000 := hl
    refine ⟨a, xs, v, w, h3, h0, h1, ha, by omega, hT, fun H1 p e1 r1 a1 T1 => ?_⟩
    refine ⟨a, xs ++ [.ref p], v, w, h3, h0, h1, a1, by rw [List.length_append, List.length_singleton]; omega, T1, fun H2 ps e2 rs a2 T2 => ?_⟩
    exact k H2 (p :: ps) (e1.trans e2) (.cons (r1.extB a1 e2) rs) (by rw [a2, List.append_assoc]; rfl) T2
end
end Kz
namespace Kz
open PySem PySem.W PySem.Calls PyProof.Rows L2 LamX

theorem boot_isi : bootBuiltins "isinstance" = some (.builtin "isinstance") := by decide +kernel

section
variable {X : Cx}
/-- found.extend([isinstance(e, A), isinstance(e, B)]) -/
inductive KSt (X : Cx) : Stmt → List Addr → Prop
  | mk {A B : Addr} {an bn : Str} {a1 a2 b1 b2 b3 b4 d1 d2 d3 d4 lp cp ps : Pos} (hgA : Gl X an) (hmA : X.mg an = some (.ref A)) (hgB : Gl X bn) (hmB : X.mg bn = some (.ref B)) (hdA : (an == ("__debug__" : Str)) = false) (hdB : (bn == ("__debug__" : Str)) = false)
      (hline : (a2.endLine == cp.line) = true) :
      KSt X (.Expr (.Call (.Attribute (.Name "found" a1) "extend" a2) [.List [.Call (.Name "isinstance" b1) [.Name "e" b2, .Name an b3] [] b4, .Call (.Name "isinstance" d1) [.Name "e" d2, .Name bn d3] [] d4] lp] [] cp) ps) [A, B]
/-- what an error of the class at C is -/
structure KIs (K : Frag) (C : Addr) (D : Addr) (b : Bool) : Prop where
  one : kitOne K (.ref C) (.ref D) = some b
/-- behind: the list at a has grown; what stood elsewhere stands -/
def ExtA (a : Addr) (H H' : Hp) : Prop := ∀ b o, H b = some o → b ≠ a → H' b = some o
theorem ExtA.trans {a : Addr} {H H1 H2 : Hp} (x : ExtA a H H1) (y : ExtA a H1 H2) : ExtA a H H2 := fun b o e h => y b o (x b o e h) h
theorem isErr_ext {a C l : Addr} {xs : List V} {H H1 : Hp} (hl : H l = some (.lst xs)) (e : ExtA l H H1) (h : IsErr H a C) : IsErr H1 a C := by
  have z1 : ∀ {e C : Addr} {d : Option Addr}, exo e C d ≠ .lst xs := fun z => by
    unfold exo at z
    cases z
  have z2 : ∀ {e : Addr} {fs : List (Str × V)}, exd e fs ≠ .lst xs := fun z => by
    unfold exd at z
    cases z
  have na : ∀ {b o}, H b = some o → o ≠ .lst xs → b ≠ l := fun e z y => by
    rw [y, hl] at e
    exact z (Option.some.inj e).symm
  rcases h with h | ⟨dx, fs, h1, h2⟩
  · exact .inl (e _ _ h (na h z1))
  · exact .inr ⟨dx, fs, e _ _ h1 (na h1 z1), e _ _ h2 (na h2 z2)⟩
theorem isErr_same {a C : Addr} {H H1 : Hp} (e : Same H H1) (h : IsErr H a C) : IsErr H1 a C := by
  rcases h with h | ⟨dx, fs, h1, h2⟩
  · exact .inl (e _ _ h)
  · exact .inr ⟨dx, fs, e _ _ h1, e _ _ h2⟩
/-- the answers for the classes ds of an error of the class at C -/
def ans (C : Addr) (ds : List Addr) : List V := ds.map fun D => .bl (decide (C = D))
def tKs (K : Frag) (ds : List Addr) : TS := fun D σ H => ∃ (l : Addr) (xs : List V) (a C : Addr), σ[1]? = some (some (.ref l)) ∧ σ[0]? = some (some (.ref a)) ∧ H l = some (.lst xs) ∧ xs.length + ds.length < 1000 ∧ IsErr H a C ∧ XiC K C ∧ (∀ d ∈ ds, kitOne K (.ref C) (.ref d) = some (decide (C = d))) ∧
  ∀ H', ExtA l H H' → H' l = some (.lst (xs ++ ans C ds)) → D.nx σ H'
theorem ps_k (hN : X.N = ([("e" : Str), "found"] : List Str)) (hv : ∀ n ∈ X.N, Vis X.env.scope n) (hgi : Gl X "isinstance") (hmi : X.mg "isinstance" = none) {st : Stmt} {ds : List Addr} (R : KSt X st ds) : PS X st (tKs X.K ds) := by
  have pe : ∀ {p : Pos}, PE X (.Name "e" p) (tVar 0) := pe_var (by rw [hN]; rfl) (hv _ (by rw [hN]; simp))
  have pf : ∀ {p : Pos}, PE X (.Name "found" p) (tVar 1) := pe_var (by rw [hN]; rfl) (hv _ (by rw [hN]; simp))
  cases R with
  | mk hgA hmA hgB hmB hdA hdB hline =>
    rename_i A B an bn a1 a2 b1 b2 b3 b4 d1 d2 d3 d4 lp cp ps
    have PP := ps_expr (X := X) (pos := ps) (pe_bm (cpos := cp) PySem.F.plainAttrs_list PySem.F.slot_list_extend PySem.F.type_list_extend mt_extend (pf (p := a1)) (pa_cons (pe_lst (pos := lp) (pa_cons (pe_callB (p := b1) (pos := b4) call_isE hgi hmi boot_isi (pa_cons (pe (p := b2)) (pa_cons (pe_glob (pos := b3) (v := .ref A) hgA hmA rfl hdA) pa_nil)))
      (pa_cons (pe_callB (p := d1) (pos := d4) call_isE hgi hmi boot_isi (pa_cons (pe (p := d2)) (pa_cons (pe_glob (pos := d3) (v := .ref B) hgB hmB rfl hdB) pa_nil))) pa_nil))) pa_nil) (hline := hline))
    refine ⟨fun pins s σ H D I h => PP.run pins s σ H D I ?_⟩
    obtain ⟨l, xs, a, C, h1, h0, hl, hlen, he, T, hk, k⟩ := h
    have hlen' : xs.length + 2 < 1000 := hlen
    refine ⟨.ref l, h1, .inl ⟨rfl, _, .inl (.inl hl)⟩, .ref a, h0, a, C, .ref A, .ref A, _, rfl, he, T, .own A, hk A (by simp), .ref a, h0, a, C, .ref B, .ref B, _, rfl, he, T, .own B, hk B (by simp), small4 2, fun p np => ⟨l, p, xs, _, rfl, rfl, new_ext np _ _ hl, upd_same, ?_, ?_⟩⟩
    · show xs.length + 2 ≤ sizeLine
      rw [sizeLine_eq]
      omega
    · refine k _ (fun b o e h => ?_) upd_same
      rw [upd_ne h]
      exact new_ext np _ _ e
theorem pss_k {rp1 rp2 : Pos} (hN : X.N = ([("e" : Str), "found"] : List Str)) (hv : ∀ n ∈ X.N, Vis X.env.scope n) (hgi : Gl X "isinstance") (hmi : X.mg "isinstance" = none) : ∀ {sts : List Stmt} {dss : List (List Addr)}, Paired (KSt X) sts dss →
    PSs X (sts ++ [.Return (some (.Name "found" rp1)) rp2]) (fun D σ H => tKs X.K dss.flatten { D with nx := fun σ' H' => ∃ l, σ'[1]? = some (some (.ref l)) ∧ D.rt (.ref l) H' } σ H)
  | _, _, .nil => by
    have pf : PE X (.Name "found" rp1) (tVar 1) := pe_var (by rw [hN]; rfl) (hv _ (by rw [hN]; simp))
    refine ⟨fun pins s σ H D I h => (pss_one (ps_ret (pos := rp2) pf)).run pins s σ H D I ?_⟩
    obtain ⟨l, xs, a, C, h1, h0, hl, hlen, he, T, hk, k⟩ := h
    obtain ⟨l2, e2, q⟩ := k H (fun b o e _ => e) (by simpa [ans] using hl)
    exact ⟨.ref l2, e2, q⟩
  | _, _, @Paired.cons _ _ _ st ds sts dss R Rs => by
    have ih := pss_k hN hv hgi hmi Rs (rp1 := rp1) (rp2 := rp2)
    have h0 := ps_k hN hv hgi hmi R
    refine ⟨fun pins s σ H D I h => (pss_cons h0 ih).run pins s σ H D I ?_⟩
    obtain ⟨l, xs, a, C, h1, h0, hl, hlen, he, T, hk, k⟩ := h
    rw [List.flatten_cons] at hlen hk k
    rw [List.length_append] at hlen
    refine ⟨l, xs, a, C, h1, h0, hl, by omega, he, T, fun d hd => hk d (List.mem_append_left _ hd), fun H1 e1 l1 => ?_⟩
    refine ⟨l, xs ++ ans C ds, a, C, h1, h0, l1, by rw [List.length_append]; unfold ans; rw [List.length_map]; omega, isErr_ext hl e1 he, T, fun d hd => hk d (List.mem_append_right _ hd), fun H2 e2 l2 => ?_⟩
    exact k H2 (e1.trans e2) (by rw [l2, List.append_assoc]; unfold ans; rw [List.map_append])
end
end Kz
namespace Kz
open PySem PySem.W PySem.Calls PyProof.Rows L2 LamX
open He (ga)

/-! ### the text -/

abbrev sMa : Stmt := topS 54
abbrev sKa : Stmt := topS 57
abbrev sMb : Stmt := topS 55
abbrev sKb : Stmt := topS 58
abbrev sMc : Stmt := topS 56
abbrev sKc : Stmt := topS 59
theorem scMa : FnScope ["x", "y", "z", "found"] ["x", "y", "z"] (defScope sMa) := ⟨rfl, rfl, rfl, by decide +kernel, rfl, by decide +kernel, by decide +kernel⟩
theorem loMa : ∀ n ∈ ([("x" : Str), "y", "z", "found"] : List Str), (defScope sMa).names.lookup n = some .local := by decide +kernel
theorem scKa : FnScope ["e", "found"] ["e"] (defScope sKa) := ⟨rfl, rfl, rfl, by decide +kernel, rfl, by decide +kernel, by decide +kernel⟩
theorem loKa : ∀ n ∈ ([("e" : Str), "found"] : List Str), (defScope sKa).names.lookup n = some .local := by decide +kernel
theorem scMb : FnScope ["x", "y", "z", "found"] ["x", "y", "z"] (defScope sMb) := ⟨rfl, rfl, rfl, by decide +kernel, rfl, by decide +kernel, by decide +kernel⟩
theorem loMb : ∀ n ∈ ([("x" : Str), "y", "z", "found"] : List Str), (defScope sMb).names.lookup n = some .local := by decide +kernel
theorem scKb : FnScope ["e", "found"] ["e"] (defScope sKb) := ⟨rfl, rfl, rfl, by decide +kernel, rfl, by decide +kernel, by decide +kernel⟩
theorem loKb : ∀ n ∈ ([("e" : Str), "found"] : List Str), (defScope sKb).names.lookup n = some .local := by decide +kernel
theorem scMc : FnScope ["x", "y", "z", "found"] ["x", "y", "z"] (defScope sMc) := ⟨rfl, rfl, rfl, by decide +kernel, rfl, by decide +kernel, by decide +kernel⟩
theorem loMc : ∀ n ∈ ([("x" : Str), "y", "z", "found"] : List Str), (defScope sMc).names.lookup n = some .local := by decide +kernel
theorem scKc : FnScope ["e", "found"] ["e"] (defScope sKc) := ⟨rfl, rfl, rfl, by decide +kernel, rfl, by decide +kernel, by decide +kernel⟩
theorem loKc : ∀ n ∈ ([("e" : Str), "found"] : List Str), (defScope sKc).names.lookup n = some .local := by decide +kernel
/-- what is known of all errors -/
structure EF (P : Program) (K : Frag) (mg : Str → Option Value) : Prop where
  one : ∀ p ∈ ones, mg p.1 = some (.ref (ga K p.1)) ∧ X1 P K (ga K p.1) p.2
  two : mg "WouldChange" = some (.ref (ga K "WouldChange")) ∧ X2 P K (ga K "WouldChange") "question" "why"
theorem EF.at {P : Program} {K : Frag} {mg : Str → Option Value} (E : EF P K mg) (i : Nat) {p : Str × Str} (h : ones[i]? = some p := by rfl) : mg p.1 = some (.ref (ga K p.1)) ∧ X1 P K (ga K p.1) p.2 := E.one p (List.mem_of_getElem? h)
theorem EF.mg {P : Program} {K : Frag} {mg : Str → Option Value} (E : EF P K mg) (i : Nat) {p : Str × Str} (h : ones[i]? = some p := by rfl) : mg p.1 = some (.ref (ga K p.1)) := (E.at i h).1

def isA (K : Frag) : List Info := [(ga K "BadBook", "index", none), (ga K "BadBox", "thing", none), (ga K "BadCells", "index", none), (ga K "BadChoice", "thing", none), (ga K "BadCourse", "index", none), (ga K "BadDeed", "deed", none), (ga K "BadEnd", "thing", none), (ga K "BadEndless", "thing", none), (ga K "BadEnds", "index", none), (ga K "BadFigures", "thing", none), (ga K "BadForm", "thing", none), (ga K "BadIndex", "thing", none), (ga K "BadItems", "index", none), (ga K "BadJoins", "index", none), (ga K "BadKind", "thing", none), (ga K "BadLot", "index", none), (ga K "BadMachine", "thing", none), (ga K "BadMany", "thing", none)]
def isB (K : Frag) : List Info := [(ga K "BadMost", "thing", none), (ga K "BadNames", "names", none), (ga K "BadNet", "thing", none), (ga K "BadOther", "thing", none), (ga K "BadPair", "thing", none), (ga K "BadParts", "index", none), (ga K "BadPlan", "thing", none), (ga K "BadProgram", "thing", none), (ga K "BadQuestion", "thing", none), (ga K "BadRules", "index", none), (ga K "BadSession", "thing", none), (ga K "BadShut", "index", none), (ga K "BadStates", "index", none), (ga K "BadStep", "step", none), (ga K "BadSurroundings", "thing", none), (ga K "BadTable", "index", none), (ga K "BadText", "index", none), (ga K "BadTies", "index", none)]
def isC (K : Frag) : List Info := [(ga K "BadWay", "thing", none), (ga K "BadWire", "name", none), (ga K "InUse", "question", none), (ga K "IsWatched", "question", none), (ga K "Meets", "end", none), (ga K "NoCount", "thing", none), (ga K "NotNow", "why", none), (ga K "NotOpen", "index", none), (ga K "NotStill", "pair", none), (ga K "NotWatched", "question", none), (ga K "NotWithout", "index", none), (ga K "WouldChange", "question", some "why")]
/-- a def that makes rows -/
def spMade (K : Frag) (T : List (Addr × Str)) (is : List Info) : Sp := fun vs H Q _ => ∃ v w z : V, vs = [v, w, z] ∧ Tabs T H ∧ ∀ (H' : Hp) (l : Addr) (ps : List Addr), ExtN H H' → H l = none → H' l = some (.lst (ps.map V.ref)) → Paired (fun i p => Row K H' i p v w l) is ps → Tabs T H' → Q (.ref l) H'
/-- a def that asks which classes -/
def spK (K : Frag) (ds : List Addr) : Sp := fun vs H Q _ => ∃ a C : Addr, vs = [.ref a] ∧ IsErr H a C ∧ XiC K C ∧ (∀ d ∈ ds, kitOne K (.ref C) (.ref d) = some (decide (C = d))) ∧ ∀ (H' : Hp) (l : Addr), Same H H' → H l = none → H' l = some (.lst (ans C ds)) → Q (.ref l) H'
theorem PSs.of_eq {X : Cx} {a b : List Stmt} {t : TS} (e : b = a) (h : PSs X a t) : PSs X b t := by
  rw [e]
  exact h
theorem made_end {K : Frag} {T : List (Addr × Str)} {is : List Info} {H : Hp} {v w z : V} {Q : VK} {D : Ends} (hD : D.rt = Q) (hn : is.length < 1000) (hT : Tabs T H)
    (k : ∀ (H' : Hp) (l : Addr) (ps : List Addr), ExtN H H' → H l = none → H' l = some (.lst (ps.map V.ref)) → Paired (fun i p => Row K H' i p v w l) is ps → Tabs T H' → Q (.ref l) H') (l : Addr) (hl : H l = none) :
    tRows K T is D [some v, some w, some z, some (.ref l)] (upd H l (.lst [])) :=
  ⟨l, [], v, w, rfl, rfl, rfl, upd_same, by simpa using hn, hT.ext (new_ext hl), fun H' ps e r a T1 => by
    rw [hD]
    exact k H' l ps (fun b o h z => e b o (new_ext hl b o h) (ne_of_none h hl) z) hl (by simpa using a) r T1⟩
section
variable {P : Program} {w : World} {K : Frag} {mg : Str → Option Value} {base : Heap}

theorem rows_a {c f : Addr} {A : Around} {outer : List Env} {s : Shared} {H : Hp} {XE : XK} (E : EF P K mg) :
    Paired (RowSt (cxOf CX0 P w K mg base ["x", "y", "z", "found"] "_law_made_a" (defScope sMa) f (.ref c) A outer s H XE)) (((defBody sMa).drop 1).take 18) (isA K) :=
    (.cons (.one (E.at 0 (p := ("BadBook", "index"))).2 rfl (E.mg 0 (p := ("BadBook", "index"))) (by decide) ⟨fun _ _ _ _ _ => rfl, rfl, by decide +kernel, rfl, rfl, rfl, ⟨_, _, rfl, .cons .nil⟩⟩ rfl rfl rfl)
      (.cons (.one (E.at 1 (p := ("BadBox", "thing"))).2 rfl (E.mg 1 (p := ("BadBox", "thing"))) (by decide) ⟨fun _ _ _ _ _ => rfl, rfl, by decide +kernel, rfl, rfl, rfl, ⟨_, _, rfl, .cons .nil⟩⟩ rfl rfl rfl)
      (.cons (.one (E.at 2 (p := ("BadCells", "index"))).2 rfl (E.mg 2 (p := ("BadCells", "index"))) (by decide) ⟨fun _ _ _ _ _ => rfl, rfl, by decide +kernel, rfl, rfl, rfl, ⟨_, _, rfl, .cons .nil⟩⟩ rfl rfl rfl)
      (.cons (.one (E.at 3 (p := ("BadChoice", "thing"))).2 rfl (E.mg 3 (p := ("BadChoice", "thing"))) (by decide) ⟨fun _ _ _ _ _ => rfl, rfl, by decide +kernel, rfl, rfl, rfl, ⟨_, _, rfl, .cons .nil⟩⟩ rfl rfl rfl)
      (.cons (.one (E.at 4 (p := ("BadCourse", "index"))).2 rfl (E.mg 4 (p := ("BadCourse", "index"))) (by decide) ⟨fun _ _ _ _ _ => rfl, rfl, by decide +kernel, rfl, rfl, rfl, ⟨_, _, rfl, .cons .nil⟩⟩ rfl rfl rfl)
      (.cons (.one (E.at 5 (p := ("BadDeed", "deed"))).2 rfl (E.mg 5 (p := ("BadDeed", "deed"))) (by decide) ⟨fun _ _ _ _ _ => rfl, rfl, by decide +kernel, rfl, rfl, rfl, ⟨_, _, rfl, .cons .nil⟩⟩ rfl rfl rfl)
      (.cons (.one (E.at 6 (p := ("BadEnd", "thing"))).2 rfl (E.mg 6 (p := ("BadEnd", "thing"))) (by decide) ⟨fun _ _ _ _ _ => rfl, rfl, by decide +kernel, rfl, rfl, rfl, ⟨_, _, rfl, .cons .nil⟩⟩ rfl rfl rfl)
      (.cons (.one (E.at 7 (p := ("BadEndless", "thing"))).2 rfl (E.mg 7 (p := ("BadEndless", "thing"))) (by decide) ⟨fun _ _ _ _ _ => rfl, rfl, by decide +kernel, rfl, rfl, rfl, ⟨_, _, rfl, .cons .nil⟩⟩ rfl rfl rfl)
      (.cons (.one (E.at 8 (p := ("BadEnds", "index"))).2 rfl (E.mg 8 (p := ("BadEnds", "index"))) (by decide) ⟨fun _ _ _ _ _ => rfl, rfl, by decide +kernel, rfl, rfl, rfl, ⟨_, _, rfl, .cons .nil⟩⟩ rfl rfl rfl)
      (.cons (.one (E.at 9 (p := ("BadFigures", "thing"))).2 rfl (E.mg 9 (p := ("BadFigures", "thing"))) (by decide) ⟨fun _ _ _ _ _ => rfl, rfl, by decide +kernel, rfl, rfl, rfl, ⟨_, _, rfl, .cons .nil⟩⟩ rfl rfl rfl)
      (.cons (.one (E.at 10 (p := ("BadForm", "thing"))).2 rfl (E.mg 10 (p := ("BadForm", "thing"))) (by decide) ⟨fun _ _ _ _ _ => rfl, rfl, by decide +kernel, rfl, rfl, rfl, ⟨_, _, rfl, .cons .nil⟩⟩ rfl rfl rfl)
      (.cons (.one (E.at 11 (p := ("BadIndex", "thing"))).2 rfl (E.mg 11 (p := ("BadIndex", "thing"))) (by decide) ⟨fun _ _ _ _ _ => rfl, rfl, by decide +kernel, rfl, rfl, rfl, ⟨_, _, rfl, .cons .nil⟩⟩ rfl rfl rfl)
      (.cons (.one (E.at 12 (p := ("BadItems", "index"))).2 rfl (E.mg 12 (p := ("BadItems", "index"))) (by decide) ⟨fun _ _ _ _ _ => rfl, rfl, by decide +kernel, rfl, rfl, rfl, ⟨_, _, rfl, .cons .nil⟩⟩ rfl rfl rfl)
      (.cons (.one (E.at 13 (p := ("BadJoins", "index"))).2 rfl (E.mg 13 (p := ("BadJoins", "index"))) (by decide) ⟨fun _ _ _ _ _ => rfl, rfl, by decide +kernel, rfl, rfl, rfl, ⟨_, _, rfl, .cons .nil⟩⟩ rfl rfl rfl)
      (.cons (.one (E.at 14 (p := ("BadKind", "thing"))).2 rfl (E.mg 14 (p := ("BadKind", "thing"))) (by decide) ⟨fun _ _ _ _ _ => rfl, rfl, by decide +kernel, rfl, rfl, rfl, ⟨_, _, rfl, .cons .nil⟩⟩ rfl rfl rfl)
      (.cons (.one (E.at 15 (p := ("BadLot", "index"))).2 rfl (E.mg 15 (p := ("BadLot", "index"))) (by decide) ⟨fun _ _ _ _ _ => rfl, rfl, by decide +kernel, rfl, rfl, rfl, ⟨_, _, rfl, .cons .nil⟩⟩ rfl rfl rfl)
      (.cons (.one (E.at 16 (p := ("BadMachine", "thing"))).2 rfl (E.mg 16 (p := ("BadMachine", "thing"))) (by decide) ⟨fun _ _ _ _ _ => rfl, rfl, by decide +kernel, rfl, rfl, rfl, ⟨_, _, rfl, .cons .nil⟩⟩ rfl rfl rfl)
      (.cons (.one (E.at 17 (p := ("BadMany", "thing"))).2 rfl (E.mg 17 (p := ("BadMany", "thing"))) (by decide) ⟨fun _ _ _ _ _ => rfl, rfl, by decide +kernel, rfl, rfl, rfl, ⟨_, _, rfl, .cons .nil⟩⟩ rfl rfl rfl) .nil))))))))))))))))))
theorem bd_ma : defBody sMa = (.Assign [.Name "found" ⟨264, 4, 264, 9⟩] (.List [] ⟨264, 12, 264, 14⟩) ⟨264, 4, 264, 14⟩ :: (((defBody sMa).drop 1).take 18 ++ [.Return (some (.Name "found" ⟨283, 11, 283, 16⟩)) ⟨283, 4, 283, 16⟩])) := by kernel_rfl
theorem ok_ma {f c Pt : Addr} {T : List (Addr × Str)} {oc kV doc pm ct : Value} {od an : Option Addr} {osl : Array (Option Value)} (lk : K.lookup f = some ⟨oc, od, .func (fnOf "_law_made_a" "_law_made_a" (defArgs sMa) (defBody sMa) (defScope sMa) .none kV doc pm an (.ref c) ct), osl⟩) (hcd : codeIn K (.ref c) "_law_made_a" = true)
    (TB : TabB base mg c Pt) (hmT : (Pt, (("_law_made_a" : Str) ++ ".<locals>.") ++ "<lambda>") ∈ T) (hu : ∀ p ∈ T, p.1 = Pt → p.2 = (("_law_made_a" : Str) ++ ".<locals>.") ++ "<lambda>") (E : EF P K mg) :
    FnOk P w K mg base CX0 3 f (fnOf "_law_made_a" "_law_made_a" (defArgs sMa) (defBody sMa) (defScope sMa) .none kV doc pm an (.ref c) ct) ["x", "y", "z"] (spMade K T (isA K)) := by
  refine fn_of (CX := CX0) (P := P) (w := w) (mg := mg) (base := base) (k := 2) (N := ["x", "y", "z", "found"]) lk hcd scMa (fun vs H Q E h => ?_) (fun A outer s H vs Q XE hr hsp => ?_)
  · obtain ⟨v, w, z, rfl, _⟩ := h
    rfl
  · obtain ⟨v, w', z, rfl, hT, k⟩ := hsp
    have h1 := ps_set (X := cxOf CX0 P w K mg base ["x", "y", "z", "found"] "_law_made_a" (defScope sMa) f (.ref c) A outer s H XE) (i := 3) (x := "found") (pos' := ⟨264, 4, 264, 9⟩) (pos := ⟨264, 4, 264, 14⟩) scMa.nd rfl (.inl (loMa "found" (by decide))) (pe_lst (pos := ⟨264, 12, 264, 14⟩) pa_nil)
    have h2 := pss_rows (X := cxOf CX0 P w K mg base ["x", "y", "z", "found"] "_law_made_a" (defScope sMa) f (.ref c) A outer s H XE) (T := T) (rp1 := ⟨283, 11, 283, 16⟩) (rp2 := ⟨283, 4, 283, 16⟩) TB rfl hmT hu (hr.mono (by decide)) rfl (fun n hn => .inl (loMa n hn)) (rows_a (A := A) (outer := outer) (s := s) (H := H) (XE := XE) (f := f) (c := c) (w := w) (base := base) E)
    have PP := PSs.of_eq bd_ma (pss_cons h1 h2)
    refine ⟨_, PP, ?_⟩
    exact ⟨Nat.zero_le _, fun l hl => made_end (is := isA K) rfl (show 18 < 1000 by decide) hT k l hl⟩

theorem rows_b {c f : Addr} {A : Around} {outer : List Env} {s : Shared} {H : Hp} {XE : XK} (E : EF P K mg) :
    Paired (RowSt (cxOf CX0 P w K mg base ["x", "y", "z", "found"] "_law_made_b" (defScope sMb) f (.ref c) A outer s H XE)) (((defBody sMb).drop 1).take 18) (isB K) :=
    (.cons (.one (E.at 18 (p := ("BadMost", "thing"))).2 rfl (E.mg 18 (p := ("BadMost", "thing"))) (by decide) ⟨fun _ _ _ _ _ => rfl, rfl, by decide +kernel, rfl, rfl, rfl, ⟨_, _, rfl, .cons .nil⟩⟩ rfl rfl rfl)
      (.cons (.one (E.at 19 (p := ("BadNames", "names"))).2 rfl (E.mg 19 (p := ("BadNames", "names"))) (by decide) ⟨fun _ _ _ _ _ => rfl, rfl, by decide +kernel, rfl, rfl, rfl, ⟨_, _, rfl, .cons .nil⟩⟩ rfl rfl rfl)
      (.cons (.one (E.at 20 (p := ("BadNet", "thing"))).2 rfl (E.mg 20 (p := ("BadNet", "thing"))) (by decide) ⟨fun _ _ _ _ _ => rfl, rfl, by decide +kernel, rfl, rfl, rfl, ⟨_, _, rfl, .cons .nil⟩⟩ rfl rfl rfl)
      (.cons (.one (E.at 21 (p := ("BadOther", "thing"))).2 rfl (E.mg 21 (p := ("BadOther", "thing"))) (by decide) ⟨fun _ _ _ _ _ => rfl, rfl, by decide +kernel, rfl, rfl, rfl, ⟨_, _, rfl, .cons .nil⟩⟩ rfl rfl rfl)
      (.cons (.one (E.at 22 (p := ("BadPair", "thing"))).2 rfl (E.mg 22 (p := ("BadPair", "thing"))) (by decide) ⟨fun _ _ _ _ _ => rfl, rfl, by decide +kernel, rfl, rfl, rfl, ⟨_, _, rfl, .cons .nil⟩⟩ rfl rfl rfl)
      (.cons (.one (E.at 23 (p := ("BadParts", "index"))).2 rfl (E.mg 23 (p := ("BadParts", "index"))) (by decide) ⟨fun _ _ _ _ _ => rfl, rfl, by decide +kernel, rfl, rfl, rfl, ⟨_, _, rfl, .cons .nil⟩⟩ rfl rfl rfl)
      (.cons (.one (E.at 24 (p := ("BadPlan", "thing"))).2 rfl (E.mg 24 (p := ("BadPlan", "thing"))) (by decide) ⟨fun _ _ _ _ _ => rfl, rfl, by decide +kernel, rfl, rfl, rfl, ⟨_, _, rfl, .cons .nil⟩⟩ rfl rfl rfl)
      (.cons (.one (E.at 25 (p := ("BadProgram", "thing"))).2 rfl (E.mg 25 (p := ("BadProgram", "thing"))) (by decide) ⟨fun _ _ _ _ _ => rfl, rfl, by decide +kernel, rfl, rfl, rfl, ⟨_, _, rfl, .cons .nil⟩⟩ rfl rfl rfl)
      (.cons (.one (E.at 26 (p := ("BadQuestion", "thing"))).2 rfl (E.mg 26 (p := ("BadQuestion", "thing"))) (by decide) ⟨fun _ _ _ _ _ => rfl, rfl, by decide +kernel, rfl, rfl, rfl, ⟨_, _, rfl, .cons .nil⟩⟩ rfl rfl rfl)
      (.cons (.one (E.at 27 (p := ("BadRules", "index"))).2 rfl (E.mg 27 (p := ("BadRules", "index"))) (by decide) ⟨fun _ _ _ _ _ => rfl, rfl, by decide +kernel, rfl, rfl, rfl, ⟨_, _, rfl, .cons .nil⟩⟩ rfl rfl rfl)
      (.cons (.one (E.at 28 (p := ("BadSession", "thing"))).2 rfl (E.mg 28 (p := ("BadSession", "thing"))) (by decide) ⟨fun _ _ _ _ _ => rfl, rfl, by decide +kernel, rfl, rfl, rfl, ⟨_, _, rfl, .cons .nil⟩⟩ rfl rfl rfl)
      (.cons (.one (E.at 29 (p := ("BadShut", "index"))).2 rfl (E.mg 29 (p := ("BadShut", "index"))) (by decide) ⟨fun _ _ _ _ _ => rfl, rfl, by decide +kernel, rfl, rfl, rfl, ⟨_, _, rfl, .cons .nil⟩⟩ rfl rfl rfl)
      (.cons (.one (E.at 30 (p := ("BadStates", "index"))).2 rfl (E.mg 30 (p := ("BadStates", "index"))) (by decide) ⟨fun _ _ _ _ _ => rfl, rfl, by decide +kernel, rfl, rfl, rfl, ⟨_, _, rfl, .cons .nil⟩⟩ rfl rfl rfl)
      (.cons (.one (E.at 31 (p := ("BadStep", "step"))).2 rfl (E.mg 31 (p := ("BadStep", "step"))) (by decide) ⟨fun _ _ _ _ _ => rfl, rfl, by decide +kernel, rfl, rfl, rfl, ⟨_, _, rfl, .cons .nil⟩⟩ rfl rfl rfl)
      (.cons (.one (E.at 32 (p := ("BadSurroundings", "thing"))).2 rfl (E.mg 32 (p := ("BadSurroundings", "thing"))) (by decide) ⟨fun _ _ _ _ _ => rfl, rfl, by decide +kernel, rfl, rfl, rfl, ⟨_, _, rfl, .cons .nil⟩⟩ rfl rfl rfl)
      (.cons (.one (E.at 33 (p := ("BadTable", "index"))).2 rfl (E.mg 33 (p := ("BadTable", "index"))) (by decide) ⟨fun _ _ _ _ _ => rfl, rfl, by decide +kernel, rfl, rfl, rfl, ⟨_, _, rfl, .cons .nil⟩⟩ rfl rfl rfl)
      (.cons (.one (E.at 34 (p := ("BadText", "index"))).2 rfl (E.mg 34 (p := ("BadText", "index"))) (by decide) ⟨fun _ _ _ _ _ => rfl, rfl, by decide +kernel, rfl, rfl, rfl, ⟨_, _, rfl, .cons .nil⟩⟩ rfl rfl rfl)
      (.cons (.one (E.at 35 (p := ("BadTies", "index"))).2 rfl (E.mg 35 (p := ("BadTies", "index"))) (by decide) ⟨fun _ _ _ _ _ => rfl, rfl, by decide +kernel, rfl, rfl, rfl, ⟨_, _, rfl, .cons .nil⟩⟩ rfl rfl rfl) .nil))))))))))))))))))
theorem bd_mb : defBody sMb = (.Assign [.Name "found" ⟨285, 4, 285, 9⟩] (.List [] ⟨285, 12, 285, 14⟩) ⟨285, 4, 285, 14⟩ :: (((defBody sMb).drop 1).take 18 ++ [.Return (some (.Name "found" ⟨304, 11, 304, 16⟩)) ⟨304, 4, 304, 16⟩])) := by kernel_rfl
theorem ok_mb {f c Pt : Addr} {T : List (Addr × Str)} {oc kV doc pm ct : Value} {od an : Option Addr} {osl : Array (Option Value)} (lk : K.lookup f = some ⟨oc, od, .func (fnOf "_law_made_b" "_law_made_b" (defArgs sMb) (defBody sMb) (defScope sMb) .none kV doc pm an (.ref c) ct), osl⟩) (hcd : codeIn K (.ref c) "_law_made_b" = true)
    (TB : TabB base mg c Pt) (hmT : (Pt, (("_law_made_b" : Str) ++ ".<locals>.") ++ "<lambda>") ∈ T) (hu : ∀ p ∈ T, p.1 = Pt → p.2 = (("_law_made_b" : Str) ++ ".<locals>.") ++ "<lambda>") (E : EF P K mg) :
    FnOk P w K mg base CX0 3 f (fnOf "_law_made_b" "_law_made_b" (defArgs sMb) (defBody sMb) (defScope sMb) .none kV doc pm an (.ref c) ct) ["x", "y", "z"] (spMade K T (isB K)) := by
  refine fn_of (CX := CX0) (P := P) (w := w) (mg := mg) (base := base) (k := 2) (N := ["x", "y", "z", "found"]) lk hcd scMb (fun vs H Q E h => ?_) (fun A outer s H vs Q XE hr hsp => ?_)
  · obtain ⟨v, w, z, rfl, _⟩ := h
    rfl
  · obtain ⟨v, w', z, rfl, hT, k⟩ := hsp
    have h1 := ps_set (X := cxOf CX0 P w K mg base ["x", "y", "z", "found"] "_law_made_b" (defScope sMb) f (.ref c) A outer s H XE) (i := 3) (x := "found") (pos' := ⟨285, 4, 285, 9⟩) (pos := ⟨285, 4, 285, 14⟩) scMb.nd rfl (.inl (loMb "found" (by decide))) (pe_lst (pos := ⟨285, 12, 285, 14⟩) pa_nil)
    have h2 := pss_rows (X := cxOf CX0 P w K mg base ["x", "y", "z", "found"] "_law_made_b" (defScope sMb) f (.ref c) A outer s H XE) (T := T) (rp1 := ⟨304, 11, 304, 16⟩) (rp2 := ⟨304, 4, 304, 16⟩) TB rfl hmT hu (hr.mono (by decide)) rfl (fun n hn => .inl (loMb n hn)) (rows_b (A := A) (outer := outer) (s := s) (H := H) (XE := XE) (f := f) (c := c) (w := w) (base := base) E)
    have PP := PSs.of_eq bd_mb (pss_cons h1 h2)
    refine ⟨_, PP, ?_⟩
    exact ⟨Nat.zero_le _, fun l hl => made_end (is := isB K) rfl (show 18 < 1000 by decide) hT k l hl⟩

theorem rows_c {c f : Addr} {A : Around} {outer : List Env} {s : Shared} {H : Hp} {XE : XK} (E : EF P K mg) :
    Paired (RowSt (cxOf CX0 P w K mg base ["x", "y", "z", "found"] "_law_made_c" (defScope sMc) f (.ref c) A outer s H XE)) (((defBody sMc).drop 1).take 12) (isC K) :=
    (.cons (.one (E.at 36 (p := ("BadWay", "thing"))).2 rfl (E.mg 36 (p := ("BadWay", "thing"))) (by decide) ⟨fun _ _ _ _ _ => rfl, rfl, by decide +kernel, rfl, rfl, rfl, ⟨_, _, rfl, .cons .nil⟩⟩ rfl rfl rfl)
      (.cons (.one (E.at 37 (p := ("BadWire", "name"))).2 rfl (E.mg 37 (p := ("BadWire", "name"))) (by decide) ⟨fun _ _ _ _ _ => rfl, rfl, by decide +kernel, rfl, rfl, rfl, ⟨_, _, rfl, .cons .nil⟩⟩ rfl rfl rfl)
      (.cons (.one (E.at 38 (p := ("InUse", "question"))).2 rfl (E.mg 38 (p := ("InUse", "question"))) (by decide) ⟨fun _ _ _ _ _ => rfl, rfl, by decide +kernel, rfl, rfl, rfl, ⟨_, _, rfl, .cons .nil⟩⟩ rfl rfl rfl)
      (.cons (.one (E.at 39 (p := ("IsWatched", "question"))).2 rfl (E.mg 39 (p := ("IsWatched", "question"))) (by decide) ⟨fun _ _ _ _ _ => rfl, rfl, by decide +kernel, rfl, rfl, rfl, ⟨_, _, rfl, .cons .nil⟩⟩ rfl rfl rfl)
      (.cons (.one (E.at 40 (p := ("Meets", "end"))).2 rfl (E.mg 40 (p := ("Meets", "end"))) (by decide) ⟨fun _ _ _ _ _ => rfl, rfl, by decide +kernel, rfl, rfl, rfl, ⟨_, _, rfl, .cons .nil⟩⟩ rfl rfl rfl)
      (.cons (.one (E.at 41 (p := ("NoCount", "thing"))).2 rfl (E.mg 41 (p := ("NoCount", "thing"))) (by decide) ⟨fun _ _ _ _ _ => rfl, rfl, by decide +kernel, rfl, rfl, rfl, ⟨_, _, rfl, .cons .nil⟩⟩ rfl rfl rfl)
      (.cons (.one (E.at 42 (p := ("NotNow", "why"))).2 rfl (E.mg 42 (p := ("NotNow", "why"))) (by decide) ⟨fun _ _ _ _ _ => rfl, rfl, by decide +kernel, rfl, rfl, rfl, ⟨_, _, rfl, .cons .nil⟩⟩ rfl rfl rfl)
      (.cons (.one (E.at 43 (p := ("NotOpen", "index"))).2 rfl (E.mg 43 (p := ("NotOpen", "index"))) (by decide) ⟨fun _ _ _ _ _ => rfl, rfl, by decide +kernel, rfl, rfl, rfl, ⟨_, _, rfl, .cons .nil⟩⟩ rfl rfl rfl)
      (.cons (.one (E.at 44 (p := ("NotStill", "pair"))).2 rfl (E.mg 44 (p := ("NotStill", "pair"))) (by decide) ⟨fun _ _ _ _ _ => rfl, rfl, by decide +kernel, rfl, rfl, rfl, ⟨_, _, rfl, .cons .nil⟩⟩ rfl rfl rfl)
      (.cons (.one (E.at 45 (p := ("NotWatched", "question"))).2 rfl (E.mg 45 (p := ("NotWatched", "question"))) (by decide) ⟨fun _ _ _ _ _ => rfl, rfl, by decide +kernel, rfl, rfl, rfl, ⟨_, _, rfl, .cons .nil⟩⟩ rfl rfl rfl)
      (.cons (.one (E.at 46 (p := ("NotWithout", "index"))).2 rfl (E.mg 46 (p := ("NotWithout", "index"))) (by decide) ⟨fun _ _ _ _ _ => rfl, rfl, by decide +kernel, rfl, rfl, rfl, ⟨_, _, rfl, .cons .nil⟩⟩ rfl rfl rfl)
      (.cons (.two E.two.2 rfl E.two.1 (by decide) ⟨fun _ _ _ _ _ => rfl, rfl, by decide +kernel, rfl, rfl, rfl, ⟨_, _, rfl, .cons (.cons .nil)⟩⟩ rfl rfl rfl) .nil))))))))))))
theorem bd_mc : defBody sMc = (.Assign [.Name "found" ⟨306, 4, 306, 9⟩] (.List [] ⟨306, 12, 306, 14⟩) ⟨306, 4, 306, 14⟩ :: (((defBody sMc).drop 1).take 12 ++ [.Return (some (.Name "found" ⟨319, 11, 319, 16⟩)) ⟨319, 4, 319, 16⟩])) := by kernel_rfl
theorem ok_mc {f c Pt : Addr} {T : List (Addr × Str)} {oc kV doc pm ct : Value} {od an : Option Addr} {osl : Array (Option Value)} (lk : K.lookup f = some ⟨oc, od, .func (fnOf "_law_made_c" "_law_made_c" (defArgs sMc) (defBody sMc) (defScope sMc) .none kV doc pm an (.ref c) ct), osl⟩) (hcd : codeIn K (.ref c) "_law_made_c" = true)
    (TB : TabB base mg c Pt) (hmT : (Pt, (("_law_made_c" : Str) ++ ".<locals>.") ++ "<lambda>") ∈ T) (hu : ∀ p ∈ T, p.1 = Pt → p.2 = (("_law_made_c" : Str) ++ ".<locals>.") ++ "<lambda>") (E : EF P K mg) :
    FnOk P w K mg base CX0 3 f (fnOf "_law_made_c" "_law_made_c" (defArgs sMc) (defBody sMc) (defScope sMc) .none kV doc pm an (.ref c) ct) ["x", "y", "z"] (spMade K T (isC K)) := by
  refine fn_of (CX := CX0) (P := P) (w := w) (mg := mg) (base := base) (k := 2) (N := ["x", "y", "z", "found"]) lk hcd scMc (fun vs H Q E h => ?_) (fun A outer s H vs Q XE hr hsp => ?_)
  · obtain ⟨v, w, z, rfl, _⟩ := h
    rfl
  · obtain ⟨v, w', z, rfl, hT, k⟩ := hsp
    have h1 := ps_set (X := cxOf CX0 P w K mg base ["x", "y", "z", "found"] "_law_made_c" (defScope sMc) f (.ref c) A outer s H XE) (i := 3) (x := "found") (pos' := ⟨306, 4, 306, 9⟩) (pos := ⟨306, 4, 306, 14⟩) scMc.nd rfl (.inl (loMc "found" (by decide))) (pe_lst (pos := ⟨306, 12, 306, 14⟩) pa_nil)
    have h2 := pss_rows (X := cxOf CX0 P w K mg base ["x", "y", "z", "found"] "_law_made_c" (defScope sMc) f (.ref c) A outer s H XE) (T := T) (rp1 := ⟨319, 11, 319, 16⟩) (rp2 := ⟨319, 4, 319, 16⟩) TB rfl hmT hu (hr.mono (by decide)) rfl (fun n hn => .inl (loMc n hn)) (rows_c (A := A) (outer := outer) (s := s) (H := H) (XE := XE) (f := f) (c := c) (w := w) (base := base) E)
    have PP := PSs.of_eq bd_mc (pss_cons h1 h2)
    refine ⟨_, PP, ?_⟩
    exact ⟨Nat.zero_le _, fun l hl => made_end (is := isC K) rfl (show 12 < 1000 by decide) hT k l hl⟩

theorem krows_a {f : Addr} {cdv : Value} {A : Around} {outer : List Env} {s : Shared} {H : Hp} {XE : XK} (E : EF P K mg) :
    Paired (KSt (cxOf CX0 P w K mg base ["e", "found"] "_law_kinds_a" (defScope sKa) f cdv A outer s H XE).nox) (((defBody sKa).drop 1).take 9) (dssA K) :=
    (.cons (.mk rfl (E.mg 0 (p := ("BadBook", "index"))) rfl (E.mg 1 (p := ("BadBox", "thing"))) (by decide) (by decide) rfl)
      (.cons (.mk rfl (E.mg 2 (p := ("BadCells", "index"))) rfl (E.mg 3 (p := ("BadChoice", "thing"))) (by decide) (by decide) rfl)
      (.cons (.mk rfl (E.mg 4 (p := ("BadCourse", "index"))) rfl (E.mg 5 (p := ("BadDeed", "deed"))) (by decide) (by decide) rfl)
      (.cons (.mk rfl (E.mg 6 (p := ("BadEnd", "thing"))) rfl (E.mg 7 (p := ("BadEndless", "thing"))) (by decide) (by decide) rfl)
      (.cons (.mk rfl (E.mg 8 (p := ("BadEnds", "index"))) rfl (E.mg 9 (p := ("BadFigures", "thing"))) (by decide) (by decide) rfl)
      (.cons (.mk rfl (E.mg 10 (p := ("BadForm", "thing"))) rfl (E.mg 11 (p := ("BadIndex", "thing"))) (by decide) (by decide) rfl)
      (.cons (.mk rfl (E.mg 12 (p := ("BadItems", "index"))) rfl (E.mg 13 (p := ("BadJoins", "index"))) (by decide) (by decide) rfl)
      (.cons (.mk rfl (E.mg 14 (p := ("BadKind", "thing"))) rfl (E.mg 15 (p := ("BadLot", "index"))) (by decide) (by decide) rfl)
      (.cons (.mk rfl (E.mg 16 (p := ("BadMachine", "thing"))) rfl (E.mg 17 (p := ("BadMany", "thing"))) (by decide) (by decide) rfl) .nil)))))))))
theorem bd_ka : defBody sKa = (.Assign [.Name "found" ⟨321, 4, 321, 9⟩] (.List [] ⟨321, 12, 321, 14⟩) ⟨321, 4, 321, 14⟩ :: (((defBody sKa).drop 1).take 9 ++ [.Return (some (.Name "found" ⟨331, 11, 331, 16⟩)) ⟨331, 4, 331, 16⟩])) := by kernel_rfl
theorem ok_ka {f : Addr} {fd : FuncData} (F : FunD K "_law_kinds_a" "_law_kinds_a" (defArgs sKa) (defBody sKa) (defScope sKa) [] [] f fd) (E : EF P K mg) (mi : mg "isinstance" = none) : FnOk P w K mg base CX0 2 f fd ["e"] (spK K (dssA K).flatten) := by
  refine F.ok scKa (fun vs H Q E h => ?_) (fun cdv A outer s H vs Q XE hr h => ?_)
  · obtain ⟨a, C, rfl, _⟩ := h
    rfl
  · obtain ⟨a, C, rfl, he, T, hk, k⟩ := h
    have h1 := ps_set (X := (cxOf CX0 P w K mg base ["e", "found"] "_law_kinds_a" (defScope sKa) f cdv A outer s H XE).nox) (i := 1) (x := "found") (pos' := ⟨321, 4, 321, 9⟩) (pos := ⟨321, 4, 321, 14⟩) scKa.nd rfl (.inl (loKa "found" (by decide))) (pe_lst (pos := ⟨321, 12, 321, 14⟩) pa_nil)
    have h2 := pss_k (X := (cxOf CX0 P w K mg base ["e", "found"] "_law_kinds_a" (defScope sKa) f cdv A outer s H XE).nox) (rp1 := ⟨331, 11, 331, 16⟩) (rp2 := ⟨331, 4, 331, 16⟩) rfl (fun n hn => .inl (loKa n hn)) rfl mi (krows_a (A := A) (outer := outer) (s := s) (H := H) (XE := XE) (f := f) (cdv := cdv) (w := w) (base := base) E)
    have PP := PSs.of_eq bd_ka (pss_cons h1 h2)
    refine ⟨_, PP.nox, ?_⟩
    refine ⟨Nat.zero_le _, fun l hl => ⟨l, [], a, C, rfl, rfl, upd_same, (show 0 + 18 < 1000 by decide), isErr_same (new_ext hl) he, T, hk, fun H' e1 e2 => ⟨l, rfl, ?_⟩⟩⟩
    exact k H' l (fun b o h => e1 b o (new_ext hl b o h) (ne_of_none h hl)) hl (by simpa using e2)

theorem krows_b {f : Addr} {cdv : Value} {A : Around} {outer : List Env} {s : Shared} {H : Hp} {XE : XK} (E : EF P K mg) :
    Paired (KSt (cxOf CX0 P w K mg base ["e", "found"] "_law_kinds_b" (defScope sKb) f cdv A outer s H XE).nox) (((defBody sKb).drop 1).take 9) (dssB K) :=
    (.cons (.mk rfl (E.mg 18 (p := ("BadMost", "thing"))) rfl (E.mg 19 (p := ("BadNames", "names"))) (by decide) (by decide) rfl)
      (.cons (.mk rfl (E.mg 20 (p := ("BadNet", "thing"))) rfl (E.mg 21 (p := ("BadOther", "thing"))) (by decide) (by decide) rfl)
      (.cons (.mk rfl (E.mg 22 (p := ("BadPair", "thing"))) rfl (E.mg 23 (p := ("BadParts", "index"))) (by decide) (by decide) rfl)
      (.cons (.mk rfl (E.mg 24 (p := ("BadPlan", "thing"))) rfl (E.mg 25 (p := ("BadProgram", "thing"))) (by decide) (by decide) rfl)
      (.cons (.mk rfl (E.mg 26 (p := ("BadQuestion", "thing"))) rfl (E.mg 27 (p := ("BadRules", "index"))) (by decide) (by decide) rfl)
      (.cons (.mk rfl (E.mg 28 (p := ("BadSession", "thing"))) rfl (E.mg 29 (p := ("BadShut", "index"))) (by decide) (by decide) rfl)
      (.cons (.mk rfl (E.mg 30 (p := ("BadStates", "index"))) rfl (E.mg 31 (p := ("BadStep", "step"))) (by decide) (by decide) rfl)
      (.cons (.mk rfl (E.mg 32 (p := ("BadSurroundings", "thing"))) rfl (E.mg 33 (p := ("BadTable", "index"))) (by decide) (by decide) rfl)
      (.cons (.mk rfl (E.mg 34 (p := ("BadText", "index"))) rfl (E.mg 35 (p := ("BadTies", "index"))) (by decide) (by decide) rfl) .nil)))))))))
theorem bd_kb : defBody sKb = (.Assign [.Name "found" ⟨333, 4, 333, 9⟩] (.List [] ⟨333, 12, 333, 14⟩) ⟨333, 4, 333, 14⟩ :: (((defBody sKb).drop 1).take 9 ++ [.Return (some (.Name "found" ⟨343, 11, 343, 16⟩)) ⟨343, 4, 343, 16⟩])) := by kernel_rfl
theorem ok_kb {f : Addr} {fd : FuncData} (F : FunD K "_law_kinds_b" "_law_kinds_b" (defArgs sKb) (defBody sKb) (defScope sKb) [] [] f fd) (E : EF P K mg) (mi : mg "isinstance" = none) : FnOk P w K mg base CX0 2 f fd ["e"] (spK K (dssB K).flatten) := by
  refine F.ok scKb (fun vs H Q E h => ?_) (fun cdv A outer s H vs Q XE hr h => ?_)
  · obtain ⟨a, C, rfl, _⟩ := h
    rfl
  · obtain ⟨a, C, rfl, he, T, hk, k⟩ := h
    have h1 := ps_set (X := (cxOf CX0 P w K mg base ["e", "found"] "_law_kinds_b" (defScope sKb) f cdv A outer s H XE).nox) (i := 1) (x := "found") (pos' := ⟨333, 4, 333, 9⟩) (pos := ⟨333, 4, 333, 14⟩) scKb.nd rfl (.inl (loKb "found" (by decide))) (pe_lst (pos := ⟨333, 12, 333, 14⟩) pa_nil)
    have h2 := pss_k (X := (cxOf CX0 P w K mg base ["e", "found"] "_law_kinds_b" (defScope sKb) f cdv A outer s H XE).nox) (rp1 := ⟨343, 11, 343, 16⟩) (rp2 := ⟨343, 4, 343, 16⟩) rfl (fun n hn => .inl (loKb n hn)) rfl mi (krows_b (A := A) (outer := outer) (s := s) (H := H) (XE := XE) (f := f) (cdv := cdv) (w := w) (base := base) E)
    have PP := PSs.of_eq bd_kb (pss_cons h1 h2)
    refine ⟨_, PP.nox, ?_⟩
    refine ⟨Nat.zero_le _, fun l hl => ⟨l, [], a, C, rfl, rfl, upd_same, (show 0 + 18 < 1000 by decide), isErr_same (new_ext hl) he, T, hk, fun H' e1 e2 => ⟨l, rfl, ?_⟩⟩⟩
    exact k H' l (fun b o h => e1 b o (new_ext hl b o h) (ne_of_none h hl)) hl (by simpa using e2)

theorem krows_c {f : Addr} {cdv : Value} {A : Around} {outer : List Env} {s : Shared} {H : Hp} {XE : XK} (E : EF P K mg) :
    Paired (KSt (cxOf CX0 P w K mg base ["e", "found"] "_law_kinds_c" (defScope sKc) f cdv A outer s H XE).nox) (((defBody sKc).drop 1).take 6) (dssC K) :=
    (.cons (.mk rfl (E.mg 36 (p := ("BadWay", "thing"))) rfl (E.mg 37 (p := ("BadWire", "name"))) (by decide) (by decide) rfl)
      (.cons (.mk rfl (E.mg 38 (p := ("InUse", "question"))) rfl (E.mg 39 (p := ("IsWatched", "question"))) (by decide) (by decide) rfl)
      (.cons (.mk rfl (E.mg 40 (p := ("Meets", "end"))) rfl (E.mg 41 (p := ("NoCount", "thing"))) (by decide) (by decide) rfl)
      (.cons (.mk rfl (E.mg 42 (p := ("NotNow", "why"))) rfl (E.mg 43 (p := ("NotOpen", "index"))) (by decide) (by decide) rfl)
      (.cons (.mk rfl (E.mg 44 (p := ("NotStill", "pair"))) rfl (E.mg 45 (p := ("NotWatched", "question"))) (by decide) (by decide) rfl)
      (.cons (.mk rfl (E.mg 46 (p := ("NotWithout", "index"))) rfl E.two.1 (by decide) (by decide) rfl) .nil))))))
theorem bd_kc : defBody sKc = (.Assign [.Name "found" ⟨345, 4, 345, 9⟩] (.List [] ⟨345, 12, 345, 14⟩) ⟨345, 4, 345, 14⟩ :: (((defBody sKc).drop 1).take 6 ++ [.Return (some (.Name "found" ⟨352, 11, 352, 16⟩)) ⟨352, 4, 352, 16⟩])) := by kernel_rfl
theorem ok_kc {f : Addr} {fd : FuncData} (F : FunD K "_law_kinds_c" "_law_kinds_c" (defArgs sKc) (defBody sKc) (defScope sKc) [] [] f fd) (E : EF P K mg) (mi : mg "isinstance" = none) : FnOk P w K mg base CX0 2 f fd ["e"] (spK K (dssC K).flatten) := by
  refine F.ok scKc (fun vs H Q E h => ?_) (fun cdv A outer s H vs Q XE hr h => ?_)
  · obtain ⟨a, C, rfl, _⟩ := h
    rfl
  · obtain ⟨a, C, rfl, he, T, hk, k⟩ := h
    have h1 := ps_set (X := (cxOf CX0 P w K mg base ["e", "found"] "_law_kinds_c" (defScope sKc) f cdv A outer s H XE).nox) (i := 1) (x := "found") (pos' := ⟨345, 4, 345, 9⟩) (pos := ⟨345, 4, 345, 14⟩) scKc.nd rfl (.inl (loKc "found" (by decide))) (pe_lst (pos := ⟨345, 12, 345, 14⟩) pa_nil)
    have h2 := pss_k (X := (cxOf CX0 P w K mg base ["e", "found"] "_law_kinds_c" (defScope sKc) f cdv A outer s H XE).nox) (rp1 := ⟨352, 11, 352, 16⟩) (rp2 := ⟨352, 4, 352, 16⟩) rfl (fun n hn => .inl (loKc n hn)) rfl mi (krows_c (A := A) (outer := outer) (s := s) (H := H) (XE := XE) (f := f) (cdv := cdv) (w := w) (base := base) E)
    have PP := PSs.of_eq bd_kc (pss_cons h1 h2)
    refine ⟨_, PP.nox, ?_⟩
    refine ⟨Nat.zero_le _, fun l hl => ⟨l, [], a, C, rfl, rfl, upd_same, (show 0 + 12 < 1000 by decide), isErr_same (new_ext hl) he, T, hk, fun H' e1 e2 => ⟨l, rfl, ?_⟩⟩⟩
    exact k H' l (fun b o h => e1 b o (new_ext hl b o h) (ne_of_none h hl)) hl (by simpa using e2)

end
end Kz
namespace Kz
open PySem PySem.W PySem.Calls PyProof.Rows L2 LamX
open He (ga)

abbrev sKn : Stmt := topS 60
abbrev sOw : Stmt := topS 61
theorem scKn : FnScope ["e"] ["e"] (defScope sKn) := ⟨rfl, rfl, rfl, by decide +kernel, rfl, by decide +kernel, by decide +kernel⟩
theorem scOw : FnScope ["e", "at", "k"] ["e", "at"] (defScope sOw) := ⟨rfl, rfl, rfl, by decide +kernel, rfl, by decide +kernel, by decide +kernel⟩
theorem same_new {H : Hp} {p : Addr} {o : HO} (h : H p = none) : Same H (upd H p o) := new_ext h

section
variable {P : Program} {w : World} {K : Frag} {mg : Str → Option Value} {base : Heap}
theorem ok_kn {f fa fb fc : Addr} {fd fda fdb fdc : FuncData} (F : FunD K "_law_kinds" "_law_kinds" (defArgs sKn) (defBody sKn) (defScope sKn) [] [] f fd) (GA : FnOk P w K mg base CX0 2 fa fda ["e"] (spK K (dssA K).flatten)) (GB : FnOk P w K mg base CX0 2 fb fdb ["e"] (spK K (dssB K).flatten))
    (GC : FnOk P w K mg base CX0 2 fc fdc ["e"] (spK K (dssC K).flatten)) (ma : mg "_law_kinds_a" = some (.ref fa)) (mb : mg "_law_kinds_b" = some (.ref fb)) (mc : mg "_law_kinds_c" = some (.ref fc)) (ka : keepIn K (.ref fa) = true) (kb : keepIn K (.ref fb) = true) (kc : keepIn K (.ref fc) = true)
    (ba : Binds K fda ["e"] []) (bb : Binds K fdb ["e"] []) (bc : Binds K fdc ["e"] []) : FnOk P w K mg base CX0 3 f fd ["e"] (spK K (dsAll K)) := by
  refine F.ok scKn (fun vs H Q E h => ?_) (fun cdv A outer s H vs Q XE hr h => ?_)
  · obtain ⟨a, C, rfl, _⟩ := h
    rfl
  · obtain ⟨a, C, rfl, he, T, hk, k⟩ := h
    refine ⟨_, PSs.nox (pss_one (ps_ret (pe_op op_cat (pe_op op_cat (pe_call GA hr rfl ma ka ba .nil pass0 (pa_cons (pv 0) pa_nil)) (pe_call GB hr rfl mb kb bb .nil pass0 (pa_cons (pv 0) pa_nil))) (pe_call GC hr rfl mc kc bc .nil pass0 (pa_cons (pv 0) pa_nil))))), ?_⟩
    have hA : ∀ d ∈ (dssA K).flatten, kitOne K (.ref C) (.ref d) = some (decide (C = d)) := fun d hd => hk d (List.mem_append_left _ (List.mem_append_left _ hd))
    have hB : ∀ d ∈ (dssB K).flatten, kitOne K (.ref C) (.ref d) = some (decide (C = d)) := fun d hd => hk d (List.mem_append_left _ (List.mem_append_right _ hd))
    have hC : ∀ d ∈ (dssC K).flatten, kitOne K (.ref C) (.ref d) = some (decide (C = d)) := fun d hd => hk d (List.mem_append_right _ hd)
    refine ⟨.ref a, rfl, a, C, rfl, he, T, hA, fun H1 l1 s1 n1 e1 => ?_⟩
    refine ⟨.ref a, rfl, a, C, rfl, isErr_same s1 he, T, hB, fun H2 l2 s2 n2 e2 => ?_⟩
    refine ⟨l1, l2, _, _, rfl, rfl, s2 _ _ e1, e2, ?_, fun l3 n3 => ?_⟩
    · rw [ans, ans, List.length_map, List.length_map]
      exact small4 _ (show 18 + 18 ≤ 1000 by decide)
    · refine ⟨.ref a, rfl, a, C, rfl, isErr_same (same_new n3) (isErr_same s2 (isErr_same s1 he)), T, hC, fun H3 l4 s4 n4 e4 => ?_⟩
      refine ⟨l3, l4, _, _, rfl, rfl, s4 _ _ upd_same, e4, ?_, fun l5 n5 => ?_⟩
      · rw [List.length_append, ans, ans, ans, List.length_map, List.length_map, List.length_map]
        exact small4 _ (show 18 + 18 + 12 ≤ 1000 by decide)
      · have S := ((s1.trans s2).trans ((same_new n3).trans s4))
        refine k _ l5 (S.trans (same_new n5)) (S.free n5) ?_
        rw [upd_same]
        unfold dsAll ans
        rw [List.map_append, List.map_append]

/-! ### lists of truths -/
theorem dpAll_bl {H : Hp} : ∀ bs : List Bool, DpAll K H (bs.map V.bl) (bs.map PyData.bool)
  | [] => .nil
  | b :: r => .cons (.bl b) (dpAll_bl r)
theorem eqvAll_bl : ∀ bs : List Bool, PyData.eqvAll (bs.map PyData.bool) (bs.map PyData.bool) = true
  | [] => rfl
  | b :: r => by
    show (PyData.eqv (.bool b) (.bool b) && PyData.eqvAll _ _) = true
    rw [eqvAll_bl r, Bool.and_true]
    show (b == b) = true
    exact beq_self_eq_true b
theorem canLay_bl : ∀ bs : List Bool, PyData.canLayAll0 (bs.map PyData.bool) = true
  | [] => rfl
  | b :: r => by
    show (PyData.canLay0 (.bool b) && PyData.canLayAll0 _) = true
    rw [canLay_bl r]
    rfl
theorem depth_bl : ∀ bs : List Bool, PyData.depthAll (bs.map PyData.bool) = 0
  | [] => rfl
  | b :: r => by
    simp only [List.map_cons, PyData.depthAll, PyData.depth, depth_bl r]
    rfl
theorem shaped_bl (bs : List Bool) (h : bs.length ≤ 1000) : SeqAt.shaped (.list (bs.map PyData.bool)) = true := by
  unfold SeqAt.shaped
  rw [Bool.and_eq_true]
  constructor
  · simp only [PyData.canLay0, canLay_bl, List.length_map, Bool.true_and, Bool.and_true]
    try decide
  · simp only [PyData.depth, depth_bl]
    rfl
end
end Kz
namespace Kz
open PySem PySem.W PySem.Calls PyProof.Rows L2 LamX
open He (ga)

theorem boot_ve : bootBuiltins "ValueError" = some (.type "ValueError") := by decide +kernel
theorem boot_le : bootBuiltins "LookupError" = some (.type "LookupError") := by decide +kernel
theorem boot_rp : bootBuiltins "repr" = some (.builtin "repr") := by decide +kernel

section
variable {P : Program} {w : World} {K : Frag} {mg : Str → Option Value} {base : Heap}
/-- what is known of an error's class for the law's looks -/
structure Kit (K : Frag) (C : Addr) : Prop where
  xi : XiC K C
  fe : kitOne K (.ref C) (.ref (ga K "ForkError")) = some true
  ve : kitOne K (.ref C) (.type "ValueError") = some true
  le : kitOne K (.ref C) (.type "LookupError") = some false
  all : ∀ d ∈ dsAll K, kitOne K (.ref C) (.ref d) = some (decide (C = d))
theorem ans_at {K : Frag} {C : Addr} {i : Nat} (nd : (dsAll K).Nodup) (h : (dsAll K)[i]? = some C) : ans C (dsAll K) = ((List.range (dsAll K).length).map fun (k : Nat) => decide (V.int (0 + (k : Int)) = V.int (i : Int))).map V.bl := by
  unfold ans
  apply List.ext_getElem?
  intro j
  simp only [List.getElem?_map, List.map_map]
  by_cases hj : j < (dsAll K).length
  · rw [List.getElem?_range hj, List.getElem?_eq_getElem hj]
    simp only [Option.map_some, Function.comp]
    congr 2
    obtain ⟨hi, e⟩ := List.getElem?_eq_some_iff.mp h
    by_cases q : j = i
    · subst q
      rw [decide_eq_true e.symm, decide_eq_true (by rw [Int.zero_add])]
    · rw [decide_eq_false (fun z => q ((List.getElem_inj nd).mp (z.symm.trans e.symm))), decide_eq_false (fun z => q (by
        have y := V.int.inj z
        rw [Int.zero_add] at y
        exact Int.ofNat.inj y))]
  · rw [List.getElem?_eq_none (by simpa using hj), List.getElem?_eq_none (by simpa using hj)]
    rfl
def spOwn (K : Frag) : Sp := fun vs H Q _ => ∃ (a C : Addr) (i : Nat), vs = [.ref a, .int (i : Int)] ∧ IsErr H a C ∧ Kit K C ∧ (dsAll K).Nodup ∧ (dsAll K)[i]? = some C ∧ ∀ H', Same H H' → Q (.bl true) H'
theorem ok_ow {f fk : Addr} {fd fdk : FuncData} (F : FunD K "_law_is_own" "_law_is_own" (defArgs sOw) (defBody sOw) (defScope sOw) [] [] f fd) (GK : FnOk P w K mg base CX0 3 fk fdk ["e"] (spK K (dsAll K))) (mk : mg "_law_kinds" = some (.ref fk)) (kk : keepIn K (.ref fk) = true) (bk : Binds K fdk ["e"] [])
    (mi : mg "isinstance" = none) (mF : mg "ForkError" = some (.ref (ga K "ForkError"))) (mV : mg "ValueError" = none) (mL : mg "LookupError" = none) (mr : mg "range" = none) : FnOk P w K mg base CX0 4 f fd ["e", "at"] (spOwn K) := by
  refine F.ok scOw (fun vs H Q E h => ?_) (fun cdv A outer s H vs Q XE hr h => ?_)
  · obtain ⟨a, C, i, rfl, _⟩ := h
    rfl
  · obtain ⟨a, C, i, rfl, he, T, nd, hi, k⟩ := h
    have hu := hu_of hr
    refine ⟨_, PSs.nox (pss_cons (ps_if ((pw_or (pt_not (pt_val (pe_callB call_isE (by rfl) mi boot_isi (pa_cons (pv 0) (pa_cons (pe_glob (by rfl) mF (v := .ref (ga K "ForkError")) rfl) pa_nil)))))
        (pw_or (pt_not (pt_val (pe_callB call_isE (by rfl) mi boot_isi (pa_cons (pv 0) (pa_cons (pe_bltn (by rfl) mV boot_ve (v := .ty "ValueError") rfl) pa_nil)))))
        (pw_or1 (pt_val (pe_callB call_isE (by rfl) mi boot_isi (pa_cons (pv 0) (pa_cons (pe_bltn (by rfl) mL boot_le (v := .ty "LookupError") rfl) pa_nil))))))).pt) (pss_one (ps_ret pe_bl)) pss_nil)
      (pss_one (ps_ret (pe_cmpR (op_eqD hr.units) (pe_call GK hr rfl mk kk bk .nil pass0 (pa_cons (pv 0) pa_nil))
        (pe_lc (own := [("k", 2)]) (g := gName 2) (tt := tYes) rfl scOw.nd (pi_range1 (by rfl) mr (pa_cons pe_int pa_nil)) (blkOk_by (N := ["e", "at", "k"]) (sc := defScope sOw) (by decide +kernel)) (fun _ _ _ _ _ => pg_name (i := 2) scOw.nd rfl (Or.inl rfl)) (fun _ _ _ _ _ => pts_nil)
          (fun _ _ _ _ _ => pe_cmpR op_eq (pv 2) (pv 1) (nomark _))) (nomark _))))), ?_⟩
    refine ⟨.ref a, rfl, a, C, .ref (ga K "ForkError"), _, true, rfl, he, T.xi, .own _, T.fe, true, rfl, iteF ?_⟩
    refine ⟨.ref a, rfl, a, C, .ty "ValueError", _, true, rfl, he, T.xi, .ty _, T.ve, true, rfl, iteF ?_⟩
    refine ⟨.ref a, rfl, a, C, .ty "LookupError", _, false, rfl, he, T.xi, .ty _, T.le, false, rfl, iteF ?_⟩
    refine ⟨.ref a, rfl, a, C, rfl, he, T.xi, T.all, fun H1 l s1 n1 e1 => ?_⟩
    refine ⟨48, rfl, by decide, by decide, fun D hD => lc_range (n := 48) (fun j H' => H' = upd H1 D (.lst (((List.range j).map fun (k : Nat) => decide (V.int (0 + (k : Int)) = V.int (i : Int))).map V.bl))) rfl (fun j H' hj e => ?_) fun H' e => ?_⟩
    · subst e
      refine ⟨rfl, ?_⟩
      unfold tYes
      show (if true = true then _ else _)
      rw [if_pos rfl]
      refine ⟨_, rfl, _, rfl, rfl, _, upd_same, ?_, ?_⟩
      · rw [List.length_map, List.length_map, List.length_range, sizeLine_eq]
        omega
      · rw [upd_upd, List.range_succ, List.map_append, List.map_append]
        rfl
    · subst e
      have eL : (dsAll K).length = 48 := rfl
      rw [ans_at nd hi, eL] at e1
      have lD : l ≠ D := ne_of_none e1 hD
      refine ⟨.list (((List.range 48).map fun (k : Nat) => decide (V.int (0 + (k : Int)) = V.int (i : Int))).map PyData.bool), .list (((List.range 48).map fun (k : Nat) => decide (V.int (0 + (k : Int)) = V.int (i : Int))).map PyData.bool),
        .lst (.inl (.inl (by rw [upd_ne lD]; exact e1))) (dpAll_bl _), .lst (.inl (.inl upd_same)) (dpAll_bl _), shaped_bl _ (by rw [List.length_map, List.length_range]; decide), shaped_bl _ (by rw [List.length_map, List.length_range]; decide), ?_⟩
      have ee : PyData.eqv (.list (((List.range 48).map fun (k : Nat) => decide (V.int (0 + (k : Int)) = V.int (i : Int))).map PyData.bool)) (.list (((List.range 48).map fun (k : Nat) => decide (V.int (0 + (k : Int)) = V.int (i : Int))).map PyData.bool)) = true := eqvAll_bl _
      rw [ee]
      exact k _ (s1.trans (same_new hD))
end
end Kz
namespace Kz
open PySem PySem.W PySem.Calls PyProof.Rows L2 LamX
open He (ga)
abbrev sSt : Stmt := topS 51
abbrev sDr : Stmt := topS 52
abbrev sMx : Stmt := topS 53
theorem scSt : FnScope ["script"] ["script"] (defScope sSt) := ⟨rfl, rfl, rfl, by decide +kernel, rfl, by decide +kernel, by decide +kernel⟩
theorem scDr : FnScope ["stream", "many", "cell", "digit", "mixed"] ["stream", "many"] (defScope sDr) := ⟨rfl, rfl, rfl, by decide +kernel, rfl, by decide +kernel, by decide +kernel⟩
theorem scMx : FnScope ["stream", "some", "left", "k"] ["stream", "some"] (defScope sMx) := ⟨rfl, rfl, rfl, by decide +kernel, rfl, by decide +kernel, by decide +kernel⟩
theorem boot_in : bootBuiltins "int" = some (.type "int") := by decide +kernel
theorem boot_li : bootBuiltins "list" = some (.type "list") := by decide +kernel

/-- the spring of draws -/
structure SS (H : Hp) (l li : Addr) (ns : List Int) (b c d : Int) : Prop where
  l1 : H l = some (.lst [.ref li, .int b, .int c, .int d])
  l2 : H li = some (.lst (ns.map V.int))
  ne : l ≠ li
  b0 : 0 ≤ b
  c0 : 0 ≤ c
  d0 : 0 ≤ d
  d1 : d < 2147483647
/-- all but the spring stands -/
def ExtS (l li : Addr) (H H' : Hp) : Prop := ∀ x o, H x = some o → x ≠ l → x ≠ li → H' x = some o
theorem ExtS.trans {l li : Addr} {H H1 H2 : Hp} (a : ExtS l li H H1) (b : ExtS l li H1 H2) : ExtS l li H H2 := fun x o e h1 h2 => b x o (a x o e h1 h2) h1 h2
theorem ExtS.refl {l li : Addr} {H : Hp} : ExtS l li H H := fun _ _ e _ _ => e
theorem SS.set {H : Hp} {l li : Addr} {ns : List Int} {b c d b' c' d' : Int} (s : SS H l li ns b c d) (hb : 0 ≤ b') (hc : 0 ≤ c') (hd : 0 ≤ d') (hd1 : d' < 2147483647) : SS (upd H l (.lst [.ref li, .int b', .int c', .int d'])) l li ns b' c' d' ∧ ExtS l li H (upd H l (.lst [.ref li, .int b', .int c', .int d'])) :=
  ⟨⟨upd_same, by rw [upd_ne s.ne.symm]; exact s.l2, s.ne, hb, hc, hd, hd1⟩, fun x o e h1 _ => by rw [upd_ne h1]; exact e⟩
theorem SS.pop {H : Hp} {l li : Addr} {n : Int} {ns : List Int} {b c d : Int} (s : SS H l li (n :: ns) b c d) : SS (upd H li (.lst (ns.map V.int))) l li ns b c d ∧ ExtS l li H (upd H li (.lst (ns.map V.int))) :=
  ⟨⟨by rw [upd_ne s.ne]; exact s.l1, upd_same, s.ne, s.b0, s.c0, s.d0, s.d1⟩, fun x o e _ h2 => by rw [upd_ne h2]; exact e⟩
theorem SS.new {H : Hp} {l li p : Addr} {ns : List Int} {b c d : Int} {o : HO} (s : SS H l li ns b c d) (n : H p = none) : SS (upd H p o) l li ns b c d ∧ ExtS l li H (upd H p o) :=
  ⟨⟨new_ext n _ _ s.l1, new_ext n _ _ s.l2, s.ne, s.b0, s.c0, s.d0, s.d1⟩, fun x o e _ _ => new_ext n _ _ e⟩

theorem tWhile_split {c : TT} {tb : TS} {D : Ends} {σ : L2.St} {H : Hp} (Ok : L2.St → Hp → Prop) (a : ∀ σ H, Ok σ H → D.nx σ H) (k : (∀ σ H, Ok σ H → D.nx σ H) → tWhile c tb D σ H) : tWhile c tb D σ H := k a
theorem seq0 {α : Type} (x : α) (r : List α) : seqIndex? 0 (x :: r).length = some 0 := by
  unfold seqIndex?
  simp
theorem canLay_int : ∀ bs : List Int, PyData.canLayAll0 (bs.map PyData.int) = true
  | [] => rfl
  | b :: r => by
    show (PyData.canLay0 (.int b) && PyData.canLayAll0 _) = true
    rw [canLay_int r]
    rfl
theorem depth_int : ∀ bs : List Int, PyData.depthAll (bs.map PyData.int) = 0
  | [] => rfl
  | b :: r => by
    simp only [List.map_cons, PyData.depthAll, PyData.depth, depth_int r]
    rfl
theorem shaped_int (bs : List Int) : SeqAt.shaped (.list (bs.map PyData.int)) = true := by
  unfold SeqAt.shaped
  rw [Bool.and_eq_true]
  constructor
  · simp only [PyData.canLay0, canLay_int]
  · simp only [PyData.depth, depth_int]
    rfl
theorem dpAll_int {K : Frag} {H : Hp} : ∀ bs : List Int, DpAll K H (bs.map V.int) (bs.map PyData.int)
  | [] => .nil
  | b :: r => .cons (.int b) (dpAll_int r)
section
variable {P : Program} {w : World} {K : Frag} {mg : Str → Option Value} {base : Heap}
def spStart (K : Frag) : Sp := fun vs H Q _ => ∃ (a : Addr) (ns : List Int), vs = [.ref a] ∧ SqL K H a (ns.map V.int) ∧ ∀ (H' : Hp) (l li : Addr), Same H H' → H l = none → H li = none → SS H' l li ns 0 0 19 → Q (.ref l) H'
theorem ok_st {f : Addr} {fd : FuncData} (F : FunD K "_law_start" "_law_start" (defArgs sSt) (defBody sSt) (defScope sSt) [] [] f fd) (ml : mg "list" = none) : FnOk P w K mg base CX0 1 f fd ["script"] (spStart K) := by
  refine F.ok scSt (fun vs H Q E h => ?_) (fun cdv A outer s H vs Q XE hr h => ?_)
  · obtain ⟨a, ns, rfl, _⟩ := h
    rfl
  · obtain ⟨a, ns, rfl, hS, k⟩ := h
    refine ⟨_, PSs.nox (pss_one (ps_ret (pe_lst (pa_cons (pe_callTy call_list_of (by rfl) ml boot_li (pa_cons (pv 0) pa_nil)) (pa_cons pe_int (pa_cons pe_int (pa_cons pe_int pa_nil))))))), ?_⟩
    refine ⟨.ref a, rfl, a, _, rfl, .inl hS, fun li n1 => ⟨small4 4, fun l n2 => ?_⟩⟩
    have ne : l ≠ li := fun z => by
      rw [z, upd_same] at n2
      cases n2
    refine k _ l li ((same_new n1).trans (same_new n2)) ((same_new n1).free n2) n1 ⟨upd_same, by rw [upd_ne ne.symm, upd_same], ne, by decide, by decide, by decide, by decide⟩
def spDraw : Sp := fun vs H Q _ => ∃ (l li : Addr) (ns : List Int) (b c d many : Int), vs = [.ref l, .int many] ∧ SS H l li ns b c d ∧ 0 < many ∧ many < 1000 ∧ c < 1000 ∧ ns.length ≤ 1000 ∧
  ∀ (H' : Hp) (ns' : List Int) (b' d' r : Int), ExtS l li H H' → SS H' l li ns' b' (c + 1) d' → ns'.length ≤ 1000 → 0 ≤ r → r < many → Q (.int r) H'
theorem ok_dr {f : Addr} {fd : FuncData} (F : FunD K "_law_draw" "_law_draw" (defArgs sDr) (defBody sDr) (defScope sDr) [] [] f fd) (mi : mg "int" = none) : FnOk P w K mg base CX0 1 f fd ["stream", "many"] spDraw := by
  refine F.ok scDr (fun vs H Q E h => ?_) (fun cdv A outer s H vs Q XE hr h => ?_)
  · obtain ⟨l, li, ns, b, c, d, many, rfl, _⟩ := h
    rfl
  · obtain ⟨l, li, ns, b, c, d, many, rfl, hs, m0, m1, c1, nl, k⟩ := h
    refine ⟨_, PSs.nox (pss_cons (ps_asg (pe_op op_add (pe_ix ix_list (pv 0) pe_int (fun _ _ => rfl)) pe_int) (pg_sub (pv 0) pe_int set_list))
      (pss_cons (ps_while PassesOwn.never ((pw_and (pt_cmpR op_eq (pe_ix ix_list (pv 0) pe_int (fun _ _ => rfl)) pe_int (nomark _)) (pw_and1 (pt_cmpR (op_neD hr.units) (pe_ix ix_list (pv 0) pe_int (fun _ _ => rfl)) (pe_lst pa_nil) (nomark _)))).pt)
        (pss_cons (ps_set (i := 2) scDr.nd rfl (.inl rfl) (pe_bm PySem.F.plainAttrs_list PySem.F.slot_list_pop PySem.F.type_list_pop mt_popAt (pe_ix ix_list (pv 0) pe_int (fun _ _ => rfl)) (pa_cons pe_int pa_nil)))
        (pss_cons (ps_asg (pe_op op_mod (pe_callTy call_int1 (by rfl) mi boot_in (pa_cons (pe_op op_add (pe_op op_add (pe_op op_mul (pe_ix ix_list (pv 0) pe_int (fun _ _ => rfl)) pe_int) (pv 2)) pe_int) pa_nil)) pe_int) (pg_sub (pv 0) pe_int set_list))
        (pss_one (ps_asg (pe_ifExp (pt_cmpR op_ge (pv 2) (pe_op op_pow pe_int pe_int) (nomark _)) (pv 2) pe_int) (pg_sub (pv 0) pe_int set_list))))))
      (pss_cons (ps_if (pt_cmpR op_gt (pe_ix ix_list (pv 0) pe_int (fun _ _ => rfl)) pe_int (nomark _))
        (pss_cons (ps_set (i := 3) scDr.nd rfl (.inl rfl) (pe_op op_mod (pe_callTy call_int1 (by rfl) mi boot_in (pa_cons (pe_ix ix_list (pv 0) pe_int (fun _ _ => rfl)) pa_nil)) (pv 1)))
        (pss_cons (ps_asg (pe_op op_fdiv (pe_ix ix_list (pv 0) pe_int (fun _ _ => rfl)) (pv 1)) (pg_sub (pv 0) pe_int set_list))
        (pss_one (ps_ret (pv 3))))) pss_nil)
      (pss_cons (ps_set (i := 4) scDr.nd rfl (.inl rfl) (pe_op op_mod (pe_callTy call_int1 (by rfl) mi boot_in (pa_cons (pe_op op_pow (pe_op op_add (pe_op op_add (pe_ix ix_list (pv 0) pe_int (fun _ _ => rfl)) (pe_op op_mul pe_int (pe_ix ix_list (pv 0) pe_int (fun _ _ => rfl)))) pe_int) pe_int) pa_nil)) pe_int))
      (pss_one (ps_ret (pe_op op_mod (pe_op op_mod (pe_callTy call_int1 (by rfl) mi boot_in (pa_cons (pe_op op_pow (pe_op op_add (pe_op op_add (pe_op op_mul (pv 4) pe_int) (pe_op op_mul pe_int (pe_ix ix_list (pv 0) pe_int (fun _ _ => rfl)))) pe_int) pe_int) pa_nil)) pe_int) (pv 1)))))))), ?_⟩
    have q2 := hs.set (b' := b) (c' := c + 1) (d' := d) hs.b0 (by have := hs.c0; omega) hs.d0 hs.d1
    refine ⟨.ref l, rfl, l, _, 2, .int c, rfl, rfl, .inl (.inl hs.l1), atI_nat (j := 2) rfl, c, 1, rfl, rfl, .ref l, rfl, l, _, 2, 2, rfl, rfl, hs.l1, rfl, ?_⟩
    refine tWhile_split (fun σ H' => ∃ (x2 : Option V) (ns' : List Int) (b' d' : Int), σ = [some (.ref l), some (.int many), x2, none, none] ∧ SS H' l li ns' b' (c + 1) d' ∧ ExtS l li H H' ∧ ns'.length ≤ 1000) (fun σ H' ⟨x2, ns', b', d', e, s, ex, nl'⟩ => ?_) (fun after => ?_)
    · subst e
      have c0 := s.c0
      have d0 := s.d0
      have d1 := s.d1
      have c00 := hs.c0
      refine ⟨.ref l, rfl, l, _, 1, .int b', rfl, rfl, .inl (.inl s.l1), atI_nat (j := 1) rfl, b', 0, rfl, rfl, _, rfl, ite2 (fun e => ?_) (fun e => ?_)⟩
      · refine ⟨.ref l, rfl, l, _, 1, .int b', rfl, rfl, .inl (.inl s.l1), atI_nat (j := 1) rfl, .inl ⟨_, rfl, .int many, rfl, b', many, rfl, rfl, m0, ?_⟩⟩
        obtain ⟨s2, ex2⟩ := s.set (b' := b' / many) (c' := c + 1) (d' := d') (Int.ediv_nonneg s.b0 (Int.le_of_lt m0)) c0 d0 d1
        refine ⟨.ref l, rfl, l, _, 1, .int b', rfl, rfl, .inl (.inl s.l1), atI_nat (j := 1) rfl, .int many, rfl, b', many, rfl, rfl, ⟨m0, by show many < 1073741824; omega⟩, .ref l, rfl, l, _, 1, 1, rfl, rfl, s.l1, rfl, .int (b' % many), rfl, ?_⟩
        exact k _ ns' _ d' _ (ex.trans ex2) s2 nl' (Int.emod_nonneg _ (by omega)) (Int.emod_lt_of_pos _ m0)
      · have t1 : (6151 : Int) * (c + 1) = 6151 * c + 6151 := by omega
        have t2 : (40009 : Int) * (c + 1) = 40009 * c + 40009 := by omega
        refine ⟨.ref l, rfl, l, _, 3, .int d', rfl, rfl, .inl (.inl s.l1), atI_nat (j := 3) rfl, .ref l, rfl, l, _, 2, .int (c + 1), rfl, rfl, .inl (.inl s.l1), atI_nat (j := 2) rfl, 6151, c + 1, rfl, rfl, .inl ⟨by decide, by decide⟩, d', _, rfl, rfl, _, 130003, rfl, rfl, _, 5, rfl, rfl,
          ⟨by decide, by decide, ?_⟩, .inl ⟨_, rfl, _, 2147483629, rfl, rfl, (show (0:Int) < 2147483629 by decide), ?_⟩⟩
        · rw [t1]
          show Int.natAbs _ < 18446744073709551616
          omega
        · have x0 : ∀ z : Int, 0 ≤ z % 2147483629 := fun z => Int.emod_nonneg _ (by decide)
          have x1 : ∀ z : Int, z % 2147483629 < 2147483629 := fun z => Int.emod_lt_of_pos _ (by decide)
          have x2 := x0 ((d' + 6151 * (c + 1) + 130003) ^ (5 : Int).toNat)
          have x3 := x1 ((d' + 6151 * (c + 1) + 130003) ^ (5 : Int).toNat)
          refine ⟨_, rfl, _, 69621, rfl, rfl, .inl ⟨by omega, by omega⟩, .ref l, rfl, l, _, 2, .int (c + 1), rfl, rfl, .inl (.inl s.l1), atI_nat (j := 2) rfl, 40009, c + 1, rfl, rfl, .inl ⟨by decide, by decide⟩, _, _, rfl, rfl, _, 31, rfl, rfl, _, 3, rfl, rfl, ⟨by decide, by decide, ?_⟩,
            .inl ⟨_, rfl, _, 1000000007, rfl, rfl, (show (0:Int) < 1000000007 by decide), .int many, rfl, _, many, rfl, rfl, m0, ?_⟩⟩
          · rw [t2]
            show Int.natAbs _ < 18446744073709551616
            omega
          · exact k _ ns' b' d' _ ex s nl' (Int.emod_nonneg _ (by omega)) (Int.emod_lt_of_pos _ m0)
    · refine ⟨fun m σ H' => ∃ x2, σ = [some (.ref l), some (.int many), x2, none, none] ∧ ∃ (ns' : List Int) (b' d' : Int), SS H' l li ns' b' (c + 1) d' ∧ ExtS l li H H' ∧ ns'.length ≤ 1000 ∧ m = ns'.length, ⟨ns.length, none, rfl, ns, b, d, q2.1, q2.2, nl, rfl⟩, fun m σ H' hW => ?_⟩
      obtain ⟨x2, rfl, ns', b', d', s, ex, nl', rfl⟩ := hW
      have c0 := s.c0
      have d0 := s.d0
      have d1 := s.d1
      refine ⟨.ref l, rfl, l, _, 1, .int b', rfl, rfl, .inl (.inl s.l1), atI_nat (j := 1) rfl, rfl, _, rfl, ite2 (fun e => ?_) (fun e => ?_)⟩
      · refine ⟨.ref l, rfl, l, _, 0, .ref li, rfl, rfl, .inl (.inl s.l1), atI_nat (j := 0) rfl, Nat.zero_le _, fun p np => ?_⟩
        obtain ⟨s2, ex2⟩ := s.new (o := .lst []) np
        refine ⟨.list (ns'.map PyData.int), .list [], .lst (.inl (.inl s2.l2)) (dpAll_int _), .lst (.inl (.inl upd_same)) .nil, shaped_int _ , rfl, _, rfl, ?_⟩
        cases ns' with
        | nil => exact iteF (after _ _ ⟨x2, [], b', d', rfl, s2, ex.trans ex2, nl'⟩)
        | cons n r =>
          obtain ⟨s3, ex3⟩ := s2.pop
          refine iteT ⟨fun σ' H' => ∃ x2, σ' = [some (.ref l), some (.int many), x2, none, none] ∧ ∃ (b' d' : Int), SS H' l li r b' (c + 1) d' ∧ ExtS l li H H', fun σ' H' ⟨y2, e1, b2, d2, e2, e3⟩ => ⟨r.length, Nat.lt_succ_self _, y2, e1, r, b2, d2, e2, e3, by simp at nl'; omega, rfl⟩, ?_⟩
          refine ⟨.ref l, rfl, l, _, 0, .ref li, rfl, rfl, .inl (.inl s2.l1), atI_nat (j := 0) rfl, .inl ⟨rfl, _, .inl (.inl s2.l2)⟩, li, _, 0, 0, .int n, rfl, rfl, s2.l2, by decide, by decide, seq0 _ _, rfl, ?_⟩
          have hd : 0 ≤ (d' * 65599 + n + 7) % 2147483647 := Int.emod_nonneg _ (by decide)
          have hd1 : (d' * 65599 + n + 7) % 2147483647 < 2147483647 := Int.emod_lt_of_pos _ (by decide)
          obtain ⟨s4, ex4⟩ := s3.set (b' := b') (c' := c + 1) (d' := (d' * 65599 + n + 7) % 2147483647) s.b0 c0 hd hd1
          refine ⟨.ref l, rfl, l, _, 3, .int d', rfl, rfl, .inl (.inl s3.l1), atI_nat (j := 3) rfl, d', 65599, rfl, rfl, .inl ⟨by omega, by omega⟩, .int n, rfl, _, n, rfl, rfl, _, 7, rfl, rfl, .inl ⟨_, rfl, _, 2147483647, rfl, rfl, (show (0:Int) < 2147483647 by decide), .ref l, rfl, l, _, 3, 3, rfl, rfl, s3.l1, rfl, ?_⟩⟩
          have exx := ((ex.trans ex2).trans ex3).trans ex4
          refine ⟨.int n, rfl, 10, 18, rfl, rfl, ⟨by decide, by decide, by decide⟩, n, _, rfl, rfl, _, rfl, ite2 (fun g => ?_) (fun g => ?_)⟩
          · have n0 : 0 ≤ n := by
              have g1 := of_decide_eq_true g
              have g2 : ((10 : Int) ^ (18 : Int).toNat) = 1000000000000000000 := by decide
              rw [g2] at g1
              omega
            obtain ⟨s5, ex5⟩ := s4.set (b' := n) (c' := c + 1) (d' := (d' * 65599 + n + 7) % 2147483647) n0 c0 hd hd1
            exact ⟨.int n, rfl, .ref l, rfl, l, _, 1, 1, rfl, rfl, s4.l1, rfl, _, rfl, n, _, s5, exx.trans ex5⟩
          · obtain ⟨s5, ex5⟩ := s4.set (b' := 0) (c' := c + 1) (d' := (d' * 65599 + n + 7) % 2147483647) (Int.le_refl _) c0 hd hd1
            exact ⟨.ref l, rfl, l, _, 1, 1, rfl, rfl, s4.l1, rfl, _, rfl, 0, _, s5, exx.trans ex5⟩
      · exact iteF (after _ _ ⟨x2, ns', b', d', rfl, s, ex, nl'⟩)
end
end Kz
namespace Kz
open PySem PySem.W PySem.Calls PyProof.Rows L2 LamX
open He (ga)

/-! ### a def that is only called where nothing is being shown -/
structure FnG (P : Program) (w : World) (K : PySem.W.Frag) (mg : Str → Option Value) (base : Heap) (CX : CXT) (k : Nat) (f : Addr) (fd : FuncData) (ps : List Str) (sp : Sp) : Prop where
  len : ∀ vs H Q E, sp vs H Q E → vs.length = ps.length
  run : ∀ (A : Around) (outer : List Env) (s : Shared) (H : Hp) (args : Args) (us : List Value) (vs : List V) (Q : VK) (E : XK), A.guards = some [] → Room k A → Env0 P w K mg base A outer s H → BindsTo s fd args (ps.zip us) → Vals vs us → sp vs H Q E →
    codeAny (model P w) A (.call (.ref f) args) (CR CX outer P w H s Q E) s
theorem FunD.okG {CX : CXT} {P : Program} {w : World} {K : PySem.W.Frag} {mg : Str → Option Value} {base : Heap} {x qual : Str} {params : Arguments} {body : List Stmt} {scope : Scope} {dvs : List V} {kws : List (Str × V)} {f : Addr} {fd : FuncData} {N ps : List Str} {k : Nat} {sp : Sp}
    (F : FunD K x qual params body scope dvs kws f fd) (S : FnScope N ps scope) (len : ∀ vs H Q E, sp vs H Q E → vs.length = ps.length)
    (hbody : ∀ (cdv : Value) (A : Around) (outer : List Env) (s : Shared) (H : Hp) (vs : List V) (Q : VK) (E : XK), (A.deeper (envOfC qual scope s.heap.objs.size f cdv)).guards = some [] → Room k (A.deeper (envOfC qual scope s.heap.objs.size f cdv)) → sp vs H Q E →
      ∃ t, PSs (cxOf CX P w K mg base N qual scope f cdv A outer s H E) body t ∧ t { nx := fun _ H' => Q .non H', rt := Q } (start N vs) H) : FnG P w K mg base CX (k + 1) f fd ps sp := by
  obtain ⟨oc, od, dV, kV, doc, pm, an, cdv, ct, osl, rfl, lk, hcd, _, _⟩ := F.ex
  exact ⟨len, fun A outer s H args us vs Q E hg hr e0 hb r hsp => LamX.run_ofS lk hcd S hr e0 hb r (len _ _ _ _ hsp) fun hr' => hbody cdv A outer s H vs Q E hg hr' hsp⟩
section
variable {X : Cx} {CX : CXT} {k : Nat} {f : Addr} {fd : FuncData} {ps : List Str} {sp : Sp} {dvs : List V} {ds : List Value} {E : XK} {x : Str} {p pos : Pos} {e : Expr} {es : List Expr} {t : TA}
theorem pe_callG (hgd : X.A.guards = some []) (F : FnG X.prog X.w X.K X.mg X.base CX k f fd ps sp) (hr : Room k X.A) (hg : Gl X x) (hm : X.mg x = some (.ref f)) (hk : PySem.W.keepIn X.K (.ref f) = true) (hb : Binds X.K fd ps ds) (hd : Vals dvs ds) (hx : Passes CX X E)
    (ha : PA X (e :: es) t) (hdb : (x == ("__debug__" : Str)) = false := by decide) (he : starEach (e :: es) X.env = (false, eval e X.env) :: starEach es X.env := by rfl) (hpl : (backTo pos (starEach es X.env)).any (·.1) = false := by rfl) :
    PE X (.Call (.Name x p) (e :: es) [] pos) (tCall sp dvs E t) := by
  refine ⟨fun pins s σ H Q I h => wpAny_Call_Name_kw (ld_glob I hg hm ?_ hdb)⟩
  refine PySem.W.callWith_K (h₀ := X.base) I.ok.mod.kin hk (thn (ha.run pos pins s σ H _ I h) fun us s1 ⟨vs, H1, I1, r, q⟩ => ⟨I1.kIn, ?_⟩) he hpl
  have r2 : Vals (vs ++ dvs) (us ++ ds) := r.append hd
  have hl : (us ++ ds).length = ps.length := r2.length.symm.trans (F.len _ _ _ _ q)
  refine wpAny_call (codeAny_mono (F.run X.A X.stack s1 H1 ⟨us, []⟩ (us ++ ds) (vs ++ dvs) Q E hgd hr I1.env0 (hb s1 us I1.kIn hl) r2 q) fun r s' hq => ?_)
  cases r with
  | error e => exact hx pins σ H1 s1 e s' I1 hq
  | ok fl =>
    cases fl with
    | ret u => exact I1.after hq
    | _ => exact hq.elim
end

/-! ### repr, the dicts known to be no table of modules -/
section
variable {X : Cx}
def rRepr2 : List V → Hp → VK → Prop := fun xs H Q => ∃ (a : Addr) (d : PyData) (as : List Addr), xs = [.ref a] ∧ Rd H (.ref a) d as ∧ d.showable = true ∧ (∀ b ∈ as, b ≠ sysModules ∨ ∃ kvs, H b = some (.dK kvs)) ∧ d.depth ≤ 20 ∧ d.shown.length ≤ sizeLine ∧ Q (.str d.shown) H
theorem call_repr2 (hg : X.A.guards = some []) (hr : Room 0 X.A) : CallR X (.builtin "repr") rRepr2 := by
  intro pins s σ H xs us Q I r h
  obtain ⟨a, d, as, e, rd, hs, hsm, hd, hz, q⟩ := h
  refine call_repr hg hr pins s σ H xs us Q I r ⟨a, d, as, e, rd, hs, fun _ hm => ?_, hd, hz, q⟩
  rcases hsm _ hm with z | ⟨kvs, z⟩
  · exact z rfl
  · obtain ⟨_, hne, _⟩ := (show ObjOk X.prog X.w H s.heap sysModules (.dK kvs) from I.hok _ _ z)
    exact absurd hne (by decide)
end
end Kz
namespace Kz
open PySem PySem.W PySem.Calls PyProof.Rows L2 LamX
open He (ga)
abbrev sTh : Stmt := topS 62
theorem scTh : FnScope ["found", "due"] ["found", "due"] (defScope sTh) := ⟨rfl, rfl, rfl, by decide +kernel, rfl, by decide +kernel, by decide +kernel⟩
def scOf : List Stmt → Scope
  | [_, .Return (some (.ListComp _ _ sc _)) _] => sc
  | _ => defScope sMx
def mxSc : Scope := scOf (defBody sMx)
theorem seqI {r : Int} {n : Nat} (h0 : 0 ≤ r) (h1 : r < n) : seqIndex? r n = some r.toNat := by
  unfold seqIndex?
  have a1 : ¬ r < 0 := by omega
  simp [a1]
  omega
def rLen (K : Frag) : List V → Hp → VK → Prop := fun xs H Q => ∃ p ys, xs = [.ref p] ∧ (SqL K H p ys ∨ SqT K H p ys) ∧ Q (.int ys.length) H
theorem el_mx {X : Cx} {f : Addr} {fd : FuncData} {E : XK} {q1 q2 q3 q4 q5 q6 q7 q8 q9 : Pos} (hN : X.N = ([("stream" : Str), "some", "left", "k"] : List Str)) (v0 : Vis X.env.scope "stream") (v2 : Vis X.env.scope "left") (gd : Gl X "_law_draw") (gl : Gl X "len") (hr : Room 1 X.A)
    (GD : FnOk X.prog X.w X.K X.mg X.base CX0 1 f fd ["stream", "many"] spDraw) (md : X.mg "_law_draw" = some (.ref f)) (kd : keepIn X.K (.ref f) = true) (bd : L2.Binds X.K fd ["stream", "many"] []) (mn : X.mg "len" = none) (hline : (q2.endLine == q9.line) = true := by rfl) :
    PE X (.Call (.Attribute (.Name "left" q1) "pop" q2) [.Call (.Name "_law_draw" q3) [.Name "stream" q4, .Call (.Name "len" q5) [.Name "left" q6] [] q7] [] q8] [] q9)
      (tBM X.K "list" rPopAt (tVar 2) (tCons (tCall spDraw [] E (tCons (tVar 0) (tCons (tCB (rLen X.K) (tCons (tVar 2) tNil)) tNil))) tNil)) := by
  have p0 : ∀ {p : Pos}, PE X (.Name "stream" p) (tVar 0) := pe_var (by rw [hN]; rfl) v0
  have p2 : ∀ {p : Pos}, PE X (.Name "left" p) (tVar 2) := pe_var (by rw [hN]; rfl) v2
  exact pe_bm PySem.F.plainAttrs_list PySem.F.slot_list_pop PySem.F.type_list_pop mt_popAt (p2 (p := q1)) (pa_cons (pe_call (p := q3) (pos := q8) GD hr gd md kd bd .nil pass0 (pa_cons (p0 (p := q4)) (pa_cons (pe_callB (p := q5) (pos := q7) call_len_seq gl mn boot_len (pa_cons (p2 (p := q6)) pa_nil)) pa_nil))) pa_nil) (hline := hline)
section
variable {P : Program} {w : World} {K : Frag} {mg : Str → Option Value} {base : Heap}
def spMx (K : Frag) : Sp := fun vs H Q _ => ∃ (l li sa : Addr) (xs : List V) (ns : List Int) (b c d : Int), vs = [.ref l, .ref sa] ∧ SS H l li ns b c d ∧ H sa = some (.lst xs) ∧ xs.length ≤ 100 ∧ c < 500 ∧ ns.length ≤ 1000 ∧
  ∀ (H' : Hp) (r : Addr) (ys : List V) (ns' : List Int) (b' d' : Int), ExtS l li H H' → SS H' l li ns' b' (c + (xs.length : Nat)) d' → ns'.length ≤ 1000 → H r = none → H' r = some (.lst ys) → ys.length = xs.length → (∀ y ∈ ys, y ∈ xs) → Q (.ref r) H'
theorem ok_mx {f fr : Addr} {fd fdr : FuncData} (F : FunD K "_law_mixed" "_law_mixed" (defArgs sMx) (defBody sMx) (defScope sMx) [] [] f fd) (GD : FnOk P w K mg base CX0 1 fr fdr ["stream", "many"] spDraw) (md : mg "_law_draw" = some (.ref fr)) (kd : keepIn K (.ref fr) = true) (bd : Binds K fdr ["stream", "many"] [])
    (ml : mg "list" = none) (mn : mg "len" = none) (mr : mg "range" = none) : FnOk P w K mg base CX0 2 f fd ["stream", "some"] (spMx K) := by
  refine F.ok scMx (fun vs H Q E h => ?_) (fun cdv A outer s H vs Q XE hr h => ?_)
  · obtain ⟨l, li, sa, xs, ns, b, c, d, rfl, _⟩ := h
    rfl
  · obtain ⟨l, li, sa, xs, ns, b, c, d, rfl, hs, hsa, x1, c1, nl, k⟩ := h
    refine ⟨_, PSs.nox (pss_cons (ps_set (i := 2) scMx.nd rfl (.inr rfl) (pe_callTy call_list_of (by rfl) ml boot_li (pa_cons (pv 1) pa_nil)))
      (pss_one (ps_ret (pe_lc (X := (cxOf CX0 P w K mg base ["stream", "some", "left", "k"] "_law_mixed" (defScope sMx) f cdv A outer s H XE).nox) (te := tBM K "list" rPopAt (tVar 2) (tCons (tCall spDraw [] (fun _ _ _ => False) (tCons (tVar 0) (tCons (tCB (rLen K) (tCons (tVar 2) tNil)) tNil))) tNil)) (scope := mxSc) (own := [("k", 3)]) (g := gName 3) (tt := tYes) rfl scMx.nd (pi_range1 (by rfl) mr (pa_cons (pe_callB call_len_seq (by rfl) mn boot_len (pa_cons (pv 2) pa_nil)) pa_nil)) (blkOk_by (N := ["stream", "some", "left", "k"]) (sc := defScope sMx) (by decide +kernel)) (fun _ _ _ _ _ => pg_name (i := 3) scMx.nd rfl (Or.inl rfl)) (fun _ _ _ _ _ => pts_nil)
        (fun s0 H0 C0 cl0 fp0 => el_mx (v2 := by first | exact .inr (.inr rfl) | exact .inl rfl | exact .inr (.inl rfl)) (X := Cx.blk ((cxOf CX0 P w K mg base ["stream", "some", "left", "k"] "_law_mixed" (defScope sMx) f cdv A outer s H XE).nox) s0 H0 mxSc (compEnvC mxSc cl0 C0 (Cx.env ((cxOf CX0 P w K mg base ["stream", "some", "left", "k"] "_law_mixed" (defScope sMx) f cdv A outer s H XE).nox))) fp0) (E := fun _ _ _ => False) (q1 := ⟨262, 12, 262, 16⟩) (q2 := ⟨262, 12, 262, 20⟩) (q3 := ⟨262, 21, 262, 30⟩) (q4 := ⟨262, 31, 262, 37⟩) (q5 := ⟨262, 39, 262, 42⟩) (q6 := ⟨262, 43, 262, 47⟩) (q7 := ⟨262, 39, 262, 48⟩) (q8 := ⟨262, 21, 262, 49⟩) (q9 := ⟨262, 12, 262, 50⟩) rfl (v0 := by first | exact .inr (.inr rfl) | exact .inl rfl | exact .inr (.inl rfl)) (by rfl) (by rfl) hr GD md kd bd mn))))), ?_⟩
    refine ⟨.ref sa, rfl, sa, xs, rfl, .inl (.inl (.inl hsa)), fun lf nf => ?_⟩
    have lfl : lf ≠ l := Ne.symm (ne_of_none hs.l1 nf)
    have lfi : lf ≠ li := Ne.symm (ne_of_none hs.l2 nf)
    obtain ⟨s1, e1⟩ := hs.new (o := .lst xs) nf
    refine ⟨.ref lf, rfl, lf, xs, rfl, .inl (.inl (.inl upd_same)), (xs.length : Int), rfl, by omega, by omega, fun D hD => ?_⟩
    have Dl : D ≠ l := Ne.symm (ne_of_none s1.l1 hD)
    have Di : D ≠ li := Ne.symm (ne_of_none s1.l2 hD)
    have Df : D ≠ lf := Ne.symm (ne_of_none upd_same hD)
    obtain ⟨s2, e2⟩ := s1.new (o := .lst []) hD
    refine lc_range (n := ((xs.length : Nat) : Int).toNat) (fun j H' => ∃ (zs ys : List V) (ns' : List Int) (b' d' : Int), H' lf = some (.lst zs) ∧ H' D = some (.lst ys) ∧ ys.length = j ∧ zs.length + j = xs.length ∧ (∀ z ∈ zs, z ∈ xs) ∧ (∀ z ∈ ys, z ∈ xs) ∧ SS H' l li ns' b' (c + (j : Nat)) d' ∧ ns'.length ≤ 1000 ∧ ExtS l li H H')
      ⟨xs, [], ns, b, d, by rw [upd_ne Df.symm, upd_same], upd_same, rfl, rfl, fun z hz => hz, fun z hz => (by cases hz), by simpa using s2, nl, e1.trans e2⟩ (fun j H' hj e => ?_) fun H' e => ?_
    · obtain ⟨zs, ys, ns', b', d', hz, hy, ly, lz, mz, my, s3, nl3, e3⟩ := e
      have hj' : j < xs.length := by simpa using hj
      refine ⟨rfl, ?_⟩
      unfold tYes
      show (if true = true then _ else _)
      rw [if_pos rfl]
      have lz' : zs.length = xs.length - j := by omega
      refine ⟨.ref lf, rfl, .inl ⟨rfl, _, .inl (.inl hz)⟩, .ref l, rfl, .ref lf, rfl, lf, zs, rfl, .inl (.inl (.inl hz)), ?_⟩
      refine ⟨l, li, ns', b', c + (j : Nat), d', (zs.length : Int), rfl, s3, by omega, by omega, by omega, nl3, fun H4 ns4 b4 d4 r e4 s4 nl4 r0 r1 => ?_⟩
      have hz4 := e4 lf _ hz lfl lfi
      have hy4 := e4 D _ hy Dl Di
      have rk : r.toNat < zs.length := by omega
      refine ⟨lf, zs, r, r.toNat, zs[r.toNat], rfl, rfl, hz4, by omega, by omega, seqI r0 r1, by simp [rk], ys, by rw [upd_ne Df]; exact hy4, by rw [sizeLine_eq]; omega, zs.eraseIdx r.toNat, ys ++ [zs[r.toNat]], ns4, b4, d4, by rw [upd_ne Df.symm, upd_same], upd_same, by rw [List.length_append, List.length_singleton, ly], ?_, fun z hz => mz z (List.mem_of_mem_eraseIdx hz), fun z hz => ?_, ?_, nl4, fun x o ex h1 h2 => ?_⟩
      · rw [List.length_eraseIdx, if_pos rk]
        omega
      · rcases List.mem_append.mp hz with hz | hz
        · exact my z hz
        · rw [List.mem_singleton.mp hz]
          exact mz _ (List.getElem_mem _)
      · have ec : c + ((j + 1 : Nat) : Int) = c + (j : Nat) + 1 := by omega
        rw [ec]
        exact ⟨by rw [upd_ne Dl.symm, upd_ne lfl.symm]; exact s4.l1, by rw [upd_ne Di.symm, upd_ne lfi.symm]; exact s4.l2, s4.ne, s4.b0, s4.c0, s4.d0, s4.d1⟩
      · have n1 : x ≠ lf := ne_of_none ex nf
        have n2 : x ≠ D := ne_of_none (e1 x o ex h1 h2) hD
        rw [upd_ne n2, upd_ne n1]
        exact e4 x o (e3 x o ex h1 h2) h1 h2
    · obtain ⟨zs, ys, ns', b', d', hz, hy, ly, lz, mz, my, s3, nl3, e3⟩ := e
      refine k H' D ys ns' b' d' e3 (by simpa using s3) nl3 ?_ hy (by simpa using ly) my
      cases q : H D with
      | none => rfl
      | some o => exact absurd (new_ext nf _ _ q) (by rw [hD]; exact fun z => nomatch z)
def spTh : Sp := fun vs H Q _ => ∃ (a b : Addr) (xs : List V) (ds : List PyData) (as : List Addr), vs = [.ref a, .ref b] ∧ H a = some (.lst xs) ∧ H b = some (.lst xs) ∧ RdAll H xs ds as ∧ a ≠ sysModules ∧ b ≠ sysModules ∧ (∀ x ∈ as, x ≠ sysModules ∨ ∃ kvs, H x = some (.dK kvs)) ∧
  (PyData.list ds).showable = true ∧ (PyData.list ds).depth ≤ 20 ∧ (PyData.list ds).shown.length ≤ 100000 ∧ Q (.bl true) H
theorem ok_th {f : Addr} {fd : FuncData} (F : FunD K "_law_are_these" "_law_are_these" (defArgs sTh) (defBody sTh) (defScope sTh) [] [] f fd) (mr : mg "repr" = none) (mn : mg "len" = none) : FnG P w K mg base CX0 2 f fd ["found", "due"] spTh := by
  refine Kz.FunD.okG F scTh (fun vs H Q E h => ?_) (fun cdv A outer s H vs Q XE hg hr h => ?_)
  · obtain ⟨a, b, xs, ds, as, rfl, _⟩ := h
    rfl
  · obtain ⟨a, b, xs, ds, as, rfl, ha, hb, rd, na, nb, hm, c1, c2, c3, q⟩ := h
    have hr0 := hr.mono (j := 0) (by decide)
    refine ⟨_, PSs.nox (pss_one (ps_ret (pe_and (pe_cmpR op_eq (pe_callB (call_repr2 hg hr0) (by rfl) mr boot_rp (pa_cons (pv 0) pa_nil)) (pe_callB (call_repr2 hg hr0) (by rfl) mr boot_rp (pa_cons (pv 1) pa_nil)) (nomark _))
      (pe_one (pe_cmpR op_eq (pe_callB call_len_seq (by rfl) mn boot_len (pa_cons (pv 0) pa_nil)) (pe_callB call_len_seq (by rfl) mn boot_len (pa_cons (pv 1) pa_nil)) (nomark _)))))), ?_⟩
    have z : (PyData.list ds).shown.length ≤ sizeLine := by rw [sizeLine_eq]; omega
    refine ⟨.ref a, rfl, a, .list ds, a :: as, rfl, .lst ha rd, c1, fun x hx => ?_, c2, z, .ref b, rfl, b, .list ds, b :: as, rfl, .lst hb rd, c1, fun x hx => ?_, c2, z, ?_⟩
    · rcases List.mem_cons.mp hx with rfl | hx
      · exact .inl na
      · exact hm x hx
    · rcases List.mem_cons.mp hx with rfl | hx
      · exact .inl nb
      · exact hm x hx
    · refine ⟨rfl, _, rfl, ?_⟩
      rw [if_pos (by simp [eqV])]
      refine ⟨.ref a, rfl, a, xs, rfl, .inl (.inl (.inl ha)), .ref b, rfl, b, xs, rfl, .inl (.inl (.inl hb)), rfl, ?_⟩
      simpa [eqV] using q
end
end Kz
namespace Kz
open PySem PySem.W PySem.Calls PyProof.Rows L2 LamX
open He (ga)

/-! ### the values that are passed -/
def goods : List PyData := [.none, .int 5, .int (-1), .bool true, .str "a", .str "", .list [.int 1, .str "b"], .tuple [.int 2, .none], .dict [(.str "a", .int 1)], .list [.list [.str "x"]], .int 1000000000000000000000000000000, .tuple [.str "s", .int 3], .bool false, .int 0, .int 1, .list [.str "v", .str "w"]]
def shd (d : PyData) : Bool := d.showable && (decide (d.depth ≤ 20) && decide (d.shown.length ≤ 100000))
theorem shd_eq {d : PyData} (h : shd d = true) : d.showable = true ∧ d.depth ≤ 20 ∧ d.shown.length ≤ 100000 := by
  obtain ⟨h1, h2⟩ := Bool.and_eq_true_iff.mp h
  obtain ⟨h3, h4⟩ := Bool.and_eq_true_iff.mp h2
  exact ⟨h1, of_decide_eq_true h3, of_decide_eq_true h4⟩
theorem goods1 : (goods.all fun d => shd (.list [d])) = true := by decide +kernel
theorem goods2 : (goods.all fun d => goods.all fun e => shd (.list [d, e])) = true := by decide +kernel
def AsOk (H : Hp) (as : List Addr) : Prop := ∀ x ∈ as, x ≠ sysModules ∨ ∃ kvs, H x = some (.dK kvs)
theorem AsOk.nil {H : Hp} : AsOk H [] := fun x hx => by cases hx
theorem AsOk.app {H : Hp} {as bs : List Addr} (h : AsOk H as) (k : AsOk H bs) : AsOk H (as ++ bs) := fun x hx => (List.mem_append.mp hx).elim (h x) (k x)
theorem AsOk.cons {H : Hp} {a : Addr} {as : List Addr} (h : a ≠ sysModules ∨ ∃ kvs, H a = some (.dK kvs)) (k : AsOk H as) : AsOk H (a :: as) := fun x hx => by
  rcases List.mem_cons.mp hx with rfl | hx
  · exact h
  · exact k x hx
theorem AsOk.ext {H H1 : Hp} {as : List Addr} (e : ExtN H H1) (h : AsOk H as) : AsOk H1 as := fun x hx => by
  rcases h x hx with z | ⟨kvs, z⟩
  · exact .inl z
  · exact .inr ⟨kvs, e _ _ z (fun ps y => by cases y)⟩
/-- a value that may be passed -/
def Gd (H : Hp) (v : V) : Prop := ∃ d as, d ∈ goods ∧ Rd H v d as ∧ AsOk H as
theorem Gd.ext {H H1 : Hp} {v : V} (e : ExtN H H1) (h : Gd H v) : Gd H1 v := by
  obtain ⟨d, as, h1, h2, h3⟩ := h
  exact ⟨d, as, h1, h2.ext e, h3.ext e⟩
/-- what is kept of one or two of them -/
def Kept (H : Hp) (xs : List V) : Prop := ∃ ds as, RdAll H xs ds as ∧ AsOk H as ∧ (PyData.list ds).showable = true ∧ (PyData.list ds).depth ≤ 20 ∧ (PyData.list ds).shown.length ≤ 100000
theorem kept_of {H : Hp} {v w : V} (i : Info) (hv : Gd H v) (hw : Gd H w) : Kept H (i.vals v w) := by
  obtain ⟨d, as, h1, h2, h3⟩ := hv
  obtain ⟨e, bs, k1, k2, k3⟩ := hw
  obtain ⟨C, f, o⟩ := i
  cases o with
  | none => exact ⟨[d], as ++ [], .cons h2 .nil, h3.app .nil, shd_eq (List.all_eq_true.mp goods1 d h1)⟩
  | some g => exact ⟨[d, e], as ++ (bs ++ []), .cons h2 (.cons k2 .nil), h3.app (k3.app .nil), shd_eq (List.all_eq_true.mp (List.all_eq_true.mp goods2 d h1) e k1)⟩
theorem Kept.ext {H H1 : Hp} {xs : List V} (e : ExtN H H1) (h : Kept H xs) : Kept H1 xs := by
  obtain ⟨ds, as, h1, h2, h3⟩ := h
  exact ⟨ds, as, h1.ext e, h2.ext e, h3⟩
theorem vals_len (i : Info) (v w : V) : (i.vals v w).length ≤ 1000 := by
  obtain ⟨C, f, o⟩ := i
  cases o with
  | none => exact Nat.le_of_ble_eq_true rfl
  | some g => exact Nat.le_of_ble_eq_true rfl

/-! ### all but the spring -/
def hide (l li : Addr) (H : Hp) : Hp := fun b => if b = l ∨ b = li then none else H b
theorem hide_some {l li b : Addr} {H : Hp} {o : HO} (h : hide l li H b = some o) : b ≠ l ∧ b ≠ li ∧ H b = some o := by
  unfold hide at h
  by_cases q : b = l ∨ b = li
  · rw [if_pos q] at h
    cases h
  · rw [if_neg q] at h
    exact ⟨fun z => q (.inl z), fun z => q (.inr z), h⟩
theorem hide_of {l li b : Addr} {H : Hp} {o : HO} (h1 : b ≠ l) (h2 : b ≠ li) (h : H b = some o) : hide l li H b = some o := by
  unfold hide
  rw [if_neg (fun z => z.elim h1 h2)]
  exact h
theorem hide_extS {l li : Addr} {H H1 : Hp} (e : ExtS l li H H1) : ExtN (hide l li H) (hide l li H1) := fun b o h _ => by
  obtain ⟨h1, h2, h3⟩ := hide_some h
  exact hide_of h1 h2 (e b o h3 h1 h2)
theorem hide_ext {l li : Addr} {H H1 : Hp} (e : ExtN H H1) : ExtN (hide l li H) (hide l li H1) := fun b o h z => by
  obtain ⟨h1, h2, h3⟩ := hide_some h
  exact hide_of h1 h2 (e b o h3 z)
theorem hide_up {l li : Addr} {H : Hp} : ExtN (hide l li H) H := fun b o h _ => (hide_some h).2.2
theorem SS.ext {H H1 : Hp} {l li : Addr} {ns : List Int} {b c d : Int} (s : SS H l li ns b c d) (e : ExtN H H1) : SS H1 l li ns b c d :=
  ⟨e _ _ s.l1 lst_nt, e _ _ s.l2 lst_nt, s.ne, s.b0, s.c0, s.d0, s.d1⟩
theorem tabs_extS {T : List (Addr × Str)} {l li : Addr} {H H1 : Hp} {ns : List Int} {b c d : Int} (s : SS H l li ns b c d) (e : ExtS l li H H1) (hT : Tabs T H) : Tabs T H1 := fun p hp => by
  obtain ⟨ps, t1, t2, t3⟩ := hT p hp
  have na : ∀ {b o}, H b = some o → (∀ xs, o ≠ .lst xs) → b ≠ l ∧ b ≠ li := fun e1 z => ⟨fun y => by
    rw [y, s.l1] at e1
    exact z _ (Option.some.inj e1).symm, fun y => by
    rw [y, s.l2] at e1
    exact z _ (Option.some.inj e1).symm⟩
  refine ⟨ps, e _ _ t1 (na t1 fun xs z => nomatch z).1 (na t1 fun xs z => nomatch z).2, t2, fun pos cv hcv => ?_⟩
  obtain ⟨c0, e1, e2⟩ := t3 pos cv hcv
  have nc : ∀ xs, CodeO c0 p.2 ≠ .lst xs := fun xs z => by
    unfold CodeO at z
    cases z
  exact ⟨c0, e1, e _ _ e2 (na e2 nc).1 (na e2 nc).2⟩

/-! ### the base error, made of nothing -/
section
variable {X : Cx}
theorem pe_exc0 {C : Addr} {bmB : List Value} {B newId initId : String} {x : Str} {p pos : Pos} (F : ExcBaseFacts B newId initId bmB) (q : PySem.W.excIn X.K C bmB newId = true) (gC : X.mg x = some (.ref C)) (kC : PySem.W.keepIn X.K (.ref C) = true) (hg : Gl X x) (hdb : (x == ("__debug__" : Str)) = false := by decide) :
    PE X (.Call (.Name x p) [] [] pos) (fun σ H Q => ∀ a, H a = none → Q (.ref a) (upd H a (exo a C none))) := by
  refine ⟨fun pins s σ H Q I h => wpAny_Call_Name_kw (ld_glob I hg gC ?_ hdb)⟩
  refine PySem.W.callWith_K0 I.kIn kC ?_
  obtain ⟨bm, N, nm, qn, bs, hdct, sn, sub, ab, col, dd, k0, k1, k2, k3, k5, mN, hC, hN, hni, T⟩ := exc_obj I.kIn q
  obtain ⟨hp, gn, dr, tk, os⟩ := s
  refine wpAny_call_exc_subT F T hC hN hni (fun h' a hm => ?_) (Nat.zero_le _)
  have hn : H a = none := I.hok.gone hm.new
  obtain ⟨t, ht, _, _⟩ := hm.there
  exact ⟨.ref a, upd H a (exo a C none), I.laidN hm.keeps hm.new hn (exo_ok ht), rfl, h a hn⟩
end
end Kz
namespace Kz
open PySem PySem.W PySem.Calls PyProof.Rows L2 LamX
open He (ga)
def NL : List Str := ["script", "stream", "some", "turn", "x", "y", "z", "made", "at", "mine", "twin", "field", "due", "held", "base"]
abbrev sLw : Stmt := topS 63
def forB : Stmt → List Stmt
  | .For _ _ b _ _ => b
  | _ => []
def stL (i : Nat) : Stmt := (defBody sLw).getD i (.Pass ⟨0, 0, 0, 0⟩)
def stF (i : Nat) : Stmt := (forB (stL 2)).getD i (.Pass ⟨0, 0, 0, 0⟩)
def stG (i : Nat) : Stmt := (forB (stF 2)).getD i (.Pass ⟨0, 0, 0, 0⟩)
def stH (i : Nat) : Stmt := (forB (stL 6)).getD i (.Pass ⟨0, 0, 0, 0⟩)
theorem scLw : FnScope NL ["script"] (defScope sLw) := ⟨rfl, rfl, rfl, by decide +kernel, rfl, by decide +kernel, by decide +kernel⟩
theorem bdL : defBody sLw = [stL 0, stL 1, stL 2, stL 3, stL 4, stL 5, stL 6, stL 7, stL 8] := by kernel_rfl
theorem bdF : forB (stL 2) = [stF 0, stF 1, stF 2] := by kernel_rfl
theorem bdG : forB (stF 2) = [stG 0, stG 1] := by kernel_rfl
theorem bdH : forB (stL 6) = [stH 0] := by kernel_rfl

/-! ### the rows told of -/
def infos (K : Frag) : List Info := (isA K ++ isB K) ++ isC K
theorem infos_ds (K : Frag) : (infos K).map (·.1) = dsAll K := rfl
theorem infos_len (K : Frag) : (infos K).length = 48 := rfl
def RowE (K : Frag) (H : Hp) (v w : V) (i : Info) (p : Addr) : Prop := ∃ a, Row K H i p v w a
theorem RowE.ext {K : Frag} {H H1 : Hp} {i : Info} {p : Addr} {v w : V} (r : RowE K H v w i p) (e : ExtN H H1) : RowE K H1 v w i p := by
  obtain ⟨a, r⟩ := r
  exact ⟨a, r.ext e⟩
theorem paired_imp {α β : Type} {R S : α → β → Prop} (h : ∀ a b, R a b → S a b) {as : List α} {bs : List β} (p : Paired R as bs) : Paired S as bs := by
  induction p with
  | nil => exact .nil
  | cons r _ ih => exact .cons (h _ _ r) ih
theorem paired_app {α β : Type} {R : α → β → Prop} {as cs : List α} {bs ds : List β} (p : Paired R as bs) (q : Paired R cs ds) : Paired R (as ++ cs) (bs ++ ds) := by
  induction p with
  | nil => exact q
  | cons r _ ih => exact .cons r ih
theorem paired_at {α β : Type} {R : α → β → Prop} {as : List α} {bs : List β} (p : Paired R as bs) : ∀ {j : Nat} {b : β}, bs[j]? = some b → ∃ a, as[j]? = some a ∧ R a b := by
  induction p with
  | nil => exact fun h => by simp at h
  | @cons a b as bs r _ ih =>
    intro j b' h
    cases j with
    | zero =>
      obtain rfl : b = b' := by simpa using h
      exact ⟨a, rfl, r⟩
    | succ j => exact ih (by simpa using h)
theorem paired_len {α β : Type} {R : α → β → Prop} {as : List α} {bs : List β} (p : Paired R as bs) : as.length = bs.length := by
  induction p with
  | nil => rfl
  | cons _ _ ih => simp [ih]

/-- field(mine) told beside due -/
theorem these_run {K : Frag} {H : Hp} {i : Info} {v w : V} {σ : L2.St} {Q : VK} {E : XK} {j : Nat} {m dm l c' r : Addr} {q : Str} {params : Arguments} {body : Expr} {scope : Scope} (h9 : σ[j]? = some (some (.ref m))) (h11 : σ[11]? = some (some (.ref l))) (h12 : σ[12]? = some (some (.ref r)))
    (hm : H m = some (exo m i.1 (some dm))) (hd : H dm = some (exd dm (i.fs v w))) (hl : H l = some (LamO l c' q params body scope)) (hc : H c' = some (CodeO c' q)) (G : LamGood params body scope i.gs) (hr : H r = some (.lst (i.vals v w))) (rs : r ≠ sysModules) (hv : i.gs.map (fun g => (i.fs v w).lookup g) = (i.vals v w).map some)
    (hno : ∀ g ∈ i.gs, findIn K (.ref i.1) g = some none) (T : XfC K i.1) (kp : Kept H (i.vals v w)) (k : ∀ H', L2.Same H H' → Q (.bl true) H') : tCall spTh [] E (tCons (tLamC K 11 (tVar j)) (tCons (tVar 12) tNil)) σ H Q := by
  obtain ⟨ds, as, rd, ao, c1, c2, c3⟩ := kp
  refine ⟨l, c', q, params, body, scope, h11, hl, .ref m, h9, i.gs, i.vals v w, m, i.1, dm, i.fs v w, G, hl, hc, rfl, T, hm, hd, hv, hno, vals_len i v w, fun lq nq sq => ?_⟩
  have eN : ExtN H (upd H lq (.lst (i.vals v w))) := fun b o e _ => new_ext nq b o e
  exact ⟨.ref r, h12, lq, r, i.vals v w, ds, as, rfl, upd_same, new_ext nq _ _ hr, RdAll.ext eN rd, sq, rs, AsOk.ext eN ao, c1, c2, c3, k _ (same_new nq)⟩

/-- over enumerate(a list) -/
theorem for_enum {K : Frag} {a : Addr} {xs : List V} {g : TG} {tb : TS} {D : Ends} {σ : L2.St} {H : Hp} (Pv : Nat → L2.St → Hp → Prop) (h0 : Pv 0 σ H) (hl : ∀ i σ H, i ≤ xs.length → Pv i σ H → SqL K H a xs)
    (hs : ∀ i x σ H T, xs[i]? = some x → Pv i σ H → H T = none → g (.ref T) σ (upd H T (.tup [.int (i : Nat), x])) fun σ2 H2 => tb { D with nx := Pv (i + 1), ct := Pv (i + 1), bk := D.nx } σ2 H2) (hd : ∀ σ H, Pv xs.length σ H → D.nx σ H) :
    ∃ W : Nat → Nat → L2.St → Hp → Prop, (∃ m, W 0 m σ H) ∧ ∀ i m σ H, W i m σ H →
      ((Ite K a).stop i H ∧ D.nx σ H) ∨ ((Ite K a).go i H ∧ ∃ N : L2.St → Hp → Prop, (∀ σ' H', N σ' H' → ∃ m', m' < m ∧ W (i + 1) m' σ' H') ∧ ∀ x H', (Ite K a).yld i H x H' → g x σ H' fun σ2 H2 => tb { D with nx := N, ct := N, bk := D.nx } σ2 H2) := by
  refine ⟨fun i m σ H => m = xs.length - i ∧ i ≤ xs.length ∧ Pv i σ H, ⟨xs.length, by simp, Nat.zero_le _, h0⟩, ?_⟩
  rintro i m σ H ⟨rfl, hi, p⟩
  have q := hl i σ H hi p
  rcases Nat.lt_or_ge i xs.length with hlt | hge
  · refine .inr ⟨⟨xs, xs[i], q, by simp [hlt]⟩, Pv (i + 1), fun σ' H' p' => ⟨xs.length - (i + 1), by omega, rfl, hlt, p'⟩, fun x H' y => ?_⟩
    obtain ⟨T, x', rfl, nT, rfl, hx⟩ := y
    exact hs i x' σ H T (hx xs q) p nT
  · obtain rfl : i = xs.length := by omega
    exact .inl ⟨⟨xs, q, Nat.le_refl _⟩, hd σ H p⟩
end Kz
namespace Kz
open PySem PySem.W PySem.Calls PyProof.Rows L2 LamX
open He (ga)
def vs0 (p1 p2 p3 p5 p6 : Addr) : List V := [.non, .int 5, .int (-1), .bl true, .str "a", .str "", .ref p1, .ref p2, .ref p3, .ref p5, .int (10 ^ (30 : Int).toNat), .ref p6, .bl false, .int 0, .int 1]
theorem good_at (i : Nat) {d : PyData} (h : goods[i]? = some d := by rfl) : d ∈ goods := List.mem_of_getElem? h
theorem vals_good {H : Hp} {p1 p2 p3 p4 p5 p6 : Addr} (f1 : H p1 = some (.lst [.int 1, .str "b"])) (f2 : H p2 = some (.tup [.int 2, .non])) (f3 : H p3 = some (.dK [(.inr "a", .int 1)])) (f4 : H p4 = some (.lst [.str "x"])) (f5 : H p5 = some (.lst [.ref p4])) (f6 : H p6 = some (.tup [.str "s", .int 3]))
    (z1 : p1 ≠ sysModules) (z4 : p4 ≠ sysModules) (z5 : p5 ≠ sysModules) : ∀ v ∈ vs0 p1 p2 p3 p5 p6, Gd H v := fun v hv => by
  have e30 : (V.int (10 ^ (30 : Int).toNat)) = V.int 1000000000000000000000000000000 := by decide +kernel
  unfold vs0 at hv
  rw [e30] at hv
  simp only [List.mem_cons, List.not_mem_nil, or_false] at hv
  rcases hv with rfl | rfl | rfl | rfl | rfl | rfl | rfl | rfl | rfl | rfl | rfl | rfl | rfl | rfl | rfl
  · exact ⟨_, _, good_at 0, .non, .nil⟩
  · exact ⟨_, _, good_at 1, .int _, .nil⟩
  · exact ⟨_, _, good_at 2, .int _, .nil⟩
  · exact ⟨_, _, good_at 3, .bl _, .nil⟩
  · exact ⟨_, _, good_at 4, .str _, .nil⟩
  · exact ⟨_, _, good_at 5, .str _, .nil⟩
  · exact ⟨_, _, good_at 6, .lst f1 (.cons (.int _) (.cons (.str _) .nil)), .cons (.inl z1) (AsOk.nil.app (AsOk.nil.app .nil))⟩
  · exact ⟨_, _, good_at 7, .tup f2 (.cons (.int _) (.cons .non .nil)), AsOk.nil.app (AsOk.nil.app .nil)⟩
  · exact ⟨_, _, good_at 8, .dct f3 (.int _), .cons (.inr ⟨_, f3⟩) ((AsOk.nil.app .nil).app (AsOk.nil.app .nil))⟩
  · exact ⟨_, _, good_at 9, .lst f5 (.cons (.lst f4 (.cons (.str _) .nil)) .nil), .cons (.inl z5) ((AsOk.cons (.inl z4) (AsOk.nil.app .nil)).app .nil)⟩
  · exact ⟨_, _, good_at 10, .int _, .nil⟩
  · exact ⟨_, _, good_at 11, .tup f6 (.cons (.str _) (.cons (.int _) .nil)), AsOk.nil.app (AsOk.nil.app .nil)⟩
  · exact ⟨_, _, good_at 12, .bl _, .nil⟩
  · exact ⟨_, _, good_at 13, .int _, .nil⟩
  · exact ⟨_, _, good_at 14, .int _, .nil⟩
theorem held_good {H : Hp} {p : Addr} (f : H p = some (.lst [.str "v", .str "w"])) (z : p ≠ sysModules) : Gd H (.ref p) :=
  ⟨_, _, good_at 15, .lst f (.cons (.str _) (.cons (.str _) .nil)), .cons (.inl z) (AsOk.nil.app (AsOk.nil.app .nil))⟩

/-- what a row holds, at the heap where it was made, for all that stand in it later -/
structure Raw (K : Frag) (H : Hp) (v w : V) (i : Info) (p m t l r : Addr) : Prop where
  p1 : H p = some (.tup [.ref m, .ref t, .ref l, .ref r])
  m1 : ∃ dm, H m = some (exo m i.1 (some dm)) ∧ H dm = some (exd dm (i.fs v w))
  t1 : ∃ dt, H t = some (exo t i.1 (some dt)) ∧ H dt = some (exd dt (i.fs v w))
  l1 : ∃ (c' : Addr) (q : Str) (params : Arguments) (body : Expr) (scope : Scope), H l = some (LamO l c' q params body scope) ∧ H c' = some (CodeO c' q) ∧ LamGood params body scope i.gs
  r1 : H r = some (.lst (i.vals v w))
  rs : r ≠ sysModules
  lk : i.gs.map (fun g => (i.fs v w).lookup g) = (i.vals v w).map some
  no : ∀ g ∈ i.gs, findIn K (.ref i.1) g = some none
theorem raw_of {K : Frag} {H : Hp} {v w : V} {i : Info} {p : Addr} (h : RowE K H v w i p) : ∃ m t l r, Raw K H v w i p m t l r := by
  obtain ⟨a, m, dm, t, dt, l, c', r, q, params, body, scope, h1, h2, h3, h4, h5, h6, h7, h8, h9, h10, h13, h11, h12⟩ := h
  exact ⟨m, t, l, r, h1, ⟨dm, h2, h3⟩, ⟨dt, h4, h5⟩, ⟨c', q, params, body, scope, h6, h7, h8⟩, h9, h10, h11, h12⟩
theorem Raw.ext {K : Frag} {H H1 : Hp} {v w : V} {i : Info} {p m t l r : Addr} (R : Raw K H v w i p m t l r) (e : L2.Same H H1) : Raw K H1 v w i p m t l r := by
  obtain ⟨dm, a1, a2⟩ := R.m1
  obtain ⟨dt, b1, b2⟩ := R.t1
  obtain ⟨c', q, params, body, scope, c1, c2, c3⟩ := R.l1
  exact ⟨e _ _ R.p1, ⟨dm, e _ _ a1, e _ _ a2⟩, ⟨dt, e _ _ b1, e _ _ b2⟩, ⟨c', q, params, body, scope, e _ _ c1, e _ _ c2, c3⟩, e _ _ R.r1, R.rs, R.lk, R.no⟩
theorem Raw.errM {K : Frag} {H : Hp} {v w : V} {i : Info} {p m t l r : Addr} (R : Raw K H v w i p m t l r) : IsErr H m i.1 := by
  obtain ⟨dm, a1, a2⟩ := R.m1
  exact .inr ⟨dm, _, a1, a2⟩
theorem Raw.errT {K : Frag} {H : Hp} {v w : V} {i : Info} {p m t l r : Addr} (R : Raw K H v w i p m t l r) : IsErr H t i.1 := by
  obtain ⟨dm, a1, a2⟩ := R.t1
  exact .inr ⟨dm, _, a1, a2⟩
theorem sameN {H H1 : Hp} (e : L2.Same H H1) : ExtN H H1 := fun b o h _ => e b o h
theorem Raw.nine {K : Frag} {H : Hp} {v w : V} {i : Info} {p m t l r : Addr} {σ : L2.St} (R : Raw K H v w i p m t l r) (T : XfC K i.1) (kp : Kept H (i.vals v w)) (h9 : σ[9]? = some (some (.ref m))) (h11 : σ[11]? = some (some (.ref l))) (h12 : σ[12]? = some (some (.ref r)))
    {Q : VK} {E : XK} (k : ∀ H', L2.Same H H' → Q (.bl true) H') : tCall spTh [] E (tCons (tLamC K 11 (tVar 9)) (tCons (tVar 12) tNil)) σ H Q := by
  obtain ⟨dm, a1, a2⟩ := R.m1
  obtain ⟨c', q, params, body, scope, c1, c2, c3⟩ := R.l1
  exact these_run h9 h11 h12 a1 a2 c1 c2 c3 R.r1 R.rs R.lk R.no T kp k
theorem Raw.ten {K : Frag} {H : Hp} {v w : V} {i : Info} {p m t l r : Addr} {σ : L2.St} (R : Raw K H v w i p m t l r) (T : XfC K i.1) (kp : Kept H (i.vals v w)) (h10 : σ[10]? = some (some (.ref t))) (h11 : σ[11]? = some (some (.ref l))) (h12 : σ[12]? = some (some (.ref r)))
    {Q : VK} {E : XK} (k : ∀ H', L2.Same H H' → Q (.bl true) H') : tCall spTh [] E (tCons (tLamC K 11 (tVar 10)) (tCons (tVar 12) tNil)) σ H Q := by
  obtain ⟨dt, b1, b2⟩ := R.t1
  obtain ⟨c', q, params, body, scope, c1, c2, c3⟩ := R.l1
  exact these_run h10 h11 h12 b1 b2 c1 c2 c3 R.r1 R.rs R.lk R.no T kp k
/-- the appended list is no row's -/
theorem RowE.grow {K : Frag} {H H1 : Hp} {i : Info} {p h : Addr} (e : ExtA h H H1) (hh : H h = some (.lst [.str "v"])) (r : RowE K H (.ref h) (.ref h) i p) : RowE K H1 (.ref h) (.ref h) i p := by
  obtain ⟨a, m, dm, t, dt, l, c', r, q, params, body, scope, h1, h2, h3, h4, h5, h6, h7, h8, h9, h10, h13, h11, h12⟩ := r
  have rh : r ≠ h := fun z => by
    rw [z, hh] at h9
    obtain ⟨C, f, o⟩ := i
    cases o with
    | none => cases h9
    | some g => cases h9
  have R : Row K H i p (.ref h) (.ref h) h := ⟨m, dm, t, dt, l, c', r, q, params, body, scope, h1, h2, h3, h4, h5, h6, h7, h8, h9, h10, rh, h11, h12⟩
  exact ⟨h, R.extB hh fun b o x y _ => e b o x y⟩
theorem ans_no {C : Addr} : ∀ {ds : List Addr}, (∀ d ∈ ds, C ≠ d) → inV (.bl true) (ans C ds) = false
  | [], _ => rfl
  | d :: r, h => by
    have e1 : decide (C = d) = false := decide_eq_false (h d List.mem_cons_self)
    have ih := ans_no (C := C) (ds := r) fun x hx => h x (List.mem_cons_of_mem _ hx)
    unfold inV at ih ⊢
    unfold ans at ih ⊢
    rw [List.map_cons, List.any_cons, ih, e1]
    rfl
theorem ans_flat {C : Addr} (ds : List Addr) : (ans C ds).all flatV = true := by
  rw [List.all_eq_true]
  intro x hx
  obtain ⟨d, _, rfl⟩ := List.mem_map.mp hx
  rfl
theorem cut3 {y0 y1 y2 : V} {r : List V} (h : (y0 :: y1 :: y2 :: r).length = 15) : cutV (y0 :: y1 :: y2 :: r) none (some 3) = [y0, y1, y2] := by
  unfold cutV
  rw [h]
  rfl
theorem three {ys : List V} (h : ys.length = 15) : ∃ y0 y1 y2 r, ys = y0 :: y1 :: y2 :: r := by
  match ys, h with
  | y0 :: y1 :: y2 :: r, _ => exact ⟨y0, y1, y2, r, rfl⟩
end Kz
namespace Kz
open PySem PySem.W PySem.Calls PyProof.Rows L2 LamX
open He (ga)
def Has (P : Program) (w : World) (K : Frag) (mg : Str → Option Value) (base : Heap) (x : Str) (k : Nat) (ps : List Str) (sp : Sp) : Prop := ∃ f fd, mg x = some (.ref f) ∧ keepIn K (.ref f) = true ∧ L2.Binds K fd ps [] ∧ FnOk P w K mg base CX0 k f fd ps sp
def HasG (P : Program) (w : World) (K : Frag) (mg : Str → Option Value) (base : Heap) (x : Str) (k : Nat) (ps : List Str) (sp : Sp) : Prop := ∃ f fd, mg x = some (.ref f) ∧ keepIn K (.ref f) = true ∧ L2.Binds K fd ps [] ∧ FnG P w K mg base CX0 k f fd ps sp
abbrev noE : XK := fun _ _ _ => False
section
variable {X : Cx} {x : Str} {p pos : Pos} {e : Expr} {es : List Expr} {ps : List Str} {sp : Sp} {k : Nat} {t : TA}
theorem pe_has (h : Has X.prog X.w X.K X.mg X.base x k ps sp) (hr : Room k X.A) (hg : Gl X x) (ha : PA X (e :: es) t) (hdb : (x == ("__debug__" : Str)) = false := by decide) (he : starEach (e :: es) X.env = (false, eval e X.env) :: starEach es X.env := by rfl) (hpl : (backTo pos (starEach es X.env)).any (·.1) = false := by rfl) :
    PE X (.Call (.Name x p) (e :: es) [] pos) (tCall sp [] noE t) := by
  obtain ⟨f, fd, h1, h2, h3, h4⟩ := h
  exact pe_call h4 hr hg h1 h2 h3 .nil pass0 ha hdb he hpl
theorem pe_hasG (hgd : X.A.guards = some []) (h : HasG X.prog X.w X.K X.mg X.base x k ps sp) (hr : Room k X.A) (hg : Gl X x) (ha : PA X (e :: es) t) (hdb : (x == ("__debug__" : Str)) = false := by decide) (he : starEach (e :: es) X.env = (false, eval e X.env) :: starEach es X.env := by rfl) (hpl : (backTo pos (starEach es X.env)).any (·.1) = false := by rfl) :
    PE X (.Call (.Name x p) (e :: es) [] pos) (tCall sp [] noE t) := by
  obtain ⟨f, fd, h1, h2, h3, h4⟩ := h
  exact pe_callG hgd h4 hr hg h1 h2 h3 .nil pass0 ha hdb he hpl
end
structure LK (P : Program) (w : World) (K : Frag) (mg : Str → Option Value) (base : Heap) (T : List (Addr × Str)) : Prop where
  st : Has P w K mg base "_law_start" 1 ["script"] (spStart K)
  mx : Has P w K mg base "_law_mixed" 2 ["stream", "some"] (spMx K)
  ma : Has P w K mg base "_law_made_a" 3 ["x", "y", "z"] (spMade K T (isA K))
  mb : Has P w K mg base "_law_made_b" 3 ["x", "y", "z"] (spMade K T (isB K))
  mc : Has P w K mg base "_law_made_c" 3 ["x", "y", "z"] (spMade K T (isC K))
  ow : Has P w K mg base "_law_is_own" 4 ["e", "at"] (spOwn K)
  kn : Has P w K mg base "_law_kinds" 3 ["e"] (spK K (dsAll K))
  th : HasG P w K mg base "_law_are_these" 2 ["found", "due"] spTh
  kit : ∀ (i : Nat) (C : Addr), (dsAll K)[i]? = some C → Kit K C
  nd : (dsAll K).Nodup
  feM : mg "ForkError" = some (.ref (ga K "ForkError"))
  feK : keepIn K (.ref (ga K "ForkError")) = true
  feE : PySem.W.excIn K (ga K "ForkError") [.type "ValueError", .type "Exception", .type "BaseException", .type "object"] "ValueError.__new__" = true
  feX : XiC K (ga K "ForkError")
  feV : kitOne K (.ref (ga K "ForkError")) (.type "ValueError") = some true
  feD : ∀ d ∈ dsAll K, kitOne K (.ref (ga K "ForkError")) (.ref d) = some false
  feN : ∀ d ∈ dsAll K, ga K "ForkError" ≠ d
  nr : mg "range" = none
  ne : mg "enumerate" = none
  ni : mg "isinstance" = none
  nv : mg "ValueError" = none
def spLaw (K : Frag) (T : List (Addr × Str)) : Sp := fun vs H Q _ => ∃ (a : Addr) (ns : List Int), vs = [.ref a] ∧ SqL K H a (ns.map V.int) ∧ ns.length ≤ 1000 ∧ Tabs T H ∧ ∀ H', Q (.bl true) H'
section
variable {P : Program} {w : World} {K : Frag} {mg : Str → Option Value} {base : Heap}
abbrev XLw (P : Program) (w : World) (K : Frag) (mg : Str → Option Value) (base : Heap) (f : Addr) (cdv : Value) (A : Around) (outer : List Env) (s : Shared) (H : Hp) (XE : XK) : Cx := (cxOf CX0 P w K mg base NL "law" (defScope sLw) f cdv A outer s H XE).nox
theorem ok_lw {T : List (Addr × Str)} {f : Addr} {fd : FuncData} (Fn : FunD K "law" "law" (defArgs sLw) (defBody sLw) (defScope sLw) [] [] f fd) (L : LK P w K mg base T) : FnG P w K mg base CX0 5 f fd ["script"] (spLaw K T) := by
  refine Kz.FunD.okG Fn scLw (fun vs H Q E h => ?_) (fun cdv A outer s H vs Q XE hg hr h => ?_)
  · obtain ⟨a, ns, rfl, _⟩ := h
    rfl
  · obtain ⟨a, ns, rfl, hS, hn, hT, k⟩ := h
    have h0 : PS (XLw P w K mg base f cdv A outer s H XE) (stL 0) _ := ps_set (i := 1) scLw.nd rfl (.inl rfl) (pe_has L.st (hr.mono (by decide)) (by rfl) (pa_cons (pv 0) pa_nil))
    have h1 : PS (XLw P w K mg base f cdv A outer s H XE) (stL 1) _ := ps_set (i := 2) scLw.nd rfl (.inl rfl) (pe_lst (pa_cons pe_non (pa_cons pe_int (pa_cons (pe_un un_neg pe_int) (pa_cons pe_bl (pa_cons pe_str (pa_cons pe_str (pa_cons (pe_lstB (pa_cons pe_int (pa_cons pe_str pa_nil)))
      (pa_cons (pe_tup (pa_cons pe_int (pa_cons pe_non pa_nil))) (pa_cons (pe_disp (pps_cons pe_str pe_int pps_nil) rfl rfl (by simp) (by decide)) (pa_cons (pe_lstB (pa_cons (pe_lstB (pa_cons pe_str pa_nil)) pa_nil)) (pa_cons (pe_op op_pow pe_int pe_int) (pa_cons (pe_tup (pa_cons pe_str (pa_cons pe_int pa_nil)))
      (pa_cons pe_bl (pa_cons pe_int (pa_cons pe_int pa_nil))))))))))))))))
    have f0 : PS (XLw P w K mg base f cdv A outer s H XE) (stF 0) _ := ps_asg (pe_slice sl_list (pe_has L.mx (hr.mono (by decide)) (by rfl) (pa_cons (pv 1) (pa_cons (pv 2) pa_nil))) po_none (po_some pe_int)) (pg_lst rfl (pgs_cons (pg_name (i := 4) scLw.nd rfl (.inl rfl)) (pgs_cons (pg_name (i := 5) scLw.nd rfl (.inl rfl)) (pgs_cons (pg_name (i := 6) scLw.nd rfl (.inl rfl)) pgs_nil))))
    have f1 : PS (XLw P w K mg base f cdv A outer s H XE) (stF 1) _ := ps_set (i := 7) scLw.nd rfl (.inl rfl) (pe_op op_cat (pe_op op_cat (pe_has L.ma (hr.mono (by decide)) (by rfl) (pa_cons (pv 4) (pa_cons (pv 5) (pa_cons (pv 6) pa_nil)))) (pe_has L.mb (hr.mono (by decide)) (by rfl) (pa_cons (pv 4) (pa_cons (pv 5) (pa_cons (pv 6) pa_nil)))))
      (pe_has L.mc (hr.mono (by decide)) (by rfl) (pa_cons (pv 4) (pa_cons (pv 5) (pa_cons (pv 6) pa_nil)))))
    have g0 : PS (XLw P w K mg base f cdv A outer s H XE) (stG 0) _ := ps_if ((pw_or (pt_not (pt_val (pe_has L.ow hr (by rfl) (pa_cons (pv 9) (pa_cons (pv 8) pa_nil))))) (pw_or1 (pt_not (pt_val (pe_has L.ow hr (by rfl) (pa_cons (pv 10) (pa_cons (pv 8) pa_nil))))))).pt) (pss_one (ps_ret pe_bl)) pss_nil
    have g1 : PS (XLw P w K mg base f cdv A outer s H XE) (stG 1) _ := ps_if ((pw_or (pt_not (pt_val (pe_hasG hg L.th (hr.mono (by decide)) (by rfl) (pa_cons (pe_lamC (hr.mono (by decide)) (i := 11) rfl (.inl rfl) (pv 9)) (pa_cons (pv 12) pa_nil))))) (pw_or1 (pt_not (pt_val (pe_hasG hg L.th (hr.mono (by decide)) (by rfl) (pa_cons (pe_lamC (hr.mono (by decide)) (i := 11) rfl (.inl rfl) (pv 10)) (pa_cons (pv 12) pa_nil))))))).pt) (pss_one (ps_ret pe_bl)) pss_nil
    have f2 : PS (XLw P w K mg base f cdv A outer s H XE) (stF 2) _ := ps_for PassesOwn.never rfl (pi_enum (by rfl) L.ne (pa_cons (pv 7) pa_nil)) (pg_tup rfl (pgs_cons (pg_name (i := 8) scLw.nd rfl (.inl rfl)) (pgs_cons (pg_tup rfl (pgs_cons (pg_name (i := 9) scLw.nd rfl (.inl rfl)) (pgs_cons (pg_name (i := 10) scLw.nd rfl (.inl rfl)) (pgs_cons (pg_name (i := 11) scLw.nd rfl (.inl rfl)) (pgs_cons (pg_name (i := 12) scLw.nd rfl (.inl rfl)) pgs_nil))))) pgs_nil))) (PSs.of_eq bdG (pss_cons g0 (pss_one g1)))
    have h2 : PS (XLw P w K mg base f cdv A outer s H XE) (stL 2) _ := ps_for PassesOwn.never rfl (pi_range1 (by rfl) L.nr (pa_cons pe_int pa_nil)) (pg_name (i := 3) scLw.nd rfl (.inl rfl)) (PSs.of_eq bdF (pss_cons f0 (pss_cons f1 (pss_one f2))))
    have h3 : PS (XLw P w K mg base f cdv A outer s H XE) (stL 3) _ := ps_set (i := 13) scLw.nd rfl (.inl rfl) (pe_lstB (pa_cons pe_str pa_nil))
    have h4 : PS (XLw P w K mg base f cdv A outer s H XE) (stL 4) _ := ps_set (i := 7) scLw.nd rfl (.inl rfl) (pe_op op_cat (pe_op op_cat (pe_has L.ma (hr.mono (by decide)) (by rfl) (pa_cons (pv 13) (pa_cons (pv 13) (pa_cons (pv 13) pa_nil)))) (pe_has L.mb (hr.mono (by decide)) (by rfl) (pa_cons (pv 13) (pa_cons (pv 13) (pa_cons (pv 13) pa_nil)))))
      (pe_has L.mc (hr.mono (by decide)) (by rfl) (pa_cons (pv 13) (pa_cons (pv 13) (pa_cons (pv 13) pa_nil)))))
    have h5 : PS (XLw P w K mg base f cdv A outer s H XE) (stL 5) _ := ps_expr (pe_bm PySem.F.plainAttrs_list PySem.F.slot_list_append PySem.F.type_list_append mt_append (pv 13) (pa_cons pe_str pa_nil))
    have g2 : PS (XLw P w K mg base f cdv A outer s H XE) (stH 0) _ := ps_if ((pw_or (pt_not (pt_val (pe_hasG hg L.th (hr.mono (by decide)) (by rfl) (pa_cons (pe_lamC (hr.mono (by decide)) (i := 11) rfl (.inl rfl) (pv 9)) (pa_cons (pv 12) pa_nil))))) (pw_or1 (pt_not (pt_val (pe_hasG hg L.th (hr.mono (by decide)) (by rfl) (pa_cons (pe_lamC (hr.mono (by decide)) (i := 11) rfl (.inl rfl) (pv 10)) (pa_cons (pv 12) pa_nil))))))).pt) (pss_one (ps_ret pe_bl)) pss_nil
    have h6 : PS (XLw P w K mg base f cdv A outer s H XE) (stL 6) _ := ps_for PassesOwn.never rfl (pi_list (pv 7)) (pg_tup rfl (pgs_cons (pg_name (i := 9) scLw.nd rfl (.inl rfl)) (pgs_cons (pg_name (i := 10) scLw.nd rfl (.inl rfl)) (pgs_cons (pg_name (i := 11) scLw.nd rfl (.inl rfl)) (pgs_cons (pg_name (i := 12) scLw.nd rfl (.inl rfl)) pgs_nil))))) (PSs.of_eq bdH (pss_one g2))
    have h7 : PS (XLw P w K mg base f cdv A outer s H XE) (stL 7) _ := ps_set (i := 14) scLw.nd rfl (.inl rfl) (pe_exc0 F.excBase_ValueError L.feE L.feM L.feK (by rfl))
    have h8 : PS (XLw P w K mg base f cdv A outer s H XE) (stL 8) _ := ps_ret (pe_and (pe_callB call_isE (by rfl) L.ni boot_isi (pa_cons (pv 14) (pa_cons (pe_bltn (by rfl) L.nv boot_ve (v := .ty "ValueError") rfl) pa_nil))) (pe_one (pe_cmpR op_notIn_seq pe_bl (pe_has L.kn (hr.mono (by decide)) (by rfl) (pa_cons (pv 14) pa_nil)) (by rfl))))
    have PP := PSs.of_eq bdL (pss_cons h0 (pss_cons h1 (pss_cons h2 (pss_cons h3 (pss_cons h4 (pss_cons h5 (pss_cons h6 (pss_cons h7 (pss_one h8)))))))))
    clear h0 h1 h2 h3 h4 h5 h6 h7 h8 f0 f1 f2 g0 g1 g2
    refine ⟨_, PSs.nox PP, ?_⟩
    clear PP
    -- the spring
    refine ⟨.ref a, rfl, a, ns, rfl, hS, fun H1 l li s1 n1 n2 ss1 => ?_⟩
    have T1 : Tabs T H1 := hT.ext s1
    -- the values
    refine ⟨1, rfl, small4 2, fun p1 m1 z1 => ⟨small4 2, fun p2 m2 => fun p3 m3 => ⟨upd_same, [(.inr "a", .int 1)], rfl, by decide, ?_⟩⟩⟩
    rw [upd_upd]
    refine ⟨small4 1, fun p4 m4 z4 => ⟨small4 1, fun p5 m5 z5 => ⟨10, 30, rfl, rfl, ⟨by decide, by decide, by decide⟩, small4 2, fun p6 m6 => ⟨small4 15, fun sa msa => ?_⟩⟩⟩⟩
    have S1 := same_new (o := .lst [.int 1, .str "b"]) m1
    have S2 := same_new (o := .tup [.int 2, .non]) m2
    have S3 := same_new (o := HO.dK (mergeK [] [(.inr "a", .int 1)])) m3
    have S4 := same_new (o := .lst [.str "x"]) m4
    have S5 := same_new (o := .lst [.ref p4]) m5
    have S6 := same_new (o := .tup [.str "s", .int 3]) m6
    have S7 := same_new (o := .lst (vs0 p1 p2 p3 p5 p6)) msa
    have B2 := S1
    have B3 := B2.trans S2
    have B4 := B3.trans S3
    have B5 := B4.trans S4
    have B6 := B5.trans S5
    have B7 := B6.trans S6
    have B8 := B7.trans S7
    have nl : ∀ {q : Addr} {G : Hp}, L2.Same H1 G → G q = none → q ≠ l ∧ q ≠ li := fun e n => ⟨Ne.symm (ne_of_none (e _ _ ss1.l1) n), Ne.symm (ne_of_none (e _ _ ss1.l2) n)⟩
    have G0 := vals_good (hide_of (nl (fun _ _ e => e) m1).1 (nl (fun _ _ e => e) m1).2 (S7 _ _ (S6 _ _ (S5 _ _ (S4 _ _ (S3 _ _ (S2 _ _ upd_same)))))))
      (hide_of (nl B2 m2).1 (nl B2 m2).2 (S7 _ _ (S6 _ _ (S5 _ _ (S4 _ _ (S3 _ _ upd_same))))))
      (hide_of (nl B3 m3).1 (nl B3 m3).2 (S7 _ _ (S6 _ _ (S5 _ _ (S4 _ _ upd_same)))))
      (hide_of (nl B4 m4).1 (nl B4 m4).2 (S7 _ _ (S6 _ _ (S5 _ _ upd_same))))
      (hide_of (nl B5 m5).1 (nl B5 m5).2 (S7 _ _ (S6 _ _ upd_same)))
      (hide_of (nl B6 m6).1 (nl B6 m6).2 (S7 _ _ upd_same)) z1 z4 z5
    have saN := nl B7 msa
    obtain ⟨H2, hH2⟩ : ∃ H2 : Hp, H2 = upd (upd (upd (upd (upd (upd (upd H1 p1 (.lst [.int 1, .str "b"])) p2 (.tup [.int 2, .non])) p3 (HO.dK (mergeK [] [(.inr "a", .int 1)]))) p4 (.lst [.str "x"])) p5 (.lst [.ref p4])) p6 (.tup [.str "s", .int 3])) sa (.lst (vs0 p1 p2 p3 p5 p6)) := ⟨_, rfl⟩
    have hsa : H2 sa = some (.lst (vs0 p1 p2 p3 p5 p6)) := by rw [hH2]; exact upd_same
    have T2 : Tabs T H2 := by rw [hH2]; exact T1.ext B8
    have ss2 : SS H2 l li ns 0 0 19 := by rw [hH2]; exact ss1.ext (sameN B8)
    have G2 : ∀ v ∈ vs0 p1 p2 p3 p5 p6, Gd (hide l li H2) v := by rw [hH2]; exact G0
    have lvs : (vs0 p1 p2 p3 p5 p6).length = 15 := rfl
    show tSeq _ _ _ [some (.ref a), some (.ref l), some (.ref sa), none, none, none, none, none, none, none, none, none, none, none, none] (upd (upd (upd (upd (upd (upd (upd H1 p1 (.lst [.int 1, .str "b"])) p2 (.tup [.int 2, .non])) p3 (HO.dK (mergeK [] [(.inr "a", .int 1)]))) p4 (.lst [.str "x"])) p5 (.lst [.ref p4])) p6 (.tup [.str "s", .int 3])) sa (.lst (vs0 p1 p2 p3 p5 p6)))
    rw [← hH2]
    clear hH2 G0 S1 S2 S3 S4 S5 S6 S7 B2 B3 B4 B5 B6 B7 B8 msa m1 m2 m3 m4 m5 m6
    revert G2 hsa lvs
    generalize vs0 p1 p2 p3 p5 p6 = vs
    intro hsa G2 lvs
    -- the two turns
    refine ⟨2, rfl, by decide, by decide, for_range (lo := 0) (n := (2 : Int).toNat) (fun j σ H' => ∃ (a3 a4 a5 a6 a7 a8 a9 a10 a11 a12 : Option V) (ns' : List Int) (b d : Int), σ = [some (.ref a), some (.ref l), some (.ref sa), a3, a4, a5, a6, a7, a8, a9, a10, a11, a12, none, none] ∧
      SS H' l li ns' b (15 * (j : Nat)) d ∧ ns'.length ≤ 1000 ∧ Tabs T H' ∧ H' sa = some (.lst vs) ∧ ∀ v ∈ vs, Gd (hide l li H') v) ⟨none, none, none, none, none, none, none, none, none, none, ns, 0, 19, rfl, by simpa using ss2, hn, T2, hsa, G2⟩ (fun i σ H' hi e => ?_) (fun σ H' e => ?_)⟩
    · obtain ⟨a3, a4, a5, a6, a7, a8, a9, a10, a11, a12, ns', b, d, rfl, ss, nl', T', hsa', G'⟩ := e
      have hi2 : i < 2 := hi
      refine ⟨.ref l, rfl, .ref sa, rfl, l, li, sa, vs, ns', b, 15 * (i : Nat), d, rfl, ss, hsa', by omega, by omega, nl', fun H3 r ys ns3 b3 d3 e3 ss3 nl3 nr hr ly my => ?_⟩
      have T3 : Tabs T H3 := tabs_extS ss e3 T'
      have G3 : ∀ v ∈ vs, Gd (hide l li H3) v := fun v hv => (G' v hv).ext (hide_extS e3)
      have hsa3 : H3 sa = some (.lst vs) := e3 _ _ hsa' saN.1 saN.2
      obtain ⟨y0, y1, y2, yr, rfl⟩ := three (ly.trans lvs)
      refine ⟨3, rfl, r, _, rfl, .inl (.inl hr), fun q nq => ?_⟩
      rw [cut3 (ly.trans lvs)]
      refine ⟨q, [y0, y1, y2], rfl, .inl (.inl upd_same), rfl, y0, [y1, y2], rfl, y1, [y2], rfl, y2, [], rfl, rfl, ?_⟩
      have S4 := same_new (o := .lst [y0, y1, y2]) nq
      have g0 : Gd (upd H3 q (.lst [y0, y1, y2])) y0 := ((G3 y0 (my _ (by simp))).ext (hide_ext (sameN S4))).ext hide_up
      have g1 : Gd (upd H3 q (.lst [y0, y1, y2])) y1 := ((G3 y1 (my _ (by simp))).ext (hide_ext (sameN S4))).ext hide_up
      refine ⟨y0, rfl, y1, rfl, y2, rfl, y0, y1, y2, rfl, T3.ext S4, fun Ha la pa ea na ha ra Ta => ?_⟩
      refine ⟨y0, rfl, y1, rfl, y2, rfl, y0, y1, y2, rfl, Ta, fun Hb lb pb eb nb hb rb Tb => ?_⟩
      have la18 : pa.length = 18 := (paired_len ra).symm
      have lb18 : pb.length = 18 := (paired_len rb).symm
      refine ⟨la, lb, _, _, rfl, rfl, eb _ _ ha lst_nt, hb, ?_, fun lx nx => ?_⟩
      · rw [List.length_map, List.length_map, la18, lb18]
        exact small4 36
      have S5 := same_new (o := .lst (pa.map V.ref ++ pb.map V.ref)) nx
      refine ⟨y0, rfl, y1, rfl, y2, rfl, y0, y1, y2, rfl, Tb.ext S5, fun Hc lc pc ec nc hc rc Tc => ?_⟩
      have lc12 : pc.length = 12 := (paired_len rc).symm
      refine ⟨lx, lc, _, _, rfl, rfl, ec _ _ upd_same lst_nt, hc, ?_, fun ld nd => ?_⟩
      · rw [List.length_append, List.length_map, List.length_map, List.length_map, la18, lb18, lc12]
        exact small4 48
      have eM : pa.map V.ref ++ pb.map V.ref ++ pc.map V.ref = ((pa ++ pb) ++ pc).map V.ref := by simp
      rw [eM]
      have S6 := same_new (o := .lst (((pa ++ pb) ++ pc).map V.ref)) nd
      have eC : ExtN Hc (upd Hc ld (.lst (((pa ++ pb) ++ pc).map V.ref))) := sameN S6
      have eB : ExtN Hb (upd Hc ld (.lst (((pa ++ pb) ++ pc).map V.ref))) := fun b o h z => eC _ _ (ec _ _ (S5 _ _ h) z) z
      have eA : ExtN Ha (upd Hc ld (.lst (((pa ++ pb) ++ pc).map V.ref))) := fun b o h z => eB _ _ (eb _ _ h z) z
      have e4 : ExtN (upd H3 q (.lst [y0, y1, y2])) (upd Hc ld (.lst (((pa ++ pb) ++ pc).map V.ref))) := fun b o h z => eA _ _ (ea _ _ h z) z
      have Td := Tc.ext S6
      have hd : (upd Hc ld (.lst (((pa ++ pb) ++ pc).map V.ref))) ld = some (.lst (((pa ++ pb) ++ pc).map V.ref)) := upd_same
      have RR : Paired (RowE K (upd Hc ld (.lst (((pa ++ pb) ++ pc).map V.ref))) y0 y1) (infos K) ((pa ++ pb) ++ pc) := paired_app (paired_app (paired_imp (fun i p r => RowE.ext ⟨_, r⟩ eA) ra) (paired_imp (fun i p r => RowE.ext ⟨_, r⟩ eB) rb)) (paired_imp (fun i p r => RowE.ext ⟨_, r⟩ eC) rc)
      have gd0 := g0.ext e4
      have gd1 := g1.ext e4
      have e3d : ExtN H3 (upd Hc ld (.lst (((pa ++ pb) ++ pc).map V.ref))) := fun b o h z => e4 _ _ (S4 _ _ h) z
      clear eA eB eC eM S5 S6 ha hb hc ra rb rc ea eb ec nx nd nc nb na Ta Tb Tc g0 g1 e4 S4
      revert Td hd RR gd0 gd1 e3d
      generalize (upd Hc ld (.lst (((pa ++ pb) ++ pc).map V.ref))) = Hd
      generalize ((pa ++ pb) ++ pc) = ps
      intro Td hd RR gd0 gd1 e3d
      refine ⟨.ref ld, rfl, ld, ps.map V.ref, rfl, .inl (.inl hd), ?_⟩
      refine for_enum (xs := ps.map V.ref) (fun j σ H' => ∃ (b8 b9 b10 b11 b12 : Option V), σ = [some (.ref a), some (.ref l), some (.ref sa), some (.int (0 + (i : Nat))), some y0, some y1, some y2, some (.ref ld), b8, b9, b10, b11, b12, none, none] ∧ L2.Same Hd H')
        ⟨a8, a9, a10, a11, a12, rfl, fun _ _ e => e⟩ (fun j σ H' hj e => ?_) (fun j x σ H' Tq hx e nT => ?_) (fun σ H' e => ?_)
      · obtain ⟨_, _, _, _, _, _, S⟩ := e
        exact .inl (.inl (S _ _ hd))
      · obtain ⟨b8, b9, b10, b11, b12, rfl, S⟩ := e
        obtain ⟨p, hp, rfl⟩ : ∃ p, ps[j]? = some p ∧ V.ref p = x := by simpa using hx
        obtain ⟨inf, hinf, hrow⟩ := paired_at RR hp
        obtain ⟨m, t, lm, r', R0⟩ := raw_of hrow
        have S' := S.trans (same_new (o := .tup [.int (j : Nat), .ref p]) nT)
        have R := R0.ext S'
        have idx : (dsAll K)[j]? = some inf.1 := by rw [← infos_ds, List.getElem?_map, hinf]; rfl
        have kit := L.kit j inf.1 idx
        refine ⟨Tq, _, rfl, .inl (.inl upd_same), rfl, .int (j : Nat), _, rfl, .ref p, _, rfl, p, _, rfl, .inl (.inl R.p1), rfl, .ref m, _, rfl, .ref t, _, rfl, .ref lm, _, rfl, .ref r', _, rfl, rfl, rfl, ?_⟩
        refine ⟨.ref m, rfl, .int (j : Nat), rfl, m, inf.1, j, rfl, R.errM, kit, L.nd, idx, fun H5 s5 => ⟨true, rfl, iteF ?_⟩⟩
        have R5 := R.ext s5
        refine ⟨.ref t, rfl, .int (j : Nat), rfl, t, inf.1, j, rfl, R5.errT, kit, L.nd, idx, fun H6 s6 => ⟨true, rfl, iteF ?_⟩⟩
        have R6 := R5.ext s6
        have S6 := (S'.trans s5).trans s6
        have kp := kept_of inf (gd0.ext (sameN S6)) (gd1.ext (sameN S6))
        refine R6.nine kit.xi.xf kp rfl rfl rfl (fun H7 s7 => ⟨true, rfl, iteF ?_⟩)
        refine (R6.ext s7).ten kit.xi.xf (kp.ext (sameN s7)) rfl rfl rfl (fun H8 s8 => ⟨true, rfl, iteF ?_⟩)
        exact ⟨_, _, _, _, _, rfl, (S6.trans s7).trans s8⟩
      · obtain ⟨b8, b9, b10, b11, b12, rfl, S⟩ := e
        have e3' : ExtN H3 H' := fun b o h z => S _ _ (e3d _ _ h z)
        have ec : (15 : Int) * ((i + 1 : Nat)) = 15 * (i : Nat) + (vs.length : Nat) := by rw [lvs]; omega
        refine ⟨_, _, _, _, _, _, _, _, _, _, ns3, b3, d3, rfl, ?_, nl3, Td.ext S, e3' _ _ hsa3 lst_nt, fun v hv => (G3 v hv).ext (hide_ext e3')⟩
        rw [ec]
        exact ss3.ext e3'
    · obtain ⟨a3, a4, a5, a6, a7, a8, a9, a10, a11, a12, ns', b, d, rfl, ss, nl', T', hsa', G'⟩ := e
      clear hsa' G' ss
      -- what is held
      refine ⟨small4 1, fun hp nhp shp => ?_⟩
      have S1 := same_new (o := .lst [.str "v"]) nhp
      refine ⟨.ref hp, rfl, .ref hp, rfl, .ref hp, rfl, .ref hp, .ref hp, .ref hp, rfl, T'.ext S1, fun Ha la pa ea na ha ra Ta => ?_⟩
      refine ⟨.ref hp, rfl, .ref hp, rfl, .ref hp, rfl, .ref hp, .ref hp, .ref hp, rfl, Ta, fun Hb lb pb eb nb hb rb Tb => ?_⟩
      have la18 : pa.length = 18 := (paired_len ra).symm
      have lb18 : pb.length = 18 := (paired_len rb).symm
      refine ⟨la, lb, _, _, rfl, rfl, eb _ _ ha lst_nt, hb, ?_, fun lx nx => ?_⟩
      · rw [List.length_map, List.length_map, la18, lb18]
        exact small4 36
      have S5 := same_new (o := .lst (pa.map V.ref ++ pb.map V.ref)) nx
      refine ⟨.ref hp, rfl, .ref hp, rfl, .ref hp, rfl, .ref hp, .ref hp, .ref hp, rfl, Tb.ext S5, fun Hc lc pc ec nc hc rc Tc => ?_⟩
      have lc12 : pc.length = 12 := (paired_len rc).symm
      refine ⟨lx, lc, _, _, rfl, rfl, ec _ _ upd_same lst_nt, hc, ?_, fun ld nd => ?_⟩
      · rw [List.length_append, List.length_map, List.length_map, List.length_map, la18, lb18, lc12]
        exact small4 48
      have eM : pa.map V.ref ++ pb.map V.ref ++ pc.map V.ref = ((pa ++ pb) ++ pc).map V.ref := by simp
      rw [eM]
      have S6 := same_new (o := .lst (((pa ++ pb) ++ pc).map V.ref)) nd
      have eC : ExtN Hc (upd Hc ld (.lst (((pa ++ pb) ++ pc).map V.ref))) := sameN S6
      have eB : ExtN Hb (upd Hc ld (.lst (((pa ++ pb) ++ pc).map V.ref))) := fun b o h z => eC _ _ (ec _ _ (S5 _ _ h) z) z
      have eA : ExtN Ha (upd Hc ld (.lst (((pa ++ pb) ++ pc).map V.ref))) := fun b o h z => eB _ _ (eb _ _ h z) z
      have hd : (upd Hc ld (.lst (((pa ++ pb) ++ pc).map V.ref))) ld = some (.lst (((pa ++ pb) ++ pc).map V.ref)) := upd_same
      have hh : (upd Hc ld (.lst (((pa ++ pb) ++ pc).map V.ref))) hp = some (.lst [.str "v"]) := eA _ _ (ea _ _ upd_same lst_nt) lst_nt
      have RR : Paired (RowE K (upd Hc ld (.lst (((pa ++ pb) ++ pc).map V.ref))) (.ref hp) (.ref hp)) (infos K) ((pa ++ pb) ++ pc) := paired_app (paired_app (paired_imp (fun i p r => RowE.ext ⟨_, r⟩ eA) ra) (paired_imp (fun i p r => RowE.ext ⟨_, r⟩ eB) rb)) (paired_imp (fun i p r => RowE.ext ⟨_, r⟩ eC) rc)
      have lps : ((pa ++ pb) ++ pc).length ≤ 1000 := by simp [la18, lb18, lc12]
      clear eA eB eC eM S5 S6 ha hb hc ra rb rc ea eb ec nx nd nc nb na Ta Tb Tc S1 la18 lb18 lc12
      revert hd hh RR lps
      generalize (upd Hc ld (.lst (((pa ++ pb) ++ pc).map V.ref))) = Hd
      generalize ((pa ++ pb) ++ pc) = ps
      intro hd hh RR lps
      -- it grows
      refine ⟨.ref hp, rfl, .inl ⟨rfl, _, .inl (.inl hh)⟩, hp, [.str "v"], .str "w", rfl, rfl, hh, by rw [sizeLine_eq]; decide, ?_⟩
      have eG : ExtA hp Hd (upd Hd hp (.lst ([.str "v"] ++ [.str "w"]))) := fun b o h z => by rw [upd_ne z]; exact h
      have dh : ld ≠ hp := fun z => by
        have l48 : ps.length = 48 := (paired_len RR).symm.trans (infos_len K)
        rw [z, hh] at hd
        have e := HO.lst.inj (Option.some.inj hd)
        have e2 := congrArg List.length e
        rw [List.length_map, l48] at e2
        exact absurd e2 (by decide)
      have hd2 := eG _ _ hd dh
      have RG : Paired (RowE K (upd Hd hp (.lst ([.str "v"] ++ [.str "w"]))) (.ref hp) (.ref hp)) (infos K) ps := paired_imp (fun i p r => r.grow eG hh) RR
      have gH : Gd (upd Hd hp (.lst ([.str "v"] ++ [.str "w"]))) (.ref hp) := held_good upd_same shp
      clear RR hh hd eG dh
      revert hd2 RG gH
      generalize (upd Hd hp (.lst ([.str "v"] ++ [.str "w"]))) = He
      intro hd2 RG gH
      refine ⟨.ref ld, rfl, ld, rfl, ⟨_, .inl (.inl hd2)⟩, ?_⟩
      refine for_list (xs := ps.map V.ref) (fun j σ H' => ∃ (b9 b10 b11 b12 : Option V), σ = [some (.ref a), some (.ref l), some (.ref sa), a3, a4, a5, a6, some (.ref ld), a8, b9, b10, b11, b12, some (.ref hp), none] ∧ L2.Same He H')
        ⟨a9, a10, a11, a12, rfl, fun _ _ e => e⟩ (fun j σ H' hj e => ?_) (fun j x σ H' hx e => ?_) (fun σ H' e => ?_)
      · obtain ⟨_, _, _, _, _, S⟩ := e
        exact .inl (.inl (S _ _ hd2))
      · obtain ⟨b9, b10, b11, b12, rfl, S⟩ := e
        obtain ⟨p, hp', rfl⟩ : ∃ p, ps[j]? = some p ∧ V.ref p = x := by simpa using hx
        obtain ⟨inf, hinf, hrow⟩ := paired_at RG hp'
        obtain ⟨m, t, lm, r', R0⟩ := raw_of hrow
        have R := R0.ext S
        have idx : (dsAll K)[j]? = some inf.1 := by rw [← infos_ds, List.getElem?_map, hinf]; rfl
        have kit := L.kit j inf.1 idx
        have kp := kept_of inf (gH.ext (sameN S)) (gH.ext (sameN S))
        refine ⟨p, _, rfl, .inl (.inl R.p1), rfl, .ref m, _, rfl, .ref t, _, rfl, .ref lm, _, rfl, .ref r', _, rfl, rfl, ?_⟩
        refine R.nine kit.xi.xf kp rfl rfl rfl (fun H7 s7 => ⟨true, rfl, iteF ?_⟩)
        refine (R.ext s7).ten kit.xi.xf (kp.ext (sameN s7)) rfl rfl rfl (fun H8 s8 => ⟨true, rfl, iteF ?_⟩)
        exact ⟨_, _, _, _, rfl, (S.trans s7).trans s8⟩
      · obtain ⟨b9, b10, b11, b12, rfl, S⟩ := e
        -- the base
        refine fun bE nE => ?_
        have hE : IsErr (upd H' bE (exo bE (ga K "ForkError") none)) bE (ga K "ForkError") := .inl upd_same
        refine ⟨.ref bE, rfl, bE, ga K "ForkError", .ty "ValueError", _, true, rfl, hE, L.feX, .ty _, L.feV, true, rfl, iteT ?_⟩
        refine ⟨.ref bE, rfl, bE, ga K "ForkError", rfl, hE, L.feX, fun d hd => ?_, fun H9 la sA nA hA => ?_⟩
        · rw [L.feD d hd, decide_eq_false (L.feN d hd)]
        · refine ⟨la, _, rfl, .inl (.inl (.inl hA)), rfl, ans_flat _, ?_⟩
          rw [ans_no L.feN]
          exact k _
end
end Kz
namespace Kz
open PySem PySem.W PySem.Calls PyProof.Rows L2 LamX

/-! ### the end: the script's list and the tables alone are followed -/
section
variable {P : Program} {w : World} {K : Frag} {mg mb : Str → Option Value} {s : Shared} {cs : List (Addr × Addr)} {a : Addr} {vs : List Value} {ns : List Int}
/-- the script's list as it stands -/
abbrev scO (vs : List Value) : Obj := { cls := .type "list", data := .seq vs.toArray }
abbrev emO : Obj := { cls := .none, data := .fields #[] }
/-- what is followed at the law's start: fr, whether the script's list is (it isn't where the written part holds it) -/
def endH (cs : List (Addr × Addr)) (a : Addr) (vs : List Value) (ns : List Int) (fr : Bool) : Hp := fun b => if b ∈ cs.map (·.2) then some (.tbl #[]) else if fr = true ∧ b = a then some (.frz (scO vs) (.lst (ns.map V.int))) else none
theorem endH_tab {fr : Bool} {p : Addr × Addr} (hp : p ∈ cs) : endH cs a vs ns fr p.2 = some (.tbl #[]) := if_pos (List.mem_map.mpr ⟨p, hp, rfl⟩)
theorem endH_cases {fr : Bool} {b : Addr} {o : HO} (h : endH cs a vs ns fr b = some o) : (b ∈ cs.map (·.2) ∧ o = .tbl #[]) ∨ (fr = true ∧ b = a ∧ o = .frz (scO vs) (.lst (ns.map V.int))) := by
  unfold endH at h
  by_cases h1 : b ∈ cs.map (·.2)
  · rw [if_pos h1] at h
    exact .inl ⟨h1, (Option.some.inj h).symm⟩
  · rw [if_neg h1] at h
    by_cases h2 : fr = true ∧ b = a
    · rw [if_pos h2] at h
      exact .inr ⟨h2.1, h2.2, (Option.some.inj h).symm⟩
    · rw [if_neg h2] at h
      cases h
theorem end_law {CX : CXT} {k : Nat} {fa : Addr} {fd : FuncData} {x : Str} {sp : Sp} (KX : K.In s.heap) (hns : s.heap.Ns mainGlobals mg) (hb : s.heap.Ns builtinsNs mb) (hbb : ∀ y : Str, y ≠ "__name__" → mb y = bootBuiltins y) (hlim : s.heap.NoLimit) (hg : s.gens = #[])
    (hT : ∀ p ∈ cs, s.heap.get? p.2 = some emO) (nT : ∀ p ∈ cs, K.lookup p.2 = none) (C : ∀ p ∈ cs, CodeHd s.heap p.1 p.2)
    (hbm : ∃ (bm : Addr) (ob : Obj), mg "__builtins__" = some (.ref bm) ∧ bm ≠ builtinsNs ∧ s.heap.get? bm = some ob ∧ ob.cls = .type "module" ∧ ob.dict = some builtinsNs ∧ ob.data = .plain)
    (ha : s.heap.get? a = some (scO vs)) (hi : IntsAre vs ns) (hl : ns.length ≤ sizeLine) (hr : Room k callerA)
    (G : ∀ base : Heap, K.In base → base.Ns mainGlobals mg → (∀ p ∈ cs, TabB base mg p.1 p.2) → FnG P w K mg base CX k fa fd [x] sp) (hbind : ∀ (s : Shared) (u : Value), BindsTo s fd ⟨[u], []⟩ [(x, u)])
    (hsp : ∀ H : Hp, (∀ p ∈ cs, H p.2 = some (.tbl #[])) → SqL K H a (ns.map V.int) → sp [.ref a] H (fun v _ => v = .bl true) fun _ _ _ => False) (hCX : ∀ H e s', CX [] H s (fun _ _ _ => False) e s' → False) :
    codeAny (model P w) callerA (.call (.ref fa) ⟨[.ref a], []⟩) (fun r s' => r = .ok (.ret (.bool true)) ∧ OldK s.heap s'.heap ∧ s'.os = s.os ∧ AllBare s'.gens) s := by
  have rv := vals_ints hi
  have lv := hi.length
  have tabAt : ∀ b, b ∈ cs.map (·.2) → s.heap.get? b = some emO := fun b hb => by
    obtain ⟨p, hp, rfl⟩ := List.mem_map.mp hb
    exact hT p hp
  have tabK : ∀ b, b ∈ cs.map (·.2) → K.lookup b = none := fun b hb => by
    obtain ⟨p, hp, rfl⟩ := List.mem_map.mp hb
    exact nT p hp
  have aN : a ∉ cs.map (·.2) := fun z => by
    have q := (tabAt a z).symm.trans ha
    cases congrArg (fun o : Option Obj => o.map (·.data)) q
  generalize hfr : (K.lookup a).isNone = fr
  have eA : fr = true → K.lookup a = none := fun z => by
    rw [z] at hfr
    exact Option.isNone_iff_eq_none.mp hfr
  have hS : SqL K (endH cs a vs ns fr) a (ns.map V.int) := by
    cases fr with
    | true => exact .inl (.inr ⟨scO vs, by unfold endH; rw [if_neg aN, if_pos ⟨rfl, rfl⟩]⟩)
    | false =>
      cases q : K.lookup a with
      | none => rw [q] at hfr; cases hfr
      | some o =>
        obtain rfl : scO vs = o := Option.some.inj (ha.symm.trans (KX a o q))
        exact .inr ⟨_, vs.toArray, _, q, rfl, rfl, rfl, by rw [List.size_toArray, lv]; exact hl, by simpa using rv⟩
  have hok : HOk P w (endH cs a vs ns fr) s.heap := fun b o e => by
    rcases endH_cases e with ⟨h1, rfl⟩ | ⟨h1, rfl, rfl⟩
    · exact tabAt b h1
    · exact ⟨ha, by rw [List.length_map]; exact hl, vs, _, rv, ha⟩
  -- what is not followed stands in the base
  have toB : ∀ {b : Addr} {o : Obj}, s.heap.get? b = some o → (∀ vs n, o.data ≠ .seq vs n) → o.data ≠ .fields #[] → (hidT s.heap (endH cs a vs ns fr)).get? b = some o := fun {b o} e h1 h2 => hidT_get e (by
    cases q : endH cs a vs ns fr b with
    | none => rfl
    | some u =>
      rcases endH_cases q with ⟨z, _⟩ | ⟨_, rfl, _⟩
      · exact absurd (congrArg Obj.data (Option.some.inj (e.symm.trans (tabAt b z)))) h2
      · exact absurd (congrArg Obj.data (Option.some.inj (e.symm.trans ha))) (h1 _ _))
  have nsB : ∀ {b : Addr} {m : Str → Option Value}, s.heap.Ns b m → (hidT s.heap (endH cs a vs ns fr)).Ns b m := fun {b m} ⟨o, es, ep, e, d, r⟩ => ⟨o, es, ep, toB e (fun _ _ z => by rw [d] at z; cases z) (fun z => by rw [d] at z; cases z), d, r⟩
  have kB : K.In (hidT s.heap (endH cs a vs ns fr)) := fun b o e => hidT_get (KX b o e) (by
    cases q : endH cs a vs ns fr b with
    | none => rfl
    | some u =>
      rcases endH_cases q with ⟨z, _⟩ | ⟨z, rfl, _⟩
      · rw [tabK b z] at e; cases e
      · rw [eA z] at e; cases e)
  have M : L2.Mod K mg (hidT s.heap (endH cs a vs ns fr)) := ⟨kB, nsB hns, ⟨mb, nsB hb, hbb⟩, let ⟨mc, h1, h2⟩ := hlim; ⟨mc, nsB h1, h2⟩⟩
  have TB : ∀ p ∈ cs, TabB (hidT s.heap (endH cs a vs ns fr)) mg p.1 p.2 := fun p hp => by
    have tp := hT p hp
    refine ⟨?_, ?_, fun z => ?_⟩
    · obtain ⟨o, us, file, tf, flags, tg, inF, text, tt, e1, e2, e3, e4, r⟩ := C p hp
      exact ⟨o, us, file, tf, flags, tg, inF, text, tt, toB e1 (fun _ _ z => by rw [e3] at z; cases z) (fun z => by rw [e3] at z; cases z; simp at e4), e2, e3, e4, r⟩
    · obtain ⟨bm, ob, b1, b2, b3, b4, b5, b6⟩ := hbm
      refine ⟨bm, ob, b1, b2, fun q => ?_, fun q => ?_, toB b3 (fun _ _ z => by rw [b6] at z; cases z) (fun z => by rw [b6] at z; cases z), b4, b5, b6⟩
      · obtain ⟨o, es, ep, e, hd, _⟩ := hns
        rw [q, e] at b3
        cases b3
        rw [hd] at b6
        cases b6
      · rw [q, tp] at b3
        cases b3
        cases b6
    · obtain ⟨o, es, ep, e, hd, _⟩ := hns
      rw [z, tp] at e
      cases e
      cases hd
  have E0 : Env0 P w K mg (hidT s.heap (endH cs a vs ns fr)) callerA [] s (endH cs a vs ns fr) := ⟨rfl, M, fun b o e => of_hidT e, Nat.le_of_eq (hidT_size _ _), trivial, fun b hb => (nomatch (show b ∈ ([] : List Addr) from hb)), hok, .of_eq hg⟩
  refine codeAny_mono ((G _ kB (nsB hns) TB).run callerA [] s _ ⟨[.ref a], []⟩ [.ref a] [.ref a] _ _ rfl hr E0 (hbind s (.ref a)) (.cons rfl .nil) (hsp _ (fun p hp => endH_tab hp) hS)) fun r s' h => ?_
  cases r with
  | error e => exact (hCX _ e s' h).elim
  | ok fl =>
    cases fl with
    | ret u =>
      obtain ⟨v, H', os, bare, un, hok', r', q⟩ := h
      obtain rfl : v = .bl true := q
      obtain rfl : u = Value.bool true := r'
      have keep : ∀ b o, b ∉ cs.map (·.2) → s.heap.get? b = some o → s'.heap.get? b = some o := fun b o nb e => by
        cases q : endH cs a vs ns fr b with
        | none => exact un.keep b o e q (fun z => nomatch (show b ∈ ([] : List Addr) from z)) (by simp)
        | some u =>
          rcases endH_cases q with ⟨z, _⟩ | ⟨_, _, rfl⟩
          · exact absurd z nb
          · have e1 := (hok b _ q).1
            rw [Option.some.inj (e.symm.trans e1)]
            exact (hok' b _ (un.frzs b _ _ q)).1
      have grow : ∀ b, b ∈ cs.map (·.2) → ∃ c, CodeHd s.heap c b ∧ ∃ more : Array Value, s'.heap.get? b = some { cls := .none, data := .fields more } := fun b hb => by
        obtain ⟨p, hp, rfl⟩ := List.mem_map.mp hb
        obtain ⟨more, z⟩ := un.tbls p.2 #[] (endH_tab hp)
        exact ⟨p.1, C p hp, _, hok' p.2 _ z⟩
      refine ⟨rfl, ⟨fun b o e => ?_, fun b o e => ?_⟩, os, bare⟩
      · by_cases hb : b ∈ cs.map (·.2)
        · obtain ⟨c, hc, more, hm⟩ := grow b hb
          obtain rfl : emO = o := Option.some.inj ((tabAt b hb).symm.trans e)
          exact .inr (.inl ⟨(hc.tab (tabAt b hb)).isCodeTable, rfl, #[], more, rfl, by rw [Array.empty_append]; exact hm⟩)
        · exact .inl (keep b o hb e)
      · by_cases hb : b ∈ cs.map (·.2)
        · obtain ⟨c, hc, more, hm⟩ := grow b hb
          exact ⟨_, hm⟩
        · exact ⟨o, keep b o hb e⟩
    | _ => exact h.elim
end
end Kz
namespace Kz
open PySem PySem.W PySem.Calls PyProof.Rows L2 LamX
open He (ga ma eqO eqO_ok ba)
theorem walk_G {l : OpenLaw} {n k : Nat} {q : Program} {loose : List Str} {XP : (Str → Option Value) → Heap → Prop} {YP : World → Heap → Prop} {d : DefRec} {CX : World → CXT} {x : Str} (hn : l.most = some n) (hn2 : n ≤ sizeLine) (hdf : d.params.defaults = []) (hr : Room k callerA)
    (F : ∀ (w : World) (mg : Str → Option Value) (fa : Addr) (h : Heap), YP w h → h.Ns mainGlobals mg → mg d.name = some (.ref fa) → ∃ (K : Frag) (fd : FuncData) (cs : List (Addr × Addr)) (sp : Sp), K.In h ∧ (∀ p ∈ cs, h.get? p.2 = some emO) ∧ (∀ p ∈ cs, K.lookup p.2 = none) ∧ (∀ p ∈ cs, CodeHd h p.1 p.2) ∧
      (∀ (s : Shared) (u : Value), BindsTo s fd ⟨[u], []⟩ [(x, u)]) ∧ (∀ (H : Hp) (a : Addr) (ns : List Int), ns.length ≤ n → (∀ p ∈ cs, H p.2 = some (.tbl #[])) → SqL K H a (ns.map V.int) → sp [.ref a] H (fun v _ => v = .bl true) fun _ _ _ => False) ∧
      ∀ base : Heap, K.In base → base.Ns mainGlobals mg → (∀ p ∈ cs, TabB base mg p.1 p.2) → FnG l.prog w K mg base (CX w) k fa fd [x] sp)
    (hCX : ∀ (w : World) (H : Hp) (s : Shared) (e : Value) (s' : Shared), CX w [] H s (fun _ _ _ => False) e s' → False) : WalkO q loose XP YP l.row.toRowW d [] (fun f vs => PySem.call f vs) := by
  refine Att.attach_callB hn hdf fun w s0 s1 mg mb fa o pm cd doc a vs ns G Y ho hd hcd hmg hobj hints hlen hbits hg => ?_
  obtain ⟨K, fd, cs, sp, KX, hT, nT, C, hb, hsp, hF⟩ := F w mg fa _ Y G.T.g hmg
  exact end_law KX G.T.g G.T.b G.T.builtins G.T.nolimit hg hT nT C G.T.bmain hobj hints (Nat.le_trans hlen hn2) hr hF hb (fun H hH hS => hsp H a ns hlen hH hS) fun H e s' => hCX w H s1 e s'

/-! ### what the looks say of a class -/
section
variable {K : Frag} {FE C : Addr} {fs : List Str}
theorem shape_ok (h : shapeB K FE C = true) : (∃ nm q N bs sn sub ab col dd k0 k1 k2 k3 k5, K.lookup C = some (excClassObj nm q C N bs (.ref FE :: veT) true sn sub ab col dd k0 k1 k2 k3 k5 "ValueError.__new__")) := by
  unfold shapeB at h
  split at h
  · rename_i t od cd sl q
    obtain ⟨h1, h2⟩ := ba h
    obtain ⟨h3, h4⟩ := ba h2
    obtain ⟨h5, h6⟩ := ba h4
    obtain ⟨h7, h8⟩ := ba h6
    split at h8
    · rename_i k0 k1 k2 k3 n k5 e
      obtain ⟨nm, bs, mro, N, qn, hd, sn, sub, ab, col, hdel⟩ := cd
      have e1 : t = "type" := of_decide_eq_true h1
      have e2 : mro = .ref C :: .ref FE :: veT := of_decide_eq_true h3
      have e3 : hd = true := h5
      have e4 : hdel = false := by simpa using h7
      have e5 : n = "ValueError.__new__" := of_decide_eq_true h8
      obtain ⟨sl⟩ := sl
      have e6 : sl = [k0, k1, k2, k3, some (.builtin n), k5] := e
      subst e1 e2 e3 e4 e5 e6
      exact ⟨nm, qn, N, bs, sn, sub, ab, col, od, k0, k1, k2, k3, k5, q⟩
    · cases h8
  · cases h
theorem xi_ok (h : xiB K C = true) (on : oncB K = true) : XiC K C := by
  obtain ⟨h1, h2⟩ := ba h
  obtain ⟨h3, h4⟩ := ba h2
  obtain ⟨h5, h6⟩ := ba h4
  obtain ⟨o1, o2⟩ := ba on
  obtain ⟨o3, o4⟩ := ba o2
  exact ⟨xfB_ok h1, h3, eqO_ok h5, of_decide_eq_true o3, of_decide_eq_true o4, of_decide_eq_true h6⟩
/-- all that clsB says -/
structure CB (K : Frag) (FE C : Addr) (fs : List Str) : Prop where
  sh : shapeB K FE C = true
  ib : initB K C = true
  xi : xiB K C = true
  sa : findIn K (.ref C) "__setattr__" = some (some (.builtin "object.__setattr__"))
  kp : keepIn K (.ref C) = true
  ini : findIn K (.ref C) "__init__" = some (some (.ref (ma K C "__init__")))
  sup : ks_superIn K C C "__init__" = some (some (.builtin "ValueError.__init__"))
  sv : subIn K (.ref C) (.type "ValueError") = some true
  slf : mroIn K C (.ref C) = some true
  kF : kitOne K (.ref C) (.ref FE) = some true
  kV : kitOne K (.ref C) (.type "ValueError") = some true
  kL : kitOne K (.ref C) (.type "LookupError") = some false
  no : ∀ f ∈ fs, findIn K (.ref C) f = some none
theorem cb_ok (h : clsB K FE C fs = true) : CB K FE C fs := by
  obtain ⟨a1, h⟩ := ba h
  obtain ⟨a2, h⟩ := ba h
  obtain ⟨a3, h⟩ := ba h
  obtain ⟨a4, h⟩ := ba h
  obtain ⟨a5, h⟩ := ba h
  obtain ⟨a6, h⟩ := ba h
  obtain ⟨a7, h⟩ := ba h
  obtain ⟨a8, h⟩ := ba h
  obtain ⟨a9, h⟩ := ba h
  obtain ⟨b1, h⟩ := ba h
  obtain ⟨b2, h⟩ := ba h
  obtain ⟨b3, h⟩ := ba h
  exact ⟨a1, a2, a3, eqO_ok a4, a5, eqO_ok a6, of_decide_eq_true a7, of_decide_eq_true a8, of_decide_eq_true a9, of_decide_eq_true b1, of_decide_eq_true b2, of_decide_eq_true b3, fun f hf => eqO_ok (List.all_eq_true.mp h f hf)⟩
theorem CB.oex (c : CB K FE C fs) : OexC K C := by
  obtain ⟨nm, q, N, bs, sn, sub, ab, col, dd, k0, k1, k2, k3, k5, e⟩ := shape_ok c.sh
  exact ⟨⟨nm, q, N, bs, _, sn, sub, ab, col, dd, k0, k1, k2, k3, k5, e, rfl⟩, c.sa, (xfB_ok (ba c.xi).1).exC, (show (K.lookup C).map (·.cls) = some (.type "type") by rw [e]; rfl), c.kp⟩
theorem CB.mro (c : CB K FE C fs) (v : Value) : subIn K (.ref C) v = some ((.ref C :: .ref FE :: veT : List Value).contains v) := by
  obtain ⟨nm, q, N, bs, sn, sub, ab, col, dd, k0, k1, k2, k3, k5, e⟩ := shape_ok c.sh
  show mroIn K C v = _
  unfold mroIn clsIn
  rw [e]
  rfl
theorem CB.is (c : CB K FE C fs) {d : Addr} {gs : List Str} (cd : CB K FE d gs) (nf : FE ≠ d) : kitOne K (.ref C) (.ref d) = some (decide (C = d)) := by
  unfold kitOne
  by_cases e : C = d
  · rw [e, if_pos (by simp), decide_eq_true rfl]
  · rw [if_neg (by simpa using e), decide_eq_false e]
    unfold kitCls
    obtain ⟨nm, q, N, bs, sn, sub, ab, col, dd, k0, k1, k2, k3, k5, ed⟩ := shape_ok cd.sh
    have e1 : ((clsIn K d).isSome && typeIn K (.ref d) == some (.type "type")) = true := by
      show ((clsIn K d).isSome && (K.lookup d).map (·.cls) == some (.type "type")) = true
      unfold clsIn
      rw [ed]
      rfl
    show (if ((clsIn K d).isSome && typeIn K (.ref d) == some (.type "type")) = true then subIn K (.ref C) (.ref d) else none) = _
    rw [if_pos e1, c.mro]
    have n1 : ((Value.ref d) == Value.ref C) = false := by simpa using fun z => e z.symm
    have n2 : ((Value.ref d) == Value.ref FE) = false := by simpa using fun z => nf z.symm
    show some ((Value.ref d == Value.ref C) || ((Value.ref d == Value.ref FE) || veT.contains (Value.ref d))) = _
    rw [n1, n2]
    rfl
end
end Kz
namespace Kz
open PySem PySem.W PySem.Calls PyProof.Rows L2 LamX
open He (ga ma eqO eqO_ok ba)
section
variable {K : Frag} {FE C : Addr} {fs : List Str} {st : Stmt}
/-- the facts of an own __init__, its text in hand -/
theorem xf_of (c : CB K FE C fs) (hI : fnI K C = valI st) {params : Arguments} {body : List Stmt} {scope : Scope} (hp : defArgs (initS st) = params) (hb : defBody (initS st) = body) (hs : defScope (initS st) = scope) (on : oncB K = true) (glo : nsIn K mainGlobals "super" = some none) :
    XF pgm K C (ma K C "__init__") (clsName st ++ ".__init__") params body scope := by
  have hi := c.ib
  unfold initB at hi
  unfold fnI valI at hI
  cases q : K.lookup (ma K C "__init__") with
  | none =>
    rw [q] at hi
    cases hi
  | some o =>
    obtain ⟨cl, od, dt, sl⟩ := o
    rw [q] at hi hI
    cases dt with
    | func fd =>
      obtain ⟨n1, n2, n3, n4, n5, n6, n7, n8, n9, n10, n11, n12, n13, n14, n15⟩ := fd
      have e2 : (some (n1, n2, n3, n4, n5, n6, n8, n15, n7.map (·.1)) : FnI) = (some ("__init__", clsName st ++ ".__init__", defArgs (initS st), FuncBody.stmts (defBody (initS st)), defScope (initS st), mainGlobals, Value.none, builtinsNs, ["__class__"]) : FnI) := hI
      simp only [FnI, Option.some.injEq, Prod.mk.injEq] at e2
      obtain ⟨g1, g2, g3, g4, g5, g6, g7, g8, g9⟩ := e2
      subst g1 g2 g3 g4 g5 g6 g7 g8
      obtain ⟨j1, j2⟩ := ba hi
      obtain ⟨j3, j4⟩ := ba j2
      obtain rfl : cl = .type "function" := of_decide_eq_true j1
      rw [hp, hb, hs] at q
      obtain ⟨o1, _⟩ := ba on
      cases n13 with
      | ref cda =>
        obtain ⟨j5, j6⟩ := ba (show (codeIn K (.ref cda) (clsName st ++ ".__init__") && _) = true from j3)
        cases qc : K.lookup cda with
        | none =>
          rw [qc] at j6
          cases j6
        | some oc =>
          obtain ⟨ccl, cdd, cdt, ccs⟩ := oc
          rw [qc] at j6
          cases cdt with
          | fields vs =>
            cases q2 : (vs[2]? : Option Value) with
            | none =>
              have j7 : (match (vs[2]? : Option Value) with | some (.str file _) => (pgm.main.file : Str) == file | _ => false) = true := j6
              rw [q2] at j7
              cases j7
            | some fv =>
              have j7 : (match (vs[2]? : Option Value) with | some (.str file _) => (pgm.main.file : Str) == file | _ => false) = true := j6
              rw [q2] at j7
              cases fv with
              | str file tf =>
                cases n7 with
                | nil => cases g9
                | cons p r =>
                  cases r with
                  | cons p2 r2 => simp at g9
                  | nil =>
                    obtain ⟨x, cc⟩ := p
                    obtain rfl : x = "__class__" := by simpa using g9
                    have j8 : (match K.lookup cc with | some ⟨_, _, .cell (some v), _⟩ => decide (v = .ref C) | _ => false) = true := j4
                    cases qd : K.lookup cc with
                    | none =>
                      rw [qd] at j8
                      cases j8
                    | some od2 =>
                      obtain ⟨dcl, ddd, ddt, dsl⟩ := od2
                      rw [qd] at j8
                      cases ddt with
                      | cell ov =>
                        cases ov with
                        | none => cases j8
                        | some v =>
                          obtain rfl : v = .ref C := of_decide_eq_true j8
                          exact ⟨c.oex, c.ini, (show (K.lookup (ma K C "__init__")).map (·.cls) = some (.type "function") by rw [q]; rfl), ⟨_, _, _, _, _, _, cda, _, _, cc, ccl, cdd, vs, ccs, file, tf, _, _, _, q, j5, qc, q2, j7, qd⟩, c.sup, c.sv, c.slf, of_decide_eq_true o1, glo, by decide +kernel, xfB_ok (ba c.xi).1⟩
                      | _ => cases j8
              | _ => cases j7
          | _ => cases j6
      | _ => cases j3
    | _ => cases hi
end
end Kz
namespace Kz
open PySem PySem.W PySem.Calls PyProof.Rows L2 LamX
open He (ga ma eqO eqO_ok ba)
/-- the text of an own error class with one field: what must be seen of it -/
structure T1 (st : Stmt) (f : Str) : Prop where
  ex : ∃ (params : Arguments) (scope : Scope) (msg : Str) (j : Nat) (p0 p1 p2 p3 p4 p5 q0 q1 q2 q3 : Pos), defArgs (initS st) = params ∧ defBody (initS st) = [sSuper msg j p0 p1 p2 p3 p4 p5, sPut f q0 q1 q2 q3] ∧ defScope (initS st) = scope ∧ (p2.endLine == p4.line) = true ∧ ScI params scope [f] ∧
    (∀ (qual : Str) (kV doc pm : Value) (an : Option Addr) (cdv ct : Value) (cc : Addr) (a u : Value), bindArgs (ksFn "__init__" qual params [sSuper msg j p0 p1 p2 p3 p4 p5, sPut f q0 q1 q2 q3] scope .none kV doc pm an cdv ct cc) ⟨[a, u], []⟩ = pure [(("self" : Str), a), (f, u)]) ∧
    (∀ (qual : Str) (kV doc pm : Value) (an : Option Addr) (cdv ct : Value) (cc : Addr) (a u : Value), bindArgs (ksFn "__init__" qual params [sSuper msg j p0 p1 p2 p3 p4 p5, sPut f q0 q1 q2 q3] scope .none kV doc pm an cdv ct cc) ⟨[a], [(f, u)]⟩ = pure [(("self" : Str), a), (f, u)])
  fs : (f == ("self" : Str)) = false
  fd : (f == ("__debug__" : Str)) = false
theorem x1_of {K : Frag} {FE C : Addr} {f : Str} {st : Stmt} (t : T1 st f) (c : CB K FE C [f]) (hI : fnI K C = valI st) (on : oncB K = true) (glo : nsIn K mainGlobals "super" = some none) : X1 pgm K C f := by
  obtain ⟨params, scope, msg, j, p0, p1, p2, p3, p4, p5, q0, q1, q2, q3, e1, e2, e3, e4, e5, e6, e7⟩ := t.ex
  exact ⟨⟨_, _, params, scope, msg, j, p0, p1, p2, p3, p4, p5, q0, q1, q2, q3, e4, xf_of c hI e1 e2 e3 on glo, e5, e6 _, e7 _⟩, t.fs, t.fd, c.no f (by simp), c.kp⟩
theorem t1_0 : T1 (topS 2) "index" := ⟨⟨_, _, _, _, _, _, _, _, _, _, _, _, _, _, rfl, rfl, rfl, rfl, ⟨⟨_, rfl, rfl⟩, rfl, rfl, rfl, by decide +kernel, by decide +kernel, rfl, rfl, rfl⟩, fun _ _ _ _ _ _ _ _ _ _ => rfl, fun _ _ _ _ _ _ _ _ _ _ => rfl⟩, by decide, by decide⟩
theorem t1_1 : T1 (topS 3) "thing" := ⟨⟨_, _, _, _, _, _, _, _, _, _, _, _, _, _, rfl, rfl, rfl, rfl, ⟨⟨_, rfl, rfl⟩, rfl, rfl, rfl, by decide +kernel, by decide +kernel, rfl, rfl, rfl⟩, fun _ _ _ _ _ _ _ _ _ _ => rfl, fun _ _ _ _ _ _ _ _ _ _ => rfl⟩, by decide, by decide⟩
theorem t1_2 : T1 (topS 4) "index" := ⟨⟨_, _, _, _, _, _, _, _, _, _, _, _, _, _, rfl, rfl, rfl, rfl, ⟨⟨_, rfl, rfl⟩, rfl, rfl, rfl, by decide +kernel, by decide +kernel, rfl, rfl, rfl⟩, fun _ _ _ _ _ _ _ _ _ _ => rfl, fun _ _ _ _ _ _ _ _ _ _ => rfl⟩, by decide, by decide⟩
theorem t1_3 : T1 (topS 5) "thing" := ⟨⟨_, _, _, _, _, _, _, _, _, _, _, _, _, _, rfl, rfl, rfl, rfl, ⟨⟨_, rfl, rfl⟩, rfl, rfl, rfl, by decide +kernel, by decide +kernel, rfl, rfl, rfl⟩, fun _ _ _ _ _ _ _ _ _ _ => rfl, fun _ _ _ _ _ _ _ _ _ _ => rfl⟩, by decide, by decide⟩
theorem t1_4 : T1 (topS 6) "index" := ⟨⟨_, _, _, _, _, _, _, _, _, _, _, _, _, _, rfl, rfl, rfl, rfl, ⟨⟨_, rfl, rfl⟩, rfl, rfl, rfl, by decide +kernel, by decide +kernel, rfl, rfl, rfl⟩, fun _ _ _ _ _ _ _ _ _ _ => rfl, fun _ _ _ _ _ _ _ _ _ _ => rfl⟩, by decide, by decide⟩
theorem t1_5 : T1 (topS 7) "deed" := ⟨⟨_, _, _, _, _, _, _, _, _, _, _, _, _, _, rfl, rfl, rfl, rfl, ⟨⟨_, rfl, rfl⟩, rfl, rfl, rfl, by decide +kernel, by decide +kernel, rfl, rfl, rfl⟩, fun _ _ _ _ _ _ _ _ _ _ => rfl, fun _ _ _ _ _ _ _ _ _ _ => rfl⟩, by decide, by decide⟩
theorem t1_6 : T1 (topS 8) "thing" := ⟨⟨_, _, _, _, _, _, _, _, _, _, _, _, _, _, rfl, rfl, rfl, rfl, ⟨⟨_, rfl, rfl⟩, rfl, rfl, rfl, by decide +kernel, by decide +kernel, rfl, rfl, rfl⟩, fun _ _ _ _ _ _ _ _ _ _ => rfl, fun _ _ _ _ _ _ _ _ _ _ => rfl⟩, by decide, by decide⟩
theorem t1_7 : T1 (topS 9) "thing" := ⟨⟨_, _, _, _, _, _, _, _, _, _, _, _, _, _, rfl, rfl, rfl, rfl, ⟨⟨_, rfl, rfl⟩, rfl, rfl, rfl, by decide +kernel, by decide +kernel, rfl, rfl, rfl⟩, fun _ _ _ _ _ _ _ _ _ _ => rfl, fun _ _ _ _ _ _ _ _ _ _ => rfl⟩, by decide, by decide⟩
theorem t1_8 : T1 (topS 10) "index" := ⟨⟨_, _, _, _, _, _, _, _, _, _, _, _, _, _, rfl, rfl, rfl, rfl, ⟨⟨_, rfl, rfl⟩, rfl, rfl, rfl, by decide +kernel, by decide +kernel, rfl, rfl, rfl⟩, fun _ _ _ _ _ _ _ _ _ _ => rfl, fun _ _ _ _ _ _ _ _ _ _ => rfl⟩, by decide, by decide⟩
theorem t1_9 : T1 (topS 11) "thing" := ⟨⟨_, _, _, _, _, _, _, _, _, _, _, _, _, _, rfl, rfl, rfl, rfl, ⟨⟨_, rfl, rfl⟩, rfl, rfl, rfl, by decide +kernel, by decide +kernel, rfl, rfl, rfl⟩, fun _ _ _ _ _ _ _ _ _ _ => rfl, fun _ _ _ _ _ _ _ _ _ _ => rfl⟩, by decide, by decide⟩
theorem t1_10 : T1 (topS 12) "thing" := ⟨⟨_, _, _, _, _, _, _, _, _, _, _, _, _, _, rfl, rfl, rfl, rfl, ⟨⟨_, rfl, rfl⟩, rfl, rfl, rfl, by decide +kernel, by decide +kernel, rfl, rfl, rfl⟩, fun _ _ _ _ _ _ _ _ _ _ => rfl, fun _ _ _ _ _ _ _ _ _ _ => rfl⟩, by decide, by decide⟩
theorem t1_11 : T1 (topS 13) "thing" := ⟨⟨_, _, _, _, _, _, _, _, _, _, _, _, _, _, rfl, rfl, rfl, rfl, ⟨⟨_, rfl, rfl⟩, rfl, rfl, rfl, by decide +kernel, by decide +kernel, rfl, rfl, rfl⟩, fun _ _ _ _ _ _ _ _ _ _ => rfl, fun _ _ _ _ _ _ _ _ _ _ => rfl⟩, by decide, by decide⟩
theorem t1_12 : T1 (topS 14) "index" := ⟨⟨_, _, _, _, _, _, _, _, _, _, _, _, _, _, rfl, rfl, rfl, rfl, ⟨⟨_, rfl, rfl⟩, rfl, rfl, rfl, by decide +kernel, by decide +kernel, rfl, rfl, rfl⟩, fun _ _ _ _ _ _ _ _ _ _ => rfl, fun _ _ _ _ _ _ _ _ _ _ => rfl⟩, by decide, by decide⟩
theorem t1_13 : T1 (topS 15) "index" := ⟨⟨_, _, _, _, _, _, _, _, _, _, _, _, _, _, rfl, rfl, rfl, rfl, ⟨⟨_, rfl, rfl⟩, rfl, rfl, rfl, by decide +kernel, by decide +kernel, rfl, rfl, rfl⟩, fun _ _ _ _ _ _ _ _ _ _ => rfl, fun _ _ _ _ _ _ _ _ _ _ => rfl⟩, by decide, by decide⟩
theorem t1_14 : T1 (topS 16) "thing" := ⟨⟨_, _, _, _, _, _, _, _, _, _, _, _, _, _, rfl, rfl, rfl, rfl, ⟨⟨_, rfl, rfl⟩, rfl, rfl, rfl, by decide +kernel, by decide +kernel, rfl, rfl, rfl⟩, fun _ _ _ _ _ _ _ _ _ _ => rfl, fun _ _ _ _ _ _ _ _ _ _ => rfl⟩, by decide, by decide⟩
theorem t1_15 : T1 (topS 17) "index" := ⟨⟨_, _, _, _, _, _, _, _, _, _, _, _, _, _, rfl, rfl, rfl, rfl, ⟨⟨_, rfl, rfl⟩, rfl, rfl, rfl, by decide +kernel, by decide +kernel, rfl, rfl, rfl⟩, fun _ _ _ _ _ _ _ _ _ _ => rfl, fun _ _ _ _ _ _ _ _ _ _ => rfl⟩, by decide, by decide⟩
theorem t1_16 : T1 (topS 18) "thing" := ⟨⟨_, _, _, _, _, _, _, _, _, _, _, _, _, _, rfl, rfl, rfl, rfl, ⟨⟨_, rfl, rfl⟩, rfl, rfl, rfl, by decide +kernel, by decide +kernel, rfl, rfl, rfl⟩, fun _ _ _ _ _ _ _ _ _ _ => rfl, fun _ _ _ _ _ _ _ _ _ _ => rfl⟩, by decide, by decide⟩
theorem t1_17 : T1 (topS 19) "thing" := ⟨⟨_, _, _, _, _, _, _, _, _, _, _, _, _, _, rfl, rfl, rfl, rfl, ⟨⟨_, rfl, rfl⟩, rfl, rfl, rfl, by decide +kernel, by decide +kernel, rfl, rfl, rfl⟩, fun _ _ _ _ _ _ _ _ _ _ => rfl, fun _ _ _ _ _ _ _ _ _ _ => rfl⟩, by decide, by decide⟩
theorem t1_18 : T1 (topS 20) "thing" := ⟨⟨_, _, _, _, _, _, _, _, _, _, _, _, _, _, rfl, rfl, rfl, rfl, ⟨⟨_, rfl, rfl⟩, rfl, rfl, rfl, by decide +kernel, by decide +kernel, rfl, rfl, rfl⟩, fun _ _ _ _ _ _ _ _ _ _ => rfl, fun _ _ _ _ _ _ _ _ _ _ => rfl⟩, by decide, by decide⟩
theorem t1_19 : T1 (topS 21) "names" := ⟨⟨_, _, _, _, _, _, _, _, _, _, _, _, _, _, rfl, rfl, rfl, rfl, ⟨⟨_, rfl, rfl⟩, rfl, rfl, rfl, by decide +kernel, by decide +kernel, rfl, rfl, rfl⟩, fun _ _ _ _ _ _ _ _ _ _ => rfl, fun _ _ _ _ _ _ _ _ _ _ => rfl⟩, by decide, by decide⟩
theorem t1_20 : T1 (topS 22) "thing" := ⟨⟨_, _, _, _, _, _, _, _, _, _, _, _, _, _, rfl, rfl, rfl, rfl, ⟨⟨_, rfl, rfl⟩, rfl, rfl, rfl, by decide +kernel, by decide +kernel, rfl, rfl, rfl⟩, fun _ _ _ _ _ _ _ _ _ _ => rfl, fun _ _ _ _ _ _ _ _ _ _ => rfl⟩, by decide, by decide⟩
theorem t1_21 : T1 (topS 23) "thing" := ⟨⟨_, _, _, _, _, _, _, _, _, _, _, _, _, _, rfl, rfl, rfl, rfl, ⟨⟨_, rfl, rfl⟩, rfl, rfl, rfl, by decide +kernel, by decide +kernel, rfl, rfl, rfl⟩, fun _ _ _ _ _ _ _ _ _ _ => rfl, fun _ _ _ _ _ _ _ _ _ _ => rfl⟩, by decide, by decide⟩
theorem t1_22 : T1 (topS 24) "thing" := ⟨⟨_, _, _, _, _, _, _, _, _, _, _, _, _, _, rfl, rfl, rfl, rfl, ⟨⟨_, rfl, rfl⟩, rfl, rfl, rfl, by decide +kernel, by decide +kernel, rfl, rfl, rfl⟩, fun _ _ _ _ _ _ _ _ _ _ => rfl, fun _ _ _ _ _ _ _ _ _ _ => rfl⟩, by decide, by decide⟩
theorem t1_23 : T1 (topS 25) "index" := ⟨⟨_, _, _, _, _, _, _, _, _, _, _, _, _, _, rfl, rfl, rfl, rfl, ⟨⟨_, rfl, rfl⟩, rfl, rfl, rfl, by decide +kernel, by decide +kernel, rfl, rfl, rfl⟩, fun _ _ _ _ _ _ _ _ _ _ => rfl, fun _ _ _ _ _ _ _ _ _ _ => rfl⟩, by decide, by decide⟩
theorem t1_24 : T1 (topS 26) "thing" := ⟨⟨_, _, _, _, _, _, _, _, _, _, _, _, _, _, rfl, rfl, rfl, rfl, ⟨⟨_, rfl, rfl⟩, rfl, rfl, rfl, by decide +kernel, by decide +kernel, rfl, rfl, rfl⟩, fun _ _ _ _ _ _ _ _ _ _ => rfl, fun _ _ _ _ _ _ _ _ _ _ => rfl⟩, by decide, by decide⟩
theorem t1_25 : T1 (topS 27) "thing" := ⟨⟨_, _, _, _, _, _, _, _, _, _, _, _, _, _, rfl, rfl, rfl, rfl, ⟨⟨_, rfl, rfl⟩, rfl, rfl, rfl, by decide +kernel, by decide +kernel, rfl, rfl, rfl⟩, fun _ _ _ _ _ _ _ _ _ _ => rfl, fun _ _ _ _ _ _ _ _ _ _ => rfl⟩, by decide, by decide⟩
theorem t1_26 : T1 (topS 28) "thing" := ⟨⟨_, _, _, _, _, _, _, _, _, _, _, _, _, _, rfl, rfl, rfl, rfl, ⟨⟨_, rfl, rfl⟩, rfl, rfl, rfl, by decide +kernel, by decide +kernel, rfl, rfl, rfl⟩, fun _ _ _ _ _ _ _ _ _ _ => rfl, fun _ _ _ _ _ _ _ _ _ _ => rfl⟩, by decide, by decide⟩
theorem t1_27 : T1 (topS 29) "index" := ⟨⟨_, _, _, _, _, _, _, _, _, _, _, _, _, _, rfl, rfl, rfl, rfl, ⟨⟨_, rfl, rfl⟩, rfl, rfl, rfl, by decide +kernel, by decide +kernel, rfl, rfl, rfl⟩, fun _ _ _ _ _ _ _ _ _ _ => rfl, fun _ _ _ _ _ _ _ _ _ _ => rfl⟩, by decide, by decide⟩
theorem t1_28 : T1 (topS 30) "thing" := ⟨⟨_, _, _, _, _, _, _, _, _, _, _, _, _, _, rfl, rfl, rfl, rfl, ⟨⟨_, rfl, rfl⟩, rfl, rfl, rfl, by decide +kernel, by decide +kernel, rfl, rfl, rfl⟩, fun _ _ _ _ _ _ _ _ _ _ => rfl, fun _ _ _ _ _ _ _ _ _ _ => rfl⟩, by decide, by decide⟩
theorem t1_29 : T1 (topS 31) "index" := ⟨⟨_, _, _, _, _, _, _, _, _, _, _, _, _, _, rfl, rfl, rfl, rfl, ⟨⟨_, rfl, rfl⟩, rfl, rfl, rfl, by decide +kernel, by decide +kernel, rfl, rfl, rfl⟩, fun _ _ _ _ _ _ _ _ _ _ => rfl, fun _ _ _ _ _ _ _ _ _ _ => rfl⟩, by decide, by decide⟩
theorem t1_30 : T1 (topS 32) "index" := ⟨⟨_, _, _, _, _, _, _, _, _, _, _, _, _, _, rfl, rfl, rfl, rfl, ⟨⟨_, rfl, rfl⟩, rfl, rfl, rfl, by decide +kernel, by decide +kernel, rfl, rfl, rfl⟩, fun _ _ _ _ _ _ _ _ _ _ => rfl, fun _ _ _ _ _ _ _ _ _ _ => rfl⟩, by decide, by decide⟩
theorem t1_31 : T1 (topS 33) "step" := ⟨⟨_, _, _, _, _, _, _, _, _, _, _, _, _, _, rfl, rfl, rfl, rfl, ⟨⟨_, rfl, rfl⟩, rfl, rfl, rfl, by decide +kernel, by decide +kernel, rfl, rfl, rfl⟩, fun _ _ _ _ _ _ _ _ _ _ => rfl, fun _ _ _ _ _ _ _ _ _ _ => rfl⟩, by decide, by decide⟩
theorem t1_32 : T1 (topS 34) "thing" := ⟨⟨_, _, _, _, _, _, _, _, _, _, _, _, _, _, rfl, rfl, rfl, rfl, ⟨⟨_, rfl, rfl⟩, rfl, rfl, rfl, by decide +kernel, by decide +kernel, rfl, rfl, rfl⟩, fun _ _ _ _ _ _ _ _ _ _ => rfl, fun _ _ _ _ _ _ _ _ _ _ => rfl⟩, by decide, by decide⟩
theorem t1_33 : T1 (topS 35) "index" := ⟨⟨_, _, _, _, _, _, _, _, _, _, _, _, _, _, rfl, rfl, rfl, rfl, ⟨⟨_, rfl, rfl⟩, rfl, rfl, rfl, by decide +kernel, by decide +kernel, rfl, rfl, rfl⟩, fun _ _ _ _ _ _ _ _ _ _ => rfl, fun _ _ _ _ _ _ _ _ _ _ => rfl⟩, by decide, by decide⟩
theorem t1_34 : T1 (topS 36) "index" := ⟨⟨_, _, _, _, _, _, _, _, _, _, _, _, _, _, rfl, rfl, rfl, rfl, ⟨⟨_, rfl, rfl⟩, rfl, rfl, rfl, by decide +kernel, by decide +kernel, rfl, rfl, rfl⟩, fun _ _ _ _ _ _ _ _ _ _ => rfl, fun _ _ _ _ _ _ _ _ _ _ => rfl⟩, by decide, by decide⟩
theorem t1_35 : T1 (topS 37) "index" := ⟨⟨_, _, _, _, _, _, _, _, _, _, _, _, _, _, rfl, rfl, rfl, rfl, ⟨⟨_, rfl, rfl⟩, rfl, rfl, rfl, by decide +kernel, by decide +kernel, rfl, rfl, rfl⟩, fun _ _ _ _ _ _ _ _ _ _ => rfl, fun _ _ _ _ _ _ _ _ _ _ => rfl⟩, by decide, by decide⟩
theorem t1_36 : T1 (topS 38) "thing" := ⟨⟨_, _, _, _, _, _, _, _, _, _, _, _, _, _, rfl, rfl, rfl, rfl, ⟨⟨_, rfl, rfl⟩, rfl, rfl, rfl, by decide +kernel, by decide +kernel, rfl, rfl, rfl⟩, fun _ _ _ _ _ _ _ _ _ _ => rfl, fun _ _ _ _ _ _ _ _ _ _ => rfl⟩, by decide, by decide⟩
theorem t1_37 : T1 (topS 39) "name" := ⟨⟨_, _, _, _, _, _, _, _, _, _, _, _, _, _, rfl, rfl, rfl, rfl, ⟨⟨_, rfl, rfl⟩, rfl, rfl, rfl, by decide +kernel, by decide +kernel, rfl, rfl, rfl⟩, fun _ _ _ _ _ _ _ _ _ _ => rfl, fun _ _ _ _ _ _ _ _ _ _ => rfl⟩, by decide, by decide⟩
theorem t1_38 : T1 (topS 40) "question" := ⟨⟨_, _, _, _, _, _, _, _, _, _, _, _, _, _, rfl, rfl, rfl, rfl, ⟨⟨_, rfl, rfl⟩, rfl, rfl, rfl, by decide +kernel, by decide +kernel, rfl, rfl, rfl⟩, fun _ _ _ _ _ _ _ _ _ _ => rfl, fun _ _ _ _ _ _ _ _ _ _ => rfl⟩, by decide, by decide⟩
theorem t1_39 : T1 (topS 41) "question" := ⟨⟨_, _, _, _, _, _, _, _, _, _, _, _, _, _, rfl, rfl, rfl, rfl, ⟨⟨_, rfl, rfl⟩, rfl, rfl, rfl, by decide +kernel, by decide +kernel, rfl, rfl, rfl⟩, fun _ _ _ _ _ _ _ _ _ _ => rfl, fun _ _ _ _ _ _ _ _ _ _ => rfl⟩, by decide, by decide⟩
theorem t1_40 : T1 (topS 42) "end" := ⟨⟨_, _, _, _, _, _, _, _, _, _, _, _, _, _, rfl, rfl, rfl, rfl, ⟨⟨_, rfl, rfl⟩, rfl, rfl, rfl, by decide +kernel, by decide +kernel, rfl, rfl, rfl⟩, fun _ _ _ _ _ _ _ _ _ _ => rfl, fun _ _ _ _ _ _ _ _ _ _ => rfl⟩, by decide, by decide⟩
theorem t1_41 : T1 (topS 43) "thing" := ⟨⟨_, _, _, _, _, _, _, _, _, _, _, _, _, _, rfl, rfl, rfl, rfl, ⟨⟨_, rfl, rfl⟩, rfl, rfl, rfl, by decide +kernel, by decide +kernel, rfl, rfl, rfl⟩, fun _ _ _ _ _ _ _ _ _ _ => rfl, fun _ _ _ _ _ _ _ _ _ _ => rfl⟩, by decide, by decide⟩
theorem t1_42 : T1 (topS 44) "why" := ⟨⟨_, _, _, _, _, _, _, _, _, _, _, _, _, _, rfl, rfl, rfl, rfl, ⟨⟨_, rfl, rfl⟩, rfl, rfl, rfl, by decide +kernel, by decide +kernel, rfl, rfl, rfl⟩, fun _ _ _ _ _ _ _ _ _ _ => rfl, fun _ _ _ _ _ _ _ _ _ _ => rfl⟩, by decide, by decide⟩
theorem t1_43 : T1 (topS 45) "index" := ⟨⟨_, _, _, _, _, _, _, _, _, _, _, _, _, _, rfl, rfl, rfl, rfl, ⟨⟨_, rfl, rfl⟩, rfl, rfl, rfl, by decide +kernel, by decide +kernel, rfl, rfl, rfl⟩, fun _ _ _ _ _ _ _ _ _ _ => rfl, fun _ _ _ _ _ _ _ _ _ _ => rfl⟩, by decide, by decide⟩
theorem t1_44 : T1 (topS 46) "pair" := ⟨⟨_, _, _, _, _, _, _, _, _, _, _, _, _, _, rfl, rfl, rfl, rfl, ⟨⟨_, rfl, rfl⟩, rfl, rfl, rfl, by decide +kernel, by decide +kernel, rfl, rfl, rfl⟩, fun _ _ _ _ _ _ _ _ _ _ => rfl, fun _ _ _ _ _ _ _ _ _ _ => rfl⟩, by decide, by decide⟩
theorem t1_45 : T1 (topS 47) "question" := ⟨⟨_, _, _, _, _, _, _, _, _, _, _, _, _, _, rfl, rfl, rfl, rfl, ⟨⟨_, rfl, rfl⟩, rfl, rfl, rfl, by decide +kernel, by decide +kernel, rfl, rfl, rfl⟩, fun _ _ _ _ _ _ _ _ _ _ => rfl, fun _ _ _ _ _ _ _ _ _ _ => rfl⟩, by decide, by decide⟩
theorem t1_46 : T1 (topS 48) "index" := ⟨⟨_, _, _, _, _, _, _, _, _, _, _, _, _, _, rfl, rfl, rfl, rfl, ⟨⟨_, rfl, rfl⟩, rfl, rfl, rfl, by decide +kernel, by decide +kernel, rfl, rfl, rfl⟩, fun _ _ _ _ _ _ _ _ _ _ => rfl, fun _ _ _ _ _ _ _ _ _ _ => rfl⟩, by decide, by decide⟩
structure T2 (st : Stmt) (f g : Str) : Prop where
  ex : ∃ (params : Arguments) (scope : Scope) (msg : Str) (j : Nat) (p0 p1 p2 p3 p4 p5 q0 q1 q2 q3 r0 r1 r2 r3 : Pos), defArgs (initS st) = params ∧ defBody (initS st) = [sSuper msg j p0 p1 p2 p3 p4 p5, sPut f q0 q1 q2 q3, sPut g r0 r1 r2 r3] ∧ defScope (initS st) = scope ∧ (p2.endLine == p4.line) = true ∧ ScI params scope [f, g] ∧
    (∀ (qual : Str) (kV doc pm : Value) (an : Option Addr) (cdv ct : Value) (cc : Addr) (a u v : Value), bindArgs (ksFn "__init__" qual params [sSuper msg j p0 p1 p2 p3 p4 p5, sPut f q0 q1 q2 q3, sPut g r0 r1 r2 r3] scope .none kV doc pm an cdv ct cc) ⟨[a, u, v], []⟩ = pure [(("self" : Str), a), (f, u), (g, v)]) ∧
    (∀ (qual : Str) (kV doc pm : Value) (an : Option Addr) (cdv ct : Value) (cc : Addr) (a u v : Value), bindArgs (ksFn "__init__" qual params [sSuper msg j p0 p1 p2 p3 p4 p5, sPut f q0 q1 q2 q3, sPut g r0 r1 r2 r3] scope .none kV doc pm an cdv ct cc) ⟨[a], [(g, v), (f, u)]⟩ = pure [(("self" : Str), a), (f, u), (g, v)])
theorem t2_0 : T2 (topS 49) "question" "why" := ⟨⟨_, _, _, _, _, _, _, _, _, _, _, _, _, _, _, _, _, _, rfl, rfl, rfl, rfl, ⟨⟨_, rfl, rfl⟩, rfl, rfl, rfl, by decide +kernel, by decide +kernel, rfl, rfl, rfl⟩, fun _ _ _ _ _ _ _ _ _ _ _ => rfl, fun _ _ _ _ _ _ _ _ _ _ _ => rfl⟩⟩
theorem x2_of {K : Frag} {FE C : Addr} (c : CB K FE C ["question", "why"]) (hI : fnI K C = valI (topS 49)) (on : oncB K = true) (glo : nsIn K mainGlobals "super" = some none) : X2 pgm K C "question" "why" := by
  obtain ⟨params, scope, msg, j, p0, p1, p2, p3, p4, p5, q0, q1, q2, q3, r0, r1, r2, r3, e1, e2, e3, e4, e5, e6, e7⟩ := t2_0.ex
  exact ⟨⟨_, _, params, scope, msg, j, p0, p1, p2, p3, p4, p5, q0, q1, q2, q3, r0, r1, r2, r3, e4, xf_of c hI e1 e2 e3 on glo, e5, e6 _, e7 _⟩, by decide, by decide, by decide, by decide, by decide, c.no "question" (by simp), c.no "why" (by simp), c.kp⟩
theorem t1_all : ∀ (i : Nat) (p : Str × Str), ones[i]? = some p → T1 (topS (i + 2)) p.2 := fun i p h => by
  have hi : i < 47 := by
    have := List.getElem?_eq_some_iff.mp h
    exact this.1
  match i, hi, h with
  | 0, _, h => cases h; exact t1_0
  | 1, _, h => cases h; exact t1_1
  | 2, _, h => cases h; exact t1_2
  | 3, _, h => cases h; exact t1_3
  | 4, _, h => cases h; exact t1_4
  | 5, _, h => cases h; exact t1_5
  | 6, _, h => cases h; exact t1_6
  | 7, _, h => cases h; exact t1_7
  | 8, _, h => cases h; exact t1_8
  | 9, _, h => cases h; exact t1_9
  | 10, _, h => cases h; exact t1_10
  | 11, _, h => cases h; exact t1_11
  | 12, _, h => cases h; exact t1_12
  | 13, _, h => cases h; exact t1_13
  | 14, _, h => cases h; exact t1_14
  | 15, _, h => cases h; exact t1_15
  | 16, _, h => cases h; exact t1_16
  | 17, _, h => cases h; exact t1_17
  | 18, _, h => cases h; exact t1_18
  | 19, _, h => cases h; exact t1_19
  | 20, _, h => cases h; exact t1_20
  | 21, _, h => cases h; exact t1_21
  | 22, _, h => cases h; exact t1_22
  | 23, _, h => cases h; exact t1_23
  | 24, _, h => cases h; exact t1_24
  | 25, _, h => cases h; exact t1_25
  | 26, _, h => cases h; exact t1_26
  | 27, _, h => cases h; exact t1_27
  | 28, _, h => cases h; exact t1_28
  | 29, _, h => cases h; exact t1_29
  | 30, _, h => cases h; exact t1_30
  | 31, _, h => cases h; exact t1_31
  | 32, _, h => cases h; exact t1_32
  | 33, _, h => cases h; exact t1_33
  | 34, _, h => cases h; exact t1_34
  | 35, _, h => cases h; exact t1_35
  | 36, _, h => cases h; exact t1_36
  | 37, _, h => cases h; exact t1_37
  | 38, _, h => cases h; exact t1_38
  | 39, _, h => cases h; exact t1_39
  | 40, _, h => cases h; exact t1_40
  | 41, _, h => cases h; exact t1_41
  | 42, _, h => cases h; exact t1_42
  | 43, _, h => cases h; exact t1_43
  | 44, _, h => cases h; exact t1_44
  | 45, _, h => cases h; exact t1_45
  | 46, _, h => cases h; exact t1_46
end Kz
namespace Kz
open PySem PySem.W PySem.Calls PyProof.Rows L2 LamX
open He (ga ma eqO eqO_ok ba cT codeOf tabOf)
/-- what the head says, together -/
structure Sy (K : Frag) : Prop where
  d : He.SaysD fas fns K
  i : (clsNames.map fun x => fnI K (ga K x)) = stsI.map valI
  on : oncB K = true
  fe : feB K (FEa K) = true
  nd : (FEa K :: dsAll K).Nodup
  one : ∀ p ∈ ones, clsB K (FEa K) (ga K p.1) [p.2] = true
  two : clsB K (FEa K) (ga K "WouldChange") ["question", "why"] = true
  tb : (tfs.map fun p => (cT K p).2).Nodup
theorem sy_of {K : Frag} (h1 : He.obsD fas fns K = He.valD fns) (h2 : (clsNames.map fun x => fnI K (ga K x)) = stsI.map valI) (h3 : exZ2 K = true) : Sy K := by
  obtain ⟨a1, a2⟩ := ba h3
  obtain ⟨b1, b2⟩ := ba a1
  obtain ⟨c1, c2⟩ := ba b2
  obtain ⟨d1, d2⟩ := ba c2
  obtain ⟨e1, e2⟩ := ba d2
  exact ⟨h1, h2, b1, c1, of_decide_eq_true d1, fun p hp => List.all_eq_true.mp e1 p hp, e2, of_decide_eq_true a2⟩
section
variable {K : Frag}
theorem Sy.fa (S : Sy K) {f : He.Fa} (h : f ∈ fas) : f.ok K = true := He.SaysD.facts S.d h
theorem glo_mem {x : Str} (h : x ∈ allNames) : He.Fa.glo x ∈ fas := List.mem_append_left _ (List.mem_map.mpr ⟨x, h, rfl⟩)
theorem cls_mem {x : Str} (h : x ∈ clsNames) : x ∈ allNames := List.mem_cons_of_mem _ (List.mem_append_left _ h)
theorem def_mem {x : Str} (h : x ∈ defNames) : x ∈ allNames := List.mem_cons_of_mem _ (List.mem_append_right _ h)
theorem Sy.free (S : Sy K) (i : Nat) {x : Str} (h : fas[i]? = some (.free x) := by rfl) : (He.Fa.free x).ok K = true := S.fa (List.mem_of_getElem? h)
theorem Sy.at (S : Sy K) (i : Nat) {p : Str × Str} (h : ones[i]? = some p) : fnI K (ga K p.1) = valI (topS (i + 2)) := by
  have hi : i < 47 := (List.getElem?_eq_some_iff.mp h).1
  have e1 : clsNames[i]? = some p.1 := by
    unfold clsNames
    rw [List.getElem?_append_left (by rw [List.length_map]; exact hi), List.getElem?_map, h]
    rfl
  have e2 : stsI[i]? = some (topS (i + 2)) := by
    unfold stsI
    rw [List.getElem?_map, List.getElem?_range (by omega)]
    rfl
  have e := congrArg (fun l : List FnI => l[i]?) S.i
  have e3 : (clsNames.map fun x => fnI K (ga K x))[i]? = (stsI.map valI)[i]? := e
  rw [List.getElem?_map, List.getElem?_map, e1, e2] at e3
  exact Option.some.inj e3
theorem Sy.at2 (S : Sy K) : fnI K (ga K "WouldChange") = valI (topS 49) := by
  have e1 : clsNames[47]? = some (("WouldChange" : Str)) := rfl
  have e2 : stsI[47]? = some (topS 49) := rfl
  have e3 : (clsNames.map fun x => fnI K (ga K x))[47]? = (stsI.map valI)[47]? := congrArg (fun l : List FnI => l[47]?) S.i
  rw [List.getElem?_map, List.getElem?_map, e1, e2] at e3
  exact Option.some.inj e3
theorem ds_eq (K : Frag) : dsAll K = clsNames.map (ga K) := rfl
theorem Sy.cb (S : Sy K) {x : Str} (h : x ∈ clsNames) : ∃ fs, CB K (FEa K) (ga K x) fs := by
  rcases List.mem_append.mp h with h | h
  · obtain ⟨p, hp, rfl⟩ := List.mem_map.mp h
    exact ⟨_, cb_ok (S.one p hp)⟩
  · obtain rfl := List.mem_singleton.mp h
    exact ⟨_, cb_ok S.two⟩
theorem Sy.fn (S : Sy K) : ∀ d ∈ dsAll K, FEa K ≠ d := fun d hd z => by
  have h := (List.nodup_cons.mp S.nd).1
  rw [z] at h
  exact h hd
theorem Sy.kit (S : Sy K) {C : Addr} (h : C ∈ dsAll K) : Kit K C := by
  rw [ds_eq] at h
  obtain ⟨x, hx, rfl⟩ := List.mem_map.mp h
  obtain ⟨fs, c⟩ := S.cb hx
  refine ⟨xi_ok c.xi S.on, c.kF, c.kV, c.kL, fun d hd => ?_⟩
  have nf := S.fn d hd
  rw [ds_eq] at hd
  obtain ⟨y, hy, rfl⟩ := List.mem_map.mp hd
  obtain ⟨gs, c2⟩ := S.cb hy
  exact c.is c2 nf
theorem Sy.feD (S : Sy K) : ∀ d ∈ dsAll K, kitOne K (.ref (FEa K)) (.ref d) = some false := fun d hd => by
  have nf := S.fn d hd
  rw [ds_eq] at hd
  obtain ⟨y, hy, rfl⟩ := List.mem_map.mp hd
  obtain ⟨gs, c2⟩ := S.cb hy
  obtain ⟨nm, q, N, bs, sn, sub, ab, col, dd, k0, k1, k2, k3, k5, ed⟩ := shape_ok c2.sh
  obtain ⟨_, f1⟩ := ba S.fe
  obtain ⟨_, f2⟩ := ba f1
  obtain ⟨_, f3⟩ := ba f2
  obtain ⟨_, f4⟩ := ba f3
  unfold kitOne
  rw [if_neg (by simpa using nf)]
  unfold kitCls
  have e1 : ((clsIn K (ga K y)).isSome && typeIn K (.ref (ga K y)) == some (.type "type")) = true := by
    show ((clsIn K (ga K y)).isSome && (K.lookup (ga K y)).map (·.cls) == some (.type "type")) = true
    unfold clsIn
    rw [ed]
    rfl
  show (if ((clsIn K (ga K y)).isSome && typeIn K (.ref (ga K y)) == some (.type "type")) = true then subIn K (.ref (FEa K)) (.ref (ga K y)) else none) = _
  rw [if_pos e1]
  show mroIn K (FEa K) (.ref (ga K y)) = _
  unfold mroIn clsIn
  split at f4
  · rename_i cd _ q
    rw [q]
    have em : cd.mro = .ref (FEa K) :: veT := of_decide_eq_true f4
    have n1 : ((Value.ref (ga K y)) == Value.ref (FEa K)) = false := by simpa using fun z => nf z.symm
    show (if cd.mro.isEmpty then none else some (cd.mro.contains (.ref (ga K y)))) = _
    rw [em]
    show some ((Value.ref (ga K y) == Value.ref (FEa K)) || veT.contains (Value.ref (ga K y))) = _
    rw [n1]
    rfl
  · cases f4
end
section
variable {K : Frag} {mg : Str → Option Value} {h : Heap}
theorem Sy.mgC (S : Sy K) (X : K.In h) (G : h.Ns mainGlobals mg) {x : Str} (hx : x ∈ allNames) : mg x = some (.ref (ga K x)) := He.glo_ok X G (S.fa (glo_mem hx))
theorem Sy.ef (S : Sy K) (X : K.In h) (G : h.Ns mainGlobals mg) : EF pgm K mg := by
  have glo : nsIn K mainGlobals "super" = some none := eqO_ok (S.free 62 (x := "super"))
  refine ⟨fun p hp => ?_, ?_⟩
  · obtain ⟨i, hi, e⟩ := List.mem_iff_getElem.mp hp
    have e' : ones[i]? = some p := by rw [List.getElem?_eq_getElem hi, e]
    exact ⟨S.mgC X G (cls_mem (List.mem_append_left _ (List.mem_map.mpr ⟨p, hp, rfl⟩))), x1_of (t1_all i p e') (cb_ok (S.one p hp)) (S.at i e') S.on glo⟩
  · exact ⟨S.mgC X G (cls_mem (List.mem_append_right _ (List.mem_singleton.mpr rfl))), x2_of (cb_ok S.two) S.at2 S.on glo⟩
end
end Kz
namespace Kz
open PySem PySem.W PySem.Calls PyProof.Rows L2 LamX
open He (ga ma eqO eqO_ok ba cT codeOf tabOf)
theorem fun_code {K : Frag} {x : Str} {params : Arguments} {body : List Stmt} {scope : Scope} {f : Addr} {fd : FuncData} (F : FunD K x x params body scope [] [] f fd) : ∃ (oc : Value) (od : Option Addr) (kV doc pm : Value) (an : Option Addr) (c : Addr) (ct : Value) (osl : Array (Option Value)),
    fd = fnOf x x params body scope .none kV doc pm an (.ref c) ct ∧ K.lookup f = some ⟨oc, od, .func (fnOf x x params body scope .none kV doc pm an (.ref c) ct), osl⟩ ∧ codeIn K (.ref c) x = true := by
  obtain ⟨oc, od, dV, kV, doc, pm, an, cdv, ct, osl, rfl, lk, hcd, hD, _⟩ := F.ex
  obtain ⟨c, rfl⟩ := He.codeIn_ref hcd
  rcases hD with ⟨_, rfl⟩ | ⟨e, _⟩
  · exact ⟨oc, od, kV, doc, pm, an, c, ct, osl, rfl, lk, hcd⟩
  · exact absurd rfl e
def tbA (K : Frag) : Addr := (cT K ("_law_made_a", none)).2
def tbB' (K : Frag) : Addr := (cT K ("_law_made_b", none)).2
def tbC (K : Frag) : Addr := (cT K ("_law_made_c", none)).2
def TT (K : Frag) : List (Addr × Str) := [(tbA K, (("_law_made_a" : Str) ++ ".<locals>.") ++ "<lambda>"), (tbB' K, (("_law_made_b" : Str) ++ ".<locals>.") ++ "<lambda>"), (tbC K, (("_law_made_c" : Str) ++ ".<locals>.") ++ "<lambda>")]
theorem tt_nd {K : Frag} (S : Sy K) : tbA K ≠ tbB' K ∧ tbA K ≠ tbC K ∧ tbB' K ≠ tbC K := by
  have h : ([tbA K, tbB' K, tbC K] : List Addr).Nodup := S.tb
  simp only [List.nodup_cons, List.mem_cons, List.not_mem_nil, or_false, not_or, List.nodup_nil, and_true, not_false_eq_true] at h
  exact ⟨h.1.1, h.1.2, h.2⟩
theorem lk_of {K : Frag} {mg : Str → Option Value} {w : World} {base : Heap} (S : Sy K) (X : K.In base) (G : base.Ns mainGlobals mg) (TB : ∀ p ∈ tfs.map (cT K), TabB base mg p.1 p.2) : LK pgm w K mg base (TT K) := by
  have E := S.ef X G
  have fr : ∀ (i : Nat) {x : Str}, fas[i]? = some (.free x) → mg x = none := fun i x h => He.free_ok X G (S.free i h)
  have gm : ∀ (i : Nat) {x : Str}, defNames[i]? = some x → mg x = some (.ref (ga K x)) := fun i x h => S.mgC X G (def_mem (List.mem_of_getElem? h))
  have fl := fr 63 (x := "list") rfl
  have fi := fr 64 (x := "int") rfl
  have fn := fr 65 (x := "len") rfl
  have frg := fr 66 (x := "range") rfl
  have fis := fr 67 (x := "isinstance") rfl
  have frp := fr 68 (x := "repr") rfl
  have fen := fr 69 (x := "enumerate") rfl
  have fve := fr 70 (x := "ValueError") rfl
  have fle := fr 71 (x := "LookupError") rfl
  obtain ⟨g0, F0⟩ := S.d.def_ 0 (d := defAt 51) rfl
  obtain ⟨g1, F1⟩ := S.d.def_ 1 (d := defAt 52) rfl
  obtain ⟨g2, F2⟩ := S.d.def_ 2 (d := defAt 53) rfl
  obtain ⟨g3, F3⟩ := S.d.def_ 3 (d := defAt 54) rfl
  obtain ⟨g4, F4⟩ := S.d.def_ 4 (d := defAt 55) rfl
  obtain ⟨g5, F5⟩ := S.d.def_ 5 (d := defAt 56) rfl
  obtain ⟨g6, F6⟩ := S.d.def_ 6 (d := defAt 57) rfl
  obtain ⟨g7, F7⟩ := S.d.def_ 7 (d := defAt 58) rfl
  obtain ⟨g8, F8⟩ := S.d.def_ 8 (d := defAt 59) rfl
  obtain ⟨g9, F9⟩ := S.d.def_ 9 (d := defAt 60) rfl
  obtain ⟨g10, F10⟩ := S.d.def_ 10 (d := defAt 61) rfl
  obtain ⟨g11, F11⟩ := S.d.def_ 11 (d := defAt 62) rfl
  have F0 : FunD K "_law_start" "_law_start" (defArgs sSt) (defBody sSt) (defScope sSt) [] [] (ga K "_law_start") g0 := F0
  have F1 : FunD K "_law_draw" "_law_draw" (defArgs sDr) (defBody sDr) (defScope sDr) [] [] (ga K "_law_draw") g1 := F1
  have F2 : FunD K "_law_mixed" "_law_mixed" (defArgs sMx) (defBody sMx) (defScope sMx) [] [] (ga K "_law_mixed") g2 := F2
  have F3 : FunD K "_law_made_a" "_law_made_a" (defArgs sMa) (defBody sMa) (defScope sMa) [] [] (ga K "_law_made_a") g3 := F3
  have F4 : FunD K "_law_made_b" "_law_made_b" (defArgs sMb) (defBody sMb) (defScope sMb) [] [] (ga K "_law_made_b") g4 := F4
  have F5 : FunD K "_law_made_c" "_law_made_c" (defArgs sMc) (defBody sMc) (defScope sMc) [] [] (ga K "_law_made_c") g5 := F5
  have F6 : FunD K "_law_kinds_a" "_law_kinds_a" (defArgs sKa) (defBody sKa) (defScope sKa) [] [] (ga K "_law_kinds_a") g6 := F6
  have F7 : FunD K "_law_kinds_b" "_law_kinds_b" (defArgs sKb) (defBody sKb) (defScope sKb) [] [] (ga K "_law_kinds_b") g7 := F7
  have F8 : FunD K "_law_kinds_c" "_law_kinds_c" (defArgs sKc) (defBody sKc) (defScope sKc) [] [] (ga K "_law_kinds_c") g8 := F8
  have F9 : FunD K "_law_kinds" "_law_kinds" (defArgs sKn) (defBody sKn) (defScope sKn) [] [] (ga K "_law_kinds") g9 := F9
  have F10 : FunD K "_law_is_own" "_law_is_own" (defArgs sOw) (defBody sOw) (defScope sOw) [] [] (ga K "_law_is_own") g10 := F10
  have F11 : FunD K "_law_are_these" "_law_are_these" (defArgs sTh) (defBody sTh) (defScope sTh) [] [] (ga K "_law_are_these") g11 := F11
  have b0 : L2.Binds K g0 ["script"] [] := F0.bindsN fun _ _ _ _ _ _ us hl => match us, hl with | [_], _ => rfl
  have b1 : L2.Binds K g1 ["stream", "many"] [] := F1.bindsN fun _ _ _ _ _ _ us hl => match us, hl with | [_, _], _ => rfl
  have b2 : L2.Binds K g2 ["stream", "some"] [] := F2.bindsN fun _ _ _ _ _ _ us hl => match us, hl with | [_, _], _ => rfl
  have b3 : L2.Binds K g3 ["x", "y", "z"] [] := F3.bindsN fun _ _ _ _ _ _ us hl => match us, hl with | [_, _, _], _ => rfl
  have b4 : L2.Binds K g4 ["x", "y", "z"] [] := F4.bindsN fun _ _ _ _ _ _ us hl => match us, hl with | [_, _, _], _ => rfl
  have b5 : L2.Binds K g5 ["x", "y", "z"] [] := F5.bindsN fun _ _ _ _ _ _ us hl => match us, hl with | [_, _, _], _ => rfl
  have b6 : L2.Binds K g6 ["e"] [] := F6.bindsN fun _ _ _ _ _ _ us hl => match us, hl with | [_], _ => rfl
  have b7 : L2.Binds K g7 ["e"] [] := F7.bindsN fun _ _ _ _ _ _ us hl => match us, hl with | [_], _ => rfl
  have b8 : L2.Binds K g8 ["e"] [] := F8.bindsN fun _ _ _ _ _ _ us hl => match us, hl with | [_], _ => rfl
  have b9 : L2.Binds K g9 ["e"] [] := F9.bindsN fun _ _ _ _ _ _ us hl => match us, hl with | [_], _ => rfl
  have b10 : L2.Binds K g10 ["e", "at"] [] := F10.bindsN fun _ _ _ _ _ _ us hl => match us, hl with | [_, _], _ => rfl
  have b11 : L2.Binds K g11 ["found", "due"] [] := F11.bindsN fun _ _ _ _ _ _ us hl => match us, hl with | [_, _], _ => rfl
  have D1 : FnOk pgm w K mg base CX0 1 (ga K "_law_draw") g1 ["stream", "many"] spDraw := ok_dr F1 fi
  have A6 : FnOk pgm w K mg base CX0 2 (ga K "_law_kinds_a") g6 ["e"] (spK K (dssA K).flatten) := ok_ka F6 E fis
  have A7 : FnOk pgm w K mg base CX0 2 (ga K "_law_kinds_b") g7 ["e"] (spK K (dssB K).flatten) := ok_kb F7 E fis
  have A8 : FnOk pgm w K mg base CX0 2 (ga K "_law_kinds_c") g8 ["e"] (spK K (dssC K).flatten) := ok_kc F8 E fis
  have A9 : FnOk pgm w K mg base CX0 3 (ga K "_law_kinds") g9 ["e"] (spK K (dsAll K)) := ok_kn F9 A6 A7 A8 (gm 6 rfl) (gm 7 rfl) (gm 8 rfl) F6.kp F7.kp F8.kp b6 b7 b8
  have tA : TabB base mg (codeOf K ("_law_made_a", none)) (tbA K) := TB (cT K ("_law_made_a", none)) (List.mem_map.mpr ⟨("_law_made_a", none), by decide, rfl⟩)
  have tB : TabB base mg (codeOf K ("_law_made_b", none)) (tbB' K) := TB (cT K ("_law_made_b", none)) (List.mem_map.mpr ⟨("_law_made_b", none), by decide, rfl⟩)
  have tC : TabB base mg (codeOf K ("_law_made_c", none)) (tbC K) := TB (cT K ("_law_made_c", none)) (List.mem_map.mpr ⟨("_law_made_c", none), by decide, rfl⟩)
  obtain ⟨n1, n2, n3⟩ := tt_nd S
  obtain ⟨_, f1⟩ := ba S.fe
  obtain ⟨f2, f3⟩ := ba f1
  obtain ⟨f4, f5⟩ := ba f3
  obtain ⟨f6, _⟩ := ba f5
  refine ⟨⟨_, g0, gm 0 rfl, F0.kp, b0, ok_st F0 fl⟩, ⟨_, g2, gm 2 rfl, F2.kp, b2, ok_mx F2 D1 (gm 1 rfl) F1.kp b1 fl fn frg⟩, ⟨_, g3, gm 3 rfl, F3.kp, b3, ?_⟩, ⟨_, g4, gm 4 rfl, F4.kp, b4, ?_⟩, ⟨_, g5, gm 5 rfl, F5.kp, b5, ?_⟩,
    ⟨_, g10, gm 10 rfl, F10.kp, b10, ok_ow F10 A9 (gm 9 rfl) F9.kp b9 fis (S.mgC X G List.mem_cons_self) fve fle frg⟩, ⟨_, g9, gm 9 rfl, F9.kp, b9, A9⟩, ⟨_, g11, gm 11 rfl, F11.kp, b11, ok_th F11 frp fn⟩, fun i C h => S.kit (List.mem_of_getElem? h), (List.nodup_cons.mp S.nd).2,
    S.mgC X G List.mem_cons_self, f2, f4, xi_ok (ba S.fe).1 S.on, of_decide_eq_true f6, S.feD, S.fn, frg, fen, fis, fve⟩
  · obtain ⟨oc, od, kV, doc, pm, an, c, ct, osl, rfl, lk, hcd⟩ := fun_code F3
    have ec : codeOf K ("_law_made_a", none) = c := He.codeOf_eq (p := ("_law_made_a", none)) lk rfl
    rw [ec] at tA
    refine ok_ma lk hcd tA List.mem_cons_self (fun p hp e => ?_) E
    simp only [TT, List.mem_cons, List.not_mem_nil, or_false] at hp
    rcases hp with rfl | rfl | rfl
    · rfl
    · exact absurd e.symm n1
    · exact absurd e.symm n2
  · obtain ⟨oc, od, kV, doc, pm, an, c, ct, osl, rfl, lk, hcd⟩ := fun_code F4
    have ec : codeOf K ("_law_made_b", none) = c := He.codeOf_eq (p := ("_law_made_b", none)) lk rfl
    rw [ec] at tB
    refine ok_mb lk hcd tB (List.mem_cons_of_mem _ List.mem_cons_self) (fun p hp e => ?_) E
    simp only [TT, List.mem_cons, List.not_mem_nil, or_false] at hp
    rcases hp with rfl | rfl | rfl
    · exact absurd e n1
    · rfl
    · exact absurd e.symm n3
  · obtain ⟨oc, od, kV, doc, pm, an, c, ct, osl, rfl, lk, hcd⟩ := fun_code F5
    have ec : codeOf K ("_law_made_c", none) = c := He.codeOf_eq (p := ("_law_made_c", none)) lk rfl
    rw [ec] at tC
    refine ok_mc lk hcd tC (List.mem_cons_of_mem _ (List.mem_cons_of_mem _ List.mem_cons_self)) (fun p hp e => ?_) E
    simp only [TT, List.mem_cons, List.not_mem_nil, or_false] at hp
    rcases hp with rfl | rfl | rfl
    · exact absurd e n2
    · exact absurd e n3
    · rfl
end Kz
namespace Kz
open PySem PySem.W PySem.Calls PyProof.Rows L2 LamX
open He (ga ma eqO eqO_ok ba cT codeOf tabOf)
theorem tabs_new {K : Frag} {H : Hp} (h : ∀ p ∈ tfs.map (cT K), H p.2 = some (.tbl #[])) : Tabs (TT K) H := fun p hp => by
  have e : ∃ q ∈ tfs.map (cT K), q.2 = p.1 := by
    simp only [TT, List.mem_cons, List.not_mem_nil, or_false] at hp
    rcases hp with rfl | rfl | rfl
    · exact ⟨_, List.mem_map.mpr ⟨("_law_made_a", none), by decide, rfl⟩, rfl⟩
    · exact ⟨_, List.mem_map.mpr ⟨("_law_made_b", none), by decide, rfl⟩, rfl⟩
    · exact ⟨_, List.mem_map.mpr ⟨("_law_made_c", none), by decide, rfl⟩, rfl⟩
  obtain ⟨q, hq, e⟩ := e
  rw [← e]
  exact ⟨#[], h q hq, by first | exact trivial | simp [TriplesOk], fun pos cv z => by simp [codeAmong] at z⟩
theorem nm_law : (HandSHeadRun.topDef RZ.prog 63).name = ("law" : PySem.Str) := by kernel_rfl
theorem walk : WalkO (view RZ.prog [63]) nms (XL (view RZ.prog [63]) []) hookZ2.says (PySem.Challenge.rw_twinforks_k00_errors_made.row).toRowW (HandSHeadRun.topDef RZ.prog 63) [] (fun f vs => PySem.call f vs) := by
  refine walk_G (l := PySem.Challenge.rw_twinforks_k00_errors_made) (n := 63) (k := 5) (x := "script") (CX := fun _ => CX0) rfl (by decide) (by kernel_rfl) ⟨rfl, by decide, by decide⟩ ?_ (fun _ _ _ _ _ z => z)
  intro w mg fa h Y G hmg0
  obtain ⟨K, KX, ⟨c1, c2⟩, c3, c4, c5, c6⟩ := Y
  have S := sy_of c1 c2 c3
  have hmg : mg ("law" : PySem.Str) = some (.ref fa) := by
    rw [← nm_law]
    exact hmg0
  obtain rfl : ga K "law" = fa := by
    have e := (S.mgC KX G (def_mem (x := "law") (List.mem_of_getElem? (i := 12) rfl))).symm.trans hmg
    injection e with e
    injection e
  obtain ⟨g12, F12⟩ := S.d.def_ 12 (d := defAt 63) rfl
  have F12 : FunD K "law" "law" (defArgs sLw) (defBody sLw) (defScope sLw) [] [] (ga K "law") g12 := F12
  have bL := FunD.bindsA (ps := ["script"]) F12 fun _ _ _ _ _ _ us hl => match us, hl with | [_], _ => rfl
  refine ⟨K, g12, tfs.map (cT K), spLaw K (TT K), KX, fun p hp => ?_, fun p hp => ?_, fun p hp => ?_, fun s v => bL s [v] rfl, fun H a ns hl hT hS => ⟨a, ns, rfl, hS, Nat.le_trans hl (by decide), tabs_new hT, fun _ => rfl⟩, fun base X0 G0 TB => ok_lw F12 (lk_of S X0 G0 TB)⟩
  · obtain ⟨q, hq, rfl⟩ := List.mem_map.mp hp
    exact c6 q hq
  · obtain ⟨q, hq, rfl⟩ := List.mem_map.mp hp
    exact c5 q hq
  · obtain ⟨q, hq, rfl⟩ := List.mem_map.mp hp
    exact codeHd_of_K KX (c4 q hq)
end Kz
open PySem PySem.W PySem.Calls PyProof.Rows
theorem PySem.Challenge.cw_twinforks_k00_errors_made_holds : PySem.Challenge.rw_twinforks_k00_errors_made.Holds := by
  w_on; o_law
  refine HandSHeadRun.head_any (r := OpenLaw.row PySem.Challenge.rw_twinforks_k00_errors_made) (q := view Kz.RZ.prog [63]) (H := Kz.hookZ2) (ob := Kz.obZ2) (M := 20000) (loose := Kz.nms) (d := HandSHeadRun.topDef Kz.RZ.prog 63) (kwd := []) Kz.obZ2_eq
    (by kernel_rfl) (fun s => by kernel_rfl) (Kz.runZ2' Kz.run1 Kz.run2 Kz.run3) (by kernel_rfl) (by kernel_rfl) (by kernel_rfl) (by rfl) (by first | assumption | decide +kernel) (by decide +kernel) ⟨rfl, rfl, rfl, rfl, rfl, by decide +kernel⟩ ?hw ?hc
  case hw => w_witness2
  case hc => exact Kz.walk
