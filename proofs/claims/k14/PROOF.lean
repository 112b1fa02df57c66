import PyProof.Rows.All
import Wide.All
import OpenK.AllK
import Wide.FinOn
import HandS.HeadHook4
import HandS.HeadWalk
import HandS.Head2
import HandS.Defaults
import HandS.Words
import HandS.ExcField
import HandS.ClsMeth
import KE.KLam
import HandS.ForMost
import HandS.Exc
import HandS.Codes
import HandS.TryOnly
import HandS.Lambda
import HandS.Nested
import HandS.NestedK
import PyProof.CodeObj
import HandS.Set
import HandS.SetBool
import HandS.Strs
import HandS.SetFor
import HandS.Wide
import HandS.IsInst
import HandS.Conv
import HandS.Deep
import HandS.TupAny
import HandS.Iter
import KE.GoesMore
import HandS.Walk
import PyProof.InstNe
import HandS.OwnEq
import HandS.Style
import HandS.MakeKw
import KE.KDictKeyed
import KE.KDictLaw
import HandS.Zip
import HandS.TupSets
import HandS.SortInts
import HandS.ForExc
import HandS.TryMany
import HandS.WordsExc
import HandS.CallSlots
import HandS.ExcInit
import KE.GoesEnum
import HandS.DictComp
import HandS.More
import KE.KOpsOwn
import HandS.SlotsOwn
import PyProof.Rows.Range3
import PyProof.Conv_bool
import OpenK.KOps
import OpenK.KMeth
import HandS.ListEq
import PyProof.FactsAll.set_1
import Wide.More
import PyProof.NeKinds
import HandS.WordsDict
import HandS.Text
import KE.SortData
import KE.KDictWalk
import KE.KDictSum
import HandS.List
import HandS.Evl
import PySem.Challenge.RW_surelydone_k14_whole_deeds_changed_in_pl
set_option Elab.async false
set_option linter.all false
set_option maxRecDepth 100000
set_option maxHeartbeats 8000000
namespace KX
open PySem PySem.Spec PyProof.Rows L2
def topS (i : Nat) : Stmt := PySem.Challenge.pw_surelydone_k14_whole_deeds_changed_in_pl.main.body.getD i (.Pass ⟨0, 0, 0, 0⟩)
abbrev s_wall : Stmt := topS 0
abbrev s_BadWords_init : Stmt := inClass (topS 3) 0
abbrev s_is_name : Stmt := topS 6
abbrev s_is_row : Stmt := topS 7
abbrev s_Deeds_init : Stmt := inClass (topS 9) 0
abbrev s_Deeds_names : Stmt := inClass (topS 9) 1
abbrev s_Deeds_or : Stmt := inClass (topS 9) 3
abbrev s_Deeds_ror : Stmt := inClass (topS 9) 4
abbrev s_Deeds_ior : Stmt := inClass (topS 9) 5
abbrev s_Deeds_and : Stmt := inClass (topS 9) 6
abbrev s_Deeds_rand : Stmt := inClass (topS 9) 7
abbrev s_Deeds_iand : Stmt := inClass (topS 9) 8
abbrev s_Deeds_sub : Stmt := inClass (topS 9) 9
abbrev s_Deeds_rsub : Stmt := inClass (topS 9) 10
abbrev s_Deeds_isub : Stmt := inClass (topS 9) 11
abbrev s_Deeds_eq : Stmt := inClass (topS 9) 12
abbrev s_Deeds_contains : Stmt := inClass (topS 9) 13
abbrev s_Deeds_len : Stmt := inClass (topS 9) 14
abbrev s_Deeds_bool : Stmt := inClass (topS 9) 15
abbrev s_told_names : Stmt := topS 10
abbrev s_law_cell : Stmt := topS 12
abbrev s_law_pool : Stmt := topS 13
abbrev s_law_draw : Stmt := topS 14
abbrev s_law_name : Stmt := topS 15
abbrev s_law_names : Stmt := topS 16
abbrev s_law_same : Stmt := topS 17
abbrev s_law_pick : Stmt := topS 18
abbrev s_law_odd_name : Stmt := topS 19
abbrev s_law_odd_row : Stmt := topS 20
abbrev s_law_change : Stmt := topS 21
abbrev s_law_due : Stmt := topS 22
abbrev s_law_tried : Stmt := topS 23
abbrev s_law_all_hold : Stmt := topS 24
abbrev s_law_refused : Stmt := topS 25
abbrev s_law : Stmt := topS 26
def oexB (K : PySem.W.Frag) (C : Addr) : Bool := (match K.lookup C with
  | some ⟨.type "type", _, .cls cd, sl⟩ => (match cd.mro, sl.toList with
    | .ref C' :: bm, [_, _, _, _, some (.builtin n), _] => C' == C && n == "ValueError.__new__" && !cd.hasDel && cd.hasDict && PySem.HandSPX.refsVE bm
    | _, _ => false)
  | _ => false) && (He.eqO (PySem.W.findIn K (.ref C) "__setattr__") (some (some (.builtin "object.__setattr__"))) && (decide (PySem.W.subIn K (.ref C) (.type "BaseException") = some true) && (decide (PySem.W.typeIn K (.ref C) = some (.type "type")) && PySem.W.keepIn K (.ref C))))
def slotDB (K : PySem.W.Frag) (n : String) (a r : Str) : Bool := match PySem.W.findIn K (.type n) a, PySem.W.findIn K (.type n) r with
  | some fo, some ro => ((fo.isSome && !isSeqSlot fo) || (ro.isSome && !isSeqSlot ro)) == false
  | _, _ => false
def binDB (K : PySem.W.Frag) (C fA fR : Addr) (a r : Str) : Bool := PySem.W.selfFirst K C && (He.eqO (PySem.W.findIn K (.ref C) a) (some (some (.ref fA))) && (PySem.W.isFn K (.ref fA) && (He.eqO (PySem.W.findIn K (.ref C) r) (some (some (.ref fR))) && (PySem.W.isFn K (.ref fR) && (["list", "tuple"].all fun n => slotDB K n a r)))))
def kindB (K : PySem.W.Frag) (C : Addr) : Bool := (["NoneType", "str", "tuple", "list", "dict", "int", "bool"] : List String).all fun n => decide (PySem.W.kitOne K (.type n) (.ref C) = some false)
def sevB (K : PySem.W.Frag) (C : Addr) (a r : Str) : Bool := (["NoneType", "str", "tuple", "list", "dict", "int", "bool"] : List String).all fun n => (PySem.W.findIn K (.type n) a).isSome && ((PySem.W.findIn K (.type n) r).isSome && decide (PySem.W.subIn K (.type n) (.ref C) = some false))
def dTop (x : Str) (st : Stmt) : He.DefD := ⟨(x, none), x, x, defArgs st, defBody st, defScope st, [], []⟩
def dMeth (c m q : Str) (st : Stmt) (dv : List He.Dv) : He.DefD := ⟨(c, some m), m, q, defArgs st, defBody st, defScope st, dv, []⟩
def fns : List He.DefD := [dMeth "Deeds" "names" "Deeds.names" s_Deeds_names [], dMeth "Deeds" "__or__" "Deeds.__or__" s_Deeds_or [], dMeth "Deeds" "__ror__" "Deeds.__ror__" s_Deeds_ror [], dMeth "Deeds" "__and__" "Deeds.__and__" s_Deeds_and [], dMeth "Deeds" "__rand__" "Deeds.__rand__" s_Deeds_rand [], dMeth "Deeds" "__sub__" "Deeds.__sub__" s_Deeds_sub [], dMeth "Deeds" "__rsub__" "Deeds.__rsub__" s_Deeds_rsub [], dMeth "Deeds" "__ior__" "Deeds.__ior__" s_Deeds_ior [], dMeth "Deeds" "__iand__" "Deeds.__iand__" s_Deeds_iand [], dMeth "Deeds" "__isub__" "Deeds.__isub__" s_Deeds_isub [], dMeth "Deeds" "__init__" "Deeds.__init__" s_Deeds_init [.adr (He.dflAt ("Deeds", some "__init__") 0)], dMeth "BadWords" "__init__" "BadWords.__init__" s_BadWords_init [], dTop "is_row" s_is_row, dTop "is_name" s_is_name, dTop "told_names" s_told_names, dTop "_law_pool" s_law_pool, dTop "_law_cell" s_law_cell, dTop "_law_draw" s_law_draw, dTop "_law_names" s_law_names, dTop "_law_same" s_law_same, dTop "_law_pick" s_law_pick, dTop "_law_due" s_law_due, dTop "_law_refused" s_law_refused, dTop "_law_tried" s_law_tried, dTop "_law_all_hold" s_law_all_hold, dTop "_law_change" s_law_change, dTop "_law_odd_name" s_law_odd_name, dTop "_law_odd_row" s_law_odd_row, dTop "_law_name" s_law_name, dTop "law" s_law]
def fas0 : List He.Fa := [.glo "BadWords", .meth "BadWords" "__init__", .noat "BadWords" "value", .exm "BadWords" "BadWords" true, .glo "Deeds", .cls "Deeds", .mkr "Deeds", .noat "Deeds" "kept", .meth "Deeds" "names", .meth "Deeds" "__ior__", .meth "Deeds" "__iand__", .meth "Deeds" "__isub__", .free "len", .free "int", .free "range", .free "isinstance", .free "tuple", .free "list", .free "set", .free "sorted", .free "all", .free "enumerate", .free "bool", .free "str", .free "dict", .int "MOST_LETTERS" 12, .glo "is_row", .glo "is_name", .glo "told_names", .glo "_law_pool", .glo "_law_cell", .glo "_law_draw", .glo "_law_names", .glo "_law_same", .glo "_law_pick", .glo "_law_due", .glo "_law_refused", .glo "_law_tried"]
def fas1 : List He.Fa := [.glo "_law_all_hold", .glo "_law_change", .glo "_law_odd_name", .glo "_law_odd_row", .glo "_law_name", .glo "law"]
def fas : List He.Fa := fas0 ++ fas1
abbrev tfs : List He.Defn := []
def ownB (K : PySem.W.Frag) (C : Addr) : Bool := He.eqO (PySem.W.findIn K (.ref C) "__class__") (some (some (.builtin "object.__class__"))) && (He.eqO (PySem.W.specialIn K (.builtin "object.__class__") "__get__") (some (some (.builtin "getset_descriptor.__get__"))) && (decide (PySem.W.takesIn K (.builtin "object.__class__") = some true) && decide (PySem.W.mroIn K C (.type "object") = some true)))
def exs (K : PySem.W.Frag) : Bool := (ownB K (He.ga K "Deeds") && (decide (PySem.W.kitOne K (.type "list") (.ref (He.ga K "Deeds")) = some false) && (decide (PySem.W.kitOne K (.type "tuple") (.ref (He.ga K "Deeds")) = some false) && (binDB K (He.ga K "Deeds") (He.fAd K ("Deeds", some "__or__")) (He.fAd K ("Deeds", some "__ror__")) "__or__" "__ror__" && (binDB K (He.ga K "Deeds") (He.fAd K ("Deeds", some "__and__")) (He.fAd K ("Deeds", some "__rand__")) "__and__" "__rand__" && (binDB K (He.ga K "Deeds") (He.fAd K ("Deeds", some "__sub__")) (He.fAd K ("Deeds", some "__rsub__")) "__sub__" "__rsub__" && (kindB K (He.ga K "Deeds") && (sevB K (He.ga K "Deeds") "__or__" "__ror__" && (sevB K (He.ga K "Deeds") "__and__" "__rand__" && (sevB K (He.ga K "Deeds") "__sub__" "__rsub__" && (oexB K (He.ga K "BadWords") && xfB K (He.ga K "BadWords"))))))))))))
abbrev Rw : PySem.W.OpenRow := PySem.W.OpenLaw.row PySem.Challenge.rw_surelydone_k14_whole_deeds_changed_in_pl
abbrev lse0 : List Str := ["_wall", "__name__", "DoneError", "BadWords", "MOST_LETTERS", "is_name", "is_row", "Deeds", "told_names", "_law_cell", "_law_pool", "_law_draw", "_law_name", "_law_names", "_law_same", "_law_pick", "_law_odd_name", "_law_odd_row", "_law_change", "_law_due", "_law_tried", "_law_all_hold", "_law_refused"]
abbrev lse : List Str := lse0
abbrev vw : Program := PySem.W.view Rw.prog [26]
abbrev hkX : PySem.W.Hook := He.hookX 5 fas fns [] tfs exs
def obX (s : PySem.W.SharedT) : He.AlX := He.obsX 5 fas fns [] tfs exs (HandSHeadRun.getT s)
theorem obX_eq (s : PySem.W.SharedT) : obX s = hkX.obs s.abs := He.obsX_eq (HandSHeadRun.getT_eq s)
theorem runX (w : World) : HandSHeadRun.RunEq Rw vw hkX obX 8500 lse w := by
  intro os
  kernel_rfl
end KX
/-! Lambdas of one parameter that capture names, handed to a def that calls them. -/
namespace VL
open PySem PySem.Spec PyProof.Rows L2 LamX NdefX

structure LF where
  qual : Str
  params : Arguments
  body : Expr
  scope : Scope
  cl : List (Str × Addr)
  c : Addr

/-- at f stands the lambda F -/
def LamO (f : Addr) (F : LF) : HO := .ext fun h => ∃ (od : Option Addr) (sl : Array (Option Value)) (pm ctv : Value),
  h.get? f = some (⟨.type "function", od, .func (PySem.W.kla_fn "<lambda>" F.qual F.params F.body F.scope F.cl pm (.ref F.c) ctv), sl⟩ : Obj)
section
variable {X : Cx} {pins : List (Addr × Obj)} {σ : L2.St} {H : Hp} {s : Shared}
end
/-- the lambda as a value -/
def tLamV (T : List NTab) (mk : Addr → LF) : TE := fun _ H Q => TabsN T H ∧ ∀ (f c' : Addr) (H1 : Hp), ExtN H H1 → (∀ b, H1 b = Option.none → H b = Option.none) → TabsN T H1 → H f = none → H1 f = some (LamO f (mk c')) → H1 c' = some (CodeO c' (mk c').qual) → Q (.ref f) H1
end VL
namespace VL
open PySem PySem.Spec PyProof.Rows L2 LamX NdefX
/-- the lambda's names: its parameter, the captured ones, the others (of its comprehensions) -/
structure LScope (N : List Str) (p : Str) (fr : List Str) (sc : Scope) : Prop where
  kind : sc.kind = .function
  co : sc.isCoroutine = false
  gen : sc.isGenerator = false
  nd : N.Nodup
  pre : N.take (1 + fr.length) = p :: fr
  par : sc.names.lookup p = some .local ∨ sc.names.lookup p = some .cell
  uniq : ∀ y ∈ sc.names, sc.names.lookup y.1 = some y.2
  own : ∀ y ∈ sc.names, y.2 = .cell → y.1 = p
  free : ∀ y ∈ sc.names, y.2 = .free → y.1 ∈ fr
  frk : ∀ x ∈ fr, sc.names.lookup x = some .free
/-- the closure: each captured name once -/
structure ClOk (cl : List (Str × Addr)) (sc : Scope) : Prop where
  fn : ∀ y c, (y, c) ∈ cl → cl.lookup y = some c
  fr : ∀ y c, (y, c) ∈ cl → (y, NameKind.free) ∈ sc.names
abbrev envL (F : LF) (f L : Addr) : Env := newEnv F.scope L mainGlobals (cellsFrom (L + 1) F.scope.names F.cl) (F.qual ++ ".<locals>.") (some f) (.ref F.c) none builtinsNs
def startL (N : List Str) (v : V) (ws : List (Option V)) : L2.St := some v :: (ws ++ List.replicate (N.length - 1 - ws.length) none)
/-- the context of its body -/
def lcx (CX : CXT) (P : Program) (w : World) (K : PySem.W.Frag) (mg : Str → Option Value) (base : Heap) (N : List Str) (F : LF) (f : Addr) (A : Around) (outer : List Env) (s : Shared) (H : Hp) (E : XK) : Cx where
  prog := P
  w := w
  K := K
  mg := mg
  base := base
  A := A.deeper (envL F f s.heap.objs.size)
  N := N
  s_0 := s
  H_0 := H
  env := envL F f s.heap.objs.size
  outer := outer
  stack := envL F f s.heap.objs.size :: outer
  ex := []
  fn := fun x => F.scope.names.lookup x == some .cell
  calm := true
  pn := []
  xe := fun e s' => wpAny (model P w) (A.deeper (envL F f s.heap.objs.size)) (leaving (envL F f s.heap.objs.size) e) (fun _ s'' => CX outer H s E e s'') (fun e' s'' => CX outer H s E e' s'') s'

section
variable {CX : CXT} {P : Program} {w : World} {K : PySem.W.Frag} {mg : Str → Option Value} {base : Heap} {N fr : List Str} {p : Str} {F : LF} {f : Addr} {A : Around} {outer : List Env} {s : Shared} {H : Hp} {E : XK} {u : Value} {v : V} {ws : List (Option V)}
/-- the frame's map and the parameter's cell, as the call leaves them -/
structure Laid (F : LF) (p : Str) (u : Value) (L : Addr) (h h1 : Heap) : Prop where
  keep : ∀ b o, h.get? b = some o → h1.get? b = some o
  ns : ∃ m, h1.Ns L m ∧ (F.scope.names.lookup p = some .local → m p = some u)
  cells : ∀ y c, (y, c) ∈ cellsFrom (L + 1) F.scope.names F.cl → (y, c) ∈ F.cl ∨ (F.scope.names.lookup y = some .cell ∧ L < c ∧ ∃ z, h1.IsCell c z)
  pc : ∀ c, F.scope.names.lookup p = some .cell → (cellsFrom (L + 1) F.scope.names F.cl).lookup p = some c → h1.IsCell c (some u)

end
end VL
namespace VL
open PySem PySem.Spec PyProof.Rows L2 LamX NdefX
/-- the lambda at f keeps the promise sp (of what it captured and of its argument) -/
structure LamOk (P : Program) (w : World) (K : PySem.W.Frag) (mg : Str → Option Value) (base : Heap) (CX : CXT) (k : Nat) (f : Addr) (F : LF) (fr : List Str) (sp : List (Option V) → V → Hp → VK → XK → Prop) : Prop where
  run : ∀ (A : Around) (outer : List Env) (s : Shared) (H : Hp) (u : Value) (v : V) (ws : List (Option V)) (Q : VK) (E : XK), Room k A → Env0 P w K mg base A outer s H → H f = some (LamO f F) → H F.c = some (CodeO F.c F.qual) →
    CellsAt F.cl fr ws s.heap H → L2.RelV v u → sp ws v H Q E → codeAny (model P w) A (.call (.ref f) ⟨[u], []⟩) (CR CX outer P w H s Q E) s
section
variable {CX : CXT} {P : Program} {w : World} {K : PySem.W.Frag} {mg : Str → Option Value} {base : Heap} {N fr : List Str} {p : Str} {F : LF} {f : Addr} {k : Nat} {sp : List (Option V) → V → Hp → VK → XK → Prop}
end
/-- x(e): the slot i holds the lambda -/
def tCallL (F : LF) (i : Nat) (sp : V → Hp → VK → XK → Prop) (E : XK) (t : TA) : TE := fun σ H Q => ∃ f, σ[i]? = some (some (.ref f)) ∧ H f = some (LamO f F) ∧ t σ H fun vs H1 => ∃ v, vs = [v] ∧ H1 f = some (LamO f F) ∧ H1 F.c = some (CodeO F.c F.qual) ∧ sp v H1 Q E
section
variable {X : Cx} {CX : CXT} {F : LF} {fr : List Str} {ws : List (Option V)} {i j k : Nat} {x : Str} {sp : List (Option V) → V → Hp → VK → XK → Prop} {E : XK} {t : TA} {e : Expr} {es : List Expr} {p pos : Pos}
end
/-- a def's promise that may speak of the state at the call -/
structure FnOkS (P : Program) (w : World) (K : PySem.W.Frag) (mg : Str → Option Value) (base : Heap) (CX : CXT) (k : Nat) (f : Addr) (fd : FuncData) (ps : List Str) (sp : Shared → Sp) : Prop where
  len : ∀ s vs H Q E, sp s vs H Q E → vs.length = ps.length
  run : ∀ (A : Around) (outer : List Env) (s : Shared) (H : Hp) (args : Args) (us : List Value) (vs : List V) (Q : VK) (E : XK), Room k A → Env0 P w K mg base A outer s H → BindsTo s fd args (ps.zip us) → Vals vs us → sp s vs H Q E →
    codeAny (model P w) A (.call (.ref f) args) (CR CX outer P w H s Q E) s
section
variable {P : Program} {w : World} {K : PySem.W.Frag} {mg : Str → Option Value} {base : Heap}
end
def tCallSt (X : Cx) (sp : Shared → Sp) (E : XK) (t : TA) : TE := fun σ H Q => t σ H fun vs H1 => ∀ (pins : List (Addr × Obj)) (s : Shared), Inv X pins σ H1 s → sp s vs H1 Q E
section
variable {X : Cx} {CX : CXT} {k : Nat} {f : Addr} {fd : FuncData} {ps : List Str} {sp : Shared → Sp} {E : XK} {x : Str} {p pos : Pos} {e : Expr} {es : List Expr} {t : TA}
end
/-- a statement that no way reaches -/
theorem ps_dead {X : Cx} {st : Stmt} : PS X st (fun _ _ _ => False) := ⟨fun _ _ _ _ _ _ h => h.elim⟩
end VL
namespace VL
open PySem PySem.Spec PyProof.Rows L2 LamX NdefX
def lscB (N : List Str) (p : Str) (fr : List Str) (sc : Scope) : Bool :=
  decide (sc.kind = .function) && !sc.isCoroutine && !sc.isGenerator && decide N.Nodup && decide (N.take (1 + fr.length) = p :: fr) && (decide (sc.names.lookup p = some .local) || decide (sc.names.lookup p = some .cell)) &&
    sc.names.all (fun y => decide (sc.names.lookup y.1 = some y.2)) && sc.names.all (fun y => !decide (y.2 = .cell) || decide (y.1 = p)) && sc.names.all (fun y => !decide (y.2 = .free) || decide (y.1 ∈ fr)) && fr.all (fun x => decide (sc.names.lookup x = some .free))
/-- each free name of the inner scope is one that the outer scope has -/
def freeB (sc scope : Scope) : Bool := scope.names.all fun y => !decide (y.2 = .free) || decide (sc.names.lookup y.1 = some .cell) || decide (sc.names.lookup y.1 = some .free)
end VL
/-! Sets of texts: their comprehension, set(a list), sorted. -/
namespace VT
open PySem PySem.Spec PyProof.Rows L2
def keyT (e : Int × Value) : Str := match e.2 with
  | .str z _ => z
  | _ => Str.empty
def GoodT (w : World) (e : Int × Value) : Prop := ∃ z tk, e.2 = Value.str z tk ∧ e.1 = hashStr w z
/-- the set of texts at a: S its members, n their number; its table can be walked -/
def SetT (w : World) (h : Heap) (a : Addr) (S : Str → Bool) (n : Nat) : Prop :=
  ∃ o es ep t, h.get? a = some o ∧ o.ExactSet ∧ o.data = .set es ep t ∧ (∀ e ∈ es.toList, GoodT w e) ∧ (es.toList.map keyT).Nodup ∧ (∀ z, S z = true ↔ z ∈ es.toList.map keyT) ∧
    es.size < scanBound ∧ t.fits es.size = true ∧ es.size = n ∧ Ris t.place.toList ∧ (w.params.followText "set-order" = true ∨ t.led = true)
section
variable {P : Program} {w : World} {h h' : Heap} {a : Addr} {S : Str → Bool} {n : Nat}
theorem SetT.at (R : SetT w h a S n) (k : ∀ o, h.get? a = some o → h'.get? a = some o) : SetT w h' a S n :=
  let ⟨o, es, ep, t, ho, r⟩ := R
  ⟨o, es, ep, t, k o ho, r⟩
theorem SetT.congr {S' : Str → Bool} (R : SetT w h a S n) (e : ∀ z, S' z = S z) : SetT w h a S' n := (funext e : S' = S) ▸ R
theorem goodT_elems {l : List (Int × Value)} (g : ∀ e ∈ l, GoodT w e) : ElemsOf (PySem.strKind P w) l := fun e he =>
  let ⟨z, tk, h1, h2⟩ := g e he
  ⟨⟨z, by rw [h1]; exact strKind_is P w z tk, h2⟩, by rw [h1]; rfl⟩
theorem goodT_is {e : Int × Value} (g : GoodT w e) (k : Str) : (PySem.strKind P w).is k e.2 = true ↔ keyT e = k := by
  obtain ⟨z, tk, h1, _⟩ := g
  unfold keyT
  rw [h1]
  constructor
  · intro q
    exact (PySem.strKind P w).inj _ _ _ (strKind_is P w z tk) q
  · intro q
    rw [← q]
    exact strKind_is P w z tk
theorem goodT_mem {l : List (Int × Value)} (g : ∀ e ∈ l, GoodT w e) (k : Str) : k ∈ l.map keyT ↔ ∃ e ∈ l, (PySem.strKind P w).is k e.2 = true := by
  rw [List.mem_map]
  exact ⟨fun ⟨e, he, q⟩ => ⟨e, he, (goodT_is (g e he) k).2 q⟩, fun ⟨e, he, q⟩ => ⟨e, he, (goodT_is (g e he) k).1 q⟩⟩
end
section
variable {P : Program} {w : World} {A : Around} {E : Value → Shared → Prop} {s : Shared} {a : Addr} {S : Str → Bool} {n : Nat}
theorem putT_at {h : Heap} {a : Addr} {o : Obj} {es es' : Array (Int × Value)} {ep : Nat} {t t' : SetTable} (ho : h.get? a = some o) (hd : o.data = .set es ep t) :
    (h.update a (Obj.putSet es' t')).get? a = some { o with data := .set es' (ep + 1) t' } := by
  have q := Heap.get?_update_self (Obj.putSet es' t') ho (by rw [putSet_of es' t' hd]; rfl)
  exact (putSet_of es' t' hd) ▸ q
theorem addT_tail {g : Bool → Sem Unit} (hg : ∀ (b : Bool) (s₁ : Shared) (Q' : Unit → Shared → Prop), Q' () s₁ → wpAny (model P w) A (g b) Q' E s₁)
    {o : Obj} {es : Array (Int × Value)} {ep : Nat} {t : SetTable} (ho : s.heap.get? a = some o) (hex : o.ExactSet) (hd : o.data = .set es ep t)
    {em : Array (Int × Value)} {tm : SetTable} {S' : Str → Bool} (gm : ∀ e ∈ em.toList, GoodT w e) (ndm : (em.toList.map keyT).Nodup) (mm : ∀ z, S' z = true ↔ z ∈ em.toList.map keyT)
    (hbm : em.size < scanBound) (hfm : tm.fits em.size = true) (hrm : Ris tm.place.toList) (hlm : w.params.followText "set-order" = true ∨ tm.led = true) {wasDummy : Bool} {R : Option Bool → Shared → Prop}
    (hR : ∀ h', Heap.SameBut a s.heap h' → SetT w h' a S' em.size → R (some true) { s with heap := h' }) :
    wpAny (model P w) A (do
        storeSet a em tm
        if (!wasDummy && tm.tooFull) = true then do
            g (relayAll tm em (SetTable.grown em.size)).2.2
            storeSet a (relayAll tm em (SetTable.grown em.size)).1 (relayAll tm em (SetTable.grown em.size)).2.1
            pure (some true)
          else pure (some true)) R E s := by
  refine wpAny_bind (wpAny_storeSet_of ho hd ?_ (fits_of_scanBound hbm))
  have om := putT_at (es' := em) (t' := tm) ho hd
  have sm := Heap.SameBut.update s.heap a (Obj.putSet em tm)
  split
  · have pm := relayAll_perm tm em (SetTable.grown em.size)
    have f3 := relayAll_fits tm em (SetTable.grown em.size)
    have r3 := relayAll_ris tm em (SetTable.grown em.size)
    have l3 := relayAll_led tm em (SetTable.grown em.size)
    generalize relayAll tm em (SetTable.grown em.size) = Z at pm f3 r3 l3 ⊢
    obtain ⟨e2, t3, gave⟩ := Z
    dsimp only at pm f3 r3 l3 ⊢
    have hsz : e2.size = em.size := by rw [← Array.length_toList, pm.length_eq, Array.length_toList]
    have hb2 : e2.size < scanBound := hsz ▸ hbm
    refine wpAny_bind (hg _ _ _ (wpAny_bind (wpAny_storeSet_of om rfl ?_ (fits_of_scanBound hb2))))
    have o2 := putT_at (es' := e2) (t' := t3) om rfl
    refine wpAny_pure (hR _ (sm.trans (Heap.SameBut.update _ a _)) ?_)
    exact ⟨_, e2, _, t3, o2, hex, rfl, fun e he => gm e (pm.mem_iff.mp he), (pm.map keyT).nodup_iff.mpr ndm, fun z => (mm z).trans (pm.map keyT).mem_iff.symm, hb2, f3, hsz, r3,
      hlm.imp id fun z => l3 ▸ z⟩
  · exact wpAny_pure (hR _ sm ⟨_, em, _, tm, om, hex, rfl, gm, ndm, mm, hbm, hfm, rfl, hrm, hlm⟩)
theorem addT_hashed {k : Str} {tk : Tok} {Q : Bool → Shared → Prop} (R : SetT w s.heap a S n) (room : n + 1 < scanBound)
    (hQ : ∀ h', Heap.SameBut a s.heap h' → SetT w h' a (fun j => S j || decide (j = k)) (if S k = true then n else n + 1) → Q (!S k) { s with heap := h' }) :
    wpAny (model P w) A (setAddHashed a (.str k tk) ((PySem.strKind P w).hash k)) Q E s := by
  obtain ⟨o, es, ep, t, ho, hex, hd, g, nd, hm, hb, hf, hn, hr, hl⟩ := R
  have hkey : (PySem.strKind P w).is k (.str k tk) = true := strKind_is P w k tk
  have hsc : (Value.str k tk).scannable = true := rfl
  have hel : ElemsOf (PySem.strKind P w) es.toList := goodT_elems g
  unfold setAddHashed setAddHashedIn
  refine wpAny_holding (wpAny_bind (wpAny_setState_of ho hd hf ?_))
  dsimp only
  rw [byScan_of hsc hb hel]
  simp only [↓reduceIte]
  unfold setAddByScan
  refine wpAny_bind (wpAny_bind (wpAny_rule (wpAny_bind (wpAny_setScan_of hkey ho hd hf hel ?_))))
  cases hfi : List.findIdx? (fun e => (PySem.strKind P w).is k e.2) es.toList with
  | some j =>
    dsimp only
    obtain ⟨hj, pj, _⟩ := List.findIdx?_eq_some_iff_getElem.mp hfi
    have hSk : S k = true := (hm k).2 ((goodT_mem (P := P) (w := w) g k).2 ⟨es.toList[j], List.getElem_mem hj, pj⟩)
    have q := hQ s.heap (Heap.SameBut.refl a s.heap) ⟨o, es, ep, t, ho, hex, hd, g, nd, fun i => by
      rw [Bool.or_eq_true, decide_eq_true_eq, ← hm i]
      exact ⟨fun z => z.elim id (fun e => e ▸ hSk), .inl⟩, hb, hf, by rw [if_pos hSk]; exact hn, hr, hl⟩
    rw [hSk] at q
    exact wpAny_pure (wpAny_pure q)
  | none =>
    dsimp only
    have hnk : k ∉ es.toList.map keyT := fun z => by
      obtain ⟨e, he, q⟩ := (goodT_mem (P := P) (w := w) g k).1 z
      have c := List.findIdx?_eq_none_iff.mp hfi e he
      rw [q] at c
      cases c
    have hSk : S k = false := Bool.eq_false_iff.mpr fun q => hnk ((hm k).1 q)
    have hgw : ∀ (b : Bool) {s₁ : Shared} {Q' : Unit → Shared → Prop}, Q' () s₁ → wpAny (model P w) A (match b with | true => rule "set.scan.the-table-gave-way" | false => pure ()) Q' E s₁ :=
      fun b s₁ Q' q => by cases b <;> first | exact wpAny_pure q | exact wpAny_rule q
    have pm := layNew_perm t es ((PySem.strKind P w).hash k) (.str k tk)
    have f1 := layNew_fits t es ((PySem.strKind P w).hash k) (.str k tk)
    have r1 := layNew_ris t es ((PySem.strKind P w).hash k) (.str k tk) hr
    have l1 := layNew_led t es ((PySem.strKind P w).hash k) (.str k tk)
    generalize layNew t es ((PySem.strKind P w).hash k) (.str k tk) = Z at pm f1 r1 l1 ⊢
    obtain ⟨e1, t1, wasDummy, gave⟩ := Z
    dsimp only at pm f1 r1 l1 ⊢
    rw [Array.toList_push] at pm
    have pc : e1.toList.Perm (((PySem.strKind P w).hash k, Value.str k tk) :: es.toList) := pm.trans (List.perm_append_singleton _ _)
    have pk : (e1.toList.map keyT).Perm (k :: es.toList.map keyT) := pc.map keyT
    have g1 : ∀ e ∈ e1.toList, GoodT w e := fun e he => by
      rcases List.mem_cons.mp (pc.mem_iff.mp he) with z | z
      · rw [z]
        exact ⟨k, tk, rfl, rfl⟩
      · exact g e z
    have m1 : ∀ i, (S i || decide (i = k)) = true ↔ i ∈ e1.toList.map keyT := fun i => by
      rw [Bool.or_eq_true, decide_eq_true_eq, hm i, pk.mem_iff, List.mem_cons]
      exact Or.comm
    have hsz : e1.size = n + 1 := by rw [← Array.length_toList, pc.length_eq, List.length_cons, Array.length_toList, hn]
    have hled : w.params.followText "set-order" = true ∨ t1.led = true := hl.imp id fun z => l1 ▸ z
    have fin : ∀ h', Heap.SameBut a s.heap h' → SetT w h' a (fun j => S j || decide (j = k)) e1.size → Q true { s with heap := h' } := fun h' sb r => by
      have q := hQ h' sb
      rw [hSk] at q
      rw [hsz] at r
      exact q r
    refine wpAny_bind (hgw _ ?_)
    have hb1 : e1.size < scanBound := hsz ▸ room
    have nd1 := pk.nodup_iff.mpr (List.nodup_cons.mpr ⟨hnk, nd⟩)
    split
    · refine wpAny_bind ?_
      rw [hashByValue_scannable 8 hsc]
      refine wpAny_pure (addT_tail ?_ ho hex hd g1 nd1 m1 hb1 ?_ ?_ ?_ ?_)
      · exact fun b s₁ Q' q => by cases b <;> first | exact wpAny_pure q | exact wpAny_rule q
      · first | (split <;> first | exact f1 | exact SetTable.fits_plain_off f1) | exact f1
      · first | (split <;> exact r1) | exact r1
      · first | (split <;> exact hled) | exact hled
      · exact fun h' sb r => by dsimp only; exact wpAny_pure (fin h' sb r)
    · refine wpAny_bind (wpAny_pure ?_)
      simp only [↓reduceIte]
      refine addT_tail ?_ ho hex hd g1 nd1 m1 hb1 f1 r1 hled ?_
      · exact fun b s₁ Q' q => by cases b <;> first | exact wpAny_pure q | exact wpAny_rule q
      · exact fun h' sb r => by dsimp only; exact wpAny_pure (fin h' sb r)
/-- sorted of it -/
theorem sorted_setT {Q : Value → Shared → Prop} (R : SetT w s.heap a S n) (hh : A.handled = none) (h64 : n < 64)
    (hQ : ∀ s' p (out : Array Value) (c : Nat) (ns : List Str), (∀ b o, s.heap.get? b = some o → s'.heap.get? b = some o) → s'.gens = s.gens → s'.os = s.os → s.heap.objs.size ≤ p →
      s'.heap.get? p = some (seqObj "list" out c) → StrsAre out.toList ns → sortedS ns = true → ns.Nodup → (∀ k, k ∈ ns ↔ S k = true) → ns.length = n → Q (.ref p) s') :
    wpAny (model P w) A (call (.builtin "sorted") [.ref a]) Q E s := by
  obtain ⟨o, es, ep, t, ho, hex, hd, g, nd, hm, hb, hf, hn, hr, hl⟩ := R
  refine Calls.call_function_entry kind_sorted plain_sorted entry_sorted (args_sorted1 _) ?_
  unfold Builtin.«sorted»
  refine wpAny_bind (m := checkCount "sorted" 1 1 _) (wpAny_pure ?_)
  refine wpAny_bind (collect_set (A := A.in1) hh ⟨o, ho, hex.1, hd⟩ hf hb hr hl fun s1 vs k1 hz g1 o1 pm => ?_)
  have hvl : vs.length = n := by rw [pm.length_eq, List.length_map, Array.length_toList]; exact hn
  have hall : ∀ v ∈ vs, ∃ z tk, v = Value.str z tk := fun v hv => by
    obtain ⟨e, he, q⟩ := List.mem_map.mp (pm.mem_iff.mp hv)
    obtain ⟨z, tk, e1, _⟩ := g e he
    exact ⟨z, tk, q ▸ e1⟩
  have hS : StrsAre vs (vs.map strOf) := strsAre_map vs hall
  have pk : (vs.map strOf).Perm (es.toList.map keyT) := by
    have q := pm.map strOf
    rw [List.map_map] at q
    have ee : es.toList.map (strOf ∘ fun x => x.2) = es.toList.map keyT := List.map_congr_left fun e he => by
      obtain ⟨z, tk, e1, _⟩ := g e he
      show strOf e.2 = keyT e
      unfold keyT
      rw [e1]
      rfl
    exact ee ▸ q
  refine wpAny_bind (wpAny_newList ?_ (by rw [hvl, sizeLine_eq]; omega))
  have hoL : (s1.heap.push (seqObj "list" vs.toArray 0)).get? s1.heap.objs.size = some (seqObj "list" vs.toArray 0) := Heap.get?_push_size _ rfl
  refine wpAny_bind (wpAny_holding (wpAny_call_entry slot_list_sort ⟨_, hoL, rfl⟩ entry_list_sort (list_sort_treeK strKind_oneLt hoL hS.keysOf (fun v₁ v₂ rest e => keyKind_strs (by rw [← e]; exact hS)) (by rw [hvl]; exact h64) fun st' hp hs => ⟨_, rfl, ?_⟩) (args_list_sort _)))
  obtain ⟨ss, h1, h2, h3⟩ := sorted_out_str hS hp hs
  obtain ⟨c, hc⟩ := sortedHeap_at (vs := vs) (out := (arrOf st').map (·.2)) hoL
  have pn : ss.Perm (es.toList.map keyT) := h2.trans pk
  refine wpAny_pure ⟨_, rfl, hQ _ s1.heap.objs.size _ c ss (fun b u e => ?_) g1 o1 hz hc h1 h3 (pn.nodup_iff.mpr nd) (fun k => by rw [pn.mem_iff, ← hm k]) ?_⟩
  · have q := k1 b u e
    have hlt := Heap.lt_size q
    show (sortedHeap (s1.heap.push (seqObj "list" vs.toArray 0)) s1.heap.objs.size vs _).get? b = some u
    rw [sortedHeap_old (Nat.ne_of_lt hlt) (by rw [size_push']; exact Nat.lt_succ_of_lt hlt)]
    exact Heap.get?_push_of_some _ q
  · rw [pn.length_eq, List.length_map, Array.length_toList]
    exact hn
end
/-! ### over the layer -/
def SetTO (w : World) (a : Addr) (S : Str → Bool) (n : Nat) : HO := .ext fun h => SetT w h a S n
theorem setTO_new {w : World} {P : Program} {H : Hp} {h : Heap} {a : Addr} {S : Str → Bool} {n : Nat} (R : SetT w h a S n) : ObjOk P w H h a (SetTO w a S n) :=
  let ⟨o, _, _, _, ho, _⟩ := id R
  ⟨R, ⟨o, ho⟩, fun h1 h2 p k => SetT.at p k⟩
section
variable {X : Cx}
theorem setTO_get {pins : List (Addr × Obj)} {σ : L2.St} {H : Hp} {s : Shared} {a : Addr} {S : Str → Bool} {n : Nat} (I : Inv X pins σ H s) (ha : H a = some (SetTO X.w a S n)) : SetT X.w s.heap a S n := (I.hok a _ ha).1
/-- sorted(a set of texts) -/
def rSortedT (w : World) : List V → Hp → VK → Prop := fun vs H Q => ∃ (a : Addr) (S : Str → Bool) (n : Nat), vs = [V.ref a] ∧ H a = some (SetTO w a S n) ∧ n < 64 ∧
  ∀ (ns : List Str) (p : Addr), sortedS ns = true → ns.Nodup → (∀ k, k ∈ ns ↔ S k = true) → ns.length = n → H p = none → Q (.ref p) (upd H p (.lst (ns.map V.str)))
theorem cr_sortedT (hc : X.calm = true) : CallR X (.builtin "sorted") (rSortedT X.w) := by
  intro pins s σ H vs us Q I r h
  obtain ⟨a, S, n, rfl, ha, h64, q⟩ := h
  rw [Vals.ref1 r]
  refine sorted_setT (setTO_get I ha) (I.ok.hd hc) h64 fun s' p out c ns k g o hp hg hi hs hd hm hl => ?_
  have hlen : (ns.map V.str).length ≤ sizeLine := by rw [List.length_map, hl, sizeLine_eq]; omega
  have hn : H p = none := I.hok.fresh hp
  have J : Inv X pins σ (upd H p (.lst (ns.map V.str))) { s with heap := s'.heap, gens := s'.gens, drawn := s'.drawn, toks := s'.toks } :=
    I.call (ch := []) (Un.laid k hp hn) (I.hok.laid k hp ⟨hlen, out.toList, c, vals_of_strs hi, hg⟩) (by rw [g]; exact I.bare) (fun _ z => nomatch z)
  have e : s' = { s with heap := s'.heap, gens := s'.gens, drawn := s'.drawn, toks := s'.toks } := by
    cases s'
    cases s
    cases o
    rfl
  exact e ▸ ⟨.ref p, _, J, rfl, q ns p hs hd hm hl hn⟩
end
end VT
namespace VT
open PySem PySem.Spec PyProof.Rows L2 PpSet
section
variable {X : Cx}
/-- one text more in the set at D -/
def AddT (w : World) (D : Addr) (y : V) (H : Hp) (k : Hp → Prop) : Prop := ∃ (c : Str) (S : Str → Bool) (n : Nat), y = .str c ∧ H D = some (SetTO w D S n) ∧ n + 1 < scanBound ∧ k (upd H D (SetTO w D (fun j => S j || decide (j = c)) (if S c = true then n else n + 1)))
/-- {elt for target in iter if ..}, elt a text: D the new set -/
def tScT (w : World) (wi : TI) (g : TG) (tt : TT) (te : TE) (vs : List Nat) : TE := fun σ H Q => wi σ H fun J H1 => ∀ D, H1 D = none → ∃ W : Nat → Nat → Hp → Prop, (∃ m, W 0 m (upd H1 D (SetTO w D (fun _ => false) 0))) ∧ ∀ i m H, W i m H →
  (J.stop i H ∧ Q (.ref D) H) ∨ (J.go i H ∧ ∃ Nx : Hp → Prop, (∀ H', Nx H' → ∃ m', m' < m ∧ W (i + 1) m' H') ∧ ∀ x H', J.yld i H x H' → g x (wipe σ vs) H' fun σ2 H2 => wipe σ2 vs = wipe σ vs ∧ tt σ2 H2 fun b H3 =>
    if b = true then te σ2 H3 fun y H4 => AddT w D y H4 Nx else Nx H3)
end
end VT
namespace KX
open PySem PySem.Spec PyProof.Rows L2
/-! ### what the top leaves: built-in names -/
structure Blt (mg : Str → Option Value) : Prop where
  len : mg "len" = none
  int : mg "int" = none
  range : mg "range" = none
  isinstance : mg "isinstance" = none
  tuple : mg "tuple" = none
  list : mg "list" = none
  set : mg "set" = none
  sorted : mg "sorted" = none
  all : mg "all" = none
  enumerate : mg "enumerate" = none
section
variable {P : Program} {w : World} {K : PySem.W.Frag} {mg : Str → Option Value} {base : Heap}
/-! ### _law_cell, _law_pool, _law_draw -/
def spCellV (K : PySem.W.Frag) : Sp := fun vs H Q _ => ∃ (a : Addr) (ns : List Int) (k : Nat), vs = [.ref a, .int k] ∧ SqL K H a (ns.map V.int) ∧ ∀ z : Int, Q (.int z) H
theorem sc_pool : FnScope ["_law_cell_here", "_law_rest"] ["_law_cell_here"] (defScope s_law_pool) := ⟨rfl, rfl, rfl, by decide +kernel, rfl, by decide +kernel, by decide +kernel⟩
/-- a pool stands at p -/
def PoolAt (H : Hp) (p : Addr) : Prop := ∃ x y z : Int, H p = some (.lst [.int x, .int y, .int z])
def spPool : Sp := fun vs H Q _ => ∃ z : Int, vs = [.int z] ∧ ∀ (p : Addr) (x y z : Int), H p = none → Q (.ref p) (upd H p (.lst [.int x, .int y, .int z]))
theorem ok_pool {f : Addr} {fd : FuncData} (F : Fun K "_law_pool" "_law_pool" s_law_pool f fd) (B : Blt mg) : FnOk P w K mg base CX0 1 f fd ["_law_cell_here"] spPool := by
  refine F.ok sc_pool (fun vs H Q E h => ?_) (fun cdv A outer s H vs Q E hr h => ?_)
  · obtain ⟨z, rfl, _⟩ := h
    rfl
  · obtain ⟨z, rfl, q⟩ := h
    refine ⟨_, pss_cons (ps_set (i := 1) sc_pool.nd rfl (.inl rfl) pe_int)
      (pss_cons (ps_if (pt_cmpR op_ge (pv 0) (pe_op op_pow pe_int pe_int) (nomark _)) (pss_one (ps_set (i := 1) sc_pool.nd rfl (.inl rfl) (pv 0))) pss_nil)
      (pss_one (ps_ret (pe_lst (pa_cons (pe_op op_mod (pe_callTy call_int1 (by rfl) B.int (by decide +kernel) (pa_cons (pv 0) pa_nil)) pe_int) (pa_cons (pv 1) (pa_cons pe_int pa_nil))))))), ?_⟩
    have fin : ∀ (b : Int), (fun (D : Ends) (σ : L2.St) (H : Hp) => (tRet (tLst (tCons (tOp (rI (fun _ j => 0 < j) fun i j => .int (i % j)) (tCB (fun xs H Q => (∃ i, xs = [V.int i] ∧ Q (.int i) H) ∨ ∃ k, xs = [.bl k] ∧ Q (.int (if k then 1 else 0)) H) (tCons (tVar 0) tNil)) (tC (.int 2147483629))) (tCons (tVar 1) (tCons (tC (.int 0)) tNil))))) D σ H) { nx := fun _ H' => Q .non H', rt := Q } [some (.int z), some (.int b)] H := fun b => by
      exact ⟨_, rfl, .inl ⟨_, rfl, _, _, rfl, rfl, by show (0 : Int) < 2147483629; decide, _, rfl, by show 3 ≤ sizeLine; decide, fun l hl => q l _ _ _ hl⟩⟩
    refine ⟨_, rfl, _, _, rfl, rfl, ?_, _, _, rfl, rfl, _, rfl, ite2 (fun e => ?_) (fun e => ?_)⟩
    · exact ⟨by decide, by decide, by decide⟩
    · exact ⟨_, rfl, fin z⟩
    · exact fin 0
theorem sc_draw : FnScope ["_law_pool_here", "_law_many", "_law_digit", "_law_number"] ["_law_pool_here", "_law_many"] (defScope s_law_draw) := ⟨rfl, rfl, rfl, by decide +kernel, rfl, by decide +kernel, by decide +kernel⟩
def spDraw : Sp := fun vs H Q _ => ∃ (p : Addr) (m : Int), vs = [.ref p, .int m] ∧ PoolAt H p ∧ 0 < m ∧ m < 2 ^ 64 ∧ ∀ d x y z : Int, 0 ≤ d → d < m → Q (.int d) (upd H p (.lst [.int x, .int y, .int z]))
theorem upd_upd {H : Hp} {p : Addr} {o o' : HO} : upd (upd H p o) p o' = upd H p o' := by
  funext b
  unfold upd
  by_cases e : b = p
  · rw [if_pos e, if_pos e]
  · rw [if_neg e, if_neg e, if_neg e]
theorem emod_lt64 {x m : Int} (h : 0 < m) (hm : m < 2 ^ 64) : -(2 ^ 64) < x % m ∧ x % m < 2 ^ 64 := by
  have h1 := Int.emod_nonneg x (by omega : m ≠ 0)
  have h2 := Int.emod_lt_of_pos x h
  omega
theorem ok_draw {f : Addr} {fd : FuncData} (F : Fun K "_law_draw" "_law_draw" s_law_draw f fd) (B : Blt mg) : FnOk P w K mg base CX0 1 f fd ["_law_pool_here", "_law_many"] spDraw := by
  refine F.ok sc_draw (fun vs H Q E h => ?_) (fun cdv A outer s H vs Q E hr h => ?_)
  · obtain ⟨p, m, rfl, _⟩ := h
    rfl
  · obtain ⟨p, m, rfl, ⟨x, y, z, hp⟩, h0, h1, q⟩ := h
    refine ⟨_, pss_cons (ps_asg (pe_op op_add (pe_ix ix_list (pv 0) pe_int (fun _ _ => rfl)) pe_int) (pg_sub (pv 0) pe_int set_list))
      (pss_cons (ps_if (pt_cmpR op_gt (pe_ix ix_list (pv 0) pe_int (fun _ _ => rfl)) pe_int (nomark _))
        (pss_cons (ps_set (i := 2) sc_draw.nd rfl (.inl rfl) (pe_op op_mod (pe_callTy call_int1 (by rfl) B.int (by decide +kernel) (pa_cons (pe_ix ix_list (pv 0) pe_int (fun _ _ => rfl)) pa_nil)) (pv 1)))
        (pss_cons (ps_asg (pe_op op_fdivW (pe_ix ix_list (pv 0) pe_int (fun _ _ => rfl)) (pv 1)) (pg_sub (pv 0) pe_int set_list))
        (pss_one (ps_ret (pv 2))))) pss_nil)
      (pss_cons (ps_set (i := 3) sc_draw.nd rfl (.inl rfl) (pe_op op_mod (pe_callTy call_int1 (by rfl) B.int (by decide +kernel) (pa_cons (pe_op op_mul (pe_op op_add (pe_op op_add (pe_ix ix_list (pv 0) pe_int (fun _ _ => rfl)) (pe_op op_mul pe_int (pe_ix ix_list (pv 0) pe_int (fun _ _ => rfl)))) pe_int) pe_int) pa_nil)) pe_int))
      (pss_cons (ps_set (i := 3) sc_draw.nd rfl (.inl rfl) (pe_op op_mod (pe_callTy call_int1 (by rfl) B.int (by decide +kernel) (pa_cons (pe_op op_mul (pv 3) (pe_op op_add (pe_op op_fdiv (pv 3) pe_int) pe_int)) pa_nil)) pe_int))
      (pss_cons (ps_set (i := 3) sc_draw.nd rfl (.inl rfl) (pe_op op_mod (pe_callTy call_int1 (by rfl) B.int (by decide +kernel) (pa_cons (pe_op op_mul (pv 3) (pe_op op_add (pe_op op_fdiv (pv 3) pe_int) pe_int)) pa_nil)) pe_int))
      (pss_one (ps_ret (pe_op op_mod (pe_callTy call_int1 (by rfl) B.int (by decide +kernel) (pa_cons (pe_op op_fdiv (pv 3) pe_int) pa_nil)) (pv 1)))))))), ?_⟩
    -- pool[2] = pool[2] + 1
    refine ⟨_, rfl, p, _, _, .int z, rfl, rfl, .inl (.inl hp), atI_nat (j := 2) rfl, _, _, rfl, rfl, ?_⟩
    refine ⟨_, rfl, p, _, _, 2, rfl, rfl, hp, rfl, ?_⟩
    have hp1 : upd H p (.lst [.int x, .int y, .int (z + 1)]) p = some (.lst [.int x, .int y, .int (z + 1)]) := upd_same
    -- if pool[1] > 0
    refine ⟨_, rfl, p, _, _, .int y, rfl, rfl, .inl (.inl hp1), atI_nat (j := 1) rfl, _, _, rfl, rfl, _, rfl, ite2 (fun e => ?_) (fun e => ?_)⟩
    · refine ⟨_, rfl, p, _, _, .int y, rfl, rfl, .inl (.inl hp1), atI_nat (j := 1) rfl, .inl ⟨_, rfl, _, rfl, _, _, rfl, rfl, h0, ?_⟩⟩
      refine ⟨_, rfl, p, _, _, .int y, rfl, rfl, .inl (.inl hp1), atI_nat (j := 1) rfl, _, rfl, _, _, rfl, rfl, wide_div (b := 64) h0 (by omega) (by decide) (by decide), ?_⟩
      refine ⟨_, rfl, p, _, _, 1, rfl, rfl, hp1, rfl, _, rfl, ?_⟩
      rw [upd_upd]
      exact q _ _ _ _ (Int.emod_nonneg y (by omega)) (Int.emod_lt_of_pos y h0)
    · refine ⟨_, rfl, p, _, _, .int x, rfl, rfl, .inl (.inl hp1), atI_nat (j := 0) rfl, _, rfl, p, _, _, .int (z + 1), rfl, rfl, .inl (.inl hp1), atI_nat (j := 2) rfl, _, _, rfl, rfl, .inl ⟨by decide, by decide⟩, _, _, rfl, rfl, _, _, rfl, rfl, _, _, rfl, rfl, .inr ⟨by decide, by decide⟩, .inl ⟨_, rfl, _, _, rfl, rfl, by show (0 : Int) < 2147483647; decide, ?_⟩⟩
      refine ⟨_, rfl, _, rfl, _, _, rfl, rfl, ⟨by decide, by decide⟩, _, _, rfl, rfl, _, _, rfl, rfl, .inl (emod_lt64 (by decide) (by decide)), .inl ⟨_, rfl, _, _, rfl, rfl, by show (0 : Int) < 2147483647; decide, ?_⟩⟩
      refine ⟨_, rfl, _, rfl, _, _, rfl, rfl, ⟨by decide, by decide⟩, _, _, rfl, rfl, _, _, rfl, rfl, .inl (emod_lt64 (by decide) (by decide)), .inl ⟨_, rfl, _, _, rfl, rfl, by show (0 : Int) < 2147483399; decide, ?_⟩⟩
      refine ⟨_, rfl, _, _, rfl, rfl, ⟨by decide, by decide⟩, .inl ⟨_, rfl, _, rfl, _, _, rfl, rfl, h0, ?_⟩⟩
      exact q _ _ _ _ (Int.emod_nonneg _ (by omega)) (Int.emod_lt_of_pos _ h0)
end
end KX
namespace KX
open PySem PySem.Spec PyProof.Rows L2
/-! ### _law_name -/
/-- 1 to 12 letters from a to z -/
structure NameOk (z : Str) : Prop where
  lo : 1 ≤ z.cps.toList.length
  hi : z.cps.toList.length ≤ 12
  az : ∀ c ∈ z.cps.toList, 97 ≤ c ∧ c ≤ 122
theorem cps_app (x y : Str) : (x ++ y).cps.toList = x.cps.toList ++ y.cps.toList := PyProof.Rows.cps_toList_append x y
theorem len_cps (x : Str) : x.length = x.cps.toList.length := by
  show x.cps.size = _
  rw [Array.length_toList]
theorem p26 (l : Nat) (h : l < 12) : (26 : Int) ^ (12 - l) = 26 * 26 ^ (11 - l) := by
  have e : 12 - l = (11 - l) + 1 := by omega
  rw [e, Int.pow_succ, Int.mul_comm]
theorem nil_cps : ("" : Str).cps.toList = [] := by decide +kernel
/-- the number that letters tell -/
def bval : List Nat → Int
  | [] => 0
  | c :: cs => ((c : Int) - 96) * 26 ^ cs.length + bval cs
/-- between two turns of the loop of _law_name: the letters so far and what is left -/
structure NmInv (z : Str) (r : Int) : Prop where
  lo : 0 ≤ r
  le : z.cps.toList.length ≤ 12
  up : r ≤ 26 ^ (12 - z.cps.toList.length)
  st : 0 < z.cps.toList.length → r < 26 ^ (12 - z.cps.toList.length)
  az : ∀ c ∈ z.cps.toList, 97 ≤ c ∧ c ≤ 122
  one : r = 0 → 1 ≤ z.cps.toList.length
theorem nm_turn {z : Str} {r : Int} {c : Nat} (I : NmInv z r) (h : 0 < r) (hc : 97 ≤ c ∧ c ≤ 122) : NmInv ((⟨#[c]⟩ : Str) ++ z) ((r - 1) / 26) ∧ z.cps.toList.length < 12 := by
  have hl : z.cps.toList.length < 12 := by
    have h1 := I.le
    have h2 := I.st
    by_cases e : z.cps.toList.length = 12
    · rw [e] at h2
      have h3 := h2 (by decide)
      simp at h3
      omega
    · omega
  have el : ((⟨#[c]⟩ : Str) ++ z).cps.toList.length = z.cps.toList.length + 1 := by
    rw [cps_app, List.length_append]
    show 1 + _ = _
    omega
  have e2 : (26 : Int) ^ (12 - (z.cps.toList.length + 1)) = 26 ^ (11 - z.cps.toList.length) := by
    congr 1
    omega
  have hlt : (r - 1) / 26 < 26 ^ (11 - z.cps.toList.length) := by
    have h1 := I.up
    rw [p26 _ hl] at h1
    omega
  refine ⟨⟨by omega, by rw [el]; omega, by rw [el, e2]; omega, fun _ => by rw [el, e2]; exact hlt, fun d hd => ?_, fun _ => by rw [el]; omega⟩, hl⟩
  rw [cps_app] at hd
  rcases List.mem_append.mp hd with q | q
  · have q' : d = c := by simpa using q
    rw [q']
    exact hc
  · exact I.az d q
theorem nm_val {n r : Int} {c : Nat} {z : Str} (ec : (c : Int) = 97 + (r - 1) % 26) (ev : n + 1 = r * 26 ^ z.cps.toList.length + bval z.cps.toList) :
    n + 1 = (r - 1) / 26 * 26 ^ ((⟨#[c]⟩ : Str) ++ z).cps.toList.length + bval ((⟨#[c]⟩ : Str) ++ z).cps.toList := by
  rw [cps_app]
  show n + 1 = (r - 1) / 26 * 26 ^ (z.cps.toList.length + 1) + (((c : Int) - 96) * 26 ^ z.cps.toList.length + bval z.cps.toList)
  have e : r = 26 * ((r - 1) / 26) + ((c : Int) - 96) := by omega
  rw [ev, Int.pow_succ]
  generalize (26 : Int) ^ z.cps.toList.length = q
  have : r * q = (r - 1) / 26 * (q * 26) + ((c : Int) - 96) * q := by
    conv => lhs; rw [e]
    rw [Int.add_mul, Int.mul_comm 26, Int.mul_assoc, Int.mul_comm 26 q]
  omega
abbrev abc : Str := "abcdefghijklmnopqrstuvwxyz"
theorem abc_at (i : Int) (h0 : 0 ≤ i) (h1 : i < 26) : ∃ c : Nat, atI abc.cps.toList i = some c ∧ (97 ≤ c ∧ c ≤ 122) ∧ (c : Int) = 97 + i := by
  obtain ⟨n, rfl⟩ := Int.eq_ofNat_of_zero_le h0
  have hn : n < 26 := by omega
  have all : ∀ m, m < 26 → abc.cps.toList[m]? = some (97 + m) := by decide +kernel
  exact ⟨97 + n, atI_nat (all n hn), ⟨by omega, by omega⟩, by omega⟩
section
variable {P : Program} {w : World} {K : PySem.W.Frag} {mg : Str → Option Value} {base : Heap}
theorem sc_name : FnScope ["_law_number", "_law_letters", "_law_left"] ["_law_number"] (defScope s_law_name) := ⟨rfl, rfl, rfl, by decide +kernel, rfl, by decide +kernel, by decide +kernel⟩
def spName : Sp := fun vs H Q _ => ∃ n : Int, vs = [.int n] ∧ 0 ≤ n ∧ n < 26 ^ 12 ∧ ∀ z, NameOk z → bval z.cps.toList = n + 1 → Q (.str z) H
theorem ok_name {f : Addr} {fd : FuncData} (F : Fun K "_law_name" "_law_name" s_law_name f fd) (B : Blt mg) : FnOk P w K mg base CX0 1 f fd ["_law_number"] spName := by
  refine F.ok sc_name (fun vs H Q E h => ?_) (fun cdv A outer s H vs Q E hr h => ?_)
  · obtain ⟨n, rfl, _⟩ := h
    rfl
  · obtain ⟨n, rfl, h0, h1, q⟩ := h
    refine ⟨_, pss_cons (ps_set (i := 1) sc_name.nd rfl (.inl rfl) pe_str)
      (pss_cons (ps_set (i := 2) sc_name.nd rfl (.inl rfl) (pe_op op_add (pv 0) pe_int))
      (pss_cons (ps_while PassesOwn.never (pt_cmpR op_gt (pv 2) pe_int (nomark _))
        (pss_cons (ps_set (i := 2) sc_name.nd rfl (.inl rfl) (pe_op op_sub (pv 2) pe_int))
        (pss_cons (ps_set (i := 1) sc_name.nd rfl (.inl rfl) (pe_op op_add_str (pe_ix ix_str pe_str (pe_op op_mod (pe_callTy call_int1 (by rfl) B.int (by decide +kernel) (pa_cons (pv 2) pa_nil)) pe_int) (fun _ _ => rfl)) (pv 1)))
        (pss_one (ps_set (i := 2) sc_name.nd rfl (.inl rfl) (pe_op op_fdiv (pv 2) pe_int))))))
      (pss_one (ps_ret (pv 1))))), ?_⟩
    refine ⟨_, rfl, _, _, rfl, rfl, fun m σ H2 => ∃ (z : Str) (r : Int), σ = [some (.int n), some (.str z), some (.int r)] ∧ H2 = H ∧ NmInv z r ∧ m = r.toNat ∧ n + 1 = r * 26 ^ z.cps.toList.length + bval z.cps.toList, ⟨_, _, _, rfl, rfl, ?_, rfl, ?_⟩, ?_⟩
    · exact ⟨by omega, by decide, by show n + 1 ≤ 26 ^ 12; omega, fun z => absurd z (by decide), fun c hc => absurd hc (by rw [nil_cps]; exact List.not_mem_nil), fun z => by omega⟩
    · rw [nil_cps]
      show n + 1 = (n + 1) * 26 ^ 0 + 0
      rw [Int.pow_zero]
      omega
    · rintro m σ H2 ⟨z, r, rfl, rfl, I, rfl, ev⟩
      refine ⟨_, rfl, _, _, rfl, rfl, _, rfl, ?_⟩
      by_cases e : 0 < r
      · rw [decide_eq_true e]
        obtain ⟨c, hc, hz, ec⟩ := abc_at ((r - 1) % 26) (Int.emod_nonneg _ (by decide)) (Int.emod_lt_of_pos _ (by decide))
        obtain ⟨I2, hl⟩ := nm_turn I e hz
        refine ⟨fun σ' H' => ∃ (z' : Str) (r' : Int), σ' = [some (.int n), some (.str z'), some (.int r')] ∧ H' = H2 ∧ NmInv z' r' ∧ r'.toNat < r.toNat ∧ n + 1 = r' * 26 ^ z'.cps.toList.length + bval z'.cps.toList, ?_, ?_⟩
        · rintro σ' H' ⟨z', r', rfl, rfl, I', hm, ev'⟩
          exact ⟨_, hm, _, _, rfl, rfl, I', rfl, ev'⟩
        · refine ⟨_, rfl, _, _, rfl, rfl, _, rfl, .inl ⟨_, rfl, _, _, rfl, rfl, by show (0 : Int) < 26; decide, abc, _, c, rfl, rfl, by decide +kernel, hc, _, rfl, _, _, rfl, rfl, ?_, ?_⟩⟩
          · rw [len_cps, len_cps]
            show 1 + _ ≤ sizeLine
            rw [sizeLine_eq]
            omega
          · refine ⟨_, rfl, _, _, rfl, rfl, ⟨by decide, by decide⟩, _, _, rfl, rfl, I2, by omega, ?_⟩
            exact nm_val ec ev
      · rw [decide_eq_false e]
        refine ⟨_, rfl, q z ⟨I.one (by have := I.lo; omega), I.le, I.az⟩ ?_⟩
        have r0 : r = 0 := by have := I.lo; omega
        rw [ev, r0, Int.zero_mul, Int.zero_add]
end
end KX
namespace KX
open PySem PySem.Spec PyProof.Rows L2
/-! ### _law_names -/
/-- what stood stands, but what is at p -/
def SameX (p : Addr) (H H' : Hp) : Prop := ∀ b o, b ≠ p → H b = some o → H' b = some o
theorem SameX.refl {p : Addr} {H : Hp} : SameX p H H := fun _ _ _ e => e
theorem SameX.trans {p : Addr} {H H1 H2 : Hp} (a : SameX p H H1) (b : SameX p H1 H2) : SameX p H H2 := fun c o n e => b c o n (a c o n e)
theorem SameX.at {p : Addr} {H : Hp} {o : HO} : SameX p H (upd H p o) := fun _ _ n e => by rw [upd_ne n]; exact e
theorem SameX.new {p q : Addr} {H : Hp} {o : HO} (h : H q = none) : SameX p H (upd H q o) := fun _ _ _ e => by rw [upd_ne (ne_of_none e h)]; exact e
theorem SameX.of {p : Addr} {H H' : Hp} (h : Same H H') : SameX p H H' := fun _ _ _ e => h _ _ e
/-- what is at p and q may change -/
def SameXX (p q : Addr) (H H' : Hp) : Prop := ∀ b o, b ≠ p → b ≠ q → H b = some o → H' b = some o
def Nm (n : Int) : Prop := 0 ≤ n ∧ n < 26 ^ 12
/-- the number that is tried at the j-th turn: a new one, or all from the first on are taken -/
abbrev nmM : Int := 26 ^ 12
def NmAt (ns : List Int) (j : Nat) (n : Int) : Prop := n ∉ ns ∨ ∃ n0, Nm n0 ∧ n = (n0 + j) % 26 ^ 12 ∧ ∀ t : Nat, t < j → (n0 + t) % 26 ^ 12 ∈ ns
theorem NmAt.start {ns : List Int} {n : Int} (h : Nm n) : NmAt ns 0 n := .inr ⟨n, h, by unfold Nm at h; omega, fun t ht => absurd ht (Nat.not_lt_zero t)⟩
theorem NmAt.step {ns : List Int} {j : Nat} {n : Int} (h : NmAt ns j n) (i : n ∈ ns) : NmAt ns (j + 1) ((n + 1) % 26 ^ 12) := by
  rcases h with h | ⟨n0, h0, e, ht⟩
  · exact absurd i h
  · refine .inr ⟨n0, h0, by omega, fun t hlt => ?_⟩
    by_cases c : t = j
    · subst c
      exact e ▸ i
    · exact ht t (by omega)
theorem nd_lenI : ∀ {fs U : List Int}, fs.Nodup → (∀ x ∈ fs, x ∈ U) → fs.length ≤ U.length
  | [], _, _, _ => Nat.zero_le _
  | x :: r, U, nd, h => by
    obtain ⟨n1, n2⟩ := List.nodup_cons.mp nd
    have hx := h x List.mem_cons_self
    have q := nd_lenI (fs := r) (U := U.erase x) n2 fun y hy => by
      have ne : y ≠ x := fun e => n1 (e ▸ hy)
      exact (List.mem_erase_of_ne ne).mpr (h y (List.mem_cons_of_mem _ hy))
    rw [List.length_erase_of_mem hx] at q
    have := List.length_pos_of_mem hx
    rw [List.length_cons]
    omega
theorem NmAt.new {ns : List Int} {j : Nat} {n : Int} (h : NmAt ns j n) (e : ns.length ≤ j) (_ : ns.Nodup) (hj : j ≤ 1000) : n ∉ ns := by
  rcases h with h | ⟨n0, h0, en, ht⟩
  · exact h
  · intro i
    have nd : ((List.range (j + 1)).map fun t : Nat => (n0 + (t : Int)) % 26 ^ 12).Nodup := by
      refine List.pairwise_map.mpr ?_
      refine List.Pairwise.imp_of_mem ?_ List.nodup_range
      intro a b ha hb ne z
      have ha := List.mem_range.mp ha
      have hb := List.mem_range.mp hb
      omega
    have := nd_lenI (U := ns) nd fun x hx => by
      obtain ⟨t, ht', rfl⟩ := List.mem_map.mp hx
      have := List.mem_range.mp ht'
      by_cases c : t = j
      · subst c
        exact en ▸ i
      · exact ht t (by omega)
    rw [List.length_map, List.length_range] at this
    omega
theorem nd_snoc {α : Type} {l : List α} {x : α} (h : l.Nodup) (n : x ∉ l) : (l ++ [x]).Nodup := List.nodup_append.mpr ⟨h, by simp, fun a ha b hb q => by rw [List.mem_singleton.mp hb] at q; exact n (q ▸ ha)⟩
theorem nd_of_vals {ns : List Int} {zs : List Str} (h : ns.Nodup) (e : zs.map (fun z => bval z.cps.toList) = ns.map (· + 1)) : zs.Nodup := by
  have : (zs.map fun z => bval z.cps.toList).Nodup := by
    rw [e]
    exact List.pairwise_map.mpr (h.imp fun ne z => ne (by omega))
  exact (List.pairwise_map.mp this).imp fun ne z => ne (by rw [z])
theorem inV_intsB {x : Int} : ∀ {ns : List Int}, inV (V.int x) (ns.map V.int) = decide (x ∈ ns)
  | [] => rfl
  | n :: ns => by
    rw [List.map_cons]
    show (eqV (V.int n) (V.int x) || inV (V.int x) (ns.map V.int)) = _
    rw [inV_intsB]
    show (decide (n = x) || _) = _
    simp [List.mem_cons, eq_comm]
theorem in_ints {x : Int} {ns : List Int} (h : inV (V.int x) (ns.map V.int) = true) : x ∈ ns := of_decide_eq_true (inV_intsB ▸ h)
theorem notin_ints {x : Int} {ns : List Int} (h : inV (V.int x) (ns.map V.int) = false) : x ∉ ns := of_decide_eq_false (inV_intsB ▸ h)
section
variable {P : Program} {w : World} {K : PySem.W.Frag} {mg : Str → Option Value} {base : Heap}
theorem sc_names : FnScope ["_law_pool_here", "_law_many", "_law_numbers", "_law_k", "_law_number", "_law_again"] ["_law_pool_here", "_law_many"] (defScope s_law_names) := ⟨rfl, rfl, rfl, by decide +kernel, rfl, by decide +kernel, by decide +kernel⟩
def spNames : Sp := fun vs H Q _ => ∃ (p : Addr) (m : Nat), vs = [.ref p, .int m] ∧ PoolAt H p ∧ m ≤ 1000 ∧
  ∀ (l : Addr) (zs : List Str) (H' : Hp), H l = none → H' l = some (.lst (zs.map V.str)) → (∀ z ∈ zs, NameOk z) → zs.length = m → PoolAt H' p → SameX p H H' → zs.Nodup → Q (.ref l) H'
theorem flat_ints (ns : List Int) : (ns.map V.int).all flatV = true := by
  rw [List.all_map]
  exact List.all_eq_true.mpr fun _ _ => rfl
theorem get_int {ns : List Int} {i : Nat} {y : V} (h : (ns.map V.int)[i]? = some y) : ∃ z, y = .int z ∧ z ∈ ns := by
  rw [List.getElem?_map] at h
  cases e : ns[i]? with
  | none => rw [e] at h; cases h
  | some z => rw [e] at h; exact ⟨z, (Option.some.inj h).symm, List.mem_of_getElem? e⟩
theorem ok_names {f fD fN : Addr} {fd fdD fdN : FuncData} (F : Fun K "_law_names" "_law_names" s_law_names f fd) (B : Blt mg) (FD : Fun K "_law_draw" "_law_draw" s_law_draw fD fdD) (bD : Binds K fdD ["_law_pool_here", "_law_many"] []) (gD : mg "_law_draw" = some (.ref fD))
    (FN : Fun K "_law_name" "_law_name" s_law_name fN fdN) (bN : Binds K fdN ["_law_number"] []) (gN : mg "_law_name" = some (.ref fN)) : FnOk P w K mg base CX0 2 f fd ["_law_pool_here", "_law_many"] spNames := by
  have GD : FnOk P w K mg base CX0 1 fD fdD ["_law_pool_here", "_law_many"] spDraw := ok_draw FD B
  have GN : FnOk P w K mg base CX0 1 fN fdN ["_law_number"] spName := ok_name FN B
  refine F.ok sc_names (fun vs H Q E h => ?_) (fun cdv A outer s H vs Q E hr h => ?_)
  · obtain ⟨p, m, rfl, _⟩ := h
    rfl
  · obtain ⟨p, m, rfl, hp, hm, q⟩ := h
    refine ⟨_, pss_cons (ps_set (i := 2) sc_names.nd rfl (.inl rfl) (pe_lst pa_nil))
      (pss_cons (ps_for PassesOwn.never rfl (pi_range1 rfl B.range (pa_cons (pv 1) pa_nil)) (pg_name (i := 3) sc_names.nd rfl (.inl rfl))
        (pss_cons (ps_set (i := 4) sc_names.nd rfl (.inl rfl) (pe_call GD hr (by rfl) gD FD.kp bD .nil pass0 (pa_cons (pv 0) (pa_cons pe_int pa_nil))))
        (C8.pss_cut (ps_if (pt_cmpR op_eq (pe_call GD hr (by rfl) gD FD.kp bD .nil pass0 (pa_cons (pv 0) (pa_cons pe_int pa_nil))) pe_int (nomark _))
          (pss_one (ps_set (i := 4) sc_names.nd rfl (.inl rfl) (pe_call GD hr (by rfl) gD FD.kp bD .nil pass0 (pa_cons (pv 0) (pa_cons (pe_op op_pow pe_int pe_int) pa_nil))))) pss_nil)
        (pss_cons (ps_for PassesOwn.never rfl (pi_range1 rfl B.range (pa_cons (pv 3) pa_nil)) (pg_name (i := 5) sc_names.nd rfl (.inl rfl))
          (pss_one (ps_if (pt_cmpR op_in_seq (pv 4) (pv 2) rfl)
            (pss_one (ps_set (i := 4) sc_names.nd rfl (.inl rfl) (pe_op op_mod (pe_callTy call_int1 (by rfl) B.int (by decide +kernel) (pa_cons (pe_op op_add (pv 4) pe_int) pa_nil)) (pe_op op_pow pe_int pe_int)))) pss_nil)))
        (pss_one (ps_expr (pe_bm PySem.F.plainAttrs_list PySem.F.slot_list_append PySem.F.type_list_append mt_append (pv 2) (pa_cons (pv 4) pa_nil))))))))
      (pss_one (ps_ret (pe_lc (own := [("_law_number", 4)]) (g := gName 4) (tt := tYes) rfl sc_names.nd (pi_list (pv 2)) (blkOk_by (N := ["_law_pool_here", "_law_many", "_law_numbers", "_law_k", "_law_number", "_law_again"]) (sc := defScope s_law_names) (by decide +kernel))
        (fun _ _ _ _ _ => pg_name (i := 4) sc_names.nd rfl (.inl rfl)) (fun _ _ _ _ _ => pts_nil) (fun _ _ _ _ _ => pe_call GN hr (by rfl) gN FN.kp bN .nil pass0 (pa_cons (pv 4) pa_nil)))))), ?_⟩
    refine ⟨Nat.zero_le _, fun l nl => ?_⟩
    have npl : l ≠ p := by
      obtain ⟨x, y, z, e⟩ := hp
      exact (ne_of_none e nl).symm
    -- for k in range(many)
    refine ⟨_, rfl, m, rfl, by omega, by omega, ?_⟩
    refine for_range (fun i σ H2 => ∃ (ns : List Int) (v3 v4 v5 : Option V), σ = [some (.ref p), some (.int m), some (.ref l), v3, v4, v5] ∧ H2 l = some (.lst (ns.map V.int)) ∧ ns.length = i ∧ (∀ n ∈ ns, Nm n) ∧ PoolAt H2 p ∧ SameX p H H2 ∧ ns.Nodup)
      ⟨[], none, none, none, rfl, upd_same, rfl, (fun n h => by cases h), ?_, SameX.new nl, .nil⟩ ?_ ?_
    · obtain ⟨x, y, z, e⟩ := hp
      exact ⟨x, y, z, by rw [upd_ne npl.symm]; exact e⟩
    · rintro i σ H2 hi ⟨ns, v3, v4, v5, rfl, hl, el, hn, hp2, s2, ndn⟩
      -- number = draw(pool, 26)
      refine ⟨_, rfl, p, 26, rfl, hp2, by decide, by decide, fun d x y z d0 d1 => ?_⟩
      have hp3 : PoolAt (upd H2 p (.lst [.int x, .int y, .int z])) p := ⟨x, y, z, upd_same⟩
      have hl3 : (upd H2 p (.lst [.int x, .int y, .int z])) l = some (.lst (ns.map V.int)) := by rw [upd_ne npl]; exact hl
      -- the rest behind the test
      refine ⟨fun σ H4 => ∃ n : Int, σ = [some (.ref p), some (.int m), some (.ref l), some (.int (0 + (i : Int))), some (.int n), v5] ∧ Nm n ∧ PoolAt H4 p ∧ H4 l = some (.lst (ns.map V.int)) ∧ SameX p H H4, ?_, ?_⟩
      · refine ⟨_, rfl, p, 4, rfl, hp3, by decide, by decide, fun d2 x2 y2 z2 _ _ => ?_⟩
        rw [upd_upd]
        have s4 : ∀ x y z : Int, SameX p H (upd H2 p (.lst [.int x, .int y, .int z])) := fun x y z => s2.trans SameX.at
        have hl4 : ∀ x y z : Int, (upd H2 p (.lst [.int x, .int y, .int z])) l = some (.lst (ns.map V.int)) := fun x y z => by rw [upd_ne npl]; exact hl
        refine ⟨rfl, _, rfl, ite2 (fun e => ?_) (fun e => ?_)⟩
        · refine ⟨_, rfl, _, _, rfl, rfl, ⟨by decide, by decide, by decide⟩, p, _, rfl, ⟨x2, y2, z2, upd_same⟩, by decide, by decide, fun d3 x3 y3 z3 h0 h1 => ?_⟩
          rw [upd_upd]
          exact ⟨d3, rfl, ⟨h0, h1⟩, ⟨x3, y3, z3, upd_same⟩, hl4 _ _ _, s4 _ _ _⟩
        · exact ⟨d, rfl, ⟨d0, Int.lt_trans d1 (by decide)⟩, ⟨x2, y2, z2, upd_same⟩, hl4 _ _ _, s4 _ _ _⟩
      · rintro σ H4 ⟨n, rfl, hnn, hp4, hl4, s4⟩
        -- for again in range(k)
        refine ⟨_, rfl, _, rfl, by omega, by omega, ?_⟩
        refine for_range (fun j σ H5 => ∃ (n : Int) (v5 : Option V), σ = [some (.ref p), some (.int m), some (.ref l), some (.int (0 + (i : Int))), some (.int n), v5] ∧ H5 = H4 ∧ Nm n ∧ NmAt ns j n)
          ⟨n, v5, rfl, rfl, hnn, .start hnn⟩ ?_ ?_
        · rintro j σ H5 hj ⟨n5, v5', rfl, rfl, hn5, at5⟩
          refine ⟨_, rfl, _, rfl, l, _, rfl, .inl (.inl (.inl hl4)), rfl, flat_ints ns, _, rfl, ite2 (fun e => ?_) (fun e => ?_)⟩
          · refine ⟨_, rfl, _, _, rfl, rfl, .inl ⟨_, rfl, _, _, rfl, rfl, ⟨by decide, by decide, by decide⟩, _, _, rfl, rfl, by show (0 : Int) < 26 ^ 12; decide, ?_⟩⟩
            exact ⟨_, _, rfl, rfl, ⟨Int.emod_nonneg _ (by decide), Int.emod_lt_of_pos _ (by decide)⟩, at5.step (in_ints e)⟩
          · exact ⟨n5, _, rfl, rfl, hn5, .inl (notin_ints (by cases z : inV (V.int n5) (ns.map V.int) with | true => exact absurd z e | false => rfl))⟩
        · rintro σ H5 ⟨n5, v5', rfl, rfl, hn5, at5⟩
          -- numbers.append(number)
          refine ⟨_, rfl, .inl ⟨rfl, _, .inl (.inl hl4)⟩, _, rfl, l, _, _, rfl, rfl, hl4, ?_, ?_⟩
          · rw [List.length_map]
            exact small1000 (by omega)
          · refine ⟨ns ++ [n5], _, _, _, rfl, ?_, by rw [List.length_append, el]; rfl, fun k hk => ?_, ?_, fun b o hb e => ?_, nd_snoc ndn (at5.new (by omega) ndn (by omega))⟩
            · rw [upd_same, List.map_append]
              rfl
            · rcases List.mem_append.mp hk with z | z
              · exact hn k z
              · rw [List.mem_singleton.mp z]
                exact hn5
            · obtain ⟨x, y, z, e⟩ := hp4
              exact ⟨x, y, z, by rw [upd_ne npl.symm]; exact e⟩
            · rw [upd_ne (ne_of_none e nl)]
              exact s4 b o hb e
    · rintro σ H2 ⟨ns, v3, v4, v5, rfl, hl, el, hn, hp2, s2, ndn⟩
      -- the names
      refine ⟨_, rfl, l, rfl, ⟨_, .inl (.inl hl)⟩, fun D hD => ?_⟩
      have nDl : l ≠ D := ne_of_none hl hD
      refine lc_list (K := K) (xs := ns.map V.int) (fun i H3 => ∃ zs : List Str, H3 D = some (.lst (zs.map V.str)) ∧ zs.length = i ∧ (∀ z ∈ zs, NameOk z) ∧ Same H2 H3 ∧ zs.map (fun z => bval z.cps.toList) = (ns.take i).map (· + 1)) ⟨[], upd_same, rfl, (fun z h => by cases h), (fun b o e => by rw [upd_ne (ne_of_none e hD)]; exact e), rfl⟩
        (fun i H3 _ ⟨zs, _, _, _, s3, _⟩ => s3.seq (.inl (.inl hl))) ?_ ?_
      · rintro i x H3 hx ⟨zs, hD3, ez, hz, s3, ev3⟩
        obtain ⟨n, rfl, hm⟩ := get_int hx
        have en : ns[i]? = some n := by
          rw [List.getElem?_map] at hx
          cases e : ns[i]? with
          | none => rw [e] at hx; cases hx
          | some m => rw [e] at hx; cases hx; rfl
        have hi : i < (ns.map V.int).length := (List.getElem?_eq_some_iff.mp hx).1
        rw [List.length_map] at hi
        refine ⟨rfl, _, rfl, n, rfl, (hn n hm).1, (hn n hm).2, fun z hzo hzv => ?_⟩
        refine ⟨_, hD3, by rw [List.length_map]; exact small1000 (by omega), zs ++ [z], by rw [upd_same, List.map_append]; rfl, by rw [List.length_append, ez]; rfl, fun y hy => ?_, fun b o e => ?_, ?_⟩
        · rcases List.mem_append.mp hy with h | h
          · exact hz y h
          · rw [List.mem_singleton.mp h]
            exact hzo
        · rw [upd_ne (ne_of_none e hD)]
          exact s3 b o e
        · rw [List.map_append, ev3, List.take_add_one, en, List.map_append]
          show _ ++ [bval z.cps.toList] = _ ++ [n + 1]
          rw [hzv]
      · rintro H3 ⟨zs, hD3, ez, hz, s3, ev3⟩
        rw [List.length_map] at ez
        have hnD : H D = none := by
          cases e : H D with
          | none => rfl
          | some o =>
            by_cases hb : D = p
            · obtain ⟨x, y, z, e2⟩ := hp2
              rw [← hb, hD] at e2
              cases e2
            · have := s2 D o hb e
              rw [hD] at this
              cases this
        exact q D zs H3 hnD hD3 hz (ez.trans el) (let ⟨x, y, z, e⟩ := hp2; ⟨x, y, z, s3 _ _ e⟩) (s2.trans (SameX.of s3)) (nd_of_vals ndn (by rw [ev3, List.length_map, List.take_length]))
end
end KX
namespace KX
open PySem PySem.Spec PyProof.Rows L2
/-! ### steps as data -/
structure Stp where
  a : Int
  w : Str
  b : Int
deriving DecidableEq
def stpD (s : Stp) : PyData := .tuple [.int s.a, .str s.w, .int s.b]
def StepAt (K : PySem.W.Frag) (H : Hp) (v : V) (s : Stp) : Prop := ∃ t, v = .ref t ∧ H t = some (.tup [.int s.a, .str s.w, .int s.b])
abbrev StepsAt (K : PySem.W.Frag) (H : Hp) : List V → List Stp → Prop := Paired (StepAt K H)
section
variable {K : PySem.W.Frag} {H H' : Hp}
theorem StepAt.dp {v : V} {s : Stp} (h : StepAt K H v s) : Dp K H v (stpD s) := by
  obtain ⟨t, rfl, q⟩ := h
  exact .tup (.inl (.inl q)) (.cons (.int _) (.cons (.str _) (.cons (.int _) .nil)))
theorem StepsAt.dp : ∀ {vs : List V} {ss : List Stp}, StepsAt K H vs ss → DpAll K H vs (ss.map stpD)
  | _, _, .nil => .nil
  | _, _, .cons h t => .cons h.dp (StepsAt.dp t)
theorem NameOk.ok {z : Str} (h : NameOk z) : PyData.strOk z = true := by
  unfold PyData.strOk
  rw [← Array.all_toList]
  exact List.all_eq_true.mpr fun c hc => decide_eq_true (by have := (h.az c hc).2; omega)
end
/-! ### _law_many_steps -/
def cnt (ss : List Stp) (a : Int) : Nat := (ss.filter fun s => decide (s.a = a)).length
theorem cnt_app (ss ts : List Stp) (a : Int) : cnt (ss ++ ts) a = cnt ss a + cnt ts a := by
  unfold cnt
  rw [List.filter_append, List.length_append]
theorem cnt_one (s : Stp) (a : Int) : cnt [s] a = if s.a = a then 1 else 0 := by
  unfold cnt
  by_cases e : s.a = a
  · rw [List.filter_cons_of_pos (by rw [decide_eq_true e]), if_pos e]
    rfl
  · rw [List.filter_cons_of_neg (by rw [decide_eq_false e]; decide), if_neg e]
    rfl
/-- steps of a hand over these states and names -/
structure Steps (ss : List Stp) (sts : List Int) (zs : List Str) : Prop where
  nd : ss.Nodup
  sa : ∀ s ∈ ss, s.a ∈ sts
  sb : ∀ s ∈ ss, s.b ∈ sts
  sw : ∀ s ∈ ss, s.w ∈ zs
  lv : ∀ a, cnt ss a ≤ 4
theorem Steps.nil {sts : List Int} {zs : List Str} : Steps [] sts zs := ⟨List.nodup_nil, (fun _ h => by cases h), (fun _ h => by cases h), (fun _ h => by cases h), fun a => by show 0 ≤ 4; decide⟩
theorem Steps.snoc {ss : List Stp} {sts : List Int} {zs : List Str} {s : Stp} (S : Steps ss sts zs) (n : s ∉ ss) (ha : s.a ∈ sts) (hb : s.b ∈ sts) (hw : s.w ∈ zs) (hc : cnt ss s.a < 4) : Steps (ss ++ [s]) sts zs := by
  have mem : ∀ {p : Stp → Prop}, (∀ x ∈ ss, p x) → p s → ∀ x ∈ ss ++ [s], p x := fun {p} h1 h2 x hx => by
    rcases List.mem_append.mp hx with z | z
    · exact h1 x z
    · rw [List.mem_singleton.mp z]
      exact h2
  refine ⟨List.nodup_append.mpr ⟨S.nd, (by simp), fun x hx y hy e => ?_⟩, mem S.sa ha, mem S.sb hb, mem S.sw hw, fun a => ?_⟩
  · rw [List.mem_singleton.mp hy] at e
    exact n (e ▸ hx)
  · rw [cnt_app, cnt_one]
    have := S.lv a
    by_cases e : s.a = a
    · rw [if_pos e, ← e]
      omega
    · rw [if_neg e]
      omega
section
variable {K : PySem.W.Frag} {H H' : Hp}
theorem Rd.keep {a : Addr} {o : HO} (h : ∀ b u, H b = some u → b = a → H' b = some u) (r : Rd H a o) : Rd H' a o := r.imp (fun e => h _ _ e rfl) fun ⟨q, e⟩ => ⟨q, h _ _ e rfl⟩
/-- what is no tuple at p is none that a step names -/
def NoTup (H : Hp) (p : Addr) : Prop := ∀ xs, ¬ Rd H p (.tup xs)
theorem NoTup.lst {p : Addr} {xs : List V} (h : H p = some (.lst xs)) : NoTup H p := fun ys r => by
  rcases r with e | ⟨q, e⟩ <;> rw [h] at e <;> cases e
theorem NoTup.none {p : Addr} (h : H p = Option.none) : NoTup H p := fun ys r => by
  rcases r with e | ⟨q, e⟩ <;> rw [h] at e <;> cases e
theorem SqT.sameX {p a : Addr} {xs : List V} (n : NoTup H p) (s : SameX p H H') (q : SqT K H a xs) : SqT K H' a xs := by
  rcases q with r | q
  · have ne : a ≠ p := fun e => n xs (e ▸ r)
    exact .inl (Rd.keep (fun b u e eb => s b u (eb ▸ ne) e) r)
  · exact .inr q
theorem StepAt.sameX {p : Addr} {v : V} {s : Stp} (n : NoTup H p) (k : SameX p H H') (h : StepAt K H v s) : StepAt K H' v s := let ⟨t, e, q⟩ := h; ⟨t, e, k t _ (fun z => n _ (show Rd H p _ from Or.inl (z ▸ q))) q⟩
theorem StepsAt.sameX {p : Addr} {vs : List V} {ss : List Stp} (n : NoTup H p) (k : SameX p H H') (h : StepsAt K H vs ss) : StepsAt K H' vs ss := Paired.mapP h fun _ _ q => q.sameX n k
theorem StepsAt.same {vs : List V} {ss : List Stp} (k : Same H H') (h : StepsAt K H vs ss) : StepsAt K H' vs ss := Paired.mapP h fun _ _ ⟨t, e, q⟩ => ⟨t, e, k _ _ q⟩
end
end KX
/-! enumerate(a tuple). -/
namespace VE
open PySem PySem.Spec PyProof.Rows
open Sem (wp)
open AutoSeq1 (wpAny_loadPart')
section
variable {prog : Program} {w : World} {A : Around} {E : Value → Shared → Prop} {s : Shared}
end
open L2
/-- the tuple at a, each item in a new pair with its number -/
def Itet (K : PySem.W.Frag) (a : Addr) : It :=
  ⟨fun i H => ∃ (xs : List V) (x : V), SqT K H a xs ∧ xs[i]? = some x, fun i H v H' => ∃ T x, v = .ref T ∧ H T = none ∧ H' = upd H T (.tup [.int (i : Nat), x]) ∧ ∀ xs, SqT K H a xs → xs[i]? = some x, fun i H => ∃ xs : List V, SqT K H a xs ∧ xs.length ≤ i⟩
/-- enumerate of a list or of a tuple, held by the slot j -/
def iEnumS (K : PySem.W.Frag) (j : Nat) : TI := fun σ H R => ∃ a xs, σ[j]? = some (some (.ref a)) ∧ ((SqL K H a xs ∧ R (Ite K a) H) ∨ (SqT K H a xs ∧ R (Itet K a) H))
/-- over a list or a tuple, held by the slot j -/
def iSeqS (K : PySem.W.Frag) (j : Nat) : TI := fun σ H R => ∃ a xs, σ[j]? = some (some (.ref a)) ∧ ((SqL K H a xs ∧ R (Itl K a) H) ∨ (SqT K H a xs ∧ R (Itt K a) H))
theorem pi_seqS {X : Cx} {j : Nat} {x : Str} {p : Pos} {tg : Expr} (hN : X.N[j]? = some x) (hv : Vis X.env.scope x) (hd : (x == ("__debug__" : Str)) = false := by decide) (hcd : (x == ("__classdict__" : Str)) = false := by decide) : PI X tg (.Name x p) (iSeqS X.K j) := by
  refine ⟨fun pins s σ H R I h => ?_⟩
  obtain ⟨a, xs, hs, h | h⟩ := h
  · exact (pi_list (pe_var hN hv hd hcd)).run pins s σ H R I ⟨_, hs, a, rfl, ⟨xs, h.1⟩, h.2⟩
  · exact (pi_tup (pe_var hN hv hd hcd)).run pins s σ H R I ⟨_, hs, a, rfl, ⟨xs, h.1⟩, h.2⟩
end VE
namespace VE
open PySem PySem.Spec PyProof.Rows L2
section
variable {K : PySem.W.Frag} {a : Addr} {xs : List V} {j : Nat} {σ : L2.St} {H H0 : Hp} {g : TG} {tb : TS} {D : Ends}
theorem kL {H H' : Hp} (k : Same H H') (h : SqL K H a xs) : SqL K H' a xs := k.seq h
theorem kT {H H' : Hp} (k : Same H H') (h : SqT K H a xs) : SqT K H' a xs := h.imp (fun r => r.imp (fun e => k _ _ e) fun ⟨o, e⟩ => ⟨o, k _ _ e⟩) id
/-- for x in what the slot j holds -/
theorem for_seqS (hs : σ[j]? = some (some (.ref a))) (hS : SqL K H0 a xs ∨ SqT K H0 a xs) (Pv : Nat → L2.St → Hp → Prop) (h0 : Pv 0 σ H) (hG : ∀ i σ' H', Pv i σ' H' → Same H0 H')
    (step : ∀ i x σ' H', xs[i]? = some x → Pv i σ' H' → g x σ' H' fun σ2 H2 => tb { D with nx := Pv (i + 1), ct := Pv (i + 1), bk := D.nx } σ2 H2)
    (hd : ∀ σ' H', Pv xs.length σ' H' → D.nx σ' H') : tFor (iSeqS K j) g tb D σ H := by
  refine ⟨a, xs, hs, ?_⟩
  rcases hS with h | h
  · exact .inl ⟨kL (hG 0 _ _ h0) h, for_it walk_list Pv h0 (fun i σ' H' _ p => kL (hG i σ' H' p) h) (fun i x σ' H1 H' _ p y => by rw [y.1]; exact step i x σ' H1 y.2 p) hd⟩
  · exact .inr ⟨kT (hG 0 _ _ h0) h, for_it walk_tup Pv h0 (fun i σ' H' _ p => kT (hG i σ' H' p) h) (fun i x σ' H1 H' _ p y => by rw [y.1]; exact step i x σ' H1 y.2 p) hd⟩
open VT
end
end VE
namespace KX
open PySem PySem.Spec PyProof.Rows L2

section
variable {P : Program} {w : World} {K : PySem.W.Frag} {mg : Str → Option Value} {base : Heap}
abbrev nMany : List Str := ["_law_pool_here", "_law_names_here", "_law_states", "_law_many", "_law_steps_here", "_law_k", "_law_leaves", "_law_word", "_law_step", "_law_one"]
def spMany (K : PySem.W.Frag) : Sp := fun vs H Q _ => ∃ (p nl sl : Addr) (m : Nat) (zs : List Str) (sts : List Int), vs = [.ref p, .ref nl, .ref sl, .int m] ∧ PoolAt H p ∧ nl ≠ p ∧ sl ≠ p ∧ SqL K H nl (zs.map V.str) ∧ SqL K H sl (sts.map V.int) ∧
  zs ≠ [] ∧ sts ≠ [] ∧ zs.length ≤ 1000 ∧ sts.length ≤ 1000 ∧ (∀ z ∈ zs, NameOk z) ∧ 1 ≤ m ∧ m ≤ 1000 ∧
  ∀ (l : Addr) (us : List V) (ss : List Stp) (H' : Hp), H l = none → H' l = some (.lst us) → StepsAt K H' us ss → Steps ss sts zs → ss ≠ [] → ss.length ≤ m → PoolAt H' p → SameX p H H' → Q (.ref l) H'
theorem StepAt.same {v : V} {s : Stp} {H H' : Hp} (k : Same H H') (h : StepAt K H v s) : StepAt K H' v s := let ⟨t, e, q⟩ := h; ⟨t, e, k _ _ q⟩
end
end KX
namespace KX
open PySem PySem.Spec PyProof.Rows L2
theorem not_lt1 {c d : Nat} (h : d ≤ c) : ¬ ([c] < [d]) := fun z => by
  cases z with
  | rel q => exact absurd q (by omega)
  | cons q => cases q
/-! ### kinds: is_whole, is_state, is_name, is_row; is_step -/
structure Kin (mg : Str → Option Value) : Prop where
  bool : mg "bool" = none
  str : mg "str" = none
  letters : ∃ t, mg "MOST_LETTERS" = some (.int 12 t)
theorem tyT {K : PySem.W.Frag} {H : Hp} {a : Addr} {xs : List V} (h : SqT K H a xs) : TyX K H (.ref a) (.type "tuple") := by
  rcases h with (e | ⟨o, e⟩) | ⟨o, its, n, e, c, _⟩
  · exact .base (.tup e)
  · exact .fTuple e
  · exact .kTuple e c
theorem tyL {K : PySem.W.Frag} {H : Hp} {a : Addr} {xs : List V} (h : SqL K H a xs) : TyX K H (.ref a) (.type "list") := by
  rcases h with (e | ⟨o, e⟩) | ⟨o, its, n, e, c, _⟩
  · exact .base (.lst e)
  · exact .base (.frz e)
  · exact .kList e c
section
variable {P : Program} {w : World} {K : PySem.W.Frag} {mg : Str → Option Value} {base : Heap}
def spWhole : Sp := fun vs H Q _ => ∃ i : Int, vs = [.int i] ∧ Q (.bl true) H
def spState : Sp := fun vs H Q _ => ∃ i : Int, vs = [.int i] ∧ 0 ≤ i ∧ i ≤ 99 ∧ Q (.bl true) H
theorem sc_isname : FnScope ["value", "letter"] ["value"] (defScope s_is_name) := ⟨rfl, rfl, rfl, by decide +kernel, rfl, by decide +kernel, by decide +kernel⟩
def spIsName : Sp := fun vs H Q _ => ∃ z : Str, vs = [.str z] ∧ NameOk z ∧ ∀ H', Same H H' → Q (.bl true) H'
theorem ok_isname {f : Addr} {fd : FuncData} (F : Fun K "is_name" "is_name" s_is_name f fd) (B : Blt mg) (N : Kin mg) : FnOk P w K mg base CX0 1 f fd ["value"] spIsName := by
  obtain ⟨t12, e12⟩ := N.letters
  refine F.ok sc_isname (fun vs H Q E h => ?_) (fun cdv A outer s H vs Q E hr h => ?_)
  · obtain ⟨z, rfl, _⟩ := h
    rfl
  · obtain ⟨z, rfl, hz, q⟩ := h
    refine ⟨_, pss_cons (ps_if (PW.pt (pw_or (pt_not (pt_val (pe_callB call_isi (by rfl) B.isinstance (by decide +kernel) (pa_cons (pv 0) (pa_cons (pe_bltn rfl N.str (by decide +kernel) (v := .ty "str") rfl) pa_nil)))))
        (pw_or1 (pt_not (pt_chain op_le op_le pe_int (pe_callB call_len_str (by rfl) B.len PySem.boot_len (pa_cons (pv 0) pa_nil)) (pe_glob rfl e12 (v := .int 12) ⟨_, rfl⟩)))))) (pss_one (ps_ret pe_bl)) pss_nil)
      (pss_one (ps_ret (pe_callB (cr_all rfl) (by rfl) B.all (by decide +kernel) (pa_cons (pe_lc (own := [("letter", 1)]) (g := gName 1) (tt := tYes) rfl sc_isname.nd (pi_str (pv 0)) (blkOk_by (N := ["value", "letter"]) (sc := defScope s_is_name) (by decide +kernel))
        (fun _ _ _ _ _ => pg_name (i := 1) sc_isname.nd rfl (.inl rfl)) (fun _ _ _ _ _ => pts_nil) (fun _ _ _ _ _ => pe_chain op_le_str op_le_str pe_str (pv 1) pe_str)) pa_nil)))), ?_⟩
    have lz : z.length ≤ sizeLine := by
      rw [len_cps, sizeLine_eq]
      have := hz.hi
      omega
    have l1 : (1 : Int) ≤ (z.length : Nat) := by
      rw [len_cps]
      have := hz.lo
      omega
    have l2 : ((z.length : Nat) : Int) ≤ 12 := by
      rw [len_cps]
      have := hz.hi
      omega
    refine ⟨_, rfl, _, _, _, _, true, rfl, .ty "str", .base (.str z), kit_ty (by decide +kernel), true, rfl, ?_⟩
    refine ⟨_, rfl, z, rfl, lz, _, _, rfl, rfl, _, rfl, ?_⟩
    rw [decide_eq_true l1]
    refine ⟨_, _, rfl, rfl, _, rfl, ?_⟩
    show if (!decide (((z.length : Nat) : Int) ≤ 12)) = true then _ else _
    rw [decide_eq_true l2]
    -- all([..])
    refine ⟨_, rfl, z, rfl, fun D hD => ?_⟩
    refine lc_it walk_str (fun i H3 => ∃ bs : List Bool, H3 D = some (.lst (bs.map V.bl)) ∧ bs.all id = true ∧ bs.length = i ∧ Same H H3) ⟨[], upd_same, rfl, rfl, fun b o e => by rw [upd_ne (ne_of_none e hD)]; exact e⟩ (fun _ _ _ _ => True.intro) ?_ ?_
    · rintro i x H3 H4 hi ⟨bs, hD3, hall, hl, s3⟩ ⟨rfl, c, hc, rfl⟩
      have hm : c ∈ z.cps.toList := Array.mem_toList_iff.mpr (Array.mem_of_getElem? hc)
      obtain ⟨c1, c2⟩ := hz.az c hm
      refine ⟨rfl, _, rfl, _, _, rfl, rfl, _, rfl, ?_⟩
      have e1 : (!decide ((⟨#[c]⟩ : Str).cps.toList < ("a" : Str).cps.toList)) = true := by
        rw [show ("a" : Str).cps.toList = [97] by decide +kernel]
        rw [decide_eq_false (not_lt1 c1)]
        rfl
      have e2 : (!decide (("z" : Str).cps.toList < (⟨#[c]⟩ : Str).cps.toList)) = true := by
        rw [show ("z" : Str).cps.toList = [122] by decide +kernel]
        rw [decide_eq_false (not_lt1 c2)]
        rfl
      rw [e1]
      refine ⟨_, _, rfl, rfl, ?_⟩
      rw [e2]
      have hsz : z.cps.size ≤ 12 := by rw [← Array.length_toList]; exact hz.hi
      refine ⟨_, hD3, small1000 (by rw [List.length_map]; omega), bs ++ [true], by rw [upd_same, List.map_append]; rfl, ?_, by rw [List.length_append, hl]; rfl, fun b o e => ?_⟩
      · rw [List.all_append, hall]
        rfl
      · rw [upd_ne (ne_of_none e hD)]
        exact s3 b o e
    · rintro H3 ⟨bs, hD3, hall, hl, s3⟩
      refine ⟨D, bs, rfl, .inl (.inl hD3), ?_⟩
      rw [hall]
      exact q H3 s3
theorem sc_row : FnScope ["value"] ["value"] (defScope s_is_row) := ⟨rfl, rfl, rfl, by decide +kernel, rfl, by decide +kernel, by decide +kernel⟩
/-- at a stands a list or a tuple of us -/
def Seq (K : PySem.W.Frag) (H : Hp) (a : Addr) (us : List V) : Prop := SqL K H a us ∨ H a = some (.tup us)
theorem Seq.sq {K : PySem.W.Frag} {H : Hp} {a : Addr} {us : List V} (h : Seq K H a us) : SqL K H a us ∨ SqT K H a us := h.imp id fun e => .inl (.inl e)
def spRow (K : PySem.W.Frag) : Sp := fun vs H Q _ => ∃ (a : Addr) (us : List V), vs = [.ref a] ∧ Seq K H a us ∧ ∀ H', Same H H' → Q (.bl true) H'
theorem ok_row {f : Addr} {fd : FuncData} (F : Fun K "is_row" "is_row" s_is_row f fd) (B : Blt mg) : FnOk P w K mg base CX0 1 f fd ["value"] (spRow K) := by
  refine F.ok sc_row (fun vs H Q E h => ?_) (fun cdv A outer s H vs Q E hr h => ?_)
  · obtain ⟨a, us, rfl, _⟩ := h
    rfl
  · obtain ⟨a, us, rfl, hS, q⟩ := h
    refine ⟨_, pss_one (ps_ret (pe_callB call_isiT (by rfl) B.isinstance (by decide +kernel) (pa_cons (pv 0) (pa_cons (pe_tup (pa_cons (pe_bltn rfl B.list (by decide +kernel) (v := .ty "list") rfl) (pa_cons (pe_bltn rfl B.tuple (by decide +kernel) (v := .ty "tuple") rfl) pa_nil))) pa_nil)))), ?_⟩
    refine ⟨_, rfl, by show 2 ≤ sizeLine; decide, fun T hT => ?_⟩
    have sm : Same H (upd H T (.tup [.ty "list", .ty "tuple"])) := fun b o e => by
      rw [upd_ne (ne_of_none e hT)]
      exact e
    have cl : Paired ClsV [V.ty "list", .ty "tuple"] [.type "list", .type "tuple"] := .cons (.ty _) (.cons (.ty _) .nil)
    rcases hS with h | h
    · exact ⟨_, T, _, _, _, true, rfl, upd_same, cl, tyL (sm.seq h), kitAny_cons (kit_ty (b := "list") (r := true) (by decide +kernel)) (fun z => nomatch z) (fun _ => rfl), q _ sm⟩
    · refine ⟨_, T, _, _, _, true, rfl, upd_same, cl, tyT (.inl (.inl (sm _ _ h))), kitAny_cons (kit_ty (b := "list") (r := false) (by decide +kernel)) (fun _ => ?_) (fun z => nomatch z), q _ sm⟩
      exact kitAny_cons (kit_ty (b := "tuple") (r := true) (by decide +kernel)) (fun z => nomatch z) (fun _ => rfl)
/-- a step that may stand in a hand -/
structure StpOk (s : Stp) : Prop where
  a0 : 0 ≤ s.a
  a1 : s.a ≤ 99
  w : NameOk s.w
  b0 : 0 ≤ s.b
  b1 : s.b ≤ 99
def spStep (K : PySem.W.Frag) : Sp := fun vs H Q _ => ∃ (v : V) (st : Stp), vs = [v] ∧ StepAt K H v st ∧ StpOk st ∧ ∀ H', Same H H' → Q (.bl true) H'
end
end KX
namespace KX
open PySem PySem.Spec PyProof.Rows L2
/-! ### check_steps, exits_of -/
structure Lim (mg : Str → Option Value) : Prop where
  steps : ∃ t, mg "MOST_STEPS" = some (.int 24 t)
  leaving : ∃ t, mg "MOST_LEAVING" = some (.int 4 t)
  words : ∃ t, mg "MOST_WORDS" = some (.int 8 t)
  states : ∃ t, mg "MOST_STATES" = some (.int 8 t)
def keyS (s : Stp) : List Key := [.inl s.a, .inr s.w, .inl s.b]
theorem Seq.same {K : PySem.W.Frag} {H H' : Hp} {a : Addr} {us : List V} (k : Same H H') (h : Seq K H a us) : Seq K H' a us := h.imp (fun q => k.seq q) fun q => k _ _ q
theorem same_new {H : Hp} {p : Addr} {o : HO} (h : H p = none) : Same H (upd H p o) := fun b u e => by
  rw [upd_ne (ne_of_none e h)]
  exact e
/-- steps that a hand may have -/
structure Good (ss : List Stp) : Prop where
  ok : ∀ s ∈ ss, StpOk s
  nd : ss.Nodup
  lv : ∀ a, cnt ss a ≤ 4
  lo : 1 ≤ ss.length
  hi : ss.length ≤ 24
section
variable {P : Program} {w : World} {K : PySem.W.Frag} {mg : Str → Option Value} {base : Heap}
abbrev nCheck : List Str := ["steps", "earlier", "leaving", "index", "step", "count"]
def spCheck (K : PySem.W.Frag) : Sp := fun vs H Q _ => ∃ (a : Addr) (us : List V) (ss : List Stp), vs = [.ref a] ∧ Seq K H a us ∧ StepsAt K H us ss ∧ Good ss ∧ ∀ H', Same H H' → Q .non H'
abbrev nExits : List Str := ["steps", "exits", "number", "step", "place"]
/-- the first n steps' numbers that leave x with the word z -/
def numsTo (ss : List Stp) (x : Int) (z : Str) (n : Nat) : List Int := ((List.range n).filter fun i => (ss[i]?).any fun s => decide (s.a = x ∧ s.w = z)).map fun (i : Nat) => (i : Int)
/-- the dict of the first n steps' exits at d -/
def ExitsAt (H : Hp) (d : Addr) (ss : List Stp) (n : Nat) : Prop := ∃ kvs : List (List Key × V), H d = some (.dT kvs) ∧ kvs.length ≤ n ∧
  (∀ x z, (numsTo ss x z n = [] ∧ valV kvs [.inl x, .inr z] = none) ∨ (numsTo ss x z n ≠ [] ∧ ∃ b, valV kvs [.inl x, .inr z] = some (.ref b) ∧ H b = some (.tup ((numsTo ss x z n).map V.int)))) ∧
  ∀ p ∈ kvs, ∃ (b : Addr) (ns : List Int), p.2 = .ref b ∧ H b = some (.tup (ns.map V.int))
theorem ExitsAt.same {H H' : Hp} {d : Addr} {ss : List Stp} {n : Nat} (k : Same H H') (h : ExitsAt H d ss n) : ExitsAt H' d ss n :=
  let ⟨kvs, e, l, f, g⟩ := h
  ⟨kvs, k _ _ e, l, fun x z => (f x z).imp id fun ⟨n1, b, e1, e2⟩ => ⟨n1, b, e1, k _ _ e2⟩, fun p hp => let ⟨b, ns, e1, e2⟩ := g p hp; ⟨b, ns, e1, k _ _ e2⟩⟩
def spExits (K : PySem.W.Frag) : Sp := fun vs H Q _ => ∃ (a : Addr) (us : List V) (ss : List Stp), vs = [.ref a] ∧ Seq K H a us ∧ StepsAt K H us ss ∧ Good ss ∧ ∀ (d : Addr) (H' : Hp), H d = none → ExitsAt H' d ss ss.length → Same H H' → Q (.ref d) H'
end
end KX
namespace KX
/-- where the steps that leave x lead, in their order -/
def nxOf (ss : List Stp) (x : Int) : List Int := (ss.filter fun s => decide (s.a = x)).map (·.b)
inductive Reach (ss : List Stp) (x0 : Int) : Int → Prop where
  | refl : Reach ss x0 x0
  | step {s : Stp} : Reach ss x0 s.a → s ∈ ss → Reach ss x0 s.b
theorem mem_nx {ss : List Stp} {x y : Int} : y ∈ nxOf ss x ↔ ∃ s ∈ ss, s.a = x ∧ s.b = y := by
  unfold nxOf
  rw [List.mem_map]
  constructor
  · rintro ⟨s, hs, e⟩
    obtain ⟨h1, h2⟩ := List.mem_filter.mp hs
    exact ⟨s, h1, of_decide_eq_true h2, e⟩
  · rintro ⟨s, h1, h2, e⟩
    exact ⟨s, List.mem_filter.mpr ⟨h1, decide_eq_true h2⟩, e⟩
theorem Reach.nx {ss : List Stp} {x0 x y : Int} (h : Reach ss x0 x) (hy : y ∈ nxOf ss x) : Reach ss x0 y := by
  obtain ⟨s, hs, e1, e2⟩ := mem_nx.mp hy
  rw [← e2]
  exact .step (e1 ▸ h) hs
/-- what is closed under the steps and holds the start holds all that is reached -/
theorem reach_in {ss : List Stp} {x0 : Int} {fs : List Int} (h0 : x0 ∈ fs) (hc : ∀ x ∈ fs, ∀ y ∈ nxOf ss x, y ∈ fs) {x : Int} (h : Reach ss x0 x) : x ∈ fs := by
  induction h with
  | refl => exact h0
  | step h hs ih => exact hc _ ih _ (mem_nx.mpr ⟨_, hs, rfl, rfl⟩)
/-- the search: fs found, as ahead; w: the place whose steps are being looked at, its first ones done -/
structure Srch (ss : List Stp) (x0 : Int) (U fs as : List Int) (w : Option (Int × Nat)) : Prop where
  nd : fs.Nodup
  sub : ∀ x ∈ as, x ∈ fs
  st : x0 ∈ fs
  re : ∀ x ∈ fs, Reach ss x0 x
  inU : ∀ x ∈ fs, x ∈ U
  cl : ∀ x ∈ fs, x ∉ as → (∀ y ∈ nxOf ss x, y ∈ fs) ∨ ∃ n, w = some (x, n)
  pt : ∀ x n, w = some (x, n) → x ∈ fs ∧ ∀ y ∈ (nxOf ss x).take n, y ∈ fs
theorem Srch.start {ss : List Stp} {x0 : Int} {U : List Int} (hU : ∀ x, Reach ss x0 x → x ∈ U) : Srch ss x0 U [x0] [x0] none :=
  ⟨by simp, fun _ h => h, List.mem_singleton.mpr rfl, (fun x h => by rw [List.mem_singleton.mp h]; exact .refl), (fun x h => by rw [List.mem_singleton.mp h]; exact hU _ .refl), (fun x h n => absurd h n), fun _ _ h => nomatch h⟩
theorem Srch.pop {ss : List Stp} {x0 x : Int} {U fs as : List Int} (S : Srch ss x0 U fs (as ++ [x]) none) : Srch ss x0 U fs as (some (x, 0)) := by
  have hx : x ∈ fs := S.sub x (List.mem_append_right _ (List.mem_singleton.mpr rfl))
  refine ⟨S.nd, fun y hy => S.sub y (List.mem_append_left _ hy), S.st, S.re, S.inU, fun y hy n => ?_, fun y m e => ?_⟩
  · by_cases e : y = x
    · exact .inr ⟨0, by rw [e]⟩
    · have n' : y ∉ as ++ [x] := fun h => by
        rcases List.mem_append.mp h with h | h
        · exact n h
        · exact e (List.mem_singleton.mp h)
      rcases S.cl y hy n' with h | ⟨_, h⟩
      · exact .inl h
      · cases h
  · cases e
    exact ⟨hx, fun y hy => by rw [List.take_zero] at hy; cases hy⟩
theorem Srch.old {ss : List Stp} {x0 x y : Int} {U fs as : List Int} {i : Nat} (S : Srch ss x0 U fs as (some (x, i))) (e : (nxOf ss x)[i]? = some y) (h : y ∈ fs) : Srch ss x0 U fs as (some (x, i + 1)) := by
  refine ⟨S.nd, S.sub, S.st, S.re, S.inU, fun z hz n => ?_, fun z m q => ?_⟩
  · rcases S.cl z hz n with c | ⟨_, c⟩
    · exact .inl c
    · cases c
      exact .inr ⟨_, rfl⟩
  · cases q
    obtain ⟨p1, p2⟩ := S.pt x i rfl
    refine ⟨p1, fun w hw => ?_⟩
    rw [List.take_add_one, e] at hw
    rcases List.mem_append.mp hw with hw | hw
    · exact p2 w hw
    · have hw : w ∈ [y] := hw
      rw [List.mem_singleton.mp hw]
      exact h
theorem Srch.new {ss : List Stp} {x0 x y : Int} {U fs as : List Int} {i : Nat} (hU : ∀ x, Reach ss x0 x → x ∈ U) (S : Srch ss x0 U fs as (some (x, i))) (e : (nxOf ss x)[i]? = some y) (h : y ∉ fs) : Srch ss x0 U (fs ++ [y]) (as ++ [y]) (some (x, i + 1)) := by
  obtain ⟨p1, p2⟩ := S.pt x i rfl
  have ry : Reach ss x0 y := (S.re x p1).nx (List.mem_of_getElem? e)
  have mem : ∀ {p : Int → Prop}, (∀ z ∈ fs, p z) → p y → ∀ z ∈ fs ++ [y], p z := fun {p} h1 h2 z hz => by
    rcases List.mem_append.mp hz with q | q
    · exact h1 z q
    · rw [List.mem_singleton.mp q]
      exact h2
  refine ⟨List.nodup_append.mpr ⟨S.nd, by simp, fun a ha b hb q => ?_⟩, fun z hz => ?_, List.mem_append_left _ S.st, mem S.re ry, mem S.inU (hU y ry), fun z hz n => ?_, fun z m q => ?_⟩
  · rw [List.mem_singleton.mp hb] at q
    exact h (q ▸ ha)
  · rcases List.mem_append.mp hz with q | q
    · exact List.mem_append_left _ (S.sub z q)
    · exact List.mem_append_right _ q
  · rcases List.mem_append.mp hz with q | q
    · rcases S.cl z q (fun c => n (List.mem_append_left _ c)) with c | ⟨_, c⟩
      · exact .inl fun w hw => List.mem_append_left _ (c w hw)
      · cases c
        exact .inr ⟨_, rfl⟩
    · exact absurd (List.mem_append_right _ q) n
  · cases q
    refine ⟨List.mem_append_left _ p1, fun w hw => ?_⟩
    rw [List.take_add_one, e] at hw
    rcases List.mem_append.mp hw with hw | hw
    · exact List.mem_append_left _ (p2 w hw)
    · exact List.mem_append_right _ hw
theorem Srch.done {ss : List Stp} {x0 x : Int} {U fs as : List Int} (S : Srch ss x0 U fs as (some (x, (nxOf ss x).length))) : Srch ss x0 U fs as none := by
  refine ⟨S.nd, S.sub, S.st, S.re, S.inU, fun z hz n => ?_, fun _ _ q => nomatch q⟩
  rcases S.cl z hz n with c | ⟨_, c⟩
  · exact .inl c
  · cases c
    obtain ⟨_, p2⟩ := S.pt x _ rfl
    rw [List.take_length] at p2
    exact .inl p2
theorem Srch.all {ss : List Stp} {x0 : Int} {U fs : List Int} (S : Srch ss x0 U fs [] none) (x : Int) : x ∈ fs ↔ Reach ss x0 x := by
  refine ⟨S.re x, reach_in S.st fun y hy => ?_⟩
  rcases S.cl y hy List.not_mem_nil with c | ⟨_, c⟩
  · exact c
  · cases c
end KX
namespace KX
open PySem PySem.Spec PyProof.Rows L2
/-! ### all_reached over ints, by a lambda that tells where the steps lead -/
section
variable {P : Program} {w : World} {K : PySem.W.Frag} {mg : Str → Option Value} {base : Heap}
abbrev nAll : List Str := ["first", "following", "most", "found", "ahead", "place", "after"]
/-- what the lambda of reached_states tells -/
def spFol (K : PySem.W.Frag) : List (Option V) → V → Hp → VK → XK → Prop := fun ws v H Q _ => ∃ (a : Addr) (us : List V) (ss : List Stp) (x : Int), ws = [some (.ref a)] ∧ v = .int x ∧ Seq K H a us ∧ StepsAt K H us ss ∧ ss.length ≤ 24 ∧
  ∀ (l : Addr) (H' : Hp), H l = none → H' l = some (.lst ((nxOf ss x).map V.int)) → Same H H' → Q (.ref l) H'
def spAll (P : Program) (w : World) (K : PySem.W.Frag) (mg : Str → Option Value) (base : Heap) : Shared → Sp := fun s vs H Q _ => ∃ (x0 : Int) (f a : Addr) (m : Nat) (F : VL.LF) (us : List V) (ss : List Stp) (U : List Int), vs = [.int x0, .ref f, .int m] ∧
  H f = some (VL.LamO f F) ∧ H F.c = some (LamX.CodeO F.c F.qual) ∧ NdefX.CellsAt F.cl ["steps"] [some (.ref a)] s.heap H ∧ (∀ g, VL.LamOk P w K mg base CX0 1 g F ["steps"] (spFol K)) ∧ Seq K H a us ∧ StepsAt K H us ss ∧ ss.length ≤ 24 ∧
  (∀ x, Reach ss x0 x → x ∈ U) ∧ U.length ≤ m ∧ m ≤ 60 ∧
  ∀ (l : Addr) (ns : List Int) (H' : Hp), H l = none → H' l = some (.lst (ns.map V.int)) → ns.Pairwise (· < ·) → (∀ x, x ∈ ns ↔ Reach ss x0 x) → Same H H' → Q (.ref l) H'
end
end KX
namespace KX
open PySem PySem.Spec PyProof.Rows L2
/-! ### reached_states -/
/-- a def whose code object has a table of its own -/
structure FunC (K : PySem.W.Frag) (x qual : Str) (st : Stmt) (f : Addr) (fd : FuncData) (c : Addr) : Prop where
  ex : ∃ (oc : Value) (od : Option Addr) (kV doc pm : Value) (an : Option Addr) (ct : Value) (osl : Array (Option Value)),
    fd = PySem.W.fnOf x qual (defArgs st) (defBody st) (defScope st) .none kV doc pm an (.ref c) ct ∧ K.lookup f = some ⟨oc, od, .func fd, osl⟩ ∧ PySem.W.codeIn K (.ref c) qual = true
  kp : PySem.W.keepIn K (.ref f) = true
section
variable {P : Program} {w : World} {K : PySem.W.Frag} {mg : Str → Option Value} {base : Heap}
theorem FunC.ok {x qual : Str} {st : Stmt} {f c : Addr} {fd : FuncData} {N ps : List Str} {k : Nat} {sp : Sp} (F : FunC K x qual st f fd c) (S : FnScope N ps (defScope st)) (len : ∀ vs H Q E, sp vs H Q E → vs.length = ps.length)
    (hbody : ∀ (A : Around) (outer : List Env) (s : Shared) (H : Hp) (vs : List V) (Q : VK) (E : XK), Room k (A.deeper (envOfC qual (defScope st) s.heap.objs.size f (.ref c))) → sp vs H Q E →
      ∃ t, PSs (cxOf CX0 P w K mg base N qual (defScope st) f (.ref c) A outer s H E).nox (defBody st) t ∧ t { nx := fun _ H' => Q .non H', rt := Q } (start N vs) H) : FnOk P w K mg base CX0 (k + 1) f fd ps sp := by
  obtain ⟨oc, od, kV, doc, pm, an, ct, osl, rfl, lk, hcd⟩ := F.ex
  refine fn_of lk hcd S len fun A outer s H vs Q E hr hsp => ?_
  obtain ⟨t, h, q⟩ := hbody A outer s H vs Q E hr hsp
  exact ⟨t, h.nox, q⟩
abbrev nmL : Nat → Nat → Str := fun _ _ => "reached_states.<locals>.<lambda>"
/-- the tables of code objects; among them the one that reached_states makes -/
structure TbC where
  P : Addr
  l : List NdefX.NTab
  mem : (P, nmL) ∈ l
  un : ∀ p ∈ l, p.1 = P → p.2 = nmL
abbrev TabL (T : TbC) (H : Hp) : Prop := NdefX.TabsN T.l H
def spReached (K : PySem.W.Frag) (T : TbC) : Sp := fun vs H Q _ => ∃ (x0 : Int) (a : Addr) (us : List V) (ss : List Stp) (U : List Int), vs = [.int x0, .ref a] ∧ TabL T H ∧ Seq K H a us ∧ StepsAt K H us ss ∧ ss.length ≤ 24 ∧ (∀ x, Reach ss x0 x → x ∈ U) ∧ U.length ≤ 8 ∧
  ∀ (l : Addr) (ns : List Int) (H' : Hp), H l = none → H' l = some (.lst (ns.map V.int)) → ns.Pairwise (· < ·) → (∀ x, x ∈ ns ↔ Reach ss x0 x) → LamX.ExtN H H' → TabL T H' → Q (.ref l) H'
theorem extN_steps {H H' : Hp} {us : List V} {ss : List Stp} (k : LamX.ExtN H H') (h : StepsAt K H us ss) : StepsAt K H' us ss := Paired.mapP h fun _ _ ⟨t, e, q⟩ => ⟨t, e, k _ _ q (fun ps z => nomatch z)⟩
theorem tabL_same {T : TbC} {H H' : Hp} (k : Same H H') (h : TabL T H) : TabL T H' := NdefX.TabsN.ext h k
end
end KX
namespace KX
open PySem PySem.Spec PyProof.Rows L2
/-! ### Hand.__init__ -/
structure HandT (K : PySem.W.Frag) (mg : Str → Option Value) (C : Addr) : Prop where
  cl : Cls K C
  start : NoAttr K C "start"
  steps : NoAttr K C "steps"
  words : NoAttr K C "words"
  states : NoAttr K C "states"
  exits : NoAttr K C "exits"
def hfs (x0 : Int) (ts ws sts ex : Addr) : List (Str × V) := putF "exits" (.ref ex) (putF "states" (.ref sts) (putF "words" (.ref ws) (putF "steps" (.ref ts) (putF "start" (.int x0) []))))
/-- what stands stands, but what is at p and the tables -/
def Kept (p : Addr) (H H' : Hp) : Prop := ∀ b o, b ≠ p → H b = some o → (∀ ps, o ≠ .tbl ps) → H' b = some o
/-- a hand stands at p -/
structure HandAt (K : PySem.W.Frag) (C : Addr) (H : Hp) (p : Addr) (x0 : Int) (us : List V) (wl : List Str) (nl : List Int) : Prop where
  ob : ∃ dx ts ws sts ex, H p = some (.ins C dx (hfs x0 ts ws sts ex)) ∧ H ts = some (.tup us) ∧ H ws = some (.tup (wl.map V.str)) ∧ H sts = some (.tup (nl.map V.int))
/-- the hand of such a start and such steps -/
structure HandOf (ss : List Stp) (x0 : Int) (wl : List Str) (nl : List Int) : Prop where
  ws : sortedS wl = true
  wn : wl.Nodup
  wm : ∀ z, z ∈ wl ↔ ∃ s ∈ ss, s.w = z
  np : nl.Pairwise (· < ·)
  nm : ∀ x, x ∈ nl ↔ Reach ss x0 x
/-- the hand at p: what its moves want -/
def HandM (K : PySem.W.Frag) (C : Addr) (H : Hp) (p : Addr) (ss : List Stp) (wl : List Str) (nl : List Int) : Prop := ∃ dx fs ws sts ex, H p = some (.ins C dx fs) ∧ fs.lookup ("words" : Str) = some (V.ref ws) ∧ fs.lookup ("states" : Str) = some (V.ref sts) ∧ fs.lookup ("exits" : Str) = some (V.ref ex) ∧
  H ws = some (.tup (wl.map V.str)) ∧ H sts = some (.tup (nl.map V.int)) ∧ ExitsAt H ex ss ss.length
theorem ExitsAt.ext {H H' : Hp} {d : Addr} {ss : List Stp} {n : Nat} (k : LamX.ExtN H H') (h : ExitsAt H d ss n) : ExitsAt H' d ss n :=
  let ⟨kvs, e, l, f, g⟩ := h
  ⟨kvs, k _ _ e (fun ps z => nomatch z), l, fun x z => (f x z).imp id fun ⟨n1, b, e1, e2⟩ => ⟨n1, b, e1, k _ _ e2 (fun ps z => nomatch z)⟩, fun p hp => let ⟨b, ns, e1, e2⟩ := g p hp; ⟨b, ns, e1, k _ _ e2 (fun ps z => nomatch z)⟩⟩
theorem HandM.ext {K : PySem.W.Frag} {C : Addr} {H H' : Hp} {p : Addr} {ss : List Stp} {wl : List Str} {nl : List Int} (k : LamX.ExtN H H') (h : HandM K C H p ss wl nl) : HandM K C H' p ss wl nl :=
  let ⟨dx, fs, ws, sts, ex, e, e1, e2, e3, e4, e5, e6⟩ := h
  ⟨dx, fs, ws, sts, ex, k _ _ e (fun ps z => nomatch z), e1, e2, e3, k _ _ e4 (fun ps z => nomatch z), k _ _ e5 (fun ps z => nomatch z), e6.ext k⟩
section
variable {P : Program} {w : World} {K : PySem.W.Frag} {mg : Str → Option Value} {base : Heap}
abbrev nInit : List Str := ["self", "start", "steps", "words", "states", "step"]
def spHand (K : PySem.W.Frag) (C : Addr) (T : TbC) : Sp := fun vs H Q _ => ∃ (p dx a : Addr) (x0 : Int) (us : List V) (ss : List Stp) (U : List Int) (zs : List Str), vs = [.ref p, .int x0, .ref a] ∧ H p = some (.ins C dx []) ∧ TabL T H ∧ Seq K H a us ∧ StepsAt K H us ss ∧ Good ss ∧
  0 ≤ x0 ∧ x0 ≤ 99 ∧ (∀ s ∈ ss, s.w ∈ zs) ∧ zs.length ≤ 8 ∧ (∀ x, Reach ss x0 x → x ∈ U) ∧ U.length ≤ 8 ∧
  ∀ (wl : List Str) (nl : List Int) (H' : Hp), HandAt K C H' p x0 us wl nl → HandM K C H' p ss wl nl → HandOf ss x0 wl nl → Kept p H H' → TabL T H' → Q .non H'
theorem Kept.same {p : Addr} {H H' : Hp} (k : Same H H') : Kept p H H' := fun b o _ e _ => k b o e
theorem Kept.ext {p : Addr} {H H' : Hp} (k : LamX.ExtN H H') : Kept p H H' := fun b o _ e n => k b o e n
theorem Kept.trans {p : Addr} {H H1 H2 : Hp} (a : Kept p H H1) (b : Kept p H1 H2) : Kept p H H2 := fun c o n e t => b c o n (a c o n e t) t
theorem Kept.at {p : Addr} {H : Hp} {o : HO} : Kept p H (upd H p o) := fun b u n e _ => by rw [upd_ne n]; exact e
theorem nd_lenS : ∀ {fs U : List Str}, fs.Nodup → (∀ x ∈ fs, x ∈ U) → fs.length ≤ U.length
  | [], _, _, _ => Nat.zero_le _
  | x :: r, U, nd, h => by
    obtain ⟨n1, n2⟩ := List.nodup_cons.mp nd
    have hx := h x List.mem_cons_self
    have q := nd_lenS (fs := r) (U := U.erase x) n2 fun y hy => by
      have ne : y ≠ x := fun e => n1 (e ▸ hy)
      exact (List.mem_erase_of_ne ne).mpr (h y (List.mem_cons_of_mem _ hy))
    rw [List.length_erase_of_mem hx] at q
    have := List.length_pos_of_mem hx
    rw [List.length_cons]
    omega
theorem kept_seq {p a : Addr} {H H' : Hp} {us : List V} {o : HO} (hp : H p = some o) (hn : ∀ u, (o = .lst u ∨ o = .tup u) → False) (hf : ∀ q u, o = .frz q u → False) (k : Kept p H H') (h : Seq K H a us) : Seq K H' a us := by
  have one : ∀ {b : Addr} {u : HO}, (u = .lst us ∨ u = .tup us) → Rd H b u → Rd H' b u := fun {b u} hu r => by
    rcases r with e | ⟨q, e⟩
    · refine .inl (k b u (fun z => ?_) e fun ps z => ?_)
      · rw [z, hp] at e
        cases e
        exact hn us hu
      · rcases hu with r | r <;> rw [r] at z <;> cases z
    · refine .inr ⟨q, k b _ (fun z => ?_) e fun ps z => nomatch z⟩
      rw [z, hp] at e
      cases e
      exact hf q u rfl
  exact h.imp (fun q => q.imp (one (.inl rfl)) id) fun q => k _ _ (fun z => by rw [z, hp] at q; cases q; exact hn us (.inr rfl)) q fun ps z => nomatch z
theorem kept_steps {p : Addr} {H H' : Hp} {us : List V} {ss : List Stp} {o : HO} (hp : H p = some o) (hn : ∀ u, o = .tup u → False) (k : Kept p H H') (h : StepsAt K H us ss) : StepsAt K H' us ss :=
  Paired.mapP h fun _ _ ⟨t, e, q⟩ => ⟨t, e, k _ _ (fun z => by rw [z, hp] at q; cases q; exact hn _ rfl) q (fun ps z => nomatch z)⟩
theorem tabL_upd {p : Addr} {T : TbC} {H : Hp} {o o' : HO} (hp : H p = some o) (n1 : ∀ ps, o ≠ .tbl ps) (n2 : ∀ c q, o ≠ LamX.CodeO c q) (h : TabL T H) : TabL T (upd H p o') := by
  intro x hx
  obtain ⟨ps, e1, e2, e3⟩ := h x hx
  refine ⟨ps, by rw [upd_ne (fun z => n1 ps (by rw [z, hp] at e1; exact Option.some.inj e1))]; exact e1, e2, fun pos cv hc => ?_⟩
  obtain ⟨c, r1, r2⟩ := e3 pos cv hc
  exact ⟨c, r1, by rw [upd_ne (fun z => n2 _ _ (by rw [z, hp] at r2; exact Option.some.inj r2))]; exact r2⟩
/-- while Hand's fields are stored -/
structure InitSt (K : PySem.W.Frag) (C : Addr) (T : TbC) (p dx a ts : Addr) (us : List V) (ss : List Stp) (H0 : Hp) (fs : List (Str × V)) (H : Hp) : Prop where
  hp : H p = some (.ins C dx fs)
  tt : H ts = some (.tup us)
  tab : TabL T H
  kept : Kept p H0 H
  seq : Seq K H a us
  steps : StepsAt K H us ss
theorem kept_tup {K : PySem.W.Frag} {p ts C dx : Addr} {fs : List (Str × V)} {H H' : Hp} {us : List V} (hp : H p = some (.ins C dx fs)) (k : Kept p H H') (h : H ts = some (.tup us)) : H' ts = some (.tup us) :=
  k _ _ (fun z => by rw [z, hp] at h; cases h) h fun ps z => nomatch z
theorem InitSt.put {K : PySem.W.Frag} {C p dx a ts : Addr} {T : TbC} {us : List V} {ss : List Stp} {H0 H H6 : Hp} {fs fs' : List (Str × V)} (S : InitSt K C T p dx a ts us ss H0 fs H) (s6 : Same H H6) : InitSt K C T p dx a ts us ss H0 fs' (upd H6 p (.ins C dx fs')) := by
  have hp6 := s6 _ _ S.hp
  refine ⟨upd_same, kept_tup (K := K) hp6 Kept.at (s6 _ _ S.tt), tabL_upd hp6 (fun ps z => nomatch z) (fun c q z => by unfold LamX.CodeO at z; cases z) (tabL_same s6 S.tab), (S.kept.trans (Kept.same s6)).trans Kept.at,
    kept_seq hp6 (fun u h => by rcases h with h | h <;> cases h) (fun q u h => nomatch h) Kept.at (S.seq.same s6), kept_steps hp6 (fun u h => nomatch h) Kept.at (S.steps.same s6)⟩
end
end KX
/-! == and != of an instance with an own __eq__ and any value, both answers. -/
namespace VQ
open PySem PySem.Spec PyProof.Rows L2
section
variable {X : Cx} {CX : CXT} {k : Nat} {C f : Addr} {fd : FuncData} {ps : List Str} {sp : Sp} {E : XK}
/-- a def called around A -/
theorem run_at {A : Around} {pins : List (Addr × Obj)} {σ : L2.St} {H : Hp} {s : Shared} {Q : VK} {us : List Value} {vs : List V} (F : FnOk X.prog X.w X.K X.mg X.base CX k f fd ps sp) (sb : Sub X k A) (hb : Binds X.K fd ps []) (hx : Passes CX X E)
    (I : Inv X pins σ H s) (r : Vals vs us) (h : sp vs H Q E) : wpAny (model X.prog X.w) A (call (.ref f) us) (EP X pins σ Q) X.xe s := by
  have e0 : Env0 X.prog X.w X.K X.mg X.base A X.stack s H := by
    have e := I.env0
    exact ⟨by rw [sb.fr]; exact e.frames, e.mod, e.bs, e.bsz, e.funs, e.frf, e.hok, e.bare⟩
  have hl := F.len _ _ _ _ h
  have hu : us.length = ps.length := by rw [← r.length]; exact hl
  refine wpAny_call (codeAny_mono (F.run A X.stack s H ⟨us, []⟩ us vs Q E sb.room e0 (by
    have := hb s us I.kIn (by simpa using hu)
    simpa using this) r h) fun r s' hq => ?_)
  cases r with
  | error e => exact hx pins σ H s e s' I hq
  | ok fl =>
    cases fl with
    | ret w => exact I.after hq
    | next => exact False.elim hq
    | brk => exact False.elim hq
    | cont => exact False.elim hq
/-- x == y -/
def rEqO (K : PySem.W.Frag) (C : Addr) (sp : Sp) (E : XK) : R2 := fun x y H Q => ∃ (p dx : Addr) (fs : List (Str × V)) (t : Value), x = .ref p ∧ H p = some (.ins C dx fs) ∧ TyX K H y t ∧ PySem.W.notFirst K C t = true ∧
  sp [x, y] H (fun v H' => ∃ b, v = .bl b ∧ Q (.bl b) H') E
def rNeO (K : PySem.W.Frag) (C : Addr) (sp : Sp) (E : XK) : R2 := fun x y H Q => ∃ (p dx : Addr) (fs : List (Str × V)) (t : Value), x = .ref p ∧ H p = some (.ins C dx fs) ∧ TyX K H y t ∧ PySem.W.notFirst K C t = true ∧
  sp [x, y] H (fun v H' => ∃ b, v = .bl b ∧ Q (.bl (!b)) H') E
end
end VQ
namespace KX
open PySem PySem.Spec PyProof.Rows L2
/-! ### what isinstance and == ask of the classes -/
structure OwnK (K : PySem.W.Frag) (C : Addr) : Prop where
  cl : Cls K C
  ca : PySem.W.findIn K (.ref C) "__class__" = some (some (.builtin "object.__class__"))
  cg : PySem.W.specialIn K (.builtin "object.__class__") "__get__" = some (some (.builtin "getset_descriptor.__get__"))
  ct : PySem.W.takesIn K (.builtin "object.__class__") = some true
  ob : PySem.W.mroIn K C (.type "object") = some true
theorem OwnK.ty {K : PySem.W.Frag} {C p dx : Addr} {fs : List (Str × V)} {H : Hp} (O : OwnK K C) (e : H p = some (.ins C dx fs)) : TyX K H (.ref p) (.ref C) := .base (.ins e O.cl O.ca O.cg O.ct O.ob)
theorem kit_self {K : PySem.W.Frag} {C : Addr} : PySem.W.kitOne K (.ref C) (.ref C) = some true := if_pos (by simp)
/-- types that are not the class C, nor below it -/
structure NotC (K : PySem.W.Frag) (C : Addr) (t : Value) : Prop where
  kit : PySem.W.kitOne K t (.ref C) = some false
  nf : PySem.W.notFirst K C t = true
structure EqC (K : PySem.W.Frag) (C f : Addr) : Prop where
  eq : PySem.W.findIn K (.ref C) "__eq__" = some (some (.ref f))
  fn : PySem.W.isFn K (.ref f) = true
  ne : PySem.W.findIn K (.ref C) "__ne__" = some (some (.builtin "object.__ne__"))
end KX
namespace KX
open PySem PySem.Spec PyProof.Rows L2
/-! ### what stands while a law draws -/
theorem PoolAt.nt {H : Hp} {p : Addr} (h : PoolAt H p) : (∀ ps, H p ≠ some (.tbl ps)) ∧ ∀ c q, H p ≠ some (LamX.CodeO c q) := by
  obtain ⟨x, y, z, e⟩ := h
  refine ⟨fun ps q => ?_, fun c r q => ?_⟩
  · rw [e] at q
    cases q
  · rw [e] at q
    unfold LamX.CodeO at q
    cases q
/-- what the law keeps while it draws from the pool at p -/
structure Base0 (H0 : Hp) (p : Addr) (H : Hp) : Prop where
  s : Same H0 H
  np : H0 p = none
  pool : PoolAt H p
theorem PoolAt.same {H H' : Hp} {p : Addr} (k : Same H H') (h : PoolAt H p) : PoolAt H' p := let ⟨x, y, z, e⟩ := h; ⟨x, y, z, k _ _ e⟩
theorem Base0.sx {H0 : Hp} {p : Addr} {H H' : Hp} (h : Base0 H0 p H) (k : SameX p H H') (hp : PoolAt H' p) : Base0 H0 p H' := ⟨fun b o e => k _ _ (ne_of_none e h.np) (h.s _ _ e), h.np, hp⟩
theorem Base0.draw {H0 : Hp} {p : Addr} {H : Hp} (h : Base0 H0 p H) (x y z : Int) : Base0 H0 p (upd H p (.lst [.int x, .int y, .int z])) := h.sx SameX.at ⟨x, y, z, upd_same⟩
theorem Base0.same {H0 : Hp} {p : Addr} {H H' : Hp} (h : Base0 H0 p H) (k : Same H H') : Base0 H0 p H' := h.sx (SameX.of k) (h.pool.same k)
/-- a list that stands, but for the pool's place -/
structure LstAt (H : Hp) (l p : Addr) (xs : List V) : Prop where
  at_ : H l = some (.lst xs)
  ne : l ≠ p
theorem LstAt.draw {H : Hp} {l p : Addr} {xs : List V} (h : LstAt H l p xs) (o : HO) : LstAt (upd H p o) l p xs := ⟨by rw [upd_ne h.ne]; exact h.at_, h.ne⟩
theorem LstAt.same {H H' : Hp} {l p : Addr} {xs : List V} (h : LstAt H l p xs) (k : Same H H') : LstAt H' l p xs := ⟨k _ _ h.at_, h.ne⟩
theorem LstAt.sx {H H' : Hp} {l p : Addr} {xs : List V} (h : LstAt H l p xs) (k : SameX p H H') : LstAt H' l p xs := ⟨k _ _ h.ne h.at_, h.ne⟩
theorem HandAt.kept {K : PySem.W.Frag} {C p p2 C2 dx2 : Addr} {fs : List (Str × V)} {H H' : Hp} {x0 : Int} {us : List V} {wl : List Str} {nl : List Int} (ne : p ≠ p2) (hp2 : H p2 = some (.ins C2 dx2 fs)) (k : Kept p2 H H') (h : HandAt K C H p x0 us wl nl) : HandAt K C H' p x0 us wl nl := by
  obtain ⟨dx, ts, ws, sts, ex, e1, e2, e3, e4⟩ := h.ob
  have nt : ∀ {b : Addr} {xs : List V}, H b = some (.tup xs) → b ≠ p2 := fun {b xs} e z => by
    rw [z, hp2] at e
    cases e
  exact ⟨dx, ts, ws, sts, ex, k _ _ ne e1 (fun ps z => nomatch z), kept_tup (K := K) hp2 k e2, k _ _ (nt e3) e3 (fun ps z => nomatch z), k _ _ (nt e4) e4 (fun ps z => nomatch z)⟩
theorem HandAt.same {K : PySem.W.Frag} {C p : Addr} {H H' : Hp} {x0 : Int} {us : List V} {wl : List Str} {nl : List Int} (k : Same H H') (h : HandAt K C H p x0 us wl nl) : HandAt K C H' p x0 us wl nl := by
  obtain ⟨dx, ts, ws, sts, ex, e1, e2, e3, e4⟩ := h.ob
  exact ⟨dx, ts, ws, sts, ex, k _ _ e1, k _ _ e2, k _ _ e3, k _ _ e4⟩
/-- but for a list at l -/
theorem HandAt.sx {K : PySem.W.Frag} {C p l : Addr} {H H' : Hp} {x0 : Int} {us ys : List V} {wl : List Str} {nl : List Int} (hl : H l = some (.lst ys)) (k : SameX l H H') (h : HandAt K C H p x0 us wl nl) : HandAt K C H' p x0 us wl nl := by
  obtain ⟨dx, ts, ws, sts, ex, e1, e2, e3, e4⟩ := h.ob
  have nt : ∀ {b : Addr} {o : HO}, H b = some o → (∀ xs, o ≠ .lst xs) → b ≠ l := fun {b o} e n z => by
    rw [z, hl] at e
    exact n _ (Option.some.inj e).symm
  exact ⟨dx, ts, ws, sts, ex, k _ _ (nt e1 fun xs z => nomatch z) e1, k _ _ (nt e2 fun xs z => nomatch z) e2, k _ _ (nt e3 fun xs z => nomatch z) e3, k _ _ (nt e4 fun xs z => nomatch z) e4⟩
end KX
namespace KX
open PySem PySem.Spec PyProof.Rows L2
/-! ### _law_hand -/
/-- the pool at p is drawn from, all else stands -/
structure Bp (H0 : Hp) (p : Addr) (H : Hp) : Prop where
  s : SameX p H0 H
  pool : PoolAt H p
theorem Bp.draw {H0 H : Hp} {p : Addr} (h : Bp H0 p H) (x y z : Int) : Bp H0 p (upd H p (.lst [.int x, .int y, .int z])) := ⟨h.s.trans SameX.at, x, y, z, upd_same⟩
theorem Bp.same {H0 H H' : Hp} {p : Addr} (h : Bp H0 p H) (k : Same H H') : Bp H0 p H' := ⟨h.s.trans (SameX.of k), h.pool.same k⟩
theorem Bp.sx {H0 H H' : Hp} {p : Addr} (h : Bp H0 p H) (k : SameX p H H') (hp : PoolAt H' p) : Bp H0 p H' := ⟨h.s.trans k, hp⟩
theorem Bp.ne {H0 H : Hp} {p l : Addr} {o : HO} (h : Bp H0 p H) (e : H l = none) : l ≠ p := fun z => by
  obtain ⟨_, _, _, q⟩ := h.pool
  rw [z, q] at e
  cases e
def stsOf (a g : Int) (n : Nat) : List Int := (List.range n).map fun (k : Nat) => a + g * (k : Int)
section
variable {P : Program} {w : World} {K : PySem.W.Frag} {mg : Str → Option Value} {base : Heap}
abbrev nLH : List Str := ["_law_pool_here", "_law_names_here", "_law_most_states", "_law_most_steps", "_law_shape", "_law_first", "_law_gap", "_law_k", "_law_states", "_law_start_here", "_law_steps_here", "_law_word", "_law_step", "_law_one", "_law_count"]
def spLHand (K : PySem.W.Frag) : Sp := fun vs H Q _ => ∃ (p nl : Addr) (ms mt : Nat) (zs : List Str), vs = [.ref p, .ref nl, .int ms, .int mt] ∧ PoolAt H p ∧ nl ≠ p ∧ SqL K H nl (zs.map V.str) ∧ zs ≠ [] ∧ zs.length ≤ 1000 ∧ (∀ z ∈ zs, NameOk z) ∧
  1 ≤ ms ∧ ms ≤ mt ∧ mt ≤ 24 ∧ ms ≤ 8 ∧
  ∀ (t l : Addr) (us : List V) (ss : List Stp) (x0 : Int) (sts : List Int) (H' : Hp), H t = none → H l = none → H' t = some (.tup [.int x0, .ref l]) → H' l = some (.lst us) → StepsAt K H' us ss → Steps ss sts zs → ss ≠ [] → ss.length ≤ mt → x0 ∈ sts → sts.length ≤ ms →
    (∀ x ∈ sts, 0 ≤ x ∧ x ≤ 75 + 3 * (ms : Int)) → PoolAt H' p → SameX p H H' → Q (.ref t) H'
end
end KX
/-! Set comprehensions of texts with two clauses. -/
namespace VT
open PySem PySem.Spec PyProof.Rows L2 PpSet
section
variable {prog : Program} {w : World} {A : Around} {R : Result → Shared → Prop} {s : Shared} {elt t0 i0 t1 i1 : Expr} {ifs0 ifs1 : List Expr} {scope : Scope} {pos : Pos} {it acc : Value} {env : Env}
end

section
variable {X : Cx}
/-- [elt for tg in iter if .. for tg1 in iter1 if ..]: behind the first clause's store and tests the second source's own loop, from which Nx is reached. vs: the block's names; vs1: those of the second target -/
def tSc2 (w : World) (wi : TI) (g : TG) (tt : TT) (wi1 : TI) (g1 : TG) (tt1 : TT) (te : TE) (vs vs1 : List Nat) : TE := fun σ H Q => wi σ H fun J H1 => ∀ D, H1 D = none → ∃ W : Nat → Nat → Hp → Prop, (∃ m, W 0 m (upd H1 D (SetTO w D (fun _ => false) 0))) ∧ ∀ i m H, W i m H →
  (J.stop i H ∧ Q (.ref D) H) ∨ (J.go i H ∧ ∃ Nx : Hp → Prop, (∀ H', Nx H' → ∃ m', m' < m ∧ W (i + 1) m' H') ∧ ∀ x H', J.yld i H x H' → g x (wipe σ vs) H' fun σ2 H2 => wipe σ2 vs = wipe σ vs ∧ tt σ2 H2 fun b H3 =>
    if b = true then wi1 σ2 H3 fun J1 H4 => ∃ W1 : Nat → Nat → Hp → Prop, (∃ m, W1 0 m H4) ∧ ∀ j k H, W1 j k H →
      (J1.stop j H ∧ Nx H) ∨ (J1.go j H ∧ ∃ Nx1 : Hp → Prop, (∀ H', Nx1 H' → ∃ k', k' < k ∧ W1 (j + 1) k' H') ∧ ∀ x H', J1.yld j H x H' → g1 x (wipe σ2 vs1) H' fun σ3 H5 => wipe σ3 vs1 = wipe σ2 vs1 ∧ tt1 σ3 H5 fun b H6 =>
        if b = true then te σ3 H6 fun y H7 => AddT w D y H7 Nx1 else Nx1 H6)
    else Nx H3)
end
end VT
/-! Walks of two clauses of a set comprehension. -/
namespace VE
open PySem PySem.Spec PyProof.Rows L2 VT
section
variable {K : PySem.W.Frag} {a : Addr} {xs : List V} {j : Nat} {σ σ2 : L2.St} {H H0 H4 : Hp} {g g1 : TG} {tt tt1 : TT} {te : TE} {vs vs1 : List Nat} {ww : World} {D : Addr} {Nx : Hp → Prop}
/-- the second clause's loop, from which Nx is reached -/
def InSc (ww : World) (J1 : It) (g1 : TG) (tt1 : TT) (te : TE) (vs1 : List Nat) (D : Addr) (σ2 : L2.St) (H4 : Hp) (Nx : Hp → Prop) : Prop := ∃ W1 : Nat → Nat → Hp → Prop, (∃ m, W1 0 m H4) ∧ ∀ j k H, W1 j k H →
      (J1.stop j H ∧ Nx H) ∨ (J1.go j H ∧ ∃ Nx1 : Hp → Prop, (∀ H', Nx1 H' → ∃ k', k' < k ∧ W1 (j + 1) k' H') ∧ ∀ x H', J1.yld j H x H' → g1 x (wipe σ2 vs1) H' fun σ3 H5 => wipe σ3 vs1 = wipe σ2 vs1 ∧ tt1 σ3 H5 fun b H6 =>
        if b = true then te σ3 H6 fun y H7 => AddT ww D y H7 Nx1 else Nx1 H6)
end
end VE
namespace KX
open PySem PySem.Spec PyProof.Rows L2
/-! ### System.__init__ and what it calls -/
structure Lim2 (mg : Str → Option Value) : Prop where
  hands : ∃ t, mg "MOST_HANDS" = some (.int 4 t)
  words : ∃ t, mg "MOST_WORDS_systems" = some (.int 12 t)
theorem sqT_same {K : PySem.W.Frag} {H H' : Hp} {a : Addr} {xs : List V} (k : Same H H') (h : SqT K H a xs) : SqT K H' a xs := h.imp (fun r => r.imp (fun e => k _ _ e) fun ⟨o, e⟩ => ⟨o, k _ _ e⟩) id
/-- the hand at p: what a system reads of it -/
def HandW (K : PySem.W.Frag) (C : Addr) (H : Hp) (v : V) (h : Int × List Str) : Prop := ∃ p dx fs ws, v = .ref p ∧ H p = some (.ins C dx fs) ∧ fs.lookup ("start" : Str) = some (V.int h.1) ∧ fs.lookup ("words" : Str) = some (V.ref ws) ∧ SqT K H ws (h.2.map V.str)
theorem HandW.same {K : PySem.W.Frag} {C : Addr} {H H' : Hp} {v : V} {h : Int × List Str} (k : Same H H') (w : HandW K C H v h) : HandW K C H' v h :=
  let ⟨p, dx, fs, ws, e, e1, e2, e3, e4⟩ := w
  ⟨p, dx, fs, ws, e, k _ _ e1, e2, e3, sqT_same k e4⟩
abbrev HandsW (K : PySem.W.Frag) (C : Addr) (H : Hp) (us : List V) (hs : List (Int × List Str)) : Prop := Paired (HandW K C H) us hs
theorem HandsW.same {K : PySem.W.Frag} {C : Addr} {H H' : Hp} {us : List V} {hs : List (Int × List Str)} (k : Same H H') (w : HandsW K C H us hs) : HandsW K C H' us hs := Paired.mapP w fun _ _ q => q.same k
section
variable {P : Program} {w : World} {K : PySem.W.Frag} {mg : Str → Option Value} {base : Heap}
/-! check_hands -/
def spChk (K : PySem.W.Frag) (C : Addr) : Sp := fun vs H Q _ => ∃ (a : Addr) (us : List V) (hs : List (Int × List Str)), vs = [.ref a] ∧ Seq K H a us ∧ HandsW K C H us hs ∧ 1 ≤ us.length ∧ us.length ≤ 4 ∧ ∀ H', Same H H' → Q .non H'
/-! chosen_hands -/
/-- these are chosen by d of many hands -/
def Chosen (K : PySem.W.Frag) (H : Hp) (d : V) (many : Nat) (S : Int → Prop) : Prop := (d = .non ∧ ∀ x, S x ↔ 0 ≤ x ∧ x < (many : Nat)) ∨ (∃ (a : Addr) (xs : List Int), d = .ref a ∧ Seq K H a (xs.map V.int) ∧ xs.Nodup ∧ (∀ x ∈ xs, 0 ≤ x ∧ x < (many : Nat)) ∧ ∀ x, S x ↔ x ∈ xs)
def spCho (K : PySem.W.Frag) : Sp := fun vs H Q _ => ∃ (d : V) (many : Nat) (S : Int → Prop), vs = [d, .int many] ∧ many ≤ 50 ∧ Chosen K H d many S ∧
  ∀ (t : Addr) (dl : List Int) (H' : Hp), H t = none → H' t = some (.tup (dl.map V.int)) → dl.Pairwise (· < ·) → (∀ x, x ∈ dl ↔ S x) → Same H H' → Q (.ref t) H'
end
end KX
namespace KX
open PySem PySem.Spec PyProof.Rows L2
/-! ### System.__init__ -/
structure SysT (K : PySem.W.Frag) (CS : Addr) : Prop where
  cl : Cls K CS
  hands : NoAttr K CS "hands"
  diligent : NoAttr K CS "diligent"
  words : NoAttr K CS "words"
  start : NoAttr K CS "start"
def sfs (ts ds ws st : Addr) : List (Str × V) := putF "start" (.ref st) (putF "words" (.ref ws) (putF "diligent" (.ref ds) (putF "hands" (.ref ts) [])))
/-- a system stands at p: the tuple of its hands, the diligent ones, the words, the starts -/
structure SysAt (K : PySem.W.Frag) (CS : Addr) (H : Hp) (p : Addr) (us : List V) (dl : List Int) (wl : List Str) (xs : List Int) : Prop where
  ob : ∃ dx ts ds ws st, H p = some (.ins CS dx (sfs ts ds ws st)) ∧ H ts = some (.tup us) ∧ H ds = some (.tup (dl.map V.int)) ∧ H ws = some (.tup (wl.map V.str)) ∧ H st = some (.tup (xs.map V.int))
section
variable {K : PySem.W.Frag} {C CS p dx a : Addr} {H0 H : Hp} {fs0 : List (Str × V)} {us : List V} {hs : List (Int × List Str)}
theorem tupX {ts : Addr} (hp : H0 p = some (.ins CS dx fs0)) (k : SameX p H0 H) (h : H0 ts = some (.tup us)) : H ts = some (.tup us) := k _ _ (fun z => by rw [z, hp] at h; cases h) h
end
section
variable {P : Program} {w : World} {K : PySem.W.Frag} {mg : Str → Option Value} {base : Heap}
abbrev nSys : List Str := ["self", "hands", "diligent", "chosen", "words", "hand", "word"]
def spSys (K : PySem.W.Frag) (C CS : Addr) : Sp := fun vs H Q _ => ∃ (p dx a : Addr) (d : V) (us : List V) (hs : List (Int × List Str)) (S : Int → Prop) (zs : List Str), vs = [.ref p, .ref a, d] ∧ H p = some (.ins CS dx []) ∧ Seq K H a us ∧ HandsW K C H us hs ∧ 1 ≤ us.length ∧ us.length ≤ 4 ∧ Chosen K H d us.length S ∧
  (∀ h ∈ hs, h.2.length ≤ 8 ∧ ∀ z ∈ h.2, z ∈ zs) ∧ zs.length ≤ 12 ∧
  ∀ (dl : List Int) (wl : List Str) (H' : Hp), SysAt K CS H' p us dl wl (hs.map (·.1)) → dl.Pairwise (· < ·) → (∀ x, x ∈ dl ↔ S x) → sortedS wl = true → wl.Nodup → (∀ z, z ∈ wl ↔ ∃ h ∈ hs, z ∈ h.2) → SameX p H H' → Q .non H'
/-- the fields stored so far -/
structure SysSt (K : PySem.W.Frag) (CS p dx ts : Addr) (us : List V) (H0 : Hp) (fs : List (Str × V)) (H : Hp) : Prop where
  hp : H p = some (.ins CS dx fs)
  s : SameX p H0 H
  tt : H ts = some (.tup us)
theorem SysSt.put {CS p dx ts : Addr} {us : List V} {H0 H H6 : Hp} {fs fs' : List (Str × V)} (S : SysSt K CS p dx ts us H0 fs H) (k : Same H H6) : SysSt K CS p dx ts us H0 fs' (upd H6 p (.ins CS dx fs')) :=
  ⟨upd_same, (S.s.trans (SameX.of k)).trans SameX.at, tupX (k _ _ S.hp) SameX.at (k _ _ S.tt)⟩
end
end KX
namespace KX
open PySem PySem.Spec PyProof.Rows L2
/-! ### _law_same -/
mutual
def sm : PyData → Bool
  | .none | .bool _ | .int _ | .str _ => true
  | .list xs | .tuple xs => decide (xs.length ≤ 1000) && smAll xs
  | .dict _ => false
def smAll : List PyData → Bool
  | [] => true
  | x :: r => sm x && smAll r
end
section
variable {P : Program} {w : World} {K : PySem.W.Frag} {mg : Str → Option Value} {base : Heap}
/-- two values that are the same data -/
def spSame (K : PySem.W.Frag) : Nat → Sp
  | 0 => fun _ _ _ _ => False
  | n + 1 => fun vs H Q _ => ∃ (u v : V) (d : PyData), vs = [u, v] ∧ Dp K H u d ∧ Dp K H v d ∧ d.depth ≤ n ∧ sm d = true ∧ Q (.bl true) H
structure Blt2 (mg : Str → Option Value) : Prop where
  dict : mg "dict" = none
end
end KX
/-! == of two tuples, item by item, both answers. -/
namespace VQ
open PySem PySem.SeqAt
open AutoSeq1 (wpAny_loadPart')
open MeetsSeq MeetsSeq2 MeetsSeq3 SeqRoads2
/-- the pairs' answers, from the left -/
def eqs {α β : Type} (f : α → β → Bool) : List α → List β → Bool
  | [], [] => true
  | x :: r, y :: t => f x y && eqs f r t
  | _, _ => false
section
variable {prog : Program} {w : World} {A : Around} {R : Result → Shared → Prop}
end
end VQ

namespace VQ
open PySem PySem.Spec PyProof.Rows L2
section
variable {X : Cx} {CX : CXT} {k : Nat} {C f : Addr} {fd : FuncData} {ps : List Str} {sp : Sp} {E : XK}
/-- == of two values inside a builtin: the answer b, the heap stays -/
def EqB (X : Cx) (n : Nat) (D : V → V → Bool → Hp → Prop) : Prop := ∀ (A : Around) (pins : List (Addr × Obj)) (s : Shared) (σ : L2.St) (H : Hp) (x y : V) (u v : Value) (b : Bool), Sub X n A → Inv X pins σ H s → RelV x u → RelV y v → D x y b H →
  wpAny (model X.prog X.w) A (eqBool u v) (fun r s' => r = b ∧ Inv X pins σ H s') X.xe s
/-- two instances of C, told apart by sp -/
def DOwn (K : PySem.W.Frag) (C : Addr) (sp : Sp) (E : XK) : V → V → Bool → Hp → Prop := fun x y b H => ∃ p q dx dy fs gs, x = .ref p ∧ y = .ref q ∧ H p = some (.ins C dx fs) ∧ H q = some (.ins C dy gs) ∧ TyX K H y (.ref C) ∧ (p = q → b = true) ∧ ∀ Q : VK, Q (.bl b) H → sp [x, y] H Q E
def rEqT (K : PySem.W.Frag) (D : V → V → Bool → Hp → Prop) : R2 := fun x y H Q => ∃ (a c : Addr) (xs ys : List V) (g : V → V → Bool), x = .ref a ∧ y = .ref c ∧ SqT K H a xs ∧ SqT K H c ys ∧ (∀ x ∈ xs, ∀ y ∈ ys, D x y (g x y) H) ∧ Q (.bl (eqs g xs ys)) H
end
end VQ
namespace VT
open PySem PySem.Spec PyProof.Rows L2
theorem newT_at {w : World} {h : Heap} {a : Addr} {ns : List Str} (ho : h.get? a = some { cls := .type "set", dict := none, data := .set #[] 0 (.fresh 0 0 (!w.params.followText "set-order")) }) : SetT w h a (fun j => decide (j ∈ ns.take 0)) 0 :=
  ⟨_, #[], 0, _, ho, ⟨rfl, rfl, rfl⟩, rfl, (fun e he => by simp at he), (by simp), (fun k => by simp), (by decide), (by rfl), rfl, List.Pairwise.nil, by
    show _ ∨ (!w.params.followText "set-order") = true
    cases w.params.followText "set-order"
    · exact .inr rfl
    · exact .inl rfl⟩
section
variable {P : Program} {w : World} {A : Around} {E : Value → Shared → Prop} {s : Shared}
theorem updT {I : Addr} {fp wr : List Addr} {G : Array GenState → Array GenState → Prop} {n : Nat} {Pv : Nat → Value → Prop} {St : Nat → Shared → Prop} {R : Result → Shared → Prop}
    (W : WalksS P w A.in1 I fp wr G n Pv St) (S : Addr) (hSf : S ∉ fp) (ns : List Str) (hn : n = ns.length) (hb : ns.length + 1 < scanBound) (hval : ∀ i v, Pv i v → ∃ k t, ns[i]? = some k ∧ v = .str k t) :
    ∀ (k i : Nat) (s : Shared), n - i = k → i ≤ n → St i s → (∃ c, c ≤ i ∧ SetT w s.heap S (fun j => decide (j ∈ ns.take i)) c) →
      (∀ s' c, Moved (S :: wr) G s s' → c ≤ n → SetT w s'.heap S (fun j => decide (j ∈ ns)) c → R (.ok (.ret .none)) s') →
      codeAny (model P w) A (.builtin "set.update.loop" ⟨[.ref S, .ref I], []⟩) R s := by
  have hSw : S ∉ wr := fun h => hSf (W.sub _ h)
  have hsub : ∀ b ∈ wr, b ∈ S :: wr := fun b hb => List.mem_cons_of_mem _ hb
  intro k
  induction k with
  | zero =>
    intro i s hk' hi hst ⟨c, hc, hS⟩ hR
    have hin : i = n := by omega
    subst hin
    refine codeAny_builtin F.entry_set_update_loop ?_
    rw [Around.under_plainId F.plain_set_update_loop _]
    show wpAny _ A.in1 (pyNext (.ref I) >>= _) _ _ s
    refine wpAny_bind (W.done s _ _ hst fun s' hm => ?_)
    show wpAny _ A.in1 (ret Value.none) _ _ s'
    have e : ns.take i = ns := List.take_of_length_le (by omega)
    rw [e] at hS
    exact wpAny_pure (hR s' c (hm.mono hsub) hc (hS.at fun o e => hm.heap S o hSw e))
  | succ k ih =>
    intro i s hk' hi hst ⟨c, hc, hS⟩ hR
    have hlt : i < n := by omega
    refine codeAny_builtin F.entry_set_update_loop ?_
    rw [Around.under_plainId F.plain_set_update_loop _]
    show wpAny _ A.in1 (pyNext (.ref I) >>= _) _ _ s
    refine wpAny_bind (W.item i s _ _ hlt hst fun v s' hP hst' hm => ?_)
    obtain ⟨z, t, hz, rfl⟩ := hval i v hP
    have hS' : SetT w s'.heap S (fun j => decide (j ∈ ns.take i)) c := hS.at fun o e => hm.heap S o hSw e
    show wpAny _ A.in1 (holding [Value.str z t] (setAdd S (.str z t)) >>= _) _ _ s'
    refine wpAny_bind (wpAny_holding ?_)
    unfold setAdd
    refine wpAny_holding ?_
    refine wpAny_bind ((PySem.strKind P w).pyHash (k := z) (strKind_is _ _ _ _) ?_)
    refine addT_hashed (s := { s' with toks := s'.toks + 1 }) hS' (by omega) fun h' hsb hS2 => ?_
    have hS3 : SetT w h' S (fun j => decide (j ∈ ns.take (i + 1))) (if decide (z ∈ ns.take i) = true then c else c + 1) := hS2.congr fun j => by
      rw [List.take_add_one, hz]
      simp [List.mem_append]
    have hc3 : (if decide (z ∈ ns.take i) = true then c else c + 1) ≤ i + 1 := by
      split <;> omega
    refine wpAny_pure ⟨plainId_quiet F.plain_set_update_loop _, ih (i + 1) _ (by omega) hlt (W.frame _ s' _ _ hst' (Nat.le_succ _) fun b hb o e => ?_) ⟨_, hc3, hS3⟩ fun s'' c2 hm'' hc'' hS'' => ?_⟩
    · rw [hsb.2 b (fun h : b = S => hSf (by rw [← h]; exact hb))]; exact e
    · refine hR s'' c2 (Moved.trans W.gtrans ((hm.mono hsub).then_heap (Nat.le_succ _) fun b o hb e => ?_) hm'') hc'' hS''
      rw [hsb.2 b (fun h : b = S => hb (by rw [h]; exact List.mem_cons_self))]; exact e

theorem call_setT {l : Addr} {items : Array Value} (ns : List Str) {Q : Value → Shared → Prop} (hh : A.handled = none) (hl : s.heap.IsList l items) (hit : StrsAre items.toList ns) (hb : ns.length + 1 < scanBound)
    (h : ∀ (h' : Heap) (tk c : Nat), SetT w h' s.heap.objs.size (fun j => decide (j ∈ ns)) c → c ≤ ns.length → (∀ b o, s.heap.get? b = some o → h'.get? b = some o) → Q (.ref s.heap.objs.size) { s with heap := h', toks := tk }) :
    wpAny (model P w) A (call (.type "set") [.ref l]) Q E s := by
  have hisz : items.size = ns.length := by
    have q := StrsAre.len_eq hit
    rw [Array.length_toList] at q
    exact q
  obtain ⟨c, tl, hmro⟩ := F.called_set.mro
  have hmade := F.called_set.made
  have hsub := F.called_set.sub
  refine wpAny_call (codeAny_of_tree ?_)
  show wpAny _ _ (callAny (.type "set") _) _ _ _
  refine wpAny_pure ⟨Code.quiet_builtin _ (by decide +kernel), codeAny_builtin F.entry_type_call ?_⟩
  rw [Around.under_plain (weight_type_call_type "set" [.ref l] []) rfl]
  have h1 := F.called_set.notType
  have h2 := F.called_set.canCreate
  have hct := F.typeCall_set_1 (.ref l)
  repeat (any_goals (first | assumption | wp_step))

  refine codeAny_mono (code_set_led1 (.ref l) (E := E) (Q₁ := fun obj s₁ => obj = .ref s.heap.objs.size ∧ s₁ = { s with heap := s.heap.push { cls := .type "set", dict := none, data := .set #[] 0 (.fresh 0 0 (!w.params.followText "set-order")) } }) ⟨rfl, rfl⟩) fun r s₁ hr => ?_
  cases r with
  | error e => exact hr
  | ok fl =>
    cases fl with
    | ret obj =>
      obtain ⟨rfl, rfl⟩ := hr
      have hS : (s.heap.push { cls := .type "set", dict := none, data := .set #[] 0 (.fresh 0 0 (!w.params.followText "set-order")) }).get? s.heap.objs.size = some { cls := .type "set", dict := none, data := .set #[] 0 (.fresh 0 0 (!w.params.followText "set-order")) } := Heap.get?_push_size _ rfl
      have hT : Shared.TypeIs { s with heap := s.heap.push { cls := .type "set", dict := none, data := .set #[] 0 (.fresh 0 0 (!w.params.followText "set-order")) } } (.ref s.heap.objs.size) "set" := ⟨_, hS, rfl⟩
      have hli := F.called_set.init.lookup
      have hbi := F.called_set.init.bind (.ref s.heap.objs.size)
      repeat (any_goals (first | assumption | wp_step))

      refine codeAny_mono (codeAny_call_builtin (R := wants (fun r s₂ => r = .none ∧ ∃ h' tk c, s₂ = { s with heap := h', toks := tk } ∧ SetT w h' s.heap.objs.size (fun j => decide (j ∈ ns)) c ∧ c ≤ ns.length ∧
          (∀ b o, s.heap.get? b = some o → h'.get? b = some o)) E) F.called_set.init.plain F.entry_set_init (check_set_init_1 hT ?_)) fun r₂ s₂ hr₂ => ?_
      · obtain ⟨ol, hol, hcl, nl, hdl⟩ := hl
        obtain ⟨ocls, odict, odata, oslots⟩ := ol
        simp only at hcl hdl
        subst hcl; subst hdl
        have hol' : (s.heap.push { cls := .type "set", dict := none, data := .set #[] 0 (.fresh 0 0 (!w.params.followText "set-order")) }).get? l = some { cls := .type "list", dict := odict, data := .seq items nl, slots := oslots } := Heap.get?_push_of_some _ hol
        have hsls := F.sub_list_set
        have hslf := F.sub_list_frozenset
        have hne : (Value.type "list" == Value.type "dict") = false := by decide
        have hl1 : (s.heap.push { cls := .type "set", dict := none, data := .set #[] 0 (.fresh 0 0 (!w.params.followText "set-order")) }).IsList l items := ⟨_, hol', rfl, nl, rfl⟩
        unfold Builtin.«set.__init__» noKeywords Builtin.Frozenset.updateFrom
        generalize hPI : pyIter = PI
        wp_walk
        subst hPI

        refine wpAny_pyIter_list hl1 ?_
        refine wpAny_bind (wpAny_runValue ?_)
        have hlS : l < s.heap.objs.size := Heap.lt_size hol
        have hh3 : A.in1.in1.in1.handled = none := by simp [hh]
        have hz1 : (s.heap.push { cls := .type "set", dict := none, data := .set #[] 0 (.fresh 0 0 (!w.params.followText "set-order")) }).objs.size = s.heap.objs.size + 1 := Heap.size_push ..
        have hneI : l ≠ (s.heap.push { cls := .type "set", dict := none, data := .set #[] 0 (.fresh 0 0 (!w.params.followText "set-order")) }).objs.size := by
          rw [Heap.size_push]; exact Nat.ne_of_lt (Nat.lt_succ_of_lt hlS)
        have hSf : s.heap.objs.size ∉ [(s.heap.push { cls := .type "set", dict := none, data := .set #[] 0 (.fresh 0 0 (!w.params.followText "set-order")) }).objs.size, l] := by
          rw [Heap.size_push]; simp only [List.mem_cons, List.mem_singleton, List.not_mem_nil, or_false, not_or]
          exact ⟨Nat.ne_of_lt (Nat.lt_succ_self _), Nat.ne_of_gt hlS⟩
        have hval : ∀ (i : Nat) (v : Value), items[i]? = some v → ∃ k t, ns[i]? = some k ∧ v = .str k t := fun i v hv => by
          have hi : i < ns.length := by rw [← hisz]; exact (Array.getElem?_eq_some_iff.mp hv).1
          obtain ⟨t, e⟩ := SS.strs_at hit i v (by rw [Array.getElem?_toList]; exact hv)
          refine ⟨ns[i], t, List.getElem?_eq_getElem hi, ?_⟩
          rw [e, List.getD_eq_getElem?_getD, List.getElem?_eq_getElem hi] <;> rfl
        refine updT ((Walks.list hh3 _ l hneI items).toS) s.heap.objs.size
          hSf ns hisz hb hval (items.size - 0) 0 _ (by omega) (Nat.zero_le _)
          ⟨⟨_, Heap.get?_push_size _ rfl, rfl, rfl⟩, (hl1.push _)⟩ ?hS0 ?hR
        case hS0 =>
          have hget : ((s.heap.push { cls := .type "set", dict := none, data := .set #[] 0 (.fresh 0 0 (!w.params.followText "set-order")) }).push { cls := .type "list_iterator", data := .fields #[.ref l, .int 0 0] }).get? s.heap.objs.size
              = some { cls := .type "set", dict := none, data := .set #[] 0 (.fresh 0 0 (!w.params.followText "set-order")) } := Heap.get?_push_of_some _ hS
          exact ⟨0, Nat.le_refl 0, newT_at hget⟩
        case hR =>
          intro s' c' hm hc' hS'
          obtain ⟨h', g2, d', tk', os'⟩ := s'
          have eg : g2 = s.gens := hm.gens
          have ed : d' = s.drawn := hm.drawn
          have eo : os' = s.os := hm.os
          subst eg; subst ed; subst eo
          show wpAny _ _ _ _ _ _
          refine wpAny_pure ?_
          show wpAny _ _ (ret Value.none) _ _ _
          rw [hisz] at hc'
          refine wpAny_pure ⟨rfl, h', tk', c', rfl, hS', hc', fun b o e => ?_⟩
          have hb0 : b < s.heap.objs.size := Heap.lt_size e
          have hb1 : b ≠ s.heap.objs.size := Nat.ne_of_lt hb0
          have hb2 : b ≠ (s.heap.push { cls := .type "set", dict := none, data := .set #[] 0 (.fresh 0 0 (!w.params.followText "set-order")) }).objs.size := by
            rw [Heap.size_push]; exact Nat.ne_of_lt (Nat.lt_succ_of_lt hb0)
          exact hm.heap b o (by simp only [List.mem_cons, List.mem_singleton, List.not_mem_nil, or_false, not_or]; exact ⟨hb1, hb2⟩) (Heap.get?_push_of_some _ (Heap.get?_push_of_some _ e))

      · cases r₂ with
        | error e => exact hr₂
        | ok fl₂ =>
          cases fl₂ with
          | ret r =>
            obtain ⟨rfl, h', tk, c', rfl, hS', hc', hk'⟩ := hr₂
            repeat (any_goals (first | assumption | wp_step))
            exact h _ _ _ hS' hc' hk'
          | _ => exact hr₂.elim
    | _ => exact hr.elim

end
section
variable {X : Cx}
/-- set(a list of texts) -/
def rSetT (w : World) (K : PySem.W.Frag) : List V → Hp → VK → Prop := fun xs H Q => ∃ (l : Addr) (zs : List Str), xs = [.ref l] ∧ SqL K H l (zs.map V.str) ∧ zs.length + 1 < scanBound ∧
  ∀ (D : Addr) (n : Nat), H D = none → n ≤ zs.length → Q (.ref D) (upd H D (SetTO w D (fun j => decide (j ∈ zs)) n))
theorem cr_setT (hc : X.calm = true) : CallR X (.type "set") (rSetT X.w X.K) := by
  intro pins s σ H vs us Q I r h
  obtain ⟨l, zs, rfl, hS, lz, q⟩ := h
  obtain ⟨its, rv, pl, hz⟩ := I.list hS
  rw [Vals.ref1 r]
  refine call_setT zs (I.ok.hd hc) pl.isList (by simpa using rv.strs) lz fun h' tk c R hcn k => ?_
  have hn : H s.heap.objs.size = none := I.hok.fresh (Nat.le_refl _)
  exact ⟨.ref _, upd H s.heap.objs.size (SetTO X.w s.heap.objs.size (fun j => decide (j ∈ zs)) c), I.laid (t' := tk) k (Nat.le_refl _) (setTO_new R), rfl, q _ c hn hcn⟩
end
end VT
namespace KX
open PySem PySem.Spec PyProof.Rows L2
/-! ### _law_rows -/
section
variable {K : PySem.W.Frag} {H H' : Hp}
/-- a drawn row: the tuple of a start and a list of steps -/
def RowAt (K : PySem.W.Frag) (H : Hp) (t : Addr) (x0 : Int) (ss : List Stp) : Prop := ∃ l us, H t = some (.tup [.int x0, .ref l]) ∧ H l = some (.lst us) ∧ StepsAt K H us ss
theorem stepsAt_ext {us : List V} {ss : List Stp} (k : LamX.ExtN H H') (h : StepsAt K H us ss) : StepsAt K H' us ss := extN_steps k h
theorem RowAt.ext {t : Addr} {x0 : Int} {ss : List Stp} (k : LamX.ExtN H H') (h : RowAt K H t x0 ss) : RowAt K H' t x0 ss := let ⟨l, us, e1, e2, e3⟩ := h; ⟨l, us, k _ _ e1 (fun ps z => nomatch z), k _ _ e2 (fun ps z => nomatch z), stepsAt_ext k e3⟩
/-- the rows that us names -/
abbrev RowsAt (K : PySem.W.Frag) (H : Hp) : List V → List (Int × List Stp) → Prop := Paired fun v r => ∃ t, v = .ref t ∧ RowAt K H t r.1 r.2
theorem RowsAt.ext {us : List V} {rs : List (Int × List Stp)} (k : LamX.ExtN H H') (h : RowsAt K H us rs) : RowsAt K H' us rs := Paired.mapP h fun _ _ ⟨t, e, q⟩ => ⟨t, e, q.ext k⟩
end
/-- .. whose list is not at L -/
def RowNe (K : PySem.W.Frag) (H : Hp) (L : Addr) (v : V) (r : Int × List Stp) : Prop := ∃ t l us, v = .ref t ∧ H t = some (.tup [.int r.1, .ref l]) ∧ H l = some (.lst us) ∧ StepsAt K H us r.2 ∧ l ≠ L
theorem RowNe.ext {K : PySem.W.Frag} {H H' : Hp} {L : Addr} {v : V} {r : Int × List Stp} (k : LamX.ExtN H H') (h : RowNe K H L v r) : RowNe K H' L v r := let ⟨t, l, us, e, e1, e2, e3, n⟩ := h; ⟨t, l, us, e, k _ _ e1 (fun ps z => nomatch z), k _ _ e2 (fun ps z => nomatch z), stepsAt_ext k e3, n⟩
theorem RowNe.put {K : PySem.W.Frag} {H : Hp} {L : Addr} {v : V} {r : Int × List Stp} {xs ys : List V} (hL : H L = some (.lst xs)) (h : RowNe K H L v r) : RowNe K (upd H L (.lst ys)) L v r :=
  let ⟨t, l, us, e, e1, e2, e3, n⟩ := h
  ⟨t, l, us, e, by rw [upd_ne (fun z => by rw [z, hL] at e1; cases e1)]; exact e1, by rw [upd_ne n]; exact e2, e3.sameX (NoTup.lst hL) SameX.at, n⟩
theorem RowNe.row {K : PySem.W.Frag} {H : Hp} {L : Addr} {v : V} {r : Int × List Stp} (h : RowNe K H L v r) : ∃ t, v = .ref t ∧ RowAt K H t r.1 r.2 := let ⟨t, l, us, e, e1, e2, e3, _⟩ := h; ⟨t, e, l, us, e1, e2, e3⟩
/-- such a row may be a hand's -/
structure RowOk (ms mt : Nat) (zs : List Str) (r : Int × List Stp) : Prop where
  ex : ∃ sts : List Int, Steps r.2 sts zs ∧ r.1 ∈ sts ∧ sts.length ≤ ms ∧ ∀ x ∈ sts, 0 ≤ x ∧ x ≤ 75 + 3 * (ms : Int)
  ne : r.2 ≠ []
  len : r.2.length ≤ mt
section
variable {P : Program} {w : World} {K : PySem.W.Frag} {mg : Str → Option Value} {base : Heap}
abbrev nRows : List Str := ["_law_script", "_law_most_hands", "_law_most_words", "_law_most_states", "_law_most_steps", "_law_pool_here", "_law_many", "_law_k", "_law_eager", "_law_names_here", "_law_rows_here"]
def spRows (K : PySem.W.Frag) : Sp := fun vs H Q _ => ∃ (a : Addr) (ns : List Int) (mh mw ms mt : Nat), vs = [.ref a, .int mh, .int mw, .int ms, .int mt] ∧ SqL K H a (ns.map V.int) ∧ 1 ≤ mh ∧ mh ≤ 50 ∧ 1 ≤ mw ∧ mw ≤ 50 ∧ 1 ≤ ms ∧ ms ≤ mt ∧ mt ≤ 24 ∧ ms ≤ 8 ∧
  ∀ (t lr lc : Addr) (us : List V) (rs : List (Int × List Stp)) (cs : List Int) (zs : List Str) (H' : Hp), H t = none → H lr = none → H' t = some (.tup [.ref lr, .ref lc]) → H' lr = some (.lst us) → RowsAt K H' us rs → (∀ r ∈ rs, RowOk ms mt zs r) → 1 ≤ rs.length → rs.length ≤ mh →
    (∀ z ∈ zs, NameOk z) → zs.length ≤ mw → H' lc = some (.lst (cs.map V.int)) → cs.Pairwise (· < ·) → (∀ x ∈ cs, 0 ≤ x ∧ x < (rs.length : Nat)) → Same H H' → Q (.ref t) H'
end
end KX
/-! Dicts whose keys are nested tuples of numbers and flags, in the abstract heap. -/
namespace UL
open PySem PySem.Spec PyProof.Rows L2
mutual
def NF : NestedKey → Prop
  | .none => True
  | .num _ => True
  | .text _ => False
  | .tup ks => NFs ks
def NFs : List NestedKey → Prop
  | [] => True
  | k :: ks => NF k ∧ NFs ks
end
mutual
theorem nf_hash (w w' : World) : ∀ k : NestedKey, NF k → NestedKey.hash w k = NestedKey.hash w' k
  | .none, _ => by rw [NestedKey.hash, NestedKey.hash]
  | .num i, _ => by rw [NestedKey.hash, NestedKey.hash]
  | .text _, h => by unfold NF at h; exact h.elim
  | .tup ks, h => by
    unfold NF at h
    rw [NestedKey.hash, NestedKey.hash, nf_hashes w w' ks h]
theorem nf_hashes (w w' : World) : ∀ ks : List NestedKey, NFs ks → NestedKey.hashes w ks = NestedKey.hashes w' ks
  | [], _ => by rw [NestedKey.hashes, NestedKey.hashes]
  | k :: ks, h => by
    unfold NFs at h
    rw [NestedKey.hashes, NestedKey.hashes, nf_hash w w' k h.1, nf_hashes w w' ks h.2]
end
abbrev NL3 := List (NestedKey × Addr × V)
abbrev PrV : (NestedKey × Addr × V) → (NestedKey × Addr × Value) → Prop := fun p q => p.1 = q.1 ∧ p.2.1 = q.2.1 ∧ RelV p.2.2 q.2.2
/-- at D stands the dict L: keys, where they stand, values -/
def NdAt (h : Heap) (D : Addr) (L : NL3) : Prop :=
  L.length ≤ sizeLine ∧ (D == sysModules) = false ∧ (L.map (·.1)).Nodup ∧ (∀ p ∈ L, NF p.1 ∧ p.1.depth ≤ 8) ∧ ∃ xs : List (NestedKey × Addr × Value), Paired PrV L xs ∧
    ∃ o es ep, h.get? D = some o ∧ o.ExactDict ∧ o.data = .dict es ep ∧ ∀ w, es.toList = xs.map fun x => ⟨NestedKey.hash w x.1, .ref x.2.1, x.2.2⟩
theorem NdAt.at {h h' : Heap} {D : Addr} {L : NL3} (x : NdAt h D L) (k : ∀ o, h.get? D = some o → h'.get? D = some o) : NdAt h' D L := by
  obtain ⟨a, b, c, d, xs, e, o, es, ep, f, g⟩ := x
  exact ⟨a, b, c, d, xs, e, o, es, ep, k o f, g⟩
def NdO (D : Addr) (L : NL3) : HO := .ext fun h => NdAt h D L
/-- it is no code object -/
theorem ndO_code {h : Heap} {D : Addr} {L : NL3} (x : NdAt h D L) : ∀ c q, NdO D L ≠ LamX.CodeO c q := fun c q e => by
  obtain ⟨_, _, _, _, _, _, o, es, ep, f, g, d, _⟩ := id x
  have all : ∀ (y : Addr) (oc : Obj), (⟨Array.replicate (D + 1) o, {}⟩ : Heap).get? y = some oc → oc = o := fun y oc hy => by
    unfold Heap.get? at hy
    simp only [Array.getElem?_replicate] at hy
    by_cases l : y < D + 1
    · rw [if_pos l] at hy
      split at hy
      · cases hy
      · cases hy; rfl
    · rw [if_neg l] at hy
      cases hy
  have at0 : (⟨Array.replicate (D + 1) o, {}⟩ : Heap).get? D = some o := by
    unfold Heap.get?
    simp only [Array.getElem?_replicate]
    rw [if_pos (Nat.lt_succ_self D)]
    split
    · rename_i h1
      cases h1
      cases d
    · rfl
  have y : NdAt (⟨Array.replicate (D + 1) o, {}⟩ : Heap) D L := x.at fun o' h' => by rw [f] at h'; cases h'; exact at0
  have e : (fun h => NdAt h D L) = fun h : Heap => ∃ (oc : Obj) (vs : Array Value) (t : Tok), h.get? c = some oc ∧ oc.data = .fields vs ∧ vs[1]? = some (.str q t) := HO.ext.inj e
  rw [show NdAt (⟨Array.replicate (D + 1) o, {}⟩ : Heap) D L = _ from congrFun e _] at y
  obtain ⟨oc, vs, t, h1, h2, _⟩ := y
  rw [all _ _ h1, d] at h2
  cases h2
theorem paired_keys {L : NL3} {xs : List (NestedKey × Addr × Value)} (h : Paired PrV L xs) : xs.map (·.1) = L.map (·.1) := by
  induction h with
  | nil => rfl
  | cons a _ ih => rw [List.map_cons, List.map_cons, ih, a.1]
theorem paired_mem {L : NL3} {xs : List (NestedKey × Addr × Value)} (h : Paired PrV L xs) : ∀ q ∈ xs, ∃ p ∈ L, PrV p q := by
  induction h with
  | nil => intro q hq; cases hq
  | cons a _ ih =>
    intro q hq
    rcases List.mem_cons.mp hq with rfl | hq
    · exact ⟨_, List.mem_cons_self, a⟩
    · obtain ⟨p, hp, r⟩ := ih q hq
      exact ⟨p, List.mem_cons_of_mem _ hp, r⟩
theorem NdAt.of {P : Program} {w : World} {h : Heap} {D : Addr} {L : NL3} {xs : List (NestedKey × Addr × Value)} (hm : h.DictOfH (nestedKind P w) D xs) (pr : Paired PrV L xs) (hl : L.length ≤ sizeLine) (hs : (D == sysModules) = false) (nf : ∀ p ∈ L, NF p.1 ∧ p.1.depth ≤ 8) : NdAt h D L := by
  obtain ⟨o, es, ep, f, g, d, e, _, nd⟩ := hm
  refine ⟨hl, hs, by rw [← paired_keys pr]; exact nd, nf, xs, pr, o, es, ep, f, g, d, fun w' => ?_⟩
  rw [e]
  refine List.map_congr_left fun q hq => ?_
  obtain ⟨p, hp, r1, _⟩ := paired_mem pr q hq
  show (⟨NestedKey.hash w q.1, .ref q.2.1, q.2.2⟩ : DictEntry) = _
  rw [nf_hash w w' q.1 (r1 ▸ (nf p hp).1)]
/-- what is found at a key -/
def nAt (L : NL3) (k : NestedKey) : Option V := (L.find? fun p => decide (p.1 = k)).map (·.2.2)
def nPut (L : NL3) (k : NestedKey) (a : Addr) (v : V) : NL3 := if (nAt L k).isSome then L.map fun p => if p.1 = k then (p.1, p.2.1, v) else p else L ++ [(k, a, v)]
/-! ### the operations -/
/-- a is the key k; the keys of L -/
def KeyIs (H : Hp) (k : NestedKey) (a : Addr) : Prop := ∀ (P : Program) (w : World) (h : Heap), HOk P w H h → NestedIs h k (.ref a)
def NKeys (H : Hp) (L : NL3) : Prop := ∀ p ∈ L, KeyIs H p.1 p.2.1
section
variable {X : Cx} {pins : List (Addr × Obj)} {σ : L2.St} {H : Hp} {s : Shared} {D a : Addr} {L : NL3} {k : NestedKey} {A : Around} {E : Value → Shared → Prop}
/-- k in d, k not in d -/
def rInN (neg : Bool) : R2 := fun x y H Q => ∃ (D a : Addr) (L : NL3) (k : NestedKey), x = .ref a ∧ y = .ref D ∧ H D = some (NdO D L) ∧ NKeys H L ∧ KeyIs H k a ∧ k.depth ≤ 8 ∧ Q (.bl (if neg then !(nAt L k).isSome else (nAt L k).isSome)) H
/-- d[k] -/
def rGetN : R2 := fun x y H Q => ∃ (D a : Addr) (L : NL3) (k : NestedKey) (v : V), x = .ref D ∧ y = .ref a ∧ H D = some (NdO D L) ∧ NKeys H L ∧ KeyIs H k a ∧ k.depth ≤ 8 ∧ nAt L k = some v ∧ Q v H
/-- d[k] = v -/
def sNPut (td ty tv : TE) : TS := fun D σ H => tv σ H fun v H1 => td σ H1 fun x H2 => ty σ H2 fun y H3 => ∃ (d a : Addr) (L : NL3) (k : NestedKey), x = .ref d ∧ y = .ref a ∧ H3 d = some (NdO d L) ∧ NKeys H3 L ∧ KeyIs H3 k a ∧ NF k ∧ k.depth ≤ 8 ∧ L.length < sizeLine ∧
  ((∃ h, NdAt h d (nPut L k a v)) → D.nx σ (upd H3 d (NdO d (nPut L k a v))))
/-- {} -/
def tDNewN : TE := fun _ H Q => ∀ p, H p = none → (∃ h, NdAt h p []) → Q (.ref p) (upd H p (NdO p []))
/-- len(d) -/
def rLenN : List V → Hp → VK → Prop := fun xs H Q => ∃ (D : Addr) (L : NL3), xs = [V.ref D] ∧ H D = some (NdO D L) ∧ NKeys H L ∧ Q (.int ((L.length : Nat) : Int)) H
end
end UL
/-! UL: a def's text told over data: what the values of its names are as trees, no heap in sight. -/
namespace UL
open PySem PySem.Spec PyProof.Rows L2
/-- data: what a value is, read down to its leaves; val: a value by itself -/
inductive Dt where
  | non | bl (b : Bool) | int (i : Int) | str (z : Str)
  | lst (ds : List Dt) | tup (ds : List Dt)
  | obj (C : Addr) (ks : List Str) (ds : List Dt)
  | dct (ks : List (List Key)) (ds : List Dt)
  | nd (ks ds : List Dt)
  | dk (ks : List Key) (ds : List Dt)
  | val (v : V)
  | sql (ns : List Int)
mutual
/-- data as a key: nested tuples of numbers and flags -/
def Dt.nk : Dt → Option NestedKey
  | .non => some .none
  | .bl b => some (.num (if b then 1 else 0))
  | .int i => some (.num i)
  | .tup ds => (Dt.nks ds).map .tup
  | .str _ => none
  | .lst _ => none
  | .obj _ _ _ => none
  | .dct _ _ => none
  | .nd _ _ => none
  | .dk _ _ => none
  | .val _ => none
  | .sql _ => none
def Dt.nks : List Dt → Option (List NestedKey)
  | [] => some []
  | d :: ds => match d.nk, Dt.nks ds with
    | some x, some xs => some (x :: xs)
    | _, _ => none
end
mutual
/-- v is d in H; ok: where its lists, dicts and instances may stand -/
inductive R (K : PySem.W.Frag) (ok : Addr → Prop) (H : Hp) : Dt → V → Prop
  | non : R K ok H .non .non
  | bl (b : Bool) : R K ok H (.bl b) (.bl b)
  | int (i : Int) : R K ok H (.int i) (.int i)
  | str (z : Str) : R K ok H (.str z) (.str z)
  | lst {a : Addr} {us : List V} {ds : List Dt} : H a = some (.lst us) → ok a → Rs K ok H ds us → R K ok H (.lst ds) (.ref a)
  | tup {a : Addr} {us : List V} {ds : List Dt} : H a = some (.tup us) → Rs K ok H ds us → R K ok H (.tup ds) (.ref a)
  | obj {a C dx : Addr} {gs : List (Str × V)} {ks : List Str} {us : List V} {ds : List Dt} : H a = some (.ins C dx gs) → ks.map (fun f => gs.lookup f) = us.map some → (∀ f, f ∉ ks → gs.lookup f = none) → Rs K ok H ds us → R K ok H (.obj C ks ds) (.ref a)
  | dct {a : Addr} {kvs : List (List Key × V)} {ds : List Dt} : H a = some (.dT kvs) → Rs K ok H ds (kvs.map (·.2)) → R K ok H (.dct (kvs.map (·.1)) ds) (.ref a)
  | nd {a : Addr} {L : NL3} {ks ds : List Dt} : H a = some (NdO a L) → ok a → (∃ h, NdAt h a L) → Rs K ok H ks (L.map fun p => V.ref p.2.1) → Dt.nks ks = some (L.map (·.1)) → Rs K ok H ds (L.map (·.2.2)) → R K ok H (.nd ks ds) (.ref a)
  | dk {a : Addr} {kvs : List (Key × V)} {ds : List Dt} : H a = some (.dK kvs) → ok a → Rs K ok H ds (kvs.map (·.2)) → R K ok H (.dk (kvs.map (·.1)) ds) (.ref a)
  | val (v : V) : R K ok H (.val v) v
  | sql {a : Addr} {ns : List Int} : Rd H a (.lst (ns.map V.int)) → ok a → R K ok H (.sql ns) (.ref a)
  | sqk {a : Addr} {ns : List Int} : (∃ (o : Obj) (its : Array Value) (n : Nat), K.lookup a = some o ∧ o.cls = .type "list" ∧ o.dict = none ∧ o.data = .seq its n ∧ its.size ≤ sizeLine ∧ Vals (ns.map V.int) its.toList) → R K ok H (.sql ns) (.ref a)
inductive Rs (K : PySem.W.Frag) (ok : Addr → Prop) (H : Hp) : List Dt → List V → Prop
  | nil : Rs K ok H [] []
  | cons {d : Dt} {ds : List Dt} {v : V} {vs : List V} : R K ok H d v → Rs K ok H ds vs → Rs K ok H (d :: ds) (v :: vs)
end
/-- no code object's table; nothing but one; all but those stands on -/
def NT (o : HO) : Prop := ∀ ps, o ≠ .tbl ps
def Fre (H : Hp) (a : Addr) : Prop := ∀ o, NT o → H a ≠ some o
structure Ex (T : List NdefX.NTab) (H H' : Hp) : Prop where
  k : ∀ a o, NT o → H a = some o → H' a = some o
  tab : NdefX.TabsN T H → NdefX.TabsN T H'
instance {T : List NdefX.NTab} {H H' : Hp} : CoeFun (Ex T H H') fun _ => ∀ a o, NT o → H a = some o → H' a = some o := ⟨Ex.k⟩
theorem tabs_put {T : List NdefX.NTab} {H : Hp} {p : Addr} {o o' : HO} (e : H p = some o) (n1 : NT o) (n2 : ∀ c q, o ≠ LamX.CodeO c q) (h : NdefX.TabsN T H) : NdefX.TabsN T (upd H p o') := fun q hq => by
  obtain ⟨ps, h1, h2, h3⟩ := h q hq
  refine ⟨ps, ?_, h2, fun pos cv hc => ?_⟩
  · rw [upd_ne (fun z => by rw [z, e] at h1; cases h1; exact n1 _ rfl)]
    exact h1
  · obtain ⟨c, e1, e2⟩ := h3 pos cv hc
    refine ⟨c, e1, ?_⟩
    rw [upd_ne (fun z => by rw [z, e] at e2; exact n2 _ _ (Option.some.inj e2))]
    exact e2
theorem nc_lst {us : List V} : ∀ c q, HO.lst us ≠ LamX.CodeO c q := fun c q z => by
  unfold LamX.CodeO at z
  cases z
theorem tabs_lst {T : List NdefX.NTab} {H : Hp} {p : Addr} {us : List V} {o' : HO} (e : H p = some (.lst us)) (h : NdefX.TabsN T H) : NdefX.TabsN T (upd H p o') := tabs_put e (fun _ z => nomatch z) nc_lst h
theorem nt_lst {us : List V} : NT (.lst us) := fun _ z => nomatch z
theorem nt_tup {us : List V} : NT (.tup us) := fun _ z => nomatch z
theorem nt_ins {C dx : Addr} {gs : List (Str × V)} : NT (.ins C dx gs) := fun _ z => nomatch z
theorem nt_dT {kvs : List (List Key × V)} : NT (.dT kvs) := fun _ z => nomatch z
theorem nt_frz {o : Obj} {u : HO} : NT (.frz o u) := fun _ z => nomatch z
theorem nt_nd {D : Addr} {L : NL3} : NT (NdO D L) := fun _ z => by unfold NdO at z; cases z
theorem nt_dK {kvs : List (Key × V)} : NT (.dK kvs) := fun _ z => nomatch z
/-- no list, no dict that may change -/
structure NL (o : HO) : Prop where
  lst : ∀ us, o ≠ .lst us
  nd : ∀ D L, o ≠ NdO D L
  dk : ∀ kvs, o ≠ .dK kvs
theorem nl_tup {us : List V} : NL (.tup us) := ⟨fun _ z => (nomatch z), (fun _ _ z => by unfold NdO at z; cases z), fun _ z => (nomatch z)⟩
theorem nl_ins {C dx : Addr} {gs : List (Str × V)} : NL (.ins C dx gs) := ⟨fun _ z => (nomatch z), (fun _ _ z => by unfold NdO at z; cases z), fun _ z => (nomatch z)⟩
theorem nl_dT {kvs : List (List Key × V)} : NL (.dT kvs) := ⟨fun _ z => (nomatch z), (fun _ _ z => by unfold NdO at z; cases z), fun _ z => (nomatch z)⟩
theorem nl_xd {fs : List (Str × V)} : NL (.xd fs) := ⟨fun _ z => (nomatch z), (fun _ _ z => by unfold NdO at z; cases z), fun _ z => (nomatch z)⟩
theorem nl_frz {o : Obj} {u : HO} : NL (.frz o u) := ⟨fun _ z => (nomatch z), (fun _ _ z => by unfold NdO at z; cases z), fun _ z => (nomatch z)⟩
theorem Fre.of {H : Hp} {a : Addr} (h : H a = none) : Fre H a := fun o _ z => by rw [h] at z; cases z
theorem nfre {H : Hp} {a : Addr} {o : HO} (e : H a = some o) (n : NT o) : ¬ Fre H a := fun f => f o n e
variable {T : List NdefX.NTab}
theorem Ex.of {H H' : Hp} (k : Same H H') : Ex T H H' := ⟨fun a o _ e => k a o e, fun h => h.ext k⟩
theorem Ex.refl {H : Hp} : Ex T H H := ⟨fun _ _ _ e => e, id⟩
theorem Ex.trans {H H1 H2 : Hp} (a : Ex T H H1) (b : Ex T H1 H2) : Ex T H H2 := ⟨fun x o n e => b x o n (a x o n e), fun h => b.tab (a.tab h)⟩
theorem Ex.fre {H H' : Hp} (k : Ex T H H') {a : Addr} (f : Fre H' a) : Fre H a := fun o n e => f o n (k a o n e)
/-- what stands at such places, and each tuple, stands on -/
structure Kp (ok : Addr → Prop) (H H' : Hp) : Prop where
  keep : ∀ a o, NT o → H a = some o → (ok a ∨ NL o) → H' a = some o
  dom : ∀ a, Fre H' a → Fre H a
theorem Kp.ex {ok : Addr → Prop} {H H' : Hp} (k : Ex T H H') : Kp ok H H' := ⟨fun a o n e _ => k a o n e, fun a f => k.fre f⟩
theorem Kp.same {ok : Addr → Prop} {H H' : Hp} (k : Same H H') : Kp ok H H' := .ex (T := []) (.of k)
theorem Kp.refl {ok : Addr → Prop} {H : Hp} : Kp ok H H := .ex (T := []) .refl
/-- the places may become more -/
structure Mv (ok : Addr → Prop) (H : Hp) (ok' : Addr → Prop) (H' : Hp) : Prop where
  kp : Kp ok H H'
  ok : ∀ a, ¬ Fre H a → ok a → ok' a
theorem Mv.refl {ok : Addr → Prop} {H : Hp} : Mv ok H ok H := ⟨.refl, fun _ _ h => h⟩
theorem Mv.ex {ok : Addr → Prop} {H H' : Hp} (k : Ex T H H') : Mv ok H ok H' := ⟨.ex k, fun _ _ h => h⟩
theorem Mv.same {ok : Addr → Prop} {H H' : Hp} (k : Same H H') : Mv ok H ok H' := .ex (T := []) (.of k)
theorem Mv.of {ok : Addr → Prop} {H H' : Hp} (k : Kp ok H H') : Mv ok H ok H' := ⟨k, fun _ _ h => h⟩
theorem Mv.trans {o1 o2 o3 : Addr → Prop} {H1 H2 H3 : Hp} (a : Mv o1 H1 o2 H2) (b : Mv o2 H2 o3 H3) : Mv o1 H1 o3 H3 := by
  have ne : ∀ {x : Addr}, ¬ Fre H1 x → ¬ Fre H2 x := fun h z => h (a.kp.dom _ z)
  refine ⟨⟨fun x o n e h => ?_, fun x e => a.kp.dom x (b.kp.dom x e)⟩, fun x e h => b.ok x (ne e) (a.ok x e h)⟩
  exact b.kp.keep x o n (a.kp.keep x o n e h) (h.imp (fun q => a.ok x (nfre e n) q) id)
section
variable {K : PySem.W.Frag} {T : List NdefX.NTab} {ok ok' : Addr → Prop} {H H' : Hp}
theorem sqT_mv {a : Addr} {us : List V} (m : Mv ok H ok' H') (h : SqT K H a us) : SqT K H' a us :=
  h.imp (fun r => r.imp (fun e => m.kp.keep _ _ nt_tup e (.inr nl_tup)) fun ⟨o, e⟩ => ⟨o, m.kp.keep _ _ nt_frz e (.inr nl_frz)⟩) id
mutual
theorem R.mv (m : Mv ok H ok' H') : ∀ {d : Dt} {v : V}, R K ok H d v → R K ok' H' d v
  | _, _, .non => .non
  | _, _, .bl b => .bl b
  | _, _, .int i => .int i
  | _, _, .str z => .str z
  | _, _, .lst e q t => .lst (m.kp.keep _ _ nt_lst e (.inl q)) (m.ok _ (nfre e nt_lst) q) (Rs.mv m t)
  | _, _, .tup e t => .tup (m.kp.keep _ _ nt_tup e (.inr nl_tup)) (Rs.mv m t)
  | _, _, .obj e f n t => .obj (m.kp.keep _ _ nt_ins e (.inr nl_ins)) f n (Rs.mv m t)
  | _, _, .dct e t => .dct (m.kp.keep _ _ nt_dT e (.inr nl_dT)) (Rs.mv m t)
  | _, _, .nd e q x r1 nk r2 => .nd (m.kp.keep _ _ nt_nd e (.inl q)) (m.ok _ (nfre e nt_nd) q) x (Rs.mv m r1) nk (Rs.mv m r2)
  | _, _, .dk e q r => .dk (m.kp.keep _ _ nt_dK e (.inl q)) (m.ok _ (nfre e nt_dK) q) (Rs.mv m r)
  | _, _, .val v => .val v
  | _, _, .sql e q => .sql (e.imp (fun e => m.kp.keep _ _ nt_lst e (.inl q)) fun ⟨o, e⟩ => ⟨o, m.kp.keep _ _ nt_frz e (.inr nl_frz)⟩) (m.ok _ (e.elim (fun e => nfre e nt_lst) fun ⟨_, e⟩ => nfre e nt_frz) q)
  | _, _, .sqk e => .sqk e
theorem Rs.mv (m : Mv ok H ok' H') : ∀ {ds : List Dt} {vs : List V}, Rs K ok H ds vs → Rs K ok' H' ds vs
  | _, _, .nil => .nil
  | _, _, .cons h t => .cons (R.mv m h) (Rs.mv m t)
end
theorem R.ex {d : Dt} {v : V} (k : Ex T H H') (h : R K ok H d v) : R K ok H' d v := h.mv (.ex k)
theorem Rs.ex {d : List Dt} {v : List V} (k : Ex T H H') (h : Rs K ok H d v) : Rs K ok H' d v := h.mv (.ex k)
theorem R.same {d : Dt} {v : V} (k : Same H H') (h : R K ok H d v) : R K ok H' d v := h.mv (.same k)
theorem Rs.same {d : List Dt} {v : List V} (k : Same H H') (h : Rs K ok H d v) : Rs K ok H' d v := h.mv (.same k)
theorem R.okm {d : Dt} {v : V} (k : ∀ a, ¬ Fre H a → ok a → ok' a) (h : R K ok H d v) : R K ok' H d v := h.mv ⟨.refl, k⟩
theorem Rs.okm {d : List Dt} {v : List V} (k : ∀ a, ¬ Fre H a → ok a → ok' a) (h : Rs K ok H d v) : Rs K ok' H d v := h.mv ⟨.refl, k⟩
theorem Rs.len : ∀ {ds : List Dt} {vs : List V}, Rs K ok H ds vs → vs.length = ds.length
  | _, _, .nil => rfl
  | _, _, .cons _ t => by rw [List.length_cons, List.length_cons, Rs.len t]
theorem Rs.get : ∀ {ds : List Dt} {vs : List V} {i : Nat} {v : V}, Rs K ok H ds vs → vs[i]? = some v → ∃ d, ds[i]? = some d ∧ R K ok H d v
  | _, _, _, _, .nil, e => by simp at e
  | _, _, 0, v, .cons h _, e => by
    cases e
    exact ⟨_, rfl, h⟩
  | _, _, i + 1, v, .cons _ t, e => Rs.get (i := i) t e
theorem Rs.getD : ∀ {ds : List Dt} {vs : List V} {i : Nat} {d : Dt}, Rs K ok H ds vs → ds[i]? = some d → ∃ v, vs[i]? = some v ∧ R K ok H d v
  | _, _, _, _, .nil, e => by simp at e
  | _, _, 0, v, .cons h _, e => by
    cases e
    exact ⟨_, rfl, h⟩
  | _, _, i + 1, v, .cons _ t, e => Rs.getD (i := i) t e
theorem Rs.append : ∀ {ds es : List Dt} {vs us : List V}, Rs K ok H ds vs → Rs K ok H es us → Rs K ok H (ds ++ es) (vs ++ us)
  | _, _, _, _, .nil, s => s
  | _, _, _, _, .cons h t, s => .cons h (Rs.append t s)
theorem Rs.snoc {ds : List Dt} {vs : List V} {d : Dt} {v : V} (h : Rs K ok H ds vs) (q : R K ok H d v) : Rs K ok H (ds ++ [d]) (vs ++ [v]) := h.append (.cons q .nil)
theorem R.listSq {ds : List Dt} {v : V} (h : R K ok H (.lst ds) v) : ∃ a us, v = .ref a ∧ H a = some (.lst us) ∧ ok a ∧ Rs K ok H ds us := by
  cases h with
  | lst e q t => exact ⟨_, _, rfl, e, q, t⟩
theorem R.tupE {ds : List Dt} {v : V} (h : R K ok H (.tup ds) v) : ∃ a us, v = .ref a ∧ H a = some (.tup us) ∧ Rs K ok H ds us := by
  cases h with
  | tup h t => exact ⟨_, _, rfl, h, t⟩
theorem R.tupSq {ds : List Dt} {v : V} (h : R K ok H (.tup ds) v) : ∃ a us, v = .ref a ∧ SqT K H a us ∧ Rs K ok H ds us := by
  cases h with
  | tup h t => exact ⟨_, _, rfl, .of h, t⟩
theorem R.intE {i : Int} {v : V} (h : R K ok H (.int i) v) : v = .int i := by cases h; rfl
theorem R.strE {z : Str} {v : V} (h : R K ok H (.str z) v) : v = .str z := by cases h; rfl
theorem R.blE {b : Bool} {v : V} (h : R K ok H (.bl b) v) : v = .bl b := by cases h; rfl
theorem R.nonE {v : V} (h : R K ok H .non v) : v = .non := by cases h; rfl
theorem R.newT {p : Addr} {us : List V} {ds : List Dt} (hn : H p = none) (h : Rs K ok H ds us) : R K ok (upd H p (.tup us)) (.tup ds) (.ref p) := .tup upd_same (h.same fun b o e => by rw [upd_ne (ne_of_none e hn)]; exact e)
end
theorem same_up {H : Hp} {p : Addr} {o : HO} (hn : H p = none) : Same H (upd H p o) := fun b u e => by rw [upd_ne (ne_of_none e hn)]; exact e
/-! ### data as the library's -/
mutual
def Dt.py : Dt → Option PyData
  | .non => some .none
  | .bl b => some (.bool b)
  | .int i => some (.int i)
  | .str z => some (.str z)
  | .lst ds => (Dt.pys ds).map .list
  | .tup ds => (Dt.pys ds).map .tuple
  | .obj _ _ _ => none
  | .dct _ _ => none
  | .nd _ _ => none
  | .dk _ _ => none
  | .val _ => none
  | .sql _ => none
def Dt.pys : List Dt → Option (List PyData)
  | [] => some []
  | d :: ds => match d.py, Dt.pys ds with
    | some x, some xs => some (x :: xs)
    | _, _ => none
end
mutual
theorem R.dp {K : PySem.W.Frag} {ok : Addr → Prop} {H : Hp} : ∀ {d : Dt} {v : V}, R K ok H d v → ∀ {x : PyData}, d.py = some x → Dp K H v x
  | _, _, .non, _, e => by cases e; exact .non
  | _, _, .bl b, _, e => by cases e; exact .bl b
  | _, _, .int i, _, e => by cases e; exact .int i
  | _, _, .str z, _, e => by cases e; exact .str z
  | .lst ds, _, .lst h _ t, x, e => by
    have e : (Dt.pys ds).map PyData.list = some x := by rw [← e]; unfold Dt.py; rfl
    cases q : Dt.pys ds with
    | none => rw [q] at e; cases e
    | some xs =>
      rw [q] at e
      cases e
      exact .lst (.of h) (Rs.dp t q)
  | .tup ds, _, .tup h t, x, e => by
    have e : (Dt.pys ds).map PyData.tuple = some x := by rw [← e]; unfold Dt.py; rfl
    cases q : Dt.pys ds with
    | none => rw [q] at e; cases e
    | some xs =>
      rw [q] at e
      cases e
      exact .tup (.of h) (Rs.dp t q)
  | _, _, .obj _ _ _ _, _, e => by unfold Dt.py at e; cases e
  | _, _, .dct _ _, _, e => by unfold Dt.py at e; cases e
  | _, _, .nd _ _ _ _ _ _, _, e => by unfold Dt.py at e; cases e
  | _, _, .dk _ _ _, _, e => by unfold Dt.py at e; cases e
  | _, _, .val v, _, e => by unfold Dt.py at e; cases e
  | _, _, .sql _ _, _, e => by unfold Dt.py at e; cases e
  | _, _, .sqk _, _, e => by unfold Dt.py at e; cases e
theorem Rs.dp {K : PySem.W.Frag} {ok : Addr → Prop} {H : Hp} : ∀ {ds : List Dt} {vs : List V}, Rs K ok H ds vs → ∀ {xs : List PyData}, Dt.pys ds = some xs → DpAll K H vs xs
  | _, _, .nil, _, e => by unfold Dt.pys at e; cases e; exact .nil
  | d :: ds, _, .cons h t, xs, e => by
    unfold Dt.pys at e
    cases q1 : d.py with
    | none => rw [q1] at e; cases e
    | some x =>
      cases q2 : Dt.pys ds with
      | none => rw [q1, q2] at e; cases e
      | some ys =>
        rw [q1, q2] at e
        cases e
        exact .cons (R.dp h q1) (Rs.dp t q2)
end
/-! ### data as keys -/
mutual
theorem R.nested {K : PySem.W.Frag} {ok : Addr → Prop} {H : Hp} {P : Program} {w : World} {h : Heap} (hok : HOk P w H h) : ∀ {d : Dt} {v : V}, R K ok H d v → ∀ {k : NestedKey} {u : Value}, d.nk = some k → RelV v u → NestedIs h k u
  | _, _, .non, _, _, e, r => by
    unfold Dt.nk at e; cases e
    obtain rfl : _ = Value.none := r
    exact .none
  | _, _, .bl b, _, _, e, r => by
    unfold Dt.nk at e; cases e
    obtain rfl : _ = Value.bool b := r
    exact .bool rfl
  | _, _, .int i, _, _, e, r => by
    unfold Dt.nk at e; cases e
    obtain ⟨t, rfl⟩ := r
    exact .int i t
  | _, _, .str z, _, _, e, _ => by unfold Dt.nk at e; cases e
  | _, _, .lst _ _ _, _, _, e, _ => by unfold Dt.nk at e; cases e
  | .tup ds, .ref a, .tup (us := us) e1 t, k, u, e, r => by
    obtain rfl : u = Value.ref a := r
    have e : (Dt.nks ds).map NestedKey.tup = some k := by rw [← e]; unfold Dt.nk; rfl
    obtain ⟨_, its, rv, o, h1, h2, n, h3⟩ := (show ObjOk P w H h a (.tup us) from hok a _ e1)
    cases q : Dt.nks ds with
    | none => rw [q] at e; cases e
    | some ks =>
      rw [q] at e
      cases e
      exact .tup h1 h2 h3 (by simpa using Rs.nested hok t q rv)
  | _, _, .obj _ _ _ _, _, _, e, _ => by unfold Dt.nk at e; cases e
  | _, _, .dct _ _, _, _, e, _ => by unfold Dt.nk at e; cases e
  | _, _, .nd _ _ _ _ _ _, _, _, e, _ => by unfold Dt.nk at e; cases e
  | _, _, .dk _ _ _, _, _, e, _ => by unfold Dt.nk at e; cases e
  | _, _, .val _, _, _, e, _ => by unfold Dt.nk at e; cases e
  | _, _, .sql _ _, _, _, e, _ => by unfold Dt.nk at e; cases e
  | _, _, .sqk _, _, _, e, _ => by unfold Dt.nk at e; cases e
theorem Rs.nested {K : PySem.W.Frag} {ok : Addr → Prop} {H : Hp} {P : Program} {w : World} {h : Heap} (hok : HOk P w H h) : ∀ {ds : List Dt} {vs : List V}, Rs K ok H ds vs → ∀ {ks : List NestedKey} {us : List Value}, Dt.nks ds = some ks → Vals vs us → NestedAll h ks us
  | _, _, .nil, _, _, e, r => by
    unfold Dt.nks at e; cases e
    cases r
    exact .nil
  | d :: ds, _, .cons hd t, ks, us, e, r => by
    unfold Dt.nks at e
    cases q1 : d.nk with
    | none => rw [q1] at e; cases e
    | some x =>
      cases q2 : Dt.nks ds with
      | none => rw [q1, q2] at e; cases e
      | some ys =>
        rw [q1, q2] at e
        cases e
        cases r with
        | cons rv rt => exact .cons (R.nested hok hd q1 rv) (Rs.nested hok t q2 rt)
end
mutual
theorem nk_nf : ∀ {d : Dt} {k : NestedKey}, d.nk = some k → NF k
  | .non, _, e => by unfold Dt.nk at e; cases e; unfold NF; trivial
  | .bl _, _, e => by unfold Dt.nk at e; cases e; unfold NF; trivial
  | .int _, _, e => by unfold Dt.nk at e; cases e; unfold NF; trivial
  | .tup ds, k, e => by
    have e : (Dt.nks ds).map NestedKey.tup = some k := by rw [← e]; unfold Dt.nk; rfl
    cases q : Dt.nks ds with
    | none => rw [q] at e; cases e
    | some ks =>
      rw [q] at e
      cases e
      unfold NF
      exact nks_nf q
  | .str _, _, e => by unfold Dt.nk at e; cases e
  | .lst _, _, e => by unfold Dt.nk at e; cases e
  | .obj _ _ _, _, e => by unfold Dt.nk at e; cases e
  | .dct _ _, _, e => by unfold Dt.nk at e; cases e
  | .nd _ _, _, e => by unfold Dt.nk at e; cases e
  | .dk _ _, _, e => by unfold Dt.nk at e; cases e
  | .val _, _, e => by unfold Dt.nk at e; cases e
  | .sql _, _, e => by unfold Dt.nk at e; cases e
theorem nks_nf : ∀ {ds : List Dt} {ks : List NestedKey}, Dt.nks ds = some ks → NFs ks
  | [], _, e => by unfold Dt.nks at e; cases e; unfold NFs; trivial
  | d :: ds, ks, e => by
    unfold Dt.nks at e
    cases q1 : d.nk with
    | none => rw [q1] at e; cases e
    | some x =>
      cases q2 : Dt.nks ds with
      | none => rw [q1, q2] at e; cases e
      | some ys =>
        rw [q1, q2] at e
        cases e
        unfold NFs
        exact ⟨nk_nf q1, nks_nf q2⟩
end
end UL
namespace UL
open PySem PySem.Spec PyProof.Rows L2
/-- the pool that draws are made from: a list of three ints at such a place -/
def PlAt (H : Hp) (p : Addr) : Prop := ∃ x y z : Int, H p = some (.lst [.int x, .int y, .int z])
abbrev Env := List (Option Dt)
/-- a def that runs: its entry's heap, where its arguments' lists stand, the places that may change, the pools lent to it, the slots of its own lists, of its pools, their places -/
structure Ct where
  H0 : Hp
  ok0 : Addr → Prop
  L : Addr → Prop
  LP : Addr → Prop
  O : List Nat
  Pl : List Nat
  A : Nat → Addr
  T : List NdefX.NTab
def Ct.base (C : Ct) (a : Addr) : Prop := (C.ok0 a ∧ ¬ C.L a) ∨ Fre C.H0 a
def Ct.ok (C : Ct) (a : Addr) : Prop := C.base a ∧ ∀ i, i ∈ C.O ∨ i ∈ C.Pl → a ≠ C.A i
/-- what an own thing is: a list, a dict -/
inductive OwnD (K : PySem.W.Frag) (ok : Addr → Prop) (H : Hp) (a : Addr) : Dt → HO → Prop
  | lst {us : List V} {ds : List Dt} : Rs K ok H ds us → OwnD K ok H a (.lst ds) (.lst us)
  | nd {L : NL3} {ks ds : List Dt} : (∃ h, NdAt h a L) → Rs K ok H ks (L.map fun p => V.ref p.2.1) → Dt.nks ks = some (L.map (·.1)) → Rs K ok H ds (L.map (·.2.2)) → OwnD K ok H a (.nd ks ds) (NdO a L)
  | dk {kvs : List (Key × V)} {ds : List Dt} : Rs K ok H ds (kvs.map (·.2)) → OwnD K ok H a (.dk (kvs.map (·.1)) ds) (.dK kvs)
theorem OwnD.mv {K : PySem.W.Frag} {ok ok' : Addr → Prop} {H H' : Hp} {a : Addr} {d : Dt} {o : HO} (m : Mv ok H ok' H') (h : OwnD K ok H a d o) : OwnD K ok' H' a d o := by
  cases h with
  | lst r => exact .lst (r.mv m)
  | nd x r1 nk r2 => exact .nd x (r1.mv m) nk (r2.mv m)
  | dk r => exact .dk (r.mv m)
theorem OwnD.nt {K : PySem.W.Frag} {ok : Addr → Prop} {H : Hp} {a : Addr} {d : Dt} {o : HO} (h : OwnD K ok H a d o) : NT o := by
  cases h with
  | lst r => exact nt_lst
  | nd x r1 nk r2 => exact nt_nd
  | dk r => exact nt_dK
theorem OwnD.nl {K : PySem.W.Frag} {ok : Addr → Prop} {H : Hp} {a : Addr} {d : Dt} {o : HO} (h : OwnD K ok H a d o) : ¬ NL o := fun z => by
  cases h with
  | lst r => exact z.lst _ rfl
  | nd x r1 nk r2 => exact z.nd _ _ rfl
  | dk r => exact z.dk _ rfl
theorem OwnD.nc {K : PySem.W.Frag} {ok : Addr → Prop} {H : Hp} {a : Addr} {d : Dt} {o : HO} (h : OwnD K ok H a d o) : ∀ c q, o ≠ LamX.CodeO c q := by
  cases h with
  | lst r => exact nc_lst
  | nd x r1 nk r2 => exact ndO_code x.choose_spec
  | dk r => exact fun c q z => by unfold LamX.CodeO at z; cases z
theorem OwnD.r {K : PySem.W.Frag} {ok : Addr → Prop} {H : Hp} {a : Addr} {d : Dt} {o : HO} (h : OwnD K ok H a d o) (e : H a = some o) (q : ok a) : R K ok H d (.ref a) := by
  cases h with
  | lst r => exact .lst e q r
  | nd x r1 nk r2 => exact .nd e q x r1 nk r2
  | dk r => exact .dk e q r
theorem OwnD.l {K : PySem.W.Frag} {ok : Addr → Prop} {H : Hp} {a : Addr} {ds : List Dt} {o : HO} (h : OwnD K ok H a (.lst ds) o) : ∃ us, o = .lst us ∧ Rs K ok H ds us := by
  cases h with
  | lst r => exact ⟨_, rfl, r⟩
structure EnvR (K : PySem.W.Frag) (C : Ct) (σ : L2.St) (H : Hp) (ρ : Env) : Prop where
  len : σ.length = ρ.length
  keep : ∀ a o, NT o → C.H0 a = some o → ¬ C.L a → H a = some o
  dom : ∀ a, Fre H a → Fre C.H0 a
  lent : ∀ a, C.LP a → PlAt H a ∧ C.L a
  tab : NdefX.TabsN C.T H
  sh : ∀ i d, i ∉ C.O → i ∉ C.Pl → ρ[i]? = some (some d) → ∃ v, σ[i]? = some (some v) ∧ R K C.ok H d v
  own : ∀ i ∈ C.O, ∃ d o, ρ[i]? = some (some d) ∧ σ[i]? = some (some (.ref (C.A i))) ∧ H (C.A i) = some o ∧ OwnD K C.ok H (C.A i) d o ∧ (Fre C.H0 (C.A i) ∨ C.L (C.A i)) ∧ ¬ C.LP (C.A i)
  pls : ∀ i ∈ C.Pl, i < ρ.length ∧ σ[i]? = some (some (.ref (C.A i))) ∧ PlAt H (C.A i) ∧ (Fre C.H0 (C.A i) ∨ C.LP (C.A i))
  dj : ∀ i ∈ C.O, i ∉ C.Pl
  inj : ∀ i j, i ∈ C.O ∨ i ∈ C.Pl → j ∈ C.O ∨ j ∈ C.Pl → C.A i = C.A j → i = j
/-- what an expression may do to the heap: new objects; the pools turn where m is false -/
structure Gr (m : Bool) (C : Ct) (H H' : Hp) : Prop where
  keep : ∀ a o, NT o → H a = some o → (m = false → ∀ i ∈ C.Pl, a ≠ C.A i) → H' a = some o
  pl : ∀ i ∈ C.Pl, PlAt H (C.A i) → PlAt H' (C.A i)
  dom : ∀ a, Fre H' a → Fre H a
  tab : NdefX.TabsN C.T H → NdefX.TabsN C.T H'
section
variable {K : PySem.W.Frag} {T : List NdefX.NTab} {C : Ct} {σ : L2.St} {H H' H'' : Hp} {ρ : Env} {m m' : Bool}
theorem PlAt.ex {p : Addr} (k : Ex T H H') (h : PlAt H p) : PlAt H' p := let ⟨x, y, z, e⟩ := h; ⟨x, y, z, k _ _ nt_lst e⟩
theorem PlAt.same {p : Addr} (k : Same H H') (h : PlAt H p) : PlAt H' p := h.ex (T := []) (.of k)
theorem Gr.ex (k : Ex C.T H H') : Gr m C H H' := ⟨fun a o n e _ => k a o n e, fun _ _ h => h.ex k, fun _ e => k.fre e, k.tab⟩
theorem Gr.of (k : Same H H') : Gr m C H H' := .ex (.of k)
theorem Gr.refl : Gr m C H H := .of (Same.refl H)
theorem Gr.same (g : Gr true C H H') : Ex C.T H H' := ⟨fun a o n e => g.keep a o n e (fun z => nomatch z), g.tab⟩
theorem Gr.weak (g : Gr m C H H') : Gr false C H H' := ⟨fun a o n e h => g.keep a o n e fun _ => h rfl, g.pl, g.dom, g.tab⟩
theorem Gr.trans (a : Gr m C H H') (b : Gr m' C H' H'') : Gr (m && m') C H H'' := ⟨fun x o n e h => by
    refine b.keep x o n (a.keep x o n e fun z => h (by rw [z]; rfl)) fun z => h (by rw [z, Bool.and_false]),
  fun i hi h => b.pl i hi (a.pl i hi h), fun x e => a.dom x (b.dom x e), fun h => b.tab (a.tab h)⟩
theorem EnvR.place (E : EnvR K C σ H ρ) {i : Nat} (hi : i ∈ C.O ∨ i ∈ C.Pl) : ∃ o, H (C.A i) = some o ∧ NT o := by
  rcases hi with hi | hi
  · obtain ⟨_, o, _, _, e, r, _⟩ := E.own i hi
    exact ⟨o, e, r.nt⟩
  · obtain ⟨_, _, ⟨x, y, z, e⟩, _⟩ := E.pls i hi
    exact ⟨_, e, nt_lst⟩
theorem EnvR.freshF (E : EnvR K C σ H ρ) {p : Addr} (hp : Fre H p) : C.ok p := by
  refine ⟨.inr (E.dom p hp), fun i hi e => ?_⟩
  obtain ⟨us, e1, n1⟩ := E.place hi
  exact hp _ n1 (e ▸ e1)
theorem EnvR.fresh (E : EnvR K C σ H ρ) {p : Addr} (hp : H p = none) : C.ok p := E.freshF (.of hp)
theorem Gr.kp (g : Gr m C H H') (E : EnvR K C σ H ρ) : Kp C.ok H H' := by
  refine ⟨fun a o n e h => g.keep a o n e fun _ i hi z => ?_, g.dom⟩
  rcases h with h | h
  · exact h.2 i (.inr hi) z
  · obtain ⟨_, _, ⟨x1, x2, x3, e1⟩, _⟩ := E.pls i hi
    rw [← z, e] at e1
    cases e1
    exact h.lst _ rfl
theorem Gr.mv (g : Gr m C H H') (E : EnvR K C σ H ρ) : Mv C.ok H C.ok H' := .of (g.kp E)
theorem EnvR.gr (E : EnvR K C σ H ρ) (g : Gr m C H H') : EnvR K C σ H' ρ where
  len := E.len
  keep := fun a o nt e n => g.keep a o nt (E.keep a o nt e n) fun _ i hi z => by
    obtain ⟨_, _, _, q⟩ := E.pls i hi
    rcases q with q | q
    · exact q o nt (z ▸ e)
    · exact n (z ▸ (E.lent _ q).2)
  dom := fun a e => E.dom a (g.dom a e)
  lent := fun a h => by
    obtain ⟨p, l⟩ := E.lent a h
    refine ⟨?_, l⟩
    by_cases q : ∃ i ∈ C.Pl, a = C.A i
    · obtain ⟨i, hi, rfl⟩ := q
      exact g.pl i hi p
    · obtain ⟨x, y, z, e⟩ := p
      exact ⟨x, y, z, g.keep a _ nt_lst e fun _ i hi z => q ⟨i, hi, z⟩⟩
  tab := g.tab E.tab
  sh := fun i d hi hp e => let ⟨v, e1, r⟩ := E.sh i d hi hp e; ⟨v, e1, r.mv (g.mv E)⟩
  own := fun i hi => by
    obtain ⟨ds, us, e1, e2, e3, r, q, l⟩ := E.own i hi
    refine ⟨ds, us, e1, e2, g.keep _ _ r.nt e3 fun _ j hj z => ?_, r.mv (g.mv E), q, l⟩
    obtain rfl := E.inj i j (.inl hi) (.inr hj) z
    exact E.dj i hi hj
  pls := fun i hi => let ⟨l, e, p, q⟩ := E.pls i hi; ⟨l, e, g.pl i hi p, q⟩
  dj := E.dj
  inj := E.inj
theorem EnvR.same (E : EnvR K C σ H ρ) (k : Same H H') : EnvR K C σ H' ρ := E.gr (m := true) (.of k)
theorem set_get {α : Type} {l : List α} {i j : Nat} {x y : α} (h : (l.set i x)[j]? = some y) : (j = i ∧ y = x ∧ i < l.length) ∨ (j ≠ i ∧ l[j]? = some y) := by
  by_cases e : j = i
  · subst e
    have hl : j < (l.set j x).length := (List.getElem?_eq_some_iff.mp h).1
    rw [List.length_set] at hl
    rw [List.getElem?_set_self hl] at h
    exact .inl ⟨rfl, (Option.some.inj h).symm, hl⟩
  · rw [List.getElem?_set_ne (Ne.symm e)] at h
    exact .inr ⟨e, h⟩
/-- the ownership map behind a store to slot i of what is not an own list -/
def Ct.drop (C : Ct) (i : Nat) : Ct := { C with O := C.O.filter (· ≠ i) }
theorem mem_drop {O : List Nat} {i j : Nat} : j ∈ O.filter (· ≠ i) ↔ j ∈ O ∧ j ≠ i := by
  rw [List.mem_filter]
  simp
theorem Ct.ok_drop {C : Ct} {i : Nat} {a : Addr} (h : C.ok a) : (C.drop i).ok a := ⟨h.1, fun j hj => h.2 j (hj.imp (fun z => (mem_drop.mp z).1) id)⟩
theorem Mv.drop {i : Nat} : Mv C.ok H (C.drop i).ok H := ⟨.refl, fun _ _ h => C.ok_drop h⟩
/-- slot i is stored -/
theorem EnvR.set (E : EnvR K C σ H ρ) {i : Nat} {d : Dt} {v : V} (hi : i ∉ C.Pl) (r : R K C.ok H d v) : EnvR K (C.drop i) (σ.set i (some v)) H (ρ.set i (some d)) where
  len := by rw [List.length_set, List.length_set, E.len]
  keep := E.keep
  dom := E.dom
  lent := E.lent
  tab := E.tab
  sh := fun j e hj hp h => by
    rcases set_get h with ⟨rfl, e1, hl⟩ | ⟨n, h⟩
    · cases e1
      exact ⟨v, List.getElem?_set_self (by rw [E.len]; exact hl), r.mv .drop⟩
    · obtain ⟨u, e1, q⟩ := E.sh j e (fun z => hj (mem_drop.mpr ⟨z, n⟩)) hp h
      exact ⟨u, by rw [List.getElem?_set_ne (Ne.symm n)]; exact e1, q.mv .drop⟩
  own := fun j hj => by
    obtain ⟨h1, h2⟩ := mem_drop.mp hj
    obtain ⟨ds, us, e1, e2, e3, r, q⟩ := E.own j h1
    exact ⟨ds, us, by rw [List.getElem?_set_ne (Ne.symm h2)]; exact e1, by rw [List.getElem?_set_ne (Ne.symm h2)]; exact e2, e3, r.mv .drop, q⟩
  pls := fun j hj => by
    have n : j ≠ i := fun z => hi (z ▸ hj)
    obtain ⟨l, e, q⟩ := E.pls j hj
    exact ⟨by rw [List.length_set]; exact l, by rw [List.getElem?_set_ne (Ne.symm n)]; exact e, q⟩
  dj := fun j hj => E.dj j (mem_drop.mp hj).1
  inj := fun j k hj hk => E.inj j k (hj.imp (fun z => (mem_drop.mp z).1) id) (hk.imp (fun z => (mem_drop.mp z).1) id)
/-- slot i is stored: a new list, which is the def's own from now on -/
def Ct.take (C : Ct) (i : Nat) (p : Addr) : Ct := { C with O := i :: C.O.filter (· ≠ i), A := fun j => if j = i then p else C.A j }
theorem take_A {i j : Nat} {p : Addr} (h : j ≠ i) : (C.take i p).A j = C.A j := if_neg h
theorem take_self {i : Nat} {p : Addr} : (C.take i p).A i = p := if_pos rfl
theorem Ct.ok_take {i : Nat} {p a : Addr} (h : C.ok a) (n : a ≠ p) : (C.take i p).ok a := by
  refine ⟨h.1, fun j hj => ?_⟩
  by_cases z : j = i
  · rw [z, take_self]
    exact n
  · rw [take_A z]
    refine h.2 j (hj.imp (fun q => ?_) id)
    rcases List.mem_cons.mp q with q | q
    · exact absurd q z
    · exact (mem_drop.mp q).1
theorem EnvR.setD {m : Bool} (E : EnvR K C σ H ρ) {i : Nat} {d : Dt} {p : Addr} {o : HO} (hi : i < ρ.length) (hq : i ∉ C.Pl) (hp : Fre H p) (g : Gr m C H H') (e : H' p = some o) (r : OwnD K (fun a => C.ok a ∧ a ≠ p) H' p d o) :
    EnvR K (C.take i p) (σ.set i (some (.ref p))) H' (ρ.set i (some d)) ∧ Mv C.ok H (C.take i p).ok H' := by
  have m : Mv C.ok H (C.take i p).ok H' := ⟨g.kp E, fun a hn h => C.ok_take h fun z => hn (by rw [z]; exact hp)⟩
  have m2 : Mv (fun a => C.ok a ∧ a ≠ p) H' (C.take i p).ok H' := ⟨.refl, fun a _ h => C.ok_take h.1 h.2⟩
  have E' := E.gr g
  have ne : ∀ j, j ∈ C.O ∨ j ∈ C.Pl → C.A j ≠ p := fun j hj z => by
    obtain ⟨us, e1, n1⟩ := E.place hj
    exact hp _ n1 (z ▸ e1)
  have np : ∀ {a : Addr}, C.LP a → a ≠ p := fun {a} h z => by
    obtain ⟨⟨x, y, w, e1⟩, _⟩ := E.lent a h
    exact hp _ nt_lst (z ▸ e1)
  refine ⟨⟨by rw [List.length_set, List.length_set, E.len], E'.keep, E'.dom, E'.lent, E'.tab, fun j d' hj hpl h => ?_, fun j hj => ?_, fun j hj => ?_, fun j hj => ?_, fun j j' hj hj' h => ?_⟩, m⟩
  · rcases set_get h with ⟨rfl, _, _⟩ | ⟨n, h⟩
    · exact absurd (List.mem_cons.mpr (.inl rfl)) hj
    · obtain ⟨u, e1, q⟩ := E.sh j d' (fun z => hj (List.mem_cons_of_mem _ (mem_drop.mpr ⟨z, n⟩))) hpl h
      exact ⟨u, by rw [List.getElem?_set_ne (Ne.symm n)]; exact e1, q.mv m⟩
  · rcases List.mem_cons.mp hj with rfl | hj
    · refine ⟨d, o, by rw [List.getElem?_set_self hi], by rw [take_self, List.getElem?_set_self (by rw [E.len]; exact hi)], by rw [take_self]; exact e, by rw [take_self]; exact r.mv m2, by rw [take_self]; exact .inl (E.dom p hp), fun z => np z take_self⟩
    · obtain ⟨h1, h2⟩ := mem_drop.mp hj
      obtain ⟨ds', us0, e1, e2, e30, r0, q, l⟩ := E.own j h1
      obtain ⟨ds2, us', e1', _, e3, _, _, _⟩ := E'.own j h1
      rw [e1] at e1'
      cases e1'
      have eA : (C.take i p).A j = C.A j := take_A h2
      have e4 := g.keep _ _ r0.nt e30 fun _ k hk z => by
        have := E.inj j k (.inl h1) (.inr hk) z
        exact E.dj j h1 (this ▸ hk)
      exact ⟨ds', us0, by rw [List.getElem?_set_ne (Ne.symm h2)]; exact e1, by rw [List.getElem?_set_ne (Ne.symm h2), eA]; exact e2, by rw [eA]; exact e4, by rw [eA]; exact r0.mv m, by rw [eA]; exact q, by rw [eA]; exact l⟩
  · have n : j ≠ i := fun z => hq (z ▸ hj)
    have eA : (C.take i p).A j = C.A j := take_A n
    obtain ⟨l, e1, e2, q⟩ := E'.pls j hj
    exact ⟨by rw [List.length_set]; exact l, by rw [List.getElem?_set_ne (Ne.symm n), eA]; exact e1, by rw [eA]; exact e2, by rw [eA]; exact q⟩
  · rcases List.mem_cons.mp hj with rfl | hj
    · exact hq
    · exact E.dj j (mem_drop.mp hj).1
  · have eA : ∀ x, (x ∈ i :: C.O.filter (· ≠ i) ∨ x ∈ C.Pl) → (x = i ∧ (C.take i p).A x = p) ∨ ((x ∈ C.O ∨ x ∈ C.Pl) ∧ x ≠ i ∧ (C.take i p).A x = C.A x) := fun x hx => by
      by_cases z : x = i
      · exact .inl ⟨z, by rw [z]; exact take_self⟩
      · refine .inr ⟨hx.imp (fun q => ?_) id, z, take_A z⟩
        rcases List.mem_cons.mp q with q | q
        · exact absurd q z
        · exact (mem_drop.mp q).1
    rcases eA j hj with ⟨a1, a2⟩ | ⟨a1, a2, a3⟩
    · rcases eA j' hj' with ⟨b1, b2⟩ | ⟨b1, b2, b3⟩
      · rw [a1, b1]
      · rw [a2, b3] at h
        exact absurd h.symm (ne j' b1)
    · rcases eA j' hj' with ⟨b1, b2⟩ | ⟨b1, b2, b3⟩
      · rw [a3, b2] at h
        exact absurd h (ne j a1)
      · rw [a3, b3] at h
        exact E.inj j j' a1 b1 h
theorem EnvR.setF {m : Bool} (E : EnvR K C σ H ρ) {i : Nat} {ds : List Dt} {p : Addr} {us : List V} (hi : i < ρ.length) (hq : i ∉ C.Pl) (hp : Fre H p) (g : Gr m C H H') (e : H' p = some (.lst us)) (r : Rs K (fun a => C.ok a ∧ a ≠ p) H' ds us) :
    EnvR K (C.take i p) (σ.set i (some (.ref p))) H' (ρ.set i (some (.lst ds))) ∧ Mv C.ok H (C.take i p).ok H' := E.setD hi hq hp g e (.lst r)
/-- an own list is changed -/
theorem EnvR.putD (E : EnvR K C σ H ρ) {i : Nat} {d2 : Dt} {o2 : HO} (hi : i ∈ C.O) (r : OwnD K C.ok H (C.A i) d2 o2) :
    EnvR K C σ (upd H (C.A i) o2) (ρ.set i (some d2)) ∧ Kp C.ok H (upd H (C.A i) o2) := by
  obtain ⟨ds, us, e1, e2, hA, r0, q, l⟩ := E.own i hi
  have k : Kp C.ok H (upd H (C.A i) o2) := by
    refine ⟨fun a o nt e h => ?_, fun a f o nt e => ?_⟩
    · have n : a ≠ C.A i := by
        rintro rfl
        rw [hA] at e
        cases e
        rcases h with h | h
        · exact h.2 i (.inl hi) rfl
        · exact r0.nl h
      rw [upd_ne n]
      exact e
    · by_cases n : a = C.A i
      · exact f _ r.nt (by rw [n]; exact upd_same)
      · exact f o nt (by rw [upd_ne n]; exact e)
  have hl : i < ρ.length := (List.getElem?_eq_some_iff.mp e1).1
  refine ⟨⟨by rw [List.length_set, E.len], fun a o nt e n => ?_, fun a e => E.dom a (k.dom a e), fun a h => ?_, tabs_put hA r0.nt r0.nc E.tab, fun j d hj hp h => ?_, fun j hj => ?_, fun j hj => ?_, E.dj, E.inj⟩, k⟩
  · have : a ≠ C.A i := by
      rintro rfl
      rcases q with q | q
      · exact q o nt e
      · exact n q
    rw [upd_ne this]
    exact E.keep a o nt e n
  · have : a ≠ C.A i := fun z => l (z ▸ h)
    obtain ⟨⟨x, y, z, ex⟩, ha⟩ := E.lent a h
    exact ⟨⟨x, y, z, by rw [upd_ne this]; exact ex⟩, ha⟩
  · have n : j ≠ i := by
      rintro rfl
      exact hj hi
    rw [List.getElem?_set_ne (Ne.symm n)] at h
    obtain ⟨v, e1, r1⟩ := E.sh j d hj hp h
    exact ⟨v, e1, r1.mv (.of k)⟩
  · by_cases n : j = i
    · subst n
      exact ⟨d2, o2, List.getElem?_set_self hl, e2, upd_same, r.mv (.of k), q, l⟩
    · obtain ⟨ds', us', d1, d2, d3, r1, q1⟩ := E.own j hj
      refine ⟨ds', us', by rw [List.getElem?_set_ne (Ne.symm n)]; exact d1, d2, ?_, r1.mv (.of k), q1⟩
      rw [upd_ne (fun z => n (E.inj j i (.inl hj) (.inl hi) z))]
      exact d3
  · have n : j ≠ i := fun z => E.dj i hi (z ▸ hj)
    obtain ⟨l', e1', ⟨x, y, z, e3⟩, q'⟩ := E.pls j hj
    refine ⟨by rw [List.length_set]; exact l', e1', ⟨x, y, z, ?_⟩, q'⟩
    rw [upd_ne (fun z => n (E.inj j i (.inr hj) (.inl hi) z))]
    exact e3
theorem EnvR.put (E : EnvR K C σ H ρ) {i : Nat} {es : List Dt} {vs : List V} (hi : i ∈ C.O) (r : Rs K C.ok H es vs) :
    EnvR K C σ (upd H (C.A i) (.lst vs)) (ρ.set i (some (.lst es))) ∧ Kp C.ok H (upd H (C.A i) (.lst vs)) := E.putD hi (.lst r)
end
end UL
namespace UL
open PySem PySem.Spec PyProof.Rows L2
abbrev WE := Env → (Dt → Prop) → Prop
abbrev WA := Env → (List Dt → Prop) → Prop
abbrev WT := Env → (Bool → Prop) → Prop
/-- the slots of the own lists, of the pools -/
abbrev Sl := List Nat × List Nat
structure Ct.In (T : List NdefX.NTab) (C : Ct) (S : Sl) : Prop where
  O : C.O = S.1
  Pl : C.Pl = S.2
  T : C.T = T
/-- read: a list may be an own one -/
def RB (K : PySem.W.Frag) (C : Ct) (H : Hp) : Dt → V → Prop
  | .lst ds, v => ∃ a us, v = .ref a ∧ H a = some (.lst us) ∧ (∀ j ∈ C.Pl, a ≠ C.A j) ∧ Rs K C.ok H ds us
  | .nd ks ds, v => ∃ (a : Addr) (L : NL3), v = .ref a ∧ H a = some (NdO a L) ∧ (∃ h, NdAt h a L) ∧ Rs K C.ok H ks (L.map fun p => V.ref p.2.1) ∧ Dt.nks ks = some (L.map (·.1)) ∧ Rs K C.ok H ds (L.map (·.2.2))
  | .dk ks ds, v => ∃ (a : Addr) (kvs : List (Key × V)), v = .ref a ∧ ks = kvs.map (·.1) ∧ H a = some (.dK kvs) ∧ Rs K C.ok H ds (kvs.map (·.2))
  | d, v => R K C.ok H d v
theorem R.b {K : PySem.W.Frag} {C : Ct} {H : Hp} {d : Dt} {v : V} (h : R K C.ok H d v) : RB K C H d v := by
  cases h with
  | lst e q t => exact ⟨_, _, rfl, e, fun j hj => q.2 j (.inr hj), t⟩
  | non => exact .non
  | bl => exact .bl _
  | int => exact .int _
  | str => exact .str _
  | tup h t => exact .tup h t
  | obj e f n t => exact .obj e f n t
  | dct e t => exact .dct e t
  | nd e q x r1 nk r2 => exact ⟨_, _, rfl, e, x, r1, nk, r2⟩
  | dk e q r => exact ⟨_, _, rfl, rfl, e, r⟩
  | val => exact .val _
  | sql e q => exact .sql e q
  | sqk e => exact .sqk e
/-- an expression's reading, told by data; SB: read only; SF: a new list; SA: arguments; ST: a test -/
def SE (K : PySem.W.Frag) (T : List NdefX.NTab) (S : Sl) (m : Bool) (te : TE) (t : WE) : Prop := ∀ (C : Ct) (ρ : Env) (P : Dt → Prop) (σ : L2.St) (H : Hp) (Q : VK), C.In T S → t ρ P → EnvR K C σ H ρ →
  (∀ d v H', P d → Gr m C H H' → R K C.ok H' d v → Q v H') → te σ H Q
def SB (K : PySem.W.Frag) (T : List NdefX.NTab) (S : Sl) (m : Bool) (te : TE) (t : WE) : Prop := ∀ (C : Ct) (ρ : Env) (P : Dt → Prop) (σ : L2.St) (H : Hp) (Q : VK), C.In T S → t ρ P → EnvR K C σ H ρ →
  (∀ d v H', P d → Gr m C H H' → RB K C H' d v → Q v H') → te σ H Q
def SF (K : PySem.W.Frag) (T : List NdefX.NTab) (S : Sl) (m : Bool) (te : TE) (t : WA) : Prop := ∀ (C : Ct) (ρ : Env) (P : List Dt → Prop) (σ : L2.St) (H : Hp) (Q : VK), C.In T S → t ρ P → EnvR K C σ H ρ →
  (∀ ds p us H', P ds → Gr m C H H' → Fre H p → H' p = some (.lst us) → Rs K (fun a => C.ok a ∧ a ≠ p) H' ds us → Q (.ref p) H') → te σ H Q
def SA (K : PySem.W.Frag) (T : List NdefX.NTab) (S : Sl) (m : Bool) (ta : TA) (t : WA) : Prop := ∀ (C : Ct) (ρ : Env) (P : List Dt → Prop) (σ : L2.St) (H : Hp) (Q : List V → Hp → Prop), C.In T S → t ρ P → EnvR K C σ H ρ →
  (∀ ds vs H', P ds → Gr m C H H' → Rs K C.ok H' ds vs → Q vs H') → ta σ H Q
def ST (K : PySem.W.Frag) (T : List NdefX.NTab) (S : Sl) (m : Bool) (tt : TT) (t : WT) : Prop := ∀ (C : Ct) (ρ : Env) (P : Bool → Prop) (σ : L2.St) (H : Hp) (Q : Bool → Hp → Prop), C.In T S → t ρ P → EnvR K C σ H ρ →
  (∀ b H', P b → Gr m C H H' → Q b H') → tt σ H Q
section
variable {K : PySem.W.Frag} {T : List NdefX.NTab} {S : Sl} {m m' : Bool} {te ta tb : TE} {t u : WE}
theorem SE.b (h : SE K T S m te t) : SB K T S m te t := fun C ρ P σ H Q hC ht E q => h C ρ P σ H Q hC ht E fun d v H' hp g r => q d v H' hp g r.b
theorem SF.e {t : WA} (h : SF K T S m te t) : SE K T S m te (fun ρ P => t ρ fun ds => P (.lst ds)) := fun C ρ P σ H Q hC ht E q => h C ρ _ σ H Q hC ht E fun ds p us H' hp g hn e r =>
  q _ _ _ hp g (.lst e (E.freshF hn) (r.okm fun a _ h => h.1))
theorem RB.gr {C : Ct} {σ : L2.St} {H H' : Hp} {ρ : Env} {d : Dt} {v : V} (E : EnvR K C σ H ρ) (g : Gr m C H H') (h : RB K C H d v) : RB K C H' d v := by
  cases d with
  | lst ds =>
    obtain ⟨a, us, rfl, e, n, t⟩ := h
    exact ⟨a, us, rfl, g.keep _ _ nt_lst e fun _ => n, n, t.mv (g.mv E)⟩
  | nd ks ds =>
    obtain ⟨a, L, rfl, e, x, r1, nk, r2⟩ := h
    refine ⟨a, L, rfl, g.keep _ _ nt_nd e fun _ i hi z => ?_, x, r1.mv (g.mv E), nk, r2.mv (g.mv E)⟩
    obtain ⟨_, _, ⟨x, y, w, e1⟩, _⟩ := E.pls i hi
    rw [← z, e] at e1
    unfold NdO at e1
    cases e1
  | dk ks ds =>
    obtain ⟨a, kvs, rfl, rfl, e, r⟩ := h
    refine ⟨a, kvs, rfl, rfl, g.keep _ _ nt_dK e fun _ i hi z => ?_, r.mv (g.mv E)⟩
    obtain ⟨_, _, ⟨x, y, w, e1⟩, _⟩ := E.pls i hi
    rw [← z, e] at e1
    cases e1
  | _ => exact R.mv (g.mv E) h
/-! ### names, constants -/
def wVar (i : Nat) : WE := fun ρ P => match ρ[i]? with
  | some (some d) => P d
  | _ => False
def wC (d : Dt) : WE := fun _ P => P d
theorem se_var (i : Nat) (h : i ∉ S.1 ∧ i ∉ S.2 := by decide) : SE K T S true (tVar i) (wVar i) := fun C ρ P σ H Q hC ht E q => by
  unfold wVar at ht
  cases e : ρ[i]? with
  | none => rw [e] at ht; exact ht.elim
  | some o =>
    cases o with
    | none => rw [e] at ht; exact ht.elim
    | some d =>
      rw [e] at ht
      obtain ⟨v, e1, r⟩ := E.sh i d (by rw [hC.1]; exact h.1) (by rw [hC.2]; exact h.2) e
      exact ⟨v, e1, q d v H ht .refl r⟩
theorem se_c {v : V} {d : Dt} (h : ∀ ok H, R K ok H d v) : SE K T S true (tC v) (wC d) := fun C ρ P σ H Q hC ht E q => q d v H ht .refl (h _ _)
theorem se_int {i : Int} : SE K T S true (tC (.int i)) (wC (.int i)) := se_c fun _ _ => .int i
theorem se_bl {b : Bool} : SE K T S true (tC (.bl b)) (wC (.bl b)) := se_c fun _ _ => .bl b
theorem se_non : SE K T S true (tC .non) (wC .non) := se_c fun _ _ => .non
theorem se_str {z : Str} : SE K T S true (tC (.str z)) (wC (.str z)) := se_c fun _ _ => .str z
/-! ### operators -/
def w2 (f : Dt → Dt → (Dt → Prop) → Prop) (t u : WE) : WE := fun ρ P => t ρ fun a => u ρ fun b => f a b P
/-- an operator by values, told by data -/
def OpS (K : PySem.W.Frag) (r : R2) (f : Dt → Dt → (Dt → Prop) → Prop) : Prop := ∀ (C : Ct) (a b : Dt) (P : Dt → Prop) (x y : V) (H : Hp) (Q : VK), f a b P → RB K C H a x → RB K C H b y → (∀ p, H p = none → C.ok p) →
  (∀ d v H', P d → Same H H' → R K C.ok H' d v → Q v H') → r x y H Q
theorem se_op {r : R2} {f : Dt → Dt → (Dt → Prop) → Prop} (h : OpS K r f) (ha : SB K T S m ta t) (hb : SB K T S m' tb u) : SE K T S (m && m') (tOp r ta tb) (w2 f t u) := fun C ρ P σ H Q hC ht E q => by
  refine ha C ρ _ σ H _ hC ht E fun a x H1 h1 g1 r1 => ?_
  refine hb C ρ _ σ H1 _ hC h1 (E.gr g1) fun b y H2 h2 g2 r2 => ?_
  have E2 := (E.gr g1).gr g2
  refine h C a b P x y H2 Q h2 (r1.gr (E.gr g1) g2) r2 (fun p hp => E2.fresh hp) fun d v H3 hp k r3 => q d v H3 hp ?_ r3
  have := (g1.trans g2).trans (Gr.of (m := true) (C := C) k)
  rwa [Bool.and_true] at this
theorem gr_and {C : Ct} {H H1 H2 : Hp} (g : Gr m C H H1) (k : Same H1 H2) : Gr m C H H2 := by
  have := g.trans (Gr.of (m := true) (C := C) k)
  rwa [Bool.and_true] at this
theorem gr_andE {C : Ct} {H H1 H2 : Hp} (g : Gr m C H H1) (k : Ex C.T H1 H2) : Gr m C H H2 := by
  have := g.trans (Gr.ex (m := true) (C := C) k)
  rwa [Bool.and_true] at this
/-- two ints -/
def kI (g : Int → Int → Dt) : Dt → Dt → (Dt → Prop) → Prop
  | .int i, .int j, P => P (g i j)
  | _, _, _ => False
def kIc (c : Int → Int → Prop) (g : Int → Int → Dt) : Dt → Dt → (Dt → Prop) → Prop
  | .int i, .int j, P => c i j ∧ P (g i j)
  | _, _, _ => False
theorem kI_int {f : Dt → Dt → (Dt → Prop) → Prop} {g : Int → Int → Dt} {a b : Dt} {P : Dt → Prop} (h : kI g a b P) : ∃ i j, a = .int i ∧ b = .int j ∧ P (g i j) := by
  cases a <;> cases b <;> first | exact ⟨_, _, rfl, rfl, h⟩ | exact h.elim
theorem kIc_int {c : Int → Int → Prop} {g : Int → Int → Dt} {a b : Dt} {P : Dt → Prop} (h : kIc c g a b P) : ∃ i j, a = .int i ∧ b = .int j ∧ c i j ∧ P (g i j) := by
  cases a <;> cases b <;> first | exact ⟨_, _, rfl, rfl, h⟩ | exact h.elim
theorem opS_I {g : Int → Int → V} {g' : Int → Int → Dt} (hr : ∀ i j ok H, R K ok H (g' i j) (g i j)) : OpS K (rI0 g) (kI g') := fun C a b P x y H Q h ra rb hf q => by
  obtain ⟨i, j, rfl, rfl, h⟩ := kI_int (f := kI g') h
  exact ⟨i, j, R.intE ra, R.intE rb, q _ _ H h (Same.refl H) (hr i j _ _)⟩
theorem opS_Ic {c : Int → Int → Prop} {g : Int → Int → V} {g' : Int → Int → Dt} (hr : ∀ i j ok H, R K ok H (g' i j) (g i j)) : OpS K (rI c g) (kIc c g') := fun C a b P x y H Q h ra rb hf q => by
  obtain ⟨i, j, rfl, rfl, hc, h⟩ := kIc_int h
  exact ⟨i, j, R.intE ra, R.intE rb, hc, q _ _ H h (Same.refl H) (hr i j _ _)⟩
theorem oS_add : OpS K (rI0 fun i j => .int (i + j)) (kI fun i j => .int (i + j)) := opS_I fun _ _ _ _ => .int _
theorem oS_mul : OpS K (rI CMul fun i j => .int (i * j)) (kIc CMul fun i j => .int (i * j)) := opS_Ic fun _ _ _ _ => .int _
theorem oS_mod : OpS K (rI (fun _ j => 0 < j) fun i j => .int (i % j)) (kIc (fun _ j => 0 < j) fun i j => .int (i % j)) := opS_Ic fun _ _ _ _ => .int _
theorem oS_lt : OpS K (rI0 fun i j => .bl (decide (i < j))) (kI fun i j => .bl (decide (i < j))) := opS_I fun _ _ _ _ => .bl _
theorem oS_le : OpS K (rI0 fun i j => .bl (decide (i ≤ j))) (kI fun i j => .bl (decide (i ≤ j))) := opS_I fun _ _ _ _ => .bl _
/-- ==, != of two ints, two texts, two bools -/
def kEq (neg : Bool) : Dt → Dt → (Dt → Prop) → Prop
  | .int i, .int j, P => P (.bl (if neg then !decide (i = j) else decide (i = j)))
  | .str i, .str j, P => P (.bl (if neg then !decide (i = j) else decide (i = j)))
  | .bl i, .bl j, P => P (.bl (if neg then !decide (i = j) else decide (i = j)))
  | _, _, _ => False
theorem decV_int {i j : Int} : decide (V.int i = V.int j) = decide (i = j) := by
  rw [Bool.eq_iff_iff]; simp
theorem decV_str {i j : Str} : decide (V.str i = V.str j) = decide (i = j) := by
  rw [Bool.eq_iff_iff]; simp
theorem decV_bl {i j : Bool} : decide (V.bl i = V.bl j) = decide (i = j) := by
  rw [Bool.eq_iff_iff]; simp
theorem oS_eq : OpS K rEq (kEq false) := fun C a b P x y H Q h ra rb hf q => by
  cases a <;> cases b <;> first | exact h.elim | skip
  · cases ra; cases rb
    exact ⟨rfl, by rw [decV_bl]; exact q _ _ H h (Same.refl H) (.bl _)⟩
  · cases ra; cases rb
    exact ⟨rfl, by rw [decV_int]; exact q _ _ H h (Same.refl H) (.bl _)⟩
  · cases ra; cases rb
    exact ⟨rfl, by rw [decV_str]; exact q _ _ H h (Same.refl H) (.bl _)⟩
theorem oS_ne : OpS K rNe (kEq true) := fun C a b P x y H Q h ra rb hf q => by
  cases a <;> cases b <;> first | exact h.elim | skip
  · cases ra; cases rb
    exact ⟨rfl, by rw [decV_bl]; exact q _ _ H h (Same.refl H) (.bl _)⟩
  · cases ra; cases rb
    exact ⟨rfl, by rw [decV_int]; exact q _ _ H h (Same.refl H) (.bl _)⟩
  · cases ra; cases rb
    exact ⟨rfl, by rw [decV_str]; exact q _ _ H h (Same.refl H) (.bl _)⟩
/-- what is read of any form, as the library's data -/
theorem RB.dp {C : Ct} {H : Hp} {d : Dt} {v : V} {x : PyData} (h : RB K C H d v) (e : d.py = some x) : Dp K H v x := by
  cases d with
  | lst ds =>
    obtain ⟨a, us, rfl, e1, n, t⟩ := h
    exact (R.lst (ok := fun a' => C.ok a' ∨ a' = a) e1 (.inr rfl) (t.okm fun _ _ q => .inl q)).dp e
  | nd ks ds => unfold Dt.py at e; cases e
  | dk ks ds => unfold Dt.py at e; cases e
  | _ => exact R.dp h e
/-- == of data of any depth -/
def kEqD (neg : Bool) : Dt → Dt → (Dt → Prop) → Prop := fun a b P => match a.py, b.py with
  | some x, some y => SeqAt.shaped x = true ∧ SeqAt.shaped y = true ∧ P (.bl (if neg then !PyData.eqv x y else PyData.eqv x y))
  | _, _ => False
/-- x in a list, x not in it: data of any depth -/
def kInD (neg : Bool) : Dt → Dt → (Dt → Prop) → Prop := fun a b P => match a.py, b with
  | some x, .lst ds => ∃ xs, Dt.pys ds = some xs ∧ SeqAt.shaped x = true ∧ SeqAt.shaped (.list xs) = true ∧ P (.bl (if neg then !xs.any fun z => PyData.eqv z x else xs.any fun z => PyData.eqv z x))
  | _, _ => False
theorem py_lst {ds : List Dt} {xs : List PyData} (e : Dt.pys ds = some xs) : (Dt.lst ds).py = some (.list xs) := by unfold Dt.py; rw [e]; rfl
/-- flat values -/
def Dt.fl : Dt → Option V
  | .non => some .non
  | .bl b => some (.bl b)
  | .int i => some (.int i)
  | .str z => some (.str z)
  | _ => none
theorem R.flE {ok : Addr → Prop} {H : Hp} {d : Dt} {v x : V} (h : R K ok H d v) (e : d.fl = some x) : v = x ∧ flatV x = true := by
  cases h <;> first | (cases e; exact ⟨rfl, rfl⟩) | cases e
theorem RB.flE {C : Ct} {H : Hp} {d : Dt} {v x : V} (h : RB K C H d v) (e : d.fl = some x) : v = x ∧ flatV x = true := by
  cases d with
  | lst ds => cases e
  | nd ks ds => cases e
  | dk ks ds => cases e
  | _ => exact R.flE h e
def Dt.fls : List Dt → Option (List V)
  | [] => some []
  | d :: ds => match d.fl, Dt.fls ds with
    | some x, some xs => some (x :: xs)
    | _, _ => none
theorem Rs.flE {ok : Addr → Prop} {H : Hp} : ∀ {ds : List Dt} {vs xs : List V}, Rs K ok H ds vs → Dt.fls ds = some xs → vs = xs ∧ xs.all flatV = true
  | _, _, _, .nil, e => by cases e; exact ⟨rfl, rfl⟩
  | d :: ds, _, xs, .cons h t, e => by
    unfold Dt.fls at e
    split at e
    · rename_i x ys e1 e2
      cases e
      obtain ⟨q1, q2⟩ := h.flE e1
      obtain ⟨q3, q4⟩ := Rs.flE t e2
      exact ⟨by rw [q1, q3], by rw [List.all_cons, q2, q4]; rfl⟩
    · cases e
/-- x in a list or a tuple of flat values -/
def kIn (neg : Bool) : Dt → Dt → (Dt → Prop) → Prop := fun a b P => match a.fl, b with
  | some x, .lst ds => ∃ xs, Dt.fls ds = some xs ∧ P (.bl (if neg then !inV x xs else inV x xs))
  | some x, .tup ds => ∃ xs, Dt.fls ds = some xs ∧ P (.bl (if neg then !inV x xs else inV x xs))
  | _, _ => False
theorem oS_in (neg : Bool) : OpS K (rIn K neg) (kIn neg) := fun C a b P x y H Q h ra rb hf q => by
  unfold kIn at h
  split at h
  · rename_i z ds e
    obtain ⟨xs, e2, h⟩ := h
    obtain ⟨rfl, f1⟩ := ra.flE e
    obtain ⟨a, us, rfl, e3, _, t⟩ := rb
    obtain ⟨rfl, f2⟩ := t.flE e2
    exact ⟨a, us, rfl, .inl (.of e3), f1, f2, q _ _ H h (Same.refl H) (.bl _)⟩
  · rename_i z ds e
    obtain ⟨xs, e2, h⟩ := h
    obtain ⟨rfl, f1⟩ := ra.flE e
    obtain ⟨a, us, rfl, e3, t⟩ := R.tupSq rb
    obtain ⟨rfl, f2⟩ := t.flE e2
    exact ⟨a, us, rfl, .inr e3, f1, f2, q _ _ H h (Same.refl H) (.bl _)⟩
  · exact h.elim
/-- x is None, x is not None -/
def Dt.isN : Dt → Bool
  | .non => true
  | .val v => decide (v = .non)
  | _ => false
theorem RB.isN {C : Ct} {H : Hp} {d : Dt} {v : V} (h : RB K C H d v) : decide (v = .non) = d.isN := by
  cases d with
  | lst ds => obtain ⟨a, us, rfl, _⟩ := h; rfl
  | nd ks ds => obtain ⟨a, L, rfl, _⟩ := h; rfl
  | dk ks ds => obtain ⟨a, L, rfl, _⟩ := h; rfl
  | _ => cases h <;> rfl
theorem oS_isN : OpS K (fun x y H Q => y = .non ∧ Q (.bl (decide (x = .non))) H) (fun a b P => match b with | .non => P (.bl a.isN) | _ => False) := fun C a b P x y H Q h ra rb hf q => by
  cases b <;> first | exact h.elim | skip
  exact ⟨R.nonE rb, by rw [ra.isN]; exact q _ _ H h (Same.refl H) (.bl _)⟩
/-- xs[i] -/
def kIxL : Dt → Dt → (Dt → Prop) → Prop
  | .lst ds, .int i, P => match atI ds i with
    | some d => P d
    | none => False
  | _, _, _ => False
def kIxT : Dt → Dt → (Dt → Prop) → Prop
  | .tup ds, .int i, P => match atI ds i with
    | some d => P d
    | none => False
  | _, _, _ => False
theorem Rs.atI {ok : Addr → Prop} {H : Hp} {ds : List Dt} {vs : List V} {i : Int} {d : Dt} (h : Rs K ok H ds vs) (e : atI ds i = some d) : ∃ v, L2.atI vs i = some v ∧ R K ok H d v := by
  unfold L2.atI at e ⊢
  rw [h.len]
  cases q : ixN ds.length i with
  | none => rw [q] at e; cases e
  | some j =>
    rw [q] at e
    exact h.getD e
theorem oS_ixL : OpS K (rIxL K) kIxL := fun C a b P x y H Q h ra rb hf q => by
  cases a <;> cases b <;> first | exact h.elim | skip
  rename_i ds i
  unfold kIxL at h
  cases e : atI ds i with
  | none => simp only [e] at h
  | some d =>
    simp only [e] at h
    obtain ⟨a, us, rfl, e1, _, t⟩ := ra
    obtain ⟨v, e2, r⟩ := t.atI e
    exact ⟨a, us, i, v, rfl, R.intE rb, .of e1, e2, q d v H h (Same.refl H) r⟩
theorem oS_ixT : OpS K (rIxT K) kIxT := fun C a b P x y H Q h ra rb hf q => by
  cases a <;> cases b <;> first | exact h.elim | skip
  rename_i ds i
  unfold kIxT at h
  cases e : atI ds i with
  | none => simp only [e] at h
  | some d =>
    simp only [e] at h
    obtain ⟨a, us, rfl, e1, t⟩ := R.tupSq ra
    obtain ⟨v, e2, r⟩ := t.atI e
    exact ⟨a, us, i, v, rfl, R.intE rb, e1, e2, q d v H h (Same.refl H) r⟩
/-- t + u of tuples -/
def kCatT : Dt → Dt → (Dt → Prop) → Prop
  | .tup ds, .tup es, P => ds.length + es.length ≤ sizeLine ∧ P (.tup (ds ++ es))
  | _, _, _ => False
end
end UL
namespace UL
open PySem PySem.Spec PyProof.Rows L2
section
variable {K : PySem.W.Frag} {T : List NdefX.NTab} {S : Sl} {m m' m1 m2 m3 s : Bool} {te ta tb : TE} {t u : WE} {C : Ct} {σ : L2.St} {H H' : Hp} {ρ : Env}
/-! ### arguments, displays -/
def wNil : WA := fun _ P => P []
def wCons (t : WE) (u : WA) : WA := fun ρ P => t ρ fun d => u ρ fun ds => P (d :: ds)
theorem sa_nil : SA K T S true tNil wNil := fun C ρ P σ H Q hC ht E q => q [] [] H ht .refl .nil
theorem sa_cons {tr : TA} {u : WA} (h : SE K T S m te t) (hr : SA K T S m' tr u) : SA K T S (m && m') (tCons te tr) (wCons t u) := fun C ρ P σ H Q hC ht E q => by
  refine h C ρ _ σ H _ hC ht E fun d v H1 h1 g1 r1 => ?_
  refine hr C ρ _ σ H1 _ hC h1 (E.gr g1) fun ds vs H2 h2 g2 r2 => ?_
  exact q _ _ H2 h2 (g1.trans g2) (.cons (r1.mv (g2.mv (E.gr g1))) r2)
theorem se_tup {tr : TA} {u : WA} (h : SA K T S m tr u) : SE K T S m (tTup tr) (fun ρ P => u ρ fun ds => ds.length ≤ 1000 ∧ P (.tup ds)) := fun C ρ P σ H Q hC ht E q => by
  refine h C ρ _ σ H _ hC ht E fun ds vs H1 h1 g1 r1 => ⟨Nat.le_of_lt (small1000 (by rw [r1.len]; exact h1.1)), fun p hp => ?_⟩
  exact q _ _ _ h1.2 (gr_and g1 (same_up hp)) (R.newT hp r1)
theorem ok_ne {p : Addr} {d : List Dt} {v : List V} (hn : H p = none) (h : Rs K C.ok H d v) : Rs K (fun a => C.ok a ∧ a ≠ p) H d v := h.okm fun a n q => ⟨q, fun z => n (by rw [z]; exact .of hn)⟩
theorem sf_lst {tr : TA} {u : WA} (h : SA K T S m tr u) : SF K T S m (tLst tr) (fun ρ P => u ρ fun ds => ds.length ≤ 1000 ∧ P ds) := fun C ρ P σ H Q hC ht E q => by
  refine h C ρ _ σ H _ hC ht E fun ds vs H1 h1 g1 r1 => ⟨Nat.le_of_lt (small1000 (by rw [r1.len]; exact h1.1)), fun p hp => ?_⟩
  exact q _ _ _ _ h1.2 (gr_and g1 (same_up hp)) (g1.dom p (.of hp)) upd_same ((ok_ne hp r1).same (same_up hp))
def kCatL : Dt → Dt → (List Dt → Prop) → Prop
  | .lst ds, .lst es, P => ds.length + es.length ≤ sizeLine ∧ P (ds ++ es)
  | _, _, _ => False
/-- xs + ys of lists -/
theorem sf_cat (ha : SB K T S m ta t) (hb : SB K T S m' tb u) : SF K T S (m && m') (tOp rCat ta tb) (fun ρ P => t ρ fun a => u ρ fun b => kCatL a b P) := fun C ρ P σ H Q hC ht E q => by
  refine ha C ρ _ σ H _ hC ht E fun a x H1 h1 g1 r1 => ?_
  refine hb C ρ _ σ H1 _ hC h1 (E.gr g1) fun b y H2 h2 g2 r2 => ?_
  cases a <;> cases b <;> first | exact h2.elim | skip
  rename_i ds es
  obtain ⟨hl, h2⟩ := h2
  obtain ⟨a, us, rfl, e1, _, t1⟩ := r1.gr (E.gr g1) g2
  obtain ⟨b, vs, rfl, e2, _, t2⟩ := r2
  have l1 := t1.len
  have l2 := t2.len
  refine ⟨a, b, us, vs, rfl, rfl, e1, e2, by omega, fun p hp => ?_⟩
  exact q _ _ _ _ h2 (gr_and (g1.trans g2) (same_up hp)) (g1.dom p (g2.dom p (.of hp))) upd_same ((ok_ne hp (t1.append t2)).same (same_up hp))
/-! ### built-ins of one argument -/
def w1 (f : Dt → (Dt → Prop) → Prop) (t : WE) : WE := fun ρ P => t ρ fun a => f a P
def C1 (K : PySem.W.Frag) (r : List V → Hp → VK → Prop) (f : Dt → (Dt → Prop) → Prop) : Prop := ∀ (C : Ct) (a : Dt) (P : Dt → Prop) (x : V) (H : Hp) (Q : VK), f a P → RB K C H a x → (∀ p, H p = none → C.ok p) →
  (∀ d v H', P d → Same H H' → R K C.ok H' d v → Q v H') → r [x] H Q
theorem se_cb {r : List V → Hp → VK → Prop} {f : Dt → (Dt → Prop) → Prop} (h : C1 K r f) (ha : SB K T S m ta t) : SE K T S m (tCB r (tCons ta tNil)) (w1 f t) := fun C ρ P σ H Q hC ht E q => by
  refine ha C ρ _ σ H _ hC ht E fun a x H1 h1 g1 r1 => ?_
  exact h C a P x H1 Q h1 r1 (fun p hp => (E.gr g1).fresh hp) fun d v H2 hp k r2 => q d v H2 hp (gr_and g1 k) r2
def C1F (K : PySem.W.Frag) (r : List V → Hp → VK → Prop) (f : Dt → (List Dt → Prop) → Prop) : Prop := ∀ (C : Ct) (a : Dt) (P : List Dt → Prop) (x : V) (H : Hp) (Q : VK), f a P → RB K C H a x → (∀ p, H p = none → C.ok p) →
  (∀ ds p us H', P ds → Same H H' → H p = none → H' p = some (.lst us) → Rs K (fun a => C.ok a ∧ a ≠ p) H' ds us → Q (.ref p) H') → r [x] H Q
def kLen : Dt → (Dt → Prop) → Prop
  | .lst ds, P => P (.int ds.length)
  | .tup ds, P => P (.int ds.length)
  | _, _ => False
theorem c1_len : C1 K (fun xs H Q => ∃ p ys, xs = [.ref p] ∧ (SqL K H p ys ∨ SqT K H p ys) ∧ Q (.int ys.length) H) kLen := fun C a P x H Q h ra hf q => by
  cases a <;> first | exact h.elim | skip
  · obtain ⟨a, us, rfl, e, _, t⟩ := ra
    exact ⟨a, us, rfl, .inl (.of e), by rw [t.len]; exact q _ _ H h (Same.refl H) (.int _)⟩
  · obtain ⟨a, us, rfl, e, t⟩ := R.tupSq ra
    exact ⟨a, us, rfl, .inr e, by rw [t.len]; exact q _ _ H h (Same.refl H) (.int _)⟩
def kLenS : Dt → (Dt → Prop) → Prop
  | .str z, P => z.length ≤ sizeLine ∧ P (.int z.length)
  | _, _ => False
theorem c1_lenS : C1 K (fun xs H Q => ∃ z, xs = [.str z] ∧ z.length ≤ sizeLine ∧ Q (.int z.length) H) kLenS := fun C a P x H Q h ra hf q => by
  cases a <;> first | exact h.elim | skip
  exact ⟨_, by rw [R.strE ra], h.1, q _ _ H h.2 (Same.refl H) (.int _)⟩
def kTupOf : Dt → (Dt → Prop) → Prop
  | .lst ds, P => P (.tup ds)
  | .tup ds, P => P (.tup ds)
  | _, _ => False
def kLstOf : Dt → (List Dt → Prop) → Prop
  | .lst ds, P => P ds
  | .tup ds, P => P ds
  | _, _ => False
def Dt.bls : List Dt → Option (List Bool)
  | [] => some []
  | .bl b :: ds => (Dt.bls ds).map (b :: ·)
  | _ :: _ => none
theorem Rs.bls {ok : Addr → Prop} {H : Hp} : ∀ {ds : List Dt} {vs : List V} {bs : List Bool}, Rs K ok H ds vs → Dt.bls ds = some bs → vs = bs.map V.bl
  | _, _, _, .nil, e => by cases e; rfl
  | .bl b :: ds, _, bs, .cons h t, e => by
    unfold Dt.bls at e
    cases q : Dt.bls ds with
    | none => rw [q] at e; cases e
    | some cs =>
      rw [q] at e
      cases e
      rw [R.blE h, Rs.bls t q]
      rfl
def Dt.ints : List Dt → Option (List Int)
  | [] => some []
  | .int b :: ds => (Dt.ints ds).map (b :: ·)
  | _ :: _ => none
theorem Rs.ints {ok : Addr → Prop} {H : Hp} : ∀ {ds : List Dt} {vs : List V} {bs : List Int}, Rs K ok H ds vs → Dt.ints ds = some bs → vs = bs.map V.int
  | _, _, _, .nil, e => by cases e; rfl
  | .int b :: ds, _, bs, .cons h t, e => by
    unfold Dt.ints at e
    cases q : Dt.ints ds with
    | none => rw [q] at e; cases e
    | some cs =>
      rw [q] at e
      cases e
      rw [R.intE h, Rs.ints t q]
      rfl
def Dt.strs : List Dt → Option (List Str)
  | [] => some []
  | .str b :: ds => (Dt.strs ds).map (b :: ·)
  | _ :: _ => none
theorem Rs.strs {ok : Addr → Prop} {H : Hp} : ∀ {ds : List Dt} {vs : List V} {bs : List Str}, Rs K ok H ds vs → Dt.strs ds = some bs → vs = bs.map V.str
  | _, _, _, .nil, e => by cases e; rfl
  | .str b :: ds, _, bs, .cons h t, e => by
    unfold Dt.strs at e
    cases q : Dt.strs ds with
    | none => rw [q] at e; cases e
    | some cs =>
      rw [q] at e
      cases e
      rw [R.strE h, Rs.strs t q]
      rfl
theorem Rs.ofStrs {ok : Addr → Prop} {H : Hp} : ∀ (ns : List Str), Rs K ok H (ns.map Dt.str) (ns.map V.str)
  | [] => .nil
  | _ :: r => .cons (.str _) (Rs.ofStrs r)
def kAll : Dt → (Dt → Prop) → Prop
  | .lst ds, P => ∃ bs, Dt.bls ds = some bs ∧ P (.bl (bs.all id))
  | _, _ => False
def kAny : Dt → (Dt → Prop) → Prop
  | .lst ds, P => ∃ bs, Dt.bls ds = some bs ∧ P (.bl (bs.any id))
  | _, _ => False
def kInt1 : Dt → (Dt → Prop) → Prop
  | .int i, P => P (.int i)
  | .bl k, P => P (.int (if k then 1 else 0))
  | _, _ => False
theorem c1_int : C1 K (fun xs H Q => (∃ i, xs = [.int i] ∧ Q (.int i) H) ∨ ∃ k, xs = [.bl k] ∧ Q (.int (if k then 1 else 0)) H) kInt1 := fun C a P x H Q h ra hf q => by
  cases a <;> first | exact h.elim | skip
  · exact .inr ⟨_, by rw [R.blE ra], q _ _ H h (Same.refl H) (.int _)⟩
  · exact .inl ⟨_, by rw [R.intE ra], q _ _ H h (Same.refl H) (.int _)⟩
/-- sorted(ints), sorted(texts) -/
def kSortI : Dt → (List Dt → Prop) → Prop
  | .lst ds, P => ∃ ns, Dt.ints ds = some ns ∧ ∀ ns' : List Int, ns'.Perm ns → ns'.Pairwise (· ≤ ·) → P (ns'.map Dt.int)
  | _, _ => False
/-! ### tests -/
def wB (t : WE) : WT := fun ρ P => t ρ fun d => match d with
  | .bl b => P b
  | _ => False
theorem st_tB (h : SE K T S m te t) : ST K T S m (tB te) (wB t) := fun C ρ P σ H Q hC ht E q => by
  refine h C ρ _ σ H _ hC ht E fun d v H1 h1 g1 r1 => ?_
  cases d <;> first | exact h1.elim | skip
  exact ⟨_, R.blE r1, q _ H1 h1 g1⟩
theorem st_tTest (h : SE K T S m te t) : ST K T S m (tTest te) (wB t) := fun C ρ P σ H Q hC ht E q => by
  refine h C ρ _ σ H _ hC ht E fun d v H1 h1 g1 r1 => ?_
  cases d <;> first | exact h1.elim | skip
  exact ⟨_, R.blE r1, q _ H1 h1 g1⟩
def wAnd (t u : WT) : WT := fun ρ P => t ρ fun b => if b = true then u ρ P else P false
def wOr (t u : WT) : WT := fun ρ P => t ρ fun b => if b = true then P true else u ρ P
def wNot (t : WT) : WT := fun ρ P => t ρ fun b => P (!b)
variable {tA tB' : TT} {wa wb : WT}
theorem Gr.up (g : Gr m C H H') : Gr (m && m') C H H' := by
  cases m with
  | false => exact g
  | true =>
    cases m' with
    | true => exact g
    | false => exact g.weak
theorem st_and (ha : ST K T S m tA wa) (hb : ST K T S m' tB' wb) : ST K T S (m && m') (tAnd tA tB') (wAnd wa wb) := fun C ρ P σ H Q hC ht E q => by
  refine ha C ρ _ σ H _ hC ht E fun b H1 h1 g1 => ?_
  cases b with
  | false => exact q _ _ h1 g1.up
  | true => exact hb C ρ P σ H1 Q hC h1 (E.gr g1) fun b H2 h2 g2 => q _ _ h2 (g1.trans g2)
theorem st_or (ha : ST K T S m tA wa) (hb : ST K T S m' tB' wb) : ST K T S (m && m') (tOr tA tB') (wOr wa wb) := fun C ρ P σ H Q hC ht E q => by
  refine ha C ρ _ σ H _ hC ht E fun b H1 h1 g1 => ?_
  cases b with
  | true => exact q _ _ h1 g1.up
  | false => exact hb C ρ P σ H1 Q hC h1 (E.gr g1) fun b H2 h2 g2 => q _ _ h2 (g1.trans g2)
theorem st_not (ha : ST K T S m tA wa) : ST K T S m (tNot tA) (wNot wa) := fun C ρ P σ H Q hC ht E q => ha C ρ _ σ H _ hC ht E fun b H1 h1 g1 => q _ _ h1 g1
def wIf (c : WT) (t u : WE) : WE := fun ρ P => c ρ fun b => if b = true then t ρ P else u ρ P
/-- and, or, not as values -/
def wAndV (t u : WE) : WE := fun ρ P => t ρ fun d => match d with
  | .bl b => if b = true then u ρ P else P (.bl false)
  | _ => False
def wOrV (t u : WE) : WE := fun ρ P => t ρ fun d => match d with
  | .bl b => if b = true then P (.bl true) else u ρ P
  | _ => False
def wNotV (t : WE) : WE := fun ρ P => t ρ fun d => match d with
  | .bl b => P (.bl (!b))
  | _ => False
theorem se_and (ha : SE K T S m ta t) (hb : SE K T S m' tb u) : SE K T S (m && m') (tAndV ta tb) (wAndV t u) := fun C ρ P σ H Q hC ht E q => by
  refine ha C ρ _ σ H _ hC ht E fun d v H1 h1 g1 r1 => ?_
  cases d <;> first | exact h1.elim | skip
  rename_i b
  refine ⟨b, R.blE r1, ?_⟩
  cases b with
  | false => exact q _ _ _ h1 g1.up (.bl _)
  | true => exact hb C ρ P σ H1 Q hC h1 (E.gr g1) fun d v H2 h2 g2 r2 => q _ _ _ h2 (g1.trans g2) r2
theorem se_not (ha : SE K T S m ta t) : SE K T S m (tNotV ta) (wNotV t) := fun C ρ P σ H Q hC ht E q => by
  refine ha C ρ _ σ H _ hC ht E fun d v H1 h1 g1 r1 => ?_
  cases d <;> first | exact h1.elim | skip
  exact ⟨_, R.blE r1, q _ _ _ h1 g1 (.bl _)⟩
/-- a < b < c -/
def wChain (f g : Dt → Dt → (Dt → Prop) → Prop) (t u v : WE) : WE := fun ρ P => t ρ fun a => u ρ fun b => f a b fun z => match z with
  | .bl k => if k = true then v ρ fun c => g b c P else P (.bl false)
  | _ => False
/-! ### an attribute of an instance -/
def kFld (CC : Addr) (f : Str) : Dt → (Dt → Prop) → Prop
  | .obj C' ks ds, P => C' = CC ∧ match (ks.zip ds).lookup f with
    | some d => P d
    | none => False
  | _, _ => False
end
end UL
namespace UL
open PySem PySem.Spec PyProof.Rows L2
section
variable {K : PySem.W.Frag} {T : List NdefX.NTab} {S : Sl} {m m' m1 m2 m3 m4 m5 s s' : Bool} {te ta tb : TE} {t u : WE} {C : Ct} {σ : L2.St} {H H' : Hp} {ρ : Env}
/-! ### calls -/
/-- the promise of a def that changes nothing: w tells what it gives -/
def spU (K : PySem.W.Frag) (T : List NdefX.NTab) (w : List Dt → (Dt → Prop) → Prop) : Sp := fun vs H Q _ => ∃ (ok : Addr → Prop) (ds : List Dt) (P : Dt → Prop), NdefX.TabsN T H ∧ Rs K ok H ds vs ∧ w ds P ∧
  ∀ d v H', P d → Ex T H H' → R K (fun a => ok a ∨ Fre H a) H' d v → Q v H'
/-- .. and gives a new list -/
def spF (K : PySem.W.Frag) (T : List NdefX.NTab) (w : List Dt → (List Dt → Prop) → Prop) : Sp := fun vs H Q _ => ∃ (ok : Addr → Prop) (ds : List Dt) (P : List Dt → Prop), NdefX.TabsN T H ∧ Rs K ok H ds vs ∧ w ds P ∧
  ∀ es p us H', P es → Ex T H H' → Fre H p → H' p = some (.lst us) → Rs K (fun a => (ok a ∨ Fre H a) ∧ a ≠ p) H' es us → Q (.ref p) H'
/-- .. of a def that draws from its first argument -/
def spP (K : PySem.W.Frag) (T : List NdefX.NTab) (w : List Dt → (Dt → Prop) → Prop) : Sp := fun vs H Q _ => ∃ (p : Addr) (vs' : List V) (ok : Addr → Prop) (ds : List Dt) (P : Dt → Prop), vs = .ref p :: vs' ∧ PlAt H p ∧ ¬ ok p ∧ NdefX.TabsN T H ∧ Rs K ok H ds vs' ∧ w ds P ∧
  ∀ d v H', P d → (∀ a o, NT o → a ≠ p → H a = some o → H' a = some o) → PlAt H' p → NdefX.TabsN T H' → R K (fun a => ok a ∨ Fre H a) H' d v → Q v H'
theorem se_call {tr : TA} {u : WA} {w : List Dt → (Dt → Prop) → Prop} {E0 : XK} (h : SA K T S m tr u) : SE K T S m (tCall (spU K T w) [] E0 tr) (fun ρ P => u ρ fun ds => w ds P) := fun C ρ P σ H Q hC ht E q => by
  refine h C ρ _ σ H _ hC ht E fun ds vs H1 h1 g1 r1 => ?_
  rw [List.append_nil]
  have t1 := (E.gr g1).tab
  rw [hC.T] at t1
  refine ⟨C.ok, ds, P, t1, r1, h1, fun d v H2 hp k r2 => q d v H2 hp (gr_andE g1 (by rw [hC.T]; exact k)) (r2.okm fun a _ z => z.elim id fun z => (E.gr g1).freshF z)⟩
theorem gr_pool {i : Nat} (E : EnvR K C σ H ρ) (hi : i ∈ C.Pl) (k : ∀ a o, NT o → a ≠ C.A i → H a = some o → H' a = some o) (hp : PlAt H' (C.A i)) (ht : NdefX.TabsN C.T H') : Gr false C H H' := by
  refine ⟨fun a o nt e h => k a o nt (h rfl i hi) e, fun j hj h => ?_, fun a f o nt e => ?_, fun _ => ht⟩
  · by_cases e : C.A j = C.A i
    · rw [e]
      exact hp
    · obtain ⟨x, y, z, e1⟩ := h
      exact ⟨x, y, z, k _ _ nt_lst e e1⟩
  · by_cases q : a = C.A i
    · obtain ⟨x, y, z, e1⟩ := hp
      exact f _ nt_lst (q ▸ e1)
    · exact f o nt (k a o nt q e)
theorem se_callP (i : Nat) {tr : TA} {u : WA} {w : List Dt → (Dt → Prop) → Prop} {E0 : XK} (h : SA K T S m tr u) (hi : i ∈ S.2 := by decide) : SE K T S false (tCall (spP K T w) [] E0 (tCons (tVar i) tr)) (fun ρ P => u ρ fun ds => w ds P) := fun C ρ P σ H Q hC ht E q => by
  have hi' : i ∈ C.Pl := by rw [hC.2]; exact hi
  obtain ⟨_, e1, _⟩ := E.pls i hi'
  refine ⟨_, e1, ?_⟩
  refine h C ρ _ σ H _ hC ht E fun ds vs H1 h1 g1 r1 => ?_
  have E1 := E.gr g1
  obtain ⟨_, _, pl, _⟩ := E1.pls i hi'
  show spP K T w (V.ref (C.A i) :: (vs ++ [])) H1 Q E0
  rw [List.append_nil]
  have t1 := E1.tab
  rw [hC.T] at t1
  refine ⟨C.A i, vs, C.ok, ds, P, rfl, pl, fun z => z.2 i (.inr hi') rfl, t1, r1, h1, fun d v H2 hp k hpl t2 r2 => ?_⟩
  refine q d v H2 hp ?_ (r2.okm fun a _ z => z.elim id fun z => E1.freshF z)
  have := g1.trans (gr_pool E1 hi' k hpl (by rw [hC.T]; exact t2))
  rwa [Bool.and_false] at this
/-! ### targets -/
/-- a target, told by data: the slots js, what it stores -/
def SG (K : PySem.W.Frag) (T : List NdefX.NTab) (S : Sl) (g : TG) (js : List Nat) (bind : Dt → Env → Option Env) : Prop := ∀ (C : Ct) (ρ ρ' : Env) (d : Dt) (v : V) (σ : L2.St) (H : Hp) (Q : L2.St → Hp → Prop), C.In T S → bind d ρ = some ρ' → EnvR K C σ H ρ → R K C.ok H d v →
  (∀ σ', EnvR K C σ' H ρ' → (∀ vs : List Nat, (∀ j ∈ js, j ∈ vs) → wipe σ' vs = wipe σ vs) → Q σ' H) → g v σ H Q
theorem EnvR.setN (E : EnvR K C σ H ρ) {i : Nat} {d : Dt} {v : V} (hO : i ∉ C.O) (hi : i ∉ C.Pl) (r : R K C.ok H d v) : EnvR K C (σ.set i (some v)) H (ρ.set i (some d)) := by
  have e : C.drop i = C := by
    unfold Ct.drop
    rw [List.filter_eq_self.mpr fun j hj => by simp; rintro rfl; exact hO hj]
  have := E.set hi r
  rwa [e] at this
theorem wipe_set {σ : L2.St} {j : Nat} {x : Option V} : ∀ {vs : List Nat}, j ∈ vs → wipe (σ.set j x) vs = wipe σ vs
  | v :: vs, h => by
    unfold wipe
    by_cases hj : j ∈ vs
    · rw [wipe_set hj]
    · have e : v = j := by
        rcases List.mem_cons.mp h with h | h
        · exact h.symm
        · exact absurd h hj
      subst e
      have key : ∀ us : List Nat, wipe (σ.set v x) us = (wipe σ us).set v ((wipe (σ.set v x) us).getD v none) := fun us => by
        apply List.ext_getElem?
        intro k
        by_cases hk : k = v
        · subst hk
          by_cases hl : k < σ.length
          · rw [List.getElem?_set_self (by rw [wipe_length]; exact hl), List.getD_eq_getElem?_getD]
            rw [List.getElem?_eq_getElem (by rw [wipe_length, List.length_set]; exact hl)]
            rfl
          · rw [List.getElem?_eq_none (by rw [wipe_length, List.length_set]; omega), List.getElem?_eq_none (by rw [List.length_set, wipe_length]; omega)]
        · rw [List.getElem?_set_ne (Ne.symm hk)]
          induction us with
          | nil => exact List.getElem?_set_ne (Ne.symm hk)
          | cons w us ih =>
            unfold wipe
            by_cases hw : w = k
            · subst hw
              by_cases hl : w < σ.length
              · rw [List.getElem?_set_self (by rw [wipe_length, List.length_set]; exact hl), List.getElem?_set_self (by rw [wipe_length]; exact hl)]
              · rw [List.getElem?_eq_none (by rw [List.length_set, wipe_length, List.length_set]; omega), List.getElem?_eq_none (by rw [List.length_set, wipe_length]; omega)]
            · rw [List.getElem?_set_ne hw, List.getElem?_set_ne hw]
              exact ih
      rw [key vs, List.set_set]
theorem wipe_wipe {σ : L2.St} : ∀ (vs : List Nat) {us : List Nat}, (∀ v ∈ vs, v ∈ us) → wipe (wipe σ vs) us = wipe σ us
  | [], _, _ => rfl
  | v :: vs, us, h => by
    show wipe ((wipe σ vs).set v none) us = _
    rw [wipe_set (h v List.mem_cons_self), wipe_wipe vs fun w hw => h w (List.mem_cons_of_mem _ hw)]
theorem sg_name (j : Nat) (h : j ∉ S.1 ∧ j ∉ S.2 := by decide) : SG K T S (gName j) [j] (fun d ρ => some (ρ.set j (some d))) := fun C ρ ρ' d v σ H Q hC e E r q => by
  cases e
  exact q _ (E.setN (by rw [hC.1]; exact h.1) (by rw [hC.2]; exact h.2) r) fun vs hv => wipe_set (hv j List.mem_cons_self)
def gNames : List Nat → TGs
  | [] => gNil
  | j :: js => gCons (gName j) (gNames js)
def bindNames : List Nat → List Dt → Env → Option Env
  | [], [], ρ => some ρ
  | j :: js, d :: ds, ρ => bindNames js ds (ρ.set j (some d))
  | _, _, _ => none
def bindTup (js : List Nat) : Dt → Env → Option Env
  | .tup ds, ρ => bindNames js ds ρ
  | _, _ => none
/-! ### what is walked -/
structure WalkD (K : PySem.W.Frag) (J : It) (items : List Dt) (as : List Addr) (WI : (Addr → Prop) → Hp → Prop) : Prop where
  ex : ∃ (G : Hp → Prop) (Y : Nat → Hp → V → Hp → Prop), Walk J items.length G Y ∧ (∀ ok H, WI ok H → G H) ∧
    ∀ (ok : Addr → Prop) i H x H', i < items.length → WI ok H → (∀ p, H p = none → ok p) → Y i H x H' → Same H H' ∧ ∃ d, items[i]? = some d ∧ R K ok H' d x
  mv : ∀ ok ok' H H', (∀ a ∈ as, ∀ us, H a = some (.lst us) → H' a = some (.lst us)) → Mv ok H ok' H' → WI ok H → WI ok' H'
/-- s: its lists are none of the def's own -/
def SI (K : PySem.W.Frag) (T : List NdefX.NTab) (S : Sl) (m s : Bool) (wi : TI) (t : WA) : Prop := ∀ (C : Ct) (ρ : Env) (P : List Dt → Prop) (σ : L2.St) (H : Hp) (Q : It → Hp → Prop), C.In T S → t ρ P → EnvR K C σ H ρ →
  (∀ items J H' as WI, P items → Gr m C H H' → WalkD K J items as WI → WI C.ok H' → (∀ a ∈ as, (∃ us, H' a = some (.lst us)) ∧ (∀ j ∈ C.Pl, a ≠ C.A j) ∧ (s = true → C.ok a)) → Q J H') → wi σ H Q
def wItems (t : WE) : WA := fun ρ P => t ρ fun d => match d with
  | .lst ds => P ds
  | .tup ds => P ds
  | _ => False
def wItemsL (t : WE) : WA := fun ρ P => t ρ fun d => match d with
  | .lst ds => P ds
  | _ => False
def wItemsT (t : WE) : WA := fun ρ P => t ρ fun d => match d with
  | .tup ds => P ds
  | _ => False
theorem walkD_list {a : Addr} {us : List V} {ds : List Dt} (hl : us.length = ds.length) : WalkD K (Itl K a) ds [a] (fun ok H => H a = some (.lst us) ∧ Rs K ok H ds us) :=
  ⟨⟨_, _, hl ▸ walk_list (xs := us), fun ok H h => .of h.1, fun ok i H x H' hi h hf y => by
    obtain ⟨rfl, e⟩ := y
    obtain ⟨d, e1, r⟩ := h.2.get e
    exact ⟨Same.refl _, d, e1, r⟩⟩, fun ok ok' H H' hk mv h => ⟨hk a (List.mem_singleton.mpr rfl) _ h.1, h.2.mv mv⟩⟩
theorem walkD_tup {a : Addr} {us : List V} {ds : List Dt} (hl : us.length = ds.length) : WalkD K (Itt K a) ds [] (fun ok H => SqT K H a us ∧ Rs K ok H ds us) :=
  ⟨⟨_, _, hl ▸ walk_tup (xs := us), fun ok H h => h.1, fun ok i H x H' hi h hf y => by
    obtain ⟨rfl, e⟩ := y
    obtain ⟨d, e1, r⟩ := h.2.get e
    exact ⟨Same.refl _, d, e1, r⟩⟩, fun ok ok' H H' hk mv h => ⟨sqT_mv mv h.1, h.2.mv mv⟩⟩
theorem si_listS (h : SE K T S m te t) : SI K T S m true (iList K te) (wItemsL t) := fun C ρ P σ H Q hC ht E q => by
  refine h C ρ _ σ H _ hC ht E fun d v H1 h1 g1 r1 => ?_
  cases d <;> first | exact h1.elim | skip
  obtain ⟨a, us, rfl, e, k, t⟩ := r1.listSq
  refine ⟨a, rfl, ⟨us, .of e⟩, q _ _ H1 _ _ h1 g1 (walkD_list t.len) ⟨e, t⟩ fun b hb => ?_⟩
  rw [List.mem_singleton.mp hb]
  exact ⟨⟨_, e⟩, fun j hj => k.2 j (.inr hj), fun _ => k⟩
theorem si_tup (h : SB K T S m te t) : SI K T S m true (iTup K te) (wItemsT t) := fun C ρ P σ H Q hC ht E q => by
  refine h C ρ _ σ H _ hC ht E fun d v H1 h1 g1 r1 => ?_
  cases d <;> first | exact h1.elim | skip
  obtain ⟨a, us, rfl, e, t⟩ := R.tupSq r1
  exact ⟨a, rfl, ⟨us, e⟩, q _ _ H1 _ _ h1 g1 (walkD_tup t.len) ⟨e, t⟩ fun b hb => nomatch hb⟩
def rngD (lo : Int) (n : Nat) : List Dt := (List.range n).map fun i => Dt.int (lo + (i : Nat))
theorem rngD_len {lo : Int} {n : Nat} : (rngD lo n).length = n := by unfold rngD; rw [List.length_map, List.length_range]
theorem rngD_get {lo : Int} {n i : Nat} (h : i < n) : (rngD lo n)[i]? = some (.int (lo + (i : Nat))) := by
  unfold rngD
  rw [List.getElem?_map, List.getElem?_range h]
  rfl
theorem walkD_rng {lo : Int} {n : Nat} : WalkD K (Itr lo n) (rngD lo n) [] (fun _ _ => True) :=
  ⟨⟨_, _, by rw [rngD_len]; exact walk_range, fun _ _ h => h, fun ok i H x H' hi h hf y => by
    obtain ⟨rfl, rfl⟩ := y
    exact ⟨Same.refl _, _, rngD_get (by rw [rngD_len] at hi; exact hi), .int _⟩⟩, fun _ _ _ _ _ _ h => h⟩
def kRng1 : List Dt → (List Dt → Prop) → Prop
  | [.int j], P => j < 2 ^ 62 ∧ -(2 ^ 62) ≤ j ∧ P (rngD 0 j.toNat)
  | _, _ => False
def kRng2 : List Dt → (List Dt → Prop) → Prop
  | [.int i, .int j], P => (-(2 ^ 62) ≤ i ∧ i < 2 ^ 62 ∧ -(2 ^ 62) ≤ j ∧ j < 2 ^ 62) ∧ P (rngD i (j - i).toNat)
  | _, _ => False
theorem kRng1_of {ds : List Dt} {P : List Dt → Prop} (h : kRng1 ds P) : ∃ j, ds = [.int j] ∧ j < 2 ^ 62 ∧ -(2 ^ 62) ≤ j ∧ P (rngD 0 j.toNat) := by
  unfold kRng1 at h
  split at h
  · exact ⟨_, rfl, h⟩
  · exact h.elim
theorem si_rng1 {tr : TA} {u : WA} (h : SA K T S m tr u) : SI K T S m true (iRng1 tr) (fun ρ P => u ρ fun ds => kRng1 ds P) := fun C ρ P σ H Q hC ht E q => by
  refine h C ρ _ σ H _ hC ht E fun ds vs H1 h1 g1 r1 => ?_
  obtain ⟨j, rfl, h1, h2, h3⟩ := kRng1_of h1
  cases r1 with
  | cons r t =>
    cases t
    exact ⟨j, by rw [R.intE r], h2, h1, q _ _ H1 _ _ h3 g1 walkD_rng True.intro fun b hb => nomatch hb⟩
def zipD (ds es : List Dt) : List Dt := List.zipWith (fun x y => .tup [x, y]) ds es
def kZipT : List Dt → (List Dt → Prop) → Prop
  | [.tup ds, .tup es], P => P (zipD ds es)
  | _, _ => False
/-- enumerate(a list) -/
def enumD (ds : List Dt) : List Dt := (List.range ds.length).zipWith (fun i d => .tup [.int (i : Nat), d]) ds
/-- a text, sign by sign -/
def strD (z : Str) : List Dt := z.cps.toList.map fun c => .str ⟨#[c]⟩
end
end UL
namespace UL
open PySem PySem.Spec PyProof.Rows L2
section
variable {K : PySem.W.Frag} {T : List NdefX.NTab} {S : Sl} {m m' m1 m2 m3 m4 m5 s s' : Bool} {te ta tb : TE} {t u : WE} {C : Ct} {σ : L2.St} {H H' : Hp} {ρ : Env}
/-! ### comprehensions -/
def wipeE (ρ : Env) : List Nat → Env
  | [] => ρ
  | v :: vs => (wipeE ρ vs).set v none
theorem wipeE_some {ρ : Env} {i : Nat} {d : Dt} : ∀ {vs : List Nat}, (wipeE ρ vs)[i]? = some (some d) → ρ[i]? = some (some d) ∧ i ∉ vs
  | [], h => ⟨h, List.not_mem_nil⟩
  | v :: vs, h => by
    unfold wipeE at h
    rcases set_get h with ⟨_, e, _⟩ | ⟨n, h⟩
    · cases e
    · obtain ⟨h1, h2⟩ := wipeE_some h
      exact ⟨h1, fun z => (List.mem_cons.mp z).elim n h2⟩
theorem wipeE_out {ρ : Env} {i : Nat} : ∀ {vs : List Nat}, i ∉ vs → (wipeE ρ vs)[i]? = ρ[i]?
  | [], _ => rfl
  | v :: vs, h => by
    unfold wipeE
    have n : v ≠ i := fun z => h (by rw [z]; exact List.mem_cons_self)
    rw [List.getElem?_set_ne n]
    exact wipeE_out fun z => h (List.mem_cons_of_mem _ z)
theorem wipeE_len (ρ : Env) : ∀ vs : List Nat, (wipeE ρ vs).length = ρ.length
  | [] => rfl
  | v :: vs => by unfold wipeE; rw [List.length_set, wipeE_len ρ vs]
theorem EnvR.wipe (E : EnvR K C σ H ρ) {vs : List Nat} (hv : ∀ j ∈ vs, j ∉ C.O ∧ j ∉ C.Pl) : EnvR K C (L2.wipe σ vs) H (wipeE ρ vs) where
  len := by rw [wipe_length, wipeE_len]; exact E.len
  keep := E.keep
  dom := E.dom
  lent := E.lent
  tab := E.tab
  sh := fun i d h1 h2 e => by
    obtain ⟨e1, n⟩ := wipeE_some e
    rw [wipe_out n]
    exact E.sh i d h1 h2 e1
  own := fun i hi => by
    have n : i ∉ vs := fun z => (hv i z).1 hi
    rw [wipe_out n, wipeE_out n]
    exact E.own i hi
  pls := fun i hi => by
    have n : i ∉ vs := fun z => (hv i z).2 hi
    rw [wipe_out n, wipeE_len]
    exact E.pls i hi
  dj := E.dj
  inj := E.inj
/-- a list of nobody's is changed -/
theorem EnvR.side (E : EnvR K C σ H ρ) {D : Addr} {us vs : List V} (hD : H D = some (.lst us)) (hL : C.L D) (hLP : ¬ C.LP D) (hok : ¬ C.ok D) (hA : ∀ i, i ∈ C.O ∨ i ∈ C.Pl → C.A i ≠ D) :
    EnvR K C σ (upd H D (.lst vs)) ρ ∧ Mv C.ok H C.ok (upd H D (.lst vs)) := by
  have k : Mv C.ok H C.ok (upd H D (.lst vs)) := by
    refine .of ⟨fun a o nt e h => ?_, fun a f o nt e => ?_⟩
    · have n : a ≠ D := by
        rintro rfl
        rw [hD] at e
        cases e
        rcases h with h | h
        · exact hok h
        · exact h.lst _ rfl
      rw [upd_ne n]
      exact e
    · by_cases n : a = D
      · exact f _ nt_lst (by rw [n]; exact upd_same)
      · exact f o nt (by rw [upd_ne n]; exact e)
  refine ⟨⟨E.len, fun a o nt e n => ?_, fun a e => E.dom a (k.kp.dom a e), fun a h => ?_, tabs_lst hD E.tab, fun j d hj hp h => ?_, fun j hj => ?_, fun j hj => ?_, E.dj, E.inj⟩, k⟩
  · have ne : a ≠ D := fun z => n (by rw [z]; exact hL)
    rw [upd_ne ne]
    exact E.keep a o nt e n
  · obtain ⟨⟨x, y, z, e⟩, l⟩ := E.lent a h
    have ne : a ≠ D := fun z => hLP (by rw [← z]; exact h)
    exact ⟨⟨x, y, z, by rw [upd_ne ne]; exact e⟩, l⟩
  · obtain ⟨v, e, r⟩ := E.sh j d hj hp h
    exact ⟨v, e, r.mv k⟩
  · obtain ⟨ds, us', e1, e2, e3, r, q⟩ := E.own j hj
    exact ⟨ds, us', e1, e2, by rw [upd_ne (hA j (.inl hj))]; exact e3, r.mv k, q⟩
  · obtain ⟨l, e, ⟨x, y, z, e3⟩, q⟩ := E.pls j hj
    exact ⟨l, e, ⟨x, y, z, by rw [upd_ne (hA j (.inr hj))]; exact e3⟩, q⟩
/-- within a comprehension: the new list is at D -/
def Ct.comp (C : Ct) (H1 : Hp) (D : Addr) : Ct where
  H0 := upd H1 D (.lst [])
  ok0 := fun a => C.ok a ∧ a ≠ D
  L := fun a => a = D ∨ ∃ i, (i ∈ C.O ∨ i ∈ C.Pl) ∧ a = C.A i
  LP := fun a => ∃ i ∈ C.Pl, a = C.A i
  O := C.O
  Pl := C.Pl
  A := C.A
  T := C.T
theorem comp_ok {H1 : Hp} {D a : Addr} (E : EnvR K C σ H1 ρ) (hD : H1 D = none) (h : (C.comp H1 D).ok a) : C.ok a ∧ a ≠ D := by
  rcases h.1 with ⟨q, _⟩ | q
  · exact q
  · have q : Fre (upd H1 D (.lst [])) a := q
    have n : a ≠ D := fun e => q _ nt_lst (by rw [e]; exact upd_same)
    exact ⟨E.freshF fun o nt e => q o nt (by rw [upd_ne n]; exact e), n⟩
theorem ok_comp {H1 : Hp} {D a : Addr} (h : C.ok a) (n : a ≠ D) : (C.comp H1 D).ok a := by
  refine ⟨.inl ⟨⟨h, n⟩, fun z => ?_⟩, h.2⟩
  rcases z with z | ⟨i, hi, z⟩
  · exact n z
  · exact h.2 i hi z
theorem EnvR.comp {H1 : Hp} {D : Addr} (E : EnvR K C σ H1 ρ) (hD : H1 D = none) : EnvR K (C.comp H1 D) σ (upd H1 D (.lst [])) ρ ∧ (∀ i, i ∈ C.O ∨ i ∈ C.Pl → C.A i ≠ D) := by
  have ne : ∀ i, i ∈ C.O ∨ i ∈ C.Pl → C.A i ≠ D := fun i hi z => by
    obtain ⟨us, e, _⟩ := E.place hi
    rw [z, hD] at e
    cases e
  have mv : Mv C.ok H1 (C.comp H1 D).ok (upd H1 D (.lst [])) := ⟨.same (same_up hD), fun a n h => ok_comp h fun z => n (by rw [z]; exact .of hD)⟩
  refine ⟨⟨E.len, fun a o _ e _ => e, fun a e => e, fun a ⟨i, hi, z⟩ => ?_, E.tab.ext (same_up hD), fun i d h1 h2 e => ?_, fun i hi => ?_, fun i hi => ?_, E.dj, E.inj⟩, ne⟩
  · obtain ⟨_, _, p, _⟩ := E.pls i hi
    rw [z]
    exact ⟨p.same (same_up hD), .inr ⟨i, .inr hi, rfl⟩⟩
  · obtain ⟨v, e1, r⟩ := E.sh i d h1 h2 e
    exact ⟨v, e1, r.mv mv⟩
  · obtain ⟨ds, us, e1, e2, e3, r, q, l⟩ := E.own i hi
    refine ⟨ds, us, e1, e2, same_up hD _ _ e3, r.mv mv, .inr (.inr ⟨i, .inl hi, rfl⟩), fun ⟨j, hj, z⟩ => ?_⟩
    have := E.inj i j (.inl hi) (.inr hj) z
    exact E.dj i hi (this ▸ hj)
  · obtain ⟨l, e, p, q⟩ := E.pls i hi
    exact ⟨l, e, p.same (same_up hD), .inr ⟨i, hi, rfl⟩⟩
/-- the turns of a comprehension -/
def wComp (bind : Dt → Env → Option Env) (u : WT) (t : WE) (ρ : Env) : List Dt → List Dt → (List Dt → Prop) → Prop
  | [], acc, P => P acc
  | d :: ds, acc, P => match bind d ρ with
    | some ρ1 => u ρ1 fun b => if b = true then t ρ1 fun x => wComp bind u t ρ ds (acc ++ [x]) P else wComp bind u t ρ ds acc P
    | none => False
def wLc (ti : WA) (bind : Dt → Env → Option Env) (u : WT) (t : WE) (vs : List Nat) : WA := fun ρ P => ti ρ fun items => items.length ≤ 1000000 ∧ wComp bind u t (wipeE ρ vs) items [] P
theorem drop_of {α : Type} {l : List α} {i : Nat} {x : α} (h : l[i]? = some x) : l.drop i = x :: l.drop (i + 1) := by
  obtain ⟨h1, h2⟩ := List.getElem?_eq_some_iff.mp h
  rw [← h2]
  exact List.drop_eq_getElem_cons h1
theorem Gr.comm (g : Gr m C H H') : Gr (m' && m) C H H' := by
  rw [Bool.and_comm]
  exact g.up
theorem Gr.idem {H'' : Hp} (a : Gr m C H H') (b : Gr m C H' H'') : Gr m C H H'' := by
  have := a.trans b
  rwa [Bool.and_self] at this
theorem st_yes : ST K T S true tYes (fun _ P => P true) := fun C ρ P σ H Q hC ht E q => q true H ht .refl
/-- the state of a comprehension between two turns -/
structure LcSt (K : PySem.W.Frag) (C : Ct) (m : Bool) (H1 : Hp) (D : Addr) (σ : L2.St) (ρ : Env) (as : List Addr) (WI : (Addr → Prop) → Hp → Prop) (acc : List Dt) (H : Hp) : Prop where
  env : EnvR K (C.comp H1 D) σ H ρ
  at_ : ∃ us, H D = some (.lst us) ∧ Rs K (C.comp H1 D).ok H acc us
  gr : Gr m C H1 H
  wi : WI (C.comp H1 D).ok H
theorem LcSt.gr_ {H1 : Hp} {D : Addr} {as : List Addr} {WI : (Addr → Prop) → Hp → Prop} {acc : List Dt} {J : It} {items : List Dt} (W : WalkD K J items as WI) (hs : ∀ a ∈ as, ∀ j ∈ C.Pl, a ≠ C.A j) {σ' : L2.St} {ρ' : Env}
    (L : LcSt K C m H1 D σ ρ as WI acc H) (nD : ∀ j ∈ C.Pl, C.A j ≠ D) (g : Gr m (C.comp H1 D) H H') (E' : EnvR K (C.comp H1 D) σ' H ρ') : LcSt K C m H1 D σ ρ as WI acc H' := by
  have g' : Gr m C H H' := ⟨g.keep, g.pl, g.dom, g.tab⟩
  obtain ⟨us, e, r⟩ := L.at_
  refine ⟨L.env.gr g, ⟨us, g.keep _ _ nt_lst e fun _ j hj z => nD j hj z.symm, r.mv (g.mv L.env)⟩, L.gr.idem g', ?_⟩
  exact W.mv _ _ _ _ (fun a ha us e => g.keep _ _ nt_lst e fun _ j hj => hs a ha j hj) (g.mv L.env) L.wi
theorem LcSt.put {H1 : Hp} {D : Addr} {as : List Addr} {WI : (Addr → Prop) → Hp → Prop} {acc : List Dt} {J : It} {items : List Dt} (W : WalkD K J items as WI) (hD : H1 D = none) (hs : ∀ a ∈ as, ∃ us, H1 a = some (.lst us)) {σ' : L2.St} {ρ' : Env} (E : EnvR K C σ' H1 ρ')
    (L : LcSt K C m H1 D σ ρ as WI acc H) (nD : ∀ i, i ∈ C.O ∨ i ∈ C.Pl → C.A i ≠ D) {d : Dt} {y : V} (r : R K (C.comp H1 D).ok H d y) : ∃ us, H D = some (.lst us) ∧ us.length = acc.length ∧ LcSt K C m H1 D σ ρ as WI (acc ++ [d]) (upd H D (.lst (us ++ [y]))) ∧
    Mv (C.comp H1 D).ok H (C.comp H1 D).ok (upd H D (.lst (us ++ [y]))) ∧ ∀ {σ2 : L2.St} {ρ2 : Env}, EnvR K (C.comp H1 D) σ2 H ρ2 → EnvR K (C.comp H1 D) σ2 (upd H D (.lst (us ++ [y]))) ρ2 := by
  obtain ⟨us, e, rs⟩ := L.at_
  have nok : ¬ (C.comp H1 D).ok D := fun z => (comp_ok E hD z).2 rfl
  obtain ⟨E2, k⟩ := L.env.side (vs := us ++ [y]) e (.inl rfl) (fun ⟨i, hi, z⟩ => nD i (.inr hi) z.symm) nok nD
  refine ⟨us, e, rs.len, ⟨E2, ⟨_, upd_same, (rs.snoc r).mv k⟩, ?_, ?_⟩, k, fun E' => (E'.side (vs := us ++ [y]) e (.inl rfl) (fun ⟨i, hi, z⟩ => nD i (.inr hi) z.symm) nok nD).1⟩
  · refine ⟨fun a o nt h n => ?_, fun i hi h => ?_, fun a h => L.gr.dom a (k.kp.dom a h), fun h => tabs_lst e (L.gr.tab h)⟩
    · rw [upd_ne (ne_of_none h hD)]
      exact L.gr.keep a o nt h n
    · obtain ⟨x, y, z, q⟩ := L.gr.pl i hi h
      exact ⟨x, y, z, by rw [upd_ne (nD i (.inr hi))]; exact q⟩
  · refine W.mv _ _ _ _ (fun a ha vs q => ?_) k L.wi
    obtain ⟨ws, q1⟩ := hs a ha
    rw [upd_ne (ne_of_none q1 hD)]
    exact q
theorem sf_lc {wi : TI} {ti : WA} {g : TG} {js vs : List Nat} {bind : Dt → Env → Option Env} {tt : TT} {uT : WT} (hi : SI K T S m1 s wi ti) (hg : SG K T S g js bind) (ht : ST K T S m2 tt uT) (he : SE K T S m3 te t)
    (hjs : ∀ j ∈ js, j ∈ vs := by decide) (hv : ∀ j ∈ vs, j ∉ S.1 ∧ j ∉ S.2 := by decide) : SF K T S (m1 && (m2 && m3)) (tLc wi g tt te vs) (wLc ti bind uT t vs) := fun C ρ P σ H Q hC hw E q => by
  refine hi C ρ _ σ H _ hC hw E fun items J H1 as WI hP g1 W w0 hs D hD => ?_
  obtain ⟨hlen, hP⟩ := hP
  have E1 := E.gr g1
  obtain ⟨E2, nD⟩ := E1.comp hD
  have hC2 : (C.comp H1 D).In T S := ⟨hC.1, hC.2, hC.3⟩
  have hv' : ∀ j ∈ vs, j ∉ C.O ∧ j ∉ C.Pl := fun j hj => by rw [hC.1, hC.2]; exact hv j hj
  have E3 := E2.wipe (vs := vs) hv'
  obtain ⟨⟨G, Y, wk, wG, wY⟩, _⟩ := id W
  have hs1 : ∀ a ∈ as, ∀ j ∈ C.Pl, a ≠ C.A j := fun a ha => (hs a ha).2.1
  have hs2 : ∀ a ∈ as, ∃ us, H1 a = some (.lst us) := fun a ha => (hs a ha).1
  refine lc_it wk (fun i H' => ∃ acc, LcSt K C (m2 && m3) H1 D (wipe σ vs) (wipeE ρ vs) as WI acc H' ∧ acc.length ≤ i ∧ wComp bind uT t (wipeE ρ vs) (items.drop i) acc P) ?_ (fun i H' _ ⟨acc, L, _⟩ => wG _ _ L.wi) ?_ ?_
  · refine ⟨[], ⟨E3, ⟨[], upd_same, .nil⟩, .of (same_up hD), ?_⟩, Nat.le_refl _, hP⟩
    refine W.mv _ _ _ _ (fun a ha us e => same_up hD _ _ e) ⟨.same (same_up hD), fun a n h => ok_comp h fun z => n (by rw [z]; exact .of hD)⟩ w0
  · rintro i x H2 H3 hi' ⟨acc, L, la, wc⟩ hy
    obtain ⟨k, d, ed, r⟩ := wY _ i H2 x H3 hi' L.wi (fun p hp => L.env.fresh hp) hy
    have L3 := L.gr_ W hs1 (fun j hj => nD j (.inr hj)) (.of k) L.env
    rw [drop_of ed] at wc
    unfold wComp at wc
    cases eb : bind d (wipeE ρ vs) with
    | none => simp only [eb] at wc
    | some ρ1 =>
      simp only [eb] at wc
      refine hg _ _ ρ1 d x _ H3 _ hC2 eb L3.env r fun σ2 E4 hw2 => ⟨by rw [hw2 vs hjs, wipe_wipe vs fun _ h => h], ?_⟩
      refine ht _ ρ1 _ σ2 H3 _ hC2 wc E4 fun b H4 h4 g4 => ?_
      have L4 := L3.gr_ W hs1 (fun j hj => nD j (.inr hj)) (g4.up (m' := m3)) E4
      have E5 := E4.gr g4
      cases b with
      | false => exact ⟨acc, L4, Nat.le_succ_of_le la, h4⟩
      | true =>
        refine he _ ρ1 _ σ2 H4 _ hC2 h4 E5 fun y v H5 h5 g5 r5 => ?_
        have L5 := L4.gr_ W hs1 (fun j hj => nD j (.inr hj)) (g5.comm (m' := m2)) E5
        obtain ⟨us, eD, lu, L6, _⟩ := L5.put W hD hs2 E1 nD r5
        refine ⟨us, eD, ?_, acc ++ [y], L6, by rw [List.length_append]; exact Nat.succ_le_succ la, h5⟩
        rw [sizeLine_eq]
        omega
  · rintro H2 ⟨acc, L, la, wc⟩
    rw [List.drop_length] at wc
    obtain ⟨us, eD, rs⟩ := L.at_
    exact q acc D us H2 wc (g1.trans L.gr) (g1.dom D (.of hD)) eD (rs.okm fun a _ h => comp_ok E1 hD h)
/-- two clauses -/
def wComp2 (bind : Dt → Env → Option Env) (u : WT) (ti1 : WA) (bind1 : Dt → Env → Option Env) (u1 : WT) (t : WE) (vs1 : List Nat) (ρ : Env) : List Dt → List Dt → (List Dt → Prop) → Prop
  | [], acc, P => P acc
  | d :: ds, acc, P => match bind d ρ with
    | some ρ1 => u ρ1 fun b => if b = true then ti1 ρ1 fun items1 => items1.length ≤ 1000 ∧ wComp bind1 u1 t (wipeE ρ1 vs1) items1 acc fun acc' => wComp2 bind u ti1 bind1 u1 t vs1 ρ ds acc' P else wComp2 bind u ti1 bind1 u1 t vs1 ρ ds acc P
    | none => False
def wLc2 (ti : WA) (bind : Dt → Env → Option Env) (u : WT) (ti1 : WA) (bind1 : Dt → Env → Option Env) (u1 : WT) (t : WE) (vs vs1 : List Nat) : WA := fun ρ P => ti ρ fun items => items.length ≤ 1000 ∧ wComp2 bind u ti1 bind1 u1 t vs1 (wipeE ρ vs) items [] P
end
end UL
/-! several except clauses, each with a name or without -/
namespace VY
open PySem PySem.Spec PyProof.Rows L2
abbrev Cl := Value × Option Nat × (Addr → Value → Option Addr → TS)
/-- what the clauses wish of an exception of the body -/
def wMA (K : PySem.W.Frag) (Wout : WX) (D : Ends) : List Cl → WX
  | [] => Wout
  | (c, none, ts) :: r => fun cls d σ H => ∃ b, PySem.W.exmOne K cls c = some b ∧ (b = true → ∀ a, H a = none → ts a cls d D σ H) ∧ (b = false → wMA K Wout D r cls d σ H)
  | (c, some i, ts) :: r => fun cls d σ H => ∃ b, PySem.W.exmOne K cls c = some b ∧
      (b = true → ∀ a, H a = none → ts a cls d { nx := fun σ' H' => D.nx (σ'.set i none) H', rt := D.rt, bk := fun σ' H' => D.bk (σ'.set i none) H', ct := fun σ' H' => D.ct (σ'.set i none) H' } (σ.set i (some (.ref a))) H) ∧
      (b = false → wMA K Wout D r cls d σ H)
inductive HdsA (X : Cx) : List ExceptHandler → List Cl → Prop
  | nil : HdsA X [] []
  | no {x : Str} {c : Value} {ts : Addr → Value → Option Addr → TS} {b₀ : Stmt} {suite : List Stmt} {np pos' : Pos} {hds : List ExceptHandler} {l : List Cl} (hc : Names X x c)
      (hsu : ∀ (a : Addr) (oe : Obj) (cls : Value) (d : Option Addr) (pn : List (Addr × Obj)), Zc cls d oe → (∃ vs, oe.data = .fields vs) → PSs (X.suite a ((a, oe) :: pn)) (b₀ :: suite) (ts a cls d)) (r : HdsA X hds l) :
      HdsA X (.ExceptHandler (some (.Name x np)) none (b₀ :: suite) pos' :: hds) ((c, none, ts) :: l)
  | as {x n : Str} {c : Value} {i : Nat} {ts : Addr → Value → Option Addr → TS} {b₀ : Stmt} {suite : List Stmt} {np pos' : Pos} {hds : List ExceptHandler} {l : List Cl} (hi : X.N[i]? = some n) (hln : X.env.kindOf n = some .local) (hc : Names X x c)
      (hsu : ∀ (a : Addr) (oe : Obj) (cls : Value) (d : Option Addr) (pn : List (Addr × Obj)), Zc cls d oe → (∃ vs, oe.data = .fields vs) → PSs (X.suite a ((a, oe) :: pn)) (b₀ :: suite) (ts a cls d)) (r : HdsA X hds l) :
      HdsA X (.ExceptHandler (some (.Name x np)) (some n) (b₀ :: suite) pos' :: hds) ((c, some i, ts) :: l)
section
variable {X : Cx} {body : List Stmt} {h₀ : ExceptHandler} {hds : List ExceptHandler} {l : List Cl} {pos : Pos} {tb : WX → TS} {Wout : WX}
theorem ps_tryA (hs : X.stack = X.env :: X.outer) (hf : X.env.frame = some X.env.locals) (hN : X.N.Nodup) (tk : Takes X Wout)
    (hb : ∀ (W : WX) (pn : List (Addr × Obj)) (xe : Value → Shared → Prop), Takes (X.tr pn xe) W → PassesOwn (model X.prog X.w) X.A X.env xe → PSs (X.tr pn xe) body (tb W))
    (hh : HdsA X (h₀ :: hds) l) : PS X (.Try body (h₀ :: hds) [] [] pos) (fun D σ H => tb (wMA X.K Wout D l) D σ H) := by
  refine ⟨fun pins s σ H D I h => ?_⟩
  have ok := I.ok
  have hfr : X.A.frames = some (X.env :: X.outer) := by rw [ok.frames, hs]
  refine wpAny_Try_except ?_
  refine wpAny_mono ((hb (wMA X.K Wout D l) (X.pn ++ pins) (fun e s₁ => wpAny (model X.prog X.w) X.A (noteFrame e X.env) (fun _ s₂ => wpAny (model X.prog X.w) X.A (setFlight e none) (fun _ s₃ =>
    wpAny (model X.prog X.w) X.A (handleBy e X.env (h₀ :: hds)) (SP X pins D) X.xe s₃) X.xe s₂) X.xe s₁) (fun u s' xx => ?_) PassesOwn.looking).run [] s σ H D (I.toTry _) h) (fun f s1 hsp => ?_) (fun e s1 he => he)
  · obtain ⟨a, B, sI, pins', σ', H', cls, d, rfl, J', nb, up, sky, na, os, ag, w⟩ := xx
    have J : Inv X pins σ' H' sI := J'.ofTry ok
    have sky' : Sky B (X.env :: X.outer) a (Zc cls d) X.env.locals s'.heap := by rw [← hs]; exact sky
    show wpAny (model X.prog X.w) X.A (noteFrame (.ref a) X.env) _ _ _
    refine Sky.land Zc.steady hfr hf sky' fun h3 fl3 up3 => ?_
    have J3 : Inv X pins σ' H' { s' with heap := h3 } := J.landed nb fl3.1 (up.trans up3) os ag
    obtain ⟨oe3, vs3, he3, hz3, hd3⟩ := fl3.there
    have notFr : ∀ {h : Heap} {o : Obj} {vs : Array Value}, h.FunFrames B (X.env :: X.outer) → h.get? a = some o → o.data = .fields vs → a ∉ frs (X.env :: X.outer) := fun {h o vs} ff e dd hm => by
      obtain ⟨_, o', e', hnf⟩ := ff.mem hm
      rw [e] at e'; cases e'
      exact hnf _ dd
    have nfr := notFr fl3.2.2.1 he3 hd3
    have nL : a ≠ X.env.locals := fun z => nfr (List.mem_filterMap.mpr ⟨X.env, List.mem_cons_self, by rw [hf, z]⟩)
    have nF : a ∉ X.fs := fun hm => by
      obtain ⟨e, he, q⟩ := List.mem_filterMap.mp hm
      exact nfr (List.mem_filterMap.mpr ⟨e, List.mem_cons_of_mem _ he, q⟩)
    have S3 := J3.suite he3 hd3 na nL nF
    have tst : ∀ {x : Str} {c : Value} {np : Pos}, Names X x c → ∀ {Q : Value → Shared → Prop} {E : Value → Shared → Prop}, Q c { s' with heap := h3 } → wpAny (model X.prog X.w) (X.A.mark (some (.ref a))) (eval (.Name x np) X.env) Q E { s' with heap := h3 } := fun {x c np} hc {Q E} q => by
      obtain ⟨hg, hdbg, hm | ⟨hm, hv, hnn⟩⟩ := hc
      · exact ld_glob (X := X.suite a ((a, oe3) :: (X.pn ++ pins))) S3 hg hm q hdbg
      · exact ld_blt (X := X.suite a ((a, oe3) :: (X.pn ++ pins))) S3 hg hm hv q hnn hdbg
    have LT : PySem.W.Looks (model X.prog X.w) h3 (typeOf (.ref a)) cls := fun A Q E s k q => wpAny_typeOf_ref (k _ _ he3) (by rw [hz3.1]; exact q)
    have go : ∀ {hds' : List ExceptHandler} {l' : List Cl}, HdsA X hds' l' → wMA X.K Wout D l' cls d σ' H' →
        wpAny (model X.prog X.w) X.A (handleBy (.ref a) X.env hds') (SP X pins D) X.xe { s' with heap := h3 } := by
      intro hds' l' hk
      induction hk with
      | nil =>
        intro w
        refine wpAny_handleBy_nil ?_
        obtain ⟨k1, k2, k3, oe, vs, T, oT, ts', he, hz, hd, h1, hr⟩ := id fl3
        unfold PySem.passOn
        refine wpAny_bind (wpAny_field he hd h1 ?_)
        rw [if_neg (show ¬ ((Value.ref T == Value.none) = true) from by simp)]
        have fin : wpAny (model X.prog X.w) X.A (setFlight (.ref a) X.env.frame) (fun _ s4 => wpAny (model X.prog X.w) X.A (throw (.ref a) : Sem Flow) (SP X pins D) X.xe s4) X.xe { s' with heap := h3 } := by
          rw [hf]
          refine HandSPX.setFlight_upZ fl3 fun h4 hh4 up4 => wpAny_throw (tk _ _ ?_)
          exact ⟨a, B, sI, pins, σ', H', cls, d, rfl, J, nb, (up.trans up3).trans up4, .inr (.inr (by rw [hs]; exact hh4)), na, os, ag, w⟩
        first
          | exact wpAny_bind (wpAny_pure (wpAny_bind fin))
          | exact wpAny_bind fin
      | @no x c ts b₀ suite np pos' hds2 l2 hc hsu r ih =>
        intro w
        obtain ⟨b, hb1, hyes, hno⟩ := w
        refine wpAny_handleBy_cons (codeAny_handlers_test ?_) (by intro q; cases q)
        have LM := PySem.W.exm_one (M := model X.prog X.w) (J3.kIn) LT hb1
        refine tst hc (LM.here ?_)
        cases b with
        | true =>
          refine codeAny_handlers_suite ?_
          refine HandSPX.lands_againZ fl3 fun h4 fl4 up4 => ?_
          have J4 : Inv X pins σ' H' { s' with heap := h4 } := J.landed nb fl4.1 ((up.trans up3).trans up4) os ag
          obtain ⟨oe4, vs4, he4, hz4, hd4⟩ := fl4.there
          have S4 := J4.suite he4 hd4 na nL nF
          refine wpAny_mono ((hsu a oe4 cls d (X.pn ++ pins) hz4 ⟨_, hd4⟩).run [] _ _ H' _ S4 (hyes rfl a na)) (fun f s6 hsp => ?_) (fun _ _ z => False.elim z)
          cases f with
          | next =>
            obtain ⟨σ6, H6, S6, q6⟩ := hsp
            exact ⟨_, _, S6.unsuite ok, q6⟩
          | brk =>
            obtain ⟨σ6, H6, S6, q6⟩ := hsp
            exact ⟨_, _, S6.unsuite ok, q6⟩
          | cont =>
            obtain ⟨σ6, H6, S6, q6⟩ := hsp
            exact ⟨_, _, S6.unsuite ok, q6⟩
          | ret u =>
            obtain ⟨v6, σ6, H6, S6, r6, q6⟩ := hsp
            exact ⟨_, _, _, S6.unsuite ok, r6, q6⟩
        | false =>
          show wpAny _ X.A (handleBy (.ref a) X.env hds2) _ _ _
          exact ih (hno rfl)
      | @as x n c i ts b₀ suite np pos' hds2 l2 hi hln hc hsu r ih =>
        intro w
        obtain ⟨b, hb1, hyes, hno⟩ := w
        have hloc : Loc X.env.scope n := .inl hln
        refine wpAny_handleBy_cons (codeAny_handlers_test ?_) (by intro q; cases q)
        have LM := PySem.W.exm_one (M := model X.prog X.w) (J3.kIn) LT hb1
        refine tst hc (LM.here ?_)
        cases b with
        | true =>
          refine codeAny_handlers_suite_as ?_
          refine HandSPX.lands_againZ fl3 fun h4 fl4 up4 => ?_
          have J4 : Inv X pins σ' H' { s' with heap := h4 } := J.landed nb fl4.1 ((up.trans up3).trans up4) os ag
          obtain ⟨oe4, vs4, he4, hz4, hd4⟩ := fl4.there
          have S4 := J4.suite he4 hd4 na nL nF
          refine store_ok (X := X.suite a ((a, oe4) :: (X.pn ++ pins))) (v := .ref a) S4 hN hi hloc rfl (fun s5 S5 => ?_) (.inr hln)
          refine wpAny_mono ((hsu a oe4 cls d (X.pn ++ pins) hz4 ⟨_, hd4⟩).run [] s5 _ H' _ S5 (hyes rfl a na)) (fun f s6 hsp => ?_) (fun _ _ z => False.elim z)
          have end_ : ∀ {σ6 : L2.St} {H6 : Hp} {Q : Shared → Prop}, Inv (X.suite a ((a, oe4) :: (X.pn ++ pins))) [] σ6 H6 s6 → (∀ s7, Inv X pins (σ6.set i none) H6 s7 → Q s7) →
              wpAny (model X.prog X.w) X.A (do bindName X.env n .none; unbindBehindTheSuite X.env n pos') (fun _ s7 => Q s7) X.xe s6 := fun {σ6 H6 Q} S6 hq => gone_ok (S6.unsuite ok) hN hi hln hq
          cases f with
          | next =>
            obtain ⟨σ6, H6, S6, q6⟩ := hsp
            exact end_ S6 fun s7 J7 => ⟨_, _, J7, q6⟩
          | brk =>
            obtain ⟨σ6, H6, S6, q6⟩ := hsp
            exact end_ S6 fun s7 J7 => ⟨_, _, J7, q6⟩
          | cont =>
            obtain ⟨σ6, H6, S6, q6⟩ := hsp
            exact end_ S6 fun s7 J7 => ⟨_, _, J7, q6⟩
          | ret u =>
            obtain ⟨v6, σ6, H6, S6, r6, q6⟩ := hsp
            exact end_ S6 fun s7 J7 => ⟨_, _, _, J7, r6, q6⟩
        | false =>
          show wpAny _ X.A (handleBy (.ref a) X.env hds2) _ _ _
          exact ih (hno rfl)
    exact go hh w
  · cases f with
    | next =>
      obtain ⟨σ', H', J', q⟩ := hsp
      exact wpAny_execs_nil ⟨σ', H', J'.ofTry ok, q⟩
    | brk =>
      obtain ⟨σ', H', J', q⟩ := hsp
      exact ⟨σ', H', J'.ofTry ok, q⟩
    | cont =>
      obtain ⟨σ', H', J', q⟩ := hsp
      exact ⟨σ', H', J'.ofTry ok, q⟩
    | ret u =>
      obtain ⟨v, σ', H', J', r, q⟩ := hsp
      exact ⟨v, σ', H', J'.ofTry ok, r, q⟩
end
end VY
namespace UL
open PySem PySem.Spec PyProof.Rows L2
/-- an exception that a def raises: its class, its only field, what the field holds -/
structure Xn where
  cls : Addr
  f : Str
  d : Dt
def XR (K : PySem.W.Frag) (ok : Addr → Prop) (H : Hp) (x : Xn) (cls : Value) (dd : Option Addr) : Prop := cls = .ref x.cls ∧ ∃ a v, dd = some a ∧ H a = some (.xd [(x.f, v)]) ∧ R K ok H x.d v
/-- what is wished of exceptions; the slots that are the def's own where one is raised -/
structure XOut where
  W : WX
  SX : Option Sl
abbrev XO0 : XOut := ⟨fun _ _ _ _ => False, none⟩
/-- how a statement ends: it goes on, it gives a value, a new list, it leaves a loop, a turn -/
inductive Out where
  | nx (ρ : Env) | rt (d : Dt) | rf (ds : List Dt) | bk (ρ : Env) | ct (ρ : Env) | xc (x : Xn) (ρ : Env)
abbrev WS := Env → (Out → Prop) → Prop
structure Cm (C C' : Ct) : Prop where
  H0 : C'.H0 = C.H0
  ok0 : C'.ok0 = C.ok0
  L : C'.L = C.L
  LP : C'.LP = C.LP
  T : C'.T = C.T
def Ct.Own (C : Ct) : Prop := ∀ i ∈ C.O, Fre C.H0 (C.A i)
structure Fin (C : Ct) (H' : Hp) : Prop where
  keep : ∀ a o, NT o → C.H0 a = some o → ¬ C.L a → H' a = some o
  dom : ∀ a, Fre H' a → Fre C.H0 a
  lent : ∀ a, C.LP a → PlAt H' a
  tab : NdefX.TabsN C.T H'
/-- the def's own slots: how a statement's end is told -/
def Post (K : PySem.W.Frag) (T : List NdefX.NTab) (XO : XOut) (SL S' : Sl) (C : Ct) (H : Hp) (D : Ends) : Out → Prop
  | .nx ρ' => ∀ C' σ' H', C'.In T S' → Cm C C' → EnvR K C' σ' H' ρ' → C'.Own → Mv C.ok H C'.ok H' → D.nx σ' H'
  | .rt d => ∀ v H', Fin C H' → R K C.base H' d v → D.rt v H'
  | .rf ds => ∀ p us H', Fin C H' → Fre C.H0 p → H' p = some (.lst us) → Rs K (fun a => C.base a ∧ a ≠ p) H' ds us → D.rt (.ref p) H'
  | .bk ρ' => ∀ C' σ' H', C'.In T SL → Cm C C' → EnvR K C' σ' H' ρ' → C'.Own → Mv C.ok H C'.ok H' → D.bk σ' H'
  | .ct ρ' => ∀ C' σ' H', C'.In T SL → Cm C C' → EnvR K C' σ' H' ρ' → C'.Own → Mv C.ok H C'.ok H' → D.ct σ' H'
  | .xc x ρ' => ∀ C' σ' H' cls dd, (∀ S0, XO.SX = some S0 → C'.In T S0) → Cm C C' → EnvR K C' σ' H' ρ' → C'.Own → Mv C.ok H C'.ok H' → XR K C'.ok H' x cls dd → XO.W cls dd σ' H'
def SS (K : PySem.W.Frag) (T : List NdefX.NTab) (XO : XOut) (SL S S' : Sl) (ts : TS) (t : WS) : Prop := ∀ (C : Ct) (ρ : Env) (P : Out → Prop) (σ : L2.St) (H : Hp) (D : Ends), C.In T S → t ρ P → EnvR K C σ H ρ → C.Own → (∀ o, P o → Post K T XO SL S' C H D o) → ts D σ H
section
variable {K : PySem.W.Frag} {T : List NdefX.NTab} {SL S S' S1 : Sl} {m m' m1 m2 m3 s : Bool} {te ta tb : TE} {t u : WE} {C C1 C' : Ct} {σ : L2.St} {H H' H1 : Hp} {ρ : Env} {ts ts1 : TS} {w w' : WS} {XO : XOut}
theorem Cm.refl : Cm C C := ⟨rfl, rfl, rfl, rfl, rfl⟩
theorem Cm.trans (a : Cm C C1) (b : Cm C1 C') : Cm C C' := ⟨b.H0.trans a.H0, b.ok0.trans a.ok0, b.L.trans a.L, b.LP.trans a.LP, b.T.trans a.T⟩
theorem Cm.fin (c : Cm C C1) (h : Fin C1 H') : Fin C H' := by
  obtain ⟨e1, e2, e3, e4, e5⟩ := c
  exact ⟨fun a o nt e n => h.keep a o nt (by rw [e1]; exact e) (by rw [e3]; exact n), fun a e => by rw [← e1]; exact h.dom a e, fun a q => h.lent a (by rw [e4]; exact q), by rw [← e5]; exact h.tab⟩
theorem Cm.base (c : Cm C C1) (a : Addr) : C1.base a ↔ C.base a := by
  unfold Ct.base
  rw [c.H0, c.ok0, c.L]
theorem EnvR.fin (E : EnvR K C σ H ρ) : Fin C H := ⟨E.keep, E.dom, fun a h => (E.lent a h).1, E.tab⟩
/-- from later on -/
theorem Post.from {SL S' : Sl} {D : Ends} (c : Cm C C1) (k : Mv C.ok H C1.ok H1) : ∀ {o : Out}, Post K T XO SL S' C H D o → Post K T XO SL S' C1 H1 D o
  | .nx ρ', h => fun C' σ' H' hC c' E own k' => h C' σ' H' hC (c.trans c') E own (k.trans k')
  | .rt d, h => fun v H' f r => h v H' (c.fin f) (r.okm fun a _ q => (c.base a).mp q)
  | .rf ds, h => fun p us H' f hp e r => h p us H' (c.fin f) (by rw [← c.H0]; exact hp) e (r.okm fun a _ q => ⟨(c.base a).mp q.1, q.2⟩)
  | .bk ρ', h => fun C' σ' H' hC c' E own k' => h C' σ' H' hC (c.trans c') E own (k.trans k')
  | .ct ρ', h => fun C' σ' H' hC c' E own k' => h C' σ' H' hC (c.trans c') E own (k.trans k')
  | .xc x ρ', h => fun C' σ' H' cls dd hC c' E own k' r => h C' σ' H' cls dd hC (c.trans c') E own (k.trans k') r
def wNext : WS := fun ρ P => P (.nx ρ)
theorem ss_nil : SS K T XO SL S S tNext wNext := fun C ρ P σ H D hC h E own q => q _ h C σ H hC .refl E own .refl
def wSeq (t u : WS) : WS := fun ρ P => t ρ fun o => match o with
  | .nx ρ1 => u ρ1 P
  | o => P o
theorem ss_seq (h1 : SS K T XO SL S S1 ts w) (h2 : SS K T XO SL S1 S' ts1 w') : SS K T XO SL S S' (tSeq ts ts1) (wSeq w w') := fun C ρ P σ H D hC h E own q => by
  refine h1 C ρ _ σ H { D with nx := ts1 D } hC h E own fun o ho => ?_
  cases o with
  | nx ρ1 => exact fun C' σ' H' hC' c' E' own' k' => h2 C' ρ1 P σ' H' D hC' ho E' own' fun o ho => (q o ho).from c' k'
  | rt d => exact q _ ho
  | rf d => exact q _ ho
  | bk d => exact q _ ho
  | ct d => exact q _ ho
  | xc x d => exact q _ ho
/-- the slots behind a store to i -/
def Sl.drop (S : Sl) (i : Nat) : Sl := (S.1.filter (· ≠ i), S.2)
def Sl.take (S : Sl) (i : Nat) : Sl := (i :: S.1.filter (· ≠ i), S.2)
theorem In.drop {i : Nat} (h : C.In T S) : (C.drop i).In T (S.drop i) := ⟨by show C.O.filter _ = _; rw [h.1]; rfl, h.2, h.3⟩
theorem In.take {i : Nat} {p : Addr} (h : C.In T S) : (C.take i p).In T (S.take i) := ⟨by show i :: C.O.filter _ = _; rw [h.1]; rfl, h.2, h.3⟩
theorem Own.drop {i : Nat} (h : C.Own) : (C.drop i).Own := fun j hj => h j (mem_drop.mp hj).1
theorem Own.take {i : Nat} {p : Addr} (h : C.Own) (hp : Fre C.H0 p) : (C.take i p).Own := fun j hj => by
  by_cases z : j = i
  · rw [z, take_self]
    exact hp
  · rw [take_A z]
    rcases List.mem_cons.mp hj with q | q
    · exact absurd q z
    · exact h j (mem_drop.mp q).1
/-- x = e -/
def wSet (i : Nat) (t : WE) : WS := fun ρ P => t ρ fun d => P (.nx (ρ.set i (some d)))
theorem ss_set (i : Nat) (h : SE K T S m te t) (hi : i ∉ S.2 := by decide) : SS K T XO SL S (S.drop i) (tAsg te (gName i)) (wSet i t) := fun C ρ P σ H D hC ht E own q => by
  refine h C ρ _ σ H _ hC ht E fun d v H1 h1 g1 r1 => ?_
  have E1 := E.gr g1
  exact q _ h1 (C.drop i) _ H1 (In.drop hC) ⟨rfl, rfl, rfl, rfl, rfl⟩ (E1.set (by rw [hC.2]; exact hi) r1) (Own.drop own) ((g1.mv E).trans .drop)
/-- x = a new list -/
def wSetF (i : Nat) (t : WA) : WS := fun ρ P => i < ρ.length ∧ t ρ fun ds => P (.nx (ρ.set i (some (.lst ds))))
theorem ss_setF (i : Nat) {t : WA} (h : SF K T S m te t) (hi : i ∉ S.2 := by decide) : SS K T XO SL S (S.take i) (tAsg te (gName i)) (wSetF i t) := fun C ρ P σ H D hC ht E own q => by
  refine h C ρ _ σ H _ hC ht.2 E fun ds p us H1 h1 g1 hn e r1 => ?_
  obtain ⟨E1, k⟩ := E.setF ht.1 (by rw [hC.2]; exact hi) hn g1 e r1
  exact q _ h1 (C.take i p) _ H1 (In.take hC) ⟨rfl, rfl, rfl, rfl, rfl⟩ E1 (Own.take own (E.dom p hn)) k
/-- a, b = e -/
def wUnp (bind : Dt → Env → Option Env) (t : WE) : WS := fun ρ P => t ρ fun d => match bind d ρ with
  | some ρ' => P (.nx ρ')
  | none => False
/-- an expression alone -/
def wDrop (t : WE) : WS := fun ρ P => t ρ fun _ => P (.nx ρ)
/-- xs.append(e), xs an own list -/
def wApp (i : Nat) (t : WE) : WS := fun ρ P => match ρ[i]? with
  | some (some (.lst ds)) => t ρ fun d => ds.length < sizeLine ∧ P (.nx (ρ.set i (some (.lst (ds ++ [d])))))
  | _ => False
/-- if -/
def wIfS (c : WT) (t u : WS) : WS := fun ρ P => c ρ fun b => if b = true then t ρ P else u ρ P
theorem ss_if {tc : TT} {wc : WT} (hc : ST K T S m tc wc) (ha : SS K T XO SL S S' ts w) (hb : SS K T XO SL S S' ts1 w') : SS K T XO SL S S' (tIfS tc ts ts1) (wIfS wc w w') := fun C ρ P σ H D hC ht E own q => by
  refine hc C ρ _ σ H _ hC ht E fun b H1 h1 g1 => ?_
  cases b with
  | true => exact ha C ρ P σ H1 D hC h1 (E.gr g1) own fun o ho => (q o ho).from .refl (g1.mv E)
  | false => exact hb C ρ P σ H1 D hC h1 (E.gr g1) own fun o ho => (q o ho).from .refl (g1.mv E)
/-- return -/
def wRet (t : WE) : WS := fun ρ P => t ρ fun d => P (.rt d)
theorem ss_ret (h : SE K T S m te t) : SS K T XO SL S S' (tRet te) (wRet t) := fun C ρ P σ H D hC ht E own q => by
  refine h C ρ _ σ H _ hC ht E fun d v H1 h1 g1 r1 => ?_
  exact q _ h1 v H1 (E.gr g1).fin (r1.okm fun a _ z => z.1)
def wRetF (t : WA) : WS := fun ρ P => t ρ fun ds => P (.rf ds)
theorem ss_retF {t : WA} (h : SF K T S m te t) : SS K T XO SL S S' (tRet te) (wRetF t) := fun C ρ P σ H D hC ht E own q => by
  refine h C ρ _ σ H _ hC ht E fun ds p us H1 h1 g1 hn e r1 => ?_
  exact q _ h1 p us H1 (E.gr g1).fin (E.dom p hn) e (r1.okm fun a _ z => ⟨z.1.1, z.2⟩)
/-- return of an own list -/
def wRetO (i : Nat) : WS := fun ρ P => match ρ[i]? with
  | some (some (.lst ds)) => P (.rf ds)
  | _ => False
/-- what is never come to -/
theorem ss_dead : SS K T XO SL S S' ts (fun _ _ => False) := fun C ρ P σ H D hC ht E own q => ht.elim
/-- for -/
def wFor (bind : Dt → Env → Option Env) (body : WS) : List Dt → Env → (Out → Prop) → Prop
  | [], ρ, P => P (.nx ρ)
  | d :: ds, ρ, P => match bind d ρ with
    | some ρ1 => body ρ1 fun o => match o with
      | .nx ρ2 => wFor bind body ds ρ2 P
      | .ct ρ2 => wFor bind body ds ρ2 P
      | .bk ρ2 => P (.nx ρ2)
      | .rt x => P (.rt x)
      | .rf x => P (.rf x)
      | .xc x ρ2 => P (.xc x ρ2)
    | none => False
def wForS (ti : WA) (bind : Dt → Env → Option Env) (body : WS) : WS := fun ρ P => ti ρ fun items => wFor bind body items ρ P
theorem ss_for {wi : TI} {ti : WA} {g : TG} {js : List Nat} {bind : Dt → Env → Option Env} (hi : SI K T S m true wi ti) (hg : SG K T S g js bind) (hb : SS K T XO S S S ts w) : SS K T XO SL S S (tFor wi g ts) (wForS ti bind w) := fun C ρ P σ H D hC ht E own q => by
  refine hi C ρ _ σ H _ hC ht E fun items J H1 as WI hP g1 W w0 hs => ?_
  obtain ⟨⟨G, Y, wk, wG, wY⟩, _⟩ := id W
  have E1 := E.gr g1
  refine for_it wk (fun i σ' H' => ∃ C' ρ', C'.In T S ∧ Cm C C' ∧ EnvR K C' σ' H' ρ' ∧ C'.Own ∧ Mv C.ok H C'.ok H' ∧ (∀ a ∈ as, ∃ us, H' a = some (.lst us)) ∧ (∀ a ∈ as, C'.ok a) ∧ WI C'.ok H' ∧ wFor bind w (items.drop i) ρ' P)
    ⟨C, ρ, hC, .refl, E1, own, g1.mv E, fun a ha => (hs a ha).1, fun a ha => (hs a ha).2.2 rfl, w0, hP⟩ (fun i σ' H' _ ⟨C', ρ', _, _, _, _, _, _, _, wi, _⟩ => wG _ _ wi) ?_ ?_
  · rintro i x σ' H2 H3 hi' ⟨C', ρ', hC', c', E', own', k', s1, s2, wi', wc⟩ hy
    obtain ⟨k, d, ed, r⟩ := wY _ i H2 x H3 hi' wi' (fun p hp => E'.fresh hp) hy
    have E3 := E'.same k
    have w3 := W.mv _ _ _ _ (fun a ha us e => k _ _ e) (.same k) wi'
    rw [drop_of ed] at wc
    unfold wFor at wc
    cases eb : bind d ρ' with
    | none => simp only [eb] at wc
    | some ρ1 =>
      simp only [eb] at wc
      refine hg C' ρ' ρ1 d x σ' H3 _ hC' eb E3 r fun σ2 E4 _ => ?_
      have nxt : ∀ ρ2, wFor bind w (items.drop (i + 1)) ρ2 P → ∀ C2 σ3 H4, C2.In T S → Cm C' C2 → EnvR K C2 σ3 H4 ρ2 → C2.Own → Mv C'.ok H3 C2.ok H4 → ∃ C' ρ', C'.In T S ∧ Cm C C' ∧ EnvR K C' σ3 H4 ρ' ∧ C'.Own ∧ Mv C.ok H C'.ok H4 ∧ (∀ a ∈ as, ∃ us, H4 a = some (.lst us)) ∧ (∀ a ∈ as, C'.ok a) ∧ WI C'.ok H4 ∧ wFor bind w (items.drop (i + 1)) ρ' P := fun ρ2 wc2 C2 σ3 H4 hC2 c2 E5 own2 k2 => by
        refine ⟨C2, ρ2, hC2, c'.trans c2, E5, own2, k'.trans ((Mv.same k).trans k2), fun a ha => ?_, fun a ha => ?_, W.mv _ _ _ _ (fun a ha us e => k2.kp.keep _ _ nt_lst e (.inl (s2 a ha))) k2 w3, wc2⟩
        · obtain ⟨us, e⟩ := s1 a ha
          exact ⟨us, k2.kp.keep _ _ nt_lst (k _ _ e) (.inl (s2 a ha))⟩
        · obtain ⟨us, e⟩ := s1 a ha
          exact k2.ok a (nfre (k _ _ e) nt_lst) (s2 a ha)
      refine hb C' ρ1 _ σ2 H3 _ hC' wc E4 own' fun o ho => ?_
      cases o with
      | nx ρ2 => exact fun C2 σ3 H4 hC2 c2 E5 own2 k2 => nxt ρ2 ho C2 σ3 H4 hC2 c2 E5 own2 k2
      | ct ρ2 => exact fun C2 σ3 H4 hC2 c2 E5 own2 k2 => nxt ρ2 ho C2 σ3 H4 hC2 c2 E5 own2 k2
      | bk ρ2 => exact fun C2 σ3 H4 hC2 c2 E5 own2 k2 => q _ ho C2 σ3 H4 hC2 (c'.trans c2) E5 own2 (k'.trans ((Mv.same k).trans k2))
      | rt x => exact ((q _ ho).from (S' := S) c' (k'.trans (Mv.same k)))
      | rf x => exact ((q _ ho).from (S' := S) c' (k'.trans (Mv.same k)))
      | xc x ρ2 => exact ((q _ ho).from (S' := S) c' (k'.trans (Mv.same k)))
  · rintro σ' H2 ⟨C', ρ', hC', c', E', own', k', s1, s2, wi', wc⟩
    rw [List.drop_length] at wc
    exact q _ wc C' σ' H2 hC' c' E' own' k'
/-- while, at most n turns -/
def wWhN (c : WT) (body : WS) : Nat → Env → (Out → Prop) → Prop
  | 0, _, _ => False
  | n + 1, ρ, P => c ρ fun b => if b = true then body ρ fun o => match o with
      | .nx ρ2 => wWhN c body n ρ2 P
      | .ct ρ2 => wWhN c body n ρ2 P
      | .bk ρ2 => P (.nx ρ2)
      | .rt x => P (.rt x)
      | .rf x => P (.rf x)
      | .xc x ρ2 => P (.xc x ρ2)
    else P (.nx ρ)
def wWh (c : WT) (body : WS) : WS := fun ρ P => ∃ n, wWhN c body n ρ P
end
/-! ### a def's promise by its body -/
section
variable {K : PySem.W.Frag} {T : List NdefX.NTab} {H : Hp}
def env0 (N : List Str) (ds : List Dt) : Env := ds.map some ++ List.replicate (N.length - ds.length) none
theorem start_get {N : List Str} {ok : Addr → Prop} {ds : List Dt} {vs : List V} {i : Nat} {d : Dt} (r : Rs K ok H ds vs) (e : (env0 N ds)[i]? = some (some d)) : ∃ v, (L2.start N vs)[i]? = some (some v) ∧ R K ok H d v := by
  unfold env0 at e
  by_cases h : i < ds.length
  · rw [List.getElem?_append_left (by rw [List.length_map]; exact h), List.getElem?_map, List.getElem?_eq_getElem h] at e
    cases e
    obtain ⟨v, e1, r1⟩ := r.getD (List.getElem?_eq_getElem h)
    refine ⟨v, ?_, r1⟩
    have hl : i < vs.length := (List.getElem?_eq_some_iff.mp e1).1
    unfold L2.start
    rw [List.getElem?_append_left (by rw [List.length_map]; exact hl), List.getElem?_map, e1]
    rfl
  · rw [List.getElem?_append_right (by rw [List.length_map]; omega)] at e
    have := List.mem_of_getElem? e
    rw [List.mem_replicate] at this
    cases this.2
theorem start_len {N : List Str} {ok : Addr → Prop} {ds : List Dt} {vs : List V} (r : Rs K ok H ds vs) (hl : ds.length ≤ N.length) : (L2.start N vs).length = (env0 N ds).length := by
  unfold L2.start env0
  rw [List.length_append, List.length_append, List.length_map, List.length_map, List.length_replicate, List.length_replicate, r.len]
def ct0 (T : List NdefX.NTab) (H : Hp) (ok : Addr → Prop) : Ct := ⟨H, ok, fun _ => False, fun _ => False, [], [], fun _ => default, T⟩
theorem envR0 {N : List Str} {ok : Addr → Prop} {ds : List Dt} {vs : List V} (r : Rs K ok H ds vs) (hl : ds.length ≤ N.length) (ht : NdefX.TabsN T H) : EnvR K (ct0 T H ok) (L2.start N vs) H (env0 N ds) where
  len := start_len r hl
  keep := fun a o _ e _ => e
  dom := fun a e => e
  lent := fun a h => h.elim
  tab := ht
  sh := fun i d _ _ e => by
    obtain ⟨v, e1, r1⟩ := start_get r e
    exact ⟨v, e1, r1.okm fun a _ q => ⟨.inl ⟨q, fun z => z⟩, fun i hi => by rcases hi with hi | hi <;> cases hi⟩⟩
  own := fun i hi => nomatch hi
  pls := fun i hi => nomatch hi
  dj := fun i hi => nomatch hi
  inj := fun i j hi => by rcases hi with hi | hi <;> cases hi
variable {P : Program} {w : World} {mg : Str → Option Value} {base : Heap}
/-- a def that changes nothing: w0 what its body gives -/
theorem fn_u {x qual : Str} {st : Stmt} {f : Addr} {fd : FuncData} {N ps : List Str} {k : Nat} {sp : List Dt → (Dt → Prop) → Prop} (F : Fun K x qual st f fd) (S : FnScope N ps (defScope st)) (hn : ps.length ≤ N.length) (len : ∀ ds Q, sp ds Q → ds.length = ps.length)
    (hb : ∀ (cdv : Value) (A : Around) (outer : List PySem.Env) (s : Shared) (H : Hp) (E : XK), Room k (A.deeper (envOfC qual (defScope st) s.heap.objs.size f cdv)) →
      ∃ (ts : TS) (wb : WS) (SL S' : Sl), PSs (cxOf CX0 P w K mg base N qual (defScope st) f cdv A outer s H E).nox (defBody st) ts ∧ SS K T XO0 SL ([], []) S' ts wb ∧
        ∀ ds Q, sp ds Q → wb (env0 N ds) fun o => match o with
          | .rt d => Q d
          | .rf d => Q (.lst d)
          | .nx _ => Q .non
          | _ => False) : FnOk P w K mg base CX0 (k + 1) f fd ps (spU K T sp) := by
  refine F.ok S (fun vs H Q E ⟨ok, ds, P, _, r, h, _⟩ => by rw [r.len]; exact len _ _ h) (fun cdv A outer s H vs Q E hr h => ?_)
  obtain ⟨ok, ds, P, ht, r, h, q⟩ := h
  obtain ⟨ts, wb, SL, S', h1, h2, h3⟩ := hb cdv A outer s H E hr
  have hl : ds.length ≤ N.length := by rw [len _ _ h]; exact hn
  refine ⟨ts, h1, ?_⟩
  have bs : ∀ a, (ct0 T H ok).base a → ok a ∨ Fre H a := fun a z => z.imp And.left id
  refine h2 (ct0 T H ok) (env0 N ds) _ (L2.start N vs) H _ ⟨rfl, rfl, rfl⟩ (h3 ds P h) (envR0 r hl ht) (fun i hi => nomatch hi) fun o ho => ?_
  cases o with
  | rt d => exact fun v H' f r => q d v H' ho ⟨fun a o nt e => f.keep a o nt e fun z => z, fun _ => f.tab⟩ (r.okm fun a _ z => bs a z)
  | rf d => exact fun p us H' f hp e r => q _ _ H' ho ⟨fun a o nt e => f.keep a o nt e fun z => z, fun _ => f.tab⟩ (.lst e (.inr hp) (r.okm fun a _ z => bs a z.1))
  | nx ρ => exact fun C' σ' H' _ c E _ _ => q _ _ H' ho ⟨fun a o nt e => (c.fin E.fin).keep a o nt e fun z => z, fun _ => (c.fin E.fin).tab⟩ .non
  | bk ρ => exact ho.elim
  | ct ρ => exact ho.elim
  | xc x ρ => exact ho.elim
theorem fn_f {x qual : Str} {st : Stmt} {f : Addr} {fd : FuncData} {N ps : List Str} {k : Nat} {sp : List Dt → (List Dt → Prop) → Prop} (F : Fun K x qual st f fd) (S : FnScope N ps (defScope st)) (hn : ps.length ≤ N.length) (len : ∀ ds Q, sp ds Q → ds.length = ps.length)
    (hb : ∀ (cdv : Value) (A : Around) (outer : List PySem.Env) (s : Shared) (H : Hp) (E : XK), Room k (A.deeper (envOfC qual (defScope st) s.heap.objs.size f cdv)) →
      ∃ (ts : TS) (wb : WS) (SL S' : Sl), PSs (cxOf CX0 P w K mg base N qual (defScope st) f cdv A outer s H E).nox (defBody st) ts ∧ SS K T XO0 SL ([], []) S' ts wb ∧
        ∀ ds Q, sp ds Q → wb (env0 N ds) fun o => match o with
          | .rf d => Q d
          | _ => False) : FnOk P w K mg base CX0 (k + 1) f fd ps (spF K T sp) := by
  refine F.ok S (fun vs H Q E ⟨ok, ds, P, _, r, h, _⟩ => by rw [r.len]; exact len _ _ h) (fun cdv A outer s H vs Q E hr h => ?_)
  obtain ⟨ok, ds, P, ht, r, h, q⟩ := h
  obtain ⟨ts, wb, SL, S', h1, h2, h3⟩ := hb cdv A outer s H E hr
  have hl : ds.length ≤ N.length := by rw [len _ _ h]; exact hn
  refine ⟨ts, h1, ?_⟩
  have bs : ∀ a, (ct0 T H ok).base a → ok a ∨ Fre H a := fun a z => z.imp And.left id
  refine h2 (ct0 T H ok) (env0 N ds) _ (L2.start N vs) H _ ⟨rfl, rfl, rfl⟩ (h3 ds P h) (envR0 r hl ht) (fun i hi => nomatch hi) fun o ho => ?_
  cases o with
  | rf d => exact fun p us H' f hp e r => q _ _ _ H' ho ⟨fun a o nt e => f.keep a o nt e fun z => z, fun _ => f.tab⟩ hp e (r.okm fun a _ z => ⟨bs a z.1, z.2⟩)
  | rt d => exact ho.elim
  | nx ρ => exact ho.elim
  | bk ρ => exact ho.elim
  | ct ρ => exact ho.elim
  | xc x ρ => exact ho.elim
end
end UL
namespace UL
open PySem PySem.Spec PyProof.Rows L2
/-! ### names for readings (for comprehensions) -/
abbrev rAdd_ : R2 := rI0 fun i j => .int (i + j)
abbrev rSub_ : R2 := rI0 fun i j => .int (i - j)
abbrev rMul_ : R2 := rI CMul fun i j => .int (i * j)
abbrev rMod_ : R2 := rI (fun _ j => 0 < j) fun i j => .int (i % j)
abbrev rFdiv_ : R2 := rI CDiv fun i j => .int (i / j)
abbrev rLt_ : R2 := rI0 fun i j => .bl (decide (i < j))
abbrev rLe_ : R2 := rI0 fun i j => .bl (decide (i ≤ j))
abbrev rGt_ : R2 := rI0 fun i j => .bl (decide (j < i))
abbrev rGe_ : R2 := rI0 fun i j => .bl (decide (j ≤ i))
abbrev rIsN_ : R2 := fun x y H Q => y = .non ∧ Q (.bl (decide (x = .non))) H
abbrev rNotN_ : R2 := fun x y H Q => y = .non ∧ Q (.bl (!decide (x = .non))) H
abbrev rLen_ (K : PySem.W.Frag) : List V → Hp → VK → Prop := fun xs H Q => ∃ p ys, xs = [.ref p] ∧ (SqL K H p ys ∨ SqT K H p ys) ∧ Q (.int ys.length) H
abbrev rLenS_ : List V → Hp → VK → Prop := fun xs H Q => ∃ z, xs = [.str z] ∧ z.length ≤ sizeLine ∧ Q (.int z.length) H
abbrev rTupOf_ (K : PySem.W.Frag) : List V → Hp → VK → Prop := fun xs H Q => ∃ p ys, xs = [.ref p] ∧ ((SqL K H p ys ∧ ∀ l, H l = none → Q (.ref l) (upd H l (.tup ys))) ∨ (SqT K H p ys ∧ Q (.ref p) H))
abbrev rLstOf_ (K : PySem.W.Frag) : List V → Hp → VK → Prop := fun xs H Q => ∃ p ys, xs = [.ref p] ∧ (SqL K H p ys ∨ SqT K H p ys) ∧ ∀ l, H l = none → Q (.ref l) (upd H l (.lst ys))
abbrev rInt_ : List V → Hp → VK → Prop := fun xs H Q => (∃ i, xs = [.int i] ∧ Q (.int i) H) ∨ ∃ k, xs = [.bl k] ∧ Q (.int (if k then 1 else 0)) H
section
variable {X : Cx}
theorem call_len_ : CallR X (.builtin "len") (rLen_ X.K) := call_len_seq
end
section
variable {K : PySem.W.Frag} {T : List NdefX.NTab} {SL S S' S1 : Sl} {m m' m1 m2 m3 s : Bool} {te ta tb tc : TE} {t u v : WE} {C C1 C' : Ct} {σ : L2.St} {H H' H1 : Hp} {ρ : Env} {ts ts1 : TS} {XO : XOut} {w w' : WS}
theorem ss_cast {S2 : Sl} (h : SS K T XO SL S S2 ts w) (e : S2 = S' := by rfl) : SS K T XO SL S S' ts w := e ▸ h
/-- an expression's answer, weakened -/
theorem SE.imp {t' : WE} (h : SE K T S m te t) (f : ∀ ρ P, t' ρ P → t ρ P) : SE K T S m te t' := fun C ρ P σ H Q hC ht E q => h C ρ P σ H Q hC (f ρ P ht) E q
/-- a < b < c -/
theorem se_chain {r r' : R2} {f g : Dt → Dt → (Dt → Prop) → Prop} (hf : OpS K r f) (hg : OpS K r' g) (ha : SB K T S m1 ta t) (hb : SB K T S m2 tb u) (hc : SB K T S m3 tc v) : SE K T S ((m1 && m2) && m3) (tChain r r' ta tb tc) (wChain f g t u v) := fun C ρ P σ H Q hC ht E q => by
  refine ha C ρ _ σ H _ hC ht E fun a x H1 h1 g1 r1 => ?_
  refine hb C ρ _ σ H1 _ hC h1 (E.gr g1) fun b y H2 h2 g2 r2 => ?_
  have E2 := (E.gr g1).gr g2
  refine hf C a b _ x y H2 _ h2 (r1.gr (E.gr g1) g2) r2 (fun p hp => E2.fresh hp) fun d z H3 hp k r3 => ?_
  cases d <;> first | exact hp.elim | skip
  rename_i kb
  have g3 : Gr (m1 && m2) C H H3 := gr_and (g1.trans g2) k
  refine ⟨kb, R.blE r3, ?_⟩
  cases kb with
  | false => exact q _ _ H3 hp g3.up (.bl _)
  | true =>
    have E3 := E2.same k
    refine hc C ρ _ σ H3 _ hC hp E3 fun c zc H4 h4 g4 r4 => ?_
    have E4 := E3.gr g4
    refine hg C b c P y zc H4 Q h4 ((RB.gr E2 (Gr.of (m := true) k) r2).gr E3 g4) r4 (fun p hp => E4.fresh hp) fun d v H5 hp k5 r5 => q d v H5 hp (gr_and (g3.trans g4) k5) r5
/-! ### d.get(k, x): a dict that is read -/
def Dt.key : Dt → Option Key
  | .int i => some (.inl i)
  | .str z => some (.inr z)
  | _ => none
def Dt.keys : List Dt → Option (List Key)
  | [] => some []
  | d :: ds => match d.key, Dt.keys ds with
    | some x, some xs => some (x :: xs)
    | _, _ => none
/-- the value at a key -/
def dlook (ks : List (List Key)) (ds : List Dt) (k : List Key) : Option Dt := ((ks.zip ds).find? fun p => decide (p.1 = k)).map (·.2)
def kGet2 (ks : List (List Key)) (ds : List Dt) : Dt → Dt → (Dt → Prop) → Prop
  | .tup es, x, P => ∃ k, Dt.keys es = some k ∧ P ((dlook ks ds k).getD x)
  | _, _, _ => False
def wGet2 (t u v : WE) : WE := fun ρ P => t ρ fun a => match a with
  | .dct ks ds => u ρ fun b => v ρ fun c => kGet2 ks ds b c P
  | _ => False
/-! ### isinstance of data -/
def Dt.tyN : Dt → Option String
  | .non => some "NoneType"
  | .bl _ => some "bool"
  | .int _ => some "int"
  | .str _ => some "str"
  | .lst _ => some "list"
  | .tup _ => some "tuple"
  | .dct _ _ => some "dict"
  | _ => none
theorem tyT_ {K : PySem.W.Frag} {H : Hp} {a : Addr} {xs : List V} (h : SqT K H a xs) : TyX K H (.ref a) (.type "tuple") := by
  rcases h with (e | ⟨o, e⟩) | ⟨o, its, n, e, c, _⟩
  · exact .base (.tup e)
  · exact .fTuple e
  · exact .kTuple e c
theorem RB.tyX {d : Dt} {v : V} {n : String} (h : RB K C H d v) (e : d.tyN = some n) : TyX K H v (.type n) := by
  cases d with
  | lst ds => obtain ⟨a, us, rfl, e1, _, t⟩ := h; cases e; exact .base (.lst e1)
  | non => cases h; cases e; exact .base .non
  | bl => cases h; cases e; exact .base (.bl _)
  | int => cases h; cases e; exact .base (.int _)
  | str => cases h; cases e; exact .base (.str _)
  | tup => cases h; cases e; rename_i e1 t; exact tyT_ (.of e1)
  | dct => cases h; cases e; rename_i e1 t; exact .base (.dT e1)
  | _ => cases e
def kIsi (T : String) : Dt → (Dt → Prop) → Prop := fun d P => match d.tyN with
  | some n => match kitB n T with
    | some b => P (.bl b)
    | none => False
  | none => False
theorem se_isi {TN : String} (ha : SB K T S m ta t) : SE K T S m (tCB (rIsi K) (tCons ta (tCons (tC (.ty TN)) tNil))) (w1 (kIsi TN) t) := fun C ρ P σ H Q hC ht E q => by
  refine ha C ρ _ σ H _ hC ht E fun a x H1 h1 g1 r1 => ?_
  unfold kIsi at h1
  split at h1
  · rename_i n e
    split at h1
    · rename_i b eb
      exact ⟨x, .ty TN, .type n, .type TN, b, rfl, .ty TN, r1.tyX e, kit_ty eb, q _ _ H1 h1 g1 (.bl _)⟩
    · exact h1.elim
  · exact h1.elim
/-- sorted(set(texts)) -/
def kSortSet : Dt → (List Dt → Prop) → Prop
  | .lst ds, P => ∃ zs, Dt.strs ds = some zs ∧ zs.length < 64 ∧ ∀ ys : List Str, sortedS ys = true → ys.Nodup → (∀ z, z ∈ ys ↔ z ∈ zs) → P (ys.map Dt.str)
  | _, _ => False
theorem sf_sortset {wd : World} (ha : SB K T S m ta t) : SF K T S m (tCB (VT.rSortedT wd) (tCons (tCB (VT.rSetT wd K) (tCons ta tNil)) tNil)) (fun ρ P => t ρ fun a => kSortSet a P) := fun C ρ P σ H Q hC ht E q => by
  refine ha C ρ _ σ H _ hC ht E fun a x H1 h1 g1 r1 => ?_
  cases a <;> first | exact h1.elim | skip
  obtain ⟨zs, e, hl, h1⟩ := h1
  obtain ⟨a, us, rfl, e1, _, t⟩ := r1
  refine ⟨a, zs, rfl, by rw [← t.strs e]; exact .of e1, Nat.lt_of_lt_of_le (Nat.succ_lt_succ hl) (by decide), fun D n hD hn => ?_⟩
  refine ⟨D, _, n, rfl, upd_same, Nat.lt_of_le_of_lt hn hl, fun ns p h2 h3 h4 _ hp => ?_⟩
  have k : Same H1 (upd (upd H1 D (VT.SetTO wd D (fun j => decide (j ∈ zs)) n)) p (.lst (ns.map V.str))) := (same_up hD).trans (same_up hp)
  refine q _ p _ _ (h1 ns h2 h3 fun z => by rw [h4 z]; simp) (gr_and g1 k) (g1.dom p fun o nt e => ?_) upd_same (Rs.ofStrs _)
  have := (same_up (o := VT.SetTO wd D (fun j => decide (j ∈ zs)) n) hD) _ _ e
  rw [hp] at this
  cases this
/-! ### xs[a:b] of a list -/
def wOpt (t : Option WE) (ρ : Env) (P : Option Int → Prop) : Prop := match t with
  | some t => t ρ fun d => match d with
    | .int i => P (some i)
    | _ => False
  | none => P none
/-! ### o.m(..) of an instance -/
end
end UL
namespace UL
open PySem PySem.Spec PyProof.Rows L2
/-- a comprehension over data that are told one by one -/
theorem wComp_map {α : Type} {bind : Dt → Env → Option Env} {u : WT} {t : WE} {ρ : Env} {f : α → Dt} (p : α → Bool) (g : α → Dt) : ∀ (xs : List α) {acc : List Dt} {P : List Dt → Prop},
    (∀ x ∈ xs, ∃ ρ1, bind (f x) ρ = some ρ1 ∧ (∀ Q : Bool → Prop, Q (p x) → u ρ1 Q) ∧ (p x = true → ∀ Q : Dt → Prop, Q (g x) → t ρ1 Q)) → P (acc ++ (xs.filter p).map g) → wComp bind u t ρ (xs.map f) acc P
  | [], acc, P, _, q => by
    rw [List.filter_nil, List.map_nil, List.append_nil] at q
    exact q
  | x :: xs, acc, P, h, q => by
    obtain ⟨ρ1, e, h1, h2⟩ := h x List.mem_cons_self
    have ih := fun {acc P} => wComp_map (P := P) p g xs (acc := acc) fun y hy => h y (List.mem_cons_of_mem _ hy)
    rw [List.map_cons]
    unfold wComp
    simp only [e]
    refine h1 _ ?_
    by_cases hp : p x = true
    · rw [if_pos hp]
      refine h2 hp _ (ih ?_)
      rw [List.filter_cons_of_pos hp, List.map_cons] at q
      rw [List.append_assoc]
      exact q
    · rw [if_neg hp]
      refine ih ?_
      rw [List.filter_cons_of_neg hp] at q
      exact q
/-- flat data -/
theorem fls_strs : ∀ (zs : List Str), Dt.fls (zs.map Dt.str) = some (zs.map V.str)
  | [] => rfl
  | z :: zs => by
    rw [List.map_cons, List.map_cons]
    unfold Dt.fls
    rw [fls_strs zs]
    rfl
theorem strs_map : ∀ (zs : List Str), Dt.strs (zs.map Dt.str) = some zs
  | [] => rfl
  | z :: zs => by
    rw [List.map_cons]
    unfold Dt.strs
    rw [strs_map zs]
    rfl
theorem inV_strs (z : Str) : ∀ zs : List Str, inV (.str z) (zs.map V.str) = decide (z ∈ zs)
  | [] => rfl
  | y :: zs => by
    have e : inV (.str z) ((y :: zs).map V.str) = (eqV (.str y) (.str z) || inV (.str z) (zs.map V.str)) := rfl
    rw [e, inV_strs z zs]
    show ((y == z) || decide (z ∈ zs)) = _
    rw [Bool.eq_iff_iff, Bool.or_eq_true, beq_iff_eq, decide_eq_true_eq, decide_eq_true_eq, List.mem_cons]
    exact or_congr_left eq_comm
/-! ### step by step -/
section
variable {t u v : WE} {wa wb : WT} {ta : WA} {ρ : Env} {P : Dt → Prop} {Q : Bool → Prop} {R' : List Dt → Prop}
theorem wVar_of {i : Nat} {d : Dt} (e : ρ[i]? = some (some d)) (h : P d) : wVar i ρ P := by
  unfold wVar
  rw [e]
  exact h
theorem wC_of {d : Dt} (h : P d) : wC d ρ P := h
theorem w2_of {f : Dt → Dt → (Dt → Prop) → Prop} (h : t ρ fun a => u ρ fun b => f a b P) : w2 f t u ρ P := h
theorem w1_of {f : Dt → (Dt → Prop) → Prop} (h : t ρ fun a => f a P) : w1 f t ρ P := h
theorem wB_of (h : t ρ fun d => match d with | .bl b => Q b | _ => False) : wB t ρ Q := h
theorem wAnd_of (h : wa ρ fun b => if b = true then wb ρ Q else Q false) : wAnd wa wb ρ Q := h
theorem wOr_of (h : wa ρ fun b => if b = true then Q true else wb ρ Q) : wOr wa wb ρ Q := h
theorem wNot_of (h : wa ρ fun b => Q (!b)) : wNot wa ρ Q := h
theorem wCons_of (h : t ρ fun d => ta ρ fun ds => R' (d :: ds)) : wCons t ta ρ R' := h
theorem wNil_of (h : R' []) : wNil ρ R' := h
theorem kIxT_of {ds : List Dt} {i : Int} {d : Dt} (e : atI ds i = some d) (h : P d) : kIxT (.tup ds) (.int i) P := by
  unfold kIxT
  simp only [e]
  exact h
theorem kIxL_of {ds : List Dt} {i : Int} {d : Dt} (e : atI ds i = some d) (h : P d) : kIxL (.lst ds) (.int i) P := by
  unfold kIxL
  simp only [e]
  exact h
end
/-- a for over data, by an invariant; k: what stands behind the turn -/
theorem wFor_map {α : Type} {bind : Dt → Env → Option Env} {body : WS} {f : α → Dt} {ρ : Env} {P : Out → Prop} (I : Nat → Env → Prop) (xs : List α) (h0 : I 0 ρ)
    (hs : ∀ i x ρ (k : Env → Prop), xs[i]? = some x → I i ρ → (∀ ρ2, I (i + 1) ρ2 → k ρ2) → ∃ ρ1, bind (f x) ρ = some ρ1 ∧ body ρ1 fun o => match o with
      | .nx ρ2 => k ρ2
      | .ct ρ2 => k ρ2
      | .bk ρ2 => P (.nx ρ2)
      | .rt x => P (.rt x)
      | .rf x => P (.rf x)
      | .xc x ρ2 => P (.xc x ρ2)) (hd : ∀ ρ, I xs.length ρ → P (.nx ρ)) : wFor bind body (xs.map f) ρ P := by
  have key : ∀ (n i : Nat) (ρ : Env), xs.length - i = n → i ≤ xs.length → I i ρ → wFor bind body ((xs.drop i).map f) ρ P := by
    intro n
    induction n with
    | zero =>
      intro i ρ hn hi h
      have e : i = xs.length := by omega
      subst e
      rw [List.drop_length]
      exact hd ρ h
    | succ n ih =>
      intro i ρ hn hi h
      have hlt : i < xs.length := by omega
      have ei : xs[i]? = some xs[i] := List.getElem?_eq_getElem hlt
      rw [drop_of ei, List.map_cons]
      obtain ⟨ρ1, e, hb⟩ := hs i _ ρ (fun ρ2 => wFor bind body ((xs.drop (i + 1)).map f) ρ2 P) ei h fun ρ2 h2 => ih (i + 1) ρ2 (by omega) hlt h2
      unfold wFor
      simp only [e]
      exact hb
  exact key _ 0 ρ rfl (Nat.zero_le _) h0
/-- .. over range(n) -/
theorem rngD_map {n : Nat} : rngD 0 n = (List.range n).map fun i : Nat => Dt.int (i : Nat) := by
  unfold rngD
  refine List.map_congr_left fun i _ => ?_
  rw [Int.zero_add]
theorem wFor_range {bind : Dt → Env → Option Env} {body : WS} {ρ : Env} {P : Out → Prop} (n : Nat) (I : Nat → Env → Prop) (h0 : I 0 ρ)
    (hs : ∀ i ρ (k : Env → Prop), i < n → I i ρ → (∀ ρ2, I (i + 1) ρ2 → k ρ2) → ∃ ρ1, bind (.int (i : Nat)) ρ = some ρ1 ∧ body ρ1 fun o => match o with
      | .nx ρ2 => k ρ2
      | .ct ρ2 => k ρ2
      | .bk ρ2 => P (.nx ρ2)
      | .rt x => P (.rt x)
      | .rf x => P (.rf x)
      | .xc x ρ2 => P (.xc x ρ2)) (hd : ∀ ρ, I n ρ → P (.nx ρ)) : wFor bind body (rngD 0 n) ρ P := by
  rw [rngD_map]
  refine wFor_map I _ h0 (fun i x ρ k e h hk => ?_) (fun ρ h => hd ρ (by rwa [List.length_range] at h))
  have hi : i < n := by
    have := (List.getElem?_eq_some_iff.mp e).1
    rwa [List.length_range] at this
  rw [List.getElem?_range hi] at e
  cases e
  exact hs i ρ k hi h hk
section
variable {t u : WE} {w w' : WS} {wc : WT} {ta : WA} {ρ : Env} {P : Out → Prop} {R' : List Dt → Prop}
theorem wSeq_of (h : w ρ fun o => match o with | .nx ρ1 => w' ρ1 P | o => P o) : wSeq w w' ρ P := h
theorem wSet_of {i : Nat} (h : t ρ fun d => P (.nx (ρ.set i (some d)))) : wSet i t ρ P := h
theorem wRet_of (h : t ρ fun d => P (.rt d)) : wRet t ρ P := h
theorem wRetF_of (h : ta ρ fun d => P (.rf d)) : wRetF ta ρ P := h
theorem wIfS_of (h : wc ρ fun b => if b = true then w ρ P else w' ρ P) : wIfS wc w w' ρ P := h
theorem wForS_of {bind : Dt → Env → Option Env} (h : ta ρ fun items => wFor bind w items ρ P) : wForS ta bind w ρ P := h
theorem wItemsL_of (h : t ρ fun d => match d with | .lst ds => R' ds | _ => False) : wItemsL t ρ R' := h
theorem wItemsT_of (h : t ρ fun d => match d with | .tup ds => R' ds | _ => False) : wItemsT t ρ R' := h
theorem wLc_of {bind : Dt → Env → Option Env} {wt : WT} {vs : List Nat} (h : ta ρ fun items => items.length ≤ 1000000 ∧ wComp bind wt t (wipeE ρ vs) items [] R') : wLc ta bind wt t vs ρ R' := h
end
section
variable {t u : WE} {ta : WA} {ρ : Env} {P : Out → Prop} {R' : List Dt → Prop} {Q : Dt → Prop}
theorem wSetF_of {i : Nat} (hi : decide (i < ρ.length) = true) (h : ta ρ fun ds => P (.nx (ρ.set i (some (.lst ds))))) : wSetF i ta ρ P := ⟨of_decide_eq_true hi, h⟩
theorem wApp_of {i : Nat} {ds : List Dt} (e : ρ[i]? = some (some (.lst ds))) (h : t ρ fun d => ds.length < sizeLine ∧ P (.nx (ρ.set i (some (.lst (ds ++ [d])))))) : wApp i t ρ P := by
  unfold wApp
  rw [e]
  exact h
theorem wRetO_of {i : Nat} {ds : List Dt} (e : ρ[i]? = some (some (.lst ds))) (h : P (.rf ds)) : wRetO i ρ P := by
  unfold wRetO
  rw [e]
  exact h
end
section
variable {t u v : WE} {wa wb : WT} {ta : WA} {ρ : Env} {P : Dt → Prop} {Q : Bool → Prop} {R' : List Dt → Prop}
theorem wAndV_of (h : t ρ fun d => match d with | .bl b => if b = true then u ρ P else P (.bl false) | _ => False) : wAndV t u ρ P := h
theorem wOrV_of (h : t ρ fun d => match d with | .bl b => if b = true then P (.bl true) else u ρ P | _ => False) : wOrV t u ρ P := h
theorem wNotV_of (h : t ρ fun d => match d with | .bl b => P (.bl (!b)) | _ => False) : wNotV t ρ P := h
theorem wIf_of (h : wa ρ fun b => if b = true then t ρ P else u ρ P) : wIf wa t u ρ P := h
theorem wGet2_of (h : t ρ fun a => match a with | .dct ks ds => u ρ fun b => v ρ fun c => kGet2 ks ds b c P | _ => False) : wGet2 t u v ρ P := h
theorem wChain_of {f g : Dt → Dt → (Dt → Prop) → Prop} (h : t ρ fun a => u ρ fun b => f a b fun z => match z with | .bl k => if k = true then v ρ fun c => g b c P else P (.bl false) | _ => False) : wChain f g t u v ρ P := h
theorem kIsi_of {T n : String} {d : Dt} {b : Bool} (e1 : d.tyN = some n) (e2 : kitB n T = some b) (h : P (.bl b)) : kIsi T d P := by
  unfold kIsi
  simp only [e1, e2]
  exact h
theorem kFld_of {CC : Addr} {f : Str} {ks : List Str} {ds : List Dt} {d : Dt} (e : (ks.zip ds).lookup f = some d) (h : P d) : kFld CC f (.obj CC ks ds) P := by
  refine ⟨rfl, ?_⟩
  rw [e]
  exact h
theorem kLenL_of {ds : List Dt} (h : P (.int ds.length)) : kLen (.lst ds) P := h
theorem kLenT_of {ds : List Dt} (h : P (.int ds.length)) : kLen (.tup ds) P := h
theorem wExpr_of {Po : Out → Prop} (h : t ρ fun _ => Po (.nx ρ)) : wDrop t ρ Po := h
end
theorem wNext_of {ρ : Env} {P : Out → Prop} (h : P (.nx ρ)) : wNext ρ P := h
theorem kTupOfL_of {ds : List Dt} {P : Dt → Prop} (h : P (.tup ds)) : kTupOf (.lst ds) P := h
theorem wLc2_of {bind bind1 : Dt → Env → Option Env} {wt wt1 : WT} {ta ti1 : WA} {t : WE} {vs vs1 : List Nat} {ρ : Env} {R' : List Dt → Prop} (h : ta ρ fun items => items.length ≤ 1000 ∧ wComp2 bind wt ti1 bind1 wt1 t vs1 (wipeE ρ vs) items [] R') : wLc2 ta bind wt ti1 bind1 wt1 t vs vs1 ρ R' := h
end UL
namespace UL
open PySem PySem.Spec PyProof.Rows L2
section
variable {K : PySem.W.Frag} {T : List NdefX.NTab} {SL S S' S1 : Sl} {m m' m1 m2 m3 s : Bool} {te ta tb : TE} {t u : WE} {C C1 C' : Ct} {σ : L2.St} {H H' H1 : Hp} {ρ : Env} {ts ts1 : TS} {XO : XOut} {w w' : WS}
/-! ### pools that a def makes -/
def Ct.takeP (C : Ct) (i : Nat) (p : Addr) : Ct := { C with O := C.O.filter (· ≠ i), Pl := i :: C.Pl.filter (· ≠ i), A := fun j => if j = i then p else C.A j }
def Sl.takeP (S : Sl) (i : Nat) : Sl := (S.1.filter (· ≠ i), i :: S.2.filter (· ≠ i))
theorem takeP_A {i j : Nat} {p : Addr} (h : j ≠ i) : (C.takeP i p).A j = C.A j := if_neg h
theorem takeP_self {i : Nat} {p : Addr} : (C.takeP i p).A i = p := if_pos rfl
theorem takeP_mem {i j : Nat} {p : Addr} (h : j ∈ (C.takeP i p).O ∨ j ∈ (C.takeP i p).Pl) : (j = i ∧ (C.takeP i p).A j = p) ∨ ((j ∈ C.O ∨ j ∈ C.Pl) ∧ j ≠ i ∧ (C.takeP i p).A j = C.A j) := by
  by_cases e : j = i
  · exact .inl ⟨e, by rw [e]; exact takeP_self⟩
  · refine .inr ⟨?_, e, takeP_A e⟩
    rcases h with h | h
    · exact .inl (mem_drop.mp h).1
    · rcases List.mem_cons.mp h with h | h
      · exact absurd h e
      · exact .inr (mem_drop.mp h).1
theorem Ct.ok_takeP {i : Nat} {p a : Addr} (h : C.ok a) (n : a ≠ p) : (C.takeP i p).ok a := by
  refine ⟨h.1, fun j hj => ?_⟩
  rcases takeP_mem hj with ⟨_, e⟩ | ⟨q, _, e⟩
  · rw [e]
    exact n
  · rw [e]
    exact h.2 j q
theorem EnvR.setP (E : EnvR K C σ H ρ) {i : Nat} {p : Addr} {x y z : Int} (hi : i < ρ.length) (hp : H p = none) :
    EnvR K (C.takeP i p) (σ.set i (some (.ref p))) (upd H p (.lst [.int x, .int y, .int z])) (ρ.set i none) ∧ Mv C.ok H (C.takeP i p).ok (upd H p (.lst [.int x, .int y, .int z])) := by
  have k := same_up (o := .lst [.int x, .int y, .int z]) hp
  have m : Mv C.ok H (C.takeP i p).ok (upd H p (.lst [.int x, .int y, .int z])) := ⟨.same k, fun a hn h => C.ok_takeP h fun z => hn (by rw [z]; exact .of hp)⟩
  have E' := E.same k
  have ne : ∀ j, j ∈ C.O ∨ j ∈ C.Pl → C.A j ≠ p := fun j hj z => by
    obtain ⟨us, e1, _⟩ := E.place hj
    rw [z, hp] at e1
    cases e1
  have np : ¬ C.LP p := fun h => by
    obtain ⟨⟨x, y, w, e1⟩, _⟩ := E.lent _ h
    rw [hp] at e1
    cases e1
  refine ⟨⟨by rw [List.length_set, List.length_set, E.len], E'.keep, E'.dom, E'.lent, E'.tab, fun j d hj hpl h => ?_, fun j hj => ?_, fun j hj => ?_, fun j hj => ?_, fun j j' hj hj' h => ?_⟩, m⟩
  · rcases set_get h with ⟨_, e, _⟩ | ⟨n, h⟩
    · cases e
    · obtain ⟨v, e1, r⟩ := E.sh j d (fun z => hj (mem_drop.mpr ⟨z, n⟩)) (fun z => hpl (List.mem_cons_of_mem _ (mem_drop.mpr ⟨z, n⟩))) h
      exact ⟨v, by rw [List.getElem?_set_ne (Ne.symm n)]; exact e1, r.mv m⟩
  · obtain ⟨h1, h2⟩ := mem_drop.mp hj
    obtain ⟨ds, us, e1, e2, e3, r, q, l⟩ := E.own j h1
    have eA : (C.takeP i p).A j = C.A j := takeP_A h2
    exact ⟨ds, us, by rw [List.getElem?_set_ne (Ne.symm h2)]; exact e1, by rw [List.getElem?_set_ne (Ne.symm h2), eA]; exact e2, by rw [eA]; exact k _ _ e3, by rw [eA]; exact r.mv m, by rw [eA]; exact q, by rw [eA]; exact l⟩
  · by_cases n : j = i
    · subst n
      rw [takeP_self]
      exact ⟨by rw [List.length_set]; exact hi, by rw [List.getElem?_set_self (by rw [E.len]; exact hi)], ⟨x, y, z, upd_same⟩, .inl (E.dom p (.of hp))⟩
    · have hj : j ∈ C.Pl := by
        rcases List.mem_cons.mp hj with h | h
        · exact absurd h n
        · exact (mem_drop.mp h).1
      obtain ⟨l, e1, e2, q⟩ := E.pls j hj
      have eA : (C.takeP i p).A j = C.A j := takeP_A n
      exact ⟨by rw [List.length_set]; exact l, by rw [List.getElem?_set_ne (Ne.symm n), eA]; exact e1, by rw [eA]; exact e2.same k, by rw [eA]; exact q⟩
  · obtain ⟨h1, h2⟩ := mem_drop.mp hj
    intro h
    rcases List.mem_cons.mp h with h | h
    · exact h2 h
    · exact E.dj j h1 (mem_drop.mp h).1
  · rcases takeP_mem hj with ⟨a1, a2⟩ | ⟨a1, a2, a3⟩
    · rcases takeP_mem hj' with ⟨b1, b2⟩ | ⟨b1, b2, b3⟩
      · rw [a1, b1]
      · rw [a2, b3] at h
        exact absurd h.symm (ne j' b1)
    · rcases takeP_mem hj' with ⟨b1, b2⟩ | ⟨b1, b2, b3⟩
      · rw [a3, b2] at h
        exact absurd h (ne j a1)
      · rw [a3, b3] at h
        exact E.inj j j' a1 b1 h
/-- a promise that makes a pool of an int -/
def PoolSp (sp : Sp) : Prop := ∀ (z : Int) (H : Hp) (Q : VK) (E : XK), (∀ p x y w, H p = none → Q (.ref p) (upd H p (.lst [.int x, .int y, .int w]))) → sp [.int z] H Q E
/-- x = _law_pool(e) -/
def wNewP (i : Nat) (t : WE) : WS := fun ρ P => i < ρ.length ∧ t ρ fun d => match d with
  | .int _ => P (.nx (ρ.set i none))
  | _ => False
theorem ss_newP (i : Nat) {sp : Sp} {E0 : XK} (hs : PoolSp sp) (h : SE K T S true te t) : SS K T XO SL S (S.takeP i) (tAsg (tCall sp [] E0 (tCons te tNil)) (gName i)) (wNewP i t) := fun C ρ P σ H D hC ht E own q => by
  refine h C ρ _ σ H _ hC ht.2 E fun d v H1 h1 g1 r1 => ?_
  cases d <;> first | exact h1.elim | skip
  rw [R.intE r1]
  refine hs _ H1 _ _ fun p x y z hp => ?_
  have E1 := E.gr g1
  obtain ⟨E2, k2⟩ := E1.setP (x := x) (y := y) (z := z) ht.1 hp
  refine q _ h1 (C.takeP i p) _ _ ⟨by show C.O.filter _ = _; rw [hC.1]; rfl, by show i :: C.Pl.filter _ = _; rw [hC.2]; rfl, hC.3⟩ ⟨rfl, rfl, rfl, rfl, rfl⟩ E2 (fun j hj => ?_) ((g1.mv E).trans k2)
  obtain ⟨a1, a2⟩ := mem_drop.mp hj
  have eA : (C.takeP i p).A j = C.A j := takeP_A a2
  rw [eA]
  exact own j a1
/-- a pool is forgotten -/
def Ct.dropP (C : Ct) (i : Nat) : Ct := { C with Pl := C.Pl.filter (· ≠ i) }
def Sl.dropP (S : Sl) (i : Nat) : Sl := (S.1, S.2.filter (· ≠ i))
theorem Ct.ok_dropP {i : Nat} {a : Addr} (h : C.ok a) : (C.dropP i).ok a := ⟨h.1, fun j hj => h.2 j (hj.imp id fun z => (mem_drop.mp z).1)⟩
theorem EnvR.dropP (E : EnvR K C σ H ρ) (i : Nat) (hi : i ∉ C.O) : EnvR K (C.dropP i) σ H (ρ.set i none) where
  len := by rw [List.length_set]; exact E.len
  keep := E.keep
  dom := E.dom
  lent := E.lent
  tab := E.tab
  sh := fun j d hj hp h => by
    rcases set_get h with ⟨_, e, _⟩ | ⟨n, h⟩
    · cases e
    · obtain ⟨v, e1, r⟩ := E.sh j d hj (fun z => hp (mem_drop.mpr ⟨z, n⟩)) h
      exact ⟨v, e1, r.mv ⟨.refl, fun _ _ q => Ct.ok_dropP q⟩⟩
  own := fun j hj => by
    obtain ⟨ds, us, e1, e2, e3, r, q⟩ := E.own j hj
    have n : j ≠ i := fun z => hi (by rw [← z]; exact hj)
    exact ⟨ds, us, by rw [List.getElem?_set_ne (Ne.symm n)]; exact e1, e2, e3, r.mv ⟨.refl, fun _ _ q => Ct.ok_dropP q⟩, q⟩
  pls := fun j hj => by
    obtain ⟨l, q⟩ := E.pls j (mem_drop.mp hj).1
    exact ⟨by rw [List.length_set]; exact l, q⟩
  dj := fun j hj h => E.dj j hj (mem_drop.mp h).1
  inj := fun j k hj hk => E.inj j k (hj.imp id fun z => (mem_drop.mp z).1) (hk.imp id fun z => (mem_drop.mp z).1)
/-- .. at the end of a turn -/
def wEndP (i : Nat) (w : WS) : WS := fun ρ P => w ρ fun o => match o with
  | .nx ρ1 => P (.nx (ρ1.set i none))
  | .rt d => P (.rt d)
  | .rf d => P (.rf d)
  | _ => False
theorem wNewP_of {i : Nat} {P : Out → Prop} (hi : decide (i < ρ.length) = true) (h : t ρ fun d => match d with | .int _ => P (.nx (ρ.set i none)) | _ => False) : wNewP i t ρ P := ⟨of_decide_eq_true hi, h⟩
theorem wEndP_of {i : Nat} {P : Out → Prop} (h : w ρ fun o => match o with | .nx ρ1 => P (.nx (ρ1.set i none)) | .rt d => P (.rt d) | .rf d => P (.rf d) | _ => False) : wEndP i w ρ P := h
theorem kI_of {g : Int → Int → Dt} {i j : Int} {P : Dt → Prop} (h : P (g i j)) : kI g (.int i) (.int j) P := h
theorem kRng1_to {j : Int} {P : List Dt → Prop} (h1 : j < 2 ^ 62) (h2 : -(2 ^ 62) ≤ j) (h : P (rngD 0 j.toNat)) : kRng1 [.int j] P := ⟨h1, h2, h⟩
end
end UL
namespace UL
open PySem PySem.Spec PyProof.Rows L2
section
variable {K : PySem.W.Frag} {T : List NdefX.NTab} {SL S S' S1 : Sl} {m m' m1 m2 m3 s : Bool} {te ta tb : TE} {t u : WE} {C C1 C' : Ct} {σ : L2.St} {H H' H1 : Hp} {ρ : Env} {ts ts1 : TS} {XO : XOut} {w w' : WS}
/-! ### a call that is lent own lists, and gives a flat value -/
def SAB (K : PySem.W.Frag) (T : List NdefX.NTab) (S : Sl) (m : Bool) (ta : TA) (t : WA) : Prop := ∀ (C : Ct) (ρ : Env) (P : List Dt → Prop) (σ : L2.St) (H : Hp) (Q : List V → Hp → Prop), C.In T S → t ρ P → EnvR K C σ H ρ →
  (∀ ds vs H', P ds → Gr m C H H' → Rs K (fun _ => True) H' ds vs → Q vs H') → ta σ H Q
theorem RB.any {d : Dt} {v : V} (h : RB K C H d v) : R K (fun _ => True) H d v := by
  cases d with
  | lst ds =>
    obtain ⟨a, us, rfl, e, _, t⟩ := h
    exact .lst e True.intro (t.okm fun _ _ _ => True.intro)
  | nd ks ds =>
    obtain ⟨a, L, rfl, e, x, r1, nk, r2⟩ := h
    exact .nd e True.intro x (r1.okm fun _ _ _ => True.intro) nk (r2.okm fun _ _ _ => True.intro)
  | dk ks ds =>
    obtain ⟨a, kvs, rfl, rfl, e, r⟩ := h
    exact .dk e True.intro (r.okm fun _ _ _ => True.intro)
  | _ => exact R.okm (fun _ _ _ => True.intro) h
/-! ### xs.reverse(), xs an own list -/
def wRev (i : Nat) : WS := fun ρ P => match ρ[i]? with
  | some (some (.lst ds)) => P (.nx (ρ.set i (some (.lst ds.reverse))))
  | _ => False
theorem wRev_of {i : Nat} {ds : List Dt} {P : Out → Prop} (e : ρ[i]? = some (some (.lst ds))) (h : P (.nx (ρ.set i (some (.lst ds.reverse))))) : wRev i ρ P := by
  unfold wRev
  rw [e]
  exact h
theorem pys_map {α : Type} {f : α → Dt} {g : α → PyData} (h : ∀ x, (f x).py = some (g x)) : ∀ xs : List α, Dt.pys (xs.map f) = some (xs.map g)
  | [] => rfl
  | x :: xs => by
    rw [List.map_cons, List.map_cons]
    unfold Dt.pys
    rw [h x, pys_map h xs]
end
end UL
/-! zip of two, of three: each a list or a tuple. -/
namespace VZ
open PySem PySem.Spec PyProof.Rows L2
def SqK (K : PySem.W.Frag) (k : Bool) (H : Hp) (a : Addr) (xs : List V) : Prop := match k with
  | true => SqT K H a xs
  | false => SqL K H a xs
def IsK (k : Bool) (h : Heap) (a : Addr) (items : Array Value) : Prop := match k with
  | true => h.IsTuple a items
  | false => h.IsList a items
def ItK (k : Bool) (h : Heap) (it a : Addr) (i : Nat) : Prop := match k with
  | true => h.IsTupleIter it a i
  | false => h.IsListIter it a i
def oK (k : Bool) (a : Addr) : Obj := match k with
  | true => { cls := .type "tuple_iterator", data := .fields #[.ref a, .int 0 0] }
  | false => { cls := .type "list_iterator", data := .fields #[.ref a, .int 0 0] }
section
variable {k : Bool} {h h' : Heap} {it a : Addr} {i : Nat} {items : Array Value}
theorem ItK.at (q : ItK k h it a i) (e : ∀ o, h.get? it = some o → h'.get? it = some o) : ItK k h' it a i := by
  cases k
  · exact Heap.IsListIter.at q e
  · exact Heap.IsTupleIter.at q e
theorem ItK.obj (q : ItK k h it a i) : ∃ o, h.get? it = some o ∧ ∀ v, o.data ≠ .cell v := by
  cases k
  · obtain ⟨o, e, _, d⟩ := q
    exact ⟨o, e, fun v z => by rw [d] at z; cases z⟩
  · obtain ⟨o, e, _, d⟩ := q
    exact ⟨o, e, fun v z => by rw [d] at z; cases z⟩
theorem IsK.ne (q : IsK k h a items) (r : ItK k h it a i) : a ≠ it := by
  intro z
  cases k
  · obtain ⟨o, e, c, _⟩ := r
    obtain ⟨o2, e2, c2, _⟩ := q
    rw [z, e] at e2
    cases e2
    rw [c] at c2
    exact absurd (Value.type.inj c2) (by decide)
  · obtain ⟨o, e, c, _⟩ := r
    obtain ⟨o2, e2, c2, _⟩ := q
    rw [z, e] at e2
    cases e2
    rw [c] at c2
    exact absurd (Value.type.inj c2) (by decide)
end
section
variable {X : Cx} {pins : List (Addr × Obj)} {σ : L2.St} {H : Hp} {s : Shared} {k : Bool} {a : Addr} {xs ys : List V}
end
/-- the sequences at a and b, the items in new pairs -/
def Itz2 (K : PySem.W.Frag) (ka kb : Bool) (a b : Addr) : It :=
  ⟨fun i H => ∃ (xs ys : List V) (x y : V), SqK K ka H a xs ∧ SqK K kb H b ys ∧ xs[i]? = some x ∧ ys[i]? = some y,
    fun i H v H' => ∃ T x y, v = .ref T ∧ H T = none ∧ H' = upd H T (.tup [x, y]) ∧ (∀ xs, SqK K ka H a xs → xs[i]? = some x) ∧ ∀ ys, SqK K kb H b ys → ys[i]? = some y,
    fun i H => ∃ xs ys : List V, SqK K ka H a xs ∧ SqK K kb H b ys ∧ i = min xs.length ys.length⟩
def Itz3 (K : PySem.W.Frag) (ka kb kc : Bool) (a b c : Addr) : It :=
  ⟨fun i H => ∃ (xs ys zs : List V) (x y z : V), SqK K ka H a xs ∧ SqK K kb H b ys ∧ SqK K kc H c zs ∧ xs[i]? = some x ∧ ys[i]? = some y ∧ zs[i]? = some z,
    fun i H v H' => ∃ T x y z, v = .ref T ∧ H T = none ∧ H' = upd H T (.tup [x, y, z]) ∧ (∀ xs, SqK K ka H a xs → xs[i]? = some x) ∧ (∀ ys, SqK K kb H b ys → ys[i]? = some y) ∧ ∀ zs, SqK K kc H c zs → zs[i]? = some z,
    fun i H => ∃ xs ys zs : List V, SqK K ka H a xs ∧ SqK K kb H b ys ∧ SqK K kc H c zs ∧ i = min (min xs.length ys.length) zs.length⟩
def iZip2 (K : PySem.W.Frag) (ta : TA) : TI := fun σ H R => ta σ H fun vs H1 => ∃ ka kb a b xs ys, vs = [.ref a, .ref b] ∧ SqK K ka H1 a xs ∧ SqK K kb H1 b ys ∧ R (Itz2 K ka kb a b) H1
def iZip3 (K : PySem.W.Frag) (ta : TA) : TI := fun σ H R => ta σ H fun vs H1 => ∃ ka kb kc a b c xs ys zs, vs = [.ref a, .ref b, .ref c] ∧ SqK K ka H1 a xs ∧ SqK K kb H1 b ys ∧ SqK K kc H1 c zs ∧ R (Itz3 K ka kb kc a b c) H1
end VZ
namespace VI
open PySem PySem.Spec PyProof.Rows L2
section
variable {P : Program} {w : World} {A : Around} {E : Value → Shared → Prop} {s : Shared}
end
section
variable {X : Cx}
/-- set(a list of ints) -/
def rSetI (w : World) (K : PySem.W.Frag) : List V → Hp → VK → Prop := fun xs H Q => ∃ (l : Addr) (zs : List Int), xs = [.ref l] ∧ SqL K H l (zs.map V.int) ∧ zs.length + 1 < scanBound ∧
  ∀ (D : Addr) (n : Nat), H D = none → n ≤ zs.length → Q (.ref D) (upd H D (SetO w D (fun j => decide (j ∈ zs)) n))
end
end VI
namespace UL
open PySem PySem.Spec PyProof.Rows L2
section
variable {K : PySem.W.Frag} {T : List NdefX.NTab} {SL S S' S1 : Sl} {m m' m1 m2 m3 s : Bool} {te ta tb : TE} {t u : WE} {C C1 C' : Ct} {σ : L2.St} {H H' H1 : Hp} {ρ : Env} {ts ts1 : TS} {w w' : WS}
/-! ### C(..): a new instance -/
/-- an __init__'s promise, told by data -/
def MkS (K : PySem.W.Frag) (T : List NdefX.NTab) (CC : Addr) (sp : Sp) (dvs : List V) (w : List Dt → (Dt → Prop) → Prop) : Prop :=
  ∀ (vs : List V) (ok : Addr → Prop) (ds : List Dt) (P : Dt → Prop) (H : Hp) (Q : VK) (E : XK) (x dx : Addr), NdefX.TabsN T H → Rs K ok H ds vs → w ds P → H x = none → H dx = none → dx ≠ x →
    (∀ d v H', P d → Ex T H H' → R K (fun a => ok a ∨ Fre H a) H' d v → Q v H') →
    sp (.ref x :: (vs ++ dvs)) (upd (upd H dx (.own x)) x (.ins CC dx [])) (fun v H2 => v = .non ∧ Q (.ref x) H2) E
/-! ### zip of two, of three; enumerate of a tuple -/
def Dt.seq : Dt → Option (List Dt)
  | .lst ds => some ds
  | .tup ds => some ds
  | _ => none
def WK (K : PySem.W.Frag) (k : Bool) (H : Hp) (a : Addr) (us : List V) : Prop := match k with
  | true => SqT K H a us
  | false => H a = some (.lst us)
def asK (k : Bool) (a : Addr) : List Addr := match k with
  | true => []
  | false => [a]
theorem WK.sq {k : Bool} {a : Addr} {us : List V} (h : WK K k H a us) : VZ.SqK K k H a us := by
  cases k
  · exact .of h
  · exact h
theorem WK.mv {ok ok' : Addr → Prop} {k : Bool} {a : Addr} {us : List V} (hk : ∀ b ∈ asK k a, ∀ us, H b = some (.lst us) → H' b = some (.lst us)) (mv : Mv ok H ok' H') (h : WK K k H a us) : WK K k H' a us := by
  cases k
  · exact hk a (List.mem_singleton.mpr rfl) _ h
  · exact sqT_mv mv h
theorem WK.at {k : Bool} {a b : Addr} {us : List V} (h : WK K k H a us) (hb : b ∈ asK k a) : b = a ∧ k = false ∧ H a = some (.lst us) := by
  cases k
  · exact ⟨List.mem_singleton.mp hb, rfl, h⟩
  · cases hb
def kZip2 : List Dt → (List Dt → Prop) → Prop
  | [a, b], P => match a.seq, b.seq with
    | some ds, some es => P (zipD ds es)
    | _, _ => False
  | _, _ => False
def zip3D (ds es fs : List Dt) : List Dt := List.zipWith (fun x p => .tup [x, p.1, p.2]) ds (es.zip fs)
def YTri (xs ys zs : List V) (i : Nat) (H : Hp) (v : V) (H' : Hp) : Prop := ∃ T x y z, v = V.ref T ∧ H T = none ∧ H' = upd H T (.tup [x, y, z]) ∧ xs[i]? = some x ∧ ys[i]? = some y ∧ zs[i]? = some z
def kZip3 : List Dt → (List Dt → Prop) → Prop
  | [a, b, c], P => match a.seq, b.seq, c.seq with
    | some ds, some es, some fs => P (zip3D ds es fs)
    | _, _, _ => False
  | _, _ => False
theorem kZip2_of {a b : Dt} {ds es : List Dt} {P : List Dt → Prop} (h1 : a.seq = some ds) (h2 : b.seq = some es) (h : P (zipD ds es)) : kZip2 [a, b] P := by
  unfold kZip2
  simp only [h1, h2]
  exact h
theorem kZip3_of {a b c : Dt} {ds es fs : List Dt} {P : List Dt → Prop} (h1 : a.seq = some ds) (h2 : b.seq = some es) (h3 : c.seq = some fs) (h : P (zip3D ds es fs)) : kZip3 [a, b, c] P := by
  unfold kZip3
  simp only [h1, h2, h3]
  exact h
/-- enumerate(a tuple) -/
abbrev iEnumT (K : PySem.W.Frag) (ta : TA) : TI := fun σ H R => ta σ H fun vs H1 => ∃ a xs, vs = [.ref a] ∧ SqT K H1 a xs ∧ R (VE.Itet K a) H1
def kEnumT : List Dt → (List Dt → Prop) → Prop
  | [.tup ds], P => P (enumD ds)
  | _, _ => False
/-! ### xs[a:b] -/
abbrev WO := Env → (Option Int → Prop) → Prop
def SO (K : PySem.W.Frag) (T : List NdefX.NTab) (S : Sl) (m : Bool) (to : TO) (t : WO) : Prop := ∀ (C : Ct) (ρ : Env) (P : Option Int → Prop) (σ : L2.St) (H : Hp) (Q : Option Int → Hp → Prop), C.In T S → t ρ P → EnvR K C σ H ρ →
  (∀ o H', P o → Gr m C H H' → Q o H') → to σ H Q
def wNoPart : WO := fun _ P => P none
def wPart (t : WE) : WO := fun ρ P => t ρ fun d => match d with
  | .int i => P (some i)
  | _ => False
theorem so_none : SO K T S true tNoPart wNoPart := fun C ρ P σ H Q hC ht E q => q none H ht .refl
theorem so_some (h : SE K T S m te t) : SO K T S m (tPart te) (wPart t) := fun C ρ P σ H Q hC ht E q => by
  refine h C ρ _ σ H _ hC ht E fun d v H1 h1 g1 r1 => ?_
  cases d <;> first | exact h1.elim | skip
  exact ⟨_, R.intE r1, q _ H1 h1 g1⟩
def cutD (ds : List Dt) (lo hi : Option Int) : List Dt := (ds.drop (HT.sIx ds.length 0 lo)).take (HT.sIx ds.length ds.length hi - HT.sIx ds.length 0 lo)
theorem Rs.drop {ok : Addr → Prop} : ∀ {ds : List Dt} {vs : List V} (n : Nat), Rs K ok H ds vs → Rs K ok H (ds.drop n) (vs.drop n)
  | _, _, 0, h => h
  | _, _, _ + 1, .nil => .nil
  | _, _, n + 1, .cons _ t => Rs.drop n t
theorem Rs.take {ok : Addr → Prop} : ∀ {ds : List Dt} {vs : List V} (n : Nat), Rs K ok H ds vs → Rs K ok H (ds.take n) (vs.take n)
  | _, _, 0, _ => by rw [List.take_zero, List.take_zero]; exact .nil
  | _, _, _ + 1, .nil => .nil
  | _, _, n + 1, .cons h t => .cons h (Rs.take n t)
theorem Rs.cut {ok : Addr → Prop} {ds : List Dt} {vs : List V} {lo hi : Option Int} (h : Rs K ok H ds vs) : Rs K ok H (cutD ds lo hi) (cutV vs lo hi) := by
  unfold cutD cutV
  rw [h.len]
  exact (h.drop _).take _
variable {tl th : TO} {wl wh : WO}
theorem sf_slice (ha : SB K T S m1 ta t) (hl : SO K T S m2 tl wl) (hh : SO K T S m3 th wh) : SF K T S (m1 && (m2 && m3)) (tSl (rSlL K) ta tl th) (fun ρ P => t ρ fun a => match a with
    | .lst ds => wl ρ fun lo => wh ρ fun hi => P (cutD ds lo hi)
    | _ => False) := fun C ρ P σ H Q hC ht E q => by
  refine ha C ρ _ σ H _ hC ht E fun a x H1 h1 g1 r1 => ?_
  cases a <;> first | exact h1.elim | skip
  rename_i ds
  have E1 := E.gr g1
  refine hl C ρ _ σ H1 _ hC h1 E1 fun lo H2 h2 g2 => ?_
  have E2 := E1.gr g2
  refine hh C ρ _ σ H2 _ hC h2 E2 fun hi H3 h3 g3 => ?_
  obtain ⟨a, us, rfl, e, n, t3⟩ := (r1.gr E1 g2).gr E2 g3
  refine ⟨a, us, rfl, .of e, fun p hp => ?_⟩
  have gg := g1.trans (g2.trans g3)
  exact q _ p _ _ h3 (gr_and gg (same_up hp)) (gg.dom p (.of hp)) upd_same ((ok_ne hp t3.cut).same (same_up hp))
theorem wNoPart_of {P : Option Int → Prop} (h : P none) : wNoPart ρ P := h
theorem wPart_of {P : Option Int → Prop} (h : t ρ fun d => match d with | .int i => P (some i) | _ => False) : wPart t ρ P := h
/-! ### sorted(set(ints)) -/
def kSortSetI : Dt → (List Dt → Prop) → Prop
  | .lst ds, P => ∃ zs, Dt.ints ds = some zs ∧ zs.length < 64 ∧ ∀ ys : List Int, ys.Pairwise (· < ·) → (∀ z, z ∈ ys ↔ z ∈ zs) → P (ys.map Dt.int)
  | _, _ => False
/-- a new instance's call, step by step -/
theorem kEnumT_of {ds : List Dt} {P : List Dt → Prop} (h : P (enumD ds)) : kEnumT [.tup ds] P := h
/-- a comprehension whose items are told by a relation -/
theorem wComp_rel {α : Type} {bind : Dt → Env → Option Env} {u : WT} {t : WE} {ρ : Env} {f : α → Dt} (F : α → Dt → Prop) : ∀ (xs : List α) {acc : List Dt} {P : List Dt → Prop},
    (∀ x ∈ xs, ∃ ρ1, bind (f x) ρ = some ρ1 ∧ (∀ Q : Bool → Prop, Q true → u ρ1 Q) ∧ ∀ Q : Dt → Prop, (∀ d, F x d → Q d) → t ρ1 Q) → (∀ ds, Paired F xs ds → P (acc ++ ds)) → wComp bind u t ρ (xs.map f) acc P
  | [], acc, P, _, q => by
    have := q [] .nil
    rwa [List.append_nil] at this
  | x :: xs, acc, P, h, q => by
    obtain ⟨ρ1, e, h1, h2⟩ := h x List.mem_cons_self
    rw [List.map_cons]
    unfold wComp
    simp only [e]
    refine h1 _ (iteT (h2 _ fun d hd => ?_))
    refine wComp_rel F xs (fun y hy => h y (List.mem_cons_of_mem _ hy)) fun ds hp => ?_
    rw [List.append_assoc]
    exact q (d :: ds) (.cons hd hp)
theorem kNeI_of {i j : Int} {P : Dt → Prop} (h : P (.bl (!decide (i = j)))) : kEq true (.int i) (.int j) P := h
theorem kEqI_of {i j : Int} {P : Dt → Prop} (h : P (.bl (decide (i = j)))) : kEq false (.int i) (.int j) P := h
theorem kNeS_of {i j : Str} {P : Dt → Prop} (h : P (.bl (!decide (i = j)))) : kEq true (.str i) (.str j) P := h
theorem kEqS_of {i j : Str} {P : Dt → Prop} (h : P (.bl (decide (i = j)))) : kEq false (.str i) (.str j) P := h
end
end UL
namespace KX
open PySem PySem.Spec PyProof.Rows L2 UL
/-- a def that is called by its name -/
structure Cal (K : PySem.W.Frag) (mg : Str → Option Value) (x : Str) (st : Stmt) (ps : List Str) (f : Addr) (fd : FuncData) : Prop where
  F : Fun K x x st f fd
  b : Binds K fd ps []
  g : mg x = some (.ref f)
abbrev dStp (s : Stp) : Dt := .tup [.int s.a, .str s.w, .int s.b]
abbrev dRow (r : Int × List Stp) : Dt := .tup [.int r.1, .lst (r.2.map dStp)]
def dNum : Option Int → Dt
  | none => .non
  | some i => .int i
abbrev dIs (ns : List Int) : Dt := .tup (ns.map .int)
abbrev Mov := Str × List (Option Int)
abbrev dMv (m : Mov) : Dt := .tup [.str m.1, .tup (m.2.map dNum)]
local macro_rules | `(tactic| walk_at "u") => `(tactic| repeat (first | ((with_reducible refine' wVar_of ?ke ?_); (case ke => rfl)) | with_reducible refine' wC_of ?_ | with_reducible refine' wB_of ?_ | with_reducible refine' wAnd_of ?_ | with_reducible refine' wOr_of ?_ | with_reducible refine' wNot_of ?_ | with_reducible refine' w2_of ?_ | with_reducible refine' w1_of ?_ | with_reducible refine' wCons_of ?_ | with_reducible refine' wNil_of ?_ | ((with_reducible refine' kIxT_of ?ke ?_); (case ke => rfl)) | with_reducible refine' wSeq_of ?_ | with_reducible refine' wSet_of ?_ | ((with_reducible refine' wSetF_of ?ke ?_); (case ke => rfl)) | ((with_reducible refine' wRetO_of ?ke ?_); (case ke => rfl)) | ((with_reducible refine' wApp_of ?ke ?_); (case ke => rfl)) | with_reducible refine' wRet_of ?_ | with_reducible refine' wRetF_of ?_ | with_reducible refine' wIfS_of ?_ | with_reducible refine' wForS_of ?_ | with_reducible refine' wItemsL_of ?_ | with_reducible refine' wItemsT_of ?_ | with_reducible refine' wLc_of ?_ | with_reducible refine' wAndV_of ?_ | with_reducible refine' wOrV_of ?_ | with_reducible refine' wNotV_of ?_ | with_reducible refine' wIf_of ?_ | with_reducible refine' wGet2_of ?_ | with_reducible refine' wChain_of ?_ | with_reducible refine' wExpr_of ?_ | with_reducible refine' kLenL_of ?_ | with_reducible refine' kLenT_of ?_ | ((with_reducible refine' kFld_of ?ke ?_); (case ke => rfl)) | with_reducible refine' wLc2_of ?_ | with_reducible refine' wNext_of ?_ | ((with_reducible refine' kZip2_of ?k1 ?k2 ?_); (case k1 => rfl); (case k2 => rfl)) | ((with_reducible refine' kZip3_of ?k1 ?k2 ?k3 ?_); (case k1 => rfl); (case k2 => rfl); (case k3 => rfl)) | with_reducible refine' kEnumT_of ?_ | with_reducible refine' wPart_of ?_ | with_reducible refine' wNoPart_of ?_ | with_reducible refine' kTupOfL_of ?_ | with_reducible refine' wEndP_of ?_ | ((with_reducible refine' wNewP_of ?ke ?_); (case ke => rfl)) | with_reducible refine' kI_of ?_ | ((with_reducible refine' wRev_of ?ke ?_); (case ke => rfl)) | with_reducible refine' kNeI_of ?_ | with_reducible refine' kEqI_of ?_ | with_reducible refine' kNeS_of ?_ | with_reducible refine' kEqS_of ?_))
section
variable {P : Program} {w : World} {K : PySem.W.Frag} {mg : Str → Option Value} {base : Heap} {TT : List NdefX.NTab}
/-! ### _law_numbers -/
/-- a hand's choices -/
def numsD (ss : List Stp) (x : Int) (z : Str) : List (Option Int) := if z ∈ ss.map (·.w) then (numsTo ss x z ss.length).map some else [none]
def wNumbers : List Dt → (Dt → Prop) → Prop := fun ds P => ∃ r x z, ds = [dRow r, .int x, .str z] ∧ r.2.length ≤ 1000 ∧ P (.lst ((numsD r.2 x z).map dNum))
end
end KX
namespace KX
open PySem PySem.Spec PyProof.Rows L2 UL
local macro_rules | `(tactic| walk_at "u") => `(tactic| repeat (first | ((with_reducible refine' wVar_of ?ke ?_); (case ke => rfl)) | with_reducible refine' wC_of ?_ | with_reducible refine' wB_of ?_ | with_reducible refine' wAnd_of ?_ | with_reducible refine' wOr_of ?_ | with_reducible refine' wNot_of ?_ | with_reducible refine' w2_of ?_ | with_reducible refine' w1_of ?_ | with_reducible refine' wCons_of ?_ | with_reducible refine' wNil_of ?_ | ((with_reducible refine' kIxT_of ?ke ?_); (case ke => rfl)) | with_reducible refine' wSeq_of ?_ | with_reducible refine' wSet_of ?_ | ((with_reducible refine' wSetF_of ?ke ?_); (case ke => rfl)) | ((with_reducible refine' wRetO_of ?ke ?_); (case ke => rfl)) | ((with_reducible refine' wApp_of ?ke ?_); (case ke => rfl)) | with_reducible refine' wRet_of ?_ | with_reducible refine' wRetF_of ?_ | with_reducible refine' wIfS_of ?_ | with_reducible refine' wForS_of ?_ | with_reducible refine' wItemsL_of ?_ | with_reducible refine' wItemsT_of ?_ | with_reducible refine' wLc_of ?_ | with_reducible refine' wAndV_of ?_ | with_reducible refine' wOrV_of ?_ | with_reducible refine' wNotV_of ?_ | with_reducible refine' wIf_of ?_ | with_reducible refine' wGet2_of ?_ | with_reducible refine' wChain_of ?_ | with_reducible refine' wExpr_of ?_ | with_reducible refine' kLenL_of ?_ | with_reducible refine' kLenT_of ?_ | ((with_reducible refine' kFld_of ?ke ?_); (case ke => rfl)) | with_reducible refine' wLc2_of ?_ | with_reducible refine' wNext_of ?_ | ((with_reducible refine' kZip2_of ?k1 ?k2 ?_); (case k1 => rfl); (case k2 => rfl)) | ((with_reducible refine' kZip3_of ?k1 ?k2 ?k3 ?_); (case k1 => rfl); (case k2 => rfl); (case k3 => rfl)) | with_reducible refine' kEnumT_of ?_ | with_reducible refine' wPart_of ?_ | with_reducible refine' wNoPart_of ?_ | with_reducible refine' kTupOfL_of ?_ | with_reducible refine' wEndP_of ?_ | ((with_reducible refine' wNewP_of ?ke ?_); (case ke => rfl)) | with_reducible refine' kI_of ?_ | ((with_reducible refine' wRev_of ?ke ?_); (case ke => rfl)) | with_reducible refine' kNeI_of ?_ | with_reducible refine' kEqI_of ?_ | with_reducible refine' kNeS_of ?_ | with_reducible refine' kEqS_of ?_))
abbrev Rws := List (Int × List Stp)
abbrev dRows (rs : Rws) : Dt := .lst (rs.map dRow)
/-- the words of the rows, ascending -/
structure WordsOf (rs : Rws) (wl : List Str) : Prop where
  so : sortedS wl = true
  nd : wl.Nodup
  mem : ∀ z, z ∈ wl ↔ ∃ r ∈ rs, ∃ s ∈ r.2, s.w = z
def wds (rs : Rws) : List Str := rs.flatMap fun r => r.2.map (·.w)
section
variable {P : Program} {w : World} {K : PySem.W.Frag} {mg : Str → Option Value} {base : Heap} {TT : List NdefX.NTab}
/-! ### _law_words -/
def wWords : List Dt → (Dt → Prop) → Prop := fun ds P => ∃ rs, ds = [dRows rs] ∧ (wds rs).length < 64 ∧ rs.length ≤ 1000 ∧ ∀ wl, WordsOf rs wl → P (.lst (wl.map Dt.str))
/-! ### _law_moves -/
/-- the lines of numbers with the word z -/
def prodD : Rws → List Int → Str → List (List (Option Int)) → List (List (Option Int))
  | r :: rs, x :: xs, z, ls => prodD rs xs z (ls.flatMap fun l => (numsD r.2 x z).map fun k => l ++ [k])
  | _, _, _, ls => ls
def movesD (rs : Rws) (wl : List Str) (xs : List Int) : List Mov := wl.flatMap fun z => (prodD rs xs z [[]]).map fun l => (z, l)
/-- at most four choices each -/
def Few (rs : Rws) : Prop := rs.length ≤ 4 ∧ ∀ r ∈ rs, r.2.length ≤ 1000 ∧ ∀ x z, (numsD r.2 x z).length ≤ 4
theorem prodD_take {rs : Rws} {xs : List Int} {z : Str} {ls : List (List (Option Int))} {i : Nat} {r : Int × List Stp} {x : Int} (e1 : rs[i]? = some r) (e2 : xs[i]? = some x) :
    prodD (rs.take (i + 1)) (xs.take (i + 1)) z ls = (prodD (rs.take i) (xs.take i) z ls).flatMap fun l => (numsD r.2 x z).map fun k => l ++ [k] := by
  induction rs generalizing xs i ls with
  | nil => cases e1
  | cons a rs ih =>
    cases xs with
    | nil => cases e2
    | cons b xs =>
      cases i with
      | zero =>
        cases e1
        cases e2
        rfl
      | succ i => exact ih e1 e2
theorem prodD_lens {rs : Rws} {xs : List Int} {z : Str} : ∀ i : Nat, i ≤ rs.length → i ≤ xs.length → ∀ l ∈ prodD (rs.take i) (xs.take i) z [[]], l.length = i
  | 0, _, _, l, h => by
    rw [List.take_zero, List.take_zero] at h
    have h : l ∈ [[]] := h
    rw [List.mem_singleton.mp h]
    rfl
  | i + 1, h1, h2, l, h => by
    have e1 : rs[i]? = some rs[i] := List.getElem?_eq_getElem (by omega)
    have e2 : xs[i]? = some xs[i] := List.getElem?_eq_getElem (by omega)
    rw [prodD_take e1 e2] at h
    obtain ⟨l0, h0, h⟩ := List.mem_flatMap.mp h
    obtain ⟨k, _, rfl⟩ := List.mem_map.mp h
    rw [List.length_append, prodD_lens i (by omega) (by omega) l0 h0]
    rfl
end
end KX
namespace KX
open PySem PySem.Spec PyProof.Rows L2 UL
local macro_rules | `(tactic| walk_at "u") => `(tactic| repeat (first | ((with_reducible refine' wVar_of ?ke ?_); (case ke => rfl)) | with_reducible refine' wC_of ?_ | with_reducible refine' wB_of ?_ | with_reducible refine' wAnd_of ?_ | with_reducible refine' wOr_of ?_ | with_reducible refine' wNot_of ?_ | with_reducible refine' w2_of ?_ | with_reducible refine' w1_of ?_ | with_reducible refine' wCons_of ?_ | with_reducible refine' wNil_of ?_ | ((with_reducible refine' kIxT_of ?ke ?_); (case ke => rfl)) | with_reducible refine' wSeq_of ?_ | with_reducible refine' wSet_of ?_ | ((with_reducible refine' wSetF_of ?ke ?_); (case ke => rfl)) | ((with_reducible refine' wRetO_of ?ke ?_); (case ke => rfl)) | ((with_reducible refine' wApp_of ?ke ?_); (case ke => rfl)) | with_reducible refine' wRet_of ?_ | with_reducible refine' wRetF_of ?_ | with_reducible refine' wIfS_of ?_ | with_reducible refine' wForS_of ?_ | with_reducible refine' wItemsL_of ?_ | with_reducible refine' wItemsT_of ?_ | with_reducible refine' wLc_of ?_ | with_reducible refine' wAndV_of ?_ | with_reducible refine' wOrV_of ?_ | with_reducible refine' wNotV_of ?_ | with_reducible refine' wIf_of ?_ | with_reducible refine' wGet2_of ?_ | with_reducible refine' wChain_of ?_ | with_reducible refine' wExpr_of ?_ | with_reducible refine' kLenL_of ?_ | with_reducible refine' kLenT_of ?_ | ((with_reducible refine' kFld_of ?ke ?_); (case ke => rfl)) | with_reducible refine' wLc2_of ?_ | with_reducible refine' wNext_of ?_ | ((with_reducible refine' kZip2_of ?k1 ?k2 ?_); (case k1 => rfl); (case k2 => rfl)) | ((with_reducible refine' kZip3_of ?k1 ?k2 ?k3 ?_); (case k1 => rfl); (case k2 => rfl); (case k3 => rfl)) | with_reducible refine' kEnumT_of ?_ | with_reducible refine' wPart_of ?_ | with_reducible refine' wNoPart_of ?_ | with_reducible refine' kTupOfL_of ?_ | with_reducible refine' wEndP_of ?_ | ((with_reducible refine' wNewP_of ?ke ?_); (case ke => rfl)) | with_reducible refine' kI_of ?_ | ((with_reducible refine' wRev_of ?ke ?_); (case ke => rfl)) | with_reducible refine' kNeI_of ?_ | with_reducible refine' kEqI_of ?_ | with_reducible refine' kNeS_of ?_ | with_reducible refine' kEqS_of ?_))
section
variable {P : Program} {w : World} {K : PySem.W.Frag} {mg : Str → Option Value} {base : Heap} {TT : List NdefX.NTab}
/-! ### _law_behind, _law_start -/
def ledD (r : Int × List Stp) (x : Int) : Option Int → Int
  | none => x
  | some k => ((r.2[k.toNat]?).map (·.b)).getD 0
def behD : Rws → List Int → List (Option Int) → List Int
  | r :: rs, x :: xs, k :: ks => ledD r x k :: behD rs xs ks
  | _, _, _ => []
/-- the numbers are such of steps -/
def NumsV (rs : Rws) (ks : List (Option Int)) : Prop := ks.length = rs.length ∧ ∀ (i : Nat) r k, rs[i]? = some r → ks[i]? = some (some k) → 0 ≤ k ∧ k.toNat < r.2.length
def wBehind : List Dt → (Dt → Prop) → Prop := fun ds P => ∃ rs xs m, ds = [dRows rs, dIs xs, dMv m] ∧ xs.length = rs.length ∧ rs.length ≤ 1000 ∧ NumsV rs m.2 ∧ P (dIs (behD rs xs m.2))
end
end KX
namespace KX
open PySem PySem.Spec PyProof.Rows L2 UL
local macro_rules | `(tactic| walk_at "u") => `(tactic| repeat (first | ((with_reducible refine' wVar_of ?ke ?_); (case ke => rfl)) | with_reducible refine' wC_of ?_ | with_reducible refine' wB_of ?_ | with_reducible refine' wAnd_of ?_ | with_reducible refine' wOr_of ?_ | with_reducible refine' wNot_of ?_ | with_reducible refine' w2_of ?_ | with_reducible refine' w1_of ?_ | with_reducible refine' wCons_of ?_ | with_reducible refine' wNil_of ?_ | ((with_reducible refine' kIxT_of ?ke ?_); (case ke => rfl)) | with_reducible refine' wSeq_of ?_ | with_reducible refine' wSet_of ?_ | ((with_reducible refine' wSetF_of ?ke ?_); (case ke => rfl)) | ((with_reducible refine' wRetO_of ?ke ?_); (case ke => rfl)) | ((with_reducible refine' wApp_of ?ke ?_); (case ke => rfl)) | with_reducible refine' wRet_of ?_ | with_reducible refine' wRetF_of ?_ | with_reducible refine' wIfS_of ?_ | with_reducible refine' wForS_of ?_ | with_reducible refine' wItemsL_of ?_ | with_reducible refine' wItemsT_of ?_ | with_reducible refine' wLc_of ?_ | with_reducible refine' wAndV_of ?_ | with_reducible refine' wOrV_of ?_ | with_reducible refine' wNotV_of ?_ | with_reducible refine' wIf_of ?_ | with_reducible refine' wGet2_of ?_ | with_reducible refine' wChain_of ?_ | with_reducible refine' wExpr_of ?_ | with_reducible refine' kLenL_of ?_ | with_reducible refine' kLenT_of ?_ | ((with_reducible refine' kFld_of ?ke ?_); (case ke => rfl)) | with_reducible refine' wLc2_of ?_ | with_reducible refine' wNext_of ?_ | ((with_reducible refine' kZip2_of ?k1 ?k2 ?_); (case k1 => rfl); (case k2 => rfl)) | ((with_reducible refine' kZip3_of ?k1 ?k2 ?k3 ?_); (case k1 => rfl); (case k2 => rfl); (case k3 => rfl)) | with_reducible refine' kEnumT_of ?_ | with_reducible refine' wPart_of ?_ | with_reducible refine' wNoPart_of ?_ | with_reducible refine' kTupOfL_of ?_ | with_reducible refine' wEndP_of ?_ | ((with_reducible refine' wNewP_of ?ke ?_); (case ke => rfl)) | with_reducible refine' kI_of ?_ | ((with_reducible refine' wRev_of ?ke ?_); (case ke => rfl)) | with_reducible refine' kNeI_of ?_ | with_reducible refine' kEqI_of ?_ | with_reducible refine' kNeS_of ?_ | with_reducible refine' kEqS_of ?_))
/-! ### hands and systems as data -/
structure HD where
  r : Int × List Stp
  wl : List Str
  nl : List Int
  ks : List (List Key)
  ds : List Dt
abbrev dHand (C : Addr) (h : HD) : Dt := .obj C ["start", "steps", "words", "states", "exits"] [.int h.r.1, .tup (h.r.2.map dStp), .tup (h.wl.map Dt.str), .tup (h.nl.map Dt.int), .dct h.ks h.ds]
abbrev dSys (C CS : Addr) (hs : List HD) (dl : List Int) (wl : List Str) : Dt := .obj CS ["hands", "diligent", "words", "start"] [.tup (hs.map (dHand C)), .tup (dl.map Dt.int), .tup (wl.map Dt.str), .tup ((hs.map (·.r.1)).map Dt.int)]
/-- such a hand is the hand of its steps -/
structure HdOk (h : HD) : Prop where
  wm : ∀ z, z ∈ h.wl ↔ z ∈ h.r.2.map (·.w)
  ex : ∀ x z, dlook h.ks h.ds [.inl x, .inr z] = if numsTo h.r.2 x z h.r.2.length = [] then none else some (.tup ((numsTo h.r.2 x z h.r.2.length).map Dt.int))
structure BltZ (mg : Str → Option Value) : Prop where
  zip : mg "zip" = none
  any : mg "any" = none
/-- the places of a standing are reached -/
def StOk (hs : List HD) (xs : List Int) : Prop := xs.length = hs.length ∧ ∀ (i : Nat) h x, hs[i]? = some h → xs[i]? = some x → x ∈ h.nl
section
variable {P : Program} {w : World} {K : PySem.W.Frag} {mg : Str → Option Value} {base : Heap} {TT : List NdefX.NTab} {C CS : Addr}
def wWhole : List Dt → (Dt → Prop) → Prop := fun ds P => ∃ i, ds = [.int i] ∧ P (.bl true)
/-! ### is_standing, check_states -/
def wIsSt (C CS : Addr) : List Dt → (Dt → Prop) → Prop := fun ds P => ∃ hs dl wl xs, ds = [dSys C CS hs dl wl, dIs xs] ∧ hs.length ≤ 1000 ∧ StOk hs xs ∧ P (.bl true)
def wChkSt (C CS : Addr) : List Dt → (Dt → Prop) → Prop := fun ds P => ∃ hs dl wl xs, ds = [dSys C CS hs dl wl, dIs xs] ∧ hs.length ≤ 1000 ∧ StOk hs xs ∧ P .non
/-! ### choices, numbers_of, moves -/
def rowsD (hs : List HD) (xs : List Int) (z : Str) : List (List (Option Int)) := (xs.zip hs).map fun p => numsD p.2.r.2 p.1 z
abbrev dLn (l : List (Option Int)) : Dt := .tup (l.map dNum)
def wChoices (C CS : Addr) : List Dt → (Dt → Prop) → Prop := fun ds P => ∃ hs dl wl xs z, ds = [dSys C CS hs dl wl, dIs xs, .str z] ∧ hs.length ≤ 1000 ∧ xs.length = hs.length ∧ (∀ h ∈ hs, HdOk h) ∧ P (.lst ((rowsD hs xs z).map dLn))
def wNumsOf (C CS : Addr) : List Dt → (Dt → Prop) → Prop := fun ds P => ∃ hs dl wl xs z, ds = [dSys C CS hs dl wl, dIs xs, .str z] ∧ xs.length = hs.length ∧ (∀ h ∈ hs, HdOk h) ∧ Few (hs.map (·.r)) ∧ P (.lst ((prodD (hs.map (·.r)) xs z [[]]).map dLn))
end
end KX
namespace KX
open PySem PySem.Spec PyProof.Rows L2 UL
local macro_rules | `(tactic| walk_at "u") => `(tactic| repeat (first | ((with_reducible refine' wVar_of ?ke ?_); (case ke => rfl)) | with_reducible refine' wC_of ?_ | with_reducible refine' wB_of ?_ | with_reducible refine' wAnd_of ?_ | with_reducible refine' wOr_of ?_ | with_reducible refine' wNot_of ?_ | with_reducible refine' w2_of ?_ | with_reducible refine' w1_of ?_ | with_reducible refine' wCons_of ?_ | with_reducible refine' wNil_of ?_ | ((with_reducible refine' kIxT_of ?ke ?_); (case ke => rfl)) | with_reducible refine' wSeq_of ?_ | with_reducible refine' wSet_of ?_ | ((with_reducible refine' wSetF_of ?ke ?_); (case ke => rfl)) | ((with_reducible refine' wRetO_of ?ke ?_); (case ke => rfl)) | ((with_reducible refine' wApp_of ?ke ?_); (case ke => rfl)) | with_reducible refine' wRet_of ?_ | with_reducible refine' wRetF_of ?_ | with_reducible refine' wIfS_of ?_ | with_reducible refine' wForS_of ?_ | with_reducible refine' wItemsL_of ?_ | with_reducible refine' wItemsT_of ?_ | with_reducible refine' wLc_of ?_ | with_reducible refine' wAndV_of ?_ | with_reducible refine' wOrV_of ?_ | with_reducible refine' wNotV_of ?_ | with_reducible refine' wIf_of ?_ | with_reducible refine' wGet2_of ?_ | with_reducible refine' wChain_of ?_ | with_reducible refine' wExpr_of ?_ | with_reducible refine' kLenL_of ?_ | with_reducible refine' kLenT_of ?_ | ((with_reducible refine' kFld_of ?ke ?_); (case ke => rfl)) | with_reducible refine' wLc2_of ?_ | with_reducible refine' wNext_of ?_ | ((with_reducible refine' kZip2_of ?k1 ?k2 ?_); (case k1 => rfl); (case k2 => rfl)) | ((with_reducible refine' kZip3_of ?k1 ?k2 ?k3 ?_); (case k1 => rfl); (case k2 => rfl); (case k3 => rfl)) | with_reducible refine' kEnumT_of ?_ | with_reducible refine' wPart_of ?_ | with_reducible refine' wNoPart_of ?_ | with_reducible refine' kTupOfL_of ?_ | with_reducible refine' wEndP_of ?_ | ((with_reducible refine' wNewP_of ?ke ?_); (case ke => rfl)) | with_reducible refine' kI_of ?_ | ((with_reducible refine' wRev_of ?ke ?_); (case ke => rfl)) | with_reducible refine' kNeI_of ?_ | with_reducible refine' kEqI_of ?_ | with_reducible refine' kNeS_of ?_ | with_reducible refine' kEqS_of ?_))
section
variable {P : Program} {w : World} {K : PySem.W.Frag} {mg : Str → Option Value} {base : Heap} {TT : List NdefX.NTab} {C CS : Addr}
def wMvs (C CS : Addr) : List Dt → (List Dt → Prop) → Prop := fun ds P => ∃ hs dl wl xs, ds = [dSys C CS hs dl wl, dIs xs] ∧ StOk hs xs ∧ (∀ h ∈ hs, HdOk h) ∧ Few (hs.map (·.r)) ∧ wl.length ≤ 1000 ∧ P ((movesD (hs.map (·.r)) wl xs).map dMv)
end
end KX
namespace KX
open PySem PySem.Spec PyProof.Rows L2 UL
local macro_rules | `(tactic| walk_at "u") => `(tactic| repeat (first | ((with_reducible refine' wVar_of ?ke ?_); (case ke => rfl)) | with_reducible refine' wC_of ?_ | with_reducible refine' wB_of ?_ | with_reducible refine' wAnd_of ?_ | with_reducible refine' wOr_of ?_ | with_reducible refine' wNot_of ?_ | with_reducible refine' w2_of ?_ | with_reducible refine' w1_of ?_ | with_reducible refine' wCons_of ?_ | with_reducible refine' wNil_of ?_ | ((with_reducible refine' kIxT_of ?ke ?_); (case ke => rfl)) | with_reducible refine' wSeq_of ?_ | with_reducible refine' wSet_of ?_ | ((with_reducible refine' wSetF_of ?ke ?_); (case ke => rfl)) | ((with_reducible refine' wRetO_of ?ke ?_); (case ke => rfl)) | ((with_reducible refine' wApp_of ?ke ?_); (case ke => rfl)) | with_reducible refine' wRet_of ?_ | with_reducible refine' wRetF_of ?_ | with_reducible refine' wIfS_of ?_ | with_reducible refine' wForS_of ?_ | with_reducible refine' wItemsL_of ?_ | with_reducible refine' wItemsT_of ?_ | with_reducible refine' wLc_of ?_ | with_reducible refine' wAndV_of ?_ | with_reducible refine' wOrV_of ?_ | with_reducible refine' wNotV_of ?_ | with_reducible refine' wIf_of ?_ | with_reducible refine' wGet2_of ?_ | with_reducible refine' wChain_of ?_ | with_reducible refine' wExpr_of ?_ | with_reducible refine' kLenL_of ?_ | with_reducible refine' kLenT_of ?_ | ((with_reducible refine' kFld_of ?ke ?_); (case ke => rfl)) | with_reducible refine' wLc2_of ?_ | with_reducible refine' wNext_of ?_ | ((with_reducible refine' kZip2_of ?k1 ?k2 ?_); (case k1 => rfl); (case k2 => rfl)) | ((with_reducible refine' kZip3_of ?k1 ?k2 ?k3 ?_); (case k1 => rfl); (case k2 => rfl); (case k3 => rfl)) | with_reducible refine' kEnumT_of ?_ | with_reducible refine' wPart_of ?_ | with_reducible refine' wNoPart_of ?_ | with_reducible refine' kTupOfL_of ?_ | with_reducible refine' wEndP_of ?_ | ((with_reducible refine' wNewP_of ?ke ?_); (case ke => rfl)) | with_reducible refine' kI_of ?_ | ((with_reducible refine' wRev_of ?ke ?_); (case ke => rfl)) | with_reducible refine' kNeI_of ?_ | with_reducible refine' kEqI_of ?_ | with_reducible refine' kNeS_of ?_ | with_reducible refine' kEqS_of ?_))
def vNum : Option Int → V
  | none => .non
  | some i => .int i
section
variable {P : Program} {w : World} {K : PySem.W.Frag} {mg : Str → Option Value} {base : Heap} {TT : List NdefX.NTab} {C CS : Addr}
/-! ### is_choice, is_move -/
def wIsCh : List Dt → (Dt → Prop) → Prop := fun ds P => ∃ k row, ds = [dNum k, dLn row] ∧ P (.bl (decide (k ∈ row)))
def wIsName : List Dt → (Dt → Prop) → Prop := fun ds P => ∃ z, ds = [.str z] ∧ NameOk z ∧ P (.bl true)
/-- such a move is one of the standing's -/
structure MvIn (hs : List HD) (wl : List Str) (xs : List Int) (m : Mov) : Prop where
  nm : NameOk m.1
  wd : m.1 ∈ wl
  len : m.2.length = hs.length
  nu : ∀ (i : Nat) h x k, hs[i]? = some h → xs[i]? = some x → m.2[i]? = some k → k ∈ numsD h.r.2 x m.1
/-- what is asked of a system, of a standing -/
structure SyIn (hs : List HD) (xs : List Int) (wl : List Str) : Prop where
  st : StOk hs xs
  ok : ∀ h ∈ hs, HdOk h
  few : Few (hs.map (·.r))
  wl : wl.length ≤ 1000
def wIsMv (C CS : Addr) : List Dt → (Dt → Prop) → Prop := fun ds P => ∃ hs dl wl xs m, ds = [dSys C CS hs dl wl, dIs xs, dMv m] ∧ SyIn hs xs wl ∧ MvIn hs wl xs m ∧ P (.bl true)
/-! ### led_to, behind -/
def wLed (C CS : Addr) : List Dt → (Dt → Prop) → Prop := fun ds P => ∃ hs dl wl xs m, ds = [dSys C CS hs dl wl, dIs xs, dMv m] ∧ hs.length ≤ 4 ∧ NumsV (hs.map (·.r)) m.2 ∧ P (dIs (behD (hs.map (·.r)) xs m.2))
end
end KX
namespace KX
open PySem PySem.Spec PyProof.Rows L2 UL
local macro_rules | `(tactic| walk_at "u") => `(tactic| repeat (first | ((with_reducible refine' wVar_of ?ke ?_); (case ke => rfl)) | with_reducible refine' wC_of ?_ | with_reducible refine' wB_of ?_ | with_reducible refine' wAnd_of ?_ | with_reducible refine' wOr_of ?_ | with_reducible refine' wNot_of ?_ | with_reducible refine' w2_of ?_ | with_reducible refine' w1_of ?_ | with_reducible refine' wCons_of ?_ | with_reducible refine' wNil_of ?_ | ((with_reducible refine' kIxT_of ?ke ?_); (case ke => rfl)) | with_reducible refine' wSeq_of ?_ | with_reducible refine' wSet_of ?_ | ((with_reducible refine' wSetF_of ?ke ?_); (case ke => rfl)) | ((with_reducible refine' wRetO_of ?ke ?_); (case ke => rfl)) | ((with_reducible refine' wApp_of ?ke ?_); (case ke => rfl)) | with_reducible refine' wRet_of ?_ | with_reducible refine' wRetF_of ?_ | with_reducible refine' wIfS_of ?_ | with_reducible refine' wForS_of ?_ | with_reducible refine' wItemsL_of ?_ | with_reducible refine' wItemsT_of ?_ | with_reducible refine' wLc_of ?_ | with_reducible refine' wAndV_of ?_ | with_reducible refine' wOrV_of ?_ | with_reducible refine' wNotV_of ?_ | with_reducible refine' wIf_of ?_ | with_reducible refine' wGet2_of ?_ | with_reducible refine' wChain_of ?_ | with_reducible refine' wExpr_of ?_ | with_reducible refine' kLenL_of ?_ | with_reducible refine' kLenT_of ?_ | ((with_reducible refine' kFld_of ?ke ?_); (case ke => rfl)) | with_reducible refine' wLc2_of ?_ | with_reducible refine' wNext_of ?_ | ((with_reducible refine' kZip2_of ?k1 ?k2 ?_); (case k1 => rfl); (case k2 => rfl)) | ((with_reducible refine' kZip3_of ?k1 ?k2 ?k3 ?_); (case k1 => rfl); (case k2 => rfl); (case k3 => rfl)) | with_reducible refine' kEnumT_of ?_ | with_reducible refine' wPart_of ?_ | with_reducible refine' wNoPart_of ?_ | with_reducible refine' kTupOfL_of ?_ | with_reducible refine' wEndP_of ?_ | ((with_reducible refine' wNewP_of ?ke ?_); (case ke => rfl)) | with_reducible refine' kI_of ?_ | ((with_reducible refine' wRev_of ?ke ?_); (case ke => rfl)) | with_reducible refine' kNeI_of ?_ | with_reducible refine' kEqI_of ?_ | with_reducible refine' kNeS_of ?_ | with_reducible refine' kEqS_of ?_))
section
variable {P : Program} {w : World} {K : PySem.W.Frag} {mg : Str → Option Value} {base : Heap} {TT : List NdefX.NTab} {C CS : Addr}
/-! ### System.behind -/
def wBeh2 (C CS : Addr) : List Dt → (Dt → Prop) → Prop := fun ds P => ∃ hs dl wl xs m, ds = [dSys C CS hs dl wl, dIs xs, dMv m] ∧ SyIn hs xs wl ∧ MvIn hs wl xs m ∧ P (dIs (behD (hs.map (·.r)) xs m.2))
/-! ### System.able -/
/-- the words that some move has -/
def readyD (hs : List HD) (xs : List Int) (wl : List Str) : List Str := wl.filter fun z => (rowsD hs xs z).all fun r => decide (0 < r.length)
def ableD (hs : List HD) (xs : List Int) (wl : List Str) : List Int := ((List.range hs.length).filter fun i => (hs[i]?).any fun h => (readyD hs xs wl).any fun z => decide (z ∈ h.wl)).map fun i : Nat => (i : Int)
def wAble (C CS : Addr) : List Dt → (List Dt → Prop) → Prop := fun ds P => ∃ hs dl wl xs, ds = [dSys C CS hs dl wl, dIs xs] ∧ SyIn hs xs wl ∧ P ((ableD hs xs wl).map Dt.int)
end
end KX
namespace KX
open PySem PySem.Spec PyProof.Rows L2 UL
/-! ### hands and systems that stand, as data -/
abbrev noA : Addr → Prop := fun _ => False
section
variable {K : PySem.W.Frag} {C CS : Addr} {H : Hp} {ok : Addr → Prop}
end
end KX
namespace KX
open PySem PySem.Spec PyProof.Rows L2 UL
theorem RowOk.all {ms mt : Nat} {zs : List Str} {r : Int × List Stp} (h : RowOk ms mt zs r) (hm : ms ≤ 8) (ht : mt ≤ 24) (hz : ∀ z ∈ zs, NameOk z) :
    Good r.2 ∧ 0 ≤ r.1 ∧ r.1 ≤ 99 ∧ (∀ s ∈ r.2, s.w ∈ zs) ∧ (∃ U : List Int, (∀ x, Reach r.2 r.1 x → x ∈ U) ∧ U.length ≤ 8) ∧ ∀ s ∈ r.2, NameOk s.w := by
  obtain ⟨sts, S, h0, ls, rg⟩ := h.ex
  have b : ∀ x ∈ sts, 0 ≤ x ∧ x ≤ 99 := fun x hx => by
    have := rg x hx
    omega
  refine ⟨⟨fun s hs => ⟨(b _ (S.sa s hs)).1, (b _ (S.sa s hs)).2, hz _ (S.sw s hs), (b _ (S.sb s hs)).1, (b _ (S.sb s hs)).2⟩, S.nd, S.lv, List.length_pos_iff.mpr h.ne, Nat.le_trans h.len ht⟩, (b _ h0).1, (b _ h0).2, S.sw, ⟨sts, fun x r => ?_, Nat.le_trans ls hm⟩, fun s hs => hz _ (S.sw s hs)⟩
  cases r with
  | refl => exact h0
  | step _ hs => exact S.sb _ hs
/-- all but lists and tables stand: what noA's data want -/
def KNL (H H' : Hp) : Prop := ∀ a o, NT o → NL o → H a = some o → H' a = some o
theorem KNL.ext {H H' : Hp} (k : LamX.ExtN H H') : KNL H H' := fun a o n _ e => k a o e n
theorem KNL.trans {H H1 H2 : Hp} (a : KNL H H1) (b : KNL H1 H2) : KNL H H2 := fun x o n l e => b x o n l (a x o n l e)
theorem KNL.lst {H : Hp} {l : Addr} {xs ys : List V} (h : H l = some (.lst xs)) : KNL H (upd H l (.lst ys)) := fun a o n l' e => by
  rw [upd_ne (fun z => by rw [z, h] at e; cases e; exact l'.lst _ rfl)]
  exact e
mutual
theorem R.knl {K : PySem.W.Frag} {H H' : Hp} (k : KNL H H') : ∀ {d : Dt} {v : V}, R K noA H d v → R K noA H' d v
  | _, _, .non => .non
  | _, _, .bl b => .bl b
  | _, _, .int i => .int i
  | _, _, .str z => .str z
  | _, _, .lst _ q _ => q.elim
  | _, _, .tup h t => .tup (k _ _ nt_tup nl_tup h) (Rs.knl k t)
  | _, _, .obj e f n t => .obj (k _ _ nt_ins nl_ins e) f n (Rs.knl k t)
  | _, _, .dct e t => .dct (k _ _ nt_dT nl_dT e) (Rs.knl k t)
  | _, _, .nd _ q _ _ _ _ => q.elim
  | _, _, .dk _ q _ => q.elim
  | _, _, .val v => .val v
  | _, _, .sql _ q => q.elim
  | _, _, .sqk e => .sqk e
theorem Rs.knl {K : PySem.W.Frag} {H H' : Hp} (k : KNL H H') : ∀ {ds : List Dt} {vs : List V}, Rs K noA H ds vs → Rs K noA H' ds vs
  | _, _, .nil => .nil
  | _, _, .cons h t => .cons (R.knl k h) (Rs.knl k t)
end
section
variable {P : Program} {w : World} {K : PySem.W.Frag} {mg : Str → Option Value} {base : Heap} {TT : List NdefX.NTab} {C CS : Addr} {H H' : Hp}
theorem handW_knl {v : V} {h : Int × List Str} (k : KNL H H') (x : HandW K C H v h) : HandW K C H' v h :=
  let ⟨p, dx, fs, ws, e, e1, e2, e3, e4⟩ := x
  ⟨p, dx, fs, ws, e, k _ _ nt_ins nl_ins e1, e2, e3, e4.imp (fun r => r.imp (fun e => k _ _ nt_tup nl_tup e) fun ⟨o, e⟩ => ⟨o, k _ _ nt_frz nl_frz e⟩) id⟩
/-- a hand that stands -/
structure HandU (K : PySem.W.Frag) (C : Addr) (H : Hp) (v : V) (h : HD) : Prop where
  r : R K noA H (dHand C h) v
  w : HandW K C H v (h.r.1, h.wl)
  ok : HdOk h
  of : HandOf h.r.2 h.r.1 h.wl h.nl
theorem HandU.knl {v : V} {h : HD} (k : KNL H H') (x : HandU K C H v h) : HandU K C H' v h := ⟨R.knl k x.r, handW_knl k x.w, x.ok, x.of⟩
abbrev rLOF (K : PySem.W.Frag) : List V → Hp → VK → Prop := fun xs H Q => ∃ p ys, xs = [.ref p] ∧ (SqL K H p ys ∨ SqT K H p ys) ∧ ∀ l, H l = none → Q (.ref l) (upd H l (.lst ys))
/-- such rows may be hands -/
def RowsGd (rs : Rws) (zs : List Str) : Prop := zs.length ≤ 8 ∧ ∀ r ∈ rs, Good r.2 ∧ 0 ≤ r.1 ∧ r.1 ≤ 99 ∧ (∀ s ∈ r.2, s.w ∈ zs) ∧ ∃ U : List Int, (∀ x, Reach r.2 r.1 x → x ∈ U) ∧ U.length ≤ 8
def spLSys (K : PySem.W.Frag) (C CS : Addr) (T : TbC) : Sp := fun vs H Q _ => ∃ (lr lc : Addr) (us : List V) (rs : Rws) (cs : List Int) (zs : List Str), vs = [.ref lr, .ref lc] ∧ H lr = some (.lst us) ∧ RowsAt K H us rs ∧ H lc = some (.lst (cs.map V.int)) ∧ TabL T H ∧
  RowsGd rs zs ∧ 1 ≤ rs.length ∧ rs.length ≤ 4 ∧ cs.Pairwise (· < ·) ∧ (∀ x ∈ cs, 0 ≤ x ∧ x < (rs.length : Nat)) ∧
  ∀ (hs : List HD) (dl : List Int) (wl : List Str) (p : Addr) (H' : Hp), hs.map (·.r) = rs → (∀ h ∈ hs, HdOk h ∧ HandOf h.r.2 h.r.1 h.wl h.nl) → dl = cs → WordsOf rs wl → LamX.ExtN H H' → TabL T H' → R K noA H' (dSys C CS hs dl wl) (.ref p) → Q (.ref p) H'
end
end KX
namespace KX
open PySem PySem.Spec PyProof.Rows L2 UL
local macro_rules | `(tactic| walk_at "u") => `(tactic| repeat (first | ((with_reducible refine' wVar_of ?ke ?_); (case ke => rfl)) | with_reducible refine' wC_of ?_ | with_reducible refine' wB_of ?_ | with_reducible refine' wAnd_of ?_ | with_reducible refine' wOr_of ?_ | with_reducible refine' wNot_of ?_ | with_reducible refine' w2_of ?_ | with_reducible refine' w1_of ?_ | with_reducible refine' wCons_of ?_ | with_reducible refine' wNil_of ?_ | ((with_reducible refine' kIxT_of ?ke ?_); (case ke => rfl)) | with_reducible refine' wSeq_of ?_ | with_reducible refine' wSet_of ?_ | ((with_reducible refine' wSetF_of ?ke ?_); (case ke => rfl)) | ((with_reducible refine' wRetO_of ?ke ?_); (case ke => rfl)) | ((with_reducible refine' wApp_of ?ke ?_); (case ke => rfl)) | with_reducible refine' wRet_of ?_ | with_reducible refine' wRetF_of ?_ | with_reducible refine' wIfS_of ?_ | with_reducible refine' wForS_of ?_ | with_reducible refine' wItemsL_of ?_ | with_reducible refine' wItemsT_of ?_ | with_reducible refine' wLc_of ?_ | with_reducible refine' wAndV_of ?_ | with_reducible refine' wOrV_of ?_ | with_reducible refine' wNotV_of ?_ | with_reducible refine' wIf_of ?_ | with_reducible refine' wGet2_of ?_ | with_reducible refine' wChain_of ?_ | with_reducible refine' wExpr_of ?_ | with_reducible refine' kLenL_of ?_ | with_reducible refine' kLenT_of ?_ | ((with_reducible refine' kFld_of ?ke ?_); (case ke => rfl)) | with_reducible refine' wLc2_of ?_ | with_reducible refine' wNext_of ?_ | ((with_reducible refine' kZip2_of ?k1 ?k2 ?_); (case k1 => rfl); (case k2 => rfl)) | ((with_reducible refine' kZip3_of ?k1 ?k2 ?k3 ?_); (case k1 => rfl); (case k2 => rfl); (case k3 => rfl)) | with_reducible refine' kEnumT_of ?_ | with_reducible refine' wPart_of ?_ | with_reducible refine' wNoPart_of ?_ | with_reducible refine' kTupOfL_of ?_ | with_reducible refine' wEndP_of ?_ | ((with_reducible refine' wNewP_of ?ke ?_); (case ke => rfl)) | with_reducible refine' kI_of ?_ | ((with_reducible refine' wRev_of ?ke ?_); (case ke => rfl)) | with_reducible refine' kNeI_of ?_ | with_reducible refine' kEqI_of ?_ | with_reducible refine' kNeS_of ?_ | with_reducible refine' kEqS_of ?_))
/-! ### hands and systems are made, told by data -/
/-- such steps may be a hand's -/
structure HdIn (x0 : Int) (ss : List Stp) : Prop where
  good : Good ss
  lo : 0 ≤ x0
  hi : x0 ≤ 99
  ws : ∃ zs : List Str, (∀ s ∈ ss, s.w ∈ zs) ∧ zs.length ≤ 8
  rg : ∃ U : List Int, (∀ x, Reach ss x0 x → x ∈ U) ∧ U.length ≤ 8
theorem Reach.trans {ss : List Stp} {x0 x y : Int} (h : Reach ss x0 x) (k : Reach ss x y) : Reach ss x0 y := by
  induction k with
  | refl => exact h
  | step _ hs ih => exact .step ih hs
theorem HdIn.at {x0 x : Int} {ss : List Stp} (h : HdIn x0 ss) (r : Reach ss x0 x) : HdIn x ss := by
  have b : 0 ≤ x ∧ x ≤ 99 := by
    cases r with
    | refl => exact ⟨h.lo, h.hi⟩
    | step _ hs =>
      have := h.good.ok _ hs
      exact ⟨this.b0, this.b1⟩
  obtain ⟨U, h1, h2⟩ := h.rg
  exact ⟨h.good, b.1, b.2, h.ws, U, fun y hy => h1 y (r.trans hy), h2⟩
section
variable {K : PySem.W.Frag} {ok : Addr → Prop} {H H' : Hp} {C CS : Addr} {T : TbC}
abbrev tts (T : TbC) : List NdefX.NTab := T.l
def wMkHand (C : Addr) : List Dt → (Dt → Prop) → Prop := fun ds P => ∃ (x0 : Int) (ss : List Stp) (d : Dt), ds = [.int x0, d] ∧ d.seq = some (ss.map dStp) ∧ HdIn x0 ss ∧ ∀ h : HD, h.r = (x0, ss) → HdOk h → HandOf ss x0 h.wl h.nl → P (dHand C h)
/-- who is diligent: told by d, of so many -/
inductive ChoD (n : Nat) : Dt → (Int → Prop) → Prop where
  | all : ChoD n .non (fun x => 0 ≤ x ∧ x < (n : Nat))
  | row {d : Dt} {cs : List Int} : d.seq = some (cs.map Dt.int) → cs.Nodup → (∀ x ∈ cs, 0 ≤ x ∧ x < (n : Nat)) → ChoD n d (fun x => x ∈ cs)
def wMkSys (C CS : Addr) : List Dt → (Dt → Prop) → Prop := fun ds P => ∃ (hs : List HD) (d e : Dt) (S : Int → Prop) (zs : List Str), ds = [d, e] ∧ d.seq = some (hs.map (dHand C)) ∧ 1 ≤ hs.length ∧ hs.length ≤ 4 ∧ ChoD hs.length e S ∧ (∀ h ∈ hs, h.wl.length ≤ 8 ∧ ∀ z ∈ h.wl, z ∈ zs) ∧ zs.length ≤ 12 ∧
  ∀ dl wl, dl.Pairwise (· < ·) → (∀ x, x ∈ dl ↔ S x) → sortedS wl = true → wl.Nodup → (∀ z, z ∈ wl ↔ ∃ h ∈ hs, z ∈ h.wl) → P (dSys C CS hs dl wl)
end
/-- such a system stands -/
structure SySt (hs : List HD) (dl : List Int) (wl : List Str) : Prop where
  l1 : 1 ≤ hs.length
  l4 : hs.length ≤ 4
  hd : ∀ h ∈ hs, HdIn h.r.1 h.r.2 ∧ HdOk h ∧ HandOf h.r.2 h.r.1 h.wl h.nl
  dp : dl.Pairwise (· < ·)
  dr : ∀ x ∈ dl, 0 ≤ x ∧ x < (hs.length : Nat)
  ws : WordsOf (hs.map (·.r)) wl
  zs : ∃ zs : List Str, (∀ h ∈ hs, ∀ s ∈ h.r.2, s.w ∈ zs) ∧ zs.length ≤ 12
section
variable {P : Program} {w : World} {K : PySem.W.Frag} {mg : Str → Option Value} {base : Heap} {C CS : Addr} {T : TbC}
/-- the hands, started elsewhere -/
def HdAt (p : Int × HD) (h : HD) : Prop := h.r = (p.1, p.2.r.2) ∧ HdIn p.1 p.2.r.2 ∧ HdOk h ∧ HandOf p.2.r.2 p.1 h.wl h.nl
def wStarted (C CS : Addr) : List Dt → (Dt → Prop) → Prop := fun ds P => ∃ hs dl wl xs, ds = [dSys C CS hs dl wl, dIs xs] ∧ SySt hs dl wl ∧ StOk hs xs ∧
  ∀ hs' wl', Paired HdAt (xs.zip hs) hs' → SySt hs' dl wl' → P (dSys C CS hs' dl wl')
end
end KX
namespace KX
open PySem PySem.Spec PyProof.Rows L2
/-! ### Deeds: a set of names, kept as a dict -/
structure DeedT (K : PySem.W.Frag) (CD : Addr) : Prop where
  cl : Cls K CD
  kept : NoAttr K CD "kept"
structure DeedO (K : PySem.W.Frag) (CD : Addr) : Prop where
  own : OwnK K CD
  kl : PySem.W.kitOne K (.type "list") (.ref CD) = some false
  kt : PySem.W.kitOne K (.type "tuple") (.ref CD) = some false
abbrev dkN (zs : List Str) : List (Key × V) := zs.map fun z => (Sum.inr z, V.bl true)
/-- the deeds at v -/
def DdsAt (CD : Addr) (H : Hp) (v : V) (zs : List Str) : Prop := ∃ p dx fs d, v = .ref p ∧ H p = some (.ins CD dx fs) ∧ fs.lookup ("kept" : Str) = some (V.ref d) ∧ (∀ f : Str, f ≠ "kept" → fs.lookup f = none) ∧ H d = some (.dK (dkN zs)) ∧ zs.Nodup
theorem DdsAt.same {CD : Addr} {H H' : Hp} {v : V} {zs : List Str} (k : Same H H') (h : DdsAt CD H v zs) : DdsAt CD H' v zs :=
  let ⟨p, dx, fs, d, e, e1, f1, f2, e2, nd⟩ := h
  ⟨p, dx, fs, d, e, k _ _ e1, f1, f2, k _ _ e2, nd⟩
section
variable {P : Program} {w : World} {K : PySem.W.Frag} {mg : Str → Option Value} {base : Heap} {CD : Addr}
theorem sc_dnames : FnScope ["self"] ["self"] (defScope s_Deeds_names) := ⟨rfl, rfl, rfl, by decide +kernel, rfl, by decide +kernel, by decide +kernel⟩
def spDNames (CD : Addr) : Sp := fun vs H Q _ => ∃ (v : V) (zs : List Str), vs = [v] ∧ DdsAt CD H v zs ∧ zs.length < 64 ∧ ∀ (p : Addr) (ys : List Str), ys.Perm zs → sortedS ys = true → H p = none → Q (.ref p) (upd H p (.lst (ys.map V.str)))
theorem ok_dnames {f : Addr} {fd : FuncData} (F : Fun K "names" "Deeds.names" s_Deeds_names f fd) (B : Blt mg) (TD : DeedT K CD) : FnOk P w K mg base CX0 1 f fd ["self"] (spDNames CD) := by
  refine F.ok sc_dnames (fun vs H Q E h => ?_) (fun cdv A outer s H vs Q E hr h => ?_)
  · obtain ⟨v, zs, rfl, _⟩ := h
    rfl
  · obtain ⟨v, zs, rfl, ⟨p, dx, fs, d, rfl, hp, f1, f2, hd, nd⟩, l64, q⟩ := h
    refine ⟨_, pss_one (ps_ret (pe_callB (call_sortedD rfl) (by rfl) B.sorted (by decide +kernel) (pa_cons (pe_fld (pv 0) rfl) pa_nil))), ?_⟩
    refine ⟨_, rfl, p, CD, dx, _, _, rfl, hp, TD.cl, TD.kept, f1, ?_⟩
    refine ⟨d, dkN zs, zs, rfl, .inl hd, ?_, l64, fun ys p' h1 h2 h3 => q p' ys h1 h2 h3⟩
    rw [List.map_map]
    rfl
/-- the names that a row or deeds tell -/
def TellD (K : PySem.W.Frag) (CD : Addr) (H : Hp) (v : V) (S : List Str → Prop) : Prop := (∃ a zs, v = .ref a ∧ Seq K H a (zs.map V.str) ∧ (∀ z ∈ zs, NameOk z) ∧ zs.length ≤ 100000 ∧ S zs) ∨ ∃ zs, DdsAt CD H v zs ∧ zs.length < 64 ∧ ∀ ys, ys.Perm zs → sortedS ys = true → S ys
theorem TellD.same {H H' : Hp} {v : V} {S : List Str → Prop} (k : Same H H') (h : TellD K CD H v S) : TellD K CD H' v S := by
  rcases h with ⟨a, zs, e, h, r⟩ | ⟨zs, h, r⟩
  · exact .inl ⟨a, zs, e, h.same k, r⟩
  · exact .inr ⟨zs, h.same k, r⟩
structure DdsD (K : PySem.W.Frag) (mg : Str → Option Value) (CD fR fN fT fM : Addr) (fdR fdN fdT fdM : FuncData) : Prop where
  FR : Fun K "is_row" "is_row" s_is_row fR fdR
  bR : Binds K fdR ["value"] []
  gR : mg "is_row" = some (.ref fR)
  FN : Fun K "is_name" "is_name" s_is_name fN fdN
  bN : Binds K fdN ["value"] []
  gN : mg "is_name" = some (.ref fN)
  FT : Fun K "told_names" "told_names" s_told_names fT fdT
  bT : Binds K fdT ["words"] []
  gT : mg "told_names" = some (.ref fT)
  FM : Fun K "names" "Deeds.names" s_Deeds_names fM fdM
  bM : Binds K fdM ["self"] []
  MM : Meth K CD "names" fM
  mD : mg "Deeds" = some (.ref CD)
  TD : DeedT K CD
  O : DeedO K CD
theorem sc_told : FnScope ["words", "word"] ["words"] (defScope s_told_names) := ⟨rfl, rfl, rfl, by decide +kernel, rfl, by decide +kernel, by decide +kernel⟩
def spTold (K : PySem.W.Frag) (CD : Addr) : Sp := fun vs H Q _ => ∃ (v : V) (S : List Str → Prop), vs = [v] ∧ TellD K CD H v S ∧ ∀ (l : Addr) (ys : List Str) (H' : Hp), S ys → ys.length ≤ 100000 → H l = none → H' l = some (.lst (ys.map V.str)) → Same H H' → Q (.ref l) H'
theorem ok_told {fR fN fT fM : Addr} {fdR fdN fdT fdM : FuncData} (B : Blt mg) (N : Kin mg) (D : DdsD K mg CD fR fN fT fM fdR fdN fdT fdM) : FnOk P w K mg base CX0 2 fT fdT ["words"] (spTold K CD) := by
  have GR : FnOk P w K mg base CX0 1 fR fdR ["value"] (spRow K) := ok_row D.FR B
  have GN : FnOk P w K mg base CX0 1 fN fdN ["value"] spIsName := ok_isname D.FN B N
  have GM : FnOk P w K mg base CX0 1 fM fdM ["self"] (spDNames CD) := ok_dnames D.FM B D.TD
  refine D.FT.ok sc_told (fun vs H Q E h => ?_) (fun cdv A outer s H vs Q E hr h => ?_)
  · obtain ⟨v, S, rfl, _⟩ := h
    rfl
  · obtain ⟨v, S, rfl, hT, q⟩ := h
    refine ⟨_, pss_cons (ps_if (pt_val (pe_callB call_isi (by rfl) B.isinstance (by decide +kernel) (pa_cons (pv 0) (pa_cons (pe_glob rfl D.mD (v := .ref CD) rfl) pa_nil))))
        (pss_one (ps_ret (pe_meth0 (pv 0) D.TD.cl D.MM GM (hr.mono (by decide)) D.bM .nil pass0))) pss_nil)
      (pss_cons (ps_if (pt_not (pt_val (pe_call GR (hr.mono (by decide)) (by rfl) D.gR D.FR.kp D.bR .nil pass0 (pa_cons (pv 0) pa_nil)))) (pss_one VL.ps_dead) pss_nil)
      (pss_cons (ps_for PassesOwn.never rfl (VE.pi_seqS (j := 0) rfl (.inl rfl)) (pg_name (i := 1) sc_told.nd rfl (.inl rfl))
        (pss_one (ps_if (pt_not (pt_val (pe_call GN (hr.mono (by decide)) (by rfl) D.gN D.FN.kp D.bN .nil pass0 (pa_cons (pv 1) pa_nil)))) (pss_one VL.ps_dead) pss_nil)))
      (pss_one (ps_ret (pe_callTy (r := rLOF K) call_list_of (by rfl) B.list (by decide +kernel) (pa_cons (pv 0) pa_nil)))))), ?_⟩
    rcases hT with ⟨a, zs, rfl, hS, hz, lz, hs⟩ | ⟨zs, hD, l64, hs⟩
    · obtain ⟨t, ht, hk⟩ : ∃ t, TyX K H (.ref a) t ∧ PySem.W.kitOne K t (.ref CD) = some false := by
        rcases id hS with h | h
        · exact ⟨_, tyL h, D.O.kl⟩
        · exact ⟨_, tyT (.inl (.inl h)), D.O.kt⟩
      refine ⟨_, rfl, _, _, t, _, false, rfl, .own CD, ht, hk, false, rfl, ?_⟩
      refine ⟨_, rfl, a, _, rfl, hS, fun H1 s1 => ⟨true, rfl, ?_⟩⟩
      refine VE.for_seqS (j := 0) rfl (hS.sq) (fun i σ H3 => ∃ v1 : Option V, σ = [some (.ref a), v1] ∧ Same H H3) ⟨none, rfl, s1⟩ (fun _ _ _ ⟨_, _, k⟩ => k) ?_ ?_
      · rintro i x σ H3 hx ⟨v1, rfl, s3⟩
        rw [List.getElem?_map] at hx
        cases ez : zs[i]? with
        | none => rw [ez] at hx; cases hx
        | some z =>
          rw [ez] at hx
          cases hx
          refine ⟨_, rfl, z, rfl, hz z (List.mem_of_getElem? ez), fun H4 s4 => ⟨true, rfl, ?_⟩⟩
          exact ⟨_, rfl, s3.trans s4⟩
      · rintro σ H3 ⟨v1, rfl, s3⟩
        refine ⟨_, rfl, a, _, rfl, (hS.same s3).sq, fun l hl => ?_⟩
        exact q l zs _ hs lz (s3.free hl) upd_same (s3.trans (same_new hl))
    · obtain ⟨p, dx, fs, d, rfl, hp, f1, f2, hd, nd⟩ := id hD
      refine ⟨_, rfl, _, _, _, _, true, rfl, .own CD, D.O.own.ty hp, kit_self, true, rfl, ?_⟩
      refine ⟨_, rfl, p, dx, _, rfl, hp, f2 _ (by decide +kernel), ?_⟩
      refine ⟨_, zs, rfl, hD, l64, fun l ys h1 h2 h3 => ?_⟩
      exact q l ys _ (hs ys h1 h2) (by have := h1.length_eq; omega) h3 upd_same (same_new h3)
/-! ### Deeds.__init__ -/
theorem dfs_out (d : Addr) : ∀ f : Str, f ≠ "kept" → List.lookup f [(("kept" : Str), V.ref d)] = none := fun f hf => by
  rw [List.lookup_cons, beq_eq_false_iff_ne.mpr hf]
  rfl
def dfs (d : Addr) : List (Str × V) := [("kept", .ref d)]
theorem sc_dinit : FnScope ["self", "words", "name"] ["self", "words"] (defScope s_Deeds_init) := ⟨rfl, rfl, rfl, by decide +kernel, rfl, by decide +kernel, by decide +kernel⟩
theorem dc_it {J : It} {n : Nat} {G : Hp → Prop} {Y : Nat → Hp → V → Hp → Prop} (w : L2.Walk J n G Y) {σ : L2.St} {g : TG} {tt : TT} {tk tv : TE} {vs : List Nat} {H1 : Hp} {E : Addr} {Qd : Hp → Prop} (Pv : Nat → Hp → Prop) (h0 : Pv 0 (upd H1 E (.dK []))) (hG : ∀ i H, i ≤ n → Pv i H → G H)
    (hs : ∀ i x H H', i < n → Pv i H → Y i H x H' → g x (wipe σ vs) H' fun σ2 H2 => wipe σ2 vs = wipe σ vs ∧ tt σ2 H2 fun b H3 => if b = true then tk σ2 H3 fun y H4 => tv σ2 H4 fun z H5 => ∃ kvs k, y = kV k ∧ H5 E = some (.dK kvs) ∧ kvs.length < sizeLine ∧ Pv (i + 1) (upd H5 E (.dK (putK kvs k z))) else Pv (i + 1) H3) (hd : ∀ H, Pv n H → Qd H) :
    ∃ W : Nat → Nat → Hp → Prop, (∃ m, W 0 m (upd H1 E (.dK []))) ∧ ∀ i m H, W i m H →
      (J.stop i H ∧ Qd H) ∨ (J.go i H ∧ ∃ Nx : Hp → Prop, (∀ H', Nx H' → ∃ m', m' < m ∧ W (i + 1) m' H') ∧ ∀ x H', J.yld i H x H' → g x (wipe σ vs) H' fun σ2 H2 => wipe σ2 vs = wipe σ vs ∧ tt σ2 H2 fun b H3 => if b = true then tk σ2 H3 fun y H4 => tv σ2 H4 fun z H5 => ∃ kvs k, y = kV k ∧ H5 E = some (.dK kvs) ∧ kvs.length < sizeLine ∧ Nx (upd H5 E (.dK (putK kvs k z))) else Nx H3) := by
  refine ⟨fun i m H => m = n - i ∧ i ≤ n ∧ Pv i H, ⟨n, by simp, Nat.zero_le _, h0⟩, fun i m H ⟨hm, hi, p⟩ => ?_⟩
  subst hm
  have q := hG i H hi p
  by_cases hlt : i < n
  · exact .inr ⟨w.goes i H hlt q, Pv (i + 1), fun H' p' => ⟨n - (i + 1), by omega, rfl, hlt, p'⟩, fun x H' y => hs i x H H' hlt p (w.yields i H x H' hlt q y)⟩
  · have e : i = n := by omega
    exact .inl ⟨e ▸ w.stops H q, hd H (e ▸ p)⟩
theorem putK_dk {zs : List Str} {z : Str} : putK (dkN zs) (Sum.inr z) (V.bl true) = dkN (if z ∈ zs then zs else zs ++ [z]) := by
  unfold putK
  have e : ((dkN zs).any fun kv => decide (kv.1 = Sum.inr z)) = decide (z ∈ zs) := by
    rw [Bool.eq_iff_iff, List.any_eq_true, decide_eq_true_eq]
    constructor
    · rintro ⟨kv, h, e⟩
      obtain ⟨y, hy, rfl⟩ := List.mem_map.mp h
      have e := of_decide_eq_true e
      cases e
      exact hy
    · exact fun h => ⟨_, List.mem_map.mpr ⟨z, h, rfl⟩, decide_eq_true rfl⟩
  rw [e]
  by_cases c : z ∈ zs
  · rw [if_pos (decide_eq_true c), if_pos c]
    unfold dkN
    rw [List.map_map]
    refine List.map_congr_left fun y _ => ?_
    show (if (Sum.inr y : L2.Key) = Sum.inr z then _ else _) = _
    split
    · rfl
    · rfl
  · rw [if_neg (by simpa using c), if_neg c]
    unfold dkN
    rw [List.map_append]
    rfl
def spDInit (K : PySem.W.Frag) (CD : Addr) : Sp := fun vs H Q _ => ∃ (p dx : Addr) (v : V) (S : List Str → Prop), vs = [.ref p, v] ∧ H p = some (.ins CD dx []) ∧ TellD K CD H v S ∧
  ∀ (ys zs : List Str) (d : Addr) (H' : Hp), S ys → ys.length ≤ 100000 → H d = none → H' p = some (.ins CD dx (dfs d)) → H' d = some (.dK (dkN zs)) → zs.Nodup → (∀ z, z ∈ zs ↔ z ∈ ys) → SameX p H H' → Q .non H'
theorem ok_dinit {f fR fN fT fM : Addr} {fd fdR fdN fdT fdM : FuncData} {dvs : List V} (F : FunD K "__init__" "Deeds.__init__" (defArgs s_Deeds_init) (defBody s_Deeds_init) (defScope s_Deeds_init) dvs [] f fd) (B : Blt mg) (N : Kin mg) (D : DdsD K mg CD fR fN fT fM fdR fdN fdT fdM) :
    FnOk P w K mg base CX0 3 f fd ["self", "words"] (spDInit K CD) := by
  have GT : FnOk P w K mg base CX0 2 fT fdT ["words"] (spTold K CD) := ok_told B N D
  refine F.ok sc_dinit (fun vs H Q E h => ?_) (fun cdv A outer s H vs Q E hr h => ?_)
  · obtain ⟨p, dx, v, S, rfl, _⟩ := h
    rfl
  · obtain ⟨p, dx, v, S, rfl, hp, hT, q⟩ := h
    refine ⟨_, PSs.nox (pss_one (ps_fld (pv 0) (pe_dc (own := [("name", 2)]) (g := gName 2) (tt := tYes) (tk := tVar 2) (tv := tC (.bl true)) rfl sc_dinit.nd (pi_list (pe_call GT hr (by rfl) D.gT D.FT.kp D.bT .nil pass0 (pa_cons (pv 1) pa_nil))) (blkOk_by (N := ["self", "words", "name"]) (sc := defScope s_Deeds_init) (by decide +kernel))
      (fun _ _ _ _ _ => pg_name (i := 2) sc_dinit.nd rfl (.inl rfl)) (fun _ _ _ _ _ => pts_nil) (fun _ _ _ _ _ => pv 2) (fun _ _ _ _ _ => pe_bl)) rfl)), ?_⟩
    refine ⟨_, rfl, v, S, rfl, hT, fun l ys H1 hs lys nl hl s1 => ⟨l, rfl, ⟨_, .inl (.inl hl)⟩, fun D0 hD => ?_⟩⟩
    refine dc_it (walk_list (K := K) (a := l) (xs := ys.map V.str)) (fun i H' => ∃ zs : List Str, H' D0 = some (.dK (dkN zs)) ∧ zs.Nodup ∧ (∀ z, z ∈ zs ↔ z ∈ ys.take i) ∧ zs.length ≤ i ∧ Same H1 H') ⟨[], upd_same, .nil, fun z => by rw [List.take_zero], Nat.le_refl _, same_new hD⟩ (fun i H' _ ⟨_, _, _, _, _, k⟩ => k.seq (.inl (.inl hl))) ?_ ?_
    · rintro i x H' H'' hi ⟨zs, hD', nd, hz, lz, s'⟩ ⟨rfl, hx⟩
      rw [List.getElem?_map] at hx
      rw [List.length_map] at hi
      have ez : ys[i]? = some ys[i] := List.getElem?_eq_getElem hi
      rw [ez] at hx
      cases hx
      refine ⟨rfl, _, rfl, dkN zs, Sum.inr ys[i], rfl, hD', by rw [List.length_map, sizeLine_eq]; omega, if ys[i] ∈ zs then zs else zs ++ [ys[i]], by rw [upd_same, putK_dk], ?_, fun z => ?_, ?_, fun b o e => ?_⟩
      · split
        · exact nd
        · rename_i c
          exact nd_snoc nd c
      · rw [List.take_add_one, ez, List.mem_append, ← hz z]
        show _ ↔ _ ∨ z ∈ [ys[i]]
        rw [List.mem_singleton]
        split
        · rename_i c
          exact ⟨.inl, fun h => h.elim id fun e => e ▸ c⟩
        · rw [List.mem_append, List.mem_singleton]
      · split
        · omega
        · rw [List.length_append]
          exact Nat.succ_le_succ lz
      · rw [upd_ne (ne_of_none e hD)]
        exact s' b o e
    · rintro H' ⟨zs, hD', nd, hz, lz, s'⟩
      have s2 := s1.trans s'
      have np : D0 ≠ p := fun z => by
        have := s1 _ _ hp
        rw [← z, hD] at this
        cases this
      refine ⟨_, rfl, p, CD, dx, [], rfl, s2 _ _ hp, D.TD.cl, D.TD.kept, by decide, ?_⟩
      refine q ys zs D0 _ hs lys (s1.free hD) upd_same (by rw [upd_ne np]; exact hD') nd (fun z => ?_) ((SameX.of s2).trans SameX.at)
      · rw [hz z, List.length_map, List.take_length]
end
end KX
/-! a | b and its like of two instances of one class with an own operator; == of such, told over data. -/
namespace VO
open PySem PySem.Spec PyProof.Rows L2
open PySem.W (findIn isFn selfFirst InstAt Looks)
theorem bin_same {prog : Program} {w : World} {A : Around} {E : Value → Shared → Prop} {s : Shared} {K : PySem.W.Frag} {x y C f : Addr} {ox oy : Obj} {od od' : Option Obj} {op : Operator} {Q : Value → Shared → Prop} (X : K.In s.heap) (I : InstAt s.heap x ox C od) (Ib : InstAt s.heap y oy C od') (hc : selfFirst K C = true)
    (hs : findIn K (.ref C) (PySem.dunder op.info.2) = some (some (.ref f))) (hf : isFn K (.ref f) = true)
    (h : wpAny (model prog w) A (call (.ref f) [.ref x, .ref y]) (PySem.W.CmpBack Q) E s) : wpAny (model prog w) A (binaryOp op (.ref x) (.ref y)) Q E s := by
  obtain ⟨cd, rest, hcd, hm⟩ := PySem.W.ksp_first hc
  rcases hi : op.info with ⟨sym, nm'⟩
  rw [hi] at hs
  dsimp only at hs
  have one := PySem.W.ksp_try X I hs hf h
  obtain ⟨hh, g, d, tt, os⟩ := s
  have L1 : Looks (model prog w) hh (typeOf (.ref x)) (.ref C) := I.type
  have L2 : Looks (model prog w) hh (typeOf (.ref y)) (.ref C) := Ib.type
  have L3 : Looks (model prog w) hh (fillsNumberSlot (.ref C) nm') true := PySem.W.fills_K X hcd hm hs
  simp only [binaryOp, hi]
  refine wpAny_holding (wpAny_bind ?_)
  unfold binaryOp1
  refine wpAny_bind (L1.at (wpAny_bind (L2.at (wpAny_bind (L3.at ?_)))))
  simp only [beq_self_eq_true, if_true]
  ksp_lk
  refine wpAny_mono one (fun r s' hr' => ?_) fun _ _ e => e
  obtain ⟨v, rfl, hq⟩ := hr'
  ksp_lk
  exact hq
section
variable {X : Cx} {CX : CXT} {k : Nat} {C f : Addr} {fd : FuncData} {ps : List Str} {sp : Sp} {E : XK}
def rOpO (C : Addr) (sp : Sp) (E : XK) : R2 := fun x y H Q => ∃ (p dx q dy : Addr) (fs gs : List (Str × V)), x = .ref p ∧ H p = some (.ins C dx fs) ∧ y = .ref q ∧ H q = some (.ins C dy gs) ∧ sp [x, y] H Q E
end
end VO
namespace UL
open PySem PySem.Spec PyProof.Rows L2
section
variable {K : PySem.W.Frag} {T : List NdefX.NTab} {S : Sl} {m1 m2 : Bool} {ta tb : TE} {t u : WE} {H : Hp}
end
end UL
namespace VJ
open PySem PySem.Spec PyProof.Rows L2
section
variable {X : Cx}
/-- set(a list of ints), its size told by what covers it -/
def rSetJ (w : World) (K : PySem.W.Frag) : List V → Hp → VK → Prop := fun xs H Q => ∃ (l : Addr) (zs : List Int), xs = [.ref l] ∧ SqL K H l (zs.map V.int) ∧ zs.length + 1 < scanBound ∧
  ∀ (D : Addr) (n : Nat), H D = none → (∀ L : List Int, (∀ z ∈ zs, z ∈ L) → n ≤ L.length) → Q (.ref D) (upd H D (SetO w D (fun j => decide (j ∈ zs)) n))
end
end VJ
namespace UL
open PySem PySem.Spec PyProof.Rows L2
section
variable {K : PySem.W.Frag} {T : List NdefX.NTab} {S : Sl} {m : Bool} {ta : TE} {t : WE}
def kSortSetJ : Dt → (List Dt → Prop) → Prop
  | .lst ds, P => ∃ zs L : List Int, Dt.ints ds = some zs ∧ zs.length ≤ 4000 ∧ (∀ z ∈ zs, z ∈ L) ∧ L.length < 64 ∧ ∀ ys : List Int, ys.Pairwise (· < ·) → (∀ z, z ∈ ys ↔ z ∈ zs) → P (ys.map Dt.int)
  | _, _ => False
end
end UL
namespace KX
open PySem PySem.Spec PyProof.Rows L2 UL
local macro_rules | `(tactic| walk_at "u") => `(tactic| repeat (first | ((with_reducible refine' wVar_of ?ke ?_); (case ke => rfl)) | with_reducible refine' wC_of ?_ | with_reducible refine' wB_of ?_ | with_reducible refine' wAnd_of ?_ | with_reducible refine' wOr_of ?_ | with_reducible refine' wNot_of ?_ | with_reducible refine' w2_of ?_ | with_reducible refine' w1_of ?_ | with_reducible refine' wCons_of ?_ | with_reducible refine' wNil_of ?_ | ((with_reducible refine' kIxT_of ?ke ?_); (case ke => rfl)) | with_reducible refine' wSeq_of ?_ | with_reducible refine' wSet_of ?_ | ((with_reducible refine' wSetF_of ?ke ?_); (case ke => rfl)) | ((with_reducible refine' wRetO_of ?ke ?_); (case ke => rfl)) | ((with_reducible refine' wApp_of ?ke ?_); (case ke => rfl)) | with_reducible refine' wRet_of ?_ | with_reducible refine' wRetF_of ?_ | with_reducible refine' wIfS_of ?_ | with_reducible refine' wForS_of ?_ | with_reducible refine' wItemsL_of ?_ | with_reducible refine' wItemsT_of ?_ | with_reducible refine' wLc_of ?_ | with_reducible refine' wAndV_of ?_ | with_reducible refine' wOrV_of ?_ | with_reducible refine' wNotV_of ?_ | with_reducible refine' wIf_of ?_ | with_reducible refine' wGet2_of ?_ | with_reducible refine' wChain_of ?_ | with_reducible refine' wExpr_of ?_ | with_reducible refine' kLenL_of ?_ | with_reducible refine' kLenT_of ?_ | ((with_reducible refine' kFld_of ?ke ?_); (case ke => rfl)) | with_reducible refine' wLc2_of ?_ | with_reducible refine' wNext_of ?_ | ((with_reducible refine' kZip2_of ?k1 ?k2 ?_); (case k1 => rfl); (case k2 => rfl)) | ((with_reducible refine' kZip3_of ?k1 ?k2 ?k3 ?_); (case k1 => rfl); (case k2 => rfl); (case k3 => rfl)) | with_reducible refine' kEnumT_of ?_ | with_reducible refine' wPart_of ?_ | with_reducible refine' wNoPart_of ?_ | with_reducible refine' kTupOfL_of ?_ | with_reducible refine' wEndP_of ?_ | ((with_reducible refine' wNewP_of ?ke ?_); (case ke => rfl)) | with_reducible refine' kI_of ?_ | ((with_reducible refine' wRev_of ?ke ?_); (case ke => rfl)) | with_reducible refine' kNeI_of ?_ | with_reducible refine' kEqI_of ?_ | with_reducible refine' kNeS_of ?_ | with_reducible refine' kEqS_of ?_))
theorem rising_pw : ∀ {x : Str} {r : List Str}, risingS x r = true → (x :: r).Pairwise (fun a b => a.cps.toList ≤ b.cps.toList)
  | x, [], _ => by simp
  | x, y :: r, h => by
    unfold risingS at h
    obtain ⟨h1, h2⟩ := Bool.and_eq_true_iff.mp h
    have le : x.cps.toList ≤ y.cps.toList := by
      have q : ¬ y.cps.toList < x.cps.toList := by
        intro z
        rw [ltCps_eq, decide_eq_true z] at h1
        cases h1
      exact List.not_lt.mp q
    have ih := rising_pw h2
    obtain ⟨i1, i2⟩ := List.pairwise_cons.mp ih
    refine List.pairwise_cons.mpr ⟨fun z hz => ?_, ih⟩
    rcases List.mem_cons.mp hz with e | hz
    · exact e ▸ le
    · exact List.le_trans le (i1 z hz)
theorem sorted_pw : ∀ {l : List Str}, sortedS l = true → l.Pairwise (fun a b => a.cps.toList ≤ b.cps.toList)
  | [], _ => List.Pairwise.nil
  | x :: r, h => rising_pw h
theorem str_ext {x y : Str} (h : x.cps.toList = y.cps.toList) : x = y := by
  cases x
  cases y
  simp only [Str.mk.injEq]
  exact Array.toList_inj.mp h
theorem sorted_one {l m : List Str} (h1 : sortedS l = true) (h2 : sortedS m = true) (n1 : l.Nodup) (n2 : m.Nodup) (e : ∀ z, z ∈ l ↔ z ∈ m) : l = m :=
  List.Perm.eq_of_pairwise (fun a b _ _ p q => str_ext (List.le_antisymm p q)) (sorted_pw h1) (sorted_pw h2) ((List.perm_ext_iff_of_nodup n1 n2).mpr e)

section
variable {P : Program} {w : World} {K : PySem.W.Frag} {mg : Str → Option Value} {base : Heap} {TT : List NdefX.NTab}
/-! ### drawing, over data -/
def wDraw : List Dt → (Dt → Prop) → Prop := fun ds P => ∃ m, ds = [.int m] ∧ 0 < m ∧ m < 2 ^ 64 ∧ ∀ d, 0 ≤ d → d < m → P (.int d)
theorem u_draw {k : Nat} {f : Addr} {fd : FuncData} (G : FnOk P w K mg base CX0 k f fd ["_law_pool_here", "_law_many"] spDraw) : FnOk P w K mg base CX0 k f fd ["_law_pool_here", "_law_many"] (spP K TT wDraw) := by
  refine G.imp fun vs H Q E ⟨p, vs', ok, ds, P, e, hp, nok, ht, r, ⟨m, ed, m0, m1, h⟩, q⟩ => ?_
  subst e
  subst ed
  cases r with
  | cons r t =>
    cases t
    refine ⟨p, m, by rw [R.intE r], hp, m0, m1, fun d x y z d0 d1 => ?_⟩
    exact q _ _ _ (h d d0 d1) (fun a o _ n e => by rw [upd_ne n]; exact e) ⟨x, y, z, upd_same⟩ (let ⟨_, _, _, hpe⟩ := hp; tabs_lst hpe ht) (.int d)
theorem pool_sp : PoolSp spPool := fun z H Q E h => ⟨z, rfl, fun p x y w hp => h p x y w hp⟩
/-! ### _law_walk -/
/-- the numbers of a drawn move are such of steps -/
theorem numsD_ok {ss : List Stp} {x : Int} {z : Str} {k : Int} (h : some k ∈ numsD ss x z) : 0 ≤ k ∧ ∃ s, ss[k.toNat]? = some s ∧ s.a = x ∧ s.w = z := by
  unfold numsD at h
  split at h
  · obtain ⟨j, hj, e⟩ := List.mem_map.mp h
    cases e
    unfold numsTo at hj
    obtain ⟨i, hi, e⟩ := List.mem_map.mp hj
    subst e
    obtain ⟨h1, h2⟩ := List.mem_filter.mp hi
    have hi : i < ss.length := List.mem_range.mp h1
    have ei : ss[i]? = some ss[i] := List.getElem?_eq_getElem hi
    rw [ei, Option.any_some, decide_eq_true_eq] at h2
    exact ⟨Int.natCast_nonneg i, ss[i], ei, h2⟩
  · rw [List.mem_singleton] at h
    cases h
theorem prodD_in {rs : Rws} {xs : List Int} {z : Str} : ∀ (n : Nat), n ≤ rs.length → n ≤ xs.length → ∀ l ∈ prodD (rs.take n) (xs.take n) z [[]], ∀ (i : Nat) r x k, rs[i]? = some r → xs[i]? = some x → l[i]? = some k → k ∈ numsD r.2 x z
  | 0, _, _, l, h, i, r, x, k, e1, e2, e3 => by
    rw [List.take_zero, List.take_zero] at h
    have h : l ∈ [[]] := h
    rw [List.mem_singleton.mp h] at e3
    cases e3
  | n + 1, h1, h2, l, h, i, r, x, k, e1, e2, e3 => by
    have d1 : rs[n]? = some rs[n] := List.getElem?_eq_getElem (by omega)
    have d2 : xs[n]? = some xs[n] := List.getElem?_eq_getElem (by omega)
    have hl := prodD_lens (rs := rs) (xs := xs) (z := z) n (by omega) (by omega)
    rw [prodD_take d1 d2] at h
    obtain ⟨l0, h0, h⟩ := List.mem_flatMap.mp h
    obtain ⟨k0, hk, rfl⟩ := List.mem_map.mp h
    have l0l := hl l0 h0
    by_cases hi : i < n
    · rw [List.getElem?_append_left (by omega)] at e3
      exact prodD_in n (by omega) (by omega) l0 h0 i r x k e1 e2 e3
    · have : i = n := by
        have := (List.getElem?_eq_some_iff.mp e3).1
        rw [List.length_append, l0l] at this
        have : i < n + 1 := this
        omega
      subst this
      rw [List.getElem?_append_right (by omega), l0l, Nat.sub_self] at e3
      cases e3
      rw [d1] at e1
      cases e1
      rw [d2] at e2
      cases e2
      exact hk
theorem movesD_in {rs : Rws} {wl : List Str} {xs : List Int} {m : Mov} (hx : xs.length = rs.length) (h : m ∈ movesD rs wl xs) : m.1 ∈ wl ∧ m.2.length = rs.length ∧ ∀ (i : Nat) r x k, rs[i]? = some r → xs[i]? = some x → m.2[i]? = some k → k ∈ numsD r.2 x m.1 := by
  unfold movesD at h
  obtain ⟨z, hz, h⟩ := List.mem_flatMap.mp h
  obtain ⟨l, hl, rfl⟩ := List.mem_map.mp h
  have e : prodD rs xs z [[]] = prodD (rs.take rs.length) (xs.take rs.length) z [[]] := by rw [List.take_length, ← hx, List.take_length]
  rw [e] at hl
  exact ⟨hz, prodD_lens rs.length (Nat.le_refl _) (by omega) l hl, prodD_in rs.length (Nat.le_refl _) (by omega) l hl⟩
theorem movesD_v {rs : Rws} {wl : List Str} {xs : List Int} {m : Mov} (hx : xs.length = rs.length) (h : m ∈ movesD rs wl xs) : NumsV rs m.2 := by
  obtain ⟨_, h1, h2⟩ := movesD_in hx h
  refine ⟨h1, fun i r k e1 e2 => ?_⟩
  have hi : i < xs.length := by
    have := (List.getElem?_eq_some_iff.mp e1).1
    omega
  obtain ⟨k0, s, es, _⟩ := numsD_ok (h2 i r _ _ e1 (List.getElem?_eq_getElem hi) e2)
  exact ⟨k0, (List.getElem?_eq_some_iff.mp es).1⟩
theorem behD_len {rs : Rws} {xs : List Int} {ks : List (Option Int)} (h1 : xs.length = rs.length) (h2 : ks.length = rs.length) : (behD rs xs ks).length = rs.length := by
  induction rs generalizing xs ks with
  | nil => rfl
  | cons r rs ih =>
    cases xs with
    | nil => cases h1
    | cons x xs =>
      cases ks with
      | nil => cases h2
      | cons k ks => exact congrArg (· + 1) (ih (Nat.succ.inj h1) (Nat.succ.inj h2))
/-- the places of a run -/
inductive Walk (rs : Rws) (wl : List Str) : List Mov → List (List Int) → List Int → Prop where
  | start : Walk rs wl [] [rs.map (·.1)] (rs.map (·.1))
  | step {run : List Mov} {ps : List (List Int)} {x : List Int} {m : Mov} : Walk rs wl run ps x → m ∈ movesD rs wl x → Walk rs wl (run ++ [m]) (ps ++ [behD rs x m.2]) (behD rs x m.2)
theorem Walk.len {rs : Rws} {wl : List Str} {run : List Mov} {ps : List (List Int)} {x : List Int} (h : Walk rs wl run ps x) : x.length = rs.length ∧ ps.length = run.length + 1 := by
  induction h with
  | start => exact ⟨List.length_map _, rfl⟩
  | step h hm ih =>
    refine ⟨behD_len ih.1 (movesD_v ih.1 hm).1, ?_⟩
    rw [List.length_append, List.length_append, ih.2]
    rfl
end
end KX
namespace KX
open PySem PySem.Spec PyProof.Rows L2 UL
/-! ### data that is its own like -/
theorem lay_all {α : Type} {g : α → PyData} : ∀ {xs : List α}, (∀ x ∈ xs, (g x).canLay0 = true) → PyData.canLayAll0 (xs.map g) = true
  | [], _ => by
    unfold List.map PyData.canLayAll0
    rfl
  | x :: r, h => by
    rw [List.map_cons]
    unfold PyData.canLayAll0
    rw [h x List.mem_cons_self, lay_all fun y hy => h y (List.mem_cons_of_mem _ hy)]
    rfl
theorem dep_all {α : Type} {g : α → PyData} {n : Nat} : ∀ {xs : List α}, (∀ x ∈ xs, (g x).depth ≤ n) → PyData.depthAll (xs.map g) ≤ n
  | [], _ => by
    unfold List.map PyData.depthAll
    omega
  | x :: r, h => by
    rw [List.map_cons]
    unfold PyData.depthAll
    have h1 := h x List.mem_cons_self
    have h2 := dep_all (xs := r) fun y hy => h y (List.mem_cons_of_mem _ hy)
    omega
mutual
theorem eqv_self : ∀ d : PyData, d.canLay0 = true → PyData.eqv d d = true
  | .none, _ => by unfold PyData.eqv; rfl
  | .bool b, _ => by unfold PyData.eqv; exact beq_self_eq_true b
  | .int i, _ => by unfold PyData.eqv; exact beq_self_eq_true i
  | .str z, _ => by unfold PyData.eqv; exact beq_self_eq_true z
  | .list xs, h => by
    unfold PyData.canLay0 at h
    unfold PyData.eqv
    exact eqvAll_self xs h
  | .tuple xs, h => by
    unfold PyData.canLay0 at h
    unfold PyData.eqv
    exact eqvAll_self xs h
  | .dict kvs, h => by
    unfold PyData.canLay0 at h
    cases h
theorem eqvAll_self : ∀ ds : List PyData, PyData.canLayAll0 ds = true → PyData.eqvAll ds ds = true
  | [], _ => by unfold PyData.eqvAll; rfl
  | d :: ds, h => by
    unfold PyData.canLayAll0 at h
    obtain ⟨h1, h2⟩ := Bool.and_eq_true_iff.mp h
    unfold PyData.eqvAll
    rw [eqv_self d h1, eqvAll_self ds h2]
    rfl
end
def pNum : Option Int → PyData
  | none => .none
  | some i => .int i
def pMv (m : Mov) : PyData := .tuple [.str m.1, .tuple (m.2.map pNum)]
def pIs (ns : List Int) : PyData := .tuple (ns.map .int)
/-! ### the places of a walk are reached -/
theorem behD_get : ∀ {rs : Rws} {xs : List Int} {ks : List (Option Int)} {i : Nat} {r : Int × List Stp} {x : Int} {k : Option Int}, rs[i]? = some r → xs[i]? = some x → ks[i]? = some k → (behD rs xs ks)[i]? = some (ledD r x k)
  | _ :: _, _ :: _, _ :: _, 0, _, _, _, e1, e2, e3 => by
    cases e1
    cases e2
    cases e3
    rfl
  | _ :: rs, _ :: xs, _ :: ks, i + 1, r, x, k, e1, e2, e3 => behD_get (rs := rs) (xs := xs) (ks := ks) (i := i) e1 e2 e3
  | [], _, _, _, _, _, _, e, _, _ => nomatch e
  | _ :: _, [], _, _, _, _, _, _, e, _ => nomatch e
  | _ :: _, _ :: _, [], _, _, _, _, _, _, e => nomatch e
theorem walk_st {hs : List HD} {rs : Rws} {wl : List Str} {run : List Mov} {ps : List (List Int)} {x : List Int} (eh : hs.map (·.r) = rs) (hof : ∀ h ∈ hs, HandOf h.r.2 h.r.1 h.wl h.nl) (h : Walk rs wl run ps x) :
    StOk hs x ∧ ∀ y ∈ ps, StOk hs y := by
  have hl : hs.length = rs.length := by rw [← eh, List.length_map]
  have gr : ∀ {i : Nat} {h : HD}, hs[i]? = some h → rs[i]? = some h.r := fun e => by rw [← eh, List.getElem?_map, e]; rfl
  induction h with
  | start =>
    have s : StOk hs (rs.map (·.1)) := ⟨by rw [List.length_map, hl], fun i h x e1 e2 => by
      rw [List.getElem?_map, gr e1] at e2
      cases e2
      exact ((hof h (List.mem_of_getElem? e1)).nm _).mpr .refl⟩
    exact ⟨s, fun y hy => by rw [List.mem_singleton] at hy; rw [hy]; exact s⟩
  | step hw hm ih =>
    obtain ⟨s0, sp⟩ := ih
    rename_i run ps x m
    have hx : x.length = rs.length := hw.len.1
    have hv := movesD_v hx hm
    obtain ⟨_, ml, mi⟩ := movesD_in hx hm
    have s : StOk hs (behD rs x m.2) := ⟨by rw [behD_len hx hv.1, hl], fun i h y e1 e2 => by
      have hi : i < hs.length := (List.getElem?_eq_some_iff.mp e1).1
      have ex : x[i]? = some (x[i]'(by omega)) := List.getElem?_eq_getElem _
      have ek : m.2[i]? = some (m.2[i]'(by omega)) := List.getElem?_eq_getElem _
      have x0 := s0.2 i h _ e1 ex
      have hk := mi i _ _ _ (gr e1) ex ek
      rw [behD_get (gr e1) ex ek] at e2
      cases e2
      generalize m.2[i]'(by omega) = k at hk ⊢
      generalize x[i]'(by omega) = x1 at hk x0 ⊢
      cases k with
      | none => exact x0
      | some k =>
        obtain ⟨k0, s, es, ea, _⟩ := numsD_ok hk
        have nm := (hof h (List.mem_of_getElem? e1)).nm
        have e3 : ledD h.r x1 (some k) = s.b := by
          simp only [ledD, es]
          rfl
        rw [e3]
        refine (nm _).mpr (.step ?_ (List.mem_of_getElem? es))
        rw [ea]
        exact (nm _).mp x0⟩
    exact ⟨s, fun y hy => by
      rcases List.mem_append.mp hy with hy | hy
      · exact sp y hy
      · rw [List.mem_singleton] at hy
        rw [hy]
        exact s⟩
/-- the move of a turn is one of the place before it -/
theorem walk_mv {rs : Rws} {wl : List Str} {run : List Mov} {ps : List (List Int)} {x : List Int} (h : Walk rs wl run ps x) : ps.length = run.length + 1 ∧ ps[run.length]? = some x ∧ ∀ (i : Nat) m, run[i]? = some m → ∃ y, ps[i]? = some y ∧ y.length = rs.length ∧ m ∈ movesD rs wl y := by
  induction h with
  | start => exact ⟨rfl, rfl, fun i m e => nomatch e⟩
  | step hw hm ih =>
    obtain ⟨l, e0, f⟩ := ih
    rename_i run ps x m
    refine ⟨by rw [List.length_append, List.length_append, l]; rfl, ?_, fun i m1 e => ?_⟩
    · rw [List.length_append, List.getElem?_append_right (by show ps.length ≤ run.length + 1; omega), l]
      show [behD rs x m.2][run.length + 1 - (run.length + 1)]? = _
      rw [Nat.sub_self]
      rfl
    · by_cases hi : i < run.length
      · rw [List.getElem?_append_left hi] at e
        obtain ⟨y, e1, e2⟩ := f i m1 e
        exact ⟨y, by rw [List.getElem?_append_left (by omega)]; exact e1, e2⟩
      · have : i = run.length := by
          have := (List.getElem?_eq_some_iff.mp e).1
          rw [List.length_append] at this
          have : i < run.length + 1 := this
          omega
        subst this
        rw [List.getElem?_append_right (Nat.le_refl _), Nat.sub_self] at e
        cases e
        exact ⟨x, by rw [List.getElem?_append_left (by omega)]; exact e0, hw.len.1, hm⟩
end KX
/-! VX: calls whose exceptions are wished for at the caller's slots: o.m(..), C(..) -/
namespace VX
open PySem PySem.Spec PyProof.Rows L2
section
variable {X : Cx} {CX : CXT} {k : Nat} {f C : Addr} {fd : FuncData} {ps : List Str} {sp : Sp} {dvs : List V} {ds : List Value} {E : L2.St → XK} {x m : Str} {p pos apos : Pos} {e o : Expr} {es : List Expr} {ta : TE} {t : TA}
def tMethSD (C : Addr) (m : Str) (sp : Sp) (dvs : List V) (E : L2.St → XK) (ta : TE) (t : TA) : TE := fun σ H Q => ta σ H fun x H1 => ∃ a dx fs, x = .ref a ∧ H1 a = some (.ins C dx fs) ∧ fs.lookup m = none ∧
  t σ H1 fun vs H2 => sp (x :: (vs ++ dvs)) H2 Q (E σ)
def tMakeSD (C : Addr) (sp : Sp) (dvs : List V) (E : L2.St → XK) (t : TA) : TE := fun σ H Q => t σ H fun vs H1 => ∀ x dx, H1 x = none → H1 dx = none → dx ≠ x →
  sp (.ref x :: (vs ++ dvs)) (upd (upd H1 dx (.own x)) x (.ins C dx [])) (fun v H2 => v = .non ∧ Q (.ref x) H2) (E σ)
theorem run_makeSD {pins : List (Addr × Obj)} {σ : L2.St} {H : Hp} {s : Shared} {Q : VK} {us : List Value} {vs : List V} (M : Mk X.K C f) (F : FnOk X.prog X.w X.K X.mg X.base CX k f fd ps sp) (hr : Room (k + 1) X.A) (hb : Binds X.K fd ps ds) (hd : Vals dvs ds)
    (hx : PassesAt CX X σ (E σ)) (I : Inv X pins σ H s) (r : Vals vs us)
    (h : ∀ x dx, H x = none → H dx = none → dx ≠ x → sp (.ref x :: (vs ++ dvs)) (upd (upd H dx (.own x)) x (.ins C dx [])) (fun v H2 => v = .non ∧ Q (.ref x) H2) (E σ)) :
    wpAny (model X.prog X.w) X.A (call (.ref C) us) (EP X pins σ Q) X.xe s := by
  have hq := h (s.heap.objs.size + 1) s.heap.objs.size (I.hok.fresh (Nat.le_succ _)) (I.hok.fresh (Nat.le_refl _)) (Nat.ne_of_lt (Nat.lt_succ_self _))
  have I2 := Inv.made (C := C) I
  have r2 : Vals (V.ref (s.heap.objs.size + 1) :: (vs ++ dvs)) (Value.ref (s.heap.objs.size + 1) :: (us ++ ds)) := .cons rfl (r.append hd)
  have hl : (Value.ref (s.heap.objs.size + 1) :: us ++ ds).length = ps.length := by
    have e := r2.length
    rw [F.len _ _ _ _ hq] at e
    exact e.symm
  refine wpAny_call (make_map (f := f) I.kIn M.makes M.init (beq_iff_eq.mp M.fn) (codeAny_mono (F.run _ X.stack _ _ ⟨Value.ref (s.heap.objs.size + 1) :: us, []⟩ (Value.ref (s.heap.objs.size + 1) :: (us ++ ds)) _ _ (E σ) (hr.make C us [])
    (I2.env0.make C us []) (hb _ (Value.ref (s.heap.objs.size + 1) :: us) I2.kIn hl) r2 hq) fun r s' hq' => ?_))
  cases r with
  | error e => exact hx pins _ _ e s' I2 hq'
  | ok fl =>
    cases fl with
    | ret u =>
      obtain ⟨v, H', I3, rv, ev, q3⟩ := I2.after hq'
      subst ev
      exact ⟨rv, ⟨V.ref (s.heap.objs.size + 1), H', I3, rfl, q3⟩⟩
    | next => exact False.elim hq'
    | brk => exact False.elim hq'
    | cont => exact False.elim hq'
theorem pe_makeSD (M : Mk X.K C f) (F : FnOk X.prog X.w X.K X.mg X.base CX k f fd ps sp) (hr : Room (k + 1) X.A) (hg : Gl X x) (hm : X.mg x = some (.ref C)) (hb : Binds X.K fd ps ds) (hd : Vals dvs ds) (hx : ∀ σ, PassesAt CX X σ (E σ))
    (ha : PA X (e :: es) t) (hdb : (x == ("__debug__" : Str)) = false := by decide) (he : starEach (e :: es) X.env = (false, eval e X.env) :: starEach es X.env := by rfl) (hpl : (backTo pos (starEach es X.env)).any (·.1) = false := by rfl) :
    PE X (.Call (.Name x p) (e :: es) [] pos) (tMakeSD C sp dvs E t) := by
  refine ⟨fun pins s σ H Q I h => ?_⟩
  refine wpAny_Call_Name_kw (ld_glob I hg hm ?_ hdb)
  refine PySem.W.callWith_K (h₀ := X.base) I.ok.mod.kin M.kp (thn (ha.run pos pins s σ H _ I h) fun us s1 ⟨vs, H1, I1, r, q⟩ => ⟨I1.kIn, ?_⟩) he hpl
  exact run_makeSD M F hr hb hd (hx σ) I1 r q
end
end VX
/-! UL: exceptions, told by data -/
namespace UL
open PySem PySem.Spec PyProof.Rows L2
abbrev WEX := Env → (Dt → Prop) → (Xn → Prop) → Prop
/-- an expression that may raise -/
def SEX (K : PySem.W.Frag) (T : List NdefX.NTab) (W : WX) (S : Sl) (m : Bool) (te : TE) (t : WEX) : Prop := ∀ (C : Ct) (ρ : Env) (P : Dt → Prop) (PX : Xn → Prop) (σ : L2.St) (H : Hp) (Q : VK), C.In T S → t ρ P PX → EnvR K C σ H ρ →
  (∀ d v H', P d → Gr m C H H' → R K C.ok H' d v → Q v H') → (∀ x cls dd H', PX x → Gr m C H H' → XR K C.ok H' x cls dd → W cls dd σ H') → te σ H Q
/-- the promise of a def that may raise -/
def spX (K : PySem.W.Frag) (T : List NdefX.NTab) (w : List Dt → (Dt → Prop) → (Xn → Prop) → Prop) : Sp := fun vs H Q E => ∃ (ok : Addr → Prop) (ds : List Dt) (P : Dt → Prop) (PX : Xn → Prop), NdefX.TabsN T H ∧ Rs K ok H ds vs ∧ w ds P PX ∧
  (∀ d v H', P d → Ex T H H' → R K (fun a => ok a ∨ Fre H a) H' d v → Q v H') ∧ ∀ x cls dd H', PX x → Ex T H H' → XR K (fun a => ok a ∨ Fre H a) H' x cls dd → E cls dd H'
section
variable {K : PySem.W.Frag} {T : List NdefX.NTab} {W : WX} {SL S S' S1 : Sl} {m m' m1 m2 s : Bool} {te ta tb : TE} {t u : WE} {tx : WEX} {C C1 C' : Ct} {σ : L2.St} {H H' H1 : Hp} {ρ : Env} {ts ts1 : TS} {w w' : WS} {XO : XOut}
theorem XR.mv {ok ok' : Addr → Prop} {x : Xn} {cls : Value} {dd : Option Addr} (mv : Mv ok H ok' H') (h : XR K ok H x cls dd) : XR K ok' H' x cls dd := by
  obtain ⟨e, a, v, e1, e2, r⟩ := h
  exact ⟨e, a, v, e1, mv.kp.keep _ _ (fun _ z => nomatch z) e2 (.inr nl_xd), r.mv mv⟩
theorem XR.okm {ok ok' : Addr → Prop} {x : Xn} {cls : Value} {dd : Option Addr} (k : ∀ a, ¬ Fre H a → ok a → ok' a) (h : XR K ok H x cls dd) : XR K ok' H x cls dd := h.mv ⟨.refl, k⟩
theorem sex_call {tr : TA} {ua : WA} {wd : List Dt → (Dt → Prop) → (Xn → Prop) → Prop} (h : SA K T S m tr ua) : SEX K T W S m (tCallSD (spX K T wd) [] (L2.WE W) tr) (fun ρ P PX => ua ρ fun ds => wd ds P PX) := fun C ρ P PX σ H Q hC ht E q qx => by
  refine h C ρ _ σ H _ hC ht E fun ds vs H1 h1 g1 r1 => ?_
  rw [List.append_nil]
  have t1 := (E.gr g1).tab
  rw [hC.T] at t1
  refine ⟨C.ok, ds, P, PX, t1, r1, h1, fun d v H2 hp k r2 => q d v H2 hp (gr_andE g1 (by rw [hC.T]; exact k)) (r2.okm fun a _ z => z.elim id fun z => (E.gr g1).freshF z),
    fun x cls dd H2 hp k r2 => qx x cls dd H2 hp (gr_andE g1 (by rw [hC.T]; exact k)) (r2.okm fun a _ z => z.elim id fun z => (E.gr g1).freshF z)⟩
/-! ### statements -/
abbrev XO.at (XO : XOut) (S : Sl) : Prop := ∀ S0, XO.SX = some S0 → S0 = S
def wDropX (t : WEX) : WS := fun ρ P => t ρ (fun _ => P (.nx ρ)) fun x => P (.xc x ρ)
theorem xpost {SL S S' : Sl} {D : Ends} {x : Xn} {cls : Value} {dd : Option Addr} (hS : ∀ S0, XO.SX = some S0 → S0 = S) (hC : C.In T S) (E : EnvR K C σ H ρ) (own : C.Own) (g : Gr m C H H') (r : XR K C.ok H' x cls dd) (q : Post K T XO SL S' C H D (.xc x ρ)) : XO.W cls dd σ H' :=
  q C σ H' cls dd (fun S0 e => by rw [hS S0 e]; exact hC) .refl (E.gr g) own (g.mv E) r
def wSetX (i : Nat) (t : WEX) : WS := fun ρ P => t ρ (fun d => P (.nx (ρ.set i (some d)))) fun x => P (.xc x ρ)
theorem ss_setX (i : Nat) (h : SEX K T XO.W S m te tx) (hS : ∀ S0, XO.SX = some S0 → S0 = S) (hi : i ∉ S.2 := by decide) : SS K T XO SL S (S.drop i) (tAsg te (gName i)) (wSetX i tx) := fun C ρ P σ H D hC ht E own q =>
  h C ρ _ _ σ H _ hC ht E (fun d v H1 h1 g1 r1 => q _ h1 (C.drop i) _ H1 (In.drop hC) ⟨rfl, rfl, rfl, rfl, rfl⟩ ((E.gr g1).set (by rw [hC.2]; exact hi) r1) (Own.drop own) ((g1.mv E).trans .drop)) fun x cls dd H1 h1 g1 r1 => xpost hS hC E own g1 r1 (q _ h1)
def wRetX (t : WEX) : WS := fun ρ P => t ρ (fun d => P (.rt d)) fun x => P (.xc x ρ)
/-! ### raise -/
/-- the promise of an exception's __init__ that keeps its only argument as f -/
def spI (C : Addr) (f : Str) : Sp := fun vs H Q _ => ∃ (a : Addr) (y : V), vs = [.ref a, y] ∧ H a = some (exo a C none) ∧ ∀ dx, H dx = none → dx ≠ a → Q .non (upd (upd H dx (exd dx [(f, y)])) a (exo a C (some dx)))
def wRaise (C : Addr) (f : Str) (t : WE) : WS := fun ρ P => t ρ fun d => P (.xc ⟨C, f, d⟩ ρ)
def tRaise (W : WX) (CC : Addr) (f : Str) (te : TE) : TS := fun _ σ H => tMkO CC (spI CC f) [] (tCons te tNil) σ H fun cls d H' => W cls d σ H'
theorem heap_mk {H : Hp} {a d : Addr} {o1 o2 o3 o4 : HO} (ha : H a = none) (hd : H d = none) (ne : d ≠ a) : upd (del (upd (upd (upd H a o1) d o2) a o3) a) d o4 = upd H d o4 := by
  funext b
  by_cases h1 : b = d
  · rw [h1, upd_same, upd_same]
  · rw [upd_ne h1, upd_ne h1]
    by_cases h2 : b = a
    · rw [h2, del_same, ha]
    · rw [del_ne h2, upd_ne h2, upd_ne h1, upd_ne h2]
theorem ss_raise {CC : Addr} {f : Str} (h : SE K T S m te t) (hS : ∀ S0, XO.SX = some S0 → S0 = S) : SS K T XO SL S S' (tRaise XO.W CC f te) (wRaise CC f t) := fun C ρ P σ H D hC ht E own q => by
  refine h C ρ _ σ H _ hC ht E fun d v H1 h1 g1 r1 => ?_
  refine ⟨by show 1 ≤ 1000; decide, fun a ha => ⟨a, v, rfl, upd_same, fun dx hdx ne => ?_⟩⟩
  have hd : H1 dx = none := by rw [upd_ne ne] at hdx; exact hdx
  refine ⟨rfl, dx, [(f, v)], upd_same, by rw [upd_ne ne]; exact upd_same, hd, ?_⟩
  rw [heap_mk ha hd ne]
  refine xpost hS hC E own (gr_and g1 (same_up hd)) ⟨rfl, dx, v, rfl, upd_same, r1.same (same_up hd)⟩ (q _ h1)
/-! ### try -/
/-- a clause, told: what it does of an exception -/
abbrev WH := Xn → Env → (Out → Prop) → Prop
/-- the ends of a clause whose name goes -/
def endI (D : Ends) (i : Nat) : Ends := { nx := fun σ' H' => D.nx (σ'.set i none) H', rt := D.rt, bk := fun σ' H' => D.bk (σ'.set i none) H', ct := fun σ' H' => D.ct (σ'.set i none) H' }
def SH (K : PySem.W.Frag) (T : List NdefX.NTab) (XO : XOut) (SL S S' : Sl) (i : Nat) (tf : Addr → Value → Option Addr → TS) (wh : WH) : Prop := ∀ (C : Ct) (ρ : Env) (P : Out → Prop) (σ : L2.St) (H : Hp) (D : Ends) (a : Addr) (cls : Value) (dd : Option Addr) (x : Xn), C.In T S → wh x ρ P → EnvR K C σ H ρ → C.Own → XR K C.ok H x cls dd → H a = none →
  (∀ o, P o → Post K T XO SL S' C H D o) → tf a cls dd (endI D i) (σ.set i (some (.ref a))) H
/-- told = ('tag', e.f) -/
def wTag (CC : Addr) (f tag : Str) (i j : Nat) : WH := fun x ρ P => x.cls = CC ∧ x.f = f ∧ i < ρ.length ∧ P (.nx (wipeE (ρ.set j (some (.tup [.str tag, x.d]))) [i]))
def tTag (CC : Addr) (f tag : Str) (i j : Nat) : Addr → Value → Option Addr → TS := fun a cls d => tAsg (tTup (tCons (tC (.str tag)) (tCons (tXf a cls d CC f (tVar i)) tNil))) (gName j)
theorem sh_tag {CC : Addr} {f tag : Str} {i j : Nat} (hj : (j ∉ S.1 ∧ j ∉ S.2) ∧ (i ∉ S.1 ∧ i ∉ S.2) ∧ i ≠ j := by decide) : SH K T XO SL S S i (tTag CC f tag i j) (wTag CC f tag i j) := fun C ρ P σ H D a cls dd x hC ht E own r na q => by
  obtain ⟨e1, e2, li, ht⟩ := ht
  obtain ⟨ec, da, v, ed, eH, rv⟩ := r
  obtain ⟨⟨hj1, hj2⟩, ⟨hi1, hi2⟩, ne⟩ := hj
  subst ed ec e1 e2
  have li' : i < σ.length := by rw [E.len]; exact li
  refine ⟨.ref a, List.getElem?_set_self li', rfl, rfl, da, _, v, rfl, eH, ?_, ?_⟩
  · simp [List.lookup]
  · refine ⟨by show 2 ≤ sizeLine; rw [sizeLine_eq]; decide, fun p hp => ?_⟩
    have E1 := E.same (same_up (o := .tup [.str tag, v]) hp)
    have r1 : R K C.ok (upd H p (.tup [.str tag, v])) (.tup [.str tag, x.d]) (.ref p) := R.newT hp (.cons (.str _) (.cons rv .nil))
    have E2 := (E1.setN (by rw [hC.1]; exact hj1) (by rw [hC.2]; exact hj2) r1).wipe (vs := [i]) (by
      intro k hk
      rw [List.mem_singleton] at hk
      subst hk
      exact ⟨by rw [hC.1]; exact hi1, by rw [hC.2]; exact hi2⟩)
    have e : L2.wipe (σ.set j (some (.ref p))) [i] = ((σ.set i (some (.ref a))).set j (some (.ref p))).set i none := by
      show (σ.set j (some (.ref p))).set i none = _
      rw [List.set_comm _ _ ne, List.set_set]
    rw [e] at E2
    exact q _ ht C _ _ hC .refl E2 own (.same (same_up hp))
/-- which clause takes an exception -/
def wHds (K : PySem.W.Frag) : List (Addr × WH) → WH
  | [], _, _, _ => False
  | (c, wh) :: r, x, ρ, P => ∃ b, PySem.W.exmOne K (.ref x.cls) (.ref c) = some b ∧ if b = true then wh x ρ P else wHds K r x ρ P
inductive HdsS (K : PySem.W.Frag) (T : List NdefX.NTab) (XO : XOut) (SL S S' : Sl) : List VY.Cl → List (Addr × WH) → Prop
  | nil : HdsS K T XO SL S S' [] []
  | as {c : Addr} {i : Nat} {tf : Addr → Value → Option Addr → TS} {wh : WH} {l : List VY.Cl} {hs : List (Addr × WH)} (h : SH K T XO SL S S' i tf wh) (r : HdsS K T XO SL S S' l hs) : HdsS K T XO SL S S' ((.ref c, some i, tf) :: l) ((c, wh) :: hs)
theorem hds_run {Wout : WX} {D : Ends} {dd : Option Addr} {x : Xn} {P : Out → Prop} (hC : C.In T S) (E : EnvR K C σ H ρ) (own : C.Own) (r : XR K C.ok H x (.ref x.cls) dd) (q : ∀ o, P o → Post K T XO SL S' C H D o) :
    ∀ {l : List VY.Cl} {hs : List (Addr × WH)}, HdsS K T XO SL S S' l hs → wHds K hs x ρ P → VY.wMA K Wout D l (.ref x.cls) dd σ H
  | _, _, .nil, h => h.elim
  | _, _, .as h1 hr, h => by
    obtain ⟨b, e, h⟩ := h
    refine ⟨b, e, fun hb a na => ?_, fun hb => ?_⟩
    · rw [if_pos hb] at h
      exact h1 C ρ P σ H D a _ dd x hC h E own r na q
    · rw [if_neg (by rw [hb]; decide)] at h
      exact hds_run hC E own r q hr h
def wTry (K : PySem.W.Frag) (w : WS) (hs : List (Addr × WH)) : WS := fun ρ P => w ρ fun o => match o with
  | .xc x ρ1 => wHds K hs x ρ1 P
  | o => P o
theorem ss_try {Wout : WX} {tb : WX → TS} {l : List VY.Cl} {hs : List (Addr × WH)} (hb : ∀ W, SS K T ⟨W, some S⟩ SL S S' (tb W) w) (hh : HdsS K T XO SL S S' l hs) : SS K T XO SL S S' (fun D σ H => tb (VY.wMA K Wout D l) D σ H) (wTry K w hs) := fun C ρ P σ H D hC ht E own q => by
  refine hb _ C ρ _ σ H D hC ht E own fun o ho => ?_
  cases o with
  | xc x ρ1 =>
    intro C1 σ1 H1 cls dd hC1 c1 E1 own1 k1 r1
    obtain ⟨ec, _⟩ := id r1
    subst ec
    exact hds_run (hC1 S rfl) E1 own1 r1 (fun o ho => (q o ho).from c1 k1) hh ho
  | nx ρ1 => exact q _ ho
  | rt d => exact q _ ho
  | rf d => exact q _ ho
  | bk ρ1 => exact q _ ho
  | ct ρ1 => exact q _ ho
/-! ### a def that may raise -/
variable {P : Program} {w0 : World} {mg : Str → Option Value} {base : Heap}
theorem fn_x {x qual : Str} {st : Stmt} {f : Addr} {fd : FuncData} {N ps : List Str} {k : Nat} {sp : List Dt → (Dt → Prop) → (Xn → Prop) → Prop} (F : Fun K x qual st f fd) (S : FnScope N ps (defScope st)) (hn : ps.length ≤ N.length) (len : ∀ ds P PX, sp ds P PX → ds.length = ps.length)
    (hb : ∀ (cdv : Value) (A : Around) (outer : List PySem.Env) (s : Shared) (H : Hp) (E : XK), Room k (A.deeper (envOfC qual (defScope st) s.heap.objs.size f cdv)) →
      Takes (cxOf (L2.CX P w0) P w0 K mg base N qual (defScope st) f cdv A outer s H E) (fun cls d _ H' => E cls d H') →
      PassesOwn (model P w0) (A.deeper (envOfC qual (defScope st) s.heap.objs.size f cdv)) (envOfC qual (defScope st) s.heap.objs.size f cdv) (cxOf (L2.CX P w0) P w0 K mg base N qual (defScope st) f cdv A outer s H E).xe →
      ∃ (ts : TS) (wb : WS) (SL S' : Sl), PSs (cxOf (L2.CX P w0) P w0 K mg base N qual (defScope st) f cdv A outer s H E) (defBody st) ts ∧ SS K T ⟨fun cls d _ H' => E cls d H', none⟩ SL ([], []) S' ts wb ∧
        ∀ ds P PX, sp ds P PX → wb (env0 N ds) fun o => match o with
          | .rt d => P d
          | .rf d => P (.lst d)
          | .nx _ => P .non
          | .xc x _ => PX x
          | _ => False) : FnOk P w0 K mg base (L2.CX P w0) (k + 1) f fd ps (spX K T sp) := by
  refine F.okX S (fun vs H Q E ⟨ok, ds, P, PX, _, r, h, _⟩ => by rw [r.len]; exact len _ _ _ h) (fun cdv A outer s H vs Q E hr h => ?_)
  obtain ⟨ok, ds, P, PX, ht, r, h, q, qx⟩ := h
  obtain ⟨ts, wb, SL, S', h1, h2, h3⟩ := hb cdv A outer s H E hr (takes_of rfl rfl rfl rfl) (passes_of rfl)
  have hl : ds.length ≤ N.length := by rw [len _ _ _ h]; exact hn
  refine ⟨ts, h1, ?_⟩
  have bs : ∀ a, (ct0 T H ok).base a → ok a ∨ Fre H a := fun a z => z.imp And.left id
  refine h2 (ct0 T H ok) (env0 N ds) _ (L2.start N vs) H _ ⟨rfl, rfl, rfl⟩ (h3 ds P PX h) (envR0 r hl ht) (fun i hi => nomatch hi) fun o ho => ?_
  have ex : ∀ {H'}, Fin (ct0 T H ok) H' → Ex T H H' := fun f => ⟨fun a o nt e => f.keep a o nt e fun z => z, fun _ => f.tab⟩
  cases o with
  | rt d => exact fun v H' f r => q d v H' ho (ex f) (r.okm fun a _ z => bs a z)
  | rf d => exact fun p us H' f hp e r => q _ _ H' ho (ex f) (.lst e (.inr hp) (r.okm fun a _ z => bs a z.1))
  | nx ρ => exact fun C' σ' H' _ c E _ _ => q _ _ H' ho (ex (c.fin E.fin)) .non
  | bk ρ => exact ho.elim
  | ct ρ => exact ho.elim
  | xc x ρ => exact fun C' σ' H' cls dd _ c E _ _ r => qx x cls dd H' ho (ex (c.fin E.fin)) (r.okm fun a _ z => bs a ((c.base a).mp z.1))
/-- self.f = value -/
theorem fn_xinit {CC : Addr} {qual f : Str} {st : Stmt} {fa : Addr} {fd : FuncData} {ps : List Str} (F : Fun K "__init__" qual st fa fd) (S : FnScope ps ps (defScope st)) (hl : ps.length = 2)
    (T1 : OexC K CC) (hno : PySem.W.findIn K (.ref CC) f = some none)
    (hb : ∀ (cdv : Value) (A : Around) (outer : List PySem.Env) (s : Shared) (H : Hp) (E : XK), Room 0 (A.deeper (envOfC qual (defScope st) s.heap.objs.size fa cdv)) →
      PSs (cxOf CX0 P w0 K mg base ps qual (defScope st) fa cdv A outer s H E).nox (defBody st) (tOst K f (tVar 0) (tVar 1))) : FnOk P w0 K mg base CX0 1 fa fd ps (spI CC f) := by
  refine F.ok S (fun vs H Q E ⟨a, y, e, _⟩ => by rw [e, hl]; rfl) fun cdv A outer s H vs Q E hr h => ⟨_, hb cdv A outer s H E hr, ?_⟩
  obtain ⟨a, y, rfl, e, q⟩ := h
  have g1 : (L2.start ps [.ref a, y])[1]? = some (some y) := rfl
  have g0 : (L2.start ps [.ref a, y])[0]? = some (some (.ref a)) := rfl
  exact ⟨y, g1, .ref a, g0, a, CC, rfl, T1, hno, .inl ⟨e, fun dx n ne => q dx n ne⟩⟩
end
end UL
/-! UL: empty dicts, isinstance by a tuple of classes, items of a list or a tuple -/
namespace UL
open PySem PySem.Spec PyProof.Rows L2
def rEqE : R2 := fun x y H Q => ∃ a b : Addr, x = .ref a ∧ y = .ref b ∧ H a = some (.dT []) ∧ H b = some (.dT []) ∧ Q (.bl true) H
section
variable {X : Cx}
theorem dict0 {P : Program} {w : World} {H : Hp} {h : Heap} {a : Addr} (ok : HOk P w H h) (e : H a = some (.dT [])) : (a == sysModules) = false ∧ h.DictOf (mixKind P w) a [] := by
  obtain ⟨_, y, xs, r, o, es, ep, h1, h2, h3, h4, h5, h6⟩ := dt_of ok e
  have : xs = [] := by cases r; rfl
  subst this
  have e0 : es = #[] := by
    apply Array.toList_inj.mp
    rw [h4]
    rfl
  subst e0
  exact ⟨y, o, _, ep, h1, h2, h3, fun e he => (nomatch he), .nil, List.nodup_nil⟩
theorem op_eqE (hu : X.A.units < cLine) : OpR X (compareOp .Eq) rEqE := by
  intro pins s σ H x y v u Q I rx ry h
  obtain ⟨a, b, rfl, rfl, ea, eb, q⟩ := h
  obtain rfl : v = Value.ref a := rx
  obtain rfl : u = Value.ref b := ry
  obtain ⟨ya, da⟩ := dict0 I.hok ea
  obtain ⟨yb, db⟩ := dict0 I.hok eb
  exact PySem.W.keq_eq (knd := mixKind X.prog X.w) (r := true) ya yb da db hu (fun _ => .nil) (fin_bl I q rfl)
end
section
variable {K : PySem.W.Frag} {T : List NdefX.NTab} {S : Sl} {m m' m1 m2 m3 s : Bool} {te ta tb : TE} {t u : WE} {C C1 C' : Ct} {σ : L2.St} {H H' H1 : Hp} {ρ : Env}
theorem wDropX_of {t : WEX} {P : Out → Prop} (h : t ρ (fun _ => P (.nx ρ)) fun x => P (.xc x ρ)) : wDropX t ρ P := h
theorem wSetX_of {i : Nat} {t : WEX} {P : Out → Prop} (h : t ρ (fun d => P (.nx (ρ.set i (some d)))) fun x => P (.xc x ρ)) : wSetX i t ρ P := h
theorem wRetX_of {t : WEX} {P : Out → Prop} (h : t ρ (fun d => P (.rt d)) fun x => P (.xc x ρ)) : wRetX t ρ P := h
theorem wRaise_of {CC : Addr} {f : Str} {P : Out → Prop} (h : t ρ fun d => P (.xc ⟨CC, f, d⟩ ρ)) : wRaise CC f t ρ P := h
theorem wTry_of {w : WS} {hs : List (Addr × WH)} {P : Out → Prop} (h : w ρ fun o => match o with | .xc x ρ1 => wHds K hs x ρ1 P | o => P o) : wTry K w hs ρ P := h
theorem se_dnew : SE K T S true tDNewT (fun ρ P => P (.dct [] [])) := fun C ρ P σ H Q hC ht E q => fun p hp => q _ _ _ ht (.of (same_up hp)) (R.dct (kvs := []) upd_same .nil)
def kEqE : Dt → Dt → (Dt → Prop) → Prop
  | .dct [] [], .dct [] [], P => P (.bl true)
  | _, _, _ => False
theorem R.edct {ok : Addr → Prop} {v : V} (h : R K ok H (.dct [] []) v) : ∃ a, v = .ref a ∧ H a = some (.dT []) := by
  generalize e1 : ([] : List (List Key)) = ks at h
  cases h with
  | dct e t =>
    rename_i a kvs
    cases kvs with
    | nil => exact ⟨_, rfl, e⟩
    | cons p l => cases e1
theorem oS_eqE : OpS K rEqE kEqE := fun C a b P x y H Q h ra rb hf q => by
  unfold kEqE at h
  split at h
  · obtain ⟨a, rfl, e1⟩ := R.edct ra
    obtain ⟨b, rfl, e2⟩ := R.edct rb
    exact ⟨a, b, rfl, rfl, e1, e2, q _ _ H h (Same.refl H) (.bl _)⟩
  · exact h.elim
/-- ==: flat values, or two empty dicts -/
def kIx : Dt → Dt → (Dt → Prop) → Prop
  | .tup ds, b, P => kIxT (.tup ds) b P
  | a, b, P => kIxL a b P
theorem oS_ix : OpS K (rIx K) kIx := fun C a b P x y H Q h ra rb hf q => by
  cases a with
  | tup ds => exact .inr (.inl (oS_ixT C _ b P x y H Q h ra rb hf q))
  | lst ds => exact .inl (oS_ixL C _ b P x y H Q h ra rb hf q)
  | _ => cases b <;> exact h.elim
/-- isinstance(x, (T1, T2, ..)) -/
def kAnyB (n : String) : List String → Option Bool
  | [] => some false
  | T :: r => match kitB n T with
    | some true => some true
    | some false => kAnyB n r
    | none => none
def kIsiT (Ts : List String) : Dt → (Dt → Prop) → Prop := fun d P => match d.tyN with
  | some n => match kAnyB n Ts with
    | some b => P (.bl b)
    | none => False
  | none => False
theorem kAny_ty {n : String} : ∀ {Ts : List String} {b : Bool}, kAnyB n Ts = some b → PySem.W.kitAny K (.type n) (Ts.map Value.type) = some b
  | [], b, e => e
  | T :: r, b, e => by
    unfold kAnyB at e
    show (match PySem.W.kitOne K (.type n) (.type T) with
      | some true => some true
      | some false => PySem.W.kitAny K (.type n) (r.map Value.type)
      | none => none) = _
    split at e
    · rename_i eb
      rw [kit_ty eb]
      exact e
    · rename_i eb
      rw [kit_ty eb]
      exact kAny_ty e
    · cases e
def tTys : List String → TA
  | [] => tNil
  | T :: r => tCons (tC (.ty T)) (tTys r)
theorem tTys_run : ∀ {Ts : List String} {Q : List V → Hp → Prop}, Q (Ts.map V.ty) H → tTys Ts σ H Q
  | [], _, h => h
  | T :: r, Q, h => tTys_run (Ts := r) (Q := fun xs H2 => Q (V.ty T :: xs) H2) h
theorem clsV_map : ∀ Ts : List String, Paired ClsV (Ts.map V.ty) (Ts.map Value.type)
  | [] => .nil
  | T :: r => .cons (.ty T) (clsV_map r)
end
end UL
namespace KX
open PySem PySem.Spec PyProof.Rows L2 UL
local macro_rules | `(tactic| walk_at "u") => `(tactic| repeat (first | ((with_reducible refine' wVar_of ?ke ?_); (case ke => rfl)) | with_reducible refine' wC_of ?_ | with_reducible refine' wB_of ?_ | with_reducible refine' wAnd_of ?_ | with_reducible refine' wOr_of ?_ | with_reducible refine' wNot_of ?_ | with_reducible refine' w2_of ?_ | with_reducible refine' w1_of ?_ | with_reducible refine' wCons_of ?_ | with_reducible refine' wNil_of ?_ | ((with_reducible refine' kIxT_of ?ke ?_); (case ke => rfl)) | with_reducible refine' wSeq_of ?_ | with_reducible refine' wSet_of ?_ | ((with_reducible refine' wSetF_of ?ke ?_); (case ke => rfl)) | ((with_reducible refine' wRetO_of ?ke ?_); (case ke => rfl)) | ((with_reducible refine' wApp_of ?ke ?_); (case ke => rfl)) | with_reducible refine' wRet_of ?_ | with_reducible refine' wRetF_of ?_ | with_reducible refine' wIfS_of ?_ | with_reducible refine' wForS_of ?_ | with_reducible refine' wItemsL_of ?_ | with_reducible refine' wItemsT_of ?_ | with_reducible refine' wLc_of ?_ | with_reducible refine' wAndV_of ?_ | with_reducible refine' wOrV_of ?_ | with_reducible refine' wNotV_of ?_ | with_reducible refine' wIf_of ?_ | with_reducible refine' wGet2_of ?_ | with_reducible refine' wChain_of ?_ | with_reducible refine' wExpr_of ?_ | with_reducible refine' kLenL_of ?_ | with_reducible refine' kLenT_of ?_ | ((with_reducible refine' kFld_of ?ke ?_); (case ke => rfl)) | with_reducible refine' wLc2_of ?_ | with_reducible refine' wNext_of ?_ | ((with_reducible refine' kZip2_of ?k1 ?k2 ?_); (case k1 => rfl); (case k2 => rfl)) | ((with_reducible refine' kZip3_of ?k1 ?k2 ?k3 ?_); (case k1 => rfl); (case k2 => rfl); (case k3 => rfl)) | with_reducible refine' kEnumT_of ?_ | with_reducible refine' wPart_of ?_ | with_reducible refine' wNoPart_of ?_ | with_reducible refine' kTupOfL_of ?_ | with_reducible refine' wEndP_of ?_ | ((with_reducible refine' wNewP_of ?ke ?_); (case ke => rfl)) | with_reducible refine' kI_of ?_ | ((with_reducible refine' wRev_of ?ke ?_); (case ke => rfl)) | with_reducible refine' kNeI_of ?_ | with_reducible refine' kEqI_of ?_ | with_reducible refine' kNeS_of ?_ | with_reducible refine' kEqS_of ?_ | with_reducible refine' wDropX_of ?_ | with_reducible refine' wSetX_of ?_ | with_reducible refine' wRetX_of ?_ | with_reducible refine' wRaise_of ?_ | with_reducible refine' wTry_of ?_))
/-! ### values of any kind -/
abbrev Ty (d : Dt) : Prop := d.tyN.isSome = true
/-- .. and the parts of a tuple -/
def Ty1 (d : Dt) : Prop := Ty d ∧ ∀ ds, d = .tup ds → ds.length ≤ 1000 ∧ ∀ x ∈ ds, Ty x
def intB : Dt → Bool
  | .int _ => true
  | _ => false
def inNl (h : HD) : Dt → Bool
  | .int i => decide (i ∈ h.nl)
  | _ => false
/-- a value is a standing of the hands -/
def stB (hs : List HD) : Dt → Bool
  | .tup ds => decide (ds.length = hs.length) && (ds.zip hs).all fun p => inNl p.2 p.1
  | _ => false
section
variable {P : Program} {w : World} {K : PySem.W.Frag} {mg : Str → Option Value} {base : Heap} {TT : List NdefX.NTab} {C CS : Addr}
theorem fnOr {CX : CXT} {k : Nat} {f : Addr} {fd : FuncData} {ps : List Str} {s1 s2 : Sp} (G1 : FnOk P w K mg base CX k f fd ps s1) (G2 : FnOk P w K mg base CX k f fd ps s2) : FnOk P w K mg base CX k f fd ps (fun vs H Q E => s1 vs H Q E ∨ s2 vs H Q E) where
  len := fun vs H Q E h => h.elim (G1.len vs H Q E) (G2.len vs H Q E)
  run := fun A outer s H args us vs Q E hr e0 hb r h => h.elim (G1.run A outer s H args us vs Q E hr e0 hb r) (G2.run A outer s H args us vs Q E hr e0 hb r)
/-! ### is_whole, is_name -/
def wWholeA : List Dt → (Dt → Prop) → Prop := fun ds P => ∃ d, ds = [d] ∧ Ty d ∧ P (.bl (intB d))
def NameIn (d : Dt) : Prop := Ty d ∧ ∀ z, d = .str z → NameOk z ∨ (z.length = 0 ∨ 12 < z.length) ∧ z.length ≤ sizeLine
def nameB : Dt → Bool
  | .str z => decide (0 < z.length) && decide (z.length ≤ 12)
  | _ => false
def wNoName : List Dt → (Dt → Prop) → Prop := fun ds P => ∃ d, ds = [d] ∧ Ty d ∧ (∀ z, d = .str z → (z.length = 0 ∨ 12 < z.length) ∧ z.length ≤ sizeLine) ∧ P (.bl false)
theorem sc_nameA : FnScope ["value", "letter"] ["value"] (defScope s_is_name) := ⟨rfl, rfl, rfl, by decide +kernel, rfl, by decide +kernel, by decide +kernel⟩
theorem ok_noname {f : Addr} {fd : FuncData} (F : Fun K "is_name" "is_name" s_is_name f fd) (B : Blt mg) (N : Kin mg) : FnOk P w K mg base CX0 1 f fd ["value"] (spU K TT wNoName) := by
  obtain ⟨tl, hL⟩ := N.letters
  refine fn_u F sc_nameA (by decide) (fun ds Q ⟨_, e, _⟩ => by rw [e]; rfl) fun cdv A outer s H E hr => ?_
  refine ⟨_, _, ([], []), ([], []), (pss_cons (ps_if (PW.pt (pw_or (pt_not (pt_val (pe_callB call_isi (by rfl) B.isinstance (by decide +kernel) (pa_cons (pv 0) (pa_cons (pe_bltn rfl N.str (by decide +kernel) (v := .ty "str") rfl) pa_nil))))) (pw_or1 (pt_not (pt_chain op_le op_le pe_int (pe_callB call_len_str (by rfl) B.len PySem.boot_len (pa_cons (pv 0) pa_nil)) (pe_glob rfl hL (v := .int 12) ⟨_, rfl⟩)))))) (pss_one (ps_ret pe_bl)) pss_nil) (pss_one VL.ps_dead)), (ss_seq (ss_if (st_or (st_not (st_tB (se_isi (SE.b (se_var 0))))) (st_not (st_tTest (se_chain oS_le oS_le (SE.b (se_int (i := 1))) (SE.b (se_cb c1_lenS (SE.b (se_var 0)))) (SE.b (se_int (i := 12))))))) (ss_ret (se_bl (b := false))) ss_nil) ss_dead), ?_⟩
  rintro ds P ⟨d, rfl, ht, hz, q⟩
  walk_at "u"
  cases d with
  | obj => cases ht
  | val => cases ht
  | sql => cases ht
  | nd => cases ht
  | dk => cases ht
  | str z =>
    obtain ⟨h1, h2⟩ := hz z rfl
    refine kIsi_of (b := true) rfl (by decide +kernel) ?_
    refine iteF ?_
    walk_at "u"
    refine ⟨h2, ?_⟩
    refine kI_of ?_
    show if decide ((1 : Int) ≤ (z.length : Int)) = true then _ else _
    rcases h1 with h1 | h1
    · rw [decide_eq_false (by omega)]
      refine iteF ?_
      refine iteT ?_
      walk_at "u"
      exact q
    · rw [decide_eq_true (by omega)]
      refine iteT ?_
      walk_at "u"
      show if (!decide ((z.length : Int) ≤ 12)) = true then _ else _
      rw [decide_eq_false (by omega)]
      refine iteT ?_
      walk_at "u"
      exact q
  | _ =>
    refine kIsi_of (b := false) rfl (by decide +kernel) ?_
    refine iteT ?_
    refine iteT ?_
    walk_at "u"
    exact q
/-! ### is_standing, check_states -/
def wIsStA (C CS : Addr) : List Dt → (Dt → Prop) → Prop := fun ds P => ∃ hs dl wl d, ds = [dSys C CS hs dl wl, d] ∧ hs.length ≤ 1000 ∧ Ty1 d ∧ P (.bl (stB hs d))
/-- an exception's class, its __init__ -/
structure ExcD (P : Program) (w : World) (K : PySem.W.Frag) (mg : Str → Option Value) (base : Heap) (x f : Str) (CC fI : Addr) (fdI : FuncData) : Prop where
  T : OexC K CC
  iC : PySem.W.findIn K (.ref CC) "__init__" = some (some (.ref fI))
  tI : PySem.W.typeIn K (.ref fI) = some (.type "function")
  b : Binds K fdI ["self", f] []
  m : mg x = some (.ref CC)
  xf : XfC K CC
  hno : PySem.W.findIn K (.ref CC) f = some none
  G : FnOk P w K mg base CX0 1 fI fdI ["self", f] (spI CC f)
def wChkX (C CS CB : Addr) : List Dt → (Dt → Prop) → (Xn → Prop) → Prop := fun ds P PX => ∃ hs dl wl d, ds = [dSys C CS hs dl wl, d] ∧ hs.length ≤ 1000 ∧ Ty1 d ∧ if stB hs d = true then P .non else PX ⟨CB, "value", d⟩
end
end KX
namespace KX
open PySem PySem.Spec PyProof.Rows L2 UL
local macro_rules | `(tactic| walk_at "u") => `(tactic| repeat (first | ((with_reducible refine' wVar_of ?ke ?_); (case ke => rfl)) | with_reducible refine' wC_of ?_ | with_reducible refine' wB_of ?_ | with_reducible refine' wAnd_of ?_ | with_reducible refine' wOr_of ?_ | with_reducible refine' wNot_of ?_ | with_reducible refine' w2_of ?_ | with_reducible refine' w1_of ?_ | with_reducible refine' wCons_of ?_ | with_reducible refine' wNil_of ?_ | ((with_reducible refine' kIxT_of ?ke ?_); (case ke => rfl)) | with_reducible refine' wSeq_of ?_ | with_reducible refine' wSet_of ?_ | ((with_reducible refine' wSetF_of ?ke ?_); (case ke => rfl)) | ((with_reducible refine' wRetO_of ?ke ?_); (case ke => rfl)) | ((with_reducible refine' wApp_of ?ke ?_); (case ke => rfl)) | with_reducible refine' wRet_of ?_ | with_reducible refine' wRetF_of ?_ | with_reducible refine' wIfS_of ?_ | with_reducible refine' wForS_of ?_ | with_reducible refine' wItemsL_of ?_ | with_reducible refine' wItemsT_of ?_ | with_reducible refine' wLc_of ?_ | with_reducible refine' wAndV_of ?_ | with_reducible refine' wOrV_of ?_ | with_reducible refine' wNotV_of ?_ | with_reducible refine' wIf_of ?_ | with_reducible refine' wGet2_of ?_ | with_reducible refine' wChain_of ?_ | with_reducible refine' wExpr_of ?_ | with_reducible refine' kLenL_of ?_ | with_reducible refine' kLenT_of ?_ | ((with_reducible refine' kFld_of ?ke ?_); (case ke => rfl)) | with_reducible refine' wLc2_of ?_ | with_reducible refine' wNext_of ?_ | ((with_reducible refine' kZip2_of ?k1 ?k2 ?_); (case k1 => rfl); (case k2 => rfl)) | ((with_reducible refine' kZip3_of ?k1 ?k2 ?k3 ?_); (case k1 => rfl); (case k2 => rfl); (case k3 => rfl)) | with_reducible refine' kEnumT_of ?_ | with_reducible refine' wPart_of ?_ | with_reducible refine' wNoPart_of ?_ | with_reducible refine' kTupOfL_of ?_ | with_reducible refine' wEndP_of ?_ | ((with_reducible refine' wNewP_of ?ke ?_); (case ke => rfl)) | with_reducible refine' kI_of ?_ | ((with_reducible refine' wRev_of ?ke ?_); (case ke => rfl)) | with_reducible refine' kNeI_of ?_ | with_reducible refine' kEqI_of ?_ | with_reducible refine' kNeS_of ?_ | with_reducible refine' kEqS_of ?_ | with_reducible refine' wDropX_of ?_ | with_reducible refine' wSetX_of ?_ | with_reducible refine' wRetX_of ?_ | with_reducible refine' wRaise_of ?_ | with_reducible refine' wTry_of ?_))
/-! ### is_choice, is_move, over any value -/
def chB (row : List (Option Int)) : Dt → Bool
  | .non => decide (none ∈ row)
  | .int i => decide (some i ∈ row)
  | _ => false
def mvB (hs : List HD) (wl : List Str) (xs : List Int) : Dt → Bool
  | .tup [.str z, .tup ks] => (nameB (.str z) && decide (z ∈ wl)) && (decide (ks.length = hs.length) && (ks.zip (rowsD hs xs z)).all fun p => chB p.2 p.1)
  | _ => false
/-- what may be asked of a move -/
def MvTy (d : Dt) : Prop := Ty d ∧ ∀ ds, d = .tup ds → ds.length ≤ 1000 ∧ ∀ w n, ds = [w, n] → NameIn w ∧ Ty1 n
theorem pss_dead {X : Cx} {l : List Stmt} : PSs X l (fun _ _ _ => False) := ⟨fun _ _ _ _ _ _ h => h.elim⟩
section
variable {P : Program} {w : World} {K : PySem.W.Frag} {mg : Str → Option Value} {base : Heap} {TT : List NdefX.NTab} {C CS : Addr}
def wIsChA : List Dt → (Dt → Prop) → Prop := fun ds P => ∃ d row, ds = [d, dLn row] ∧ Ty d ∧ P (.bl (chB row d))
def wIsMvA (C CS : Addr) : List Dt → (Dt → Prop) → Prop := fun ds P => ∃ hs dl wl xs d, ds = [dSys C CS hs dl wl, dIs xs, d] ∧ SyIn hs xs wl ∧ MvTy d ∧ P (.bl (mvB hs wl xs d))
end
end KX
namespace KX
open PySem PySem.Spec PyProof.Rows L2 UL
local macro_rules | `(tactic| walk_at "u") => `(tactic| repeat (first | ((with_reducible refine' wVar_of ?ke ?_); (case ke => rfl)) | with_reducible refine' wC_of ?_ | with_reducible refine' wB_of ?_ | with_reducible refine' wAnd_of ?_ | with_reducible refine' wOr_of ?_ | with_reducible refine' wNot_of ?_ | with_reducible refine' w2_of ?_ | with_reducible refine' w1_of ?_ | with_reducible refine' wCons_of ?_ | with_reducible refine' wNil_of ?_ | ((with_reducible refine' kIxT_of ?ke ?_); (case ke => rfl)) | with_reducible refine' wSeq_of ?_ | with_reducible refine' wSet_of ?_ | ((with_reducible refine' wSetF_of ?ke ?_); (case ke => rfl)) | ((with_reducible refine' wRetO_of ?ke ?_); (case ke => rfl)) | ((with_reducible refine' wApp_of ?ke ?_); (case ke => rfl)) | with_reducible refine' wRet_of ?_ | with_reducible refine' wRetF_of ?_ | with_reducible refine' wIfS_of ?_ | with_reducible refine' wForS_of ?_ | with_reducible refine' wItemsL_of ?_ | with_reducible refine' wItemsT_of ?_ | with_reducible refine' wLc_of ?_ | with_reducible refine' wAndV_of ?_ | with_reducible refine' wOrV_of ?_ | with_reducible refine' wNotV_of ?_ | with_reducible refine' wIf_of ?_ | with_reducible refine' wGet2_of ?_ | with_reducible refine' wChain_of ?_ | with_reducible refine' wExpr_of ?_ | with_reducible refine' kLenL_of ?_ | with_reducible refine' kLenT_of ?_ | ((with_reducible refine' kFld_of ?ke ?_); (case ke => rfl)) | with_reducible refine' wLc2_of ?_ | with_reducible refine' wNext_of ?_ | ((with_reducible refine' kZip2_of ?k1 ?k2 ?_); (case k1 => rfl); (case k2 => rfl)) | ((with_reducible refine' kZip3_of ?k1 ?k2 ?k3 ?_); (case k1 => rfl); (case k2 => rfl); (case k3 => rfl)) | with_reducible refine' kEnumT_of ?_ | with_reducible refine' wPart_of ?_ | with_reducible refine' wNoPart_of ?_ | with_reducible refine' kTupOfL_of ?_ | with_reducible refine' wEndP_of ?_ | ((with_reducible refine' wNewP_of ?ke ?_); (case ke => rfl)) | with_reducible refine' kI_of ?_ | ((with_reducible refine' wRev_of ?ke ?_); (case ke => rfl)) | with_reducible refine' kNeI_of ?_ | with_reducible refine' kEqI_of ?_ | with_reducible refine' kNeS_of ?_ | with_reducible refine' kEqS_of ?_ | with_reducible refine' wDropX_of ?_ | with_reducible refine' wSetX_of ?_ | with_reducible refine' wRetX_of ?_ | with_reducible refine' wRaise_of ?_ | with_reducible refine' wTry_of ?_))
/-- what a system of the law is -/
structure SyAll (hs : List HD) (dl : List Int) (wl : List Str) : Prop where
  st : SySt hs dl wl
  few : Few (hs.map (·.r))
  wl : wl.length ≤ 1000
section
variable {P : Program} {w : World} {K : PySem.W.Frag} {mg : Str → Option Value} {base : Heap} {TT : List NdefX.NTab} {C CS CB CM : Addr}
/-- no standing: refused -/
def wRz (C CS CB : Addr) (n : Nat) : List Dt → (Dt → Prop) → (Xn → Prop) → Prop := fun ds P PX => ∃ hs dl wl d rest, ds = dSys C CS hs dl wl :: d :: rest ∧ rest.length = n ∧ hs.length ≤ 1000 ∧ Ty1 d ∧ stB hs d = false ∧ PX ⟨CB, "value", d⟩
/-- no move: refused -/
def wRm (C CS CM : Addr) : List Dt → (Dt → Prop) → (Xn → Prop) → Prop := fun ds P PX => ∃ hs dl wl xs m, ds = [dSys C CS hs dl wl, dIs xs, m] ∧ SyIn hs xs wl ∧ MvTy m ∧ mvB hs wl xs m = false ∧ PX ⟨CM, "value", m⟩
/-- what moves, able, started_at do of any value: an answer, or the value refused -/
def wAsk (C CS CB : Addr) : List Dt → (Dt → Prop) → (Xn → Prop) → Prop := fun ds P PX => ∃ hs dl wl d, ds = [dSys C CS hs dl wl, d] ∧ SyAll hs dl wl ∧ Ty1 d ∧ if stB hs d = true then ∀ r, P r else PX ⟨CB, "value", d⟩
def wAskB (C CS CB CM : Addr) : List Dt → (Dt → Prop) → (Xn → Prop) → Prop := fun ds P PX => ∃ hs dl wl d m, ds = [dSys C CS hs dl wl, d, m] ∧ SyAll hs dl wl ∧ Ty1 d ∧ MvTy m ∧ if stB hs d = true then ∀ xs, d = dIs xs → if mvB hs wl xs m = true then ∀ r, P r else PX ⟨CM, "value", m⟩ else PX ⟨CB, "value", d⟩
end
end KX
namespace KX
open PySem PySem.Spec PyProof.Rows L2 UL
local macro_rules | `(tactic| walk_at "u") => `(tactic| repeat (first | ((with_reducible refine' wVar_of ?ke ?_); (case ke => rfl)) | with_reducible refine' wC_of ?_ | with_reducible refine' wB_of ?_ | with_reducible refine' wAnd_of ?_ | with_reducible refine' wOr_of ?_ | with_reducible refine' wNot_of ?_ | with_reducible refine' w2_of ?_ | with_reducible refine' w1_of ?_ | with_reducible refine' wCons_of ?_ | with_reducible refine' wNil_of ?_ | ((with_reducible refine' kIxT_of ?ke ?_); (case ke => rfl)) | with_reducible refine' wSeq_of ?_ | with_reducible refine' wSet_of ?_ | ((with_reducible refine' wSetF_of ?ke ?_); (case ke => rfl)) | ((with_reducible refine' wRetO_of ?ke ?_); (case ke => rfl)) | ((with_reducible refine' wApp_of ?ke ?_); (case ke => rfl)) | with_reducible refine' wRet_of ?_ | with_reducible refine' wRetF_of ?_ | with_reducible refine' wIfS_of ?_ | with_reducible refine' wForS_of ?_ | with_reducible refine' wItemsL_of ?_ | with_reducible refine' wItemsT_of ?_ | with_reducible refine' wLc_of ?_ | with_reducible refine' wAndV_of ?_ | with_reducible refine' wOrV_of ?_ | with_reducible refine' wNotV_of ?_ | with_reducible refine' wIf_of ?_ | with_reducible refine' wGet2_of ?_ | with_reducible refine' wChain_of ?_ | with_reducible refine' wExpr_of ?_ | with_reducible refine' kLenL_of ?_ | with_reducible refine' kLenT_of ?_ | ((with_reducible refine' kFld_of ?ke ?_); (case ke => rfl)) | with_reducible refine' wLc2_of ?_ | with_reducible refine' wNext_of ?_ | ((with_reducible refine' kZip2_of ?k1 ?k2 ?_); (case k1 => rfl); (case k2 => rfl)) | ((with_reducible refine' kZip3_of ?k1 ?k2 ?k3 ?_); (case k1 => rfl); (case k2 => rfl); (case k3 => rfl)) | with_reducible refine' kEnumT_of ?_ | with_reducible refine' wPart_of ?_ | with_reducible refine' wNoPart_of ?_ | with_reducible refine' kTupOfL_of ?_ | with_reducible refine' wEndP_of ?_ | ((with_reducible refine' wNewP_of ?ke ?_); (case ke => rfl)) | with_reducible refine' kI_of ?_ | ((with_reducible refine' wRev_of ?ke ?_); (case ke => rfl)) | with_reducible refine' kNeI_of ?_ | with_reducible refine' kEqI_of ?_ | with_reducible refine' kNeS_of ?_ | with_reducible refine' kEqS_of ?_ | with_reducible refine' wDropX_of ?_ | with_reducible refine' wSetX_of ?_ | with_reducible refine' wRetX_of ?_ | with_reducible refine' wRaise_of ?_ | with_reducible refine' wTry_of ?_))
section
variable {P : Program} {w : World} {K : PySem.W.Frag} {mg : Str → Option Value} {base : Heap} {TT : List NdefX.NTab}
def wMoves : List Dt → (List Dt → Prop) → Prop := fun ds P => ∃ rs xs, ds = [dRows rs, dIs xs] ∧ xs.length = rs.length ∧ Few rs ∧ (wds rs).length < 64 ∧ ∀ wl, WordsOf rs wl → wl.length < 64 → P ((movesD rs wl xs).map dMv)
def wStart : List Dt → (Dt → Prop) → Prop := fun ds P => ∃ rs, ds = [dRows rs] ∧ rs.length ≤ 1000 ∧ P (dIs (rs.map (·.1)))
def wWalk : List Dt → (Dt → Prop) → Prop := fun ds P => ∃ (rs : Rws) (ns : List Int) (wl : List Str), ds = [dRows rs, .lst (ns.map Dt.int)] ∧ Few rs ∧ (wds rs).length < 64 ∧ ns.length ≤ 1000 ∧ WordsOf rs wl ∧ ∀ run ps x, Walk rs wl run ps x → run.length ≤ 3 * ns.length → P (.tup [.tup (run.map dMv), .lst (ps.map dIs)])
end
end KX
/-! UL: parts of a tuple; a list that is only read (the law's argument) -/
namespace UL
open PySem PySem.Spec PyProof.Rows L2
section
variable {K : PySem.W.Frag} {T : List NdefX.NTab} {S : Sl} {m m' m1 m2 m3 s : Bool} {te ta tb : TE} {tl th : TO} {wl wh : WO} {t u : WE} {C C' : Ct} {σ : L2.St} {H H' H1 : Hp} {ρ : Env}
/-- a tuple's part, told -/
def wSlT (t : WE) (wl wh : WO) : WE := fun ρ P => t ρ fun a => match a with
    | .tup ds => wl ρ fun lo => wh ρ fun hi => P (.tup (cutD ds lo hi))
    | _ => False
theorem wSlT_of {P : Dt → Prop} (h : t ρ fun a => match a with
    | .tup ds => wl ρ fun lo => wh ρ fun hi => P (.tup (cutD ds lo hi))
    | _ => False) : wSlT t wl wh ρ P := h
/-! ### the law's argument -/
theorem sql_of {ok : Addr → Prop} {a : Addr} {ns : List Int} (h : SqL K H a (ns.map V.int)) (q : ok a) : R K ok H (.sql ns) (.ref a) := h.elim (fun e => .sql e q) .sqk
theorem R.sqlE {ok : Addr → Prop} {ns : List Int} {v : V} (h : R K ok H (.sql ns) v) : ∃ a, v = .ref a ∧ SqL K H a (ns.map V.int) := by
  cases h with
  | sql e q => exact ⟨_, rfl, .inl e⟩
  | sqk e => exact ⟨_, rfl, .inr e⟩
def kIxQ : Dt → Dt → (Dt → Prop) → Prop
  | .sql ns, .int i, P => match L2.atI ns i with
    | some x => P (.int x)
    | none => False
  | _, _, _ => False
theorem atI_mapV {ns : List Int} {i : Int} {x : Int} (e : L2.atI ns i = some x) : L2.atI (ns.map V.int) i = some (.int x) := by
  unfold L2.atI at e ⊢
  rw [List.length_map]
  cases q : ixN ns.length i with
  | none => rw [q] at e; cases e
  | some j =>
    rw [q] at e
    show (ns.map V.int)[j]? = _
    rw [List.getElem?_map, show ns[j]? = some x from e]
    rfl
theorem oS_ixQ : OpS K (rIxL K) kIxQ := fun C a b P x y H Q h ra rb hf q => by
  cases a <;> cases b <;> first | exact h.elim | skip
  rename_i ns i
  unfold kIxQ at h
  cases e : L2.atI ns i with
  | none => simp only [e] at h
  | some d =>
    simp only [e] at h
    have ra' : R K C.ok H (.sql ns) x := ra
    obtain ⟨a, rfl, e1⟩ := ra'.sqlE
    exact ⟨a, _, i, _, rfl, R.intE rb, e1, atI_mapV e, q _ _ H h (Same.refl H) (.int _)⟩
def kLenQ : Dt → (Dt → Prop) → Prop
  | .sql ns, P => P (.int ns.length)
  | _, _ => False
theorem c1_lenQ : C1 K (rLen_ K) kLenQ := fun C a P x H Q h ra hf q => by
  cases a <;> first | exact h.elim | skip
  rename_i ns
  have ra' : R K C.ok H (.sql ns) x := ra
  obtain ⟨a, rfl, e1⟩ := ra'.sqlE
  refine ⟨a, _, rfl, .inl e1, ?_⟩
  rw [List.length_map]
  exact q _ _ H h (Same.refl H) (.int _)
def cutQ (ns : List Int) (lo hi : Option Int) : List Int := (ns.drop (HT.sIx ns.length 0 lo)).take (HT.sIx ns.length ns.length hi - HT.sIx ns.length 0 lo)
def wSlQ (t : WE) (wl wh : WO) : WA := fun ρ P => t ρ fun a => match a with
    | .sql ns => wl ρ fun lo => wh ρ fun hi => P ((cutQ ns lo hi).map Dt.int)
    | _ => False
theorem wSlQ_of {P : List Dt → Prop} (h : t ρ fun a => match a with
    | .sql ns => wl ρ fun lo => wh ρ fun hi => P ((cutQ ns lo hi).map Dt.int)
    | _ => False) : wSlQ t wl wh ρ P := h
theorem kIxQ_of {ns : List Int} {i x : Int} {P : Dt → Prop} (e : L2.atI ns i = some x) (h : P (.int x)) : kIxQ (.sql ns) (.int i) P := by
  unfold kIxQ
  simp only [e]
  exact h
theorem kLenQ_of {ns : List Int} {P : Dt → Prop} (h : P (.int ns.length)) : kLenQ (.sql ns) P := h
theorem kIxx_tup {ds : List Dt} {i : Int} {d : Dt} {P : Dt → Prop} (e : L2.atI ds i = some d) (h : P d) : kIx (.tup ds) (.int i) P := kIxT_of e h
theorem kIxx_lst {ds : List Dt} {i : Int} {d : Dt} {P : Dt → Prop} (e : L2.atI ds i = some d) (h : P d) : kIx (.lst ds) (.int i) P := kIxL_of e h
/-! ### -x -/
def kNeg : Dt → (Dt → Prop) → Prop
  | .int i, P => P (.int (-i))
  | _, _ => False
theorem se_neg (ha : SB K T S m ta t) : SE K T S m (tUn (rU fun i => .int (-i)) ta) (w1 kNeg t) := fun C ρ P σ H Q hC ht E q => by
  refine ha C ρ _ σ H _ hC ht E fun a x H1 h1 g1 r1 => ?_
  cases a <;> first | exact h1.elim | skip
  rename_i i
  exact ⟨i, R.intE r1, q _ _ H1 h1 g1 (.int _)⟩
theorem kLstT_of {ds : List Dt} {P : List Dt → Prop} (h : P ds) : kLstOf (.tup ds) P := h
theorem kLstL_of {ds : List Dt} {P : List Dt → Prop} (h : P ds) : kLstOf (.lst ds) P := h
theorem kNeg_of {i : Int} {P : Dt → Prop} (h : P (.int (-i))) : kNeg (.int i) P := h
/-- an item of a list, drawn -/
theorem kIxL_all {ds : List Dt} {i : Int} {P : Dt → Prop} (h0 : 0 ≤ i) (h1 : i < (ds.length : Nat)) (h : ∀ d ∈ ds, P d) : kIxL (.lst ds) (.int i) P := by
  have hl : i.toNat < ds.length := by omega
  have e : ds[i.toNat]? = some ds[i.toNat] := List.getElem?_eq_getElem hl
  refine kIxL_of (d := ds[i.toNat]) ?_ (h _ (List.getElem_mem _))
  have := atI_nat e
  rwa [Int.toNat_of_nonneg h0] at this
/-! ### a def that draws from its first argument -/
def env0P (N : List Str) (ds : List Dt) : Env := none :: (ds.map some ++ List.replicate (N.length - 1 - ds.length) none)
theorem startP {N : List Str} {p : Addr} {vs : List V} : L2.start N (.ref p :: vs) = some (.ref p) :: L2.start (N.drop 1) vs := by
  unfold L2.start
  rw [List.map_cons, List.cons_append, List.length_cons, List.length_drop, show N.length - (vs.length + 1) = N.length - 1 - vs.length by omega]
theorem env0P_eq {N : List Str} {ds : List Dt} : env0P N ds = none :: env0 (N.drop 1) ds := by
  unfold env0P env0
  rw [List.length_drop]
def ctP (T : List NdefX.NTab) (H : Hp) (ok : Addr → Prop) (p : Addr) : Ct := ⟨H, ok, fun a => a = p, fun a => a = p, [], [0], fun _ => p, T⟩
theorem envRP {N : List Str} {ok : Addr → Prop} {p : Addr} {ds : List Dt} {vs : List V} (r : Rs K ok H ds vs) (hl : ds.length + 1 ≤ N.length) (ht : NdefX.TabsN T H) (hp : PlAt H p) (nok : ¬ ok p) : EnvR K (ctP T H ok p) (L2.start N (.ref p :: vs)) H (env0P N ds) where
  len := by
    rw [startP, env0P_eq, List.length_cons, List.length_cons, start_len r (by rw [List.length_drop]; omega)]
  keep := fun a o _ e _ => e
  dom := fun a e => e
  lent := fun a h => by
    have h : a = p := h
    exact ⟨h ▸ hp, h⟩
  tab := ht
  sh := fun i d _ hi e => by
    rw [env0P_eq] at e
    rw [startP]
    cases i with
    | zero => cases e
    | succ i =>
      obtain ⟨v, e1, r1⟩ := start_get r e
      refine ⟨v, e1, r1.okm fun a _ q => ⟨.inl ⟨q, fun z => nok ((show a = p from z) ▸ q)⟩, fun j _ z => nok ((show a = p from z) ▸ q)⟩⟩
  own := fun i hi => nomatch hi
  pls := fun i hi => by
    have : i = 0 := List.mem_singleton.mp hi
    subst this
    rw [env0P_eq, startP]
    exact ⟨Nat.succ_pos _, rfl, hp, .inr rfl⟩
  dj := fun i hi => nomatch hi
  inj := fun i j hi hj _ => by
    have a1 : i = 0 := hi.elim (fun h => nomatch h) List.mem_singleton.mp
    have a2 : j = 0 := hj.elim (fun h => nomatch h) List.mem_singleton.mp
    rw [a1, a2]
theorem fn_p {P : Program} {w : World} {mg : Str → Option Value} {base : Heap} {x qual : Str} {st : Stmt} {f : Addr} {fd : FuncData} {N ps : List Str} {k : Nat} {sp : List Dt → (Dt → Prop) → Prop} (F : Fun K x qual st f fd) (S : FnScope N ps (defScope st)) (hn : ps.length ≤ N.length) (len : ∀ ds Q, sp ds Q → ds.length + 1 = ps.length)
    (hb : ∀ (cdv : Value) (A : Around) (outer : List PySem.Env) (s : Shared) (H : Hp) (E : XK), Room k (A.deeper (envOfC qual (defScope st) s.heap.objs.size f cdv)) →
      ∃ (ts : TS) (wb : WS) (SL S' : Sl), PSs (cxOf CX0 P w K mg base N qual (defScope st) f cdv A outer s H E).nox (defBody st) ts ∧ SS K T XO0 SL ([], [0]) S' ts wb ∧
        ∀ ds Q, sp ds Q → wb (env0P N ds) fun o => match o with
          | .rt d => Q d
          | .rf d => Q (.lst d)
          | .nx _ => Q .non
          | _ => False) : FnOk P w K mg base CX0 (k + 1) f fd ps (spP K T sp) := by
  refine F.ok S (fun vs H Q E ⟨p, vs', ok, ds, P, e, _, _, _, r, h, _⟩ => by rw [e, List.length_cons, r.len]; exact len _ _ h) (fun cdv A outer s H vs Q E hr h => ?_)
  obtain ⟨p, vs', ok, ds, P, rfl, hp, nok, ht, r, h, q⟩ := h
  obtain ⟨ts, wb, SL, S', h1, h2, h3⟩ := hb cdv A outer s H E hr
  have hl : ds.length + 1 ≤ N.length := by rw [len _ _ h]; exact hn
  refine ⟨ts, h1, ?_⟩
  have bs : ∀ a, (ctP T H ok p).base a → ok a ∨ Fre H a := fun a z => z.imp And.left id
  have fin : ∀ {d v H'}, P d → Fin (ctP T H ok p) H' → R K (fun a => ok a ∨ Fre H a) H' d v → Q v H' := fun hd f r => q _ _ _ hd (fun a o nt ne e => f.keep a o nt e ne) (f.lent p rfl) f.tab r
  refine h2 (ctP T H ok p) (env0P N ds) _ _ H _ ⟨rfl, rfl, rfl⟩ (h3 ds P h) (envRP r hl ht hp nok) (fun i hi => nomatch hi) fun o ho => ?_
  cases o with
  | rt d => exact fun v H' f r => fin ho f (r.okm fun a _ z => bs a z)
  | rf d => exact fun p us H' f hp e r => fin ho f (.lst e (.inr hp) (r.okm fun a _ z => bs a z.1))
  | nx ρ => exact fun C' σ' H' _ c E _ _ => fin ho (c.fin E.fin) .non
  | bk ρ => exact ho.elim
  | ct ρ => exact ho.elim
  | xc x ρ => exact ho.elim
/-! ### try, by name -/
def tTryA (K : PySem.W.Frag) (Wout : WX) (tb : WX → TS) (l : List VY.Cl) : TS := fun D σ H => tb (VY.wMA K Wout D l) D σ H
theorem ps_tryB {X : Cx} {body : List Stmt} {h₀ : ExceptHandler} {hds : List ExceptHandler} {l : List VY.Cl} {pos : Pos} {tb : WX → TS} {Wout : WX} (hs : X.stack = X.env :: X.outer) (hf : X.env.frame = some X.env.locals) (hN : X.N.Nodup) (tk : Takes X Wout)
    (hb : ∀ (W : WX) (pn : List (Addr × Obj)) (xe : Value → Shared → Prop), Takes (X.tr pn xe) W → PassesOwn (model X.prog X.w) X.A X.env xe → PSs (X.tr pn xe) body (tb W))
    (hh : VY.HdsA X (h₀ :: hds) l) : PS X (.Try body (h₀ :: hds) [] [] pos) (tTryA X.K Wout tb l) := VY.ps_tryA hs hf hN tk hb hh
theorem ss_tryB {XO : XOut} {SL S S' : Sl} {w : WS} {Wout : WX} {tb : WX → TS} {l : List VY.Cl} {hs : List (Addr × WH)} (hb : ∀ W, SS K T ⟨W, some S⟩ SL S S' (tb W) w) (hh : HdsS K T XO SL S S' l hs) : SS K T XO SL S S' (tTryA K Wout tb l) (wTry K w hs) := ss_try hb hh
end
end UL
namespace KX
open PySem PySem.Spec PyProof.Rows L2 UL
local macro_rules | `(tactic| walk_at "u") => `(tactic| repeat (first | ((with_reducible refine' wVar_of ?ke ?_); (case ke => rfl)) | with_reducible refine' wC_of ?_ | with_reducible refine' wB_of ?_ | with_reducible refine' wAnd_of ?_ | with_reducible refine' wOr_of ?_ | with_reducible refine' wNot_of ?_ | with_reducible refine' w2_of ?_ | with_reducible refine' w1_of ?_ | with_reducible refine' wCons_of ?_ | with_reducible refine' wNil_of ?_ | ((with_reducible refine' kIxT_of ?ke ?_); (case ke => rfl)) | with_reducible refine' wSeq_of ?_ | with_reducible refine' wSet_of ?_ | ((with_reducible refine' wSetF_of ?ke ?_); (case ke => rfl)) | ((with_reducible refine' wRetO_of ?ke ?_); (case ke => rfl)) | ((with_reducible refine' wApp_of ?ke ?_); (case ke => rfl)) | with_reducible refine' wRet_of ?_ | with_reducible refine' wRetF_of ?_ | with_reducible refine' wIfS_of ?_ | with_reducible refine' wForS_of ?_ | with_reducible refine' wItemsL_of ?_ | with_reducible refine' wItemsT_of ?_ | with_reducible refine' wLc_of ?_ | with_reducible refine' wAndV_of ?_ | with_reducible refine' wOrV_of ?_ | with_reducible refine' wNotV_of ?_ | with_reducible refine' wIf_of ?_ | with_reducible refine' wGet2_of ?_ | with_reducible refine' wChain_of ?_ | with_reducible refine' wExpr_of ?_ | with_reducible refine' kLenL_of ?_ | with_reducible refine' kLenT_of ?_ | ((with_reducible refine' kFld_of ?ke ?_); (case ke => rfl)) | with_reducible refine' wLc2_of ?_ | with_reducible refine' wNext_of ?_ | ((with_reducible refine' kZip2_of ?k1 ?k2 ?_); (case k1 => rfl); (case k2 => rfl)) | ((with_reducible refine' kZip3_of ?k1 ?k2 ?k3 ?_); (case k1 => rfl); (case k2 => rfl); (case k3 => rfl)) | with_reducible refine' kEnumT_of ?_ | with_reducible refine' wPart_of ?_ | with_reducible refine' wNoPart_of ?_ | with_reducible refine' kTupOfL_of ?_ | with_reducible refine' wEndP_of ?_ | ((with_reducible refine' wNewP_of ?ke ?_); (case ke => rfl)) | with_reducible refine' kI_of ?_ | ((with_reducible refine' wRev_of ?ke ?_); (case ke => rfl)) | with_reducible refine' kNeI_of ?_ | with_reducible refine' kEqI_of ?_ | with_reducible refine' kNeS_of ?_ | with_reducible refine' kEqS_of ?_ | with_reducible refine' wDropX_of ?_ | with_reducible refine' wSetX_of ?_ | with_reducible refine' wRetX_of ?_ | with_reducible refine' wRaise_of ?_ | with_reducible refine' wTry_of ?_ | with_reducible refine' wSlT_of ?_ | with_reducible refine' wSlQ_of ?_ | with_reducible refine' kNeg_of ?_ | with_reducible refine' kLenQ_of ?_ | with_reducible refine' kLstT_of ?_ | with_reducible refine' kLstL_of ?_))
section
variable {K : PySem.W.Frag} {H : Hp}
theorem cut_map (ns : List Int) (lo hi : Option Int) : ∃ ms : List Int, cutV (ns.map V.int) lo hi = ms.map V.int ∧ ms.length ≤ ns.length := by
  refine ⟨(ns.drop (HT.sIx (ns.map V.int).length 0 lo)).take (HT.sIx (ns.map V.int).length (ns.map V.int).length hi - HT.sIx (ns.map V.int).length 0 lo), ?_, ?_⟩
  · unfold cutV
    rw [List.map_take, List.map_drop]
  · rw [List.length_take, List.length_drop]
    omega
end
theorem SS.run {K : PySem.W.Frag} {T : List NdefX.NTab} {C : Ct} {σ : L2.St} {ρ : UL.Env} {H : Hp} {XO : XOut} {SL S S' : Sl} {ts : TS} {w : WS} (hs : SS K T XO SL S S' ts w) (P : Out → Prop) (D : Ends) (hC : C.In T S) (ht : w ρ P) (E : EnvR K C σ H ρ) (ow : C.Own) (q : ∀ o, P o → Post K T XO SL S' C H D o) : ts D σ H := hs C ρ P σ H D hC ht E ow q
section
variable {P : Program} {w : World} {K : PySem.W.Frag} {mg : Str → Option Value} {base : Heap} {TT : List NdefX.NTab} {C CS T : Addr} {H H' : Hp}
def wCell : List Dt → (Dt → Prop) → Prop := fun ds P => ∃ (ns : List Int) (k : Nat), ds = [.sql ns, .int k] ∧ k ≤ 1000 ∧ ∀ z : Int, P (.int z)
theorem sc_cellU : FnScope ["_law_script", "_law_k"] ["_law_script", "_law_k"] (defScope s_law_cell) := ⟨rfl, rfl, rfl, by decide +kernel, rfl, by decide +kernel, by decide +kernel⟩
theorem u_cell {f : Addr} {fd : FuncData} (F : Fun K "_law_cell" "_law_cell" s_law_cell f fd) (B : Blt mg) : FnOk P w K mg base CX0 1 f fd ["_law_script", "_law_k"] (spU K TT wCell) := by
  refine fn_u F sc_cellU (by decide) (fun ds Q ⟨_, _, e, _⟩ => by rw [e]; rfl) fun cdv A outer s H E hr => ?_
  refine ⟨_, _, ([], []), ([], []), (pss_cons (ps_if (pt_cmpR op_lt (pv 1) (pe_callB call_len_ (by rfl) B.len PySem.boot_len (pa_cons (pv 0) pa_nil)) (nomark _)) (pss_one (ps_ret (pe_ix (r := rIxL K) ix_list (pv 0) (pv 1) (fun _ _ => rfl)))) pss_nil)
      (pss_one (ps_ret (pe_op op_add (pe_op op_mul pe_int (pv 1)) pe_int)))), (ss_seq (ss_if (st_tTest (se_op oS_lt (SE.b (se_var 1)) (SE.b (se_cb c1_lenQ (SE.b (se_var 0)))))) (ss_ret (se_op oS_ixQ (SE.b (se_var 0)) (SE.b (se_var 1)))) ss_nil)
      (ss_ret (se_op oS_add (SE.b (se_op oS_mul (SE.b (se_int (i := 1009))) (SE.b (se_var 1)))) (SE.b (se_int (i := 5)))))), ?_⟩
  rintro ds P ⟨ns, k, rfl, hk, q⟩
  walk_at "u"
  show if decide ((k : Int) < (ns.length : Nat)) = true then _ else _
  by_cases h : (k : Int) < (ns.length : Nat)
  · rw [decide_eq_true h]
    refine iteT ?_
    walk_at "u"
    refine kIxQ_of (atI_nat (List.getElem?_eq_getElem (by omega : k < ns.length))) ?_
    exact q _
  · rw [decide_eq_false h]
    refine iteF ?_
    walk_at "u"
    refine ⟨?_, ?_⟩
    · exact .inl ⟨by decide, by decide⟩
    · walk_at "u"
      exact q _
/-! ### _law_same, over data -/
end
end KX
namespace KX
open PySem PySem.Spec PyProof.Rows L2 UL
local macro_rules | `(tactic| walk_at "u") => `(tactic| repeat (first | ((with_reducible refine' wVar_of ?ke ?_); (case ke => rfl)) | with_reducible refine' wC_of ?_ | with_reducible refine' wB_of ?_ | with_reducible refine' wAnd_of ?_ | with_reducible refine' wOr_of ?_ | with_reducible refine' wNot_of ?_ | with_reducible refine' w2_of ?_ | with_reducible refine' w1_of ?_ | with_reducible refine' wCons_of ?_ | with_reducible refine' wNil_of ?_ | ((with_reducible refine' kIxT_of ?ke ?_); (case ke => rfl)) | with_reducible refine' wSeq_of ?_ | with_reducible refine' wSet_of ?_ | ((with_reducible refine' wSetF_of ?ke ?_); (case ke => rfl)) | ((with_reducible refine' wRetO_of ?ke ?_); (case ke => rfl)) | ((with_reducible refine' wSetNew_of ?hs ?_); (case hs => rfl)) | ((with_reducible refine' wPutN_of ?he ?_); (case he => rfl)) | ((with_reducible refine' wApp_of ?ke ?_); (case ke => rfl)) | with_reducible refine' wRet_of ?_ | with_reducible refine' wRetF_of ?_ | with_reducible refine' wIfS_of ?_ | with_reducible refine' wForS_of ?_ | with_reducible refine' wItemsL_of ?_ | with_reducible refine' wItemsT_of ?_ | with_reducible refine' wLc_of ?_ | with_reducible refine' wAndV_of ?_ | with_reducible refine' wOrV_of ?_ | with_reducible refine' wNotV_of ?_ | with_reducible refine' wIf_of ?_ | with_reducible refine' wGet2_of ?_ | with_reducible refine' wChain_of ?_ | with_reducible refine' wExpr_of ?_ | with_reducible refine' kLenL_of ?_ | with_reducible refine' kLenT_of ?_ | ((with_reducible refine' kFld_of ?ke ?_); (case ke => rfl)) | with_reducible refine' wLc2_of ?_ | with_reducible refine' wNext_of ?_ | ((with_reducible refine' kZip2_of ?k1 ?k2 ?_); (case k1 => rfl); (case k2 => rfl)) | ((with_reducible refine' kZip3_of ?k1 ?k2 ?k3 ?_); (case k1 => rfl); (case k2 => rfl); (case k3 => rfl)) | with_reducible refine' kEnumT_of ?_ | with_reducible refine' wPart_of ?_ | with_reducible refine' wNoPart_of ?_ | with_reducible refine' kTupOfL_of ?_ | with_reducible refine' wEndP_of ?_ | ((with_reducible refine' wNewP_of ?ke ?_); (case ke => rfl)) | with_reducible refine' kI_of ?_ | ((with_reducible refine' wRev_of ?ke ?_); (case ke => rfl)) | with_reducible refine' kNeI_of ?_ | with_reducible refine' kEqI_of ?_ | with_reducible refine' kNeS_of ?_ | with_reducible refine' kEqS_of ?_ | with_reducible refine' wDropX_of ?_ | with_reducible refine' wSetX_of ?_ | with_reducible refine' wRetX_of ?_ | with_reducible refine' wRaise_of ?_ | with_reducible refine' wTry_of ?_ | with_reducible refine' wSlT_of ?_ | with_reducible refine' wSlQ_of ?_ | with_reducible refine' kNeg_of ?_ | with_reducible refine' kLenQ_of ?_ | with_reducible refine' kLstT_of ?_ | with_reducible refine' kLstL_of ?_))
section
variable {P : Program} {w : World} {K : PySem.W.Frag} {mg : Str → Option Value} {base : Heap} {TT : List NdefX.NTab} {C CS CD : Addr} {T : TbC} {H H' : Hp}
/-! ### Deeds, told over data -/
abbrev dDk (zs : List Str) : Dt := .dk (zs.map Sum.inr) (zs.map fun _ => .bl true)
abbrev dDd (CD : Addr) (zs : List Str) : Dt := .obj CD ["kept"] [dDk zs]
theorem dk_keys {zs : List Str} : (dkN zs).map (·.1) = zs.map Sum.inr := by
  rw [List.map_map]
  rfl
theorem dk_vals {zs : List Str} : (dkN zs).map (·.2) = zs.map fun _ => V.bl true := by
  rw [List.map_map]
  rfl
theorem rs_true {ok : Addr → Prop} {zs : List Str} : Rs K ok H (zs.map fun _ => Dt.bl true) (zs.map fun _ => V.bl true) := by
  induction zs with
  | nil => exact .nil
  | cons z zs ih => exact .cons (.bl true) ih
theorem dk_R {ok : Addr → Prop} {d : Addr} {zs : List Str} (e : H d = some (.dK (dkN zs))) (q : ok d) : R K ok H (dDk zs) (.ref d) := by
  have := R.dk (K := K) (ok := ok) (ds := zs.map fun _ => Dt.bl true) e q (by rw [dk_vals]; exact rs_true)
  rwa [dk_keys] at this
theorem rs_trueE {ok : Addr → Prop} {zs : List Str} : ∀ {vs : List V}, Rs K ok H (zs.map fun _ => Dt.bl true) vs → vs = zs.map fun _ => V.bl true := by
  induction zs with
  | nil => intro vs r; cases r; rfl
  | cons z zs ih =>
    intro vs r
    cases r with
    | cons a t => rw [R.blE a, ih t]; rfl
theorem kvs_dk {zs : List Str} : ∀ {kvs : List (Key × V)}, kvs.map (·.1) = zs.map Sum.inr → kvs.map (·.2) = zs.map (fun _ => V.bl true) → kvs = dkN zs := by
  induction zs with
  | nil => intro kvs e _; exact List.map_eq_nil_iff.mp e
  | cons z zs ih =>
    intro kvs e1 e2
    cases kvs with
    | nil => cases e1
    | cons p r =>
      rw [List.map_cons, List.map_cons] at e1 e2
      obtain ⟨a1, a2⟩ := List.cons.inj e1
      obtain ⟨b1, b2⟩ := List.cons.inj e2
      show p :: r = (Sum.inr z, V.bl true) :: dkN zs
      rw [← ih a2 b2, ← a1, ← b1]
theorem dds_of {ok : Addr → Prop} {zs : List Str} {v : V} (nd : zs.Nodup) (r : R K ok H (dDd CD zs) v) : DdsAt CD H v zs := by
  generalize hd : dDd CD zs = d at r
  cases r with
  | @obj a C' dx gs ks us ds e f n t =>
    cases hd
    cases t with
    | cons a1 t =>
      cases t
      generalize hk : dDk zs = d1 at a1
      cases a1 with
      | @dk a' kvs ds' e' q' t' =>
        have hk' := Dt.dk.inj hk
        obtain ⟨k1, k2⟩ := hk'
        subst k2
        have := kvs_dk k1.symm (rs_trueE t')
        subst this
        have f := (List.cons.inj f).1
        exact ⟨a, dx, gs, a', rfl, e, f, fun g hg => n g (by simpa using hg), e', nd⟩
      | _ => cases hk
  | _ => cases hd
/-- what a row or deeds tell -/
def TellDt (CD : Addr) (d : Dt) (S : List Str → Prop) : Prop := (∃ zs : List Str, d.seq = some (zs.map Dt.str) ∧ (∀ z ∈ zs, NameOk z) ∧ zs.length ≤ 100000 ∧ S zs) ∨ ∃ zs : List Str, d = dDd CD zs ∧ zs.Nodup ∧ zs.length < 64 ∧ ∀ ys, ys.Perm zs → sortedS ys = true → S ys
def wTold (CD : Addr) : List Dt → (List Dt → Prop) → Prop := fun ds P => ∃ (d : Dt) (S : List Str → Prop), ds = [d] ∧ TellDt CD d S ∧ ∀ ys, S ys → ys.length ≤ 100000 → P (ys.map Dt.str)
/-- Deeds(words) -/
def wMkD (CD : Addr) : List Dt → (Dt → Prop) → Prop := fun ds P => ∃ (d : Dt) (S : List Str → Prop), ds = [d] ∧ TellDt CD d S ∧ ∀ ys zs : List Str, S ys → zs.Nodup → (∀ z, z ∈ zs ↔ z ∈ ys) → P (dDd CD zs)
/-! sorted(d), == of dicts -/
abbrev rSortD : List V → Hp → VK → Prop := fun xs H Q => ∃ (a : Addr) (kvs : List (Key × V)) (ks : List Str), xs = [.ref a] ∧ Rd H a (.dK kvs) ∧ kvs.map (·.1) = ks.map Sum.inr ∧ ks.length < 64 ∧ ∀ ys p, ys.Perm ks → sortedS ys = true → H p = none → Q (.ref p) (upd H p (.lst (ys.map V.str)))
def kSortD : Dt → (List Dt → Prop) → Prop
  | .dk ks _, P => ∃ zs : List Str, ks = zs.map Sum.inr ∧ zs.length < 64 ∧ ∀ ys : List Str, ys.Perm zs → sortedS ys = true → P (ys.map Dt.str)
  | _, _ => False
def kEqDA : Dt → Dt → (Dt → Prop) → Prop
  | .dk ks ds, .dk ls es, P => ∃ as bs : List Str, (Dt.dk ks ds = dDk as ∧ Dt.dk ls es = dDk bs) ∧ as.Nodup ∧ bs.Nodup ∧ (∀ z, z ∈ as ↔ z ∈ bs) ∧ P (.bl true)
  | _, _, _ => False
theorem valV_dk {zs : List Str} {z : Str} (h : z ∈ zs) : valV (dkN zs) (Sum.inr z) = some (V.bl true) := by
  cases e : valV (dkN zs) (Sum.inr z) with
  | none =>
    have q := valV_not e
    rw [dk_keys] at q
    exact absurd (List.mem_map_of_mem h) q
  | some v =>
    unfold valV at e
    obtain ⟨p, hp, e2⟩ := Option.map_eq_some_iff.mp e
    obtain ⟨y, _, rfl⟩ := List.mem_map.mp (List.mem_of_find?_eq_some hp)
    exact congrArg some e2.symm
/-- the methods that are looked up -/
structure DdM (K : PySem.W.Frag) (mg : Str → Option Value) (CD dv fI fO fE : Addr) (fdI fdO fdE : FuncData) : Prop where
  FI : FunD K "__init__" "Deeds.__init__" (defArgs s_Deeds_init) (defBody s_Deeds_init) (defScope s_Deeds_init) [.ref dv] [] fI fdI
  bI : Binds K fdI ["self", "words"] []
  M : Mk K CD fI
  sf : PySem.W.selfFirst K CD = true
  FO : Fun K "__or__" "Deeds.__or__" s_Deeds_or fO fdO
  bO : Binds K fdO ["self", "other"] []
  oO : PySem.W.findIn K (.ref CD) "__or__" = some (some (.ref fO))
  iO : PySem.W.isFn K (.ref fO) = true
  FE : Fun K "__eq__" "Deeds.__eq__" s_Deeds_eq fE fdE
  bE : Binds K fdE ["self", "other"] []
  oE : PySem.W.findIn K (.ref CD) "__eq__" = some (some (.ref fE))
  iE : PySem.W.isFn K (.ref fE) = true
end
end KX
/-! {k: v for t in iter if ..} whose keys are nested tuples of numbers and flags. -/
namespace UL
open PySem PySem.Spec PyProof.Rows L2
abbrev newD : Obj := { cls := .type "dict", data := .dict #[] }
/-- what the comprehension asks where it stores v at the key y -/
def PutN (D : Addr) (y z : V) (H : Hp) (Nx : Hp → Prop) : Prop := ∃ (a : Addr) (L : NL3) (k : NestedKey), y = .ref a ∧ H D = some (NdO D L) ∧ NKeys H L ∧ KeyIs H k a ∧ NF k ∧ k.depth ≤ 8 ∧ L.length < sizeLine ∧
  ((∃ h, NdAt h D (nPut L k a z)) → Nx (upd H D (NdO D (nPut L k a z))))
/-- the promise: D the new dict -/
def tDcN (wi : TI) (g : TG) (tt : TT) (tk tv : TE) (vs : List Nat) : TE := fun σ H Q => wi σ H fun J H1 => ∀ D, H1 D = none → (∃ h, NdAt h D []) → ∃ W : Nat → Nat → Hp → Prop, (∃ m, W 0 m (upd H1 D (NdO D []))) ∧
  ∀ i m H, W i m H → (J.stop i H ∧ Q (.ref D) H) ∨ (J.go i H ∧ ∃ Nx : Hp → Prop, (∀ H', Nx H' → ∃ m', m' < m ∧ W (i + 1) m' H') ∧
    ∀ x H', J.yld i H x H' → g x (wipe σ vs) H' fun σ2 H2 => wipe σ2 vs = wipe σ vs ∧ tt σ2 H2 fun b H3 => if b = true then tk σ2 H3 fun y H4 => tv σ2 H4 fun z H5 => PutN D y z H5 Nx else Nx H3)
section
variable {X : Cx}
end
end UL
/-! Own dicts with nested keys, told over data. -/
namespace UL
open PySem PySem.Spec PyProof.Rows L2
section
variable {K : PySem.W.Frag} {T : List NdefX.NTab} {SL S S' S1 : Sl} {m m' m1 m2 m3 s : Bool} {te ta tb ty tv : TE} {t u : WE} {C C1 C' : Ct} {σ : L2.St} {H H' H1 : Hp} {ρ : Env} {ts ts1 : TS} {XO : XOut} {w w' : WS}
/-- what the keys kk and the values ds tell of k -/
def nlook (kk : List NestedKey) (ds : List Dt) (k : NestedKey) : Option Dt := ((kk.zip ds).find? fun p => decide (p.1 = k)).map (·.2)
def nupd (kk : List NestedKey) (ds : List Dt) (k : NestedKey) (d : Dt) : List Dt := (kk.zip ds).map fun p => if p.1 = k then d else p.2
def kInN (neg : Bool) : Dt → Dt → (Dt → Prop) → Prop := fun a b P => match b with
  | .nd ks _ => ∃ es k kk, a = .tup es ∧ a.nk = some k ∧ k.depth ≤ 8 ∧ Dt.nks ks = some kk ∧ P (.bl (if neg then !decide (k ∈ kk) else decide (k ∈ kk)))
  | _ => False
def kGetN : Dt → Dt → (Dt → Prop) → Prop := fun a b P => match a with
  | .nd ks ds => ∃ es k kk d, b = .tup es ∧ b.nk = some k ∧ k.depth ≤ 8 ∧ Dt.nks ks = some kk ∧ nlook kk ds k = some d ∧ P d
  | _ => False
/-- x = {} -/
def wSetNew (i : Nat) : WS := fun ρ P => i < ρ.length ∧ P (.nx (ρ.set i (some (.nd [] []))))
theorem wSetNew_of {i : Nat} {P : Out → Prop} (hi : decide (i < ρ.length) = true) (h : P (.nx (ρ.set i (some (.nd [] []))))) : wSetNew i ρ P := ⟨of_decide_eq_true hi, h⟩
/-- d[k] = v, d an own dict -/
def wPutN (i : Nat) (t u : WE) : WS := fun ρ P => match ρ[i]? with
  | some (some (.nd ks ds)) => t ρ fun dv => u ρ fun dk => ∃ es k kk, dk = .tup es ∧ dk.nk = some k ∧ k.depth ≤ 8 ∧ Dt.nks ks = some kk ∧ ks.length < sizeLine ∧
    P (.nx (ρ.set i (some (if k ∈ kk then .nd ks (nupd kk ds k dv) else .nd (ks ++ [dk]) (ds ++ [dv])))))
  | _ => False
theorem wPutN_of {i : Nat} {ks ds : List Dt} {P : Out → Prop} (e : ρ[i]? = some (some (.nd ks ds))) (h : t ρ fun dv => u ρ fun dk => ∃ es k kk, dk = .tup es ∧ dk.nk = some k ∧ k.depth ≤ 8 ∧ Dt.nks ks = some kk ∧ ks.length < sizeLine ∧
    P (.nx (ρ.set i (some (if k ∈ kk then .nd ks (nupd kk ds k dv) else .nd (ks ++ [dk]) (ds ++ [dv])))))) : wPutN i t u ρ P := by
  unfold wPutN
  rw [e]
  exact h
end
end UL
/-! Dict comprehensions, told over data. -/
namespace UL
open PySem PySem.Spec PyProof.Rows L2
/-- what may be changed: a list, a dict -/
structure Cel (o : HO) : Prop where
  nt : NT o
  nl : ¬ NL o
  nc : ∀ c q, o ≠ LamX.CodeO c q
section
variable {K : PySem.W.Frag} {T : List NdefX.NTab} {S S' : Sl} {m m' m1 m2 m3 m4 s : Bool} {te tk tv : TE} {t u v : WE} {C C' : Ct} {σ : L2.St} {H H' H1 : Hp} {ρ : Env} {D : Addr} {o o' : HO}
theorem OwnD.cel {ok : Addr → Prop} {d : Dt} (h : OwnD K ok H D d o) : Cel o := ⟨h.nt, h.nl, h.nc⟩
/-- the ownership map within the comprehension whose new thing o is at D -/
def Ct.cmp (C : Ct) (H1 : Hp) (D : Addr) (o : HO) : Ct := { C with H0 := upd H1 D o, ok0 := fun a => C.ok a ∧ a ≠ D, L := fun a => a = D ∨ ∃ i, (i ∈ C.O ∨ i ∈ C.Pl) ∧ a = C.A i, LP := fun a => ∃ i ∈ C.Pl, a = C.A i }
theorem cmp_ok {a : Addr} (E : EnvR K C σ H1 ρ) (hD : H1 D = none) (c : Cel o) (h : (C.cmp H1 D o).ok a) : C.ok a ∧ a ≠ D := by
  rcases h.1 with ⟨q, _⟩ | q
  · exact q
  · have q : Fre (upd H1 D o) a := q
    have n : a ≠ D := fun e => q _ c.nt (by rw [e]; exact upd_same)
    exact ⟨E.freshF fun o' nt e => q o' nt (by rw [upd_ne n]; exact e), n⟩
theorem ok_cmp {a : Addr} (h : C.ok a) (n : a ≠ D) : (C.cmp H1 D o).ok a := by
  refine ⟨.inl ⟨⟨h, n⟩, ?_⟩, h.2⟩
  rintro (z | ⟨i, hi, z⟩)
  · exact n z
  · exact h.2 i hi z
theorem EnvR.cmp (E : EnvR K C σ H1 ρ) (hD : H1 D = none) : EnvR K (C.cmp H1 D o) σ (upd H1 D o) ρ ∧ ∀ i, i ∈ C.O ∨ i ∈ C.Pl → C.A i ≠ D := by
  have sm : Same H1 (upd H1 D o) := same_up hD
  have ne : ∀ i, i ∈ C.O ∨ i ∈ C.Pl → C.A i ≠ D := fun i hi z => by
    obtain ⟨us, e, _⟩ := E.place hi
    rw [z, hD] at e
    cases e
  have mv : Mv C.ok H1 (C.cmp H1 D o).ok (upd H1 D o) := ⟨.same sm, fun a n h => ok_cmp h fun z => n (by rw [z]; exact .of hD)⟩
  constructor
  case right => exact ne
  refine { len := E.len, keep := fun _ _ _ e _ => e, dom := fun _ e => e, lent := ?_, tab := E.tab.ext sm, sh := ?_, own := ?_, pls := ?_, dj := E.dj, inj := E.inj }
  · rintro a ⟨i, hi, z⟩
    obtain ⟨_, _, p, _⟩ := E.pls i hi
    exact z ▸ ⟨p.same sm, .inr ⟨i, .inr hi, rfl⟩⟩
  · intro i d h1 h2 e
    obtain ⟨v, e1, r⟩ := E.sh i d h1 h2 e
    exact ⟨v, e1, r.mv mv⟩
  · intro i hi
    obtain ⟨d, o1, e1, e2, e3, r, _, _⟩ := E.own i hi
    refine ⟨d, o1, e1, e2, sm _ _ e3, r.mv mv, .inr (.inr ⟨i, .inl hi, rfl⟩), ?_⟩
    rintro ⟨j, hj, z⟩
    exact E.dj i hi (E.inj i j (.inl hi) (.inr hj) z ▸ hj)
  · intro i hi
    obtain ⟨l, e, p, _⟩ := E.pls i hi
    exact ⟨l, e, p.same sm, .inr ⟨i, hi, rfl⟩⟩
/-- what is nobody's is changed -/
theorem EnvR.chg (E : EnvR K C σ H ρ) (hD : H D = some o) (c : Cel o) (c' : Cel o') (hL : C.L D) (hLP : ¬ C.LP D) (hok : ¬ C.ok D) (hA : ∀ i, i ∈ C.O ∨ i ∈ C.Pl → C.A i ≠ D) : EnvR K C σ (upd H D o') ρ ∧ Mv C.ok H C.ok (upd H D o') := by
  have k : Mv C.ok H C.ok (upd H D o') := by
    refine .of ⟨fun a x nt e h => ?_, fun a f x nt e => ?_⟩
    · have n : a ≠ D := by
        rintro rfl
        rw [hD] at e
        cases e
        exact h.elim hok c.nl
      rw [upd_ne n]
      exact e
    · by_cases n : a = D
      · exact f _ c'.nt (by rw [n]; exact upd_same)
      · exact f x nt (by rw [upd_ne n]; exact e)
  constructor
  case right => exact k
  refine { len := E.len, keep := ?_, dom := fun a e => E.dom a (k.kp.dom a e), lent := ?_, tab := tabs_put hD c.nt c.nc E.tab, sh := ?_, own := ?_, pls := ?_, dj := E.dj, inj := E.inj }
  · intro a x nt e n
    rw [upd_ne (fun z => n (by rw [z]; exact hL))]
    exact E.keep a x nt e n
  · intro a h
    obtain ⟨⟨x, y, z, e⟩, l⟩ := E.lent a h
    exact ⟨⟨x, y, z, by rw [upd_ne (fun z => hLP (by rw [← z]; exact h))]; exact e⟩, l⟩
  · intro j d hj hp h
    obtain ⟨v, e, r⟩ := E.sh j d hj hp h
    exact ⟨v, e, r.mv k⟩
  · intro j hj
    obtain ⟨d, o1, e1, e2, e3, r, q⟩ := E.own j hj
    exact ⟨d, o1, e1, e2, by rw [upd_ne (hA j (.inl hj))]; exact e3, r.mv k, q⟩
  · intro j hj
    obtain ⟨l, e, ⟨x, y, z, e3⟩, q⟩ := E.pls j hj
    exact ⟨l, e, ⟨x, y, z, by rw [upd_ne (hA j (.inr hj))]; exact e3⟩, q⟩
/-- the turns -/
def wDc (put : Dt → Dt → Dt → (Dt → Prop) → Prop) (bind : Dt → Env → Option Env) (u : WT) (tk tv : WE) (ρ : Env) : List Dt → Dt → (Dt → Prop) → Prop
  | [], acc, P => P acc
  | d :: ds, acc, P => match bind d ρ with
    | some ρ1 => u ρ1 fun b => if b = true then tk ρ1 fun y => tv ρ1 fun z => put acc y z fun acc' => wDc put bind u tk tv ρ ds acc' P else wDc put bind u tk tv ρ ds acc P
    | none => False
def wDcS (put : Dt → Dt → Dt → (Dt → Prop) → Prop) (e0 : Dt) (ti : WA) (bind : Dt → Env → Option Env) (u : WT) (tk tv : WE) (vs : List Nat) : WE := fun ρ P => ti ρ fun items => wDc put bind u tk tv (wipeE ρ vs) items e0 P
def putN (acc y z : Dt) (P : Dt → Prop) : Prop := ∃ ks ds es k kk, acc = .nd ks ds ∧ y = .tup es ∧ y.nk = some k ∧ k.depth ≤ 8 ∧ Dt.nks ks = some kk ∧ ks.length < sizeLine ∧ P (if k ∈ kk then .nd ks (nupd kk ds k z) else .nd (ks ++ [y]) (ds ++ [z]))
/-- between two turns: what is at D -/
structure DcSt (K : PySem.W.Frag) (C : Ct) (m : Bool) (H1 : Hp) (D : Addr) (o : HO) (σ : L2.St) (ρ : Env) (WI : (Addr → Prop) → Hp → Prop) (acc : Dt) (H : Hp) : Prop where
  env : EnvR K (C.cmp H1 D o) σ H ρ
  at_ : ∃ o', H D = some o' ∧ OwnD K (C.cmp H1 D o).ok H D acc o'
  gr : Gr m C H1 H
  wi : WI (C.cmp H1 D o).ok H
theorem DcSt.gr_ {as : List Addr} {WI : (Addr → Prop) → Hp → Prop} {acc : Dt} {J : It} {items : List Dt} (W : WalkD K J items as WI) (hs : ∀ a ∈ as, ∀ j ∈ C.Pl, a ≠ C.A j) {σ' : L2.St} {ρ' : Env}
    (L : DcSt K C m H1 D o σ ρ WI acc H) (nD : ∀ j ∈ C.Pl, C.A j ≠ D) (g : Gr m (C.cmp H1 D o) H H') (E' : EnvR K (C.cmp H1 D o) σ' H ρ') : DcSt K C m H1 D o σ ρ WI acc H' := by
  obtain ⟨o', e, r⟩ := L.at_
  exact ⟨L.env.gr g, ⟨o', g.keep _ _ r.nt e fun _ j hj z => nD j hj z.symm, r.mv (g.mv L.env)⟩, L.gr.idem ⟨g.keep, g.pl, g.dom, g.tab⟩, W.mv _ _ _ _ (fun a ha us e => g.keep _ _ nt_lst e fun _ j hj => hs a ha j hj) (g.mv L.env) L.wi⟩
theorem DcSt.put {as : List Addr} {WI : (Addr → Prop) → Hp → Prop} {acc acc' : Dt} {J : It} {items : List Dt} (W : WalkD K J items as WI) (c : Cel o) (hD : H1 D = none) (hs : ∀ a ∈ as, ∃ us, H1 a = some (.lst us)) {σ' : L2.St} {ρ' : Env} (E : EnvR K C σ' H1 ρ')
    (L : DcSt K C m H1 D o σ ρ WI acc H) (nD : ∀ i, i ∈ C.O ∨ i ∈ C.Pl → C.A i ≠ D) {o1 o2 : HO} (e : H D = some o1) (r1 : OwnD K (C.cmp H1 D o).ok H D acc o1) (r2 : OwnD K (C.cmp H1 D o).ok H D acc' o2) : DcSt K C m H1 D o σ ρ WI acc' (upd H D o2) := by
  have nok : ¬ (C.cmp H1 D o).ok D := fun z => (cmp_ok E hD c z).2 rfl
  obtain ⟨E2, k⟩ := L.env.chg e r1.cel r2.cel (.inl rfl) (fun ⟨i, hi, z⟩ => nD i (.inr hi) z.symm) nok nD
  refine ⟨E2, ⟨_, upd_same, r2.mv k⟩, ⟨fun a x nt h n => ?_, fun i hi h => ?_, fun a h => L.gr.dom a (k.kp.dom a h), fun h => tabs_put e r1.nt r1.nc (L.gr.tab h)⟩, ?_⟩
  · rw [upd_ne (ne_of_none h hD)]
    exact L.gr.keep a x nt h n
  · obtain ⟨x, y, z, q⟩ := L.gr.pl i hi h
    exact ⟨x, y, z, by rw [upd_ne (nD i (.inr hi))]; exact q⟩
  · refine W.mv _ _ _ _ (fun a ha vs q => ?_) k L.wi
    obtain ⟨ws, q1⟩ := hs a ha
    rw [upd_ne (ne_of_none q1 hD)]
    exact q
end
end UL
/-! Dicts with texts and ints as keys, told over data: made by a comprehension, read. -/
namespace UL
open PySem PySem.Spec PyProof.Rows L2
def keyOf : Dt → Option Key
  | .str x => some (.inr x)
  | .int i => some (.inl i)
  | _ => none
def kin (ks : List Key) (k : Key) : Bool := ks.any fun x => decide (x = k)
def klook (ks : List Key) (ds : List Dt) (k : Key) : Option Dt := ((ks.zip ds).find? fun p => decide (p.1 = k)).map (·.2)
def kupd (ks : List Key) (ds : List Dt) (k : Key) (d : Dt) : List Dt := (ks.zip ds).map fun p => if p.1 = k then d else p.2
section
variable {K : PySem.W.Frag} {T : List NdefX.NTab} {S S' : Sl} {m m' m1 m2 m3 m4 s : Bool} {te tk tv td ty : TE} {t u v : WE} {C C' : Ct} {σ : L2.St} {H H' H1 : Hp} {ρ : Env} {D : Addr} {o o' : HO}
/-! the comprehension -/
def putT (acc y z : Dt) (P : Dt → Prop) : Prop := ∃ ks ds k, acc = .dk ks ds ∧ keyOf y = some k ∧ ks.length < sizeLine ∧ P (if kin ks k = true then .dk ks (kupd ks ds k z) else .dk (ks ++ [k]) (ds ++ [z]))
end
end UL
/-! UL: own dicts whose keys are numbers or texts: d = {}, d[k] = v -/
namespace UL
open PySem PySem.Spec PyProof.Rows L2
section
variable {K : PySem.W.Frag} {T : List NdefX.NTab} {SL S S' S1 : Sl} {m m' m1 m2 m3 s : Bool} {te ta tb tv ty : TE} {t u : WE} {C C1 C' : Ct} {σ : L2.St} {H H' H1 : Hp} {ρ : Env} {ts ts1 : TS} {w w' : WS} {XO : XOut}
def wSetNewK (i : Nat) : WS := fun ρ P => i < ρ.length ∧ P (.nx (ρ.set i (some (.dk [] []))))
theorem wSetNewK_of {i : Nat} {P : Out → Prop} (hi : decide (i < ρ.length) = true) (h : P (.nx (ρ.set i (some (.dk [] []))))) : wSetNewK i ρ P := ⟨of_decide_eq_true hi, h⟩
def wPutK (i : Nat) (t u : WE) : WS := fun ρ P => match ρ[i]? with
  | some (some (.dk ks ds)) => t ρ fun dv => u ρ fun dy => ∃ k, keyOf dy = some k ∧ ks.length < sizeLine ∧ P (.nx (ρ.set i (some (if kin ks k = true then .dk ks (kupd ks ds k dv) else .dk (ks ++ [k]) (ds ++ [dv])))))
  | _ => False
theorem wPutK_of {i : Nat} {ks : List Key} {ds : List Dt} {P : Out → Prop} (e : ρ[i]? = some (some (.dk ks ds))) (h : t ρ fun dv => u ρ fun dy => ∃ k, keyOf dy = some k ∧ ks.length < sizeLine ∧ P (.nx (ρ.set i (some (if kin ks k = true then .dk ks (kupd ks ds k dv) else .dk (ks ++ [k]) (ds ++ [dv])))))) : wPutK i t u ρ P := by
  unfold wPutK
  rw [e]
  exact h
end
/-- a for whose first items are told by an invariant -/
theorem wFor_app {α : Type} {bind : Dt → Env → Option Env} {body : WS} {f : α → Dt} {ρ : Env} {P : Out → Prop} {rest : List Dt} (I : Nat → Env → Prop) (xs : List α) (h0 : I 0 ρ)
    (hs : ∀ i x ρ (k : Env → Prop), xs[i]? = some x → I i ρ → (∀ ρ2, I (i + 1) ρ2 → k ρ2) → ∃ ρ1, bind (f x) ρ = some ρ1 ∧ body ρ1 fun o => match o with
      | .nx ρ2 => k ρ2
      | .ct ρ2 => k ρ2
      | .bk ρ2 => P (.nx ρ2)
      | .rt x => P (.rt x)
      | .rf x => P (.rf x)
      | .xc x ρ2 => P (.xc x ρ2)) (hd : ∀ ρ, I xs.length ρ → wFor bind body rest ρ P) : wFor bind body (xs.map f ++ rest) ρ P := by
  have key : ∀ (n i : Nat) (ρ : Env), xs.length - i = n → i ≤ xs.length → I i ρ → wFor bind body ((xs.drop i).map f ++ rest) ρ P := by
    intro n
    induction n with
    | zero =>
      intro i ρ hn hi h
      have e : i = xs.length := by omega
      subst e
      rw [List.drop_length]
      exact hd ρ h
    | succ n ih =>
      intro i ρ hn hi h
      have hlt : i < xs.length := by omega
      have ei : xs[i]? = some xs[i] := List.getElem?_eq_getElem hlt
      rw [drop_of ei, List.map_cons, List.cons_append]
      obtain ⟨ρ1, e, hb⟩ := hs i _ ρ (fun ρ2 => wFor bind body ((xs.drop (i + 1)).map f ++ rest) ρ2 P) ei h fun ρ2 h2 => ih (i + 1) ρ2 (by omega) hlt h2
      unfold wFor
      simp only [e]
      exact hb
  exact key _ 0 ρ rfl (Nat.zero_le _) h0
theorem wFor_cons {bind : Dt → Env → Option Env} {body : WS} {ρ ρ1 : Env} {P : Out → Prop} {d : Dt} {rest : List Dt} (e : bind d ρ = some ρ1) (h : body ρ1 fun o => match o with
      | .nx ρ2 => wFor bind body rest ρ2 P
      | .ct ρ2 => wFor bind body rest ρ2 P
      | .bk ρ2 => P (.nx ρ2)
      | .rt x => P (.rt x)
      | .rf x => P (.rf x)
      | .xc x ρ2 => P (.xc x ρ2)) : wFor bind body (d :: rest) ρ P := by
  unfold wFor
  simp only [e]
  exact h
abbrev rPow_ : R2 := rI CPow fun i j => .int (i ^ j.toNat)
theorem oS_pow {K : PySem.W.Frag} : OpS K (rI CPow fun i j => .int (i ^ j.toNat)) (kIc CPow fun i j => .int (i ^ j.toNat)) := opS_Ic fun _ _ _ _ => .int _
end UL
/-! UL: isinstance of any data, own instances too -/
namespace UL
open PySem PySem.Spec PyProof.Rows L2
section
variable {P : Program} {w : World} {K : PySem.W.Frag} {T : List NdefX.NTab} {S : Sl} {m : Bool} {ta : TE} {t : WE} {H H' : Hp} {σ : L2.St}
/-- an instance of C has the type C -/
def OwnT (K : PySem.W.Frag) (C : Addr) : Prop := ∀ (H : Hp) (p dx : Addr) (fs : List (Str × V)), H p = some (.ins C dx fs) → TyX K H (.ref p) (.ref C)
inductive HasTy (K : PySem.W.Frag) : Dt → Value → Prop
  | ty {d : Dt} {n : String} (e : d.tyN = some n) : HasTy K d (.type n)
  | dk {ks : List Key} {ds : List Dt} : HasTy K (.dk ks ds) (.type "dict")
  | own {C : Addr} {ks : List Str} {ds : List Dt} (O : OwnT K C) : HasTy K (.obj C ks ds) (.ref C)
theorem RB.tyG {C : Ct} {d : Dt} {v : V} {u : Value} (h : RB K C H d v) (e : HasTy K d u) : TyX K H v u := by
  cases e with
  | ty e => exact h.tyX e
  | dk =>
    obtain ⟨a, kvs, rfl, _, e1, _⟩ := (show ∃ (a : Addr) (kvs : List (Key × V)), v = .ref a ∧ _ = kvs.map (·.1) ∧ H a = some (.dK kvs) ∧ _ from h)
    exact .base (.dK e1)
  | own O =>
    cases (show R K C.ok H _ v from h) with
    | obj e1 => exact O _ _ _ _ e1
def kIsG (K : PySem.W.Frag) (u : Value) : Dt → (Dt → Prop) → Prop := fun d P => ∃ t b, HasTy K d t ∧ PySem.W.kitOne K t u = some b ∧ P (.bl b)
theorem se_isG {c : V} {u : Value} (hc : ClsV c u) (ha : SB K T S m ta t) : SE K T S m (tCB (rIsi K) (tCons ta (tCons (tC c) tNil))) (w1 (kIsG K u) t) := fun C ρ P σ H Q hC ht E q => by
  refine ha C ρ _ σ H _ hC ht E fun a x H1 h1 g1 r1 => ?_
  obtain ⟨ty, b, h2, h3, h4⟩ := h1
  exact ⟨x, c, ty, u, b, rfl, hc, r1.tyG h2, h3, q _ _ H1 h4 g1 (.bl _)⟩
def kIsTG (K : PySem.W.Frag) (Ts : List String) : Dt → (Dt → Prop) → Prop := fun d P => ∃ t b, HasTy K d t ∧ PySem.W.kitAny K t (Ts.map Value.type) = some b ∧ P (.bl b)
theorem se_isTG (Ts : List String) (hl : Ts.length ≤ 1000) (ha : SE K T S m ta t) : SE K T S m (tCB (rIsiT K) (tCons ta (tCons (tTup (tTys Ts)) tNil))) (w1 (kIsTG K Ts) t) := fun C ρ P σ H Q hC ht E q => by
  refine ha C ρ _ σ H _ hC ht E fun a x H1 h1 g1 r1 => ?_
  obtain ⟨ty, b, h2, h3, h4⟩ := h1
  refine tTys_run ⟨Nat.le_of_lt (small1000 (by rw [List.length_map]; exact hl)), fun p hp => ?_⟩
  refine ⟨x, p, _, ty, _, b, rfl, upd_same, clsV_map Ts, ?_, h3, q _ _ _ h4 (gr_and g1 (same_up hp)) (.bl _)⟩
  exact RB.tyG (C := C) (r1.same (same_up hp)).b h2
end
end UL
/-! enumerate of a list, told over data. -/
namespace UL
open PySem PySem.Spec PyProof.Rows L2
section
variable {K : PySem.W.Frag} {T : List NdefX.NTab} {S : Sl} {m : Bool}
def kEnumL : List Dt → (List Dt → Prop) → Prop
  | [.lst ds], P => P (enumD ds)
  | _, _ => False
end
end UL
/-! A class in a variable is called; a classmethod is called of its class. -/
namespace UL
open PySem PySem.Spec PyProof.Rows L2
/-- x(..), x a variable that holds the class C -/
def tMakeV (i : Nat) (C : Addr) (sp : Sp) (dvs : List V) (E : XK) (t : TA) : TE := fun σ H Q => σ[i]? = some (some (.ref C)) ∧ tMake C sp dvs E t σ H Q
section
variable {X : Cx} {CX : CXT} {k : Nat} {f C g : Addr} {fd : FuncData} {ps : List Str} {sp : Sp} {dvs : List V} {ds : List Value} {E : XK} {x : Str} {p pos : Pos} {e : Expr} {es : List Expr} {t : TA}
end
section
variable {K : PySem.W.Frag} {T : List NdefX.NTab} {S : Sl} {m m1 : Bool} {C : Addr} {tr ta : TA} {u : WA}
def wMakeV (i : Nat) (C : Addr) (w : List Dt → (Dt → Prop) → Prop) (u : WA) : WE := fun ρ P => ρ[i]? = some (some (.val (.ref C))) ∧ u ρ fun ds => w ds P
end
end UL
/-! UL: a def with defaults that may raise; C(..) whose __init__ raises -/
namespace UL
open PySem PySem.Spec PyProof.Rows L2
section
variable {K : PySem.W.Frag} {T : List NdefX.NTab} {W : WX} {SL S S' S1 : Sl} {m m' m1 m2 s : Bool} {te ta tb : TE} {t u : WE} {tx : WEX} {C C1 C' : Ct} {σ : L2.St} {H H' H1 : Hp} {ρ : Env} {ts ts1 : TS} {w w' : WS} {XO : XOut}
variable {P : Program} {w0 : World} {mg : Str → Option Value} {base : Heap}
end
end UL
/-! C.m(..), m a classmethod that may raise. -/
namespace ClX
open PySem PySem.Spec PyProof.Rows L2
section
variable {X : Cx} {CX : CXT} {k : Nat} {C p g : Addr} {mc : Value} {m : Str} {sp : Sp} {E : L2.St → XK} {pos apos : Pos} {e o : Expr} {es : List Expr} {ta : TE} {t : TA} {pins : List (Addr × Obj)} {σ : L2.St} {H : Hp} {s : Shared}
def tCMethSD (C : Addr) (sp : Sp) (E : L2.St → XK) (ta : TE) (t : TA) : TE := fun σ H Q => ta σ H fun x H1 => x = .ref C ∧ t σ H1 fun vs H2 => sp (.ref C :: vs) H2 Q (E σ)
end
end ClX
namespace UL
open PySem PySem.Spec PyProof.Rows L2
section
variable {K : PySem.W.Frag} {T : List NdefX.NTab} {S : Sl} {m : Bool} {W : WX} {tr : TA} {u : WA} {C : Addr}
end
end UL
namespace KX
open PySem PySem.Spec PyProof.Rows L2 UL
local macro_rules | `(tactic| walk_at "u") => `(tactic| repeat (first | ((with_reducible refine' wVar_of ?ke ?_); (case ke => rfl)) | with_reducible refine' wC_of ?_ | with_reducible refine' wB_of ?_ | with_reducible refine' wAnd_of ?_ | with_reducible refine' wOr_of ?_ | with_reducible refine' wNot_of ?_ | with_reducible refine' w2_of ?_ | with_reducible refine' w1_of ?_ | with_reducible refine' wCons_of ?_ | with_reducible refine' wNil_of ?_ | ((with_reducible refine' kIxT_of ?ke ?_); (case ke => rfl)) | with_reducible refine' wSeq_of ?_ | with_reducible refine' wSet_of ?_ | ((with_reducible refine' wSetF_of ?ke ?_); (case ke => rfl)) | ((with_reducible refine' wRetO_of ?ke ?_); (case ke => rfl)) | ((with_reducible refine' wSetNew_of ?hs ?_); (case hs => rfl)) | ((with_reducible refine' wPutN_of ?he ?_); (case he => rfl)) | ((with_reducible refine' wPutI_of ?he ?_); (case he => rfl)) | ((with_reducible refine' wApp_of ?ke ?_); (case ke => rfl)) | with_reducible refine' wRet_of ?_ | with_reducible refine' wRetF_of ?_ | with_reducible refine' wIfS_of ?_ | with_reducible refine' wForS_of ?_ | with_reducible refine' wItemsL_of ?_ | with_reducible refine' wItemsT_of ?_ | with_reducible refine' wLc_of ?_ | with_reducible refine' wAndV_of ?_ | with_reducible refine' wOrV_of ?_ | with_reducible refine' wNotV_of ?_ | with_reducible refine' wIf_of ?_ | with_reducible refine' wGet2_of ?_ | with_reducible refine' wChain_of ?_ | with_reducible refine' wExpr_of ?_ | with_reducible refine' kLenL_of ?_ | with_reducible refine' kLenT_of ?_ | ((with_reducible refine' kFld_of ?ke ?_); (case ke => rfl)) | with_reducible refine' wLc2_of ?_ | with_reducible refine' wNext_of ?_ | ((with_reducible refine' kZip2_of ?k1 ?k2 ?_); (case k1 => rfl); (case k2 => rfl)) | ((with_reducible refine' kZip3_of ?k1 ?k2 ?k3 ?_); (case k1 => rfl); (case k2 => rfl); (case k3 => rfl)) | with_reducible refine' kEnumT_of ?_ | with_reducible refine' wPart_of ?_ | with_reducible refine' wNoPart_of ?_ | with_reducible refine' kTupOfL_of ?_ | with_reducible refine' wEndP_of ?_ | ((with_reducible refine' wNewP_of ?ke ?_); (case ke => rfl)) | with_reducible refine' kI_of ?_ | ((with_reducible refine' wRev_of ?ke ?_); (case ke => rfl)) | with_reducible refine' kNeI_of ?_ | with_reducible refine' kEqI_of ?_ | with_reducible refine' kNeS_of ?_ | with_reducible refine' kEqS_of ?_ | with_reducible refine' wDropX_of ?_ | with_reducible refine' wSetX_of ?_ | with_reducible refine' wRetX_of ?_ | with_reducible refine' wRaise_of ?_ | with_reducible refine' wTry_of ?_ | with_reducible refine' wSlT_of ?_ | with_reducible refine' wSlQ_of ?_ | with_reducible refine' kNeg_of ?_ | with_reducible refine' kLenQ_of ?_ | with_reducible refine' kLstT_of ?_ | with_reducible refine' kLstL_of ?_ | ((with_reducible refine' wSetNewK_of ?hs ?_); (case hs => rfl)) | ((with_reducible refine' wPutK_of ?he ?_); (case he => rfl)) | ((with_reducible refine' wIns_of ?he ?_); (case he => rfl)) | ((with_reducible refine' wPop_of ?he ?_); (case he => rfl))))
section
variable {P : Program} {w : World} {K : PySem.W.Frag} {mg : Str → Option Value} {base : Heap} {TT : List NdefX.NTab} {C CS : Addr} {T : TbC} {H H' : Hp}
def azB (c : Nat) : Bool := decide (97 ≤ c) && decide (c ≤ 122)
def spIsNameB : Sp := fun vs H Q _ => ∃ z : Str, vs = [.str z] ∧ 1 ≤ z.length ∧ z.length ≤ 12 ∧ ∀ H', Same H H' → Q (.bl (z.cps.toList.all azB)) H'
theorem ok_isnameB {f : Addr} {fd : FuncData} (F : Fun K "is_name" "is_name" s_is_name f fd) (B : Blt mg) (N : Kin mg) : FnOk P w K mg base CX0 1 f fd ["value"] spIsNameB := by
  obtain ⟨t12, e12⟩ := N.letters
  refine F.ok sc_isname (fun vs H Q E h => ?_) (fun cdv A outer s H vs Q E hr h => ?_)
  · obtain ⟨z, rfl, _⟩ := h
    rfl
  · obtain ⟨z, rfl, z1, z12, q⟩ := h
    refine ⟨_, pss_cons (ps_if (PW.pt (pw_or (pt_not (pt_val (pe_callB call_isi (by rfl) B.isinstance (by decide +kernel) (pa_cons (pv 0) (pa_cons (pe_bltn rfl N.str (by decide +kernel) (v := .ty "str") rfl) pa_nil)))))
        (pw_or1 (pt_not (pt_chain op_le op_le pe_int (pe_callB call_len_str (by rfl) B.len PySem.boot_len (pa_cons (pv 0) pa_nil)) (pe_glob rfl e12 (v := .int 12) ⟨_, rfl⟩)))))) (pss_one (ps_ret pe_bl)) pss_nil)
      (pss_one (ps_ret (pe_callB (cr_all rfl) (by rfl) B.all (by decide +kernel) (pa_cons (pe_lc (own := [("letter", 1)]) (g := gName 1) (tt := tYes) rfl sc_isname.nd (pi_str (pv 0)) (blkOk_by (N := ["value", "letter"]) (sc := defScope s_is_name) (by decide +kernel))
        (fun _ _ _ _ _ => pg_name (i := 1) sc_isname.nd rfl (.inl rfl)) (fun _ _ _ _ _ => pts_nil) (fun _ _ _ _ _ => pe_chain op_le_str op_le_str pe_str (pv 1) pe_str)) pa_nil)))), ?_⟩
    have lz : z.length ≤ sizeLine := by
      rw [sizeLine_eq]
      omega
    have l1 : (1 : Int) ≤ (z.length : Nat) := by omega
    have l2 : ((z.length : Nat) : Int) ≤ 12 := by omega
    refine ⟨_, rfl, _, _, _, _, true, rfl, .ty "str", .base (.str z), kit_ty (by decide +kernel), true, rfl, ?_⟩
    refine ⟨_, rfl, z, rfl, lz, _, _, rfl, rfl, _, rfl, ?_⟩
    rw [decide_eq_true l1]
    refine ⟨_, _, rfl, rfl, _, rfl, ?_⟩
    show if (!decide (((z.length : Nat) : Int) ≤ 12)) = true then _ else _
    rw [decide_eq_true l2]
    -- all([..])
    refine ⟨_, rfl, z, rfl, fun D hD => ?_⟩
    refine lc_it walk_str (fun i H3 => ∃ bs : List Bool, H3 D = some (.lst (bs.map V.bl)) ∧ bs.all id = (z.cps.toList.take i).all azB ∧ bs.length = i ∧ Same H H3) ⟨[], upd_same, by rw [List.take_zero]; rfl, rfl, fun b o e => by rw [upd_ne (ne_of_none e hD)]; exact e⟩ (fun _ _ _ _ => True.intro) ?_ ?_
    · rintro i x H3 H4 hi ⟨bs, hD3, hall, hl, s3⟩ ⟨rfl, c, hc, rfl⟩
      have ec : z.cps.toList[i]? = some c := by rw [Array.getElem?_toList]; exact hc
      have hsz : bs.length ≤ 12 := by
        have : i < z.cps.size := (Array.getElem?_eq_some_iff.mp hc).1
        have e : z.length = z.cps.size := rfl
        omega
      have fin : ∀ b : Bool, b = azB c → ∃ bs' : List Bool, (upd H4 D (.lst (bs.map V.bl ++ [V.bl b]))) D = some (.lst (bs'.map V.bl)) ∧ bs'.all id = (z.cps.toList.take (i + 1)).all azB ∧ bs'.length = i + 1 ∧ Same H (upd H4 D (.lst (bs.map V.bl ++ [V.bl b]))) := fun b eb =>
        ⟨bs ++ [b], by rw [upd_same, List.map_append]; rfl, by rw [List.all_append, hall, List.take_add_one, ec, List.all_append, eb]; simp, by rw [List.length_append, hl]; rfl, fun b' o e => by
          rw [upd_ne (ne_of_none e hD)]
          exact s3 b' o e⟩
      refine ⟨rfl, _, rfl, _, _, rfl, rfl, _, rfl, ?_⟩
      have ea : ("a" : Str).cps.toList = [97] := by decide +kernel
      have ez : ("z" : Str).cps.toList = [122] := by decide +kernel
      have lt1 : ∀ {a b : Nat}, a < b → ([a] : List Nat) < [b] := fun h => List.Lex.rel h
      rw [show ((⟨#[c]⟩ : Str).cps.toList) = [c] from rfl, ea]
      have sm : (bs.map V.bl).length < sizeLine := small1000 (by rw [List.length_map]; omega)
      by_cases h1 : 97 ≤ c
      · rw [decide_eq_false (not_lt1 h1)]
        refine ⟨_, _, rfl, rfl, ?_⟩
        rw [show ((⟨#[c]⟩ : Str).cps.toList) = [c] from rfl, ez]
        by_cases h2 : c ≤ 122
        · rw [decide_eq_false (not_lt1 h2)]
          exact ⟨_, hD3, sm, fin true (by unfold azB; rw [decide_eq_true h1, decide_eq_true h2]; rfl)⟩
        · rw [decide_eq_true (lt1 (by omega))]
          exact ⟨_, hD3, sm, fin false (by unfold azB; rw [decide_eq_true h1, decide_eq_false h2]; rfl)⟩
      · rw [decide_eq_true (lt1 (by omega))]
        exact ⟨_, hD3, sm, fin false (by unfold azB; rw [decide_eq_false h1]; rfl)⟩
    · rintro H3 ⟨bs, hD3, hall, hl, s3⟩
      refine ⟨D, bs, rfl, .inl (.inl hD3), ?_⟩
      have e : z.cps.toList.take z.cps.size = z.cps.toList := List.take_of_length_le (Nat.le_of_eq Array.length_toList)
      rw [hall]
      have := q H3 s3
      rwa [← e] at this
def nmB : Dt → Bool
  | .str z => (decide (1 ≤ z.length) && decide (z.length ≤ 12)) && z.cps.toList.all azB
  | _ => false
def wNameG : List Dt → (Dt → Prop) → Prop := fun ds P => ∃ d, ds = [d] ∧ Ty d ∧ (∀ z, d = .str z → z.length ≤ sizeLine) ∧ P (.bl (nmB d))
theorem nameOk_b {z : Str} (h : NameOk z) : nmB (.str z) = true := by
  have h1 := h.lo
  have h2 := h.hi
  rw [Array.length_toList] at h1 h2
  show ((decide (1 ≤ z.cps.size) && decide (z.cps.size ≤ 12)) && z.cps.toList.all azB) = true
  rw [decide_eq_true h1, decide_eq_true h2, Bool.and_self, Bool.true_and, List.all_eq_true]
  intro c hc
  obtain ⟨a, b⟩ := h.az c hc
  unfold azB
  rw [decide_eq_true a, decide_eq_true b]
  rfl
theorem ok_nameG {f : Addr} {fd : FuncData} (F : Fun K "is_name" "is_name" s_is_name f fd) (B : Blt mg) (N : Kin mg) : FnOk P w K mg base CX0 1 f fd ["value"] (spU K TT wNameG) := by
  refine (fnOr (ok_isnameB F B N) (ok_noname (TT := TT) F B N)).imp fun vs H Q E ⟨ok, ds, P, T1, r, ⟨d, ed, ht, hl, h⟩, q⟩ => ?_
  by_cases hg : ∃ z, d = .str z ∧ 1 ≤ z.length ∧ z.length ≤ 12
  · obtain ⟨z, rfl, h1, h2⟩ := hg
    subst ed
    cases r with
    | cons r0 t =>
      cases t
      have e : nmB (.str z) = z.cps.toList.all azB := by
        show ((decide (1 ≤ z.length) && decide (z.length ≤ 12)) && z.cps.toList.all azB) = _
        rw [decide_eq_true h1, decide_eq_true h2]
        rfl
      rw [e] at h
      exact .inl ⟨z, by rw [R.strE r0], h1, h2, fun H' k => q _ _ H' h (.of k) (.bl _)⟩
  · refine .inr ⟨ok, ds, P, T1, r, ⟨d, ed, ht, fun z e => ⟨?_, hl z e⟩, ?_⟩, q⟩
    · by_cases h1 : 1 ≤ z.length
      · by_cases h2 : z.length ≤ 12
        · exact absurd ⟨z, e, h1, h2⟩ hg
        · exact .inr (by omega)
      · exact .inl (by omega)
    · have : nmB d = false := by
        cases d with
        | str z =>
          show ((decide (1 ≤ z.length) && decide (z.length ≤ 12)) && z.cps.toList.all azB) = false
          by_cases h1 : 1 ≤ z.length
          · by_cases h2 : z.length ≤ 12
            · exact absurd ⟨z, rfl, h1, h2⟩ hg
            · rw [decide_eq_false h2, Bool.and_false, Bool.false_and]
          · rw [decide_eq_false h1, Bool.false_and, Bool.false_and]
        | _ => rfl
      rwa [this] at h
def NotRow (K : PySem.W.Frag) (d : Dt) : Prop := ∃ t, HasTy K d t ∧ PySem.W.kitAny K t (["list", "tuple"].map Value.type) = some false
def wRowG (K : PySem.W.Frag) : List Dt → (Dt → Prop) → Prop := fun ds P => ∃ d t b, ds = [d] ∧ HasTy K d t ∧ PySem.W.kitAny K t (["list", "tuple"].map Value.type) = some b ∧ P (.bl b)
theorem row_lst {es : List Dt} {P : Dt → Prop} (h : P (.bl true)) : wRowG K [.lst es] P := ⟨_, _, _, rfl, .ty (n := "list") rfl, kAny_ty (by decide +kernel), h⟩
theorem row_tup {es : List Dt} {P : Dt → Prop} (h : P (.bl true)) : wRowG K [.tup es] P := ⟨_, _, _, rfl, .ty (n := "tuple") rfl, kAny_ty (by decide +kernel), h⟩
theorem row_not {d : Dt} {P : Dt → Prop} (n : NotRow K d) (h : P (.bl false)) : wRowG K [d] P := let ⟨t, h1, h2⟩ := n; ⟨d, t, false, rfl, h1, h2, h⟩
theorem sc_rowG : FnScope ["value"] ["value"] (defScope s_is_row) := ⟨rfl, rfl, rfl, by decide +kernel, rfl, by decide +kernel, by decide +kernel⟩
theorem ok_rowG {f : Addr} {fd : FuncData} (F : Fun K "is_row" "is_row" s_is_row f fd) (B : Blt mg) : FnOk P w K mg base CX0 1 f fd ["value"] (spU K TT (wRowG K)) := by
  refine fn_u F sc_rowG (by decide) (fun ds Q ⟨_, _, _, e, _⟩ => by rw [e]; rfl) fun cdv A outer s H E hr => ?_
  refine ⟨_, _, ([], []), ([], []), (pss_one (ps_ret (pe_callB call_isiT (by rfl) B.isinstance (by decide +kernel) (pa_cons (pv 0) (pa_cons (pe_tup (pa_cons (pe_bltn rfl B.list (by decide +kernel) (v := .ty "list") rfl) (pa_cons (pe_bltn rfl B.tuple (by decide +kernel) (v := .ty "tuple") rfl) pa_nil))) pa_nil))))), (ss_ret (se_isTG ["list", "tuple"] (by decide) (se_var 0))), ?_⟩
  rintro ds P ⟨d, t, b, rfl, h1, h2, q⟩
  walk_at "u"
  exact ⟨t, b, h1, h2, q⟩
end
end KX
namespace KX
open PySem PySem.Spec PyProof.Rows L2 UL
local macro_rules | `(tactic| walk_at "u") => `(tactic| repeat (first | ((with_reducible refine' wVar_of ?ke ?_); (case ke => rfl)) | with_reducible refine' wC_of ?_ | with_reducible refine' wB_of ?_ | with_reducible refine' wAnd_of ?_ | with_reducible refine' wOr_of ?_ | with_reducible refine' wNot_of ?_ | with_reducible refine' w2_of ?_ | with_reducible refine' w1_of ?_ | with_reducible refine' wCons_of ?_ | with_reducible refine' wNil_of ?_ | ((with_reducible refine' kIxT_of ?ke ?_); (case ke => rfl)) | with_reducible refine' wSeq_of ?_ | with_reducible refine' wSet_of ?_ | ((with_reducible refine' wSetF_of ?ke ?_); (case ke => rfl)) | ((with_reducible refine' wRetO_of ?ke ?_); (case ke => rfl)) | ((with_reducible refine' wSetNew_of ?hs ?_); (case hs => rfl)) | ((with_reducible refine' wPutN_of ?he ?_); (case he => rfl)) | ((with_reducible refine' wApp_of ?ke ?_); (case ke => rfl)) | with_reducible refine' wRet_of ?_ | with_reducible refine' wRetF_of ?_ | with_reducible refine' wIfS_of ?_ | with_reducible refine' wForS_of ?_ | with_reducible refine' wItemsL_of ?_ | with_reducible refine' wItemsT_of ?_ | with_reducible refine' wLc_of ?_ | with_reducible refine' wAndV_of ?_ | with_reducible refine' wOrV_of ?_ | with_reducible refine' wNotV_of ?_ | with_reducible refine' wIf_of ?_ | with_reducible refine' wGet2_of ?_ | with_reducible refine' wChain_of ?_ | with_reducible refine' wExpr_of ?_ | with_reducible refine' kLenL_of ?_ | with_reducible refine' kLenT_of ?_ | ((with_reducible refine' kFld_of ?ke ?_); (case ke => rfl)) | with_reducible refine' wLc2_of ?_ | with_reducible refine' wNext_of ?_ | ((with_reducible refine' kZip2_of ?k1 ?k2 ?_); (case k1 => rfl); (case k2 => rfl)) | ((with_reducible refine' kZip3_of ?k1 ?k2 ?k3 ?_); (case k1 => rfl); (case k2 => rfl); (case k3 => rfl)) | with_reducible refine' kEnumT_of ?_ | with_reducible refine' wPart_of ?_ | with_reducible refine' wNoPart_of ?_ | with_reducible refine' kTupOfL_of ?_ | with_reducible refine' wEndP_of ?_ | ((with_reducible refine' wNewP_of ?ke ?_); (case ke => rfl)) | with_reducible refine' kI_of ?_ | ((with_reducible refine' wRev_of ?ke ?_); (case ke => rfl)) | with_reducible refine' kNeI_of ?_ | with_reducible refine' kEqI_of ?_ | with_reducible refine' kNeS_of ?_ | with_reducible refine' kEqS_of ?_ | with_reducible refine' wDropX_of ?_ | with_reducible refine' wSetX_of ?_ | with_reducible refine' wRetX_of ?_ | with_reducible refine' wRaise_of ?_ | with_reducible refine' wTry_of ?_ | with_reducible refine' wSlT_of ?_ | with_reducible refine' wSlQ_of ?_ | with_reducible refine' kNeg_of ?_ | with_reducible refine' kLenQ_of ?_ | with_reducible refine' kLstT_of ?_ | with_reducible refine' kLstL_of ?_))
section
variable {P : Program} {w : World} {K : PySem.W.Frag} {mg : Str → Option Value} {base : Heap} {TT : List NdefX.NTab} {C CS CD : Addr} {T : TbC} {H H' : Hp}
def wDNames (CD : Addr) : List Dt → (List Dt → Prop) → Prop := fun ds P => ∃ zs : List Str, ds = [dDd CD zs] ∧ zs.Nodup ∧ zs.length < 64 ∧ ∀ ys : List Str, ys.Perm zs → sortedS ys = true → P (ys.map Dt.str)
def wOr (CD : Addr) : List Dt → (Dt → Prop) → Prop := fun ds P => ∃ (as bs : List Str), ds = [dDd CD as, dDd CD bs] ∧ as.Nodup ∧ bs.Nodup ∧ as.length < 64 ∧ bs.length < 64 ∧ (∀ z ∈ as, NameOk z) ∧ (∀ z ∈ bs, NameOk z) ∧ ∀ zs : List Str, zs.Nodup → (∀ z, z ∈ zs ↔ z ∈ as ∨ z ∈ bs) → P (dDd CD zs)
def wDEq (CD : Addr) : List Dt → (Dt → Prop) → Prop := fun ds P => ∃ (as bs : List Str), ds = [dDd CD as, dDd CD bs] ∧ as.Nodup ∧ bs.Nodup ∧ (∀ z, z ∈ as ↔ z ∈ bs) ∧ P (.bl true)
/-! ### words_of, done_in -/
def wWof (C CS : Addr) : List Dt → (Dt → Prop) → Prop := fun ds P => ∃ hs dl wl run ps x, ds = [dSys C CS hs dl wl, .tup (run.map dMv)] ∧ SySt hs dl wl ∧ Walk (hs.map (·.r)) wl run ps x ∧ run.length ≤ 100000 ∧ P (.tup (run.map fun m : Mov => Dt.str m.1))
def wDin (C CS CD : Addr) : List Dt → (Dt → Prop) → Prop := fun ds P => ∃ hs dl wl run ps x, ds = [dSys C CS hs dl wl, .tup (run.map dMv)] ∧ SySt hs dl wl ∧ (∀ z ∈ wl, NameOk z) ∧ Walk (hs.map (·.r)) wl run ps x ∧ run.length ≤ 100000 ∧ ∀ zs : List Str, zs.Nodup → (∀ z, z ∈ zs ↔ ∃ m ∈ run, m.1 = z) → P (dDd CD zs)
end
end KX
/-! a + b where one of both is an instance of a class with an own operator, and its reflection. -/
namespace VO
open PySem PySem.Spec PyProof.Rows L2
open PySem.W (findIn isFn selfFirst InstAt Looks clsIn looks_clsIn looks_findIn subIn looks_subIn)
section
variable {prog : Program} {w : World} {A : Around} {E : Value → Shared → Prop} {s : Shared} {K : PySem.W.Frag} {x C f : Addr} {ox : Obj} {od : Option Obj} {op : Operator} {Q : Value → Shared → Prop}
/-- a + b: a's class has the operator, b's type does not fill the slot -/
theorem bin_left {b tb : Value} (X : K.In s.heap) (I : InstAt s.heap x ox C od) (Tb : Looks (model prog w) s.heap (typeOf b) tb) (ne : (Value.ref C == tb) = false) (hc : selfFirst K C = true) (hs : findIn K (.ref C) (PySem.dunder op.info.2) = some (some (.ref f))) (hf : isFn K (.ref f) = true)
    (hR : Looks (model prog w) s.heap (fillsNumberSlot tb op.info.2) false) (h : wpAny (model prog w) A (call (.ref f) [.ref x, b]) (PySem.W.CmpBack Q) E s) : wpAny (model prog w) A (binaryOp op (.ref x) b) Q E s := by
  obtain ⟨cd, rest, hcd, hm⟩ := PySem.W.ksp_first hc
  rcases hi : op.info with ⟨sym, nm'⟩
  rw [hi] at hs hR
  dsimp only at hs hR
  have one := PySem.W.ksp_try X I hs hf h
  obtain ⟨hh, g, d, tt, os⟩ := s
  have L1 : Looks (model prog w) hh (typeOf (.ref x)) (.ref C) := I.type
  have L2 : Looks (model prog w) hh (typeOf b) tb := Tb
  have L3 : Looks (model prog w) hh (fillsNumberSlot (.ref C) nm') true := PySem.W.fills_K X hcd hm hs
  have L4 : Looks (model prog w) hh (fillsNumberSlot tb nm') false := hR
  simp only [binaryOp, hi]
  refine wpAny_holding (wpAny_bind ?_)
  unfold binaryOp1
  refine wpAny_bind (L1.at (wpAny_bind (L2.at (wpAny_bind (L3.at ?_)))))
  simp only [ne, Bool.false_eq_true, if_false]
  ksp_lk
  refine wpAny_mono one (fun r s' hr' => ?_) fun _ _ e => e
  obtain ⟨v, rfl, hq⟩ := hr'
  ksp_lk
  exact hq
/-- a + b: a's class has the operator, b's built-in type fills the slot -/
theorem bin_leftT {b : Value} {T : String} {ro : Option Value} (X : K.In s.heap) (I : InstAt s.heap x ox C od) (Tb : Looks (model prog w) s.heap (typeOf b) (.type T)) (hc : selfFirst K C = true) (hs : findIn K (.ref C) (PySem.dunder op.info.2) = some (some (.ref f))) (hf : isFn K (.ref f) = true)
    {g : Addr} (hr : findIn K (.ref C) (dunderR op.info.2) = some (some (.ref g))) (h2 : findIn K (.type T) (dunderR op.info.2) = some ro) (hsub : subIn K (.type T) (.ref C) = some false)
    (hR : Looks (model prog w) s.heap (fillsNumberSlot (.type T) op.info.2) true) (h : wpAny (model prog w) A (call (.ref f) [.ref x, b]) (PySem.W.CmpBack Q) E s) : wpAny (model prog w) A (binaryOp op (.ref x) b) Q E s := by
  obtain ⟨cd, rest, hcd, hm⟩ := PySem.W.ksp_first hc
  rcases hi : op.info with ⟨sym, nm'⟩
  rw [hi] at hs hR hr h2
  dsimp only at hs hR hr h2
  have one := PySem.W.ksp_try X I hs hf h
  obtain ⟨hh, g', d, tt, os⟩ := s
  have L1 : Looks (model prog w) hh (typeOf (.ref x)) (.ref C) := I.type
  have L2 : Looks (model prog w) hh (typeOf b) (.type T) := Tb
  have L3 : Looks (model prog w) hh (fillsNumberSlot (.ref C) nm') true := PySem.W.fills_K X hcd hm hs
  have L4 : Looks (model prog w) hh (fillsNumberSlot (.type T) nm') true := hR
  have L5 : Looks (model prog w) hh (isSubtype (.type T) (.ref C)) false := looks_subIn X hsub
  have L6 : Looks (model prog w) hh (numberSlotInPython (.ref C) nm') true := PySem.W.ksp_inPy X hs hr (.inr ⟨g, rfl⟩)
  have L7 : Looks (model prog w) hh (numberSlotInPython (.type T) nm') false := Looks.of_pure rfl
  have L8 : Looks (model prog w) hh (typeLookup (.type T) (dunderR nm')) ro := looks_findIn X h2
  have hne : (Value.ref C == Value.type T) = false := Bool.eq_false_iff.mpr fun q => by cases beq_iff_eq.mp q
  simp only [binaryOp, hi]
  refine wpAny_holding (wpAny_bind ?_)
  unfold binaryOp1
  refine wpAny_bind (L1.at (wpAny_bind (L2.at (wpAny_bind (L3.at ?_)))))
  simp only [hne, Bool.false_eq_true, if_false]
  ksp_lk
  refine wpAny_mono one (fun r s' hr' => ?_) fun _ _ e => e
  obtain ⟨v, rfl, hq⟩ := hr'
  ksp_lk
  exact hq
end
end VO
/-! len(a), bool(a), x in a of an instance with own methods. -/
namespace VL9
open PySem PySem.Spec PyProof.Rows L2
section
variable {X : Cx} {CX : CXT} {k : Nat} {C f : Addr} {fd : FuncData} {ps : List Str} {sp : Sp} {E : XK}
def rLenO (C : Addr) (sp : Sp) (E : XK) : List V → Hp → VK → Prop := fun vs H Q => ∃ (p dx : Addr) (fs : List (Str × V)), vs = [.ref p] ∧ H p = some (.ins C dx fs) ∧ sp [.ref p] H (fun v H' => ∃ n : Nat, v = .int (n : Int) ∧ n < 2 ^ 62 ∧ Q (.int (n : Int)) H') E
/-- x in a -/
def rInO (C : Addr) (neg : Bool) (sp : Sp) (E : XK) : R2 := fun x y H Q => ∃ (p dx : Addr) (fs : List (Str × V)), y = .ref p ∧ H p = some (.ins C dx fs) ∧ sp [.ref p, x] H (fun v H' => ∃ b : Bool, v = .bl b ∧ Q (.bl (if neg then !b else b)) H') E
/-- bool(a) -/
def rBoolO (C : Addr) (sp : Sp) (E : XK) : List V → Hp → VK → Prop := fun vs H Q => ∃ (p dx : Addr) (fs : List (Str × V)), vs = [.ref p] ∧ H p = some (.ins C dx fs) ∧ sp [.ref p] H (fun v H' => ∃ b : Bool, v = .bl b ∧ Q (.bl b) H') E
end
end VL9
namespace VL9
open PySem PySem.Spec PyProof.Rows L2
section
variable {prog : Program} {w : World} {A : Around} {E : Value → Shared → Prop} {s : Shared}
end
section
variable {X : Cx} {CX : CXT} {k : Nat} {C f : Addr} {fd : FuncData} {ps : List Str} {sp : Sp} {E : XK}
/-- bool of a dict -/
def rBoolD : List V → Hp → VK → Prop := fun vs H Q => ∃ (a : Addr) (kvs : List (Key × V)), vs = [.ref a] ∧ H a = some (.dK kvs) ∧ Q (.bl (!kvs.isEmpty)) H
end
end VL9
/-! set(a list), the items' kind left open; set(a list of tuples of ints) with few different ones -/
namespace VG
open PySem PySem.Spec PyProof.Rows L2
section
variable {P : Program} {w : World} {A : Around} {E : Value → Shared → Prop} {s : Shared}
end
end VG
/-! set(a list of tuples of ints): any length, few different ones -/
namespace VG
open PySem PySem.Spec PyProof.Rows L2
section
variable {P : Program} {w : World} {A : Around} {E : Value → Shared → Prop} {s : Shared}
end
section
variable {X : Cx}
def rSetU (K : PySem.W.Frag) (P : Program) (w : World) : List V → Hp → VK → Prop := fun xs H Q => ∃ (l : Addr) (ks : List (Addr × List Int)) (U : List (List Int)), xs = [V.ref l] ∧ SqL K H l (ks.map fun p => V.ref p.1) ∧ (∀ p ∈ ks, SqT K H p.1 (p.2.map V.int)) ∧ (∀ p ∈ ks, p.2 ∈ U) ∧ U.length + 1 < 64 ∧
  ∀ D L, H D = none → (∀ p ∈ L, p ∈ ks) → (∀ p ∈ ks, p.2 ∈ L.map (·.2)) → Q (.ref D) (upd H D (SetTO P w D L))
end
end VG
/-! set(texts) == set(texts). -/
namespace VT
open PySem PySem.Spec PyProof.Rows L2
section
variable {P : Program} {w : World} {A : Around} {E : Value → Shared → Prop} {s : Shared} {a b : Addr} {S S' : Str → Bool} {n m : Nat}
end
end VT

namespace VT
open PySem PySem.Spec PyProof.Rows L2
/-- set(xs) == set(ys), of texts -/
def rEqT (w : World) : R2 := fun x y H Q => ∃ (a b : Addr) (S S' : Str → Bool) (n m : Nat), x = .ref a ∧ y = .ref b ∧ H a = some (SetTO w a S n) ∧ H b = some (SetTO w b S' m) ∧ ∀ r : Bool, (r = true ↔ ∀ z, S z = S' z) → Q (.bl r) H
end VT
/-! UL: xs.insert(i, y), xs.pop(), xs.insert(0, xs.pop()), xs an own list -/
namespace UL
open PySem PySem.Spec PyProof.Rows L2
abbrev rIns_ : V → List V → Hp → VK → Prop := fun x vs H Q => ∃ (l : Addr) (xs : List V) (i : Int) (y : V), x = .ref l ∧ vs = [.int i, y] ∧ H l = some (.lst xs) ∧ xs.length < sizeLine ∧ 0 ≤ i ∧ i < 2 ^ 63 ∧ Q .non (upd H l (.lst (xs.take i.toNat ++ [y] ++ xs.drop i.toNat)))
section
variable {K : PySem.W.Frag} {T : List NdefX.NTab} {SL S S' S1 : Sl} {m m' m1 m2 m3 s : Bool} {te ta tb : TE} {t u : WE} {C C1 C' : Ct} {σ : L2.St} {H H' H1 : Hp} {ρ : Env} {ts ts1 : TS} {w w' : WS} {XO : XOut}
def insD (ds : List Dt) (k : Int) (d : Dt) : List Dt := ds.take k.toNat ++ [d] ++ ds.drop k.toNat
def wIns (i : Nat) (t u : WE) : WS := fun ρ P => match ρ[i]? with
  | some (some (.lst ds)) => t ρ fun a => u ρ fun d => match a with
    | .int k => 0 ≤ k ∧ k < 2 ^ 62 ∧ ds.length < 100000 ∧ P (.nx (ρ.set i (some (.lst (insD ds k d)))))
    | _ => False
  | _ => False
theorem wIns_of {i : Nat} {ds : List Dt} {P : Out → Prop} (e : ρ[i]? = some (some (.lst ds))) (h : t ρ fun a => u ρ fun d => match a with
    | .int k => 0 ≤ k ∧ k < 2 ^ 62 ∧ ds.length < 100000 ∧ P (.nx (ρ.set i (some (.lst (insD ds k d)))))
    | _ => False) : wIns i t u ρ P := by
  unfold wIns
  rw [e]
  exact h
/-- xs.pop(), xs not empty -/
def wPop (i : Nat) : WS := fun ρ P => match ρ[i]? with
  | some (some (.lst ds)) => ds ≠ [] ∧ P (.nx (ρ.set i (some (.lst ds.dropLast))))
  | _ => False
theorem Rs.dropLast {ok : Addr → Prop} {ds : List Dt} {vs : List V} (h : Rs K ok H ds vs) : Rs K ok H ds.dropLast vs.dropLast := by
  rw [List.dropLast_eq_take, List.dropLast_eq_take, h.len]
  exact h.take _
theorem wPop_of {i : Nat} {ds : List Dt} {P : Out → Prop} (e : ρ[i]? = some (some (.lst ds))) (h : ds ≠ [] ∧ P (.nx (ρ.set i (some (.lst ds.dropLast))))) : wPop i ρ P := by
  unfold wPop
  rw [e]
  exact h
/-- xs.insert(0, xs.pop()) -/
def wTurn (i : Nat) : WS := fun ρ P => match ρ[i]? with
  | some (some (.lst ds)) => ∃ es d, ds = es ++ [d] ∧ ds.length < 100000 ∧ P (.nx (ρ.set i (some (.lst (d :: es)))))
  | _ => False
end
end UL
/-! == and != of lists of small things, empty dicts among them; the answer when they are equal -/
namespace GQ
open PySem PySem.SeqAt
open AutoSeq1 (wpAny_loadPart')
open MeetsSeq MeetsSeq2 MeetsSeq3 SeqRoads2
section
variable {prog : Program} {w : World} {A : Around} {R : Result → Shared → Prop}
end
section
variable {prog : Program} {w : World} {A : Around} {E : Value → Shared → Prop} {s : Shared}
end
end GQ
namespace L2
open PySem PySem.Spec PyProof.Rows
section
variable {X : Cx} {n m : Nat} {D D' : Eqv}
def DE0 : Eqv := fun x y H => ∃ a b : Addr, x = .ref a ∧ y = .ref b ∧ H a = some (.dT []) ∧ H b = some (.dT [])
def rNeG (D : Eqv) : R2 := fun x y H Q => DList D x y H ∧ ∀ H', Ext H H' → Q (.bl false) H'
end
end L2
namespace UL
open PySem PySem.Spec PyProof.Rows L2
/-- small data -/
def SmD : Nat → Dt → Prop
  | 0, _ => False
  | n + 1, .lst ds => ds.length ≤ 1000 ∧ ∀ x ∈ ds, SmD n x
  | n + 1, .tup ds => ds.length ≤ 1000 ∧ ∀ x ∈ ds, SmD n x
  | _ + 1, .dct ks ds => ks = [] ∧ ds = []
  | _ + 1, .non => True
  | _ + 1, .bl _ => True
  | _ + 1, .int _ => True
  | _ + 1, .str _ => True
  | _, _ => False
theorem SmD.up {n : Nat} : ∀ {d : Dt}, SmD n d → SmD (n + 1) d := by
  induction n with
  | zero => exact fun h => h.elim
  | succ n ih =>
    intro d h
    cases d with
    | lst ds => exact ⟨h.1, fun x hx => ih (h.2 x hx)⟩
    | tup ds => exact ⟨h.1, fun x hx => ih (h.2 x hx)⟩
    | _ => exact h
section
variable {K : PySem.W.Frag} {T : List NdefX.NTab} {S : Sl} {X : Cx}
def DSm (K : PySem.W.Frag) (n : Nat) : Eqv := fun x y H => ∃ (o1 o2 : Addr → Prop) (d : Dt), SmD n d ∧ R K o1 H d x ∧ R K o2 H d y
/-- != of two lists of small things that are equal -/
abbrev rNeS (K : PySem.W.Frag) (n : Nat) : R2 := rNeG (DSm K n)
def kNeS_ (n : Nat) : Dt → Dt → (Dt → Prop) → Prop := fun a b P => ∃ ds, a = .lst ds ∧ b = .lst ds ∧ (∀ x ∈ ds, SmD n x) ∧ P (.bl false)
/-- == of the same -/
abbrev rEqS (K : PySem.W.Frag) (n : Nat) : R2 := rEqG (DList (DSm K n))
def kEqS_ (n : Nat) : Dt → Dt → (Dt → Prop) → Prop := fun a b P => ∃ ds, a = .lst ds ∧ b = .lst ds ∧ (∀ x ∈ ds, SmD n x) ∧ P (.bl true)
end
end UL
/-! UL: xs[i] = v of an own list; a tuple compared with an empty one; len(set(texts)). -/
namespace UL
open PySem PySem.Spec PyProof.Rows L2
section
variable {X : Cx}
/-- != with an empty tuple -/
def rNeT0 (K : PySem.W.Frag) : R2 := fun x y H Q => ∃ (a b : Addr) (us : List V), x = .ref a ∧ y = .ref b ∧ SqT K H a us ∧ SqT K H b [] ∧ Q (.bl (!us.isEmpty)) H
/-- len(set(texts)): how many different ones -/
def rLenT (w : World) : List V → Hp → VK → Prop := fun vs H Q => ∃ (a : Addr) (S : Str → Bool) (n : Nat), vs = [V.ref a] ∧ H a = some (VT.SetTO w a S n) ∧ ∀ ks : List Str, ks.Nodup → (∀ z, z ∈ ks ↔ S z = true) → Q (.int (ks.length : Nat)) H
end
section
variable {K : PySem.W.Frag} {T : List NdefX.NTab} {SL S S' S1 : Sl} {m m' m1 m2 m3 s : Bool} {te ta tb : TE} {t u : WE} {C C1 C' : Ct} {σ : L2.St} {H H' H1 : Hp} {ρ : Env} {ts ts1 : TS} {w w' : WS} {XO : XOut}
def kNeT0 : Dt → Dt → (Dt → Prop) → Prop
  | .tup ds, .tup [], P => P (.bl (!ds.isEmpty))
  | _, _, _ => False
def kLenSet : Dt → (Dt → Prop) → Prop
  | .lst ds, P => ∃ zs, Dt.strs ds = some zs ∧ zs.length < 1000 ∧ ∀ ks : List Str, ks.Nodup → (∀ z, z ∈ ks ↔ z ∈ zs) → P (.int (ks.length : Nat))
  | _, _ => False
/-- xs[k] = v -/
def wPutI (i : Nat) (t u : WE) : WS := fun ρ P => match ρ[i]? with
  | some (some (.lst ds)) => u ρ fun d => t ρ fun a => match a with
    | .int k => 0 ≤ k ∧ k < (ds.length : Nat) ∧ P (.nx (ρ.set i (some (.lst (ds.set k.toNat d)))))
    | _ => False
  | _ => False
theorem Rs.set {ok : Addr → Prop} {d : Dt} {v : V} (h1 : R K ok H d v) : ∀ {ds : List Dt} {vs : List V} (n : Nat), Rs K ok H ds vs → Rs K ok H (ds.set n d) (vs.set n v)
  | _, _, _, .nil => .nil
  | _, _, 0, .cons _ t => .cons h1 t
  | _, _, n + 1, .cons h t => .cons h (Rs.set h1 n t)
theorem wPutI_of {i : Nat} {ds : List Dt} {P : Out → Prop} (e : ρ[i]? = some (some (.lst ds))) (h : u ρ fun d => t ρ fun a => match a with
    | .int k => 0 ≤ k ∧ k < (ds.length : Nat) ∧ P (.nx (ρ.set i (some (.lst (ds.set k.toNat d)))))
    | _ => False) : wPutI i t u ρ P := by
  unfold wPutI
  rw [e]
  exact h
end
end UL
/-! UL: len(a), bool(a), x in a, a == x, a != x of an instance with own methods; set(xs) == set(ys); xs[::-1]; z[i:j]; len and bool of a dict. -/
namespace UL
open PySem PySem.Spec PyProof.Rows L2
section
variable {K : PySem.W.Frag} {T : List NdefX.NTab} {S : Sl} {m m1 m2 m3 : Bool} {ta tb : TE} {t u : WE} {H : Hp} {CC : Addr} {wm : List Dt → (Dt → Prop) → Prop} {E0 : XK}
/-- an instance of that class -/
def isO (CC : Addr) : Dt → Prop
  | .obj C1 _ _ => C1 = CC
  | _ => False
/-! len, bool of a dict -/
abbrev rLenDk : List V → Hp → VK → Prop := fun xs H Q => ∃ a kvs, xs = [V.ref a] ∧ H a = some (.dK kvs) ∧ Q (.int kvs.length) H
def kLenDk : Dt → (Dt → Prop) → Prop
  | .dk ks _, P => P (.int (ks.length : Nat))
  | _, _ => False
def kBoolDk : Dt → (Dt → Prop) → Prop
  | .dk ks _, P => P (.bl (!ks.isEmpty))
  | _, _ => False
/-! xs[::-1], z[i:j] -/
/-! set(xs) == set(ys) -/
def strsOf : Dt → Option (List Str)
  | .lst ds => Dt.strs ds
  | _ => none
/-! a part of a text -/
end
end UL
/-! sorted(d) of a dict whose keys are nested tuples, of any length. -/
namespace UL
open PySem PySem.Spec PyProof.Rows L2 PySem.W
section
variable {prog : Program} {w : World}
end
section
variable {X : Cx}
mutual
theorem reads_lt {h : Heap} : ∀ {v : Value} {d : PyData} {as : List Addr}, Reads h v d as → ∀ a ∈ as, a < h.objs.size
  | _, _, _, .none, a, ha => nomatch ha
  | _, _, _, .bool _, a, ha => nomatch ha
  | _, _, _, .int _ _, a, ha => nomatch ha
  | _, _, _, .str _ _, a, ha => nomatch ha
  | _, _, _, .list g _ _ r, a, ha => by
    rcases List.mem_cons.mp ha with rfl | ha
    · exact Heap.lt_size g
    · exact reads_lts r a ha
  | _, _, _, .tuple _ _ _ r, a, ha => reads_lts r a ha
  | _, _, _, .dict g _ _ r1 r2, a, ha => by
    rcases List.mem_append.mp ha with ha | ha
    · rcases List.mem_cons.mp ha with rfl | ha
      · exact Heap.lt_size g
      · exact reads_lts r1 a ha
    · exact reads_lts r2 a ha
theorem reads_lts {h : Heap} : ∀ {vs : List Value} {ds : List PyData} {as : List Addr}, ReadsAll h vs ds as → ∀ a ∈ as, a < h.objs.size
  | _, _, _, .nil, a, ha => nomatch ha
  | _, _, _, .cons r rs, a, ha => by
    rcases List.mem_append.mp ha with ha | ha
    · exact reads_lt r a ha
    · exact reads_lts rs a ha
end
/-- what is sorted: the keys, each with its data -/
abbrev leD : V × PyData → V × PyData → Bool := dataLe false (·.2)
def rSortedN (K : PySem.W.Frag) : List V → Hp → VK → Prop := fun xs H Q => ∃ (D : Addr) (L : NL3) (ds : List PyData), xs = [.ref D] ∧ H D = some (NdO D L) ∧ NKeys H L ∧ DpAll K H (L.map fun p => V.ref p.2.1) ds ∧ AllAlike ds ∧ Sortable ds ∧ (∀ d ∈ ds, d.depth ≤ 8) ∧
  ∀ p, H p = none → Q (.ref p) (upd H p (.lst ((((L.map fun p => V.ref p.2.1).zip ds).mergeSort leD).map (·.1))))
end
end UL
namespace KX
open PySem PySem.Spec PyProof.Rows L2 UL
local macro_rules | `(tactic| walk_at "u") => `(tactic| repeat (first | ((with_reducible refine' wVar_of ?ke ?_); (case ke => rfl)) | with_reducible refine' wC_of ?_ | with_reducible refine' wB_of ?_ | with_reducible refine' wAnd_of ?_ | with_reducible refine' wOr_of ?_ | with_reducible refine' wNot_of ?_ | with_reducible refine' w2_of ?_ | with_reducible refine' w1_of ?_ | with_reducible refine' wCons_of ?_ | with_reducible refine' wNil_of ?_ | ((with_reducible refine' kIxT_of ?ke ?_); (case ke => rfl)) | with_reducible refine' wSeq_of ?_ | with_reducible refine' wSet_of ?_ | ((with_reducible refine' wSetF_of ?ke ?_); (case ke => rfl)) | ((with_reducible refine' wRetO_of ?ke ?_); (case ke => rfl)) | ((with_reducible refine' wSetNew_of ?hs ?_); (case hs => rfl)) | ((with_reducible refine' wPutN_of ?he ?_); (case he => rfl)) | ((with_reducible refine' wPutI_of ?he ?_); (case he => rfl)) | ((with_reducible refine' wApp_of ?ke ?_); (case ke => rfl)) | with_reducible refine' wRet_of ?_ | with_reducible refine' wRetF_of ?_ | with_reducible refine' wIfS_of ?_ | with_reducible refine' wForS_of ?_ | with_reducible refine' wItemsL_of ?_ | with_reducible refine' wItemsT_of ?_ | with_reducible refine' wLc_of ?_ | with_reducible refine' wAndV_of ?_ | with_reducible refine' wOrV_of ?_ | with_reducible refine' wNotV_of ?_ | with_reducible refine' wIf_of ?_ | with_reducible refine' wGet2_of ?_ | with_reducible refine' wChain_of ?_ | with_reducible refine' wExpr_of ?_ | with_reducible refine' kLenL_of ?_ | with_reducible refine' kLenT_of ?_ | ((with_reducible refine' kFld_of ?ke ?_); (case ke => rfl)) | with_reducible refine' wLc2_of ?_ | with_reducible refine' wNext_of ?_ | ((with_reducible refine' kZip2_of ?k1 ?k2 ?_); (case k1 => rfl); (case k2 => rfl)) | ((with_reducible refine' kZip3_of ?k1 ?k2 ?k3 ?_); (case k1 => rfl); (case k2 => rfl); (case k3 => rfl)) | with_reducible refine' kEnumT_of ?_ | with_reducible refine' wPart_of ?_ | with_reducible refine' wNoPart_of ?_ | with_reducible refine' kTupOfL_of ?_ | with_reducible refine' wEndP_of ?_ | ((with_reducible refine' wNewP_of ?ke ?_); (case ke => rfl)) | with_reducible refine' kI_of ?_ | ((with_reducible refine' wRev_of ?ke ?_); (case ke => rfl)) | with_reducible refine' kNeI_of ?_ | with_reducible refine' kEqI_of ?_ | with_reducible refine' kNeS_of ?_ | with_reducible refine' kEqS_of ?_ | with_reducible refine' wDropX_of ?_ | with_reducible refine' wSetX_of ?_ | with_reducible refine' wRetX_of ?_ | with_reducible refine' wRaise_of ?_ | with_reducible refine' wTry_of ?_ | with_reducible refine' wSlT_of ?_ | with_reducible refine' wSlQ_of ?_ | with_reducible refine' kNeg_of ?_ | with_reducible refine' kLenQ_of ?_ | with_reducible refine' kLstT_of ?_ | with_reducible refine' kLstL_of ?_ | ((with_reducible refine' wSetNewK_of ?hs ?_); (case hs => rfl)) | ((with_reducible refine' wPutK_of ?he ?_); (case he => rfl)) | ((with_reducible refine' wIns_of ?he ?_); (case he => rfl)) | ((with_reducible refine' wPop_of ?he ?_); (case he => rfl))))
section
variable {P : Program} {w : World} {K : PySem.W.Frag} {mg : Str → Option Value} {base : Heap} {TT : List NdefX.NTab} {C CS CD : Addr} {T : TbC} {H H' : Hp}
/-! ### == of two kept dicts, with both answers -/
theorem valV_dkN {zs : List Str} {z : Str} (h : z ∉ zs) : valV (dkN zs) (Sum.inr z) = none := by
  cases e : valV (dkN zs) (Sum.inr z) with
  | none => rfl
  | some v =>
    have := valV_in e
    rw [dk_keys] at this
    obtain ⟨y, hy, e⟩ := List.mem_map.mp this
    cases e
    exact absurd hy h
def rEqDB : R2 := fun x y H Q => ∃ (a b : Addr) (as bs : List Str), x = .ref a ∧ y = .ref b ∧ H a = some (.dK (dkN as)) ∧ H b = some (.dK (dkN bs)) ∧ Q (.bl (decide (as.length = bs.length) && as.all fun z => decide (z ∈ bs))) H
def kEqDB : Dt → Dt → (Dt → Prop) → Prop
  | .dk ks ds, .dk ls es, P => ∃ as bs : List Str, (Dt.dk ks ds = dDk as ∧ Dt.dk ls es = dDk bs) ∧ as.Nodup ∧ bs.Nodup ∧ ∀ r : Bool, (r = true ↔ ∀ z, z ∈ as ↔ z ∈ bs) → P (.bl r)
  | _, _, _ => False
end
end KX
namespace KX
open PySem PySem.Spec PyProof.Rows L2 UL
local macro_rules | `(tactic| walk_at "u") => `(tactic| repeat (first | ((with_reducible refine' wVar_of ?ke ?_); (case ke => rfl)) | with_reducible refine' wC_of ?_ | with_reducible refine' wB_of ?_ | with_reducible refine' wAnd_of ?_ | with_reducible refine' wOr_of ?_ | with_reducible refine' wNot_of ?_ | with_reducible refine' w2_of ?_ | with_reducible refine' w1_of ?_ | with_reducible refine' wCons_of ?_ | with_reducible refine' wNil_of ?_ | ((with_reducible refine' kIxT_of ?ke ?_); (case ke => rfl)) | with_reducible refine' wSeq_of ?_ | with_reducible refine' wSet_of ?_ | ((with_reducible refine' wSetF_of ?ke ?_); (case ke => rfl)) | ((with_reducible refine' wRetO_of ?ke ?_); (case ke => rfl)) | ((with_reducible refine' wSetNew_of ?hs ?_); (case hs => rfl)) | ((with_reducible refine' wPutN_of ?he ?_); (case he => rfl)) | ((with_reducible refine' wPutI_of ?he ?_); (case he => rfl)) | ((with_reducible refine' wApp_of ?ke ?_); (case ke => rfl)) | with_reducible refine' wRet_of ?_ | with_reducible refine' wRetF_of ?_ | with_reducible refine' wIfS_of ?_ | with_reducible refine' wForS_of ?_ | with_reducible refine' wItemsL_of ?_ | with_reducible refine' wItemsT_of ?_ | with_reducible refine' wLc_of ?_ | with_reducible refine' wAndV_of ?_ | with_reducible refine' wOrV_of ?_ | with_reducible refine' wNotV_of ?_ | with_reducible refine' wIf_of ?_ | with_reducible refine' wGet2_of ?_ | with_reducible refine' wChain_of ?_ | with_reducible refine' wExpr_of ?_ | with_reducible refine' kLenL_of ?_ | with_reducible refine' kLenT_of ?_ | ((with_reducible refine' kFld_of ?ke ?_); (case ke => rfl)) | with_reducible refine' wLc2_of ?_ | with_reducible refine' wNext_of ?_ | ((with_reducible refine' kZip2_of ?k1 ?k2 ?_); (case k1 => rfl); (case k2 => rfl)) | ((with_reducible refine' kZip3_of ?k1 ?k2 ?k3 ?_); (case k1 => rfl); (case k2 => rfl); (case k3 => rfl)) | with_reducible refine' kEnumT_of ?_ | with_reducible refine' wPart_of ?_ | with_reducible refine' wNoPart_of ?_ | with_reducible refine' kTupOfL_of ?_ | with_reducible refine' wEndP_of ?_ | ((with_reducible refine' wNewP_of ?ke ?_); (case ke => rfl)) | with_reducible refine' kI_of ?_ | ((with_reducible refine' wRev_of ?ke ?_); (case ke => rfl)) | with_reducible refine' kNeI_of ?_ | with_reducible refine' kEqI_of ?_ | with_reducible refine' kNeS_of ?_ | with_reducible refine' kEqS_of ?_ | with_reducible refine' wDropX_of ?_ | with_reducible refine' wSetX_of ?_ | with_reducible refine' wRetX_of ?_ | with_reducible refine' wRaise_of ?_ | with_reducible refine' wTry_of ?_ | with_reducible refine' wSlT_of ?_ | with_reducible refine' wSlQ_of ?_ | with_reducible refine' kNeg_of ?_ | with_reducible refine' kLenQ_of ?_ | with_reducible refine' kLstT_of ?_ | with_reducible refine' kLstL_of ?_ | ((with_reducible refine' wSetNewK_of ?hs ?_); (case hs => rfl)) | ((with_reducible refine' wPutK_of ?he ?_); (case he => rfl)) | ((with_reducible refine' wIns_of ?he ?_); (case he => rfl)) | ((with_reducible refine' wPop_of ?he ?_); (case he => rfl))))
section
variable {P : Program} {w : World} {K : PySem.W.Frag} {mg : Str → Option Value} {base : Heap} {TT : List NdefX.NTab} {CD : Addr} {H H' : Hp}

/-! ### the questions to deeds -/
def wDLen (CD : Addr) : List Dt → (Dt → Prop) → Prop := fun ds P => ∃ zs : List Str, ds = [dDd CD zs] ∧ P (.int (zs.length : Nat))
def wDBool (CD : Addr) : List Dt → (Dt → Prop) → Prop := fun ds P => ∃ zs : List Str, ds = [dDd CD zs] ∧ P (.bl (!zs.isEmpty))
def inDB (zs : List Str) : Dt → Bool
  | .str z => decide (z ∈ zs)
  | _ => false
def strB : Dt → Bool
  | .str _ => true
  | _ => false
def wDHas (K : PySem.W.Frag) (CD : Addr) : List Dt → (Dt → Prop) → Prop := fun ds P => ∃ (zs : List Str) (x : Dt) (t : Value), ds = [dDd CD zs, x] ∧ HasTy K x t ∧ PySem.W.kitOne K t (.type "str") = some (strB x) ∧ P (.bl (inDB zs x))
def wDEqG (K : PySem.W.Frag) (CD : Addr) : List Dt → (Dt → Prop) → Prop := fun ds P => ∃ (zs : List Str) (x : Dt), ds = [dDd CD zs, x] ∧ ((∃ bs : List Str, x = dDd CD bs ∧ zs.Nodup ∧ bs.Nodup ∧ ∀ r : Bool, (r = true ↔ ∀ z, z ∈ zs ↔ z ∈ bs) → P (.bl r)) ∨ ∃ t : Value, HasTy K x t ∧ PySem.W.kitOne K t (.ref CD) = some false ∧ P (.bl false))
end
end KX
namespace KX
open PySem PySem.Spec PyProof.Rows L2 UL
local macro_rules | `(tactic| walk_at "u") => `(tactic| repeat (first | ((with_reducible refine' wVar_of ?ke ?_); (case ke => rfl)) | with_reducible refine' wC_of ?_ | with_reducible refine' wB_of ?_ | with_reducible refine' wAnd_of ?_ | with_reducible refine' wOr_of ?_ | with_reducible refine' wNot_of ?_ | with_reducible refine' w2_of ?_ | with_reducible refine' w1_of ?_ | with_reducible refine' wCons_of ?_ | with_reducible refine' wNil_of ?_ | ((with_reducible refine' kIxT_of ?ke ?_); (case ke => rfl)) | with_reducible refine' wSeq_of ?_ | with_reducible refine' wSet_of ?_ | ((with_reducible refine' wSetF_of ?ke ?_); (case ke => rfl)) | ((with_reducible refine' wRetO_of ?ke ?_); (case ke => rfl)) | ((with_reducible refine' wSetNew_of ?hs ?_); (case hs => rfl)) | ((with_reducible refine' wPutN_of ?he ?_); (case he => rfl)) | ((with_reducible refine' wPutI_of ?he ?_); (case he => rfl)) | ((with_reducible refine' wApp_of ?ke ?_); (case ke => rfl)) | with_reducible refine' wRet_of ?_ | with_reducible refine' wRetF_of ?_ | with_reducible refine' wIfS_of ?_ | with_reducible refine' wForS_of ?_ | with_reducible refine' wItemsL_of ?_ | with_reducible refine' wItemsT_of ?_ | with_reducible refine' wLc_of ?_ | with_reducible refine' wAndV_of ?_ | with_reducible refine' wOrV_of ?_ | with_reducible refine' wNotV_of ?_ | with_reducible refine' wIf_of ?_ | with_reducible refine' wGet2_of ?_ | with_reducible refine' wChain_of ?_ | with_reducible refine' wExpr_of ?_ | with_reducible refine' kLenL_of ?_ | with_reducible refine' kLenT_of ?_ | ((with_reducible refine' kFld_of ?ke ?_); (case ke => rfl)) | with_reducible refine' wLc2_of ?_ | with_reducible refine' wNext_of ?_ | ((with_reducible refine' kZip2_of ?k1 ?k2 ?_); (case k1 => rfl); (case k2 => rfl)) | ((with_reducible refine' kZip3_of ?k1 ?k2 ?k3 ?_); (case k1 => rfl); (case k2 => rfl); (case k3 => rfl)) | with_reducible refine' kEnumT_of ?_ | with_reducible refine' wPart_of ?_ | with_reducible refine' wNoPart_of ?_ | with_reducible refine' kTupOfL_of ?_ | with_reducible refine' wEndP_of ?_ | ((with_reducible refine' wNewP_of ?ke ?_); (case ke => rfl)) | with_reducible refine' kI_of ?_ | ((with_reducible refine' wRev_of ?ke ?_); (case ke => rfl)) | with_reducible refine' kNeI_of ?_ | with_reducible refine' kEqI_of ?_ | with_reducible refine' kNeS_of ?_ | with_reducible refine' kEqS_of ?_ | with_reducible refine' wDropX_of ?_ | with_reducible refine' wSetX_of ?_ | with_reducible refine' wRetX_of ?_ | with_reducible refine' wRaise_of ?_ | with_reducible refine' wTry_of ?_ | with_reducible refine' wSlT_of ?_ | with_reducible refine' wSlQ_of ?_ | with_reducible refine' kNeg_of ?_ | with_reducible refine' kLenQ_of ?_ | with_reducible refine' kLstT_of ?_ | with_reducible refine' kLstL_of ?_ | ((with_reducible refine' wSetNewK_of ?hs ?_); (case hs => rfl)) | ((with_reducible refine' wPutK_of ?he ?_); (case he => rfl)) | ((with_reducible refine' wIns_of ?he ?_); (case he => rfl)) | ((with_reducible refine' wPop_of ?he ?_); (case he => rfl))))
section
variable {P : Program} {w : World} {K : PySem.W.Frag} {mg : Str → Option Value} {base : Heap} {TT : List NdefX.NTab} {CD CW : Addr} {H H' : Hp}

/-! ### what told_names refuses -/
/-- names, then what is no name -/
def BadNmD (us : List Dt) (x : Dt) : Prop := ∃ (pre : List Str) (post : List Dt), us = pre.map Dt.str ++ x :: post ∧ (∀ z ∈ pre, NameOk z) ∧ Ty x ∧ (∀ z, x = .str z → z.length ≤ sizeLine) ∧ nmB x = false
def NotDd (K : PySem.W.Frag) (CD : Addr) (d : Dt) : Prop := ∃ t, HasTy K d t ∧ PySem.W.kitOne K t (.ref CD) = some false
def wTldB (K : PySem.W.Frag) (CD CW : Addr) (L : List Dt → Dt) : List Dt → (Dt → Prop) → (Xn → Prop) → Prop := fun ds P PX => ∃ us x, ds = [L us] ∧ us.length ≤ 1000 ∧ NotDd K CD (L us) ∧ BadNmD us x ∧ PX ⟨CW, "value", x⟩
def wTldN (K : PySem.W.Frag) (CD CW : Addr) : List Dt → (Dt → Prop) → (Xn → Prop) → Prop := fun ds P PX => ∃ d, ds = [d] ∧ NotDd K CD d ∧ NotRow K d ∧ PX ⟨CW, "value", d⟩
/-- such words are refused, with x -/
def BadTl (K : PySem.W.Frag) (CD : Addr) (d x : Dt) : Prop := NotDd K CD d ∧ ((NotRow K d ∧ x = d) ∨ ∃ us, d.seq = some us ∧ us.length ≤ 1000 ∧ BadNmD us x)
def wTldA (K : PySem.W.Frag) (CD CW : Addr) : List Dt → (Dt → Prop) → (Xn → Prop) → Prop := fun ds P PX => ∃ d x, ds = [d] ∧ BadTl K CD d x ∧ PX ⟨CW, "value", x⟩
theorem ok_tld_lst {rR rN rT rM fW : Addr} {sR sN sT sM fdW : FuncData} (B : Blt mg) (N : Kin mg) (D : DdsD K mg CD rR rN rT rM sR sN sT sM) (DW : ExcD P w K mg base "BadWords" "value" CW fW fdW) : FnOk P w K mg base (L2.CX P w) 3 rT sT ["words"] (spX K TT (wTldB K CD CW Dt.lst)) := by
  have DR : Cal K mg "is_row" s_is_row ["value"] rR sR := ⟨D.FR, D.bR, D.gR⟩
  have DN : Cal K mg "is_name" s_is_name ["value"] rN sN := ⟨D.FN, D.bN, D.gN⟩
  have GR : FnOk P w K mg base CX0 1 rR sR ["value"] (spU K TT (wRowG K)) := ok_rowG D.FR B
  have GN : FnOk P w K mg base CX0 1 rN sN ["value"] (spU K TT wNameG) := ok_nameG D.FN B N
  refine fn_x D.FT sc_told (by decide) (fun ds Q QX h => by obtain ⟨_, e⟩ : ∃ d, ds = [d] := let ⟨us, _, e, _⟩ := h; ⟨_, e⟩; rw [e]; rfl) fun cdv A outer s H E hr tk po => ?_
  refine ⟨_, _, ([], []), ([], []), (pss_cons (ps_if (pt_val (pe_callB call_isi (by rfl) B.isinstance (by decide +kernel) (pa_cons (pv 0) (pa_cons (pe_glob rfl D.mD (v := .ref CD) rfl) pa_nil)))) (pss_one VL.ps_dead) pss_nil)
      (pss_cons (ps_if (pt_not (pt_val (pe_call GR (hr.mono (by decide)) (by rfl) DR.g DR.F.kp DR.b .nil pass0 (pa_cons (pv 0) pa_nil)))) (pss_one (ps_raise rfl tk (pmk_oex DW.T DW.iC DW.tI DW.G (hr.mono (by decide)) DW.b .nil pass0 rfl DW.m (pa_cons (pv 0) pa_nil)))) pss_nil)
      (pss_cons (ps_for po rfl (pi_list (pv 0)) (pg_name (i := 1) sc_told.nd rfl (.inl rfl)) (pss_one (ps_if (pt_not (pt_val (pe_call GN (hr.mono (by decide)) (by rfl) DN.g DN.F.kp DN.b .nil pass0 (pa_cons (pv 1) pa_nil)))) (pss_one (ps_raise rfl tk (pmk_oex DW.T DW.iC DW.tI DW.G (hr.mono (by decide)) DW.b .nil pass0 rfl DW.m (pa_cons (pv 1) pa_nil)))) pss_nil)))
      pss_dead))), (ss_seq (ss_if (st_tB (se_isG (.own _) (SE.b (se_var 0)))) ss_dead ss_nil)
      (ss_seq (ss_if (st_not (st_tB (se_call (sa_cons (se_var 0) sa_nil)))) (ss_raise (se_var 0) (fun _ h => nomatch h)) ss_nil)
      (ss_seq (ss_for (g := (gName 1)) (si_listS (se_var 0)) (sg_name 1) (ss_if (st_not (st_tB (se_call (sa_cons (se_var 1) sa_nil)))) (ss_raise (se_var 1) (fun _ h => nomatch h)) ss_nil))
      ss_dead))), ?_⟩
  rintro ds P PX ⟨us, x, rfl, le, ⟨t, ht, hk⟩, ⟨pre, post, rfl, hp, tx, lx, nx⟩, q⟩
  walk_at "u"
  refine ⟨t, false, ht, hk, ?_⟩
  refine iteF ?_
  walk_at "u"
  refine row_lst ?_
  refine iteF ?_
  walk_at "u"
  refine wFor_app (f := Dt.str) (fun i ρ => ∃ v1 : Option Dt, ρ = [some (.lst (pre.map Dt.str ++ x :: post)), v1]) pre ⟨none, rfl⟩ ?_ ?_
  · rintro i z ρ k ez ⟨v1, rfl⟩ hk
    refine ⟨_, rfl, ?_⟩
    walk_at "u"
    refine ⟨_, rfl, rfl, fun z' e => ?_, ?_⟩
    · cases e
      have := (hp z (List.mem_of_getElem? ez)).hi
      rw [len_cps, sizeLine_eq]
      omega
    walk_at "u"
    rw [nameOk_b (hp z (List.mem_of_getElem? ez))]
    refine iteF ?_
    walk_at "u"
    exact hk _ ⟨_, rfl⟩
  rintro ρ ⟨v1, rfl⟩
  refine wFor_cons rfl ?_
  walk_at "u"
  refine ⟨_, rfl, tx, lx, ?_⟩
  walk_at "u"
  rw [nx]
  refine iteT ?_
  walk_at "u"
  exact q
theorem ok_tld_tup {rR rN rT rM fW : Addr} {sR sN sT sM fdW : FuncData} (B : Blt mg) (N : Kin mg) (D : DdsD K mg CD rR rN rT rM sR sN sT sM) (DW : ExcD P w K mg base "BadWords" "value" CW fW fdW) : FnOk P w K mg base (L2.CX P w) 3 rT sT ["words"] (spX K TT (wTldB K CD CW Dt.tup)) := by
  have DR : Cal K mg "is_row" s_is_row ["value"] rR sR := ⟨D.FR, D.bR, D.gR⟩
  have DN : Cal K mg "is_name" s_is_name ["value"] rN sN := ⟨D.FN, D.bN, D.gN⟩
  have GR : FnOk P w K mg base CX0 1 rR sR ["value"] (spU K TT (wRowG K)) := ok_rowG D.FR B
  have GN : FnOk P w K mg base CX0 1 rN sN ["value"] (spU K TT wNameG) := ok_nameG D.FN B N
  refine fn_x D.FT sc_told (by decide) (fun ds Q QX h => by obtain ⟨_, e⟩ : ∃ d, ds = [d] := let ⟨us, _, e, _⟩ := h; ⟨_, e⟩; rw [e]; rfl) fun cdv A outer s H E hr tk po => ?_
  refine ⟨_, _, ([], []), ([], []), (pss_cons (ps_if (pt_val (pe_callB call_isi (by rfl) B.isinstance (by decide +kernel) (pa_cons (pv 0) (pa_cons (pe_glob rfl D.mD (v := .ref CD) rfl) pa_nil)))) (pss_one VL.ps_dead) pss_nil)
      (pss_cons (ps_if (pt_not (pt_val (pe_call GR (hr.mono (by decide)) (by rfl) DR.g DR.F.kp DR.b .nil pass0 (pa_cons (pv 0) pa_nil)))) (pss_one (ps_raise rfl tk (pmk_oex DW.T DW.iC DW.tI DW.G (hr.mono (by decide)) DW.b .nil pass0 rfl DW.m (pa_cons (pv 0) pa_nil)))) pss_nil)
      (pss_cons (ps_for po rfl (pi_tup (pv 0)) (pg_name (i := 1) sc_told.nd rfl (.inl rfl)) (pss_one (ps_if (pt_not (pt_val (pe_call GN (hr.mono (by decide)) (by rfl) DN.g DN.F.kp DN.b .nil pass0 (pa_cons (pv 1) pa_nil)))) (pss_one (ps_raise rfl tk (pmk_oex DW.T DW.iC DW.tI DW.G (hr.mono (by decide)) DW.b .nil pass0 rfl DW.m (pa_cons (pv 1) pa_nil)))) pss_nil)))
      pss_dead))), (ss_seq (ss_if (st_tB (se_isG (.own _) (SE.b (se_var 0)))) ss_dead ss_nil)
      (ss_seq (ss_if (st_not (st_tB (se_call (sa_cons (se_var 0) sa_nil)))) (ss_raise (se_var 0) (fun _ h => nomatch h)) ss_nil)
      (ss_seq (ss_for (g := (gName 1)) (si_tup (SE.b (se_var 0))) (sg_name 1) (ss_if (st_not (st_tB (se_call (sa_cons (se_var 1) sa_nil)))) (ss_raise (se_var 1) (fun _ h => nomatch h)) ss_nil))
      ss_dead))), ?_⟩
  rintro ds P PX ⟨us, x, rfl, le, ⟨t, ht, hk⟩, ⟨pre, post, rfl, hp, tx, lx, nx⟩, q⟩
  walk_at "u"
  refine ⟨t, false, ht, hk, ?_⟩
  refine iteF ?_
  walk_at "u"
  refine row_tup ?_
  refine iteF ?_
  walk_at "u"
  refine wFor_app (f := Dt.str) (fun i ρ => ∃ v1 : Option Dt, ρ = [some (.tup (pre.map Dt.str ++ x :: post)), v1]) pre ⟨none, rfl⟩ ?_ ?_
  · rintro i z ρ k ez ⟨v1, rfl⟩ hk
    refine ⟨_, rfl, ?_⟩
    walk_at "u"
    refine ⟨_, rfl, rfl, fun z' e => ?_, ?_⟩
    · cases e
      have := (hp z (List.mem_of_getElem? ez)).hi
      rw [len_cps, sizeLine_eq]
      omega
    walk_at "u"
    rw [nameOk_b (hp z (List.mem_of_getElem? ez))]
    refine iteF ?_
    walk_at "u"
    exact hk _ ⟨_, rfl⟩
  rintro ρ ⟨v1, rfl⟩
  refine wFor_cons rfl ?_
  walk_at "u"
  refine ⟨_, rfl, tx, lx, ?_⟩
  walk_at "u"
  rw [nx]
  refine iteT ?_
  walk_at "u"
  exact q
theorem ok_tld_N {rR rN rT rM fW : Addr} {sR sN sT sM fdW : FuncData} (B : Blt mg) (N : Kin mg) (D : DdsD K mg CD rR rN rT rM sR sN sT sM) (DW : ExcD P w K mg base "BadWords" "value" CW fW fdW) : FnOk P w K mg base (L2.CX P w) 3 rT sT ["words"] (spX K TT (wTldN K CD CW)) := by
  have DR : Cal K mg "is_row" s_is_row ["value"] rR sR := ⟨D.FR, D.bR, D.gR⟩
  have DN : Cal K mg "is_name" s_is_name ["value"] rN sN := ⟨D.FN, D.bN, D.gN⟩
  have GR : FnOk P w K mg base CX0 1 rR sR ["value"] (spU K TT (wRowG K)) := ok_rowG D.FR B
  have GN : FnOk P w K mg base CX0 1 rN sN ["value"] (spU K TT wNameG) := ok_nameG D.FN B N
  refine fn_x D.FT sc_told (by decide) (fun ds Q QX h => by obtain ⟨_, e⟩ : ∃ d, ds = [d] := let ⟨d, e, _⟩ := h; ⟨d, e⟩; rw [e]; rfl) fun cdv A outer s H E hr tk po => ?_
  refine ⟨_, _, ([], []), ([], []), (pss_cons (ps_if (pt_val (pe_callB call_isi (by rfl) B.isinstance (by decide +kernel) (pa_cons (pv 0) (pa_cons (pe_glob rfl D.mD (v := .ref CD) rfl) pa_nil)))) (pss_one VL.ps_dead) pss_nil)
      (pss_cons (ps_if (pt_not (pt_val (pe_call GR (hr.mono (by decide)) (by rfl) DR.g DR.F.kp DR.b .nil pass0 (pa_cons (pv 0) pa_nil)))) (pss_one (ps_raise rfl tk (pmk_oex DW.T DW.iC DW.tI DW.G (hr.mono (by decide)) DW.b .nil pass0 rfl DW.m (pa_cons (pv 0) pa_nil)))) pss_nil)
      pss_dead)), (ss_seq (ss_if (st_tB (se_isG (.own _) (SE.b (se_var 0)))) ss_dead ss_nil)
      (ss_seq (ss_if (st_not (st_tB (se_call (sa_cons (se_var 0) sa_nil)))) (ss_raise (se_var 0) (fun _ h => nomatch h)) ss_nil)
      ss_dead)), ?_⟩
  rintro ds P PX ⟨d, rfl, ⟨t, ht, hk⟩, nr, q⟩
  walk_at "u"
  refine ⟨t, false, ht, hk, ?_⟩
  refine iteF ?_
  walk_at "u"
  refine row_not nr ?_
  refine iteT ?_
  walk_at "u"
  exact q

theorem ok_tldA {rR rN rT rM fW : Addr} {sR sN sT sM fdW : FuncData} (B : Blt mg) (N : Kin mg) (D : DdsD K mg CD rR rN rT rM sR sN sT sM) (DW : ExcD P w K mg base "BadWords" "value" CW fW fdW) : FnOk P w K mg base (L2.CX P w) 3 rT sT ["words"] (spX K TT (wTldA K CD CW)) := by
  refine (fnOr (fnOr (ok_tld_lst (TT := TT) B N D DW) (ok_tld_tup (TT := TT) B N D DW)) (ok_tld_N (TT := TT) B N D DW)).imp fun vs H Q E ⟨ok, ds, P, PX, T1, r, ⟨d, x, ed, ⟨nd, h1⟩, hx⟩, q, qx⟩ => ?_
  subst ed
  rcases h1 with ⟨nr, rfl⟩ | ⟨us, hd, le, bn⟩
  · exact .inr ⟨ok, _, P, PX, T1, r, ⟨_, rfl, nd, nr, hx⟩, q, qx⟩
  · cases d <;> first | cases hd | skip
    · exact .inl (.inl ⟨ok, _, P, PX, T1, r, ⟨_, x, rfl, le, nd, bn, hx⟩, q, qx⟩)
    · exact .inl (.inr ⟨ok, _, P, PX, T1, r, ⟨_, x, rfl, le, nd, bn, hx⟩, q, qx⟩)
end
end KX
namespace KX
open PySem PySem.Spec PyProof.Rows L2 UL
local macro_rules | `(tactic| walk_at "u") => `(tactic| repeat (first | ((with_reducible refine' wVar_of ?ke ?_); (case ke => rfl)) | with_reducible refine' wC_of ?_ | with_reducible refine' wB_of ?_ | with_reducible refine' wAnd_of ?_ | with_reducible refine' wOr_of ?_ | with_reducible refine' wNot_of ?_ | with_reducible refine' w2_of ?_ | with_reducible refine' w1_of ?_ | with_reducible refine' wCons_of ?_ | with_reducible refine' wNil_of ?_ | ((with_reducible refine' kIxT_of ?ke ?_); (case ke => rfl)) | with_reducible refine' wSeq_of ?_ | with_reducible refine' wSet_of ?_ | ((with_reducible refine' wSetF_of ?ke ?_); (case ke => rfl)) | ((with_reducible refine' wRetO_of ?ke ?_); (case ke => rfl)) | ((with_reducible refine' wSetNew_of ?hs ?_); (case hs => rfl)) | ((with_reducible refine' wPutN_of ?he ?_); (case he => rfl)) | ((with_reducible refine' wPutI_of ?he ?_); (case he => rfl)) | ((with_reducible refine' wApp_of ?ke ?_); (case ke => rfl)) | with_reducible refine' wRet_of ?_ | with_reducible refine' wRetF_of ?_ | with_reducible refine' wIfS_of ?_ | with_reducible refine' wForS_of ?_ | with_reducible refine' wItemsL_of ?_ | with_reducible refine' wItemsT_of ?_ | with_reducible refine' wLc_of ?_ | with_reducible refine' wAndV_of ?_ | with_reducible refine' wOrV_of ?_ | with_reducible refine' wNotV_of ?_ | with_reducible refine' wIf_of ?_ | with_reducible refine' wGet2_of ?_ | with_reducible refine' wChain_of ?_ | with_reducible refine' wExpr_of ?_ | with_reducible refine' kLenL_of ?_ | with_reducible refine' kLenT_of ?_ | ((with_reducible refine' kFld_of ?ke ?_); (case ke => rfl)) | with_reducible refine' wLc2_of ?_ | with_reducible refine' wNext_of ?_ | ((with_reducible refine' kZip2_of ?k1 ?k2 ?_); (case k1 => rfl); (case k2 => rfl)) | ((with_reducible refine' kZip3_of ?k1 ?k2 ?k3 ?_); (case k1 => rfl); (case k2 => rfl); (case k3 => rfl)) | with_reducible refine' kEnumT_of ?_ | with_reducible refine' wPart_of ?_ | with_reducible refine' wNoPart_of ?_ | with_reducible refine' kTupOfL_of ?_ | with_reducible refine' wEndP_of ?_ | ((with_reducible refine' wNewP_of ?ke ?_); (case ke => rfl)) | with_reducible refine' kI_of ?_ | ((with_reducible refine' wRev_of ?ke ?_); (case ke => rfl)) | with_reducible refine' kNeI_of ?_ | with_reducible refine' kEqI_of ?_ | with_reducible refine' kNeS_of ?_ | with_reducible refine' kEqS_of ?_ | with_reducible refine' wDropX_of ?_ | with_reducible refine' wSetX_of ?_ | with_reducible refine' wRetX_of ?_ | with_reducible refine' wRaise_of ?_ | with_reducible refine' wTry_of ?_ | with_reducible refine' wSlT_of ?_ | with_reducible refine' wSlQ_of ?_ | with_reducible refine' kNeg_of ?_ | with_reducible refine' kLenQ_of ?_ | with_reducible refine' kLstT_of ?_ | with_reducible refine' kLstL_of ?_ | ((with_reducible refine' wSetNewK_of ?hs ?_); (case hs => rfl)) | ((with_reducible refine' wPutK_of ?he ?_); (case he => rfl)) | ((with_reducible refine' wIns_of ?he ?_); (case he => rfl)) | ((with_reducible refine' wPop_of ?he ?_); (case he => rfl))))
section
variable {P : Program} {w : World} {K : PySem.W.Frag} {mg : Str → Option Value} {base : Heap} {TT : List NdefX.NTab} {CD : Addr} {H H' : Hp}

/-! ### a name in deeds, deeds within others -/
def spDHas (CD : Addr) : Sp := fun vs H Q _ => ∃ (v : V) (z : Str) (zs : List Str), vs = [v, .str z] ∧ DdsAt CD H v zs ∧ Q (.bl (decide (z ∈ zs))) H
theorem valV_dkE {zs : List Str} {z : Str} : (valV (dkN zs) (Sum.inr z)).isSome = decide (z ∈ zs) := by
  by_cases c : z ∈ zs
  · rw [valV_dk c, decide_eq_true c]; rfl
  · rw [valV_dkN c, decide_eq_false c]; rfl
def spDWithin (K : PySem.W.Frag) (CD : Addr) : Sp := fun vs H Q _ => ∃ (v u : V) (zs : List Str) (S : List Str → Prop), vs = [v, u] ∧ DdsAt CD H v zs ∧ zs.length ≤ 1000 ∧ TellD K CD H u S ∧ ∀ (ys : List Str) (H' : Hp), S ys → Same H H' → Q (.bl (zs.all fun z => decide (z ∈ ys))) H'
/-- over data -/
def wDWithin (CD : Addr) : List Dt → (Dt → Prop) → Prop := fun ds P => ∃ (zs : List Str) (e : Dt) (S : List Str → Prop), ds = [dDd CD zs, e] ∧ zs.Nodup ∧ zs.length ≤ 1000 ∧ TellDt CD e S ∧ ∀ ys, S ys → P (.bl (zs.all fun z => decide (z ∈ ys)))
end
end KX
/-! a + b with an own __add__ or __radd__ that may raise, told over data. -/
namespace VO
open PySem PySem.Spec PyProof.Rows L2
open PySem.W (findIn isFn selfFirst InstAt Looks clsIn looks_clsIn looks_findIn subIn looks_subIn)
abbrev noAdd : List String := ["NoneType", "str", "tuple", "list", "dict"]
/-- what the classes C (no +) and CS (+ and its reflection) are -/
structure AddF (K : PySem.W.Frag) (C CS fA fR : Addr) : Prop where
  sf : selfFirst K CS = true
  a : findIn K (.ref CS) (PySem.dunder "add") = some (some (.ref fA))
  ia : isFn K (.ref fA) = true
  r : findIn K (.ref CS) (dunderR "add") = some (some (.ref fR))
  ir : isFn K (.ref fR) = true
  m : ∃ cd, clsIn K C = some cd ∧ cd.mro = [.ref C, .type "object"]
  c1 : findIn K (.ref C) (PySem.dunder "add") = some none
  c2 : findIn K (.ref C) (dunderR "add") = some none
  o1 : findIn K (.type "object") (PySem.dunder "add") = some none
  o2 : findIn K (.type "object") (dunderR "add") = some none
  ne : C ≠ CS
  t0 : ∀ n ∈ noAdd, ∃ fo ro, findIn K (.type n) (PySem.dunder "add") = some fo ∧ findIn K (.type n) (dunderR "add") = some ro ∧ ((fo.isSome && !isSeqSlot fo) || (ro.isSome && !isSeqSlot ro)) = false
  t1 : ∀ n ∈ ["int", "bool"], ∃ fo ro, findIn K (.type n) (PySem.dunder "add") = some fo ∧ findIn K (.type n) (dunderR "add") = some ro ∧ ((fo.isSome && !isSeqSlot fo) || (ro.isSome && !isSeqSlot ro)) = true
  s1 : ∀ n ∈ ["int", "bool"], subIn K (.type n) (.ref CS) = some false
  s2 : ∀ n ∈ ["int", "bool"], subIn K (.ref CS) (.type n) = some false
/-- the other operand -/
def Oth (K : PySem.W.Frag) (C : Addr) (H : Hp) (y : V) : Prop := (∃ q dy gs, y = .ref q ∧ H q = some (.ins C dy gs)) ∨ (∃ n ∈ noAdd, TyX K H y (.type n)) ∨ (∃ i, y = .int i) ∨ ∃ b, y = .bl b
def rAddX (K : PySem.W.Frag) (C CS : Addr) (spA spR : Sp) : XK → R2 := fun E x y H Q => (∃ p dx fs, x = .ref p ∧ H p = some (.ins CS dx fs) ∧ ((∃ q dy gs, y = .ref q ∧ H q = some (.ins CS dy gs)) ∨ Oth K C H y) ∧ spA [x, y] H Q E) ∨
  Oth K C H x ∧ ∃ q dy gs, y = .ref q ∧ H q = some (.ins CS dy gs) ∧ spR [y, x] H Q E
section
variable {X : Cx} {CX : CXT} {k : Nat} {C CS fA fR : Addr} {fdA fdR : FuncData} {pA pR : List Str} {spA spR : Sp} {E : L2.St → XK} {ta tb : TE} {a b : Expr} {pos : Pos}
def tOpSD (r : XK → R2) (E : L2.St → XK) (ta tb : TE) : TE := fun σ H Q => ta σ H fun x H1 => tb σ H1 fun y H2 => r (E σ) x y H2 Q
theorem ne_rt {a : Addr} {n : String} : (Value.ref a == Value.type n) = false := Bool.eq_false_iff.mpr fun q => by cases beq_iff_eq.mp q
end
end VO
namespace UL
open PySem PySem.Spec PyProof.Rows L2
section
variable {K : PySem.W.Frag} {T : List NdefX.NTab} {S : Sl} {m1 m2 : Bool} {ta tb : TE} {t u : WE} {H : Hp} {W : WX} {C CS : Addr}
/-- the other operand of a + -/
def OthD (C : Addr) (d : Dt) : Prop := (∃ ks ds, d = .obj C ks ds) ∨ ∃ n, d.tyN = some n ∧ n ∈ ["NoneType", "str", "tuple", "list", "dict", "int", "bool"]
def wAddO (C CS : Addr) (wA wR : List Dt → (Dt → Prop) → (Xn → Prop) → Prop) (t u : WE) : WEX := fun ρ P PX => t ρ fun a => u ρ fun b => ((∃ ks ds, a = .obj CS ks ds) ∧ ((∃ ks ds, b = .obj CS ks ds) ∨ OthD C b) ∧ wA [a, b] P PX) ∨ OthD C a ∧ (∃ ks ds, b = .obj CS ks ds) ∧ wR [b, a] P PX
end
end UL
/-! a op b of an own class with an operator and its reflection, the other operand a list, a tuple or of the same class; a op= b. -/
namespace VO
open PySem PySem.Spec PyProof.Rows L2
open PySem.W (findIn isFn selfFirst InstAt Looks clsIn looks_clsIn looks_findIn subIn looks_subIn)
abbrev seqs : List String := ["list", "tuple"]
structure BinF (K : PySem.W.Frag) (C fA fR : Addr) (nm : String) : Prop where
  sf : selfFirst K C = true
  a : findIn K (.ref C) (PySem.dunder nm) = some (some (.ref fA))
  ia : isFn K (.ref fA) = true
  r : findIn K (.ref C) (dunderR nm) = some (some (.ref fR))
  ir : isFn K (.ref fR) = true
  t0 : ∀ n ∈ seqs, ∃ fo ro, findIn K (.type n) (PySem.dunder nm) = some fo ∧ findIn K (.type n) (dunderR nm) = some ro ∧ ((fo.isSome && !isSeqSlot fo) || (ro.isSome && !isSeqSlot ro)) = false
def rBinL (K : PySem.W.Frag) (C : Addr) (sp : Sp) (E : XK) : R2 := fun x y H Q => ∃ p dx fs, x = .ref p ∧ H p = some (.ins C dx fs) ∧ ((∃ q dy gs, y = .ref q ∧ H q = some (.ins C dy gs)) ∨ ∃ n ∈ seqs, TyX K H y (.type n)) ∧ sp [x, y] H Q E
def rBinR (K : PySem.W.Frag) (C : Addr) (sp : Sp) (E : XK) : R2 := fun x y H Q => (∃ n ∈ seqs, TyX K H x (.type n)) ∧ ∃ q dy gs, y = .ref q ∧ H q = some (.ins C dy gs) ∧ sp [y, x] H Q E
def rBinD (K : PySem.W.Frag) (C : Addr) (spA spR : Sp) (E : XK) : R2 := fun x y H Q => rBinL K C spA E x y H Q ∨ rBinR K C spR E x y H Q
def rIopO (C : Addr) (sp : Sp) (E : XK) : V → V → Hp → VK → Prop := fun x y H Q => ∃ p dx fs, x = .ref p ∧ H p = some (.ins C dx fs) ∧ sp [x, y] H Q E
section
variable {X : Cx} {CX CY : CXT} {k k2 : Nat} {C fA fR : Addr} {fdA fdR : FuncData} {pA pR : List Str} {spA spR : Sp} {E : XK}
theorem op_binL {op : Operator} (D : BinF X.K C fA fR op.info.2) (FA : FnOk X.prog X.w X.K X.mg X.base CX k fA fdA pA spA) (bA : Binds X.K fdA pA []) (hr : Room k X.A) (hx : Passes CX X E) : OpR X (binaryOp op) (rBinL X.K C spA E) := by
  intro pins s σ H x y v u Q I rx ry h
  obtain ⟨p, dx, fs, rfl, hp, ho, hsp⟩ := h
  cases rx
  have rv2 : Vals [V.ref p, y] [Value.ref p, u] := .cons rfl (.cons ry .nil)
  have call : wpAny (model X.prog X.w) X.A (call (.ref fA) [.ref p, u]) (PySem.W.CmpBack (EP X pins σ Q)) X.xe s := by
    refine wpAny_mono (VQ.run_at FA ⟨hr, rfl⟩ bA hx I rv2 hsp) (fun r s' z => ?_) fun _ _ z => z
    obtain ⟨v', H', I', rv, qq⟩ := z
    exact SlX.cmpback rv ⟨v', H', I', rv, qq⟩
  obtain ⟨_, J, _⟩ := ins_get I.hok hp
  obtain ⟨od, J, _⟩ := J.look
  rcases ho with ⟨q, dy, gs, rfl, hq⟩ | ⟨n, hn, ty⟩
  · cases ry
    obtain ⟨_, J', _⟩ := ins_get I.hok hq
    obtain ⟨od', J', _⟩ := J'.look
    exact bin_same (op := op) I.kIn J J' D.sf D.a D.ia call
  · obtain ⟨P, Z, hP, _⟩ := kit_of I ry ty
    obtain ⟨fo, ro, h1, h2, h3⟩ := D.t0 n hn
    have fT := PySem.W.ksp_fillsT (M := model X.prog X.w) I.kIn h1 h2
    rw [h3] at fT
    exact bin_left (op := op) I.kIn J (Z.ty _ _ I.kIn hP) ne_rt D.sf D.a D.ia fT call
theorem in_opO {op : Operator} (hc : selfFirst X.K C = true) (hs : findIn X.K (.ref C) (dunderI op.info.2) = some (some (.ref fA))) (hf : isFn X.K (.ref fA) = true) (FA : FnOk X.prog X.w X.K X.mg X.base CX k fA fdA pA spA) (bA : Binds X.K fdA pA []) (hr : Room k X.A) (hx : Passes CX X E) : PIp X op (rIopO C spA E) := by
  intro pins s σ H x y v u Q I rx ry h
  obtain ⟨p, dx, fs, rfl, hp, hsp⟩ := h
  cases rx
  have rv2 : Vals [V.ref p, y] [Value.ref p, u] := .cons rfl (.cons ry .nil)
  obtain ⟨_, J, _⟩ := ins_get I.hok hp
  obtain ⟨od, J, _⟩ := J.look
  obtain ⟨m, hF⟩ := I.fr
  refine PySem.W.ksp_inplace hF I.ok.mod.kin J hc hs hf ?_
  refine wpAny_mono (VQ.run_at FA ⟨hr, rfl⟩ bA hx I rv2 hsp) (fun r s' z => ?_) fun _ _ z => z
  obtain ⟨v', H', I', rv, qq⟩ := z
  exact SlX.cmpback rv ⟨v', H', I', rv, qq⟩
end
end VO
namespace KX
open PySem PySem.Spec PyProof.Rows L2 UL
local macro_rules | `(tactic| walk_at "u") => `(tactic| repeat (first | ((with_reducible refine' wVar_of ?ke ?_); (case ke => rfl)) | with_reducible refine' wC_of ?_ | with_reducible refine' wB_of ?_ | with_reducible refine' wAnd_of ?_ | with_reducible refine' wOr_of ?_ | with_reducible refine' wNot_of ?_ | with_reducible refine' w2_of ?_ | with_reducible refine' w1_of ?_ | with_reducible refine' wCons_of ?_ | with_reducible refine' wNil_of ?_ | ((with_reducible refine' kIxT_of ?ke ?_); (case ke => rfl)) | with_reducible refine' wSeq_of ?_ | with_reducible refine' wSet_of ?_ | ((with_reducible refine' wSetF_of ?ke ?_); (case ke => rfl)) | ((with_reducible refine' wRetO_of ?ke ?_); (case ke => rfl)) | ((with_reducible refine' wSetNew_of ?hs ?_); (case hs => rfl)) | ((with_reducible refine' wPutN_of ?he ?_); (case he => rfl)) | ((with_reducible refine' wPutI_of ?he ?_); (case he => rfl)) | ((with_reducible refine' wApp_of ?ke ?_); (case ke => rfl)) | with_reducible refine' wRet_of ?_ | with_reducible refine' wRetF_of ?_ | with_reducible refine' wIfS_of ?_ | with_reducible refine' wForS_of ?_ | with_reducible refine' wItemsL_of ?_ | with_reducible refine' wItemsT_of ?_ | with_reducible refine' wLc_of ?_ | with_reducible refine' wAndV_of ?_ | with_reducible refine' wOrV_of ?_ | with_reducible refine' wNotV_of ?_ | with_reducible refine' wIf_of ?_ | with_reducible refine' wGet2_of ?_ | with_reducible refine' wChain_of ?_ | with_reducible refine' wExpr_of ?_ | with_reducible refine' kLenL_of ?_ | with_reducible refine' kLenT_of ?_ | ((with_reducible refine' kFld_of ?ke ?_); (case ke => rfl)) | with_reducible refine' wLc2_of ?_ | with_reducible refine' wNext_of ?_ | ((with_reducible refine' kZip2_of ?k1 ?k2 ?_); (case k1 => rfl); (case k2 => rfl)) | ((with_reducible refine' kZip3_of ?k1 ?k2 ?k3 ?_); (case k1 => rfl); (case k2 => rfl); (case k3 => rfl)) | with_reducible refine' kEnumT_of ?_ | with_reducible refine' wPart_of ?_ | with_reducible refine' wNoPart_of ?_ | with_reducible refine' kTupOfL_of ?_ | with_reducible refine' wEndP_of ?_ | ((with_reducible refine' wNewP_of ?ke ?_); (case ke => rfl)) | with_reducible refine' kI_of ?_ | ((with_reducible refine' wRev_of ?ke ?_); (case ke => rfl)) | with_reducible refine' kNeI_of ?_ | with_reducible refine' kEqI_of ?_ | with_reducible refine' kNeS_of ?_ | with_reducible refine' kEqS_of ?_ | with_reducible refine' wDropX_of ?_ | with_reducible refine' wSetX_of ?_ | with_reducible refine' wRetX_of ?_ | with_reducible refine' wRaise_of ?_ | with_reducible refine' wTry_of ?_ | with_reducible refine' wSlT_of ?_ | with_reducible refine' wSlQ_of ?_ | with_reducible refine' kNeg_of ?_ | with_reducible refine' kLenQ_of ?_ | with_reducible refine' kLstT_of ?_ | with_reducible refine' kLstL_of ?_ | ((with_reducible refine' wSetNewK_of ?hs ?_); (case hs => rfl)) | ((with_reducible refine' wPutK_of ?he ?_); (case he => rfl)) | ((with_reducible refine' wIns_of ?he ?_); (case he => rfl)) | ((with_reducible refine' wPop_of ?he ?_); (case he => rfl))))
section
variable {P : Program} {w : World} {K : PySem.W.Frag} {mg : Str → Option Value} {base : Heap} {CD : Addr} {H H' : Hp}

/-! ### Deeds' operators, by the hand layer -/
def GoodS (S : List Str → Prop) : Prop := ∀ ys, S ys → ys.length < 64 ∧ ∀ z ∈ ys, NameOk z
/-- the deeds at p, with nothing else -/
def DdsX (CD : Addr) (H : Hp) (p : Addr) (zs : List Str) : Prop := ∃ dx d, H p = some (.ins CD dx (dfs d)) ∧ H d = some (.dK (dkN zs)) ∧ zs.Nodup
theorem DdsX.at_ {p : Addr} {zs : List Str} (h : DdsX CD H p zs) : DdsAt CD H (.ref p) zs := let ⟨dx, d, e, e2, nd⟩ := h; ⟨p, dx, _, d, rfl, e, rfl, fun f hf => dfs_out d f hf, e2, nd⟩
theorem DdsX.same {p : Addr} {zs : List Str} (k : Same H H') (h : DdsX CD H p zs) : DdsX CD H' p zs := let ⟨dx, d, e, e2, nd⟩ := h; ⟨dx, d, k _ _ e, k _ _ e2, nd⟩
/-- the deeds at p, whose dict is new since H0 -/
def DdsF (CD : Addr) (H0 H : Hp) (p : Addr) (zs : List Str) : Prop := ∃ dx d, H0 d = none ∧ H p = some (.ins CD dx (dfs d)) ∧ H d = some (.dK (dkN zs)) ∧ zs.Nodup
theorem DdsF.x {H0 : Hp} {p : Addr} {zs : List Str} (h : DdsF CD H0 H p zs) : DdsX CD H p zs := let ⟨dx, d, _, e, e2, nd⟩ := h; ⟨dx, d, e, e2, nd⟩
theorem DdsF.old {H0 H1 : Hp} {p : Addr} {zs : List Str} (k : Same H0 H1) (h : DdsF CD H1 H p zs) : DdsF CD H0 H p zs := let ⟨dx, d, n, e, e2, nd⟩ := h; ⟨dx, d, k.free n, e, e2, nd⟩
theorem TellD.side {u : V} {S : List Str → Prop} (h : TellD K CD H u S) : (∃ q dy gs, u = .ref q ∧ H q = some (.ins CD dy gs)) ∨ ∃ n ∈ VO.seqs, TyX K H u (.type n) := by
  rcases h with ⟨a, zs, rfl, h, _⟩ | ⟨zs, ⟨p, dx, fs, d, rfl, e, _⟩, _⟩
  · rcases id h with h | h
    · exact .inr ⟨_, by simp, tyL h⟩
    · exact .inr ⟨_, by simp, tyT (.inl (.inl h))⟩
  · exact .inl ⟨p, dx, fs, rfl, e⟩
/-- Deeds(u), as a value -/
theorem mkD {H1 : Hp} {u : V} {S : List Str → Prop} {R : Addr → Hp → Prop} {E : XK} (hT : TellD K CD H1 u S) (q : ∀ (p : Addr) (zs ys : List Str) (H' : Hp), S ys → H1 p = none → Same H1 H' → DdsF CD H1 H' p zs → (∀ z, z ∈ zs ↔ z ∈ ys) → R p H') :
    ∀ x dx, H1 x = none → H1 dx = none → dx ≠ x → spDInit K CD (.ref x :: ([u] ++ [])) (upd (upd H1 dx (.own x)) x (.ins CD dx [])) (fun v H2 => v = .non ∧ R x H2) E := by
  intro x dx hx hdx ne
  have m10 : Same H1 (upd (upd H1 dx (.own x)) x (.ins CD dx [])) := (same_new hdx).trans (same_new (by rw [upd_ne ne.symm]; exact hx))
  exact ⟨x, dx, u, S, rfl, upd_same, hT.same m10, fun ys zs d H' hs ly hd hx1 hd1 nd hz sx => ⟨rfl, q x zs ys H' hs hx (fun b o e => sx b o (ne_of_none e hx) (m10 b o e)) ⟨dx, d, m10.free hd, hx1, hd1, nd⟩ hz⟩⟩
/-- what self and other make -/
def spDBin (K : PySem.W.Frag) (CD : Addr) (g : Prop → Prop → Prop) : Sp := fun vs H Q _ => ∃ (v u : V) (as : List Str) (S : List Str → Prop), vs = [v, u] ∧ DdsAt CD H v as ∧ as.length < 64 ∧ (∀ z ∈ as, NameOk z) ∧ TellD K CD H u S ∧ GoodS S ∧
  ∀ (p : Addr) (zs ys : List Str) (H' : Hp), S ys → H p = none → Same H H' → DdsF CD H H' p zs → (∀ z, z ∈ zs ↔ g (z ∈ as) (z ∈ ys)) → Q (.ref p) H'
def andG (a b : Prop) : Prop := a ∧ b
def subG (a b : Prop) : Prop := a ∧ ¬b
def rubG (a b : Prop) : Prop := b ∧ ¬a
structure DdI (K : PySem.W.Frag) (CD dv rI : Addr) (sI : FuncData) : Prop where
  FI : FunD K "__init__" "Deeds.__init__" (defArgs s_Deeds_init) (defBody s_Deeds_init) (defScope s_Deeds_init) [.ref dv] [] rI sI
  bI : Binds K sI ["self", "words"] []
  MI : Mk K CD rI
theorem sc_dorH : FnScope ["self", "other"] ["self", "other"] (defScope s_Deeds_or) := ⟨rfl, rfl, rfl, by decide +kernel, rfl, by decide +kernel, by decide +kernel⟩
theorem ok_dorH {f : Addr} {fd : FuncData} {fR fN fT fM : Addr} {fdR fdN fdT fdM : FuncData} {dv rI : Addr} {sI : FuncData} (F : Fun K "__or__" "Deeds.__or__" s_Deeds_or f fd) (B : Blt mg) (N : Kin mg) (D : DdsD K mg CD fR fN fT fM fdR fdN fdT fdM) (I : DdI K CD dv rI sI) : FnOk P w K mg base CX0 5 f fd ["self", "other"] (spDBin K CD Or) := by
  have GI : FnOk P w K mg base CX0 3 rI sI ["self", "words"] (spDInit K CD) := ok_dinit I.FI B N D
  have GT : FnOk P w K mg base CX0 2 fT fdT ["words"] (spTold K CD) := ok_told B N D
  have GM : FnOk P w K mg base CX0 1 fM fdM ["self"] (spDNames CD) := ok_dnames D.FM B D.TD
  refine F.ok sc_dorH (fun vs H Q E h => ?_) (fun cdv A outer s H vs Q E hr h => ?_)
  · obtain ⟨v, u, as, S, rfl, _⟩ := h
    rfl
  · obtain ⟨v, u, as, S, rfl, hv, la, ka, hT, gS, q⟩ := h
    refine ⟨_, pss_one (ps_ret (pe_make I.MI GI (hr.mono (by decide)) (by rfl) D.mD I.bI .nil pass0 (pa_cons (pe_op op_cat (pe_meth0 (pv 0) D.TD.cl D.MM GM (hr.mono (by decide)) D.bM .nil pass0) (pe_call GT (hr.mono (by decide)) (by rfl) D.gT D.FT.kp D.bT .nil pass0 (pa_cons (pv 1) pa_nil))) pa_nil))), ?_⟩
    obtain ⟨p, dx, fs, d, rfl, hp, f1, f2, hd, nd⟩ := id hv
    refine ⟨_, rfl, p, dx, _, rfl, hp, f2 _ (by decide +kernel), _, as, rfl, hv, la, fun l xs pm so hl => ?_⟩
    have k1 : Same H (upd H l (.lst (xs.map V.str))) := same_new hl
    refine ⟨_, rfl, u, S, rfl, hT.same k1, fun m ys H2 hs ly hm hm2 k2 => ?_⟩
    have hl2 := k2 _ _ (upd_same (H := H) (a := l) (o := .lst (xs.map V.str)))
    have k12 := k1.trans k2
    refine ⟨l, m, _, _, rfl, rfl, hl2, hm2, by rw [List.length_map, List.length_map, sizeLine_eq]; have := pm.length_eq; have := (gS ys hs).1; omega, fun c hc => ?_⟩
    have k3 : Same H2 (upd H2 c (.lst (xs.map V.str ++ ys.map V.str))) := same_new hc
    refine mkD (S := fun zs => zs = xs ++ ys) (.inl ⟨c, xs ++ ys, rfl, .inl (.inl (.inl (by rw [upd_same, List.map_append]))), fun z hz => ?_, by rw [List.length_append]; have := pm.length_eq; have := (gS ys hs).1; omega, rfl⟩) (fun p' zs ys' H' e hp' k' hD hz => ?_)
    · rcases List.mem_append.mp hz with h | h
      · exact ka z (pm.mem_iff.mp h)
      · exact (gS ys hs).2 z h
    · subst e
      exact q p' zs ys H' hs ((k12.trans k3).free hp') ((k12.trans k3).trans k') (hD.old (k12.trans k3)) fun z => by rw [hz z, List.mem_append, pm.mem_iff]

theorem sc_dandH : FnScope ["self", "other", "name"] ["self", "other"] (defScope s_Deeds_and) := ⟨rfl, rfl, rfl, by decide +kernel, rfl, by decide +kernel, by decide +kernel⟩
theorem ok_dandH {f : Addr} {fd : FuncData} {fR fN fT fM : Addr} {fdR fdN fdT fdM : FuncData} {dv rI : Addr} {sI : FuncData} (F : Fun K "__and__" "Deeds.__and__" s_Deeds_and f fd) (B : Blt mg) (N : Kin mg) (D : DdsD K mg CD fR fN fT fM fdR fdN fdT fdM) (I : DdI K CD dv rI sI) : FnOk P w K mg base CX0 5 f fd ["self", "other"] (spDBin K CD andG) := by
  have GI : FnOk P w K mg base CX0 3 rI sI ["self", "words"] (spDInit K CD) := ok_dinit I.FI B N D
  have GT : FnOk P w K mg base CX0 2 fT fdT ["words"] (spTold K CD) := ok_told B N D
  refine F.ok sc_dandH (fun vs H Q E h => ?_) (fun cdv A outer s H vs Q E hr h => ?_)
  · obtain ⟨v, u, as, S, rfl, _⟩ := h
    rfl
  · obtain ⟨v, u, as, S, rfl, hv, la, ka, hT, gS, q⟩ := h
    refine ⟨_, pss_one (ps_ret (pe_make I.MI GI (hr.mono (by decide)) (by rfl) D.mD I.bI .nil pass0 (pa_cons (pe_lc (own := [("name", 2)]) (g := gName 2) (tt := tB (tDIn (tVar 2) (tFld K (tVar 0) "kept"))) rfl sc_dandH.nd (pi_list (pe_call GT (hr.mono (by decide)) (by rfl) D.gT D.FT.kp D.bT .nil pass0 (pa_cons (pv 1) pa_nil))) (blkOk_by (N := ["self", "other", "name"]) (sc := defScope s_Deeds_and) (by decide +kernel))
        (fun _ _ _ _ _ => pg_name (i := 2) sc_dandH.nd rfl (.inl rfl)) (fun _ _ _ _ _ => pts_one (pt_cmp (pc_din (hu_of hr) (pv 2) (pe_fld (pv 0) rfl)))) (fun _ _ _ _ _ => pv 2)) pa_nil))), ?_⟩
    obtain ⟨p, dx, fs, d, rfl, hp, f1, f2, hd, nd⟩ := id hv
    refine ⟨_, rfl, u, S, rfl, hT, fun m ys H2 hs ly hm hm2 k2 => ⟨m, rfl, ⟨_, .inl (.inl hm2)⟩, fun L hL => ?_⟩⟩
    have gs := gS ys hs
    refine lc_it (walk_list (K := K) (a := m) (xs := ys.map V.str)) (fun i H3 => ∃ bs : List Str, H3 L = some (.lst (bs.map V.str)) ∧ bs = (ys.take i).filter (fun z => decide (z ∈ as)) ∧ Same H2 H3) ⟨[], upd_same, by rw [List.take_zero]; rfl, same_new hL⟩ (fun i H3 _ ⟨_, _, _, k⟩ => .inl (.inl (k _ _ hm2))) ?_ ?_
    · rintro i x H3 H4 hi ⟨bs, hL3, eb, s3⟩ ⟨rfl, hx⟩
      rw [List.length_map] at hi
      have ez : ys[i]? = some ys[i] := List.getElem?_eq_getElem hi
      rw [List.getElem?_map, ez] at hx
      cases hx
      have hd3 := s3 _ _ (k2 _ _ hd)
      refine ⟨rfl, _, rfl, _, rfl, p, CD, dx, _, _, rfl, s3 _ _ (k2 _ _ hp), D.TD.cl, D.TD.kept, f1, d, valV (dkN as) (Sum.inr ys[i]), rfl, .inl ⟨dkN as, Sum.inr ys[i], .inl hd3, rfl, rfl⟩, _, rfl, ?_⟩
      rw [valV_dkE]
      have lb : bs.length ≤ 64 := by rw [eb]; exact Nat.le_trans (List.length_filter_le ..) (by rw [List.length_take]; omega)
      by_cases c : ys[i] ∈ as
      · rw [decide_eq_true c]
        refine iteT ?_
        refine ⟨_, rfl, _, hL3, small1000 (by rw [List.length_map]; omega), bs ++ [ys[i]], by rw [upd_same, List.map_append]; rfl, ?_, fun b o e => ?_⟩
        · rw [List.take_add_one, ez, List.filter_append, eb]
          simp [c]
        · rw [upd_ne (ne_of_none e hL)]
          exact s3 b o e
      · rw [decide_eq_false c]
        refine iteF ?_
        refine ⟨bs, hL3, ?_, s3⟩
        rw [List.take_add_one, ez, List.filter_append, eb]
        simp [c]
    · rintro H3 ⟨bs, hL3, eb, s3⟩
      rw [List.length_map, List.take_length] at eb
      have k3 := k2.trans s3
      refine mkD (S := fun zs => zs = bs) (.inl ⟨L, bs, rfl, .inl (.inl (.inl hL3)), fun z hz => ?_, ?_, rfl⟩) (fun p' zs ys' H' e hp' k' hD hz => ?_)
      · rw [eb] at hz
        exact gs.2 z (List.mem_filter.mp hz).1
      · rw [eb]
        exact Nat.le_trans (List.length_filter_le ..) (by omega)
      · subst e
        exact q p' zs ys H' hs (k3.free hp') (k3.trans k') (hD.old k3) fun z => by
          rw [hz z, eb, List.mem_filter]
          exact ⟨fun h => ⟨of_decide_eq_true h.2, h.1⟩, fun h => ⟨h.2, decide_eq_true h.1⟩⟩
theorem sc_dsubH : FnScope ["self", "other", "away", "name"] ["self", "other"] (defScope s_Deeds_sub) := ⟨rfl, rfl, rfl, by decide +kernel, rfl, by decide +kernel, by decide +kernel⟩
theorem ok_dsubH {f : Addr} {fd : FuncData} {fR fN fT fM : Addr} {fdR fdN fdT fdM : FuncData} {dv rI : Addr} {sI : FuncData} (F : Fun K "__sub__" "Deeds.__sub__" s_Deeds_sub f fd) (B : Blt mg) (N : Kin mg) (D : DdsD K mg CD fR fN fT fM fdR fdN fdT fdM) (I : DdI K CD dv rI sI) : FnOk P w K mg base CX0 5 f fd ["self", "other"] (spDBin K CD subG) := by
  have GI : FnOk P w K mg base CX0 3 rI sI ["self", "words"] (spDInit K CD) := ok_dinit I.FI B N D
  refine F.ok sc_dsubH (fun vs H Q E h => ?_) (fun cdv A outer s H vs Q E hr h => ?_)
  · obtain ⟨v, u, as, S, rfl, _⟩ := h
    rfl
  · obtain ⟨v, u, as, S, rfl, hv, la, ka, hT, gS, q⟩ := h
    refine ⟨_, pss_cons (ps_set (i := 2) sc_dsubH.nd rfl (.inr rfl) (pe_make I.MI GI (hr.mono (by decide)) (by rfl) D.mD I.bI .nil pass0 (pa_cons (pv 1) pa_nil)))
      (pss_one (ps_ret (pe_make I.MI GI (hr.mono (by decide)) (by rfl) D.mD I.bI .nil pass0 (pa_cons (pe_lock (pe_lc (own := [("name", 3)]) (g := gName 3) (tt := tB (tDNotIn (tVar 3) (tFld K (tVar 2) "kept"))) rfl sc_dsubH.nd (pi_keys (pe_fld (pv 0) rfl)) (blkOk_by (N := ["self", "other", "away", "name"]) (sc := defScope s_Deeds_sub) (by decide +kernel))
        (fun _ _ _ _ _ => pg_name (i := 3) sc_dsubH.nd rfl (.inl rfl)) (fun _ _ _ _ _ => pts_one (pt_cmp (pc_dnotin (hu_of hr) (pv 3) (pe_fld (pv 2) rfl)))) (fun _ _ _ _ _ => pv 3))) pa_nil)))), ?_⟩
    refine ⟨_, rfl, fun x0 dx0 hx0 hdx0 ne0 => ?_⟩
    have m10 : Same H (upd (upd H dx0 (.own x0)) x0 (.ins CD dx0 [])) := (same_new hdx0).trans (same_new (by rw [upd_ne ne0.symm]; exact hx0))
    refine ⟨x0, dx0, u, S, rfl, upd_same, hT.same m10, fun ys ws d0 H1 hs ly hd00 hx1 hd1 nd1 hw sx => ⟨rfl, ?_⟩⟩
    have k1 : Same H H1 := fun b o e => sx b o (ne_of_none e hx0) (m10 b o e)
    have fd0 : H d0 = none := m10.free hd00
    have gs := gS ys hs
    obtain ⟨x, rfl⟩ : ∃ x, x = x0 := ⟨x0, rfl⟩
    obtain ⟨dx, rfl⟩ : ∃ dx, dx = dx0 := ⟨dx0, rfl⟩
    have hx := hx0
    obtain ⟨p, dp, fs, d, rfl, hp0, f1, f2, hd0, nd⟩ := id hv
    have hp := k1 _ _ hp0
    have hd := k1 _ _ hd0
    have nx : d ≠ x := fun z => by rw [z, hx] at hd0; cases hd0
    have np : d ≠ p := fun z => by rw [z, hp0] at hd0; cases hd0
    refine ⟨d, .dK (dkN as), hd, True.intro, fun od => ?_⟩
    have kf : ∀ b o, b ≠ d → H1 b = some o → upd H1 d (.frz od (.dK (dkN as))) b = some o := fun b o n e => by rw [upd_ne n]; exact e
    have nd0 : d0 ≠ d := fun z => by rw [← z, fd0] at hd0; cases hd0
    refine ⟨_, rfl, p, CD, dp, _, _, rfl, kf _ _ np.symm hp, D.TD.cl, D.TD.kept, f1, d, od, rfl, .inl ⟨dkN as, upd_same, fun L hL => ?_⟩⟩
    have hLd : L ≠ d := fun z => by rw [z, upd_same] at hL; cases hL
    have hL1 : H1 L = none := by rw [upd_ne hLd] at hL; exact hL
    refine lc_it walk_keys (fun i H3 => ∃ bs : List Str, H3 L = some (.lst (bs.map V.str)) ∧ bs = (as.take i).filter (fun z => !decide (z ∈ ws)) ∧ Same (upd H1 d (.frz od (.dK (dkN as)))) H3) ⟨[], upd_same, by rw [List.take_zero]; rfl, same_new hL⟩ (fun i H3 _ ⟨_, _, _, k⟩ => k _ _ upd_same) ?_ ?_
    · rintro i y H3 H4 hi ⟨bs, hL3, eb, s3⟩ ⟨rfl, k, vv, ek, rfl⟩
      rw [List.length_map] at hi
      have ez : as[i]? = some as[i] := List.getElem?_eq_getElem hi
      rw [List.getElem?_map, ez] at ek
      cases ek
      refine ⟨rfl, _, rfl, _, rfl, x, CD, dx, _, _, rfl, s3 _ _ (kf _ _ nx.symm hx1), D.TD.cl, D.TD.kept, rfl, d0, valV (dkN ws) (Sum.inr as[i]), rfl, .inl ⟨dkN ws, Sum.inr as[i], .inl (s3 _ _ (kf _ _ nd0 hd1)), rfl, rfl⟩, _, rfl, ?_⟩
      rw [valV_dkE]
      have lb : bs.length ≤ 64 := by rw [eb]; exact Nat.le_trans (List.length_filter_le ..) (by rw [List.length_take]; omega)
      by_cases c : as[i] ∈ ws
      · rw [decide_eq_true c]
        refine iteF ?_
        refine ⟨bs, hL3, ?_, s3⟩
        rw [List.take_add_one, ez, List.filter_append, eb]
        simp [c]
      · rw [decide_eq_false c]
        refine iteT ?_
        refine ⟨_, rfl, _, hL3, small1000 (by rw [List.length_map]; omega), bs ++ [as[i]], by rw [upd_same, List.map_append]; rfl, ?_, fun b o e => ?_⟩
        · rw [List.take_add_one, ez, List.filter_append, eb]
          simp [c]
        · rw [upd_ne (ne_of_none e hL)]
          exact s3 b o e
    · rintro H3 ⟨bs, hL3, eb, s3⟩
      have et : as.take (dkN as).length = as := by rw [List.length_map, List.take_length]
      rw [et] at eb
      refine ⟨s3 _ _ upd_same, ?_⟩
      have k3 : Same H (upd H3 d (.dK (dkN as))) := fun b o e => by
        by_cases c : b = d
        · subst c
          rw [upd_same]
          rw [hd0] at e
          exact e
        · rw [upd_ne c]
          exact s3 _ _ (kf _ _ c (k1 _ _ e))
      refine mkD (S := fun zs => zs = bs) (.inl ⟨L, bs, rfl, .inl (.inl (.inl (by rw [upd_ne hLd]; exact hL3))), fun z hz => ?_, ?_, rfl⟩) (fun p' zs ys' H' e hp' k' hD hz => ?_)
      · rw [eb] at hz
        exact ka z (List.mem_filter.mp hz).1
      · rw [eb]
        exact Nat.le_trans (List.length_filter_le ..) (by omega)
      · subst e
        exact q p' zs ys H' hs (k3.free hp') (k3.trans k') (hD.old k3) fun z => by
          rw [hz z, eb, List.mem_filter]
          exact ⟨fun h => ⟨h.1, fun hy => by have := h.2; rw [decide_eq_true ((hw z).mpr hy)] at this; cases this⟩, fun h => ⟨h.1, by rw [decide_eq_false fun hy => h.2 ((hw z).mp hy)]; rfl⟩⟩
/-! the other operand first -/
/-! in place -/
def spDIop (K : PySem.W.Frag) (CD : Addr) (g : Prop → Prop → Prop) : Sp := fun vs H Q _ => ∃ (p : Addr) (u : V) (as : List Str) (S : List Str → Prop), vs = [.ref p, u] ∧ DdsX CD H p as ∧ as.length < 64 ∧ (∀ z ∈ as, NameOk z) ∧ TellD K CD H u S ∧ GoodS S ∧
  ∀ (zs ys : List Str) (H' : Hp), S ys → SameX p H H' → DdsF CD H H' p zs → (∀ z, z ∈ zs ↔ g (z ∈ as) (z ∈ ys)) → Q (.ref p) H'
theorem sc_diorH : FnScope ["self", "other", "result"] ["self", "other"] (defScope s_Deeds_ior) := ⟨rfl, rfl, rfl, by decide +kernel, rfl, by decide +kernel, by decide +kernel⟩
theorem ok_diorH {f fA fX : Addr} {fd fdA : FuncData} (F : Fun K "__ior__" "Deeds.__ior__" s_Deeds_ior f fd) (TD : DeedT K CD) (DB : VO.BinF K CD fA fX "or") (bA : Binds K fdA ["self", "other"] []) (GA : FnOk P w K mg base CX0 5 fA fdA ["self", "other"] (spDBin K CD Or)) : FnOk P w K mg base CX0 6 f fd ["self", "other"] (spDIop K CD Or) := by
  refine F.ok sc_diorH (fun vs H Q E h => ?_) (fun cdv A outer s H vs Q E hr h => ?_)
  · obtain ⟨p, u, as, S, rfl, _⟩ := h
    rfl
  · obtain ⟨p, u, as, S, rfl, hX, la, ka, hT, gS, q⟩ := h
    refine ⟨_, pss_cons (ps_set (i := 2) sc_diorH.nd rfl (.inl rfl) (pe_op (VO.op_binL (op := .BitOr) (E := L2.E0) DB GA bA (hr.mono (by decide)) pass0) (pv 0) (pv 1)))
      (pss_cons (ps_fld (pv 0) (pe_fld (pv 2) rfl) rfl) (pss_one (ps_ret (pv 0)))), ?_⟩
    obtain ⟨dx, d, hp, hd, nd⟩ := id hX
    refine ⟨_, rfl, _, rfl, p, dx, _, rfl, hp, hT.side, _, _, as, S, rfl, hX.at_, la, ka, hT, gS, fun r zs ys H1 hs hr1 k1 hF hz => ?_⟩
    obtain ⟨dr, d2, hn, er, e2, nd2⟩ := id hF
    refine ⟨_, rfl, r, CD, dr, _, _, rfl, er, TD.cl, TD.kept, rfl, ?_⟩
    refine ⟨_, rfl, p, CD, dx, _, rfl, k1 _ _ hp, TD.cl, TD.kept, (by show 1 < 1000; decide), ?_⟩
    refine ⟨_, rfl, ?_⟩
    have np : d2 ≠ p := fun z => by rw [z, hp] at hn; cases hn
    refine q zs ys _ hs ((SameX.of k1).trans SameX.at) ⟨dx, d2, hn, by rw [upd_same]; rfl, by rw [upd_ne np]; exact e2, nd2⟩ hz
theorem sc_diandH : FnScope ["self", "other", "result"] ["self", "other"] (defScope s_Deeds_iand) := ⟨rfl, rfl, rfl, by decide +kernel, rfl, by decide +kernel, by decide +kernel⟩
theorem ok_diandH {f fA fX : Addr} {fd fdA : FuncData} (F : Fun K "__iand__" "Deeds.__iand__" s_Deeds_iand f fd) (TD : DeedT K CD) (DB : VO.BinF K CD fA fX "and") (bA : Binds K fdA ["self", "other"] []) (GA : FnOk P w K mg base CX0 5 fA fdA ["self", "other"] (spDBin K CD andG)) : FnOk P w K mg base CX0 6 f fd ["self", "other"] (spDIop K CD andG) := by
  refine F.ok sc_diandH (fun vs H Q E h => ?_) (fun cdv A outer s H vs Q E hr h => ?_)
  · obtain ⟨p, u, as, S, rfl, _⟩ := h
    rfl
  · obtain ⟨p, u, as, S, rfl, hX, la, ka, hT, gS, q⟩ := h
    refine ⟨_, pss_cons (ps_set (i := 2) sc_diandH.nd rfl (.inl rfl) (pe_op (VO.op_binL (op := .BitAnd) (E := L2.E0) DB GA bA (hr.mono (by decide)) pass0) (pv 0) (pv 1)))
      (pss_cons (ps_fld (pv 0) (pe_fld (pv 2) rfl) rfl) (pss_one (ps_ret (pv 0)))), ?_⟩
    obtain ⟨dx, d, hp, hd, nd⟩ := id hX
    refine ⟨_, rfl, _, rfl, p, dx, _, rfl, hp, hT.side, _, _, as, S, rfl, hX.at_, la, ka, hT, gS, fun r zs ys H1 hs hr1 k1 hF hz => ?_⟩
    obtain ⟨dr, d2, hn, er, e2, nd2⟩ := id hF
    refine ⟨_, rfl, r, CD, dr, _, _, rfl, er, TD.cl, TD.kept, rfl, ?_⟩
    refine ⟨_, rfl, p, CD, dx, _, rfl, k1 _ _ hp, TD.cl, TD.kept, (by show 1 < 1000; decide), ?_⟩
    refine ⟨_, rfl, ?_⟩
    have np : d2 ≠ p := fun z => by rw [z, hp] at hn; cases hn
    refine q zs ys _ hs ((SameX.of k1).trans SameX.at) ⟨dx, d2, hn, by rw [upd_same]; rfl, by rw [upd_ne np]; exact e2, nd2⟩ hz
theorem sc_disubH : FnScope ["self", "other", "result"] ["self", "other"] (defScope s_Deeds_isub) := ⟨rfl, rfl, rfl, by decide +kernel, rfl, by decide +kernel, by decide +kernel⟩
theorem ok_disubH {f fA fX : Addr} {fd fdA : FuncData} (F : Fun K "__isub__" "Deeds.__isub__" s_Deeds_isub f fd) (TD : DeedT K CD) (DB : VO.BinF K CD fA fX "sub") (bA : Binds K fdA ["self", "other"] []) (GA : FnOk P w K mg base CX0 5 fA fdA ["self", "other"] (spDBin K CD subG)) : FnOk P w K mg base CX0 6 f fd ["self", "other"] (spDIop K CD subG) := by
  refine F.ok sc_disubH (fun vs H Q E h => ?_) (fun cdv A outer s H vs Q E hr h => ?_)
  · obtain ⟨p, u, as, S, rfl, _⟩ := h
    rfl
  · obtain ⟨p, u, as, S, rfl, hX, la, ka, hT, gS, q⟩ := h
    refine ⟨_, pss_cons (ps_set (i := 2) sc_disubH.nd rfl (.inl rfl) (pe_op (VO.op_binL (op := .Sub) (E := L2.E0) DB GA bA (hr.mono (by decide)) pass0) (pv 0) (pv 1)))
      (pss_cons (ps_fld (pv 0) (pe_fld (pv 2) rfl) rfl) (pss_one (ps_ret (pv 0)))), ?_⟩
    obtain ⟨dx, d, hp, hd, nd⟩ := id hX
    refine ⟨_, rfl, _, rfl, p, dx, _, rfl, hp, hT.side, _, _, as, S, rfl, hX.at_, la, ka, hT, gS, fun r zs ys H1 hs hr1 k1 hF hz => ?_⟩
    obtain ⟨dr, d2, hn, er, e2, nd2⟩ := id hF
    refine ⟨_, rfl, r, CD, dr, _, _, rfl, er, TD.cl, TD.kept, rfl, ?_⟩
    refine ⟨_, rfl, p, CD, dx, _, rfl, k1 _ _ hp, TD.cl, TD.kept, (by show 1 < 1000; decide), ?_⟩
    refine ⟨_, rfl, ?_⟩
    have np : d2 ≠ p := fun z => by rw [z, hp] at hn; cases hn
    refine q zs ys _ hs ((SameX.of k1).trans SameX.at) ⟨dx, d2, hn, by rw [upd_same]; rfl, by rw [upd_ne np]; exact e2, nd2⟩ hz
end
end KX
namespace KX
open PySem PySem.Spec PyProof.Rows L2 UL
local macro_rules | `(tactic| walk_at "u") => `(tactic| repeat (first | ((with_reducible refine' wVar_of ?ke ?_); (case ke => rfl)) | with_reducible refine' wC_of ?_ | with_reducible refine' wB_of ?_ | with_reducible refine' wAnd_of ?_ | with_reducible refine' wOr_of ?_ | with_reducible refine' wNot_of ?_ | with_reducible refine' w2_of ?_ | with_reducible refine' w1_of ?_ | with_reducible refine' wCons_of ?_ | with_reducible refine' wNil_of ?_ | ((with_reducible refine' kIxT_of ?ke ?_); (case ke => rfl)) | with_reducible refine' wSeq_of ?_ | with_reducible refine' wSet_of ?_ | ((with_reducible refine' wSetF_of ?ke ?_); (case ke => rfl)) | ((with_reducible refine' wRetO_of ?ke ?_); (case ke => rfl)) | ((with_reducible refine' wApp_of ?ke ?_); (case ke => rfl)) | with_reducible refine' wRet_of ?_ | with_reducible refine' wRetF_of ?_ | with_reducible refine' wIfS_of ?_ | with_reducible refine' wForS_of ?_ | with_reducible refine' wItemsL_of ?_ | with_reducible refine' wItemsT_of ?_ | with_reducible refine' wLc_of ?_ | with_reducible refine' wAndV_of ?_ | with_reducible refine' wOrV_of ?_ | with_reducible refine' wNotV_of ?_ | with_reducible refine' wIf_of ?_ | with_reducible refine' wGet2_of ?_ | with_reducible refine' wChain_of ?_ | with_reducible refine' wExpr_of ?_ | with_reducible refine' kLenL_of ?_ | with_reducible refine' kLenT_of ?_ | ((with_reducible refine' kFld_of ?ke ?_); (case ke => rfl)) | with_reducible refine' wLc2_of ?_ | with_reducible refine' wNext_of ?_ | ((with_reducible refine' kZip2_of ?k1 ?k2 ?_); (case k1 => rfl); (case k2 => rfl)) | ((with_reducible refine' kZip3_of ?k1 ?k2 ?k3 ?_); (case k1 => rfl); (case k2 => rfl); (case k3 => rfl)) | with_reducible refine' kEnumT_of ?_ | with_reducible refine' wPart_of ?_ | with_reducible refine' wNoPart_of ?_ | with_reducible refine' kTupOfL_of ?_ | with_reducible refine' wEndP_of ?_ | ((with_reducible refine' wNewP_of ?ke ?_); (case ke => rfl)) | with_reducible refine' kI_of ?_ | ((with_reducible refine' wRev_of ?ke ?_); (case ke => rfl)) | with_reducible refine' kNeI_of ?_ | with_reducible refine' kEqI_of ?_ | with_reducible refine' kNeS_of ?_ | with_reducible refine' kEqS_of ?_))
theorem kIn_strsL {neg : Bool} {x : Str} {ns : List Str} {P : Dt → Prop} (h : P (.bl (if neg then !decide (x ∈ ns) else decide (x ∈ ns)))) : kIn neg (.str x) (.lst (ns.map Dt.str)) P := by
  refine ⟨_, fls_strs ns, ?_⟩
  rw [inV_strs]
  exact h
section
variable {P : Program} {w : World} {K : PySem.W.Frag} {mg : Str → Option Value} {base : Heap} {TT : List NdefX.NTab}
/-! ### _law_reached -/
/-- few are reached -/
structure RgOk (r : Int × List Stp) : Prop where
  l : r.2.length ≤ 1000
  rg : ∃ U : List Int, (∀ x, Reach r.2 r.1 x → x ∈ U) ∧ U.length ≤ 8
def wReach : List Dt → (Dt → Prop) → Prop := fun ds P => ∃ r, ds = [dRow r] ∧ RgOk r ∧ ∀ ns : List Int, (∀ x ∈ ns, Reach r.2 r.1 x) → ns.length ≤ 8 → P (.lst (ns.map Dt.int))
/-! ### _law_standings -/
/-- such standings are of the rows -/
def StIn (rs : Rws) (xs : List Int) : Prop := xs.length = rs.length ∧ ∀ (i : Nat) r x, rs[i]? = some r → xs[i]? = some x → Reach r.2 r.1 x
def wStands : List Dt → (Dt → Prop) → Prop := fun ds P => ∃ rs, ds = [dRows rs] ∧ rs.length ≤ 4 ∧ (∀ r ∈ rs, RgOk r) ∧ ∀ xss : List (List Int), (∀ xs ∈ xss, StIn rs xs) → P (.lst (xss.map dIs))
theorem StIn.snoc {rs : Rws} {i : Nat} {r : Int × List Stp} {xs : List Int} {x : Int} (e : rs[i]? = some r) (h : StIn (rs.take i) xs) (hx : Reach r.2 r.1 x) : StIn (rs.take (i + 1)) (xs ++ [x]) := by
  have hi : i < rs.length := (List.getElem?_eq_some_iff.mp e).1
  have lt : (rs.take i).length = i := by rw [List.length_take]; omega
  have e2 : rs.take (i + 1) = rs.take i ++ [r] := by rw [List.take_add_one, e]; rfl
  refine ⟨by rw [e2, List.length_append, List.length_append, h.1]; rfl, fun j r' x' e3 e4 => ?_⟩
  rw [e2] at e3
  by_cases hj : j < i
  · rw [List.getElem?_append_left (by omega)] at e3
    rw [List.getElem?_append_left (by rw [h.1]; omega)] at e4
    exact h.2 j r' x' e3 e4
  · have : j = i := by
      have := (List.getElem?_eq_some_iff.mp e4).1
      rw [List.length_append, h.1, lt] at this
      have : j < i + 1 := this
      omega
    subst this
    rw [List.getElem?_append_right (by omega), lt, Nat.sub_self] at e3
    rw [List.getElem?_append_right (by rw [h.1]; omega), h.1, lt, Nat.sub_self] at e4
    cases e3
    cases e4
    exact hx
/-! ### _law_count -/
def wCount : List Dt → (Dt → Prop) → Prop := fun ds P => ∃ rs xs z, ds = [dRows rs, dIs xs, .str z] ∧ xs.length = rs.length ∧ Few rs ∧ P (.int ((prodD rs xs z [[]]).length : Nat))
/-! ### _law_is_right -/
def wRight : List Dt → (Dt → Prop) → Prop := fun ds P => ∃ rs xs m wl, ds = [dRows rs, dIs xs, dMv m] ∧ xs.length = rs.length ∧ Few rs ∧ (wds rs).length < 64 ∧ WordsOf rs wl ∧ m ∈ movesD rs wl xs ∧ P (.bl true)
end
end KX
namespace KX
open PySem PySem.Spec PyProof.Rows L2 UL
/-! ### the moves: each once, as many as choices -/
/-! ### data of moves: its own like alone -/
theorem cutD_take {α : Type} {f : α → Dt} {xs : List α} {i : Nat} : UL.cutD (xs.map f) none (some (i : Int)) = (xs.take i).map f := by
  unfold UL.cutD
  rw [HT.sIx_none, HT.sIx_nat, List.drop_zero, Nat.sub_zero, List.length_map, List.map_take]
  by_cases h : i ≤ xs.length
  · rw [Nat.min_eq_left h]
  · rw [Nat.min_eq_right (by omega), List.take_of_length_le (by rw [List.length_map]; exact Nat.le_refl _), List.take_of_length_le (by rw [List.length_map]; omega)]
/-! ### who is able -/
/-- the hands that a move takes along -/
def idxD (n : Nat) (m : Mov) : List Int := ((List.range n).filter fun i => (m.2[i]?).any Option.isSome).map fun i : Nat => (i : Int)
/-! ### the same steps -/
end KX
/-! UL: f(_law_pool(e), x, 1, ..): a pool made in an argument. -/
namespace UL
open PySem PySem.Spec PyProof.Rows L2
section
variable {K : PySem.W.Frag} {T : List NdefX.NTab} {S : Sl} {m1 m2 : Bool} {ta tb tn : TE} {t u tu : WE} {H H1 : Hp} {W : WX} {C : Ct} {σ : L2.St} {ρ : Env}
/-- a name or a number -/
inductive Atm where
  | v (j : Nat) | i (k : Int)
def tAtm : Atm → TE
  | .v j => tVar j
  | .i k => tC (.int k)
def tAtms : List Atm → TA
  | [] => tNil
  | a :: as => tCons (tAtm a) (tAtms as)
def atmD (ρ : Env) : Atm → Option Dt
  | .v j => (ρ[j]?).join
  | .i k => some (.int k)
def atmsD (ρ : Env) : List Atm → Option (List Dt)
  | [] => some []
  | a :: as => match atmD ρ a, atmsD ρ as with
    | some d, some ds => some (d :: ds)
    | _, _ => none
theorem atms_run (E : EnvR K C σ H ρ) (hC : C.In T S) : ∀ {as : List Atm} {ds : List Dt}, (∀ j, Atm.v j ∈ as → j ∉ S.1 ∧ j ∉ S.2) → atmsD ρ as = some ds → ∃ vs, Rs K C.ok H ds vs ∧ ∀ (H2 : Hp) (Q : List V → Hp → Prop), Q vs H2 → tAtms as σ H2 Q
  | [], ds, _, e => by cases e; exact ⟨[], .nil, fun H2 Q q => q⟩
  | a :: as, ds, hj, e => by
    unfold atmsD at e
    cases e1 : atmD ρ a with
    | none => rw [e1] at e; cases e
    | some d =>
      cases e2 : atmsD ρ as with
      | none => rw [e1, e2] at e; cases e
      | some ds' =>
        rw [e1, e2] at e
        cases e
        obtain ⟨vs, r, run⟩ := atms_run E hC (fun j h => hj j (List.mem_cons_of_mem _ h)) e2
        cases a with
        | v j =>
          obtain ⟨h1, h2⟩ := hj j List.mem_cons_self
          have e1 : ρ[j]? = some (some d) := by
            have e1 : (ρ[j]?).join = some d := e1
            cases q : ρ[j]? with
            | none => rw [q] at e1; cases e1
            | some o => rw [q] at e1; cases o with
              | none => cases e1
              | some d' => cases e1; rfl
          obtain ⟨v, ev, rv⟩ := E.sh j d (by rw [hC.1]; exact h1) (by rw [hC.2]; exact h2) e1
          exact ⟨v :: vs, .cons rv r, fun H2 Q q => ⟨v, ev, run H2 (fun xs H3 => Q (v :: xs) H3) q⟩⟩
        | i k =>
          cases e1
          exact ⟨.int k :: vs, .cons (.int k) r, fun H2 Q q => run H2 (fun xs H3 => Q (V.int k :: xs) H3) q⟩
def noV (S : Sl) : List Atm → Bool
  | [] => true
  | .v j :: as => decide (j ∉ S.1 ∧ j ∉ S.2) && noV S as
  | _ :: as => noV S as
theorem noV_ok : ∀ {as : List Atm}, noV S as = true → ∀ j, Atm.v j ∈ as → j ∉ S.1 ∧ j ∉ S.2
  | a :: as, h, j, hj => by
    cases a with
    | v i =>
      unfold noV at h
      obtain ⟨h1, h2⟩ := Bool.and_eq_true_iff.mp h
      rcases List.mem_cons.mp hj with e | hj
      · cases e
        exact of_decide_eq_true h1
      · exact noV_ok h2 j hj
    | i k =>
      unfold noV at h
      rcases List.mem_cons.mp hj with e | hj
      · cases e
      · exact noV_ok h j hj
end
end UL
/-! UL: a def that draws from its first argument and gives a new list; f(_law_pool(e), x, .., e2) of such. -/
namespace UL
open PySem PySem.Spec PyProof.Rows L2
section
variable {K : PySem.W.Frag} {T : List NdefX.NTab} {S : Sl} {m m1 m2 : Bool} {ta tb tn te : TE} {t u tu : WE} {H H1 : Hp} {W : WX} {C : Ct} {σ : L2.St} {ρ : Env}
def spPF (K : PySem.W.Frag) (T : List NdefX.NTab) (w : List Dt → (List Dt → Prop) → Prop) : Sp := fun vs H Q _ => ∃ (p : Addr) (vs' : List V) (ok : Addr → Prop) (ds : List Dt) (P : List Dt → Prop), vs = .ref p :: vs' ∧ PlAt H p ∧ ¬ ok p ∧ NdefX.TabsN T H ∧ Rs K ok H ds vs' ∧ w ds P ∧
  ∀ es q us H', P es → (∀ a o, NT o → a ≠ p → H a = some o → H' a = some o) → PlAt H' p → NdefX.TabsN T H' → Fre H q → H' q = some (.lst us) → Rs K (fun a => (ok a ∨ Fre H a) ∧ a ≠ q) H' es us → Q (.ref q) H'
theorem fn_pf {P : Program} {w : World} {mg : Str → Option Value} {base : Heap} {x qual : Str} {st : Stmt} {f : Addr} {fd : FuncData} {N ps : List Str} {k : Nat} {sp : List Dt → (List Dt → Prop) → Prop} (F : Fun K x qual st f fd) (S : FnScope N ps (defScope st)) (hn : ps.length ≤ N.length) (len : ∀ ds Q, sp ds Q → ds.length + 1 = ps.length)
    (hb : ∀ (cdv : Value) (A : Around) (outer : List PySem.Env) (s : Shared) (H : Hp) (E : XK), Room k (A.deeper (envOfC qual (defScope st) s.heap.objs.size f cdv)) →
      ∃ (ts : TS) (wb : WS) (SL S' : Sl), PSs (cxOf CX0 P w K mg base N qual (defScope st) f cdv A outer s H E).nox (defBody st) ts ∧ SS K T XO0 SL ([], [0]) S' ts wb ∧
        ∀ ds Q, sp ds Q → wb (env0P N ds) fun o => match o with
          | .rf d => Q d
          | _ => False) : FnOk P w K mg base CX0 (k + 1) f fd ps (spPF K T sp) := by
  refine F.ok S (fun vs H Q E ⟨p, vs', ok, ds, P, e, _, _, _, r, h, _⟩ => by rw [e, List.length_cons, r.len]; exact len _ _ h) (fun cdv A outer s H vs Q E hr h => ?_)
  obtain ⟨p, vs', ok, ds, P, rfl, hp, nok, ht, r, h, q⟩ := h
  obtain ⟨ts, wb, SL, S', h1, h2, h3⟩ := hb cdv A outer s H E hr
  have hl : ds.length + 1 ≤ N.length := by rw [len _ _ h]; exact hn
  refine ⟨ts, h1, ?_⟩
  have bs : ∀ a, (ctP T H ok p).base a → ok a ∨ Fre H a := fun a z => z.imp And.left id
  refine h2 (ctP T H ok p) (env0P N ds) _ _ H _ ⟨rfl, rfl, rfl⟩ (h3 ds P h) (envRP r hl ht hp nok) (fun i hi => nomatch hi) fun o ho => ?_
  cases o with
  | rf d => exact fun p' us H' f hp e r => q _ p' us H' ho (fun a o nt ne e => f.keep a o nt e ne) (f.lent p rfl) f.tab hp e (r.okm fun a _ z => ⟨bs a z.1, z.2⟩)
  | rt d => exact ho.elim
  | nx ρ => exact ho.elim
  | bk ρ => exact ho.elim
  | ct ρ => exact ho.elim
  | xc x ρ => exact ho.elim
/-- names and numbers, then an expression -/
def tAtmsE (te : TE) : List Atm → TA
  | [] => tCons te tNil
  | a :: as => tCons (tAtm a) (tAtmsE te as)
def intP (f : Int → Prop) : Dt → Prop
  | .int k => f k
  | _ => False
end
end UL
namespace KX
open PySem PySem.Spec PyProof.Rows L2 UL
local macro_rules | `(tactic| walk_at "u") => `(tactic| repeat (first | ((with_reducible refine' wVar_of ?ke ?_); (case ke => rfl)) | with_reducible refine' wC_of ?_ | with_reducible refine' wB_of ?_ | with_reducible refine' wAnd_of ?_ | with_reducible refine' wOr_of ?_ | with_reducible refine' wNot_of ?_ | with_reducible refine' w2_of ?_ | with_reducible refine' w1_of ?_ | with_reducible refine' wCons_of ?_ | with_reducible refine' wNil_of ?_ | ((with_reducible refine' kIxT_of ?ke ?_); (case ke => rfl)) | with_reducible refine' wSeq_of ?_ | with_reducible refine' wSet_of ?_ | ((with_reducible refine' wSetF_of ?ke ?_); (case ke => rfl)) | ((with_reducible refine' wRetO_of ?ke ?_); (case ke => rfl)) | ((with_reducible refine' wSetNew_of ?hs ?_); (case hs => rfl)) | ((with_reducible refine' wPutN_of ?he ?_); (case he => rfl)) | ((with_reducible refine' wPutI_of ?he ?_); (case he => rfl)) | ((with_reducible refine' wApp_of ?ke ?_); (case ke => rfl)) | with_reducible refine' wRet_of ?_ | with_reducible refine' wRetF_of ?_ | with_reducible refine' wIfS_of ?_ | with_reducible refine' wForS_of ?_ | with_reducible refine' wItemsL_of ?_ | with_reducible refine' wItemsT_of ?_ | with_reducible refine' wLc_of ?_ | with_reducible refine' wAndV_of ?_ | with_reducible refine' wOrV_of ?_ | with_reducible refine' wNotV_of ?_ | with_reducible refine' wIf_of ?_ | with_reducible refine' wGet2_of ?_ | with_reducible refine' wChain_of ?_ | with_reducible refine' wExpr_of ?_ | with_reducible refine' kLenL_of ?_ | with_reducible refine' kLenT_of ?_ | ((with_reducible refine' kFld_of ?ke ?_); (case ke => rfl)) | with_reducible refine' wLc2_of ?_ | with_reducible refine' wNext_of ?_ | ((with_reducible refine' kZip2_of ?k1 ?k2 ?_); (case k1 => rfl); (case k2 => rfl)) | ((with_reducible refine' kZip3_of ?k1 ?k2 ?k3 ?_); (case k1 => rfl); (case k2 => rfl); (case k3 => rfl)) | with_reducible refine' kEnumT_of ?_ | with_reducible refine' wPart_of ?_ | with_reducible refine' wNoPart_of ?_ | with_reducible refine' kTupOfL_of ?_ | with_reducible refine' wEndP_of ?_ | ((with_reducible refine' wNewP_of ?ke ?_); (case ke => rfl)) | with_reducible refine' kI_of ?_ | ((with_reducible refine' wRev_of ?ke ?_); (case ke => rfl)) | with_reducible refine' kNeI_of ?_ | with_reducible refine' kEqI_of ?_ | with_reducible refine' kNeS_of ?_ | with_reducible refine' kEqS_of ?_ | with_reducible refine' wDropX_of ?_ | with_reducible refine' wSetX_of ?_ | with_reducible refine' wRetX_of ?_ | with_reducible refine' wRaise_of ?_ | with_reducible refine' wTry_of ?_ | with_reducible refine' wSlT_of ?_ | with_reducible refine' wSlQ_of ?_ | with_reducible refine' kNeg_of ?_ | with_reducible refine' kLenQ_of ?_ | with_reducible refine' kLstT_of ?_ | with_reducible refine' kLstL_of ?_ | ((with_reducible refine' wSetNewK_of ?hs ?_); (case hs => rfl)) | ((with_reducible refine' wPutK_of ?he ?_); (case he => rfl)) | ((with_reducible refine' wIns_of ?he ?_); (case he => rfl)) | ((with_reducible refine' wPop_of ?he ?_); (case he => rfl))))
section
variable {P : Program} {w : World} {K : PySem.W.Frag} {mg : Str → Option Value} {base : Heap} {TT : List NdefX.NTab} {CD : Addr} {H H' : Hp}
def wNamesU : List Dt → (Dt → Prop) → Prop := fun ds P => ∃ m : Nat, ds = [.int m] ∧ m ≤ 1000 ∧ ∀ zs : List Str, zs.length = m → (∀ z ∈ zs, NameOk z) → zs.Nodup → P (.lst (zs.map Dt.str))
theorem u_names {k : Nat} {f : Addr} {fd : FuncData} (G : FnOk P w K mg base CX0 k f fd ["_law_pool_here", "_law_many"] spNames) : FnOk P w K mg base CX0 k f fd ["_law_pool_here", "_law_many"] (spP K [] wNamesU) := by
  refine G.imp fun vs H Q E ⟨p, vs', ok, ds, P, e, hp, nok, ht, r, ⟨m, ed, m0, h⟩, q⟩ => ?_
  subst e
  subst ed
  cases r with
  | cons r t =>
    cases t
    refine ⟨p, m, by rw [R.intE r], hp, m0, fun l zs H' hl he hz lz hp' sx nd => ?_⟩
    obtain ⟨x, y, z, hpe⟩ := hp
    exact q _ _ H' (h zs lz hz nd) (fun a o nt n e => sx a o n e) hp' (fun _ h => nomatch h) (.lst he (.inr (.of hl)) (Rs.ofStrs _))
theorem strs_paired {zs : List Str} : ∀ {xs : List Nat} {ds : List Dt}, Paired (fun _ d => ∃ z ∈ zs, d = Dt.str z) xs ds → ∃ own : List Str, ds = own.map Dt.str ∧ own.length = xs.length ∧ ∀ z ∈ own, z ∈ zs
  | [], [], .nil => ⟨[], rfl, rfl, fun z h => nomatch h⟩
  | _ :: _, _ :: _, .cons ⟨z, hz, e⟩ t => by
    obtain ⟨own, rfl, l, h⟩ := strs_paired t
    exact ⟨z :: own, by rw [e]; rfl, by rw [List.length_cons, List.length_cons, l], fun y hy => by
      rcases List.mem_cons.mp hy with rfl | hy
      · exact hz
      · exact h y hy⟩
def oddN : List Dt := [.non, .bl true, .int 7, .int (-1), .str "", .str "A", .str "a b", .str "abcdefghijklm", .str "a1", .lst [.str "a"], .tup [.str "a"], .dct [] [], .str "_", .str "aB", .str " a", .int (10 ^ 30)]
def wOddN : List Dt → (Dt → Prop) → Prop := fun ds P => ∃ (k : Nat) (x : Dt), ds = [.int (k : Nat)] ∧ oddN[k]? = some x ∧ P x
def deepT : Nat → Dt → Dt
  | 0, d => d
  | n + 1, d => .tup [deepT n d]
def wDeep3 : List Dt → (Dt → Prop) → Prop := fun ds P => ∃ d, ds = [d] ∧ P (deepT 450 d)

theorem kIxL_mem {α : Type} {f : α → Dt} {xs : List α} {i : Int} {P : Dt → Prop} (h0 : 0 ≤ i) (h1 : i < (xs.length : Nat)) (h : ∀ x ∈ xs, P (f x)) : kIxL (.lst (xs.map f)) (.int i) P :=
  kIxL_all h0 (by rw [List.length_map]; exact h1) fun d hd => by
    obtain ⟨x, hx, rfl⟩ := List.mem_map.mp hd
    exact h x hx
/-- of a kind that is no deeds' -/
def NoDd (K : PySem.W.Frag) (CD : Addr) (x : Dt) : Prop := ∃ t, HasTy K x t ∧ PySem.W.notFirst K CD t = true ∧ PySem.W.kitOne K t (.ref CD) = some false
/-! ### the law's own defs -/
def wFlag : List Dt → (Dt → Prop) → Prop := fun ds P => ∃ a b : Bool, ds = [.bl a, .bl b] ∧ P (.bl (decide (a = b)))
def wPick : List Dt → (List Dt → Prop) → Prop := fun ds P => ∃ zs : List Str, ds = [.lst (zs.map Dt.str)] ∧ 1 ≤ zs.length ∧ zs.length ≤ 8 ∧ ∀ ys : List Str, (∀ y ∈ ys, y ∈ zs) → ys.length < 16 → P (ys.map Dt.str)
def wEqN (K : PySem.W.Frag) (CD : Addr) : List Dt → (Dt → Prop) → Prop := fun ds P => ∃ zs ys ns : List Str, ds = [dDd CD zs, .lst (ys.map Dt.str), .lst (ns.map Dt.str)] ∧ zs.Nodup ∧ (∀ z, z ∈ zs ↔ z ∈ ys) ∧ ys.length < 16 ∧ 1 ≤ ns.length ∧ ns.length ≤ 8 ∧ P (.bl true)
theorem sc_oddn : FnScope ["_law_number", "_law_odd"] ["_law_number"] (defScope s_law_odd_name) := ⟨rfl, rfl, rfl, by decide +kernel, rfl, by decide +kernel, by decide +kernel⟩
theorem ok_oddn {f : Addr} {fd : FuncData} (F : Fun K "_law_odd_name" "_law_odd_name" s_law_odd_name f fd) (B : Blt mg) : FnOk P w K mg base CX0 2 f fd ["_law_number"] (spU K TT wOddN) := by
  refine fn_u F sc_oddn (by decide) (fun ds Q ⟨_, _, e, _⟩ => by rw [e]; rfl) fun cdv A outer s H E hr => ?_
  refine ⟨_, _, ([], []), ([], []), (pss_cons (ps_set (i := 1) sc_oddn.nd rfl (.inl rfl) (pe_lst (pa_cons pe_non (pa_cons pe_bl (pa_cons pe_int (pa_cons (pe_un un_neg pe_int) (pa_cons pe_str (pa_cons pe_str (pa_cons pe_str (pa_cons pe_str (pa_cons pe_str (pa_cons (pe_lst (pa_cons pe_str pa_nil)) (pa_cons (pe_tup (pa_cons pe_str pa_nil)) (pa_cons pe_dnewT (pa_cons pe_str (pa_cons pe_str (pa_cons pe_str (pa_cons (pe_op op_pow pe_int pe_int) pa_nil))))))))))))))))))
      (pss_one (ps_ret (pe_ix (r := rIxL K) ix_list (pv 1) (pe_op op_mod (pe_callTy call_int1 (by rfl) B.int (by decide +kernel) (pa_cons (pv 0) pa_nil)) pe_int) (fun _ _ => rfl))))), (ss_seq (ss_cast (S' := ([], [])) (ss_set 1 (SF.e (sf_lst (sa_cons se_non (sa_cons (se_bl (b := true)) (sa_cons (se_int (i := 7)) (sa_cons (se_neg (SE.b (se_int (i := 1)))) (sa_cons (se_str (z := "")) (sa_cons (se_str (z := "A")) (sa_cons (se_str (z := "a b")) (sa_cons (se_str (z := "abcdefghijklm")) (sa_cons (se_str (z := "a1")) (sa_cons (SF.e (sf_lst (sa_cons (se_str (z := "a")) sa_nil))) (sa_cons (se_tup (sa_cons (se_str (z := "a")) sa_nil)) (sa_cons se_dnew (sa_cons (se_str (z := "_")) (sa_cons (se_str (z := "aB")) (sa_cons (se_str (z := " a")) (sa_cons (se_op oS_pow (SE.b (se_int (i := 10))) (SE.b (se_int (i := 30)))) sa_nil))))))))))))))))))))
      (ss_ret (se_op oS_ixL (SE.b (se_var 1)) (SE.b (se_op oS_mod (SE.b (se_cb c1_int (SE.b (se_var 0)))) (SE.b (se_int (i := 16)))))))), ?_⟩
  rintro ds P ⟨k, x, rfl, ex, q⟩
  have hk : k < 16 := (List.getElem?_eq_some_iff.mp ex).1
  walk_at "u"
  refine ⟨by show 1 ≤ 1000; decide, ?_⟩
  walk_at "u"
  refine ⟨by show 1 ≤ 1000; decide, ?_⟩
  walk_at "u"
  refine ⟨by unfold CPow; decide, ?_⟩
  walk_at "u"
  refine ⟨by show 16 ≤ 1000; decide, ?_⟩
  walk_at "u"
  refine ⟨by show (0 : Int) < 16; decide, ?_⟩
  have e : ((k : Nat) : Int) % 16 = (k : Nat) := by omega
  dsimp only
  rw [e]
  exact kIxL_of (atI_nat ex) q
theorem sc_pick : FnScope ["_law_pool_here", "_law_names_here", "_law_k"] ["_law_pool_here", "_law_names_here"] (defScope s_law_pick) := ⟨rfl, rfl, rfl, by decide +kernel, rfl, by decide +kernel, by decide +kernel⟩
theorem ok_pick {f fD : Addr} {fd fdD : FuncData} (F : Fun K "_law_pick" "_law_pick" s_law_pick f fd) (B : Blt mg) (DD : Cal K mg "_law_draw" s_law_draw ["_law_pool_here", "_law_many"] fD fdD) (GD : FnOk P w K mg base CX0 1 fD fdD ["_law_pool_here", "_law_many"] (spP K TT wDraw)) : FnOk P w K mg base CX0 2 f fd ["_law_pool_here", "_law_names_here"] (spPF K TT wPick) := by
  refine fn_pf F sc_pick (by decide) (fun ds Q ⟨_, e, _⟩ => by rw [e]; rfl) fun cdv A outer s H E hr => ?_
  refine ⟨_, _, ([], [0]), ([], [0]), (pss_one (ps_ret (pe_lc (own := [("_law_k", 2)]) (wi := (iRng1 (tCons (tCall (spP K TT wDraw) [] E0 (tCons (tVar 0) (tCons (tOp rMul_ (tC (.int 2)) (tCB (rLen_ K) (tCons (tVar 1) tNil))) tNil))) tNil))) (g := (gName 2)) (tt := tYes) (te := (tOp (rIxL K) (tVar 1) (tCall (spP K TT wDraw) [] E0 (tCons (tVar 0) (tCons (tCB (rLen_ K) (tCons (tVar 1) tNil)) tNil))))) rfl sc_pick.nd (pi_range1 rfl B.range (pa_cons (pe_call GD (hr.mono (by decide)) (by rfl) DD.g DD.F.kp DD.b .nil pass0 (pa_cons (pv 0) (pa_cons (pe_op op_mul pe_int (pe_callB call_len_ (by rfl) B.len PySem.boot_len (pa_cons (pv 1) pa_nil))) pa_nil))) pa_nil)) (blkOk_by (N := ["_law_pool_here", "_law_names_here", "_law_k"]) (sc := defScope s_law_pick) (by decide +kernel)) (fun _ _ _ _ _ => (pg_name (i := 2) sc_pick.nd rfl (.inl rfl))) (fun _ _ _ _ _ => pts_nil) (fun _ _ _ _ _ => (pe_ix (r := rIxL K) ix_list (pv 1) (pe_call GD (hr.mono (by decide)) (by rfl) DD.g DD.F.kp DD.b .nil pass0 (pa_cons (pv 0) (pa_cons (pe_callB call_len_ (by rfl) B.len PySem.boot_len (pa_cons (pv 1) pa_nil)) pa_nil))) (fun _ _ => rfl)))))), (ss_retF (sf_lc (vs := [2]) (si_rng1 (sa_cons (se_callP 0 (sa_cons (se_op oS_mul (SE.b (se_int (i := 2))) (SE.b (se_cb c1_len (SE.b (se_var 1))))) sa_nil)) sa_nil)) (sg_name 2) st_yes (se_op oS_ixL (SE.b (se_var 1)) (SE.b (se_callP 0 (sa_cons (se_cb c1_len (SE.b (se_var 1))) sa_nil)))))), ?_⟩
  rintro ds P ⟨zs, rfl, l1, l8, q⟩
  walk_at "u"
  rw [List.length_map]
  have l9 : (0 : Int) < 2 * (zs.length : Nat) := by omega
  refine ⟨.inl ⟨by decide, by decide⟩, ?_⟩
  walk_at "u"
  refine ⟨_, rfl, by omega, by omega, fun m m0 m1 => ?_⟩
  obtain ⟨n, rfl⟩ : ∃ n : Nat, m = (n : Nat) := ⟨m.toNat, by omega⟩
  walk_at "u"
  refine kRng1_to (by omega) (by omega) ?_
  rw [Int.toNat_natCast, rngD_map]
  refine ⟨by rw [List.length_map, List.length_range]; omega, ?_⟩
  refine wComp_rel (fun _ d => ∃ z ∈ zs, d = Dt.str z) (List.range n) (fun j hj => ?_) fun own0 ho => ?_
  · refine ⟨_, rfl, fun Q q => q, fun Q q => ?_⟩
    walk_at "u"
    rw [List.length_map]
    refine ⟨_, rfl, by omega, by omega, fun t t0 t1 => ?_⟩
    refine kIxL_mem t0 t1 fun z hz => ?_
    exact q _ ⟨z, hz, rfl⟩
  obtain ⟨ys, ey, ly, hy⟩ := strs_paired ho
  subst ey
  rw [List.nil_append]
  rw [List.length_range] at ly
  exact q ys hy (by omega)
end
end KX
/-! UL: try with clauses that name their exception or do not -/
namespace UL
open PySem PySem.Spec PyProof.Rows L2
section
variable {K : PySem.W.Frag} {T : List NdefX.NTab} {W : WX} {SL S S' S1 : Sl} {m m' m1 m2 s : Bool} {te ta tb : TE} {t u : WE} {tx : WEX} {C C1 C' : Ct} {σ : L2.St} {H H' H1 : Hp} {ρ : Env} {ts ts1 : TS} {w w' : WS} {XO : XOut}
inductive HdsN (K : PySem.W.Frag) (T : List NdefX.NTab) (XO : XOut) (SL S S' : Sl) : List VY.Cl → List (Addr × WH) → Prop
  | nil : HdsN K T XO SL S S' [] []
  | as {c : Addr} {i : Nat} {tf : Addr → Value → Option Addr → TS} {wh : WH} {l : List VY.Cl} {hs : List (Addr × WH)} (h : SH K T XO SL S S' i tf wh) (r : HdsN K T XO SL S S' l hs) : HdsN K T XO SL S S' ((.ref c, some i, tf) :: l) ((c, wh) :: hs)
  | no {c : Addr} {ts : TS} {w : WS} {l : List VY.Cl} {hs : List (Addr × WH)} (h : SS K T XO SL S S' ts w) (r : HdsN K T XO SL S S' l hs) : HdsN K T XO SL S S' ((.ref c, none, fun _ _ _ => ts) :: l) ((c, fun _ => w) :: hs)
end
end UL
/-! UL: {"a": 1}, and == of such with itself. -/
namespace UL
open PySem PySem.Spec PyProof.Rows L2
section
variable {K : PySem.W.Frag} {T : List NdefX.NTab} {S : Sl} {m m' : Bool} {ta tb : TE} {t u : WE} {H : Hp}
/-- {z: i} -/
abbrev dOne (z : Str) (i : Int) : Dt := .dk [Sum.inr z] [.int i]
theorem se_dlit {z : Str} {i : Int} : SE K T S true (tDisp [(tC (.str z), tC (.int i))]) (fun ρ P => P (dOne z i)) := fun C ρ P σ H Q hC ht E q => by
  intro p hp
  refine ⟨upd_same, [(Sum.inr z, V.int i)], rfl, by show 1 ≤ 15; decide, ?_⟩
  have e : upd (upd H p (.dK [])) p (.dK (mergeK [] [(Sum.inr z, V.int i)])) = upd H p (.dK [(Sum.inr z, V.int i)]) := by
    funext b
    by_cases h : b = p
    · rw [h, upd_same, upd_same]
      rfl
    · rw [upd_ne h, upd_ne h, upd_ne h]
  rw [e]
  exact q _ _ _ ht (Gr.of (same_up hp)) (R.dk (kvs := [(Sum.inr z, V.int i)]) upd_same (E.freshF (.of hp)) (.cons (.int i) .nil))
def kEqD1 : Dt → Dt → (Dt → Prop) → Prop := fun a b P => ∃ z i, a = dOne z i ∧ b = dOne z i ∧ P (.bl true)
theorem oS_eqD1 : OpS K rEqDA kEqD1 := fun C a b P x y H Q h ra rb hf q => by
  obtain ⟨z, i, rfl, rfl, h⟩ := h
  have one : ∀ {v : V}, RB K C H (dOne z i) v → ∃ a, v = .ref a ∧ H a = some (.dK [(Sum.inr z, V.int i)]) := fun {v} r => by
    obtain ⟨a, kvs, rfl, ek, e, rs⟩ := r
    cases kvs with
    | nil => cases ek
    | cons p r =>
      cases r with
      | cons q r => exact absurd (congrArg List.length ek) (by simp)
      | nil =>
        obtain ⟨k, v⟩ := p
        have ek := (List.cons.inj ek).1
        subst ek
        cases rs with
        | cons r1 t =>
          cases r1
          exact ⟨a, rfl, e⟩
  obtain ⟨a, rfl, ea⟩ := one ra
  obtain ⟨b, rfl, eb⟩ := one rb
  refine ⟨a, b, _, _, rfl, rfl, ea, eb, rfl, fun p hp => ?_, q _ _ H h (Same.refl _) (.bl true)⟩
  rw [List.mem_singleton.mp hp]
  refine ⟨?_, rfl⟩
  unfold valV
  simp
end
end UL
namespace KX
open PySem PySem.Spec PyProof.Rows L2 UL
local macro_rules | `(tactic| walk_at "u") => `(tactic| repeat (first | ((with_reducible refine' wVar_of ?ke ?_); (case ke => rfl)) | with_reducible refine' wC_of ?_ | with_reducible refine' wB_of ?_ | with_reducible refine' wAnd_of ?_ | with_reducible refine' wOr_of ?_ | with_reducible refine' wNot_of ?_ | with_reducible refine' w2_of ?_ | with_reducible refine' w1_of ?_ | with_reducible refine' wCons_of ?_ | with_reducible refine' wNil_of ?_ | ((with_reducible refine' kIxT_of ?ke ?_); (case ke => rfl)) | with_reducible refine' wSeq_of ?_ | with_reducible refine' wSet_of ?_ | ((with_reducible refine' wSetF_of ?ke ?_); (case ke => rfl)) | ((with_reducible refine' wRetO_of ?ke ?_); (case ke => rfl)) | ((with_reducible refine' wSetNew_of ?hs ?_); (case hs => rfl)) | ((with_reducible refine' wPutN_of ?he ?_); (case he => rfl)) | ((with_reducible refine' wApp_of ?ke ?_); (case ke => rfl)) | with_reducible refine' wRet_of ?_ | with_reducible refine' wRetF_of ?_ | with_reducible refine' wIfS_of ?_ | with_reducible refine' wForS_of ?_ | with_reducible refine' wItemsL_of ?_ | with_reducible refine' wItemsT_of ?_ | with_reducible refine' wLc_of ?_ | with_reducible refine' wAndV_of ?_ | with_reducible refine' wOrV_of ?_ | with_reducible refine' wNotV_of ?_ | with_reducible refine' wIf_of ?_ | with_reducible refine' wGet2_of ?_ | with_reducible refine' wChain_of ?_ | with_reducible refine' wExpr_of ?_ | with_reducible refine' kLenL_of ?_ | with_reducible refine' kLenT_of ?_ | ((with_reducible refine' kFld_of ?ke ?_); (case ke => rfl)) | with_reducible refine' wLc2_of ?_ | with_reducible refine' wNext_of ?_ | ((with_reducible refine' kZip2_of ?k1 ?k2 ?_); (case k1 => rfl); (case k2 => rfl)) | ((with_reducible refine' kZip3_of ?k1 ?k2 ?k3 ?_); (case k1 => rfl); (case k2 => rfl); (case k3 => rfl)) | with_reducible refine' kEnumT_of ?_ | with_reducible refine' wPart_of ?_ | with_reducible refine' wNoPart_of ?_ | with_reducible refine' kTupOfL_of ?_ | with_reducible refine' wEndP_of ?_ | ((with_reducible refine' wNewP_of ?ke ?_); (case ke => rfl)) | with_reducible refine' kI_of ?_ | ((with_reducible refine' wRev_of ?ke ?_); (case ke => rfl)) | with_reducible refine' kNeI_of ?_ | with_reducible refine' kEqI_of ?_ | with_reducible refine' kNeS_of ?_ | with_reducible refine' kEqS_of ?_ | with_reducible refine' wDropX_of ?_ | with_reducible refine' wSetX_of ?_ | with_reducible refine' wRetX_of ?_ | with_reducible refine' wRaise_of ?_ | with_reducible refine' wTry_of ?_ | with_reducible refine' wSlT_of ?_ | with_reducible refine' wSlQ_of ?_ | with_reducible refine' kNeg_of ?_ | with_reducible refine' kLenQ_of ?_ | with_reducible refine' kLstT_of ?_ | with_reducible refine' kLstL_of ?_ | ((with_reducible refine' wSetNewK_of ?hs ?_); (case hs => rfl)) | ((with_reducible refine' wPutK_of ?he ?_); (case he => rfl)) | ((with_reducible refine' wIns_of ?he ?_); (case he => rfl)) | ((with_reducible refine' wPop_of ?he ?_); (case he => rfl))))
section
variable {P : Program} {w : World} {K : PySem.W.Frag} {mg : Str → Option Value} {base : Heap} {TT : List NdefX.NTab} {C CS : Addr} {H H' : Hp}
def wSm (n : Nat) : List Dt → (Dt → Prop) → Prop := fun ds P => ∃ a, ds = [a, a] ∧ SmD n a ∧ P (.bl true)
theorem sc_sm : FnScope ["_law_told", "_law_due_here", "_law_k"] ["_law_told", "_law_due_here"] (defScope s_law_same) := ⟨rfl, rfl, rfl, by decide +kernel, rfl, by decide +kernel, by decide +kernel⟩
theorem ok_sm {f : Addr} {fd : FuncData} (D : Cal K mg "_law_same" s_law_same ["_law_told", "_law_due_here"] f fd) (B : Blt mg) (N : Kin mg) (B2 : Blt2 mg) : ∀ n : Nat, FnOk P w K mg base CX0 (n + 1) f fd ["_law_told", "_law_due_here"] (spU K TT (wSm n))
  | 0 => ⟨fun vs H Q E ⟨_, _, _, _, _, ⟨_, _, h, _⟩, _⟩ => h.elim, fun A outer s H args us vs Q E hr e0 hb r ⟨_, _, _, _, _, ⟨_, _, h, _⟩, _⟩ => h.elim⟩
  | n + 1 => by
    have ih : FnOk P w K mg base CX0 (n + 1) f fd ["_law_told", "_law_due_here"] (spU K TT (wSm n)) := ok_sm D B N B2 n
    refine fn_u D.F sc_sm (by decide) (fun ds Q ⟨_, e, _⟩ => by rw [e]; rfl) fun cdv A outer s H E hr => ?_
    refine ⟨_, _, ([], []), ([], []), (pss_cons (ps_if (pt_cmpR op_isN (pv 1) pe_non (nomark _)) (pss_one (ps_ret (pe_cmpR op_isN (pv 0) pe_non (nomark _)))) pss_nil)
      (pss_cons (ps_if (pt_val (pe_callB call_isi (by rfl) B.isinstance (by decide +kernel) (pa_cons (pv 1) (pa_cons (pe_bltn rfl N.bool (by decide +kernel) (v := .ty "bool") rfl) pa_nil)))) (pss_one (ps_ret (pe_and (pe_callB call_isi (by rfl) B.isinstance (by decide +kernel) (pa_cons (pv 0) (pa_cons (pe_bltn rfl N.bool (by decide +kernel) (v := .ty "bool") rfl) pa_nil))) (pe_one (pe_cmpR op_eq (pv 0) (pv 1) (nomark _)))))) pss_nil)
      (pss_cons (ps_if (pt_val (pe_callB call_isi (by rfl) B.isinstance (by decide +kernel) (pa_cons (pv 1) (pa_cons (pe_bltn rfl B.int (by decide +kernel) (v := .ty "int") rfl) pa_nil)))) (pss_one (ps_ret (pe_and (pe_callB call_isi (by rfl) B.isinstance (by decide +kernel) (pa_cons (pv 0) (pa_cons (pe_bltn rfl B.int (by decide +kernel) (v := .ty "int") rfl) pa_nil))) (pe_and (pe_not (pe_callB call_isi (by rfl) B.isinstance (by decide +kernel) (pa_cons (pv 0) (pa_cons (pe_bltn rfl N.bool (by decide +kernel) (v := .ty "bool") rfl) pa_nil)))) (pe_one (pe_cmpR op_eq (pv 0) (pv 1) (nomark _))))))) pss_nil)
      (pss_cons (ps_if (pt_val (pe_callB call_isi (by rfl) B.isinstance (by decide +kernel) (pa_cons (pv 1) (pa_cons (pe_bltn rfl N.str (by decide +kernel) (v := .ty "str") rfl) pa_nil)))) (pss_one (ps_ret (pe_and (pe_callB call_isi (by rfl) B.isinstance (by decide +kernel) (pa_cons (pv 0) (pa_cons (pe_bltn rfl N.str (by decide +kernel) (v := .ty "str") rfl) pa_nil))) (pe_one (pe_cmpR op_eq (pv 0) (pv 1) (nomark _)))))) pss_nil)
      (pss_cons (ps_if (PW.pt (pw_and (pt_val (pe_callB call_isi (by rfl) B.isinstance (by decide +kernel) (pa_cons (pv 1) (pa_cons (pe_bltn rfl B.list (by decide +kernel) (v := .ty "list") rfl) pa_nil)))) (pw_and1 (pt_not (pt_val (pe_callB call_isi (by rfl) B.isinstance (by decide +kernel) (pa_cons (pv 0) (pa_cons (pe_bltn rfl B.list (by decide +kernel) (v := .ty "list") rfl) pa_nil)))))))) (pss_one (ps_ret pe_bl)) pss_nil)
      (pss_cons (ps_if (PW.pt (pw_and (pt_val (pe_callB call_isi (by rfl) B.isinstance (by decide +kernel) (pa_cons (pv 1) (pa_cons (pe_bltn rfl B.tuple (by decide +kernel) (v := .ty "tuple") rfl) pa_nil)))) (pw_and1 (pt_not (pt_val (pe_callB call_isi (by rfl) B.isinstance (by decide +kernel) (pa_cons (pv 0) (pa_cons (pe_bltn rfl B.tuple (by decide +kernel) (v := .ty "tuple") rfl) pa_nil)))))))) (pss_one (ps_ret pe_bl)) pss_nil)
      (pss_cons (ps_if (pt_val (pe_callB call_isi (by rfl) B.isinstance (by decide +kernel) (pa_cons (pv 1) (pa_cons (pe_bltn rfl B2.dict (by decide +kernel) (v := .ty "dict") rfl) pa_nil)))) (pss_one (ps_ret (pe_and (pe_callB call_isi (by rfl) B.isinstance (by decide +kernel) (pa_cons (pv 0) (pa_cons (pe_bltn rfl B2.dict (by decide +kernel) (v := .ty "dict") rfl) pa_nil))) (pe_one (pe_cmpR (op_eqE (Nat.lt_of_succ_lt (hu_of hr))) (pv 0) (pv 1) (nomark _)))))) pss_nil)
      (pss_cons (ps_if (pt_cmpR op_ne (pe_callB call_len_ (by rfl) B.len PySem.boot_len (pa_cons (pv 0) pa_nil)) (pe_callB call_len_ (by rfl) B.len PySem.boot_len (pa_cons (pv 1) pa_nil)) (nomark _)) (pss_one (ps_ret pe_bl)) pss_nil)
      (pss_cons (ps_for PassesOwn.never rfl (pi_range1 rfl B.range (pa_cons (pe_callB call_len_ (by rfl) B.len PySem.boot_len (pa_cons (pv 1) pa_nil)) pa_nil)) (pg_name (i := 2) sc_sm.nd rfl (.inl rfl)) (pss_one (ps_if (pt_not (pt_val (pe_call ih hr (by rfl) D.g D.F.kp D.b .nil pass0 (pa_cons (pe_ix (r := rIx K) ix_seq (pv 0) (pv 2) (fun _ _ => rfl)) (pa_cons (pe_ix (r := rIx K) ix_seq (pv 1) (pv 2) (fun _ _ => rfl)) pa_nil))))) (pss_one (ps_ret pe_bl)) pss_nil)))
      (pss_one (ps_ret pe_bl))))))))))), (ss_seq (ss_if (st_tTest (se_op oS_isN (SE.b (se_var 1)) (SE.b se_non))) (ss_ret (se_op oS_isN (SE.b (se_var 0)) (SE.b se_non))) ss_nil)
      (ss_seq (ss_if (st_tB (se_isi (SE.b (se_var 1)))) (ss_ret (se_and (se_isi (SE.b (se_var 0))) (se_op oS_eq (SE.b (se_var 0)) (SE.b (se_var 1))))) ss_nil)
      (ss_seq (ss_if (st_tB (se_isi (SE.b (se_var 1)))) (ss_ret (se_and (se_isi (SE.b (se_var 0))) (se_and (se_not (se_isi (SE.b (se_var 0)))) (se_op oS_eq (SE.b (se_var 0)) (SE.b (se_var 1)))))) ss_nil)
      (ss_seq (ss_if (st_tB (se_isi (SE.b (se_var 1)))) (ss_ret (se_and (se_isi (SE.b (se_var 0))) (se_op oS_eq (SE.b (se_var 0)) (SE.b (se_var 1))))) ss_nil)
      (ss_seq (ss_if (st_and (st_tB (se_isi (SE.b (se_var 1)))) (st_not (st_tB (se_isi (SE.b (se_var 0)))))) (ss_ret (se_bl (b := false))) ss_nil)
      (ss_seq (ss_if (st_and (st_tB (se_isi (SE.b (se_var 1)))) (st_not (st_tB (se_isi (SE.b (se_var 0)))))) (ss_ret (se_bl (b := false))) ss_nil)
      (ss_seq (ss_if (st_tB (se_isi (SE.b (se_var 1)))) (ss_ret (se_and (se_isi (SE.b (se_var 0))) (se_op oS_eqE (SE.b (se_var 0)) (SE.b (se_var 1))))) ss_nil)
      (ss_seq (ss_if (st_tTest (se_op oS_ne (SE.b (se_cb c1_len (SE.b (se_var 0)))) (SE.b (se_cb c1_len (SE.b (se_var 1)))))) (ss_ret (se_bl (b := false))) ss_nil)
      (ss_seq (ss_for (g := (gName 2)) (si_rng1 (sa_cons (se_cb c1_len (SE.b (se_var 1))) sa_nil)) (sg_name 2) (ss_if (st_not (st_tB (se_call (sa_cons (se_op oS_ix (SE.b (se_var 0)) (SE.b (se_var 2))) (sa_cons (se_op oS_ix (SE.b (se_var 1)) (SE.b (se_var 2))) sa_nil))))) (ss_ret (se_bl (b := false))) ss_nil))
      (ss_ret (se_bl (b := true)))))))))))), ?_⟩
    rintro ds P ⟨a, rfl, hs, q⟩
    have seq : ∀ (us : List Dt), us.length ≤ 1000 → (∀ x ∈ us, SmD n x) → (a = .lst us ∨ a = .tup us) → ∀ {body : WS} {bind : Dt → UL.Env → Option UL.Env} {R : Out → Prop}, R (.rt (.bl true)) → True := fun _ _ _ _ _ _ _ _ => True.intro
    walk_at "u"
    cases a with
    | non =>
      show if true = true then _ else _
      refine iteT ?_
      walk_at "u"
      exact q
    | bl b =>
      show if false = true then _ else _
      refine iteF ?_
      walk_at "u"
      refine kIsi_of (b := true) rfl (by decide +kernel) ?_
      refine iteT ?_
      walk_at "u"
      refine kIsi_of (b := true) rfl (by decide +kernel) ?_
      refine iteT ?_
      walk_at "u"
      show P (.bl (decide (b = b)))
      rw [decide_eq_true rfl]
      exact q
    | int i =>
      show if false = true then _ else _
      refine iteF ?_
      walk_at "u"
      refine kIsi_of (b := false) rfl (by decide +kernel) ?_
      refine iteF ?_
      walk_at "u"
      refine kIsi_of (b := true) rfl (by decide +kernel) ?_
      refine iteT ?_
      walk_at "u"
      refine kIsi_of (b := true) rfl (by decide +kernel) ?_
      refine iteT ?_
      walk_at "u"
      refine kIsi_of (b := false) rfl (by decide +kernel) ?_
      refine iteT ?_
      walk_at "u"
      rw [decide_eq_true rfl]
      exact q
    | str z =>
      show if false = true then _ else _
      refine iteF ?_
      walk_at "u"
      refine kIsi_of (b := false) rfl (by decide +kernel) ?_
      refine iteF ?_
      walk_at "u"
      refine kIsi_of (b := false) rfl (by decide +kernel) ?_
      refine iteF ?_
      walk_at "u"
      refine kIsi_of (b := true) rfl (by decide +kernel) ?_
      refine iteT ?_
      walk_at "u"
      refine kIsi_of (b := true) rfl (by decide +kernel) ?_
      refine iteT ?_
      walk_at "u"
      rw [decide_eq_true rfl]
      exact q
    | dct ks ds =>
      obtain ⟨rfl, rfl⟩ := hs
      show if false = true then _ else _
      refine iteF ?_
      walk_at "u"
      refine kIsi_of (b := false) rfl (by decide +kernel) ?_
      refine iteF ?_
      walk_at "u"
      refine kIsi_of (b := false) rfl (by decide +kernel) ?_
      refine iteF ?_
      walk_at "u"
      refine kIsi_of (b := false) rfl (by decide +kernel) ?_
      refine iteF ?_
      walk_at "u"
      refine kIsi_of (b := false) rfl (by decide +kernel) ?_
      refine iteF ?_
      refine iteF ?_
      walk_at "u"
      refine kIsi_of (b := false) rfl (by decide +kernel) ?_
      refine iteF ?_
      refine iteF ?_
      walk_at "u"
      refine kIsi_of (b := true) rfl (by decide +kernel) ?_
      refine iteT ?_
      walk_at "u"
      refine kIsi_of (b := true) rfl (by decide +kernel) ?_
      refine iteT ?_
      walk_at "u"
      exact q
    | lst us =>
      obtain ⟨hl, hx⟩ := hs
      show if false = true then _ else _
      refine iteF ?_
      walk_at "u"
      refine kIsi_of (b := false) rfl (by decide +kernel) ?_
      refine iteF ?_
      walk_at "u"
      refine kIsi_of (b := false) rfl (by decide +kernel) ?_
      refine iteF ?_
      walk_at "u"
      refine kIsi_of (b := false) rfl (by decide +kernel) ?_
      refine iteF ?_
      walk_at "u"
      refine kIsi_of (b := true) rfl (by decide +kernel) ?_
      refine iteT ?_
      walk_at "u"
      refine kIsi_of (b := true) rfl (by decide +kernel) ?_
      refine iteF ?_
      walk_at "u"
      refine kIsi_of (b := false) rfl (by decide +kernel) ?_
      refine iteF ?_
      refine iteF ?_
      walk_at "u"
      refine kIsi_of (b := false) rfl (by decide +kernel) ?_
      refine iteF ?_
      walk_at "u"
      rw [decide_eq_true rfl]
      refine iteF ?_
      walk_at "u"
      refine kRng1_to (by omega) (by omega) ?_
      rw [Int.toNat_natCast]
      refine wFor_range us.length (fun i ρ => ∃ v2, ρ = [some (.lst us), some (.lst us), v2]) ⟨none, rfl⟩ ?_ ?_
      · rintro i ρ k hi ⟨v2, rfl⟩ hk
        have ei : us[i]? = some us[i] := List.getElem?_eq_getElem hi
        refine ⟨_, rfl, ?_⟩
        walk_at "u"
        refine kIxx_lst (atI_nat ei) ?_
        walk_at "u"
        refine kIxx_lst (atI_nat ei) ?_
        walk_at "u"
        refine ⟨_, rfl, hx _ (List.getElem_mem _), ?_⟩
        refine iteF ?_
        walk_at "u"
        exact hk _ ⟨_, rfl⟩
      · rintro ρ ⟨v2, rfl⟩
        walk_at "u"
        exact q
    | tup us =>
      obtain ⟨hl, hx⟩ := hs
      show if false = true then _ else _
      refine iteF ?_
      walk_at "u"
      refine kIsi_of (b := false) rfl (by decide +kernel) ?_
      refine iteF ?_
      walk_at "u"
      refine kIsi_of (b := false) rfl (by decide +kernel) ?_
      refine iteF ?_
      walk_at "u"
      refine kIsi_of (b := false) rfl (by decide +kernel) ?_
      refine iteF ?_
      walk_at "u"
      refine kIsi_of (b := false) rfl (by decide +kernel) ?_
      refine iteF ?_
      refine iteF ?_
      walk_at "u"
      refine kIsi_of (b := true) rfl (by decide +kernel) ?_
      refine iteT ?_
      walk_at "u"
      refine kIsi_of (b := true) rfl (by decide +kernel) ?_
      refine iteF ?_
      walk_at "u"
      refine kIsi_of (b := false) rfl (by decide +kernel) ?_
      refine iteF ?_
      walk_at "u"
      rw [decide_eq_true rfl]
      refine iteF ?_
      walk_at "u"
      refine kRng1_to (by omega) (by omega) ?_
      rw [Int.toNat_natCast]
      refine wFor_range us.length (fun i ρ => ∃ v2, ρ = [some (.tup us), some (.tup us), v2]) ⟨none, rfl⟩ ?_ ?_
      · rintro i ρ k hi ⟨v2, rfl⟩ hk
        have ei : us[i]? = some us[i] := List.getElem?_eq_getElem hi
        refine ⟨_, rfl, ?_⟩
        walk_at "u"
        refine kIxx_tup (atI_nat ei) ?_
        walk_at "u"
        refine kIxx_tup (atI_nat ei) ?_
        walk_at "u"
        refine ⟨_, rfl, hx _ (List.getElem_mem _), ?_⟩
        refine iteF ?_
        walk_at "u"
        exact hk _ ⟨_, rfl⟩
      · rintro ρ ⟨v2, rfl⟩
        walk_at "u"
        exact q
    | obj => exact hs.elim
    | val => exact hs.elim
    | sql => exact hs.elim
    | nd => exact hs.elim
    | dk => exact hs.elim
end
end KX
namespace KX
open PySem PySem.Spec PyProof.Rows L2 UL
local macro_rules | `(tactic| walk_at "u") => `(tactic| repeat (first | ((with_reducible refine' wVar_of ?ke ?_); (case ke => rfl)) | with_reducible refine' wC_of ?_ | with_reducible refine' wB_of ?_ | with_reducible refine' wAnd_of ?_ | with_reducible refine' wOr_of ?_ | with_reducible refine' wNot_of ?_ | with_reducible refine' w2_of ?_ | with_reducible refine' w1_of ?_ | with_reducible refine' wCons_of ?_ | with_reducible refine' wNil_of ?_ | ((with_reducible refine' kIxT_of ?ke ?_); (case ke => rfl)) | with_reducible refine' wSeq_of ?_ | with_reducible refine' wSet_of ?_ | ((with_reducible refine' wSetF_of ?ke ?_); (case ke => rfl)) | ((with_reducible refine' wRetO_of ?ke ?_); (case ke => rfl)) | ((with_reducible refine' wSetNew_of ?hs ?_); (case hs => rfl)) | ((with_reducible refine' wPutN_of ?he ?_); (case he => rfl)) | ((with_reducible refine' wPutI_of ?he ?_); (case he => rfl)) | ((with_reducible refine' wApp_of ?ke ?_); (case ke => rfl)) | with_reducible refine' wRet_of ?_ | with_reducible refine' wRetF_of ?_ | with_reducible refine' wIfS_of ?_ | with_reducible refine' wForS_of ?_ | with_reducible refine' wItemsL_of ?_ | with_reducible refine' wItemsT_of ?_ | with_reducible refine' wLc_of ?_ | with_reducible refine' wAndV_of ?_ | with_reducible refine' wOrV_of ?_ | with_reducible refine' wNotV_of ?_ | with_reducible refine' wIf_of ?_ | with_reducible refine' wGet2_of ?_ | with_reducible refine' wChain_of ?_ | with_reducible refine' wExpr_of ?_ | with_reducible refine' kLenL_of ?_ | with_reducible refine' kLenT_of ?_ | ((with_reducible refine' kFld_of ?ke ?_); (case ke => rfl)) | with_reducible refine' wLc2_of ?_ | with_reducible refine' wNext_of ?_ | ((with_reducible refine' kZip2_of ?k1 ?k2 ?_); (case k1 => rfl); (case k2 => rfl)) | ((with_reducible refine' kZip3_of ?k1 ?k2 ?k3 ?_); (case k1 => rfl); (case k2 => rfl); (case k3 => rfl)) | with_reducible refine' kEnumT_of ?_ | with_reducible refine' wPart_of ?_ | with_reducible refine' wNoPart_of ?_ | with_reducible refine' kTupOfL_of ?_ | with_reducible refine' wEndP_of ?_ | ((with_reducible refine' wNewP_of ?ke ?_); (case ke => rfl)) | with_reducible refine' kI_of ?_ | ((with_reducible refine' wRev_of ?ke ?_); (case ke => rfl)) | with_reducible refine' kNeI_of ?_ | with_reducible refine' kEqI_of ?_ | with_reducible refine' kNeS_of ?_ | with_reducible refine' kEqS_of ?_ | with_reducible refine' wDropX_of ?_ | with_reducible refine' wSetX_of ?_ | with_reducible refine' wRetX_of ?_ | with_reducible refine' wRaise_of ?_ | with_reducible refine' wTry_of ?_ | with_reducible refine' wSlT_of ?_ | with_reducible refine' wSlQ_of ?_ | with_reducible refine' kNeg_of ?_ | with_reducible refine' kLenQ_of ?_ | with_reducible refine' kLstT_of ?_ | with_reducible refine' kLstL_of ?_ | ((with_reducible refine' wSetNewK_of ?hs ?_); (case hs => rfl)) | ((with_reducible refine' wPutK_of ?he ?_); (case he => rfl)) | ((with_reducible refine' wIns_of ?he ?_); (case he => rfl)) | ((with_reducible refine' wPop_of ?he ?_); (case he => rfl))))
section
variable {P : Program} {w : World} {K : PySem.W.Frag} {mg : Str → Option Value} {base : Heap} {TT : List NdefX.NTab} {CD : Addr} {H H' : Hp}

/-! _law_sign -/
def SetS (bs : List Str) : List Str → Prop := fun ys => (∀ z, z ∈ ys ↔ z ∈ bs) ∧ ys.length < 64
theorem SetS.good {bs : List Str} (h : ∀ z ∈ bs, NameOk z) : GoodS (SetS bs) := fun _ hy => ⟨hy.2, fun z hz => h z ((hy.1 z).mp hz)⟩
/-- what the head tells of deeds' operators -/
structure DdO (K : PySem.W.Frag) (CD oA oR nA nR mA mR : Addr) (soA soR snA snR smA smR : FuncData) : Prop where
  oF : Fun K "__or__" "Deeds.__or__" s_Deeds_or oA soA
  oB : Binds K soA ["self", "other"] []
  orF : Fun K "__ror__" "Deeds.__ror__" s_Deeds_ror oR soR
  orB : Binds K soR ["self", "other"] []
  oD : VO.BinF K CD oA oR "or"
  nF : Fun K "__and__" "Deeds.__and__" s_Deeds_and nA snA
  nB : Binds K snA ["self", "other"] []
  nrF : Fun K "__rand__" "Deeds.__rand__" s_Deeds_rand nR snR
  nrB : Binds K snR ["self", "other"] []
  nD : VO.BinF K CD nA nR "and"
  mF : Fun K "__sub__" "Deeds.__sub__" s_Deeds_sub mA smA
  mB : Binds K smA ["self", "other"] []
  mrF : Fun K "__rsub__" "Deeds.__rsub__" s_Deeds_rsub mR smR
  mrB : Binds K smR ["self", "other"] []
  mD : VO.BinF K CD mA mR "sub"
end
end KX
/-! UL: f(_law_pool(e), x, 1, ..) of a def that draws and gives a new list. -/
namespace UL
open PySem PySem.Spec PyProof.Rows L2
section
variable {K : PySem.W.Frag} {T : List NdefX.NTab} {S : Sl} {tn : TE} {tu : WE}
theorem sf_callNA (as : List Atm) {w : List Dt → (List Dt → Prop) → Prop} {sp : Sp} {E0 E1 : XK} (hs : PoolSp sp) (hn : SE K T S true tn tu) (ha : noV S as = true := by decide) : SF K T S true (tCall (spPF K T w) [] E0 (tCons (tCall sp [] E1 (tCons tn tNil)) (tAtms as)))
    (fun ρ P => tu ρ fun d => match d with | .int _ => ∃ ds, atmsD ρ as = some ds ∧ w ds P | _ => False) := fun C ρ P σ H Q hC ht E q => by
  refine hn C ρ _ σ H _ hC ht E fun d v H1 h1 g1 r1 => ?_
  cases d <;> first | exact h1.elim | skip
  obtain ⟨ds, eds, hw⟩ := h1
  rw [R.intE r1]
  have E1 := E.gr g1
  obtain ⟨vs, rs, run⟩ := atms_run E1 hC (noV_ok ha) eds
  refine hs _ H1 _ _ fun p x y z hp => ?_
  refine run _ _ ?_
  have k12 : Same H1 (upd H1 p (.lst [.int x, .int y, .int z])) := same_up hp
  have hp2 : upd H1 p (.lst [.int x, .int y, .int z]) p = some (.lst [.int x, .int y, .int z]) := upd_same
  have rs2 : Rs K (fun a => C.ok a ∧ a ≠ p) (upd H1 p (.lst [.int x, .int y, .int z])) ds vs := (ok_ne hp rs).same k12
  generalize upd H1 p (.lst [.int x, .int y, .int z]) = H2 at k12 hp2 rs2 ⊢
  have E2 := E1.same k12
  have nP : ∀ j ∈ C.Pl, p ≠ C.A j := fun j hj e => by
    obtain ⟨_, _, ⟨a, b, c, e3⟩, _⟩ := E1.pls j hj
    rw [← e, hp] at e3
    cases e3
  have t3 := E2.tab
  rw [hC.T] at t3
  show spPF K T w (V.ref p :: (vs ++ [])) _ Q E0
  rw [List.append_nil]
  refine ⟨p, vs, fun a => C.ok a ∧ a ≠ p, ds, P, rfl, ⟨x, y, z, hp2⟩, fun z => z.2 rfl, t3, rs2, hw, fun es pq us H4 hes keep hpl t4 fq eq rq => ?_⟩
  have g12 : Gr true C H1 H2 := Gr.of k12
  have g14 : Gr true C H1 H4 := by
    refine ⟨fun a o nt e h => keep a o nt (ne_of_none e hp) (k12 _ _ e), fun i hi h => ?_, fun a f => ?_, fun _ => by rw [hC.T]; exact t4⟩
    · obtain ⟨a, b, c, e3⟩ := g12.pl i hi h
      exact ⟨a, b, c, keep _ _ nt_lst (Ne.symm (nP i hi)) e3⟩
    · refine g12.dom a fun o nt e3 => ?_
      by_cases ea : a = p
      · subst ea
        obtain ⟨a', b', c', e4⟩ := hpl
        exact f _ nt_lst e4
      · exact f o nt (keep a o nt ea e3)
  have g04 : Gr true C H H4 := g1.trans g14
  refine q es pq us H4 hes g04 ?_ eq (rq.okm fun a _ z => ⟨z.1.elim (fun z => z.1) fun z => E2.freshF z, z.2⟩)
  exact g1.dom _ (g12.dom _ fq)
end
end UL
namespace KX
open PySem PySem.Spec PyProof.Rows L2 UL
local macro_rules | `(tactic| walk_at "u") => `(tactic| repeat (first | ((with_reducible refine' wVar_of ?ke ?_); (case ke => rfl)) | with_reducible refine' wC_of ?_ | with_reducible refine' wB_of ?_ | with_reducible refine' wAnd_of ?_ | with_reducible refine' wOr_of ?_ | with_reducible refine' wNot_of ?_ | with_reducible refine' w2_of ?_ | with_reducible refine' w1_of ?_ | with_reducible refine' wCons_of ?_ | with_reducible refine' wNil_of ?_ | ((with_reducible refine' kIxT_of ?ke ?_); (case ke => rfl)) | with_reducible refine' wSeq_of ?_ | with_reducible refine' wSet_of ?_ | ((with_reducible refine' wSetF_of ?ke ?_); (case ke => rfl)) | ((with_reducible refine' wRetO_of ?ke ?_); (case ke => rfl)) | ((with_reducible refine' wSetNew_of ?hs ?_); (case hs => rfl)) | ((with_reducible refine' wPutN_of ?he ?_); (case he => rfl)) | ((with_reducible refine' wPutI_of ?he ?_); (case he => rfl)) | ((with_reducible refine' wApp_of ?ke ?_); (case ke => rfl)) | with_reducible refine' wRet_of ?_ | with_reducible refine' wRetF_of ?_ | with_reducible refine' wIfS_of ?_ | with_reducible refine' wForS_of ?_ | with_reducible refine' wItemsL_of ?_ | with_reducible refine' wItemsT_of ?_ | with_reducible refine' wLc_of ?_ | with_reducible refine' wAndV_of ?_ | with_reducible refine' wOrV_of ?_ | with_reducible refine' wNotV_of ?_ | with_reducible refine' wIf_of ?_ | with_reducible refine' wGet2_of ?_ | with_reducible refine' wChain_of ?_ | with_reducible refine' wExpr_of ?_ | with_reducible refine' kLenL_of ?_ | with_reducible refine' kLenT_of ?_ | ((with_reducible refine' kFld_of ?ke ?_); (case ke => rfl)) | with_reducible refine' wLc2_of ?_ | with_reducible refine' wNext_of ?_ | ((with_reducible refine' kZip2_of ?k1 ?k2 ?_); (case k1 => rfl); (case k2 => rfl)) | ((with_reducible refine' kZip3_of ?k1 ?k2 ?k3 ?_); (case k1 => rfl); (case k2 => rfl); (case k3 => rfl)) | with_reducible refine' kEnumT_of ?_ | with_reducible refine' wPart_of ?_ | with_reducible refine' wNoPart_of ?_ | with_reducible refine' kTupOfL_of ?_ | with_reducible refine' wEndP_of ?_ | ((with_reducible refine' wNewP_of ?ke ?_); (case ke => rfl)) | with_reducible refine' kI_of ?_ | ((with_reducible refine' wRev_of ?ke ?_); (case ke => rfl)) | with_reducible refine' kNeI_of ?_ | with_reducible refine' kEqI_of ?_ | with_reducible refine' kNeS_of ?_ | with_reducible refine' kEqS_of ?_ | with_reducible refine' wDropX_of ?_ | with_reducible refine' wSetX_of ?_ | with_reducible refine' wRetX_of ?_ | with_reducible refine' wRaise_of ?_ | with_reducible refine' wTry_of ?_ | with_reducible refine' wSlT_of ?_ | with_reducible refine' wSlQ_of ?_ | with_reducible refine' kNeg_of ?_ | with_reducible refine' kLenQ_of ?_ | with_reducible refine' kLstT_of ?_ | with_reducible refine' kLstL_of ?_ | ((with_reducible refine' wSetNewK_of ?hs ?_); (case hs => rfl)) | ((with_reducible refine' wPutK_of ?he ?_); (case he => rfl)) | ((with_reducible refine' wIns_of ?he ?_); (case he => rfl)) | ((with_reducible refine' wPop_of ?he ?_); (case he => rfl))))
section
variable {P : Program} {w : World} {K : PySem.W.Frag} {mg : Str → Option Value} {base : Heap} {TT : List NdefX.NTab} {C CD : Addr} {H H' : Hp}
def spRow0 (K : PySem.W.Frag) : Sp := fun vs H Q _ => ∃ a : Addr, vs = [.ref a] ∧ SqT K H a [] ∧ ∀ H', Same H H' → Q (.bl true) H'
def spTold0 (K : PySem.W.Frag) : Sp := fun vs H Q _ => ∃ a : Addr, vs = [.ref a] ∧ SqT K H a [] ∧ ∀ (l : Addr) (H' : Hp), H l = none → H' l = some (.lst []) → Same H H' → Q (.ref l) H'
def spDInit0 (K : PySem.W.Frag) (CD : Addr) : Sp := fun vs H Q _ => ∃ (p dx a : Addr), vs = [.ref p, .ref a] ∧ H p = some (.ins CD dx []) ∧ SqT K H a [] ∧
  ∀ (d : Addr) (H' : Hp), H d = none → H' p = some (.ins CD dx (dfs d)) → H' d = some (.dK (dkN [])) → SameX p H H' → Q .non H'
def Dv0 (K : PySem.W.Frag) (dv : Addr) : Prop := ∀ H : Hp, SqT K H dv []

/-! frames -/
def Kp (H H' : Hp) : Prop := ∀ a o, NT o → H a = some o → H' a = some o
theorem Kp.of (k : Same H H') : Kp H H' := fun a o _ e => k a o e
theorem Kp.refl : Kp H H := fun _ _ _ e => e
theorem Kp.trans {H1 H2 : Hp} (a : Kp H H1) (b : Kp H1 H2) : Kp H H2 := fun x o n e => b x o n (a x o n e)
theorem Kp.sx {p : Addr} {H1 H2 : Hp} (a : Kp H H1) (n : Fre H p) (b : SameX p H1 H2) : Kp H H2 := fun x o nt e => b x o (fun z => n o nt (z ▸ e)) (a x o nt e)
theorem Kp.free {p : Addr} (k : Kp H H') (n : H' p = none) : Fre H p := fun o nt e => by rw [k p o nt e] at n; cases n
theorem nt_ins {a b : Addr} {fs : List (Str × V)} : NT (.ins a b fs) := fun _ z => nomatch z
theorem nt_dK {kvs : List (Key × V)} : NT (.dK kvs) := fun _ z => nomatch z
theorem DdsX.kp {p : Addr} {zs : List Str} (k : Kp H H') (h : DdsX CD H p zs) : DdsX CD H' p zs := let ⟨dx, d, e, e2, nd⟩ := h; ⟨dx, d, k _ _ nt_ins e, k _ _ nt_dK e2, nd⟩
/-- _law_same of two equal lists of names -/
theorem same_v {Q : VK} {E : XK} {l1 l2 : Addr} {ns : List Str} (h1 : H l1 = some (.lst (ns.map V.str))) (h2 : H l2 = some (.lst (ns.map V.str))) (ln : ns.length ≤ 1000) (q : ∀ H', Kp H H' → Q (.bl true) H') : spU K [] (wSm 4) [.ref l1, .ref l2] H Q E :=
  ⟨fun _ => True, [.lst (ns.map Dt.str), .lst (ns.map Dt.str)], fun d => d = .bl true, (fun _ h => nomatch h), .cons (.lst h1 True.intro (Rs.ofStrs _)) (.cons (.lst h2 True.intro (Rs.ofStrs _)) .nil), ⟨_, rfl, ⟨by rw [List.length_map]; exact ln, fun x hx => by obtain ⟨z, _, rfl⟩ := List.mem_map.mp hx; exact True.intro⟩, rfl⟩, fun r v H' hr k r2 => by
    subst hr
    cases r2
    exact q H' k.k⟩
end
end KX
namespace KX
open PySem PySem.Spec PyProof.Rows L2 UL
local macro_rules | `(tactic| walk_at "u") => `(tactic| repeat (first | ((with_reducible refine' wVar_of ?ke ?_); (case ke => rfl)) | with_reducible refine' wC_of ?_ | with_reducible refine' wB_of ?_ | with_reducible refine' wAnd_of ?_ | with_reducible refine' wOr_of ?_ | with_reducible refine' wNot_of ?_ | with_reducible refine' w2_of ?_ | with_reducible refine' w1_of ?_ | with_reducible refine' wCons_of ?_ | with_reducible refine' wNil_of ?_ | ((with_reducible refine' kIxT_of ?ke ?_); (case ke => rfl)) | with_reducible refine' wSeq_of ?_ | with_reducible refine' wSet_of ?_ | ((with_reducible refine' wSetF_of ?ke ?_); (case ke => rfl)) | ((with_reducible refine' wRetO_of ?ke ?_); (case ke => rfl)) | ((with_reducible refine' wSetNew_of ?hs ?_); (case hs => rfl)) | ((with_reducible refine' wPutN_of ?he ?_); (case he => rfl)) | ((with_reducible refine' wPutI_of ?he ?_); (case he => rfl)) | ((with_reducible refine' wApp_of ?ke ?_); (case ke => rfl)) | with_reducible refine' wRet_of ?_ | with_reducible refine' wRetF_of ?_ | with_reducible refine' wIfS_of ?_ | with_reducible refine' wForS_of ?_ | with_reducible refine' wItemsL_of ?_ | with_reducible refine' wItemsT_of ?_ | with_reducible refine' wLc_of ?_ | with_reducible refine' wAndV_of ?_ | with_reducible refine' wOrV_of ?_ | with_reducible refine' wNotV_of ?_ | with_reducible refine' wIf_of ?_ | with_reducible refine' wGet2_of ?_ | with_reducible refine' wChain_of ?_ | with_reducible refine' wExpr_of ?_ | with_reducible refine' kLenL_of ?_ | with_reducible refine' kLenT_of ?_ | ((with_reducible refine' kFld_of ?ke ?_); (case ke => rfl)) | with_reducible refine' wLc2_of ?_ | with_reducible refine' wNext_of ?_ | ((with_reducible refine' kZip2_of ?k1 ?k2 ?_); (case k1 => rfl); (case k2 => rfl)) | ((with_reducible refine' kZip3_of ?k1 ?k2 ?k3 ?_); (case k1 => rfl); (case k2 => rfl); (case k3 => rfl)) | with_reducible refine' kEnumT_of ?_ | with_reducible refine' wPart_of ?_ | with_reducible refine' wNoPart_of ?_ | with_reducible refine' kTupOfL_of ?_ | with_reducible refine' wEndP_of ?_ | ((with_reducible refine' wNewP_of ?ke ?_); (case ke => rfl)) | with_reducible refine' kI_of ?_ | ((with_reducible refine' wRev_of ?ke ?_); (case ke => rfl)) | with_reducible refine' kNeI_of ?_ | with_reducible refine' kEqI_of ?_ | with_reducible refine' kNeS_of ?_ | with_reducible refine' kEqS_of ?_ | with_reducible refine' wDropX_of ?_ | with_reducible refine' wSetX_of ?_ | with_reducible refine' wRetX_of ?_ | with_reducible refine' wRaise_of ?_ | with_reducible refine' wTry_of ?_ | with_reducible refine' wSlT_of ?_ | with_reducible refine' wSlQ_of ?_ | with_reducible refine' kNeg_of ?_ | with_reducible refine' kLenQ_of ?_ | with_reducible refine' kLstT_of ?_ | with_reducible refine' kLstL_of ?_ | ((with_reducible refine' wSetNewK_of ?hs ?_); (case hs => rfl)) | ((with_reducible refine' wPutK_of ?he ?_); (case he => rfl)) | ((with_reducible refine' wIns_of ?he ?_); (case he => rfl)) | ((with_reducible refine' wPop_of ?he ?_); (case he => rfl))))
section
variable {P : Program} {w : World} {K : PySem.W.Frag} {mg : Str → Option Value} {base : Heap} {TT : List NdefX.NTab} {CD CW : Addr} {H H' : Hp}

theorem tN {σ : L2.St} {k : List V → Hp → Prop} (h : k [] H) : tNil σ H k := h
/-! ### Deeds(words) and the operators, refused -/
/-- at H the value u stands for words that are refused with x -/
def BadV (K : PySem.W.Frag) (CD : Addr) (ok : Addr → Prop) (H : Hp) (u : V) (x : Dt) : Prop := ∃ d, R K ok H d u ∧ BadTl K CD d x
theorem BadV.kp {ok : Addr → Prop} {u : V} {x : Dt} (k : Kp H H') (h : BadV K CD ok H u x) : BadV K CD ok H' u x := let ⟨d, r, b⟩ := h; ⟨d, r.ex (T := []) ⟨k, fun _ _ h => nomatch h⟩, b⟩
/-- the error that tells x -/
def Told (K : PySem.W.Frag) (CW : Addr) (ok : Addr → Prop) (H : Hp) (x : Dt) (E : XK) : Prop := ∀ cls dd H', Kp H H' → XR K (fun a => ok a ∨ Fre H a) H' ⟨CW, "value", x⟩ cls dd → E cls dd H'
theorem Told.from {ok : Addr → Prop} {x : Dt} {E : XK} (k : Kp H H') (h : Told K CW ok H x E) : Told K CW ok H' x E := fun cls dd H2 k2 r => h cls dd H2 (k.trans k2) (by
  obtain ⟨e, a, v, e1, e2, r⟩ := r
  exact ⟨e, a, v, e1, e2, r.okm fun a _ z => z.imp id fun f o nt e => f o nt (k _ _ nt e)⟩)
def spDInitB (K : PySem.W.Frag) (CD CW : Addr) : Sp := fun vs H _ E => ∃ (p : Addr) (v : V) (x : Dt) (ok : Addr → Prop), vs = [.ref p, v] ∧ BadV K CD ok H v x ∧ Told K CW ok H x E
theorem ok_dinitB {f rR rN rT rM fW : Addr} {fd sR sN sT sM fdW : FuncData} {dvs : List V} (F : FunD K "__init__" "Deeds.__init__" (defArgs s_Deeds_init) (defBody s_Deeds_init) (defScope s_Deeds_init) dvs [] f fd) (B : Blt mg) (N : Kin mg) (D : DdsD K mg CD rR rN rT rM sR sN sT sM) (DW : ExcD P w K mg base "BadWords" "value" CW fW fdW) :
    FnOk P w K mg base (L2.CX P w) 4 f fd ["self", "words"] (spDInitB K CD CW) := by
  have GT : FnOk P w K mg base (L2.CX P w) 3 rT sT ["words"] (spX K [] (wTldA K CD CW)) := ok_tldA B N D DW
  refine F.ok sc_dinit (fun vs H Q E h => ?_) (fun cdv A outer s H vs Q E hr h => ?_)
  · obtain ⟨p, v, x, ok, rfl, _⟩ := h
    rfl
  · obtain ⟨p, v, x, ok, rfl, ⟨d, r, hb⟩, q⟩ := h
    have tk : Takes (cxOf (L2.CX P w) P w K mg base ["self", "words", "name"] "Deeds.__init__" (defScope s_Deeds_init) f cdv A outer s H E) (fun cls d _ H' => E cls d H') := takes_of rfl rfl rfl rfl
    refine ⟨_, pss_one (ps_fld (pv 0) (pe_dc (own := [("name", 2)]) (g := gName 2) (tt := tYes) (tk := tVar 2) (tv := tC (.bl true)) rfl sc_dinit.nd (pi_list (pe_callSD GT (hr.mono (by decide)) (by rfl) D.gT D.FT.kp D.bT .nil (passAt tk) (pa_cons (pv 1) pa_nil))) (blkOk_by (N := ["self", "words", "name"]) (sc := defScope s_Deeds_init) (by decide +kernel))
      (fun _ _ _ _ _ => pg_name (i := 2) sc_dinit.nd rfl (.inl rfl)) (fun _ _ _ _ _ => pts_nil) (fun _ _ _ _ _ => pv 2) (fun _ _ _ _ _ => pe_bl)) rfl), ?_⟩
    refine ⟨_, rfl, ?_⟩
    refine tN ?_
    exact ⟨ok, [d], fun _ => False, fun y => y = ⟨CW, "value", x⟩, (fun _ h => nomatch h), .cons r .nil, ⟨d, x, rfl, hb, rfl⟩, fun _ _ _ h => h.elim, fun y cls dd H' e k xr => by subst e; exact q cls dd H' k.k xr⟩
def spDBinB (K : PySem.W.Frag) (CD CW : Addr) : Sp := fun vs H _ E => ∃ (v u : V) (as : List Str) (x : Dt) (ok : Addr → Prop), vs = [v, u] ∧ DdsAt CD H v as ∧ as.length < 64 ∧ BadV K CD ok H u x ∧ Told K CW ok H x E
theorem ok_dorB {f rR rN rT rM fW : Addr} {fd sR sN sT sM fdW : FuncData} {dv rI : Addr} {sI : FuncData} (F : Fun K "__or__" "Deeds.__or__" s_Deeds_or f fd) (B : Blt mg) (N : Kin mg) (D : DdsD K mg CD rR rN rT rM sR sN sT sM) (I : DdI K CD dv rI sI) (DW : ExcD P w K mg base "BadWords" "value" CW fW fdW) :
    FnOk P w K mg base (L2.CX P w) 6 f fd ["self", "other"] (spDBinB K CD CW) := by
  have GT : FnOk P w K mg base (L2.CX P w) 3 rT sT ["words"] (spX K [] (wTldA K CD CW)) := ok_tldA B N D DW
  have GM : FnOk P w K mg base CX0 1 rM sM ["self"] (spDNames CD) := ok_dnames D.FM B D.TD
  have GIB : FnOk P w K mg base (L2.CX P w) 4 rI sI ["self", "words"] (spDInitB K CD CW) := ok_dinitB I.FI B N D DW
  have GI : FnOk P w K mg base CX0 3 rI sI ["self", "words"] (spDInit K CD) := ok_dinit I.FI B N D
  refine F.okX sc_dorH (fun vs H Q E h => ?_) (fun cdv A outer s H vs Q E hr h => ?_)
  · obtain ⟨v, u, as, x, ok, rfl, _⟩ := h
    rfl
  · obtain ⟨v, u, as, x, ok, rfl, hv, la, ⟨d, r, hb⟩, q⟩ := h
    have tk : Takes (cxOf (L2.CX P w) P w K mg base ["self", "other"] "Deeds.__or__" (defScope s_Deeds_or) f cdv A outer s H E) (fun cls d _ H' => E cls d H') := takes_of rfl rfl rfl rfl
    refine ⟨_, pss_one (ps_ret (VX.pe_makeSD I.MI GIB (hr.mono (by decide)) (by rfl) D.mD I.bI .nil (passAt tk) (pa_cons (pe_op op_cat (pe_meth0 (pv 0) D.TD.cl D.MM GM (hr.mono (by decide)) D.bM .nil pass0) (pe_callSD GT (hr.mono (by decide)) (by rfl) D.gT D.FT.kp D.bT .nil (passAt tk) (pa_cons (pv 1) pa_nil))) pa_nil))), ?_⟩
    obtain ⟨p, dx, fs, d0, rfl, hp, f1, f2, hd, nd⟩ := id hv
    refine ⟨_, rfl, p, dx, _, rfl, hp, f2 _ (by decide +kernel), _, as, rfl, hv, la, fun l xs pm so hl => ?_⟩
    have k1 : Kp H (upd H l (.lst (xs.map V.str))) := .of (same_new hl)
    refine ⟨_, rfl, ?_⟩
    refine tN ?_
    exact ⟨ok, [d], fun _ => False, fun y => y = ⟨CW, "value", x⟩, (fun _ h => nomatch h), .cons (r.ex (T := []) ⟨k1, fun _ _ h => nomatch h⟩) .nil, ⟨d, x, rfl, hb, rfl⟩, fun _ _ _ h => h.elim, fun y cls dd H2 e k xr => by subst e; exact (q.from k1) cls dd H2 k.k xr⟩
theorem ok_dandB {f rR rN rT rM fW : Addr} {fd sR sN sT sM fdW : FuncData} {dv rI : Addr} {sI : FuncData} (F : Fun K "__and__" "Deeds.__and__" s_Deeds_and f fd) (B : Blt mg) (N : Kin mg) (D : DdsD K mg CD rR rN rT rM sR sN sT sM) (I : DdI K CD dv rI sI) (DW : ExcD P w K mg base "BadWords" "value" CW fW fdW) :
    FnOk P w K mg base (L2.CX P w) 6 f fd ["self", "other"] (spDBinB K CD CW) := by
  have GT : FnOk P w K mg base (L2.CX P w) 3 rT sT ["words"] (spX K [] (wTldA K CD CW)) := ok_tldA B N D DW
  have GM : FnOk P w K mg base CX0 1 rM sM ["self"] (spDNames CD) := ok_dnames D.FM B D.TD
  have GIB : FnOk P w K mg base (L2.CX P w) 4 rI sI ["self", "words"] (spDInitB K CD CW) := ok_dinitB I.FI B N D DW
  have GI : FnOk P w K mg base CX0 3 rI sI ["self", "words"] (spDInit K CD) := ok_dinit I.FI B N D
  refine F.okX sc_dandH (fun vs H Q E h => ?_) (fun cdv A outer s H vs Q E hr h => ?_)
  · obtain ⟨v, u, as, x, ok, rfl, _⟩ := h
    rfl
  · obtain ⟨v, u, as, x, ok, rfl, hv, la, ⟨d, r, hb⟩, q⟩ := h
    have tk : Takes (cxOf (L2.CX P w) P w K mg base ["self", "other", "name"] "Deeds.__and__" (defScope s_Deeds_and) f cdv A outer s H E) (fun cls d _ H' => E cls d H') := takes_of rfl rfl rfl rfl
    refine ⟨_, pss_one (ps_ret (VX.pe_makeSD I.MI GIB (hr.mono (by decide)) (by rfl) D.mD I.bI .nil (passAt tk) (pa_cons (pe_lc (own := [("name", 2)]) (g := gName 2) (tt := tB (tDIn (tVar 2) (tFld K (tVar 0) "kept"))) rfl sc_dandH.nd (pi_list (pe_callSD GT (hr.mono (by decide)) (by rfl) D.gT D.FT.kp D.bT .nil (passAt tk) (pa_cons (pv 1) pa_nil))) (blkOk_by (N := ["self", "other", "name"]) (sc := defScope s_Deeds_and) (by decide +kernel))
        (fun _ _ _ _ _ => pg_name (i := 2) sc_dandH.nd rfl (.inl rfl)) (fun _ _ _ _ _ => pts_one (pt_cmp (pc_din (hu_of hr) (pv 2) (pe_fld (pv 0) rfl)))) (fun _ _ _ _ _ => pv 2)) pa_nil))), ?_⟩
    refine ⟨_, rfl, ?_⟩
    refine tN ?_
    exact ⟨ok, [d], fun _ => False, fun y => y = ⟨CW, "value", x⟩, (fun _ h => nomatch h), .cons r .nil, ⟨d, x, rfl, hb, rfl⟩, fun _ _ _ h => h.elim, fun y cls dd H2 e k xr => by subst e; exact q cls dd H2 k.k xr⟩
theorem ok_dsubB {f rR rN rT rM fW : Addr} {fd sR sN sT sM fdW : FuncData} {dv rI : Addr} {sI : FuncData} (F : Fun K "__sub__" "Deeds.__sub__" s_Deeds_sub f fd) (B : Blt mg) (N : Kin mg) (D : DdsD K mg CD rR rN rT rM sR sN sT sM) (I : DdI K CD dv rI sI) (DW : ExcD P w K mg base "BadWords" "value" CW fW fdW) :
    FnOk P w K mg base (L2.CX P w) 6 f fd ["self", "other"] (spDBinB K CD CW) := by
  have GT : FnOk P w K mg base (L2.CX P w) 3 rT sT ["words"] (spX K [] (wTldA K CD CW)) := ok_tldA B N D DW
  have GM : FnOk P w K mg base CX0 1 rM sM ["self"] (spDNames CD) := ok_dnames D.FM B D.TD
  have GIB : FnOk P w K mg base (L2.CX P w) 4 rI sI ["self", "words"] (spDInitB K CD CW) := ok_dinitB I.FI B N D DW
  have GI : FnOk P w K mg base CX0 3 rI sI ["self", "words"] (spDInit K CD) := ok_dinit I.FI B N D
  refine F.okX sc_dsubH (fun vs H Q E h => ?_) (fun cdv A outer s H vs Q E hr h => ?_)
  · obtain ⟨v, u, as, x, ok, rfl, _⟩ := h
    rfl
  · obtain ⟨v, u, as, x, ok, rfl, hv, la, ⟨d, r, hb⟩, q⟩ := h
    have tk : Takes (cxOf (L2.CX P w) P w K mg base ["self", "other", "away", "name"] "Deeds.__sub__" (defScope s_Deeds_sub) f cdv A outer s H E) (fun cls d _ H' => E cls d H') := takes_of rfl rfl rfl rfl
    refine ⟨_, pss_cons (ps_set (i := 2) sc_dsubH.nd rfl (.inr rfl) (VX.pe_makeSD I.MI GIB (hr.mono (by decide)) (by rfl) D.mD I.bI .nil (passAt tk) (pa_cons (pv 1) pa_nil))) pss_dead, ?_⟩
    refine ⟨_, rfl, ?_⟩
    refine tN ?_
    intro p dp hp hdp ne
    have m10 : Kp H (upd (upd H dp (.own p)) p (.ins CD dp [])) := .of ((same_new hdp).trans (same_new (by rw [upd_ne ne.symm]; exact hp)))
    exact ⟨p, u, x, ok, rfl, BadV.kp m10 ⟨d, r, hb⟩, q.from m10⟩
end
end KX
namespace KX
open PySem PySem.Spec PyProof.Rows L2 UL
local macro_rules | `(tactic| walk_at "u") => `(tactic| repeat (first | ((with_reducible refine' wVar_of ?ke ?_); (case ke => rfl)) | with_reducible refine' wC_of ?_ | with_reducible refine' wB_of ?_ | with_reducible refine' wAnd_of ?_ | with_reducible refine' wOr_of ?_ | with_reducible refine' wNot_of ?_ | with_reducible refine' w2_of ?_ | with_reducible refine' w1_of ?_ | with_reducible refine' wCons_of ?_ | with_reducible refine' wNil_of ?_ | ((with_reducible refine' kIxT_of ?ke ?_); (case ke => rfl)) | with_reducible refine' wSeq_of ?_ | with_reducible refine' wSet_of ?_ | ((with_reducible refine' wSetF_of ?ke ?_); (case ke => rfl)) | ((with_reducible refine' wRetO_of ?ke ?_); (case ke => rfl)) | ((with_reducible refine' wSetNew_of ?hs ?_); (case hs => rfl)) | ((with_reducible refine' wPutN_of ?he ?_); (case he => rfl)) | ((with_reducible refine' wPutI_of ?he ?_); (case he => rfl)) | ((with_reducible refine' wApp_of ?ke ?_); (case ke => rfl)) | with_reducible refine' wRet_of ?_ | with_reducible refine' wRetF_of ?_ | with_reducible refine' wIfS_of ?_ | with_reducible refine' wForS_of ?_ | with_reducible refine' wItemsL_of ?_ | with_reducible refine' wItemsT_of ?_ | with_reducible refine' wLc_of ?_ | with_reducible refine' wAndV_of ?_ | with_reducible refine' wOrV_of ?_ | with_reducible refine' wNotV_of ?_ | with_reducible refine' wIf_of ?_ | with_reducible refine' wGet2_of ?_ | with_reducible refine' wChain_of ?_ | with_reducible refine' wExpr_of ?_ | with_reducible refine' kLenL_of ?_ | with_reducible refine' kLenT_of ?_ | ((with_reducible refine' kFld_of ?ke ?_); (case ke => rfl)) | with_reducible refine' wLc2_of ?_ | with_reducible refine' wNext_of ?_ | ((with_reducible refine' kZip2_of ?k1 ?k2 ?_); (case k1 => rfl); (case k2 => rfl)) | ((with_reducible refine' kZip3_of ?k1 ?k2 ?k3 ?_); (case k1 => rfl); (case k2 => rfl); (case k3 => rfl)) | with_reducible refine' kEnumT_of ?_ | with_reducible refine' wPart_of ?_ | with_reducible refine' wNoPart_of ?_ | with_reducible refine' kTupOfL_of ?_ | with_reducible refine' wEndP_of ?_ | ((with_reducible refine' wNewP_of ?ke ?_); (case ke => rfl)) | with_reducible refine' kI_of ?_ | ((with_reducible refine' wRev_of ?ke ?_); (case ke => rfl)) | with_reducible refine' kNeI_of ?_ | with_reducible refine' kEqI_of ?_ | with_reducible refine' kNeS_of ?_ | with_reducible refine' kEqS_of ?_ | with_reducible refine' wDropX_of ?_ | with_reducible refine' wSetX_of ?_ | with_reducible refine' wRetX_of ?_ | with_reducible refine' wRaise_of ?_ | with_reducible refine' wTry_of ?_ | with_reducible refine' wSlT_of ?_ | with_reducible refine' wSlQ_of ?_ | with_reducible refine' kNeg_of ?_ | with_reducible refine' kLenQ_of ?_ | with_reducible refine' kLstT_of ?_ | with_reducible refine' kLstL_of ?_ | ((with_reducible refine' wSetNewK_of ?hs ?_); (case hs => rfl)) | ((with_reducible refine' wPutK_of ?he ?_); (case he => rfl)) | ((with_reducible refine' wIns_of ?he ?_); (case he => rfl)) | ((with_reducible refine' wPop_of ?he ?_); (case he => rfl))))
section
variable {P : Program} {w : World} {K : PySem.W.Frag} {mg : Str → Option Value} {base : Heap} {TT : List NdefX.NTab} {CD : Addr} {H H' : Hp}
theorem mkI {H1 : Hp} {u : V} {S : List Str → Prop} {Q : VK} {E : XK} {x dx : Addr} (hT : TellD K CD H1 u S) (hx : H1 x = none) (hdx : H1 dx = none) (ne : dx ≠ x) (q : ∀ (zs ys : List Str) (H' : Hp), S ys → Same H1 H' → DdsF CD H1 H' x zs → (∀ z, z ∈ zs ↔ z ∈ ys) → Q .non H') :
    spDInit K CD (.ref x :: ([u] ++ [])) (upd (upd H1 dx (.own x)) x (.ins CD dx [])) Q E := by
  have m10 : Same H1 (upd (upd H1 dx (.own x)) x (.ins CD dx [])) := (same_new hdx).trans (same_new (by rw [upd_ne ne.symm]; exact hx))
  exact ⟨x, dx, u, S, rfl, upd_same, hT.same m10, fun ys zs d H' hs ly hd hx1 hd1 nd hz sx => q zs ys H' hs (fun b o e => sx b o (ne_of_none e hx) (m10 b o e)) ⟨dx, d, m10.free hd, hx1, hd1, nd⟩ hz⟩
theorem len_le {xs ys : List Str} (h1 : xs.Nodup) (h : ∀ z, z ∈ xs ↔ z ∈ ys) : xs.length ≤ ys.length := nd_lenS h1 fun z hz => (h z).mp hz
theorem DdsX.ne {p q : Addr} {zs : List Str} (d : DdsX CD H p zs) (n : H q = none) : p ≠ q := fun z => by
  obtain ⟨dx, d, e, _⟩ := d
  rw [z, n] at e
  cases e
theorem DdsX.sx {p q : Addr} {zs ws : List Str} (d : DdsX CD H p zs) (n : q ≠ p) (h : DdsX CD H q ws) (k : SameX p H H') : DdsX CD H' q ws := by
  obtain ⟨dx, d1, e, e2, nd⟩ := h
  refine ⟨dx, d1, k _ _ n e, k _ _ (fun z => ?_) e2, nd⟩
  obtain ⟨dy, d2, e3, _⟩ := d
  rw [z, e3] at e2
  cases e2
def pL (zs : List Str) : PyData := .list (zs.map .str)
theorem str_lay {z : Str} (h : NameOk z) : (PyData.str z).canLay0 = true := by
  unfold PyData.canLay0
  exact h.ok
theorem pL_lay {zs : List Str} (h : ∀ z ∈ zs, NameOk z) : (pL zs).canLay0 = true := by
  unfold pL PyData.canLay0
  exact lay_all fun z hz => str_lay (h z hz)
theorem pL_dep (zs : List Str) : (pL zs).depth ≤ 1 := by
  unfold pL PyData.depth
  have := dep_all (n := 0) (g := PyData.str) (xs := zs) fun z hz => by unfold PyData.depth; omega
  omega
theorem pL_py (zs : List Str) : (Dt.lst (zs.map Dt.str)).py = some (pL zs) := py_lst (pys_map (fun z => by unfold Dt.py; rfl) zs)
def pLL (ys vs : List Str) : PyData := .list [pL ys, pL vs]
theorem DdsX.sl {l q : Addr} {us : List V} {ws : List Str} (hl : H l = some (.lst us)) (h : DdsX CD H q ws) (k : SameX l H H') : DdsX CD H' q ws := by
  obtain ⟨dx, d1, e, e2, nd⟩ := h
  exact ⟨dx, d1, k _ _ (fun z => by rw [z, hl] at e; cases e) e, k _ _ (fun z => by rw [z, hl] at e2; cases e2) e2, nd⟩
structure DdIn (K : PySem.W.Frag) (CD iA iS : Addr) (siA siS : FuncData) : Prop where
  sf : PySem.W.selfFirst K CD = true
  iorF : Fun K "__ior__" "Deeds.__ior__" s_Deeds_ior iA siA
  iorB : Binds K siA ["self", "other"] []
  ior : Meth K CD "__ior__" iA
  isubF : Fun K "__isub__" "Deeds.__isub__" s_Deeds_isub iS siS
  isubB : Binds K siS ["self", "other"] []
  isub : Meth K CD "__isub__" iS
end
end KX
/-! a op b and a op= b of an own class, where the operator may raise. -/
namespace VO
open PySem PySem.Spec PyProof.Rows L2
open PySem.W (findIn isFn selfFirst InstAt Looks clsIn looks_clsIn looks_findIn subIn looks_subIn)
section
variable {X : Cx} {CX : CXT} {k : Nat} {C fA fR : Addr} {fdA : FuncData} {pA : List Str} {spA : Sp} {E : L2.St → XK} {ta tb : TE} {a b : Expr} {pos : Pos} {op : Operator}
abbrev kinds7 : List String := ["NoneType", "str", "tuple", "list", "dict", "int", "bool"]
/-- built-in kinds on the right, whether they fill the slot or not -/
def BinG (K : PySem.W.Frag) (C : Addr) (nm : String) : Prop := ∀ n ∈ kinds7, ∃ fo ro, findIn K (.type n) (PySem.dunder nm) = some fo ∧ findIn K (.type n) (dunderR nm) = some ro ∧ subIn K (.type n) (.ref C) = some false
def rBinG (K : PySem.W.Frag) (C : Addr) (sp : Sp) (E : XK) : R2 := fun x y H Q => ∃ p dx fs, x = .ref p ∧ H p = some (.ins C dx fs) ∧ ((∃ q dy gs, y = .ref q ∧ H q = some (.ins C dy gs)) ∨ ∃ n ∈ kinds7, TyX K H y (.type n)) ∧ sp [x, y] H Q E
theorem pe_binLX (D : BinF X.K C fA fR op.info.2) (G : BinG X.K C op.info.2) (FA : FnOk X.prog X.w X.K X.mg X.base CX k fA fdA pA spA) (bA : Binds X.K fdA pA []) (hr : Room k X.A) (hx : ∀ σ, PassesAt CX X σ (E σ)) (ha : PE X a ta) (hb : PE X b tb) :
    PE X (.BinOp a op b pos) (tOpSD (rBinG X.K C spA) E ta tb) := by
  refine ⟨fun pins s σ H Q I h => ?_⟩
  refine wpAny_BinOp (binT ha hb I (show tOp (fun x y H Q => rBinG X.K C spA (E σ) x y H Q) ta tb σ H Q from h) fun v u s2 x y H2 I2 rx ry q => ?_)
  obtain ⟨p, dx, fs, rfl, hp, ho, hsp⟩ := q
  cases rx
  have call : wpAny (model X.prog X.w) X.A (call (.ref fA) [.ref p, u]) (PySem.W.CmpBack (EP X pins σ Q)) X.xe s2 := by
    refine wpAny_mono (run_fnSD (us := [.ref p, u]) (vs := [.ref p, y]) (dvs := []) FA hr bA .nil (hx σ) I2 (.cons rfl (.cons ry .nil)) hsp) (fun r s' z => ?_) fun _ _ z => z
    obtain ⟨v', H', I', rv, qq⟩ := z
    exact SlX.cmpback rv ⟨v', H', I', rv, qq⟩
  obtain ⟨_, J, _⟩ := ins_get I2.hok hp
  obtain ⟨od, J, _⟩ := J.look
  rcases ho with ⟨q, dy, gs, rfl, hq⟩ | ⟨n, hn, ty⟩
  · cases ry
    obtain ⟨_, J', _⟩ := ins_get I2.hok hq
    obtain ⟨od', J', _⟩ := J'.look
    exact bin_same (op := op) I2.kIn J J' D.sf D.a D.ia call
  · obtain ⟨P, Z, hP, _⟩ := kit_of I2 ry ty
    obtain ⟨fo, ro, h1, h2, h3⟩ := G n hn
    have fT := PySem.W.ksp_fillsT (M := model X.prog X.w) I2.kIn h1 h2
    cases hb : ((fo.isSome && !isSeqSlot fo) || (ro.isSome && !isSeqSlot ro)) with
    | false =>
      rw [hb] at fT
      exact bin_left (op := op) I2.kIn J (Z.ty _ _ I2.kIn hP) ne_rt D.sf D.a D.ia fT call
    | true =>
      rw [hb] at fT
      exact bin_leftT (op := op) I2.kIn J (Z.ty _ _ I2.kIn hP) D.sf D.a D.ia D.r h2 h3 fT call
def PIpS (X : Cx) (op : Operator) (t : L2.St → TIp) : Prop :=
  ∀ (pins : List (Addr × Obj)) (s : Shared) (σ : L2.St) (H : Hp) (x y : V) (v u : Value) (Q : VK), Inv X pins σ H s → RelV x v → RelV y u → t σ x y H Q → wpAny (model X.prog X.w) X.A (inplaceOp op v u) (EP X pins σ Q) X.xe s
theorem in_opOX (hc : selfFirst X.K C = true) (hs : findIn X.K (.ref C) (dunderI op.info.2) = some (some (.ref fA))) (hf : isFn X.K (.ref fA) = true) (FA : FnOk X.prog X.w X.K X.mg X.base CX k fA fdA pA spA) (bA : Binds X.K fdA pA []) (hr : Room k X.A) (hx : ∀ σ, PassesAt CX X σ (E σ)) : PIpS X op (fun σ => rIopO C spA (E σ)) := by
  intro pins s σ H x y v u Q I rx ry h
  obtain ⟨p, dx, fs, rfl, hp, hsp⟩ := h
  cases rx
  obtain ⟨_, J, _⟩ := ins_get I.hok hp
  obtain ⟨od, J, _⟩ := J.look
  obtain ⟨m, hF⟩ := I.fr
  refine PySem.W.ksp_inplace hF I.ok.mod.kin J hc hs hf ?_
  refine wpAny_mono (run_fnSD (us := [.ref p, u]) (vs := [.ref p, y]) (dvs := []) FA hr bA .nil (hx σ) I (.cons rfl (.cons ry .nil)) hsp) (fun r s' z => ?_) fun _ _ z => z
  obtain ⟨v', H', I', rv, qq⟩ := z
  exact SlX.cmpback rv ⟨v', H', I', rv, qq⟩
/-- name op= e -/
def tAugX (i : Nat) (te : TE) (ti : L2.St → TIp) : TS := fun D σ H => ∃ x, σ[i]? = some (some x) ∧ te σ H fun y H1 => ti σ x y H1 fun z H2 => D.nx (σ.set i (some z)) H2
theorem ps_augX {i : Nat} {x : Str} {e : Expr} {te : TE} {ti : L2.St → TIp} {pos' : Pos} (hN : X.N.Nodup) (hi : X.N[i]? = some x) (hx : Loc X.env.scope x) (he : PE X e te) (ho : PIpS X op ti) (hf : X.fn x = true ∨ X.env.scope.names.lookup x = some .local := by first | exact .inl rfl | exact .inr rfl | assumption) :
    PS X (.AugAssign (.Name x pos') op e pos) (tAugX i te ti) := by
  refine ⟨fun pins s σ H D I h => ?_⟩
  obtain ⟨v, e1, h⟩ := h
  obtain ⟨m, hn, hl⟩ := I.loc
  have vis : Vis X.env.scope x := by rcases hx with k | k; exact .inl k; exact .inr (.inl k)
  obtain ⟨u, r, l⟩ := hl i x v hi e1 vis
  refine wpAny_AugAssign_Name ?_
  have go : wpAny (model X.prog X.w) X.A (eval e X.env) (fun w s₂ => wpAny (model X.prog X.w) X.A (inplaceOp op u w) (fun r s₃ => wpAny (model X.prog X.w) X.A (storeName X.env x r) (fun _ => SP X pins D .next) X.xe s₃) X.xe s₂) X.xe s := by
    refine thn (he.run pins s σ H _ I h) fun w s1 ⟨y, H1, I1, r1, q1⟩ => ?_
    refine thn (ho pins s1 σ H1 v y u w _ I1 r r1 q1) fun z s2 ⟨zv, H2, I2, r2, q2⟩ => ?_
    exact store_ok I2 hN hi hx r2 (fun s3 I3 => ⟨_, H2, I3, q2⟩) hf
  rcases l with ⟨hk, hm⟩ | ⟨hk, c, hc, hcell⟩
  · exact wpAny_loadName_local I.ok.kind hk hn hm go
  · rcases hk with hk | hk
    · exact wpAny_loadName_cell I.ok.kind hk hc hcell go
    · rcases hx with k | k
      · have : X.env.scope.names.lookup x = some .free := hk
        rw [k] at this; cases this
      · have : X.env.scope.names.lookup x = some .free := hk
        rw [k] at this; cases this
end
end VO
namespace KX
open PySem PySem.Spec PyProof.Rows L2 UL
local macro_rules | `(tactic| walk_at "u") => `(tactic| repeat (first | ((with_reducible refine' wVar_of ?ke ?_); (case ke => rfl)) | with_reducible refine' wC_of ?_ | with_reducible refine' wB_of ?_ | with_reducible refine' wAnd_of ?_ | with_reducible refine' wOr_of ?_ | with_reducible refine' wNot_of ?_ | with_reducible refine' w2_of ?_ | with_reducible refine' w1_of ?_ | with_reducible refine' wCons_of ?_ | with_reducible refine' wNil_of ?_ | ((with_reducible refine' kIxT_of ?ke ?_); (case ke => rfl)) | with_reducible refine' wSeq_of ?_ | with_reducible refine' wSet_of ?_ | ((with_reducible refine' wSetF_of ?ke ?_); (case ke => rfl)) | ((with_reducible refine' wRetO_of ?ke ?_); (case ke => rfl)) | ((with_reducible refine' wSetNew_of ?hs ?_); (case hs => rfl)) | ((with_reducible refine' wPutN_of ?he ?_); (case he => rfl)) | ((with_reducible refine' wPutI_of ?he ?_); (case he => rfl)) | ((with_reducible refine' wApp_of ?ke ?_); (case ke => rfl)) | with_reducible refine' wRet_of ?_ | with_reducible refine' wRetF_of ?_ | with_reducible refine' wIfS_of ?_ | with_reducible refine' wForS_of ?_ | with_reducible refine' wItemsL_of ?_ | with_reducible refine' wItemsT_of ?_ | with_reducible refine' wLc_of ?_ | with_reducible refine' wAndV_of ?_ | with_reducible refine' wOrV_of ?_ | with_reducible refine' wNotV_of ?_ | with_reducible refine' wIf_of ?_ | with_reducible refine' wGet2_of ?_ | with_reducible refine' wChain_of ?_ | with_reducible refine' wExpr_of ?_ | with_reducible refine' kLenL_of ?_ | with_reducible refine' kLenT_of ?_ | ((with_reducible refine' kFld_of ?ke ?_); (case ke => rfl)) | with_reducible refine' wLc2_of ?_ | with_reducible refine' wNext_of ?_ | ((with_reducible refine' kZip2_of ?k1 ?k2 ?_); (case k1 => rfl); (case k2 => rfl)) | ((with_reducible refine' kZip3_of ?k1 ?k2 ?k3 ?_); (case k1 => rfl); (case k2 => rfl); (case k3 => rfl)) | with_reducible refine' kEnumT_of ?_ | with_reducible refine' wPart_of ?_ | with_reducible refine' wNoPart_of ?_ | with_reducible refine' kTupOfL_of ?_ | with_reducible refine' wEndP_of ?_ | ((with_reducible refine' wNewP_of ?ke ?_); (case ke => rfl)) | with_reducible refine' kI_of ?_ | ((with_reducible refine' wRev_of ?ke ?_); (case ke => rfl)) | with_reducible refine' kNeI_of ?_ | with_reducible refine' kEqI_of ?_ | with_reducible refine' kNeS_of ?_ | with_reducible refine' kEqS_of ?_ | with_reducible refine' wDropX_of ?_ | with_reducible refine' wSetX_of ?_ | with_reducible refine' wRetX_of ?_ | with_reducible refine' wRaise_of ?_ | with_reducible refine' wTry_of ?_ | with_reducible refine' wSlT_of ?_ | with_reducible refine' wSlQ_of ?_ | with_reducible refine' kNeg_of ?_ | with_reducible refine' kLenQ_of ?_ | with_reducible refine' kLstT_of ?_ | with_reducible refine' kLstL_of ?_ | ((with_reducible refine' wSetNewK_of ?hs ?_); (case hs => rfl)) | ((with_reducible refine' wPutK_of ?he ?_); (case he => rfl)) | ((with_reducible refine' wIns_of ?he ?_); (case he => rfl)) | ((with_reducible refine' wPop_of ?he ?_); (case he => rfl))))
section
variable {P : Program} {w : World} {K : PySem.W.Frag} {mg : Str → Option Value} {base : Heap} {TT : List NdefX.NTab} {CD CW : Addr} {H H' : Hp}

/-! ### in place, refused; _law_change -/
def spDIopB (K : PySem.W.Frag) (CD CW : Addr) : Sp := fun vs H _ E => ∃ (v u : V) (as : List Str) (x : Dt) (ok : Addr → Prop), vs = [v, u] ∧ DdsAt CD H v as ∧ as.length < 64 ∧ (∃ n ∈ VO.kinds7, TyX K H u (.type n)) ∧ BadV K CD ok H u x ∧ Told K CW ok H x E
theorem ok_diorB {f fA fX : Addr} {fd fdA : FuncData} (F : Fun K "__ior__" "Deeds.__ior__" s_Deeds_ior f fd) (DB : VO.BinF K CD fA fX "or") (DG : VO.BinG K CD "or") (bA : Binds K fdA ["self", "other"] []) (GA : FnOk P w K mg base (L2.CX P w) 6 fA fdA ["self", "other"] (spDBinB K CD CW)) : FnOk P w K mg base (L2.CX P w) 7 f fd ["self", "other"] (spDIopB K CD CW) := by
  refine F.okX sc_diorH (fun vs H Q E h => ?_) (fun cdv A outer s H vs Q E hr h => ?_)
  · obtain ⟨v, u, as, x, ok, rfl, _⟩ := h
    rfl
  · obtain ⟨v, u, as, x, ok, rfl, hX, la, ty, hb, q⟩ := h
    have tk : Takes (cxOf (L2.CX P w) P w K mg base ["self", "other", "result"] "Deeds.__ior__" (defScope s_Deeds_ior) f cdv A outer s H E) (fun cls d _ H' => E cls d H') := takes_of rfl rfl rfl rfl
    refine ⟨_, pss_cons (ps_set (i := 2) sc_diorH.nd rfl (.inl rfl) (VO.pe_binLX (op := .BitOr) DB DG GA bA (hr.mono (by decide)) (passAt tk) (pv 0) (pv 1))) pss_dead, ?_⟩
    obtain ⟨p, dx, fs, d, rfl, hp, f1, f2, hd, nd⟩ := id hX
    exact ⟨_, rfl, _, rfl, p, dx, _, rfl, hp, .inr ty, _, u, as, x, ok, rfl, hX, la, hb, q⟩
theorem ok_diandB {f fA fX : Addr} {fd fdA : FuncData} (F : Fun K "__iand__" "Deeds.__iand__" s_Deeds_iand f fd) (DB : VO.BinF K CD fA fX "and") (DG : VO.BinG K CD "and") (bA : Binds K fdA ["self", "other"] []) (GA : FnOk P w K mg base (L2.CX P w) 6 fA fdA ["self", "other"] (spDBinB K CD CW)) : FnOk P w K mg base (L2.CX P w) 7 f fd ["self", "other"] (spDIopB K CD CW) := by
  refine F.okX sc_diandH (fun vs H Q E h => ?_) (fun cdv A outer s H vs Q E hr h => ?_)
  · obtain ⟨v, u, as, x, ok, rfl, _⟩ := h
    rfl
  · obtain ⟨v, u, as, x, ok, rfl, hX, la, ty, hb, q⟩ := h
    have tk : Takes (cxOf (L2.CX P w) P w K mg base ["self", "other", "result"] "Deeds.__iand__" (defScope s_Deeds_iand) f cdv A outer s H E) (fun cls d _ H' => E cls d H') := takes_of rfl rfl rfl rfl
    refine ⟨_, pss_cons (ps_set (i := 2) sc_diandH.nd rfl (.inl rfl) (VO.pe_binLX (op := .BitAnd) DB DG GA bA (hr.mono (by decide)) (passAt tk) (pv 0) (pv 1))) pss_dead, ?_⟩
    obtain ⟨p, dx, fs, d, rfl, hp, f1, f2, hd, nd⟩ := id hX
    exact ⟨_, rfl, _, rfl, p, dx, _, rfl, hp, .inr ty, _, u, as, x, ok, rfl, hX, la, hb, q⟩
theorem ok_disubB {f fA fX : Addr} {fd fdA : FuncData} (F : Fun K "__isub__" "Deeds.__isub__" s_Deeds_isub f fd) (DB : VO.BinF K CD fA fX "sub") (DG : VO.BinG K CD "sub") (bA : Binds K fdA ["self", "other"] []) (GA : FnOk P w K mg base (L2.CX P w) 6 fA fdA ["self", "other"] (spDBinB K CD CW)) : FnOk P w K mg base (L2.CX P w) 7 f fd ["self", "other"] (spDIopB K CD CW) := by
  refine F.okX sc_disubH (fun vs H Q E h => ?_) (fun cdv A outer s H vs Q E hr h => ?_)
  · obtain ⟨v, u, as, x, ok, rfl, _⟩ := h
    rfl
  · obtain ⟨v, u, as, x, ok, rfl, hX, la, ty, hb, q⟩ := h
    have tk : Takes (cxOf (L2.CX P w) P w K mg base ["self", "other", "result"] "Deeds.__isub__" (defScope s_Deeds_isub) f cdv A outer s H E) (fun cls d _ H' => E cls d H') := takes_of rfl rfl rfl rfl
    refine ⟨_, pss_cons (ps_set (i := 2) sc_disubH.nd rfl (.inl rfl) (VO.pe_binLX (op := .Sub) DB DG GA bA (hr.mono (by decide)) (passAt tk) (pv 0) (pv 1))) pss_dead, ?_⟩
    obtain ⟨p, dx, fs, d, rfl, hp, f1, f2, hd, nd⟩ := id hX
    exact ⟨_, rfl, _, rfl, p, dx, _, rfl, hp, .inr ty, _, u, as, x, ok, rfl, hX, la, hb, q⟩

def dueG (t : Int) (a b : Prop) : Prop := if t = 0 then a ∨ b else if t = 1 then a ∧ b else a ∧ ¬b
structure DdI3 (K : PySem.W.Frag) (CD iA iN iS : Addr) (siA siN siS : FuncData) : Prop where
  sf : PySem.W.selfFirst K CD = true
  iorF : Fun K "__ior__" "Deeds.__ior__" s_Deeds_ior iA siA
  iorB : Binds K siA ["self", "other"] []
  ior : Meth K CD "__ior__" iA
  iandF : Fun K "__iand__" "Deeds.__iand__" s_Deeds_iand iN siN
  iandB : Binds K siN ["self", "other"] []
  iand : Meth K CD "__iand__" iN
  isubF : Fun K "__isub__" "Deeds.__isub__" s_Deeds_isub iS siS
  isubB : Binds K siS ["self", "other"] []
  isub : Meth K CD "__isub__" iS
theorem sc_chg : FnScope ["_law_deeds", "_law_turn", "_law_other"] ["_law_deeds", "_law_turn", "_law_other"] (defScope s_law_change) := ⟨rfl, rfl, rfl, by decide +kernel, rfl, by decide +kernel, by decide +kernel⟩
def spChg (K : PySem.W.Frag) (CD : Addr) : Sp := fun vs H Q _ => ∃ (p : Addr) (t : Int) (u : V) (as : List Str) (S : List Str → Prop), vs = [.ref p, .int t, u] ∧ DdsX CD H p as ∧ as.length < 64 ∧ (∀ z ∈ as, NameOk z) ∧ TellD K CD H u S ∧ GoodS S ∧
  ∀ (zs ys : List Str) (H' : Hp), S ys → SameX p H H' → DdsF CD H H' p zs → (∀ z, z ∈ zs ↔ dueG t (z ∈ as) (z ∈ ys)) → Q (.ref p) H'
theorem di_ {t i : Int} : decide (V.int t = V.int i) = decide (t = i) := by rw [Bool.eq_iff_iff, decide_eq_true_eq, decide_eq_true_eq]; exact ⟨fun e => V.int.inj e, fun e => e ▸ rfl⟩
theorem ok_chg {f : Addr} {fd : FuncData} {iA iN iS : Addr} {siA siN siS : FuncData} (F : Fun K "_law_change" "_law_change" s_law_change f fd) (I : DdI3 K CD iA iN iS siA siN siS) (G1 : FnOk P w K mg base CX0 6 iA siA ["self", "other"] (spDIop K CD Or)) (G2 : FnOk P w K mg base CX0 6 iN siN ["self", "other"] (spDIop K CD andG)) (G3 : FnOk P w K mg base CX0 6 iS siS ["self", "other"] (spDIop K CD subG)) : FnOk P w K mg base CX0 7 f fd ["_law_deeds", "_law_turn", "_law_other"] (spChg K CD) := by
  refine F.ok sc_chg (fun vs H Q E h => ?_) (fun cdv A outer s H vs Q E hr h => ?_)
  · obtain ⟨p, t, u, as, S, rfl, _⟩ := h
    rfl
  · obtain ⟨p, t, u, as, S, rfl, hX, la, ka, hT, gS, q⟩ := h
    refine ⟨_, pss_cons (ps_if (pt_cmpR op_eq (pv 1) pe_int (nomark _)) (pss_one (ps_aug (i := 0) sc_chg.nd rfl (.inl rfl) (pv 2) (VO.in_opO (op := .BitOr) (E := L2.E0) I.sf I.ior.at_ I.ior.fn G1 I.iorB (hr.mono (by decide)) pass0)))
      (pss_one (ps_if (pt_cmpR op_eq (pv 1) pe_int (nomark _)) (pss_one (ps_aug (i := 0) sc_chg.nd rfl (.inl rfl) (pv 2) (VO.in_opO (op := .BitAnd) (E := L2.E0) I.sf I.iand.at_ I.iand.fn G2 I.iandB (hr.mono (by decide)) pass0)))
        (pss_one (ps_aug (i := 0) sc_chg.nd rfl (.inl rfl) (pv 2) (VO.in_opO (op := .Sub) (E := L2.E0) I.sf I.isub.at_ I.isub.fn G3 I.isubB (hr.mono (by decide)) pass0))))))
      (pss_one (ps_ret (pv 0))), ?_⟩
    obtain ⟨dx, d, hp, hd, nd⟩ := id hX
    refine ⟨_, rfl, rfl, _, rfl, ?_⟩
    rw [di_]
    by_cases h0 : t = 0
    · rw [decide_eq_true h0]
      refine iteT ?_
      refine ⟨_, rfl, _, rfl, p, dx, _, rfl, hp, p, u, as, S, rfl, hX, la, ka, hT, gS, fun zs ys H' hs sx hF hm => ⟨_, rfl, q zs ys H' hs sx hF fun z => ?_⟩⟩
      rw [hm z]; unfold dueG; rw [if_pos h0]
    · rw [decide_eq_false h0]
      refine iteF ?_
      refine ⟨_, rfl, rfl, _, rfl, ?_⟩
      rw [di_]
      by_cases h1 : t = 1
      · rw [decide_eq_true h1]
        refine iteT ?_
        refine ⟨_, rfl, _, rfl, p, dx, _, rfl, hp, p, u, as, S, rfl, hX, la, ka, hT, gS, fun zs ys H' hs sx hF hm => ⟨_, rfl, q zs ys H' hs sx hF fun z => ?_⟩⟩
        rw [hm z]; unfold dueG; rw [if_neg h0, if_pos h1]; exact Iff.rfl
      · rw [decide_eq_false h1]
        refine iteF ?_
        refine ⟨_, rfl, _, rfl, p, dx, _, rfl, hp, p, u, as, S, rfl, hX, la, ka, hT, gS, fun zs ys H' hs sx hF hm => ⟨_, rfl, q zs ys H' hs sx hF fun z => ?_⟩⟩
        rw [hm z]; unfold dueG; rw [if_neg h0, if_neg h1]; exact Iff.rfl
/-- refused, over data -/
def wChgB (K : PySem.W.Frag) (CD CW : Addr) : List Dt → (Dt → Prop) → (Xn → Prop) → Prop := fun ds _ PX => ∃ (as : List Str) (t : Int) (d x : Dt), ds = [dDd CD as, .int t, d] ∧ as.Nodup ∧ as.length < 64 ∧ (∃ n ∈ VO.kinds7, HasTy K d (.type n)) ∧ BadTl K CD d x ∧ PX ⟨CW, "value", x⟩
theorem ok_chgB {f : Addr} {fd : FuncData} {iA iN iS : Addr} {siA siN siS : FuncData} (F : Fun K "_law_change" "_law_change" s_law_change f fd) (I : DdI3 K CD iA iN iS siA siN siS) (G1 : FnOk P w K mg base (L2.CX P w) 7 iA siA ["self", "other"] (spDIopB K CD CW)) (G2 : FnOk P w K mg base (L2.CX P w) 7 iN siN ["self", "other"] (spDIopB K CD CW)) (G3 : FnOk P w K mg base (L2.CX P w) 7 iS siS ["self", "other"] (spDIopB K CD CW)) : FnOk P w K mg base (L2.CX P w) 8 f fd ["_law_deeds", "_law_turn", "_law_other"] (spX K [] (wChgB K CD CW)) := by
  refine F.okX sc_chg (fun vs H Q E h => ?_) (fun cdv A outer s H vs Q E hr h => ?_)
  · obtain ⟨ok, ds, P, PX, _, r, ⟨as, t, d, x, rfl, _⟩, _⟩ := h
    exact r.len
  · obtain ⟨ok, ds, Pp, PX, _, r, ⟨as, t, d, x, rfl, nd, la, ⟨n, hn, ty⟩, hb, px⟩, _, qx⟩ := h
    cases r with
    | @cons _ _ v0 _ r0 rr =>
    cases rr with
    | @cons _ _ v1 _ r1 rr =>
    cases rr with
    | @cons _ _ v2 _ r2 rr =>
    cases rr
    cases r1
    have tk : Takes (cxOf (L2.CX P w) P w K mg base ["_law_deeds", "_law_turn", "_law_other"] "_law_change" (defScope s_law_change) f cdv A outer s H E) (fun cls d _ H' => E cls d H') := takes_of rfl rfl rfl rfl
    have hv := dds_of nd r0
    have tyv : ∃ n ∈ VO.kinds7, TyX K H v2 (.type n) := ⟨n, hn, RB.tyG (C := ct0 [] H ok) (r2.okm (ok' := (ct0 [] H ok).ok) fun a _ z => ⟨.inl ⟨z, fun h => h⟩, fun i h => h.elim (fun h => nomatch h) fun h => nomatch h⟩).b ty⟩
    have hT : Told K CW ok H x E := fun cls dd H' k xr => qx _ _ _ _ px ⟨k, fun _ _ h => nomatch h⟩ xr
    refine ⟨_, pss_cons (ps_if (pt_cmpR op_eq (pv 1) pe_int (nomark _)) (pss_one (VO.ps_augX (i := 0) sc_chg.nd rfl (.inl rfl) (pv 2) (VO.in_opOX (op := .BitOr) I.sf I.ior.at_ I.ior.fn G1 I.iorB (hr.mono (by decide)) (passAt tk))))
      (pss_one (ps_if (pt_cmpR op_eq (pv 1) pe_int (nomark _)) (pss_one (VO.ps_augX (i := 0) sc_chg.nd rfl (.inl rfl) (pv 2) (VO.in_opOX (op := .BitAnd) I.sf I.iand.at_ I.iand.fn G2 I.iandB (hr.mono (by decide)) (passAt tk))))
        (pss_one (VO.ps_augX (i := 0) sc_chg.nd rfl (.inl rfl) (pv 2) (VO.in_opOX (op := .Sub) I.sf I.isub.at_ I.isub.fn G3 I.isubB (hr.mono (by decide)) (passAt tk)))))))
      pss_dead, ?_⟩
    obtain ⟨p, dx, fs, d', rfl, hp, f1, f2, hd, _⟩ := id hv
    refine ⟨_, rfl, rfl, _, rfl, ?_⟩
    rw [di_]
    by_cases h0 : t = 0
    · rw [decide_eq_true h0]
      refine iteT ?_
      exact ⟨_, rfl, _, rfl, p, dx, _, rfl, hp, _, _, as, x, ok, rfl, hv, la, tyv, ⟨d, r2, hb⟩, hT⟩
    · rw [decide_eq_false h0]
      refine iteF ?_
      refine ⟨_, rfl, rfl, _, rfl, ?_⟩
      rw [di_]
      by_cases h1 : t = 1
      · rw [decide_eq_true h1]
        refine iteT ?_
        exact ⟨_, rfl, _, rfl, p, dx, _, rfl, hp, _, _, as, x, ok, rfl, hv, la, tyv, ⟨d, r2, hb⟩, hT⟩
      · rw [decide_eq_false h1]
        refine iteF ?_
        exact ⟨_, rfl, _, rfl, p, dx, _, rfl, hp, _, _, as, x, ok, rfl, hv, la, tyv, ⟨d, r2, hb⟩, hT⟩
end
end KX
namespace KX
open PySem PySem.Spec PyProof.Rows L2 UL
local macro_rules | `(tactic| walk_at "u") => `(tactic| repeat (first | ((with_reducible refine' wVar_of ?ke ?_); (case ke => rfl)) | with_reducible refine' wC_of ?_ | with_reducible refine' wB_of ?_ | with_reducible refine' wAnd_of ?_ | with_reducible refine' wOr_of ?_ | with_reducible refine' wNot_of ?_ | with_reducible refine' w2_of ?_ | with_reducible refine' w1_of ?_ | with_reducible refine' wCons_of ?_ | with_reducible refine' wNil_of ?_ | ((with_reducible refine' kIxT_of ?ke ?_); (case ke => rfl)) | with_reducible refine' wSeq_of ?_ | with_reducible refine' wSet_of ?_ | ((with_reducible refine' wSetF_of ?ke ?_); (case ke => rfl)) | ((with_reducible refine' wRetO_of ?ke ?_); (case ke => rfl)) | ((with_reducible refine' wSetNew_of ?hs ?_); (case hs => rfl)) | ((with_reducible refine' wPutN_of ?he ?_); (case he => rfl)) | ((with_reducible refine' wPutI_of ?he ?_); (case he => rfl)) | ((with_reducible refine' wApp_of ?ke ?_); (case ke => rfl)) | with_reducible refine' wRet_of ?_ | with_reducible refine' wRetF_of ?_ | with_reducible refine' wIfS_of ?_ | with_reducible refine' wForS_of ?_ | with_reducible refine' wItemsL_of ?_ | with_reducible refine' wItemsT_of ?_ | with_reducible refine' wLc_of ?_ | with_reducible refine' wAndV_of ?_ | with_reducible refine' wOrV_of ?_ | with_reducible refine' wNotV_of ?_ | with_reducible refine' wIf_of ?_ | with_reducible refine' wGet2_of ?_ | with_reducible refine' wChain_of ?_ | with_reducible refine' wExpr_of ?_ | with_reducible refine' kLenL_of ?_ | with_reducible refine' kLenT_of ?_ | ((with_reducible refine' kFld_of ?ke ?_); (case ke => rfl)) | with_reducible refine' wLc2_of ?_ | with_reducible refine' wNext_of ?_ | ((with_reducible refine' kZip2_of ?k1 ?k2 ?_); (case k1 => rfl); (case k2 => rfl)) | ((with_reducible refine' kZip3_of ?k1 ?k2 ?k3 ?_); (case k1 => rfl); (case k2 => rfl); (case k3 => rfl)) | with_reducible refine' kEnumT_of ?_ | with_reducible refine' wPart_of ?_ | with_reducible refine' wNoPart_of ?_ | with_reducible refine' kTupOfL_of ?_ | with_reducible refine' wEndP_of ?_ | ((with_reducible refine' wNewP_of ?ke ?_); (case ke => rfl)) | with_reducible refine' kI_of ?_ | ((with_reducible refine' wRev_of ?ke ?_); (case ke => rfl)) | with_reducible refine' kNeI_of ?_ | with_reducible refine' kEqI_of ?_ | with_reducible refine' kNeS_of ?_ | with_reducible refine' kEqS_of ?_ | with_reducible refine' wDropX_of ?_ | with_reducible refine' wSetX_of ?_ | with_reducible refine' wRetX_of ?_ | with_reducible refine' wRaise_of ?_ | with_reducible refine' wTry_of ?_ | with_reducible refine' wSlT_of ?_ | with_reducible refine' wSlQ_of ?_ | with_reducible refine' kNeg_of ?_ | with_reducible refine' kLenQ_of ?_ | with_reducible refine' kLstT_of ?_ | with_reducible refine' kLstL_of ?_ | ((with_reducible refine' wSetNewK_of ?hs ?_); (case hs => rfl)) | ((with_reducible refine' wPutK_of ?he ?_); (case he => rfl)) | ((with_reducible refine' wIns_of ?he ?_); (case he => rfl)) | ((with_reducible refine' wPop_of ?he ?_); (case he => rfl))))
section
variable {P : Program} {w : World} {K : PySem.W.Frag} {mg : Str → Option Value} {base : Heap} {TT : List NdefX.NTab} {CD CW : Addr} {H H' : Hp}
theorem sex_tag {T : List NdefX.NTab} {S : Sl} {m : Bool} {W : WX} {te : TE} {t : WEX} {tag : Str} (h : SEX K T W S m te t) : SEX K T W S m (tTup (tCons (tC (.str tag)) (tCons te tNil))) (fun ρ P PX => t ρ (fun d => P (.tup [.str tag, d])) PX) := fun C ρ P PX σ H Q hC ht E q qx => by
  refine h C ρ _ _ σ H _ hC ht E (fun d v H1 h1 g1 r1 => ?_) qx
  refine ⟨by show 2 ≤ sizeLine; rw [sizeLine_eq]; decide, fun p hp => ?_⟩
  exact q _ _ _ h1 (gr_and g1 (same_up hp)) (R.newT hp (.cons (.str _) (.cons r1 .nil)))

/-! ### _law_tried -/
def wTriB (K : PySem.W.Frag) (CD CW : Addr) : List Dt → (Dt → Prop) → Prop := fun ds P => ∃ (as : List Str) (t : Int) (d x : Dt), ds = [dDd CD as, .int t, d] ∧ as.Nodup ∧ as.length < 64 ∧ (∃ n ∈ VO.kinds7, HasTy K d (.type n)) ∧ BadTl K CD d x ∧ P (.tup [.str "bad", x])
theorem sc_triB : FnScope ["_law_deeds", "_law_turn", "_law_other", "_law_told", "e"] ["_law_deeds", "_law_turn", "_law_other"] (defScope s_law_tried) := ⟨rfl, rfl, rfl, by decide +kernel, rfl, by decide +kernel, by decide +kernel⟩
theorem ok_triB {f fC fW : Addr} {fd fdC fdW : FuncData} (F : Fun K "_law_tried" "_law_tried" s_law_tried f fd) (DC : Cal K mg "_law_change" s_law_change ["_law_deeds", "_law_turn", "_law_other"] fC fdC) (DW : ExcD P w K mg base "BadWords" "value" CW fW fdW) (XT : PySem.W.exmOne K (.ref CW) (.ref CW) = some true) (GC : FnOk P w K mg base (L2.CX P w) 8 fC fdC ["_law_deeds", "_law_turn", "_law_other"] (spX K [] (wChgB K CD CW))) : FnOk P w K mg base CX0 9 f fd ["_law_deeds", "_law_turn", "_law_other"] (spU K [] (wTriB K CD CW)) := by
  refine fn_u F sc_triB (by decide) (fun ds Q ⟨_, _, _, _, e, _⟩ => by rw [e]; rfl) fun cdv A outer s H E hr => ?_
  refine ⟨_, _, ([], []), ([], []), (pss_cons (ps_set (i := 3) sc_triB.nd rfl (.inl rfl) (pe_tup pa_nil))
      (pss_cons (ps_tryB rfl rfl sc_triB.nd takes_none5 (fun W pn xe tk1 po1 => (pss_one (ps_set (i := 3) sc_triB.nd rfl (.inl rfl) (pe_tup (pa_cons pe_str (pa_cons (pe_callSD GC (hr.mono (by decide)) (by rfl) DC.g DC.F.kp DC.b .nil (passAt tk1) (pa_cons (pv 0) (pa_cons (pv 1) (pa_cons (pv 2) pa_nil)))) pa_nil))))))
      (.as (i := 4) rfl rfl ⟨rfl, by decide, .inl DW.m⟩ (fun a oe cls d pn hz hf => pss_one (ps_set (i := 3) sc_triB.nd rfl (.inl rfl) (pe_tup (pa_cons pe_str (pa_cons (pe_xf DW.xf DW.hno hz hf (pv 4)) pa_nil))))) .nil))
      (pss_one (ps_ret (pv 3))))), (ss_seq (ss_cast (S' := ([], [])) (ss_set 3 (se_tup sa_nil)))
      (ss_seq (ss_tryB (fun W => (ss_cast (S' := ([], [])) (ss_setX 3 (sex_tag (sex_call (sa_cons (se_var 0) (sa_cons (se_var 1) (sa_cons (se_var 2) sa_nil))))) (fun _ h => (Option.some.inj h).symm))))
      (.as (sh_tag (CC := CW) (f := "value") (tag := "bad") (i := 4) (j := 3)) .nil))
      (ss_ret (se_var 3)))), ?_⟩
  rintro ds P ⟨as, t, d, x, rfl, nd, la, hn, hb, q⟩
  walk_at "u"
  refine ⟨by decide, ?_⟩
  walk_at "u"
  refine ⟨as, t, d, x, rfl, nd, la, hn, hb, ?_⟩
  refine ⟨true, XT, ?_⟩
  refine iteT ⟨rfl, rfl, by show 4 < 5; decide, ?_⟩
  walk_at "u"
  exact q

def spTri (K : PySem.W.Frag) (CD : Addr) : Sp := fun vs H Q _ => ∃ (p : Addr) (t : Int) (u : V) (as : List Str) (S : List Str → Prop), vs = [.ref p, .int t, u] ∧ DdsX CD H p as ∧ as.length < 64 ∧ (∀ z ∈ as, NameOk z) ∧ TellD K CD H u S ∧ GoodS S ∧
  ∀ (tp : Addr) (zs ys : List Str) (H' : Hp), S ys → H tp = none → H' tp = some (.tup [.str "done", .ref p]) → SameX p H H' → DdsF CD H H' p zs → (∀ z, z ∈ zs ↔ dueG t (z ∈ as) (z ∈ ys)) → Q (.ref tp) H'
theorem ok_triG {f fC fW : Addr} {fd fdC fdW : FuncData} (F : Fun K "_law_tried" "_law_tried" s_law_tried f fd) (DC : Cal K mg "_law_change" s_law_change ["_law_deeds", "_law_turn", "_law_other"] fC fdC) (DW : ExcD P w K mg base "BadWords" "value" CW fW fdW) (XT : PySem.W.exmOne K (.ref CW) (.ref CW) = some true) (GC : FnOk P w K mg base CX0 7 fC fdC ["_law_deeds", "_law_turn", "_law_other"] (spChg K CD)) : FnOk P w K mg base CX0 9 f fd ["_law_deeds", "_law_turn", "_law_other"] (spTri K CD) := by
  refine F.ok sc_triB (fun vs H Q E h => ?_) (fun cdv A outer s H vs Q E hr h => ?_)
  · obtain ⟨p, t, u, as, S, rfl, _⟩ := h
    rfl
  · obtain ⟨p, t, u, as, S, rfl, hX, la, ka, hT, gS, q⟩ := h
    refine ⟨_, (pss_cons (ps_set (i := 3) sc_triB.nd rfl (.inl rfl) (pe_tup pa_nil))
      (pss_cons (ps_tryB rfl rfl sc_triB.nd takes_none5 (fun W pn xe tk1 po1 => (pss_one (ps_set (i := 3) sc_triB.nd rfl (.inl rfl) (pe_tup (pa_cons pe_str (pa_cons (pe_call GC (hr.mono (by decide)) (by rfl) DC.g DC.F.kp DC.b .nil pass0 (pa_cons (pv 0) (pa_cons (pv 1) (pa_cons (pv 2) pa_nil)))) pa_nil))))))
      (.as (i := 4) rfl rfl ⟨rfl, by decide, .inl DW.m⟩ (fun a oe cls d pn hz hf => pss_one (ps_set (i := 3) sc_triB.nd rfl (.inl rfl) (pe_tup (pa_cons pe_str (pa_cons (pe_xf DW.xf DW.hno hz hf (pv 4)) pa_nil))))) .nil))
      (pss_one (ps_ret (pv 3))))), ?_⟩
    refine ⟨by decide, fun t0 ht0 => ?_⟩
    have k0 : Same H (upd H t0 (.tup [])) := same_new ht0
    refine ⟨_, rfl, _, rfl, _, rfl, ?_⟩
    refine tN ?_
    refine ⟨p, t, u, as, S, rfl, hX.same k0, la, ka, hT.same k0, gS, fun zs ys H1 hs sx hF hm => ?_⟩
    refine tN ?_
    refine ⟨by show 2 ≤ sizeLine; decide, fun tp htp => ?_⟩
    have k1 : Same H1 (upd H1 tp (.tup [.str "done", .ref p])) := same_new htp
    have sxt : SameX p H (upd H1 tp (.tup [.str "done", .ref p])) := ((SameX.of k0).trans sx).trans (SameX.of k1)
    obtain ⟨dy, d2, fn2, ey, ey2, nd2⟩ := id hF
    have np : tp ≠ p := fun z => by rw [z, ey] at htp; cases htp
    have fr : H tp = none := by
      cases e : H tp with
      | none => rfl
      | some o =>
        have := (((SameX.of k0).trans sx) tp o np e)
        rw [htp] at this
        cases this
    have hF2 : DdsF CD H (upd H1 tp (.tup [.str "done", .ref p])) p zs := ⟨dy, d2, k0.free fn2, k1 _ _ ey, k1 _ _ ey2, nd2⟩
    exact ⟨_, rfl, q tp zs ys _ hs fr upd_same sxt hF2 hm⟩
end
end KX
/-! UL: sorted(set(a list of tuples of ints)) -/
namespace UL
open PySem PySem.Spec PyProof.Rows L2
abbrev dTi (ns : List Int) : Dt := .tup (ns.map Dt.int)
section
variable {K : PySem.W.Frag} {T : List NdefX.NTab} {S : Sl} {m m' m1 m2 m3 s : Bool} {te ta tb : TE} {t u : WE} {C C' : Ct} {σ : L2.St} {H H' H1 : Hp} {ρ : Env} {ok : Addr → Prop}
def kSortU : Dt → (List Dt → Prop) → Prop
  | .lst ds, P => ∃ (ns U : List (List Int)) (d : Nat) (B : Int), ds = ns.map dTi ∧ 1 ≤ d ∧ (∀ n ∈ ns, n.length = d ∧ TS.Bd B n) ∧ (∀ n ∈ ns, n ∈ U) ∧ U.length + 1 < 64 ∧
      ∀ ms : List (List Int), ms.Nodup → (∀ n, n ∈ ms ↔ n ∈ ns) → ms.length < 64 → P (ms.map dTi)
  | _, _ => False
end
end UL
namespace KX
open PySem PySem.Spec PyProof.Rows L2 UL
/-! ### runs: their parts, their places -/
theorem walk_at {rs : Rws} {wl : List Str} {run : List Mov} {ps : List (List Int)} {x : List Int} (h : Walk rs wl run ps x) : ∀ {i : Nat} {m : Mov}, run[i]? = some m → ∃ y, ps[i]? = some y ∧ ps[i + 1]? = some (behD rs y m.2) ∧ m ∈ movesD rs wl y := by
  induction h with
  | start => intro i m e; simp at e
  | step hw hm ih =>
    rename_i run ps x m0
    intro i m e
    obtain ⟨_, lp⟩ := hw.len
    by_cases hi : i < run.length
    · rw [List.getElem?_append_left hi] at e
      obtain ⟨y, h1, h2, h3⟩ := ih e
      exact ⟨y, by rw [List.getElem?_append_left (by omega)]; exact h1, by rw [List.getElem?_append_left (by omega)]; exact h2, h3⟩
    · have hl := (List.getElem?_eq_some_iff.mp e).1
      rw [List.length_append, List.length_singleton] at hl
      have : i = run.length := by omega
      subst this
      rw [List.getElem?_append_right (Nat.le_refl _), Nat.sub_self] at e
      cases e
      obtain ⟨_, hlast, _⟩ := walk_mv hw
      refine ⟨x, ?_, ?_, hm⟩
      · rw [List.getElem?_append_left (by omega)]
        exact hlast
      · rw [← lp, List.getElem?_append_right (Nat.le_refl _), Nat.sub_self]
        rfl
theorem SySt.place {hs : List HD} {dl : List Int} {wl : List Str} {run : List Mov} {ps : List (List Int)} {x : List Int} (h : SySt hs dl wl) (hw : Walk (hs.map (·.r)) wl run ps x) : ∀ y ∈ ps, StOk hs y := (walk_st rfl (fun d hd => (h.hd d hd).2.2) hw).2
end KX
namespace KX
open PySem PySem.Spec PyProof.Rows L2 UL
local macro_rules | `(tactic| walk_at "u") => `(tactic| repeat (first | ((with_reducible refine' wVar_of ?ke ?_); (case ke => rfl)) | with_reducible refine' wC_of ?_ | with_reducible refine' wB_of ?_ | with_reducible refine' wAnd_of ?_ | with_reducible refine' wOr_of ?_ | with_reducible refine' wNot_of ?_ | with_reducible refine' w2_of ?_ | with_reducible refine' w1_of ?_ | with_reducible refine' wCons_of ?_ | with_reducible refine' wNil_of ?_ | ((with_reducible refine' kIxT_of ?ke ?_); (case ke => rfl)) | with_reducible refine' wSeq_of ?_ | with_reducible refine' wSet_of ?_ | ((with_reducible refine' wSetF_of ?ke ?_); (case ke => rfl)) | ((with_reducible refine' wRetO_of ?ke ?_); (case ke => rfl)) | ((with_reducible refine' wApp_of ?ke ?_); (case ke => rfl)) | with_reducible refine' wRet_of ?_ | with_reducible refine' wRetF_of ?_ | with_reducible refine' wIfS_of ?_ | with_reducible refine' wForS_of ?_ | with_reducible refine' wItemsL_of ?_ | with_reducible refine' wItemsT_of ?_ | with_reducible refine' wLc_of ?_ | with_reducible refine' wAndV_of ?_ | with_reducible refine' wOrV_of ?_ | with_reducible refine' wNotV_of ?_ | with_reducible refine' wIf_of ?_ | with_reducible refine' wGet2_of ?_ | with_reducible refine' wChain_of ?_ | with_reducible refine' wExpr_of ?_ | with_reducible refine' kLenL_of ?_ | with_reducible refine' kLenT_of ?_ | ((with_reducible refine' kFld_of ?ke ?_); (case ke => rfl)) | with_reducible refine' wLc2_of ?_ | with_reducible refine' wNext_of ?_ | ((with_reducible refine' kZip2_of ?k1 ?k2 ?_); (case k1 => rfl); (case k2 => rfl)) | ((with_reducible refine' kZip3_of ?k1 ?k2 ?k3 ?_); (case k1 => rfl); (case k2 => rfl); (case k3 => rfl)) | with_reducible refine' kEnumT_of ?_ | with_reducible refine' wPart_of ?_ | with_reducible refine' wNoPart_of ?_ | with_reducible refine' kTupOfL_of ?_ | with_reducible refine' wEndP_of ?_ | ((with_reducible refine' wNewP_of ?ke ?_); (case ke => rfl)) | with_reducible refine' kI_of ?_ | ((with_reducible refine' wRev_of ?ke ?_); (case ke => rfl)) | with_reducible refine' kNeI_of ?_ | with_reducible refine' kEqI_of ?_ | with_reducible refine' kNeS_of ?_ | with_reducible refine' kEqS_of ?_ | with_reducible refine' wDropX_of ?_ | with_reducible refine' wSetX_of ?_ | with_reducible refine' wRetX_of ?_ | with_reducible refine' wRaise_of ?_ | with_reducible refine' wTry_of ?_ | with_reducible refine' wSlT_of ?_ | with_reducible refine' wSlQ_of ?_ | with_reducible refine' kNeg_of ?_ | with_reducible refine' kLenQ_of ?_ | with_reducible refine' kLstT_of ?_ | with_reducible refine' kLstL_of ?_))
section
variable {P : Program} {w : World} {K : PySem.W.Frag} {mg : Str → Option Value} {base : Heap} {TT : List NdefX.NTab} {C CS : Addr} {H H' : Hp}
/-! ### the program's runs -/
def wSto (C CS : Addr) : List Dt → (List Dt → Prop) → Prop := fun ds P => ∃ hs dl wl run ps x, ds = [dSys C CS hs dl wl, .tup (run.map dMv)] ∧ SySt hs dl wl ∧ Walk (hs.map (·.r)) wl run ps x ∧ run.length ≤ 100000 ∧ P (ps.map dIs)
/-- a move takes a hand along -/
def tkD (m : Mov) (j : Int) : Bool := ((m.2[j.toNat]?).any Option.isSome)
def wTk : List Dt → (Dt → Prop) → Prop := fun ds P => ∃ m j, ds = [dMv m, .int j] ∧ 0 ≤ j ∧ j.toNat < m.2.length ∧ P (.bl (tkD m j))
/-- a hand is served by a loop, or not able at one of these places -/
def srvD (hs : List HD) (wl : List Str) (loop : List Mov) (ys : List (List Int)) (j : Int) : Bool := (loop.any fun m => tkD m j) || ys.any fun y => !decide (j ∈ ableD hs y wl)
def wSrv (C CS : Addr) : List Dt → (Dt → Prop) → Prop := fun ds P => ∃ hs dl wl loop ys j, ds = [dSys C CS hs dl wl, .tup (loop.map dMv), .lst (ys.map dIs), .int j] ∧ SySt hs dl wl ∧ (∀ m ∈ loop, m.2.length = hs.length) ∧ (∀ y ∈ ys, StOk hs y) ∧ loop.length ≤ 100000 ∧ ys.length ≤ 100000 ∧ 0 ≤ j ∧ j.toNat < hs.length ∧ P (.bl (srvD hs wl loop ys j))
end
end KX
namespace KX
open PySem PySem.Spec PyProof.Rows L2 UL
local macro_rules | `(tactic| walk_at "u") => `(tactic| repeat (first | ((with_reducible refine' wVar_of ?ke ?_); (case ke => rfl)) | with_reducible refine' wC_of ?_ | with_reducible refine' wB_of ?_ | with_reducible refine' wAnd_of ?_ | with_reducible refine' wOr_of ?_ | with_reducible refine' wNot_of ?_ | with_reducible refine' w2_of ?_ | with_reducible refine' w1_of ?_ | with_reducible refine' wCons_of ?_ | with_reducible refine' wNil_of ?_ | ((with_reducible refine' kIxT_of ?ke ?_); (case ke => rfl)) | with_reducible refine' wSeq_of ?_ | with_reducible refine' wSet_of ?_ | ((with_reducible refine' wSetF_of ?ke ?_); (case ke => rfl)) | ((with_reducible refine' wRetO_of ?ke ?_); (case ke => rfl)) | ((with_reducible refine' wApp_of ?ke ?_); (case ke => rfl)) | with_reducible refine' wRet_of ?_ | with_reducible refine' wRetF_of ?_ | with_reducible refine' wIfS_of ?_ | with_reducible refine' wForS_of ?_ | with_reducible refine' wItemsL_of ?_ | with_reducible refine' wItemsT_of ?_ | with_reducible refine' wLc_of ?_ | with_reducible refine' wAndV_of ?_ | with_reducible refine' wOrV_of ?_ | with_reducible refine' wNotV_of ?_ | with_reducible refine' wIf_of ?_ | with_reducible refine' wGet2_of ?_ | with_reducible refine' wChain_of ?_ | with_reducible refine' wExpr_of ?_ | with_reducible refine' kLenL_of ?_ | with_reducible refine' kLenT_of ?_ | ((with_reducible refine' kFld_of ?ke ?_); (case ke => rfl)) | with_reducible refine' wLc2_of ?_ | with_reducible refine' wNext_of ?_ | ((with_reducible refine' kZip2_of ?k1 ?k2 ?_); (case k1 => rfl); (case k2 => rfl)) | ((with_reducible refine' kZip3_of ?k1 ?k2 ?k3 ?_); (case k1 => rfl); (case k2 => rfl); (case k3 => rfl)) | with_reducible refine' kEnumT_of ?_ | with_reducible refine' wPart_of ?_ | with_reducible refine' wNoPart_of ?_ | with_reducible refine' kTupOfL_of ?_ | with_reducible refine' wEndP_of ?_ | ((with_reducible refine' wNewP_of ?ke ?_); (case ke => rfl)) | with_reducible refine' kI_of ?_ | ((with_reducible refine' wRev_of ?ke ?_); (case ke => rfl)) | with_reducible refine' kNeI_of ?_ | with_reducible refine' kEqI_of ?_ | with_reducible refine' kNeS_of ?_ | with_reducible refine' kEqS_of ?_ | with_reducible refine' wDropX_of ?_ | with_reducible refine' wSetX_of ?_ | with_reducible refine' wRetX_of ?_ | with_reducible refine' wRaise_of ?_ | with_reducible refine' wTry_of ?_ | with_reducible refine' wSlT_of ?_ | with_reducible refine' wSlQ_of ?_ | with_reducible refine' kNeg_of ?_ | with_reducible refine' kLenQ_of ?_ | with_reducible refine' kLstT_of ?_ | with_reducible refine' kLstL_of ?_))
section
variable {P : Program} {w : World} {K : PySem.W.Frag} {mg : Str → Option Value} {base : Heap} {TT : List NdefX.NTab} {C CS : Addr} {H H' : Hp}
/-- what is_fair tells of a run's places, its loop begun at n -/
def fairD (hs : List HD) (dl : List Int) (wl : List Str) (n : Nat) (loop : List Mov) (ps : List (List Int)) (x : List Int) : Bool := decide (ps[n]? = some x) && dl.all (srvD hs wl loop (ps.drop n))
/-- few different places -/
def FewP (ps : List (List Int)) : Prop := ∃ U : List (List Int), (∀ y ∈ ps, y ∈ U) ∧ U.length + 1 < 64
theorem HandOf.lo {ss : List Stp} {x0 : Int} {wl : List Str} {nl : List Int} (h : HandOf ss x0 wl nl) (i : HdIn x0 ss) : ∀ x ∈ nl, 0 ≤ x ∧ x < 100 := fun x hx => by
  have r := (h.nm x).mp hx
  cases r with
  | refl => exact ⟨i.lo, by have := i.hi; omega⟩
  | step _ hs =>
    have := i.good.ok _ hs
    exact ⟨this.b0, by have := this.b1; omega⟩
theorem cutD_from {α : Type} {f : α → Dt} {xs : List α} {i : Nat} (h : i ≤ xs.length) : UL.cutD (xs.map f) (some (i : Int)) none = (xs.drop i).map f := by
  unfold UL.cutD
  rw [HT.sIx_nat, HT.sIx_none, List.length_map, Nat.min_eq_left h, List.take_of_length_le (by rw [List.length_drop, List.length_map]; exact Nat.le_refl _), List.map_drop]
def wFair (C CS : Addr) : List Dt → (Dt → Prop) → Prop := fun ds P => ∃ hs dl wl stem loop ps x, ds = [dSys C CS hs dl wl, .tup (stem.map dMv), .tup (loop.map dMv)] ∧ SySt hs dl wl ∧ Walk (hs.map (·.r)) wl (stem ++ loop) ps x ∧ (stem ++ loop).length ≤ 100000 ∧ FewP ps ∧ P (.bl (fairD hs dl wl stem.length loop ps x))
end
end KX
namespace KX
open PySem PySem.Spec PyProof.Rows L2 UL
local macro_rules | `(tactic| walk_at "u") => `(tactic| repeat (first | ((with_reducible refine' wVar_of ?ke ?_); (case ke => rfl)) | with_reducible refine' wC_of ?_ | with_reducible refine' wB_of ?_ | with_reducible refine' wAnd_of ?_ | with_reducible refine' wOr_of ?_ | with_reducible refine' wNot_of ?_ | with_reducible refine' w2_of ?_ | with_reducible refine' w1_of ?_ | with_reducible refine' wCons_of ?_ | with_reducible refine' wNil_of ?_ | ((with_reducible refine' kIxT_of ?ke ?_); (case ke => rfl)) | with_reducible refine' wSeq_of ?_ | with_reducible refine' wSet_of ?_ | ((with_reducible refine' wSetF_of ?ke ?_); (case ke => rfl)) | ((with_reducible refine' wRetO_of ?ke ?_); (case ke => rfl)) | ((with_reducible refine' wSetNew_of ?hs ?_); (case hs => rfl)) | ((with_reducible refine' wPutN_of ?he ?_); (case he => rfl)) | ((with_reducible refine' wPutI_of ?he ?_); (case he => rfl)) | ((with_reducible refine' wApp_of ?ke ?_); (case ke => rfl)) | with_reducible refine' wRet_of ?_ | with_reducible refine' wRetF_of ?_ | with_reducible refine' wIfS_of ?_ | with_reducible refine' wForS_of ?_ | with_reducible refine' wItemsL_of ?_ | with_reducible refine' wItemsT_of ?_ | with_reducible refine' wLc_of ?_ | with_reducible refine' wAndV_of ?_ | with_reducible refine' wOrV_of ?_ | with_reducible refine' wNotV_of ?_ | with_reducible refine' wIf_of ?_ | with_reducible refine' wGet2_of ?_ | with_reducible refine' wChain_of ?_ | with_reducible refine' wExpr_of ?_ | with_reducible refine' kLenL_of ?_ | with_reducible refine' kLenT_of ?_ | ((with_reducible refine' kFld_of ?ke ?_); (case ke => rfl)) | with_reducible refine' wLc2_of ?_ | with_reducible refine' wNext_of ?_ | ((with_reducible refine' kZip2_of ?k1 ?k2 ?_); (case k1 => rfl); (case k2 => rfl)) | ((with_reducible refine' kZip3_of ?k1 ?k2 ?k3 ?_); (case k1 => rfl); (case k2 => rfl); (case k3 => rfl)) | with_reducible refine' kEnumT_of ?_ | with_reducible refine' wPart_of ?_ | with_reducible refine' wNoPart_of ?_ | with_reducible refine' kTupOfL_of ?_ | with_reducible refine' wEndP_of ?_ | ((with_reducible refine' wNewP_of ?ke ?_); (case ke => rfl)) | with_reducible refine' kI_of ?_ | ((with_reducible refine' wRev_of ?ke ?_); (case ke => rfl)) | with_reducible refine' kNeI_of ?_ | with_reducible refine' kEqI_of ?_ | with_reducible refine' kNeS_of ?_ | with_reducible refine' kEqS_of ?_ | with_reducible refine' wDropX_of ?_ | with_reducible refine' wSetX_of ?_ | with_reducible refine' wRetX_of ?_ | with_reducible refine' wRaise_of ?_ | with_reducible refine' wTry_of ?_ | with_reducible refine' wSlT_of ?_ | with_reducible refine' wSlQ_of ?_ | with_reducible refine' kNeg_of ?_ | with_reducible refine' kLenQ_of ?_ | with_reducible refine' kLstT_of ?_ | with_reducible refine' kLstL_of ?_ | ((with_reducible refine' wSetNewK_of ?hs ?_); (case hs => rfl)) | ((with_reducible refine' wPutK_of ?he ?_); (case he => rfl)) | ((with_reducible refine' wIns_of ?he ?_); (case he => rfl)) | ((with_reducible refine' wPop_of ?he ?_); (case he => rfl))))
section
variable {P : Program} {w : World} {K : PySem.W.Frag} {mg : Str → Option Value} {base : Heap} {TT : List NdefX.NTab} {CD CW : Addr} {H H' : Hp}
def wSmDk : List Dt → (Dt → Prop) → Prop := fun ds P => ∃ z i, ds = [dOne z i, dOne z i] ∧ P (.bl true)
theorem ok_smdk {f : Addr} {fd : FuncData} (D : Cal K mg "_law_same" s_law_same ["_law_told", "_law_due_here"] f fd) (B : Blt mg) (N : Kin mg) (B2 : Blt2 mg) : FnOk P w K mg base CX0 1 f fd ["_law_told", "_law_due_here"] (spU K TT wSmDk) := by
  refine fn_u D.F sc_sm (by decide) (fun ds Q ⟨_, _, e, _⟩ => by rw [e]; rfl) fun cdv A outer s H E hr => ?_
  refine ⟨_, _, ([], []), ([], []), (pss_cons (ps_if (pt_cmpR op_isN (pv 1) pe_non (nomark _)) (pss_one (ps_ret (pe_cmpR op_isN (pv 0) pe_non (nomark _)))) pss_nil)
      (pss_cons (ps_if (pt_val (pe_callB call_isi (by rfl) B.isinstance (by decide +kernel) (pa_cons (pv 1) (pa_cons (pe_bltn rfl N.bool (by decide +kernel) (v := .ty "bool") rfl) pa_nil)))) (pss_one (ps_ret (pe_and (pe_callB call_isi (by rfl) B.isinstance (by decide +kernel) (pa_cons (pv 0) (pa_cons (pe_bltn rfl N.bool (by decide +kernel) (v := .ty "bool") rfl) pa_nil))) (pe_one (pe_cmpR op_eq (pv 0) (pv 1) (nomark _)))))) pss_nil)
      (pss_cons (ps_if (pt_val (pe_callB call_isi (by rfl) B.isinstance (by decide +kernel) (pa_cons (pv 1) (pa_cons (pe_bltn rfl B.int (by decide +kernel) (v := .ty "int") rfl) pa_nil)))) (pss_one (ps_ret (pe_and (pe_callB call_isi (by rfl) B.isinstance (by decide +kernel) (pa_cons (pv 0) (pa_cons (pe_bltn rfl B.int (by decide +kernel) (v := .ty "int") rfl) pa_nil))) (pe_and (pe_not (pe_callB call_isi (by rfl) B.isinstance (by decide +kernel) (pa_cons (pv 0) (pa_cons (pe_bltn rfl N.bool (by decide +kernel) (v := .ty "bool") rfl) pa_nil)))) (pe_one (pe_cmpR op_eq (pv 0) (pv 1) (nomark _))))))) pss_nil)
      (pss_cons (ps_if (pt_val (pe_callB call_isi (by rfl) B.isinstance (by decide +kernel) (pa_cons (pv 1) (pa_cons (pe_bltn rfl N.str (by decide +kernel) (v := .ty "str") rfl) pa_nil)))) (pss_one (ps_ret (pe_and (pe_callB call_isi (by rfl) B.isinstance (by decide +kernel) (pa_cons (pv 0) (pa_cons (pe_bltn rfl N.str (by decide +kernel) (v := .ty "str") rfl) pa_nil))) (pe_one (pe_cmpR op_eq (pv 0) (pv 1) (nomark _)))))) pss_nil)
      (pss_cons (ps_if (PW.pt (pw_and (pt_val (pe_callB call_isi (by rfl) B.isinstance (by decide +kernel) (pa_cons (pv 1) (pa_cons (pe_bltn rfl B.list (by decide +kernel) (v := .ty "list") rfl) pa_nil)))) (pw_and1 (pt_not (pt_val (pe_callB call_isi (by rfl) B.isinstance (by decide +kernel) (pa_cons (pv 0) (pa_cons (pe_bltn rfl B.list (by decide +kernel) (v := .ty "list") rfl) pa_nil)))))))) (pss_one (ps_ret pe_bl)) pss_nil)
      (pss_cons (ps_if (PW.pt (pw_and (pt_val (pe_callB call_isi (by rfl) B.isinstance (by decide +kernel) (pa_cons (pv 1) (pa_cons (pe_bltn rfl B.tuple (by decide +kernel) (v := .ty "tuple") rfl) pa_nil)))) (pw_and1 (pt_not (pt_val (pe_callB call_isi (by rfl) B.isinstance (by decide +kernel) (pa_cons (pv 0) (pa_cons (pe_bltn rfl B.tuple (by decide +kernel) (v := .ty "tuple") rfl) pa_nil)))))))) (pss_one (ps_ret pe_bl)) pss_nil)
      (pss_cons (ps_if (pt_val (pe_callB call_isi (by rfl) B.isinstance (by decide +kernel) (pa_cons (pv 1) (pa_cons (pe_bltn rfl B2.dict (by decide +kernel) (v := .ty "dict") rfl) pa_nil)))) (pss_one (ps_ret (pe_and (pe_callB call_isi (by rfl) B.isinstance (by decide +kernel) (pa_cons (pv 0) (pa_cons (pe_bltn rfl B2.dict (by decide +kernel) (v := .ty "dict") rfl) pa_nil))) (pe_one (pe_cmpR (op_eq_dictA (Nat.lt_of_succ_lt (hu_of hr))) (pv 0) (pv 1) (nomark _)))))) pss_nil)
      pss_dead))))))), (ss_seq (ss_if (st_tTest (se_op oS_isN (SE.b (se_var 1)) (SE.b se_non))) (ss_ret (se_op oS_isN (SE.b (se_var 0)) (SE.b se_non))) ss_nil)
      (ss_seq (ss_if (st_tB (se_isG (.ty _) (SE.b (se_var 1)))) (ss_ret (se_and (se_isG (.ty _) (SE.b (se_var 0))) (se_op oS_eq (SE.b (se_var 0)) (SE.b (se_var 1))))) ss_nil)
      (ss_seq (ss_if (st_tB (se_isG (.ty _) (SE.b (se_var 1)))) (ss_ret (se_and (se_isG (.ty _) (SE.b (se_var 0))) (se_and (se_not (se_isG (.ty _) (SE.b (se_var 0)))) (se_op oS_eq (SE.b (se_var 0)) (SE.b (se_var 1)))))) ss_nil)
      (ss_seq (ss_if (st_tB (se_isG (.ty _) (SE.b (se_var 1)))) (ss_ret (se_and (se_isG (.ty _) (SE.b (se_var 0))) (se_op oS_eq (SE.b (se_var 0)) (SE.b (se_var 1))))) ss_nil)
      (ss_seq (ss_if (st_and (st_tB (se_isG (.ty _) (SE.b (se_var 1)))) (st_not (st_tB (se_isG (.ty _) (SE.b (se_var 0)))))) (ss_ret (se_bl (b := false))) ss_nil)
      (ss_seq (ss_if (st_and (st_tB (se_isG (.ty _) (SE.b (se_var 1)))) (st_not (st_tB (se_isG (.ty _) (SE.b (se_var 0)))))) (ss_ret (se_bl (b := false))) ss_nil)
      (ss_seq (ss_if (st_tB (se_isG (.ty _) (SE.b (se_var 1)))) (ss_ret (se_and (se_isG (.ty _) (SE.b (se_var 0))) (se_op oS_eqD1 (SE.b (se_var 0)) (SE.b (se_var 1))))) ss_nil)
      ss_dead))))))), ?_⟩
  rintro ds P ⟨z, i, rfl, q⟩
  walk_at "u"
  show if false = true then _ else _
  refine iteF ?_
  walk_at "u"
  refine ⟨_, false, .dk, kit_ty (by decide +kernel), ?_⟩
  refine iteF ?_
  walk_at "u"
  refine ⟨_, false, .dk, kit_ty (by decide +kernel), ?_⟩
  refine iteF ?_
  walk_at "u"
  refine ⟨_, false, .dk, kit_ty (by decide +kernel), ?_⟩
  refine iteF ?_
  walk_at "u"
  refine ⟨_, false, .dk, kit_ty (by decide +kernel), ?_⟩
  refine iteF ?_
  refine iteF ?_
  walk_at "u"
  refine ⟨_, false, .dk, kit_ty (by decide +kernel), ?_⟩
  refine iteF ?_
  refine iteF ?_
  walk_at "u"
  refine ⟨_, true, .dk, kit_ty (by decide +kernel), ?_⟩
  refine iteT ?_
  walk_at "u"
  refine ⟨_, true, .dk, kit_ty (by decide +kernel), ?_⟩
  refine iteT ?_
  walk_at "u"
  exact ⟨z, i, rfl, rfl, q⟩

def wSmI : List Dt → (Dt → Prop) → Prop := fun ds P => ∃ a, ds = [a, a] ∧ (SmD 1 a ∨ ∃ z i, a = dOne z i) ∧ P (.bl true)
theorem ok_smI {f : Addr} {fd : FuncData} (D : Cal K mg "_law_same" s_law_same ["_law_told", "_law_due_here"] f fd) (B : Blt mg) (N : Kin mg) (B2 : Blt2 mg) : FnOk P w K mg base CX0 2 f fd ["_law_told", "_law_due_here"] (spU K TT wSmI) := by
  refine (fnOr (ok_sm (TT := TT) D B N B2 1) ((ok_smdk (TT := TT) D B N B2).mono (by decide))).imp fun vs H Q E ⟨ok, ds, P, T1, r, ⟨a, ed, h, hp⟩, q⟩ => ?_
  rcases h with h | ⟨z, i, rfl⟩
  · exact .inl ⟨ok, ds, P, T1, r, ⟨a, ed, h, hp⟩, q⟩
  · exact .inr ⟨ok, ds, P, T1, r, ⟨z, i, ed, hp⟩, q⟩
def wSmW : List Dt → (Dt → Prop) → Prop := fun ds P => ∃ s z i, ds = [.tup [.str s, dOne z i], .tup [.str s, dOne z i]] ∧ P (.bl true)
theorem ok_smW {f : Addr} {fd : FuncData} (F : Fun K "_law_same" "_law_same" s_law_same f fd) (D : Cal K mg "_law_same" s_law_same ["_law_told", "_law_due_here"] f fd) (B : Blt mg) (N : Kin mg) (B2 : Blt2 mg) (ih : FnOk P w K mg base CX0 2 f fd ["_law_told", "_law_due_here"] (spU K TT wSmI)) : FnOk P w K mg base CX0 3 f fd ["_law_told", "_law_due_here"] (spU K TT wSmW) := by
  refine fn_u F sc_sm (by decide) (fun ds Q ⟨_, _, _, e, _⟩ => by rw [e]; rfl) fun cdv A outer s H E hr => ?_
  refine ⟨_, _, ([], []), ([], []), (pss_cons (ps_if (pt_cmpR op_isN (pv 1) pe_non (nomark _)) (pss_one (ps_ret (pe_cmpR op_isN (pv 0) pe_non (nomark _)))) pss_nil)
      (pss_cons (ps_if (pt_val (pe_callB call_isi (by rfl) B.isinstance (by decide +kernel) (pa_cons (pv 1) (pa_cons (pe_bltn rfl N.bool (by decide +kernel) (v := .ty "bool") rfl) pa_nil)))) (pss_one (ps_ret (pe_and (pe_callB call_isi (by rfl) B.isinstance (by decide +kernel) (pa_cons (pv 0) (pa_cons (pe_bltn rfl N.bool (by decide +kernel) (v := .ty "bool") rfl) pa_nil))) (pe_one (pe_cmpR op_eq (pv 0) (pv 1) (nomark _)))))) pss_nil)
      (pss_cons (ps_if (pt_val (pe_callB call_isi (by rfl) B.isinstance (by decide +kernel) (pa_cons (pv 1) (pa_cons (pe_bltn rfl B.int (by decide +kernel) (v := .ty "int") rfl) pa_nil)))) (pss_one (ps_ret (pe_and (pe_callB call_isi (by rfl) B.isinstance (by decide +kernel) (pa_cons (pv 0) (pa_cons (pe_bltn rfl B.int (by decide +kernel) (v := .ty "int") rfl) pa_nil))) (pe_and (pe_not (pe_callB call_isi (by rfl) B.isinstance (by decide +kernel) (pa_cons (pv 0) (pa_cons (pe_bltn rfl N.bool (by decide +kernel) (v := .ty "bool") rfl) pa_nil)))) (pe_one (pe_cmpR op_eq (pv 0) (pv 1) (nomark _))))))) pss_nil)
      (pss_cons (ps_if (pt_val (pe_callB call_isi (by rfl) B.isinstance (by decide +kernel) (pa_cons (pv 1) (pa_cons (pe_bltn rfl N.str (by decide +kernel) (v := .ty "str") rfl) pa_nil)))) (pss_one (ps_ret (pe_and (pe_callB call_isi (by rfl) B.isinstance (by decide +kernel) (pa_cons (pv 0) (pa_cons (pe_bltn rfl N.str (by decide +kernel) (v := .ty "str") rfl) pa_nil))) (pe_one (pe_cmpR op_eq (pv 0) (pv 1) (nomark _)))))) pss_nil)
      (pss_cons (ps_if (PW.pt (pw_and (pt_val (pe_callB call_isi (by rfl) B.isinstance (by decide +kernel) (pa_cons (pv 1) (pa_cons (pe_bltn rfl B.list (by decide +kernel) (v := .ty "list") rfl) pa_nil)))) (pw_and1 (pt_not (pt_val (pe_callB call_isi (by rfl) B.isinstance (by decide +kernel) (pa_cons (pv 0) (pa_cons (pe_bltn rfl B.list (by decide +kernel) (v := .ty "list") rfl) pa_nil)))))))) (pss_one (ps_ret pe_bl)) pss_nil)
      (pss_cons (ps_if (PW.pt (pw_and (pt_val (pe_callB call_isi (by rfl) B.isinstance (by decide +kernel) (pa_cons (pv 1) (pa_cons (pe_bltn rfl B.tuple (by decide +kernel) (v := .ty "tuple") rfl) pa_nil)))) (pw_and1 (pt_not (pt_val (pe_callB call_isi (by rfl) B.isinstance (by decide +kernel) (pa_cons (pv 0) (pa_cons (pe_bltn rfl B.tuple (by decide +kernel) (v := .ty "tuple") rfl) pa_nil)))))))) (pss_one (ps_ret pe_bl)) pss_nil)
      (pss_cons (ps_if (pt_val (pe_callB call_isi (by rfl) B.isinstance (by decide +kernel) (pa_cons (pv 1) (pa_cons (pe_bltn rfl B2.dict (by decide +kernel) (v := .ty "dict") rfl) pa_nil)))) (pss_one (ps_ret (pe_and (pe_callB call_isi (by rfl) B.isinstance (by decide +kernel) (pa_cons (pv 0) (pa_cons (pe_bltn rfl B2.dict (by decide +kernel) (v := .ty "dict") rfl) pa_nil))) (pe_one (pe_cmpR (op_eqE (Nat.lt_of_succ_lt (hu_of hr))) (pv 0) (pv 1) (nomark _)))))) pss_nil)
      (pss_cons (ps_if (pt_cmpR op_ne (pe_callB call_len_ (by rfl) B.len PySem.boot_len (pa_cons (pv 0) pa_nil)) (pe_callB call_len_ (by rfl) B.len PySem.boot_len (pa_cons (pv 1) pa_nil)) (nomark _)) (pss_one (ps_ret pe_bl)) pss_nil)
      (pss_cons (ps_for PassesOwn.never rfl (pi_range1 rfl B.range (pa_cons (pe_callB call_len_ (by rfl) B.len PySem.boot_len (pa_cons (pv 1) pa_nil)) pa_nil)) (pg_name (i := 2) sc_sm.nd rfl (.inl rfl)) (pss_one (ps_if (pt_not (pt_val (pe_call ih (hr.mono (by decide)) (by rfl) D.g D.F.kp D.b .nil pass0 (pa_cons (pe_ix (r := rIx K) ix_seq (pv 0) (pv 2) (fun _ _ => rfl)) (pa_cons (pe_ix (r := rIx K) ix_seq (pv 1) (pv 2) (fun _ _ => rfl)) pa_nil))))) (pss_one (ps_ret pe_bl)) pss_nil)))
      (pss_one (ps_ret pe_bl))))))))))), (ss_seq (ss_if (st_tTest (se_op oS_isN (SE.b (se_var 1)) (SE.b se_non))) (ss_ret (se_op oS_isN (SE.b (se_var 0)) (SE.b se_non))) ss_nil)
      (ss_seq (ss_if (st_tB (se_isi (SE.b (se_var 1)))) (ss_ret (se_and (se_isi (SE.b (se_var 0))) (se_op oS_eq (SE.b (se_var 0)) (SE.b (se_var 1))))) ss_nil)
      (ss_seq (ss_if (st_tB (se_isi (SE.b (se_var 1)))) (ss_ret (se_and (se_isi (SE.b (se_var 0))) (se_and (se_not (se_isi (SE.b (se_var 0)))) (se_op oS_eq (SE.b (se_var 0)) (SE.b (se_var 1)))))) ss_nil)
      (ss_seq (ss_if (st_tB (se_isi (SE.b (se_var 1)))) (ss_ret (se_and (se_isi (SE.b (se_var 0))) (se_op oS_eq (SE.b (se_var 0)) (SE.b (se_var 1))))) ss_nil)
      (ss_seq (ss_if (st_and (st_tB (se_isi (SE.b (se_var 1)))) (st_not (st_tB (se_isi (SE.b (se_var 0)))))) (ss_ret (se_bl (b := false))) ss_nil)
      (ss_seq (ss_if (st_and (st_tB (se_isi (SE.b (se_var 1)))) (st_not (st_tB (se_isi (SE.b (se_var 0)))))) (ss_ret (se_bl (b := false))) ss_nil)
      (ss_seq (ss_if (st_tB (se_isi (SE.b (se_var 1)))) (ss_ret (se_and (se_isi (SE.b (se_var 0))) (se_op oS_eqE (SE.b (se_var 0)) (SE.b (se_var 1))))) ss_nil)
      (ss_seq (ss_if (st_tTest (se_op oS_ne (SE.b (se_cb c1_len (SE.b (se_var 0)))) (SE.b (se_cb c1_len (SE.b (se_var 1)))))) (ss_ret (se_bl (b := false))) ss_nil)
      (ss_seq (ss_for (g := (gName 2)) (si_rng1 (sa_cons (se_cb c1_len (SE.b (se_var 1))) sa_nil)) (sg_name 2) (ss_if (st_not (st_tB (se_call (sa_cons (se_op oS_ix (SE.b (se_var 0)) (SE.b (se_var 2))) (sa_cons (se_op oS_ix (SE.b (se_var 1)) (SE.b (se_var 2))) sa_nil))))) (ss_ret (se_bl (b := false))) ss_nil))
      (ss_ret (se_bl (b := true)))))))))))), ?_⟩
  rintro ds P ⟨s, z, i, rfl, q⟩
  walk_at "u"
  show if false = true then _ else _
  refine iteF ?_
  walk_at "u"
  refine kIsi_of (b := false) rfl (by decide +kernel) ?_
  refine iteF ?_
  walk_at "u"
  refine kIsi_of (b := false) rfl (by decide +kernel) ?_
  refine iteF ?_
  walk_at "u"
  refine kIsi_of (b := false) rfl (by decide +kernel) ?_
  refine iteF ?_
  walk_at "u"
  refine kIsi_of (b := false) rfl (by decide +kernel) ?_
  refine iteF ?_
  refine iteF ?_
  walk_at "u"
  refine kIsi_of (b := true) rfl (by decide +kernel) ?_
  refine iteT ?_
  walk_at "u"
  refine kIsi_of (b := true) rfl (by decide +kernel) ?_
  refine iteF ?_
  walk_at "u"
  refine kIsi_of (b := false) rfl (by decide +kernel) ?_
  refine iteF ?_
  walk_at "u"
  refine iteF ?_
  walk_at "u"
  refine kRng1_to (by show ((2 : Nat) : Int) < 2 ^ 62; decide) (by show -(2 ^ 62) ≤ ((2 : Nat) : Int); decide) ?_
  show wFor _ _ (rngD 0 2) _ _
  refine wFor_range 2 (fun j ρ => ∃ v2, ρ = [some (.tup [.str s, dOne z i]), some (.tup [.str s, dOne z i]), v2]) ⟨none, rfl⟩ ?_ ?_
  · rintro j ρ k hj ⟨v2, rfl⟩ hk
    have hi : j < [Dt.str s, dOne z i].length := hj
    have ei : [Dt.str s, dOne z i][j]? = some [Dt.str s, dOne z i][j] := List.getElem?_eq_getElem hi
    have hx : ∀ x ∈ [Dt.str s, dOne z i], SmD 1 x ∨ ∃ z i, x = dOne z i := fun x hx => by
      rcases List.mem_cons.mp hx with rfl | hx
      · exact .inl True.intro
      · exact .inr ⟨z, i, List.mem_singleton.mp hx⟩
    refine ⟨_, rfl, ?_⟩
    walk_at "u"
    refine kIxx_tup (atI_nat ei) ?_
    walk_at "u"
    refine kIxx_tup (atI_nat ei) ?_
    walk_at "u"
    refine ⟨_, rfl, hx _ (List.getElem_mem _), ?_⟩
    refine iteF ?_
    walk_at "u"
    exact hk _ ⟨_, rfl⟩
  · rintro ρ ⟨v2, rfl⟩
    walk_at "u"
    exact q
def oddR : List Dt := [.non, .bl false, .int 0, .int 5, .str "", .str "abc", .dct [] [], dOne "a" 1, .int (10 ^ 30), .bl true]
def wOddR : List Dt → (Dt → Prop) → Prop := fun ds P => ∃ k : Int, ds = [.int k] ∧ ∀ x ∈ oddR, P x
theorem sc_oddr : FnScope ["_law_number", "_law_odd"] ["_law_number"] (defScope s_law_odd_row) := ⟨rfl, rfl, rfl, by decide +kernel, rfl, by decide +kernel, by decide +kernel⟩
theorem ok_oddr {f : Addr} {fd : FuncData} (F : Fun K "_law_odd_row" "_law_odd_row" s_law_odd_row f fd) (B : Blt mg) : FnOk P w K mg base CX0 2 f fd ["_law_number"] (spU K TT wOddR) := by
  refine fn_u F sc_oddr (by decide) (fun ds Q ⟨_, e, _⟩ => by rw [e]; rfl) fun cdv A outer s H E hr => ?_
  refine ⟨_, _, ([], []), ([], []), (pss_cons (ps_set (i := 1) sc_oddr.nd rfl (.inl rfl) (pe_lst (pa_cons pe_non (pa_cons pe_bl (pa_cons pe_int (pa_cons pe_int (pa_cons pe_str (pa_cons pe_str (pa_cons pe_dnewT (pa_cons (pe_disp (pps_cons pe_str pe_int pps_nil) rfl rfl (by decide) (by decide)) (pa_cons (pe_op op_pow pe_int pe_int) (pa_cons pe_bl pa_nil))))))))))))
      (pss_one (ps_ret (pe_ix (r := rIxL K) ix_list (pv 1) (pe_op op_mod (pe_callTy call_int1 (by rfl) B.int (by decide +kernel) (pa_cons (pv 0) pa_nil)) pe_int) (fun _ _ => rfl))))), (ss_seq (ss_cast (S' := ([], [])) (ss_set 1 (SF.e (sf_lst (sa_cons se_non (sa_cons (se_bl (b := false)) (sa_cons (se_int (i := 0)) (sa_cons (se_int (i := 5)) (sa_cons (se_str (z := "")) (sa_cons (se_str (z := "abc")) (sa_cons se_dnew (sa_cons (se_dlit (z := "a") (i := 1)) (sa_cons (se_op oS_pow (SE.b (se_int (i := 10))) (SE.b (se_int (i := 30)))) (sa_cons (se_bl (b := true)) sa_nil))))))))))))))
      (ss_ret (se_op oS_ixL (SE.b (se_var 1)) (SE.b (se_op oS_mod (SE.b (se_cb c1_int (SE.b (se_var 0)))) (SE.b (se_int (i := 10)))))))), ?_⟩
  rintro ds P ⟨k, rfl, q⟩
  walk_at "u"
  refine ⟨by unfold CPow; decide, ?_⟩
  walk_at "u"
  refine ⟨by show 10 ≤ 1000; decide, ?_⟩
  walk_at "u"
  refine ⟨by show (0 : Int) < 10; decide, ?_⟩
  exact kIxL_all (Int.emod_nonneg _ (by decide)) (Int.emod_lt_of_pos _ (by decide)) q
end
end KX
namespace KX
open PySem PySem.Spec PyProof.Rows L2 UL
local macro_rules | `(tactic| walk_at "u") => `(tactic| repeat (first | ((with_reducible refine' wVar_of ?ke ?_); (case ke => rfl)) | with_reducible refine' wC_of ?_ | with_reducible refine' wB_of ?_ | with_reducible refine' wAnd_of ?_ | with_reducible refine' wOr_of ?_ | with_reducible refine' wNot_of ?_ | with_reducible refine' w2_of ?_ | with_reducible refine' w1_of ?_ | with_reducible refine' wCons_of ?_ | with_reducible refine' wNil_of ?_ | ((with_reducible refine' kIxT_of ?ke ?_); (case ke => rfl)) | with_reducible refine' wSeq_of ?_ | with_reducible refine' wSet_of ?_ | ((with_reducible refine' wSetF_of ?ke ?_); (case ke => rfl)) | ((with_reducible refine' wRetO_of ?ke ?_); (case ke => rfl)) | ((with_reducible refine' wSetNew_of ?hs ?_); (case hs => rfl)) | ((with_reducible refine' wPutN_of ?he ?_); (case he => rfl)) | ((with_reducible refine' wPutI_of ?he ?_); (case he => rfl)) | ((with_reducible refine' wApp_of ?ke ?_); (case ke => rfl)) | with_reducible refine' wRet_of ?_ | with_reducible refine' wRetF_of ?_ | with_reducible refine' wIfS_of ?_ | with_reducible refine' wForS_of ?_ | with_reducible refine' wItemsL_of ?_ | with_reducible refine' wItemsT_of ?_ | with_reducible refine' wLc_of ?_ | with_reducible refine' wAndV_of ?_ | with_reducible refine' wOrV_of ?_ | with_reducible refine' wNotV_of ?_ | with_reducible refine' wIf_of ?_ | with_reducible refine' wGet2_of ?_ | with_reducible refine' wChain_of ?_ | with_reducible refine' wExpr_of ?_ | with_reducible refine' kLenL_of ?_ | with_reducible refine' kLenT_of ?_ | ((with_reducible refine' kFld_of ?ke ?_); (case ke => rfl)) | with_reducible refine' wLc2_of ?_ | with_reducible refine' wNext_of ?_ | ((with_reducible refine' kZip2_of ?k1 ?k2 ?_); (case k1 => rfl); (case k2 => rfl)) | ((with_reducible refine' kZip3_of ?k1 ?k2 ?k3 ?_); (case k1 => rfl); (case k2 => rfl); (case k3 => rfl)) | with_reducible refine' kEnumT_of ?_ | with_reducible refine' wPart_of ?_ | with_reducible refine' wNoPart_of ?_ | with_reducible refine' kTupOfL_of ?_ | with_reducible refine' wEndP_of ?_ | ((with_reducible refine' wNewP_of ?ke ?_); (case ke => rfl)) | with_reducible refine' kI_of ?_ | ((with_reducible refine' wRev_of ?ke ?_); (case ke => rfl)) | with_reducible refine' kNeI_of ?_ | with_reducible refine' kEqI_of ?_ | with_reducible refine' kNeS_of ?_ | with_reducible refine' kEqS_of ?_ | with_reducible refine' wDropX_of ?_ | with_reducible refine' wSetX_of ?_ | with_reducible refine' wRetX_of ?_ | with_reducible refine' wRaise_of ?_ | with_reducible refine' wTry_of ?_ | with_reducible refine' wSlT_of ?_ | with_reducible refine' wSlQ_of ?_ | with_reducible refine' kNeg_of ?_ | with_reducible refine' kLenQ_of ?_ | with_reducible refine' kLstT_of ?_ | with_reducible refine' kLstL_of ?_ | ((with_reducible refine' wSetNewK_of ?hs ?_); (case hs => rfl)) | ((with_reducible refine' wPutK_of ?he ?_); (case he => rfl)) | ((with_reducible refine' wIns_of ?he ?_); (case he => rfl)) | ((with_reducible refine' wPop_of ?he ?_); (case he => rfl))))
section
variable {P : Program} {w : World} {K : PySem.W.Frag} {mg : Str → Option Value} {base : Heap} {TT : List NdefX.NTab} {CD CW : Addr} {H H' : Hp}
theorem oddN_bad : ∀ x ∈ oddN, nmB x = false ∧ Ty x ∧ SmD 3 x ∧ ∀ z, x = .str z → z.length ≤ sizeLine := fun x hx => by
  simp only [oddN, List.mem_cons, List.not_mem_nil, or_false] at hx
  rcases hx with rfl | rfl | rfl | rfl | rfl | rfl | rfl | rfl | rfl | rfl | rfl | rfl | rfl | rfl | rfl | rfl
  all_goals refine ⟨by decide +kernel, (by first | exact ⟨_, rfl⟩ | trivial), (by first | exact True.intro | exact ⟨rfl, rfl⟩ | exact ⟨by decide, fun y hy => by rw [List.mem_singleton.mp hy]; exact True.intro⟩), fun z e => ?_⟩
  all_goals first | (cases e; done) | (cases e; decide +kernel)
theorem oddR_bad : ∀ x ∈ oddR, NotRow K x ∧ (SmD 3 x ∨ x = dOne "a" 1) := fun x hx => by
  simp only [oddR, List.mem_cons, List.not_mem_nil, or_false] at hx
  rcases hx with rfl | rfl | rfl | rfl | rfl | rfl | rfl | rfl | rfl | rfl
  all_goals refine ⟨?_, ?_⟩
  all_goals first | exact ⟨_, .ty rfl, kAny_ty (by decide +kernel)⟩ | exact ⟨_, .dk, kAny_ty (by decide +kernel)⟩ | exact .inl True.intro | exact .inl ⟨rfl, rfl⟩ | exact .inr rfl

/-- _law_same tells such values' own like -/
def SmX (x : Dt) : Prop := SmD 3 x ∨ x = dOne "a" 1
def NoDs (K : PySem.W.Frag) (CD : Addr) : Prop := ∀ n ∈ VO.kinds7, PySem.W.kitOne K (.type n) (.ref CD) = some false
theorem oddR_ty {x : Dt} (hx : x ∈ oddR) : ∃ n ∈ VO.kinds7, HasTy K x (.type n) := by
  simp only [oddR, List.mem_cons, List.not_mem_nil, or_false] at hx
  rcases hx with rfl | rfl | rfl | rfl | rfl | rfl | rfl | rfl | rfl | rfl
  all_goals first | exact ⟨_, by decide, .ty rfl⟩ | exact ⟨_, by decide, .dk⟩
def wRefu (K : PySem.W.Frag) (CD : Addr) : List Dt → (Dt → Prop) → Prop := fun ds P => ∃ zs : List Str, ds = [.lst (zs.map Dt.str)] ∧ zs.length ≤ 16 ∧ (∀ z ∈ zs, NameOk z) ∧ ∀ d x, BadTl K CD d x → (∃ n ∈ VO.kinds7, HasTy K d (.type n)) → SmX x → P (.tup [d, x])
theorem sc_refu : FnScope ["_law_pool_here", "_law_row", "_law_odd", "_law_at"] ["_law_pool_here", "_law_row"] (defScope s_law_refused) := ⟨rfl, rfl, rfl, by decide +kernel, rfl, by decide +kernel, by decide +kernel⟩
theorem ok_refu {f fD fR fO : Addr} {fd fdD fdR fdO : FuncData} (F : Fun K "_law_refused" "_law_refused" s_law_refused f fd) (B : Blt mg) (kd : NoDs K CD) (DD : Cal K mg "_law_draw" s_law_draw ["_law_pool_here", "_law_many"] fD fdD) (GD : FnOk P w K mg base CX0 1 fD fdD ["_law_pool_here", "_law_many"] (spP K TT wDraw)) (DR : Cal K mg "_law_odd_row" s_law_odd_row ["_law_number"] fR fdR) (GR : FnOk P w K mg base CX0 2 fR fdR ["_law_number"] (spU K TT wOddR)) (DO : Cal K mg "_law_odd_name" s_law_odd_name ["_law_number"] fO fdO) (GO : FnOk P w K mg base CX0 2 fO fdO ["_law_number"] (spU K TT wOddN)) : FnOk P w K mg base CX0 3 f fd ["_law_pool_here", "_law_row"] (spP K TT (wRefu K CD)) := by
  refine fn_p F sc_refu (by decide) (fun ds Q ⟨_, e, _⟩ => by rw [e]; rfl) fun cdv A outer s H E hr => ?_
  refine ⟨_, _, ([], [0]), ([], [0]), (pss_cons (ps_if (pt_cmpR op_eq (pe_call GD (hr.mono (by decide)) (by rfl) DD.g DD.F.kp DD.b .nil pass0 (pa_cons (pv 0) (pa_cons pe_int pa_nil))) pe_int (nomark _)) (pss_cons (ps_set (i := 2) sc_refu.nd rfl (.inl rfl) (pe_call GR (hr.mono (by decide)) (by rfl) DR.g DR.F.kp DR.b .nil pass0 (pa_cons (pe_call GD (hr.mono (by decide)) (by rfl) DD.g DD.F.kp DD.b .nil pass0 (pa_cons (pv 0) (pa_cons pe_int pa_nil))) pa_nil)))
      (pss_one (ps_ret (pe_tup (pa_cons (pv 2) (pa_cons (pv 2) pa_nil)))))) pss_nil)
      (pss_cons (ps_set (i := 3) sc_refu.nd rfl (.inl rfl) (pe_call GD (hr.mono (by decide)) (by rfl) DD.g DD.F.kp DD.b .nil pass0 (pa_cons (pv 0) (pa_cons (pe_op op_add (pe_callB call_len_ (by rfl) B.len PySem.boot_len (pa_cons (pv 1) pa_nil)) pe_int) pa_nil))))
      (pss_cons (ps_set (i := 2) sc_refu.nd rfl (.inl rfl) (pe_call GO (hr.mono (by decide)) (by rfl) DO.g DO.F.kp DO.b .nil pass0 (pa_cons (pe_call GD (hr.mono (by decide)) (by rfl) DD.g DD.F.kp DD.b .nil pass0 (pa_cons (pv 0) (pa_cons pe_int pa_nil))) pa_nil)))
      (pss_one (ps_ret (pe_tup (pa_cons (pe_op op_cat (pe_op op_cat (pe_slice sl_list (pv 1) po_none (po_some (pv 3))) (pe_lst (pa_cons (pv 2) (pa_cons pe_int pa_nil)))) (pe_slice sl_list (pv 1) (po_some (pv 3)) po_none)) (pa_cons (pv 2) pa_nil)))))))), (ss_seq (ss_if (st_tTest (se_op oS_eq (SE.b (se_callP 0 (sa_cons (se_int (i := 3)) sa_nil))) (SE.b (se_int (i := 0))))) (ss_seq (ss_cast (S' := ([], [0])) (ss_set 2 (se_call (sa_cons (se_callP 0 (sa_cons (se_int (i := 10)) sa_nil)) sa_nil))))
      (ss_ret (se_tup (sa_cons (se_var 2) (sa_cons (se_var 2) sa_nil))))) ss_nil)
      (ss_seq (ss_cast (S' := ([], [0])) (ss_set 3 (se_callP 0 (sa_cons (se_op oS_add (SE.b (se_cb c1_len (SE.b (se_var 1)))) (SE.b (se_int (i := 1)))) sa_nil))))
      (ss_seq (ss_cast (S' := ([], [0])) (ss_set 2 (se_call (sa_cons (se_callP 0 (sa_cons (se_int (i := 16)) sa_nil)) sa_nil))))
      (ss_ret (se_tup (sa_cons (SF.e (sf_cat (SE.b (SF.e (sf_cat (SE.b (SF.e (sf_slice (SE.b (se_var 1)) so_none (so_some (se_var 3))))) (SE.b (SF.e (sf_lst (sa_cons (se_var 2) (sa_cons (se_int (i := 5)) sa_nil)))))))) (SE.b (SF.e (sf_slice (SE.b (se_var 1)) (so_some (se_var 3)) so_none))))) (sa_cons (se_var 2) sa_nil))))))), ?_⟩
  rintro ds P ⟨zs, rfl, lz, hz, q⟩
  walk_at "u"
  refine ⟨3, rfl, by decide, by decide, fun t t0 t3 => ?_⟩
  walk_at "u"
  show if decide (t = 0) = true then _ else _
  by_cases h0 : t = 0
  · rw [decide_eq_true h0]
    refine iteT ?_
    walk_at "u"
    refine ⟨10, rfl, by decide, by decide, fun k k0 k10 => ?_⟩
    walk_at "u"
    refine ⟨k, rfl, fun x hx => ?_⟩
    walk_at "u"
    refine ⟨by show 2 ≤ 1000; decide, ?_⟩
    obtain ⟨nr, sx⟩ := oddR_bad (K := K) x hx
    obtain ⟨n, hn, ty⟩ := oddR_ty (K := K) hx
    exact q x x ⟨⟨_, ty, kd n hn⟩, .inl ⟨nr, rfl⟩⟩ ⟨n, hn, ty⟩ sx
  · rw [decide_eq_false h0]
    refine iteF ?_
    walk_at "u"
    rw [List.length_map]
    refine ⟨_, rfl, by omega, by omega, fun a a0 a1 => ?_⟩
    obtain ⟨p, rfl⟩ : ∃ p : Nat, a = (p : Nat) := ⟨a.toNat, by omega⟩
    walk_at "u"
    refine ⟨16, rfl, by decide, by decide, fun k k0 k16 => ?_⟩
    walk_at "u"
    obtain ⟨kn, rfl⟩ : ∃ n : Nat, k = (n : Nat) := ⟨k.toNat, by omega⟩
    have eo : oddN[kn]? = some (oddN[kn]'(by show kn < 16; omega)) := List.getElem?_eq_getElem (by show kn < 16; omega)
    refine ⟨kn, _, rfl, eo, ?_⟩
    have hx := List.mem_of_getElem? eo
    generalize oddN[kn]'(by show kn < 16; omega) = x at hx
    walk_at "u"
    have e1 : UL.cutD (zs.map Dt.str) none (some ((p : Nat) : Int)) = (zs.take p).map Dt.str := cutD_take
    have e2 : UL.cutD (zs.map Dt.str) (some ((p : Nat) : Int)) none = (zs.drop p).map Dt.str := cutD_from (by omega)
    refine ⟨by show 2 ≤ 1000; decide, ?_⟩
    show kCatL (.lst (UL.cutD (zs.map Dt.str) none (some ((p : Nat) : Int)))) (.lst [x, .int 5]) _
    rw [e1]
    refine ⟨by rw [List.length_map, List.length_take, sizeLine_eq]; show _ + 2 ≤ _; omega, ?_⟩
    walk_at "u"
    show kCatL (.lst ((zs.take p).map Dt.str ++ [x, .int 5])) (.lst (UL.cutD (zs.map Dt.str) (some ((p : Nat) : Int)) none)) _
    rw [e2]
    refine ⟨by rw [List.length_append, List.length_map, List.length_map, List.length_take, List.length_drop, sizeLine_eq]; show _ + 2 + _ ≤ _; omega, ?_⟩
    walk_at "u"
    refine ⟨by show 2 ≤ 1000; decide, ?_⟩
    obtain ⟨bx, tx, sx, lx⟩ := oddN_bad x hx
    refine q (.lst (((zs.take p).map Dt.str ++ [x, .int 5]) ++ (zs.drop p).map Dt.str)) x ⟨⟨_, .ty (n := "list") rfl, kd _ (by decide)⟩, .inr ⟨_, rfl, ?_, zs.take p, .int 5 :: (zs.drop p).map Dt.str, by rw [List.append_assoc]; rfl, fun z h => hz z (List.mem_of_mem_take h), tx, lx, bx⟩⟩ ⟨"list", by decide, .ty rfl⟩ (.inl sx)
    rw [List.length_append, List.length_append, List.length_map, List.length_map, List.length_take, List.length_drop]
    show _ + 2 + _ ≤ 1000
    omega
end
end KX
namespace KX
open PySem PySem.Spec PyProof.Rows L2 UL
local macro_rules | `(tactic| walk_at "u") => `(tactic| repeat (first | ((with_reducible refine' wVar_of ?ke ?_); (case ke => rfl)) | with_reducible refine' wC_of ?_ | with_reducible refine' wB_of ?_ | with_reducible refine' wAnd_of ?_ | with_reducible refine' wOr_of ?_ | with_reducible refine' wNot_of ?_ | with_reducible refine' w2_of ?_ | with_reducible refine' w1_of ?_ | with_reducible refine' wCons_of ?_ | with_reducible refine' wNil_of ?_ | ((with_reducible refine' kIxT_of ?ke ?_); (case ke => rfl)) | with_reducible refine' wSeq_of ?_ | with_reducible refine' wSet_of ?_ | ((with_reducible refine' wSetF_of ?ke ?_); (case ke => rfl)) | ((with_reducible refine' wRetO_of ?ke ?_); (case ke => rfl)) | ((with_reducible refine' wSetNew_of ?hs ?_); (case hs => rfl)) | ((with_reducible refine' wPutN_of ?he ?_); (case he => rfl)) | ((with_reducible refine' wPutI_of ?he ?_); (case he => rfl)) | ((with_reducible refine' wApp_of ?ke ?_); (case ke => rfl)) | with_reducible refine' wRet_of ?_ | with_reducible refine' wRetF_of ?_ | with_reducible refine' wIfS_of ?_ | with_reducible refine' wForS_of ?_ | with_reducible refine' wItemsL_of ?_ | with_reducible refine' wItemsT_of ?_ | with_reducible refine' wLc_of ?_ | with_reducible refine' wAndV_of ?_ | with_reducible refine' wOrV_of ?_ | with_reducible refine' wNotV_of ?_ | with_reducible refine' wIf_of ?_ | with_reducible refine' wGet2_of ?_ | with_reducible refine' wChain_of ?_ | with_reducible refine' wExpr_of ?_ | with_reducible refine' kLenL_of ?_ | with_reducible refine' kLenT_of ?_ | ((with_reducible refine' kFld_of ?ke ?_); (case ke => rfl)) | with_reducible refine' wLc2_of ?_ | with_reducible refine' wNext_of ?_ | ((with_reducible refine' kZip2_of ?k1 ?k2 ?_); (case k1 => rfl); (case k2 => rfl)) | ((with_reducible refine' kZip3_of ?k1 ?k2 ?k3 ?_); (case k1 => rfl); (case k2 => rfl); (case k3 => rfl)) | with_reducible refine' kEnumT_of ?_ | with_reducible refine' wPart_of ?_ | with_reducible refine' wNoPart_of ?_ | with_reducible refine' kTupOfL_of ?_ | with_reducible refine' wEndP_of ?_ | ((with_reducible refine' wNewP_of ?ke ?_); (case ke => rfl)) | with_reducible refine' kI_of ?_ | ((with_reducible refine' wRev_of ?ke ?_); (case ke => rfl)) | with_reducible refine' kNeI_of ?_ | with_reducible refine' kEqI_of ?_ | with_reducible refine' kNeS_of ?_ | with_reducible refine' kEqS_of ?_ | with_reducible refine' wDropX_of ?_ | with_reducible refine' wSetX_of ?_ | with_reducible refine' wRetX_of ?_ | with_reducible refine' wRaise_of ?_ | with_reducible refine' wTry_of ?_ | with_reducible refine' wSlT_of ?_ | with_reducible refine' wSlQ_of ?_ | with_reducible refine' kNeg_of ?_ | with_reducible refine' kLenQ_of ?_ | with_reducible refine' kLstT_of ?_ | with_reducible refine' kLstL_of ?_ | ((with_reducible refine' wSetNewK_of ?hs ?_); (case hs => rfl)) | ((with_reducible refine' wPutK_of ?he ?_); (case he => rfl)) | ((with_reducible refine' wIns_of ?he ?_); (case he => rfl)) | ((with_reducible refine' wPop_of ?he ?_); (case he => rfl))))
section
variable {P : Program} {w : World} {K : PySem.W.Frag} {mg : Str → Option Value} {base : Heap} {TT : List NdefX.NTab} {CD CW : Addr} {H H' : Hp}

theorem pw_rising : ∀ {x : Str} {r : List Str}, (x :: r).Pairwise (fun a b => a.cps.toList ≤ b.cps.toList) → risingS x r = true
  | x, [], _ => rfl
  | x, y :: r, h => by
    obtain ⟨h1, h2⟩ := List.pairwise_cons.mp h
    unfold risingS
    rw [pw_rising h2, ltCps_eq, decide_eq_false (List.not_lt.mpr (h1 y (List.mem_cons_self ..)))]
    rfl
theorem pw_sorted : ∀ {l : List Str}, l.Pairwise (fun a b => a.cps.toList ≤ b.cps.toList) → sortedS l = true
  | [], _ => rfl
  | x :: r, h => pw_rising h
theorem sorted_filter {l : List Str} {p : Str → Bool} (h : sortedS l = true) : sortedS (l.filter p) = true := pw_sorted ((sorted_pw h).sublist List.filter_sublist)
theorem kSortSet_of {ys : List Str} {P : List Dt → Prop} (l : ys.length < 64) (h : ∀ zs : List Str, sortedS zs = true → zs.Nodup → (∀ z, z ∈ zs ↔ z ∈ ys) → P (zs.map Dt.str)) : kSortSet (.lst (ys.map Dt.str)) P := ⟨ys, strs_map _, l, h⟩
def wDue14 : List Dt → (List Dt → Prop) → Prop := fun ds P => ∃ (t : Int) (ys vs : List Str), ds = [.int t, .lst (ys.map Dt.str), .lst (vs.map Dt.str)] ∧ ys.length ≤ 30 ∧ vs.length ≤ 30 ∧ sortedS ys = true ∧ ys.Nodup ∧ ∀ zs : List Str, sortedS zs = true → zs.Nodup → (∀ z, z ∈ zs ↔ dueG t (z ∈ ys) (z ∈ vs)) → P (zs.map Dt.str)
theorem sc_due14 : FnScope ["_law_turn", "_law_one", "_law_two", "_law_word"] ["_law_turn", "_law_one", "_law_two"] (defScope s_law_due) := ⟨rfl, rfl, rfl, by decide +kernel, rfl, by decide +kernel, by decide +kernel⟩
theorem ok_due14 {f : Addr} {fd : FuncData} (F : Fun K "_law_due" "_law_due" s_law_due f fd) (B : Blt mg) : FnOk P w K mg base CX0 1 f fd ["_law_turn", "_law_one", "_law_two"] (spF K TT wDue14) := by
  refine fn_f F sc_due14 (by decide) (fun ds Q ⟨_, _, _, e, _⟩ => by rw [e]; rfl) fun cdv A outer s H E hr => ?_
  refine ⟨_, _, ([], []), ([], []), (pss_cons (ps_if (pt_cmpR op_eq (pv 0) pe_int (nomark _)) (pss_one (ps_ret (pe_callB (VT.cr_sortedT rfl) (by rfl) B.sorted (by decide +kernel) (pa_cons (pe_callTy (VT.cr_setT rfl) (by rfl) B.set (by decide +kernel) (pa_cons (pe_op op_cat (pv 1) (pv 2)) pa_nil)) pa_nil)))) pss_nil)
      (pss_cons (ps_if (pt_cmpR op_eq (pv 0) pe_int (nomark _)) (pss_one (ps_ret (pe_lc (own := [("_law_word", 3)]) (wi := (iList K (tVar 1))) (g := (gName 3)) (tt := (tTest (tOp (rIn K false) (tVar 3) (tVar 2)))) (te := (tVar 3)) rfl sc_due14.nd (pi_list (pv 1)) (blkOk_by (N := ["_law_turn", "_law_one", "_law_two", "_law_word"]) (sc := defScope s_law_due) (by decide +kernel)) (fun _ _ _ _ _ => (pg_name (i := 3) sc_due14.nd rfl (.inl rfl))) (fun _ _ _ _ _ => (pts_one (pt_cmpR op_in_seq (pv 3) (pv 2) (by rfl)))) (fun _ _ _ _ _ => (pv 3))))) pss_nil)
      (pss_one (ps_ret (pe_lc (own := [("_law_word", 3)]) (wi := (iList K (tVar 1))) (g := (gName 3)) (tt := (tTest (tOp (rIn K true) (tVar 3) (tVar 2)))) (te := (tVar 3)) rfl sc_due14.nd (pi_list (pv 1)) (blkOk_by (N := ["_law_turn", "_law_one", "_law_two", "_law_word"]) (sc := defScope s_law_due) (by decide +kernel)) (fun _ _ _ _ _ => (pg_name (i := 3) sc_due14.nd rfl (.inl rfl))) (fun _ _ _ _ _ => (pts_one (pt_cmpR op_notIn_seq (pv 3) (pv 2) (by rfl)))) (fun _ _ _ _ _ => (pv 3))))))), (ss_seq (ss_if (st_tTest (se_op oS_eq (SE.b (se_var 0)) (SE.b (se_int (i := 0))))) (ss_retF (sf_sortset (SE.b (SF.e (sf_cat (SE.b (se_var 1)) (SE.b (se_var 2))))))) ss_nil)
      (ss_seq (ss_if (st_tTest (se_op oS_eq (SE.b (se_var 0)) (SE.b (se_int (i := 1))))) (ss_retF (sf_lc (vs := [3]) (si_listS (se_var 1)) (sg_name 3) (st_tTest (se_op (oS_in false) (SE.b (se_var 3)) (SE.b (se_var 2)))) (se_var 3))) ss_nil)
      (ss_retF (sf_lc (vs := [3]) (si_listS (se_var 1)) (sg_name 3) (st_tTest (se_op (oS_in true) (SE.b (se_var 3)) (SE.b (se_var 2)))) (se_var 3))))), ?_⟩
  rintro ds P ⟨t, ys, vs, rfl, ly, lv, so, nd, q⟩
  walk_at "u"
  show if decide (t = 0) = true then _ else _
  by_cases h0 : t = 0
  · rw [decide_eq_true h0]
    refine iteT ?_
    walk_at "u"
    refine ⟨by rw [List.length_map, List.length_map, sizeLine_eq]; omega, ?_⟩
    rw [← List.map_append]
    refine kSortSet_of (by rw [List.length_append]; omega) fun zs so nd hz => q zs so nd fun z => ?_
    rw [hz z, List.mem_append]
    unfold dueG
    rw [if_pos h0]
  · rw [decide_eq_false h0]
    refine iteF ?_
    walk_at "u"
    show if decide (t = 1) = true then _ else _
    by_cases h1 : t = 1
    · rw [decide_eq_true h1]
      refine iteT ?_
      walk_at "u"
      refine ⟨by rw [List.length_map]; omega, ?_⟩
      refine wComp_map (fun y : Str => decide (y ∈ vs)) Dt.str ys (fun y hy => ?_) ?_
      · refine ⟨_, rfl, fun Q q => ?_, fun _ Q q => q⟩
        walk_at "u"
        exact kIn_strsL (neg := false) q
      rw [List.nil_append]
      refine q _ (sorted_filter so) (nd.filter _) fun z => ?_
      rw [List.mem_filter]
      unfold dueG
      rw [if_neg h0, if_pos h1, decide_eq_true_eq]
    · rw [decide_eq_false h1]
      refine iteF ?_
      walk_at "u"
      refine ⟨by rw [List.length_map]; omega, ?_⟩
      refine wComp_map (fun y : Str => !decide (y ∈ vs)) Dt.str ys (fun y hy => ?_) ?_
      · refine ⟨_, rfl, fun Q q => ?_, fun _ Q q => q⟩
        walk_at "u"
        exact kIn_strsL (neg := true) q
      rw [List.nil_append]
      refine q _ (sorted_filter so) (nd.filter _) fun z => ?_
      rw [List.mem_filter]
      unfold dueG
      rw [if_neg h0, if_neg h1]
      simp

/-! _law_all_hold -/
/-- the deeds at ps and at qs have the names of the rows at ms -/
def Hold (CD : Addr) (H : Hp) (ps qs ms : List Addr) : Prop := ∀ (i : Nat) p q m, ps[i]? = some p → qs[i]? = some q → ms[i]? = some m → ∃ row as bs : List Str, H m = some (.lst (row.map V.str)) ∧ sortedS row = true ∧ row.Nodup ∧ row.length ≤ 30 ∧ DdsX CD H p as ∧ (∀ z, z ∈ as ↔ z ∈ row) ∧ DdsX CD H q bs ∧ ∀ z, z ∈ bs ↔ z ∈ row
theorem Hold.kp {ps qs ms : List Addr} (k : Kp H H') (h : Hold CD H ps qs ms) : Hold CD H' ps qs ms := fun i p q m e1 e2 e3 =>
  let ⟨row, as, bs, h1, h2, h3, h4, h5, h6, h7, h8⟩ := h i p q m e1 e2 e3
  ⟨row, as, bs, k _ _ nt_lst h1, h2, h3, h4, h5.kp k, h6, h7.kp k, h8⟩
def spHold (CD : Addr) : Sp := fun vs H Q _ => ∃ (lh lo lm : Addr) (ps qs ms : List Addr), vs = [.ref lh, .ref lo, .ref lm] ∧ H lh = some (.lst (ps.map V.ref)) ∧ H lo = some (.lst (qs.map V.ref)) ∧ H lm = some (.lst (ms.map V.ref)) ∧ ps.length = 3 ∧ qs.length = 3 ∧ ms.length = 3 ∧ Hold CD H ps qs ms ∧ ∀ H', Kp H H' → Q (.bl true) H'
theorem sc_hold : FnScope ["_law_held", "_law_others", "_law_model", "_law_k"] ["_law_held", "_law_others", "_law_model"] (defScope s_law_all_hold) := ⟨rfl, rfl, rfl, by decide +kernel, rfl, by decide +kernel, by decide +kernel⟩
theorem at3 {α : Type} {f : α → V} {xs : List α} {i : Nat} {x : α} (e : xs[i]? = some x) : L2.atI (xs.map f) ((i : Nat) : Int) = some (f x) := atI_nat (by rw [List.getElem?_map, e]; rfl)
theorem ok_hold {f fS rR rN rT rM : Addr} {fd gS sR sN sT sM : FuncData} (F : Fun K "_law_all_hold" "_law_all_hold" s_law_all_hold f fd) (B : Blt mg) (D : DdsD K mg CD rR rN rT rM sR sN sT sM) (DS : Cal K mg "_law_same" s_law_same ["_law_told", "_law_due_here"] fS gS) (GS : FnOk P w K mg base CX0 5 fS gS ["_law_told", "_law_due_here"] (spU K [] (wSm 4))) : FnOk P w K mg base CX0 7 f fd ["_law_held", "_law_others", "_law_model"] (spHold CD) := by
  have GM : FnOk P w K mg base CX0 1 rM sM ["self"] (spDNames CD) := ok_dnames D.FM B D.TD
  refine F.ok sc_hold (fun vs H Q E h => ?_) (fun cdv A outer s H vs Q E hr h => ?_)
  · obtain ⟨lh, lo, lm, ps, qs, ms, rfl, _⟩ := h
    rfl
  · obtain ⟨lh, lo, lm, ps, qs, ms, rfl, eh, eo, em, l1, l2, l3, hh, q⟩ := h
    refine ⟨_, pss_cons (ps_for PassesOwn.never rfl (pi_range1 rfl B.range (pa_cons pe_int pa_nil)) (pg_name (i := 3) sc_hold.nd rfl (.inl rfl))
        (pss_one (ps_if (PW.pt (pw_or (pt_not (pt_val (pe_call GS (hr.mono (by decide)) (by rfl) DS.g DS.F.kp DS.b .nil pass0 (pa_cons (pe_meth0 (pe_ix (r := rIxL K) ix_list (pv 0) (pv 3) (fun _ _ => rfl)) D.TD.cl D.MM GM (hr.mono (by decide)) D.bM .nil pass0) (pa_cons (pe_ix (r := rIxL K) ix_list (pv 2) (pv 3) (fun _ _ => rfl)) pa_nil)))))
          (pw_or1 (pt_not (pt_val (pe_call GS (hr.mono (by decide)) (by rfl) DS.g DS.F.kp DS.b .nil pass0 (pa_cons (pe_meth0 (pe_ix (r := rIxL K) ix_list (pv 1) (pv 3) (fun _ _ => rfl)) D.TD.cl D.MM GM (hr.mono (by decide)) D.bM .nil pass0) (pa_cons (pe_ix (r := rIxL K) ix_list (pv 2) (pv 3) (fun _ _ => rfl)) pa_nil)))))))) (pss_one (ps_ret pe_bl)) pss_nil)))
      (pss_one (ps_ret pe_bl)), ?_⟩
    refine ⟨3, rfl, by decide, by decide, ?_⟩
    refine for_it walk_range (fun i σ H2 => ∃ v3 : Option V, σ = [some (.ref lh), some (.ref lo), some (.ref lm), v3] ∧ Kp H H2) ⟨none, rfl, Kp.refl⟩ (fun _ _ _ _ _ => True.intro) ?_ ?_
    · rintro i x σ HB0 HB hi ⟨v3, rfl, kB⟩ ⟨rfl, hx⟩
      have hi : i < 3 := hi
      obtain rfl : x = .int ((i : Nat) : Int) := by rw [hx]; show V.int (0 + (i : Nat)) = _; rw [Int.zero_add]
      have e1 : ps[i]? = some ps[i] := List.getElem?_eq_getElem (by omega)
      have e2 : qs[i]? = some qs[i] := List.getElem?_eq_getElem (by omega)
      have e3 : ms[i]? = some ms[i] := List.getElem?_eq_getElem (by omega)
      generalize ps[i] = p1 at e1
      generalize qs[i] = p2 at e2
      generalize ms[i] = m at e3
      obtain ⟨row, as, bs, h1, so, ndr, lr, hX, ha, hY, hb⟩ := (hh.kp kB) i p1 p2 m e1 e2 e3
      have nda : as.Nodup := let ⟨_, _, _, _, n⟩ := hX; n
      have ndb : bs.Nodup := let ⟨_, _, _, _, n⟩ := hY; n
      have la := len_le nda ha
      have lb := len_le ndb hb
      obtain ⟨dx, d, ex, _, _⟩ := id hX
      refine ⟨_, rfl, _, rfl, lh, _, _, _, rfl, rfl, .inl (.inl (kB _ _ nt_lst eh)), at3 e1, p1, dx, _, rfl, ex, dfs_out d _ (by decide +kernel), _, as, rfl, hX.at_, by omega, fun l xs pm so2 hl => ?_⟩
      have k1 : Same HB (upd HB l (.lst (xs.map V.str))) := same_new hl
      obtain rfl : xs = row := sorted_one so2 so (pm.nodup_iff.mpr nda) ndr fun z => by rw [pm.mem_iff, ha z]
      refine ⟨_, rfl, _, rfl, lm, _, _, _, rfl, rfl, .inl (.inl (k1 _ _ (kB _ _ nt_lst em))), at3 e3, ?_⟩
      refine tN ?_
      refine same_v (E := L2.E0) upd_same (k1 _ _ h1) (by omega) fun HC kC => ?_
      have kBC := (Kp.of k1).trans kC
      refine ⟨_, rfl, ?_⟩
      obtain ⟨dy, d2, ey, _, _⟩ := id (hY.kp kBC)
      refine ⟨_, rfl, _, rfl, lo, _, _, _, rfl, rfl, .inl (.inl (kBC _ _ nt_lst (kB _ _ nt_lst eo))), at3 e2, p2, dy, _, rfl, ey, dfs_out d2 _ (by decide +kernel), _, bs, rfl, (hY.kp kBC).at_, by omega, fun l' xs' pm' so3 hl' => ?_⟩
      have k2 : Same HC (upd HC l' (.lst (xs'.map V.str))) := same_new hl'
      obtain rfl : xs' = xs := sorted_one so3 so (pm'.nodup_iff.mpr ndb) ndr fun z => by rw [pm'.mem_iff, hb z]
      refine ⟨_, rfl, _, rfl, lm, _, _, _, rfl, rfl, .inl (.inl (k2 _ _ (kBC _ _ nt_lst (kB _ _ nt_lst em)))), at3 e3, ?_⟩
      refine tN ?_
      refine same_v (E := L2.E0) upd_same (k2 _ _ (kBC _ _ nt_lst h1)) (by omega) fun HD kD => ?_
      refine ⟨_, rfl, ?_⟩
      refine iteF ?_
      exact ⟨_, rfl, kB.trans (kBC.trans ((Kp.of k2).trans kD))⟩
    · rintro σ H2 ⟨v3, rfl, k⟩
      exact q H2 k
end
end KX
namespace KX
open PySem PySem.Spec PyProof.Rows L2 UL
local macro_rules | `(tactic| walk_at "u") => `(tactic| repeat (first | ((with_reducible refine' wVar_of ?ke ?_); (case ke => rfl)) | with_reducible refine' wC_of ?_ | with_reducible refine' wB_of ?_ | with_reducible refine' wAnd_of ?_ | with_reducible refine' wOr_of ?_ | with_reducible refine' wNot_of ?_ | with_reducible refine' w2_of ?_ | with_reducible refine' w1_of ?_ | with_reducible refine' wCons_of ?_ | with_reducible refine' wNil_of ?_ | ((with_reducible refine' kIxT_of ?ke ?_); (case ke => rfl)) | with_reducible refine' wSeq_of ?_ | with_reducible refine' wSet_of ?_ | ((with_reducible refine' wSetF_of ?ke ?_); (case ke => rfl)) | ((with_reducible refine' wRetO_of ?ke ?_); (case ke => rfl)) | ((with_reducible refine' wSetNew_of ?hs ?_); (case hs => rfl)) | ((with_reducible refine' wPutN_of ?he ?_); (case he => rfl)) | ((with_reducible refine' wPutI_of ?he ?_); (case he => rfl)) | ((with_reducible refine' wApp_of ?ke ?_); (case ke => rfl)) | with_reducible refine' wRet_of ?_ | with_reducible refine' wRetF_of ?_ | with_reducible refine' wIfS_of ?_ | with_reducible refine' wForS_of ?_ | with_reducible refine' wItemsL_of ?_ | with_reducible refine' wItemsT_of ?_ | with_reducible refine' wLc_of ?_ | with_reducible refine' wAndV_of ?_ | with_reducible refine' wOrV_of ?_ | with_reducible refine' wNotV_of ?_ | with_reducible refine' wIf_of ?_ | with_reducible refine' wGet2_of ?_ | with_reducible refine' wChain_of ?_ | with_reducible refine' wExpr_of ?_ | with_reducible refine' kLenL_of ?_ | with_reducible refine' kLenT_of ?_ | ((with_reducible refine' kFld_of ?ke ?_); (case ke => rfl)) | with_reducible refine' wLc2_of ?_ | with_reducible refine' wNext_of ?_ | ((with_reducible refine' kZip2_of ?k1 ?k2 ?_); (case k1 => rfl); (case k2 => rfl)) | ((with_reducible refine' kZip3_of ?k1 ?k2 ?k3 ?_); (case k1 => rfl); (case k2 => rfl); (case k3 => rfl)) | with_reducible refine' kEnumT_of ?_ | with_reducible refine' wPart_of ?_ | with_reducible refine' wNoPart_of ?_ | with_reducible refine' kTupOfL_of ?_ | with_reducible refine' wEndP_of ?_ | ((with_reducible refine' wNewP_of ?ke ?_); (case ke => rfl)) | with_reducible refine' kI_of ?_ | ((with_reducible refine' wRev_of ?ke ?_); (case ke => rfl)) | with_reducible refine' kNeI_of ?_ | with_reducible refine' kEqI_of ?_ | with_reducible refine' kNeS_of ?_ | with_reducible refine' kEqS_of ?_ | with_reducible refine' wDropX_of ?_ | with_reducible refine' wSetX_of ?_ | with_reducible refine' wRetX_of ?_ | with_reducible refine' wRaise_of ?_ | with_reducible refine' wTry_of ?_ | with_reducible refine' wSlT_of ?_ | with_reducible refine' wSlQ_of ?_ | with_reducible refine' kNeg_of ?_ | with_reducible refine' kLenQ_of ?_ | with_reducible refine' kLstT_of ?_ | with_reducible refine' kLstL_of ?_ | ((with_reducible refine' wSetNewK_of ?hs ?_); (case hs => rfl)) | ((with_reducible refine' wPutK_of ?he ?_); (case he => rfl)) | ((with_reducible refine' wIns_of ?he ?_); (case he => rfl)) | ((with_reducible refine' wPop_of ?he ?_); (case he => rfl))))
section
variable {P : Program} {w : World} {K : PySem.W.Frag} {mg : Str → Option Value} {base : Heap} {TT : List NdefX.NTab} {CD CW : Addr} {H H' : Hp}
def wTail : WS := fun ρ P => ∃ (ns : List Int) (zs : List Str) (rows : List (List Str)), ρ = [some (.sql ns), none, some (.lst (zs.map Dt.str)), some (.lst (rows.map fun r => Dt.lst (r.map Dt.str))), none, none, none, none, none, none, none, none, none, none, none, none, none, none, none, none] ∧ 1 ≤ zs.length ∧ zs.length ≤ 8 ∧ (∀ z ∈ zs, NameOk z) ∧ rows.length = 3 ∧ (∀ r ∈ rows, sortedS r = true ∧ r.Nodup ∧ ∀ z ∈ r, z ∈ zs) ∧ P (.rt (.bl true))
def wLaw14 : List Dt → (Dt → Prop) → Prop := fun ds P => ∃ ns : List Int, ds = [.sql ns] ∧ ns.length ≤ 63 ∧ P (.bl true)
/-- the law's defs, by their places -/
structure OwnL (K : PySem.W.Frag) (mg : Str → Option Value) (fP fC fD fN fS fI fU fR fT fH : Addr) (gP gC gD gN gS gI gU gR gT gH : FuncData) : Prop where
  pool : Cal K mg "_law_pool" s_law_pool ["_law_cell_here"] fP gP
  cell : Cal K mg "_law_cell" s_law_cell ["_law_script", "_law_k"] fC gC
  draw : Cal K mg "_law_draw" s_law_draw ["_law_pool_here", "_law_many"] fD gD
  names : Cal K mg "_law_names" s_law_names ["_law_pool_here", "_law_many"] fN gN
  same : Cal K mg "_law_same" s_law_same ["_law_told", "_law_due_here"] fS gS
  pick : Cal K mg "_law_pick" s_law_pick ["_law_pool_here", "_law_names_here"] fI gI
  due : Cal K mg "_law_due" s_law_due ["_law_turn", "_law_one", "_law_two"] fU gU
  refu : Cal K mg "_law_refused" s_law_refused ["_law_pool_here", "_law_row"] fR gR
  tried : Cal K mg "_law_tried" s_law_tried ["_law_deeds", "_law_turn", "_law_other"] fT gT
  hold : Cal K mg "_law_all_hold" s_law_all_hold ["_law_held", "_law_others", "_law_model"] fH gH
def wSmA : List Dt → (Dt → Prop) → Prop := fun ds P => wSm 4 ds P ∨ wSmW ds P
theorem rs_rows {ok : Addr → Prop} : ∀ {rows : List (List Str)} {us : List V}, Rs K ok H (rows.map fun r => Dt.lst (r.map Dt.str)) us → ∃ ms : List Addr, us = ms.map V.ref ∧ ms.length = rows.length ∧ ∀ (i : Nat) m r, ms[i]? = some m → rows[i]? = some r → H m = some (.lst (r.map V.str))
  | [], us, r => by cases r; exact ⟨[], rfl, rfl, fun i m r e => by simp at e⟩
  | r :: rows, us, h => by
    cases h with
    | cons a t =>
      obtain ⟨ms, rfl, l, hm⟩ := rs_rows t
      cases a with
      | @lst a us _ e _ t =>
        obtain rfl := t.strs (strs_map _)
        exact ⟨a :: ms, rfl, by rw [List.length_cons, List.length_cons, l], fun i m r' e1 e2 => by
          cases i with
          | zero => cases e1; cases e2; exact e
          | succ i => exact hm i m r' e1 e2⟩
theorem fin_kpx {C : Ct} {lm : Addr} (hT : C.T = []) (h : Fin C H) (hl : ∀ a, C.LP a → PlAt H a) (f : Fre C.H0 lm) (nl : ¬ C.LP lm) (hd : ∀ a, Fre H a → Fre C.H0 a) (k : ∀ a o, NT o → a ≠ lm → H a = some o → H' a = some o) : Fin C H' :=
  ⟨fun a o nt e n => k a o nt (fun z => f o nt (z ▸ e)) (h.keep a o nt e n), fun a fa o nt e => by
    have ne : a ≠ lm := fun z => f o nt (z ▸ e)
    exact hd a (fun o' nt' e' => fa o' nt' (k a o' nt' ne e')) o nt e, fun a q => let ⟨x, y, z, e⟩ := hl a q; ⟨x, y, z, k _ _ nt_lst (fun z => nl (z ▸ q)) e⟩, by rw [hT]; exact fun _ h => nomatch h⟩

theorem rows_paired {A : List Str → Prop} : ∀ {xs : List Nat} {ds : List Dt}, Paired (fun _ d => ∃ r : List Str, d = Dt.lst (r.map Dt.str) ∧ A r) xs ds → ∃ rows : List (List Str), ds = rows.map (fun r => Dt.lst (r.map Dt.str)) ∧ rows.length = xs.length ∧ ∀ r ∈ rows, A r
  | [], [], .nil => ⟨[], rfl, rfl, fun r h => nomatch h⟩
  | _ :: _, _ :: _, .cons ⟨r, e, a⟩ t => by
    obtain ⟨rows, rfl, l, h⟩ := rows_paired t
    exact ⟨r :: rows, by rw [e]; rfl, by rw [List.length_cons, List.length_cons, l], fun x hx => by
      rcases List.mem_cons.mp hx with rfl | hx
      · exact a
      · exact h x hx⟩
/-- such deeds stand at ps: those of the rows -/
def DdAll (CD : Addr) (H : Hp) (ps : List Addr) (rows : List (List Str)) : Prop := ∀ (i : Nat) p r, ps[i]? = some p → rows[i]? = some r → ∃ as, DdsX CD H p as ∧ ∀ z, z ∈ as ↔ z ∈ r
theorem DdAll.kp {ps : List Addr} {rows : List (List Str)} (k : Kp H H') (h : DdAll CD H ps rows) : DdAll CD H' ps rows := fun i p r e1 e2 => let ⟨as, a, b⟩ := h i p r e1 e2; ⟨as, a.kp k, b⟩
theorem DdAll.snoc {ps : List Addr} {rows : List (List Str)} {p : Addr} {as r : List Str} (h : DdAll CD H ps rows) (e : rows[ps.length]? = some r) (d : DdsX CD H p as) (m : ∀ z, z ∈ as ↔ z ∈ r) : DdAll CD H (ps ++ [p]) rows := fun i p' r' e1 e2 => by
  by_cases c : i < ps.length
  · rw [List.getElem?_append_left c] at e1
    exact h i p' r' e1 e2
  · have hi := (List.getElem?_eq_some_iff.mp e1).1
    rw [List.length_append] at hi
    have hi : i < ps.length + 1 := hi
    obtain rfl : i = ps.length := by omega
    rw [List.getElem?_append_right (Nat.le_refl _), Nat.sub_self] at e1
    cases e1
    rw [e] at e2
    cases e2
    exact ⟨as, d, m⟩
theorem nd_snocA {ps : List Addr} {p : Addr} (h : ps.Nodup) (n : p ∉ ps) : (ps ++ [p]).Nodup := by
  rw [List.nodup_append]
  exact ⟨h, by simp, fun x hx y hy e => n (by rw [← List.mem_singleton.mp hy, ← e]; exact hx)⟩

theorem pL_shaped {zs : List Str} (h : ∀ z ∈ zs, NameOk z) : SeqAt.shaped (pL zs) = true := by
  unfold SeqAt.shaped
  have e2 : (pL zs).depth ≤ 64 := Nat.le_trans (pL_dep zs) (by decide)
  rw [pL_lay h, decide_eq_true e2]
  rfl
theorem ne_flat {Q : VK} {a b : Addr} {ys : List Str} (k1 : ∀ z ∈ ys, NameOk z) (ha : H a = some (.lst (ys.map V.str))) (hb : H b = some (.lst (ys.map V.str))) (q : Q (.bl false) H) : rNeD K (.ref a) (.ref b) H Q := by
  have r : ∀ {c : Addr}, H c = some (.lst (ys.map V.str)) → R K (fun _ => True) H (Dt.lst (ys.map Dt.str)) (.ref c) := fun e => .lst e True.intro (Rs.ofStrs _)
  refine ⟨pL ys, pL ys, (r ha).dp (pL_py ..), (r hb).dp (pL_py ..), pL_shaped k1, pL_shaped k1, ?_⟩
  rw [eqv_self _ (pL_lay k1)]
  exact q

theorem DdsX.sx2 {p q : Addr} {zs ws : List Str} (h : DdsX CD H q ws) (d : DdsX CD H p zs) (n : q ≠ p) (k : SameX p H H') : DdsX CD H' q ws := d.sx n h k
theorem dueG_or {t : Int} {a b : Prop} (h : dueG t a b) : a ∨ b := by
  unfold dueG at h
  split at h
  · exact h
  · split at h
    · exact .inl h.1
    · exact .inl h.1
theorem ixN_n {n j : Nat} (hj : j < n) : ixN n (j : Int) = some j := by
  have := atI_nat (xs := List.range n) (j := j) (v := j) (by simp [hj])
  unfold L2.atI at this
  rw [List.length_range] at this
  cases e : ixN n (j : Int) with
  | none => rw [e] at this; cases this
  | some k =>
    rw [e] at this
    have this : (List.range n)[k]? = some j := this
    have := List.getElem?_eq_some_iff.mp this
    obtain ⟨h, e2⟩ := this
    rw [List.getElem_range] at e2
    rw [e2]
theorem dd_R {p : Addr} {as : List Str} (h : DdsX CD H p as) : R K (fun _ => True) H (dDd CD as) (.ref p) := let ⟨dx, d, e, ed, _⟩ := h; .obj e rfl (fun f hf => dfs_out d f (by simpa using hf)) (.cons (dk_R ed True.intro) .nil)
theorem smA_of {x : Dt} {P : Dt → Prop} (h : SmX x) (q : P (.bl true)) : wSmA [.tup [.str "bad", x], .tup [.str "bad", x]] P := by
  rcases h with h | rfl
  · refine .inl ⟨_, rfl, ⟨by show 2 ≤ 1000; decide, fun y hy => ?_⟩, q⟩
    simp only [List.mem_cons, List.not_mem_nil, or_false] at hy
    rcases hy with rfl | rfl
    · exact True.intro
    · exact h
  · exact .inr ⟨"bad", "a", 1, rfl, q⟩
theorem list20 {α : Type} : ∀ {xs : List α}, xs.length = 20 → ∃ a0 a1 a2 a3 a4 a5 a6 a7 a8 a9 a10 a11 a12 a13 a14 a15 a16 a17 a18 a19, xs = [a0, a1, a2, a3, a4, a5, a6, a7, a8, a9, a10, a11, a12, a13, a14, a15, a16, a17, a18, a19]
  | [a0, a1, a2, a3, a4, a5, a6, a7, a8, a9, a10, a11, a12, a13, a14, a15, a16, a17, a18, a19], _ => ⟨a0, a1, a2, a3, a4, a5, a6, a7, a8, a9, a10, a11, a12, a13, a14, a15, a16, a17, a18, a19, rfl⟩
theorem sc_law14 : FnScope ["_law_script", "_law_pool_here", "_law_names_here", "_law_model", "_law_first", "_law_held", "_law_others", "_law_copies", "_law_cell_here", "_law_at", "_law_turn", "_law_way", "_law_row", "_law_due_here", "_law_second", "_law_bad", "_law_told", "_law_k", "_law_words", "_law_deeds"] ["_law_script"] (defScope s_law) := ⟨rfl, rfl, rfl, by decide +kernel, rfl, by decide +kernel, by decide +kernel⟩
theorem ok_law14 {f : Addr} {fd : FuncData} {fP fC fD fN fS fI fU fR fT fH : Addr} {gP gC gD gN gS gI gU gR gT gH : FuncData} {rR rN rT rM : Addr} {sR sN sT sM : FuncData} {dv rI : Addr} {sI : FuncData} (F : Fun K "law" "law" s_law f fd) (B : Blt mg) (N : Kin mg) (D : DdsD K mg CD rR rN rT rM sR sN sT sM) (J : DdI K CD dv rI sI) (kd : NoDs K CD) (OD : OwnL K mg fP fC fD fN fS fI fU fR fT fH gP gC gD gN gS gI gU gR gT gH) (GDh : FnOk P w K mg base CX0 1 fD gD ["_law_pool_here", "_law_many"] spDraw) (GP : FnOk P w K mg base CX0 1 fP gP ["_law_cell_here"] spPool) (GZ : FnOk P w K mg base CX0 1 fC gC ["_law_script", "_law_k"] (spU K [] wCell)) (GD : FnOk P w K mg base CX0 1 fD gD ["_law_pool_here", "_law_many"] (spP K [] wDraw)) (GN : FnOk P w K mg base CX0 2 fN gN ["_law_pool_here", "_law_many"] (spP K [] wNamesU)) (GS : FnOk P w K mg base CX0 5 fS gS ["_law_told", "_law_due_here"] (spU K [] (wSm 4))) (GI : FnOk P w K mg base CX0 2 fI gI ["_law_pool_here", "_law_names_here"] (spPF K [] wPick)) (GU : FnOk P w K mg base CX0 1 fU gU ["_law_turn", "_law_one", "_law_two"] (spF K [] wDue14)) (GR : FnOk P w K mg base CX0 3 fR gR ["_law_pool_here", "_law_row"] (spP K [] (wRefu K CD))) (GT : FnOk P w K mg base CX0 9 fT gT ["_law_deeds", "_law_turn", "_law_other"] (spTri K CD)) (GH : FnOk P w K mg base CX0 7 fH gH ["_law_held", "_law_others", "_law_model"] (spHold CD)) (GB : FnOk P w K mg base CX0 9 fT gT ["_law_deeds", "_law_turn", "_law_other"] (spU K [] (wTriB K CD CW))) (GW : FnOk P w K mg base CX0 3 fS gS ["_law_told", "_law_due_here"] (spU K [] wSmW)) (GSA : FnOk P w K mg base CX0 5 fS gS ["_law_told", "_law_due_here"] (spU K [] wSmA)) : FnOk P w K mg base CX0 11 f fd ["_law_script"] (spU K [] wLaw14) := by
  have GM : FnOk P w K mg base CX0 1 rM sM ["self"] (spDNames CD) := ok_dnames D.FM B D.TD
  have GJ : FnOk P w K mg base CX0 3 rI sI ["self", "words"] (spDInit K CD) := ok_dinit J.FI B N D
  refine fn_u F sc_law14 (by decide) (fun ds Q ⟨_, e, _⟩ => by rw [e]; rfl) fun cdv A outer s H0 E hr => ?_
  refine ⟨_, _, ([], []), ([3], [1]), (pss_cons (ps_set (i := 1) sc_law14.nd rfl (.inl rfl) (pe_call GP (hr.mono (by decide)) (by rfl) OD.pool.g OD.pool.F.kp OD.pool.b .nil pass0 (pa_cons (pe_call GZ (hr.mono (by decide)) (by rfl) OD.cell.g OD.cell.F.kp OD.cell.b .nil pass0 (pa_cons (pv 0) (pa_cons pe_int pa_nil))) pa_nil)))
      (pss_cons (ps_set (i := 2) sc_law14.nd rfl (.inr rfl) (pe_call GN (hr.mono (by decide)) (by rfl) OD.names.g OD.names.F.kp OD.names.b .nil pass0 (pa_cons (pv 1) (pa_cons (pe_op op_add pe_int (pe_call GD (hr.mono (by decide)) (by rfl) OD.draw.g OD.draw.F.kp OD.draw.b .nil pass0 (pa_cons (pv 1) (pa_cons pe_int pa_nil)))) pa_nil))))
      (pss_cons (ps_setLc (i := 3) (own := [("_law_k", 17)]) (wi := (iRng1 (tCons (tC (.int 3)) tNil))) (g := (gName 17)) (tt := tYes) (te := (tCB (VT.rSortedT w) (tCons (tCB (VT.rSetT w K) (tCons (tCall (spPF K [] wPick) [] E0 _) tNil)) tNil))) rfl sc_law14.nd rfl rfl (sw_true rfl rfl rfl (by decide +kernel)) (pi_range1 rfl B.range (pa_cons pe_int pa_nil)) (blkOk_by (N := ["_law_script", "_law_pool_here", "_law_names_here", "_law_model", "_law_first", "_law_held", "_law_others", "_law_copies", "_law_cell_here", "_law_at", "_law_turn", "_law_way", "_law_row", "_law_due_here", "_law_second", "_law_bad", "_law_told", "_law_k", "_law_words", "_law_deeds"]) (sc := defScope s_law) (by decide +kernel)) (fun _ _ _ _ _ => (pg_name (i := 17) sc_law14.nd rfl (.inl rfl))) (fun _ _ _ _ _ => pts_nil) (fun _ _ _ _ _ => (pe_callB (VT.cr_sortedT rfl) (by rfl) B.sorted (by decide +kernel) (pa_cons (pe_callTy (VT.cr_setT rfl) (by rfl) B.set (by decide +kernel) (pa_cons (pe_call GI (hr.mono (by decide)) (by rfl) OD.pick.g OD.pick.F.kp OD.pick.b .nil pass0 (pa_cons (pe_call GP (hr.mono (by decide)) (by rfl) OD.pool.g OD.pool.F.kp OD.pool.b .nil pass0 (pa_cons (pe_call GZ (hr.mono (by decide)) (by rfl) OD.cell.g OD.cell.F.kp OD.cell.b .nil pass0 (pa_cons (pv 0) (pa_cons (pe_op op_add pe_int (pv 17)) pa_nil))) pa_nil)) (pa_cons (pv 2) pa_nil))) pa_nil)) pa_nil))))
      (pss_cons (ps_set (i := 4) sc_law14.nd rfl (.inl rfl) (pe_callTy (r := rLOF K) call_list_of (by rfl) B.list (by decide +kernel) (pa_cons (pv 3) pa_nil)))
      (pss_cons (ps_setLc (i := 5) (own := [("_law_words", 18)]) (wi := (iList K (tVar 3))) (g := (gName 18)) (tt := tYes) (te := (tMake CD (spDInit K CD) [] E0 (tCons (tVar 18) tNil))) rfl sc_law14.nd rfl rfl (sw_true rfl rfl rfl (by decide +kernel)) (pi_list (pv 3)) (blkOk_by (N := ["_law_script", "_law_pool_here", "_law_names_here", "_law_model", "_law_first", "_law_held", "_law_others", "_law_copies", "_law_cell_here", "_law_at", "_law_turn", "_law_way", "_law_row", "_law_due_here", "_law_second", "_law_bad", "_law_told", "_law_k", "_law_words", "_law_deeds"]) (sc := defScope s_law) (by decide +kernel)) (fun _ _ _ _ _ => (pg_name (i := 18) sc_law14.nd rfl (.inl rfl))) (fun _ _ _ _ _ => pts_nil) (fun _ _ _ _ _ => (pe_make J.MI GJ (hr.mono (by decide)) (by rfl) D.mD J.bI .nil pass0 (pa_cons (pv 18) pa_nil))))
      (pss_cons (ps_set (i := 6) sc_law14.nd rfl (.inl rfl) (pe_callTy (r := rLOF K) call_list_of (by rfl) B.list (by decide +kernel) (pa_cons (pv 5) pa_nil)))
      (pss_cons (ps_setLc (i := 7) (own := [("_law_deeds", 19)]) (wi := (iList K (tVar 5))) (g := (gName 19)) (tt := tYes) (te := (tMake CD (spDInit K CD) [] E0 (tCons (tVar 19) tNil))) rfl sc_law14.nd rfl rfl (sw_true rfl rfl rfl (by decide +kernel)) (pi_list (pv 5)) (blkOk_by (N := ["_law_script", "_law_pool_here", "_law_names_here", "_law_model", "_law_first", "_law_held", "_law_others", "_law_copies", "_law_cell_here", "_law_at", "_law_turn", "_law_way", "_law_row", "_law_due_here", "_law_second", "_law_bad", "_law_told", "_law_k", "_law_words", "_law_deeds"]) (sc := defScope s_law) (by decide +kernel)) (fun _ _ _ _ _ => (pg_name (i := 19) sc_law14.nd rfl (.inl rfl))) (fun _ _ _ _ _ => pts_nil) (fun _ _ _ _ _ => (pe_make J.MI GJ (hr.mono (by decide)) (by rfl) D.mD J.bI .nil pass0 (pa_cons (pv 19) pa_nil))))
      (pss_cons (ps_for PassesOwn.never rfl (pi_list (pe_slice sl_list (pv 0) (po_some pe_int) po_none)) (pg_name (i := 8) sc_law14.nd rfl (.inl rfl)) (pss_cons (ps_set (i := 1) sc_law14.nd rfl (.inl rfl) (pe_call GP (hr.mono (by decide)) (by rfl) OD.pool.g OD.pool.F.kp OD.pool.b .nil pass0 (pa_cons (pv 8) pa_nil)))
      (pss_cons (ps_set (i := 9) sc_law14.nd rfl (.inl rfl) (pe_call GDh (hr.mono (by decide)) (by rfl) OD.draw.g OD.draw.F.kp OD.draw.b .nil pass0 (pa_cons (pv 1) (pa_cons pe_int pa_nil))))
      (pss_cons (ps_set (i := 10) sc_law14.nd rfl (.inl rfl) (pe_call GDh (hr.mono (by decide)) (by rfl) OD.draw.g OD.draw.F.kp OD.draw.b .nil pass0 (pa_cons (pv 1) (pa_cons pe_int pa_nil))))
      (pss_cons (ps_set (i := 11) sc_law14.nd rfl (.inl rfl) (pe_call GDh (hr.mono (by decide)) (by rfl) OD.draw.g OD.draw.F.kp OD.draw.b .nil pass0 (pa_cons (pv 1) (pa_cons pe_int pa_nil))))
      (pss_cons (ps_set (i := 12) sc_law14.nd rfl (.inl rfl) (pe_call GI (hr.mono (by decide)) (by rfl) OD.pick.g OD.pick.F.kp OD.pick.b .nil pass0 (pa_cons (pv 1) (pa_cons (pv 2) pa_nil))))
      (pss_cons (ps_set (i := 13) sc_law14.nd rfl (.inl rfl) (pe_call GU (hr.mono (by decide)) (by rfl) OD.due.g OD.due.F.kp OD.due.b .nil pass0 (pa_cons (pv 10) (pa_cons (pe_ix (r := rIxL K) ix_list (pv 3) (pv 9) (fun _ _ => rfl)) (pa_cons (pv 12) pa_nil)))))
      (pss_cons (ps_if (pt_cmpR op_lt (pv 11) pe_int (nomark _)) (pss_cons (ps_set (i := 14) sc_law14.nd rfl (.inl rfl) (pe_call GDh (hr.mono (by decide)) (by rfl) OD.draw.g OD.draw.F.kp OD.draw.b .nil pass0 (pa_cons (pv 1) (pa_cons pe_int pa_nil))))
      (pss_cons (ps_set (i := 13) sc_law14.nd rfl (.inl rfl) (pe_call GU (hr.mono (by decide)) (by rfl) OD.due.g OD.due.F.kp OD.due.b .nil pass0 (pa_cons (pv 10) (pa_cons (pe_ix (r := rIxL K) ix_list (pv 3) (pv 9) (fun _ _ => rfl)) (pa_cons (pe_ix (r := rIxL K) ix_list (pv 3) (pv 14) (fun _ _ => rfl)) pa_nil)))))
      (pss_one (ps_set (i := 12) sc_law14.nd rfl (.inl rfl) (pe_ix (r := rIxL K) ix_list (pv 5) (pv 14) (fun _ _ => rfl)))))) pss_nil)
      (pss_cons (ps_if (pt_cmpR op_eq (pv 11) pe_int (nomark _)) (pss_cons (ps_set (i := 15) sc_law14.nd rfl (.inl rfl) (pe_call GR (hr.mono (by decide)) (by rfl) OD.refu.g OD.refu.F.kp OD.refu.b .nil pass0 (pa_cons (pv 1) (pa_cons (pv 12) pa_nil))))
      (pss_one (ps_if (pt_not (pt_val (pe_call GSA (hr.mono (by decide)) (by rfl) OD.same.g OD.same.F.kp OD.same.b .nil pass0 (pa_cons (pe_call GB (hr.mono (by decide)) (by rfl) OD.tried.g OD.tried.F.kp OD.tried.b .nil pass0 (pa_cons (pe_ix (r := rIxL K) ix_list (pv 5) (pv 9) (fun _ _ => rfl)) (pa_cons (pv 10) (pa_cons (pe_ix (r := rIxT K) ix_tup (pv 15) pe_int (fun _ _ => rfl)) pa_nil)))) (pa_cons (pe_tup (pa_cons pe_str (pa_cons (pe_ix (r := rIxT K) ix_tup (pv 15) pe_int (fun _ _ => rfl)) pa_nil))) pa_nil))))) (pss_one (ps_ret pe_bl)) pss_nil))) (pss_cons (ps_set (i := 16) sc_law14.nd rfl (.inl rfl) (pe_call GT (hr.mono (by decide)) (by rfl) OD.tried.g OD.tried.F.kp OD.tried.b .nil pass0 (pa_cons (pe_ix (r := rIxL K) ix_list (pv 6) (pv 9) (fun _ _ => rfl)) (pa_cons (pv 10) (pa_cons (pv 12) pa_nil)))))
      (pss_cons (ps_if (PW.pt (pw_or (pt_cmpR op_ne (pe_ix (r := rIxT K) ix_tup (pv 16) pe_int (fun _ _ => rfl)) pe_str (nomark _)) (pw_or (pt_not (pt_val (pe_callB call_isi (by rfl) B.isinstance (by decide +kernel) (pa_cons (pe_ix (r := rIxT K) ix_tup (pv 16) pe_int (fun _ _ => rfl)) (pa_cons (pe_glob rfl D.mD (v := .ref CD) rfl) pa_nil))))) (pw_or1 (pt_cmpR (op_neD hr.units) (pe_meth0 (pe_ix (r := rIxT K) ix_tup (pv 16) pe_int (fun _ _ => rfl)) D.TD.cl D.MM GM (hr.mono (by decide)) D.bM .nil pass0) (pv 13) (nomark _)))))) (pss_one (ps_ret pe_bl)) pss_nil)
      (pss_one (ps_asg (pv 13) (pg_sub (pv 3) (pv 9) set_list))))))
      (pss_one (ps_if (pt_not (pt_val (pe_call GH (hr.mono (by decide)) (by rfl) OD.hold.g OD.hold.F.kp OD.hold.b .nil pass0 (pa_cons (pv 5) (pa_cons (pv 6) (pa_cons (pv 3) pa_nil)))))) (pss_one (ps_ret pe_bl)) pss_nil)))))))))))
      (pss_one (ps_ret (pe_call GH (hr.mono (by decide)) (by rfl) OD.hold.g OD.hold.F.kp OD.hold.b .nil pass0 (pa_cons (pv 7) (pa_cons (pv 7) (pa_cons (pv 4) pa_nil)))))))))))))), (ss_seq (ss_cast (S' := ([], [1])) (ss_newP 1 pool_sp (se_call (sa_cons (se_var 0) (sa_cons (se_int (i := 0)) sa_nil)))))
      (ss_seq (ss_cast (S' := ([], [1])) (ss_set 2 (se_callP 1 (sa_cons (se_op oS_add (SE.b (se_int (i := 1))) (SE.b (se_callP 1 (sa_cons (se_int (i := 8)) sa_nil)))) sa_nil))))
      (ss_seq (ss_cast (S' := ([3], [1])) (ss_setF 3 (sf_lc (vs := [17]) (si_rng1 (sa_cons (se_int (i := 3)) sa_nil)) (sg_name 17) st_yes (SF.e (sf_sortset (SE.b (SF.e (sf_callNA [.v 2] pool_sp (se_call (sa_cons (se_var 0) (sa_cons (se_op oS_add (SE.b (se_int (i := 1))) (SE.b (se_var 17))) sa_nil)))))))))))
      (show SS K [] XO0 ([], []) ([3], [1]) ([3], [1]) _ wTail from ?tail)))), ?_⟩
  case tail =>
    intro C ρ P σ H D' hC ht E ow q
    obtain ⟨ns, zs, rows, rfl, l1, l8, hz, lr, hr3, hP⟩ := ht
    have q0 := q _ hP
    have sh : ∀ i d, i ≠ 1 → i ≠ 3 → _ → ∃ v, σ[i]? = some (some v) ∧ R K C.ok H d v := fun i d hi h3 he => E.sh i d (by rw [hC.O]; exact (fun z => h3 (List.mem_singleton.mp z))) (by rw [hC.Pl]; exact fun z => hi (List.mem_singleton.mp z)) he
    obtain ⟨v0, e0, r0⟩ := sh 0 _ (by decide) (by decide) rfl
    obtain ⟨v2, e2, r2⟩ := sh 2 _ (by decide) (by decide) rfl
    obtain ⟨dm, om, em1, em2, em3, em4, fr, nlp⟩ := E.own 3 (by rw [hC.O]; exact List.mem_singleton.mpr rfl)
    have fr := ow 3 (by rw [hC.O]; exact List.mem_singleton.mpr rfl)
    cases em1
    generalize C.A 3 = lm at em2 em3 em4 fr nlp
    cases em4 with
    | @lst us _ rs =>
    obtain ⟨ms, rfl, lms, hms⟩ := rs_rows rs
    have len : σ.length = 20 := E.len
    have end_ : ∀ H', (∀ a o, NT o → a ≠ lm → H a = some o → H' a = some o) → D'.rt (.bl true) H' := fun H' k => q0 _ _ (fin_kpx hC.T E.fin (fun a h => (E.lent a h).1) fr nlp E.dom k) (.bl _)
    clear sh q0 q
    obtain ⟨s0, s1, s2, s3, s4, s5, s6, s7, s8, s9, s10, s11, s12, s13, s14, s15, s16, s17, s18, s19, rfl⟩ := list20 len
    cases e0
    cases e2
    cases em2
    obtain ⟨sa, rfl, hsa⟩ := R.sqlE r0
    cases r2 with
    | @lst n0 us _ hn0 _ t =>
    obtain rfl := t.strs (strs_map _)
    clear E rs ow r0
    -- first
    refine ⟨_, rfl, lm, _, rfl, .inl (.inl (.inl em3)), fun lf hlf => ?_⟩
    have k1 : Same H (upd H lf (.lst (ms.map V.ref))) := same_new hlf
    have ef : upd H lf (.lst (ms.map V.ref)) lf = some (.lst (ms.map V.ref)) := upd_same
    generalize upd H lf (.lst (ms.map V.ref)) = H1 at k1 ef
    -- held
    refine ⟨_, rfl, lm, rfl, ⟨_, .inl (.inl (k1 _ _ em3))⟩, fun L hL => ?_⟩
    refine lc_it (walk_list (K := K) (a := lm) (xs := ms.map V.ref)) (fun i H3 => ∃ ps : List Addr, H3 L = some (.lst (ps.map V.ref)) ∧ ps.length = i ∧ ps.Nodup ∧ (∀ p ∈ ps, H1 p = none) ∧ (∀ p ∈ ps, H3 p ≠ none) ∧ Same H1 H3 ∧ DdAll CD H3 ps rows) ⟨[], upd_same, rfl, .nil, (fun p h => nomatch h), (fun p h => nomatch h), same_new hL, fun i p r e => by simp at e⟩ (fun i H3 _ ⟨_, _, _, _, _, _, k, _⟩ => .inl (.inl (k _ _ (k1 _ _ em3)))) ?_ ?_
    · rintro i x H3 H4 hi ⟨ps, hL3, lp, ndp, fp, np, s3, hda⟩ ⟨rfl, hx⟩
      rw [List.length_map] at hi
      have lmi : i < ms.length := hi
      have emi : ms[i]? = some ms[i] := List.getElem?_eq_getElem lmi
      have er : rows[i]? = some (rows[i]'(by omega)) := List.getElem?_eq_getElem (by omega)
      rw [List.getElem?_map, emi] at hx
      generalize ms[i] = m at emi hx
      generalize rows[i]'(by omega) = r at er
      cases hx
      have em := hms i m r emi er
      have hrm := List.mem_of_getElem? er
      have hsr : ∀ ys : List Str, ys = r → ∀ z, z ∈ ys ↔ z ∈ r := fun ys e z => by rw [e]
      refine ⟨rfl, _, rfl, fun p dp hp hdp ne => ?_⟩
      refine mkI (S := fun ys => ys = r) (.inl ⟨m, r, rfl, .inl (.inl (.inl (s3 _ _ (k1 _ _ em)))), (fun z h => hz z ((hr3 r hrm).2.2 z h)), by have := (hr3 r hrm).2.1; have := nd_lenS this (hr3 r hrm).2.2; omega, rfl⟩) hp hdp ne fun as ys H5 hs k5 hF hm => ⟨rfl, _, k5 _ _ hL3, small1000 (by rw [List.length_map]; omega), ps ++ [p], by rw [upd_same, List.map_append]; rfl, by rw [List.length_append, lp]; rfl, nd_snocA ndp fun h => np p h hp, fun y hy => ?_, fun y hy => ?_, fun b o e => ?_, ?_⟩
      · rcases List.mem_append.mp hy with h | h
        · exact fp y h
        · rw [List.mem_singleton.mp h]; exact s3.free hp
      · rcases List.mem_append.mp hy with h | h
        · intro z
          cases e : H4 y with
          | none => exact np y h e
          | some o =>
            have e2 := k5 _ _ e
            by_cases c : y = L
            · rw [c, upd_same] at z; cases z
            · rw [upd_ne c, e2] at z; cases z
        · rw [List.mem_singleton.mp h]
          intro z
          obtain ⟨dx, d, e, _⟩ := hF.x
          have c : p ≠ L := fun c => by rw [c, hL3] at hp; cases hp
          rw [upd_ne c, e] at z
          cases z
      · rw [upd_ne (ne_of_none e hL)]
        exact k5 _ _ (s3 _ _ e)
      · have kL : SameX L H5 (upd H5 L (.lst (ps.map V.ref ++ [V.ref p]))) := SameX.at
        have h1 : DdAll CD H5 ps rows := hda.kp (.of k5)
        have h2 : DdAll CD H5 (ps ++ [p]) rows := h1.snoc (by rw [lp]; exact er) hF.x fun z => by rw [hm z]; exact hsr ys hs z
        intro i' p' r' e1 e2
        obtain ⟨as', d', m'⟩ := h2 i' p' r' e1 e2
        exact ⟨as', d'.sl (k5 _ _ hL3) kL, m'⟩
    rintro H2 ⟨ps, hL3, lp, ndp, fp, np, s3, hda⟩
    rw [List.length_map] at lp
    -- others
    refine ⟨_, rfl, L, _, rfl, .inl (.inl (.inl hL3)), fun lo hlo => ?_⟩
    have k23 : Same H2 (upd H2 lo (.lst (ps.map V.ref))) := same_new hlo
    have elo : upd H2 lo (.lst (ps.map V.ref)) lo = some (.lst (ps.map V.ref)) := upd_same
    generalize upd H2 lo (.lst (ps.map V.ref)) = H3 at k23 elo
    have eL := k23 _ _ hL3
    have hda := hda.kp (.of k23)
    -- copies
    refine ⟨_, rfl, L, rfl, ⟨_, .inl (.inl eL)⟩, fun M hM => ?_⟩
    refine lc_it (walk_list (K := K) (a := L) (xs := ps.map V.ref)) (fun i H4 => ∃ cs : List Addr, H4 M = some (.lst (cs.map V.ref)) ∧ cs.length = i ∧ (∀ p ∈ cs, H3 p = none) ∧ Same H3 H4 ∧ DdAll CD H4 cs rows) ⟨[], upd_same, rfl, (fun p h => nomatch h), same_new hM, fun i p r e => by simp at e⟩ (fun i H4 _ ⟨_, _, _, _, k, _⟩ => .inl (.inl (k _ _ eL))) ?_ ?_
    · rintro i x H3' H4 hi ⟨cs, hL3, lc, fc, s3, hdc⟩ ⟨rfl, hx⟩
      rw [List.length_map] at hi
      have epi : ps[i]? = some ps[i] := List.getElem?_eq_getElem hi
      have er : rows[i]? = some (rows[i]'(by omega)) := List.getElem?_eq_getElem (by omega)
      rw [List.getElem?_map, epi] at hx
      generalize ps[i] = pi at epi hx
      generalize rows[i]'(by omega) = r at er
      cases hx
      obtain ⟨bs, hX, hbm⟩ := (hda.kp (.of s3)) i pi r epi er
      have hrm := List.mem_of_getElem? er
      have ndb : bs.Nodup := let ⟨_, _, _, _, n⟩ := hX; n
      have lb : bs.length ≤ 8 := Nat.le_trans (nd_lenS ndb fun z h => (hr3 r hrm).2.2 z ((hbm z).mp h)) l8
      refine ⟨rfl, _, rfl, fun p dp hp hdp ne => ?_⟩
      refine mkI (S := fun ys => ys.Perm bs) (.inr ⟨bs, hX.at_, by omega, fun ys h _ => h⟩) hp hdp ne fun as ys H5 hs k5 hF hm => ⟨rfl, _, k5 _ _ hL3, small1000 (by rw [List.length_map]; omega), cs ++ [p], by rw [upd_same, List.map_append]; rfl, by rw [List.length_append, lc]; rfl, fun y hy => ?_, fun b o e => ?_, ?_⟩
      · rcases List.mem_append.mp hy with h | h
        · exact fc y h
        · rw [List.mem_singleton.mp h]; exact s3.free hp
      · rw [upd_ne (ne_of_none e hM)]
        exact k5 _ _ (s3 _ _ e)
      · have kL : SameX M H5 (upd H5 M (.lst (cs.map V.ref ++ [V.ref p]))) := SameX.at
        have h2 : DdAll CD H5 (cs ++ [p]) rows := (hdc.kp (.of k5)).snoc (by rw [lc]; exact er) hF.x fun z => by rw [hm z, hs.mem_iff, hbm z]
        intro i' p' r' e1 e2
        obtain ⟨as', d', m'⟩ := h2 i' p' r' e1 e2
        exact ⟨as', d'.sl (k5 _ _ hL3) kL, m'⟩
    rintro H4 ⟨cs, hM4, lc, fc, s34, hdc⟩
    rw [List.length_map] at lc
    have nM : M ≠ lm := fun z => by rw [z, k23 _ _ (s3 _ _ (k1 _ _ em3))] at hM; cases hM
    have nlo : lo ≠ lm := fun z => by rw [z, s3 _ _ (k1 _ _ em3)] at hlo; cases hlo
    have nL : L ≠ lm := fun z => by rw [z, k1 _ _ em3] at hL; cases hL
    have nlf : lf ≠ lm := fun z => by rw [z, em3] at hlf; cases hlf
    have sref : ∀ {r : List Str} {mz : List Addr}, mz.length = 3 → r.map V.str ≠ mz.map V.ref := fun {r mz} l e => by
      cases mz with
      | nil => cases l
      | cons m mz => cases r with
        | nil => cases e
        | cons a b => cases (List.cons.inj e).1
    have lms3 : ms.length = 3 := lms.trans lr
    have nn0 : n0 ≠ lm := fun z => by rw [z, em3] at hn0; exact sref lms3 (HO.lst.inj (Option.some.inj hn0)).symm
    have kall : Same H H4 := k1.trans (s3.trans (k23.trans s34))
    have hda := hda.kp (.of s34)
    have eL4 := s34 _ _ eL
    have elo4 := s34 _ _ elo
    have ef4 := s34 _ _ (k23 _ _ (s3 _ _ ef))
    have em4 := kall _ _ em3
    have hn4 := kall _ _ hn0
    have hms4 : ∀ (i : Nat) m r, ms[i]? = some m → rows[i]? = some r → H4 m = some (.lst (r.map V.str)) := fun i m r e1 e2 => kall _ _ (hms i m r e1 e2)
    have fps : ∀ p ∈ ps, Fre H p := fun p hp o nt e => by
      have := fp p hp
      rw [k1 _ _ e] at this
      cases this
    have ncp : ∀ c ∈ cs, c ∉ ps := fun c hc hp => by
      have h1 := fc c hc
      have h2 := np c hp
      cases e : H2 c with
      | none => exact h2 e
      | some o => rw [k23 _ _ e] at h1; cases h1
    -- the turns
    refine ⟨_, rfl, ?_⟩
    refine ⟨4, rfl, sa, _, rfl, kall.seq hsa, fun sc hsc => ?_⟩
    obtain ⟨is, eis, -⟩ := cut_map ns (some 4) none
    rw [eis]
    have k45 : Same H4 (upd H4 sc (.lst (is.map V.int))) := same_new hsc
    have esc : upd H4 sc (.lst (is.map V.int)) sc = some (.lst (is.map V.int)) := upd_same
    generalize upd H4 sc (.lst (is.map V.int)) = H5 at k45 esc
    have k05 := kall.trans k45
    have hda := hda.kp (.of k45)
    have hdc := hdc.kp (.of k45)
    have e5m := k45 _ _ em4
    have e5L := k45 _ _ eL4
    have e5o := k45 _ _ elo4
    have e5f := k45 _ _ ef4
    have e5n := k45 _ _ hn4
    have e5ms : ∀ (i : Nat) m r, ms[i]? = some m → rows[i]? = some r → H5 m = some (.lst (r.map V.str)) := fun i m r e1 e2 => k45 _ _ (hms4 i m r e1 e2)
    have e5M := k45 _ _ hM4
    have pin : ∀ p ∈ ps, ∃ dx fs, H5 p = some (.ins CD dx fs) := fun p hp => by
      obtain ⟨i, hi, e⟩ := List.getElem_of_mem hp
      obtain ⟨as, ⟨dx, d, e2, _⟩, _⟩ := hda i p _ (by rw [List.getElem?_eq_getElem hi, e]) (List.getElem?_eq_getElem (by omega))
      exact ⟨dx, _, e2⟩
    refine ⟨sc, rfl, ⟨_, .inl (.inl esc)⟩, ?_⟩
    refine for_it (walk_list (K := K) (a := sc) (xs := is.map V.int)) (fun i σ Hx => ∃ (v1 v8 v9 v10 v11 v12 v13 v14 v15 v16 v17 v18 v19 : Option V) (mx : List Addr) (rws : List (List Str)), σ = [some (.ref sa), v1, some (.ref n0), some (.ref lm), some (.ref lf), some (.ref L), some (.ref lo), some (.ref M), v8, v9, v10, v11, v12, v13, v14, v15, v16, v17, v18, v19] ∧ (∀ a o, NT o → a ≠ lm → a ∉ ps → H5 a = some o → Hx a = some o) ∧ Hx lm = some (.lst (mx.map V.ref)) ∧ mx.length = 3 ∧ rws.length = 3 ∧ (∀ r ∈ rws, sortedS r = true ∧ r.Nodup ∧ ∀ z ∈ r, z ∈ zs) ∧ (∀ (i : Nat) m r, mx[i]? = some m → rws[i]? = some r → Hx m = some (.lst (r.map V.str))) ∧ DdAll CD Hx ps rws) ⟨_, _, _, _, _, _, _, _, _, _, _, _, _, ms, rows, rfl, fun a o nt n1 n2 e => e, e5m, by omega, lr, hr3, e5ms, hda⟩ (fun i σ Hx _ ⟨_, _, _, _, _, _, _, _, _, _, _, _, _, _, _, _, kx, _⟩ => .inl (.inl (kx _ _ nt_lst ?n1 ?n2 esc))) ?_ ?_
    case n1 => exact fun z => by rw [z, em4] at hsc; cases hsc
    case n2 => exact fun h => by obtain ⟨dx, fs, e⟩ := pin _ h; rw [esc] at e; cases e
    · rintro i x σ Hx0 Hs hi ⟨v1, v8, v9, v10, v11, v12, v13, v14, v15, v16, v17, v18, v19, mx, rws, rfl, kx, exm, lmx, lrw, hrw, emx, hdx⟩ ⟨rfl, hx⟩
      obtain ⟨ic, rfl⟩ : ∃ ic : Int, x = .int ic := by
        rw [List.getElem?_map] at hx
        cases e : is[i]? with
        | none => rw [e] at hx; cases hx
        | some c => rw [e] at hx; cases hx; exact ⟨c, rfl⟩
      clear hx hi
      have nlst : ∀ {a : Addr} {us : List V}, H5 a = some (.lst us) → a ∉ ps := fun e h => by obtain ⟨dx, fs, e2⟩ := pin _ h; rw [e] at e2; cases e2
      have hn : Hs n0 = some (.lst (zs.map V.str)) := kx _ _ nt_lst nn0 (nlst e5n) e5n
      have hL : Hs L = some (.lst (ps.map V.ref)) := kx _ _ nt_lst nL (nlst e5L) e5L
      have ho : Hs lo = some (.lst (ps.map V.ref)) := kx _ _ nt_lst nlo (nlst e5o) e5o
      -- the pool
      refine ⟨_, rfl, ic, rfl, fun pp px py pz hpp => ?_⟩
      have fpp : Fre Hs pp := fun o nt e => by rw [hpp] at e; cases e
      have kP : Kp Hs (upd Hs pp (.lst [.int px, .int py, .int pz])) := .of (same_new hpp)
      have pP : PoolAt (upd Hs pp (.lst [.int px, .int py, .int pz])) pp := ⟨px, py, pz, upd_same⟩
      generalize upd Hs pp (.lst [.int px, .int py, .int pz]) = HP at kP pP
      refine ⟨_, rfl, pp, 3, rfl, pP, by decide, by decide, fun at_ x1 y1 z1 a0 a3 => ?_⟩
      have kP := kP.sx fpp (SameX.at (o := .lst [.int x1, .int y1, .int z1]))
      have pP : PoolAt (upd HP pp (.lst [.int x1, .int y1, .int z1])) pp := ⟨x1, y1, z1, upd_same⟩
      generalize upd HP pp (.lst [.int x1, .int y1, .int z1]) = HP at kP pP
      refine ⟨_, rfl, pp, 3, rfl, pP, by decide, by decide, fun t x1 y1 z1 t0 t3 => ?_⟩
      have kP := kP.sx fpp (SameX.at (o := .lst [.int x1, .int y1, .int z1]))
      have pP : PoolAt (upd HP pp (.lst [.int x1, .int y1, .int z1])) pp := ⟨x1, y1, z1, upd_same⟩
      generalize upd HP pp (.lst [.int x1, .int y1, .int z1]) = HP at kP pP
      refine ⟨_, rfl, pp, 6, rfl, pP, by decide, by decide, fun wy x1 y1 z1 w0 w6 => ?_⟩
      have kP := kP.sx fpp (SameX.at (o := .lst [.int x1, .int y1, .int z1]))
      have pP : PoolAt (upd HP pp (.lst [.int x1, .int y1, .int z1])) pp := ⟨x1, y1, z1, upd_same⟩
      generalize upd HP pp (.lst [.int x1, .int y1, .int z1]) = HP at kP pP
      -- the row
      refine ⟨_, rfl, _, rfl, pp, [.ref n0], fun a => a ≠ pp, [.lst (zs.map Dt.str)], fun es => ∃ yl : List Str, es = yl.map Dt.str ∧ (∀ y ∈ yl, y ∈ zs) ∧ yl.length < 16, rfl, pP, fun h => h rfl, (fun _ h => nomatch h), .cons (.lst (kP _ _ nt_lst hn) (fun z => fpp _ nt_lst (z ▸ hn)) (Rs.ofStrs _)) .nil, ⟨zs, rfl, l1, l8, fun ys hy ly => ⟨ys, rfl, hy, ly⟩⟩, ?_⟩
      rintro es ql us HQ ⟨yl, rfl, hyl, lyl⟩ kQ pQ _ _ eq rq
      obtain rfl := rq.strs (strs_map _)
      have kHQ : Kp Hs HQ := fun a o nt e => kQ a o nt (fun z => fpp o nt (z ▸ e)) (kP a o nt e)
      clear kQ kP rq pP
      obtain ⟨ja, rfl⟩ : ∃ n : Nat, at_ = (n : Nat) := ⟨at_.toNat, by omega⟩
      have hja : ja < 3 := by omega
      have ema : mx[ja]? = some mx[ja] := List.getElem?_eq_getElem (by omega)
      have era : rws[ja]? = some rws[ja] := List.getElem?_eq_getElem (by omega)
      have epa : ps[ja]? = some ps[ja] := List.getElem?_eq_getElem (by omega)
      generalize mx[ja] = ma at ema
      generalize rws[ja] = ra at era
      generalize ps[ja] = pa at epa
      have hra := hrw ra (List.mem_of_getElem? era)
      have lra : ra.length ≤ 8 := Nat.le_trans (nd_lenS hra.2.1 hra.2.2) l8
      have emA := emx ja ma ra ema era
      -- what is due
      refine ⟨_, rfl, _, rfl, _, rfl, ?_⟩
      refine ⟨lm, _, _, _, rfl, rfl, .inl (.inl (kHQ _ _ nt_lst exm)), at3 ema, _, rfl, ?_⟩
      refine tN ?_
      refine ⟨fun _ => True, [.int t, .lst (ra.map Dt.str), .lst (yl.map Dt.str)], fun es => ∃ nd : List Str, es = nd.map Dt.str ∧ sortedS nd = true ∧ nd.Nodup ∧ ∀ z, z ∈ nd ↔ dueG t (z ∈ ra) (z ∈ yl), (fun _ h => nomatch h), .cons (.int _) (.cons (.lst (kHQ _ _ nt_lst emA) True.intro (Rs.ofStrs _)) (.cons (.lst eq True.intro (Rs.ofStrs _)) .nil)), ⟨t, ra, yl, rfl, by omega, by omega, hra.1, hra.2.1, fun zs so nd hz => ⟨zs, rfl, so, nd, hz⟩⟩, ?_⟩
      rintro es du us HG ⟨nd, rfl, so, ndd, hnd⟩ kD _ edu rdu
      obtain rfl := rdu.strs (strs_map _)
      have kG : Kp Hs HG := kHQ.trans kD.k
      have nds : ∀ z ∈ nd, z ∈ zs := fun z h => (dueG_or ((hnd z).mp h)).elim (hra.2.2 z) (hyl z)
      have lnd : nd.length ≤ 8 := Nat.le_trans (nd_lenS ndd nds) l8
      have knd : ∀ z ∈ nd, NameOk z := fun z h => hz z (nds z h)
      clear rdu
      have pG : PoolAt HG pp := let ⟨x, y, z, e⟩ := pQ; ⟨x, y, z, kD.k _ _ nt_lst e⟩
      have eq := kD.k _ _ nt_lst eq
      clear kD kHQ pQ
      refine ⟨_, rfl, wy, 2, rfl, rfl, _, rfl, ?_⟩
      by_cases hw : wy < 2
      · rw [decide_eq_true hw]
        refine iteT ?_
        -- another of the three
        refine ⟨_, rfl, pp, 3, rfl, pG, by decide, by decide, fun sec x1 y1 z1 b0 b3 => ?_⟩
        have kG2 := kG.sx fpp (SameX.at (o := .lst [.int x1, .int y1, .int z1]))
        generalize upd HG pp (.lst [.int x1, .int y1, .int z1]) = HP at kG2
        obtain ⟨jb, rfl⟩ : ∃ n : Nat, sec = (n : Nat) := ⟨sec.toNat, by omega⟩
        have emb : mx[jb]? = some mx[jb] := List.getElem?_eq_getElem (by omega)
        have erb : rws[jb]? = some rws[jb] := List.getElem?_eq_getElem (by omega)
        have epb : ps[jb]? = some ps[jb] := List.getElem?_eq_getElem (by omega)
        generalize mx[jb] = mb at emb
        generalize rws[jb] = rb at erb
        generalize ps[jb] = pb at epb
        have hrb := hrw rb (List.mem_of_getElem? erb)
        have lrb : rb.length ≤ 8 := Nat.le_trans (nd_lenS hrb.2.1 hrb.2.2) l8
        have emB := emx jb mb rb emb erb
        clear so ndd hnd nds lnd knd edu kG pG eq
        refine ⟨_, rfl, _, rfl, _, rfl, lm, _, _, _, rfl, rfl, .inl (.inl (kG2 _ _ nt_lst exm)), at3 ema, _, rfl, _, rfl, lm, _, _, _, rfl, rfl, .inl (.inl (kG2 _ _ nt_lst exm)), at3 emb, ?_⟩
        refine tN ?_
        refine ⟨fun _ => True, [.int t, .lst (ra.map Dt.str), .lst (rb.map Dt.str)], fun es => ∃ nd : List Str, es = nd.map Dt.str ∧ sortedS nd = true ∧ nd.Nodup ∧ ∀ z, z ∈ nd ↔ dueG t (z ∈ ra) (z ∈ rb), (fun _ h => nomatch h), .cons (.int _) (.cons (.lst (kG2 _ _ nt_lst emA) True.intro (Rs.ofStrs _)) (.cons (.lst (kG2 _ _ nt_lst emB) True.intro (Rs.ofStrs _)) .nil)), ⟨t, ra, rb, rfl, by omega, by omega, hra.1, hra.2.1, fun zs so nd hz => ⟨zs, rfl, so, nd, hz⟩⟩, ?_⟩
        rintro es du us HG ⟨nd, rfl, so, ndd, hnd⟩ kD _ edu rdu
        obtain rfl := rdu.strs (strs_map _)
        have kG : Kp Hs HG := kG2.trans kD.k
        have nds : ∀ z ∈ nd, z ∈ zs := fun z h => (dueG_or ((hnd z).mp h)).elim (hra.2.2 z) (hrb.2.2 z)
        have lnd : nd.length ≤ 8 := Nat.le_trans (nd_lenS ndd nds) l8
        have knd : ∀ z ∈ nd, NameOk z := fun z h => hz z (nds z h)
        clear rdu
        refine ⟨_, rfl, _, rfl, L, _, _, _, rfl, rfl, .inl (.inl (kG _ _ nt_lst hL)), at3 epb, ?_⟩
        refine ⟨_, rfl, rfl, _, rfl, ?_⟩
        rw [di_, decide_eq_false (show ¬ wy = 5 by omega)]
        refine iteF ?_
        obtain ⟨bs, hY0, hbm⟩ := hdx jb pb rb epb erb
        have ndb : bs.Nodup := let ⟨_, _, _, _, n⟩ := hY0; n
        have lbs : bs.length ≤ 8 := Nat.le_trans (len_le ndb hbm) lrb
        -- tried
        obtain ⟨as, hX0, hm0⟩ := hdx ja pa ra epa era
        have hX := hX0.kp kG
        have nda : as.Nodup := let ⟨_, _, _, _, n⟩ := hX; n
        have las : as.length ≤ 8 := Nat.le_trans (len_le nda hm0) lra
        have kas : ∀ z ∈ as, NameOk z := fun z h => hz z (hra.2.2 z ((hm0 z).mp h))
        refine ⟨_, rfl, _, rfl, lo, _, _, _, rfl, rfl, .inl (.inl (kG _ _ nt_lst ho)), at3 epa, _, rfl, _, rfl, ?_⟩
        refine tN ?_
        refine ⟨pa, t, (.ref pb), as, (fun ys => (∀ z, z ∈ ys ↔ z ∈ rb) ∧ ys.length < 64), rfl, hX, by omega, kas, (.inr ⟨bs, (hY0.kp kG).at_, by omega, fun ys h _ => ⟨fun z => by rw [h.mem_iff, hbm z], by rw [h.length_eq]; omega⟩⟩), (fun ys h => ⟨h.2, fun z hzz => hz z (hrb.2.2 z ((h.1 z).mp hzz))⟩), fun tp zs' ys HT hys htp etp sx hF hm => ?_⟩
        have epm := List.mem_of_getElem? epa
        have hmn : ∀ z, z ∈ zs' ↔ z ∈ nd := fun z => by
          rw [hm z, hnd z]
          unfold dueG
          rw [hm0 z, (show (∀ w, w ∈ ys ↔ w ∈ rb) from hys.1) z]
        obtain ⟨dy, dd, fdd, ey, ed, ndz⟩ := id hF
        have lz' : zs'.length ≤ 30 := by
          have := len_le ndz hmn
          omega
        -- told
        refine ⟨_, rfl, tp, _, 0, _, rfl, rfl, .inl (.inl etp), rfl, rfl, _, rfl, ?_⟩
        rw [decide_eq_true rfl]
        refine iteF ?_
        refine ⟨_, rfl, tp, _, 1, _, rfl, rfl, .inl (.inl etp), rfl, _, _, _, _, true, rfl, .own CD, D.O.own.ty ey, kit_self, true, rfl, ?_⟩
        refine iteF ?_
        refine ⟨_, rfl, tp, _, 1, _, rfl, rfl, .inl (.inl etp), rfl, pa, dy, _, rfl, ey, dfs_out dd _ (by decide +kernel), _, zs', rfl, hF.x.at_, by omega, fun l xs pm so2 hl => ?_⟩
        have kl : Same HT (upd HT l (.lst (xs.map V.str))) := same_new hl
        have el : upd HT l (.lst (xs.map V.str)) l = some (.lst (xs.map V.str)) := upd_same
        generalize upd HT l (.lst (xs.map V.str)) = HU at kl el
        obtain rfl : xs = nd := sorted_one so2 so (pm.nodup_iff.mpr ndz) ndd fun z => by rw [pm.mem_iff, hmn z]
        have ndu : du ≠ pa := fun z => by
          obtain ⟨dx, d, e, _⟩ := hX
          rw [z, e] at edu
          cases edu
        have edu2 : HU du = some (.lst (xs.map V.str)) := kl _ _ (sx _ _ ndu edu)
        refine ⟨_, rfl, ?_⟩
        refine ne_flat knd el edu2 ?_
        refine ⟨_, rfl, ?_⟩
        refine iteF ?_
        -- the model
        have nlp : lm ≠ pa := fun z => by
          obtain ⟨dx, d, e, _⟩ := hX0
          rw [← z, exm] at e
          cases e
        have kGU : ∀ a o, NT o → a ≠ pa → Hs a = some o → HU a = some o := fun a o nt n e => kl _ _ (sx _ _ n (kG a o nt e))
        have eUm : HU lm = some (.lst (mx.map V.ref)) := kGU _ _ nt_lst nlp exm
        refine ⟨_, rfl, _, rfl, _, rfl, lm, _, _, ja, rfl, rfl, eUm, ixN_n (by rw [List.length_map]; omega), ?_⟩
        have em2 : upd HU lm (.lst ((mx.map V.ref).set ja (V.ref du))) lm = some (.lst ((mx.set ja du).map V.ref)) := by rw [upd_same, List.map_set]
        have sxm : SameX lm HU (upd HU lm (.lst ((mx.map V.ref).set ja (V.ref du)))) := SameX.at
        generalize upd HU lm (.lst ((mx.map V.ref).set ja (V.ref du))) = HV at em2 sxm
        have nlmd : du ≠ lm := fun z => by
          rw [z, kG _ _ nt_lst exm] at edu
          exact sref lmx (HO.lst.inj (Option.some.inj edu)).symm
        have nLp : ∀ {a : Addr} {us : List V}, Hs a = some (.lst us) → a ≠ pa := fun e z => by
          obtain ⟨dx, d, e2, _⟩ := hX0
          rw [z, e2] at e
          cases e
        have kGV : ∀ a o, NT o → a ≠ pa → a ≠ lm → Hs a = some o → HV a = some o := fun a o nt n n2 e => sxm _ _ n2 (kGU a o nt n e)
        have hda' : DdAll CD HV ps (rws.set ja xs) := fun i' p r e1 e2 => by
          by_cases c : i' = ja
          · subst c
            rw [e1] at epa
            cases epa
            rw [List.getElem?_set_self (by omega)] at e2
            cases e2
            exact ⟨zs', (hF.x.same kl).sl eUm sxm, hmn⟩
          · rw [List.getElem?_set_ne (fun z => c z.symm)] at e2
            obtain ⟨as', h1, h2⟩ := hdx i' p r e1 e2
            have np' : p ≠ pa := fun z => by
              have q1 := (List.getElem?_eq_some_iff.mp e1)
              have q2 := (List.getElem?_eq_some_iff.mp epa)
              exact c ((List.getElem_inj ndp).mp (q1.2.trans (z.trans q2.2.symm)))
            exact ⟨as', (((h1.kp kG).sx2 hX np' sx).same kl).sl eUm sxm, h2⟩
        have hrw' : ∀ r ∈ rws.set ja xs, sortedS r = true ∧ r.Nodup ∧ ∀ z ∈ r, z ∈ zs := fun r h => by
          rcases List.mem_or_eq_of_mem_set h with h | rfl
          · exact hrw r h
          · exact ⟨so, ndd, fun z h => nds z h⟩
        have emx' : ∀ (i : Nat) m r, (mx.set ja du)[i]? = some m → (rws.set ja xs)[i]? = some r → HV m = some (.lst (r.map V.str)) := fun i' m r e1 e2 => by
          by_cases c : i' = ja
          · subst c
            rw [List.getElem?_set_self (by omega)] at e1 e2
            cases e1
            cases e2
            exact sxm _ _ nlmd edu2
          · rw [List.getElem?_set_ne (fun z => c z.symm)] at e1 e2
            have e := emx i' m r e1 e2
            exact kGV _ _ nt_lst (nLp e) (fun z => by rw [z, exm] at e; exact sref lmx (HO.lst.inj (Option.some.inj e)).symm) e
        have kV5 : ∀ a o, NT o → a ≠ lm → a ∉ ps → H5 a = some o → HV a = some o := fun a o nt n1 n2 e => kGV a o nt (fun z => n2 (z ▸ epm)) n1 (kx a o nt n1 n2 e)
        -- all hold
        refine ⟨_, rfl, _, rfl, _, rfl, ?_⟩
        refine tN ?_
        refine ⟨L, lo, lm, ps, ps, mx.set ja du, rfl, kV5 _ _ nt_lst nL (nlst e5L) e5L, kV5 _ _ nt_lst nlo (nlst e5o) e5o, em2, by omega, by omega, by rw [List.length_set]; omega, ?_, fun Hz kz => ?_⟩
        · intro i' p q m e1 e2 e3
          rw [e1] at e2
          cases e2
          have hlt : i' < 3 := by have := (List.getElem?_eq_some_iff.mp e1).1; omega
          have er : (rws.set ja xs)[i']? = some ((rws.set ja xs)[i']'(by rw [List.length_set]; omega)) := List.getElem?_eq_getElem _
          generalize (rws.set ja xs)[i']'(by rw [List.length_set]; omega) = r at er
          obtain ⟨as', h1, h2⟩ := hda' i' p r e1 er
          have hrr := hrw' r (List.mem_of_getElem? er)
          have := nd_lenS hrr.2.1 hrr.2.2
          exact ⟨r, as', as', emx' i' m r e3 er, hrr.1, hrr.2.1, by omega, h1, h2, h1, h2⟩
        refine ⟨_, rfl, ?_⟩
        refine iteF ?_
        exact ⟨_, _, _, _, _, _, _, _, _, _, _, _, _, mx.set ja du, rws.set ja xs, rfl, fun a o nt n1 n2 e => kz _ _ nt (kV5 a o nt n1 n2 e), kz _ _ nt_lst em2, by rw [List.length_set]; exact lmx, by rw [List.length_set]; exact lrw, hrw', fun i' m r e1 e2 => kz _ _ nt_lst (emx' i' m r e1 e2), hda'.kp kz⟩
      · rw [decide_eq_false hw]
        refine iteF ?_
        refine ⟨_, rfl, rfl, _, rfl, ?_⟩
        rw [di_]
        by_cases h5 : wy = 5
        · rw [decide_eq_true h5]
          refine iteT ?_
          have nqp : ql ≠ pp := fun z => by
            obtain ⟨x2, y2, z2, e⟩ := pG
            rw [← z, eq] at e
            have := HO.lst.inj (Option.some.inj e)
            cases yl with
            | nil => cases this
            | cons a b => cases (List.cons.inj this).1
          refine ⟨_, rfl, _, rfl, pp, [.ref ql], fun a => a ≠ pp, [.lst (yl.map Dt.str)], fun dd => ∃ d x, dd = .tup [d, x] ∧ BadTl K CD d x ∧ (∃ n ∈ VO.kinds7, HasTy K d (.type n)) ∧ SmX x, rfl, pG, fun h => h rfl, (fun _ h => nomatch h), .cons (.lst eq nqp (Rs.ofStrs _)) .nil, ⟨yl, rfl, by omega, fun z h => hz z (hyl z h), fun d x h1 h2 h3 => ⟨d, x, rfl, h1, h2, h3⟩⟩, ?_⟩
          rintro dd vb HB ⟨d, x, rfl, hb, hty, hsx⟩ kB _ _ rb
          have kHB : Kp Hs HB := fun a o nt e => kB a o nt (fun z => fpp o nt (z ▸ e)) (kG a o nt e)
          obtain ⟨ta, us, rfl, eta, rt⟩ := (rb.okm (ok' := fun _ => True) fun _ _ _ => True.intro).tupE
          cases rt with
          | @cons _ _ vd _ rd rt =>
          cases rt with
          | @cons _ _ vx _ rx rt =>
          cases rt
          obtain ⟨as, hX0, hm0⟩ := hdx ja pa ra epa era
          have hX := hX0.kp kHB
          have nda : as.Nodup := let ⟨_, _, _, _, n⟩ := hX; n
          have las : as.length ≤ 8 := Nat.le_trans (len_le nda hm0) lra
          refine ⟨_, rfl, _, rfl, L, _, _, _, rfl, rfl, .inl (.inl (kHB _ _ nt_lst hL)), at3 epa, _, rfl, _, rfl, ta, _, 0, _, rfl, rfl, .inl (.inl eta), rfl, ?_⟩
          refine tN ?_
          refine ⟨fun _ => True, [dDd CD as, .int t, d], fun r => r = .tup [.str "bad", x], (fun _ h => nomatch h), .cons (dd_R hX) (.cons (.int _) (.cons rd .nil)), ⟨as, t, d, x, rfl, nda, by omega, hty, hb, rfl⟩, ?_⟩
          rintro r vr HC rfl kC rr
          have kHC : Kp Hs HC := kHB.trans kC.k
          have eta2 := kC.k ta (.tup [vd, vx]) (fun _ z => nomatch z) eta
          refine ⟨_, rfl, ta, _, 1, _, rfl, rfl, .inl (.inl eta2), rfl, ?_⟩
          refine tN ?_
          refine ⟨by show 2 ≤ sizeLine; decide, fun tb htb => ?_⟩
          have kt : Same HC (upd HC tb (.tup [.str "bad", vx])) := same_new htb
          refine tN ?_
          have rr' : R K (fun _ => True) (upd HC tb (.tup [.str "bad", vx])) (.tup [.str "bad", x]) vr := (rr.okm (ok' := fun _ => True) fun _ _ _ => True.intro).ex (T := []) (.of kt)
          have rx' : R K (fun _ => True) (upd HC tb (.tup [.str "bad", vx])) x vx := rx.ex (T := []) (kC.trans (.of kt))
          refine ⟨fun _ => True, [.tup [.str "bad", x], .tup [.str "bad", x]], fun r => r = .bl true, (fun _ h => nomatch h), .cons rr' (.cons (.tup upd_same (.cons (.str _) (.cons rx' .nil))) .nil), smA_of hsx rfl, ?_⟩
          rintro r v2 HD rfl kD2 r2
          cases r2
          refine ⟨_, rfl, ?_⟩
          refine iteF ?_
          have kV : Kp Hs HD := (kHC.trans (.of kt)).trans kD2.k
          refine ⟨_, rfl, _, rfl, _, rfl, ?_⟩
          refine tN ?_
          refine ⟨L, lo, lm, ps, ps, mx, rfl, kV _ _ nt_lst hL, kV _ _ nt_lst ho, kV _ _ nt_lst exm, by omega, by omega, by omega, ?_, fun Hz kz => ?_⟩
          · intro i' p q m e1 e2 e3
            rw [e1] at e2
            cases e2
            have hlt : i' < 3 := by have := (List.getElem?_eq_some_iff.mp e1).1; omega
            have er : rws[i']? = some (rws[i']'(by omega)) := List.getElem?_eq_getElem _
            generalize rws[i']'(by omega) = r at er
            obtain ⟨as', h1, h2⟩ := hdx i' p r e1 er
            have hrr := hrw r (List.mem_of_getElem? er)
            have := nd_lenS hrr.2.1 hrr.2.2
            exact ⟨r, as', as', kV _ _ nt_lst (emx i' m r e3 er), hrr.1, hrr.2.1, by omega, h1.kp kV, h2, h1.kp kV, h2⟩
          refine ⟨_, rfl, ?_⟩
          refine iteF ?_
          have kVz := kV.trans kz
          exact ⟨_, _, _, _, _, _, _, _, _, _, _, _, _, mx, rws, rfl, fun a o nt n1 n2 e => kVz _ _ nt (kx a o nt n1 n2 e), kVz _ _ nt_lst exm, lmx, lrw, hrw, fun i' m r e1 e2 => kVz _ _ nt_lst (emx i' m r e1 e2), hdx.kp kVz⟩
        · rw [decide_eq_false h5]
          refine iteF ?_
          -- tried
          obtain ⟨as, hX0, hm0⟩ := hdx ja pa ra epa era
          have hX := hX0.kp kG
          have nda : as.Nodup := let ⟨_, _, _, _, n⟩ := hX; n
          have las : as.length ≤ 8 := Nat.le_trans (len_le nda hm0) lra
          have kas : ∀ z ∈ as, NameOk z := fun z h => hz z (hra.2.2 z ((hm0 z).mp h))
          refine ⟨_, rfl, _, rfl, lo, _, _, _, rfl, rfl, .inl (.inl (kG _ _ nt_lst ho)), at3 epa, _, rfl, _, rfl, ?_⟩
          refine tN ?_
          refine ⟨pa, t, (.ref ql), as, (fun ys => (∀ z, z ∈ ys ↔ z ∈ yl) ∧ ys.length < 64), rfl, hX, by omega, kas, (.inl ⟨ql, yl, rfl, .inl (.inl (.inl eq)), fun z h => hz z (hyl z h), by omega, fun z => Iff.rfl, by omega⟩), (fun ys h => ⟨h.2, fun z hzz => hz z (hyl z ((h.1 z).mp hzz))⟩), fun tp zs' ys HT hys htp etp sx hF hm => ?_⟩
          have epm := List.mem_of_getElem? epa
          have hmn : ∀ z, z ∈ zs' ↔ z ∈ nd := fun z => by
            rw [hm z, hnd z]
            unfold dueG
            rw [hm0 z, (show (∀ w, w ∈ ys ↔ w ∈ yl) from hys.1) z]
          obtain ⟨dy, dd, fdd, ey, ed, ndz⟩ := id hF
          have lz' : zs'.length ≤ 30 := by
            have := len_le ndz hmn
            omega
          -- told
          refine ⟨_, rfl, tp, _, 0, _, rfl, rfl, .inl (.inl etp), rfl, rfl, _, rfl, ?_⟩
          rw [decide_eq_true rfl]
          refine iteF ?_
          refine ⟨_, rfl, tp, _, 1, _, rfl, rfl, .inl (.inl etp), rfl, _, _, _, _, true, rfl, .own CD, D.O.own.ty ey, kit_self, true, rfl, ?_⟩
          refine iteF ?_
          refine ⟨_, rfl, tp, _, 1, _, rfl, rfl, .inl (.inl etp), rfl, pa, dy, _, rfl, ey, dfs_out dd _ (by decide +kernel), _, zs', rfl, hF.x.at_, by omega, fun l xs pm so2 hl => ?_⟩
          have kl : Same HT (upd HT l (.lst (xs.map V.str))) := same_new hl
          have el : upd HT l (.lst (xs.map V.str)) l = some (.lst (xs.map V.str)) := upd_same
          generalize upd HT l (.lst (xs.map V.str)) = HU at kl el
          obtain rfl : xs = nd := sorted_one so2 so (pm.nodup_iff.mpr ndz) ndd fun z => by rw [pm.mem_iff, hmn z]
          have ndu : du ≠ pa := fun z => by
            obtain ⟨dx, d, e, _⟩ := hX
            rw [z, e] at edu
            cases edu
          have edu2 : HU du = some (.lst (xs.map V.str)) := kl _ _ (sx _ _ ndu edu)
          refine ⟨_, rfl, ?_⟩
          refine ne_flat knd el edu2 ?_
          refine ⟨_, rfl, ?_⟩
          refine iteF ?_
          -- the model
          have nlp : lm ≠ pa := fun z => by
            obtain ⟨dx, d, e, _⟩ := hX0
            rw [← z, exm] at e
            cases e
          have kGU : ∀ a o, NT o → a ≠ pa → Hs a = some o → HU a = some o := fun a o nt n e => kl _ _ (sx _ _ n (kG a o nt e))
          have eUm : HU lm = some (.lst (mx.map V.ref)) := kGU _ _ nt_lst nlp exm
          refine ⟨_, rfl, _, rfl, _, rfl, lm, _, _, ja, rfl, rfl, eUm, ixN_n (by rw [List.length_map]; omega), ?_⟩
          have em2 : upd HU lm (.lst ((mx.map V.ref).set ja (V.ref du))) lm = some (.lst ((mx.set ja du).map V.ref)) := by rw [upd_same, List.map_set]
          have sxm : SameX lm HU (upd HU lm (.lst ((mx.map V.ref).set ja (V.ref du)))) := SameX.at
          generalize upd HU lm (.lst ((mx.map V.ref).set ja (V.ref du))) = HV at em2 sxm
          have nlmd : du ≠ lm := fun z => by
            rw [z, kG _ _ nt_lst exm] at edu
            exact sref lmx (HO.lst.inj (Option.some.inj edu)).symm
          have nLp : ∀ {a : Addr} {us : List V}, Hs a = some (.lst us) → a ≠ pa := fun e z => by
            obtain ⟨dx, d, e2, _⟩ := hX0
            rw [z, e2] at e
            cases e
          have kGV : ∀ a o, NT o → a ≠ pa → a ≠ lm → Hs a = some o → HV a = some o := fun a o nt n n2 e => sxm _ _ n2 (kGU a o nt n e)
          have hda' : DdAll CD HV ps (rws.set ja xs) := fun i' p r e1 e2 => by
            by_cases c : i' = ja
            · subst c
              rw [e1] at epa
              cases epa
              rw [List.getElem?_set_self (by omega)] at e2
              cases e2
              exact ⟨zs', (hF.x.same kl).sl eUm sxm, hmn⟩
            · rw [List.getElem?_set_ne (fun z => c z.symm)] at e2
              obtain ⟨as', h1, h2⟩ := hdx i' p r e1 e2
              have np' : p ≠ pa := fun z => by
                have q1 := (List.getElem?_eq_some_iff.mp e1)
                have q2 := (List.getElem?_eq_some_iff.mp epa)
                exact c ((List.getElem_inj ndp).mp (q1.2.trans (z.trans q2.2.symm)))
              exact ⟨as', (((h1.kp kG).sx2 hX np' sx).same kl).sl eUm sxm, h2⟩
          have hrw' : ∀ r ∈ rws.set ja xs, sortedS r = true ∧ r.Nodup ∧ ∀ z ∈ r, z ∈ zs := fun r h => by
            rcases List.mem_or_eq_of_mem_set h with h | rfl
            · exact hrw r h
            · exact ⟨so, ndd, fun z h => nds z h⟩
          have emx' : ∀ (i : Nat) m r, (mx.set ja du)[i]? = some m → (rws.set ja xs)[i]? = some r → HV m = some (.lst (r.map V.str)) := fun i' m r e1 e2 => by
            by_cases c : i' = ja
            · subst c
              rw [List.getElem?_set_self (by omega)] at e1 e2
              cases e1
              cases e2
              exact sxm _ _ nlmd edu2
            · rw [List.getElem?_set_ne (fun z => c z.symm)] at e1 e2
              have e := emx i' m r e1 e2
              exact kGV _ _ nt_lst (nLp e) (fun z => by rw [z, exm] at e; exact sref lmx (HO.lst.inj (Option.some.inj e)).symm) e
          have kV5 : ∀ a o, NT o → a ≠ lm → a ∉ ps → H5 a = some o → HV a = some o := fun a o nt n1 n2 e => kGV a o nt (fun z => n2 (z ▸ epm)) n1 (kx a o nt n1 n2 e)
          -- all hold
          refine ⟨_, rfl, _, rfl, _, rfl, ?_⟩
          refine tN ?_
          refine ⟨L, lo, lm, ps, ps, mx.set ja du, rfl, kV5 _ _ nt_lst nL (nlst e5L) e5L, kV5 _ _ nt_lst nlo (nlst e5o) e5o, em2, by omega, by omega, by rw [List.length_set]; omega, ?_, fun Hz kz => ?_⟩
          · intro i' p q m e1 e2 e3
            rw [e1] at e2
            cases e2
            have hlt : i' < 3 := by have := (List.getElem?_eq_some_iff.mp e1).1; omega
            have er : (rws.set ja xs)[i']? = some ((rws.set ja xs)[i']'(by rw [List.length_set]; omega)) := List.getElem?_eq_getElem _
            generalize (rws.set ja xs)[i']'(by rw [List.length_set]; omega) = r at er
            obtain ⟨as', h1, h2⟩ := hda' i' p r e1 er
            have hrr := hrw' r (List.mem_of_getElem? er)
            have := nd_lenS hrr.2.1 hrr.2.2
            exact ⟨r, as', as', emx' i' m r e3 er, hrr.1, hrr.2.1, by omega, h1, h2, h1, h2⟩
          refine ⟨_, rfl, ?_⟩
          refine iteF ?_
          exact ⟨_, _, _, _, _, _, _, _, _, _, _, _, _, mx.set ja du, rws.set ja xs, rfl, fun a o nt n1 n2 e => kz _ _ nt (kV5 a o nt n1 n2 e), kz _ _ nt_lst em2, by rw [List.length_set]; exact lmx, by rw [List.length_set]; exact lrw, hrw', fun i' m r e1 e2 => kz _ _ nt_lst (emx' i' m r e1 e2), hda'.kp kz⟩
    · rintro σ Hx ⟨v1, v8, v9, v10, v11, v12, v13, v14, v15, v16, v17, v18, v19, mx, rws, rfl, kx, exm, lmx, lrw, hrw, emx, hdx⟩
      have nlst : ∀ {a : Addr} {us : List V}, H5 a = some (.lst us) → a ∉ ps := fun e h => by obtain ⟨dx, fs, e2⟩ := pin _ h; rw [e] at e2; cases e2
      have fM : Hx M = some (.lst (cs.map V.ref)) := kx _ _ nt_lst nM (nlst e5M) e5M
      have fF : Hx lf = some (.lst (ms.map V.ref)) := kx _ _ nt_lst nlf (nlst e5f) e5f
      refine ⟨_, rfl, _, rfl, _, rfl, ?_⟩
      refine tN ?_
      refine ⟨M, M, lf, cs, cs, ms, rfl, fM, fM, fF, by omega, by omega, by omega, fun i p q m e1 e2 e3 => ?_, fun Hz kz => end_ Hz fun a o nt n1 e => ?_⟩
      · rw [e1] at e2
        cases e2
        have er : rows[i]? = some (rows[i]'(by have := (List.getElem?_eq_some_iff.mp e3).1; omega)) := List.getElem?_eq_getElem _
        generalize rows[i]'(by have := (List.getElem?_eq_some_iff.mp e3).1; omega) = r at er
        obtain ⟨as, ⟨dx, d, ec, ed, ndc⟩, hm⟩ := hdc i p r e1 er
        have hrm := List.mem_of_getElem? er
        have ep := ncp p (List.mem_of_getElem? e1)
        have hX : DdsX CD Hx p as := ⟨dx, d, kx _ _ nt_ins (fun z => by rw [z, e5m] at ec; cases ec) ep ec, kx _ _ nt_dK (fun z => by rw [z, e5m] at ed; cases ed) (fun h => by obtain ⟨dx', fs, e4⟩ := pin _ h; rw [ed] at e4; cases e4) ed, ndc⟩
        have em := e5ms i m r e3 er
        have lrr : r.length ≤ 8 := Nat.le_trans (nd_lenS (hr3 r hrm).2.1 (hr3 r hrm).2.2) l8
        exact ⟨r, as, as, kx _ _ nt_lst (fun z => by rw [z, e5m] at em; exact sref lms3 (HO.lst.inj (Option.some.inj em)).symm) (nlst em) em, (hr3 r hrm).1, (hr3 r hrm).2.1, by omega, hX, hm, hX, hm⟩
      · refine kz _ _ nt (kx a o nt n1 (fun h => fps a h o nt e) (k05 _ _ e))
  rintro ds P ⟨ns, rfl, hn, q⟩
  walk_at "u"
  refine ⟨ns, 0, rfl, by decide, fun z0 => ?_⟩
  walk_at "u"
  refine ⟨8, rfl, by decide, by decide, fun k k0 k8 => ?_⟩
  walk_at "u"
  obtain ⟨nn, enn⟩ : ∃ n : Nat, 1 + k = (n : Nat) := ⟨(1 + k).toNat, by omega⟩
  rw [enn]
  refine ⟨nn, rfl, by omega, fun zs lz hz nd => ?_⟩
  have l1 : 1 ≤ zs.length := by omega
  have l8 : zs.length ≤ 8 := by omega
  clear lz enn k0 k8
  walk_at "u"
  refine kRng1_to (by decide) (by decide) ?_
  show (rngD 0 3).length ≤ 1000000 ∧ _
  rw [rngD_map]
  refine ⟨by rw [List.length_map, List.length_range]; decide, ?_⟩
  refine wComp_rel (fun _ d => ∃ r : List Str, d = Dt.lst (r.map Dt.str) ∧ sortedS r = true ∧ r.Nodup ∧ ∀ z ∈ r, z ∈ zs) (List.range 3) (fun j hj => ?_) fun ds0 ho => ?_
  · refine ⟨_, rfl, fun Q q => q, fun Q q => ?_⟩
    have hj := List.mem_range.mp hj
    walk_at "u"
    rw [show (1 + (0 + ((j : Nat) : Int))) = ((1 + j : Nat) : Int) from by omega]
    refine ⟨ns, 1 + j, rfl, by omega, fun z1 => ?_⟩
    refine ⟨_, rfl, ?_⟩
    refine ⟨zs, rfl, l1, l8, fun ys hy ly => ?_⟩
    refine kSortSet_of (by omega) fun r so ndr hr => ?_
    exact q _ ⟨r, rfl, so, ndr, fun z h => hy z ((hr z).mp h)⟩
  obtain ⟨rows, rfl, lr, hr⟩ := rows_paired ho
  rw [List.nil_append]
  rw [List.length_range] at lr
  exact ⟨ns, zs, rows, rfl, l1, l8, hz, lr, hr, q⟩
end
end KX
namespace KX
open PySem PySem.Spec PyProof.Rows L2 UL
local macro_rules | `(tactic| walk_at "u") => `(tactic| repeat (first | ((with_reducible refine' wVar_of ?ke ?_); (case ke => rfl)) | with_reducible refine' wC_of ?_ | with_reducible refine' wB_of ?_ | with_reducible refine' wAnd_of ?_ | with_reducible refine' wOr_of ?_ | with_reducible refine' wNot_of ?_ | with_reducible refine' w2_of ?_ | with_reducible refine' w1_of ?_ | with_reducible refine' wCons_of ?_ | with_reducible refine' wNil_of ?_ | ((with_reducible refine' kIxT_of ?ke ?_); (case ke => rfl)) | with_reducible refine' wSeq_of ?_ | with_reducible refine' wSet_of ?_ | ((with_reducible refine' wSetF_of ?ke ?_); (case ke => rfl)) | ((with_reducible refine' wRetO_of ?ke ?_); (case ke => rfl)) | ((with_reducible refine' wSetNew_of ?hs ?_); (case hs => rfl)) | ((with_reducible refine' wPutN_of ?he ?_); (case he => rfl)) | ((with_reducible refine' wPutI_of ?he ?_); (case he => rfl)) | ((with_reducible refine' wApp_of ?ke ?_); (case ke => rfl)) | with_reducible refine' wRet_of ?_ | with_reducible refine' wRetF_of ?_ | with_reducible refine' wIfS_of ?_ | with_reducible refine' wForS_of ?_ | with_reducible refine' wItemsL_of ?_ | with_reducible refine' wItemsT_of ?_ | with_reducible refine' wLc_of ?_ | with_reducible refine' wAndV_of ?_ | with_reducible refine' wOrV_of ?_ | with_reducible refine' wNotV_of ?_ | with_reducible refine' wIf_of ?_ | with_reducible refine' wGet2_of ?_ | with_reducible refine' wChain_of ?_ | with_reducible refine' wExpr_of ?_ | with_reducible refine' kLenL_of ?_ | with_reducible refine' kLenT_of ?_ | ((with_reducible refine' kFld_of ?ke ?_); (case ke => rfl)) | with_reducible refine' wLc2_of ?_ | with_reducible refine' wNext_of ?_ | ((with_reducible refine' kZip2_of ?k1 ?k2 ?_); (case k1 => rfl); (case k2 => rfl)) | ((with_reducible refine' kZip3_of ?k1 ?k2 ?k3 ?_); (case k1 => rfl); (case k2 => rfl); (case k3 => rfl)) | with_reducible refine' kEnumT_of ?_ | with_reducible refine' wPart_of ?_ | with_reducible refine' wNoPart_of ?_ | with_reducible refine' kTupOfL_of ?_ | with_reducible refine' wEndP_of ?_ | ((with_reducible refine' wNewP_of ?ke ?_); (case ke => rfl)) | with_reducible refine' kI_of ?_ | ((with_reducible refine' wRev_of ?ke ?_); (case ke => rfl)) | with_reducible refine' kNeI_of ?_ | with_reducible refine' kEqI_of ?_ | with_reducible refine' kNeS_of ?_ | with_reducible refine' kEqS_of ?_ | with_reducible refine' wDropX_of ?_ | with_reducible refine' wSetX_of ?_ | with_reducible refine' wRetX_of ?_ | with_reducible refine' wRaise_of ?_ | with_reducible refine' wTry_of ?_ | with_reducible refine' wSlT_of ?_ | with_reducible refine' wSlQ_of ?_ | with_reducible refine' kNeg_of ?_ | with_reducible refine' kLenQ_of ?_ | with_reducible refine' kLstT_of ?_ | with_reducible refine' kLstL_of ?_ | ((with_reducible refine' wSetNewK_of ?hs ?_); (case hs => rfl)) | ((with_reducible refine' wPutK_of ?he ?_); (case he => rfl)) | ((with_reducible refine' wIns_of ?he ?_); (case he => rfl)) | ((with_reducible refine' wPop_of ?he ?_); (case he => rfl))))
theorem oexB_ok {K : PySem.W.Frag} {C : Addr} (h : oexB K C = true) : OexC K C := by
  obtain ⟨q, h⟩ := He.ba h
  obtain ⟨h2, h⟩ := He.ba h
  obtain ⟨h3, h⟩ := He.ba h
  obtain ⟨h4, h5⟩ := He.ba h
  refine ⟨?_, He.eqO_ok h2, of_decide_eq_true h3, of_decide_eq_true h4, h5⟩
  split at q
  · rename_i dd cd sl ho
    split at q
    · rename_i C' bm k0 k1 k2 k3 n k5 hm hs
      simp only [Bool.and_eq_true, beq_iff_eq, Bool.not_eq_true'] at q
      obtain ⟨⟨⟨⟨rfl, rfl⟩, hdel⟩, hdict⟩, ht⟩ := q
      obtain ⟨nm, bs, mro, ns, qn, hd, sn, sub, ab, col, del⟩ := cd
      dsimp only at hm hdel hdict
      subst hm hdel hdict
      have hsl : sl = #[k0, k1, k2, k3, some (.builtin "ValueError.__new__"), k5] := by
        obtain ⟨l⟩ := sl
        simp only at hs
        rw [hs]
      subst hsl
      exact ⟨nm, qn, ns, bs, bm, sn, sub, ab, col, dd, k0, k1, k2, k3, k5, ho, ht⟩
    · cases q
  · cases q

def crB (K : PySem.W.Frag) (C : Addr) : Bool := PySem.W.readsIn K C (.type "type") && He.eqO (PySem.W.specialIn K (.ref C) "__getattribute__") (some (some (.builtin "type.__getattribute__")))
theorem binDB_ok {K : PySem.W.Frag} {C fA fR : Addr} {a r : Str} {nm : String} (ea : PySem.dunder nm = a) (er : dunderR nm = r) (h : binDB K C fA fR a r = true) : VO.BinF K C fA fR nm := by
  subst ea er
  obtain ⟨h1, h⟩ := He.ba h
  obtain ⟨h2, h⟩ := He.ba h
  obtain ⟨h3, h⟩ := He.ba h
  obtain ⟨h4, h⟩ := He.ba h
  obtain ⟨h5, h6⟩ := He.ba h
  refine ⟨h1, He.eqO_ok h2, h3, He.eqO_ok h4, h5, fun n hn => ?_⟩
  have h := List.all_eq_true.mp h6 n hn
  unfold slotDB at h
  split at h
  · rename_i fo ro e1 e2
    exact ⟨fo, ro, e1, e2, beq_iff_eq.mp h⟩
  · cases h

theorem kindB_ok {K : PySem.W.Frag} {C : Addr} (h : kindB K C = true) : NoDs K C := fun n hn => of_decide_eq_true (List.all_eq_true.mp h n hn)
theorem sevB_ok {K : PySem.W.Frag} {C : Addr} {a r : Str} {nm : String} (ea : PySem.dunder nm = a) (er : dunderR nm = r) (h : sevB K C a r = true) : VO.BinG K C nm := fun n hn => by
  subst ea er
  obtain ⟨h1, h⟩ := He.ba (List.all_eq_true.mp h n hn)
  obtain ⟨h2, h3⟩ := He.ba h
  obtain ⟨fo, e1⟩ := Option.isSome_iff_exists.mp h1
  obtain ⟨ro, e2⟩ := Option.isSome_iff_exists.mp h2
  exact ⟨fo, ro, e1, e2, of_decide_eq_true h3⟩
section
variable {P : Program} {w : World} {K : PySem.W.Frag} {mg : Str → Option Value} {base : Heap} {CD CW : Addr}
/-- what the head tells of an exception's class -/
structure ExK (K : PySem.W.Frag) (mg : Str → Option Value) (x f : Str) (C fE : Addr) (fdE : FuncData) : Prop where
  ET : OexC K C
  iC : PySem.W.findIn K (.ref C) "__init__" = some (some (.ref fE))
  tI : PySem.W.typeIn K (.ref fE) = some (.type "function")
  eb : Binds K fdE ["self", f] []
  em : mg x = some (.ref C)
  xf : XfC K C
  hno : PySem.W.findIn K (.ref C) f = some none
  XT : PySem.W.exmOne K (.ref C) (.ref C) = some true
theorem sc_xbw : FnScope ["self", "value"] ["self", "value"] (defScope s_BadWords_init) := ⟨rfl, rfl, rfl, by decide +kernel, rfl, by decide +kernel, by decide +kernel⟩
theorem exc_xbw {Cx fE : Addr} {fdE : FuncData} (D : ExK K mg "BadWords" "value" Cx fE fdE) (FE : Fun K "__init__" "BadWords.__init__" s_BadWords_init fE fdE) : ExcD P w K mg base "BadWords" "value" Cx fE fdE :=
  ⟨D.ET, D.iC, D.tI, D.eb, D.em, D.xf, D.hno, fn_xinit FE sc_xbw rfl D.ET D.hno fun cdv A outer s H E hr => pss_one (ps_ost (pv 0) (pv 1))⟩
theorem deeds_b2 {f dv : Addr} {fd : FuncData} (F : FunD K "__init__" "Deeds.__init__" (defArgs s_Deeds_init) (defBody s_Deeds_init) (defScope s_Deeds_init) [V.ref dv] [] f fd) : Binds K fd ["self", "words"] [] := by
  obtain ⟨ds, h1, h2⟩ := FunD.binds1 (ps := ["self", "words"]) F 2 1 (by simp) rfl fun _ _ _ _ _ _ _ us its hu hi => match us, its, hu, hi with | [_, _], [_], _, _ => ⟨_, rfl, rfl⟩
  have e : ds = [] := by
    cases ds with
    | nil => rfl
    | cons x r => cases h1
  exact e ▸ h2
def spLaw (K : PySem.W.Frag) : Sp := fun vs H Q _ => ∃ (a : Addr) (ns : List Int), vs = [.ref a] ∧ SqL K H a (ns.map V.int) ∧ ns.length ≤ 63 ∧ ∀ H', Q (.bl true) H'
theorem ok_lawH {f : Addr} {fd : FuncData} {fP fC fD fN fS fI fU fR fT fH nN fG fO fOr fW : Addr} {gP gC gD gN gS gI gU gR gT gH hdN gG gO gOr gW : FuncData} {rR rN rT rM : Addr} {sR sN sT sM : FuncData} {dv rI : Addr} {sI : FuncData} {oA oR nA nR mA mR : Addr} {soA soR snA snR smA smR : FuncData} {iA iN iS : Addr} {siA siN siS : FuncData}
    (F : Fun K "law" "law" s_law f fd) (B : Blt mg) (N : Kin mg) (B2 : Blt2 mg) (D : DdsD K mg CD rR rN rT rM sR sN sT sM) (J : DdI K CD dv rI sI) (O : DdO K CD oA oR nA nR mA mR soA soR snA snR smA smR) (I : DdI3 K CD iA iN iS siA siN siS) (kd : NoDs K CD) (bg1 : VO.BinG K CD "or") (bg2 : VO.BinG K CD "and") (bg3 : VO.BinG K CD "sub") (XW : ExK K mg "BadWords" "value" CW fW gW) (FXW : Fun K "__init__" "BadWords.__init__" s_BadWords_init fW gW) (OD : OwnL K mg fP fC fD fN fS fI fU fR fT fH gP gC gD gN gS gI gU gR gT gH) (DC : Cal K mg "_law_change" s_law_change ["_law_deeds", "_law_turn", "_law_other"] fG gG) (DO : Cal K mg "_law_odd_name" s_law_odd_name ["_law_number"] fO gO) (DOr : Cal K mg "_law_odd_row" s_law_odd_row ["_law_number"] fOr gOr) (DN : Cal K mg "_law_name" s_law_name ["_law_number"] nN hdN) :
    FnOk P w K mg base CX0 11 f fd ["_law_script"] (spLaw K) := by
  have DW : ExcD P w K mg base "BadWords" "value" CW fW gW := exc_xbw XW FXW
  have GD : FnOk P w K mg base CX0 1 fD gD ["_law_pool_here", "_law_many"] (spP K [] wDraw) := u_draw (ok_draw OD.draw.F B)
  have GN : FnOk P w K mg base CX0 2 fN gN ["_law_pool_here", "_law_many"] (spP K [] wNamesU) := u_names (ok_names OD.names.F B OD.draw.F OD.draw.b OD.draw.g DN.F DN.b DN.g)
  have GS : FnOk P w K mg base CX0 5 fS gS ["_law_told", "_law_due_here"] (spU K [] (wSm 4)) := ok_sm OD.same B N B2 4
  have GW : FnOk P w K mg base CX0 3 fS gS ["_law_told", "_law_due_here"] (spU K [] wSmW) := ok_smW OD.same.F OD.same B N B2 (ok_smI OD.same B N B2)
  have GSA : FnOk P w K mg base CX0 5 fS gS ["_law_told", "_law_due_here"] (spU K [] wSmA) := (fnOr GS (GW.mono (by decide))).imp fun vs H Q E ⟨ok, ds, P, T1, r, h, q⟩ => by
    rcases h with h | h
    · exact .inl ⟨ok, ds, P, T1, r, h, q⟩
    · exact .inr ⟨ok, ds, P, T1, r, h, q⟩
  have o1 : FnOk P w K mg base CX0 5 oA soA ["self", "other"] (spDBin K CD Or) := ok_dorH O.oF B N D J
  have o2 : FnOk P w K mg base CX0 5 nA snA ["self", "other"] (spDBin K CD andG) := ok_dandH O.nF B N D J
  have o3 : FnOk P w K mg base CX0 5 mA smA ["self", "other"] (spDBin K CD subG) := ok_dsubH O.mF B N D J
  have GT7 : FnOk P w K mg base CX0 7 fG gG ["_law_deeds", "_law_turn", "_law_other"] (spChg K CD) := ok_chg DC.F I (ok_diorH I.iorF D.TD O.oD O.oB o1) (ok_diandH I.iandF D.TD O.nD O.nB o2) (ok_disubH I.isubF D.TD O.mD O.mB o3)
  have b1 : FnOk P w K mg base (L2.CX P w) 6 oA soA ["self", "other"] (spDBinB K CD CW) := ok_dorB O.oF B N D J DW
  have b2 : FnOk P w K mg base (L2.CX P w) 6 nA snA ["self", "other"] (spDBinB K CD CW) := ok_dandB O.nF B N D J DW
  have b3 : FnOk P w K mg base (L2.CX P w) 6 mA smA ["self", "other"] (spDBinB K CD CW) := ok_dsubB O.mF B N D J DW
  have GCB : FnOk P w K mg base (L2.CX P w) 8 fG gG ["_law_deeds", "_law_turn", "_law_other"] (spX K [] (wChgB K CD CW)) := ok_chgB DC.F I (ok_diorB I.iorF O.oD bg1 O.oB b1) (ok_diandB I.iandF O.nD bg2 O.nB b2) (ok_disubB I.isubF O.mD bg3 O.mB b3)
  have GL : FnOk P w K mg base CX0 11 f fd ["_law_script"] (spU K [] wLaw14) := ok_law14 F B N D J kd OD (ok_draw OD.draw.F B) (ok_pool OD.pool.F B) (u_cell OD.cell.F B) GD GN GS (ok_pick OD.pick.F B OD.draw GD) (ok_due14 OD.due.F B) (ok_refu OD.refu.F B kd OD.draw GD DOr (ok_oddr DOr.F B) DO (ok_oddn DO.F B)) (ok_triG OD.tried.F DC DW XW.XT GT7) (ok_hold OD.hold.F B D OD.same GS) (ok_triB OD.tried.F DC DW XW.XT GCB) GW GSA
  exact GL.imp fun vs H Q E ⟨a, ns, e, hS, hn, q⟩ => ⟨fun _ => True, [.sql ns], fun d => d = .bl true, (fun _ h => nomatch h), by rw [e]; exact .cons (sql_of hS True.intro) .nil, ⟨ns, rfl, hn, rfl⟩, fun d v H' hd _ r => by
    subst hd
    cases r
    exact q H'⟩
end
end KX
namespace KX
open PySem PySem.Spec PyProof.Rows L2 UL
/-! ### the head: what it tells, by names -/
theorem ownB_ok {K : PySem.W.Frag} {C : Addr} (cl : Cls K C) (h : ownB K C = true) : OwnK K C := by
  obtain ⟨h1, h⟩ := He.ba h
  obtain ⟨h2, h⟩ := He.ba h
  obtain ⟨h3, h4⟩ := He.ba h
  exact ⟨cl, He.eqO_ok h1, He.eqO_ok h2, of_decide_eq_true h3, of_decide_eq_true h4⟩
theorem fun_of {K : PySem.W.Frag} {x q : Str} {st : Stmt} {f : Addr} {fd : FuncData} (F : FunD K x q (defArgs st) (defBody st) (defScope st) [] [] f fd) : Fun K x q st f fd := by
  obtain ⟨oc, od, dV, kV, doc, pm, an, cdv, ct, osl, e1, e2, e3, hD, _⟩ := F.ex
  rcases hD with ⟨_, rfl⟩ | ⟨e, _⟩
  · exact ⟨⟨oc, od, kV, doc, pm, an, cdv, ct, osl, e1, e2, e3⟩, F.kp⟩
  · exact absurd rfl e
section
variable {P : Program} {w : World} {K : PySem.W.Frag} {mg : Str → Option Value} {base h : Heap}
theorem got_Deeds_names (c : He.SaysD fas fns K) : ∃ fd, FunD K "names" "Deeds.names" (defArgs s_Deeds_names) (defBody s_Deeds_names) (defScope s_Deeds_names) [] [] (He.fAd K ("Deeds", some "names")) fd ∧ Binds K fd ["self"] [] := by
  obtain ⟨fd, F⟩ := c.def_ 0 (d := dMeth "Deeds" "names" "Deeds.names" s_Deeds_names []) rfl
  exact ⟨fd, F, FunD.bindsN F fun _ _ _ _ _ _ us hl => match us, hl with | [_], _ => rfl⟩
theorem got_Deeds_or (c : He.SaysD fas fns K) : ∃ fd, FunD K "__or__" "Deeds.__or__" (defArgs s_Deeds_or) (defBody s_Deeds_or) (defScope s_Deeds_or) [] [] (He.fAd K ("Deeds", some "__or__")) fd ∧ Binds K fd ["self", "other"] [] := by
  obtain ⟨fd, F⟩ := c.def_ 1 (d := dMeth "Deeds" "__or__" "Deeds.__or__" s_Deeds_or []) rfl
  exact ⟨fd, F, FunD.bindsN F fun _ _ _ _ _ _ us hl => match us, hl with | [_, _], _ => rfl⟩
theorem got_Deeds_ror (c : He.SaysD fas fns K) : ∃ fd, FunD K "__ror__" "Deeds.__ror__" (defArgs s_Deeds_ror) (defBody s_Deeds_ror) (defScope s_Deeds_ror) [] [] (He.fAd K ("Deeds", some "__ror__")) fd ∧ Binds K fd ["self", "other"] [] := by
  obtain ⟨fd, F⟩ := c.def_ 2 (d := dMeth "Deeds" "__ror__" "Deeds.__ror__" s_Deeds_ror []) rfl
  exact ⟨fd, F, FunD.bindsN F fun _ _ _ _ _ _ us hl => match us, hl with | [_, _], _ => rfl⟩
theorem got_Deeds_and (c : He.SaysD fas fns K) : ∃ fd, FunD K "__and__" "Deeds.__and__" (defArgs s_Deeds_and) (defBody s_Deeds_and) (defScope s_Deeds_and) [] [] (He.fAd K ("Deeds", some "__and__")) fd ∧ Binds K fd ["self", "other"] [] := by
  obtain ⟨fd, F⟩ := c.def_ 3 (d := dMeth "Deeds" "__and__" "Deeds.__and__" s_Deeds_and []) rfl
  exact ⟨fd, F, FunD.bindsN F fun _ _ _ _ _ _ us hl => match us, hl with | [_, _], _ => rfl⟩
theorem got_Deeds_rand (c : He.SaysD fas fns K) : ∃ fd, FunD K "__rand__" "Deeds.__rand__" (defArgs s_Deeds_rand) (defBody s_Deeds_rand) (defScope s_Deeds_rand) [] [] (He.fAd K ("Deeds", some "__rand__")) fd ∧ Binds K fd ["self", "other"] [] := by
  obtain ⟨fd, F⟩ := c.def_ 4 (d := dMeth "Deeds" "__rand__" "Deeds.__rand__" s_Deeds_rand []) rfl
  exact ⟨fd, F, FunD.bindsN F fun _ _ _ _ _ _ us hl => match us, hl with | [_, _], _ => rfl⟩
theorem got_Deeds_sub (c : He.SaysD fas fns K) : ∃ fd, FunD K "__sub__" "Deeds.__sub__" (defArgs s_Deeds_sub) (defBody s_Deeds_sub) (defScope s_Deeds_sub) [] [] (He.fAd K ("Deeds", some "__sub__")) fd ∧ Binds K fd ["self", "other"] [] := by
  obtain ⟨fd, F⟩ := c.def_ 5 (d := dMeth "Deeds" "__sub__" "Deeds.__sub__" s_Deeds_sub []) rfl
  exact ⟨fd, F, FunD.bindsN F fun _ _ _ _ _ _ us hl => match us, hl with | [_, _], _ => rfl⟩
theorem got_Deeds_rsub (c : He.SaysD fas fns K) : ∃ fd, FunD K "__rsub__" "Deeds.__rsub__" (defArgs s_Deeds_rsub) (defBody s_Deeds_rsub) (defScope s_Deeds_rsub) [] [] (He.fAd K ("Deeds", some "__rsub__")) fd ∧ Binds K fd ["self", "other"] [] := by
  obtain ⟨fd, F⟩ := c.def_ 6 (d := dMeth "Deeds" "__rsub__" "Deeds.__rsub__" s_Deeds_rsub []) rfl
  exact ⟨fd, F, FunD.bindsN F fun _ _ _ _ _ _ us hl => match us, hl with | [_, _], _ => rfl⟩
theorem got_Deeds_ior (c : He.SaysD fas fns K) : ∃ fd, FunD K "__ior__" "Deeds.__ior__" (defArgs s_Deeds_ior) (defBody s_Deeds_ior) (defScope s_Deeds_ior) [] [] (He.fAd K ("Deeds", some "__ior__")) fd ∧ Binds K fd ["self", "other"] [] := by
  obtain ⟨fd, F⟩ := c.def_ 7 (d := dMeth "Deeds" "__ior__" "Deeds.__ior__" s_Deeds_ior []) rfl
  exact ⟨fd, F, FunD.bindsN F fun _ _ _ _ _ _ us hl => match us, hl with | [_, _], _ => rfl⟩
theorem got_Deeds_iand (c : He.SaysD fas fns K) : ∃ fd, FunD K "__iand__" "Deeds.__iand__" (defArgs s_Deeds_iand) (defBody s_Deeds_iand) (defScope s_Deeds_iand) [] [] (He.fAd K ("Deeds", some "__iand__")) fd ∧ Binds K fd ["self", "other"] [] := by
  obtain ⟨fd, F⟩ := c.def_ 8 (d := dMeth "Deeds" "__iand__" "Deeds.__iand__" s_Deeds_iand []) rfl
  exact ⟨fd, F, FunD.bindsN F fun _ _ _ _ _ _ us hl => match us, hl with | [_, _], _ => rfl⟩
theorem got_Deeds_isub (c : He.SaysD fas fns K) : ∃ fd, FunD K "__isub__" "Deeds.__isub__" (defArgs s_Deeds_isub) (defBody s_Deeds_isub) (defScope s_Deeds_isub) [] [] (He.fAd K ("Deeds", some "__isub__")) fd ∧ Binds K fd ["self", "other"] [] := by
  obtain ⟨fd, F⟩ := c.def_ 9 (d := dMeth "Deeds" "__isub__" "Deeds.__isub__" s_Deeds_isub []) rfl
  exact ⟨fd, F, FunD.bindsN F fun _ _ _ _ _ _ us hl => match us, hl with | [_, _], _ => rfl⟩
theorem got_Deeds_init (c : He.SaysD fas fns K) : ∃ (fd : FuncData) (ds : List Value), FunD K "__init__" "Deeds.__init__" (defArgs s_Deeds_init) (defBody s_Deeds_init) (defScope s_Deeds_init) [V.ref ((He.dflAt ("Deeds", some "__init__") 0) K)] [] (He.fAd K ("Deeds", some "__init__")) fd ∧ Vals [V.ref ((He.dflAt ("Deeds", some "__init__") 0) K)] ds ∧ Binds K fd ["self", "words"] ds := by
  obtain ⟨fd, F⟩ := c.def_ 10 (d := dMeth "Deeds" "__init__" "Deeds.__init__" s_Deeds_init [.adr (He.dflAt ("Deeds", some "__init__") 0)]) rfl
  have F : FunD K "__init__" "Deeds.__init__" (defArgs s_Deeds_init) (defBody s_Deeds_init) (defScope s_Deeds_init) [V.ref ((He.dflAt ("Deeds", some "__init__") 0) K)] [] (He.fAd K ("Deeds", some "__init__")) fd := F
  obtain ⟨ds, h1, h2⟩ := FunD.binds1 (ps := ["self", "words"]) F 1 0 (by simp) rfl fun _ _ _ _ _ _ _ us its hu hi => match us, its, hu, hi with | [_], [_], _, _ => ⟨_, rfl, rfl⟩
  exact ⟨fd, ds, F, h1, h2⟩
theorem got_BadWords_init (c : He.SaysD fas fns K) : ∃ fd, FunD K "__init__" "BadWords.__init__" (defArgs s_BadWords_init) (defBody s_BadWords_init) (defScope s_BadWords_init) [] [] (He.fAd K ("BadWords", some "__init__")) fd ∧ Binds K fd ["self", "value"] [] := by
  obtain ⟨fd, F⟩ := c.def_ 11 (d := dMeth "BadWords" "__init__" "BadWords.__init__" s_BadWords_init []) rfl
  exact ⟨fd, F, FunD.bindsN F fun _ _ _ _ _ _ us hl => match us, hl with | [_, _], _ => rfl⟩
theorem got_is_row (X : K.In h) (G : h.Ns mainGlobals mg) (c : He.SaysD fas fns K) : ∃ fd, FunD K "is_row" "is_row" (defArgs s_is_row) (defBody s_is_row) (defScope s_is_row) [] [] (He.fAd K ("is_row", none)) fd ∧ Binds K fd ["value"] [] ∧ mg "is_row" = some (.ref (He.fAd K ("is_row", none))) := by
  obtain ⟨fd, F⟩ := c.def_ 12 (d := dTop "is_row" s_is_row) rfl
  exact ⟨fd, F, FunD.bindsN F fun _ _ _ _ _ _ us hl => match us, hl with | [_], _ => rfl, He.glo_ok X G (c.fact 26 (f := .glo "is_row") rfl)⟩
theorem got_is_name (X : K.In h) (G : h.Ns mainGlobals mg) (c : He.SaysD fas fns K) : ∃ fd, FunD K "is_name" "is_name" (defArgs s_is_name) (defBody s_is_name) (defScope s_is_name) [] [] (He.fAd K ("is_name", none)) fd ∧ Binds K fd ["value"] [] ∧ mg "is_name" = some (.ref (He.fAd K ("is_name", none))) := by
  obtain ⟨fd, F⟩ := c.def_ 13 (d := dTop "is_name" s_is_name) rfl
  exact ⟨fd, F, FunD.bindsN F fun _ _ _ _ _ _ us hl => match us, hl with | [_], _ => rfl, He.glo_ok X G (c.fact 27 (f := .glo "is_name") rfl)⟩
theorem got_told_names (X : K.In h) (G : h.Ns mainGlobals mg) (c : He.SaysD fas fns K) : ∃ fd, FunD K "told_names" "told_names" (defArgs s_told_names) (defBody s_told_names) (defScope s_told_names) [] [] (He.fAd K ("told_names", none)) fd ∧ Binds K fd ["words"] [] ∧ mg "told_names" = some (.ref (He.fAd K ("told_names", none))) := by
  obtain ⟨fd, F⟩ := c.def_ 14 (d := dTop "told_names" s_told_names) rfl
  exact ⟨fd, F, FunD.bindsN F fun _ _ _ _ _ _ us hl => match us, hl with | [_], _ => rfl, He.glo_ok X G (c.fact 28 (f := .glo "told_names") rfl)⟩
theorem got_law_pool (X : K.In h) (G : h.Ns mainGlobals mg) (c : He.SaysD fas fns K) : ∃ fd, FunD K "_law_pool" "_law_pool" (defArgs s_law_pool) (defBody s_law_pool) (defScope s_law_pool) [] [] (He.fAd K ("_law_pool", none)) fd ∧ Binds K fd ["_law_cell_here"] [] ∧ mg "_law_pool" = some (.ref (He.fAd K ("_law_pool", none))) := by
  obtain ⟨fd, F⟩ := c.def_ 15 (d := dTop "_law_pool" s_law_pool) rfl
  exact ⟨fd, F, FunD.bindsN F fun _ _ _ _ _ _ us hl => match us, hl with | [_], _ => rfl, He.glo_ok X G (c.fact 29 (f := .glo "_law_pool") rfl)⟩
theorem got_law_cell (X : K.In h) (G : h.Ns mainGlobals mg) (c : He.SaysD fas fns K) : ∃ fd, FunD K "_law_cell" "_law_cell" (defArgs s_law_cell) (defBody s_law_cell) (defScope s_law_cell) [] [] (He.fAd K ("_law_cell", none)) fd ∧ Binds K fd ["_law_script", "_law_k"] [] ∧ mg "_law_cell" = some (.ref (He.fAd K ("_law_cell", none))) := by
  obtain ⟨fd, F⟩ := c.def_ 16 (d := dTop "_law_cell" s_law_cell) rfl
  exact ⟨fd, F, FunD.bindsN F fun _ _ _ _ _ _ us hl => match us, hl with | [_, _], _ => rfl, He.glo_ok X G (c.fact 30 (f := .glo "_law_cell") rfl)⟩
theorem got_law_draw (X : K.In h) (G : h.Ns mainGlobals mg) (c : He.SaysD fas fns K) : ∃ fd, FunD K "_law_draw" "_law_draw" (defArgs s_law_draw) (defBody s_law_draw) (defScope s_law_draw) [] [] (He.fAd K ("_law_draw", none)) fd ∧ Binds K fd ["_law_pool_here", "_law_many"] [] ∧ mg "_law_draw" = some (.ref (He.fAd K ("_law_draw", none))) := by
  obtain ⟨fd, F⟩ := c.def_ 17 (d := dTop "_law_draw" s_law_draw) rfl
  exact ⟨fd, F, FunD.bindsN F fun _ _ _ _ _ _ us hl => match us, hl with | [_, _], _ => rfl, He.glo_ok X G (c.fact 31 (f := .glo "_law_draw") rfl)⟩
theorem got_law_names (X : K.In h) (G : h.Ns mainGlobals mg) (c : He.SaysD fas fns K) : ∃ fd, FunD K "_law_names" "_law_names" (defArgs s_law_names) (defBody s_law_names) (defScope s_law_names) [] [] (He.fAd K ("_law_names", none)) fd ∧ Binds K fd ["_law_pool_here", "_law_many"] [] ∧ mg "_law_names" = some (.ref (He.fAd K ("_law_names", none))) := by
  obtain ⟨fd, F⟩ := c.def_ 18 (d := dTop "_law_names" s_law_names) rfl
  exact ⟨fd, F, FunD.bindsN F fun _ _ _ _ _ _ us hl => match us, hl with | [_, _], _ => rfl, He.glo_ok X G (c.fact 32 (f := .glo "_law_names") rfl)⟩
theorem got_law_same (X : K.In h) (G : h.Ns mainGlobals mg) (c : He.SaysD fas fns K) : ∃ fd, FunD K "_law_same" "_law_same" (defArgs s_law_same) (defBody s_law_same) (defScope s_law_same) [] [] (He.fAd K ("_law_same", none)) fd ∧ Binds K fd ["_law_told", "_law_due_here"] [] ∧ mg "_law_same" = some (.ref (He.fAd K ("_law_same", none))) := by
  obtain ⟨fd, F⟩ := c.def_ 19 (d := dTop "_law_same" s_law_same) rfl
  exact ⟨fd, F, FunD.bindsN F fun _ _ _ _ _ _ us hl => match us, hl with | [_, _], _ => rfl, He.glo_ok X G (c.fact 33 (f := .glo "_law_same") rfl)⟩
theorem got_law_pick (X : K.In h) (G : h.Ns mainGlobals mg) (c : He.SaysD fas fns K) : ∃ fd, FunD K "_law_pick" "_law_pick" (defArgs s_law_pick) (defBody s_law_pick) (defScope s_law_pick) [] [] (He.fAd K ("_law_pick", none)) fd ∧ Binds K fd ["_law_pool_here", "_law_names_here"] [] ∧ mg "_law_pick" = some (.ref (He.fAd K ("_law_pick", none))) := by
  obtain ⟨fd, F⟩ := c.def_ 20 (d := dTop "_law_pick" s_law_pick) rfl
  exact ⟨fd, F, FunD.bindsN F fun _ _ _ _ _ _ us hl => match us, hl with | [_, _], _ => rfl, He.glo_ok X G (c.fact 34 (f := .glo "_law_pick") rfl)⟩
theorem got_law_due (X : K.In h) (G : h.Ns mainGlobals mg) (c : He.SaysD fas fns K) : ∃ fd, FunD K "_law_due" "_law_due" (defArgs s_law_due) (defBody s_law_due) (defScope s_law_due) [] [] (He.fAd K ("_law_due", none)) fd ∧ Binds K fd ["_law_turn", "_law_one", "_law_two"] [] ∧ mg "_law_due" = some (.ref (He.fAd K ("_law_due", none))) := by
  obtain ⟨fd, F⟩ := c.def_ 21 (d := dTop "_law_due" s_law_due) rfl
  exact ⟨fd, F, FunD.bindsN F fun _ _ _ _ _ _ us hl => match us, hl with | [_, _, _], _ => rfl, He.glo_ok X G (c.fact 35 (f := .glo "_law_due") rfl)⟩
theorem got_law_refused (X : K.In h) (G : h.Ns mainGlobals mg) (c : He.SaysD fas fns K) : ∃ fd, FunD K "_law_refused" "_law_refused" (defArgs s_law_refused) (defBody s_law_refused) (defScope s_law_refused) [] [] (He.fAd K ("_law_refused", none)) fd ∧ Binds K fd ["_law_pool_here", "_law_row"] [] ∧ mg "_law_refused" = some (.ref (He.fAd K ("_law_refused", none))) := by
  obtain ⟨fd, F⟩ := c.def_ 22 (d := dTop "_law_refused" s_law_refused) rfl
  exact ⟨fd, F, FunD.bindsN F fun _ _ _ _ _ _ us hl => match us, hl with | [_, _], _ => rfl, He.glo_ok X G (c.fact 36 (f := .glo "_law_refused") rfl)⟩
theorem got_law_tried (X : K.In h) (G : h.Ns mainGlobals mg) (c : He.SaysD fas fns K) : ∃ fd, FunD K "_law_tried" "_law_tried" (defArgs s_law_tried) (defBody s_law_tried) (defScope s_law_tried) [] [] (He.fAd K ("_law_tried", none)) fd ∧ Binds K fd ["_law_deeds", "_law_turn", "_law_other"] [] ∧ mg "_law_tried" = some (.ref (He.fAd K ("_law_tried", none))) := by
  obtain ⟨fd, F⟩ := c.def_ 23 (d := dTop "_law_tried" s_law_tried) rfl
  exact ⟨fd, F, FunD.bindsN F fun _ _ _ _ _ _ us hl => match us, hl with | [_, _, _], _ => rfl, He.glo_ok X G (c.fact 37 (f := .glo "_law_tried") rfl)⟩
theorem got_law_all_hold (X : K.In h) (G : h.Ns mainGlobals mg) (c : He.SaysD fas fns K) : ∃ fd, FunD K "_law_all_hold" "_law_all_hold" (defArgs s_law_all_hold) (defBody s_law_all_hold) (defScope s_law_all_hold) [] [] (He.fAd K ("_law_all_hold", none)) fd ∧ Binds K fd ["_law_held", "_law_others", "_law_model"] [] ∧ mg "_law_all_hold" = some (.ref (He.fAd K ("_law_all_hold", none))) := by
  obtain ⟨fd, F⟩ := c.def_ 24 (d := dTop "_law_all_hold" s_law_all_hold) rfl
  exact ⟨fd, F, FunD.bindsN F fun _ _ _ _ _ _ us hl => match us, hl with | [_, _, _], _ => rfl, He.glo_ok X G (c.fact 38 (f := .glo "_law_all_hold") rfl)⟩
theorem got_law_change (X : K.In h) (G : h.Ns mainGlobals mg) (c : He.SaysD fas fns K) : ∃ fd, FunD K "_law_change" "_law_change" (defArgs s_law_change) (defBody s_law_change) (defScope s_law_change) [] [] (He.fAd K ("_law_change", none)) fd ∧ Binds K fd ["_law_deeds", "_law_turn", "_law_other"] [] ∧ mg "_law_change" = some (.ref (He.fAd K ("_law_change", none))) := by
  obtain ⟨fd, F⟩ := c.def_ 25 (d := dTop "_law_change" s_law_change) rfl
  exact ⟨fd, F, FunD.bindsN F fun _ _ _ _ _ _ us hl => match us, hl with | [_, _, _], _ => rfl, He.glo_ok X G (c.fact 39 (f := .glo "_law_change") rfl)⟩
theorem got_law_odd_name (X : K.In h) (G : h.Ns mainGlobals mg) (c : He.SaysD fas fns K) : ∃ fd, FunD K "_law_odd_name" "_law_odd_name" (defArgs s_law_odd_name) (defBody s_law_odd_name) (defScope s_law_odd_name) [] [] (He.fAd K ("_law_odd_name", none)) fd ∧ Binds K fd ["_law_number"] [] ∧ mg "_law_odd_name" = some (.ref (He.fAd K ("_law_odd_name", none))) := by
  obtain ⟨fd, F⟩ := c.def_ 26 (d := dTop "_law_odd_name" s_law_odd_name) rfl
  exact ⟨fd, F, FunD.bindsN F fun _ _ _ _ _ _ us hl => match us, hl with | [_], _ => rfl, He.glo_ok X G (c.fact 40 (f := .glo "_law_odd_name") rfl)⟩
theorem got_law_odd_row (X : K.In h) (G : h.Ns mainGlobals mg) (c : He.SaysD fas fns K) : ∃ fd, FunD K "_law_odd_row" "_law_odd_row" (defArgs s_law_odd_row) (defBody s_law_odd_row) (defScope s_law_odd_row) [] [] (He.fAd K ("_law_odd_row", none)) fd ∧ Binds K fd ["_law_number"] [] ∧ mg "_law_odd_row" = some (.ref (He.fAd K ("_law_odd_row", none))) := by
  obtain ⟨fd, F⟩ := c.def_ 27 (d := dTop "_law_odd_row" s_law_odd_row) rfl
  exact ⟨fd, F, FunD.bindsN F fun _ _ _ _ _ _ us hl => match us, hl with | [_], _ => rfl, He.glo_ok X G (c.fact 41 (f := .glo "_law_odd_row") rfl)⟩
theorem got_law_name (X : K.In h) (G : h.Ns mainGlobals mg) (c : He.SaysD fas fns K) : ∃ fd, FunD K "_law_name" "_law_name" (defArgs s_law_name) (defBody s_law_name) (defScope s_law_name) [] [] (He.fAd K ("_law_name", none)) fd ∧ Binds K fd ["_law_number"] [] ∧ mg "_law_name" = some (.ref (He.fAd K ("_law_name", none))) := by
  obtain ⟨fd, F⟩ := c.def_ 28 (d := dTop "_law_name" s_law_name) rfl
  exact ⟨fd, F, FunD.bindsN F fun _ _ _ _ _ _ us hl => match us, hl with | [_], _ => rfl, He.glo_ok X G (c.fact 42 (f := .glo "_law_name") rfl)⟩
theorem got_law (X : K.In h) (G : h.Ns mainGlobals mg) (c : He.SaysD fas fns K) : ∃ fd, FunD K "law" "law" (defArgs s_law) (defBody s_law) (defScope s_law) [] [] (He.fAd K ("law", none)) fd ∧ Binds K fd ["_law_script"] [] ∧ mg "law" = some (.ref (He.fAd K ("law", none))) := by
  obtain ⟨fd, F⟩ := c.def_ 29 (d := dTop "law" s_law) rfl
  exact ⟨fd, F, FunD.bindsN F fun _ _ _ _ _ _ us hl => match us, hl with | [_], _ => rfl, He.glo_ok X G (c.fact 43 (f := .glo "law") rfl)⟩
theorem got_blt (X : K.In h) (G : h.Ns mainGlobals mg) (c : He.SaysD fas fns K) : Blt mg := ⟨He.free_ok X G (c.fact 12 (f := .free "len") rfl), He.free_ok X G (c.fact 13 (f := .free "int") rfl), He.free_ok X G (c.fact 14 (f := .free "range") rfl), He.free_ok X G (c.fact 15 (f := .free "isinstance") rfl), He.free_ok X G (c.fact 16 (f := .free "tuple") rfl), He.free_ok X G (c.fact 17 (f := .free "list") rfl), He.free_ok X G (c.fact 18 (f := .free "set") rfl), He.free_ok X G (c.fact 19 (f := .free "sorted") rfl), He.free_ok X G (c.fact 20 (f := .free "all") rfl), He.free_ok X G (c.fact 21 (f := .free "enumerate") rfl)⟩
theorem got_kin (X : K.In h) (G : h.Ns mainGlobals mg) (c : He.SaysD fas fns K) : Kin mg := ⟨He.free_ok X G (c.fact 22 (f := .free "bool") rfl), He.free_ok X G (c.fact 23 (f := .free "str") rfl), He.int_ok X G (c.fact 25 (f := .int "MOST_LETTERS" 12) rfl)⟩
theorem got_blt2 (X : K.In h) (G : h.Ns mainGlobals mg) (c : He.SaysD fas fns K) : Blt2 mg := ⟨He.free_ok X G (c.fact 24 (f := .free "dict") rfl)⟩
theorem got_deedT (c : He.SaysD fas fns K) : DeedT K (He.ga K "Deeds") := ⟨He.cls_ok (c.fact 5 (f := .cls "Deeds") rfl), He.noat_ok (c.fact 7 (f := .noat "Deeds" "kept") rfl)⟩

theorem law_at {w : World} {fa : Addr} (X : K.In h) (G : h.Ns mainGlobals mg) (hfa : mg ("law" : Str) = some (.ref fa)) (S : He.SaysX fas fns [] tfs exs w h K) : LamX.LawAtS PySem.Challenge.rw_surelydone_k14_whole_deeds_changed_in_pl w K CX0 11 63 "_law_script" mg fa h := by
  have c := S.t.d
  obtain ⟨d_Deeds_names, F_Deeds_names, b_Deeds_names⟩ := got_Deeds_names c
  obtain ⟨d_Deeds_or, F_Deeds_or, b_Deeds_or⟩ := got_Deeds_or c
  obtain ⟨d_Deeds_ror, F_Deeds_ror, b_Deeds_ror⟩ := got_Deeds_ror c
  obtain ⟨d_Deeds_and, F_Deeds_and, b_Deeds_and⟩ := got_Deeds_and c
  obtain ⟨d_Deeds_rand, F_Deeds_rand, b_Deeds_rand⟩ := got_Deeds_rand c
  obtain ⟨d_Deeds_sub, F_Deeds_sub, b_Deeds_sub⟩ := got_Deeds_sub c
  obtain ⟨d_Deeds_rsub, F_Deeds_rsub, b_Deeds_rsub⟩ := got_Deeds_rsub c
  obtain ⟨d_Deeds_ior, F_Deeds_ior, b_Deeds_ior⟩ := got_Deeds_ior c
  obtain ⟨d_Deeds_iand, F_Deeds_iand, b_Deeds_iand⟩ := got_Deeds_iand c
  obtain ⟨d_Deeds_isub, F_Deeds_isub, b_Deeds_isub⟩ := got_Deeds_isub c
  obtain ⟨d_Deeds_init, ds_Deeds_init, F_Deeds_init, v_Deeds_init, b_Deeds_init⟩ := got_Deeds_init c
  obtain ⟨d_BadWords_init, F_BadWords_init, b_BadWords_init⟩ := got_BadWords_init c
  obtain ⟨d_is_row, F_is_row, b_is_row, g_is_row⟩ := got_is_row X G c
  obtain ⟨d_is_name, F_is_name, b_is_name, g_is_name⟩ := got_is_name X G c
  obtain ⟨d_told_names, F_told_names, b_told_names, g_told_names⟩ := got_told_names X G c
  obtain ⟨d_law_pool, F_law_pool, b_law_pool, g_law_pool⟩ := got_law_pool X G c
  obtain ⟨d_law_cell, F_law_cell, b_law_cell, g_law_cell⟩ := got_law_cell X G c
  obtain ⟨d_law_draw, F_law_draw, b_law_draw, g_law_draw⟩ := got_law_draw X G c
  obtain ⟨d_law_names, F_law_names, b_law_names, g_law_names⟩ := got_law_names X G c
  obtain ⟨d_law_same, F_law_same, b_law_same, g_law_same⟩ := got_law_same X G c
  obtain ⟨d_law_pick, F_law_pick, b_law_pick, g_law_pick⟩ := got_law_pick X G c
  obtain ⟨d_law_due, F_law_due, b_law_due, g_law_due⟩ := got_law_due X G c
  obtain ⟨d_law_refused, F_law_refused, b_law_refused, g_law_refused⟩ := got_law_refused X G c
  obtain ⟨d_law_tried, F_law_tried, b_law_tried, g_law_tried⟩ := got_law_tried X G c
  obtain ⟨d_law_all_hold, F_law_all_hold, b_law_all_hold, g_law_all_hold⟩ := got_law_all_hold X G c
  obtain ⟨d_law_change, F_law_change, b_law_change, g_law_change⟩ := got_law_change X G c
  obtain ⟨d_law_odd_name, F_law_odd_name, b_law_odd_name, g_law_odd_name⟩ := got_law_odd_name X G c
  obtain ⟨d_law_odd_row, F_law_odd_row, b_law_odd_row, g_law_odd_row⟩ := got_law_odd_row X G c
  obtain ⟨d_law_name, F_law_name, b_law_name, g_law_name⟩ := got_law_name X G c
  obtain ⟨d_law, F_law, b_law, g_law⟩ := got_law X G c
  have hCh := hfa.symm.trans g_law
  cases hCh
  have bl := FunD.bindsA (ps := ["_law_script"]) F_law fun _ _ _ _ _ _ us hl => match us, hl with | [_], _ => rfl
  refine ⟨d_law, [], spLaw K, (fun p hp => nomatch hp), (fun p hp => nomatch hp), (fun p hp => nomatch hp), fun s u => bl s [u] rfl, fun H a ns hn _ hT hS => ?_, fun base KBX GB TB => ?_⟩
  · exact ⟨a, ns, rfl, hS, hn, fun _ => rfl⟩
  · obtain ⟨x0, z⟩ := He.ba S.more
    obtain ⟨x1, z⟩ := He.ba z
    obtain ⟨x2, z⟩ := He.ba z
    obtain ⟨x3, z⟩ := He.ba z
    obtain ⟨x4, z⟩ := He.ba z
    obtain ⟨x5, z⟩ := He.ba z
    obtain ⟨x6, z⟩ := He.ba z
    obtain ⟨x7, z⟩ := He.ba z
    obtain ⟨x8, z⟩ := He.ba z
    obtain ⟨x9, z⟩ := He.ba z
    obtain ⟨x10, x11⟩ := He.ba z
    have TD := got_deedT c
    have M_names : Meth K (He.ga K "Deeds") "names" (He.fAd K ("Deeds", some "names")) := He.meth_ok (c.fact 8 (f := .meth "Deeds" "names") rfl)
    have M_ior : Meth K (He.ga K "Deeds") "__ior__" (He.fAd K ("Deeds", some "__ior__")) := He.meth_ok (c.fact 9 (f := .meth "Deeds" "__ior__") rfl)
    have M_iand : Meth K (He.ga K "Deeds") "__iand__" (He.fAd K ("Deeds", some "__iand__")) := He.meth_ok (c.fact 10 (f := .meth "Deeds" "__iand__") rfl)
    have M_isub : Meth K (He.ga K "Deeds") "__isub__" (He.fAd K ("Deeds", some "__isub__")) := He.meth_ok (c.fact 11 (f := .meth "Deeds" "__isub__") rfl)
    exact ok_lawH (fun_of F_law) (got_blt X G c) (got_kin X G c) (got_blt2 X G c) ⟨fun_of F_is_row, b_is_row, g_is_row, fun_of F_is_name, b_is_name, g_is_name, fun_of F_told_names, b_told_names, g_told_names, fun_of F_Deeds_names, b_Deeds_names, M_names, He.glo_ok X G (c.fact 4 (f := .glo "Deeds") rfl), TD, ⟨ownB_ok TD.cl x0, of_decide_eq_true x1, of_decide_eq_true x2⟩⟩ ⟨F_Deeds_init, deeds_b2 F_Deeds_init, He.mkr_ok (c.fact 6 (f := .mkr "Deeds") rfl)⟩ ⟨fun_of F_Deeds_or, b_Deeds_or, fun_of F_Deeds_ror, b_Deeds_ror, binDB_ok rfl rfl x3, fun_of F_Deeds_and, b_Deeds_and, fun_of F_Deeds_rand, b_Deeds_rand, binDB_ok rfl rfl x4, fun_of F_Deeds_sub, b_Deeds_sub, fun_of F_Deeds_rsub, b_Deeds_rsub, binDB_ok rfl rfl x5⟩ ⟨(He.ba x3).1, fun_of F_Deeds_ior, b_Deeds_ior, M_ior, fun_of F_Deeds_iand, b_Deeds_iand, M_iand, fun_of F_Deeds_isub, b_Deeds_isub, M_isub⟩ (kindB_ok x6) (sevB_ok rfl rfl x7) (sevB_ok rfl rfl x8) (sevB_ok rfl rfl x9) ⟨oexB_ok x10, (He.meth_ok (c.fact 1 (f := .meth "BadWords" "__init__") rfl)).at_, beq_iff_eq.mp (He.meth_ok (c.fact 1 (f := .meth "BadWords" "__init__") rfl)).fn, b_BadWords_init, He.glo_ok X G (c.fact 0 (f := .glo "BadWords") rfl), xfB_ok x11, He.noat_ok (c.fact 2 (f := .noat "BadWords" "value") rfl), He.exm_ok (c.fact 3 (f := .exm "BadWords" "BadWords" true) rfl)⟩ (fun_of F_BadWords_init) ⟨⟨fun_of F_law_pool, b_law_pool, g_law_pool⟩, ⟨fun_of F_law_cell, b_law_cell, g_law_cell⟩, ⟨fun_of F_law_draw, b_law_draw, g_law_draw⟩, ⟨fun_of F_law_names, b_law_names, g_law_names⟩, ⟨fun_of F_law_same, b_law_same, g_law_same⟩, ⟨fun_of F_law_pick, b_law_pick, g_law_pick⟩, ⟨fun_of F_law_due, b_law_due, g_law_due⟩, ⟨fun_of F_law_refused, b_law_refused, g_law_refused⟩, ⟨fun_of F_law_tried, b_law_tried, g_law_tried⟩, ⟨fun_of F_law_all_hold, b_law_all_hold, g_law_all_hold⟩⟩ ⟨fun_of F_law_change, b_law_change, g_law_change⟩ ⟨fun_of F_law_odd_name, b_law_odd_name, g_law_odd_name⟩ ⟨fun_of F_law_odd_row, b_law_odd_row, g_law_odd_row⟩ ⟨fun_of F_law_name, b_law_name, g_law_name⟩
end
end KX
namespace KX
open PySem PySem.Spec PyProof.Rows L2 UL
end KX
open PySem PySem.W PySem.Calls PyProof.Rows
theorem PySem.Challenge.cw_surelydone_k14_whole_deeds_changed_in_pl_holds : PySem.Challenge.rw_surelydone_k14_whole_deeds_changed_in_pl.Holds := by
  w_on; o_law
  refine HandSHeadRun.head_any (r := KX.Rw) (q := KX.vw) (H := KX.hkX) (ob := KX.obX) (M := 8500) (loose := KX.lse) (d := HandSHeadRun.topDef KX.Rw.prog 26) (kwd := []) KX.obX_eq
    (by kernel_rfl) (fun s => by kernel_rfl) KX.runX (by kernel_rfl) (by kernel_rfl) (by kernel_rfl) (by rfl) (by first | assumption | decide +kernel) (by decide +kernel) ⟨rfl, rfl, rfl, rfl, rfl, by decide +kernel⟩ ?hw ?hc
  case hw => w_witness2
  case hc =>
    refine LamX.walk_ofTsE (l := PySem.Challenge.rw_surelydone_k14_whole_deeds_changed_in_pl) (n := 63) (k := 11) (x := "_law_script") (CX := fun _ => L2.CX0) rfl (by decide) (by kernel_rfl) ⟨by rfl, by decide, by decide⟩ ?F (fun _ _ _ _ _ z => z)
    intro w mg fa h Y G hmg0
    obtain ⟨K, KX1, c⟩ := Y
    have hmg : mg ("law" : PySem.Str) = some (.ref fa) := by
      have e : (HandSHeadRun.topDef KX.Rw.prog 26).name = ("law" : PySem.Str) := by kernel_rfl
      rw [← e]
      exact hmg0
    exact ⟨K, KX1, KX.law_at KX1 G hmg c⟩
