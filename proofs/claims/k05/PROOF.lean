import PyProof.Rows.All
import Wide.All
import OpenK.AllK
import Wide.FinOn
import KE.KLam
import HandS.ForMost
import HandS.Exc
import HandS.Codes
import HandS.TryOnly
import HandS.Lambda
import HandS.Nested
import HandS.NestedK
import PyProof.CodeObj
import HandS.Set
import HandS.SetBool
import HandS.Strs
import HandS.SetFor
import HandS.Iter
import KE.GoesMore
import HandS.Walk
import PyProof.InstNe
import HandS.IsInst
import HandS.OwnEq
import HandS.Wide
import HandS.Conv
import HandS.Deep
import HandS.TupAny
import HandS.HeadHook4
import HandS.HeadWalk
import HandS.Head2
import HandS.Defaults
import HandS.Style
import HandS.MakeKw
import PySem.Challenge.RW_surelydone_k05_system_tells_its_parts
set_option Elab.async false
set_option linter.all false
set_option maxRecDepth 100000
set_option maxHeartbeats 8000000
/-! Lambdas of one parameter that capture names, handed to a def that calls them. -/
namespace VL
open PySem PySem.Spec PyProof.Rows L2 LamX NdefX

structure LF where
  qual : Str
  params : Arguments
  body : Expr
  scope : Scope
  cl : List (Str × Addr)
  c : Addr

/-- at f stands the lambda F -/
def LamO (f : Addr) (F : LF) : HO := .ext fun h => ∃ (od : Option Addr) (sl : Array (Option Value)) (pm ctv : Value),
  h.get? f = some (⟨.type "function", od, .func (PySem.W.kla_fn "<lambda>" F.qual F.params F.body F.scope F.cl pm (.ref F.c) ctv), sl⟩ : Obj)
theorem lamO_at {P : Program} {w : World} {H : Hp} {h : Heap} {f : Addr} {F : LF} (hok : HOk P w H h) (e : H f = some (LamO f F)) : ∃ (od : Option Addr) (sl : Array (Option Value)) (pm ctv : Value),
    h.get? f = some (⟨.type "function", od, .func (PySem.W.kla_fn "<lambda>" F.qual F.params F.body F.scope F.cl pm (.ref F.c) ctv), sl⟩ : Obj) := (hok f _ e).1
theorem lamO_ne {f : Addr} {F : LF} (ps : Array Value) : LamO f F ≠ .tbl ps := fun z => by
  unfold LamO at z
  cases z

section
variable {X : Cx} {pins : List (Addr × Obj)} {σ : L2.St} {H : Hp} {s : Shared}
theorem inv_lam {F : LF} {t' : Nat} {pm ctv : Value} (I : Inv X pins σ H s) :
    Inv X pins σ (upd H s.heap.objs.size (LamO s.heap.objs.size F)) { s with heap := s.heap.push (PySem.W.kla_obj "<lambda>" F.qual F.params F.body F.scope F.cl pm F.c ctv), toks := t' } := by
  refine I.laid (a := s.heap.objs.size) (fun b u e => Heap.get?_push_of_some _ e) (Nat.le_refl _) ?_
  have e : (s.heap.push (PySem.W.kla_obj "<lambda>" F.qual F.params F.body F.scope F.cl pm F.c ctv)).get? s.heap.objs.size = some (PySem.W.kla_obj "<lambda>" F.qual F.params F.body F.scope F.cl pm F.c ctv) := Heap.get?_push_size _ rfl
  exact ⟨⟨_, _, pm, ctv, e⟩, ⟨_, e⟩, fun h1 h2 ⟨od, sl, p, t, z⟩ st => ⟨od, sl, p, t, st _ z⟩⟩

theorem lam_mk {T : List NTab} {nm : Nat → Nat → Str} {c P : Addr} {params : Arguments} {body : Expr} {scope : Scope} {pos : Pos} {E : Value → Shared → Prop} {Q : Value → Shared → Prop} (I : Inv X pins σ H s) (TB : TabB X.base X.mg c P) (hcode : X.env.code = .ref c)
    (hm : (P, nm) ∈ T) (hn : nm pos.line pos.col = X.env.qual ++ "<lambda>") (hu : ∀ p ∈ T, p.1 = P → p.2 = nm) (hT : TabsN T H) (hdef : defaultsOf params X.env = ([], [])) (hfree : ∀ y ∈ scope.names, y.2 = .free → ∃ c, X.env.cells.lookup y.1 = some c)
    (h : ∀ (f c' : Addr) (H1 : Hp) (s' : Shared), Inv X pins σ H1 s' → ExtN H H1 → (∀ b, H1 b = Option.none → H b = Option.none) → TabsN T H1 → H f = none →
      H1 f = some (LamO f ⟨X.env.qual ++ "<lambda>", params, body, scope, cloFrom X.env.cells scope.names [], c'⟩) → H1 c' = some (CodeO c' (X.env.qual ++ "<lambda>")) → Q (.ref f) s') :
    wpAny (model X.prog X.w) X.A (eval (.Lambda params body scope pos) X.env) Q E s := by
  obtain ⟨ps, hP, ht, ha⟩ := (show TabN H P nm from hT _ hm)
  refine PySem.W.kla_eval hdef ?_
  have bP : s.heap.BuiltinsAt X.mg P := TB.bm.keeps I.bk
  have hP' : s.heap.get? P = some { cls := .none, data := .fields ps } := I.hok P _ hP
  cases hc : codeAmong pos ps.toList with
  | none =>
    refine PySem.W.kla_makeFunction (mg := X.mg) (c := c) (P := P) (ps := ps) (closure_ok hfree) I.ok.glob (I.mod.glob.keeps I.bk) hcode (TB.code.keeps I.bk) hP' ht hc TB.gP bP fun c' ctv h' tk hx hge hlt hrec htb => ?_
    obtain ⟨c2, oc, vs, t, e2, hoc, hd, hv⟩ := hrec
    cases e2
    have nC : H c' = none := I.hok.fresh hge
    have I1 := inv_table (t' := tk) (more := #[rawInt pos.line, rawInt pos.col, .ref c']) (h' := h') I hP (fun b o hb e => hx b o hb e) htb hge ⟨oc, vs, t, hoc, hd, hv⟩
    have hE : ExtN H (upd (upd H P (.tbl (ps ++ #[rawInt pos.line, rawInt pos.col, .ref c']))) c' (CodeO c' (X.env.qual ++ "<lambda>"))) := fun b o e n => by
      rw [upd_ne (ne_of_none e nC), upd_ne (fun z => n ps (Option.some.inj (e.symm.trans (by rw [z]; exact hP))))]
      exact e
    have eL : (ps ++ #[rawInt pos.line, rawInt pos.col, .ref c']).toList = ps.toList ++ [rawInt pos.line, rawInt pos.col, .ref c'] := by simp
    have T1 : TabsN T (upd (upd H P (.tbl (ps ++ #[rawInt pos.line, rawInt pos.col, .ref c']))) c' (CodeO c' (X.env.qual ++ "<lambda>"))) := fun p hp => by
      by_cases hb : p.1 = P
      · rw [hu p hp hb, hb]
        refine ⟨_, by rw [upd_ne (ne_of_none hP nC), upd_same], by rw [eL]; exact PySem.TriplesOk_snoc _ _ _ _ ht, fun p' cv hcv => ?_⟩
        rw [eL] at hcv
        rcases among_app2 _ ht hcv with z | ⟨z, z1, z2⟩
        · obtain ⟨c0, e1, e2⟩ := ha p' cv z
          exact ⟨c0, e1, hE _ _ e2 codeO_ne⟩
        · refine ⟨c', z, ?_⟩
          rw [← z1, ← z2, hn]
          exact upd_same
      · obtain ⟨ps', a1, a2, a3⟩ := hT p hp
        refine ⟨ps', by rw [upd_ne (ne_of_none a1 nC), upd_ne hb]; exact a1, a2, fun p' cv hcv => ?_⟩
        obtain ⟨c0, e1, e2⟩ := a3 p' cv hcv
        exact ⟨c0, e1, hE _ _ e2 codeO_ne⟩
    have nF := I1.hok.fresh (Nat.le_refl _)
    have I2 := inv_lam (F := ⟨X.env.qual ++ "<lambda>", params, body, scope, cloFrom X.env.cells scope.names [], c'⟩) (t' := tk) (pm := (X.mg "__name__").getD .none) (ctv := ctv) I1
    refine h h'.objs.size c' _ _ I2 (fun b o e n => ?_) (fun b e => upd_none (upd_none (upd_none e))) (T1.ext fun b o e => ?_) (I.hok.fresh (Nat.le_trans hge (Nat.le_of_lt hlt))) upd_same ?_
    · have e1 := hE b o e n
      exact (upd_ne (ne_of_none e1 nF)).trans e1
    · exact (upd_ne (ne_of_none e nF)).trans e
    · exact (upd_ne (Nat.ne_of_lt hlt)).trans upd_same
  | some cv =>
    obtain ⟨c', e, hco⟩ := ha pos cv hc
    subst e
    rw [hn] at hco
    refine PySem.W.kla_makeFunctionHit (mg := X.mg) (c := c) (P := P) (ps := ps) (closure_ok hfree) I.ok.glob (I.mod.glob.keeps I.bk) hcode (TB.code.keeps I.bk) hP' ht hc bP fun ctv h' tk hx hsz => ?_
    have I1 : Inv X pins σ H { s with heap := h', toks := tk } := I.kept hx
    have nF : H h'.objs.size = none := I1.hok.fresh (Nat.le_refl _)
    have I2 := inv_lam (F := ⟨X.env.qual ++ "<lambda>", params, body, scope, cloFrom X.env.cells scope.names [], c'⟩) (t' := tk) (pm := (X.mg "__name__").getD .none) (ctv := ctv) I1
    refine h h'.objs.size c' _ _ I2 (fun b o e n => ?_) (fun b e => upd_none e) (hT.ext fun b o e => ?_) nF upd_same ?_
    · exact (upd_ne (ne_of_none e nF)).trans e
    · exact (upd_ne (ne_of_none e nF)).trans e
    · exact (upd_ne (ne_of_none hco nF)).trans hco
end
/-- the lambda as a value -/
def tLamV (T : List NTab) (mk : Addr → LF) : TE := fun _ H Q => TabsN T H ∧ ∀ (f c' : Addr) (H1 : Hp), ExtN H H1 → (∀ b, H1 b = Option.none → H b = Option.none) → TabsN T H1 → H f = none → H1 f = some (LamO f (mk c')) → H1 c' = some (CodeO c' (mk c').qual) → Q (.ref f) H1
theorem pe_lamV {X : Cx} {T : List NTab} {nm : Nat → Nat → Str} {c P : Addr} {params : Arguments} {body : Expr} {scope : Scope} {pos : Pos} (TB : TabB X.base X.mg c P) (hcode : X.env.code = .ref c)
    (hm : (P, nm) ∈ T) (hn : nm pos.line pos.col = X.env.qual ++ "<lambda>") (hu : ∀ p ∈ T, p.1 = P → p.2 = nm) (hdef : defaultsOf params X.env = ([], []))
    (hfree : ∀ y ∈ scope.names, y.2 = .free → X.env.scope.names.lookup y.1 = some .cell ∨ X.env.scope.names.lookup y.1 = some .free) :
    PE X (.Lambda params body scope pos) (tLamV T fun c' => ⟨X.env.qual ++ "<lambda>", params, body, scope, cloFrom X.env.cells scope.names [], c'⟩) := by
  refine ⟨fun pins s σ H Q I h => ?_⟩
  obtain ⟨hT, h⟩ := h
  have hfr : ∀ y ∈ scope.names, y.2 = .free → ∃ c, X.env.cells.lookup y.1 = some c := fun y hy e => (hfree y hy e).elim (fun z => I.ok.has _ (.inl z)) fun z => I.ok.has _ (.inr z)
  exact lam_mk I TB hcode hm hn hu hT hdef hfr fun f c' H1 s' I1 eN nn T1 f0 f1 c1 => ⟨.ref f, H1, I1, rfl, h f c' H1 eN nn T1 f0 f1 c1⟩
end VL
namespace VL
open PySem PySem.Spec PyProof.Rows L2 LamX NdefX
/-- the lambda's names: its parameter, the captured ones, the others (of its comprehensions) -/
structure LScope (N : List Str) (p : Str) (fr : List Str) (sc : Scope) : Prop where
  kind : sc.kind = .function
  co : sc.isCoroutine = false
  gen : sc.isGenerator = false
  nd : N.Nodup
  pre : N.take (1 + fr.length) = p :: fr
  par : sc.names.lookup p = some .local ∨ sc.names.lookup p = some .cell
  uniq : ∀ y ∈ sc.names, sc.names.lookup y.1 = some y.2
  own : ∀ y ∈ sc.names, y.2 = .cell → y.1 = p
  free : ∀ y ∈ sc.names, y.2 = .free → y.1 ∈ fr
  frk : ∀ x ∈ fr, sc.names.lookup x = some .free
/-- the closure: each captured name once -/
structure ClOk (cl : List (Str × Addr)) (sc : Scope) : Prop where
  fn : ∀ y c, (y, c) ∈ cl → cl.lookup y = some c
  fr : ∀ y c, (y, c) ∈ cl → (y, NameKind.free) ∈ sc.names
theorem clOk_from {cells : List (Str × Addr)} {sc : Scope} : ClOk (cloFrom cells sc.names []) sc := by
  refine ⟨fun y c h => ?_, fun y c h => ?_⟩
  · obtain ⟨c', e⟩ := mem_lookup h
    have h' := PySem.mem_of_lookup e
    rcases cloFrom_mem h with z | ⟨_, z⟩
    · cases z
    · rcases cloFrom_mem h' with z' | ⟨_, z'⟩
      · cases z'
      · rw [e, z', z]
  · rcases cloFrom_mem h with z | ⟨z, _⟩
    · cases z
    · exact z

abbrev envL (F : LF) (f L : Addr) : Env := newEnv F.scope L mainGlobals (cellsFrom (L + 1) F.scope.names F.cl) (F.qual ++ ".<locals>.") (some f) (.ref F.c) none builtinsNs
def startL (N : List Str) (v : V) (ws : List (Option V)) : L2.St := some v :: (ws ++ List.replicate (N.length - 1 - ws.length) none)
/-- the context of its body -/
def lcx (CX : CXT) (P : Program) (w : World) (K : PySem.W.Frag) (mg : Str → Option Value) (base : Heap) (N : List Str) (F : LF) (f : Addr) (A : Around) (outer : List Env) (s : Shared) (H : Hp) (E : XK) : Cx where
  prog := P
  w := w
  K := K
  mg := mg
  base := base
  A := A.deeper (envL F f s.heap.objs.size)
  N := N
  s_0 := s
  H_0 := H
  env := envL F f s.heap.objs.size
  outer := outer
  stack := envL F f s.heap.objs.size :: outer
  ex := []
  fn := fun x => F.scope.names.lookup x == some .cell
  calm := true
  pn := []
  xe := fun e s' => wpAny (model P w) (A.deeper (envL F f s.heap.objs.size)) (leaving (envL F f s.heap.objs.size) e) (fun _ s'' => CX outer H s E e s'') (fun e' s'' => CX outer H s E e' s'') s'

section
variable {CX : CXT} {P : Program} {w : World} {K : PySem.W.Frag} {mg : Str → Option Value} {base : Heap} {N fr : List Str} {p : Str} {F : LF} {f : Addr} {A : Around} {outer : List Env} {s : Shared} {H : Hp} {E : XK} {u : Value} {v : V} {ws : List (Option V)}
/-- the frame's map and the parameter's cell, as the call leaves them -/
structure Laid (F : LF) (p : Str) (u : Value) (L : Addr) (h h1 : Heap) : Prop where
  keep : ∀ b o, h.get? b = some o → h1.get? b = some o
  ns : ∃ m, h1.Ns L m ∧ (F.scope.names.lookup p = some .local → m p = some u)
  cells : ∀ y c, (y, c) ∈ cellsFrom (L + 1) F.scope.names F.cl → (y, c) ∈ F.cl ∨ (F.scope.names.lookup y = some .cell ∧ L < c ∧ ∃ z, h1.IsCell c z)
  pc : ∀ c, F.scope.names.lookup p = some .cell → (cellsFrom (L + 1) F.scope.names F.cl).lookup p = some c → h1.IsCell c (some u)

theorem inv_lstart {h1 : Heap} {tk : Nat} (S : LScope N p fr F.scope) (CL : ClOk F.cl F.scope) (hd : A.handled = none) (e0 : Env0 P w K mg base A outer s H) (r : L2.RelV v u) (C : CellsAt F.cl fr ws s.heap H)
    (Y : Laid F p u s.heap.objs.size s.heap h1) : Inv (lcx CX P w K mg base N F f A outer s H E) [] (startL N v ws) H { s with heap := h1, toks := tk } := by
  have hpl : 1 + fr.length ≤ N.length := by
    have q := congrArg List.length S.pre
    rw [List.length_take, List.length_cons] at q
    omega
  have noA : ∀ b : Addr, b ∉ (lcx CX P w K mg base N F f A outer s H E).ex := fun b z => absurd (show b ∈ ([] : List Addr) from z) (by simp)
  have cellK : ∀ {c : Addr} {v : Option Value}, s.heap.IsCell c v → h1.IsCell c v := fun {c v} ⟨o, ho, hd⟩ => ⟨o, Y.keep _ _ ho, hd⟩
  have clt : ∀ q ∈ F.cl, q.2 < (s.heap.push { cls := .type "frame", data := .dict #[] }).objs.size := fun ⟨y, c⟩ hq => by
    obtain ⟨_, z, hz⟩ := C.all y c (CL.fn y c hq)
    rw [Heap.size_push]
    exact Nat.lt_succ_of_lt hz.lt
  have cinj : ∀ x y c, (x, c) ∈ F.cl → (y, c) ∈ F.cl → x = y := fun x y c a b => C.inj x y c (CL.fn _ _ a) (CL.fn _ _ b)
  have esz : (s.heap.push { cls := .type "frame", data := .dict #[] }).objs.size = s.heap.objs.size + 1 := Heap.size_push ..
  refine ⟨⟨e0.mod, S.kind, rfl, rfl, Nat.le_refl _, fun x y c e1 e2 => ?_, fun y hy => ?_, fun y c z e => ?_, fun _ => hd, Around.frames_deeper e0.frames, .inr ⟨rfl, rfl⟩, fun b z => absurd z (noA b), e0.bs, e0.bsz, fun b _ _ => noA b,
      fun b z => absurd z (noA b), e0.funs, e0.frf⟩,
    rfl, e0.bare, Un.kept Y.keep, ?_, fun y c e => ?_, e0.hok.fresh (Nat.le_refl _), fun y c e => ?_, fun q hq => absurd (show q ∈ ([] : List (Addr × Obj)) ++ [] from hq) (by simp), e0.hok.kept Y.keep, ?_⟩
  · have e1 : (cellsFrom (s.heap.objs.size + 1) F.scope.names F.cl).lookup x = some c := e1
    have e2 : (cellsFrom (s.heap.objs.size + 1) F.scope.names F.cl).lookup y = some c := e2
    rw [← esz] at e1 e2
    exact cells_inj clt cinj (PySem.mem_of_lookup e1) (PySem.mem_of_lookup e2)
  · have hy : F.scope.names.lookup y = some .cell ∨ F.scope.names.lookup y = some .free := hy
    show ∃ c, (cellsFrom (s.heap.objs.size + 1) F.scope.names F.cl).lookup y = some c
    rcases hy with hy | hy
    · exact Option.isSome_iff_exists.mp (PySem.W.cellsFrom_some F.scope.names _ F.cl (.inl hy))
    · obtain ⟨i, hi⟩ := List.mem_iff_getElem?.mp (S.free _ (PySem.mem_of_lookup hy) rfl)
      obtain ⟨c, hc, _⟩ := C.has i y hi
      exact mem_lookup (cells_acc (PySem.mem_of_lookup hc))
  · have z : (F.scope.names.lookup y == some .cell) = true := z
    have e : (cellsFrom (s.heap.objs.size + 1) F.scope.names F.cl).lookup y = some c := e
    show s.heap.objs.size ≤ c
    rcases Y.cells y c (PySem.mem_of_lookup e) with hm | ⟨_, q, _⟩
    · have hf := S.uniq _ (CL.fr y c hm)
      rw [hf] at z
      cases z
    · exact Nat.le_of_lt q
  · obtain ⟨m, hn, hm⟩ := Y.ns
    refine ⟨m, hn, fun i y x e1 e2 e3 => ?_⟩
    have e1 : N[i]? = some y := e1
    have e3 : Vis F.scope y := e3
    have clen := C.len
    cases i with
    | zero =>
      have ey : y = p := by
        have q := congrArg (fun l => l[0]?) S.pre
        rw [List.getElem?_take_of_lt (by omega), e1] at q
        exact Option.some.inj q
      subst ey
      have ex : x = v := (Option.some.inj (Option.some.inj e2)).symm
      subst ex
      refine ⟨u, r, ?_⟩
      rcases S.par with k | k
      · exact .inl ⟨k, hm k⟩
      · obtain ⟨c, hc⟩ := Option.isSome_iff_exists.mp (PySem.W.cellsFrom_some F.scope.names (s.heap.objs.size + 1) F.cl (.inl k))
        exact .inr ⟨.inl k, c, hc, Y.pc c k hc⟩
    | succ i =>
      have e2 : (ws ++ List.replicate (N.length - 1 - ws.length) (none : Option V))[i]? = some (some x) := e2
      by_cases h2 : i < fr.length
      · have hq : fr[i]? = some y := by
          have q := congrArg (fun l => l[i + 1]?) S.pre
          rw [List.getElem?_take_of_lt (by omega), e1, List.getElem?_cons_succ] at q
          exact q.symm
        rw [List.getElem?_append_left (by omega)] at e2
        obtain ⟨c, hc, hv⟩ := C.has i y hq
        obtain ⟨u', ru, hu⟩ := hv x e2
        have hfree := S.frk y (List.mem_of_getElem? hq)
        obtain ⟨c2, hc2⟩ := mem_lookup (cells_acc (names := F.scope.names) (n := s.heap.objs.size + 1) (PySem.mem_of_lookup hc))
        have ec : c2 = c := by
          rcases Y.cells y c2 (PySem.mem_of_lookup hc2) with hm2 | ⟨q, _⟩
          · have q := CL.fn y c2 hm2
            rw [hc] at q
            exact (Option.some.inj q).symm
          · rw [hfree] at q
            cases q
        rw [ec] at hc2
        exact ⟨u', ru, .inr ⟨.inr hfree, c, hc2, cellK hu⟩⟩
      · rw [List.getElem?_append_right (by omega), List.getElem?_replicate] at e2
        split at e2 <;> cases e2
  · have e : (cellsFrom (s.heap.objs.size + 1) F.scope.names F.cl).lookup y = some c := e
    rcases Y.cells y c (PySem.mem_of_lookup e) with hm | ⟨_, _, z⟩
    · obtain ⟨_, z, hz⟩ := C.all y c (CL.fn y c hm)
      exact ⟨z, cellK hz⟩
    · exact z
  · have e : (cellsFrom (s.heap.objs.size + 1) F.scope.names F.cl).lookup y = some c := e
    rcases Y.cells y c (PySem.mem_of_lookup e) with hm | ⟨_, q, _⟩
    · exact (C.all y c (CL.fn y c hm)).1
    · exact e0.hok.fresh (Nat.le_of_lt q)
  · have clen := C.len
    show (startL N v ws).length = N.length
    unfold startL
    rw [List.length_cons, List.length_append, List.length_replicate]
    omega

/-- the environment of the call -/
theorem env_lam {Q : Env → Shared → Prop} {EE : Value → Shared → Prop} (S : LScope N p fr F.scope) (C : CellsAt F.cl fr ws s.heap H) (CL : ClOk F.cl F.scope)
    (hQ : ∀ h1, Laid F p u s.heap.objs.size s.heap h1 → Q (envL F f s.heap.objs.size) { s with heap := h1, toks := s.toks + 1 } ∧ Q (envL F f s.heap.objs.size) { s with heap := h1 }) :
    wpAny (model P w) A (newFunctionEnv F.scope mainGlobals F.cl [(p, u)] (F.qual ++ ".<locals>.") (some f) (.ref F.c) none builtinsNs) Q EE s := by
  simp only [newFunctionEnv, Option.isSome_none, Bool.false_eq_true, if_false]
  refine wpAny_bind (wpAny_alloc ?_)
  refine wpAny_bind (wpAny_layCells _ (fun name kind cells => by cases hkc : kind == NameKind.cell <;> simp [hkc]) _ _ _ _ ?_)
  have esz : (s.heap.push { cls := .type "frame", data := .dict #[] }).objs.size = s.heap.objs.size + 1 := Heap.size_push ..
  rw [show ({ s with heap := s.heap.push { cls := .type "frame", data := .dict #[] } } : Shared).heap.objs.size = s.heap.objs.size + 1 from esz]
  have kp : ∀ b o, s.heap.get? b = some o → (pushCells (s.heap.push { cls := .type "frame", data := .dict #[] }) F.scope.names).get? b = some o := fun b o e => pushCells_keeps _ _ b o (Heap.get?_push_of_some _ e)
  have ns0 : (pushCells (s.heap.push { cls := .type "frame", data := .dict #[] }) F.scope.names).Ns s.heap.objs.size (fun _ => none) := (Heap.Ns.new s.heap (.type "frame")).keeps (pushCells_keeps _ _)
  have cm : ∀ y c, (y, c) ∈ cellsFrom (s.heap.objs.size + 1) F.scope.names F.cl → (y, c) ∈ F.cl ∨ (F.scope.names.lookup y = some .cell ∧ s.heap.objs.size < c ∧ (pushCells (s.heap.push { cls := .type "frame", data := .dict #[] }) F.scope.names).IsCell c none) := fun y c hm => by
    rw [← esz] at hm
    rcases cells_mem hm with z | ⟨z1, z2, z3⟩
    · exact .inl z
    · exact .inr ⟨S.uniq _ z1, by rw [esz] at z2; exact z2, z3⟩
  simp only [List.forIn_cons, List.forIn_nil]
  rcases S.par with k | k
  · refine wpAny_bind (wpAny_bind (wpAny_bind (wpAny_storeName_local k ns0 (fun h' hn' hs' => wpAny_pure ?_) (by rw [S.kind]; rfl))))
    refine wpAny_pure (wpAny_pure ?_)
    refine (hQ h' ⟨fun b o e => ?_, ⟨_, hn', fun _ => by simp⟩, fun y c hm => ?_, fun c z _ => by rw [k] at z; cases z⟩).1
    · exact hs'.extBut b o (Nat.ne_of_lt (Heap.lt_size e)) (kp b o e)
    · rcases cm y c hm with z | ⟨z1, z2, z3⟩
      · exact .inl z
      · exact .inr ⟨z1, z2, none, z3.sameBut hs' (Nat.ne_of_gt z2)⟩
  · obtain ⟨c0, hc0⟩ := Option.isSome_iff_exists.mp (PySem.W.cellsFrom_some F.scope.names (s.heap.objs.size + 1) F.cl (.inl k))
    have h0 : s.heap.objs.size < c0 ∧ (pushCells (s.heap.push { cls := .type "frame", data := .dict #[] }) F.scope.names).IsCell c0 none := by
      rcases cm p c0 (PySem.mem_of_lookup hc0) with z | ⟨_, z2, z3⟩
      · have q := S.uniq _ (CL.fr _ _ z)
        rw [k] at q
        cases q
      · exact ⟨z2, z3⟩
    refine wpAny_bind (wpAny_bind (wpAny_bind (wpAny_storeName_cell S.kind k hc0 h0.2 fun h' hc' hs' => wpAny_pure ?_)))
    refine wpAny_pure (wpAny_pure ?_)
    refine (hQ h' ⟨fun b o e => ?_, ⟨_, ns0.sameBut hs' (Nat.ne_of_lt h0.1), fun z => by rw [k] at z; cases z⟩, fun y c hm => ?_, fun c _ z => ?_⟩).2
    · exact hs'.extBut b o (Nat.ne_of_lt (Nat.lt_trans (Heap.lt_size e) h0.1)) (kp b o e)
    · rcases cm y c hm with z | ⟨z1, z2, z3⟩
      · exact .inl z
      · refine .inr ⟨z1, z2, ?_⟩
        by_cases ec : c = c0
        · rw [ec]
          exact ⟨_, hc'⟩
        · exact ⟨none, z3.sameBut hs' ec⟩
    · rw [hc0] at z
      cases z
      exact hc'
end
end VL
namespace VL
open PySem PySem.Spec PyProof.Rows L2 LamX NdefX
/-- the lambda at f keeps the promise sp (of what it captured and of its argument) -/
structure LamOk (P : Program) (w : World) (K : PySem.W.Frag) (mg : Str → Option Value) (base : Heap) (CX : CXT) (k : Nat) (f : Addr) (F : LF) (fr : List Str) (sp : List (Option V) → V → Hp → VK → XK → Prop) : Prop where
  run : ∀ (A : Around) (outer : List Env) (s : Shared) (H : Hp) (u : Value) (v : V) (ws : List (Option V)) (Q : VK) (E : XK), Room k A → Env0 P w K mg base A outer s H → H f = some (LamO f F) → H F.c = some (CodeO F.c F.qual) →
    CellsAt F.cl fr ws s.heap H → L2.RelV v u → sp ws v H Q E → codeAny (model P w) A (.call (.ref f) ⟨[u], []⟩) (CR CX outer P w H s Q E) s
section
variable {CX : CXT} {P : Program} {w : World} {K : PySem.W.Frag} {mg : Str → Option Value} {base : Heap} {N fr : List Str} {p : Str} {F : LF} {f : Addr} {k : Nat} {sp : List (Option V) → V → Hp → VK → XK → Prop}
theorem lamOk_of (S : LScope N p fr F.scope) (CL : ClOk F.cl F.scope) (hb : ∀ (pm ctv u : Value), bindArgs (PySem.W.kla_fn "<lambda>" F.qual F.params F.body F.scope F.cl pm (.ref F.c) ctv) ⟨[u], []⟩ = pure [(p, u)])
    (hbody : ∀ (A : Around) (outer : List Env) (s : Shared) (H : Hp) (v : V) (ws : List (Option V)) (Q : VK) (E : XK), Room k (A.deeper (envL F f s.heap.objs.size)) → ws.length = fr.length → sp ws v H Q E →
      ∃ t, PE (lcx CX P w K mg base N F f A outer s H E) F.body t ∧ t (startL N v ws) H Q) :
    LamOk P w K mg base CX (k + 1) f F fr sp := by
  refine ⟨fun A outer s H u v ws Q E hr e0 hf hc C r hsp => ?_⟩
  have lim : s.heap.NoLimit := e0.mod.nolimit.keeps fun b o e => (e0.bs b o e).1
  obtain ⟨od, sl, pm, ctv, ho⟩ := lamO_at e0.hok hf
  refine PySem.W.kla_callFunE hr.depth ho rfl S.co S.gen rfl (codeO_at e0.hok hc) ?_
  rw [hb pm ctv u]
  obtain ⟨t, ht, hq⟩ := hbody A outer s H v ws Q E (hr.deeper _) C.len hsp
  have main : ∀ (h1 : Heap) (tk : Nat), Laid F p u s.heap.objs.size s.heap h1 →
      (({ s with heap := h1, toks := tk } : Shared).heap.NoLimit ∧ codeAny (model P w) A (.expr F.body (envL F f s.heap.objs.size)) (CR CX outer P w H s Q E) { s with heap := h1, toks := tk }) := fun h1 tk Y => by
    refine ⟨lim.keeps Y.keep, ?_⟩
    have I : Inv (lcx CX P w K mg base N F f A outer s H E) [] (startL N v ws) H { s with heap := h1, toks := tk } := inv_lstart S CL hr.hd e0 r C Y
    refine PySem.W.kla_codeExpr (wpAny_mono (ht.run [] _ (startL N v ws) H Q I hq) (fun v' s' hs => ?_) fun e s' hs => hs)
    obtain ⟨w', H', J', rv, q⟩ := hs
    exact ⟨w', H', J'.os, J'.bare, J'.base, J'.hok, rv, q⟩
  exact wpAny_pure (env_lam S C CL fun h1 Y => ⟨main h1 _ Y, main h1 _ Y⟩)
end
/-- the captured cells, seen from a def that got the lambda and was entered at (s_0, H_0) -/
theorem cells_later {X : Cx} {pins : List (Addr × Obj)} {σ : L2.St} {H : Hp} {s : Shared} {cl : List (Str × Addr)} {fr : List Str} {ws : List (Option V)} (I : Inv X pins σ H s) (hex : X.ex = []) (C : CellsAt cl fr ws X.s_0.heap X.H_0) : CellsAt cl fr ws s.heap H := by
  have nx : ∀ b : Addr, b ∉ X.ex := fun b z => by rw [hex] at z; cases z
  have kp : ∀ {c : Addr} {v : Option Value}, X.H_0 c = none → X.s_0.heap.IsCell c v → s.heap.IsCell c v := fun {c v} n ⟨o, ho, hd⟩ => by
    obtain ⟨sl, q⟩ := I.base.any ho n (nx c)
    exact ⟨_, q, hd⟩
  refine ⟨C.len, fun y c e => ?_, C.inj, fun i y e => ?_⟩
  · obtain ⟨n, v, z⟩ := C.all y c e
    have ⟨o, ho, hd⟩ := z
    exact ⟨I.base.free c o ho n (nx c), v, kp n z⟩
  · obtain ⟨c, hc, hv⟩ := C.has i y e
    refine ⟨c, hc, fun v ev => ?_⟩
    obtain ⟨u, r, z⟩ := hv v ev
    exact ⟨u, r, kp (C.all y c hc).1 z⟩
/-- x(e): the slot i holds the lambda -/
def tCallL (F : LF) (i : Nat) (sp : V → Hp → VK → XK → Prop) (E : XK) (t : TA) : TE := fun σ H Q => ∃ f, σ[i]? = some (some (.ref f)) ∧ H f = some (LamO f F) ∧ t σ H fun vs H1 => ∃ v, vs = [v] ∧ H1 f = some (LamO f F) ∧ H1 F.c = some (CodeO F.c F.qual) ∧ sp v H1 Q E
theorem lamAt_of {X : Cx} {pins : List (Addr × Obj)} {σ : L2.St} {H : Hp} {s : Shared} {f : Addr} {F : LF} (I : Inv X pins σ H s) (e : H f = some (LamO f F)) : ∃ (oc : Value) (od : Option Addr) (fd : FuncData) (sl : Array (Option Value)), s.heap.get? f = some ⟨.type "function", od, .func fd, sl⟩ := by
  obtain ⟨od, sl, pm, ctv, ho⟩ := lamO_at I.hok e
  exact ⟨.none, od, _, sl, ho⟩
section
variable {X : Cx} {CX : CXT} {F : LF} {fr : List Str} {ws : List (Option V)} {i j k : Nat} {x : Str} {sp : List (Option V) → V → Hp → VK → XK → Prop} {E : XK} {t : TA} {e : Expr} {es : List Expr} {p pos : Pos}
theorem pe_callL (Fn : ∀ f, LamOk X.prog X.w X.K X.mg X.base CX k f F fr sp) (C : CellsAt F.cl fr ws X.s_0.heap X.H_0) (hex : X.ex = []) (hr : Room j X.A) (hk : k ≤ j) (hx : Passes CX X E) (hN : X.N[i]? = some x) (hv : Vis X.env.scope x) (ha : PA X [e] t)
    (hd : (x == ("__debug__" : Str)) = false := by decide) (hcd : (x == ("__classdict__" : Str)) = false := by decide)
    (he : starEach [e] X.env = (false, eval e X.env) :: starEach [] X.env := by rfl) (hpl : (backTo pos (starEach [] X.env)).any (·.1) = false := by rfl) :
    PE X (.Call (.Name x p) [e] [] pos) (tCallL F i (sp ws) E t) := by
  refine ⟨fun pins s σ H Q I h => ?_⟩
  obtain ⟨f, hs, hf, ht⟩ := h
  refine wpAny_Call_Name_kw (thn ((pe_var (pos := p) hN hv hd hcd).run pins s σ H (fun v H1 => v = .ref f ∧ H1 = H) I ⟨.ref f, hs, rfl, rfl⟩) fun u s1 ⟨v, H1, I1, r1, q1⟩ => ?_)
  obtain ⟨ev, eH⟩ := q1
  subst ev
  rw [eH] at I1
  obtain rfl : u = Value.ref f := r1
  have at_ : ∀ {H2 : Hp} {s2 : Shared}, Inv X pins σ H2 s2 → H2 f = some (LamO f F) → PySem.W.FnAt f s2.heap := fun {H2 s2} I2 e2 => by
    obtain ⟨od, sl, pm, ctv, ho⟩ := lamO_at I2.hok e2
    exact ⟨_, od, _, sl, ho⟩
  refine PySem.W.callWith_F (first := []) (at_ I1 hf) (thn (ha.run pos pins s1 σ H _ I1 ht) fun us s2 ⟨vs, H2, I2, r, v, ev, h1, h2, q⟩ => ⟨at_ I2 h1, ?_⟩) he hpl
  subst ev
  obtain ⟨u0, rfl, rv⟩ : ∃ u0, us = [u0] ∧ L2.RelV v u0 := by
    cases r with
    | cons rv rt =>
      cases rt
      exact ⟨_, rfl, rv⟩
  · show wpAny _ _ (call (.ref f) [u0]) _ _ _
    refine wpAny_call (codeAny_mono ((Fn f).run X.A X.stack s2 H2 u0 v ws Q E (hr.mono hk) I2.env0 h1 h2 (cells_later I2 hex C) rv q) fun r s' hq => ?_)
    cases r with
    | error e => exact hx pins σ H2 s2 e s' I2 hq
    | ok fl =>
      cases fl with
      | ret u => exact I2.after hq
      | next => exact False.elim hq
      | brk => exact False.elim hq
      | cont => exact False.elim hq
end
/-- a def's promise that may speak of the state at the call -/
structure FnOkS (P : Program) (w : World) (K : PySem.W.Frag) (mg : Str → Option Value) (base : Heap) (CX : CXT) (k : Nat) (f : Addr) (fd : FuncData) (ps : List Str) (sp : Shared → Sp) : Prop where
  len : ∀ s vs H Q E, sp s vs H Q E → vs.length = ps.length
  run : ∀ (A : Around) (outer : List Env) (s : Shared) (H : Hp) (args : Args) (us : List Value) (vs : List V) (Q : VK) (E : XK), Room k A → Env0 P w K mg base A outer s H → BindsTo s fd args (ps.zip us) → Vals vs us → sp s vs H Q E →
    codeAny (model P w) A (.call (.ref f) args) (CR CX outer P w H s Q E) s
section
variable {P : Program} {w : World} {K : PySem.W.Frag} {mg : Str → Option Value} {base : Heap}
theorem okS {CX : CXT} {x qual : Str} {st : Stmt} {f : Addr} {fd : FuncData} {N ps : List Str} {k : Nat} {sp : Shared → Sp} (F : Fun K x qual st f fd) (S : FnScope N ps (defScope st)) (len : ∀ s vs H Q E, sp s vs H Q E → vs.length = ps.length)
    (hbody : ∀ (cdv : Value) (A : Around) (outer : List Env) (s : Shared) (H : Hp) (vs : List V) (Q : VK) (E : XK), Room k (A.deeper (envOfC qual (defScope st) s.heap.objs.size f cdv)) → sp s vs H Q E →
      ∃ t, PSs (cxOf CX P w K mg base N qual (defScope st) f cdv A outer s H E) (defBody st) t ∧ t { nx := fun _ H' => Q .non H', rt := Q } (start N vs) H) : FnOkS P w K mg base CX (k + 1) f fd ps sp := by
  obtain ⟨oc, od, kV, doc, pm, an, cdv, ct, osl, rfl, lk, hcd⟩ := F.ex
  exact ⟨len, fun A outer s H args us vs Q E hr e0 hb r hsp => run_ofS lk hcd S hr e0 hb r (len _ _ _ _ _ hsp) fun hr' => hbody cdv A outer s H vs Q E hr' hsp⟩
end
def tCallSt (X : Cx) (sp : Shared → Sp) (E : XK) (t : TA) : TE := fun σ H Q => t σ H fun vs H1 => ∀ (pins : List (Addr × Obj)) (s : Shared), Inv X pins σ H1 s → sp s vs H1 Q E
section
variable {X : Cx} {CX : CXT} {k : Nat} {f : Addr} {fd : FuncData} {ps : List Str} {sp : Shared → Sp} {E : XK} {x : Str} {p pos : Pos} {e : Expr} {es : List Expr} {t : TA}
theorem pe_callSt (F : FnOkS X.prog X.w X.K X.mg X.base CX k f fd ps sp) (hr : Room k X.A) (hg : Gl X x) (hm : X.mg x = some (.ref f)) (hk : PySem.W.keepIn X.K (.ref f) = true) (hb : Binds X.K fd ps []) (hx : Passes CX X E)
    (ha : PA X (e :: es) t) (hdb : (x == ("__debug__" : Str)) = false := by decide) (he : starEach (e :: es) X.env = (false, eval e X.env) :: starEach es X.env := by rfl) (hpl : (backTo pos (starEach es X.env)).any (·.1) = false := by rfl) :
    PE X (.Call (.Name x p) (e :: es) [] pos) (tCallSt X sp E t) := by
  refine ⟨fun pins s σ H Q I h => ?_⟩
  refine wpAny_Call_Name_kw (ld_glob I hg hm ?_ hdb)
  refine PySem.W.callWith_K (h₀ := X.base) I.ok.mod.kin hk (thn (ha.run pos pins s σ H _ I h) fun us s1 ⟨vs, H1, I1, r, q⟩ => ⟨I1.kIn, ?_⟩) he hpl
  have q1 := q pins s1 I1
  have hl : us.length = ps.length := by rw [← r.length]; exact F.len _ _ _ _ _ q1
  have hb1 := hb s1 us I1.kIn (by rw [List.append_nil]; exact hl)
  rw [List.append_nil] at hb1
  show wpAny _ _ (call (.ref f) us) _ _ _
  refine wpAny_call (codeAny_mono (F.run X.A X.stack s1 H1 ⟨us, []⟩ us vs Q E hr I1.env0 hb1 r q1) fun r s' hq => ?_)
  cases r with
  | error e => exact hx pins σ H1 s1 e s' I1 hq
  | ok fl =>
    cases fl with
    | ret u => exact I1.after hq
    | next => exact False.elim hq
    | brk => exact False.elim hq
    | cont => exact False.elim hq
end
/-- a statement that no way reaches -/
theorem ps_dead {X : Cx} {st : Stmt} : PS X st (fun _ _ _ => False) := ⟨fun _ _ _ _ _ _ h => h.elim⟩
theorem pe_dead {X : Cx} {e : Expr} : PE X e (fun _ _ _ => False) := ⟨fun _ _ _ _ _ _ h => h.elim⟩
end VL
namespace VL
open PySem PySem.Spec PyProof.Rows L2 LamX NdefX
def lscB (N : List Str) (p : Str) (fr : List Str) (sc : Scope) : Bool :=
  decide (sc.kind = .function) && !sc.isCoroutine && !sc.isGenerator && decide N.Nodup && decide (N.take (1 + fr.length) = p :: fr) && (decide (sc.names.lookup p = some .local) || decide (sc.names.lookup p = some .cell)) &&
    sc.names.all (fun y => decide (sc.names.lookup y.1 = some y.2)) && sc.names.all (fun y => !decide (y.2 = .cell) || decide (y.1 = p)) && sc.names.all (fun y => !decide (y.2 = .free) || decide (y.1 ∈ fr)) && fr.all (fun x => decide (sc.names.lookup x = some .free))
theorem lscope_by {N : List Str} {p : Str} {fr : List Str} {sc : Scope} (h : lscB N p fr sc = true) : LScope N p fr sc := by
  unfold lscB at h
  simp only [Bool.and_eq_true, Bool.or_eq_true, Bool.not_eq_true', decide_eq_true_eq, decide_eq_false_iff_not, List.all_eq_true] at h
  obtain ⟨⟨⟨⟨⟨⟨⟨⟨⟨h1, h2⟩, h3⟩, h4⟩, h5⟩, h6⟩, h7⟩, h8⟩, h9⟩, h10⟩ := h
  exact ⟨h1, h2, h3, h4, h5, h6, h7, fun y hy e => (h8 y hy).elim (fun z => absurd e z) id, fun y hy e => (h9 y hy).elim (fun z => absurd e z) id, h10⟩
/-- each free name of the inner scope is one that the outer scope has -/
def freeB (sc scope : Scope) : Bool := scope.names.all fun y => !decide (y.2 = .free) || decide (sc.names.lookup y.1 = some .cell) || decide (sc.names.lookup y.1 = some .free)
theorem free_by {sc scope : Scope} (h : freeB sc scope = true) : ∀ y ∈ scope.names, y.2 = .free → sc.names.lookup y.1 = some .cell ∨ sc.names.lookup y.1 = some .free := fun y hy e => by
  unfold freeB at h
  simp only [List.all_eq_true, Bool.or_eq_true, Bool.not_eq_true', decide_eq_false_iff_not, decide_eq_true_eq] at h
  rcases h y hy with (z | z) | z
  · exact absurd e z
  · exact .inl z
  · exact .inr z
end VL
/-! Sets of texts: their comprehension, set(a list), sorted. -/
namespace VT
open PySem PySem.Spec PyProof.Rows L2
def keyT (e : Int × Value) : Str := match e.2 with
  | .str z _ => z
  | _ => Str.empty
def GoodT (w : World) (e : Int × Value) : Prop := ∃ z tk, e.2 = Value.str z tk ∧ e.1 = hashStr w z
/-- the set of texts at a: S its members, n their number; its table can be walked -/
def SetT (w : World) (h : Heap) (a : Addr) (S : Str → Bool) (n : Nat) : Prop :=
  ∃ o es ep t, h.get? a = some o ∧ o.ExactSet ∧ o.data = .set es ep t ∧ (∀ e ∈ es.toList, GoodT w e) ∧ (es.toList.map keyT).Nodup ∧ (∀ z, S z = true ↔ z ∈ es.toList.map keyT) ∧
    es.size < scanBound ∧ t.fits es.size = true ∧ es.size = n ∧ Ris t.place.toList ∧ (w.params.followText "set-order" = true ∨ t.led = true)
section
variable {P : Program} {w : World} {h h' : Heap} {a : Addr} {S : Str → Bool} {n : Nat}
theorem SetT.at (R : SetT w h a S n) (k : ∀ o, h.get? a = some o → h'.get? a = some o) : SetT w h' a S n :=
  let ⟨o, es, ep, t, ho, r⟩ := R
  ⟨o, es, ep, t, k o ho, r⟩
theorem SetT.congr {S' : Str → Bool} (R : SetT w h a S n) (e : ∀ z, S' z = S z) : SetT w h a S' n := (funext e : S' = S) ▸ R
theorem goodT_elems {l : List (Int × Value)} (g : ∀ e ∈ l, GoodT w e) : ElemsOf (PySem.strKind P w) l := fun e he =>
  let ⟨z, tk, h1, h2⟩ := g e he
  ⟨⟨z, by rw [h1]; exact strKind_is P w z tk, h2⟩, by rw [h1]; rfl⟩
theorem goodT_is {e : Int × Value} (g : GoodT w e) (k : Str) : (PySem.strKind P w).is k e.2 = true ↔ keyT e = k := by
  obtain ⟨z, tk, h1, _⟩ := g
  unfold keyT
  rw [h1]
  constructor
  · intro q
    exact (PySem.strKind P w).inj _ _ _ (strKind_is P w z tk) q
  · intro q
    rw [← q]
    exact strKind_is P w z tk
theorem goodT_mem {l : List (Int × Value)} (g : ∀ e ∈ l, GoodT w e) (k : Str) : k ∈ l.map keyT ↔ ∃ e ∈ l, (PySem.strKind P w).is k e.2 = true := by
  rw [List.mem_map]
  exact ⟨fun ⟨e, he, q⟩ => ⟨e, he, (goodT_is (g e he) k).2 q⟩, fun ⟨e, he, q⟩ => ⟨e, he, (goodT_is (g e he) k).1 q⟩⟩
theorem SetT.setOf (R : SetT w h a S n) : h.SetOf (PySem.strKind P w) a S n := by
  obtain ⟨o, es, ep, t, ho, hx, hd, g, nd, hm, hb, hf, hn, _⟩ := R
  exact ⟨o, es, ep, t, ho, hx, hd, goodT_elems g, fun z => (hm z).trans (goodT_mem g z), hb, hf, hn⟩
end
section
variable {P : Program} {w : World} {A : Around} {E : Value → Shared → Prop} {s : Shared} {a : Addr} {S : Str → Bool} {n : Nat}
theorem putT_at {h : Heap} {a : Addr} {o : Obj} {es es' : Array (Int × Value)} {ep : Nat} {t t' : SetTable} (ho : h.get? a = some o) (hd : o.data = .set es ep t) :
    (h.update a (Obj.putSet es' t')).get? a = some { o with data := .set es' (ep + 1) t' } := by
  have q := Heap.get?_update_self (Obj.putSet es' t') ho (by rw [putSet_of es' t' hd]; rfl)
  exact (putSet_of es' t' hd) ▸ q
theorem addT_tail {g : Bool → Sem Unit} (hg : ∀ (b : Bool) (s₁ : Shared) (Q' : Unit → Shared → Prop), Q' () s₁ → wpAny (model P w) A (g b) Q' E s₁)
    {o : Obj} {es : Array (Int × Value)} {ep : Nat} {t : SetTable} (ho : s.heap.get? a = some o) (hex : o.ExactSet) (hd : o.data = .set es ep t)
    {em : Array (Int × Value)} {tm : SetTable} {S' : Str → Bool} (gm : ∀ e ∈ em.toList, GoodT w e) (ndm : (em.toList.map keyT).Nodup) (mm : ∀ z, S' z = true ↔ z ∈ em.toList.map keyT)
    (hbm : em.size < scanBound) (hfm : tm.fits em.size = true) (hrm : Ris tm.place.toList) (hlm : w.params.followText "set-order" = true ∨ tm.led = true) {wasDummy : Bool} {R : Option Bool → Shared → Prop}
    (hR : ∀ h', Heap.SameBut a s.heap h' → SetT w h' a S' em.size → R (some true) { s with heap := h' }) :
    wpAny (model P w) A (do
        storeSet a em tm
        if (!wasDummy && tm.tooFull) = true then do
            g (relayAll tm em (SetTable.grown em.size)).2.2
            storeSet a (relayAll tm em (SetTable.grown em.size)).1 (relayAll tm em (SetTable.grown em.size)).2.1
            pure (some true)
          else pure (some true)) R E s := by
  refine wpAny_bind (wpAny_storeSet_of ho hd ?_ (fits_of_scanBound hbm))
  have om := putT_at (es' := em) (t' := tm) ho hd
  have sm := Heap.SameBut.update s.heap a (Obj.putSet em tm)
  split
  · have pm := relayAll_perm tm em (SetTable.grown em.size)
    have f3 := relayAll_fits tm em (SetTable.grown em.size)
    have r3 := relayAll_ris tm em (SetTable.grown em.size)
    have l3 := relayAll_led tm em (SetTable.grown em.size)
    generalize relayAll tm em (SetTable.grown em.size) = Z at pm f3 r3 l3 ⊢
    obtain ⟨e2, t3, gave⟩ := Z
    dsimp only at pm f3 r3 l3 ⊢
    have hsz : e2.size = em.size := by rw [← Array.length_toList, pm.length_eq, Array.length_toList]
    have hb2 : e2.size < scanBound := hsz ▸ hbm
    refine wpAny_bind (hg _ _ _ (wpAny_bind (wpAny_storeSet_of om rfl ?_ (fits_of_scanBound hb2))))
    have o2 := putT_at (es' := e2) (t' := t3) om rfl
    refine wpAny_pure (hR _ (sm.trans (Heap.SameBut.update _ a _)) ?_)
    exact ⟨_, e2, _, t3, o2, hex, rfl, fun e he => gm e (pm.mem_iff.mp he), (pm.map keyT).nodup_iff.mpr ndm, fun z => (mm z).trans (pm.map keyT).mem_iff.symm, hb2, f3, hsz, r3,
      hlm.imp id fun z => l3 ▸ z⟩
  · exact wpAny_pure (hR _ sm ⟨_, em, _, tm, om, hex, rfl, gm, ndm, mm, hbm, hfm, rfl, hrm, hlm⟩)
theorem addT_hashed {k : Str} {tk : Tok} {Q : Bool → Shared → Prop} (R : SetT w s.heap a S n) (room : n + 1 < scanBound)
    (hQ : ∀ h', Heap.SameBut a s.heap h' → SetT w h' a (fun j => S j || decide (j = k)) (if S k = true then n else n + 1) → Q (!S k) { s with heap := h' }) :
    wpAny (model P w) A (setAddHashed a (.str k tk) ((PySem.strKind P w).hash k)) Q E s := by
  obtain ⟨o, es, ep, t, ho, hex, hd, g, nd, hm, hb, hf, hn, hr, hl⟩ := R
  have hkey : (PySem.strKind P w).is k (.str k tk) = true := strKind_is P w k tk
  have hsc : (Value.str k tk).scannable = true := rfl
  have hel : ElemsOf (PySem.strKind P w) es.toList := goodT_elems g
  unfold setAddHashed setAddHashedIn
  refine wpAny_holding (wpAny_bind (wpAny_setState_of ho hd hf ?_))
  dsimp only
  rw [byScan_of hsc hb hel]
  simp only [↓reduceIte]
  unfold setAddByScan
  refine wpAny_bind (wpAny_bind (wpAny_rule (wpAny_bind (wpAny_setScan_of hkey ho hd hf hel ?_))))
  cases hfi : List.findIdx? (fun e => (PySem.strKind P w).is k e.2) es.toList with
  | some j =>
    dsimp only
    obtain ⟨hj, pj, _⟩ := List.findIdx?_eq_some_iff_getElem.mp hfi
    have hSk : S k = true := (hm k).2 ((goodT_mem (P := P) (w := w) g k).2 ⟨es.toList[j], List.getElem_mem hj, pj⟩)
    have q := hQ s.heap (Heap.SameBut.refl a s.heap) ⟨o, es, ep, t, ho, hex, hd, g, nd, fun i => by
      rw [Bool.or_eq_true, decide_eq_true_eq, ← hm i]
      exact ⟨fun z => z.elim id (fun e => e ▸ hSk), .inl⟩, hb, hf, by rw [if_pos hSk]; exact hn, hr, hl⟩
    rw [hSk] at q
    exact wpAny_pure (wpAny_pure q)
  | none =>
    dsimp only
    have hnk : k ∉ es.toList.map keyT := fun z => by
      obtain ⟨e, he, q⟩ := (goodT_mem (P := P) (w := w) g k).1 z
      have c := List.findIdx?_eq_none_iff.mp hfi e he
      rw [q] at c
      cases c
    have hSk : S k = false := Bool.eq_false_iff.mpr fun q => hnk ((hm k).1 q)
    have hgw : ∀ (b : Bool) {s₁ : Shared} {Q' : Unit → Shared → Prop}, Q' () s₁ → wpAny (model P w) A (match b with | true => rule "set.scan.the-table-gave-way" | false => pure ()) Q' E s₁ :=
      fun b s₁ Q' q => by cases b <;> first | exact wpAny_pure q | exact wpAny_rule q
    have pm := layNew_perm t es ((PySem.strKind P w).hash k) (.str k tk)
    have f1 := layNew_fits t es ((PySem.strKind P w).hash k) (.str k tk)
    have r1 := layNew_ris t es ((PySem.strKind P w).hash k) (.str k tk) hr
    have l1 := layNew_led t es ((PySem.strKind P w).hash k) (.str k tk)
    generalize layNew t es ((PySem.strKind P w).hash k) (.str k tk) = Z at pm f1 r1 l1 ⊢
    obtain ⟨e1, t1, wasDummy, gave⟩ := Z
    dsimp only at pm f1 r1 l1 ⊢
    rw [Array.toList_push] at pm
    have pc : e1.toList.Perm (((PySem.strKind P w).hash k, Value.str k tk) :: es.toList) := pm.trans (List.perm_append_singleton _ _)
    have pk : (e1.toList.map keyT).Perm (k :: es.toList.map keyT) := pc.map keyT
    have g1 : ∀ e ∈ e1.toList, GoodT w e := fun e he => by
      rcases List.mem_cons.mp (pc.mem_iff.mp he) with z | z
      · rw [z]
        exact ⟨k, tk, rfl, rfl⟩
      · exact g e z
    have m1 : ∀ i, (S i || decide (i = k)) = true ↔ i ∈ e1.toList.map keyT := fun i => by
      rw [Bool.or_eq_true, decide_eq_true_eq, hm i, pk.mem_iff, List.mem_cons]
      exact Or.comm
    have hsz : e1.size = n + 1 := by rw [← Array.length_toList, pc.length_eq, List.length_cons, Array.length_toList, hn]
    have hled : w.params.followText "set-order" = true ∨ t1.led = true := hl.imp id fun z => l1 ▸ z
    have fin : ∀ h', Heap.SameBut a s.heap h' → SetT w h' a (fun j => S j || decide (j = k)) e1.size → Q true { s with heap := h' } := fun h' sb r => by
      have q := hQ h' sb
      rw [hSk] at q
      rw [hsz] at r
      exact q r
    refine wpAny_bind (hgw _ ?_)
    have hb1 : e1.size < scanBound := hsz ▸ room
    have nd1 := pk.nodup_iff.mpr (List.nodup_cons.mpr ⟨hnk, nd⟩)
    split
    · refine wpAny_bind ?_
      rw [hashByValue_scannable 8 hsc]
      refine wpAny_pure (addT_tail ?_ ho hex hd g1 nd1 m1 hb1 ?_ ?_ ?_ ?_)
      · exact fun b s₁ Q' q => by cases b <;> first | exact wpAny_pure q | exact wpAny_rule q
      · first | (split <;> first | exact f1 | exact SetTable.fits_plain_off f1) | exact f1
      · first | (split <;> exact r1) | exact r1
      · first | (split <;> exact hled) | exact hled
      · exact fun h' sb r => by dsimp only; exact wpAny_pure (fin h' sb r)
    · refine wpAny_bind (wpAny_pure ?_)
      simp only [↓reduceIte]
      refine addT_tail ?_ ho hex hd g1 nd1 m1 hb1 f1 r1 hled ?_
      · exact fun b s₁ Q' q => by cases b <;> first | exact wpAny_pure q | exact wpAny_rule q
      · exact fun h' sb r => by dsimp only; exact wpAny_pure (fin h' sb r)
/-- set.add of a text -/
theorem addT {k : Str} {tk : Tok} {Q : Value → Shared → Prop} (R : SetT w s.heap a S n) (room : n + 1 < scanBound)
    (hQ : ∀ h', Heap.SameBut a s.heap h' → SetT w h' a (fun j => S j || decide (j = k)) (if S k = true then n else n + 1) → Q .none { s with heap := h', toks := s.toks + 1 }) :
    wpAny (model P w) A (call (.builtin "set.add") [.ref a, .str k tk]) Q E s := by
  have hS : s.heap.SetOf (PySem.strKind P w) a S n := R.setOf
  refine wpAny_call_entry F.slot_set_add hS.typeIs F.entry_set_add ?_ (F.args_set_add_2 _ _)
  unfold Builtin.«set.add» Builtin.Frozenset.oneOther
  simp only [List.isEmpty_nil, bind_assoc]
  unfold Builtin.Frozenset.addrOf setAdd
  refine wpAny_bind (wpAny_pure ?_)
  try dsimp only
  refine wpAny_bind (wpAny_pure ?_)
  try dsimp only
  refine wpAny_bind (wpAny_holding (wpAny_bind ((PySem.strKind P w).pyHash (strKind_is P w k tk) ?_)))
  refine addT_hashed (s := { s with toks := s.toks + 1 }) R room fun h' sb r => ?_
  show wpAny _ _ (ret Value.none) _ _ _
  exact wpAny_pure ⟨_, rfl, hQ h' sb r⟩
theorem freshT {h : Heap} (w : World) : SetT w (h.push { cls := .type "set", dict := none, data := .set #[] 0 (.fresh 0 0 (!w.params.followText "set-order")) }) h.objs.size (fun _ => false) 0 :=
  ⟨_, #[], 0, _, Heap.get?_push_size _ rfl, ⟨rfl, rfl, rfl⟩, rfl, (fun e he => by simp at he), (by simp), (fun k => by simp), (by decide), (by rfl), rfl, List.Pairwise.nil, by
    show _ ∨ (!w.params.followText "set-order") = true
    cases w.params.followText "set-order"
    · exact .inr rfl
    · exact .inl rfl⟩
/-- sorted of it -/
theorem sorted_setT {Q : Value → Shared → Prop} (R : SetT w s.heap a S n) (hh : A.handled = none) (h64 : n < 64)
    (hQ : ∀ s' p (out : Array Value) (c : Nat) (ns : List Str), (∀ b o, s.heap.get? b = some o → s'.heap.get? b = some o) → s'.gens = s.gens → s'.os = s.os → s.heap.objs.size ≤ p →
      s'.heap.get? p = some (seqObj "list" out c) → StrsAre out.toList ns → sortedS ns = true → ns.Nodup → (∀ k, k ∈ ns ↔ S k = true) → ns.length = n → Q (.ref p) s') :
    wpAny (model P w) A (call (.builtin "sorted") [.ref a]) Q E s := by
  obtain ⟨o, es, ep, t, ho, hex, hd, g, nd, hm, hb, hf, hn, hr, hl⟩ := R
  refine Calls.call_function_entry kind_sorted plain_sorted entry_sorted (args_sorted1 _) ?_
  unfold Builtin.«sorted»
  refine wpAny_bind (m := checkCount "sorted" 1 1 _) (wpAny_pure ?_)
  refine wpAny_bind (collect_set (A := A.in1) hh ⟨o, ho, hex.1, hd⟩ hf hb hr hl fun s1 vs k1 hz g1 o1 pm => ?_)
  have hvl : vs.length = n := by rw [pm.length_eq, List.length_map, Array.length_toList]; exact hn
  have hall : ∀ v ∈ vs, ∃ z tk, v = Value.str z tk := fun v hv => by
    obtain ⟨e, he, q⟩ := List.mem_map.mp (pm.mem_iff.mp hv)
    obtain ⟨z, tk, e1, _⟩ := g e he
    exact ⟨z, tk, q ▸ e1⟩
  have hS : StrsAre vs (vs.map strOf) := strsAre_map vs hall
  have pk : (vs.map strOf).Perm (es.toList.map keyT) := by
    have q := pm.map strOf
    rw [List.map_map] at q
    have ee : es.toList.map (strOf ∘ fun x => x.2) = es.toList.map keyT := List.map_congr_left fun e he => by
      obtain ⟨z, tk, e1, _⟩ := g e he
      show strOf e.2 = keyT e
      unfold keyT
      rw [e1]
      rfl
    exact ee ▸ q
  refine wpAny_bind (wpAny_newList ?_ (by rw [hvl, sizeLine_eq]; omega))
  have hoL : (s1.heap.push (seqObj "list" vs.toArray 0)).get? s1.heap.objs.size = some (seqObj "list" vs.toArray 0) := Heap.get?_push_size _ rfl
  refine wpAny_bind (wpAny_holding (wpAny_call_entry slot_list_sort ⟨_, hoL, rfl⟩ entry_list_sort (list_sort_treeK strKind_oneLt hoL hS.keysOf (fun v₁ v₂ rest e => keyKind_strs (by rw [← e]; exact hS)) (by rw [hvl]; exact h64) fun st' hp hs => ⟨_, rfl, ?_⟩) (args_list_sort _)))
  obtain ⟨ss, h1, h2, h3⟩ := sorted_out_str hS hp hs
  obtain ⟨c, hc⟩ := sortedHeap_at (vs := vs) (out := (arrOf st').map (·.2)) hoL
  have pn : ss.Perm (es.toList.map keyT) := h2.trans pk
  refine wpAny_pure ⟨_, rfl, hQ _ s1.heap.objs.size _ c ss (fun b u e => ?_) g1 o1 hz hc h1 h3 (pn.nodup_iff.mpr nd) (fun k => by rw [pn.mem_iff, ← hm k]) ?_⟩
  · have q := k1 b u e
    have hlt := Heap.lt_size q
    show (sortedHeap (s1.heap.push (seqObj "list" vs.toArray 0)) s1.heap.objs.size vs _).get? b = some u
    rw [sortedHeap_old (Nat.ne_of_lt hlt) (by rw [size_push']; exact Nat.lt_succ_of_lt hlt)]
    exact Heap.get?_push_of_some _ q
  · rw [pn.length_eq, List.length_map, Array.length_toList]
    exact hn
end
/-! ### over the layer -/
def SetTO (w : World) (a : Addr) (S : Str → Bool) (n : Nat) : HO := .ext fun h => SetT w h a S n
theorem setTO_new {w : World} {P : Program} {H : Hp} {h : Heap} {a : Addr} {S : Str → Bool} {n : Nat} (R : SetT w h a S n) : ObjOk P w H h a (SetTO w a S n) :=
  let ⟨o, _, _, _, ho, _⟩ := id R
  ⟨R, ⟨o, ho⟩, fun h1 h2 p k => SetT.at p k⟩
section
variable {X : Cx}
theorem setTO_get {pins : List (Addr × Obj)} {σ : L2.St} {H : Hp} {s : Shared} {a : Addr} {S : Str → Bool} {n : Nat} (I : Inv X pins σ H s) (ha : H a = some (SetTO X.w a S n)) : SetT X.w s.heap a S n := (I.hok a _ ha).1
theorem addT_ok {pins : List (Addr × Obj)} {σ : L2.St} {H : Hp} {s : Shared} {E : Value → Shared → Prop} {D : Addr} {S : Str → Bool} {n : Nat} {y : Str} {tk : Tok} {Q : Value → Shared → Prop} (I : Inv X pins σ H s) (hD : H D = some (SetTO X.w D S n)) (room : n + 1 < scanBound)
    (h : ∀ s', Inv X pins σ (upd H D (SetTO X.w D (fun j => S j || decide (j = y)) (if S y = true then n else n + 1))) s' → Q .none s') : wpAny (model X.prog X.w) X.A (call (.builtin "set.add") [.ref D, .str y tk]) Q E s := by
  refine addT (setTO_get I hD) room fun h' sb new => ?_
  have he : ∃ u, h'.get? D = some u :=
    let ⟨o, _, _, _, ho, _⟩ := id new
    ⟨o, ho⟩
  exact h _ (I.write (e := D) (t' := s.toks + 1) (by rw [hD]; trivial) (.inl rfl) (fun b u hb hu => (sb.2 b hb).trans hu) he (setTO_new new))
/-- sorted(a set of texts) -/
def rSortedT (w : World) : List V → Hp → VK → Prop := fun vs H Q => ∃ (a : Addr) (S : Str → Bool) (n : Nat), vs = [V.ref a] ∧ H a = some (SetTO w a S n) ∧ n < 64 ∧
  ∀ (ns : List Str) (p : Addr), sortedS ns = true → ns.Nodup → (∀ k, k ∈ ns ↔ S k = true) → ns.length = n → H p = none → Q (.ref p) (upd H p (.lst (ns.map V.str)))
theorem cr_sortedT (hc : X.calm = true) : CallR X (.builtin "sorted") (rSortedT X.w) := by
  intro pins s σ H vs us Q I r h
  obtain ⟨a, S, n, rfl, ha, h64, q⟩ := h
  rw [Vals.ref1 r]
  refine sorted_setT (setTO_get I ha) (I.ok.hd hc) h64 fun s' p out c ns k g o hp hg hi hs hd hm hl => ?_
  have hlen : (ns.map V.str).length ≤ sizeLine := by rw [List.length_map, hl, sizeLine_eq]; omega
  have hn : H p = none := I.hok.fresh hp
  have J : Inv X pins σ (upd H p (.lst (ns.map V.str))) { s with heap := s'.heap, gens := s'.gens, drawn := s'.drawn, toks := s'.toks } :=
    I.call (ch := []) (Un.laid k hp hn) (I.hok.laid k hp ⟨hlen, out.toList, c, vals_of_strs hi, hg⟩) (by rw [g]; exact I.bare) (fun _ z => nomatch z)
  have e : s' = { s with heap := s'.heap, gens := s'.gens, drawn := s'.drawn, toks := s'.toks } := by
    cases s'
    cases s
    cases o
    rfl
  exact e ▸ ⟨.ref p, _, J, rfl, q ns p hs hd hm hl hn⟩
end
end VT
namespace VT
open PySem PySem.Spec PyProof.Rows L2 PpSet
section
variable {X : Cx}
/-- one text more in the set at D -/
def AddT (w : World) (D : Addr) (y : V) (H : Hp) (k : Hp → Prop) : Prop := ∃ (c : Str) (S : Str → Bool) (n : Nat), y = .str c ∧ H D = some (SetTO w D S n) ∧ n + 1 < scanBound ∧ k (upd H D (SetTO w D (fun j => S j || decide (j = c)) (if S c = true then n else n + 1)))
/-- {elt for target in iter if ..}, elt a text: D the new set -/
def tScT (w : World) (wi : TI) (g : TG) (tt : TT) (te : TE) (vs : List Nat) : TE := fun σ H Q => wi σ H fun J H1 => ∀ D, H1 D = none → ∃ W : Nat → Nat → Hp → Prop, (∃ m, W 0 m (upd H1 D (SetTO w D (fun _ => false) 0))) ∧ ∀ i m H, W i m H →
  (J.stop i H ∧ Q (.ref D) H) ∨ (J.go i H ∧ ∃ Nx : Hp → Prop, (∀ H', Nx H' → ∃ m', m' < m ∧ W (i + 1) m' H') ∧ ∀ x H', J.yld i H x H' → g x (wipe σ vs) H' fun σ2 H2 => wipe σ2 vs = wipe σ vs ∧ tt σ2 H2 fun b H3 =>
    if b = true then te σ2 H3 fun y H4 => AddT w D y H4 Nx else Nx H3)
theorem sc_coreT {pins : List (Addr × Obj)} {s : Shared} {σ : L2.St} {H : Hp} {Q : VK} {elt tg iter : Expr} {ifs : List Expr} {scope : Scope} {own : List (PySem.Str × Nat)} {pos pos' : Pos} {wi : TI} {g : TG} {tt : TT} {te : TE} {use : Option (Value → Sem Unit)} {Qf : Value → Shared → Prop}
    (hc : X.calm = true) (hN : X.N.Nodup) (I : Inv X pins σ H s) (hi : PI X tg iter wi) (ok : BlkOk X.N X.env.scope scope own)
    (hg : ∀ (s : Shared) (H : Hp) (C : Addr) (cl : List (PySem.Str × Addr)) (fp : List Addr), PG (X.blk s H scope (compEnvC scope cl C X.env) fp) tg g) (ht : ∀ (s : Shared) (H : Hp) (C : Addr) (cl : List (PySem.Str × Addr)) (fp : List Addr), PTs (X.blk s H scope (compEnvC scope cl C X.env) fp) ifs tt)
    (he : ∀ (s : Shared) (H : Hp) (C : Addr) (cl : List (PySem.Str × Addr)) (fp : List Addr), PE (X.blk s H scope (compEnvC scope cl C X.env) fp) elt te) (hs : ∀ x, foldedSetIterable iter X.env x = pure x)
    (h : tScT X.w wi g tt te (own.map (·.2)) σ H Q)
    (hRR : ∀ D C s' m H', Inv X pins σ H' s' → Q (.ref D) H' → s'.heap.Ns C m → FpOk X pins H' C → compPost (model X.prog X.w) X.A X.xe use Qf (.ref D) C (.ok .next) s') :
    wpAny (model X.prog X.w) X.A (comprehension (.SetComp elt [⟨tg, iter, ifs, 0⟩] scope pos) scope X.env pos' (newSet (.type "set")) false (eval iter X.env) use) Qf X.xe s := by
  have hfree : ∀ y ∈ scope.names, y.2 = .free → ∃ c, X.env.cells.lookup y.1 = some c := fun y hy e => (ok.free y hy e).elim (fun k => I.ok.has _ (.inl k)) (fun k => I.ok.has _ (.inr k))
  refine wpAny_comprehension_free (use := use) rfl hs (closure_ok hfree) ok.kind (fun y hy e => by rw [ok.uniq y hy, e])
    (thn (hi.run pins s σ H _ I h) fun xv s1 hx => thn hx fun itv s2 h2 => ?_)
  obtain ⟨it, fp, tn, J, H2, e, I2, T, st2, f2, q⟩ := h2
  subst e
  refine newSet_ok (newEnv_comp ?_)
  generalize hD : s2.heap.objs.size = D
  have hDn : H2 D = none := I2.hok.fresh (Nat.le_of_eq hD)
  obtain ⟨W, ⟨m0, w0⟩, turn⟩ := q D hDn
  generalize hs3 : ({ s2 with heap := s2.heap.push { cls := .type "set", dict := none, data := .set #[] 0 (.fresh 0 0 (!X.w.params.followText "set-order")) } } : Shared) = s3
  have I3 : Inv X pins σ (upd H2 D (SetTO X.w D (fun _ => false) 0)) s3 := by
    rw [← hs3]
    refine I2.laid (t' := s2.toks) (fun b o e => Heap.get?_push_of_some _ e) (Nat.le_of_eq hD) ?_
    exact hD ▸ setTO_new (freshT X.w)
  have h3 : s3.heap = s2.heap.push { cls := .type "set", dict := none, data := .set #[] 0 (.fresh 0 0 (!X.w.params.followText "set-order")) } := by rw [← hs3]
  have sz : ∀ b ∈ fp, b < s2.heap.objs.size := fun b hb =>
    let ⟨o, e, _⟩ := T.obj _ _ st2 b hb
    Heap.lt_size e
  have f3 : ∀ b ∈ fp, FpOk X pins (upd H2 D (SetTO X.w D (fun _ => false) 0)) b ∧ b < s3.heap.objs.size := fun b hb => by
    have hlt := sz b hb
    refine ⟨⟨?_, (f2 b hb).2⟩, by rw [h3, Heap.size_push]; exact Nat.lt_succ_of_lt hlt⟩
    rw [upd_ne (by rw [← hD]; exact Nat.ne_of_lt hlt)]
    exact (f2 b hb).1
  have st3 : tn 0 s3.heap := T.keep _ _ _ st2 fun b _ o e => by rw [h3]; exact Heap.get?_push_of_some _ e
  have I4 := block_start I3 ok hN f3
  have pg := hg s3 (upd H2 D (SetTO X.w D (fun _ => false) 0)) s3.heap.objs.size (cellsFrom (s3.heap.objs.size + 1) scope.names (cloFrom X.env.cells scope.names [])) fp
  have pt := ht s3 (upd H2 D (SetTO X.w D (fun _ => false) 0)) s3.heap.objs.size (cellsFrom (s3.heap.objs.size + 1) scope.names (cloFrom X.env.cells scope.names [])) fp
  have pe := he s3 (upd H2 D (SetTO X.w D (fun _ => false) 0)) s3.heap.objs.size (cellsFrom (s3.heap.objs.size + 1) scope.names (cloFrom X.env.cells scope.names [])) fp
  show codeAny _ _ (.compStart (.SetComp elt [⟨tg, iter, ifs, 0⟩] scope pos) 0 (.ref it) (.ref D) (compEnvC scope (cellsFrom (s3.heap.objs.size + 1) scope.names (cloFrom X.env.cells scope.names [])) s3.heap.objs.size X.env)) (compPost (model X.prog X.w) X.A X.xe use Qf (.ref D) s3.heap.objs.size) { s3 with heap := pushCells (s3.heap.push { cls := .type "dict", data := .dict #[] }) scope.names }
  have nfp : ∀ b ∈ fp, (upd H2 D (SetTO X.w D (fun _ => false) 0)) b = none := fun b hb => (f3 b hb).1.1
  generalize hce : compEnvC scope (cellsFrom (s3.heap.objs.size + 1) scope.names (cloFrom X.env.cells scope.names [])) s3.heap.objs.size X.env = ce at I4 pg pt pe ⊢
  have cL : ce.locals = s3.heap.objs.size := by subst hce; rfl
  generalize hH3 : upd H2 D (SetTO X.w D (fun _ => false) 0) = H3 at I3 I4 pg pt pe w0 nfp f3
  generalize hs4 : ({ s3 with heap := pushCells (s3.heap.push { cls := .type "dict", data := .dict #[] }) scope.names } : Shared) = s4 at I4 ⊢
  have st4 : tn 0 s4.heap := T.keep _ _ _ st3 fun b _ o e => by rw [← hs4]; exact pushCells_keeps _ _ _ _ (Heap.get?_push_of_some _ e)
  have stat : ∀ {σ' : L2.St} {H' : Hp} {s' : Shared}, Inv (X.blk s3 H3 scope ce fp) [] σ' H' s' → (∀ b ∈ fp, H' b = none) → ∀ b ∈ fp, FpOk (X.blk s3 H3 scope ce fp) [] H' b := fun {σ' H' s'} I' hn b hb =>
    ⟨hn b hb, (I'.ok.exf b hb).1, I'.ok.exfs b hb, .inl hb, fun x c e => (I'.ok.exf b hb).2 x c e, fun p hp => absurd (show p ∈ ([] : List (Addr × Obj)) ++ [] from hp) (by simp)⟩
  have loop : codeAny (model X.prog X.w) X.A (.compLoop (.SetComp elt [⟨tg, iter, ifs, 0⟩] scope pos) 0 (.ref it) (.ref D) ce) (compPost (model X.prog X.w) X.A X.xe use Qf (.ref D) s3.heap.objs.size) s4 := by
    refine compLoopS_any (fun n s' => ∃ i H', Inv (X.blk s3 H3 scope ce fp) [] (wipe σ (own.map (·.2))) H' s' ∧ tn i s'.heap ∧ (∀ b ∈ fp, H' b = none) ∧ W i n H') ?_ m0 ⟨0, H3, I4, st4, nfp, w0⟩
    rintro n s5 ⟨i, H5, I5, st5, n5, w5⟩
    rcases turn i n H5 w5 with ⟨stop, qq⟩ | ⟨go, Nx, hNx, step⟩
    · refine thnF (T.done (X.blk s3 H3 scope ce fp) rfl rfl rfl hc i [] s5 _ H5 (fun _ _ => False) I5 (stat I5 n5) st5 stop) fun r s6 ⟨hr, I6⟩ => ?_
      subst hr
      have I7 : Inv X pins σ H5 s6 := I3.call' (ch := fp) I6.os I6.base I6.hok I6.bare fun b hb => ⟨(f3 b hb).1.2.2.2.1, (f3 b hb).1.2.1, (f3 b hb).1.2.2.2.2.1, (f3 b hb).1.2.2.2.2.2⟩
      have nC : H5 s3.heap.objs.size = none := cL ▸ I6.free
      obtain ⟨m, hn, _⟩ := I6.loc
      have hn : s6.heap.Ns ce.locals m := hn
      rw [cL] at hn
      exact hRR D s3.heap.objs.size s6 m H5 I7 qq hn (I3.fpOk (Nat.le_refl _) nC)
    · refine thnF (T.item (X.blk s3 H3 scope ce fp) rfl rfl rfl hc i [] s5 _ H5 (fun _ _ => False) I5 (stat I5 n5) st5 go) fun r s6 ⟨u, hr, h6⟩ => ?_
      subst hr
      refine thnF h6 fun _ s7 ⟨x, H7, I7, r7, y7, st7, n7⟩ => ?_
      have I7' := I7.pinned (stat I7 n7) (T.obj _ _ st7)
      refine thnF (pg.run _ s7 _ H7 x u _ I7' r7 (step x H7 y7)) fun _ s8 ⟨σ8, H8, I8, hw8, q8⟩ => ?_
      refine thnF (pt.run _ s8 σ8 H8 _ I8 q8) fun b s9 ⟨H9, I9, q9⟩ => ?_
      have fin : ∀ {s' : Shared} {H' : Hp}, Inv (X.blk s3 H3 scope ce fp) ([] ++ pinsAt fp s7.heap) σ8 H' s' → Nx H' → ∃ m, m < n ∧ ∃ i H', Inv (X.blk s3 H3 scope ce fp) [] (wipe σ (own.map (·.2))) H' s' ∧ tn i s'.heap ∧ (∀ b ∈ fp, H' b = none) ∧ W i m H' := fun {s' H'} I' nx => by
        obtain ⟨m', hm, w'⟩ := hNx H' nx
        have pin' : ∀ b ∈ fp, ∀ o, s7.heap.get? b = some o → s'.heap.get? b = some o ∧ H' b = none := fun b hb o e =>
          let z := I'.pin (b, o) (List.mem_append_right _ (List.mem_append_right _ (mem_pinsAt hb e)))
          ⟨z.1, z.2.1⟩
        have hl : (wipe σ (own.map (·.2))).length = σ8.length := by rw [← hw8, wipe_length]
        refine ⟨m', hm, i + 1, H', (I'.unpinned (pins := [])).weak hl (fun j v e => (wipe_some (hw8 ▸ e)).1), T.keep _ _ _ st7 fun b hb o e => (pin' b hb o e).1, fun b hb => ?_, w'⟩
        obtain ⟨o, e, _⟩ := T.obj _ _ st7 b hb
        exact (pin' b hb o e).2
      cases b with
      | false =>
        simp only [Bool.false_eq_true, if_false] at q9 ⊢
        exact fin I9 q9
      | true =>
        simp only [if_true] at q9 ⊢
        refine thnF (pe.run _ s9 σ8 H9 _ I9 q9) fun z s10 ⟨yv, H10, I10, r10, cb, S0, n0, ey, hD10, hz10, nx⟩ => ?_
        subst ey
        obtain ⟨tk, rfl⟩ := (show ∃ tk, z = Value.str cb tk from r10)
        exact addT_ok (X := X.blk s3 H3 scope ce fp) I10 hD10 hz10 fun s11 I11 => fin I11 nx
  exact codeAny_compStart_set loop (T.self X.A 0 _ _ _ st4 loop)
theorem pe_scT {elt tg iter : Expr} {ifs : List Expr} {scope : Scope} {own : List (PySem.Str × Nat)} {pos : Pos} {wi : TI} {g : TG} {tt : TT} {te : TE} (hc : X.calm = true) (hN : X.N.Nodup) (hi : PI X tg iter wi) (ok : BlkOk X.N X.env.scope scope own)
    (hg : ∀ (s : Shared) (H : Hp) (C : Addr) (cl : List (PySem.Str × Addr)) (fp : List Addr), PG (X.blk s H scope (compEnvC scope cl C X.env) fp) tg g) (ht : ∀ (s : Shared) (H : Hp) (C : Addr) (cl : List (PySem.Str × Addr)) (fp : List Addr), PTs (X.blk s H scope (compEnvC scope cl C X.env) fp) ifs tt)
    (he : ∀ (s : Shared) (H : Hp) (C : Addr) (cl : List (PySem.Str × Addr)) (fp : List Addr), PE (X.blk s H scope (compEnvC scope cl C X.env) fp) elt te) (hs : ∀ x, foldedSetIterable iter X.env x = pure x := by intro _; rfl) :
    PE X (.SetComp elt [⟨tg, iter, ifs, 0⟩] scope pos) (tScT X.w wi g tt te (own.map (·.2))) := by
  refine ⟨fun pins s σ H Q I h => ?_⟩
  rw [eval_SetComp]
  refine sc_coreT hc hN I hi ok hg ht he hs h fun D C s' m H' I' q hn f => ⟨m, hn, fun h'' sb => ?_⟩
  obtain ⟨f0, f1, f2, f3, f4, f5⟩ := f
  exact ⟨.ref D, H', I'.turned (t' := s'.toks) (fun b o hb e => (sb.2 b hb).trans e) f0 f1 f3 f4 f5, rfl, q⟩
end
end VT
namespace VT
open PySem PySem.Spec PyProof.Rows L2
theorem newT_at {w : World} {h : Heap} {a : Addr} {ns : List Str} (ho : h.get? a = some { cls := .type "set", dict := none, data := .set #[] 0 (.fresh 0 0 (!w.params.followText "set-order")) }) : SetT w h a (fun j => decide (j ∈ ns.take 0)) 0 :=
  ⟨_, #[], 0, _, ho, ⟨rfl, rfl, rfl⟩, rfl, (fun e he => by simp at he), (by simp), (fun k => by simp), (by decide), (by rfl), rfl, List.Pairwise.nil, by
    show _ ∨ (!w.params.followText "set-order") = true
    cases w.params.followText "set-order"
    · exact .inr rfl
    · exact .inl rfl⟩
section
variable {P : Program} {w : World} {A : Around} {E : Value → Shared → Prop} {s : Shared}
theorem updT {I : Addr} {fp wr : List Addr} {G : Array GenState → Array GenState → Prop} {n : Nat} {Pv : Nat → Value → Prop} {St : Nat → Shared → Prop} {R : Result → Shared → Prop}
    (W : WalksS P w A.in1 I fp wr G n Pv St) (S : Addr) (hSf : S ∉ fp) (ns : List Str) (hn : n = ns.length) (hb : ns.length + 1 < scanBound) (hval : ∀ i v, Pv i v → ∃ k t, ns[i]? = some k ∧ v = .str k t) :
    ∀ (k i : Nat) (s : Shared), n - i = k → i ≤ n → St i s → (∃ c, c ≤ i ∧ SetT w s.heap S (fun j => decide (j ∈ ns.take i)) c) →
      (∀ s' c, Moved (S :: wr) G s s' → c ≤ n → SetT w s'.heap S (fun j => decide (j ∈ ns)) c → R (.ok (.ret .none)) s') →
      codeAny (model P w) A (.builtin "set.update.loop" ⟨[.ref S, .ref I], []⟩) R s := by
  have hSw : S ∉ wr := fun h => hSf (W.sub _ h)
  have hsub : ∀ b ∈ wr, b ∈ S :: wr := fun b hb => List.mem_cons_of_mem _ hb
  intro k
  induction k with
  | zero =>
    intro i s hk' hi hst ⟨c, hc, hS⟩ hR
    have hin : i = n := by omega
    subst hin
    refine codeAny_builtin F.entry_set_update_loop ?_
    rw [Around.under_plainId F.plain_set_update_loop _]
    show wpAny _ A.in1 (pyNext (.ref I) >>= _) _ _ s
    refine wpAny_bind (W.done s _ _ hst fun s' hm => ?_)
    show wpAny _ A.in1 (ret Value.none) _ _ s'
    have e : ns.take i = ns := List.take_of_length_le (by omega)
    rw [e] at hS
    exact wpAny_pure (hR s' c (hm.mono hsub) hc (hS.at fun o e => hm.heap S o hSw e))
  | succ k ih =>
    intro i s hk' hi hst ⟨c, hc, hS⟩ hR
    have hlt : i < n := by omega
    refine codeAny_builtin F.entry_set_update_loop ?_
    rw [Around.under_plainId F.plain_set_update_loop _]
    show wpAny _ A.in1 (pyNext (.ref I) >>= _) _ _ s
    refine wpAny_bind (W.item i s _ _ hlt hst fun v s' hP hst' hm => ?_)
    obtain ⟨z, t, hz, rfl⟩ := hval i v hP
    have hS' : SetT w s'.heap S (fun j => decide (j ∈ ns.take i)) c := hS.at fun o e => hm.heap S o hSw e
    show wpAny _ A.in1 (holding [Value.str z t] (setAdd S (.str z t)) >>= _) _ _ s'
    refine wpAny_bind (wpAny_holding ?_)
    unfold setAdd
    refine wpAny_holding ?_
    refine wpAny_bind ((PySem.strKind P w).pyHash (k := z) (strKind_is _ _ _ _) ?_)
    refine addT_hashed (s := { s' with toks := s'.toks + 1 }) hS' (by omega) fun h' hsb hS2 => ?_
    have hS3 : SetT w h' S (fun j => decide (j ∈ ns.take (i + 1))) (if decide (z ∈ ns.take i) = true then c else c + 1) := hS2.congr fun j => by
      rw [List.take_add_one, hz]
      simp [List.mem_append]
    have hc3 : (if decide (z ∈ ns.take i) = true then c else c + 1) ≤ i + 1 := by
      split <;> omega
    refine wpAny_pure ⟨plainId_quiet F.plain_set_update_loop _, ih (i + 1) _ (by omega) hlt (W.frame _ s' _ _ hst' (Nat.le_succ _) fun b hb o e => ?_) ⟨_, hc3, hS3⟩ fun s'' c2 hm'' hc'' hS'' => ?_⟩
    · rw [hsb.2 b (fun h : b = S => hSf (by rw [← h]; exact hb))]; exact e
    · refine hR s'' c2 (Moved.trans W.gtrans ((hm.mono hsub).then_heap (Nat.le_succ _) fun b o hb e => ?_) hm'') hc'' hS''
      rw [hsb.2 b (fun h : b = S => hb (by rw [h]; exact List.mem_cons_self))]; exact e

theorem call_setT {l : Addr} {items : Array Value} (ns : List Str) {Q : Value → Shared → Prop} (hh : A.handled = none) (hl : s.heap.IsList l items) (hit : StrsAre items.toList ns) (hb : ns.length + 1 < scanBound)
    (h : ∀ (h' : Heap) (tk c : Nat), SetT w h' s.heap.objs.size (fun j => decide (j ∈ ns)) c → c ≤ ns.length → (∀ b o, s.heap.get? b = some o → h'.get? b = some o) → Q (.ref s.heap.objs.size) { s with heap := h', toks := tk }) :
    wpAny (model P w) A (call (.type "set") [.ref l]) Q E s := by
  have hisz : items.size = ns.length := by
    have q := StrsAre.len_eq hit
    rw [Array.length_toList] at q
    exact q
  obtain ⟨c, tl, hmro⟩ := F.called_set.mro
  have hmade := F.called_set.made
  have hsub := F.called_set.sub
  refine wpAny_call (codeAny_of_tree ?_)
  show wpAny _ _ (callAny (.type "set") _) _ _ _
  refine wpAny_pure ⟨Code.quiet_builtin _ (by decide +kernel), codeAny_builtin F.entry_type_call ?_⟩
  rw [Around.under_plain (weight_type_call_type "set" [.ref l] []) rfl]
  have h1 := F.called_set.notType
  have h2 := F.called_set.canCreate
  have hct := F.typeCall_set_1 (.ref l)
  repeat (any_goals (first | assumption | wp_step))

  refine codeAny_mono (code_set_led1 (.ref l) (E := E) (Q₁ := fun obj s₁ => obj = .ref s.heap.objs.size ∧ s₁ = { s with heap := s.heap.push { cls := .type "set", dict := none, data := .set #[] 0 (.fresh 0 0 (!w.params.followText "set-order")) } }) ⟨rfl, rfl⟩) fun r s₁ hr => ?_
  cases r with
  | error e => exact hr
  | ok fl =>
    cases fl with
    | ret obj =>
      obtain ⟨rfl, rfl⟩ := hr
      have hS : (s.heap.push { cls := .type "set", dict := none, data := .set #[] 0 (.fresh 0 0 (!w.params.followText "set-order")) }).get? s.heap.objs.size = some { cls := .type "set", dict := none, data := .set #[] 0 (.fresh 0 0 (!w.params.followText "set-order")) } := Heap.get?_push_size _ rfl
      have hT : Shared.TypeIs { s with heap := s.heap.push { cls := .type "set", dict := none, data := .set #[] 0 (.fresh 0 0 (!w.params.followText "set-order")) } } (.ref s.heap.objs.size) "set" := ⟨_, hS, rfl⟩
      have hli := F.called_set.init.lookup
      have hbi := F.called_set.init.bind (.ref s.heap.objs.size)
      repeat (any_goals (first | assumption | wp_step))

      refine codeAny_mono (codeAny_call_builtin (R := wants (fun r s₂ => r = .none ∧ ∃ h' tk c, s₂ = { s with heap := h', toks := tk } ∧ SetT w h' s.heap.objs.size (fun j => decide (j ∈ ns)) c ∧ c ≤ ns.length ∧
          (∀ b o, s.heap.get? b = some o → h'.get? b = some o)) E) F.called_set.init.plain F.entry_set_init (check_set_init_1 hT ?_)) fun r₂ s₂ hr₂ => ?_
      · obtain ⟨ol, hol, hcl, nl, hdl⟩ := hl
        obtain ⟨ocls, odict, odata, oslots⟩ := ol
        simp only at hcl hdl
        subst hcl; subst hdl
        have hol' : (s.heap.push { cls := .type "set", dict := none, data := .set #[] 0 (.fresh 0 0 (!w.params.followText "set-order")) }).get? l = some { cls := .type "list", dict := odict, data := .seq items nl, slots := oslots } := Heap.get?_push_of_some _ hol
        have hsls := F.sub_list_set
        have hslf := F.sub_list_frozenset
        have hne : (Value.type "list" == Value.type "dict") = false := by decide
        have hl1 : (s.heap.push { cls := .type "set", dict := none, data := .set #[] 0 (.fresh 0 0 (!w.params.followText "set-order")) }).IsList l items := ⟨_, hol', rfl, nl, rfl⟩
        unfold Builtin.«set.__init__» noKeywords Builtin.Frozenset.updateFrom
        generalize hPI : pyIter = PI
        wp_walk
        subst hPI

        refine wpAny_pyIter_list hl1 ?_
        refine wpAny_bind (wpAny_runValue ?_)
        have hlS : l < s.heap.objs.size := Heap.lt_size hol
        have hh3 : A.in1.in1.in1.handled = none := by simp [hh]
        have hz1 : (s.heap.push { cls := .type "set", dict := none, data := .set #[] 0 (.fresh 0 0 (!w.params.followText "set-order")) }).objs.size = s.heap.objs.size + 1 := Heap.size_push ..
        have hneI : l ≠ (s.heap.push { cls := .type "set", dict := none, data := .set #[] 0 (.fresh 0 0 (!w.params.followText "set-order")) }).objs.size := by
          rw [Heap.size_push]; exact Nat.ne_of_lt (Nat.lt_succ_of_lt hlS)
        have hSf : s.heap.objs.size ∉ [(s.heap.push { cls := .type "set", dict := none, data := .set #[] 0 (.fresh 0 0 (!w.params.followText "set-order")) }).objs.size, l] := by
          rw [Heap.size_push]; simp only [List.mem_cons, List.mem_singleton, List.not_mem_nil, or_false, not_or]
          exact ⟨Nat.ne_of_lt (Nat.lt_succ_self _), Nat.ne_of_gt hlS⟩
        have hval : ∀ (i : Nat) (v : Value), items[i]? = some v → ∃ k t, ns[i]? = some k ∧ v = .str k t := fun i v hv => by
          have hi : i < ns.length := by rw [← hisz]; exact (Array.getElem?_eq_some_iff.mp hv).1
          obtain ⟨t, e⟩ := SS.strs_at hit i v (by rw [Array.getElem?_toList]; exact hv)
          refine ⟨ns[i], t, List.getElem?_eq_getElem hi, ?_⟩
          rw [e, List.getD_eq_getElem?_getD, List.getElem?_eq_getElem hi] <;> rfl
        refine updT ((Walks.list hh3 _ l hneI items).toS) s.heap.objs.size
          hSf ns hisz hb hval (items.size - 0) 0 _ (by omega) (Nat.zero_le _)
          ⟨⟨_, Heap.get?_push_size _ rfl, rfl, rfl⟩, (hl1.push _)⟩ ?hS0 ?hR
        case hS0 =>
          have hget : ((s.heap.push { cls := .type "set", dict := none, data := .set #[] 0 (.fresh 0 0 (!w.params.followText "set-order")) }).push { cls := .type "list_iterator", data := .fields #[.ref l, .int 0 0] }).get? s.heap.objs.size
              = some { cls := .type "set", dict := none, data := .set #[] 0 (.fresh 0 0 (!w.params.followText "set-order")) } := Heap.get?_push_of_some _ hS
          exact ⟨0, Nat.le_refl 0, newT_at hget⟩
        case hR =>
          intro s' c' hm hc' hS'
          obtain ⟨h', g2, d', tk', os'⟩ := s'
          have eg : g2 = s.gens := hm.gens
          have ed : d' = s.drawn := hm.drawn
          have eo : os' = s.os := hm.os
          subst eg; subst ed; subst eo
          show wpAny _ _ _ _ _ _
          refine wpAny_pure ?_
          show wpAny _ _ (ret Value.none) _ _ _
          rw [hisz] at hc'
          refine wpAny_pure ⟨rfl, h', tk', c', rfl, hS', hc', fun b o e => ?_⟩
          have hb0 : b < s.heap.objs.size := Heap.lt_size e
          have hb1 : b ≠ s.heap.objs.size := Nat.ne_of_lt hb0
          have hb2 : b ≠ (s.heap.push { cls := .type "set", dict := none, data := .set #[] 0 (.fresh 0 0 (!w.params.followText "set-order")) }).objs.size := by
            rw [Heap.size_push]; exact Nat.ne_of_lt (Nat.lt_succ_of_lt hb0)
          exact hm.heap b o (by simp only [List.mem_cons, List.mem_singleton, List.not_mem_nil, or_false, not_or]; exact ⟨hb1, hb2⟩) (Heap.get?_push_of_some _ (Heap.get?_push_of_some _ e))

      · cases r₂ with
        | error e => exact hr₂
        | ok fl₂ =>
          cases fl₂ with
          | ret r =>
            obtain ⟨rfl, h', tk, c', rfl, hS', hc', hk'⟩ := hr₂
            repeat (any_goals (first | assumption | wp_step))
            exact h _ _ _ hS' hc' hk'
          | _ => exact hr₂.elim
    | _ => exact hr.elim

end
section
variable {X : Cx}
/-- set(a list of texts) -/
def rSetT (w : World) (K : PySem.W.Frag) : List V → Hp → VK → Prop := fun xs H Q => ∃ (l : Addr) (zs : List Str), xs = [.ref l] ∧ SqL K H l (zs.map V.str) ∧ zs.length + 1 < scanBound ∧
  ∀ (D : Addr) (n : Nat), H D = none → n ≤ zs.length → Q (.ref D) (upd H D (SetTO w D (fun j => decide (j ∈ zs)) n))
theorem cr_setT (hc : X.calm = true) : CallR X (.type "set") (rSetT X.w X.K) := by
  intro pins s σ H vs us Q I r h
  obtain ⟨l, zs, rfl, hS, lz, q⟩ := h
  obtain ⟨its, rv, pl, hz⟩ := I.list hS
  rw [Vals.ref1 r]
  refine call_setT zs (I.ok.hd hc) pl.isList (by simpa using rv.strs) lz fun h' tk c R hcn k => ?_
  have hn : H s.heap.objs.size = none := I.hok.fresh (Nat.le_refl _)
  exact ⟨.ref _, upd H s.heap.objs.size (SetTO X.w s.heap.objs.size (fun j => decide (j ∈ zs)) c), I.laid (t' := tk) k (Nat.le_refl _) (setTO_new R), rfl, q _ c hn hcn⟩
end
end VT
/-! Set comprehensions of texts with two clauses. -/
namespace VT
open PySem PySem.Spec PyProof.Rows L2 PpSet
theorem scTurn_a (elt t0 i0 t1 i1 : Expr) (ifs0 ifs1 : List Expr) (scope : Scope) (pos : Pos) (it acc : Value) (env : Env) :
    compTurn (.SetComp elt [⟨t0, i0, ifs0, 0⟩, ⟨t1, i1, ifs1, 0⟩] scope pos) 0 it acc env = (do
      standAt i0.pos
      match ← pyNext it with
      | none => pure (.done .next)
      | some v =>
        letOwnedTupleGo t0 it v
        assign t0 env v
        let mut ok := true
        for c in ifs0 do
          if ok then ok ← isTrue c env (eval c env)
        if ok then
          let x ← eval i1 env
          standAt i1.pos
          let x ← foldedSetIterable i1 env x
          let _ ← runOwn (.compStart (.SetComp elt [⟨t0, i0, ifs0, 0⟩, ⟨t1, i1, ifs1, 0⟩] scope pos) 1 (← holding [x] (pyIter x)) acc env) env
        again (.compLoop (.SetComp elt [⟨t0, i0, ifs0, 0⟩, ⟨t1, i1, ifs1, 0⟩] scope pos) 0 it acc env)) := by rfl
theorem scTurn_b (elt t0 i0 t1 i1 : Expr) (ifs0 ifs1 : List Expr) (scope : Scope) (pos : Pos) (it acc : Value) (env : Env) :
    compTurn (.SetComp elt [⟨t0, i0, ifs0, 0⟩, ⟨t1, i1, ifs1, 0⟩] scope pos) 1 it acc env = (do
      standAt i1.pos
      match ← pyNext it with
      | none => pure (.done .next)
      | some v =>
        letOwnedTupleGo t1 it v
        assign t1 env v
        let mut ok := true
        for c in ifs1 do
          if ok then ok ← isTrue c env (eval c env)
        if ok then
          (do let v ← eval elt env; standAt elt.pos; let _ ← call (.builtin "set.add") [acc, v])
        again (.compLoop (.SetComp elt [⟨t0, i0, ifs0, 0⟩, ⟨t1, i1, ifs1, 0⟩] scope pos) 1 it acc env)) := by rfl

section
variable {prog : Program} {w : World} {A : Around} {R : Result → Shared → Prop} {s : Shared} {elt t0 i0 t1 i1 : Expr} {ifs0 ifs1 : List Expr} {scope : Scope} {pos : Pos} {it acc : Value} {env : Env}
/-- the loop of the first clause -/
theorem scLoop_a (hs : ∀ x, foldedSetIterable i1 env x = pure x) (I : Nat → Shared → Prop)
    (turn : ∀ n s, I n s → wpAny (model prog w) A (pyNext it) (fun r s₁ => match r with
      | none => R (.ok .next) s₁
      | some v => wpAny (model prog w) A (letOwnedTupleGo t0 it v) (fun _ s₁' => wpAny (model prog w) A (assign t0 env v) (fun _ s₂ =>
          wpAny (model prog w) A (forIn ifs0 true fun c r => if r = true then do let ok ← isTrue c env (eval c env); pure (ForInStep.yield ok) else pure (ForInStep.yield r)) (fun ok s₃ =>
            if ok = true then wpAny (model prog w) A (eval i1 env) (fun x s₄ => wpAny (model prog w) A (pyIter x) (fun it1 s₅ =>
              codeAny (model prog w) A (.compStart (.SetComp elt [⟨t0, i0, ifs0, 0⟩, ⟨t1, i1, ifs1, 0⟩] scope pos) 1 it1 acc env) (fun r s' => match r with
                | .ok _ => ∃ m, m < n ∧ I m s'
                | .error _ => False) s₅) (notedBy (model prog w) A env fun e s' => R (.error e) s') s₄) (notedBy (model prog w) A env fun e s' => R (.error e) s') s₃
            else ∃ m, m < n ∧ I m s₃) (notedBy (model prog w) A env fun e s' => R (.error e) s') s₂) (notedBy (model prog w) A env fun e s' => R (.error e) s') s₁') (notedBy (model prog w) A env fun e s' => R (.error e) s') s₁) (notedBy (model prog w) A env fun e s' => R (.error e) s') s)
    (n : Nat) (h : I n s) :
    codeAny (model prog w) A (.compLoop (.SetComp elt [⟨t0, i0, ifs0, 0⟩, ⟨t1, i1, ifs1, 0⟩] scope pos) 0 it acc env) R s := by
  refine codeAny_loop rfl I (fun n s hI => ?_) n h
  show wpAny _ A ((compTurn (.SetComp elt [⟨t0, i0, ifs0, 0⟩, ⟨t1, i1, ifs1, 0⟩] scope pos) 0 it acc env).onRaise (fun x => do noteFrame x env; theTreesLotGoes x)) _ _ s
  refine wpAny_noted ?_
  rw [scTurn_a]
  refine wpAny_bind (wpAny_standAt (wpAny_bind (wpAny_mono (turn n s hI) (fun r s₁ h₁ => ?_) fun _ _ h' => h')))
  cases r with
  | none => exact wpAny_pure h₁
  | some v =>
    refine wpAny_bind (wpAny_mono h₁ (fun _ s₁' h₁' => ?_) fun _ _ h' => h')
    refine wpAny_bind (wpAny_mono h₁' (fun _ s₂ h₂ => wpAny_bind (wpAny_mono h₂ (fun ok s₃ h₃ => ?_) fun _ _ h' => h')) fun _ _ h' => h')
    cases ok with
    | false => exact wpAny_pure ⟨rfl, h₃⟩
    | true =>
      refine wpAny_bind (wpAny_mono h₃ (fun x s₄ h₄ => ?_) fun _ _ h' => h')
      refine wpAny_bind (wpAny_standAt (wpAny_bind (wpAny_of_eq (hs x) (wpAny_bind (wpAny_holding (wpAny_mono h₄ (fun it1 s₅ h₅ => ?_) fun _ _ h' => h'))))))
      refine wpAny_bind (wpAny_runOwn ?_)
      rw [Around.mark_none]
      refine codeAny_mono h₅ fun r s' hr => ?_
      cases r with
      | ok f =>
        first
          | exact wpAny_pure ⟨rfl, hr⟩
          | exact wpAny_bind (wpAny_pure (wpAny_pure ⟨rfl, hr⟩))
      | error e => exact hr.elim
/-- the loop of the second -/
theorem scLoop_b (I : Nat → Shared → Prop)
    (turn : ∀ n s, I n s → wpAny (model prog w) A (pyNext it) (fun r s₁ => match r with
      | none => R (.ok .next) s₁
      | some v => wpAny (model prog w) A (letOwnedTupleGo t1 it v) (fun _ s₁' => wpAny (model prog w) A (assign t1 env v) (fun _ s₂ =>
          wpAny (model prog w) A (forIn ifs1 true fun c r => if r = true then do let ok ← isTrue c env (eval c env); pure (ForInStep.yield ok) else pure (ForInStep.yield r)) (fun ok s₃ =>
            if ok = true then wpAny (model prog w) A (eval elt env) (fun x s₄ =>
              wpAny (model prog w) A (call (.builtin "set.add") [acc, x]) (fun _ s₅ => ∃ m, m < n ∧ I m s₅) (notedBy (model prog w) A env fun e s' => R (.error e) s') s₄) (notedBy (model prog w) A env fun e s' => R (.error e) s') s₃
            else ∃ m, m < n ∧ I m s₃) (notedBy (model prog w) A env fun e s' => R (.error e) s') s₂) (notedBy (model prog w) A env fun e s' => R (.error e) s') s₁') (notedBy (model prog w) A env fun e s' => R (.error e) s') s₁) (notedBy (model prog w) A env fun e s' => R (.error e) s') s)
    (n : Nat) (h : I n s) :
    codeAny (model prog w) A (.compLoop (.SetComp elt [⟨t0, i0, ifs0, 0⟩, ⟨t1, i1, ifs1, 0⟩] scope pos) 1 it acc env) R s := by
  refine codeAny_loop rfl I (fun n s hI => ?_) n h
  show wpAny _ A ((compTurn (.SetComp elt [⟨t0, i0, ifs0, 0⟩, ⟨t1, i1, ifs1, 0⟩] scope pos) 1 it acc env).onRaise (fun x => do noteFrame x env; theTreesLotGoes x)) _ _ s
  refine wpAny_noted ?_
  rw [scTurn_b]
  refine wpAny_bind (wpAny_standAt (wpAny_bind (wpAny_mono (turn n s hI) (fun r s₁ h₁ => ?_) fun _ _ h' => h')))
  cases r with
  | none => exact wpAny_pure h₁
  | some v =>
    refine wpAny_bind (wpAny_mono h₁ (fun _ s₁' h₁' => ?_) fun _ _ h' => h')
    refine wpAny_bind (wpAny_mono h₁' (fun _ s₂ h₂ => wpAny_bind (wpAny_mono h₂ (fun ok s₃ h₃ => ?_) fun _ _ h' => h')) fun _ _ h' => h')
    cases ok with
    | false => exact wpAny_pure ⟨rfl, h₃⟩
    | true =>
      exact wpAny_bind (wpAny_bind (wpAny_mono h₃ (fun x s₄ h₄ => wpAny_bind (wpAny_standAt (wpAny_bind (wpAny_mono h₄ (fun _ s₅ h₅ => wpAny_pure (wpAny_pure ⟨rfl, h₅⟩)) fun _ _ h' => h')))) fun _ _ h' => h'))
/-- the second clause's start -/
theorem scStart_b (h0 : codeAny (model prog w) A (.compLoop (.SetComp elt [⟨t0, i0, ifs0, 0⟩, ⟨t1, i1, ifs1, 0⟩] scope pos) 1 it acc env) R s)
    (h : wpAny (model prog w) A (pyIter it) (fun it' s' => codeAny (model prog w) A (.compLoop (.SetComp elt [⟨t0, i0, ifs0, 0⟩, ⟨t1, i1, ifs1, 0⟩] scope pos) 1 it' acc env) R s')
      (notedBy (model prog w) A env fun x s' => R (.error x) s') s) :
    codeAny (model prog w) A (.compStart (.SetComp elt [⟨t0, i0, ifs0, 0⟩, ⟨t1, i1, ifs1, 0⟩] scope pos) 1 it acc env) R s := by
  refine codeAny_of_tree ?_
  show wpAny _ _ ((compStart (.SetComp elt [⟨t0, i0, ifs0, 0⟩, ⟨t1, i1, ifs1, 0⟩] scope pos) 1 it acc env).onRaise (fun x => do noteFrame x env; standAt theWindowsPlace)) _ _ s
  refine wpAny_notedAt ?_
  unfold compStart
  show wpAny _ _ (ask >>= _) _ _ s
  refine wpAny_bind (wpAny_askSetting (wpAny_ite ?_))
  split
  · first
      | exact wpAny_bind (wpAny_pure (wpAny_pure (And.intro rfl h0)))
      | exact wpAny_pure (And.intro rfl h0)
  · first
      | exact wpAny_bind (wpAny_rule (wpAny_bind (wpAny_standAt (wpAny_bind (wpAny_mono h (fun it' s' h' => wpAny_pure (And.intro rfl h')) fun _ _ x => x)))))
      | (refine wpAny_bind (wpAny_rule ?_); show wpAny _ _ (standAt i1.pos >>= _) _ _ s; exact wpAny_bind (wpAny_standAt (wpAny_bind (wpAny_mono h (fun it' s' h' => wpAny_pure (And.intro rfl h')) fun _ _ x => x))))
end

section
variable {X : Cx}
/-- [elt for tg in iter if .. for tg1 in iter1 if ..]: behind the first clause's store and tests the second source's own loop, from which Nx is reached. vs: the block's names; vs1: those of the second target -/
def tSc2 (w : World) (wi : TI) (g : TG) (tt : TT) (wi1 : TI) (g1 : TG) (tt1 : TT) (te : TE) (vs vs1 : List Nat) : TE := fun σ H Q => wi σ H fun J H1 => ∀ D, H1 D = none → ∃ W : Nat → Nat → Hp → Prop, (∃ m, W 0 m (upd H1 D (SetTO w D (fun _ => false) 0))) ∧ ∀ i m H, W i m H →
  (J.stop i H ∧ Q (.ref D) H) ∨ (J.go i H ∧ ∃ Nx : Hp → Prop, (∀ H', Nx H' → ∃ m', m' < m ∧ W (i + 1) m' H') ∧ ∀ x H', J.yld i H x H' → g x (wipe σ vs) H' fun σ2 H2 => wipe σ2 vs = wipe σ vs ∧ tt σ2 H2 fun b H3 =>
    if b = true then wi1 σ2 H3 fun J1 H4 => ∃ W1 : Nat → Nat → Hp → Prop, (∃ m, W1 0 m H4) ∧ ∀ j k H, W1 j k H →
      (J1.stop j H ∧ Nx H) ∨ (J1.go j H ∧ ∃ Nx1 : Hp → Prop, (∀ H', Nx1 H' → ∃ k', k' < k ∧ W1 (j + 1) k' H') ∧ ∀ x H', J1.yld j H x H' → g1 x (wipe σ2 vs1) H' fun σ3 H5 => wipe σ3 vs1 = wipe σ2 vs1 ∧ tt1 σ3 H5 fun b H6 =>
        if b = true then te σ3 H6 fun y H7 => AddT w D y H7 Nx1 else Nx1 H6)
    else Nx H3)
theorem sc2_core {pins : List (Addr × Obj)} {s : Shared} {σ : L2.St} {H : Hp} {Q : VK} {elt tg iter tg1 iter1 : Expr} {ifs ifs1 : List Expr} {scope : Scope} {own : List (PySem.Str × Nat)} {vs1 : List Nat} {pos pos' : Pos} {wi wi1 : TI} {g g1 : TG} {tt tt1 : TT} {te : TE} {use : Option (Value → Sem Unit)} {Qf : Value → Shared → Prop}
    (hc : X.calm = true) (hN : X.N.Nodup) (I : Inv X pins σ H s) (hi : PI X tg iter wi) (ok : BlkOk X.N X.env.scope scope own) (hv : ∀ i ∈ vs1, i ∈ own.map (·.2))
    (hg : ∀ (s : Shared) (H : Hp) (C : Addr) (cl : List (PySem.Str × Addr)) (fp : List Addr), PG (X.blk s H scope (compEnvC scope cl C X.env) fp) tg g) (ht : ∀ (s : Shared) (H : Hp) (C : Addr) (cl : List (PySem.Str × Addr)) (fp : List Addr), PTs (X.blk s H scope (compEnvC scope cl C X.env) fp) ifs tt)
    (he : ∀ (s : Shared) (H : Hp) (C : Addr) (cl : List (PySem.Str × Addr)) (fp : List Addr), PE (X.blk s H scope (compEnvC scope cl C X.env) fp) elt te) (hs : ∀ x, foldedSetIterable iter X.env x = pure x)
    (hi1 : ∀ (s : Shared) (H : Hp) (C : Addr) (cl : List (PySem.Str × Addr)) (fp : List Addr), PI (X.blk s H scope (compEnvC scope cl C X.env) fp) tg1 iter1 wi1)
    (hg1 : ∀ (s : Shared) (H : Hp) (C : Addr) (cl : List (PySem.Str × Addr)) (fp : List Addr), PG (X.blk s H scope (compEnvC scope cl C X.env) fp) tg1 g1)
    (ht1 : ∀ (s : Shared) (H : Hp) (C : Addr) (cl : List (PySem.Str × Addr)) (fp : List Addr), PTs (X.blk s H scope (compEnvC scope cl C X.env) fp) ifs1 tt1)
    (hs1 : ∀ env x, foldedSetIterable iter1 env x = pure x)
    (h : tSc2 X.w wi g tt wi1 g1 tt1 te (own.map (·.2)) vs1 σ H Q)
    (hRR : ∀ D C s' m H', Inv X pins σ H' s' → Q (.ref D) H' → s'.heap.Ns C m → FpOk X pins H' C → compPost (model X.prog X.w) X.A X.xe use Qf (.ref D) C (.ok .next) s') :
    wpAny (model X.prog X.w) X.A (comprehension (.SetComp elt [⟨tg, iter, ifs, 0⟩, ⟨tg1, iter1, ifs1, 0⟩] scope pos) scope X.env pos' (newSet (.type "set")) false (eval iter X.env) use) Qf X.xe s := by
  have hfree : ∀ y ∈ scope.names, y.2 = .free → ∃ c, X.env.cells.lookup y.1 = some c := fun y hy e => by
    rcases ok.free y hy e with k | k
    · exact I.ok.has _ (.inl k)
    · exact I.ok.has _ (.inr k)
  refine wpAny_comprehension_free (use := use) rfl hs (closure_ok hfree) ok.kind (fun y hy e => by rw [ok.uniq y hy, e])
    (thn (hi.run pins s σ H _ I h) fun xv sA hx => thn hx fun itv sB h2 => ?_)
  obtain ⟨it, fp, tn, J, hB, e, vB, T, tB, f2, q⟩ := h2
  subst e
  refine newSet_ok (newEnv_comp ?_)
  generalize hD : sB.heap.objs.size = D
  have hDn : hB D = none := vB.hok.fresh (Nat.le_of_eq hD)
  obtain ⟨W, ⟨m0, w0⟩, turn⟩ := q D hDn
  generalize eC : ({ sB with heap := sB.heap.push { cls := .type "set", dict := none, data := .set #[] 0 (.fresh 0 0 (!X.w.params.followText "set-order")) } } : Shared) = sC
  have vC : Inv X pins σ (upd hB D (SetTO X.w D (fun _ => false) 0)) sC := by
    rw [← eC]
    refine vB.laid (t' := sB.toks) (fun b o e => Heap.get?_push_of_some _ e) (Nat.le_of_eq hD) ?_
    exact hD ▸ setTO_new (freshT X.w)
  have h3 : sC.heap = sB.heap.push { cls := .type "set", dict := none, data := .set #[] 0 (.fresh 0 0 (!X.w.params.followText "set-order")) } := by rw [← eC]
  have sz : ∀ b ∈ fp, b < sB.heap.objs.size := fun b hb => by
    obtain ⟨o, e, _⟩ := T.obj _ _ tB b hb
    exact Heap.lt_size e
  have f3 : ∀ b ∈ fp, FpOk X pins (upd hB D (SetTO X.w D (fun _ => false) 0)) b ∧ b < sC.heap.objs.size := fun b hb => by
    have hlt := sz b hb
    refine ⟨⟨?_, (f2 b hb).2⟩, by rw [h3, Heap.size_push]; exact Nat.lt_succ_of_lt hlt⟩
    rw [upd_ne (by rw [← hD]; exact Nat.ne_of_lt hlt)]
    exact (f2 b hb).1
  have tC_ : tn 0 sC.heap := T.keep _ _ _ tB fun b _ o e => by rw [h3]; exact Heap.get?_push_of_some _ e
  have vD := block_start vC ok hN f3
  have pg := hg sC (upd hB D (SetTO X.w D (fun _ => false) 0)) sC.heap.objs.size (cellsFrom (sC.heap.objs.size + 1) scope.names (cloFrom X.env.cells scope.names [])) fp
  have pt := ht sC (upd hB D (SetTO X.w D (fun _ => false) 0)) sC.heap.objs.size (cellsFrom (sC.heap.objs.size + 1) scope.names (cloFrom X.env.cells scope.names [])) fp
  have pe := he sC (upd hB D (SetTO X.w D (fun _ => false) 0)) sC.heap.objs.size (cellsFrom (sC.heap.objs.size + 1) scope.names (cloFrom X.env.cells scope.names [])) fp
  have pi1 := hi1 sC (upd hB D (SetTO X.w D (fun _ => false) 0)) sC.heap.objs.size (cellsFrom (sC.heap.objs.size + 1) scope.names (cloFrom X.env.cells scope.names [])) fp
  have pg1 := hg1 sC (upd hB D (SetTO X.w D (fun _ => false) 0)) sC.heap.objs.size (cellsFrom (sC.heap.objs.size + 1) scope.names (cloFrom X.env.cells scope.names [])) fp
  have pt1 := ht1 sC (upd hB D (SetTO X.w D (fun _ => false) 0)) sC.heap.objs.size (cellsFrom (sC.heap.objs.size + 1) scope.names (cloFrom X.env.cells scope.names [])) fp
  show codeAny _ _ (.compStart (.SetComp elt [⟨tg, iter, ifs, 0⟩, ⟨tg1, iter1, ifs1, 0⟩] scope pos) 0 (.ref it) (.ref D) (compEnvC scope (cellsFrom (sC.heap.objs.size + 1) scope.names (cloFrom X.env.cells scope.names [])) sC.heap.objs.size X.env)) (compPost (model X.prog X.w) X.A X.xe use Qf (.ref D) sC.heap.objs.size) { sC with heap := pushCells (sC.heap.push { cls := .type "dict", data := .dict #[] }) scope.names }
  have nfp : ∀ b ∈ fp, (upd hB D (SetTO X.w D (fun _ => false) 0)) b = none := fun b hb => (f3 b hb).1.1
  generalize hce : compEnvC scope (cellsFrom (sC.heap.objs.size + 1) scope.names (cloFrom X.env.cells scope.names [])) sC.heap.objs.size X.env = ce at vD pg pt pe pi1 pg1 pt1 ⊢
  have cL : ce.locals = sC.heap.objs.size := by subst hce; rfl
  generalize eH : upd hB D (SetTO X.w D (fun _ => false) 0) = hC at vC vD pg pt pe pi1 pg1 pt1 w0 nfp f3
  generalize eD : ({ sC with heap := pushCells (sC.heap.push { cls := .type "dict", data := .dict #[] }) scope.names } : Shared) = sD at vD ⊢
  have tD : tn 0 sD.heap := T.keep _ _ _ tC_ fun b _ o e => by rw [← eD]; exact pushCells_keeps _ _ _ _ (Heap.get?_push_of_some _ e)
  have stat : ∀ {σ' : L2.St} {H' : Hp} {s' : Shared}, Inv (X.blk sC hC scope ce fp) [] σ' H' s' → (∀ b ∈ fp, H' b = none) → ∀ b ∈ fp, FpOk (X.blk sC hC scope ce fp) [] H' b := fun {σ' H' s'} I' hn b hb =>
    ⟨hn b hb, (I'.ok.exf b hb).1, I'.ok.exfs b hb, .inl hb, fun x c e => (I'.ok.exf b hb).2 x c e, fun p hp => absurd (show p ∈ ([] : List (Addr × Obj)) ++ [] from hp) (by simp)⟩
  have loop : codeAny (model X.prog X.w) X.A (.compLoop (.SetComp elt [⟨tg, iter, ifs, 0⟩, ⟨tg1, iter1, ifs1, 0⟩] scope pos) 0 (.ref it) (.ref D) ce) (compPost (model X.prog X.w) X.A X.xe use Qf (.ref D) sC.heap.objs.size) sD := by
    refine scLoop_a (hs1 ce) (fun n s' => ∃ i H', Inv (X.blk sC hC scope ce fp) [] (wipe σ (own.map (·.2))) H' s' ∧ tn i s'.heap ∧ (∀ b ∈ fp, H' b = none) ∧ W i n H') ?_ m0 ⟨0, hC, vD, tD, nfp, w0⟩
    rintro n sE ⟨i, hE, vE, tE, n5, w5⟩
    rcases turn i n hE w5 with ⟨stop, qq⟩ | ⟨go, Nx, hNx, step⟩
    · have td := T.done (X.blk sC hC scope ce fp) rfl rfl rfl hc i [] sE _ hE (fun _ _ => False) vE (stat vE n5) tE stop
      refine thnF td fun r sF ⟨hr, vF⟩ => ?_
      subst hr
      -- back in the def's context
      have vG : Inv X pins σ hE sF := vC.call' (ch := fp) vF.os vF.base vF.hok vF.bare fun b hb => ⟨(f3 b hb).1.2.2.2.1, (f3 b hb).1.2.1, (f3 b hb).1.2.2.2.2.1, (f3 b hb).1.2.2.2.2.2⟩
      have nC : hE sC.heap.objs.size = none := by
        have z : hE ce.locals = none := vF.free
        rw [cL] at z
        exact z
      obtain ⟨m, hn, _⟩ := vF.loc
      have hn : sF.heap.Ns ce.locals m := hn
      rw [cL] at hn
      exact hRR D sC.heap.objs.size sF m hE vG qq hn (vC.fpOk (Nat.le_refl _) nC)
    · have ti := T.item (X.blk sC hC scope ce fp) rfl rfl rfl hc i [] sE _ hE (fun _ _ => False) vE (stat vE n5) tE go
      refine thnF ti fun r sF ⟨u, hr, h6⟩ => ?_
      subst hr
      refine thnF h6 fun _ sG ⟨x, hG, vG, r7, y7, tG, n7⟩ => ?_
      have vG' := vG.pinned (stat vG n7) (T.obj _ _ tG)
      refine thnF (pg.run _ sG _ hG x u _ vG' r7 (step x hG y7)) fun _ sH ⟨σ8, hH, vH, hw8, q8⟩ => ?_
      refine thnF (pt.run _ sH σ8 hH _ vH q8) fun b sI ⟨hI, vI, q9⟩ => ?_
      -- the turn's end, from any slots that know what the block knew at its start
      have fin : ∀ {σ9 : L2.St} {s' : Shared} {H' : Hp}, Inv (X.blk sC hC scope ce fp) ([] ++ pinsAt fp sG.heap) σ9 H' s' → (wipe σ (own.map (·.2))).length = σ9.length → (∀ (j : Nat) v, (wipe σ (own.map (·.2)))[j]? = some (some v) → σ9[j]? = some (some v)) → Nx H' →
          ∃ m, m < n ∧ ∃ i H', Inv (X.blk sC hC scope ce fp) [] (wipe σ (own.map (·.2))) H' s' ∧ tn i s'.heap ∧ (∀ b ∈ fp, H' b = none) ∧ W i m H' := fun {σ9 s' H'} I' hl hk nx => by
        obtain ⟨m', hm, w'⟩ := hNx H' nx
        have pin' : ∀ b ∈ fp, ∀ o, sG.heap.get? b = some o → s'.heap.get? b = some o ∧ H' b = none := fun b hb o e =>
          let z := I'.pin (b, o) (List.mem_append_right _ (List.mem_append_right _ (mem_pinsAt hb e)))
          ⟨z.1, z.2.1⟩
        refine ⟨m', hm, i + 1, H', (I'.unpinned (pins := [])).weak hl hk, T.keep _ _ _ tG fun b hb o e => (pin' b hb o e).1, fun b hb => ?_, w'⟩
        obtain ⟨o, e, _⟩ := T.obj _ _ tG b hb
        exact (pin' b hb o e).2
      have hl8 : (wipe σ (own.map (·.2))).length = σ8.length := by rw [← hw8, wipe_length]
      have hk8 : ∀ (j : Nat) v, (wipe σ (own.map (·.2)))[j]? = some (some v) → σ8[j]? = some (some v) := fun j v e => by
        rw [← hw8] at e
        exact (wipe_some e).1
      have hk9 : ∀ (j : Nat) v, (wipe σ (own.map (·.2)))[j]? = some (some v) → (wipe σ8 vs1)[j]? = some (some v) := fun j v e => by
        rw [← hw8] at e
        obtain ⟨e1, e2⟩ := wipe_some e
        rw [wipe_out fun z => e2 (hv j z)]
        exact e1
      cases b with
      | false =>
        simp only [Bool.false_eq_true, if_false] at q9 ⊢
        exact fin vI hl8 hk8 q9
      | true =>
        simp only [if_true] at q9 ⊢
        refine thnF (pi1.run _ sI σ8 hI _ vI q9) fun xv sJ hx => thnF hx fun itv sK h11 => ?_
        obtain ⟨it1, fp1, tn1, J1, hK, e1, vK, T1, tK, f11, W1, ⟨m1, w1⟩, turn1⟩ := h11
        subst e1
        -- the inner loop
        have stat1 : ∀ {H' : Hp}, (∀ b ∈ fp1, H' b = none) → ∀ b ∈ fp1, FpOk (X.blk sC hC scope ce fp) ([] ++ pinsAt fp sG.heap) H' b := fun hn b hb => ⟨hn b hb, (f11 b hb).2⟩
        have loop1 : codeAny (model X.prog X.w) X.A (.compLoop (.SetComp elt [⟨tg, iter, ifs, 0⟩, ⟨tg1, iter1, ifs1, 0⟩] scope pos) 1 (.ref it1) (.ref D) ce)
            (fun r s' => match r with
              | .ok _ => ∃ m, m < n ∧ ∃ i H', Inv (X.blk sC hC scope ce fp) [] (wipe σ (own.map (·.2))) H' s' ∧ tn i s'.heap ∧ (∀ b ∈ fp, H' b = none) ∧ W i m H'
              | .error _ => False) sK := by
          refine scLoop_b (fun k s' => ∃ j H', Inv (X.blk sC hC scope ce fp) ([] ++ pinsAt fp sG.heap) (wipe σ8 vs1) H' s' ∧ tn1 j s'.heap ∧ (∀ b ∈ fp1, H' b = none) ∧ W1 j k H') ?_ m1 ⟨0, hK, vK.weak (wipe_length _ _) (fun j v e => (wipe_some e).1), tK, fun b hb => (f11 b hb).1, w1⟩
          rintro k sL ⟨j, hL, vL, tL_, n12, w12⟩
          rcases turn1 j k hL w12 with ⟨stop1, nx1⟩ | ⟨go1, Nx1, hNx1, step1⟩
          · refine thnF (T1.done (X.blk sC hC scope ce fp) rfl rfl rfl hc j _ sL (wipe σ8 vs1) hL (fun _ _ => False) vL (stat1 n12) tL_ stop1) fun r sM ⟨hr, vM⟩ => ?_
            subst hr
            exact fin vM (hl8.trans (wipe_length σ8 vs1).symm) hk9 nx1
          · refine thnF (T1.item (X.blk sC hC scope ce fp) rfl rfl rfl hc j _ sL (wipe σ8 vs1) hL (fun _ _ => False) vL (stat1 n12) tL_ go1) fun r sM ⟨u1, hr, h13⟩ => ?_
            subst hr
            refine thnF h13 fun _ sN ⟨x1, hN_, vN, r14, y14, tN_, n14⟩ => ?_
            have vN' := vN.pinned (stat1 n14) (T1.obj _ _ tN_)
            refine thnF (pg1.run _ sN (wipe σ8 vs1) hN_ x1 u1 _ vN' r14 (step1 x1 hN_ y14)) fun _ sO ⟨σ15, hO, vO, hw15, q15⟩ => ?_
            refine thnF (pt1.run _ sO σ15 hO _ vO q15) fun b1 sP ⟨hP, vP, q16⟩ => ?_
            have fin1 : ∀ {s' : Shared} {H' : Hp}, Inv (X.blk sC hC scope ce fp) (([] ++ pinsAt fp sG.heap) ++ pinsAt fp1 sN.heap) σ15 H' s' → Nx1 H' → ∃ m, m < k ∧ ∃ j H', Inv (X.blk sC hC scope ce fp) ([] ++ pinsAt fp sG.heap) (wipe σ8 vs1) H' s' ∧ tn1 j s'.heap ∧ (∀ b ∈ fp1, H' b = none) ∧ W1 j m H' := fun {s' H'} I' nx => by
              obtain ⟨m', hm, w'⟩ := hNx1 H' nx
              have pin' : ∀ b ∈ fp1, ∀ o, sN.heap.get? b = some o → s'.heap.get? b = some o ∧ H' b = none := fun b hb o e =>
                let z := I'.pin (b, o) (List.mem_append_right _ (List.mem_append_right _ (mem_pinsAt hb e)))
                ⟨z.1, z.2.1⟩
              refine ⟨m', hm, j + 1, H', I'.unpinned.weak (by rw [← hw15, wipe_length]) (fun j v e => by rw [← hw15] at e; exact (wipe_some e).1), T1.keep _ _ _ tN_ fun b hb o e => (pin' b hb o e).1, fun b hb => ?_, w'⟩
              obtain ⟨o, e, _⟩ := T1.obj _ _ tN_ b hb
              exact (pin' b hb o e).2
            cases b1 with
            | false =>
              simp only [Bool.false_eq_true, if_false] at q16 ⊢
              exact fin1 vP q16
            | true =>
              simp only [if_true] at q16 ⊢
              refine thnF (pe.run _ sP σ15 hP _ vP q16) fun z sQ ⟨yv, hQ, vQ, r17, cb, S0, n0, ey, hD17, hz17, nx⟩ => ?_
              subst ey
              obtain ⟨tk, rfl⟩ := (show ∃ tk, z = Value.str cb tk from r17)
              exact addT_ok (X := X.blk sC hC scope ce fp) vQ hD17 hz17 fun sR vR => fin1 vR nx
        exact scStart_b loop1 (T1.self X.A 0 _ _ _ tK loop1)
  exact codeAny_compStart_set loop (T.self X.A 0 _ _ _ tD loop)
/-- as a value -/
theorem pe_sc2 {elt tg iter tg1 iter1 : Expr} {ifs ifs1 : List Expr} {scope : Scope} {own : List (PySem.Str × Nat)} {vs1 : List Nat} {pos : Pos} {wi wi1 : TI} {g g1 : TG} {tt tt1 : TT} {te : TE} (hc : X.calm = true) (hN : X.N.Nodup) (hi : PI X tg iter wi) (ok : BlkOk X.N X.env.scope scope own) (hv : ∀ i ∈ vs1, i ∈ own.map (·.2))
    (hg : ∀ (s : Shared) (H : Hp) (C : Addr) (cl : List (PySem.Str × Addr)) (fp : List Addr), PG (X.blk s H scope (compEnvC scope cl C X.env) fp) tg g) (ht : ∀ (s : Shared) (H : Hp) (C : Addr) (cl : List (PySem.Str × Addr)) (fp : List Addr), PTs (X.blk s H scope (compEnvC scope cl C X.env) fp) ifs tt)
    (hi1 : ∀ (s : Shared) (H : Hp) (C : Addr) (cl : List (PySem.Str × Addr)) (fp : List Addr), PI (X.blk s H scope (compEnvC scope cl C X.env) fp) tg1 iter1 wi1)
    (hg1 : ∀ (s : Shared) (H : Hp) (C : Addr) (cl : List (PySem.Str × Addr)) (fp : List Addr), PG (X.blk s H scope (compEnvC scope cl C X.env) fp) tg1 g1) (ht1 : ∀ (s : Shared) (H : Hp) (C : Addr) (cl : List (PySem.Str × Addr)) (fp : List Addr), PTs (X.blk s H scope (compEnvC scope cl C X.env) fp) ifs1 tt1)
    (he : ∀ (s : Shared) (H : Hp) (C : Addr) (cl : List (PySem.Str × Addr)) (fp : List Addr), PE (X.blk s H scope (compEnvC scope cl C X.env) fp) elt te) (hs : ∀ x, foldedSetIterable iter X.env x = pure x := by intro _; rfl) (hs1 : ∀ env x, foldedSetIterable iter1 env x = pure x := by intro _ _; rfl) :
    PE X (.SetComp elt [⟨tg, iter, ifs, 0⟩, ⟨tg1, iter1, ifs1, 0⟩] scope pos) (tSc2 X.w wi g tt wi1 g1 tt1 te (own.map (·.2)) vs1) := by
  refine ⟨fun pins s σ H Q I h => ?_⟩
  rw [eval_SetComp]
  refine sc2_core hc hN I hi ok hv hg ht he hs hi1 hg1 ht1 hs1 h fun D C s' m H' I' q hn f => ⟨m, hn, fun h'' sb => ?_⟩
  obtain ⟨f0, f1, f2, f3, f4, f5⟩ := f
  exact ⟨.ref D, H', I'.turned (t' := s'.toks) (fun b o hb e => (sb.2 b hb).trans e) f0 f1 f3 f4 f5, rfl, q⟩

end
end VT
/-! enumerate(a tuple). -/
namespace VE
open PySem PySem.Spec PyProof.Rows
open Sem (wp)
open AutoSeq1 (wpAny_loadPart')
theorem new_enumT (l : Addr) (items : Array Value) (n : Nat) (dct : Option Addr) (sl : Array (Option Value)) :
    Meets (Builtin.«enumerate.__new__» ⟨[.type "enumerate", .ref l], []⟩) (fun _ R s => s.heap.get? l = some { cls := .type "tuple", dict := dct, data := .seq items n, slots := sl } ∧
      R (.ok (.ret (.ref (s.heap.push { cls := .type "tuple_iterator", data := .fields #[.ref l, .int 0 0] }).objs.size)))
        { s with heap := (s.heap.push { cls := .type "tuple_iterator", data := .fields #[.ref l, .int 0 0] }).push { cls := .type "enumerate", data := .fields #[.none, .bool false, .ref s.heap.objs.size, rawInt 0, .none, .none] } }) :=
  .of_wp fun prog w A R s h => by
    obtain ⟨hp, g, d, tk, os⟩ := s
    obtain ⟨hl, h⟩ := h
    have hsub := sub_enumerate
    have hT : Heap.IsTuple (Shared.heap ⟨hp, g, d, tk, os⟩) l items := ⟨_, hl, rfl, n, rfl⟩
    wp_walk using wpAny_loadPart' hl
    refine wpAny_stack_any fun st => wpAny_pure ?_
    split
    · rename_i c _ _ _ _ _
      cases (c == Value.type "enumerate")
      · wp_walk using wpAny_loadPart' hl, wpAny_pyIter_tuple hT
        exact ⟨_, rfl, h⟩
      · wp_walk using wpAny_loadPart' hl, wpAny_pyIter_tuple hT
        exact ⟨_, rfl, h⟩
    · wp_walk using wpAny_loadPart' hl, wpAny_pyIter_tuple hT
      exact ⟨_, rfl, h⟩
section
variable {prog : Program} {w : World} {A : Around} {E : Value → Shared → Prop} {s : Shared}
theorem call_enumT {l : Addr} {items : Array Value} {Q : Value → Shared → Prop} (hT : s.heap.IsTuple l items)
    (h : ∀ h', IsEnum h' (s.heap.objs.size + 1) s.heap.objs.size 0 .none → h'.IsTupleIter s.heap.objs.size l 0 → h'.objs.size = s.heap.objs.size + 2 →
      (∀ b o, s.heap.get? b = some o → h'.get? b = some o) → Q (.ref (s.heap.objs.size + 1)) { s with heap := h' }) :
    wpAny (model prog w) A (call (.type "enumerate") [.ref l]) Q E s := by
  obtain ⟨⟨c, dct, dt, sl⟩, hl, hc, n, hd⟩ := hT
  replace hc : c = .type "tuple" := hc
  replace hd : dt = .seq items n := hd
  subst hc hd
  refine callType_new F.called_enumerate (by decide) (F.typeCall_enumerate_1 _) (F.newCall_enumerate_1 _) (fun obj => F.args_object_init_2 obj _) F.entry_enumerate_new
    (new_enumT l items n dct sl) ⟨hl, ?_⟩
  have hz : (s.heap.push { cls := .type "tuple_iterator", data := .fields #[.ref l, .int 0 0] }).objs.size = s.heap.objs.size + 1 := Heap.size_push ..
  show _ ∧ _
  rw [hz]
  have he : IsEnum ((s.heap.push { cls := .type "tuple_iterator", data := .fields #[.ref l, .int 0 0] }).push
      { cls := .type "enumerate", data := .fields #[.none, .bool false, .ref s.heap.objs.size, rawInt 0, .none, .none] }) (s.heap.objs.size + 1) s.heap.objs.size 0 .none := by
    have := Heap.get?_push_size (s.heap.push { cls := .type "tuple_iterator", data := .fields #[.ref l, .int 0 0] })
      (o := { cls := .type "enumerate", data := .fields #[.none, .bool false, .ref s.heap.objs.size, rawInt 0, .none, .none] }) rfl
    rw [hz] at this
    exact this
  exact ⟨⟨_, he, rfl⟩, h _ he ⟨_, Heap.get?_push_of_some _ (Heap.get?_push_size _ rfl), rfl, rfl⟩ (by rw [Heap.size_push, hz]) fun b o x => Heap.get?_push_of_some _ (Heap.get?_push_of_some _ x)⟩
end
open L2
/-- the tuple at a, each item in a new pair with its number -/
def Itet (K : PySem.W.Frag) (a : Addr) : It :=
  ⟨fun i H => ∃ (xs : List V) (x : V), SqT K H a xs ∧ xs[i]? = some x, fun i H v H' => ∃ T x, v = .ref T ∧ H T = none ∧ H' = upd H T (.tup [.int (i : Nat), x]) ∧ ∀ xs, SqT K H a xs → xs[i]? = some x, fun i H => ∃ xs : List V, SqT K H a xs ∧ xs.length ≤ i⟩
theorem turn_enumT {P : Program} {w : World} {K : PySem.W.Frag} {elts : List Expr} {kk : Nat} {tpos : Pos} (a e it : Addr) :
    Turn P w K (.Tuple elts kk tpos) (Itet K a) [e, it] e (fun i h => (∃ old, IsEnum h e it ((i : Nat) : Int) old) ∧ h.IsTupleIter it a i ∧ e ≠ it) where
  mem := by simp
  obj := fun i h st b hb => by
    obtain ⟨⟨old, he⟩, ⟨o, ho, hc, hd⟩, _⟩ := st
    have e' : b = e ∨ b = it := by simpa using hb
    rcases e' with z | z
    · exact z ▸ ⟨_, he, fun v q => nomatch q⟩
    · exact z ▸ ⟨o, ho, fun v q => by rw [hd] at q; cases q⟩
  keep := fun i h h' ⟨⟨old, he⟩, hi, hne⟩ k => ⟨⟨old, k e (by simp) _ he⟩, hi.at fun o q => k it (by simp) o q, hne⟩
  item := by
    intro X hP hw hK hc i pins s σ H E I hf ⟨⟨old, he⟩, hit, hne⟩ ⟨xs, x, hq, hx⟩
    subst hP hw hK
    obtain ⟨its, rv, p, hz⟩ := I.tuple hq
    obtain ⟨u, hu, ru⟩ := rv.get hx
    have hel : e < s.heap.objs.size := Heap.lt_size he
    have hil : it < s.heap.objs.size := let ⟨_, q, _⟩ := hit; Heap.lt_size q
    have p' : s.heap.IsTuple a its.toArray := p
    have nai : a ≠ it := fun z => by
      obtain ⟨o, ho, hc1, _⟩ := hit
      obtain ⟨o2, ho2, hc2, _⟩ := p'
      rw [z, ho] at ho2
      cases ho2
      rw [hc1] at hc2
      exact absurd (Value.type.inj hc2) (by decide)
    have nea : e ≠ a := fun z => by
      obtain ⟨o2, ho2, hc2, _⟩ := p'
      rw [← z, (show s.heap.get? e = some _ from he)] at ho2
      cases ho2
      exact absurd (Value.type.inj hc2) (by decide)
    have ui : i < its.toArray.size := by
      have z := (List.getElem?_eq_some_iff.mp hu).1
      simpa using z
    refine wpAny_pyNext_enum_itemD (Draws.tuple (show X.A.in1.handled = none from I.ok.hd hc) it a nai its.toArray) he ⟨hit, p'⟩ ui hne (by simp [hne, nea]) fun y h' tk hy ho hst hT hsz hk => ?_
    have ey : y = u := by
      have z : its.toArray[i]? = some y := hy
      rw [List.getElem?_toArray, hu] at z
      exact (Option.some.inj z).symm
    subst ey
    refine ⟨_, rfl, wpAny_letOwnedTupleGo_enum (s := { s with heap := h', toks := tk + 1 }) ho fun h2 he' sb => ?_⟩
    have hT2 : h2.get? s.heap.objs.size = some { cls := .type "tuple", data := .seq #[.int i tk, y] } := (sb.2 _ (Nat.ne_of_gt hel)).trans hT
    have new : ObjOk X.prog X.w (upd H s.heap.objs.size (.tup [.int (i : Nat), x])) h2 s.heap.objs.size (.tup [.int (i : Nat), x]) :=
      ⟨by show 2 ≤ sizeLine; decide, [.int i tk, y], .cons ⟨_, rfl⟩ (.cons ru .nil), ⟨_, hT2, rfl, _, rfl⟩⟩
    have I1 : Inv X pins σ (upd H s.heap.objs.size (.tup [.int (i : Nat), x])) { s with heap := h2, toks := tk + 1 } :=
      I.turnedNew (ch := [e, it]) (fun b ob hb q => (sb.2 b (fun z => hb (by simp [z]))).trans (hk b ob (fun z => hb (by simp [z])) (fun z => hb (by simp [z])) q)) hf (Nat.le_refl _) new
    refine ⟨.ref s.heap.objs.size, _, I1, rfl, ⟨_, x, rfl, I.hok.fresh (Nat.le_refl _), rfl, fun ys hy => by rw [I.tuple_inj hy hq]; exact hx⟩, ⟨⟨y, ?_⟩, hst.1.at fun o q => (sb.2 it (Ne.symm hne)).trans q, hne⟩, fun b hb => ?_⟩
    · have e1 : ((i + 1 : Nat) : Int) = (i : Int) + 1 := by omega
      exact e1 ▸ he'
    · have hb' : b < s.heap.objs.size := by
        have e' : b = e ∨ b = it := by simpa using hb
        rcases e' with z | z
        · exact z ▸ hel
        · exact z ▸ hil
      rw [upd_ne (Nat.ne_of_lt hb')]
      exact (hf b hb).1
  done := by
    intro X hP hw hK hc i pins s σ H E I hf ⟨⟨old, he⟩, hit, hne⟩ ⟨xs, hq, hx⟩
    subst hP hw hK
    obtain ⟨its, rv, p, hz⟩ := I.tuple hq
    obtain ⟨f0, f1, f2, f3, f4, f5⟩ := hf it (by simp)
    have hl := rv.length
    have p' : s.heap.IsTuple a its.toArray := p
    have nai : a ≠ it := fun z => by
      obtain ⟨o, ho, hc1, _⟩ := hit
      obtain ⟨o2, ho2, hc2, _⟩ := p'
      rw [z, ho] at ho2
      cases ho2
      rw [hc1] at hc2
      exact absurd (Value.type.inj hc2) (by decide)
    have hT : s.TypeIs (.ref e) "enumerate" := ⟨_, he, rfl⟩
    unfold pyNext
    refine wpAny_bind (wpAny_attempt (wpAny_callSpecial?_slot (name := Str.ofString "__next__") hT F.slot_enumerate_next
      (wpAny_call_entry F.slot_enumerate_next hT F.entry_enumerate_next ?_ (F.args_enumerate_next_1 _))))
    show wpAny _ _ (field (.ref e) 2 >>= _) _ _ _
    refine wpAny_bind (wpAny_field he rfl (x := .ref it) rfl (wpAny_bind (wpAny_nextOf_tuple_end (show X.A.in1.handled = none from I.ok.hd hc) hit p' (by simp; omega) fun h' x eb hs => ?_)))
    obtain ⟨o, ho, hc3⟩ := hs
    refine wpAny_bind (wpAny_isInstance (T := "StopIteration") (b := true) ⟨o, ho, hc3⟩ isSubtype_stop (wpAny_pure ?_))
    exact ⟨rfl, I.turned (t' := s.toks) (fun b o hb q => eb b o hb q) f0 f1 f3 f4 f5⟩
  self := fun A i s Q E ⟨⟨_, he⟩, _⟩ h => wpAny_pyIter_enum he h
/-- enumerate of a list or of a tuple, held by the slot j -/
def iEnumS (K : PySem.W.Frag) (j : Nat) : TI := fun σ H R => ∃ a xs, σ[j]? = some (some (.ref a)) ∧ ((SqL K H a xs ∧ R (Ite K a) H) ∨ (SqT K H a xs ∧ R (Itet K a) H))
theorem pi_enumT {X : Cx} {e : Expr} {ta : TA} {p pos tpos : Pos} {elts : List Expr} {kk : Nat} (hg : Gl X "enumerate") (hm : X.mg "enumerate" = none) (ha : PA X [e] ta) (hs : starEach [e] X.env = [(false, eval e X.env)] := by rfl) :
    PI X (.Tuple elts kk tpos) (.Call (.Name "enumerate" p) [e] [] pos) (fun σ H R => ta σ H fun vs H1 => ∃ a xs, vs = [.ref a] ∧ SqT X.K H1 a xs ∧ R (Itet X.K a) H1) := by
  refine ⟨fun pins s σ H R I h => ?_⟩
  refine Call_ (ld_blt I hg hm boot_enumerate (PyProof.Rows.callWith_type1 (thn (ha.run pos pins s σ H _ I h) fun us s1 ⟨vs, H1, I1, r1, q1⟩ => ?_) hs rfl))
  obtain ⟨a, xs, ex, hq, q⟩ := q1
  subst ex
  cases r1 with
  | cons r rr =>
    cases rr
    cases r
    obtain ⟨its, rv, p', hz⟩ := I1.tuple hq
    refine call_enumT (show s1.heap.IsTuple a its.toArray from p') fun h' he hit hsz hk => wpAny_pyIter_enum he ?_
    have I2 : Inv X pins σ H1 { s1 with heap := h' } := I1.kept (t' := s1.toks) hk
    refine ⟨s1.heap.objs.size + 1, [s1.heap.objs.size + 1, s1.heap.objs.size], _, _, H1, rfl, I2, turn_enumT a (s1.heap.objs.size + 1) s1.heap.objs.size, ⟨⟨.none, he⟩, hit, Nat.succ_ne_self _⟩, fun b hb => ?_, q⟩
    have e' : b = s1.heap.objs.size + 1 ∨ b = s1.heap.objs.size := by simpa using hb
    have hle : s1.heap.objs.size ≤ b := by
      rcases e' with z | z
      · exact Nat.le_of_lt (Nat.lt_of_lt_of_eq (Nat.lt_succ_self _) z.symm)
      · exact Nat.le_of_eq z.symm
    exact I1.fpOk hle (I1.hok.fresh hle)
theorem pi_enumS {X : Cx} {j : Nat} {x : Str} {p p2 pos tpos : Pos} {elts : List Expr} {kk : Nat} (hg : Gl X "enumerate") (hm : X.mg "enumerate" = none) (hN : X.N[j]? = some x) (hv : Vis X.env.scope x) (hd : (x == ("__debug__" : Str)) = false := by decide) (hcd : (x == ("__classdict__" : Str)) = false := by decide) :
    PI X (.Tuple elts kk tpos) (.Call (.Name "enumerate" p) [.Name x p2] [] pos) (iEnumS X.K j) := by
  refine ⟨fun pins s σ H R I h => ?_⟩
  obtain ⟨a, xs, hs, h | h⟩ := h
  · exact (pi_enum hg hm (pa_cons (pe_var hN hv hd hcd) pa_nil)).run pins s σ H R I ⟨_, hs, a, xs, rfl, h.1, h.2⟩
  · exact (pi_enumT hg hm (pa_cons (pe_var hN hv hd hcd) pa_nil)).run pins s σ H R I ⟨_, hs, a, xs, rfl, h.1, h.2⟩
theorem walk_enumT {K : PySem.W.Frag} {a : Addr} {xs : List V} : Walk (Itet K a) xs.length (fun H => SqT K H a xs) (YPair (fun i => some (.int (i : Nat))) (fun i => xs[i]?)) :=
  ⟨fun i _ hi q => ⟨xs, xs[i], q, by simp [hi]⟩, fun _ q => ⟨xs, q, Nat.le_refl _⟩, fun i _ _ _ _ q ⟨T, x, e1, e2, e3, f⟩ => ⟨T, .int (i : Nat), x, e1, e2, e3, rfl, f xs q⟩⟩
/-- over a list or a tuple, held by the slot j -/
def iSeqS (K : PySem.W.Frag) (j : Nat) : TI := fun σ H R => ∃ a xs, σ[j]? = some (some (.ref a)) ∧ ((SqL K H a xs ∧ R (Itl K a) H) ∨ (SqT K H a xs ∧ R (Itt K a) H))
theorem pi_seqS {X : Cx} {j : Nat} {x : Str} {p : Pos} {tg : Expr} (hN : X.N[j]? = some x) (hv : Vis X.env.scope x) (hd : (x == ("__debug__" : Str)) = false := by decide) (hcd : (x == ("__classdict__" : Str)) = false := by decide) : PI X tg (.Name x p) (iSeqS X.K j) := by
  refine ⟨fun pins s σ H R I h => ?_⟩
  obtain ⟨a, xs, hs, h | h⟩ := h
  · exact (pi_list (pe_var hN hv hd hcd)).run pins s σ H R I ⟨_, hs, a, rfl, ⟨xs, h.1⟩, h.2⟩
  · exact (pi_tup (pe_var hN hv hd hcd)).run pins s σ H R I ⟨_, hs, a, rfl, ⟨xs, h.1⟩, h.2⟩
end VE
namespace VE
open PySem PySem.Spec PyProof.Rows L2
section
variable {K : PySem.W.Frag} {a : Addr} {xs : List V} {j : Nat} {σ : L2.St} {H H0 : Hp} {g : TG} {tb : TS} {D : Ends}
theorem kL {H H' : Hp} (k : Same H H') (h : SqL K H a xs) : SqL K H' a xs := k.seq h
theorem kT {H H' : Hp} (k : Same H H') (h : SqT K H a xs) : SqT K H' a xs := h.imp (fun r => r.imp (fun e => k _ _ e) fun ⟨o, e⟩ => ⟨o, k _ _ e⟩) id
/-- for i, x in enumerate(what the slot j holds): nothing that stood is changed in it -/
theorem for_enumS (hs : σ[j]? = some (some (.ref a))) (hS : SqL K H0 a xs ∨ SqT K H0 a xs) (Pv : Nat → L2.St → Hp → Prop) (h0 : Pv 0 σ H) (hG : ∀ i σ' H', Pv i σ' H' → Same H0 H')
    (step : ∀ i x σ' H1 H', i < xs.length → Pv i σ' H1 → YPair (fun i => some (.int (i : Nat))) (fun i => xs[i]?) i H1 x H' → g x σ' H' fun σ2 H2 => tb { D with nx := Pv (i + 1), ct := Pv (i + 1), bk := D.nx } σ2 H2)
    (hd : ∀ σ' H', Pv xs.length σ' H' → D.nx σ' H') : tFor (iEnumS K j) g tb D σ H := by
  refine ⟨a, xs, hs, ?_⟩
  rcases hS with h | h
  · exact .inl ⟨kL (hG 0 _ _ h0) h, for_it walk_enum Pv h0 (fun i σ' H' _ p => kL (hG i σ' H' p) h) step hd⟩
  · exact .inr ⟨kT (hG 0 _ _ h0) h, for_it walk_enumT Pv h0 (fun i σ' H' _ p => kT (hG i σ' H' p) h) step hd⟩
/-- for x in what the slot j holds -/
theorem for_seqS (hs : σ[j]? = some (some (.ref a))) (hS : SqL K H0 a xs ∨ SqT K H0 a xs) (Pv : Nat → L2.St → Hp → Prop) (h0 : Pv 0 σ H) (hG : ∀ i σ' H', Pv i σ' H' → Same H0 H')
    (step : ∀ i x σ' H', xs[i]? = some x → Pv i σ' H' → g x σ' H' fun σ2 H2 => tb { D with nx := Pv (i + 1), ct := Pv (i + 1), bk := D.nx } σ2 H2)
    (hd : ∀ σ' H', Pv xs.length σ' H' → D.nx σ' H') : tFor (iSeqS K j) g tb D σ H := by
  refine ⟨a, xs, hs, ?_⟩
  rcases hS with h | h
  · exact .inl ⟨kL (hG 0 _ _ h0) h, for_it walk_list Pv h0 (fun i σ' H' _ p => kL (hG i σ' H' p) h) (fun i x σ' H1 H' _ p y => by rw [y.1]; exact step i x σ' H1 y.2 p) hd⟩
  · exact .inr ⟨kT (hG 0 _ _ h0) h, for_it walk_tup Pv h0 (fun i σ' H' _ p => kT (hG i σ' H' p) h) (fun i x σ' H1 H' _ p y => by rw [y.1]; exact step i x σ' H1 y.2 p) hd⟩
/-- [.. for x in what the slot j holds ..] -/
theorem lc_seqS {tt : TT} {te : TE} {vs : List Nat} {Q : VK} (hs : σ[j]? = some (some (.ref a))) (hH : Same H0 H) (hS : SqL K H0 a xs ∨ SqT K H0 a xs) (Pv : Addr → Nat → Hp → Prop)
    (h0 : ∀ D, H D = none → Pv D 0 (upd H D (.lst []))) (hG : ∀ D i H', H D = none → Pv D i H' → Same H0 H')
    (step : ∀ D i x H', H D = none → xs[i]? = some x → Pv D i H' → g x (wipe σ vs) H' fun σ2 H2 => wipe σ2 vs = wipe σ vs ∧ tt σ2 H2 fun b H3 =>
      if b = true then te σ2 H3 fun y H4 => ∃ acc, H4 D = some (.lst acc) ∧ acc.length < sizeLine ∧ Pv D (i + 1) (upd H4 D (.lst (acc ++ [y]))) else Pv D (i + 1) H3)
    (hd : ∀ D H', H D = none → Pv D xs.length H' → Q (.ref D) H') : tLc (iSeqS K j) g tt te vs σ H Q := by
  refine ⟨a, xs, hs, ?_⟩
  rcases hS with h | h
  · exact .inl ⟨kL hH h, fun D hD => lc_it walk_list (Pv D) (h0 D hD) (fun i H' _ p => kL (hG D i H' hD p) h) (fun i x H1 H' _ p y => by rw [y.1]; exact step D i x H1 hD y.2 p) (fun H' p => hd D H' hD p)⟩
  · exact .inr ⟨kT hH h, fun D hD => lc_it walk_tup (Pv D) (h0 D hD) (fun i H' _ p => kT (hG D i H' hD p) h) (fun i x H1 H' _ p y => by rw [y.1]; exact step D i x H1 hD y.2 p) (fun H' p => hd D H' hD p)⟩
open VT
/-- a set comprehension of texts over a walk -/
theorem sc_it {J : It} {n : Nat} {G : Hp → Prop} {Y : Nat → Hp → V → Hp → Prop} (w : Walk J n G Y) {ww : World} {tt : TT} {te : TE} {vs : List Nat} {H1 : Hp} {E : Addr} {Qd : Hp → Prop} (Pv : Nat → Hp → Prop) (h0 : Pv 0 (upd H1 E (SetTO ww E (fun _ => false) 0))) (hG : ∀ i H, i ≤ n → Pv i H → G H)
    (hs : ∀ i x H H', i < n → Pv i H → Y i H x H' → g x (wipe σ vs) H' fun σ2 H2 => wipe σ2 vs = wipe σ vs ∧ tt σ2 H2 fun b H3 => if b = true then te σ2 H3 fun y H4 => AddT ww E y H4 (Pv (i + 1)) else Pv (i + 1) H3) (hd : ∀ H, Pv n H → Qd H) :
    ∃ W : Nat → Nat → Hp → Prop, (∃ m, W 0 m (upd H1 E (SetTO ww E (fun _ => false) 0))) ∧ ∀ i m H, W i m H →
      (J.stop i H ∧ Qd H) ∨ (J.go i H ∧ ∃ Nx : Hp → Prop, (∀ H', Nx H' → ∃ m', m' < m ∧ W (i + 1) m' H') ∧ ∀ x H', J.yld i H x H' → g x (wipe σ vs) H' fun σ2 H2 => wipe σ2 vs = wipe σ vs ∧ tt σ2 H2 fun b H3 => if b = true then te σ2 H3 fun y H4 => AddT ww E y H4 Nx else Nx H3) := by
  refine ⟨fun i m H => m = n - i ∧ i ≤ n ∧ Pv i H, ⟨n, by simp, Nat.zero_le _, h0⟩, fun i m H ⟨hm, hi, p⟩ => ?_⟩
  subst hm
  have q := hG i H hi p
  by_cases hlt : i < n
  · exact .inr ⟨w.goes i H hlt q, Pv (i + 1), fun H' p' => ⟨n - (i + 1), by omega, rfl, hlt, p'⟩, fun x H' y => hs i x H H' hlt p (w.yields i H x H' hlt q y)⟩
  · have e : i = n := by omega
    exact .inl ⟨e ▸ w.stops H q, hd H (e ▸ p)⟩
theorem sc_seqS {ww : World} {tt : TT} {te : TE} {vs : List Nat} {Q : VK} (hs : σ[j]? = some (some (.ref a))) (hH : Same H0 H) (hS : SqL K H0 a xs ∨ SqT K H0 a xs) (Pv : Addr → Nat → Hp → Prop)
    (h0 : ∀ D, H D = none → Pv D 0 (upd H D (SetTO ww D (fun _ => false) 0))) (hG : ∀ D i H', H D = none → Pv D i H' → Same H0 H')
    (step : ∀ D i x H', H D = none → xs[i]? = some x → Pv D i H' → g x (wipe σ vs) H' fun σ2 H2 => wipe σ2 vs = wipe σ vs ∧ tt σ2 H2 fun b H3 => if b = true then te σ2 H3 fun y H4 => AddT ww D y H4 (Pv D (i + 1)) else Pv D (i + 1) H3)
    (hd : ∀ D H', H D = none → Pv D xs.length H' → Q (.ref D) H') : tScT ww (iSeqS K j) g tt te vs σ H Q := by
  refine ⟨a, xs, hs, ?_⟩
  rcases hS with h | h
  · exact .inl ⟨kL hH h, fun D hD => sc_it walk_list (Pv D) (h0 D hD) (fun i H' _ p => kL (hG D i H' hD p) h) (fun i x H1 H' _ p y => by rw [y.1]; exact step D i x H1 hD y.2 p) (fun H' p => hd D H' hD p)⟩
  · exact .inr ⟨kT hH h, fun D hD => sc_it walk_tup (Pv D) (h0 D hD) (fun i H' _ p => kT (hG D i H' hD p) h) (fun i x H1 H' _ p y => by rw [y.1]; exact step D i x H1 hD y.2 p) (fun H' p => hd D H' hD p)⟩
end
end VE
/-! Walks of two clauses of a set comprehension. -/
namespace VE
open PySem PySem.Spec PyProof.Rows L2 VT
section
variable {K : PySem.W.Frag} {a : Addr} {xs : List V} {j : Nat} {σ σ2 : L2.St} {H H0 H4 : Hp} {g g1 : TG} {tt tt1 : TT} {te : TE} {vs vs1 : List Nat} {ww : World} {D : Addr} {Nx : Hp → Prop}
/-- the second clause's loop, from which Nx is reached -/
def InSc (ww : World) (J1 : It) (g1 : TG) (tt1 : TT) (te : TE) (vs1 : List Nat) (D : Addr) (σ2 : L2.St) (H4 : Hp) (Nx : Hp → Prop) : Prop := ∃ W1 : Nat → Nat → Hp → Prop, (∃ m, W1 0 m H4) ∧ ∀ j k H, W1 j k H →
      (J1.stop j H ∧ Nx H) ∨ (J1.go j H ∧ ∃ Nx1 : Hp → Prop, (∀ H', Nx1 H' → ∃ k', k' < k ∧ W1 (j + 1) k' H') ∧ ∀ x H', J1.yld j H x H' → g1 x (wipe σ2 vs1) H' fun σ3 H5 => wipe σ3 vs1 = wipe σ2 vs1 ∧ tt1 σ3 H5 fun b H6 =>
        if b = true then te σ3 H6 fun y H7 => AddT ww D y H7 Nx1 else Nx1 H6)
theorem in_it {J : It} {n : Nat} {G : Hp → Prop} {Y : Nat → Hp → V → Hp → Prop} (w : Walk J n G Y) (Pv : Nat → Hp → Prop) (h0 : Pv 0 H4) (hG : ∀ i H, i ≤ n → Pv i H → G H)
    (hs : ∀ i x H H', i < n → Pv i H → Y i H x H' → g1 x (wipe σ2 vs1) H' fun σ3 H5 => wipe σ3 vs1 = wipe σ2 vs1 ∧ tt1 σ3 H5 fun b H6 => if b = true then te σ3 H6 fun y H7 => AddT ww D y H7 (Pv (i + 1)) else Pv (i + 1) H6) (hd : ∀ H, Pv n H → Nx H) :
    InSc ww J g1 tt1 te vs1 D σ2 H4 Nx := by
  refine ⟨fun i m H => m = n - i ∧ i ≤ n ∧ Pv i H, ⟨n, by simp, Nat.zero_le _, h0⟩, fun i m H ⟨em, hi, pv⟩ => ?_⟩
  subst em
  have good := hG i H hi pv
  by_cases lt : i < n
  · exact .inr ⟨w.goes i H lt good, Pv (i + 1), fun H' p' => ⟨n - (i + 1), by omega, rfl, lt, p'⟩, fun x H' y => hs i x H H' lt pv (w.yields i H x H' lt good y)⟩
  · have e : i = n := by omega
    exact .inl ⟨e ▸ w.stops H good, hd H (e ▸ pv)⟩
/-- the first clause over a walk -/
theorem sc2_it {J : It} {n : Nat} {G : Hp → Prop} {Y : Nat → Hp → V → Hp → Prop} (w : Walk J n G Y) {wi1 : TI} {H1 : Hp} {E : Addr} {Qd : Hp → Prop} (Pv : Nat → Hp → Prop) (h0 : Pv 0 (upd H1 E (SetTO ww E (fun _ => false) 0))) (hG : ∀ i H, i ≤ n → Pv i H → G H)
    (hs : ∀ i x H H', i < n → Pv i H → Y i H x H' → g x (wipe σ vs) H' fun σ2 H2 => wipe σ2 vs = wipe σ vs ∧ tt σ2 H2 fun b H3 => if b = true then wi1 σ2 H3 fun J1 H4 => InSc ww J1 g1 tt1 te vs1 E σ2 H4 (Pv (i + 1)) else Pv (i + 1) H3) (hd : ∀ H, Pv n H → Qd H) :
    ∃ W : Nat → Nat → Hp → Prop, (∃ m, W 0 m (upd H1 E (SetTO ww E (fun _ => false) 0))) ∧ ∀ i m H, W i m H →
      (J.stop i H ∧ Qd H) ∨ (J.go i H ∧ ∃ Nx : Hp → Prop, (∀ H', Nx H' → ∃ m', m' < m ∧ W (i + 1) m' H') ∧ ∀ x H', J.yld i H x H' → g x (wipe σ vs) H' fun σ2 H2 => wipe σ2 vs = wipe σ vs ∧ tt σ2 H2 fun b H3 => if b = true then wi1 σ2 H3 fun J1 H4 => InSc ww J1 g1 tt1 te vs1 E σ2 H4 Nx else Nx H3) := by
  refine ⟨fun i m H => m = n - i ∧ i ≤ n ∧ Pv i H, ⟨n, by simp, Nat.zero_le _, h0⟩, fun i m H ⟨em, hi, pv⟩ => ?_⟩
  subst em
  have good := hG i H hi pv
  by_cases lt : i < n
  · exact .inr ⟨w.goes i H lt good, Pv (i + 1), fun H' p' => ⟨n - (i + 1), by omega, rfl, lt, p'⟩, fun x H' y => hs i x H H' lt pv (w.yields i H x H' lt good y)⟩
  · have e : i = n := by omega
    exact .inl ⟨e ▸ w.stops H good, hd H (e ▸ pv)⟩
theorem sc2_seqS {wi1 : TI} {Q : VK} (hs : σ[j]? = some (some (.ref a))) (hH : Same H0 H) (hS : SqL K H0 a xs ∨ SqT K H0 a xs) (Pv : Addr → Nat → Hp → Prop)
    (h0 : ∀ D, H D = none → Pv D 0 (upd H D (SetTO ww D (fun _ => false) 0))) (hG : ∀ D i H', H D = none → Pv D i H' → Same H0 H')
    (step : ∀ D i x H', H D = none → xs[i]? = some x → Pv D i H' → g x (wipe σ vs) H' fun σ2 H2 => wipe σ2 vs = wipe σ vs ∧ tt σ2 H2 fun b H3 => if b = true then wi1 σ2 H3 fun J1 H4 => InSc ww J1 g1 tt1 te vs1 D σ2 H4 (Pv D (i + 1)) else Pv D (i + 1) H3)
    (hd : ∀ D H', H D = none → Pv D xs.length H' → Q (.ref D) H') : tSc2 ww (iSeqS K j) g tt wi1 g1 tt1 te vs vs1 σ H Q := by
  refine ⟨a, xs, hs, ?_⟩
  rcases hS with h | h
  · exact .inl ⟨kL hH h, fun D hD => sc2_it walk_list (Pv D) (h0 D hD) (fun i H' _ p => kL (hG D i H' hD p) h) (fun i x H1 H' _ p y => by rw [y.1]; exact step D i x H1 hD y.2 p) (fun H' p => hd D H' hD p)⟩
  · exact .inr ⟨kT hH h, fun D hD => sc2_it walk_tup (Pv D) (h0 D hD) (fun i H' _ p => kT (hG D i H' hD p) h) (fun i x H1 H' _ p y => by rw [y.1]; exact step D i x H1 hD y.2 p) (fun H' p => hd D H' hD p)⟩
end
end VE
/-! == and != of an instance with an own __eq__ and any value, both answers. -/
namespace VQ
open PySem PySem.Spec PyProof.Rows L2
section
variable {X : Cx} {CX : CXT} {k : Nat} {C f : Addr} {fd : FuncData} {ps : List Str} {sp : Sp} {E : XK}
/-- a def called around A -/
theorem run_at {A : Around} {pins : List (Addr × Obj)} {σ : L2.St} {H : Hp} {s : Shared} {Q : VK} {us : List Value} {vs : List V} (F : FnOk X.prog X.w X.K X.mg X.base CX k f fd ps sp) (sb : Sub X k A) (hb : Binds X.K fd ps []) (hx : Passes CX X E)
    (I : Inv X pins σ H s) (r : Vals vs us) (h : sp vs H Q E) : wpAny (model X.prog X.w) A (call (.ref f) us) (EP X pins σ Q) X.xe s := by
  have e0 : Env0 X.prog X.w X.K X.mg X.base A X.stack s H := by
    have e := I.env0
    exact ⟨by rw [sb.fr]; exact e.frames, e.mod, e.bs, e.bsz, e.funs, e.frf, e.hok, e.bare⟩
  have hl := F.len _ _ _ _ h
  have hu : us.length = ps.length := by rw [← r.length]; exact hl
  refine wpAny_call (codeAny_mono (F.run A X.stack s H ⟨us, []⟩ us vs Q E sb.room e0 (by
    have := hb s us I.kIn (by simpa using hu)
    simpa using this) r h) fun r s' hq => ?_)
  cases r with
  | error e => exact hx pins σ H s e s' I hq
  | ok fl =>
    cases fl with
    | ret w => exact I.after hq
    | next => exact False.elim hq
    | brk => exact False.elim hq
    | cont => exact False.elim hq
/-- x == y -/
def rEqO (K : PySem.W.Frag) (C : Addr) (sp : Sp) (E : XK) : R2 := fun x y H Q => ∃ (p dx : Addr) (fs : List (Str × V)) (t : Value), x = .ref p ∧ H p = some (.ins C dx fs) ∧ TyX K H y t ∧ PySem.W.notFirst K C t = true ∧
  sp [x, y] H (fun v H' => ∃ b, v = .bl b ∧ Q (.bl b) H') E
def rNeO (K : PySem.W.Frag) (C : Addr) (sp : Sp) (E : XK) : R2 := fun x y H Q => ∃ (p dx : Addr) (fs : List (Str × V)) (t : Value), x = .ref p ∧ H p = some (.ins C dx fs) ∧ TyX K H y t ∧ PySem.W.notFirst K C t = true ∧
  sp [x, y] H (fun v H' => ∃ b, v = .bl b ∧ Q (.bl (!b)) H') E
theorem op_eqO (F : FnOk X.prog X.w X.K X.mg X.base CX k f fd ps sp) (hs : PySem.W.findIn X.K (.ref C) "__eq__" = some (some (.ref f))) (hf : PySem.W.isFn X.K (.ref f) = true) (hb : Binds X.K fd ps []) (hx : Passes CX X E) (hr : Room k X.A) :
    OpR X (compareOp .Eq) (rEqO X.K C sp E) := by
  intro pins s σ H x y v u Q I rx ry h
  obtain ⟨p, dx, fs, t, rfl, hp, ty, hn, hq⟩ := h
  cases rx
  have rv2 : Vals [V.ref p, y] [Value.ref p, u] := .cons rfl (.cons ry .nil)
  obtain ⟨Pz, Z, pz, _⟩ := kit_of I ry ty
  obtain ⟨mA, J, _⟩ := ins_get I.hok hp
  obtain ⟨od, J, _⟩ := J.look
  obtain ⟨m, hF⟩ := I.fr
  show wpAny (model X.prog X.w) X.A (richCompare .Eq (.ref p) u) (EP X pins σ Q) X.xe s
  refine PySem.W.cmp_K (op := .Eq) (tb := t) hr.units0 hF I.ok.mod.kin J (Z.ty _ _ I.kIn pz) hn hs hf ?_
  refine wpAny_mono (run_at F ⟨hr, rfl⟩ hb hx I rv2 hq) (fun r s' z => ?_) fun _ _ z => z
  obtain ⟨v', H', I', rv, b, rfl, q⟩ := z
  cases rv
  exact ⟨.bl b, H', I', rfl, q⟩
theorem ne_bind (self : Value) : bindSpecial (.builtin "object.__ne__") self = pure (.builtin "object.__ne__", [self]) := PySem.F.cmp_object.ne.bind self
theorem op_neO (F : FnOk X.prog X.w X.K X.mg X.base CX k f fd ps sp) (hs : PySem.W.findIn X.K (.ref C) "__eq__" = some (some (.ref f))) (hf : PySem.W.isFn X.K (.ref f) = true) (hne : PySem.W.findIn X.K (.ref C) "__ne__" = some (some (.builtin "object.__ne__")))
    (ho : PySem.W.mroIn X.K C (.type "object") = some true) (hb : Binds X.K fd ps []) (hx : Passes CX X E) (hr : Room (k + 1) X.A) : OpR X (compareOp .NotEq) (rNeO X.K C sp E) := by
  intro pins s σ H x y v u Q I rx ry h
  obtain ⟨p, dx, fs, t, rfl, hp, ty, hn, hq⟩ := h
  cases rx
  have rv2 : Vals [V.ref p, y] [Value.ref p, u] := .cons rfl (.cons ry .nil)
  obtain ⟨Pz, Z, pz, _⟩ := kit_of I ry ty
  obtain ⟨mA, J, _⟩ := ins_get I.hok hp
  obtain ⟨od, J, _⟩ := J.look
  have sb : Sub X (k + 1) X.A := ⟨hr, rfl⟩
  have KX := I.kIn
  have eqb : wpAny (model X.prog X.w) X.A.in1 (callSpecialIfBound? (.ref p) "__eq__" [u]) (fun r s' => ∃ b : Bool, r = some (.bool b) ∧ EP X pins σ Q (.bool (!b)) s') X.xe s := by
    refine PySem.W.ifBound_K KX J hs hf (wpAny_mono (run_at F sb.in1 hb hx I rv2 hq) (fun r s' z => ?_) fun _ _ z => z)
    obtain ⟨v', H', I', rv, b, rfl, q⟩ := z
    cases rv
    exact ⟨b, rfl, .bl (!b), H', I', rfl, q⟩
  have body : wpAny (model X.prog X.w) X.A (call (.builtin "object.__ne__") [.ref p, u]) (fun r s' => ∃ b : Bool, r = .bool b ∧ EP X pins σ Q (.bool b) s') X.xe s := by
    have isO : PySem.W.Looks (model X.prog X.w) s.heap (isInstance (.ref p) (.type "object")) true := (J.type).andThen (PySem.W.looks_mroIn KX ho)
    refine wpAny_call (codeAny_call_builtin PySem.F.cmp_object.ne.plain PySem.F.cmpEntry_ne (PySem.W.check_slot PySem.F.cmpKind_ne PySem.F.cmpSplit_ne isO (PySem.F.cmpArgs_ne _ _) ?_))
    unfold Builtin.«object.__ne__»
    have hu2 : X.A.in1.units < cLine := hr.in1.units0
    repeat (first
      | with_reducible refine wpAny_cRoomFor hu2 ?_
      | (refine wpAny_bind (m := callSpecialIfBound? (.ref p) (Str.ofString "__eq__") [u])
          (wpAny_mono eqb (fun r s' hr => by
            obtain ⟨b, rfl, hq⟩ := hr
            repeat (first | exact ⟨_, rfl, hq⟩ | exact wpAny_pure ⟨_, rfl, hq⟩ | exact wpAny_truthy_bool ⟨_, rfl, hq⟩ | (refine wpAny_bind (m := truthy (.bool _)) (wpAny_truthy_bool ?_)) | wp_step)) fun _ _ e => e))
      | wp_step)
  have one : wpAny (model X.prog X.w) X.A (tryCompare (.ref p) "__ne__" u) (fun r s' => ∃ v, r = some v ∧ EP X pins σ Q v s') X.xe s := by
    unfold tryCompare
    refine wpAny_bind (m := callSpecialIfBound? (.ref p) "__ne__" [u]) (wpAny_mono (Q := fun r s' => ∃ b : Bool, r = some (.bool b) ∧ EP X pins σ Q (.bool b) s') ?_ (fun r s' z => ?_) fun _ _ z => z)
    · simp only [callSpecialIfBound?, bindSpecialIfBound?]
      refine wpAny_holding (wpAny_bind (wpAny_bind (wpAny_bind (J.type.here ((PySem.W.looks_findIn KX hne).here ?_)))))
      refine wpAny_bind (wpAny_askSetting (wpAny_ite ?_))
      have fin : wpAny (model X.prog X.w) X.A (call (.builtin "object.__ne__") ([.ref p] ++ [u]) >>= fun v => pure (some v)) (fun r s' => ∃ b : Bool, r = some (.bool b) ∧ EP X pins σ Q (.bool b) s') X.xe s :=
        wpAny_bind (wpAny_mono body (fun v s' ⟨b, e, q⟩ => wpAny_pure ⟨b, by rw [e], q⟩) fun _ _ h' => h')
      simp only [ne_bind]
      split
      · exact wpAny_bind (wpAny_pure (wpAny_pure (by exact fin)))
      · exact wpAny_tryCatch (wpAny_bind (wpAny_pure (wpAny_pure (by exact fin))))
    · obtain ⟨b, rfl, q⟩ := z
      exact wpAny_pure ⟨_, rfl, q⟩
  show wpAny (model X.prog X.w) X.A (richCompare .NotEq (.ref p) u) (EP X pins σ Q) X.xe s
  unfold richCompare
  simp only [oneThing_ref]
  refine wpAny_holding (wpAny_bind (wpAny_cRoomFor hr.units0 ?_))
  refine wpAny_bind (J.type.here (wpAny_bind ((Z.ty _ _ KX pz).here ?_)))
  have fin : wpAny (model X.prog X.w) X.A (tryCompare (.ref p) "__ne__" u) (fun r s' => ∃ v, r = some v ∧ EP X pins σ Q v s') X.xe s := one
  split
  · rename_i q
    have e : PySem.W.subIn X.K t (.ref C) = some false := by
      rcases Bool.or_eq_true_iff.mp hn with e | e
      · rw [beq_iff_eq.mp e] at q; simp at q
      · exact beq_iff_eq.mp e
    refine wpAny_bind ((PySem.W.looks_subIn KX e).here ?_)
    simp only [Bool.false_eq_true, if_false]
    refine wpAny_bind (wpAny_mono one (fun r s' z => ?_) fun _ _ e => e)
    obtain ⟨v, rfl, hq⟩ := z
    exact wpAny_pure hq
  · refine wpAny_bind (wpAny_pure ?_)
    simp only [Bool.false_eq_true, if_false]
    refine wpAny_bind (wpAny_mono one (fun r s' z => ?_) fun _ _ e => e)
    obtain ⟨v, rfl, hq⟩ := z
    exact wpAny_pure hq
end
end VQ
/-! == of two tuples, item by item, both answers. -/
namespace VQ
open PySem PySem.SeqAt
open AutoSeq1 (wpAny_loadPart')
open MeetsSeq MeetsSeq2 MeetsSeq3 SeqRoads2
/-- the pairs' answers, from the left -/
def eqs {α β : Type} (f : α → β → Bool) : List α → List β → Bool
  | [], [] => true
  | x :: r, y :: t => f x y && eqs f r t
  | _, _ => false
section
variable {prog : Program} {w : World} {A : Around} {R : Result → Shared → Prop}
/-- J: what stands all the way; ok i: the i-th pair's answer -/
theorem tuple_eqB (l b : Addr) (items items2 : Array Value) (n n2 : Nat) (dd dd2 : Option Addr) (sl sl2 : Array (Option Value)) (J : Shared → Prop) (ok : Nat → Bool)
    (turn : ∀ i (h1 : i < items.size) (h2 : i < items2.size) s, J s → wpAny (model prog w) A.in1 (eqBool items[i] items2[i]) (fun r s' => r = ok i ∧ J s') (fun e s' => R (.error e) s') s)
    (no : ∀ i s, i < items.size → i < items2.size → ok i = false → J s → R (.ok (.ret (.bool false))) s)
    (fin : ∀ s, (∀ i, i < items.size → i < items2.size → ok i = true) → J s → R (.ok (.ret (.bool (items.size == items2.size)))) s) {s : Shared}
    (hl1 : s.heap.get? l = some { cls := .type "tuple", dict := dd, data := .seq items n, slots := sl }) (hb1 : s.heap.get? b = some { cls := .type "tuple", dict := dd2, data := .seq items2 n2, slots := sl2 }) (h : J s) :
    wpAny (model prog w) A.in1 (Builtin.«tuple.__eq__» ⟨[.ref l, .ref b], []⟩) (GQ.FinOf prog w A R) (fun e s' => R (.error e) s') s := by
  have f2 := AutoSeq1.sub_tuple_tuple
  have hZ : (items.toList.zip items2.toList).length = min items.size items2.size := by simp
  have h0 := h
  obtain ⟨hp, g, d, tk, os⟩ := s
  wp_walk using wpAny_loadPart' hl1, wpAny_loadPart' hb1, wpAny_forIn_list _ (fun rest b s' => b.1 = none ∧ ∃ i, rest = (items.toList.zip items2.toList).drop i ∧ i ≤ min items.size items2.size ∧ (∀ j, j < i → ok j = true) ∧ J s') _
  case turn =>
    rintro ⟨y, x⟩ rest b s' ⟨hb', i, hz, hi, hA, hI⟩
    have hlt : i < (items.toList.zip items2.toList).length := by
      rcases Nat.lt_or_ge i (items.toList.zip items2.toList).length with h' | h'
      · exact h'
      · rw [List.drop_of_length_le h'] at hz; cases hz
    have h12 : i < min items.size items2.size := hZ ▸ hlt
    have h1 : i < items.size := by omega
    have h2 : i < items2.size := by omega
    rw [List.drop_eq_getElem_cons hlt] at hz
    injection hz with hyx hrest
    have hy : y = items[i] := by have := congrArg Prod.fst hyx; simpa using this
    have hx : x = items2[i] := by have := congrArg Prod.snd hyx; simpa using this
    subst hy hx
    refine wpAny_bind (wpAny_mono (turn i h1 h2 s' hI) (fun r s2 q2 => ?_) fun _ _ x => x)
    obtain ⟨hr, q2⟩ := q2
    subst hr
    cases e : ok i with
    | true =>
      wp_walk
      exact ⟨rfl, i + 1, hrest, by omega, fun j hj => by
        rcases Nat.lt_succ_iff_lt_or_eq.mp hj with z | z
        · exact hA j z
        · exact z ▸ e, q2⟩
    | false =>
      have := no i s2 h1 h2 e q2
      wp_walk
      exact this
  case fin =>
    rintro ⟨b1, b2⟩ s' ⟨hb', i, hz, hi, hA, hI⟩
    simp only at hb'
    subst hb'
    have hge : min items.size items2.size ≤ i := by
      rcases Nat.lt_or_ge i (items.toList.zip items2.toList).length with h' | h'
      · rw [List.drop_eq_getElem_cons h'] at hz; cases hz
      · exact hZ ▸ h'
    have hR := fin s' (fun j h1 h2 => hA j (by omega)) hI
    wp_walk
    simpa [Builtin.Tuple.tupleCompareSizes] using hR
  case h =>
    exact ⟨rfl, 0, rfl, Nat.zero_le _, fun j hj => absurd hj (Nat.not_lt_zero _), h0⟩
end
end VQ

namespace VQ
open PySem PySem.Spec PyProof.Rows L2
section
variable {X : Cx} {CX : CXT} {k : Nat} {C f : Addr} {fd : FuncData} {ps : List Str} {sp : Sp} {E : XK}
/-- == by an own __eq__, around A -/
theorem rc_own {A : Around} {pins : List (Addr × Obj)} {σ : L2.St} {H : Hp} {s : Shared} {p dx : Addr} {fs : List (Str × V)} {y : V} {u t : Value} {b : Bool} (F : FnOk X.prog X.w X.K X.mg X.base CX k f fd ps sp) (hs : PySem.W.findIn X.K (.ref C) "__eq__" = some (some (.ref f))) (hf : PySem.W.isFn X.K (.ref f) = true) (hb : Binds X.K fd ps [])
    (hx : Passes CX X E) (sb : Sub X k A) (I : Inv X pins σ H s) (ry : RelV y u) (hp : H p = some (.ins C dx fs)) (ty : TyX X.K H y t) (hn : PySem.W.notFirst X.K C t = true) (hq : ∀ Q : VK, Q (.bl b) H → sp [.ref p, y] H Q E) :
    wpAny (model X.prog X.w) A (richCompare .Eq (.ref p) u) (fun v s' => ∃ r, v = .bool r ∧ r = b ∧ Inv X pins σ H s') X.xe s := by
  have rv2 : Vals [V.ref p, y] [Value.ref p, u] := .cons rfl (.cons ry .nil)
  obtain ⟨Pz, Z, pz, _⟩ := kit_of I ry ty
  obtain ⟨mA, J, _⟩ := ins_get I.hok hp
  obtain ⟨od, J, _⟩ := J.look
  obtain ⟨m, hF⟩ := I.fr
  refine PySem.W.cmp_K (op := .Eq) (tb := t) sb.room.units0 hF I.ok.mod.kin J (Z.ty _ _ I.kIn pz) hn hs hf ?_
  refine wpAny_mono (run_at F sb hb hx I rv2 (hq (fun v H' => v = .bl b ∧ H' = H) ⟨rfl, rfl⟩)) (fun r s' z => ?_) fun _ _ z => z
  obtain ⟨v', H', I', rv, rfl, rfl⟩ := z
  cases rv
  exact ⟨b, rfl, rfl, I'⟩
/-- == of two values inside a builtin: the answer b, the heap stays -/
def EqB (X : Cx) (n : Nat) (D : V → V → Bool → Hp → Prop) : Prop := ∀ (A : Around) (pins : List (Addr × Obj)) (s : Shared) (σ : L2.St) (H : Hp) (x y : V) (u v : Value) (b : Bool), Sub X n A → Inv X pins σ H s → RelV x u → RelV y v → D x y b H →
  wpAny (model X.prog X.w) A (eqBool u v) (fun r s' => r = b ∧ Inv X pins σ H s') X.xe s
/-- two instances of C, told apart by sp -/
def DOwn (K : PySem.W.Frag) (C : Addr) (sp : Sp) (E : XK) : V → V → Bool → Hp → Prop := fun x y b H => ∃ p q dx dy fs gs, x = .ref p ∧ y = .ref q ∧ H p = some (.ins C dx fs) ∧ H q = some (.ins C dy gs) ∧ TyX K H y (.ref C) ∧ (p = q → b = true) ∧ ∀ Q : VK, Q (.bl b) H → sp [x, y] H Q E
theorem eqB_own (F : FnOk X.prog X.w X.K X.mg X.base CX k f fd ps sp) (hs : PySem.W.findIn X.K (.ref C) "__eq__" = some (some (.ref f))) (hf : PySem.W.isFn X.K (.ref f) = true) (hb : Binds X.K fd ps []) (hx : Passes CX X E) : EqB X k (DOwn X.K C sp E) := by
  intro A pins s σ H x y u v b sb I rx ry ⟨p, q, dx, dy, fs, gs, ex, ey, hp, hq, ty, he, hsp⟩
  subst ex ey
  cases rx
  cases ry
  by_cases e : p = q
  · have eb := he e
    subst eb e
    exact SeqAt.EqAt.same (A := A) (s := s) (.ref p) X.prog X.w X.xe _ ⟨rfl, I⟩
  · refine GQ.eqBool_refG e (wpAny_mono (rc_own F hs hf hb hx sb I (show RelV (V.ref q) (Value.ref q) from rfl) hp ty (by unfold PySem.W.notFirst; simp) hsp) (fun r s' z => ?_) fun _ _ z => z)
    obtain ⟨r, er, eb, I'⟩ := z
    exact ⟨r, er, eb, I'⟩
def rEqT (K : PySem.W.Frag) (D : V → V → Bool → Hp → Prop) : R2 := fun x y H Q => ∃ (a c : Addr) (xs ys : List V) (g : V → V → Bool), x = .ref a ∧ y = .ref c ∧ SqT K H a xs ∧ SqT K H c ys ∧ (∀ x ∈ xs, ∀ y ∈ ys, D x y (g x y) H) ∧ Q (.bl (eqs g xs ys)) H
theorem eqs_ok {α β : Type} {g : α → β → Bool} : ∀ {xs : List α} {ys : List β}, (∀ (i : Nat) x y, xs[i]? = some x → ys[i]? = some y → g x y = true) → eqs g xs ys = (xs.length == ys.length)
  | [], [], _ => rfl
  | [], _ :: _, _ => rfl
  | _ :: _, [], _ => rfl
  | x :: r, y :: t, h => by
    show (g x y && eqs g r t) = _
    rw [h 0 x y rfl rfl, eqs_ok fun i x y e1 e2 => h (i + 1) x y (by rw [List.getElem?_cons_succ]; exact e1) (by rw [List.getElem?_cons_succ]; exact e2), Bool.true_and]
    simp
theorem eqs_no {α β : Type} {g : α → β → Bool} : ∀ {xs : List α} {ys : List β} {i : Nat} {x : α} {y : β}, xs[i]? = some x → ys[i]? = some y → g x y = false → eqs g xs ys = false
  | [], _, _, _, _, h, _, _ => by simp at h
  | _ :: _, [], _, _, _, _, h, _ => by simp at h
  | a :: r, c :: t, 0, x, y, h1, h2, e => by
    simp at h1 h2
    subst h1 h2
    show (g a c && _) = false
    rw [e]
    rfl
  | a :: r, c :: t, i + 1, x, y, h1, h2, e => by
    rw [List.getElem?_cons_succ] at h1 h2
    show (g a c && eqs g r t) = false
    rw [eqs_no h1 h2 e, Bool.and_false]
theorem op_eqT {n : Nat} {D : V → V → Bool → Hp → Prop} (h : EqB X n D) (hr : Room (n + 1) X.A) : OpR X (compareOp .Eq) (rEqT X.K D) := by
  intro pins s σ H x y v u Q I rx ry ⟨a, c, xs, ys, g, ex, ey, hxs, hys, hD, q⟩
  subst ex ey
  cases rx
  cases ry
  obtain ⟨its, rv, ht, _⟩ := I.tuple hxs
  obtain ⟨its2, rv2, ht2, _⟩ := I.tuple hys
  have sb : Sub X (n + 1) X.A := ⟨hr, rfl⟩
  obtain ⟨⟨cls, dd, data, sl⟩, ho, hc, n1, hd⟩ := id ht
  obtain ⟨⟨cls2, dd2, data2, sl2⟩, ho2, hc2, n2, hd2⟩ := id ht2
  simp only at hc hd hc2 hd2
  subst hc hd hc2 hd2
  have l1 := rv.length
  have l2 := rv2.length
  have at1 : ∀ {i : Nat} (h : i < its.toArray.size), ∃ x, xs[i]? = some x ∧ RelV x its.toArray[i] := fun {i} h => by
    rw [List.size_toArray] at h
    have ex : xs[i]? = some (xs[i]'(by omega)) := List.getElem?_eq_getElem (by omega)
    obtain ⟨u, eu, r⟩ := rv.get ex
    have : u = its[i] := (List.getElem?_eq_some_iff.mp eu).2.symm
    exact ⟨_, ex, by simpa using this ▸ r⟩
  have at2 : ∀ {i : Nat} (h : i < its2.toArray.size), ∃ x, ys[i]? = some x ∧ RelV x its2.toArray[i] := fun {i} h => by
    rw [List.size_toArray] at h
    have ex : ys[i]? = some (ys[i]'(by omega)) := List.getElem?_eq_getElem (by omega)
    obtain ⟨u, eu, r⟩ := rv2.get ex
    have : u = its2[i] := (List.getElem?_eq_some_iff.mp eu).2.symm
    exact ⟨_, ex, by simpa using this ▸ r⟩
  let ok : Nat → Bool := fun i => match xs[i]?, ys[i]? with
    | some x, some y => g x y
    | _, _ => true
  show wpAny (model X.prog X.w) X.A (richCompare .Eq (.ref a) (.ref c)) (EP X pins σ Q) X.xe s
  refine wpAny_richCompare_same_room (op := .Eq) ⟨_, ho, rfl⟩ ⟨_, ho2, rfl⟩ F.slot_tuple_eq (GQ.call_here F.slot_tuple_eq ⟨_, ho, rfl⟩ F.entry_tuple_eq (F.args_tuple_eq_2 _ _) ?_) hr.units0
  refine tuple_eqB (R := wants (fun v s' => v ≠ .notImplemented ∧ EP X pins σ Q v s') X.xe) a c its.toArray its2.toArray n1 n2 dd dd2 sl sl2 (fun s' => Inv X pins σ H s') ok (fun i h1 h2 s' I' => ?_) (fun i s' h1 h2 e I' => ?_) (fun s' hall I' => ?_) ho ho2 I
  · obtain ⟨x, ex, r1⟩ := at1 h1
    obtain ⟨y, ey, r2⟩ := at2 h2
    have eo : ok i = g x y := by
      show (match xs[i]?, ys[i]? with | some x, some y => g x y | _, _ => true) = _
      rw [ex, ey]
    rw [eo]
    exact h X.A.in1 pins s' σ H x y _ _ _ sb.in1 I' r1 r2 (hD x (List.mem_of_getElem? ex) y (List.mem_of_getElem? ey))
  · obtain ⟨x, ex, r1⟩ := at1 h1
    obtain ⟨y, ey, r2⟩ := at2 h2
    have eo : ok i = g x y := by
      show (match xs[i]?, ys[i]? with | some x, some y => g x y | _, _ => true) = _
      rw [ex, ey]
    rw [eo] at e
    refine ⟨(fun z => nomatch z), .bl false, H, I', rfl, ?_⟩
    have := eqs_no ex ey e
    rw [this] at q
    exact q
  · refine ⟨(fun z => nomatch z), .bl (its.toArray.size == its2.toArray.size), H, I', rfl, ?_⟩
    have e : eqs g xs ys = (xs.length == ys.length) := eqs_ok fun i x y ex ey => by
      have i1 : i < its.toArray.size := by
        rw [List.size_toArray, ← l1]
        exact (List.getElem?_eq_some_iff.mp ex).1
      have i2 : i < its2.toArray.size := by
        rw [List.size_toArray, ← l2]
        exact (List.getElem?_eq_some_iff.mp ey).1
      have := hall i i1 i2
      have eo : ok i = g x y := by
        show (match xs[i]?, ys[i]? with | some x, some y => g x y | _, _ => true) = _
        rw [ex, ey]
      rw [eo] at this
      exact this
    rw [e] at q
    rw [List.size_toArray, List.size_toArray, ← l1, ← l2]
    exact q
end
end VQ
namespace KX
open PySem PySem.Spec PyProof.Rows L2
def topS (i : Nat) : Stmt := PySem.Challenge.pw_surelydone_k05_system_tells_its_parts.main.body.getD i (.Pass ⟨0, 0, 0, 0⟩)
abbrev s_wall : Stmt := topS 0
abbrev s_BadState_init : Stmt := inClass (topS 3) 0
abbrev s_BadSteps_init : Stmt := inClass (topS 4) 0
abbrev s_BadHands_init : Stmt := inClass (topS 5) 0
abbrev s_BadDiligent_init : Stmt := inClass (topS 6) 0
abbrev s_TooMany_init : Stmt := inClass (topS 7) 0
abbrev s_is_whole : Stmt := topS 11
abbrev s_is_state : Stmt := topS 12
abbrev s_is_name : Stmt := topS 13
abbrev s_is_row : Stmt := topS 14
abbrev s_all_reached : Stmt := topS 16
abbrev s_Hand_init : Stmt := inClass (topS 22) 0
abbrev s_Hand_ring : Stmt := inClass (topS 22) 1
abbrev s_Hand_eq : Stmt := inClass (topS 22) 2
abbrev s_is_step : Stmt := topS 23
abbrev s_check_steps : Stmt := topS 24
abbrev s_reached_states : Stmt := topS 25
abbrev s_exits_of : Stmt := topS 26
abbrev s_System_init : Stmt := inClass (topS 30) 0
abbrev s_System_moves : Stmt := inClass (topS 30) 1
abbrev s_System_behind : Stmt := inClass (topS 30) 2
abbrev s_System_able : Stmt := inClass (topS 30) 3
abbrev s_System_with_diligent : Stmt := inClass (topS 30) 4
abbrev s_System_started_at : Stmt := inClass (topS 30) 5
abbrev s_System_eq : Stmt := inClass (topS 30) 6
abbrev s_System_add : Stmt := inClass (topS 30) 7
abbrev s_System_radd : Stmt := inClass (topS 30) 8
abbrev s_check_hands : Stmt := topS 31
abbrev s_chosen_hands : Stmt := topS 32
abbrev s_as_system : Stmt := topS 33
abbrev s_side_by_side : Stmt := topS 34
abbrev s_law_cell : Stmt := topS 36
abbrev s_law_pool : Stmt := topS 37
abbrev s_law_draw : Stmt := topS 38
abbrev s_law_name : Stmt := topS 39
abbrev s_law_names : Stmt := topS 40
abbrev s_law_steps : Stmt := topS 41
abbrev s_law_hand : Stmt := topS 42
abbrev s_law_rows : Stmt := topS 43
abbrev s_law_same : Stmt := topS 44
abbrev s_law_holds : Stmt := topS 45
abbrev s_law : Stmt := topS 46
/-! ### what the top leaves: built-in names -/
structure Blt (mg : Str → Option Value) : Prop where
  len : mg "len" = none
  int : mg "int" = none
  range : mg "range" = none
  isinstance : mg "isinstance" = none
  tuple : mg "tuple" = none
  list : mg "list" = none
  set : mg "set" = none
  sorted : mg "sorted" = none
  all : mg "all" = none
  enumerate : mg "enumerate" = none
section
variable {P : Program} {w : World} {K : PySem.W.Frag} {mg : Str → Option Value} {base : Heap}
/-! ### _law_cell, _law_pool, _law_draw -/
theorem sc_cell : FnScope ["_law_script", "_law_k"] ["_law_script", "_law_k"] (defScope s_law_cell) := ⟨rfl, rfl, rfl, by decide +kernel, rfl, by decide +kernel, by decide +kernel⟩
def spCellV (K : PySem.W.Frag) : Sp := fun vs H Q _ => ∃ (a : Addr) (ns : List Int) (k : Nat), vs = [.ref a, .int k] ∧ SqL K H a (ns.map V.int) ∧ ∀ z : Int, Q (.int z) H
theorem ok_cell {f : Addr} {fd : FuncData} (F : Fun K "_law_cell" "_law_cell" s_law_cell f fd) (B : Blt mg) : FnOk P w K mg base CX0 1 f fd ["_law_script", "_law_k"] (spCellV K) := by
  refine F.ok sc_cell (fun vs H Q E h => ?_) (fun cdv A outer s H vs Q E hr h => ?_)
  · obtain ⟨a, ns, k, rfl, _⟩ := h
    rfl
  · obtain ⟨a, ns, k, rfl, hS, q⟩ := h
    refine ⟨_, pss_cons (ps_if (pt_cmpR op_lt (pv 1) (pe_callB call_len_seq (by rfl) B.len PySem.boot_len (pa_cons (pv 0) pa_nil)) (nomark _)) (pss_one (ps_ret (pe_ix ix_list (pv 0) (pv 1) (fun _ _ => rfl)))) pss_nil)
      (pss_one (ps_ret (pe_op op_add (pe_op op_mul pe_int (pv 1)) pe_int))), ?_⟩
    refine ⟨_, rfl, _, rfl, a, _, rfl, .inl hS, _, _, rfl, rfl, _, rfl, ite2 (fun e => ?_) (fun e => ?_)⟩
    · have e1 : (k : Int) < ((ns.map V.int).length : Nat) := of_decide_eq_true e
      rw [List.length_map] at e1
      have hk : k < ns.length := by omega
      exact ⟨_, rfl, _, rfl, a, _, _, .int ns[k], rfl, rfl, hS, atI_nat (by rw [List.getElem?_map, List.getElem?_eq_getElem hk]; rfl), q _⟩
    · exact ⟨_, rfl, _, _, rfl, rfl, .inl ⟨by decide, by decide⟩, _, _, rfl, rfl, q _⟩
theorem sc_pool : FnScope ["_law_cell_here", "_law_rest"] ["_law_cell_here"] (defScope s_law_pool) := ⟨rfl, rfl, rfl, by decide +kernel, rfl, by decide +kernel, by decide +kernel⟩
/-- a pool stands at p -/
def PoolAt (H : Hp) (p : Addr) : Prop := ∃ x y z : Int, H p = some (.lst [.int x, .int y, .int z])
def spPool : Sp := fun vs H Q _ => ∃ z : Int, vs = [.int z] ∧ ∀ (p : Addr) (x y z : Int), H p = none → Q (.ref p) (upd H p (.lst [.int x, .int y, .int z]))
theorem ok_pool {f : Addr} {fd : FuncData} (F : Fun K "_law_pool" "_law_pool" s_law_pool f fd) (B : Blt mg) : FnOk P w K mg base CX0 1 f fd ["_law_cell_here"] spPool := by
  refine F.ok sc_pool (fun vs H Q E h => ?_) (fun cdv A outer s H vs Q E hr h => ?_)
  · obtain ⟨z, rfl, _⟩ := h
    rfl
  · obtain ⟨z, rfl, q⟩ := h
    refine ⟨_, pss_cons (ps_set (i := 1) sc_pool.nd rfl (.inl rfl) pe_int)
      (pss_cons (ps_if (pt_cmpR op_ge (pv 0) (pe_op op_pow pe_int pe_int) (nomark _)) (pss_one (ps_set (i := 1) sc_pool.nd rfl (.inl rfl) (pv 0))) pss_nil)
      (pss_one (ps_ret (pe_lst (pa_cons (pe_op op_mod (pe_callTy call_int1 (by rfl) B.int (by decide +kernel) (pa_cons (pv 0) pa_nil)) pe_int) (pa_cons (pv 1) (pa_cons pe_int pa_nil))))))), ?_⟩
    have fin : ∀ (b : Int), (fun (D : Ends) (σ : L2.St) (H : Hp) => (tRet (tLst (tCons (tOp (rI (fun _ j => 0 < j) fun i j => .int (i % j)) (tCB (fun xs H Q => (∃ i, xs = [V.int i] ∧ Q (.int i) H) ∨ ∃ k, xs = [.bl k] ∧ Q (.int (if k then 1 else 0)) H) (tCons (tVar 0) tNil)) (tC (.int 2147483629))) (tCons (tVar 1) (tCons (tC (.int 0)) tNil))))) D σ H) { nx := fun _ H' => Q .non H', rt := Q } [some (.int z), some (.int b)] H := fun b => by
      exact ⟨_, rfl, .inl ⟨_, rfl, _, _, rfl, rfl, by show (0 : Int) < 2147483629; decide, _, rfl, by show 3 ≤ sizeLine; decide, fun l hl => q l _ _ _ hl⟩⟩
    refine ⟨_, rfl, _, _, rfl, rfl, ?_, _, _, rfl, rfl, _, rfl, ite2 (fun e => ?_) (fun e => ?_)⟩
    · exact ⟨by decide, by decide, by decide⟩
    · exact ⟨_, rfl, fin z⟩
    · exact fin 0
theorem sc_draw : FnScope ["_law_pool_here", "_law_many", "_law_digit", "_law_number"] ["_law_pool_here", "_law_many"] (defScope s_law_draw) := ⟨rfl, rfl, rfl, by decide +kernel, rfl, by decide +kernel, by decide +kernel⟩
def spDraw : Sp := fun vs H Q _ => ∃ (p : Addr) (m : Int), vs = [.ref p, .int m] ∧ PoolAt H p ∧ 0 < m ∧ m < 2 ^ 64 ∧ ∀ d x y z : Int, 0 ≤ d → d < m → Q (.int d) (upd H p (.lst [.int x, .int y, .int z]))
theorem upd_upd {H : Hp} {p : Addr} {o o' : HO} : upd (upd H p o) p o' = upd H p o' := by
  funext b
  unfold upd
  by_cases e : b = p
  · rw [if_pos e, if_pos e]
  · rw [if_neg e, if_neg e, if_neg e]
theorem emod_lt64 {x m : Int} (h : 0 < m) (hm : m < 2 ^ 64) : -(2 ^ 64) < x % m ∧ x % m < 2 ^ 64 := by
  have h1 := Int.emod_nonneg x (by omega : m ≠ 0)
  have h2 := Int.emod_lt_of_pos x h
  omega
theorem ok_draw {f : Addr} {fd : FuncData} (F : Fun K "_law_draw" "_law_draw" s_law_draw f fd) (B : Blt mg) : FnOk P w K mg base CX0 1 f fd ["_law_pool_here", "_law_many"] spDraw := by
  refine F.ok sc_draw (fun vs H Q E h => ?_) (fun cdv A outer s H vs Q E hr h => ?_)
  · obtain ⟨p, m, rfl, _⟩ := h
    rfl
  · obtain ⟨p, m, rfl, ⟨x, y, z, hp⟩, h0, h1, q⟩ := h
    refine ⟨_, pss_cons (ps_asg (pe_op op_add (pe_ix ix_list (pv 0) pe_int (fun _ _ => rfl)) pe_int) (pg_sub (pv 0) pe_int set_list))
      (pss_cons (ps_if (pt_cmpR op_gt (pe_ix ix_list (pv 0) pe_int (fun _ _ => rfl)) pe_int (nomark _))
        (pss_cons (ps_set (i := 2) sc_draw.nd rfl (.inl rfl) (pe_op op_mod (pe_callTy call_int1 (by rfl) B.int (by decide +kernel) (pa_cons (pe_ix ix_list (pv 0) pe_int (fun _ _ => rfl)) pa_nil)) (pv 1)))
        (pss_cons (ps_asg (pe_op op_fdivW (pe_ix ix_list (pv 0) pe_int (fun _ _ => rfl)) (pv 1)) (pg_sub (pv 0) pe_int set_list))
        (pss_one (ps_ret (pv 2))))) pss_nil)
      (pss_cons (ps_set (i := 3) sc_draw.nd rfl (.inl rfl) (pe_op op_mod (pe_callTy call_int1 (by rfl) B.int (by decide +kernel) (pa_cons (pe_op op_mul (pe_op op_add (pe_op op_add (pe_ix ix_list (pv 0) pe_int (fun _ _ => rfl)) (pe_op op_mul pe_int (pe_ix ix_list (pv 0) pe_int (fun _ _ => rfl)))) pe_int) pe_int) pa_nil)) pe_int))
      (pss_cons (ps_set (i := 3) sc_draw.nd rfl (.inl rfl) (pe_op op_mod (pe_callTy call_int1 (by rfl) B.int (by decide +kernel) (pa_cons (pe_op op_mul (pv 3) (pe_op op_add (pe_op op_fdiv (pv 3) pe_int) pe_int)) pa_nil)) pe_int))
      (pss_cons (ps_set (i := 3) sc_draw.nd rfl (.inl rfl) (pe_op op_mod (pe_callTy call_int1 (by rfl) B.int (by decide +kernel) (pa_cons (pe_op op_mul (pv 3) (pe_op op_add (pe_op op_fdiv (pv 3) pe_int) pe_int)) pa_nil)) pe_int))
      (pss_one (ps_ret (pe_op op_mod (pe_callTy call_int1 (by rfl) B.int (by decide +kernel) (pa_cons (pe_op op_fdiv (pv 3) pe_int) pa_nil)) (pv 1)))))))), ?_⟩
    -- pool[2] = pool[2] + 1
    refine ⟨_, rfl, p, _, _, .int z, rfl, rfl, .inl (.inl hp), atI_nat (j := 2) rfl, _, _, rfl, rfl, ?_⟩
    refine ⟨_, rfl, p, _, _, 2, rfl, rfl, hp, rfl, ?_⟩
    have hp1 : upd H p (.lst [.int x, .int y, .int (z + 1)]) p = some (.lst [.int x, .int y, .int (z + 1)]) := upd_same
    -- if pool[1] > 0
    refine ⟨_, rfl, p, _, _, .int y, rfl, rfl, .inl (.inl hp1), atI_nat (j := 1) rfl, _, _, rfl, rfl, _, rfl, ite2 (fun e => ?_) (fun e => ?_)⟩
    · refine ⟨_, rfl, p, _, _, .int y, rfl, rfl, .inl (.inl hp1), atI_nat (j := 1) rfl, .inl ⟨_, rfl, _, rfl, _, _, rfl, rfl, h0, ?_⟩⟩
      refine ⟨_, rfl, p, _, _, .int y, rfl, rfl, .inl (.inl hp1), atI_nat (j := 1) rfl, _, rfl, _, _, rfl, rfl, wide_div (b := 64) h0 (by omega) (by decide) (by decide), ?_⟩
      refine ⟨_, rfl, p, _, _, 1, rfl, rfl, hp1, rfl, _, rfl, ?_⟩
      rw [upd_upd]
      exact q _ _ _ _ (Int.emod_nonneg y (by omega)) (Int.emod_lt_of_pos y h0)
    · refine ⟨_, rfl, p, _, _, .int x, rfl, rfl, .inl (.inl hp1), atI_nat (j := 0) rfl, _, rfl, p, _, _, .int (z + 1), rfl, rfl, .inl (.inl hp1), atI_nat (j := 2) rfl, _, _, rfl, rfl, .inl ⟨by decide, by decide⟩, _, _, rfl, rfl, _, _, rfl, rfl, _, _, rfl, rfl, .inr ⟨by decide, by decide⟩, .inl ⟨_, rfl, _, _, rfl, rfl, by show (0 : Int) < 2147483647; decide, ?_⟩⟩
      refine ⟨_, rfl, _, rfl, _, _, rfl, rfl, ⟨by decide, by decide⟩, _, _, rfl, rfl, _, _, rfl, rfl, .inl (emod_lt64 (by decide) (by decide)), .inl ⟨_, rfl, _, _, rfl, rfl, by show (0 : Int) < 2147483647; decide, ?_⟩⟩
      refine ⟨_, rfl, _, rfl, _, _, rfl, rfl, ⟨by decide, by decide⟩, _, _, rfl, rfl, _, _, rfl, rfl, .inl (emod_lt64 (by decide) (by decide)), .inl ⟨_, rfl, _, _, rfl, rfl, by show (0 : Int) < 2147483399; decide, ?_⟩⟩
      refine ⟨_, rfl, _, _, rfl, rfl, ⟨by decide, by decide⟩, .inl ⟨_, rfl, _, rfl, _, _, rfl, rfl, h0, ?_⟩⟩
      exact q _ _ _ _ (Int.emod_nonneg _ (by omega)) (Int.emod_lt_of_pos _ h0)
end
end KX
namespace KX
open PySem PySem.Spec PyProof.Rows L2
/-! ### _law_name -/
/-- 1 to 12 letters from a to z -/
structure NameOk (z : Str) : Prop where
  lo : 1 ≤ z.cps.toList.length
  hi : z.cps.toList.length ≤ 12
  az : ∀ c ∈ z.cps.toList, 97 ≤ c ∧ c ≤ 122
theorem cps_app (x y : Str) : (x ++ y).cps.toList = x.cps.toList ++ y.cps.toList := PyProof.Rows.cps_toList_append x y
theorem len_cps (x : Str) : x.length = x.cps.toList.length := by
  show x.cps.size = _
  rw [Array.length_toList]
theorem p26 (l : Nat) (h : l < 12) : (26 : Int) ^ (12 - l) = 26 * 26 ^ (11 - l) := by
  have e : 12 - l = (11 - l) + 1 := by omega
  rw [e, Int.pow_succ, Int.mul_comm]
theorem nil_cps : ("" : Str).cps.toList = [] := by decide +kernel
/-- between two turns of the loop of _law_name: the letters so far and what is left -/
structure NmInv (z : Str) (r : Int) : Prop where
  lo : 0 ≤ r
  le : z.cps.toList.length ≤ 12
  up : r ≤ 26 ^ (12 - z.cps.toList.length)
  st : 0 < z.cps.toList.length → r < 26 ^ (12 - z.cps.toList.length)
  az : ∀ c ∈ z.cps.toList, 97 ≤ c ∧ c ≤ 122
  one : r = 0 → 1 ≤ z.cps.toList.length
theorem nm_turn {z : Str} {r : Int} {c : Nat} (I : NmInv z r) (h : 0 < r) (hc : 97 ≤ c ∧ c ≤ 122) : NmInv ((⟨#[c]⟩ : Str) ++ z) ((r - 1) / 26) ∧ z.cps.toList.length < 12 := by
  have hl : z.cps.toList.length < 12 := by
    have h1 := I.le
    have h2 := I.st
    by_cases e : z.cps.toList.length = 12
    · rw [e] at h2
      have h3 := h2 (by decide)
      simp at h3
      omega
    · omega
  have el : ((⟨#[c]⟩ : Str) ++ z).cps.toList.length = z.cps.toList.length + 1 := by
    rw [cps_app, List.length_append]
    show 1 + _ = _
    omega
  have e2 : (26 : Int) ^ (12 - (z.cps.toList.length + 1)) = 26 ^ (11 - z.cps.toList.length) := by
    congr 1
    omega
  have hlt : (r - 1) / 26 < 26 ^ (11 - z.cps.toList.length) := by
    have h1 := I.up
    rw [p26 _ hl] at h1
    omega
  refine ⟨⟨by omega, by rw [el]; omega, by rw [el, e2]; omega, fun _ => by rw [el, e2]; exact hlt, fun d hd => ?_, fun _ => by rw [el]; omega⟩, hl⟩
  rw [cps_app] at hd
  rcases List.mem_append.mp hd with q | q
  · have q' : d = c := by simpa using q
    rw [q']
    exact hc
  · exact I.az d q
abbrev abc : Str := "abcdefghijklmnopqrstuvwxyz"
theorem abc_at (i : Int) (h0 : 0 ≤ i) (h1 : i < 26) : ∃ c, atI abc.cps.toList i = some c ∧ 97 ≤ c ∧ c ≤ 122 := by
  obtain ⟨n, rfl⟩ := Int.eq_ofNat_of_zero_le h0
  have hn : n < 26 := by omega
  have all : ∀ m, m < 26 → ∃ c, abc.cps.toList[m]? = some c ∧ 97 ≤ c ∧ c ≤ 122 := by decide +kernel
  obtain ⟨c, e, q⟩ := all n hn
  exact ⟨c, atI_nat e, q⟩
section
variable {P : Program} {w : World} {K : PySem.W.Frag} {mg : Str → Option Value} {base : Heap}
theorem sc_name : FnScope ["_law_number", "_law_letters", "_law_left"] ["_law_number"] (defScope s_law_name) := ⟨rfl, rfl, rfl, by decide +kernel, rfl, by decide +kernel, by decide +kernel⟩
def spName : Sp := fun vs H Q _ => ∃ n : Int, vs = [.int n] ∧ 0 ≤ n ∧ n < 26 ^ 12 ∧ ∀ z, NameOk z → Q (.str z) H
theorem ok_name {f : Addr} {fd : FuncData} (F : Fun K "_law_name" "_law_name" s_law_name f fd) (B : Blt mg) : FnOk P w K mg base CX0 1 f fd ["_law_number"] spName := by
  refine F.ok sc_name (fun vs H Q E h => ?_) (fun cdv A outer s H vs Q E hr h => ?_)
  · obtain ⟨n, rfl, _⟩ := h
    rfl
  · obtain ⟨n, rfl, h0, h1, q⟩ := h
    refine ⟨_, pss_cons (ps_set (i := 1) sc_name.nd rfl (.inl rfl) pe_str)
      (pss_cons (ps_set (i := 2) sc_name.nd rfl (.inl rfl) (pe_op op_add (pv 0) pe_int))
      (pss_cons (ps_while PassesOwn.never (pt_cmpR op_gt (pv 2) pe_int (nomark _))
        (pss_cons (ps_set (i := 2) sc_name.nd rfl (.inl rfl) (pe_op op_sub (pv 2) pe_int))
        (pss_cons (ps_set (i := 1) sc_name.nd rfl (.inl rfl) (pe_op op_add_str (pe_ix ix_str pe_str (pe_op op_mod (pe_callTy call_int1 (by rfl) B.int (by decide +kernel) (pa_cons (pv 2) pa_nil)) pe_int) (fun _ _ => rfl)) (pv 1)))
        (pss_one (ps_set (i := 2) sc_name.nd rfl (.inl rfl) (pe_op op_fdiv (pv 2) pe_int))))))
      (pss_one (ps_ret (pv 1))))), ?_⟩
    refine ⟨_, rfl, _, _, rfl, rfl, fun m σ H2 => ∃ (z : Str) (r : Int), σ = [some (.int n), some (.str z), some (.int r)] ∧ H2 = H ∧ NmInv z r ∧ m = r.toNat, ⟨_, _, _, rfl, rfl, ?_, rfl⟩, ?_⟩
    · exact ⟨by omega, by decide, by show n + 1 ≤ 26 ^ 12; omega, fun z => absurd z (by decide), fun c hc => absurd hc (by rw [nil_cps]; exact List.not_mem_nil), fun z => by omega⟩
    · rintro m σ H2 ⟨z, r, rfl, rfl, I, rfl⟩
      refine ⟨_, rfl, _, _, rfl, rfl, _, rfl, ?_⟩
      by_cases e : 0 < r
      · rw [decide_eq_true e]
        obtain ⟨c, hc, hz⟩ := abc_at ((r - 1) % 26) (Int.emod_nonneg _ (by decide)) (Int.emod_lt_of_pos _ (by decide))
        obtain ⟨I2, hl⟩ := nm_turn I e hz
        refine ⟨fun σ' H' => ∃ (z' : Str) (r' : Int), σ' = [some (.int n), some (.str z'), some (.int r')] ∧ H' = H2 ∧ NmInv z' r' ∧ r'.toNat < r.toNat, ?_, ?_⟩
        · rintro σ' H' ⟨z', r', rfl, rfl, I', hm⟩
          exact ⟨_, hm, _, _, rfl, rfl, I', rfl⟩
        · refine ⟨_, rfl, _, _, rfl, rfl, _, rfl, .inl ⟨_, rfl, _, _, rfl, rfl, by show (0 : Int) < 26; decide, abc, _, c, rfl, rfl, by decide +kernel, hc, _, rfl, _, _, rfl, rfl, ?_, ?_⟩⟩
          · rw [len_cps, len_cps]
            show 1 + _ ≤ sizeLine
            rw [sizeLine_eq]
            omega
          · exact ⟨_, rfl, _, _, rfl, rfl, ⟨by decide, by decide⟩, _, _, rfl, rfl, I2, by omega⟩
      · rw [decide_eq_false e]
        exact ⟨_, rfl, q z ⟨I.one (by have := I.lo; omega), I.le, I.az⟩⟩
end
end KX
namespace KX
open PySem PySem.Spec PyProof.Rows L2
/-! ### _law_names -/
/-- what stood stands, but what is at p -/
def SameX (p : Addr) (H H' : Hp) : Prop := ∀ b o, b ≠ p → H b = some o → H' b = some o
theorem SameX.refl {p : Addr} {H : Hp} : SameX p H H := fun _ _ _ e => e
theorem SameX.trans {p : Addr} {H H1 H2 : Hp} (a : SameX p H H1) (b : SameX p H1 H2) : SameX p H H2 := fun c o n e => b c o n (a c o n e)
theorem SameX.at {p : Addr} {H : Hp} {o : HO} : SameX p H (upd H p o) := fun _ _ n e => by rw [upd_ne n]; exact e
theorem SameX.new {p q : Addr} {H : Hp} {o : HO} (h : H q = none) : SameX p H (upd H q o) := fun _ _ _ e => by rw [upd_ne (ne_of_none e h)]; exact e
theorem SameX.of {p : Addr} {H H' : Hp} (h : Same H H') : SameX p H H' := fun _ _ _ e => h _ _ e
/-- what is at p and q may change -/
def SameXX (p q : Addr) (H H' : Hp) : Prop := ∀ b o, b ≠ p → b ≠ q → H b = some o → H' b = some o
def Nm (n : Int) : Prop := 0 ≤ n ∧ n < 26 ^ 12
section
variable {P : Program} {w : World} {K : PySem.W.Frag} {mg : Str → Option Value} {base : Heap}
theorem sc_names : FnScope ["_law_pool_here", "_law_many", "_law_numbers", "_law_k", "_law_number", "_law_again"] ["_law_pool_here", "_law_many"] (defScope s_law_names) := ⟨rfl, rfl, rfl, by decide +kernel, rfl, by decide +kernel, by decide +kernel⟩
def spNames : Sp := fun vs H Q _ => ∃ (p : Addr) (m : Nat), vs = [.ref p, .int m] ∧ PoolAt H p ∧ m ≤ 1000 ∧
  ∀ (l : Addr) (zs : List Str) (H' : Hp), H l = none → H' l = some (.lst (zs.map V.str)) → (∀ z ∈ zs, NameOk z) → zs.length = m → PoolAt H' p → SameX p H H' → Q (.ref l) H'
theorem flat_ints (ns : List Int) : (ns.map V.int).all flatV = true := by
  rw [List.all_map]
  exact List.all_eq_true.mpr fun _ _ => rfl
theorem get_int {ns : List Int} {i : Nat} {y : V} (h : (ns.map V.int)[i]? = some y) : ∃ z, y = .int z ∧ z ∈ ns := by
  rw [List.getElem?_map] at h
  cases e : ns[i]? with
  | none => rw [e] at h; cases h
  | some z => rw [e] at h; exact ⟨z, (Option.some.inj h).symm, List.mem_of_getElem? e⟩
theorem ok_names {f fD fN : Addr} {fd fdD fdN : FuncData} (F : Fun K "_law_names" "_law_names" s_law_names f fd) (B : Blt mg) (FD : Fun K "_law_draw" "_law_draw" s_law_draw fD fdD) (bD : Binds K fdD ["_law_pool_here", "_law_many"] []) (gD : mg "_law_draw" = some (.ref fD))
    (FN : Fun K "_law_name" "_law_name" s_law_name fN fdN) (bN : Binds K fdN ["_law_number"] []) (gN : mg "_law_name" = some (.ref fN)) : FnOk P w K mg base CX0 2 f fd ["_law_pool_here", "_law_many"] spNames := by
  have GD : FnOk P w K mg base CX0 1 fD fdD ["_law_pool_here", "_law_many"] spDraw := ok_draw FD B
  have GN : FnOk P w K mg base CX0 1 fN fdN ["_law_number"] spName := ok_name FN B
  refine F.ok sc_names (fun vs H Q E h => ?_) (fun cdv A outer s H vs Q E hr h => ?_)
  · obtain ⟨p, m, rfl, _⟩ := h
    rfl
  · obtain ⟨p, m, rfl, hp, hm, q⟩ := h
    refine ⟨_, pss_cons (ps_set (i := 2) sc_names.nd rfl (.inl rfl) (pe_lst pa_nil))
      (pss_cons (ps_for PassesOwn.never rfl (pi_range1 rfl B.range (pa_cons (pv 1) pa_nil)) (pg_name (i := 3) sc_names.nd rfl (.inl rfl))
        (pss_cons (ps_set (i := 4) sc_names.nd rfl (.inl rfl) (pe_call GD hr (by rfl) gD FD.kp bD .nil pass0 (pa_cons (pv 0) (pa_cons pe_int pa_nil))))
        (C8.pss_cut (ps_if (pt_cmpR op_eq (pe_call GD hr (by rfl) gD FD.kp bD .nil pass0 (pa_cons (pv 0) (pa_cons pe_int pa_nil))) pe_int (nomark _))
          (pss_one (ps_set (i := 4) sc_names.nd rfl (.inl rfl) (pe_call GD hr (by rfl) gD FD.kp bD .nil pass0 (pa_cons (pv 0) (pa_cons (pe_op op_pow pe_int pe_int) pa_nil))))) pss_nil)
        (pss_cons (ps_for PassesOwn.never rfl (pi_range1 rfl B.range (pa_cons (pv 3) pa_nil)) (pg_name (i := 5) sc_names.nd rfl (.inl rfl))
          (pss_one (ps_if (pt_cmpR op_in_seq (pv 4) (pv 2) rfl)
            (pss_one (ps_set (i := 4) sc_names.nd rfl (.inl rfl) (pe_op op_mod (pe_callTy call_int1 (by rfl) B.int (by decide +kernel) (pa_cons (pe_op op_add (pv 4) pe_int) pa_nil)) (pe_op op_pow pe_int pe_int)))) pss_nil)))
        (pss_one (ps_expr (pe_bm PySem.F.plainAttrs_list PySem.F.slot_list_append PySem.F.type_list_append mt_append (pv 2) (pa_cons (pv 4) pa_nil))))))))
      (pss_one (ps_ret (pe_lc (own := [("_law_number", 4)]) (g := gName 4) (tt := tYes) rfl sc_names.nd (pi_list (pv 2)) (blkOk_by (N := ["_law_pool_here", "_law_many", "_law_numbers", "_law_k", "_law_number", "_law_again"]) (sc := defScope s_law_names) (by decide +kernel))
        (fun _ _ _ _ _ => pg_name (i := 4) sc_names.nd rfl (.inl rfl)) (fun _ _ _ _ _ => pts_nil) (fun _ _ _ _ _ => pe_call GN hr (by rfl) gN FN.kp bN .nil pass0 (pa_cons (pv 4) pa_nil)))))), ?_⟩
    refine ⟨Nat.zero_le _, fun l nl => ?_⟩
    have npl : l ≠ p := by
      obtain ⟨x, y, z, e⟩ := hp
      exact (ne_of_none e nl).symm
    -- for k in range(many)
    refine ⟨_, rfl, m, rfl, by omega, by omega, ?_⟩
    refine for_range (fun i σ H2 => ∃ (ns : List Int) (v3 v4 v5 : Option V), σ = [some (.ref p), some (.int m), some (.ref l), v3, v4, v5] ∧ H2 l = some (.lst (ns.map V.int)) ∧ ns.length = i ∧ (∀ n ∈ ns, Nm n) ∧ PoolAt H2 p ∧ SameX p H H2)
      ⟨[], none, none, none, rfl, upd_same, rfl, (fun n h => by cases h), ?_, SameX.new nl⟩ ?_ ?_
    · obtain ⟨x, y, z, e⟩ := hp
      exact ⟨x, y, z, by rw [upd_ne npl.symm]; exact e⟩
    · rintro i σ H2 hi ⟨ns, v3, v4, v5, rfl, hl, el, hn, hp2, s2⟩
      -- number = draw(pool, 26)
      refine ⟨_, rfl, p, 26, rfl, hp2, by decide, by decide, fun d x y z d0 d1 => ?_⟩
      have hp3 : PoolAt (upd H2 p (.lst [.int x, .int y, .int z])) p := ⟨x, y, z, upd_same⟩
      have hl3 : (upd H2 p (.lst [.int x, .int y, .int z])) l = some (.lst (ns.map V.int)) := by rw [upd_ne npl]; exact hl
      -- the rest behind the test
      refine ⟨fun σ H4 => ∃ n : Int, σ = [some (.ref p), some (.int m), some (.ref l), some (.int (0 + (i : Int))), some (.int n), v5] ∧ Nm n ∧ PoolAt H4 p ∧ H4 l = some (.lst (ns.map V.int)) ∧ SameX p H H4, ?_, ?_⟩
      · refine ⟨_, rfl, p, 4, rfl, hp3, by decide, by decide, fun d2 x2 y2 z2 _ _ => ?_⟩
        rw [upd_upd]
        have s4 : ∀ x y z : Int, SameX p H (upd H2 p (.lst [.int x, .int y, .int z])) := fun x y z => s2.trans SameX.at
        have hl4 : ∀ x y z : Int, (upd H2 p (.lst [.int x, .int y, .int z])) l = some (.lst (ns.map V.int)) := fun x y z => by rw [upd_ne npl]; exact hl
        refine ⟨rfl, _, rfl, ite2 (fun e => ?_) (fun e => ?_)⟩
        · refine ⟨_, rfl, _, _, rfl, rfl, ⟨by decide, by decide, by decide⟩, p, _, rfl, ⟨x2, y2, z2, upd_same⟩, by decide, by decide, fun d3 x3 y3 z3 h0 h1 => ?_⟩
          rw [upd_upd]
          exact ⟨d3, rfl, ⟨h0, h1⟩, ⟨x3, y3, z3, upd_same⟩, hl4 _ _ _, s4 _ _ _⟩
        · exact ⟨d, rfl, ⟨d0, Int.lt_trans d1 (by decide)⟩, ⟨x2, y2, z2, upd_same⟩, hl4 _ _ _, s4 _ _ _⟩
      · rintro σ H4 ⟨n, rfl, hnn, hp4, hl4, s4⟩
        -- for again in range(k)
        refine ⟨_, rfl, _, rfl, by omega, by omega, ?_⟩
        refine for_range (fun j σ H5 => ∃ (n : Int) (v5 : Option V), σ = [some (.ref p), some (.int m), some (.ref l), some (.int (0 + (i : Int))), some (.int n), v5] ∧ H5 = H4 ∧ Nm n)
          ⟨n, v5, rfl, rfl, hnn⟩ ?_ ?_
        · rintro j σ H5 hj ⟨n5, v5', rfl, rfl, hn5⟩
          refine ⟨_, rfl, _, rfl, l, _, rfl, .inl (.inl (.inl hl4)), rfl, flat_ints ns, _, rfl, ite2 (fun e => ?_) (fun e => ?_)⟩
          · refine ⟨_, rfl, _, _, rfl, rfl, .inl ⟨_, rfl, _, _, rfl, rfl, ⟨by decide, by decide, by decide⟩, _, _, rfl, rfl, by show (0 : Int) < 26 ^ 12; decide, ?_⟩⟩
            exact ⟨_, _, rfl, rfl, Int.emod_nonneg _ (by decide), Int.emod_lt_of_pos _ (by decide)⟩
          · exact ⟨n5, _, rfl, rfl, hn5⟩
        · rintro σ H5 ⟨n5, v5', rfl, rfl, hn5⟩
          -- numbers.append(number)
          refine ⟨_, rfl, .inl ⟨rfl, _, .inl (.inl hl4)⟩, _, rfl, l, _, _, rfl, rfl, hl4, ?_, ?_⟩
          · rw [List.length_map]
            exact small1000 (by omega)
          · refine ⟨ns ++ [n5], _, _, _, rfl, ?_, by rw [List.length_append, el]; rfl, fun k hk => ?_, ?_, fun b o hb e => ?_⟩
            · rw [upd_same, List.map_append]
              rfl
            · rcases List.mem_append.mp hk with z | z
              · exact hn k z
              · rw [List.mem_singleton.mp z]
                exact hn5
            · obtain ⟨x, y, z, e⟩ := hp4
              exact ⟨x, y, z, by rw [upd_ne npl.symm]; exact e⟩
            · rw [upd_ne (ne_of_none e nl)]
              exact s4 b o hb e
    · rintro σ H2 ⟨ns, v3, v4, v5, rfl, hl, el, hn, hp2, s2⟩
      -- the names
      refine ⟨_, rfl, l, rfl, ⟨_, .inl (.inl hl)⟩, fun D hD => ?_⟩
      have nDl : l ≠ D := ne_of_none hl hD
      refine lc_list (K := K) (xs := ns.map V.int) (fun i H3 => ∃ zs : List Str, H3 D = some (.lst (zs.map V.str)) ∧ zs.length = i ∧ (∀ z ∈ zs, NameOk z) ∧ Same H2 H3) ⟨[], upd_same, rfl, (fun z h => by cases h), fun b o e => by rw [upd_ne (ne_of_none e hD)]; exact e⟩
        (fun i H3 _ ⟨zs, _, _, _, s3⟩ => s3.seq (.inl (.inl hl))) ?_ ?_
      · rintro i x H3 hx ⟨zs, hD3, ez, hz, s3⟩
        obtain ⟨n, rfl, hm⟩ := get_int hx
        have hi : i < (ns.map V.int).length := (List.getElem?_eq_some_iff.mp hx).1
        rw [List.length_map] at hi
        refine ⟨rfl, _, rfl, n, rfl, (hn n hm).1, (hn n hm).2, fun z hzo => ?_⟩
        refine ⟨_, hD3, by rw [List.length_map]; exact small1000 (by omega), zs ++ [z], by rw [upd_same, List.map_append]; rfl, by rw [List.length_append, ez]; rfl, fun y hy => ?_, fun b o e => ?_⟩
        · rcases List.mem_append.mp hy with h | h
          · exact hz y h
          · rw [List.mem_singleton.mp h]
            exact hzo
        · rw [upd_ne (ne_of_none e hD)]
          exact s3 b o e
      · rintro H3 ⟨zs, hD3, ez, hz, s3⟩
        rw [List.length_map] at ez
        have hnD : H D = none := by
          cases e : H D with
          | none => rfl
          | some o =>
            by_cases hb : D = p
            · obtain ⟨x, y, z, e2⟩ := hp2
              rw [← hb, hD] at e2
              cases e2
            · have := s2 D o hb e
              rw [hD] at this
              cases this
        exact q D zs H3 hnD hD3 hz (ez.trans el) (let ⟨x, y, z, e⟩ := hp2; ⟨x, y, z, s3 _ _ e⟩) (s2.trans (SameX.of s3))
end
end KX
namespace KX
open PySem PySem.Spec PyProof.Rows L2
/-! ### steps as data -/
structure Stp where
  a : Int
  w : Str
  b : Int
deriving DecidableEq
def stpD (s : Stp) : PyData := .tuple [.int s.a, .str s.w, .int s.b]
theorem eqv_stp (s t : Stp) : PyData.eqv (stpD s) (stpD t) = decide (s = t) := by
  show (s.a == t.a && (s.w == t.w && (s.b == t.b && true))) = decide (s = t)
  rw [Bool.eq_iff_iff]
  simp only [Bool.and_eq_true, beq_iff_eq, decide_eq_true_eq, and_true]
  cases s
  cases t
  simp
def StepAt (K : PySem.W.Frag) (H : Hp) (v : V) (s : Stp) : Prop := ∃ t, v = .ref t ∧ H t = some (.tup [.int s.a, .str s.w, .int s.b])
abbrev StepsAt (K : PySem.W.Frag) (H : Hp) : List V → List Stp → Prop := Paired (StepAt K H)
section
variable {K : PySem.W.Frag} {H H' : Hp}
theorem StepAt.dp {v : V} {s : Stp} (h : StepAt K H v s) : Dp K H v (stpD s) := by
  obtain ⟨t, rfl, q⟩ := h
  exact .tup (.inl (.inl q)) (.cons (.int _) (.cons (.str _) (.cons (.int _) .nil)))
theorem StepsAt.dp : ∀ {vs : List V} {ss : List Stp}, StepsAt K H vs ss → DpAll K H vs (ss.map stpD)
  | _, _, .nil => .nil
  | _, _, .cons h t => .cons h.dp (StepsAt.dp t)
theorem NameOk.ok {z : Str} (h : NameOk z) : PyData.strOk z = true := by
  unfold PyData.strOk
  rw [← Array.all_toList]
  exact List.all_eq_true.mpr fun c hc => decide_eq_true (by have := (h.az c hc).2; omega)
theorem lay_stp {s : Stp} (h : NameOk s.w) : (stpD s).canLay0 = true := by
  show (PyData.canLay0 (.int s.a) && (PyData.canLay0 (.str s.w) && (PyData.canLay0 (.int s.b) && true))) = true
  unfold PyData.canLay0
  rw [h.ok]
  rfl
theorem dep_stp (s : Stp) : (stpD s).depth = 1 := by
  unfold stpD PyData.depth PyData.depthAll PyData.depthAll PyData.depthAll PyData.depthAll
  unfold PyData.depth
  rfl
theorem lay_stps : ∀ {ss : List Stp}, (∀ s ∈ ss, NameOk s.w) → PyData.canLayAll0 (ss.map stpD) = true
  | [], _ => by
    unfold List.map PyData.canLayAll0
    rfl
  | s :: r, h => by
    rw [List.map_cons]
    unfold PyData.canLayAll0
    rw [lay_stp (h s List.mem_cons_self), lay_stps fun x hx => h x (List.mem_cons_of_mem _ hx)]
    rfl
theorem dep_stps : ∀ ss : List Stp, PyData.depthAll (ss.map stpD) ≤ 1
  | [] => by
    unfold List.map PyData.depthAll
    decide
  | s :: r => by
    rw [List.map_cons]
    unfold PyData.depthAll
    rw [dep_stp]
    have := dep_stps r
    omega
theorem shaped_stp {s : Stp} (h : NameOk s.w) : SeqAt.shaped (stpD s) = true := by
  unfold SeqAt.shaped
  rw [lay_stp h, dep_stp]
  rfl
theorem shaped_list {ss : List Stp} (h : ∀ s ∈ ss, NameOk s.w) : SeqAt.shaped (.list (ss.map stpD)) = true := by
  unfold SeqAt.shaped
  have e1 : (PyData.list (ss.map stpD)).canLay0 = true := by
    unfold PyData.canLay0
    exact lay_stps h
  have e2 : (PyData.list (ss.map stpD)).depth ≤ 64 := by
    unfold PyData.depth
    have := dep_stps ss
    omega
  rw [e1, decide_eq_true e2]
  rfl
theorem shaped_tup {ss : List Stp} (h : ∀ s ∈ ss, NameOk s.w) : SeqAt.shaped (.tuple (ss.map stpD)) = true := by
  unfold SeqAt.shaped
  have e1 : (PyData.tuple (ss.map stpD)).canLay0 = true := by
    unfold PyData.canLay0
    exact lay_stps h
  have e2 : (PyData.tuple (ss.map stpD)).depth ≤ 64 := by
    unfold PyData.depth
    have := dep_stps ss
    omega
  rw [e1, decide_eq_true e2]
  rfl
theorem any_stp (ss : List Stp) (s : Stp) : ((ss.map stpD).any fun z => PyData.eqv z (stpD s)) = decide (s ∈ ss) := by
  induction ss with
  | nil => rfl
  | cons x r ih =>
    rw [List.map_cons, List.any_cons, ih, eqv_stp]
    rw [Bool.eq_iff_iff]
    simp only [Bool.or_eq_true, decide_eq_true_eq, List.mem_cons]
    exact ⟨fun z => z.imp (fun e => e.symm) id, fun z => z.imp (fun e => e.symm) id⟩
end
/-! ### _law_many_steps -/
def cnt (ss : List Stp) (a : Int) : Nat := (ss.filter fun s => decide (s.a = a)).length
theorem cnt_app (ss ts : List Stp) (a : Int) : cnt (ss ++ ts) a = cnt ss a + cnt ts a := by
  unfold cnt
  rw [List.filter_append, List.length_append]
theorem cnt_one (s : Stp) (a : Int) : cnt [s] a = if s.a = a then 1 else 0 := by
  unfold cnt
  by_cases e : s.a = a
  · rw [List.filter_cons_of_pos (by rw [decide_eq_true e]), if_pos e]
    rfl
  · rw [List.filter_cons_of_neg (by rw [decide_eq_false e]; decide), if_neg e]
    rfl
/-- steps of a hand over these states and names -/
structure Steps (ss : List Stp) (sts : List Int) (zs : List Str) : Prop where
  nd : ss.Nodup
  sa : ∀ s ∈ ss, s.a ∈ sts
  sb : ∀ s ∈ ss, s.b ∈ sts
  sw : ∀ s ∈ ss, s.w ∈ zs
  lv : ∀ a, cnt ss a ≤ 4
theorem Steps.nil {sts : List Int} {zs : List Str} : Steps [] sts zs := ⟨List.nodup_nil, (fun _ h => by cases h), (fun _ h => by cases h), (fun _ h => by cases h), fun a => by show 0 ≤ 4; decide⟩
theorem Steps.snoc {ss : List Stp} {sts : List Int} {zs : List Str} {s : Stp} (S : Steps ss sts zs) (n : s ∉ ss) (ha : s.a ∈ sts) (hb : s.b ∈ sts) (hw : s.w ∈ zs) (hc : cnt ss s.a < 4) : Steps (ss ++ [s]) sts zs := by
  have mem : ∀ {p : Stp → Prop}, (∀ x ∈ ss, p x) → p s → ∀ x ∈ ss ++ [s], p x := fun {p} h1 h2 x hx => by
    rcases List.mem_append.mp hx with z | z
    · exact h1 x z
    · rw [List.mem_singleton.mp z]
      exact h2
  refine ⟨List.nodup_append.mpr ⟨S.nd, (by simp), fun x hx y hy e => ?_⟩, mem S.sa ha, mem S.sb hb, mem S.sw hw, fun a => ?_⟩
  · rw [List.mem_singleton.mp hy] at e
    exact n (e ▸ hx)
  · rw [cnt_app, cnt_one]
    have := S.lv a
    by_cases e : s.a = a
    · rw [if_pos e, ← e]
      omega
    · rw [if_neg e]
      omega
section
variable {K : PySem.W.Frag} {H H' : Hp}
theorem Rd.keep {a : Addr} {o : HO} (h : ∀ b u, H b = some u → b = a → H' b = some u) (r : Rd H a o) : Rd H' a o := r.imp (fun e => h _ _ e rfl) fun ⟨q, e⟩ => ⟨q, h _ _ e rfl⟩
theorem SameX.seqL {p a : Addr} {xs : List V} (s : SameX p H H') (n : a ≠ p) (q : SqL K H a xs) : SqL K H' a xs := q.imp (Rd.keep fun b u e eb => s b u (eb ▸ n) e) id
theorem SameX.seqT' {p a : Addr} {xs : List V} (s : SameX p H H') (n : a ≠ p) (q : SqT K H a xs) : SqT K H' a xs := q.imp (Rd.keep fun b u e eb => s b u (eb ▸ n) e) id
/-- what is no tuple at p is none that a step names -/
def NoTup (H : Hp) (p : Addr) : Prop := ∀ xs, ¬ Rd H p (.tup xs)
theorem NoTup.lst {p : Addr} {xs : List V} (h : H p = some (.lst xs)) : NoTup H p := fun ys r => by
  rcases r with e | ⟨q, e⟩ <;> rw [h] at e <;> cases e
theorem NoTup.none {p : Addr} (h : H p = Option.none) : NoTup H p := fun ys r => by
  rcases r with e | ⟨q, e⟩ <;> rw [h] at e <;> cases e
theorem PoolAt.noTup {p : Addr} (h : PoolAt H p) : NoTup H p := let ⟨_, _, _, e⟩ := h; NoTup.lst e
theorem SqT.sameX {p a : Addr} {xs : List V} (n : NoTup H p) (s : SameX p H H') (q : SqT K H a xs) : SqT K H' a xs := by
  rcases q with r | q
  · have ne : a ≠ p := fun e => n xs (e ▸ r)
    exact .inl (Rd.keep (fun b u e eb => s b u (eb ▸ ne) e) r)
  · exact .inr q
theorem StepAt.sameX {p : Addr} {v : V} {s : Stp} (n : NoTup H p) (k : SameX p H H') (h : StepAt K H v s) : StepAt K H' v s := let ⟨t, e, q⟩ := h; ⟨t, e, k t _ (fun z => n _ (show Rd H p _ from Or.inl (z ▸ q))) q⟩
theorem StepsAt.sameX {p : Addr} {vs : List V} {ss : List Stp} (n : NoTup H p) (k : SameX p H H') (h : StepsAt K H vs ss) : StepsAt K H' vs ss := Paired.mapP h fun _ _ q => q.sameX n k
theorem StepsAt.same {vs : List V} {ss : List Stp} (k : Same H H') (h : StepsAt K H vs ss) : StepsAt K H' vs ss := Paired.mapP h fun _ _ ⟨t, e, q⟩ => ⟨t, e, k _ _ q⟩
theorem paired_at {α β : Type} {F : α → β → Prop} : ∀ {xs : List α} {ys : List β}, Paired F xs ys → ∀ {i : Nat} {x : α}, xs[i]? = some x → ∃ y, ys[i]? = some y ∧ F x y
  | _, _, .nil, i, x, h => by simp at h
  | _, _, .cons f t, 0, x, h => by
    simp at h
    subst h
    exact ⟨_, rfl, f⟩
  | _, _, .cons f t, i + 1, x, h => by
    rw [List.getElem?_cons_succ] at h
    obtain ⟨y, e, q⟩ := paired_at t h
    exact ⟨y, by rw [List.getElem?_cons_succ]; exact e, q⟩
end
end KX
namespace KX
open PySem PySem.Spec PyProof.Rows L2

section
variable {P : Program} {w : World} {K : PySem.W.Frag} {mg : Str → Option Value} {base : Heap}
abbrev nMany : List Str := ["_law_pool_here", "_law_names_here", "_law_states", "_law_many", "_law_steps_here", "_law_k", "_law_leaves", "_law_word", "_law_step", "_law_one"]
theorem sc_many : FnScope nMany ["_law_pool_here", "_law_names_here", "_law_states", "_law_many"] (defScope s_law_steps) := ⟨rfl, rfl, rfl, by decide +kernel, rfl, by decide +kernel, by decide +kernel⟩
def spMany (K : PySem.W.Frag) : Sp := fun vs H Q _ => ∃ (p nl sl : Addr) (m : Nat) (zs : List Str) (sts : List Int), vs = [.ref p, .ref nl, .ref sl, .int m] ∧ PoolAt H p ∧ nl ≠ p ∧ sl ≠ p ∧ SqL K H nl (zs.map V.str) ∧ SqL K H sl (sts.map V.int) ∧
  zs ≠ [] ∧ sts ≠ [] ∧ zs.length ≤ 1000 ∧ sts.length ≤ 1000 ∧ (∀ z ∈ zs, NameOk z) ∧ 1 ≤ m ∧ m ≤ 1000 ∧
  ∀ (l : Addr) (us : List V) (ss : List Stp) (H' : Hp), H l = none → H' l = some (.lst us) → StepsAt K H' us ss → Steps ss sts zs → ss ≠ [] → ss.length ≤ m → PoolAt H' p → SameX p H H' → Q (.ref l) H'
theorem hu64 {A : Around} {k : Nat} (hr : Room k A) : A.units + 64 < cLine := by
  have := hr.un
  omega
theorem hu65 {A : Around} {k : Nat} (hr : Room k A) : A.units + 65 < cLine := by
  have := hr.un
  omega
theorem StepAt.same {v : V} {s : Stp} {H H' : Hp} (k : Same H H') (h : StepAt K H v s) : StepAt K H' v s := let ⟨t, e, q⟩ := h; ⟨t, e, k _ _ q⟩
theorem get_ref {us : List V} {ss : List Stp} {H : Hp} (h : StepsAt K H us ss) {i : Nat} {x : V} (e : us[i]? = some x) : ∃ s t, x = .ref t ∧ ss[i]? = some s ∧ SqT K H t [.int s.a, .str s.w, .int s.b] := by
  obtain ⟨s, es, t, et, q⟩ := paired_at h e
  exact ⟨s, t, et, es, .inl (.inl q)⟩
theorem cnt_take {ss : List Stp} {i : Nat} {s : Stp} (a : Int) (e : ss[i]? = some s) : cnt (ss.take (i + 1)) a = cnt (ss.take i) a + if s.a = a then 1 else 0 := by
  rw [List.take_add_one, e, cnt_app]
  show _ + cnt [s] a = _
  rw [cnt_one]
theorem at_mod {α : Type} {xs : List α} (f : α → V) {d : Int} (h0 : 0 ≤ d) (h1 : d < (xs.length : Nat)) : ∃ x, atI (xs.map f) d = some (f x) ∧ x ∈ xs := by
  obtain ⟨n, rfl⟩ := Int.eq_ofNat_of_zero_le h0
  have hn : n < xs.length := by omega
  exact ⟨xs[n], atI_nat (by rw [List.getElem?_map, List.getElem?_eq_getElem hn]; rfl), List.getElem_mem hn⟩
theorem ok_many {f fD : Addr} {fd fdD : FuncData} (F : Fun K "_law_steps" "_law_steps" s_law_steps f fd) (B : Blt mg) (FD : Fun K "_law_draw" "_law_draw" s_law_draw fD fdD) (bD : Binds K fdD ["_law_pool_here", "_law_many"] []) (gD : mg "_law_draw" = some (.ref fD)) :
    FnOk P w K mg base CX0 2 f fd ["_law_pool_here", "_law_names_here", "_law_states", "_law_many"] (spMany K) := by
  have GD : FnOk P w K mg base CX0 1 fD fdD ["_law_pool_here", "_law_many"] spDraw := ok_draw FD B
  refine F.ok sc_many (fun vs H Q E h => ?_) (fun cdv A outer s H vs Q E hr h => ?_)
  · obtain ⟨p, nl, sl, m, zs, sts, rfl, _⟩ := h
    rfl
  · obtain ⟨p, nl, sl, m, zs, sts, rfl, hp, npn, nps, hnl, hsl, hz0, hs0, hz1, hs1, hzo, hm1, hm2, q⟩ := h
    refine ⟨_, pss_cons (ps_set (i := 4) sc_many.nd rfl (.inl rfl) (pe_lst pa_nil))
      (pss_cons (ps_for PassesOwn.never rfl (pi_range1 rfl B.range (pa_cons (pv 3) pa_nil)) (pg_name (i := 5) sc_many.nd rfl (.inl rfl))
        (pss_cons (ps_set (i := 6) sc_many.nd rfl (.inr rfl) (pe_ix ix_list (pv 2) (pe_call GD hr (by rfl) gD FD.kp bD .nil pass0 (pa_cons (pv 0) (pa_cons (pe_callB call_len_seq (by rfl) B.len PySem.boot_len (pa_cons (pv 2) pa_nil)) pa_nil))) (fun _ _ => rfl)))
        (pss_cons (ps_set (i := 7) sc_many.nd rfl (.inl rfl) (pe_ix ix_list (pv 1) (pe_call GD hr (by rfl) gD FD.kp bD .nil pass0 (pa_cons (pv 0) (pa_cons (pe_callB call_len_seq (by rfl) B.len PySem.boot_len (pa_cons (pv 1) pa_nil)) pa_nil))) (fun _ _ => rfl)))
        (pss_cons (ps_set (i := 8) sc_many.nd rfl (.inl rfl) (pe_tup (pa_cons (pv 6) (pa_cons (pv 7)
          (pa_cons (pe_ix ix_list (pv 2) (pe_call GD hr (by rfl) gD FD.kp bD .nil pass0 (pa_cons (pv 0) (pa_cons (pe_callB call_len_seq (by rfl) B.len PySem.boot_len (pa_cons (pv 2) pa_nil)) pa_nil))) (fun _ _ => rfl)) pa_nil)))))
        (pss_one (ps_if (PW.pt (pw_and (pt_cmpR (op_notInD (hu65 hr)) (pv 8) (pv 4) rfl) (pw_and1 (pt_cmpR op_lt (pe_callB call_len_seq (by rfl) B.len PySem.boot_len (pa_cons
            (pe_lc (own := [("_law_one", 9)]) (g := gName 9) rfl sc_many.nd (pi_list (pv 4)) (blkOk_by (N := nMany) (sc := defScope s_law_steps) (by decide +kernel))
              (fun _ _ _ _ _ => pg_name (i := 9) sc_many.nd rfl (.inl rfl)) (fun _ _ _ _ _ => pts_one (pt_cmpR op_eq (pe_ix (r := rIxT K) ix_tup (pv 9) pe_int (fun _ _ => rfl)) (pv 6) (nomark _))) (fun _ _ _ _ _ => pv 9)) pa_nil)) pe_int (nomark _)))))
          (pss_one (ps_expr (pe_bm PySem.F.plainAttrs_list PySem.F.slot_list_append PySem.F.type_list_append mt_append (pv 4) (pa_cons (pv 8) pa_nil)))) pss_nil))))))
      (pss_one (ps_ret (pv 4)))), ?_⟩
    refine ⟨Nat.zero_le _, fun l nl0 => ?_⟩
    have npl : l ≠ p := by
      obtain ⟨x, y, z, e⟩ := hp
      exact (ne_of_none e nl0).symm
    refine ⟨_, rfl, m, rfl, by omega, by omega, ?_⟩
    refine for_range (fun i σ H2 => ∃ (us : List V) (ss : List Stp) (v5 v6 v7 v8 v9 : Option V), σ = [some (.ref p), some (.ref nl), some (.ref sl), some (.int m), some (.ref l), v5, v6, v7, v8, v9] ∧ H2 l = some (.lst us) ∧ StepsAt K H2 us ss ∧ Steps ss sts zs ∧ ss.length ≤ i ∧ (0 < i → ss ≠ []) ∧ PoolAt H2 p ∧ SameX p H H2)
      ⟨[], [], none, none, none, none, none, rfl, upd_same, .nil, Steps.nil, Nat.le_refl _, (fun h => absurd h (Nat.lt_irrefl _)), ?_, SameX.new nl0⟩ ?_ ?_
    · obtain ⟨x, y, z, e⟩ := hp
      exact ⟨x, y, z, by rw [upd_ne npl.symm]; exact e⟩
    · rintro i σ H2 hi ⟨us, ss, v5, v6, v7, v8, v9, rfl, hl, hss, S, hlen, hne, hp2, s2⟩
      have hi' : i < m := by
        have e : ((m : Nat) : Int).toNat = m := Int.toNat_natCast m
        omega
      have zl : 0 < zs.length := List.length_pos_iff.mpr hz0
      have tl : 0 < sts.length := List.length_pos_iff.mpr hs0
      -- leaves
      refine ⟨_, rfl, _, rfl, _, rfl, sl, _, rfl, .inl (s2.seqL nps hsl), p, _, rfl, hp2, by rw [List.length_map]; omega, by rw [List.length_map]; omega, fun d x y z d0 d1 => ?_⟩
      have s3 : SameX p H (upd H2 p (.lst [.int x, .int y, .int z])) := s2.trans SameX.at
      rw [List.length_map] at d1
      obtain ⟨a, ea, ha⟩ := at_mod V.int d0 d1
      refine ⟨sl, _, _, _, rfl, rfl, s3.seqL nps hsl, ea, ?_⟩
      -- word
      refine ⟨_, rfl, _, rfl, _, rfl, nl, _, rfl, .inl (s3.seqL npn hnl), p, _, rfl, ⟨x, y, z, upd_same⟩, by rw [List.length_map]; omega, by rw [List.length_map]; omega, fun d2 x2 y2 z2 d20 d21 => ?_⟩
      rw [List.length_map] at d21
      rw [upd_upd]
      have s4 : SameX p H (upd H2 p (.lst [.int x2, .int y2, .int z2])) := s2.trans SameX.at
      obtain ⟨wd, ew, hw⟩ := at_mod V.str d20 d21
      refine ⟨nl, _, _, _, rfl, rfl, s4.seqL npn hnl, ew, ?_⟩
      -- step
      refine ⟨_, rfl, _, rfl, _, rfl, _, rfl, _, rfl, sl, _, rfl, .inl (s4.seqL nps hsl), p, _, rfl, ⟨x2, y2, z2, upd_same⟩, by rw [List.length_map]; omega, by rw [List.length_map]; omega, fun d3 x3 y3 z3 d30 d31 => ?_⟩
      rw [List.length_map] at d31
      rw [upd_upd]
      have s5 : SameX p H (upd H2 p (.lst [.int x3, .int y3, .int z3])) := s2.trans SameX.at
      have s25 : SameX p H2 (upd H2 p (.lst [.int x3, .int y3, .int z3])) := SameX.at
      obtain ⟨b, eb, hb⟩ := at_mod V.int d30 d31
      refine ⟨sl, _, _, _, rfl, rfl, s5.seqL nps hsl, eb, by show 3 ≤ sizeLine; decide, fun t nt => ?_⟩
      have hp5 : PoolAt (upd H2 p (.lst [.int x3, .int y3, .int z3])) p := ⟨x3, y3, z3, upd_same⟩
      have hl5 : (upd H2 p (.lst [.int x3, .int y3, .int z3])) l = some (.lst us) := by rw [upd_ne npl]; exact hl
      have hss5 : StepsAt K (upd H2 p (.lst [.int x3, .int y3, .int z3])) us ss := hss.sameX hp2.noTup s25
      generalize upd H2 p (.lst [.int x3, .int y3, .int z3]) = H5 at s5 hp5 hl5 hss5 nt ⊢
      have s56 : Same H5 (upd H5 t (.tup [.int a, .str wd, .int b])) := fun c o e => by
        rw [upd_ne (ne_of_none e nt)]
        exact e
      have tt : upd H5 t (.tup [.int a, .str wd, .int b]) t = some (.tup [.int a, .str wd, .int b]) := upd_same
      have hl6 := s56 _ _ hl5
      have hss6 := hss5.same s56
      have hp6 : PoolAt (upd H5 t (.tup [.int a, .str wd, .int b])) p := let ⟨x, y, z, e⟩ := hp5; ⟨x, y, z, s56 _ _ e⟩
      have s6 := s5.trans (SameX.of s56)
      generalize upd H5 t (.tup [.int a, .str wd, .int b]) = H6 at tt hl6 hss6 hp6 s6 ⊢
      have hst : StepAt K H6 (.ref t) ⟨a, wd, b⟩ := ⟨t, rfl, tt⟩
      have wok : ∀ x ∈ ss, NameOk x.w := fun x hx => hzo _ (S.sw x hx)
      -- if step not in steps and ..
      refine ⟨_, rfl, _, rfl, stpD ⟨a, wd, b⟩, ss.map stpD, hst.dp, .lst (.inl (.inl hl6)) hss6.dp, shaped_stp (hzo wd hw), shaped_list wok, _, rfl, ?_⟩
      rw [any_stp]
      by_cases e : (⟨a, wd, b⟩ : Stp) ∈ ss
      · rw [decide_eq_true e]
        exact ⟨us, ss, _, _, _, _, _, rfl, hl6, hss6, S, by omega, (fun _ z => List.not_mem_nil (z ▸ e)), hp6, s6⟩
      · rw [decide_eq_false e]
        refine ⟨_, rfl, l, rfl, ⟨_, .inl (.inl hl6)⟩, fun D hD => ?_⟩
        refine lc_list (K := K) (xs := us) (fun i H3 => ∃ acc, H3 D = some (.lst acc) ∧ acc.length = cnt (ss.take i) a ∧ acc.length ≤ i ∧ Same H6 H3) ⟨[], upd_same, rfl, Nat.le_refl _, fun c o e => by rw [upd_ne (ne_of_none e hD)]; exact e⟩
          (fun i H3 _ ⟨acc, _, _, _, s3⟩ => s3.seq (.inl (.inl hl6))) ?_ ?_
        · rintro j x H3 hx ⟨acc, hD3, ez, hj, s3⟩
          obtain ⟨st, t1, rfl, es, hq⟩ := get_ref (hss6.same s3) hx
          have hjl : j < ss.length := (List.getElem?_eq_some_iff.mp es).1
          refine ⟨rfl, _, rfl, t1, _, _, _, rfl, rfl, hq, atI_nat (j := 0) rfl, _, rfl, rfl, _, rfl, ?_⟩
          by_cases ea : st.a = a
          · rw [decide_eq_true (congrArg V.int ea)]
            refine ⟨_, rfl, acc, hD3, small1000 (by omega), acc ++ [.ref t1], upd_same, ?_, ?_, fun c o e => ?_⟩
            · rw [cnt_take a es, if_pos ea, List.length_append, ez]
              rfl
            · rw [List.length_append]
              show acc.length + 1 ≤ _
              omega
            · rw [upd_ne (ne_of_none e hD)]
              exact s3 c o e
          · rw [decide_eq_false fun z => ea (V.int.inj z)]
            exact ⟨acc, hD3, by rw [cnt_take a es, if_neg ea]; exact ez, by omega, s3⟩
        · rintro H3 ⟨acc, hD3, ez, hj, s3⟩
          have lu : us.length = ss.length := hss6.length
          rw [lu, List.take_length] at ez
          have hl3 := s3 _ _ hl6
          refine ⟨D, _, rfl, .inl (.inl (.inl hD3)), _, _, rfl, rfl, _, rfl, ite2 (fun e4 => ?_) (fun e4 => ?_)⟩
          · have c4 : cnt ss a < 4 := by
              have z : ((acc.length : Nat) : Int) < 4 := of_decide_eq_true e4
              omega
            refine ⟨_, rfl, .inl ⟨rfl, _, .inl (.inl hl3)⟩, _, rfl, l, _, _, rfl, rfl, hl3, small1000 (by omega), ?_⟩
            have nt3 : NoTup H3 l := NoTup.lst hl3
            have sx : SameX l H3 (upd H3 l (.lst (us ++ [.ref t]))) := SameX.at
            refine ⟨us ++ [.ref t], ss ++ [⟨a, wd, b⟩], _, _, _, _, _, rfl, upd_same, Paired.snoc ((hss6.same s3).sameX nt3 sx) (((hst.same s3).sameX nt3 sx)), S.snoc e ha hb hw c4, by rw [List.length_append]; show ss.length + 1 ≤ _; omega, fun _ => by simp, ?_, fun c o hc e => ?_⟩
            · obtain ⟨x, y, z, e⟩ := hp6
              exact ⟨x, y, z, by rw [upd_ne npl.symm]; exact s3 _ _ e⟩
            · rw [upd_ne (ne_of_none e nl0)]
              exact s3 _ _ (s6 c o hc e)
          · refine ⟨us, ss, _, _, _, _, _, rfl, hl3, hss6.same s3, S, by omega, fun h0 => ?_, (let ⟨x, y, z, e⟩ := hp6; ⟨x, y, z, s3 _ _ e⟩), s6.trans (SameX.of s3)⟩
            by_cases h1 : 0 < i
            · exact hne h1
            · intro z
              rw [z] at ez
              have ez : acc.length = 0 := ez
              rw [ez] at e4
              exact e4 (decide_eq_true (by decide))
    · rintro σ H2 ⟨us, ss, v5, v6, v7, v8, v9, rfl, hl, hss, S, hlen, hne, hp2, s2⟩
      have em : ((m : Nat) : Int).toNat = m := Int.toNat_natCast m
      exact ⟨_, rfl, q l us ss H2 nl0 hl hss S (hne (by omega)) (by omega) hp2 s2⟩
end
end KX
namespace KX
open PySem PySem.Spec PyProof.Rows L2
theorem not_lt1 {c d : Nat} (h : d ≤ c) : ¬ ([c] < [d]) := fun z => by
  cases z with
  | rel q => exact absurd q (by omega)
  | cons q => cases q
/-! ### kinds: is_whole, is_state, is_name, is_row; is_step -/
structure Kin (mg : Str → Option Value) : Prop where
  bool : mg "bool" = none
  str : mg "str" = none
  letters : ∃ t, mg "MOST_LETTERS" = some (.int 12 t)
  state : ∃ t, mg "LAST_STATE" = some (.int 99 t)
theorem tyT {K : PySem.W.Frag} {H : Hp} {a : Addr} {xs : List V} (h : SqT K H a xs) : TyX K H (.ref a) (.type "tuple") := by
  rcases h with (e | ⟨o, e⟩) | ⟨o, its, n, e, c, _⟩
  · exact .base (.tup e)
  · exact .fTuple e
  · exact .kTuple e c
theorem tyL {K : PySem.W.Frag} {H : Hp} {a : Addr} {xs : List V} (h : SqL K H a xs) : TyX K H (.ref a) (.type "list") := by
  rcases h with (e | ⟨o, e⟩) | ⟨o, its, n, e, c, _⟩
  · exact .base (.lst e)
  · exact .base (.frz e)
  · exact .kList e c
section
variable {P : Program} {w : World} {K : PySem.W.Frag} {mg : Str → Option Value} {base : Heap}
theorem sc_whole : FnScope ["value"] ["value"] (defScope s_is_whole) := ⟨rfl, rfl, rfl, by decide +kernel, rfl, by decide +kernel, by decide +kernel⟩
def spWhole : Sp := fun vs H Q _ => ∃ i : Int, vs = [.int i] ∧ Q (.bl true) H
theorem ok_whole {f : Addr} {fd : FuncData} (F : Fun K "is_whole" "is_whole" s_is_whole f fd) (B : Blt mg) (N : Kin mg) : FnOk P w K mg base CX0 1 f fd ["value"] spWhole := by
  refine F.ok sc_whole (fun vs H Q E h => ?_) (fun cdv A outer s H vs Q E hr h => ?_)
  · obtain ⟨i, rfl, _⟩ := h
    rfl
  · obtain ⟨i, rfl, q⟩ := h
    refine ⟨_, pss_one (ps_ret (pe_and (pe_callB call_isi (by rfl) B.isinstance (by decide +kernel) (pa_cons (pv 0) (pa_cons (pe_bltn rfl B.int (by decide +kernel) (v := .ty "int") rfl) pa_nil)))
      (pe_one (pe_not (pe_callB call_isi (by rfl) B.isinstance (by decide +kernel) (pa_cons (pv 0) (pa_cons (pe_bltn rfl N.bool (by decide +kernel) (v := .ty "bool") rfl) pa_nil))))))), ?_⟩
    refine ⟨_, rfl, _, _, _, _, true, rfl, .ty "int", .base (.int i), kit_ty (by decide +kernel), true, rfl, ?_⟩
    exact ⟨_, rfl, _, _, _, _, false, rfl, .ty "bool", .base (.int i), kit_ty (by decide +kernel), _, rfl, q⟩
theorem sc_state : FnScope ["value"] ["value"] (defScope s_is_state) := ⟨rfl, rfl, rfl, by decide +kernel, rfl, by decide +kernel, by decide +kernel⟩
def spState : Sp := fun vs H Q _ => ∃ i : Int, vs = [.int i] ∧ 0 ≤ i ∧ i ≤ 99 ∧ Q (.bl true) H
theorem ok_state {f fW : Addr} {fd fdW : FuncData} (F : Fun K "is_state" "is_state" s_is_state f fd) (B : Blt mg) (N : Kin mg) (FW : Fun K "is_whole" "is_whole" s_is_whole fW fdW) (bW : Binds K fdW ["value"] []) (gW : mg "is_whole" = some (.ref fW)) : FnOk P w K mg base CX0 2 f fd ["value"] spState := by
  have GW : FnOk P w K mg base CX0 1 fW fdW ["value"] spWhole := ok_whole FW B N
  obtain ⟨t99, e99⟩ := N.state
  refine F.ok sc_state (fun vs H Q E h => ?_) (fun cdv A outer s H vs Q E hr h => ?_)
  · obtain ⟨i, rfl, _⟩ := h
    rfl
  · obtain ⟨i, rfl, h0, h1, q⟩ := h
    refine ⟨_, pss_one (ps_ret (pe_and (pe_call GW hr (by rfl) gW FW.kp bW .nil pass0 (pa_cons (pv 0) pa_nil))
      (pe_one (pe_chain op_le op_le pe_int (pv 0) (pe_glob rfl e99 (v := .int 99) ⟨_, rfl⟩))))), ?_⟩
    refine ⟨_, rfl, i, rfl, true, rfl, ?_⟩
    refine ⟨_, rfl, _, _, rfl, rfl, _, rfl, ?_⟩
    rw [decide_eq_true h0]
    refine ⟨_, _, rfl, rfl, ?_⟩
    show Q (.bl (decide (i ≤ 99))) H
    rw [decide_eq_true h1]
    exact q
theorem sc_isname : FnScope ["value", "letter"] ["value"] (defScope s_is_name) := ⟨rfl, rfl, rfl, by decide +kernel, rfl, by decide +kernel, by decide +kernel⟩
def spIsName : Sp := fun vs H Q _ => ∃ z : Str, vs = [.str z] ∧ NameOk z ∧ ∀ H', Same H H' → Q (.bl true) H'
theorem ok_isname {f : Addr} {fd : FuncData} (F : Fun K "is_name" "is_name" s_is_name f fd) (B : Blt mg) (N : Kin mg) : FnOk P w K mg base CX0 1 f fd ["value"] spIsName := by
  obtain ⟨t12, e12⟩ := N.letters
  refine F.ok sc_isname (fun vs H Q E h => ?_) (fun cdv A outer s H vs Q E hr h => ?_)
  · obtain ⟨z, rfl, _⟩ := h
    rfl
  · obtain ⟨z, rfl, hz, q⟩ := h
    refine ⟨_, pss_cons (ps_if (PW.pt (pw_or (pt_not (pt_val (pe_callB call_isi (by rfl) B.isinstance (by decide +kernel) (pa_cons (pv 0) (pa_cons (pe_bltn rfl N.str (by decide +kernel) (v := .ty "str") rfl) pa_nil)))))
        (pw_or1 (pt_not (pt_chain op_le op_le pe_int (pe_callB call_len_str (by rfl) B.len PySem.boot_len (pa_cons (pv 0) pa_nil)) (pe_glob rfl e12 (v := .int 12) ⟨_, rfl⟩)))))) (pss_one (ps_ret pe_bl)) pss_nil)
      (pss_one (ps_ret (pe_callB (cr_all rfl) (by rfl) B.all (by decide +kernel) (pa_cons (pe_lc (own := [("letter", 1)]) (g := gName 1) (tt := tYes) rfl sc_isname.nd (pi_str (pv 0)) (blkOk_by (N := ["value", "letter"]) (sc := defScope s_is_name) (by decide +kernel))
        (fun _ _ _ _ _ => pg_name (i := 1) sc_isname.nd rfl (.inl rfl)) (fun _ _ _ _ _ => pts_nil) (fun _ _ _ _ _ => pe_chain op_le_str op_le_str pe_str (pv 1) pe_str)) pa_nil)))), ?_⟩
    have lz : z.length ≤ sizeLine := by
      rw [len_cps, sizeLine_eq]
      have := hz.hi
      omega
    have l1 : (1 : Int) ≤ (z.length : Nat) := by
      rw [len_cps]
      have := hz.lo
      omega
    have l2 : ((z.length : Nat) : Int) ≤ 12 := by
      rw [len_cps]
      have := hz.hi
      omega
    refine ⟨_, rfl, _, _, _, _, true, rfl, .ty "str", .base (.str z), kit_ty (by decide +kernel), true, rfl, ?_⟩
    refine ⟨_, rfl, z, rfl, lz, _, _, rfl, rfl, _, rfl, ?_⟩
    rw [decide_eq_true l1]
    refine ⟨_, _, rfl, rfl, _, rfl, ?_⟩
    show if (!decide (((z.length : Nat) : Int) ≤ 12)) = true then _ else _
    rw [decide_eq_true l2]
    -- all([..])
    refine ⟨_, rfl, z, rfl, fun D hD => ?_⟩
    refine lc_it walk_str (fun i H3 => ∃ bs : List Bool, H3 D = some (.lst (bs.map V.bl)) ∧ bs.all id = true ∧ bs.length = i ∧ Same H H3) ⟨[], upd_same, rfl, rfl, fun b o e => by rw [upd_ne (ne_of_none e hD)]; exact e⟩ (fun _ _ _ _ => True.intro) ?_ ?_
    · rintro i x H3 H4 hi ⟨bs, hD3, hall, hl, s3⟩ ⟨rfl, c, hc, rfl⟩
      have hm : c ∈ z.cps.toList := Array.mem_toList_iff.mpr (Array.mem_of_getElem? hc)
      obtain ⟨c1, c2⟩ := hz.az c hm
      refine ⟨rfl, _, rfl, _, _, rfl, rfl, _, rfl, ?_⟩
      have e1 : (!decide ((⟨#[c]⟩ : Str).cps.toList < ("a" : Str).cps.toList)) = true := by
        rw [show ("a" : Str).cps.toList = [97] by decide +kernel]
        rw [decide_eq_false (not_lt1 c1)]
        rfl
      have e2 : (!decide (("z" : Str).cps.toList < (⟨#[c]⟩ : Str).cps.toList)) = true := by
        rw [show ("z" : Str).cps.toList = [122] by decide +kernel]
        rw [decide_eq_false (not_lt1 c2)]
        rfl
      rw [e1]
      refine ⟨_, _, rfl, rfl, ?_⟩
      rw [e2]
      have hsz : z.cps.size ≤ 12 := by rw [← Array.length_toList]; exact hz.hi
      refine ⟨_, hD3, small1000 (by rw [List.length_map]; omega), bs ++ [true], by rw [upd_same, List.map_append]; rfl, ?_, by rw [List.length_append, hl]; rfl, fun b o e => ?_⟩
      · rw [List.all_append, hall]
        rfl
      · rw [upd_ne (ne_of_none e hD)]
        exact s3 b o e
    · rintro H3 ⟨bs, hD3, hall, hl, s3⟩
      refine ⟨D, bs, rfl, .inl (.inl hD3), ?_⟩
      rw [hall]
      exact q H3 s3
theorem sc_row : FnScope ["value"] ["value"] (defScope s_is_row) := ⟨rfl, rfl, rfl, by decide +kernel, rfl, by decide +kernel, by decide +kernel⟩
/-- at a stands a list or a tuple of us -/
def Seq (K : PySem.W.Frag) (H : Hp) (a : Addr) (us : List V) : Prop := SqL K H a us ∨ SqT K H a us
def spRow (K : PySem.W.Frag) : Sp := fun vs H Q _ => ∃ (a : Addr) (us : List V), vs = [.ref a] ∧ Seq K H a us ∧ ∀ H', Same H H' → Q (.bl true) H'
theorem ok_row {f : Addr} {fd : FuncData} (F : Fun K "is_row" "is_row" s_is_row f fd) (B : Blt mg) : FnOk P w K mg base CX0 1 f fd ["value"] (spRow K) := by
  refine F.ok sc_row (fun vs H Q E h => ?_) (fun cdv A outer s H vs Q E hr h => ?_)
  · obtain ⟨a, us, rfl, _⟩ := h
    rfl
  · obtain ⟨a, us, rfl, hS, q⟩ := h
    refine ⟨_, pss_one (ps_ret (pe_callB call_isiT (by rfl) B.isinstance (by decide +kernel) (pa_cons (pv 0) (pa_cons (pe_tup (pa_cons (pe_bltn rfl B.list (by decide +kernel) (v := .ty "list") rfl) (pa_cons (pe_bltn rfl B.tuple (by decide +kernel) (v := .ty "tuple") rfl) pa_nil))) pa_nil)))), ?_⟩
    refine ⟨_, rfl, by show 2 ≤ sizeLine; decide, fun T hT => ?_⟩
    have sm : Same H (upd H T (.tup [.ty "list", .ty "tuple"])) := fun b o e => by
      rw [upd_ne (ne_of_none e hT)]
      exact e
    have cl : Paired ClsV [V.ty "list", .ty "tuple"] [.type "list", .type "tuple"] := .cons (.ty _) (.cons (.ty _) .nil)
    rcases hS with h | h
    · exact ⟨_, T, _, _, _, true, rfl, upd_same, cl, tyL (sm.seq h), kitAny_cons (kit_ty (b := "list") (r := true) (by decide +kernel)) (fun z => nomatch z) (fun _ => rfl), q _ sm⟩
    · refine ⟨_, T, _, _, _, true, rfl, upd_same, cl, tyT (h.imp (Rd.keep fun b u e _ => sm b u e) id), kitAny_cons (kit_ty (b := "list") (r := false) (by decide +kernel)) (fun _ => ?_) (fun z => nomatch z), q _ sm⟩
      exact kitAny_cons (kit_ty (b := "tuple") (r := true) (by decide +kernel)) (fun z => nomatch z) (fun _ => rfl)
theorem sc_step : FnScope ["value"] ["value"] (defScope s_is_step) := ⟨rfl, rfl, rfl, by decide +kernel, rfl, by decide +kernel, by decide +kernel⟩
/-- a step that may stand in a hand -/
structure StpOk (s : Stp) : Prop where
  a0 : 0 ≤ s.a
  a1 : s.a ≤ 99
  w : NameOk s.w
  b0 : 0 ≤ s.b
  b1 : s.b ≤ 99
def spStep (K : PySem.W.Frag) : Sp := fun vs H Q _ => ∃ (v : V) (st : Stp), vs = [v] ∧ StepAt K H v st ∧ StpOk st ∧ ∀ H', Same H H' → Q (.bl true) H'
/-- what the kinds' defs are -/
structure KinD (K : PySem.W.Frag) (mg : Str → Option Value) (fW fS fN : Addr) (fdW fdS fdN : FuncData) : Prop where
  FW : Fun K "is_whole" "is_whole" s_is_whole fW fdW
  bW : Binds K fdW ["value"] []
  gW : mg "is_whole" = some (.ref fW)
  FS : Fun K "is_state" "is_state" s_is_state fS fdS
  bS : Binds K fdS ["value"] []
  gS : mg "is_state" = some (.ref fS)
  FN : Fun K "is_name" "is_name" s_is_name fN fdN
  bN : Binds K fdN ["value"] []
  gN : mg "is_name" = some (.ref fN)
theorem ok_step {f fW fS fN : Addr} {fd fdW fdS fdN : FuncData} (F : Fun K "is_step" "is_step" s_is_step f fd) (B : Blt mg) (N : Kin mg) (D : KinD K mg fW fS fN fdW fdS fdN) : FnOk P w K mg base CX0 3 f fd ["value"] (spStep K) := by
  have GS : FnOk P w K mg base CX0 2 fS fdS ["value"] spState := ok_state D.FS B N D.FW D.bW D.gW
  have GN : FnOk P w K mg base CX0 1 fN fdN ["value"] spIsName := ok_isname D.FN B N
  refine F.ok sc_step (fun vs H Q E h => ?_) (fun cdv A outer s H vs Q E hr h => ?_)
  · obtain ⟨v, st, rfl, _⟩ := h
    rfl
  · obtain ⟨v, st, rfl, ⟨t, rfl, ht0⟩, o, q⟩ := h
    have ht : SqT K H t [.int st.a, .str st.w, .int st.b] := .inl (.inl ht0)
    refine ⟨_, pss_cons (ps_if (PW.pt (pw_or (pt_not (pt_val (pe_callB call_isi (by rfl) B.isinstance (by decide +kernel) (pa_cons (pv 0) (pa_cons (pe_bltn rfl B.tuple (by decide +kernel) (v := .ty "tuple") rfl) pa_nil)))))
        (pw_or1 (pt_cmpR op_ne (pe_callB call_len_seq (by rfl) B.len PySem.boot_len (pa_cons (pv 0) pa_nil)) pe_int (nomark _))))) (pss_one (ps_ret pe_bl)) pss_nil)
      (pss_one (ps_ret (pe_and (pe_call GS hr (by rfl) D.gS D.FS.kp D.bS .nil pass0 (pa_cons (pe_ix ix_tup (pv 0) pe_int (fun _ _ => rfl)) pa_nil))
        (pe_and (pe_call GN (hr.mono (by decide)) (by rfl) D.gN D.FN.kp D.bN .nil pass0 (pa_cons (pe_ix ix_tup (pv 0) pe_int (fun _ _ => rfl)) pa_nil))
        (pe_one (pe_call GS hr (by rfl) D.gS D.FS.kp D.bS .nil pass0 (pa_cons (pe_ix ix_tup (pv 0) pe_int (fun _ _ => rfl)) pa_nil))))))), ?_⟩
    refine ⟨_, rfl, _, _, _, _, true, rfl, .ty "tuple", tyT ht, kit_ty (by decide +kernel), true, rfl, ?_⟩
    refine ⟨_, rfl, t, _, rfl, .inr ht, rfl, _, rfl, ?_⟩
    refine ⟨_, rfl, t, _, _, .int st.a, rfl, rfl, ht, atI_nat (j := 0) rfl, st.a, rfl, o.a0, o.a1, true, rfl, ?_⟩
    refine ⟨_, rfl, t, _, _, .str st.w, rfl, rfl, ht, atI_nat (j := 1) rfl, st.w, rfl, o.w, fun H1 s1 => ⟨true, rfl, ?_⟩⟩
    exact ⟨_, rfl, t, _, _, .int st.b, rfl, rfl, ht.imp (Rd.keep fun b u e _ => s1 b u e) id, atI_nat (j := 2) rfl, st.b, rfl, o.b0, o.b1, q _ s1⟩
end
end KX
namespace KX
open PySem PySem.Spec PyProof.Rows L2
/-! ### check_steps, exits_of -/
structure Lim (mg : Str → Option Value) : Prop where
  steps : ∃ t, mg "MOST_STEPS" = some (.int 24 t)
  leaving : ∃ t, mg "MOST_LEAVING" = some (.int 4 t)
  words : ∃ t, mg "MOST_WORDS_hands" = some (.int 8 t)
  states : ∃ t, mg "MOST_STATES" = some (.int 8 t)
def keyS (s : Stp) : List Key := [.inl s.a, .inr s.w, .inl s.b]
theorem keyS_inj {s t : Stp} (h : keyS s = keyS t) : s = t := by
  unfold keyS at h
  cases s
  cases t
  simp at h
  obtain ⟨h1, h2, h3⟩ := h
  subst h1 h2 h3
  rfl
theorem Seq.same {K : PySem.W.Frag} {H H' : Hp} {a : Addr} {us : List V} (k : Same H H') (h : Seq K H a us) : Seq K H' a us := h.imp (fun q => k.seq q) fun q => q.imp (Rd.keep fun b u e _ => k b u e) id
theorem get_tup {K : PySem.W.Frag} {us : List V} {ss : List Stp} {H : Hp} (h : StepsAt K H us ss) {i : Nat} {x : V} (e : us[i]? = some x) : ∃ s t, x = .ref t ∧ ss[i]? = some s ∧ H t = some (.tup [.int s.a, .str s.w, .int s.b]) := by
  obtain ⟨s, es, t, et, q⟩ := paired_at h e
  exact ⟨s, t, et, es, q⟩
theorem same_new {H : Hp} {p : Addr} {o : HO} (h : H p = none) : Same H (upd H p o) := fun b u e => by
  rw [upd_ne (ne_of_none e h)]
  exact e
/-- steps that a hand may have -/
structure Good (ss : List Stp) : Prop where
  ok : ∀ s ∈ ss, StpOk s
  nd : ss.Nodup
  lv : ∀ a, cnt ss a ≤ 4
  lo : 1 ≤ ss.length
  hi : ss.length ≤ 24
theorem take_new {ss : List Stp} (nd : ss.Nodup) {i : Nat} {s : Stp} (e : ss[i]? = some s) : s ∉ ss.take i := fun h => by
  obtain ⟨hi, es⟩ := List.getElem?_eq_some_iff.mp e
  have q : ss = ss.take i ++ s :: ss.drop (i + 1) := by
    rw [← es, ← List.drop_eq_getElem_cons hi, List.take_append_drop]
  rw [q] at nd
  exact (List.nodup_append.mp nd).2.2 s h s List.mem_cons_self rfl
theorem cnt_take_le (ss : List Stp) (i : Nat) (a : Int) : cnt (ss.take i) a ≤ cnt ss a := by
  have q := cnt_app (ss.take i) (ss.drop i) a
  rw [List.take_append_drop] at q
  omega
theorem putK_in {κ : Type} [DecidableEq κ] {kvs : List (κ × V)} {k : κ} {v : V} {p : κ × V} (h : p ∈ putK kvs k v) : p ∈ kvs ∨ p.2 = v := by
  unfold putK at h
  split at h
  · obtain ⟨q, hq, e⟩ := List.mem_map.mp h
    split at e
    · exact .inr (by rw [← e])
    · exact .inl (e ▸ hq)
  · rcases List.mem_append.mp h with h | h
    · exact .inl h
    · exact .inr (by rw [List.mem_singleton.mp h])
theorem valV_mem {κ : Type} [DecidableEq κ] {kvs : List (κ × V)} {k : κ} {v : V} (e : valV kvs k = some v) : ∃ p ∈ kvs, p.2 = v := by
  unfold valV at e
  obtain ⟨p, hp, ep⟩ := Option.map_eq_some_iff.mp e
  exact ⟨p, List.mem_of_find?_eq_some hp, ep⟩
section
variable {P : Program} {w : World} {K : PySem.W.Frag} {mg : Str → Option Value} {base : Heap}
abbrev nCheck : List Str := ["steps", "earlier", "leaving", "index", "step", "count"]
theorem sc_check : FnScope nCheck ["steps"] (defScope s_check_steps) := ⟨rfl, rfl, rfl, by decide +kernel, rfl, by decide +kernel, by decide +kernel⟩
def spCheck (K : PySem.W.Frag) : Sp := fun vs H Q _ => ∃ (a : Addr) (us : List V) (ss : List Stp), vs = [.ref a] ∧ Seq K H a us ∧ StepsAt K H us ss ∧ Good ss ∧ ∀ H', Same H H' → Q .non H'
theorem ok_check {f fR fT fW fS fN : Addr} {fd fdR fdT fdW fdS fdN : FuncData} (F : Fun K "check_steps" "check_steps" s_check_steps f fd) (B : Blt mg) (N : Kin mg) (L : Lim mg) (D : KinD K mg fW fS fN fdW fdS fdN)
    (FR : Fun K "is_row" "is_row" s_is_row fR fdR) (bR : Binds K fdR ["value"] []) (gR : mg "is_row" = some (.ref fR)) (FT : Fun K "is_step" "is_step" s_is_step fT fdT) (bT : Binds K fdT ["value"] []) (gT : mg "is_step" = some (.ref fT)) : FnOk P w K mg base CX0 4 f fd ["steps"] (spCheck K) := by
  have GR : FnOk P w K mg base CX0 1 fR fdR ["value"] (spRow K) := ok_row FR B
  have GT : FnOk P w K mg base CX0 3 fT fdT ["value"] (spStep K) := ok_step FT B N D
  obtain ⟨t24, e24⟩ := L.steps
  obtain ⟨t4, e4⟩ := L.leaving
  refine F.ok sc_check (fun vs H Q E h => ?_) (fun cdv A outer s H vs Q E hr h => ?_)
  · obtain ⟨a, us, ss, rfl, _⟩ := h
    rfl
  · obtain ⟨a, us, ss, rfl, hS, hss, G, q⟩ := h
    have hu := hu_of hr
    refine ⟨_, pss_cons (ps_if (PW.pt (pw_or (pt_not (pt_val (pe_call GR (hr.mono (by decide)) (by rfl) gR FR.kp bR .nil pass0 (pa_cons (pv 0) pa_nil))))
        (pw_or1 (pt_not (pt_chain op_le op_le pe_int (pe_callB call_len_seq (by rfl) B.len PySem.boot_len (pa_cons (pv 0) pa_nil)) (pe_glob rfl e24 (v := .int 24) ⟨_, rfl⟩)))))) (pss_one VL.ps_dead) pss_nil)
      (pss_cons (ps_set (i := 1) sc_check.nd rfl (.inl rfl) pe_dnewT)
      (pss_cons (ps_set (i := 2) sc_check.nd rfl (.inl rfl) pe_dnewK)
      (pss_one (ps_for PassesOwn.never rfl (VE.pi_enumS (j := 0) rfl B.enumerate rfl (.inl rfl)) (pg_tup rfl (pgs_cons (pg_name (i := 3) sc_check.nd rfl (.inl rfl)) (pgs_cons (pg_name (i := 4) sc_check.nd rfl (.inl rfl)) pgs_nil)))
        (pss_cons (ps_if (PW.pt (pw_or (pt_not (pt_val (pe_call GT hr (by rfl) gT FT.kp bT .nil pass0 (pa_cons (pv 4) pa_nil)))) (pw_or1 (pt_cmp (pc_din hu (pv 4) (pv 1)))))) (pss_one VL.ps_dead) pss_nil)
        (pss_cons (ps_set (i := 5) sc_check.nd rfl (.inl rfl) (pe_op op_add (pe_dget2 hu (pv 2) (pe_ix ix_tup (pv 4) pe_int (fun _ _ => rfl)) pe_int ⟨rfl, rfl, rfl, rfl⟩) pe_int))
        (pss_cons (ps_if (pt_cmpR op_gt (pv 5) (pe_glob rfl e4 (v := .int 4) ⟨_, rfl⟩) (nomark _)) (pss_one VL.ps_dead) pss_nil)
        (pss_cons (ps_dput hu (pv 1) (pv 4) pe_bl rfl)
        (pss_one (ps_dput hu (pv 2) (pe_ix ix_tup (pv 4) pe_int (fun _ _ => rfl)) (pv 5) rfl))))))))))
      , ?_⟩
    -- the first test
    refine ⟨_, rfl, a, us, rfl, hS, fun H1 s1 => ⟨true, rfl, ?_⟩⟩
    have lu : us.length = ss.length := hss.length
    have l1 : (1 : Int) ≤ (us.length : Nat) := by
      have := G.lo
      omega
    have l2 : ((us.length : Nat) : Int) ≤ 24 := by
      have := G.hi
      omega
    have hS1 := hS.same s1
    have hss1 := hss.same s1
    refine ⟨_, rfl, a, us, rfl, hS1, _, _, rfl, rfl, _, rfl, ?_⟩
    rw [decide_eq_true l1]
    refine ⟨_, _, rfl, rfl, _, rfl, ?_⟩
    show if (!decide (((us.length : Nat) : Int) ≤ 24)) = true then _ else _
    rw [decide_eq_true l2]
    -- the dicts
    refine fun e1 n1 e2 n2 => ?_
    have n21 : e2 ≠ e1 := fun z => by
      rw [z, upd_same] at n2
      cases n2
    have s2 := (s1.trans (same_new (o := .dT []) n1)).trans (same_new (o := .dK []) n2)
    have hd1 : (upd (upd H1 e1 (.dT [])) e2 (.dK [])) e1 = some (.dT []) := by rw [upd_ne n21.symm, upd_same]
    have hd2 : (upd (upd H1 e1 (.dT [])) e2 (.dK [])) e2 = some (.dK []) := upd_same
    have f1 : H e1 = none := s1.free n1
    have f2 : H e2 = none := s1.free (by rw [upd_ne n21] at n2; exact n2)
    generalize upd (upd H1 e1 (.dT [])) e2 (.dK []) = H2 at s2 hd1 hd2 ⊢
    have nss : ∀ {i : Nat} {st : Stp}, ss[i]? = some st → st ∉ ss.take i := fun e => take_new G.nd e
    refine VE.for_enumS (j := 0) rfl hS (fun i σ H3 => ∃ (v3 v4 v5 : Option V) (kv1 : List (List Key × V)) (kv2 : List (Key × V)), σ = [some (.ref a), some (.ref e1), some (.ref e2), v3, v4, v5] ∧ H3 e1 = some (.dT kv1) ∧ H3 e2 = some (.dK kv2) ∧ kv1.length ≤ i ∧ kv2.length ≤ i ∧
        (∀ s, (valV kv1 (keyS s)).isSome = decide (s ∈ ss.take i)) ∧ (∀ b, (valV kv2 (.inl b)).getD (.int 0) = .int (cnt (ss.take i) b)) ∧ Same H H3)
      ⟨none, none, none, [], [], rfl, hd1, hd2, Nat.le_refl _, Nat.le_refl _, (fun s => by rw [List.take_zero]; exact (decide_eq_false List.not_mem_nil).symm), (fun b => by rw [List.take_zero]; rfl), s2⟩
      (fun _ _ _ ⟨_, _, _, _, _, _, _, _, _, _, _, _, k⟩ => k) ?_ ?_
    · rintro i x σ H3 H4 hi ⟨v3, v4, v5, kv1, kv2, rfl, h1, h2, l1, l2, m1, m2, s3⟩ ⟨T, y1, y2, rfl, nT, rfl, ey, ex⟩
      have ey := Option.some.inj ey
      subst ey
      have sT : Same H3 (upd H3 T (.tup [.int (i : Nat), y2])) := same_new nT
      refine ⟨T, _, rfl, .inl (.inl upd_same), rfl, _, _, rfl, _, _, rfl, rfl, ?_⟩
      have g1 := sT _ _ h1
      have g2 := sT _ _ h2
      have s4 := s3.trans sT
      generalize upd H3 T (.tup [.int (i : Nat), y2]) = H4 at g1 g2 s4 ⊢
      obtain ⟨st, t, rfl, es, ht⟩ := get_tup (hss.same s4) ex
      have hi' : i < ss.length := (List.getElem?_eq_some_iff.mp es).1
      have i24 : i < 24 := Nat.lt_of_lt_of_le hi' G.hi
      -- if not is_step(step) or step in earlier
      refine ⟨_, rfl, .ref t, st, rfl, ⟨t, rfl, ht⟩, G.ok st (List.mem_of_getElem? es), fun H5 s5 => ⟨true, rfl, ?_⟩⟩
      have g15 := s5 _ _ g1
      have g25 := s5 _ _ g2
      have t5 := s5 _ _ ht
      have s05 := s4.trans s5
      refine ⟨_, rfl, _, rfl, e1, _, rfl, DGet.t (k := keyS st) g15 t5, _, rfl, ?_⟩
      have m1s : (valV kv1 (keyS st)).isSome = false := by
        rw [m1 st]
        exact decide_eq_false (nss es)
      rw [m1s]
      -- count
      refine ⟨_, rfl, e2, rfl, .inl ⟨_, .inl g25⟩, _, rfl, t, _, _, _, rfl, rfl, .inl (.inl t5), atI_nat (j := 0) rfl, _, DGet.k (k := Sum.inl st.a) g25, ?_⟩
      rw [m2 st.a]
      refine ⟨_, _, rfl, rfl, ?_⟩
      have c4 : cnt (ss.take i) st.a + 1 ≤ 4 := by
        have q1 := G.lv st.a
        have q2 := cnt_take st.a es
        have q3 := cnt_take_le ss (i + 1) st.a
        rw [if_pos rfl] at q2
        omega
      refine ⟨_, rfl, _, _, rfl, rfl, _, rfl, ?_⟩
      rw [decide_eq_false (show ¬ (4 : Int) < (cnt (ss.take i) st.a : Nat) + 1 by omega)]
      -- the two stores
      refine ⟨_, rfl, _, rfl, e1, _, rfl, DPut.t (k := keyS st) g15 t5 (small1000 (by omega)), ?_⟩
      have n12 : e1 ≠ e2 := fun z => by
        rw [z, g25] at g15
        cases g15
      have n1t : t ≠ e1 := fun z => by
        rw [z, g15] at t5
        cases t5
      have g26 : (upd H5 e1 (.dT (putK kv1 (keyS st) (.bl true)))) e2 = some (.dK kv2) := by rw [upd_ne n12.symm]; exact g25
      refine ⟨_, rfl, _, rfl, _, rfl, t, _, _, _, rfl, rfl, .inl (.inl (by rw [upd_ne n1t]; exact t5)), atI_nat (j := 0) rfl, e2, _, rfl, DPut.k (k := Sum.inl st.a) g26 (small1000 (by omega)), ?_⟩
      refine ⟨_, _, _, _, _, rfl, by rw [upd_ne n12, upd_same], upd_same, ?_, ?_, fun s => ?_, fun b => ?_, fun b o e => ?_⟩
      · exact Nat.le_trans (length_putK _ _ _) (Nat.succ_le_succ l1)
      · exact Nat.le_trans (length_putK _ _ _) (Nat.succ_le_succ l2)
      · rw [valV_put, List.take_add_one, es]
        by_cases e : keyS s = keyS st
        · rw [if_pos e, keyS_inj e]
          exact (decide_eq_true (List.mem_append_right _ (List.mem_singleton.mpr rfl))).symm
        · rw [if_neg e, m1 s]
          refine decide_eq_decide.mpr ⟨fun h => List.mem_append_left _ h, fun h => ?_⟩
          rcases List.mem_append.mp h with h | h
          · exact h
          · exact absurd (congrArg keyS (List.mem_singleton.mp h)) e
      · rw [valV_put, cnt_take b es]
        by_cases e : (Sum.inl b : Key) = Sum.inl st.a
        · rw [if_pos e, if_pos (Sum.inl.inj e).symm, Sum.inl.inj e]
          rfl
        · rw [if_neg e, if_neg (fun z => e (congrArg Sum.inl z.symm)), m2 b]
          rfl
      · have b1 : b ≠ e1 := ne_of_none e f1
        have b2 : b ≠ e2 := ne_of_none e f2
        rw [upd_ne b2, upd_ne b1]
        exact s05 _ _ e
    · rintro σ H3 ⟨_, _, _, _, _, _, _, _, _, _, _, _, k⟩
      exact q H3 k
abbrev nExits : List Str := ["steps", "exits", "number", "step", "place"]
theorem sc_exits : FnScope nExits ["steps"] (defScope s_exits_of) := ⟨rfl, rfl, rfl, by decide +kernel, rfl, by decide +kernel, by decide +kernel⟩
/-- exits_of hands back some dict (what it holds is not told here) -/
def spExits (K : PySem.W.Frag) : Sp := fun vs H Q _ => ∃ (a : Addr) (us : List V) (ss : List Stp), vs = [.ref a] ∧ Seq K H a us ∧ StepsAt K H us ss ∧ Good ss ∧ ∀ (d : Addr) (H' : Hp), H d = none → Same H H' → Q (.ref d) H'
theorem ok_exits {f : Addr} {fd : FuncData} (F : Fun K "exits_of" "exits_of" s_exits_of f fd) (B : Blt mg) : FnOk P w K mg base CX0 1 f fd ["steps"] (spExits K) := by
  refine F.ok sc_exits (fun vs H Q E h => ?_) (fun cdv A outer s H vs Q E hr h => ?_)
  · obtain ⟨a, us, ss, rfl, _⟩ := h
    rfl
  · obtain ⟨a, us, ss, rfl, hS, hss, G, q⟩ := h
    have hu := hu_of hr
    refine ⟨_, pss_cons (ps_set (i := 1) sc_exits.nd rfl (.inl rfl) pe_dnewT)
      (pss_cons (ps_for PassesOwn.never rfl (VE.pi_enumS (j := 0) rfl B.enumerate rfl (.inl rfl)) (pg_tup rfl (pgs_cons (pg_name (i := 2) sc_exits.nd rfl (.inl rfl)) (pgs_cons (pg_name (i := 3) sc_exits.nd rfl (.inl rfl)) pgs_nil)))
        (pss_cons (ps_set (i := 4) sc_exits.nd rfl (.inl rfl) (pe_tup (pa_cons (pe_ix ix_tup (pv 3) pe_int (fun _ _ => rfl)) (pa_cons (pe_ix ix_tup (pv 3) pe_int (fun _ _ => rfl)) pa_nil))))
        (pss_one (ps_dput hu (pv 1) (pv 4) (pe_op op_catA (pe_dget2 hu (pv 1) (pv 4) (pe_tup pa_nil) ⟨rfl, rfl, rfl, rfl⟩) (pe_tup (pa_cons (pv 2) pa_nil))) rfl))))
      (pss_one (ps_ret (pv 1)))), ?_⟩
    refine fun e1 n1 => ?_
    refine VE.for_enumS (j := 0) rfl hS (fun i σ H3 => ∃ (v2 v3 v4 : Option V) (kvs : List (List Key × V)), σ = [some (.ref a), some (.ref e1), v2, v3, v4] ∧ H3 e1 = some (.dT kvs) ∧ kvs.length ≤ i ∧
        (∀ p ∈ kvs, ∃ (b : Addr) (xs : List V), p.2 = .ref b ∧ H3 b = some (.tup xs) ∧ xs.length ≤ i) ∧ Same H H3)
      ⟨none, none, none, [], rfl, upd_same, Nat.le_refl _, (fun p h => by cases h), same_new n1⟩ (fun _ _ _ ⟨_, _, _, _, _, _, _, _, k⟩ => k) ?_ ?_
    · rintro i x σ H3 H4 hi ⟨v2, v3, v4, kvs, rfl, h1, l1, m1, s3⟩ ⟨T, y1, y2, rfl, nT, rfl, ey, ex⟩
      have ey := Option.some.inj ey
      subst ey
      have sT : Same H3 (upd H3 T (.tup [.int (i : Nat), y2])) := same_new nT
      refine ⟨T, _, rfl, .inl (.inl upd_same), rfl, _, _, rfl, _, _, rfl, rfl, ?_⟩
      have g1 := sT _ _ h1
      have s4 := s3.trans sT
      have m4 : ∀ p ∈ kvs, ∃ (b : Addr) (xs : List V), p.2 = .ref b ∧ (upd H3 T (.tup [.int (i : Nat), y2])) b = some (.tup xs) ∧ xs.length ≤ i := fun p hp => let ⟨b, xs, e1, e2, e3⟩ := m1 p hp; ⟨b, xs, e1, sT _ _ e2, e3⟩
      generalize upd H3 T (.tup [.int (i : Nat), y2]) = H4 at g1 s4 m4 ⊢
      obtain ⟨st, t, rfl, es, ht⟩ := get_tup (hss.same s4) ex
      have hi' : i < ss.length := (List.getElem?_eq_some_iff.mp es).1
      have i24 : i < 24 := Nat.lt_of_lt_of_le hi' G.hi
      -- place
      refine ⟨_, rfl, t, _, _, _, rfl, rfl, .inl (.inl ht), atI_nat (j := 0) rfl, _, rfl, t, _, _, _, rfl, rfl, .inl (.inl ht), atI_nat (j := 1) rfl, by show 2 ≤ sizeLine; decide, fun b nb => ?_⟩
      have sb : Same H4 (upd H4 b (.tup [.int st.a, .str st.w])) := same_new nb
      have g2 := sb _ _ g1
      have hb : (upd H4 b (.tup [.int st.a, .str st.w])) b = some (.tup (([.inl st.a, .inr st.w] : List Key).map kV)) := upd_same
      have s5 := s4.trans sb
      have m5 : ∀ p ∈ kvs, ∃ (c : Addr) (xs : List V), p.2 = .ref c ∧ (upd H4 b (.tup [.int st.a, .str st.w])) c = some (.tup xs) ∧ xs.length ≤ i := fun p hp => let ⟨c, xs, e1, e2, e3⟩ := m4 p hp; ⟨c, xs, e1, sb _ _ e2, e3⟩
      generalize upd H4 b (.tup [.int st.a, .str st.w]) = H5 at g2 hb s5 m5 ⊢
      -- exits.get(place, ())
      refine ⟨_, rfl, e1, rfl, .inr ⟨_, .inl g2⟩, _, rfl, Nat.zero_le _, fun c nc => ⟨_, DGet.t (k := [.inl st.a, .inr st.w]) (same_new nc _ _ g2) (same_new nc _ _ hb), ?_⟩⟩
      have sc : Same H5 (upd H5 c (.tup [])) := same_new nc
      have g3 := sc _ _ g2
      have hb3 := sc _ _ hb
      have s6 := s5.trans sc
      have old : ∃ (c2 : Addr) (xs : List V), (valV kvs [.inl st.a, .inr st.w]).getD (.ref c) = .ref c2 ∧ (upd H5 c (.tup [])) c2 = some (.tup xs) ∧ xs.length ≤ i := by
        cases e : valV kvs [.inl st.a, .inr st.w] with
        | none => exact ⟨c, [], rfl, upd_same, Nat.zero_le _⟩
        | some v =>
          obtain ⟨p, hp, ep⟩ := valV_mem e
          obtain ⟨c2, xs, q1, q2, q3⟩ := m5 p hp
          exact ⟨c2, xs, by rw [← ep, q1]; rfl, sc _ _ q2, q3⟩
      have m6 : ∀ p ∈ kvs, ∃ (c2 : Addr) (xs : List V), p.2 = .ref c2 ∧ (upd H5 c (.tup [])) c2 = some (.tup xs) ∧ xs.length ≤ i := fun p hp => let ⟨c2, xs, e1, e2, e3⟩ := m5 p hp; ⟨c2, xs, e1, sc _ _ e2, e3⟩
      generalize upd H5 c (.tup []) = H6 at g3 hb3 s6 old m6 ⊢
      obtain ⟨c2, xs, e2, hx, lx⟩ := old
      rw [e2]
      refine ⟨_, rfl, by show 1 ≤ sizeLine; decide, fun d nd => ?_⟩
      have sd : Same H6 (upd H6 d (.tup [.int (i : Nat)])) := same_new nd
      have fin : ∀ (r : Addr) (zs : List V) (H8 : Hp), Same H6 H8 → H8 r = some (.tup zs) → zs.length ≤ i + 1 → ∃ (v2 v3 v4 : Option V) (kvs' : List (List Key × V)), ([some (.ref a), some (.ref e1), some (.int (i : Nat)), some (.ref t), some (.ref b)] : List (Option V)) = [some (.ref a), some (.ref e1), v2, v3, v4] ∧
          (upd H8 e1 (.dT (putK kvs [.inl st.a, .inr st.w] (.ref r)))) e1 = some (.dT kvs') ∧ kvs'.length ≤ i + 1 ∧ (∀ p ∈ kvs', ∃ (b : Addr) (xs : List V), p.2 = .ref b ∧ (upd H8 e1 (.dT (putK kvs [.inl st.a, .inr st.w] (.ref r)))) b = some (.tup xs) ∧ xs.length ≤ i + 1) ∧ Same H (upd H8 e1 (.dT (putK kvs [.inl st.a, .inr st.w] (.ref r)))) := fun r zs H8 s8 hr8 lz => by
        have ne : ∀ {c3 : Addr} {ys : List V}, H8 c3 = some (.tup ys) → c3 ≠ e1 := fun {c3 ys} e z => by
          rw [z, s8 _ _ g3] at e
          cases e
        refine ⟨_, _, _, _, rfl, upd_same, Nat.le_trans (length_putK _ _ _) (Nat.succ_le_succ l1), fun p hp => ?_, fun c3 o e => ?_⟩
        · rcases putK_in hp with h | h
          · obtain ⟨c3, ys, q1, q2, q3⟩ := m6 p h
            exact ⟨c3, ys, q1, by rw [upd_ne (ne (s8 _ _ q2))]; exact s8 _ _ q2, by omega⟩
          · exact ⟨r, zs, h, by rw [upd_ne (ne hr8)]; exact hr8, lz⟩
        · rw [upd_ne (ne_of_none e n1)]
          exact s8 _ _ (s6 _ _ e)
      have put : ∀ (r : Addr) (H8 : Hp), Same H6 H8 → DPut H8 e1 (.ref b) (.ref r) (upd H8 e1 (.dT (putK kvs [.inl st.a, .inr st.w] (.ref r)))) := fun r H8 s8 => DPut.t (k := [.inl st.a, .inr st.w]) (s8 _ _ g3) (s8 _ _ hb3) (small1000 (by omega))
      refine ⟨c2, d, xs, _, rfl, rfl, .inl (.inl (sd _ _ hx)), .inl (.inl upd_same), by show xs.length + 1 ≤ sizeLine; exact Nat.le_of_lt (small1000 (by omega)), fun _ => ?_, (fun _ z => nomatch z), fun _ _ g ng => ?_⟩
      · exact ⟨_, rfl, _, rfl, e1, _, rfl, put d _ sd, fin d _ _ sd upd_same (by show 1 ≤ i + 1; omega)⟩
      · have sg := sd.trans (same_new (o := .tup (xs ++ [.int (i : Nat)])) ng)
        exact ⟨_, rfl, _, rfl, e1, _, rfl, put g _ sg, fin g _ _ sg upd_same (by rw [List.length_append]; show xs.length + 1 ≤ i + 1; omega)⟩
    · rintro σ H3 ⟨v2, v3, v4, kvs, rfl, h1, l1, m1, s3⟩
      exact ⟨_, rfl, q e1 H3 n1 s3⟩
end
end KX
namespace KX
/-- where the steps that leave x lead, in their order -/
def nxOf (ss : List Stp) (x : Int) : List Int := (ss.filter fun s => decide (s.a = x)).map (·.b)
inductive Reach (ss : List Stp) (x0 : Int) : Int → Prop where
  | refl : Reach ss x0 x0
  | step {s : Stp} : Reach ss x0 s.a → s ∈ ss → Reach ss x0 s.b
theorem mem_nx {ss : List Stp} {x y : Int} : y ∈ nxOf ss x ↔ ∃ s ∈ ss, s.a = x ∧ s.b = y := by
  unfold nxOf
  rw [List.mem_map]
  constructor
  · rintro ⟨s, hs, e⟩
    obtain ⟨h1, h2⟩ := List.mem_filter.mp hs
    exact ⟨s, h1, of_decide_eq_true h2, e⟩
  · rintro ⟨s, h1, h2, e⟩
    exact ⟨s, List.mem_filter.mpr ⟨h1, decide_eq_true h2⟩, e⟩
theorem Reach.nx {ss : List Stp} {x0 x y : Int} (h : Reach ss x0 x) (hy : y ∈ nxOf ss x) : Reach ss x0 y := by
  obtain ⟨s, hs, e1, e2⟩ := mem_nx.mp hy
  rw [← e2]
  exact .step (e1 ▸ h) hs
/-- what is closed under the steps and holds the start holds all that is reached -/
theorem reach_in {ss : List Stp} {x0 : Int} {fs : List Int} (h0 : x0 ∈ fs) (hc : ∀ x ∈ fs, ∀ y ∈ nxOf ss x, y ∈ fs) {x : Int} (h : Reach ss x0 x) : x ∈ fs := by
  induction h with
  | refl => exact h0
  | step h hs ih => exact hc _ ih _ (mem_nx.mpr ⟨_, hs, rfl, rfl⟩)
theorem nd_len : ∀ {fs U : List Int}, fs.Nodup → (∀ x ∈ fs, x ∈ U) → fs.length ≤ U.length
  | [], _, _, _ => Nat.zero_le _
  | x :: r, U, nd, h => by
    obtain ⟨n1, n2⟩ := List.nodup_cons.mp nd
    have hx := h x List.mem_cons_self
    have q := nd_len (fs := r) (U := U.erase x) n2 fun y hy => by
      have ne : y ≠ x := fun e => n1 (e ▸ hy)
      exact (List.mem_erase_of_ne ne).mpr (h y (List.mem_cons_of_mem _ hy))
    rw [List.length_erase_of_mem hx] at q
    have := List.length_pos_of_mem hx
    rw [List.length_cons]
    omega
/-- the search: fs found, as ahead; w: the place whose steps are being looked at, its first ones done -/
structure Srch (ss : List Stp) (x0 : Int) (U fs as : List Int) (w : Option (Int × Nat)) : Prop where
  nd : fs.Nodup
  sub : ∀ x ∈ as, x ∈ fs
  st : x0 ∈ fs
  re : ∀ x ∈ fs, Reach ss x0 x
  inU : ∀ x ∈ fs, x ∈ U
  cl : ∀ x ∈ fs, x ∉ as → (∀ y ∈ nxOf ss x, y ∈ fs) ∨ ∃ n, w = some (x, n)
  pt : ∀ x n, w = some (x, n) → x ∈ fs ∧ ∀ y ∈ (nxOf ss x).take n, y ∈ fs
theorem Srch.start {ss : List Stp} {x0 : Int} {U : List Int} (hU : ∀ x, Reach ss x0 x → x ∈ U) : Srch ss x0 U [x0] [x0] none :=
  ⟨by simp, fun _ h => h, List.mem_singleton.mpr rfl, (fun x h => by rw [List.mem_singleton.mp h]; exact .refl), (fun x h => by rw [List.mem_singleton.mp h]; exact hU _ .refl), (fun x h n => absurd h n), fun _ _ h => nomatch h⟩
theorem Srch.pop {ss : List Stp} {x0 x : Int} {U fs as : List Int} (S : Srch ss x0 U fs (as ++ [x]) none) : Srch ss x0 U fs as (some (x, 0)) := by
  have hx : x ∈ fs := S.sub x (List.mem_append_right _ (List.mem_singleton.mpr rfl))
  refine ⟨S.nd, fun y hy => S.sub y (List.mem_append_left _ hy), S.st, S.re, S.inU, fun y hy n => ?_, fun y m e => ?_⟩
  · by_cases e : y = x
    · exact .inr ⟨0, by rw [e]⟩
    · have n' : y ∉ as ++ [x] := fun h => by
        rcases List.mem_append.mp h with h | h
        · exact n h
        · exact e (List.mem_singleton.mp h)
      rcases S.cl y hy n' with h | ⟨_, h⟩
      · exact .inl h
      · cases h
  · cases e
    exact ⟨hx, fun y hy => by rw [List.take_zero] at hy; cases hy⟩
theorem Srch.old {ss : List Stp} {x0 x y : Int} {U fs as : List Int} {i : Nat} (S : Srch ss x0 U fs as (some (x, i))) (e : (nxOf ss x)[i]? = some y) (h : y ∈ fs) : Srch ss x0 U fs as (some (x, i + 1)) := by
  refine ⟨S.nd, S.sub, S.st, S.re, S.inU, fun z hz n => ?_, fun z m q => ?_⟩
  · rcases S.cl z hz n with c | ⟨_, c⟩
    · exact .inl c
    · cases c
      exact .inr ⟨_, rfl⟩
  · cases q
    obtain ⟨p1, p2⟩ := S.pt x i rfl
    refine ⟨p1, fun w hw => ?_⟩
    rw [List.take_add_one, e] at hw
    rcases List.mem_append.mp hw with hw | hw
    · exact p2 w hw
    · have hw : w ∈ [y] := hw
      rw [List.mem_singleton.mp hw]
      exact h
theorem Srch.new {ss : List Stp} {x0 x y : Int} {U fs as : List Int} {i : Nat} (hU : ∀ x, Reach ss x0 x → x ∈ U) (S : Srch ss x0 U fs as (some (x, i))) (e : (nxOf ss x)[i]? = some y) (h : y ∉ fs) : Srch ss x0 U (fs ++ [y]) (as ++ [y]) (some (x, i + 1)) := by
  obtain ⟨p1, p2⟩ := S.pt x i rfl
  have ry : Reach ss x0 y := (S.re x p1).nx (List.mem_of_getElem? e)
  have mem : ∀ {p : Int → Prop}, (∀ z ∈ fs, p z) → p y → ∀ z ∈ fs ++ [y], p z := fun {p} h1 h2 z hz => by
    rcases List.mem_append.mp hz with q | q
    · exact h1 z q
    · rw [List.mem_singleton.mp q]
      exact h2
  refine ⟨List.nodup_append.mpr ⟨S.nd, by simp, fun a ha b hb q => ?_⟩, fun z hz => ?_, List.mem_append_left _ S.st, mem S.re ry, mem S.inU (hU y ry), fun z hz n => ?_, fun z m q => ?_⟩
  · rw [List.mem_singleton.mp hb] at q
    exact h (q ▸ ha)
  · rcases List.mem_append.mp hz with q | q
    · exact List.mem_append_left _ (S.sub z q)
    · exact List.mem_append_right _ q
  · rcases List.mem_append.mp hz with q | q
    · rcases S.cl z q (fun c => n (List.mem_append_left _ c)) with c | ⟨_, c⟩
      · exact .inl fun w hw => List.mem_append_left _ (c w hw)
      · cases c
        exact .inr ⟨_, rfl⟩
    · exact absurd (List.mem_append_right _ q) n
  · cases q
    refine ⟨List.mem_append_left _ p1, fun w hw => ?_⟩
    rw [List.take_add_one, e] at hw
    rcases List.mem_append.mp hw with hw | hw
    · exact List.mem_append_left _ (p2 w hw)
    · exact List.mem_append_right _ hw
theorem Srch.done {ss : List Stp} {x0 x : Int} {U fs as : List Int} (S : Srch ss x0 U fs as (some (x, (nxOf ss x).length))) : Srch ss x0 U fs as none := by
  refine ⟨S.nd, S.sub, S.st, S.re, S.inU, fun z hz n => ?_, fun _ _ q => nomatch q⟩
  rcases S.cl z hz n with c | ⟨_, c⟩
  · exact .inl c
  · cases c
    obtain ⟨_, p2⟩ := S.pt x _ rfl
    rw [List.take_length] at p2
    exact .inl p2
theorem Srch.all {ss : List Stp} {x0 : Int} {U fs : List Int} (S : Srch ss x0 U fs [] none) (x : Int) : x ∈ fs ↔ Reach ss x0 x := by
  refine ⟨S.re x, reach_in S.st fun y hy => ?_⟩
  rcases S.cl y hy List.not_mem_nil with c | ⟨_, c⟩
  · exact c
  · cases c
end KX
namespace KX
open PySem PySem.Spec PyProof.Rows L2
/-! ### all_reached over ints, by a lambda that tells where the steps lead -/
section
variable {P : Program} {w : World} {K : PySem.W.Frag} {mg : Str → Option Value} {base : Heap}
abbrev nAll : List Str := ["first", "following", "most", "found", "ahead", "place", "after"]
theorem sc_all : FnScope nAll ["first", "following", "most"] (defScope s_all_reached) := ⟨rfl, rfl, rfl, by decide +kernel, rfl, by decide +kernel, by decide +kernel⟩
/-- what the lambda of reached_states tells -/
def spFol (K : PySem.W.Frag) : List (Option V) → V → Hp → VK → XK → Prop := fun ws v H Q _ => ∃ (a : Addr) (us : List V) (ss : List Stp) (x : Int), ws = [some (.ref a)] ∧ v = .int x ∧ Seq K H a us ∧ StepsAt K H us ss ∧ ss.length ≤ 24 ∧
  ∀ (l : Addr) (H' : Hp), H l = none → H' l = some (.lst ((nxOf ss x).map V.int)) → Same H H' → Q (.ref l) H'
def spAll (P : Program) (w : World) (K : PySem.W.Frag) (mg : Str → Option Value) (base : Heap) : Shared → Sp := fun s vs H Q _ => ∃ (x0 : Int) (f a : Addr) (m : Nat) (F : VL.LF) (us : List V) (ss : List Stp) (U : List Int), vs = [.int x0, .ref f, .int m] ∧
  H f = some (VL.LamO f F) ∧ H F.c = some (LamX.CodeO F.c F.qual) ∧ NdefX.CellsAt F.cl ["steps"] [some (.ref a)] s.heap H ∧ (∀ g, VL.LamOk P w K mg base CX0 1 g F ["steps"] (spFol K)) ∧ Seq K H a us ∧ StepsAt K H us ss ∧ ss.length ≤ 24 ∧
  (∀ x, Reach ss x0 x → x ∈ U) ∧ U.length ≤ m ∧ m ≤ 60 ∧
  ∀ (l : Addr) (ns : List Int) (H' : Hp), H l = none → H' l = some (.lst (ns.map V.int)) → ns.Pairwise (· < ·) → (∀ x, x ∈ ns ↔ Reach ss x0 x) → Same H H' → Q (.ref l) H'
theorem ok_all {f : Addr} {fd : FuncData} (F : Fun K "all_reached" "all_reached" s_all_reached f fd) (B : Blt mg) : VL.FnOkS P w K mg base CX0 2 f fd ["first", "following", "most"] (spAll P w K mg base) := by
  refine VL.okS F sc_all (fun s vs H Q E h => ?_) (fun cdv A outer s H vs Q E hr h => ?_)
  · obtain ⟨x0, f, a, m, F, us, ss, U, rfl, _⟩ := h
    rfl
  · obtain ⟨x0, f, a, m, F, us, ss, U, rfl, hf, hc, C, GL, hS, hss, l24, hU, lU, lm, q⟩ := h
    have hu := hu_of hr
    refine ⟨_, PSs.nox (pss_cons (ps_set (i := 3) sc_all.nd rfl (.inl rfl) (pe_disp (pps_cons (pv 0) pe_bl pps_nil) (by rfl) (by rfl) (fun z => by cases z) (by decide)))
      (pss_cons (ps_set (i := 4) sc_all.nd rfl (.inl rfl) (pe_lst (pa_cons (pv 0) pa_nil)))
      (pss_cons (ps_while PassesOwn.never (pt_truth (pv 4) (fun _ => rfl))
        (pss_cons (ps_set (i := 5) sc_all.nd rfl (.inl rfl) (pe_bm0 PySem.F.plainAttrs_list PySem.F.slot_list_pop PySem.F.type_list_pop mt_pop (pv 4)))
        (pss_cons (ps_for PassesOwn.never rfl (pi_list (VL.pe_callL (i := 1) (CX := CX0) (E := E0) GL C rfl hr (Nat.le_refl 1) pass0 rfl (.inl rfl) (pa_cons (pv 5) pa_nil))) (pg_name (i := 6) sc_all.nd rfl (.inl rfl))
          (pss_one (ps_if (pt_cmp (pc_dnotin hu (pv 6) (pv 3))) (pss_cons (ps_dput hu (pv 3) (pv 6) pe_bl rfl)
            (pss_one (ps_expr (pe_bm PySem.F.plainAttrs_list PySem.F.slot_list_append PySem.F.type_list_append mt_append (pv 4) (pa_cons (pv 6) pa_nil))))) pss_nil)))
        (pss_one (ps_if (pt_cmpR op_gt (pe_callB call_lenD (by rfl) B.len PySem.boot_len (pa_cons (pv 3) pa_nil)) (pv 2) (nomark _)) (pss_one VL.ps_dead) pss_nil)))))
      (pss_one (ps_ret (pe_callB (call_sortedDI rfl) (by rfl) B.sorted (by decide +kernel) (pa_cons (pv 3) pa_nil))))))), ?_⟩
    refine fun d nd => ⟨_, rfl, upd_same, [(Sum.inl x0, .bl true)], rfl, (by show 1 ≤ 15; decide), _, rfl, by show 1 ≤ sizeLine; decide, fun l nl => ?_⟩
    rw [upd_upd] at nl ⊢
    have ndl : d ≠ l := fun z => by
      rw [z, upd_same] at nl
      cases nl
    have s0 : Same H (upd (upd H d (.dK (mergeK [] [(Sum.inl x0, .bl true)]))) l (.lst [.int x0])) := (same_new nd).trans (same_new nl)
    have fl : H l = none := (same_new (o := .dK (mergeK [] [(Sum.inl x0, .bl true)])) nd).free nl
    have hd0 : (upd (upd H d (.dK (mergeK [] [(Sum.inl x0, .bl true)]))) l (.lst [.int x0])) d = some (.dK [(Sum.inl x0, .bl true)]) := by
      rw [upd_ne ndl, upd_same]
      rfl
    have hl0 : (upd (upd H d (.dK (mergeK [] [(Sum.inl x0, .bl true)]))) l (.lst [.int x0])) l = some (.lst [.int x0]) := upd_same
    generalize upd (upd H d (.dK (mergeK [] [(Sum.inl x0, .bl true)]))) l (.lst [.int x0]) = H0 at s0 hd0 hl0 ⊢
    have U1 : 1 ≤ U.length := List.length_pos_of_mem (hU x0 .refl)
    have fU : ∀ {fs as : List Int} {wt : Option (Int × Nat)}, Srch ss x0 U fs as wt → fs.length ≤ U.length := fun S => nd_len S.nd S.inU
    refine ⟨fun mm σ H2 => ∃ (kvs : List (Key × V)) (fs as : List Int) (v5 v6 : Option V), σ = [some (.int x0), some (.ref f), some (.int m), some (.ref d), some (.ref l), v5, v6] ∧ H2 d = some (.dK kvs) ∧ kvs.map (·.1) = fs.map Sum.inl ∧ H2 l = some (.lst (as.map V.int)) ∧ Srch ss x0 U fs as none ∧ Same H H2 ∧
        mm = 2 * (U.length - fs.length) + as.length ∧ mm ≤ 2 * U.length, ⟨_, _, [x0], [x0], none, none, rfl, hd0, rfl, hl0, Srch.start hU, s0, rfl, by show 2 * (U.length - 1) + 1 ≤ _; omega⟩, ?_⟩
    rintro mm σ H2 ⟨kvs, fs, as, v5, v6, rfl, hd, hk, hl, S, s2, rfl, lmm⟩
    have isS : ∀ {kvs : List (Key × V)} {fs : List Int} (z : Int), kvs.map (·.1) = fs.map Sum.inl → (valV kvs (Sum.inl z)).isSome = decide (z ∈ fs) := fun {kvs fs} z hk => by
      cases e : valV kvs (Sum.inl z) with
      | none =>
        have q := valV_not e
        rw [hk] at q
        exact (decide_eq_false fun h => q (List.mem_map_of_mem h)).symm
      | some v =>
        have q := valV_in e
        rw [hk] at q
        obtain ⟨z', hz, ez⟩ := List.mem_map.mp q
        cases ez
        exact (decide_eq_true hz).symm
    refine ⟨_, rfl, _, .inl ⟨_, .inl (.inl hl), rfl⟩, ?_⟩
    rcases List.eq_nil_or_concat as with rfl | ⟨as', x, rfl⟩
    · -- return sorted(found)
      refine ⟨_, rfl, d, kvs, fs, rfl, .inl hd, hk, by have := fU S; omega, fun ys p perm pw np => ?_⟩
      refine q p ys _ (s2.free np) upd_same (lt_of_le_nodup ys pw (perm.nodup_iff.mpr S.nd)) (fun z => perm.mem_iff.trans (S.all z)) (s2.trans (same_new np))
    · rw [List.concat_eq_append] at hl S lmm ⊢
      have eE : (!((as' ++ [x]).map V.int).isEmpty) = true := by
        cases as' <;> rfl
      rw [eE]
      have lA : (as' ++ [x]).length = as'.length + 1 := by rw [List.length_append]; rfl
      refine ⟨fun σ' H' => ∃ (kvs : List (Key × V)) (fs2 as2 : List Int) (v5 v6 : Option V), σ' = [some (.int x0), some (.ref f), some (.int m), some (.ref d), some (.ref l), v5, v6] ∧ H' d = some (.dK kvs) ∧ kvs.map (·.1) = fs2.map Sum.inl ∧ H' l = some (.lst (as2.map V.int)) ∧ Srch ss x0 U fs2 as2 none ∧ Same H H' ∧
        2 * (U.length - fs2.length) + as2.length < 2 * (U.length - fs.length) + (as' ++ [x]).length, ?_, ?_⟩
      · rintro σ' H' ⟨kvs2, fs2, as2, w5, w6, rfl, hd2, hk2, hl2, S2, s22, lt2⟩
        exact ⟨_, lt2, kvs2, fs2, as2, w5, w6, rfl, hd2, hk2, hl2, S2, s22, rfl, by omega⟩
      · -- place = ahead.pop()
        refine ⟨_, rfl, .inl ⟨rfl, _, .inl (.inl hl)⟩, l, _, .int x, rfl, rfl, hl, by rw [List.map_append, List.length_append, List.length_map]; show (as'.map V.int ++ [.int x])[as'.length + 1 - 1]? = _; rw [Nat.add_sub_cancel, List.getElem?_append_right (by rw [List.length_map]; exact Nat.le_refl _), List.length_map, Nat.sub_self]; rfl, ?_⟩
        have edl : ((as' ++ [x]).map V.int).dropLast = as'.map V.int := by
          rw [List.map_append]
          exact List.dropLast_concat
        rw [edl]
        have hd3 : (upd H2 l (.lst (as'.map V.int))) d = some (.dK kvs) := by rw [upd_ne ndl]; exact hd
        have hl3 : (upd H2 l (.lst (as'.map V.int))) l = some (.lst (as'.map V.int)) := upd_same
        have s3 : Same H (upd H2 l (.lst (as'.map V.int))) := fun b o e => by
          rw [upd_ne (ne_of_none e fl)]
          exact s2 _ _ e
        generalize upd H2 l (.lst (as'.map V.int)) = H3 at hd3 hl3 s3 ⊢
        refine ⟨f, rfl, s3 _ _ hf, _, rfl, .int x, rfl, s3 _ _ hf, s3 _ _ hc, a, us, ss, x, rfl, rfl, hS.same s3, hss.same s3, l24, fun l2 H4 n2 h2 s4 => ⟨l2, rfl, ⟨_, .inl (.inl h2)⟩, ?_⟩⟩
        have n2d : d ≠ l2 := ne_of_none hd3 n2
        have n2l : l ≠ l2 := ne_of_none hl3 n2
        refine for_list (K := K) (xs := (nxOf ss x).map V.int) (fun i σ H5 => ∃ (kvs : List (Key × V)) (fs2 as2 : List Int) (v6 : Option V), σ = [some (.int x0), some (.ref f), some (.int m), some (.ref d), some (.ref l), some (.int x), v6] ∧ H5 d = some (.dK kvs) ∧ kvs.map (·.1) = fs2.map Sum.inl ∧ H5 l = some (.lst (as2.map V.int)) ∧
            Srch ss x0 U fs2 as2 (some (x, i)) ∧ Same H H5 ∧ H5 l2 = some (.lst ((nxOf ss x).map V.int)) ∧ 2 * (U.length - fs2.length) + as2.length ≤ 2 * (U.length - fs.length) + as'.length)
          ⟨kvs, fs, as', v6, rfl, s4 _ _ hd3, hk, s4 _ _ hl3, S.pop, s3.trans s4, h2, Nat.le_refl _⟩ (fun _ _ _ _ ⟨_, _, _, _, _, _, _, _, _, _, h, _⟩ => .inl (.inl h)) ?_ ?_
        · rintro i y σ H5 hy ⟨kvs2, fs2, as2, w6, rfl, hd5, hk5, hl5, S5, s5, h25, lt5⟩
          obtain ⟨z, rfl, ez⟩ : ∃ z, y = .int z ∧ (nxOf ss x)[i]? = some z := by
            rw [List.getElem?_map] at hy
            cases e : (nxOf ss x)[i]? with
            | none => rw [e] at hy; cases hy
            | some z => rw [e] at hy; exact ⟨z, (Option.some.inj hy).symm, rfl⟩
          refine ⟨_, rfl, _, rfl, d, _, rfl, DGet.k (k := Sum.inl z) hd5, _, rfl, ?_⟩
          rw [isS z hk5]
          have lk : kvs2.length = fs2.length := by
            have q := congrArg List.length hk5
            rw [List.length_map, List.length_map] at q
            exact q
          have := fU S5
          by_cases e : z ∈ fs2
          · rw [decide_eq_true e]
            exact ⟨kvs2, fs2, as2, _, rfl, hd5, hk5, hl5, S5.old ez e, s5, h25, lt5⟩
          · rw [decide_eq_false e]
            have vn : valV kvs2 (Sum.inl z) = none := by
              have q := isS z hk5
              rw [decide_eq_false e] at q
              exact Option.isNone_iff_eq_none.mp (by rw [← Option.not_isSome, q]; rfl)
            refine ⟨_, rfl, _, rfl, d, _, rfl, DPut.k (k := Sum.inl z) hd5 (small1000 (by omega)), ?_⟩
            have hl6 : (upd H5 d (.dK (putK kvs2 (Sum.inl z) (.bl true)))) l = some (.lst (as2.map V.int)) := by rw [upd_ne ndl.symm]; exact hl5
            refine ⟨_, rfl, .inl ⟨rfl, _, .inl (.inl hl6)⟩, _, rfl, l, _, _, rfl, rfl, hl6, small1000 (by rw [List.length_map]; omega), ?_⟩
            have S6 := S5.new hU ez e
            have := fU S6
            have lf : (fs2 ++ [z]).length = fs2.length + 1 := by rw [List.length_append]; rfl
            have la : (as2 ++ [z]).length = as2.length + 1 := by rw [List.length_append]; rfl
            refine ⟨_, fs2 ++ [z], as2 ++ [z], _, rfl, by rw [upd_ne ndl, upd_same], ?_, by rw [upd_same, List.map_append]; rfl, S6, fun b o eb => ?_, by rw [upd_ne n2l.symm, upd_ne n2d.symm]; exact h25, by omega⟩
            · rw [putK_new _ vn, List.map_append, List.map_append, hk5]
              rfl
            · rw [upd_ne (ne_of_none eb fl), upd_ne (ne_of_none eb nd)]
              exact s5 _ _ eb
        · rintro σ H5 ⟨kvs2, fs2, as2, w6, rfl, hd5, hk5, hl5, S5, s5, h25, lt5⟩
          rw [List.length_map] at S5
          have lk : kvs2.length = fs2.length := by
            have q := congrArg List.length hk5
            rw [List.length_map, List.length_map] at q
            exact q
          have := fU S5
          refine ⟨_, rfl, d, kvs2, rfl, hd5, _, rfl, _, _, rfl, rfl, _, rfl, ?_⟩
          rw [decide_eq_false (show ¬ (m : Int) < (kvs2.length : Nat) by omega)]
          exact ⟨kvs2, fs2, as2, _, _, rfl, hd5, hk5, hl5, S5.done, s5, by omega⟩
end
end KX
namespace KX
open PySem PySem.Spec PyProof.Rows L2
/-! ### reached_states -/
/-- a def whose code object has a table of its own -/
structure FunC (K : PySem.W.Frag) (x qual : Str) (st : Stmt) (f : Addr) (fd : FuncData) (c : Addr) : Prop where
  ex : ∃ (oc : Value) (od : Option Addr) (kV doc pm : Value) (an : Option Addr) (ct : Value) (osl : Array (Option Value)),
    fd = PySem.W.fnOf x qual (defArgs st) (defBody st) (defScope st) .none kV doc pm an (.ref c) ct ∧ K.lookup f = some ⟨oc, od, .func fd, osl⟩ ∧ PySem.W.codeIn K (.ref c) qual = true
  kp : PySem.W.keepIn K (.ref f) = true
theorem FunC.fun {K : PySem.W.Frag} {x qual : Str} {st : Stmt} {f c : Addr} {fd : FuncData} (F : FunC K x qual st f fd c) : Fun K x qual st f fd :=
  let ⟨oc, od, kV, doc, pm, an, ct, osl, e1, e2, e3⟩ := F.ex
  ⟨⟨oc, od, kV, doc, pm, an, .ref c, ct, osl, e1, e2, e3⟩, F.kp⟩
section
variable {P : Program} {w : World} {K : PySem.W.Frag} {mg : Str → Option Value} {base : Heap}
theorem FunC.ok {x qual : Str} {st : Stmt} {f c : Addr} {fd : FuncData} {N ps : List Str} {k : Nat} {sp : Sp} (F : FunC K x qual st f fd c) (S : FnScope N ps (defScope st)) (len : ∀ vs H Q E, sp vs H Q E → vs.length = ps.length)
    (hbody : ∀ (A : Around) (outer : List Env) (s : Shared) (H : Hp) (vs : List V) (Q : VK) (E : XK), Room k (A.deeper (envOfC qual (defScope st) s.heap.objs.size f (.ref c))) → sp vs H Q E →
      ∃ t, PSs (cxOf CX0 P w K mg base N qual (defScope st) f (.ref c) A outer s H E).nox (defBody st) t ∧ t { nx := fun _ H' => Q .non H', rt := Q } (start N vs) H) : FnOk P w K mg base CX0 (k + 1) f fd ps sp := by
  obtain ⟨oc, od, kV, doc, pm, an, ct, osl, rfl, lk, hcd⟩ := F.ex
  refine fn_of lk hcd S len fun A outer s H vs Q E hr hsp => ?_
  obtain ⟨t, h, q⟩ := hbody A outer s H vs Q E hr hsp
  exact ⟨t, h.nox, q⟩
theorem sc_reached : FnScope ["start", "steps"] ["start", "steps"] (defScope s_reached_states) := ⟨rfl, rfl, rfl, by decide +kernel, rfl, by decide +kernel, by decide +kernel⟩
abbrev nmL : Nat → Nat → Str := fun _ _ => "reached_states.<locals>.<lambda>"
/-- the table of the code objects that reached_states makes -/
abbrev TabL (P : Addr) (H : Hp) : Prop := NdefX.TabsN [(P, nmL)] H
def spReached (K : PySem.W.Frag) (T : Addr) : Sp := fun vs H Q _ => ∃ (x0 : Int) (a : Addr) (us : List V) (ss : List Stp) (U : List Int), vs = [.int x0, .ref a] ∧ TabL T H ∧ Seq K H a us ∧ StepsAt K H us ss ∧ ss.length ≤ 24 ∧ (∀ x, Reach ss x0 x → x ∈ U) ∧ U.length ≤ 8 ∧
  ∀ (l : Addr) (ns : List Int) (H' : Hp), H l = none → H' l = some (.lst (ns.map V.int)) → ns.Pairwise (· < ·) → (∀ x, x ∈ ns ↔ Reach ss x0 x) → LamX.ExtN H H' → TabL T H' → Q (.ref l) H'
theorem extN_seq {H H' : Hp} {a : Addr} {us : List V} (k : LamX.ExtN H H') (h : Seq K H a us) : Seq K H' a us :=
  h.imp (fun q => q.imp (fun r => r.imp (fun e => k _ _ e (fun ps z => nomatch z)) fun ⟨o, e⟩ => ⟨o, k _ _ e (fun ps z => nomatch z)⟩) id) fun q => q.imp (fun r => r.imp (fun e => k _ _ e (fun ps z => nomatch z)) fun ⟨o, e⟩ => ⟨o, k _ _ e (fun ps z => nomatch z)⟩) id
theorem extN_steps {H H' : Hp} {us : List V} {ss : List Stp} (k : LamX.ExtN H H') (h : StepsAt K H us ss) : StepsAt K H' us ss := Paired.mapP h fun _ _ ⟨t, e, q⟩ => ⟨t, e, k _ _ q (fun ps z => nomatch z)⟩
theorem tabL_same {T : Addr} {H H' : Hp} (k : Same H H') (h : TabL T H) : TabL T H' := NdefX.TabsN.ext h k
theorem nxOf_take {ss : List Stp} {i : Nat} {s : Stp} (x : Int) (e : ss[i]? = some s) : nxOf (ss.take (i + 1)) x = nxOf (ss.take i) x ++ if s.a = x then [s.b] else [] := by
  unfold nxOf
  rw [List.take_add_one, e, List.filter_append, List.map_append]
  congr 1
  show (List.filter (fun s => decide (s.a = x)) [s]).map (·.b) = _
  by_cases h : s.a = x
  · rw [if_pos h]
    simp [h]
  · rw [if_neg h]
    simp [h]
theorem nxOf_len (ss : List Stp) (x : Int) : (nxOf ss x).length ≤ ss.length := by
  unfold nxOf
  rw [List.length_map]
  exact List.length_filter_le _ _
theorem ok_reached {f fA c T : Addr} {fd fdA : FuncData} (F : FunC K "reached_states" "reached_states" s_reached_states f fd c) (B : Blt mg) (L : Lim mg) (TB : LamX.TabB base mg c T) (FA : Fun K "all_reached" "all_reached" s_all_reached fA fdA) (bA : Binds K fdA ["first", "following", "most"] []) (gA : mg "all_reached" = some (.ref fA)) :
    FnOk P w K mg base CX0 3 f fd ["start", "steps"] (spReached K T) := by
  have GA : VL.FnOkS P w K mg base CX0 2 fA fdA ["first", "following", "most"] (spAll P w K mg base) := ok_all FA B
  obtain ⟨t8, e8⟩ := L.states
  refine F.ok sc_reached (fun vs H Q E h => ?_) (fun A outer s H vs Q E hr h => ?_)
  · obtain ⟨x0, a, us, ss, U, rfl, _⟩ := h
    rfl
  · obtain ⟨x0, a, us, ss, U, rfl, hT, hS, hss, l24, hU, lU, q⟩ := h
    refine ⟨_, pss_one (ps_ret (VL.pe_callSt (E := E0) GA hr (by rfl) gA FA.kp bA pass0 (pa_cons (pv 0) (pa_cons (VL.pe_lamV (T := [(T, nmL)]) (nm := nmL) (P := T) (c := c) TB rfl List.mem_cons_self rfl (fun p hp _ => by rw [List.mem_singleton.mp hp]) rfl (VL.free_by (by kernel_rfl)))
      (pa_cons (pe_glob rfl e8 (v := .int 8) ⟨_, rfl⟩) pa_nil))))), ?_⟩
    refine ⟨_, rfl, hT, fun g c' H1 eN nn T1 g0 hg hc => fun pins s1 I1 => ?_⟩
    refine ⟨x0, g, a, 8, _, us, ss, U, rfl, hg, hc, ?_, fun g2 => ?_, extN_seq eN hS, extN_steps eN hss, l24, hU, lU, by decide, fun l ns H' nl hl pw hr' s' => ?_⟩
    · exact NdefX.cells_of (js := [1]) I1 (NdefX.Caps.made I1.ok (VL.free_by (by kernel_rfl)) (fun y hy => by rw [List.mem_singleton.mp hy]; exact List.mem_cons_of_mem _ List.mem_cons_self) rfl)
    · refine VL.lamOk_of (N := ["state", "steps", "step"]) (p := "state") (VL.lscope_by (by kernel_rfl)) VL.clOk_from (fun _ _ _ => rfl) fun A2 outer2 s2 H2 v ws Q2 E2 hr2 hw hsp => ?_
      obtain ⟨a2, us2, ss2, x, rfl, rfl, hS2, hss2, l242, q2⟩ := hsp
      have nd3 : (["state", "steps", "step"] : List Str).Nodup := by decide +kernel
      refine ⟨_, pe_lc (own := [("step", 2)]) (g := gName 2) rfl nd3 (VE.pi_seqS (j := 1) rfl (.inr (.inr rfl))) (blkOk_by (by kernel_rfl)) (fun _ _ _ _ _ => pg_name (i := 2) nd3 rfl (.inl rfl))
        (fun _ _ _ _ _ => pts_one (pt_cmpR op_eq (pe_ix (r := rIxT K) ix_tup (pv 2) pe_int (fun _ _ => rfl)) (pv 0) (nomark _))) (fun _ _ _ _ _ => pe_ix (r := rIxT K) ix_tup (pv 2) pe_int (fun _ _ => rfl)), ?_⟩
      refine VE.lc_seqS (H0 := H2) rfl (Same.refl _) hS2 (fun D i H3 => H3 D = some (.lst ((nxOf (ss2.take i) x).map V.int)) ∧ Same H2 H3) (fun D hD => ⟨by rw [upd_same]; rfl, same_new hD⟩) (fun D i H3 _ h => h.2) ?_ ?_
      · rintro D i y H3 hD hy ⟨hD3, s3⟩
        obtain ⟨st, t, rfl, es, ht⟩ := get_tup (hss2.same s3) hy
        refine ⟨rfl, _, rfl, t, _, _, _, rfl, rfl, .inl (.inl ht), atI_nat (j := 0) rfl, _, rfl, rfl, _, rfl, ?_⟩
        by_cases ea : st.a = x
        · rw [decide_eq_true (congrArg V.int ea)]
          refine ⟨_, rfl, t, _, _, _, rfl, rfl, .inl (.inl ht), atI_nat (j := 2) rfl, _, hD3, ?_, ?_, fun b o e => ?_⟩
          · rw [List.length_map]
            have := nxOf_len (ss2.take i) x
            have := List.length_take_le' i ss2
            exact small1000 (by omega)
          · rw [upd_same, nxOf_take x es, if_pos ea, List.map_append]
            rfl
          · rw [upd_ne (ne_of_none e hD)]
            exact s3 b o e
        · rw [decide_eq_false fun z => ea (V.int.inj z)]
          refine ⟨?_, s3⟩
          rw [nxOf_take x es, if_neg ea, List.append_nil]
          exact hD3
      · rintro D H3 hD ⟨hD3, s3⟩
        rw [hss2.length, List.take_length] at hD3
        exact q2 D H3 hD hD3 s3
    · exact q l ns H' (nn _ nl) hl pw hr' (fun b o e n => s' _ _ (eN b o e n)) (tabL_same s' T1)
end
end KX
namespace KX
open PySem PySem.Spec PyProof.Rows L2
/-! ### Hand.__init__ -/
structure HandT (K : PySem.W.Frag) (mg : Str → Option Value) (C : Addr) : Prop where
  cl : Cls K C
  start : NoAttr K C "start"
  steps : NoAttr K C "steps"
  words : NoAttr K C "words"
  states : NoAttr K C "states"
  exits : NoAttr K C "exits"
def hfs (x0 : Int) (ts ws sts ex : Addr) : List (Str × V) := putF "exits" (.ref ex) (putF "states" (.ref sts) (putF "words" (.ref ws) (putF "steps" (.ref ts) (putF "start" (.int x0) []))))
/-- what stands stands, but what is at p and the tables -/
def Kept (p : Addr) (H H' : Hp) : Prop := ∀ b o, b ≠ p → H b = some o → (∀ ps, o ≠ .tbl ps) → H' b = some o
/-- a hand stands at p -/
structure HandAt (K : PySem.W.Frag) (C : Addr) (H : Hp) (p : Addr) (x0 : Int) (us : List V) (wl : List Str) (nl : List Int) : Prop where
  ob : ∃ dx ts ws sts ex, H p = some (.ins C dx (hfs x0 ts ws sts ex)) ∧ SqT K H ts us ∧ H ws = some (.tup (wl.map V.str)) ∧ H sts = some (.tup (nl.map V.int))
/-- the hand of such a start and such steps -/
structure HandOf (ss : List Stp) (x0 : Int) (wl : List Str) (nl : List Int) : Prop where
  ws : sortedS wl = true
  wn : wl.Nodup
  wm : ∀ z, z ∈ wl ↔ ∃ s ∈ ss, s.w = z
  np : nl.Pairwise (· < ·)
  nm : ∀ x, x ∈ nl ↔ Reach ss x0 x
section
variable {P : Program} {w : World} {K : PySem.W.Frag} {mg : Str → Option Value} {base : Heap}
abbrev nInit : List Str := ["self", "start", "steps", "words", "states", "step"]
theorem sc_init : FnScope nInit ["self", "start", "steps"] (defScope s_Hand_init) := ⟨rfl, rfl, rfl, by decide +kernel, rfl, by decide +kernel, by decide +kernel⟩
def spHand (K : PySem.W.Frag) (C T : Addr) : Sp := fun vs H Q _ => ∃ (p dx a : Addr) (x0 : Int) (us : List V) (ss : List Stp) (U : List Int) (zs : List Str), vs = [.ref p, .int x0, .ref a] ∧ H p = some (.ins C dx []) ∧ TabL T H ∧ Seq K H a us ∧ StepsAt K H us ss ∧ Good ss ∧
  0 ≤ x0 ∧ x0 ≤ 99 ∧ (∀ s ∈ ss, s.w ∈ zs) ∧ zs.length ≤ 8 ∧ (∀ x, Reach ss x0 x → x ∈ U) ∧ U.length ≤ 8 ∧
  ∀ (wl : List Str) (nl : List Int) (H' : Hp), HandAt K C H' p x0 us wl nl → HandOf ss x0 wl nl → Kept p H H' → TabL T H' → Q .non H'
/-- the defs that Hand's making calls -/
structure HandD (K : PySem.W.Frag) (mg : Str → Option Value) (base : Heap) (fW fS fN fR fT fC fA fG fE c T : Addr) (fdW fdS fdN fdR fdT fdC fdA fdG fdE : FuncData) : Prop where
  kin : KinD K mg fW fS fN fdW fdS fdN
  FR : Fun K "is_row" "is_row" s_is_row fR fdR
  bR : Binds K fdR ["value"] []
  gR : mg "is_row" = some (.ref fR)
  FT : Fun K "is_step" "is_step" s_is_step fT fdT
  bT : Binds K fdT ["value"] []
  gT : mg "is_step" = some (.ref fT)
  FC : Fun K "check_steps" "check_steps" s_check_steps fC fdC
  bC : Binds K fdC ["steps"] []
  gC : mg "check_steps" = some (.ref fC)
  FA : Fun K "all_reached" "all_reached" s_all_reached fA fdA
  bA : Binds K fdA ["first", "following", "most"] []
  gA : mg "all_reached" = some (.ref fA)
  FG : FunC K "reached_states" "reached_states" s_reached_states fG fdG c
  bG : Binds K fdG ["start", "steps"] []
  gG : mg "reached_states" = some (.ref fG)
  TB : LamX.TabB base mg c T
  FE : Fun K "exits_of" "exits_of" s_exits_of fE fdE
  bE : Binds K fdE ["steps"] []
  gE : mg "exits_of" = some (.ref fE)
theorem Kept.same {p : Addr} {H H' : Hp} (k : Same H H') : Kept p H H' := fun b o _ e _ => k b o e
theorem Kept.ext {p : Addr} {H H' : Hp} (k : LamX.ExtN H H') : Kept p H H' := fun b o _ e n => k b o e n
theorem Kept.trans {p : Addr} {H H1 H2 : Hp} (a : Kept p H H1) (b : Kept p H1 H2) : Kept p H H2 := fun c o n e t => b c o n (a c o n e t) t
theorem Kept.at {p : Addr} {H : Hp} {o : HO} : Kept p H (upd H p o) := fun b u n e _ => by rw [upd_ne n]; exact e
theorem nd_lenS : ∀ {fs U : List Str}, fs.Nodup → (∀ x ∈ fs, x ∈ U) → fs.length ≤ U.length
  | [], _, _, _ => Nat.zero_le _
  | x :: r, U, nd, h => by
    obtain ⟨n1, n2⟩ := List.nodup_cons.mp nd
    have hx := h x List.mem_cons_self
    have q := nd_lenS (fs := r) (U := U.erase x) n2 fun y hy => by
      have ne : y ≠ x := fun e => n1 (e ▸ hy)
      exact (List.mem_erase_of_ne ne).mpr (h y (List.mem_cons_of_mem _ hy))
    rw [List.length_erase_of_mem hx] at q
    have := List.length_pos_of_mem hx
    rw [List.length_cons]
    omega
theorem few1 {x0 : Int} : (putF "start" (.int x0) []).length < 1000 := Nat.lt_of_le_of_lt (length_putF _ _ _) (by decide)
theorem few2 {x0 : Int} {t : Addr} : (putF "steps" (.ref t) (putF "start" (.int x0) [])).length < 1000 := Nat.lt_of_le_of_lt (Nat.le_trans (length_putF _ _ _) (Nat.succ_le_succ (length_putF _ _ _))) (by decide)
theorem few3 {x0 : Int} {t u : Addr} : (putF "words" (.ref u) (putF "steps" (.ref t) (putF "start" (.int x0) []))).length < 1000 :=
  Nat.lt_of_le_of_lt (Nat.le_trans (length_putF _ _ _) (Nat.succ_le_succ (Nat.le_trans (length_putF _ _ _) (Nat.succ_le_succ (length_putF _ _ _))))) (by decide)
theorem few4 {x0 : Int} {t u v : Addr} : (putF "states" (.ref v) (putF "words" (.ref u) (putF "steps" (.ref t) (putF "start" (.int x0) [])))).length < 1000 :=
  Nat.lt_of_le_of_lt (Nat.le_trans (length_putF _ _ _) (Nat.succ_le_succ (Nat.le_trans (length_putF _ _ _) (Nat.succ_le_succ (Nat.le_trans (length_putF _ _ _) (Nat.succ_le_succ (length_putF _ _ _))))))) (by decide)
theorem kept_seq {p a : Addr} {H H' : Hp} {us : List V} {o : HO} (hp : H p = some o) (hn : ∀ u, (o = .lst u ∨ o = .tup u) → False) (hf : ∀ q u, o = .frz q u → False) (k : Kept p H H') (h : Seq K H a us) : Seq K H' a us := by
  have one : ∀ {b : Addr} {u : HO}, (u = .lst us ∨ u = .tup us) → Rd H b u → Rd H' b u := fun {b u} hu r => by
    rcases r with e | ⟨q, e⟩
    · refine .inl (k b u (fun z => ?_) e fun ps z => ?_)
      · rw [z, hp] at e
        cases e
        exact hn us hu
      · rcases hu with r | r <;> rw [r] at z <;> cases z
    · refine .inr ⟨q, k b _ (fun z => ?_) e fun ps z => nomatch z⟩
      rw [z, hp] at e
      cases e
      exact hf q u rfl
  exact h.imp (fun q => q.imp (one (.inl rfl)) id) fun q => q.imp (one (.inr rfl)) id
theorem kept_steps {p : Addr} {H H' : Hp} {us : List V} {ss : List Stp} {o : HO} (hp : H p = some o) (hn : ∀ u, o = .tup u → False) (k : Kept p H H') (h : StepsAt K H us ss) : StepsAt K H' us ss :=
  Paired.mapP h fun _ _ ⟨t, e, q⟩ => ⟨t, e, k _ _ (fun z => by rw [z, hp] at q; cases q; exact hn _ rfl) q (fun ps z => nomatch z)⟩
theorem tabL_upd {T p : Addr} {H : Hp} {o o' : HO} (hp : H p = some o) (n1 : ∀ ps, o ≠ .tbl ps) (n2 : ∀ c q, o ≠ LamX.CodeO c q) (h : TabL T H) : TabL T (upd H p o') := by
  intro x hx
  obtain ⟨ps, e1, e2, e3⟩ := h x hx
  refine ⟨ps, by rw [upd_ne (fun z => n1 ps (by rw [z, hp] at e1; exact Option.some.inj e1))]; exact e1, e2, fun pos cv hc => ?_⟩
  obtain ⟨c, r1, r2⟩ := e3 pos cv hc
  exact ⟨c, r1, by rw [upd_ne (fun z => n2 _ _ (by rw [z, hp] at r2; exact Option.some.inj r2))]; exact r2⟩
/-- while Hand's fields are stored -/
structure InitSt (K : PySem.W.Frag) (C T p dx a ts : Addr) (us : List V) (ss : List Stp) (H0 : Hp) (fs : List (Str × V)) (H : Hp) : Prop where
  hp : H p = some (.ins C dx fs)
  tt : SqT K H ts us
  tab : TabL T H
  kept : Kept p H0 H
  seq : Seq K H a us
  steps : StepsAt K H us ss
theorem kept_tup {K : PySem.W.Frag} {p ts C dx : Addr} {fs : List (Str × V)} {H H' : Hp} {us : List V} (hp : H p = some (.ins C dx fs)) (k : Kept p H H') (h : SqT K H ts us) : SqT K H' ts us := by
  refine h.imp (fun r => r.imp (fun e => k _ _ (fun z => ?_) e fun ps z => nomatch z) fun ⟨o, e⟩ => ⟨o, k _ _ (fun z => ?_) e fun ps z => nomatch z⟩) id
  · rw [z, hp] at e
    cases e
  · rw [z, hp] at e
    cases e
theorem InitSt.put {K : PySem.W.Frag} {C T p dx a ts : Addr} {us : List V} {ss : List Stp} {H0 H H6 : Hp} {fs fs' : List (Str × V)} (S : InitSt K C T p dx a ts us ss H0 fs H) (s6 : Same H H6) : InitSt K C T p dx a ts us ss H0 fs' (upd H6 p (.ins C dx fs')) := by
  have hp6 := s6 _ _ S.hp
  refine ⟨upd_same, kept_tup hp6 Kept.at (S.tt.imp (Rd.keep fun b u e _ => s6 b u e) id), tabL_upd hp6 (fun ps z => nomatch z) (fun c q z => by unfold LamX.CodeO at z; cases z) (tabL_same s6 S.tab), (S.kept.trans (Kept.same s6)).trans Kept.at,
    kept_seq hp6 (fun u h => by rcases h with h | h <;> cases h) (fun q u h => nomatch h) Kept.at (S.seq.same s6), kept_steps hp6 (fun u h => nomatch h) Kept.at (S.steps.same s6)⟩
theorem ok_init {f C fW fS fN fR fT fC fA fG fE c T : Addr} {fd fdW fdS fdN fdR fdT fdC fdA fdG fdE : FuncData} (F : Fun K "__init__" "Hand.__init__" s_Hand_init f fd) (B : Blt mg) (N : Kin mg) (L : Lim mg) (TX : HandT K mg C) (D : HandD K mg base fW fS fN fR fT fC fA fG fE c T fdW fdS fdN fdR fdT fdC fdA fdG fdE) :
    FnOk P w K mg base CX0 5 f fd ["self", "start", "steps"] (spHand K C T) := by
  have GS : FnOk P w K mg base CX0 2 fS fdS ["value"] spState := ok_state D.kin.FS B N D.kin.FW D.kin.bW D.kin.gW
  have GC : FnOk P w K mg base CX0 4 fC fdC ["steps"] (spCheck K) := ok_check D.FC B N L D.kin D.FR D.bR D.gR D.FT D.bT D.gT
  have GG : FnOk P w K mg base CX0 3 fG fdG ["start", "steps"] (spReached K T) := ok_reached D.FG B L D.TB D.FA D.bA D.gA
  have GE : FnOk P w K mg base CX0 1 fE fdE ["steps"] (spExits K) := ok_exits D.FE B
  obtain ⟨t8, e8⟩ := L.words
  refine F.ok sc_init (fun vs H Q E h => ?_) (fun cdv A outer s H vs Q E hr h => ?_)
  · obtain ⟨p, dx, a, x0, us, ss, U, zs, rfl, _⟩ := h
    rfl
  · obtain ⟨p, dx, a, x0, us, ss, U, zs, rfl, hp, hT, hS, hss, G, h0, h1, hz, lz, hU, lU, q⟩ := h
    refine ⟨_, pss_cons (ps_if (pt_not (pt_val (pe_call GS (hr.mono (by decide)) (by rfl) D.kin.gS D.kin.FS.kp D.kin.bS .nil pass0 (pa_cons (pv 1) pa_nil)))) (pss_one VL.ps_dead) pss_nil)
      (pss_cons (ps_expr (pe_call GC hr (by rfl) D.gC D.FC.kp D.bC .nil pass0 (pa_cons (pv 2) pa_nil)))
      (pss_cons (ps_set (i := 3) sc_init.nd rfl (.inl rfl) (pe_callB (VT.cr_sortedT rfl) (by rfl) B.sorted (by decide +kernel) (pa_cons (VT.pe_scT (own := [("step", 5)]) (g := gName 5) (tt := tYes) rfl sc_init.nd (VE.pi_seqS (j := 2) rfl (.inl rfl)) (blkOk_by (N := nInit) (sc := defScope s_Hand_init) (by decide +kernel))
        (fun _ _ _ _ _ => pg_name (i := 5) sc_init.nd rfl (.inl rfl)) (fun _ _ _ _ _ => pts_nil) (fun _ _ _ _ _ => pe_ix (r := rIxT K) ix_tup (pv 5) pe_int (fun _ _ => rfl))) pa_nil)))
      (pss_cons (ps_if (pt_cmpR op_gt (pe_callB call_len_seq (by rfl) B.len PySem.boot_len (pa_cons (pv 3) pa_nil)) (pe_glob rfl e8 (v := .int 8) ⟨_, rfl⟩) (nomark _)) (pss_one VL.ps_dead) pss_nil)
      (pss_cons (ps_set (i := 4) sc_init.nd rfl (.inl rfl) (pe_call GG (hr.mono (by decide)) (by rfl) D.gG D.FG.kp D.bG .nil pass0 (pa_cons (pv 1) (pa_cons (pv 2) pa_nil))))
      (pss_cons (ps_fld (pv 0) (pv 1) rfl)
      (C8.pss_cut (ps_fld (pv 0) (pe_tupleOf (by rfl) B.tuple (pv 2)) rfl)
      (pss_cons (ps_fld (pv 0) (pe_tupleOf (by rfl) B.tuple (pv 3)) rfl)
      (pss_cons (ps_fld (pv 0) (pe_tupleOf (by rfl) B.tuple (pv 4)) rfl)
      (pss_one (ps_fld (pv 0) (pe_call GE (hr.mono (by decide)) (by rfl) D.gE D.FE.kp D.bE .nil pass0 (pa_cons (pv 2) pa_nil)) rfl)))))))))), ?_⟩
    refine ⟨_, rfl, x0, rfl, h0, h1, true, rfl, ?_⟩
    refine ⟨_, rfl, a, us, ss, rfl, hS, hss, G, fun H1 s1 => ?_⟩
    have l24 := G.hi
    have hS1 := hS.same s1
    have hss1 := hss.same s1
    have lu : us.length = ss.length := hss.length
    -- words
    dsimp only [tSeq, tAsg, tCB, tCons]
    refine VE.sc_seqS (K := K) (a := a) (xs := us) (σ := [some (V.ref p), some (V.int x0), some (V.ref a), none, none, none]) (H := H1) (g := gName 5) (tt := tYes) (te := tOp (rIxT K) (tVar 5) (tC (.int 1))) (vs := [5]) (ww := w) (j := 2) (H0 := H1) rfl (Same.refl _) hS1 (fun D i H2 => ∃ (S : Str → Bool) (n : Nat), H2 D = some (VT.SetTO w D S n) ∧ n ≤ i ∧ (∀ z, S z = true ↔ ∃ s ∈ ss.take i, s.w = z) ∧ Same H1 H2)
      (fun D hD => ⟨_, _, upd_same, Nat.le_refl _, (fun z => ⟨(fun h => Bool.noConfusion h), (fun ⟨s, h, _⟩ => by rw [List.take_zero] at h; cases h)⟩), same_new hD⟩) (fun D i H2 _ ⟨_, _, _, _, _, k⟩ => k) ?_ ?_
    · rintro D i y H2 hD hy ⟨S, n, hDS, ln, hSz, s2⟩
      obtain ⟨st, t, rfl, es, ht⟩ := get_tup (hss1.same s2) hy
      have hi' : i < ss.length := (List.getElem?_eq_some_iff.mp es).1
      refine ⟨rfl, _, rfl, t, _, _, _, rfl, rfl, .inl (.inl ht), atI_nat (j := 1) rfl, st.w, S, n, rfl, hDS, by unfold scanBound; omega, _, _, upd_same, ?_, fun z => ?_, fun b o e => ?_⟩
      · split <;> omega
      · rw [Bool.or_eq_true, hSz z, decide_eq_true_eq, List.take_add_one, es]
        constructor
        · rintro (⟨s, h, e⟩ | e)
          · exact ⟨s, List.mem_append_left _ h, e⟩
          · exact ⟨st, List.mem_append_right _ (List.mem_singleton.mpr rfl), e.symm⟩
        · rintro ⟨s, h, e⟩
          rcases List.mem_append.mp h with h | h
          · exact .inl ⟨s, h, e⟩
          · rw [List.mem_singleton.mp h] at e
            exact .inr e.symm
      · rw [upd_ne (ne_of_none e hD)]
        exact s2 b o e
    rintro D0 H2 hD0 ⟨S, n, hDS, ln, hSz, s2⟩
    rw [lu, List.take_length] at hSz
    refine ⟨D0, S, n, rfl, hDS, by omega, fun wl pw w1 w2 w3 w4 npw => ?_⟩
    have s3 : Same H (upd H2 pw (.lst (wl.map V.str))) := (s1.trans s2).trans (same_new npw)
    have hpw : (upd H2 pw (.lst (wl.map V.str))) pw = some (.lst (wl.map V.str)) := upd_same
    generalize upd H2 pw (.lst (wl.map V.str)) = H3 at s3 hpw ⊢
    have wm : ∀ z, z ∈ wl ↔ ∃ s ∈ ss, s.w = z := fun z => (w3 z).trans (hSz z)
    have l8 : wl.length ≤ 8 := Nat.le_trans (nd_lenS w2 fun z hzz => by
      obtain ⟨s, hs, e⟩ := (wm z).mp hzz
      exact e ▸ hz s hs) lz
    refine ⟨_, rfl, pw, _, rfl, .inl (.inl (.inl hpw)), _, _, rfl, rfl, _, rfl, ?_⟩
    rw [decide_eq_false (show ¬ (8 : Int) < ((wl.map V.str).length : Nat) by rw [List.length_map]; omega)]
    -- states
    refine ⟨_, rfl, _, rfl, x0, a, us, ss, U, rfl, tabL_same s3 hT, hS.same s3, hss.same s3, l24, hU, lU, fun ps nl H4 nps hps np nm e4 T4 => ?_⟩
    have k4 : Kept p H H4 := (Kept.same s3).trans (Kept.ext e4)
    have hp4 : H4 p = some (.ins C dx []) := e4 _ _ (s3 _ _ hp) (fun ps z => nomatch z)
    have hpw4 : H4 pw = some (.lst (wl.map V.str)) := e4 _ _ hpw (fun ps z => nomatch z)
    have hS4 : Seq K H4 a us := extN_seq e4 (hS.same s3)
    have hss4 : StepsAt K H4 us ss := extN_steps e4 (hss.same s3)
    have npw : pw ≠ p := fun z => by
      rw [z, hp4] at hpw4
      cases hpw4
    have npp : ps ≠ p := fun z => by
      rw [z, hp4] at hps
      cases hps
    -- self.start = start
    refine ⟨_, rfl, _, rfl, p, C, dx, _, rfl, hp4, TX.cl, TX.start, (by show 0 < 1000; decide), ?_⟩
    have insN : ∀ {fs : List (Str × V)} (u : List V), ((HO.ins C dx fs) = .lst u ∨ (HO.ins C dx fs) = .tup u) → False := fun u h => by
      rcases h with h | h <;> cases h
    have insF : ∀ {fs : List (Str × V)} (q : Obj) (u : HO), (HO.ins C dx fs) = .frz q u → False := fun q u h => nomatch h
    have insT : ∀ {fs : List (Str × V)} (u : List V), (HO.ins C dx fs) = .tup u → False := fun u h => nomatch h
    have insB : ∀ {fs : List (Str × V)} (q : Array Value), (HO.ins C dx fs) ≠ .tbl q := fun q h => nomatch h
    have insC : ∀ {fs : List (Str × V)} (c : Addr) (q : Str), (HO.ins C dx fs) ≠ LamX.CodeO c q := fun c q h => by
      unfold LamX.CodeO at h
      cases h
    have T5 : TabL T (upd H4 p (.ins C dx (putF "start" (.int x0) []))) := tabL_upd hp4 insB insC T4
    have k5 : Kept p H (upd H4 p (.ins C dx (putF "start" (.int x0) []))) := k4.trans Kept.at
    have S5 : Seq K (upd H4 p (.ins C dx (putF "start" (.int x0) []))) a us := kept_seq hp4 insN insF Kept.at hS4
    have ss5 : StepsAt K (upd H4 p (.ins C dx (putF "start" (.int x0) []))) us ss := kept_steps hp4 insT Kept.at hss4
    have pw5 : (upd H4 p (.ins C dx (putF "start" (.int x0) []))) pw = some (.lst (wl.map V.str)) := by rw [upd_ne npw]; exact hpw4
    have ps5 : (upd H4 p (.ins C dx (putF "start" (.int x0) []))) ps = some (.lst (nl.map V.int)) := by rw [upd_ne npp]; exact hps
    have hp5 : (upd H4 p (.ins C dx (putF "start" (.int x0) []))) p = some (.ins C dx (putF "start" (.int x0) [])) := upd_same
    generalize upd H4 p (.ins C dx (putF "start" (.int x0) [])) = H5 at T5 k5 S5 ss5 pw5 ps5 hp5 ⊢
    -- self.steps = tuple(steps)
    refine ⟨fun σ H7 => σ = [some (.ref p), some (.int x0), some (.ref a), some (.ref pw), some (.ref ps), none] ∧ ∃ ts, H7 p = some (.ins C dx (putF "steps" (.ref ts) (putF "start" (.int x0) []))) ∧ SqT K H7 ts us ∧ TabL T H7 ∧ Kept p H H7 ∧ Seq K H7 a us ∧ StepsAt K H7 us ss ∧
      H7 pw = some (.lst (wl.map V.str)) ∧ H7 ps = some (.lst (nl.map V.int)), ?_, ?_⟩
    · have put : ∀ (ts : Addr) (H6 : Hp), Same H5 H6 → SqT K H6 ts us → (∃ ts2, (upd H6 p (.ins C dx (putF "steps" (.ref ts) (putF "start" (.int x0) [])))) p = some (.ins C dx (putF "steps" (.ref ts2) (putF "start" (.int x0) []))) ∧ SqT K (upd H6 p (.ins C dx (putF "steps" (.ref ts) (putF "start" (.int x0) [])))) ts2 us ∧
          TabL T (upd H6 p (.ins C dx (putF "steps" (.ref ts) (putF "start" (.int x0) [])))) ∧ Kept p H (upd H6 p (.ins C dx (putF "steps" (.ref ts) (putF "start" (.int x0) [])))) ∧ Seq K (upd H6 p (.ins C dx (putF "steps" (.ref ts) (putF "start" (.int x0) [])))) a us ∧ StepsAt K (upd H6 p (.ins C dx (putF "steps" (.ref ts) (putF "start" (.int x0) [])))) us ss ∧
          (upd H6 p (.ins C dx (putF "steps" (.ref ts) (putF "start" (.int x0) [])))) pw = some (.lst (wl.map V.str)) ∧ (upd H6 p (.ins C dx (putF "steps" (.ref ts) (putF "start" (.int x0) [])))) ps = some (.lst (nl.map V.int))) := fun ts H6 s6 ht => by
        have hp6 := s6 _ _ hp5
        refine ⟨ts, upd_same, ?_, tabL_upd hp6 insB insC (tabL_same s6 T5), (k5.trans (Kept.same s6)).trans Kept.at, kept_seq hp6 insN insF Kept.at (S5.same s6), kept_steps hp6 insT Kept.at (ss5.same s6), by rw [upd_ne npw]; exact s6 _ _ pw5, by rw [upd_ne npp]; exact s6 _ _ ps5⟩
        have := kept_seq (K := K) (a := ts) (us := us) hp6 insN insF (Kept.at (o := .ins C dx (putF "steps" (.ref ts) (putF "start" (.int x0) [])))) (.inr ht)
        exact ht.imp (fun r => r.imp (fun e => by
          have ne : ts ≠ p := fun z => by
            rw [z, hp6] at e
            cases e
          rw [upd_ne ne]
          exact e) fun ⟨o, e⟩ => ⟨o, by
          have ne : ts ≠ p := fun z => by
            rw [z, hp6] at e
            cases e
          rw [upd_ne ne]
          exact e⟩) id
      rcases S5 with sl | st
      · refine ⟨_, rfl, .inl ⟨a, us, rfl, sl, fun q0 nq => ⟨_, rfl, p, C, dx, _, rfl, same_new nq _ _ hp5, TX.cl, TX.steps, few1, rfl, put q0 _ (same_new nq) (.inl (.inl upd_same))⟩⟩⟩
      · refine ⟨_, rfl, .inr ⟨a, us, rfl, st, _, rfl, p, C, dx, _, rfl, hp5, TX.cl, TX.steps, few1, rfl, put a _ (Same.refl _) st⟩⟩
    rintro σ H7 ⟨rfl, ts, hp7, ht7, T7, k7, S7, ss7, pw7, ps7⟩
    have I7 : InitSt K C T p dx a ts us ss H _ H7 := ⟨hp7, ht7, T7, k7, S7, ss7⟩
    -- self.words = tuple(words)
    refine ⟨_, rfl, .inl ⟨pw, _, rfl, .inl (.inl pw7), fun q1 nq1 => ⟨_, rfl, p, C, dx, _, rfl, same_new nq1 _ _ hp7, TX.cl, TX.words, few2, ?_⟩⟩⟩
    have n1p : q1 ≠ p := (ne_of_none hp7 nq1).symm
    have I8 := I7.put (fs' := putF "words" (.ref q1) (putF "steps" (.ref ts) (putF "start" (.int x0) []))) (same_new (o := .tup (wl.map V.str)) nq1)
    have w8 : (upd (upd H7 q1 (.tup (wl.map V.str))) p (.ins C dx (putF "words" (.ref q1) (putF "steps" (.ref ts) (putF "start" (.int x0) []))))) q1 = some (.tup (wl.map V.str)) := by rw [upd_ne n1p, upd_same]
    have ps8 : (upd (upd H7 q1 (.tup (wl.map V.str))) p (.ins C dx (putF "words" (.ref q1) (putF "steps" (.ref ts) (putF "start" (.int x0) []))))) ps = some (.lst (nl.map V.int)) := by rw [upd_ne npp]; exact same_new nq1 _ _ ps7
    generalize upd (upd H7 q1 (.tup (wl.map V.str))) p (.ins C dx (putF "words" (.ref q1) (putF "steps" (.ref ts) (putF "start" (.int x0) [])))) = H8 at I8 w8 ps8 ⊢
    -- self.states = tuple(states)
    refine ⟨_, rfl, .inl ⟨ps, _, rfl, .inl (.inl ps8), fun q2 nq2 => ⟨_, rfl, p, C, dx, _, rfl, same_new nq2 _ _ I8.hp, TX.cl, TX.states, few3, ?_⟩⟩⟩
    have n2p : q2 ≠ p := (ne_of_none I8.hp nq2).symm
    have I9 := I8.put (fs' := putF "states" (.ref q2) (putF "words" (.ref q1) (putF "steps" (.ref ts) (putF "start" (.int x0) [])))) (same_new (o := .tup (nl.map V.int)) nq2)
    have w9 : (upd (upd H8 q2 (.tup (nl.map V.int))) p (.ins C dx (putF "states" (.ref q2) (putF "words" (.ref q1) (putF "steps" (.ref ts) (putF "start" (.int x0) [])))))) q1 = some (.tup (wl.map V.str)) := by rw [upd_ne n1p]; exact same_new nq2 _ _ w8
    have s9 : (upd (upd H8 q2 (.tup (nl.map V.int))) p (.ins C dx (putF "states" (.ref q2) (putF "words" (.ref q1) (putF "steps" (.ref ts) (putF "start" (.int x0) [])))))) q2 = some (.tup (nl.map V.int)) := by rw [upd_ne n2p, upd_same]
    generalize upd (upd H8 q2 (.tup (nl.map V.int))) p (.ins C dx (putF "states" (.ref q2) (putF "words" (.ref q1) (putF "steps" (.ref ts) (putF "start" (.int x0) []))))) = H9 at I9 w9 s9 ⊢
    -- self.exits = exits_of(steps)
    refine ⟨_, rfl, a, us, ss, rfl, I9.seq, I9.steps, G, fun d H10 nd s10 => ⟨_, rfl, p, C, dx, _, rfl, s10 _ _ I9.hp, TX.cl, TX.exits, few4, ?_⟩⟩
    have I11 := I9.put (fs' := hfs x0 ts q1 q2 d) s10
    exact q wl nl _ ⟨dx, ts, q1, q2, d, I11.hp, I11.tt, by rw [upd_ne n1p]; exact s10 _ _ w9, by rw [upd_ne n2p]; exact s10 _ _ s9⟩ ⟨w1, w2, wm, np, nm⟩ I11.kept I11.tab
end
end KX
namespace KX
open PySem PySem.Spec PyProof.Rows L2
/-! ### what isinstance and == ask of the classes -/
structure OwnK (K : PySem.W.Frag) (C : Addr) : Prop where
  cl : Cls K C
  ca : PySem.W.findIn K (.ref C) "__class__" = some (some (.builtin "object.__class__"))
  cg : PySem.W.specialIn K (.builtin "object.__class__") "__get__" = some (some (.builtin "getset_descriptor.__get__"))
  ct : PySem.W.takesIn K (.builtin "object.__class__") = some true
  ob : PySem.W.mroIn K C (.type "object") = some true
theorem OwnK.ty {K : PySem.W.Frag} {C p dx : Addr} {fs : List (Str × V)} {H : Hp} (O : OwnK K C) (e : H p = some (.ins C dx fs)) : TyX K H (.ref p) (.ref C) := .base (.ins e O.cl O.ca O.cg O.ct O.ob)
theorem kit_self {K : PySem.W.Frag} {C : Addr} : PySem.W.kitOne K (.ref C) (.ref C) = some true := if_pos (by simp)
/-- types that are not the class C, nor below it -/
structure NotC (K : PySem.W.Frag) (C : Addr) (t : Value) : Prop where
  kit : PySem.W.kitOne K t (.ref C) = some false
  nf : PySem.W.notFirst K C t = true
structure EqC (K : PySem.W.Frag) (C f : Addr) : Prop where
  eq : PySem.W.findIn K (.ref C) "__eq__" = some (some (.ref f))
  fn : PySem.W.isFn K (.ref f) = true
  ne : PySem.W.findIn K (.ref C) "__ne__" = some (some (.builtin "object.__ne__"))
theorem notFirst_self {K : PySem.W.Frag} {C : Addr} : PySem.W.notFirst K C (.ref C) = true := by
  unfold PySem.W.notFirst
  simp
/-! ### Hand.__eq__ -/
section
variable {P : Program} {w : World} {K : PySem.W.Frag} {mg : Str → Option Value} {base : Heap}
theorem sc_heq : FnScope ["self", "other"] ["self", "other"] (defScope s_Hand_eq) := ⟨rfl, rfl, rfl, by decide +kernel, rfl, by decide +kernel, by decide +kernel⟩
/-- the hand at p, its steps as data -/
def HandS (K : PySem.W.Frag) (C : Addr) (H : Hp) (p : Addr) (x0 : Int) (ss : List Stp) : Prop := ∃ dx fs ts us, H p = some (.ins C dx fs) ∧ fs.lookup ("start" : Str) = some (V.int x0) ∧ fs.lookup ("steps" : Str) = some (V.ref ts) ∧ SqT K H ts us ∧ StepsAt K H us ss ∧ ∀ s ∈ ss, NameOk s.w
theorem HandAt.hs {K : PySem.W.Frag} {C : Addr} {H : Hp} {p : Addr} {x0 : Int} {us : List V} {ss : List Stp} {wl : List Str} {nl : List Int} (h : HandAt K C H p x0 us wl nl) (hs : StepsAt K H us ss) (hn : ∀ s ∈ ss, NameOk s.w) : HandS K C H p x0 ss := by
  obtain ⟨dx, ts, ws, sts, ex, hp, ht, _, _⟩ := h.ob
  exact ⟨dx, _, ts, us, hp, rfl, rfl, ht, hs, hn⟩
theorem HandS.ins {K : PySem.W.Frag} {C : Addr} {H : Hp} {p : Addr} {x0 : Int} {ss : List Stp} (h : HandS K C H p x0 ss) : ∃ dx fs, H p = some (.ins C dx fs) := let ⟨dx, fs, _, _, e, _⟩ := h; ⟨dx, fs, e⟩
def spHEq (K : PySem.W.Frag) (C : Addr) : Sp := fun vs H Q _ => ∃ (p : Addr) (y : V) (x0 : Int) (ss : List Stp), vs = [.ref p, y] ∧ HandS K C H p x0 ss ∧
  ((∃ (p2 : Addr) (x2 : Int) (ss2 : List Stp), y = .ref p2 ∧ HandS K C H p2 x2 ss2 ∧ Q (.bl (decide (x0 = x2 ∧ ss = ss2))) H) ∨ (∃ t, TyX K H y t ∧ PySem.W.kitOne K t (.ref C) = some false ∧ Q (.bl false) H))
theorem eqvAll_dec : ∀ ss ts : List Stp, PyData.eqvAll (ss.map stpD) (ts.map stpD) = decide (ss = ts)
  | [], [] => by
    unfold List.map PyData.eqvAll
    rfl
  | [], t :: r => by
    rw [List.map_cons]
    unfold List.map PyData.eqvAll
    rfl
  | s :: r, [] => by
    rw [List.map_cons]
    unfold List.map PyData.eqvAll
    rfl
  | s :: r, t :: q => by
    rw [List.map_cons, List.map_cons]
    unfold PyData.eqvAll
    rw [eqvAll_dec r q, eqv_stp, Bool.eq_iff_iff]
    simp
theorem ok_heq {f C : Addr} {fd : FuncData} (F : Fun K "__eq__" "Hand.__eq__" s_Hand_eq f fd) (B : Blt mg) (TX : HandT K mg C) (O : OwnK K C) (mC : mg "Hand" = some (.ref C)) : FnOk P w K mg base CX0 1 f fd ["self", "other"] (spHEq K C) := by
  refine F.ok sc_heq (fun vs H Q E h => ?_) (fun cdv A outer s H vs Q E hr h => ?_)
  · obtain ⟨p, y, x0, ss, rfl, _⟩ := h
    rfl
  · obtain ⟨p, y, x0, ss, rfl, ⟨dx, fs, ts, us, hp, fst, fss, ht, hss, hn⟩, alt⟩ := h
    refine ⟨_, pss_one (ps_ret (pe_and (pe_callB call_isi (by rfl) B.isinstance (by decide +kernel) (pa_cons (pv 1) (pa_cons (pe_glob rfl mC (v := .ref C) rfl) pa_nil)))
      (pe_and (pe_cmpR op_eq (pe_fld (pv 0) rfl) (pe_fld (pv 1) rfl) (nomark _)) (pe_one (pe_cmpR (op_eqD (hu64 hr)) (pe_fld (pv 0) rfl) (pe_fld (pv 1) rfl) (nomark _)))))), ?_⟩
    rcases alt with ⟨p2, x2, ss2, rfl, ⟨dx2, fs2, ts2, us2, hp2, fst2, fss2, ht2, hss2, hn2⟩, q⟩ | ⟨t, ty, kt, q⟩
    · refine ⟨_, rfl, _, _, _, _, true, rfl, .own C, O.ty hp2, kit_self, true, rfl, ?_⟩
      refine ⟨_, rfl, p, C, dx, _, _, rfl, hp, TX.cl, TX.start, fst, _, rfl, p2, C, dx2, _, _, rfl, hp2, TX.cl, TX.start, fst2, rfl, _, rfl, ite2 (fun e => ?_) (fun e => ?_)⟩
      · have e' : x0 = x2 := V.int.inj (of_decide_eq_true e)
        subst e'
        refine ⟨_, rfl, p, C, dx, _, _, rfl, hp, TX.cl, TX.steps, fss, _, rfl, p2, C, dx2, _, _, rfl, hp2, TX.cl, TX.steps, fss2, .tuple (ss.map stpD), .tuple (ss2.map stpD), .tup ht hss.dp, .tup ht2 hss2.dp, shaped_tup hn, shaped_tup hn2, ?_⟩
        have e2 : PyData.eqv (.tuple (ss.map stpD)) (.tuple (ss2.map stpD)) = decide (x0 = x0 ∧ ss = ss2) := by
          rw [show PyData.eqv (.tuple (ss.map stpD)) (.tuple (ss2.map stpD)) = PyData.eqvAll (ss.map stpD) (ss2.map stpD) from rfl, eqvAll_dec]
          simp
        rw [e2]
        exact q
      · have e' : decide (x0 = x2 ∧ ss = ss2) = false := decide_eq_false (fun z => e (decide_eq_true (congrArg V.int z.1)))
        rw [e'] at q
        exact q
    · exact ⟨_, rfl, _, _, _, _, false, rfl, .own C, ty, kt, false, rfl, q⟩
end
end KX
namespace KX
open PySem PySem.Spec PyProof.Rows L2
/-! ### what stands while a law draws -/
theorem tabL_sx {T p : Addr} {H H' : Hp} (n1 : ∀ ps, H p ≠ some (.tbl ps)) (n2 : ∀ c q, H p ≠ some (LamX.CodeO c q)) (k : SameX p H H') (h : TabL T H) : TabL T H' := by
  intro x hx
  obtain ⟨ps, e1, e2, e3⟩ := h x hx
  refine ⟨ps, k _ _ (fun z => n1 ps (z ▸ e1)) e1, e2, fun pos cv hc => ?_⟩
  obtain ⟨c, r1, r2⟩ := e3 pos cv hc
  exact ⟨c, r1, k _ _ (fun z => n2 _ _ (z ▸ r2)) r2⟩
theorem PoolAt.nt {H : Hp} {p : Addr} (h : PoolAt H p) : (∀ ps, H p ≠ some (.tbl ps)) ∧ ∀ c q, H p ≠ some (LamX.CodeO c q) := by
  obtain ⟨x, y, z, e⟩ := h
  refine ⟨fun ps q => ?_, fun c r q => ?_⟩
  · rw [e] at q
    cases q
  · rw [e] at q
    unfold LamX.CodeO at q
    cases q
/-- what the law keeps while it draws from the pool at p -/
structure Base0 (H0 : Hp) (p : Addr) (H : Hp) : Prop where
  s : Same H0 H
  np : H0 p = none
  pool : PoolAt H p
theorem PoolAt.same {H H' : Hp} {p : Addr} (k : Same H H') (h : PoolAt H p) : PoolAt H' p := let ⟨x, y, z, e⟩ := h; ⟨x, y, z, k _ _ e⟩
theorem Base0.sx {H0 : Hp} {p : Addr} {H H' : Hp} (h : Base0 H0 p H) (k : SameX p H H') (hp : PoolAt H' p) : Base0 H0 p H' := ⟨fun b o e => k _ _ (ne_of_none e h.np) (h.s _ _ e), h.np, hp⟩
theorem Base0.draw {H0 : Hp} {p : Addr} {H : Hp} (h : Base0 H0 p H) (x y z : Int) : Base0 H0 p (upd H p (.lst [.int x, .int y, .int z])) := h.sx SameX.at ⟨x, y, z, upd_same⟩
theorem Base0.same {H0 : Hp} {p : Addr} {H H' : Hp} (h : Base0 H0 p H) (k : Same H H') : Base0 H0 p H' := h.sx (SameX.of k) (h.pool.same k)
/-- a list that stands, but for the pool's place -/
structure LstAt (H : Hp) (l p : Addr) (xs : List V) : Prop where
  at_ : H l = some (.lst xs)
  ne : l ≠ p
theorem LstAt.draw {H : Hp} {l p : Addr} {xs : List V} (h : LstAt H l p xs) (o : HO) : LstAt (upd H p o) l p xs := ⟨by rw [upd_ne h.ne]; exact h.at_, h.ne⟩
theorem LstAt.same {H H' : Hp} {l p : Addr} {xs : List V} (h : LstAt H l p xs) (k : Same H H') : LstAt H' l p xs := ⟨k _ _ h.at_, h.ne⟩
theorem LstAt.sx {H H' : Hp} {l p : Addr} {xs : List V} (h : LstAt H l p xs) (k : SameX p H H') : LstAt H' l p xs := ⟨k _ _ h.ne h.at_, h.ne⟩
theorem hu64b {A : Around} {k : Nat} (hr : Room k A) : A.units + 64 < cLine := by
  have := hr.un
  omega
theorem HandAt.kept {K : PySem.W.Frag} {C p p2 C2 dx2 : Addr} {fs : List (Str × V)} {H H' : Hp} {x0 : Int} {us : List V} {wl : List Str} {nl : List Int} (ne : p ≠ p2) (hp2 : H p2 = some (.ins C2 dx2 fs)) (k : Kept p2 H H') (h : HandAt K C H p x0 us wl nl) : HandAt K C H' p x0 us wl nl := by
  obtain ⟨dx, ts, ws, sts, ex, e1, e2, e3, e4⟩ := h.ob
  have nt : ∀ {b : Addr} {xs : List V}, H b = some (.tup xs) → b ≠ p2 := fun {b xs} e z => by
    rw [z, hp2] at e
    cases e
  exact ⟨dx, ts, ws, sts, ex, k _ _ ne e1 (fun ps z => nomatch z), kept_tup hp2 k e2, k _ _ (nt e3) e3 (fun ps z => nomatch z), k _ _ (nt e4) e4 (fun ps z => nomatch z)⟩
theorem HandAt.same {K : PySem.W.Frag} {C p : Addr} {H H' : Hp} {x0 : Int} {us : List V} {wl : List Str} {nl : List Int} (k : Same H H') (h : HandAt K C H p x0 us wl nl) : HandAt K C H' p x0 us wl nl := by
  obtain ⟨dx, ts, ws, sts, ex, e1, e2, e3, e4⟩ := h.ob
  exact ⟨dx, ts, ws, sts, ex, k _ _ e1, e2.imp (Rd.keep fun b u e _ => k b u e) id, k _ _ e3, k _ _ e4⟩
/-- but for a list at l -/
theorem HandAt.sx {K : PySem.W.Frag} {C p l : Addr} {H H' : Hp} {x0 : Int} {us ys : List V} {wl : List Str} {nl : List Int} (hl : H l = some (.lst ys)) (k : SameX l H H') (h : HandAt K C H p x0 us wl nl) : HandAt K C H' p x0 us wl nl := by
  obtain ⟨dx, ts, ws, sts, ex, e1, e2, e3, e4⟩ := h.ob
  have nt : ∀ {b : Addr} {o : HO}, H b = some o → (∀ xs, o ≠ .lst xs) → b ≠ l := fun {b o} e n z => by
    rw [z, hl] at e
    exact n _ (Option.some.inj e).symm
  exact ⟨dx, ts, ws, sts, ex, k _ _ (nt e1 fun xs z => nomatch z) e1, SqT.sameX (NoTup.lst hl) k e2, k _ _ (nt e3 fun xs z => nomatch z) e3, k _ _ (nt e4 fun xs z => nomatch z) e4⟩
theorem tabL_lst {T l : Addr} {H H' : Hp} {ys : List V} (hl : H l = some (.lst ys)) (k : SameX l H H') (h : TabL T H) : TabL T H' :=
  tabL_sx (fun ps z => by rw [hl] at z; cases z) (fun c q z => by rw [hl] at z; unfold LamX.CodeO at z; cases z) k h
theorem eqvAll_stps : ∀ ss : List Stp, PyData.eqvAll (ss.map stpD) (ss.map stpD) = true
  | [] => by
    unfold List.map PyData.eqvAll
    rfl
  | s :: r => by
    rw [List.map_cons]
    unfold PyData.eqvAll
    rw [eqvAll_stps r, eqv_stp, decide_eq_true rfl]
    rfl
end KX
namespace KX
open PySem PySem.Spec PyProof.Rows L2
/-! ### _law_hand -/
/-- the pool at p is drawn from, all else stands -/
structure Bp (H0 : Hp) (p : Addr) (H : Hp) : Prop where
  s : SameX p H0 H
  pool : PoolAt H p
theorem Bp.draw {H0 H : Hp} {p : Addr} (h : Bp H0 p H) (x y z : Int) : Bp H0 p (upd H p (.lst [.int x, .int y, .int z])) := ⟨h.s.trans SameX.at, x, y, z, upd_same⟩
theorem Bp.same {H0 H H' : Hp} {p : Addr} (h : Bp H0 p H) (k : Same H H') : Bp H0 p H' := ⟨h.s.trans (SameX.of k), h.pool.same k⟩
theorem Bp.sx {H0 H H' : Hp} {p : Addr} (h : Bp H0 p H) (k : SameX p H H') (hp : PoolAt H' p) : Bp H0 p H' := ⟨h.s.trans k, hp⟩
theorem Bp.ne {H0 H : Hp} {p l : Addr} {o : HO} (h : Bp H0 p H) (e : H l = none) : l ≠ p := fun z => by
  obtain ⟨_, _, _, q⟩ := h.pool
  rw [z, q] at e
  cases e
def stsOf (a g : Int) (n : Nat) : List Int := (List.range n).map fun (k : Nat) => a + g * (k : Int)
theorem stsOf_succ (a g : Int) (n : Nat) : stsOf a g (n + 1) = stsOf a g n ++ [a + g * (n : Int)] := by
  unfold stsOf
  rw [List.range_succ, List.map_append]
  rfl
theorem stsOf_len (a g : Int) (n : Nat) : (stsOf a g n).length = n := by
  unfold stsOf
  rw [List.length_map, List.length_range]
theorem stsOf_mem {a g x : Int} {n : Nat} (h : x ∈ stsOf a g n) : ∃ k, k < n ∧ x = a + g * (k : Int) := by
  obtain ⟨k, hk, e⟩ := List.mem_map.mp h
  exact ⟨k, List.mem_range.mp hk, e.symm⟩
theorem stsOf_at {a g : Int} {n i : Nat} (h : i < n) : (stsOf a g n)[i]? = some (a + g * (i : Int)) := by
  unfold stsOf
  rw [List.getElem?_map, List.getElem?_range h]
  rfl
theorem stsOf_rng {a g x : Int} {n m : Nat} (a0 : 0 ≤ a) (a1 : a < 79) (g0 : 1 ≤ g) (g1 : g ≤ 3) (hn : n ≤ m) (h : x ∈ stsOf a g n) : 0 ≤ x ∧ x ≤ 75 + 3 * (m : Int) := by
  obtain ⟨k, hk, rfl⟩ := stsOf_mem h
  have h1 : 0 ≤ g * (k : Int) := Int.mul_nonneg (by omega) (by omega)
  have h2 : g * (k : Int) ≤ 3 * (k : Int) := Int.mul_le_mul_of_nonneg_right g1 (by omega)
  omega
theorem cnt_none {ss : List Stp} {a : Int} (h : ∀ s ∈ ss, s.a ≠ a) : cnt ss a = 0 := by
  unfold cnt
  rw [List.filter_eq_nil_iff.mpr fun s hs z => h s hs (of_decide_eq_true z)]
  rfl
section
variable {P : Program} {w : World} {K : PySem.W.Frag} {mg : Str → Option Value} {base : Heap}
abbrev nLH : List Str := ["_law_pool_here", "_law_names_here", "_law_most_states", "_law_most_steps", "_law_shape", "_law_first", "_law_gap", "_law_k", "_law_states", "_law_start", "_law_steps_here", "_law_word", "_law_step", "_law_one", "_law_count"]
theorem sc_lh : FnScope nLH ["_law_pool_here", "_law_names_here", "_law_most_states", "_law_most_steps"] (defScope s_law_hand) := ⟨rfl, rfl, rfl, by decide +kernel, rfl, by decide +kernel, by decide +kernel⟩
def spLHand (K : PySem.W.Frag) : Sp := fun vs H Q _ => ∃ (p nl : Addr) (ms mt : Nat) (zs : List Str), vs = [.ref p, .ref nl, .int ms, .int mt] ∧ PoolAt H p ∧ nl ≠ p ∧ SqL K H nl (zs.map V.str) ∧ zs ≠ [] ∧ zs.length ≤ 1000 ∧ (∀ z ∈ zs, NameOk z) ∧
  1 ≤ ms ∧ ms ≤ mt ∧ mt ≤ 24 ∧ ms ≤ 8 ∧
  ∀ (t l : Addr) (us : List V) (ss : List Stp) (x0 : Int) (sts : List Int) (H' : Hp), H t = none → H l = none → H' t = some (.tup [.int x0, .ref l]) → H' l = some (.lst us) → StepsAt K H' us ss → Steps ss sts zs → ss ≠ [] → ss.length ≤ mt → x0 ∈ sts → sts.length ≤ ms →
    (∀ x ∈ sts, 0 ≤ x ∧ x ≤ 75 + 3 * (ms : Int)) → PoolAt H' p → SameX p H H' → Q (.ref t) H'
theorem ok_lhand {f fD fY : Addr} {fd fdD fdY : FuncData} (F : Fun K "_law_hand" "_law_hand" s_law_hand f fd) (B : Blt mg) (FD : Fun K "_law_draw" "_law_draw" s_law_draw fD fdD) (bD : Binds K fdD ["_law_pool_here", "_law_many"] []) (gD : mg "_law_draw" = some (.ref fD))
    (FY : Fun K "_law_steps" "_law_steps" s_law_steps fY fdY) (bY : Binds K fdY ["_law_pool_here", "_law_names_here", "_law_states", "_law_many"] []) (gY : mg "_law_steps" = some (.ref fY)) :
    FnOk P w K mg base CX0 3 f fd ["_law_pool_here", "_law_names_here", "_law_most_states", "_law_most_steps"] (spLHand K) := by
  have GD : FnOk P w K mg base CX0 1 fD fdD ["_law_pool_here", "_law_many"] spDraw := ok_draw FD B
  have GY : FnOk P w K mg base CX0 2 fY fdY ["_law_pool_here", "_law_names_here", "_law_states", "_law_many"] (spMany K) := ok_many FY B FD bD gD
  refine F.ok sc_lh (fun vs H Q E h => ?_) (fun cdv A outer s H vs Q E hr h => ?_)
  · obtain ⟨p, nl, ms, mt, zs, rfl, _⟩ := h
    rfl
  · obtain ⟨p, nl, ms, mt, zs, rfl, hp, npn, hnl, hz0, hz1, hzo, m1, m2, m3, m4, q⟩ := h
    have r1 : Room 1 _ := hr.mono (by decide)
    refine ⟨_, pss_cons (ps_set (i := 4) sc_lh.nd rfl (.inl rfl) (pe_call GD r1 (by rfl) gD FD.kp bD .nil pass0 (pa_cons (pv 0) (pa_cons pe_int pa_nil))))
      (pss_cons (ps_set (i := 5) sc_lh.nd rfl (.inr rfl) (pe_call GD r1 (by rfl) gD FD.kp bD .nil pass0 (pa_cons (pv 0) (pa_cons pe_int pa_nil))))
      (pss_cons (ps_set (i := 6) sc_lh.nd rfl (.inr rfl) (pe_op op_add pe_int (pe_call GD r1 (by rfl) gD FD.kp bD .nil pass0 (pa_cons (pv 0) (pa_cons pe_int pa_nil)))))
      (pss_cons (ps_setLc (i := 8) (own := [("_law_k", 7)]) (g := gName 7) (tt := tYes) rfl sc_lh.nd rfl rfl (sw_true rfl rfl rfl (by decide +kernel)) (pi_range1 rfl B.range (pa_cons (pe_op op_add pe_int (pe_call GD r1 (by rfl) gD FD.kp bD .nil pass0 (pa_cons (pv 0) (pa_cons (pv 2) pa_nil)))) pa_nil)) (blkOk_by (N := nLH) (sc := defScope s_law_hand) (by decide +kernel))
        (fun _ _ _ _ _ => pg_name (i := 7) sc_lh.nd rfl (.inl rfl)) (fun _ _ _ _ _ => pts_nil) (fun _ _ _ _ _ => pe_op op_add (pv 5) (pe_op op_mul (pv 6) (pv 7))))
      (pss_cons (ps_set (i := 9) sc_lh.nd rfl (.inl rfl) (pe_ix ix_list (pv 8) (pe_call GD r1 (by rfl) gD FD.kp bD .nil pass0 (pa_cons (pv 0) (pa_cons (pe_callB call_len_seq (by rfl) B.len PySem.boot_len (pa_cons (pv 8) pa_nil)) pa_nil))) (fun _ _ => rfl)))
      (pss_cons (ps_set (i := 10) sc_lh.nd rfl (.inl rfl) (pe_lst pa_nil))
      (C8.pss_cut (ps_if (pt_cmpR op_gt (pv 4) pe_int (nomark _)) (pss_one (ps_for PassesOwn.never rfl (pi_range1 rfl B.range (pa_cons (pe_callB call_len_seq (by rfl) B.len PySem.boot_len (pa_cons (pv 8) pa_nil)) pa_nil)) (pg_name (i := 7) sc_lh.nd rfl (.inl rfl))
        (pss_cons (ps_set (i := 11) sc_lh.nd rfl (.inl rfl) (pe_ix ix_list (pv 1) (pe_call GD r1 (by rfl) gD FD.kp bD .nil pass0 (pa_cons (pv 0) (pa_cons (pe_callB call_len_seq (by rfl) B.len PySem.boot_len (pa_cons (pv 1) pa_nil)) pa_nil))) (fun _ _ => rfl)))
        (pss_one (ps_expr (pe_bm PySem.F.plainAttrs_list PySem.F.slot_list_append PySem.F.type_list_append mt_append (pv 10) (pa_cons (pe_tup (pa_cons (pe_ix ix_list (pv 8) (pv 7) (fun _ _ => rfl)) (pa_cons (pv 11)
          (pa_cons (pe_ix ix_list (pv 8) (pe_op op_mod (pe_callTy call_int1 (by rfl) B.int (by decide +kernel) (pa_cons (pe_op op_add (pv 7) pe_int) pa_nil)) (pe_callB call_len_seq (by rfl) B.len PySem.boot_len (pa_cons (pv 8) pa_nil))) (fun _ _ => rfl)) pa_nil)))) pa_nil))))))) pss_nil)
      (pss_cons (ps_for PassesOwn.never rfl (pi_list (pe_call GY (hr.mono (by decide)) (by rfl) gY FY.kp bY .nil pass0 (pa_cons (pv 0) (pa_cons (pv 1) (pa_cons (pv 8) (pa_cons (pe_op op_add pe_int (pe_call GD r1 (by rfl) gD FD.kp bD .nil pass0 (pa_cons (pv 0) (pa_cons (pv 3) pa_nil)))) pa_nil)))))) (pg_name (i := 12) sc_lh.nd rfl (.inr rfl))
        (pss_cons (ps_set (i := 14) sc_lh.nd rfl (.inl rfl) (pe_callB call_len_seq (by rfl) B.len PySem.boot_len (pa_cons
            (pe_lc (own := [("_law_one", 13)]) (g := gName 13) rfl sc_lh.nd (pi_list (pv 10)) (blkOk_by (N := nLH) (sc := defScope s_law_hand) (by decide +kernel))
              (fun _ _ _ _ _ => pg_name (i := 13) sc_lh.nd rfl (.inl rfl)) (fun _ _ _ _ _ => pts_one (pt_cmpR op_eq (pe_ix (r := rIxT K) ix_tup (pv 13) pe_int (fun _ _ => rfl)) (pe_ix (r := rIxT K) ix_tup (pv 12) pe_int (fun _ _ => rfl)) (nomark _))) (fun _ _ _ _ _ => pv 13)) pa_nil)))
        (pss_one (ps_if (PW.pt (pw_and (pt_cmpR (op_notInD (hu65 hr)) (pv 12) (pv 10) rfl) (pw_and (pt_cmpR op_lt (pv 14) pe_int (nomark _)) (pw_and1 (pt_cmpR op_lt (pe_callB call_len_seq (by rfl) B.len PySem.boot_len (pa_cons (pv 10) pa_nil)) (pv 3) (nomark _))))))
          (pss_one (ps_expr (pe_bm PySem.F.plainAttrs_list PySem.F.slot_list_append PySem.F.type_list_append mt_append (pv 10) (pa_cons (pv 12) pa_nil)))) pss_nil))))
      (pss_one (ps_ret (pe_tup (pa_cons (pv 9) (pa_cons (pv 10) pa_nil)))))))))))), ?_⟩
    have b0 : Bp H p H := ⟨SameX.refl, hp⟩
    have zl : 0 < zs.length := List.length_pos_iff.mpr hz0
    -- shape
    refine ⟨_, rfl, p, 3, rfl, b0.pool, by decide, by decide, fun d1 x y z d10 d11 => ?_⟩
    have b1 := b0.draw x y z
    generalize upd H p (.lst [.int x, .int y, .int z]) = H1 at b1 ⊢
    -- first
    refine ⟨_, rfl, p, 79, rfl, b1.pool, by decide, by decide, fun d2 x y z d20 d21 => ?_⟩
    have b2 := b1.draw x y z
    generalize upd H1 p (.lst [.int x, .int y, .int z]) = H2 at b2 ⊢
    -- gap
    refine ⟨_, rfl, p, 3, rfl, b2.pool, by decide, by decide, fun d3 x y z d30 d31 => ⟨_, _, rfl, rfl, ?_⟩⟩
    have b3 := b2.draw x y z
    generalize upd H2 p (.lst [.int x, .int y, .int z]) = H3 at b3 ⊢
    -- states
    refine ⟨_, rfl, _, rfl, p, ms, rfl, b3.pool, by omega, by omega, fun d4 x y z d40 d41 => ⟨_, _, rfl, rfl, _, rfl, by omega, by omega, fun D0 nD => ?_⟩⟩
    have b4 := b3.draw x y z
    generalize upd H3 p (.lst [.int x, .int y, .int z]) = H4 at b4 nD ⊢
    have nDp : D0 ≠ p := b4.ne (o := .lst []) nD
    refine lc_range (fun i H' => H' D0 = some (.lst ((stsOf d2 (1 + d3) i).map V.int)) ∧ Same H4 H') ⟨upd_same, same_new nD⟩ ?_ ?_
    · rintro i H' hi ⟨hD, s'⟩
      have hi8 : i < 8 := by omega
      refine ⟨rfl, _, rfl, _, rfl, _, rfl, _, _, rfl, rfl, .inr ⟨by omega, by omega⟩, _, _, rfl, rfl, _, hD, small1000 (by rw [List.length_map, stsOf_len]; omega), ?_⟩
      refine ⟨by rw [upd_same, stsOf_succ, List.map_append, Int.zero_add]; rfl, fun b o e => ?_⟩
      rw [upd_ne (ne_of_none e nD)]
      exact s' b o e
    rintro H5 ⟨hD5, s5⟩
    have b5 := b4.same s5
    obtain ⟨n, en⟩ : ∃ n : Nat, n = (1 + d4).toNat := ⟨_, rfl⟩
    replace hD5 : H5 D0 = some (.lst ((stsOf d2 (1 + d3) n).map V.int)) := by
      rw [en]
      exact hD5
    have n1 : 1 ≤ n := by omega
    have nms : n ≤ ms := by omega
    have lst : (stsOf d2 (1 + d3) n).length = n := stsOf_len _ _ _
    -- start
    refine ⟨_, rfl, _, rfl, _, rfl, D0, _, rfl, .inl (.inl (.inl hD5)), p, _, rfl, b5.pool, by rw [List.length_map]; omega, by rw [List.length_map]; omega, fun d5 x y z d50 d51 => ?_⟩
    rw [List.length_map] at d51
    obtain ⟨x0, ex0, hx0⟩ := at_mod (xs := stsOf d2 (1 + d3) n) V.int d50 d51
    have b6 := b5.draw x y z
    have hD6 : (upd H5 p (.lst [.int x, .int y, .int z])) D0 = some (.lst ((stsOf d2 (1 + d3) n).map V.int)) := by rw [upd_ne nDp]; exact hD5
    refine ⟨D0, _, _, _, rfl, rfl, .inl (.inl hD6), ex0, ?_⟩
    generalize upd H5 p (.lst [.int x, .int y, .int z]) = H6 at b6 hD6 ⊢
    -- steps_here = []
    refine ⟨Nat.zero_le _, fun l nl0 => ?_⟩
    have s7 : Same H6 (upd H6 l (.lst [])) := same_new nl0
    have nlp : l ≠ p := b6.ne (o := .lst []) nl0
    have nlD : D0 ≠ l := ne_of_none hD6 nl0
    have b7 := b6.same s7
    have hD7 := s7 _ _ hD6
    have hl7 : (upd H6 l (.lst [])) l = some (.lst []) := upd_same
    have free_l : H l = none := by
      cases e : H l with
      | none => rfl
      | some o =>
        have := b6.s _ _ nlp e
        rw [nl0] at this
        cases this
    generalize upd H6 l (.lst []) = H7 at b7 hD7 hl7 ⊢
    -- the ring
    refine ⟨fun σ H' => ∃ (us : List V) (ss : List Stp) (v7 v11 : Option V), σ = [some (.ref p), some (.ref nl), some (.int ms), some (.int mt), some (.int d1), some (.int d2), some (.int (1 + d3)), v7, some (.ref D0), some (.int x0), some (.ref l), v11, none, none, none] ∧
      H' l = some (.lst us) ∧ StepsAt K H' us ss ∧ Steps ss (stsOf d2 (1 + d3) n) zs ∧ ss.length ≤ mt ∧ Bp H p H' ∧ H' D0 = some (.lst ((stsOf d2 (1 + d3) n).map V.int)), ?_, ?_⟩
    · refine ⟨_, rfl, _, _, rfl, rfl, _, rfl, ite2 (fun e => ?_) (fun e => ?_)⟩
      · refine ⟨_, rfl, D0, _, rfl, .inl (.inl (.inl hD7)), _, rfl, by rw [List.length_map, lst]; omega, by rw [List.length_map, lst]; omega, ?_⟩
        refine for_range (fun i σ H2 => ∃ (us : List V) (ss : List Stp) (v7 v11 : Option V), σ = [some (.ref p), some (.ref nl), some (.int ms), some (.int mt), some (.int d1), some (.int d2), some (.int (1 + d3)), v7, some (.ref D0), some (.int x0), some (.ref l), v11, none, none, none] ∧
          H2 l = some (.lst us) ∧ StepsAt K H2 us ss ∧ Steps ss (stsOf d2 (1 + d3) n) zs ∧ ss.length = i ∧ (∀ s ∈ ss, ∃ k, k < i ∧ s.a = d2 + (1 + d3) * (k : Int)) ∧ Bp H p H2 ∧ H2 D0 = some (.lst ((stsOf d2 (1 + d3) n).map V.int)))
          ⟨[], [], _, _, rfl, hl7, .nil, Steps.nil, rfl, (fun s hs => nomatch hs), b7, hD7⟩ ?_ ?_
        · rintro i σ H8 hi ⟨us, ss, v7, v11, rfl, hl8, hss, S, hlen, hring, b8, hD8⟩
          have hin : i < n := by
            rw [List.length_map, lst] at hi
            omega
          have hnl8 := b8.s.seqL npn hnl
          refine ⟨_, rfl, _, rfl, _, rfl, nl, _, rfl, .inl hnl8, p, _, rfl, b8.pool, by rw [List.length_map]; omega, by rw [List.length_map]; omega, fun d6 x y z d60 d61 => ?_⟩
          rw [List.length_map] at d61
          obtain ⟨wd, ew, hw⟩ := at_mod V.str d60 d61
          have sx : SameX p H8 (upd H8 p (.lst [.int x, .int y, .int z])) := SameX.at
          have b9 := b8.draw x y z
          have hnl9 := b9.s.seqL npn hnl
          have hD9 := sx _ _ nDp hD8
          have hl9 := sx _ _ nlp hl8
          have hss9 := hss.sameX b8.pool.noTup sx
          generalize upd H8 p (.lst [.int x, .int y, .int z]) = H9 at sx b9 hnl9 hD9 hl9 hss9 ⊢
          refine ⟨nl, _, _, _, rfl, rfl, hnl9, ew, ?_⟩
          have ia : (stsOf d2 (1 + d3) n)[i]? = some (d2 + (1 + d3) * (i : Int)) := stsOf_at hin
          have hm : d2 + (1 + d3) * (i : Int) ∈ stsOf d2 (1 + d3) n := List.mem_of_getElem? ia
          refine ⟨_, rfl, .inl ⟨rfl, _, .inl (.inl hl9)⟩, _, rfl, _, rfl, D0, _, _, .int (d2 + (1 + d3) * (i : Int)), rfl, rfl, .inl (.inl hD9), by rw [Int.zero_add]; exact atI_nat (by rw [List.getElem?_map, ia]; rfl), ?_⟩
          refine ⟨_, rfl, _, rfl, _, rfl, _, _, rfl, rfl, .inl ⟨_, rfl, _, rfl, D0, _, rfl, .inl (.inl (.inl hD9)), _, _, rfl, rfl, by rw [List.length_map, lst]; omega, ?_⟩⟩
          have h0 : 0 ≤ (0 + (i : Int) + 1) % (((stsOf d2 (1 + d3) n).map V.int).length : Nat) := Int.emod_nonneg _ (by rw [List.length_map, lst]; omega)
          have h1 : (0 + (i : Int) + 1) % (((stsOf d2 (1 + d3) n).map V.int).length : Nat) < ((stsOf d2 (1 + d3) n).length : Nat) := by
            rw [List.length_map]
            exact Int.emod_lt_of_pos _ (by omega)
          obtain ⟨bt, eb, hb⟩ := at_mod (xs := stsOf d2 (1 + d3) n) V.int h0 h1
          refine ⟨D0, _, _, _, rfl, rfl, .inl (.inl hD9), eb, by show 3 ≤ sizeLine; decide, fun t nt => ?_⟩
          have s10 : Same H9 (upd H9 t (.tup [.int (d2 + (1 + d3) * (i : Int)), .str wd, .int bt])) := same_new nt
          have tt : upd H9 t (.tup [.int (d2 + (1 + d3) * (i : Int)), .str wd, .int bt]) t = some (.tup [.int (d2 + (1 + d3) * (i : Int)), .str wd, .int bt]) := upd_same
          have b10 := b9.same s10
          have hl10 := s10 _ _ hl9
          have hD10 := s10 _ _ hD9
          have hss10 := hss9.same s10
          generalize upd H9 t (.tup [.int (d2 + (1 + d3) * (i : Int)), .str wd, .int bt]) = H10 at tt b10 hl10 hD10 hss10 ⊢
          have hst : StepAt K H10 (.ref t) ⟨d2 + (1 + d3) * (i : Int), wd, bt⟩ := ⟨t, rfl, tt⟩
          have lu : us.length = ss.length := hss10.length
          refine ⟨l, _, _, rfl, rfl, hl10, small1000 (by omega), ?_⟩
          have sxl : SameX l H10 (upd H10 l (.lst (us ++ [.ref t]))) := SameX.at
          have nt10 : NoTup H10 l := NoTup.lst hl10
          have na : ∀ s ∈ ss, s.a ≠ d2 + (1 + d3) * (i : Int) := fun s hs z => by
            obtain ⟨k, hk, ek⟩ := hring s hs
            rw [ek] at z
            have z1 : (1 + d3) * (k : Int) = (1 + d3) * (i : Int) := by omega
            have z2 := Int.eq_of_mul_eq_mul_left (by omega : (1 + d3) ≠ 0) z1
            omega
          refine ⟨us ++ [.ref t], ss ++ [⟨d2 + (1 + d3) * (i : Int), wd, bt⟩], _, _, rfl, upd_same, Paired.snoc (hss10.sameX nt10 sxl) (hst.sameX nt10 sxl), S.snoc (fun z => na _ z rfl) hm hb hw (by rw [cnt_none na]; decide), by rw [List.length_append, hlen]; rfl, fun s hs => ?_, ⟨fun c o hc e => ?_, ?_⟩, ?_⟩
          · rcases List.mem_append.mp hs with h | h
            · obtain ⟨k, hk, ek⟩ := hring s h
              exact ⟨k, by omega, ek⟩
            · rw [List.mem_singleton.mp h]
              exact ⟨i, by omega, rfl⟩
          · rw [upd_ne (ne_of_none e free_l)]
            exact b10.s c o hc e
          · obtain ⟨x, y, z, e⟩ := b10.pool
            exact ⟨x, y, z, by rw [upd_ne nlp.symm]; exact e⟩
          · rw [upd_ne nlD]
            exact hD10
        · rintro σ H8 ⟨us, ss, v7, v11, rfl, hl8, hss, S, hlen, hring, b8, hD8⟩
          rw [List.length_map, lst] at hlen
          exact ⟨us, ss, _, _, rfl, hl8, hss, S, by omega, b8, hD8⟩
      · exact ⟨[], [], _, _, rfl, hl7, .nil, Steps.nil, Nat.zero_le _, b7, hD7⟩
    rintro σ H8 ⟨us, ss, v7, v11, rfl, hl8, hss8, S8, len8, b8, hD8⟩
    -- for step in steps(..)
    have hnl8 := b8.s.seqL npn hnl
    refine ⟨_, rfl, _, rfl, _, rfl, _, rfl, _, rfl, p, mt, rfl, b8.pool, by omega, by omega, fun d6 x y z d60 d61 => ⟨_, _, rfl, rfl, ?_⟩⟩
    have sx : SameX p H8 (upd H8 p (.lst [.int x, .int y, .int z])) := SameX.at
    have b9 := b8.draw x y z
    have hnl9 := b9.s.seqL npn hnl
    have hD9 := sx _ _ nDp hD8
    have hl9 := sx _ _ nlp hl8
    have hss9 := hss8.sameX b8.pool.noTup sx
    generalize upd H8 p (.lst [.int x, .int y, .int z]) = H9 at sx b9 hnl9 hD9 hl9 hss9 ⊢
    obtain ⟨n6, rfl⟩ := Int.eq_ofNat_of_zero_le d60
    have em : (1 + (n6 : Int)) = ((1 + n6 : Nat) : Int) := by omega
    refine ⟨p, nl, D0, 1 + n6, zs, stsOf d2 (1 + d3) n, congrArg (fun z => [V.ref p, V.ref nl, V.ref D0, V.int z]) em, b9.pool, npn, nDp, hnl9, .inl (.inl hD9), hz0, (fun z => by rw [z] at lst; simp at lst; omega), hz1, by omega, hzo, by omega, by omega, fun l2 us2 ss2 H10 nl2 hl2 hss2 S2 hne2 len2 pool10 sx10 => ?_⟩
    have b10 := b9.sx sx10 pool10
    have hD10 := sx10 _ _ nDp hD9
    have hl10 := sx10 _ _ nlp hl9
    have hss10 := hss9.sameX b9.pool.noTup sx10
    have nl2l : l2 ≠ l := (ne_of_none hl9 nl2).symm
    have lu2 : us2.length = ss2.length := hss2.length
    refine ⟨_, rfl, ⟨us2, .inl (.inl hl2)⟩, ?_⟩
    refine for_list (K := K) (xs := us2) (fun i σ H' => ∃ (us : List V) (ss : List Stp) (v7 v11 v12 v13 v14 : Option V), σ = [some (.ref p), some (.ref nl), some (.int ms), some (.int mt), some (.int d1), some (.int d2), some (.int (1 + d3)), v7, some (.ref D0), some (.int x0), some (.ref l), v11, v12, v13, v14] ∧
      H' l = some (.lst us) ∧ StepsAt K H' us ss ∧ Steps ss (stsOf d2 (1 + d3) n) zs ∧ ss.length ≤ mt ∧ (0 < i → ss ≠ []) ∧ H' l2 = some (.lst us2) ∧ StepsAt K H' us2 ss2 ∧ Bp H p H')
      ⟨us, ss, _, _, _, _, _, rfl, hl10, hss10, S8, len8, (fun h => absurd h (Nat.lt_irrefl _)), hl2, hss2, b10⟩ (fun i σ H' _ ⟨_, _, _, _, _, _, _, _, _, _, _, _, _, e, _, _⟩ => .inl (.inl e)) ?_ ?_
    · rintro i x σ H11 hx ⟨us, ss, v7, v11, v12, v13, v14, rfl, hl11, hss11, S, len, hne, hl211, hss211, b11⟩
      obtain ⟨st, t1, rfl, est, ht1⟩ := get_ref hss211 hx
      have hst : StepAt K H11 (.ref t1) st := by
        obtain ⟨y, ey, q⟩ := paired_at hss211 hx
        rw [est] at ey
        cases ey
        exact q
      have hmem : st ∈ ss2 := List.mem_of_getElem? est
      have lu : us.length = ss.length := hss11.length
      have l24 : ss.length ≤ 24 := by omega
      -- count
      refine ⟨_, rfl, l, rfl, ⟨_, .inl (.inl hl11)⟩, fun D hD => ?_⟩
      refine lc_list (K := K) (xs := us) (fun j H3 => ∃ acc, H3 D = some (.lst acc) ∧ acc.length = cnt (ss.take j) st.a ∧ acc.length ≤ j ∧ Same H11 H3) ⟨[], upd_same, rfl, Nat.le_refl _, same_new hD⟩
        (fun j H3 _ ⟨acc, _, _, _, s3⟩ => s3.seq (.inl (.inl hl11))) ?_ ?_
      · rintro j x H3 hx ⟨acc, hD3, ez, hj, s3⟩
        obtain ⟨sj, tj, rfl, es, hq⟩ := get_ref (hss11.same s3) hx
        have hjl : j < ss.length := (List.getElem?_eq_some_iff.mp es).1
        obtain ⟨tt1, et1, ht13⟩ := hst.same s3
        cases et1
        refine ⟨rfl, _, rfl, tj, _, _, _, rfl, rfl, hq, atI_nat (j := 0) rfl, _, rfl, t1, _, _, _, rfl, rfl, .inl (.inl ht13), atI_nat (j := 0) rfl, rfl, _, rfl, ?_⟩
        by_cases ea : sj.a = st.a
        · rw [decide_eq_true (congrArg V.int ea)]
          refine ⟨_, rfl, acc, hD3, small1000 (by omega), acc ++ [.ref tj], upd_same, ?_, ?_, fun c o e => ?_⟩
          · rw [cnt_take st.a es, if_pos ea, List.length_append, ez]
            rfl
          · rw [List.length_append]
            show acc.length + 1 ≤ _
            omega
          · rw [upd_ne (ne_of_none e hD)]
            exact s3 c o e
        · rw [decide_eq_false fun z => ea (V.int.inj z)]
          exact ⟨acc, hD3, by rw [cnt_take st.a es, if_neg ea]; exact ez, by omega, s3⟩
      · rintro H3 ⟨acc, hD3, ez, hj, s3⟩
        rw [lu, List.take_length] at ez
        have hl3 := s3 _ _ hl11
        have hss3 := hss11.same s3
        have hst3 := hst.same s3
        have b3' := b11.same s3
        refine ⟨D, _, rfl, .inl (.inl (.inl hD3)), ?_⟩
        have wok : ∀ x ∈ ss, NameOk x.w := fun x hx => hzo _ (S.sw x hx)
        refine ⟨_, rfl, _, rfl, stpD st, ss.map stpD, hst3.dp, .lst (.inl (.inl hl3)) hss3.dp, shaped_stp (hzo _ (S2.sw st hmem)), shaped_list wok, _, rfl, ?_⟩
        rw [any_stp]
        by_cases e : st ∈ ss
        · rw [decide_eq_true e]
          exact ⟨us, ss, _, _, _, _, _, rfl, hl3, hss3, S, len, (fun _ z => List.not_mem_nil (z ▸ e)), s3 _ _ hl211, hss211.same s3, b3'⟩
        · rw [decide_eq_false e]
          refine ⟨_, rfl, _, _, rfl, rfl, _, rfl, ite2 (fun e4 => ?_) (fun e4 => ?_)⟩
          · refine ⟨_, rfl, l, _, rfl, .inl (.inl (.inl hl3)), _, rfl, _, _, rfl, rfl, _, rfl, ite2 (fun e5 => ?_) (fun e5 => ?_)⟩
            · have c4 : cnt ss st.a < 4 := by
                have z : ((acc.length : Nat) : Int) < 4 := of_decide_eq_true e4
                omega
              have c5 : ss.length < mt := by
                have z : ((us.length : Nat) : Int) < (mt : Int) := of_decide_eq_true e5
                omega
              refine ⟨_, rfl, .inl ⟨rfl, _, .inl (.inl hl3)⟩, _, rfl, l, _, _, rfl, rfl, hl3, small1000 (by omega), ?_⟩
              have nt3 : NoTup H3 l := NoTup.lst hl3
              have sx : SameX l H3 (upd H3 l (.lst (us ++ [.ref t1]))) := SameX.at
              refine ⟨us ++ [.ref t1], ss ++ [st], _, _, _, _, _, rfl, upd_same, Paired.snoc (hss3.sameX nt3 sx) (hst3.sameX nt3 sx), S.snoc e (S2.sa st hmem) (S2.sb st hmem) (S2.sw st hmem) c4, by rw [List.length_append]; show ss.length + 1 ≤ _; omega, fun _ => by simp, ?_, (hss211.same s3).sameX nt3 sx, ⟨fun c o hc e => ?_, ?_⟩⟩
              · rw [upd_ne nl2l]
                exact s3 _ _ hl211
              · rw [upd_ne (ne_of_none e free_l)]
                exact b3'.s c o hc e
              · obtain ⟨x, y, z, e⟩ := b3'.pool
                exact ⟨x, y, z, by rw [upd_ne nlp.symm]; exact e⟩
            · refine ⟨us, ss, _, _, _, _, _, rfl, hl3, hss3, S, len, fun h0 z => ?_, s3 _ _ hl211, hss211.same s3, b3'⟩
              rw [z] at lu
              have lu : us.length = 0 := lu
              rw [lu] at e5
              exact e5 (decide_eq_true (by omega))
          · refine ⟨us, ss, _, _, _, _, _, rfl, hl3, hss3, S, len, fun h0 z => ?_, s3 _ _ hl211, hss211.same s3, b3'⟩
            rw [z] at ez
            have ez : acc.length = 0 := ez
            rw [ez] at e4
            exact e4 (decide_eq_true (by decide))
    · rintro σ H11 ⟨us, ss, v7, v11, v12, v13, v14, rfl, hl11, hss11, S, len, hne, hl211, hss211, b11⟩
      have hne' : ss ≠ [] := hne (by rw [lu2]; exact List.length_pos_iff.mpr hne2)
      refine ⟨_, rfl, _, rfl, by show 2 ≤ sizeLine; decide, fun t nt => ?_⟩
      have s12 : Same H11 (upd H11 t (.tup [.int x0, .ref l])) := same_new nt
      have ntp : t ≠ p := b11.ne (o := .lst []) nt
      have free_t : H t = none := by
        cases e : H t with
        | none => rfl
        | some o =>
          have := b11.s _ _ ntp e
          rw [nt] at this
          cases this
      exact q t l us ss x0 (stsOf d2 (1 + d3) n) _ free_t free_l upd_same (s12 _ _ hl11) (hss11.same s12) S hne' len hx0 (by omega) (fun x hx => stsOf_rng d20 d21 (by omega) (by omega) nms hx) (b11.pool.same s12) (b11.s.trans (SameX.of s12))
end
end KX
namespace KX
open PySem PySem.Spec PyProof.Rows L2
/-! ### System.__init__ and what it calls -/
structure Lim2 (mg : Str → Option Value) : Prop where
  hands : ∃ t, mg "MOST_HANDS" = some (.int 4 t)
  words : ∃ t, mg "MOST_WORDS_systems" = some (.int 12 t)
/-- the hand at p: what a system reads of it -/
def HandW (K : PySem.W.Frag) (C : Addr) (H : Hp) (v : V) (h : Int × List Str) : Prop := ∃ p dx fs ws, v = .ref p ∧ H p = some (.ins C dx fs) ∧ fs.lookup ("start" : Str) = some (V.int h.1) ∧ fs.lookup ("words" : Str) = some (V.ref ws) ∧ H ws = some (.tup (h.2.map V.str))
theorem HandW.same {K : PySem.W.Frag} {C : Addr} {H H' : Hp} {v : V} {h : Int × List Str} (k : Same H H') (w : HandW K C H v h) : HandW K C H' v h :=
  let ⟨p, dx, fs, ws, e, e1, e2, e3, e4⟩ := w
  ⟨p, dx, fs, ws, e, k _ _ e1, e2, e3, k _ _ e4⟩
theorem HandAt.hw {K : PySem.W.Frag} {C : Addr} {H : Hp} {p : Addr} {x0 : Int} {us : List V} {wl : List Str} {nl : List Int} (h : HandAt K C H p x0 us wl nl) : HandW K C H (.ref p) (x0, wl) := by
  obtain ⟨dx, ts, ws, sts, ex, hp, ht, hw, _⟩ := h.ob
  exact ⟨p, dx, _, ws, rfl, hp, rfl, rfl, hw⟩
abbrev HandsW (K : PySem.W.Frag) (C : Addr) (H : Hp) (us : List V) (hs : List (Int × List Str)) : Prop := Paired (HandW K C H) us hs
theorem HandsW.same {K : PySem.W.Frag} {C : Addr} {H H' : Hp} {us : List V} {hs : List (Int × List Str)} (k : Same H H') (w : HandsW K C H us hs) : HandsW K C H' us hs := Paired.mapP w fun _ _ q => q.same k
theorem isS_keys {kvs : List (Key × V)} {fs : List Int} (z : Int) (hk : kvs.map (·.1) = fs.map Sum.inl) : (valV kvs (Sum.inl z)).isSome = decide (z ∈ fs) := by
  cases e : valV kvs (Sum.inl z) with
  | none =>
    have q := valV_not e
    rw [hk] at q
    exact (decide_eq_false fun h => q (List.mem_map_of_mem h)).symm
  | some v =>
    have q := valV_in e
    rw [hk] at q
    obtain ⟨z', hz, ez⟩ := List.mem_map.mp q
    cases ez
    exact (decide_eq_true hz).symm
theorem take_newG {α : Type} {ss : List α} (nd : ss.Nodup) {i : Nat} {s : α} (e : ss[i]? = some s) : s ∉ ss.take i := fun h => by
  obtain ⟨hi, es⟩ := List.getElem?_eq_some_iff.mp e
  have q : ss = ss.take i ++ s :: ss.drop (i + 1) := by
    rw [← es, ← List.drop_eq_getElem_cons hi, List.take_append_drop]
  rw [q] at nd
  exact (List.nodup_append.mp nd).2.2 s h s List.mem_cons_self rfl
section
variable {P : Program} {w : World} {K : PySem.W.Frag} {mg : Str → Option Value} {base : Heap}
/-! check_hands -/
theorem sc_chk : FnScope ["hands", "index", "hand"] ["hands"] (defScope s_check_hands) := ⟨rfl, rfl, rfl, by decide +kernel, rfl, by decide +kernel, by decide +kernel⟩
def spChk (K : PySem.W.Frag) (C : Addr) : Sp := fun vs H Q _ => ∃ (a : Addr) (us : List V) (hs : List (Int × List Str)), vs = [.ref a] ∧ Seq K H a us ∧ HandsW K C H us hs ∧ 1 ≤ us.length ∧ us.length ≤ 4 ∧ ∀ H', Same H H' → Q .non H'
theorem ok_chk {f fR C : Addr} {fd fdR : FuncData} (F : Fun K "check_hands" "check_hands" s_check_hands f fd) (B : Blt mg) (L : Lim2 mg) (O : OwnK K C) (mC : mg "Hand" = some (.ref C)) (FR : Fun K "is_row" "is_row" s_is_row fR fdR) (bR : Binds K fdR ["value"] []) (gR : mg "is_row" = some (.ref fR)) :
    FnOk P w K mg base CX0 2 f fd ["hands"] (spChk K C) := by
  have GR : FnOk P w K mg base CX0 1 fR fdR ["value"] (spRow K) := ok_row FR B
  obtain ⟨t4, e4⟩ := L.hands
  refine F.ok sc_chk (fun vs H Q E h => ?_) (fun cdv A outer s H vs Q E hr h => ?_)
  · obtain ⟨a, us, hs, rfl, _⟩ := h
    rfl
  · obtain ⟨a, us, hs, rfl, hS, hh, l1, l4, q⟩ := h
    refine ⟨_, pss_cons (ps_if (PW.pt (pw_or (pt_not (pt_val (pe_call GR (hr.mono (by decide)) (by rfl) gR FR.kp bR .nil pass0 (pa_cons (pv 0) pa_nil))))
        (pw_or1 (pt_not (pt_chain op_le op_le pe_int (pe_callB call_len_seq (by rfl) B.len PySem.boot_len (pa_cons (pv 0) pa_nil)) (pe_glob rfl e4 (v := .int 4) ⟨_, rfl⟩)))))) (pss_one VL.ps_dead) pss_nil)
      (pss_one (ps_for PassesOwn.never rfl (VE.pi_enumS (j := 0) rfl B.enumerate rfl (.inl rfl)) (pg_tup rfl (pgs_cons (pg_name (i := 1) sc_chk.nd rfl (.inl rfl)) (pgs_cons (pg_name (i := 2) sc_chk.nd rfl (.inl rfl)) pgs_nil)))
        (pss_one (ps_if (pt_not (pt_val (pe_callB call_isi (by rfl) B.isinstance (by decide +kernel) (pa_cons (pv 2) (pa_cons (pe_glob rfl mC (v := .ref C) rfl) pa_nil))))) (pss_one VL.ps_dead) pss_nil)))), ?_⟩
    refine ⟨_, rfl, a, us, rfl, hS, fun H1 s1 => ⟨true, rfl, ?_⟩⟩
    have i1 : (1 : Int) ≤ (us.length : Nat) := by omega
    have i4 : ((us.length : Nat) : Int) ≤ 4 := by omega
    have hS1 := hS.same s1
    refine ⟨_, rfl, a, us, rfl, hS1, _, _, rfl, rfl, _, rfl, ?_⟩
    rw [decide_eq_true i1]
    refine ⟨_, _, rfl, rfl, _, rfl, ?_⟩
    show if (!decide (((us.length : Nat) : Int) ≤ 4)) = true then _ else _
    rw [decide_eq_true i4]
    refine VE.for_enumS (j := 0) rfl hS (fun i σ H3 => ∃ (v1 v2 : Option V), σ = [some (.ref a), v1, v2] ∧ Same H H3) ⟨none, none, rfl, s1⟩ (fun _ _ _ ⟨_, _, _, k⟩ => k) ?_ ?_
    · rintro i x σ H3 H4 hi ⟨v1, v2, rfl, s3⟩ ⟨T, y1, y2, rfl, nT, rfl, ey, ex⟩
      have ey := Option.some.inj ey
      subst ey
      have sT : Same H3 (upd H3 T (.tup [.int (i : Nat), y2])) := same_new nT
      refine ⟨T, _, rfl, .inl (.inl upd_same), rfl, _, _, rfl, _, _, rfl, rfl, ?_⟩
      obtain ⟨hd, eh, p, dx, fs, ws, rfl, hp, _⟩ := paired_at hh ex
      refine ⟨_, rfl, _, _, _, _, true, rfl, .own C, O.ty (sT _ _ (s3 _ _ hp)), kit_self, true, rfl, ?_⟩
      exact ⟨_, _, rfl, s3.trans sT⟩
    · rintro σ H3 ⟨v1, v2, rfl, s3⟩
      exact q H3 s3
/-! chosen_hands -/
theorem sc_cho : FnScope ["diligent", "many", "chosen", "item"] ["diligent", "many"] (defScope s_chosen_hands) := ⟨rfl, rfl, rfl, by decide +kernel, rfl, by decide +kernel, by decide +kernel⟩
/-- these are chosen by d of many hands -/
def Chosen (K : PySem.W.Frag) (H : Hp) (d : V) (many : Nat) (S : Int → Prop) : Prop := (d = .non ∧ ∀ x, S x ↔ 0 ≤ x ∧ x < (many : Nat)) ∨ (∃ (a : Addr) (xs : List Int), d = .ref a ∧ Seq K H a (xs.map V.int) ∧ xs.Nodup ∧ (∀ x ∈ xs, 0 ≤ x ∧ x < (many : Nat)) ∧ ∀ x, S x ↔ x ∈ xs)
def spCho (K : PySem.W.Frag) : Sp := fun vs H Q _ => ∃ (d : V) (many : Nat) (S : Int → Prop), vs = [d, .int many] ∧ many ≤ 50 ∧ Chosen K H d many S ∧
  ∀ (t : Addr) (dl : List Int) (H' : Hp), H t = none → H' t = some (.tup (dl.map V.int)) → dl.Pairwise (· < ·) → (∀ x, x ∈ dl ↔ S x) → Same H H' → Q (.ref t) H'
theorem rgV_map (n : Nat) : rgV 0 (n : Int) = ((List.range n).map fun (i : Nat) => (i : Int)).map V.int := by
  unfold rgV
  rw [List.map_map, show ((n : Int) - 0).toNat = n by omega]
  refine List.map_congr_left fun i _ => ?_
  show V.int (0 + (i : Int)) = V.int (i : Int)
  rw [Int.zero_add]
theorem ok_cho {f fR fW : Addr} {fd fdR fdW : FuncData} (F : Fun K "chosen_hands" "chosen_hands" s_chosen_hands f fd) (B : Blt mg) (N : Kin mg) (FR : Fun K "is_row" "is_row" s_is_row fR fdR) (bR : Binds K fdR ["value"] []) (gR : mg "is_row" = some (.ref fR))
    (FW : Fun K "is_whole" "is_whole" s_is_whole fW fdW) (bW : Binds K fdW ["value"] []) (gW : mg "is_whole" = some (.ref fW)) : FnOk P w K mg base CX0 2 f fd ["diligent", "many"] (spCho K) := by
  have GR : FnOk P w K mg base CX0 1 fR fdR ["value"] (spRow K) := ok_row FR B
  have GW : FnOk P w K mg base CX0 1 fW fdW ["value"] spWhole := ok_whole FW B N
  refine F.ok sc_cho (fun vs H Q E h => ?_) (fun cdv A outer s H vs Q E hr h => ?_)
  · obtain ⟨d, many, S, rfl, _⟩ := h
    rfl
  · obtain ⟨d, many, S, rfl, hm, hc, q⟩ := h
    have hu := hu_of hr
    refine ⟨_, pss_cons (ps_if (pt_cmp (pc_isN (pv 0))) (pss_one (ps_ret (pe_tupRg rfl (by rfl) B.tuple (prg_1 rfl B.range (pv 1))))) pss_nil)
      (pss_cons (ps_if (pt_not (pt_val (pe_call GR hr (by rfl) gR FR.kp bR .nil pass0 (pa_cons (pv 0) pa_nil)))) (pss_one VL.ps_dead) pss_nil)
      (pss_cons (ps_set (i := 2) sc_cho.nd rfl (.inl rfl) pe_dnewK)
      (pss_cons (ps_for PassesOwn.never rfl (VE.pi_seqS (j := 0) rfl (.inl rfl)) (pg_name (i := 3) sc_cho.nd rfl (.inl rfl))
        (pss_cons (ps_if (PW.pt (pw_or (pt_not (pt_val (pe_call GW hr (by rfl) gW FW.kp bW .nil pass0 (pa_cons (pv 3) pa_nil)))) (pw_or (pt_not (pt_chain op_le op_lt pe_int (pv 3) (pv 1))) (pw_or1 (pt_cmp (pc_din hu (pv 3) (pv 2))))))) (pss_one VL.ps_dead) pss_nil)
        (pss_one (ps_dput hu (pv 2) (pv 3) pe_bl rfl))))
      (pss_one (ps_ret (pe_tupleOf (by rfl) B.tuple (pe_callB (call_sortedDI rfl) (by rfl) B.sorted (by decide +kernel) (pa_cons (pv 2) pa_nil)))))))), ?_⟩
    rcases hc with ⟨rfl, hS⟩ | ⟨a, xs, rfl, hsq, nd, rng, hS⟩
    · refine ⟨_, rfl, _, rfl, ?_⟩
      rw [decide_eq_true rfl]
      refine ⟨_, rfl, _, rfl, RgOk.of_le (by omega) (by omega) (by omega) (by omega), fun t nt => ?_⟩
      refine q t ((List.range many).map fun (i : Nat) => (i : Int)) _ nt (by rw [upd_same, rgV_map]) ?_ (fun x => ?_) (same_new nt)
      · rw [List.pairwise_map]
        exact List.pairwise_lt_range.imp fun h => by omega
      · rw [hS x, List.mem_map]
        constructor
        · rintro ⟨i, hi, rfl⟩
          have := List.mem_range.mp hi
          omega
        · intro h
          exact ⟨x.toNat, List.mem_range.mpr (by omega), by omega⟩
    · refine ⟨_, rfl, _, rfl, ?_⟩
      rw [decide_eq_false (fun z => nomatch z)]
      refine ⟨_, rfl, a, _, rfl, hsq, fun H1 s1 => ⟨true, rfl, ?_⟩⟩
      refine fun e ne => ?_
      have s2 : Same H (upd H1 e (.dK [])) := s1.trans (same_new ne)
      have he : (upd H1 e (.dK [])) e = some (.dK []) := upd_same
      have fe : H e = none := s1.free ne
      generalize upd H1 e (.dK []) = H2 at s2 he ⊢
      have lx : xs.length ≤ 50 := by
        have : xs.length ≤ ((List.range many).map fun (i : Nat) => (i : Int)).length := nd_len nd fun x hx => by
          have := rng x hx
          exact List.mem_map.mpr ⟨x.toNat, List.mem_range.mpr (by omega), by omega⟩
        rw [List.length_map, List.length_range] at this
        omega
      refine VE.for_seqS (K := K) (a := a) (xs := xs.map V.int) (j := 0) (H0 := H) rfl hsq (fun i σ H3 => ∃ (kvs : List (Key × V)) (v3 : Option V), σ = [some (.ref a), some (.int many), some (.ref e), v3] ∧ H3 e = some (.dK kvs) ∧ kvs.map (·.1) = (xs.take i).map Sum.inl ∧ Same H H3)
        ⟨[], none, rfl, he, (by rw [List.take_zero]; rfl), s2⟩ (fun _ _ _ ⟨_, _, _, _, _, k⟩ => k) ?_ ?_
      · rintro i x σ H3 hx ⟨kvs, v3, rfl, h3, hk, s3⟩
        obtain ⟨z, rfl, hz⟩ := get_int hx
        have hxz : xs[i]? = some z := by
          rw [List.getElem?_map] at hx
          cases ex : xs[i]? with
          | none => rw [ex] at hx; cases hx
          | some z' =>
            rw [ex] at hx
            cases hx
            rfl
        have hi : i < xs.length := (List.getElem?_eq_some_iff.mp hxz).1
        have hr2 := rng z hz
        have lk : kvs.length ≤ 50 := by
          have q := congrArg List.length hk
          rw [List.length_map, List.length_map, List.length_take] at q
          omega
        have zn : z ∉ xs.take i := take_newG nd hxz
        refine ⟨_, rfl, z, rfl, true, rfl, ?_⟩
        refine ⟨_, rfl, _, _, rfl, rfl, _, rfl, ?_⟩
        rw [decide_eq_true (show (0 : Int) ≤ z from hr2.1)]
        refine ⟨_, rfl, _, _, rfl, rfl, _, rfl, ?_⟩
        show if (!decide (z < (many : Int))) = true then _ else _
        rw [decide_eq_true (show z < (many : Int) from hr2.2)]
        refine ⟨_, rfl, _, rfl, e, _, rfl, DGet.k (k := Sum.inl z) h3, _, rfl, ?_⟩
        rw [isS_keys z hk, decide_eq_false zn]
        refine ⟨_, rfl, _, rfl, e, _, rfl, DPut.k (k := Sum.inl z) h3 (small1000 (by omega)), ?_⟩
        have vn : valV kvs (Sum.inl z) = none := by
          have q := isS_keys z hk
          rw [decide_eq_false zn] at q
          exact Option.isNone_iff_eq_none.mp (by rw [← Option.not_isSome, q]; rfl)
        refine ⟨_, _, rfl, upd_same, ?_, fun b o eb => ?_⟩
        · rw [putK_new _ vn, List.map_append, hk, List.take_add_one, hxz, List.map_append]
          rfl
        · rw [upd_ne (ne_of_none eb fe)]
          exact s3 _ _ eb
      · rintro σ H3 ⟨kvs, v3, rfl, h3, hk, s3⟩
        rw [List.length_map, List.take_length] at hk
        refine ⟨_, rfl, e, kvs, xs, rfl, .inl h3, hk, by omega, fun ys p perm pw np => ?_⟩
        refine .inl ⟨p, ys.map V.int, rfl, .inl (.inl upd_same), fun t nt => ?_⟩
        have s4 := s3.trans (same_new (o := .lst (ys.map V.int)) np)
        exact q t ys _ (s4.free nt) upd_same (lt_of_le_nodup ys pw (perm.nodup_iff.mpr nd)) (fun x => perm.mem_iff.trans (hS x).symm) (s4.trans (same_new nt))
end
end KX
namespace KX
open PySem PySem.Spec PyProof.Rows L2
/-! ### System.__init__ -/
structure SysT (K : PySem.W.Frag) (CS : Addr) : Prop where
  cl : Cls K CS
  hands : NoAttr K CS "hands"
  diligent : NoAttr K CS "diligent"
  words : NoAttr K CS "words"
  start : NoAttr K CS "start"
def sfs (ts ds ws st : Addr) : List (Str × V) := putF "start" (.ref st) (putF "words" (.ref ws) (putF "diligent" (.ref ds) (putF "hands" (.ref ts) [])))
/-- a system stands at p: the tuple of its hands, the diligent ones, the words, the starts -/
structure SysAt (K : PySem.W.Frag) (CS : Addr) (H : Hp) (p : Addr) (us : List V) (dl : List Int) (wl : List Str) (xs : List Int) : Prop where
  ob : ∃ dx ts ds ws st, H p = some (.ins CS dx (sfs ts ds ws st)) ∧ SqT K H ts us ∧ H ds = some (.tup (dl.map V.int)) ∧ H ws = some (.tup (wl.map V.str)) ∧ H st = some (.tup (xs.map V.int))
theorem few_s1 {t : Addr} : (putF "hands" (V.ref t) []).length < 1000 := Nat.lt_of_le_of_lt (length_putF _ _ _) (by decide)
theorem few_s2 {t d : Addr} : (putF "diligent" (V.ref d) (putF "hands" (V.ref t) [])).length < 1000 := Nat.lt_of_le_of_lt (Nat.le_trans (length_putF _ _ _) (Nat.succ_le_succ (length_putF _ _ _))) (by decide)
theorem few_s3 {t d e : Addr} : (putF "words" (V.ref e) (putF "diligent" (V.ref d) (putF "hands" (V.ref t) []))).length < 1000 :=
  Nat.lt_of_le_of_lt (Nat.le_trans (length_putF _ _ _) (Nat.succ_le_succ (Nat.le_trans (length_putF _ _ _) (Nat.succ_le_succ (length_putF _ _ _))))) (by decide)
section
variable {K : PySem.W.Frag} {C CS p dx a : Addr} {H0 H : Hp} {fs0 : List (Str × V)} {us : List V} {hs : List (Int × List Str)}
theorem SqT.insX {ts : Addr} (hp : H0 p = some (.ins CS dx fs0)) (k : SameX p H0 H) (h : SqT K H0 ts us) : SqT K H ts us := by
  refine h.imp (fun r => r.imp (fun e => k _ _ (fun z => ?_) e) fun ⟨o, e⟩ => ⟨o, k _ _ (fun z => ?_) e⟩) id
  · rw [z, hp] at e
    cases e
  · rw [z, hp] at e
    cases e
theorem SqL.insX {ts : Addr} (hp : H0 p = some (.ins CS dx fs0)) (k : SameX p H0 H) (h : SqL K H0 ts us) : SqL K H ts us := by
  refine h.imp (fun r => r.imp (fun e => k _ _ (fun z => ?_) e) fun ⟨o, e⟩ => ⟨o, k _ _ (fun z => ?_) e⟩) id
  · rw [z, hp] at e
    cases e
  · rw [z, hp] at e
    cases e
theorem Seq.insX (hp : H0 p = some (.ins CS dx fs0)) (k : SameX p H0 H) (h : Seq K H0 a us) : Seq K H a us := h.imp (SqL.insX hp k) (SqT.insX hp k)
theorem HandsW.insX (hp : H0 p = some (.ins CS dx [])) (k : SameX p H0 H) (h : HandsW K C H0 us hs) : HandsW K C H us hs :=
  Paired.mapP h fun _ _ ⟨q, dq, fs, ws, e, e1, e2, e3, e4⟩ => ⟨q, dq, fs, ws, e, k _ _ (fun z => by rw [z, hp] at e1; cases e1; cases e2) e1, e2, e3, k _ _ (fun z => by rw [z, hp] at e4; cases e4) e4⟩
end
section
variable {P : Program} {w : World} {K : PySem.W.Frag} {mg : Str → Option Value} {base : Heap}
abbrev nSys : List Str := ["self", "hands", "diligent", "chosen", "words", "hand", "word"]
theorem sc_sys : FnScope nSys ["self", "hands", "diligent"] (defScope s_System_init) := ⟨rfl, rfl, rfl, by decide +kernel, rfl, by decide +kernel, by decide +kernel⟩
def spSys (K : PySem.W.Frag) (C CS : Addr) : Sp := fun vs H Q _ => ∃ (p dx a : Addr) (d : V) (us : List V) (hs : List (Int × List Str)) (S : Int → Prop) (zs : List Str), vs = [.ref p, .ref a, d] ∧ H p = some (.ins CS dx []) ∧ Seq K H a us ∧ HandsW K C H us hs ∧ 1 ≤ us.length ∧ us.length ≤ 4 ∧ Chosen K H d us.length S ∧
  (∀ h ∈ hs, h.2.length ≤ 8 ∧ ∀ z ∈ h.2, z ∈ zs) ∧ zs.length ≤ 12 ∧
  ∀ (dl : List Int) (wl : List Str) (H' : Hp), SysAt K CS H' p us dl wl (hs.map (·.1)) → dl.Pairwise (· < ·) → (∀ x, x ∈ dl ↔ S x) → sortedS wl = true → wl.Nodup → (∀ z, z ∈ wl ↔ ∃ h ∈ hs, z ∈ h.2) → SameX p H H' → Q .non H'
/-- the defs that System's making calls -/
structure SysD (K : PySem.W.Frag) (mg : Str → Option Value) (fR fW fK fX : Addr) (fdR fdW fdK fdX : FuncData) : Prop where
  FR : Fun K "is_row" "is_row" s_is_row fR fdR
  bR : Binds K fdR ["value"] []
  gR : mg "is_row" = some (.ref fR)
  FW : Fun K "is_whole" "is_whole" s_is_whole fW fdW
  bW : Binds K fdW ["value"] []
  gW : mg "is_whole" = some (.ref fW)
  FK : Fun K "check_hands" "check_hands" s_check_hands fK fdK
  bK : Binds K fdK ["hands"] []
  gK : mg "check_hands" = some (.ref fK)
  FX : Fun K "chosen_hands" "chosen_hands" s_chosen_hands fX fdX
  bX : Binds K fdX ["diligent", "many"] []
  gX : mg "chosen_hands" = some (.ref fX)
/-- the fields stored so far -/
structure SysSt (K : PySem.W.Frag) (CS p dx ts : Addr) (us : List V) (H0 : Hp) (fs : List (Str × V)) (H : Hp) : Prop where
  hp : H p = some (.ins CS dx fs)
  s : SameX p H0 H
  tt : SqT K H ts us
theorem SysSt.put {CS p dx ts : Addr} {us : List V} {H0 H H6 : Hp} {fs fs' : List (Str × V)} (S : SysSt K CS p dx ts us H0 fs H) (k : Same H H6) : SysSt K CS p dx ts us H0 fs' (upd H6 p (.ins CS dx fs')) :=
  ⟨upd_same, (S.s.trans (SameX.of k)).trans SameX.at, SqT.insX (k _ _ S.hp) SameX.at (S.tt.imp (Rd.keep fun b u e _ => k b u e) id)⟩
theorem ok_sys {f C CS fR fW fK fX : Addr} {fd fdR fdW fdK fdX : FuncData} (F : FunD K "__init__" "System.__init__" (defArgs s_System_init) (defBody s_System_init) (defScope s_System_init) [V.non] [] f fd) (B : Blt mg) (N : Kin mg) (L : Lim2 mg) (TX : HandT K mg C) (TS : SysT K CS) (O : OwnK K C) (mC : mg "Hand" = some (.ref C)) (D : SysD K mg fR fW fK fX fdR fdW fdK fdX) :
    FnOk P w K mg base CX0 3 f fd ["self", "hands", "diligent"] (spSys K C CS) := by
  have GK : FnOk P w K mg base CX0 2 fK fdK ["hands"] (spChk K C) := ok_chk D.FK B L O mC D.FR D.bR D.gR
  have GX : FnOk P w K mg base CX0 2 fX fdX ["diligent", "many"] (spCho K) := ok_cho D.FX B N D.FR D.bR D.gR D.FW D.bW D.gW
  obtain ⟨t12, e12⟩ := L.words
  refine F.ok sc_sys (fun vs H Q E h => ?_) (fun cdv A outer s H vs Q E hr h => ?_)
  · obtain ⟨p, dx, a, d, us, hs, S, zs, rfl, _⟩ := h
    rfl
  · obtain ⟨p, dx, a, d, us, hs, S, zs, rfl, hp, hS, hh, l1, l4, hc, hz, lz, q⟩ := h
    refine ⟨_, PSs.nox (pss_cons (ps_expr (pe_call GK hr (by rfl) D.gK D.FK.kp D.bK .nil pass0 (pa_cons (pv 1) pa_nil)))
      (pss_cons (ps_set (i := 3) sc_sys.nd rfl (.inl rfl) (pe_call GX hr (by rfl) D.gX D.FX.kp D.bX .nil pass0 (pa_cons (pv 2) (pa_cons (pe_callB call_len_seq (by rfl) B.len PySem.boot_len (pa_cons (pv 1) pa_nil)) pa_nil))))
      (pss_cons (ps_set (i := 4) sc_sys.nd rfl (.inl rfl) (pe_callB (VT.cr_sortedT rfl) (by rfl) B.sorted (by decide +kernel) (pa_cons (VT.pe_sc2 (wi1 := iTup K (tFld K (tVar 5) "words")) (own := [("hand", 5), ("word", 6)]) (vs1 := [6]) (g := gName 5) (g1 := gName 6) (tt := tYes) (tt1 := tYes) rfl sc_sys.nd (VE.pi_seqS (j := 1) rfl (.inl rfl)) (blkOk_by (N := nSys) (sc := defScope s_System_init) (by decide +kernel)) (by decide)
        (fun _ _ _ _ _ => pg_name (i := 5) sc_sys.nd rfl (.inl rfl)) (fun _ _ _ _ _ => pts_nil) (fun _ _ _ _ _ => pi_tup (pe_fld (pv 5) rfl)) (fun _ _ _ _ _ => pg_name (i := 6) sc_sys.nd rfl (.inl rfl)) (fun _ _ _ _ _ => pts_nil) (fun _ _ _ _ _ => pv 6)) pa_nil)))
      (pss_cons (ps_if (pt_cmpR op_gt (pe_callB call_len_seq (by rfl) B.len PySem.boot_len (pa_cons (pv 4) pa_nil)) (pe_glob rfl e12 (v := .int 12) ⟨_, rfl⟩) (nomark _)) (pss_one VL.ps_dead) pss_nil)
      (C8.pss_cut (ps_fld (pv 0) (pe_tupleOf (by rfl) B.tuple (pv 1)) rfl)
      (pss_cons (ps_fld (pv 0) (pv 3) rfl)
      (pss_cons (ps_fld (pv 0) (pe_tupleOf (by rfl) B.tuple (pv 4)) rfl)
      (pss_one (ps_fld (pv 0) (pe_tupleOf (by rfl) B.tuple (pe_lc (te := tFld K (tVar 5) "start") (own := [("hand", 5)]) (g := gName 5) (tt := tYes) rfl sc_sys.nd (VE.pi_seqS (j := 1) rfl (.inl rfl)) (blkOk_by (N := nSys) (sc := defScope s_System_init) (by decide +kernel))
        (fun _ _ _ _ _ => pg_name (i := 5) sc_sys.nd rfl (.inl rfl)) (fun _ _ _ _ _ => pts_nil) (fun _ _ _ _ _ => pe_fld (pv 5) rfl))) rfl))))))))), ?_⟩
    have lu : us.length = hs.length := hh.length
    refine ⟨_, rfl, a, us, hs, rfl, hS, hh, l1, l4, fun H1 s1 => ?_⟩
    have hc1 : Chosen K H1 d us.length S := by
      rcases hc with h | ⟨a2, xs, e, h, r⟩
      · exact .inl h
      · exact .inr ⟨a2, xs, e, h.same s1, r⟩
    refine ⟨_, rfl, _, rfl, a, us, rfl, hS.same s1, d, us.length, S, rfl, by omega, hc1, fun cd dl H2 ncd hcd pdl mdl s2 => ?_⟩
    have s02 := s1.trans s2
    have hS2 := hS.same s02
    have hh2 := hh.same s02
    -- words
    dsimp only [gName, tSeq, tAsg, tCB, tCons]
    refine VE.sc2_seqS (K := K) (a := a) (xs := us) (σ := [some (.ref p), some (.ref a), some d, some (.ref cd), none, none, none]) (H := H2) (g := gName 5) (g1 := gName 6) (tt := tYes) (tt1 := tYes) (te := tVar 6) (vs := [5, 6]) (vs1 := [6]) (ww := w) (j := 1) (H0 := H2) rfl (Same.refl _) hS2
      (fun D i H3 => ∃ (S : Str → Bool) (n : Nat), H3 D = some (VT.SetTO w D S n) ∧ n ≤ 8 * i ∧ (∀ z, S z = true ↔ ∃ h ∈ hs.take i, z ∈ h.2) ∧ Same H2 H3)
      (fun D hD => ⟨_, _, upd_same, Nat.le_refl _, (fun z => ⟨(fun h => Bool.noConfusion h), (fun ⟨s, h, _⟩ => by rw [List.take_zero] at h; cases h)⟩), same_new hD⟩) (fun D i H3 _ ⟨_, _, _, _, _, k⟩ => k) ?_ ?_
    · rintro D i y H3 hD hy ⟨S3, n, hDS, ln, hSz, s3⟩
      obtain ⟨h0, eh, q0, dq, fs, ws, rfl, hq, fst, fwo, hws⟩ := paired_at (hh2.same s3) hy
      have hi : i < hs.length := (List.getElem?_eq_some_iff.mp eh).1
      have hm : h0 ∈ hs := List.mem_of_getElem? eh
      have l8 := (hz h0 hm).1
      refine ⟨rfl, _, rfl, q0, C, dq, _, _, rfl, hq, TX.cl, TX.words, fwo, ws, rfl, ⟨_, .inl (.inl hws)⟩, ?_⟩
      refine VE.in_it (n := (h0.2.map V.str).length) walk_tup (fun j H4 => ∃ (S : Str → Bool) (n : Nat), H4 D = some (VT.SetTO w D S n) ∧ n ≤ 8 * i + j ∧ (∀ z, S z = true ↔ (∃ h ∈ hs.take i, z ∈ h.2) ∨ z ∈ h0.2.take j) ∧ Same H2 H4 ∧ H4 ws = some (.tup (h0.2.map V.str)))
        ⟨S3, n, hDS, by omega, (fun z => by rw [hSz z, List.take_zero]; exact ⟨.inl, fun h => h.elim id (fun h => by cases h)⟩), s3, hws⟩ (fun j H4 _ ⟨_, _, _, _, _, _, k⟩ => .inl (.inl k)) ?_ ?_
      · rintro j x H4 H5 hj ⟨S4, n4, hD4, ln4, hSz4, s4, hw4⟩ ⟨rfl, hx⟩
        rw [List.getElem?_map] at hx
        obtain ⟨zj, ez, rfl⟩ := Option.map_eq_some_iff.mp hx
        rw [List.length_map] at hj
        refine ⟨rfl, _, rfl, zj, S4, n4, rfl, hD4, by unfold scanBound; omega, _, _, upd_same, ?_, fun z => ?_, fun b o e => ?_, ?_⟩
        · split <;> omega
        · rw [Bool.or_eq_true, hSz4 z, decide_eq_true_eq, List.take_add_one, ez]
          constructor
          · rintro ((h | h) | e)
            · exact .inl h
            · exact .inr (List.mem_append_left _ h)
            · exact .inr (List.mem_append_right _ (List.mem_singleton.mpr e))
          · rintro (h | h)
            · exact .inl (.inl h)
            · rcases List.mem_append.mp h with h | h
              · exact .inl (.inr h)
              · exact .inr (List.mem_singleton.mp h)
        · rw [upd_ne (ne_of_none e hD)]
          exact s4 b o e
        · have ne : ws ≠ D := fun z => by
            rw [z, hD4] at hw4
            unfold VT.SetTO at hw4
            cases hw4
          rw [upd_ne ne]
          exact hw4
      · rintro H4 ⟨S4, n4, hD4, ln4, hSz4, s4, hw4⟩
        rw [List.length_map] at ln4 hSz4
        refine ⟨S4, n4, hD4, by omega, fun z => ?_, s4⟩
        rw [hSz4 z, List.take_length, List.take_add_one, eh]
        constructor
        · rintro (⟨h, hh, e⟩ | e)
          · exact ⟨h, List.mem_append_left _ hh, e⟩
          · exact ⟨h0, List.mem_append_right _ (List.mem_singleton.mpr rfl), e⟩
        · rintro ⟨h, hh, e⟩
          rcases List.mem_append.mp hh with hh | hh
          · exact .inl ⟨h, hh, e⟩
          · rw [List.mem_singleton.mp hh] at e
            exact .inr e
    rintro D0 H3 hD0 ⟨S3, n, hDS, ln, hSz, s3⟩
    rw [lu, List.take_length] at hSz
    refine ⟨D0, S3, n, rfl, hDS, by omega, fun wl pw w1 w2 w3 w4 npw => ?_⟩
    have s4 : Same H (upd H3 pw (.lst (wl.map V.str))) := (s02.trans s3).trans (same_new npw)
    have hpw : (upd H3 pw (.lst (wl.map V.str))) pw = some (.lst (wl.map V.str)) := upd_same
    have hcd4 : (upd H3 pw (.lst (wl.map V.str))) cd = some (.tup (dl.map V.int)) := same_new npw _ _ (s3 _ _ hcd)
    generalize upd H3 pw (.lst (wl.map V.str)) = H4 at s4 hpw hcd4 ⊢
    have wm : ∀ z, z ∈ wl ↔ ∃ h ∈ hs, z ∈ h.2 := fun z => (w3 z).trans (hSz z)
    have l12 : wl.length ≤ 12 := Nat.le_trans (nd_lenS w2 fun z hzz => by
      obtain ⟨h, hh, e⟩ := (wm z).mp hzz
      exact (hz h hh).2 z e) lz
    refine ⟨_, rfl, pw, _, rfl, .inl (.inl (.inl hpw)), _, _, rfl, rfl, _, rfl, ?_⟩
    rw [decide_eq_false (show ¬ (12 : Int) < ((wl.map V.str).length : Nat) by rw [List.length_map]; omega)]
    have hp4 := s4 _ _ hp
    have npwp : pw ≠ p := fun z => by
      rw [z, hp4] at hpw
      cases hpw
    have ncdp : cd ≠ p := fun z => by
      rw [z, hp4] at hcd4
      cases hcd4
    -- self.hands = tuple(hands)
    refine ⟨fun σ H5 => σ = [some (.ref p), some (.ref a), some d, some (.ref cd), some (.ref pw), none, none] ∧ ∃ ts, SysSt K CS p dx ts us H (putF "hands" (.ref ts) []) H5 ∧ H5 pw = some (.lst (wl.map V.str)) ∧ H5 cd = some (.tup (dl.map V.int)), ?_, ?_⟩
    · have put : ∀ (ts : Addr) (H6 : Hp), Same H4 H6 → SqT K H6 ts us → ∃ ts2, SysSt K CS p dx ts2 us H (putF "hands" (.ref ts2) []) (upd H6 p (.ins CS dx (putF "hands" (.ref ts) []))) ∧ (upd H6 p (.ins CS dx (putF "hands" (.ref ts) []))) pw = some (.lst (wl.map V.str)) ∧ (upd H6 p (.ins CS dx (putF "hands" (.ref ts) []))) cd = some (.tup (dl.map V.int)) := fun ts H6 k ht =>
        ⟨ts, ⟨upd_same, (SameX.of (s4.trans k)).trans SameX.at, SqT.insX (k _ _ hp4) SameX.at ht⟩, by rw [upd_ne npwp]; exact k _ _ hpw, by rw [upd_ne ncdp]; exact k _ _ hcd4⟩
      rcases hS.same s4 with sl | st
      · exact ⟨_, rfl, .inl ⟨a, us, rfl, sl, fun q0 nq => ⟨_, rfl, p, CS, dx, _, rfl, same_new nq _ _ hp4, TS.cl, TS.hands, (by show 0 < 1000; decide), rfl, put q0 _ (same_new nq) (.inl (.inl upd_same))⟩⟩⟩
      · exact ⟨_, rfl, .inr ⟨a, us, rfl, st, _, rfl, p, CS, dx, _, rfl, hp4, TS.cl, TS.hands, (by show 0 < 1000; decide), rfl, put a _ (Same.refl _) st⟩⟩
    rintro σ H5 ⟨rfl, ts, S5, pw5, cd5⟩
    -- self.diligent = chosen
    refine ⟨_, rfl, _, rfl, p, CS, dx, _, rfl, S5.hp, TS.cl, TS.diligent, few_s1, ?_⟩
    have S6 := S5.put (fs' := putF "diligent" (V.ref cd) (putF "hands" (.ref ts) [])) (Same.refl _)
    have pw6 : (upd H5 p (.ins CS dx (putF "diligent" (V.ref cd) (putF "hands" (.ref ts) [])))) pw = some (.lst (wl.map V.str)) := by rw [upd_ne npwp]; exact pw5
    have cd6 : (upd H5 p (.ins CS dx (putF "diligent" (V.ref cd) (putF "hands" (.ref ts) [])))) cd = some (.tup (dl.map V.int)) := by rw [upd_ne ncdp]; exact cd5
    generalize upd H5 p (.ins CS dx (putF "diligent" (V.ref cd) (putF "hands" (.ref ts) []))) = H6 at S6 pw6 cd6 ⊢
    -- self.words = tuple(words)
    refine ⟨_, rfl, .inl ⟨pw, _, rfl, .inl (.inl pw6), fun q1 nq1 => ⟨_, rfl, p, CS, dx, _, rfl, same_new nq1 _ _ S6.hp, TS.cl, TS.words, few_s2, ?_⟩⟩⟩
    have n1p : q1 ≠ p := (ne_of_none S6.hp nq1).symm
    have S7 := S6.put (fs' := putF "words" (V.ref q1) (putF "diligent" (V.ref cd) (putF "hands" (.ref ts) []))) (same_new (o := .tup (wl.map V.str)) nq1)
    have w7 : (upd (upd H6 q1 (.tup (wl.map V.str))) p (.ins CS dx (putF "words" (V.ref q1) (putF "diligent" (V.ref cd) (putF "hands" (.ref ts) []))))) q1 = some (.tup (wl.map V.str)) := by rw [upd_ne n1p, upd_same]
    have cd7 : (upd (upd H6 q1 (.tup (wl.map V.str))) p (.ins CS dx (putF "words" (V.ref q1) (putF "diligent" (V.ref cd) (putF "hands" (.ref ts) []))))) cd = some (.tup (dl.map V.int)) := by rw [upd_ne ncdp]; exact same_new nq1 _ _ cd6
    generalize upd (upd H6 q1 (.tup (wl.map V.str))) p (.ins CS dx (putF "words" (V.ref q1) (putF "diligent" (V.ref cd) (putF "hands" (.ref ts) [])))) = H7 at S7 w7 cd7 ⊢
    -- self.start = tuple([hand.start ..])
    have hS7 : Seq K H7 a us := Seq.insX hp S7.s hS
    have hh7 : HandsW K C H7 us hs := HandsW.insX hp S7.s hh
    dsimp only [sFld, tThen]
    refine VE.lc_seqS (K := K) (a := a) (xs := us) (σ := [some (.ref p), some (.ref a), some d, some (.ref cd), some (.ref pw), none, none]) (H := H7) (g := gName 5) (tt := tYes) (te := tFld K (tVar 5) "start") (vs := [5]) (j := 1) (H0 := H7) rfl (Same.refl _) hS7
      (fun D i H8 => H8 D = some (.lst (((hs.take i).map (·.1)).map V.int)) ∧ Same H7 H8) (fun D hD => ⟨by rw [upd_same, List.take_zero]; rfl, same_new hD⟩) (fun D i H8 _ ⟨_, k⟩ => k) ?_ ?_
    · rintro D i y H8 hD hy ⟨hD8, s8⟩
      obtain ⟨h0, eh, q0, dq, fs, ws, rfl, hq, fst, fwo, hws⟩ := paired_at (hh7.same s8) hy
      have hi : i < hs.length := (List.getElem?_eq_some_iff.mp eh).1
      refine ⟨rfl, _, rfl, q0, C, dq, _, _, rfl, hq, TX.cl, TX.start, fst, _, hD8, small1000 (by rw [List.length_map, List.length_map, List.length_take]; omega), ?_, fun b o e => ?_⟩
      · rw [upd_same, List.take_add_one, eh, List.map_append, List.map_append]
        rfl
      · rw [upd_ne (ne_of_none e hD)]
        exact s8 b o e
    rintro D H8 hD ⟨hD8, s8⟩
    rw [lu, List.take_length] at hD8
    refine .inl ⟨D, _, rfl, .inl (.inl hD8), fun q2 nq2 => ⟨_, rfl, p, CS, dx, _, rfl, same_new nq2 _ _ (s8 _ _ S7.hp), TS.cl, TS.start, few_s3, ?_⟩⟩
    have n2p : q2 ≠ p := (ne_of_none (s8 _ _ S7.hp) nq2).symm
    have s9 : Same H7 (upd H8 q2 (.tup ((hs.map (·.1)).map V.int))) := s8.trans (same_new nq2)
    have S9 := S7.put (fs' := sfs ts cd q1 q2) s9
    refine q dl wl _ ⟨dx, ts, cd, q1, q2, S9.hp, S9.tt, ?_, ?_, ?_⟩ pdl mdl w1 w2 wm S9.s
    · rw [upd_ne ncdp]
      exact s9 _ _ cd7
    · rw [upd_ne n1p]
      exact s9 _ _ w7
    · rw [upd_ne n2p, upd_same]
end
end KX
namespace KX
open PySem PySem.Spec PyProof.Rows L2
/-! ### _law_same -/
mutual
def sm : PyData → Bool
  | .none | .bool _ | .int _ | .str _ => true
  | .list xs | .tuple xs => decide (xs.length ≤ 1000) && smAll xs
  | .dict _ => false
def smAll : List PyData → Bool
  | [] => true
  | x :: r => sm x && smAll r
end
theorem smAll_get : ∀ {ds : List PyData}, smAll ds = true → ∀ {i : Nat} {d : PyData}, ds[i]? = some d → sm d = true
  | [], _, i, d, h => by simp at h
  | x :: r, hs, i, d, h => by
    unfold smAll at hs
    obtain ⟨h1, h2⟩ := Bool.and_eq_true_iff.mp hs
    cases i with
    | zero =>
      simp at h
      exact h ▸ h1
    | succ i => exact smAll_get h2 (by rw [List.getElem?_cons_succ] at h; exact h)
theorem depthAll_get : ∀ {ds : List PyData} {i : Nat} {d : PyData}, ds[i]? = some d → d.depth ≤ PyData.depthAll ds
  | [], i, d, h => by simp at h
  | x :: r, i, d, h => by
    unfold PyData.depthAll
    cases i with
    | zero =>
      simp at h
      rw [← h]
      exact Nat.le_max_left _ _
    | succ i => exact Nat.le_trans (depthAll_get (by rw [List.getElem?_cons_succ] at h; exact h)) (Nat.le_max_right _ _)
theorem dpAll_get {K : PySem.W.Frag} {H : Hp} : ∀ {vs : List V} {ds : List PyData}, DpAll K H vs ds → ∀ {i : Nat} {d : PyData}, ds[i]? = some d → ∃ v, vs[i]? = some v ∧ Dp K H v d
  | _, _, .nil, i, d, h => by simp at h
  | _, _, .cons hv t, 0, d, h => by
    simp at h
    subst h
    exact ⟨_, rfl, hv⟩
  | _, _, .cons hv t, i + 1, d, h => by
    rw [List.getElem?_cons_succ] at h
    obtain ⟨v, e, q⟩ := dpAll_get t h
    exact ⟨v, by rw [List.getElem?_cons_succ]; exact e, q⟩
theorem dpAll_len {K : PySem.W.Frag} {H : Hp} : ∀ {vs : List V} {ds : List PyData}, DpAll K H vs ds → vs.length = ds.length
  | _, _, .nil => rfl
  | _, _, .cons _ t => congrArg (· + 1) (dpAll_len t)
section
variable {P : Program} {w : World} {K : PySem.W.Frag} {mg : Str → Option Value} {base : Heap}
theorem sc_same : FnScope ["_law_told", "_law_due", "_law_k"] ["_law_told", "_law_due"] (defScope s_law_same) := ⟨rfl, rfl, rfl, by decide +kernel, rfl, by decide +kernel, by decide +kernel⟩
/-- two values that are the same data -/
def spSame (K : PySem.W.Frag) : Nat → Sp
  | 0 => fun _ _ _ _ => False
  | n + 1 => fun vs H Q _ => ∃ (u v : V) (d : PyData), vs = [u, v] ∧ Dp K H u d ∧ Dp K H v d ∧ d.depth ≤ n ∧ sm d = true ∧ Q (.bl true) H
structure Blt2 (mg : Str → Option Value) : Prop where
  dict : mg "dict" = none
theorem same_step {n : Nat} {f : Addr} {fd : FuncData} (F : Fun K "_law_same" "_law_same" s_law_same f fd) (B : Blt mg) (N : Kin mg) (B2 : Blt2 mg) (bS : Binds K fd ["_law_told", "_law_due"] []) (gS : mg "_law_same" = some (.ref f)) (G : FnOk P w K mg base CX0 n f fd ["_law_told", "_law_due"] (spSame K n)) :
    FnOk P w K mg base CX0 (n + 1) f fd ["_law_told", "_law_due"] (spSame K (n + 1)) := by
  refine F.ok sc_same (fun vs H Q E h => ?_) (fun cdv A outer s H vs Q E hr h => ?_)
  · obtain ⟨u, v, d, rfl, _⟩ := h
    rfl
  · obtain ⟨u, v, d, rfl, hu, hv, hd, hs, q⟩ := h
    refine ⟨_, pss_cons (ps_if (pt_cmp (pc_isN (pv 1))) (pss_one (ps_ret (pe_cmp (pc_isN (pv 0))))) pss_nil)
      (pss_cons (ps_if (pt_val (pe_callB call_isi (by rfl) B.isinstance (by decide +kernel) (pa_cons (pv 1) (pa_cons (pe_bltn rfl N.bool (by decide +kernel) (v := .ty "bool") rfl) pa_nil))))
        (pss_one (ps_ret (pe_and (pe_callB call_isi (by rfl) B.isinstance (by decide +kernel) (pa_cons (pv 0) (pa_cons (pe_bltn rfl N.bool (by decide +kernel) (v := .ty "bool") rfl) pa_nil))) (pe_one (pe_cmpR op_eq (pv 0) (pv 1) (nomark _)))))) pss_nil)
      (pss_cons (ps_if (pt_val (pe_callB call_isi (by rfl) B.isinstance (by decide +kernel) (pa_cons (pv 1) (pa_cons (pe_bltn rfl B.int (by decide +kernel) (v := .ty "int") rfl) pa_nil))))
        (pss_one (ps_ret (pe_and (pe_callB call_isi (by rfl) B.isinstance (by decide +kernel) (pa_cons (pv 0) (pa_cons (pe_bltn rfl B.int (by decide +kernel) (v := .ty "int") rfl) pa_nil)))
          (pe_and (pe_not (pe_callB call_isi (by rfl) B.isinstance (by decide +kernel) (pa_cons (pv 0) (pa_cons (pe_bltn rfl N.bool (by decide +kernel) (v := .ty "bool") rfl) pa_nil)))) (pe_one (pe_cmpR op_eq (pv 0) (pv 1) (nomark _))))))) pss_nil)
      (pss_cons (ps_if (pt_val (pe_callB call_isi (by rfl) B.isinstance (by decide +kernel) (pa_cons (pv 1) (pa_cons (pe_bltn rfl N.str (by decide +kernel) (v := .ty "str") rfl) pa_nil))))
        (pss_one (ps_ret (pe_and (pe_callB call_isi (by rfl) B.isinstance (by decide +kernel) (pa_cons (pv 0) (pa_cons (pe_bltn rfl N.str (by decide +kernel) (v := .ty "str") rfl) pa_nil))) (pe_one (pe_cmpR op_eq (pv 0) (pv 1) (nomark _)))))) pss_nil)
      (pss_cons (ps_if (PW.pt (pw_and (pt_val (pe_callB call_isi (by rfl) B.isinstance (by decide +kernel) (pa_cons (pv 1) (pa_cons (pe_bltn rfl B.list (by decide +kernel) (v := .ty "list") rfl) pa_nil))))
        (pw_and1 (pt_not (pt_val (pe_callB call_isi (by rfl) B.isinstance (by decide +kernel) (pa_cons (pv 0) (pa_cons (pe_bltn rfl B.list (by decide +kernel) (v := .ty "list") rfl) pa_nil)))))))) (pss_one (ps_ret pe_bl)) pss_nil)
      (pss_cons (ps_if (PW.pt (pw_and (pt_val (pe_callB call_isi (by rfl) B.isinstance (by decide +kernel) (pa_cons (pv 1) (pa_cons (pe_bltn rfl B.tuple (by decide +kernel) (v := .ty "tuple") rfl) pa_nil))))
        (pw_and1 (pt_not (pt_val (pe_callB call_isi (by rfl) B.isinstance (by decide +kernel) (pa_cons (pv 0) (pa_cons (pe_bltn rfl B.tuple (by decide +kernel) (v := .ty "tuple") rfl) pa_nil)))))))) (pss_one (ps_ret pe_bl)) pss_nil)
      (pss_cons (ps_if (pt_val (pe_callB call_isi (by rfl) B.isinstance (by decide +kernel) (pa_cons (pv 1) (pa_cons (pe_bltn rfl B2.dict (by decide +kernel) (v := .ty "dict") rfl) pa_nil)))) (pss_one VL.ps_dead) pss_nil)
      (pss_cons (ps_if (pt_cmpR op_ne (pe_callB call_len_seq (by rfl) B.len PySem.boot_len (pa_cons (pv 0) pa_nil)) (pe_callB call_len_seq (by rfl) B.len PySem.boot_len (pa_cons (pv 1) pa_nil)) (nomark _)) (pss_one (ps_ret pe_bl)) pss_nil)
      (pss_cons (ps_for PassesOwn.never rfl (pi_range1 rfl B.range (pa_cons (pe_callB call_len_seq (by rfl) B.len PySem.boot_len (pa_cons (pv 1) pa_nil)) pa_nil)) (pg_name (i := 2) sc_same.nd rfl (.inl rfl))
        (pss_one (ps_if (pt_not (pt_val (pe_call G hr (by rfl) gS F.kp bS .nil pass0 (pa_cons (pe_ix ix_seq (pv 0) (pv 2) (fun _ _ => rfl)) (pa_cons (pe_ix ix_seq (pv 1) (pv 2) (fun _ _ => rfl)) pa_nil))))) (pss_one (ps_ret pe_bl)) pss_nil)))
      (pss_one (ps_ret pe_bl)))))))))), ?_⟩
    cases d with
    | none =>
      cases hu
      cases hv
      refine ⟨_, rfl, true, rfl, ?_⟩
      exact ⟨_, rfl, q⟩
    | bool b =>
      cases hu
      cases hv
      refine ⟨_, rfl, _, rfl, ?_⟩
      rw [decide_eq_false (fun z => nomatch z)]
      refine ⟨_, rfl, _, _, _, _, true, rfl, .ty "bool", .base (.bl b), kit_ty (by decide +kernel), true, rfl, ?_⟩
      refine ⟨_, rfl, _, _, _, _, true, rfl, .ty "bool", .base (.bl b), kit_ty (by decide +kernel), true, rfl, ?_⟩
      refine ⟨_, rfl, _, rfl, rfl, ?_⟩
      rw [decide_eq_true rfl]
      exact q
    | int i =>
      cases hu
      cases hv
      refine ⟨_, rfl, _, rfl, ?_⟩
      rw [decide_eq_false (fun z => nomatch z)]
      refine ⟨_, rfl, _, _, _, _, false, rfl, .ty "bool", .base (.int i), kit_ty (by decide +kernel), false, rfl, ?_⟩
      refine ⟨_, rfl, _, _, _, _, true, rfl, .ty "int", .base (.int i), kit_ty (by decide +kernel), true, rfl, ?_⟩
      refine ⟨_, rfl, _, _, _, _, true, rfl, .ty "int", .base (.int i), kit_ty (by decide +kernel), true, rfl, ?_⟩
      refine ⟨_, rfl, _, _, _, _, false, rfl, .ty "bool", .base (.int i), kit_ty (by decide +kernel), false, rfl, _, rfl, ?_⟩
      refine ⟨_, rfl, _, rfl, rfl, ?_⟩
      rw [decide_eq_true rfl]
      exact q
    | str x =>
      cases hu
      cases hv
      refine ⟨_, rfl, _, rfl, ?_⟩
      rw [decide_eq_false (fun z => nomatch z)]
      refine ⟨_, rfl, _, _, _, _, false, rfl, .ty "bool", .base (.str x), kit_ty (by decide +kernel), false, rfl, ?_⟩
      refine ⟨_, rfl, _, _, _, _, false, rfl, .ty "int", .base (.str x), kit_ty (by decide +kernel), false, rfl, ?_⟩
      refine ⟨_, rfl, _, _, _, _, true, rfl, .ty "str", .base (.str x), kit_ty (by decide +kernel), true, rfl, ?_⟩
      refine ⟨_, rfl, _, _, _, _, true, rfl, .ty "str", .base (.str x), kit_ty (by decide +kernel), true, rfl, ?_⟩
      refine ⟨_, rfl, _, rfl, rfl, ?_⟩
      rw [decide_eq_true rfl]
      exact q
    | list ds =>
      cases hu with
      | lst hx hxs =>
      rename_i a xs
      cases hv with
      | lst hy hys =>
      rename_i b ys
      refine ⟨_, rfl, _, rfl, ?_⟩
      rw [decide_eq_false (fun z => nomatch z)]
      refine ⟨_, rfl, _, _, _, _, false, rfl, .ty "bool", tyL hy, kit_ty (by decide +kernel), false, rfl, ?_⟩
      refine ⟨_, rfl, _, _, _, _, false, rfl, .ty "int", tyL hy, kit_ty (by decide +kernel), false, rfl, ?_⟩
      refine ⟨_, rfl, _, _, _, _, false, rfl, .ty "str", tyL hy, kit_ty (by decide +kernel), false, rfl, ?_⟩
      refine ⟨_, rfl, _, _, _, _, true, rfl, .ty "list", tyL hy, kit_ty (by decide +kernel), true, rfl, ?_⟩
      refine ⟨_, rfl, _, _, _, _, true, rfl, .ty "list", tyL hx, kit_ty (by decide +kernel), true, rfl, ?_⟩
      refine ⟨_, rfl, _, _, _, _, false, rfl, .ty "tuple", tyL hy, kit_ty (by decide +kernel), false, rfl, ?_⟩
      refine ⟨_, rfl, _, _, _, _, false, rfl, .ty "dict", tyL hy, kit_ty (by decide +kernel), false, rfl, ?_⟩
      have lx := dpAll_len hxs
      have ly := dpAll_len hys
      have hsm : decide (ds.length ≤ 1000) = true ∧ smAll ds = true := by
        unfold sm at hs
        exact Bool.and_eq_true_iff.mp hs
      have l1 : ds.length ≤ 1000 := of_decide_eq_true hsm.1
      have hdd : PyData.depthAll ds + 1 ≤ n := by
        unfold PyData.depth at hd
        exact hd
      refine ⟨_, rfl, a, _, rfl, (.inl hx), _, rfl, b, _, rfl, (.inl hy), rfl, _, rfl, ?_⟩
      rw [lx, ly, decide_eq_true rfl]
      refine ⟨_, rfl, b, _, rfl, (.inl hy), _, rfl, by omega, by omega, ?_⟩
      refine for_range (fun i σ H2 => ∃ v2, σ = [some (.ref a), some (.ref b), v2] ∧ H2 = H) ⟨none, rfl, rfl⟩ ?_ ?_
      · rintro i σ H2 hi ⟨v2, rfl, rfl⟩
        have hi' : i < ds.length := by
          rw [ly] at hi
          have e : ((ds.length : Nat) : Int).toNat = ds.length := Int.toNat_natCast _
          omega
        have ed : ds[i]? = some ds[i] := List.getElem?_eq_getElem hi'
        obtain ⟨u1, e1, q1⟩ := dpAll_get hxs ed
        obtain ⟨u2, e2, q2⟩ := dpAll_get hys ed
        have ei : (0 + (i : Int)) = ((i : Nat) : Int) := by omega
        rw [ei]
        obtain ⟨m, rfl⟩ : ∃ m, n = m + 1 := ⟨n - 1, by omega⟩
        have := depthAll_get ed
        refine ⟨_, rfl, _, rfl, .inl ⟨a, _, _, _, rfl, rfl, hx, atI_nat e1, _, rfl, _, rfl, .inl ⟨b, _, _, _, rfl, rfl, hy, atI_nat e2, u1, u2, ds[i], rfl, q1, q2, by omega, smAll_get hsm.2 ed, true, rfl, _, rfl, rfl⟩⟩⟩
      · rintro σ H2 ⟨v2, rfl, rfl⟩
        exact q
    | tuple ds =>
      cases hu with
      | tup hx hxs =>
      rename_i a xs
      cases hv with
      | tup hy hys =>
      rename_i b ys
      refine ⟨_, rfl, _, rfl, ?_⟩
      rw [decide_eq_false (fun z => nomatch z)]
      refine ⟨_, rfl, _, _, _, _, false, rfl, .ty "bool", tyT hy, kit_ty (by decide +kernel), false, rfl, ?_⟩
      refine ⟨_, rfl, _, _, _, _, false, rfl, .ty "int", tyT hy, kit_ty (by decide +kernel), false, rfl, ?_⟩
      refine ⟨_, rfl, _, _, _, _, false, rfl, .ty "str", tyT hy, kit_ty (by decide +kernel), false, rfl, ?_⟩
      refine ⟨_, rfl, _, _, _, _, false, rfl, .ty "list", tyT hy, kit_ty (by decide +kernel), false, rfl, ?_⟩
      refine ⟨_, rfl, _, _, _, _, true, rfl, .ty "tuple", tyT hy, kit_ty (by decide +kernel), true, rfl, ?_⟩
      refine ⟨_, rfl, _, _, _, _, true, rfl, .ty "tuple", tyT hx, kit_ty (by decide +kernel), true, rfl, ?_⟩
      refine ⟨_, rfl, _, _, _, _, false, rfl, .ty "dict", tyT hy, kit_ty (by decide +kernel), false, rfl, ?_⟩
      have lx := dpAll_len hxs
      have ly := dpAll_len hys
      have hsm : decide (ds.length ≤ 1000) = true ∧ smAll ds = true := by
        unfold sm at hs
        exact Bool.and_eq_true_iff.mp hs
      have l1 : ds.length ≤ 1000 := of_decide_eq_true hsm.1
      have hdd : PyData.depthAll ds + 1 ≤ n := by
        unfold PyData.depth at hd
        exact hd
      refine ⟨_, rfl, a, _, rfl, (.inr hx), _, rfl, b, _, rfl, (.inr hy), rfl, _, rfl, ?_⟩
      rw [lx, ly, decide_eq_true rfl]
      refine ⟨_, rfl, b, _, rfl, (.inr hy), _, rfl, by omega, by omega, ?_⟩
      refine for_range (fun i σ H2 => ∃ v2, σ = [some (.ref a), some (.ref b), v2] ∧ H2 = H) ⟨none, rfl, rfl⟩ ?_ ?_
      · rintro i σ H2 hi ⟨v2, rfl, rfl⟩
        have hi' : i < ds.length := by
          rw [ly] at hi
          have e : ((ds.length : Nat) : Int).toNat = ds.length := Int.toNat_natCast _
          omega
        have ed : ds[i]? = some ds[i] := List.getElem?_eq_getElem hi'
        obtain ⟨u1, e1, q1⟩ := dpAll_get hxs ed
        obtain ⟨u2, e2, q2⟩ := dpAll_get hys ed
        have ei : (0 + (i : Int)) = ((i : Nat) : Int) := by omega
        rw [ei]
        obtain ⟨m, rfl⟩ : ∃ m, n = m + 1 := ⟨n - 1, by omega⟩
        have := depthAll_get ed
        refine ⟨_, rfl, _, rfl, .inr (.inl ⟨a, _, _, _, rfl, rfl, hx, atI_nat e1, _, rfl, _, rfl, .inr (.inl ⟨b, _, _, _, rfl, rfl, hy, atI_nat e2, u1, u2, ds[i], rfl, q1, q2, by omega, smAll_get hsm.2 ed, true, rfl, _, rfl, rfl⟩)⟩)⟩
      · rintro σ H2 ⟨v2, rfl, rfl⟩
        exact q
    | dict kvs => cases hu
theorem ok_same {f : Addr} {fd : FuncData} (F : Fun K "_law_same" "_law_same" s_law_same f fd) (B : Blt mg) (N : Kin mg) (B2 : Blt2 mg) (bS : Binds K fd ["_law_told", "_law_due"] []) (gS : mg "_law_same" = some (.ref f)) : ∀ n, FnOk P w K mg base CX0 n f fd ["_law_told", "_law_due"] (spSame K n)
  | 0 => ⟨fun _ _ _ _ h => h.elim, fun _ _ _ _ _ _ _ _ _ _ _ _ _ h => h.elim⟩
  | n + 1 => same_step F B N B2 bS gS (ok_same F B N B2 bS gS n)
end
end KX
namespace KX
open PySem PySem.Spec PyProof.Rows L2
/-! ### sorted texts; _law_holds -/
theorem rising_pw : ∀ {x : Str} {r : List Str}, risingS x r = true → (x :: r).Pairwise (fun a b => a.cps.toList ≤ b.cps.toList)
  | x, [], _ => by simp
  | x, y :: r, h => by
    unfold risingS at h
    obtain ⟨h1, h2⟩ := Bool.and_eq_true_iff.mp h
    have le : x.cps.toList ≤ y.cps.toList := by
      have q : ¬ y.cps.toList < x.cps.toList := by
        intro z
        rw [ltCps_eq, decide_eq_true z] at h1
        cases h1
      exact List.not_lt.mp q
    have ih := rising_pw h2
    obtain ⟨i1, i2⟩ := List.pairwise_cons.mp ih
    refine List.pairwise_cons.mpr ⟨fun z hz => ?_, ih⟩
    rcases List.mem_cons.mp hz with e | hz
    · exact e ▸ le
    · exact List.le_trans le (i1 z hz)
theorem sorted_pw : ∀ {l : List Str}, sortedS l = true → l.Pairwise (fun a b => a.cps.toList ≤ b.cps.toList)
  | [], _ => List.Pairwise.nil
  | x :: r, h => rising_pw h
theorem str_ext {x y : Str} (h : x.cps.toList = y.cps.toList) : x = y := by
  cases x
  cases y
  simp only [Str.mk.injEq]
  exact Array.toList_inj.mp h
theorem sorted_one {l m : List Str} (h1 : sortedS l = true) (h2 : sortedS m = true) (n1 : l.Nodup) (n2 : m.Nodup) (e : ∀ z, z ∈ l ↔ z ∈ m) : l = m :=
  List.Perm.eq_of_pairwise (fun a b _ _ p q => str_ext (List.le_antisymm p q)) (sorted_pw h1) (sorted_pw h2) ((List.perm_ext_iff_of_nodup n1 n2).mpr e)
theorem ints_one {l m : List Int} (h1 : l.Pairwise (· < ·)) (h2 : m.Pairwise (· < ·)) (e : ∀ z, z ∈ l ↔ z ∈ m) : l = m := by
  have nd : ∀ {l : List Int}, l.Pairwise (· < ·) → l.Nodup := fun h => h.imp fun a b => by omega
  exact List.Perm.eq_of_pairwise (le := (· < ·)) (fun a b _ _ p q => by omega) h1 h2 ((List.perm_ext_iff_of_nodup (nd h1) (nd h2)).mpr e)
theorem dp_strs {K : PySem.W.Frag} {H : Hp} : ∀ zs : List Str, DpAll K H (zs.map V.str) (zs.map PyData.str)
  | [] => .nil
  | z :: r => .cons (.str z) (dp_strs r)
theorem dp_ints {K : PySem.W.Frag} {H : Hp} : ∀ ns : List Int, DpAll K H (ns.map V.int) (ns.map PyData.int)
  | [] => .nil
  | z :: r => .cons (.int z) (dp_ints r)
theorem sm_strs : ∀ zs : List Str, smAll (zs.map PyData.str) = true
  | [] => by
    unfold List.map smAll
    rfl
  | z :: r => by
    rw [List.map_cons]
    unfold smAll sm
    rw [sm_strs r]
    rfl
theorem sm_ints : ∀ ns : List Int, smAll (ns.map PyData.int) = true
  | [] => by
    unfold List.map smAll
    rfl
  | z :: r => by
    rw [List.map_cons]
    unfold smAll sm
    rw [sm_ints r]
    rfl
theorem sm_stps : ∀ ss : List Stp, smAll (ss.map stpD) = true
  | [] => by
    unfold List.map smAll
    rfl
  | s :: r => by
    rw [List.map_cons]
    unfold smAll
    rw [sm_stps r]
    unfold stpD sm smAll sm smAll sm smAll sm smAll
    rfl
theorem dep_strs : ∀ zs : List Str, PyData.depthAll (zs.map PyData.str) = 0
  | [] => by
    unfold List.map PyData.depthAll
    rfl
  | z :: r => by
    rw [List.map_cons]
    unfold PyData.depthAll PyData.depth
    rw [dep_strs r]
    rfl
theorem dep_ints : ∀ zs : List Int, PyData.depthAll (zs.map PyData.int) = 0
  | [] => by
    unfold List.map PyData.depthAll
    rfl
  | z :: r => by
    rw [List.map_cons]
    unfold PyData.depthAll PyData.depth
    rw [dep_ints r]
    rfl
/-! ### what stands when objects are laid -/
section
variable {K : PySem.W.Frag} {C CS p : Addr} {H H' : Hp}
theorem ext_same (k : Same H H') : LamX.ExtN H H' := fun b o e _ => k b o e
theorem extN_trans {H1 H2 H3 : Hp} (a : LamX.ExtN H1 H2) (b : LamX.ExtN H2 H3) : LamX.ExtN H1 H3 := fun c o e n => b c o (a c o e n) n
theorem sqT_ext {a : Addr} {us : List V} (k : LamX.ExtN H H') (h : SqT K H a us) : SqT K H' a us := h.imp (fun r => r.imp (fun e => k _ _ e (fun ps z => nomatch z)) fun ⟨o, e⟩ => ⟨o, k _ _ e (fun ps z => nomatch z)⟩) id
theorem sqL_ext {a : Addr} {us : List V} (k : LamX.ExtN H H') (h : SqL K H a us) : SqL K H' a us := h.imp (fun r => r.imp (fun e => k _ _ e (fun ps z => nomatch z)) fun ⟨o, e⟩ => ⟨o, k _ _ e (fun ps z => nomatch z)⟩) id
theorem HandS.ext {x0 : Int} {ss : List Stp} (k : LamX.ExtN H H') (h : HandS K C H p x0 ss) : HandS K C H' p x0 ss :=
  let ⟨dx, fs, ts, us, e, e1, e2, ht, hs, hn⟩ := h
  ⟨dx, fs, ts, us, k _ _ e (fun ps z => nomatch z), e1, e2, sqT_ext k ht, extN_steps k hs, hn⟩
theorem HandW.ext {v : V} {h : Int × List Str} (k : LamX.ExtN H H') (w : HandW K C H v h) : HandW K C H' v h :=
  let ⟨p, dx, fs, ws, e, e1, e2, e3, e4⟩ := w
  ⟨p, dx, fs, ws, e, k _ _ e1 (fun ps z => nomatch z), e2, e3, k _ _ e4 (fun ps z => nomatch z)⟩
theorem SysAt.ext {us : List V} {dl : List Int} {wl : List Str} {xs : List Int} (k : LamX.ExtN H H') (h : SysAt K CS H p us dl wl xs) : SysAt K CS H' p us dl wl xs := by
  obtain ⟨dx, ts, ds, ws, st, e, ht, e1, e2, e3⟩ := h.ob
  exact ⟨dx, ts, ds, ws, st, k _ _ e (fun ps z => nomatch z), sqT_ext k ht, k _ _ e1 (fun ps z => nomatch z), k _ _ e2 (fun ps z => nomatch z), k _ _ e3 (fun ps z => nomatch z)⟩
/-- when a list at l is written -/
theorem HandS.sxL {l : Addr} {ys : List V} {x0 : Int} {ss : List Stp} (hl : H l = some (.lst ys)) (k : SameX l H H') (h : HandS K C H p x0 ss) : HandS K C H' p x0 ss :=
  let ⟨dx, fs, ts, us, e, e1, e2, ht, hs, hn⟩ := h
  ⟨dx, fs, ts, us, k _ _ (fun z => by rw [z, hl] at e; cases e) e, e1, e2, SqT.sameX (NoTup.lst hl) k ht, hs.sameX (NoTup.lst hl) k, hn⟩
theorem HandW.sxL {l : Addr} {ys : List V} {v : V} {h : Int × List Str} (hl : H l = some (.lst ys)) (k : SameX l H H') (w : HandW K C H v h) : HandW K C H' v h :=
  let ⟨p, dx, fs, ws, e, e1, e2, e3, e4⟩ := w
  ⟨p, dx, fs, ws, e, k _ _ (fun z => by rw [z, hl] at e1; cases e1) e1, e2, e3, k _ _ (fun z => by rw [z, hl] at e4; cases e4) e4⟩
theorem SysAt.sxL {l : Addr} {ys : List V} {us : List V} {dl : List Int} {wl : List Str} {xs : List Int} (hl : H l = some (.lst ys)) (k : SameX l H H') (h : SysAt K CS H p us dl wl xs) : SysAt K CS H' p us dl wl xs := by
  obtain ⟨dx, ts, ds, ws, st, e, ht, e1, e2, e3⟩ := h.ob
  have nt : ∀ {b : Addr} {o : HO}, H b = some o → (∀ xs, o ≠ .lst xs) → b ≠ l := fun {b o} e n z => by
    rw [z, hl] at e
    exact n _ (Option.some.inj e).symm
  exact ⟨dx, ts, ds, ws, st, k _ _ (nt e fun xs z => nomatch z) e, SqT.sameX (NoTup.lst hl) k ht, k _ _ (nt e1 fun xs z => nomatch z) e1, k _ _ (nt e2 fun xs z => nomatch z) e2, k _ _ (nt e3 fun xs z => nomatch z) e3⟩
end
end KX
namespace KX
open PySem PySem.Spec PyProof.Rows L2
/-! ### System.__eq__ -/
section
variable {P : Program} {w : World} {K : PySem.W.Frag} {mg : Str → Option Value} {base : Heap}
/-- the system at p: its hands' places, its diligent hands -/
def SysQ (K : PySem.W.Frag) (CS : Addr) (H : Hp) (p : Addr) (qs : List Addr) (dl : List Int) : Prop := ∃ dx fs ts ds, H p = some (.ins CS dx fs) ∧ fs.lookup ("hands" : Str) = some (V.ref ts) ∧ SqT K H ts (qs.map V.ref) ∧ fs.lookup ("diligent" : Str) = some (V.ref ds) ∧ H ds = some (.tup (dl.map V.int))
/-- what stands at the hands' places -/
def HandsV (K : PySem.W.Frag) (C : Addr) (H : Hp) (val : Addr → Int × List Stp) (qs : List Addr) : Prop := ∀ q ∈ qs, HandS K C H q (val q).1 (val q).2
theorem sc_seq : FnScope ["self", "other"] ["self", "other"] (defScope s_System_eq) := ⟨rfl, rfl, rfl, by decide +kernel, rfl, by decide +kernel, by decide +kernel⟩
def spSEq (K : PySem.W.Frag) (C CS : Addr) : Sp := fun vs H Q _ => ∃ (p : Addr) (y : V) (qs : List Addr) (dl : List Int), vs = [.ref p, y] ∧ SysQ K CS H p qs dl ∧
  ((∃ (p2 : Addr) (qs2 : List Addr) (dl2 : List Int) (val : Addr → Int × List Stp), y = .ref p2 ∧ SysQ K CS H p2 qs2 dl2 ∧ HandsV K C H val qs ∧ HandsV K C H val qs2 ∧ Q (.bl (decide (qs.map val = qs2.map val ∧ dl = dl2))) H) ∨ (∃ t, TyX K H y t ∧ PySem.W.kitOne K t (.ref CS) = some false ∧ Q (.bl false) H))
def gVal (val : Addr → Int × List Stp) : V → V → Bool
  | .ref p, .ref q => decide (val p = val q)
  | _, _ => false
theorem eqs_val (val : Addr → Int × List Stp) : ∀ qs qs2 : List Addr, VQ.eqs (gVal val) (qs.map V.ref) (qs2.map V.ref) = decide (qs.map val = qs2.map val)
  | [], [] => rfl
  | [], _ :: _ => rfl
  | _ :: _, [] => rfl
  | p :: r, q :: t => by
    show (decide (val p = val q) && VQ.eqs (gVal val) (r.map V.ref) (t.map V.ref)) = _
    rw [eqs_val val r t, Bool.eq_iff_iff]
    simp
theorem eqv_ints : ∀ a b : List Int, PyData.eqvAll (a.map PyData.int) (b.map PyData.int) = decide (a = b)
  | [], [] => by
    unfold List.map PyData.eqvAll
    rfl
  | [], t :: r => by
    rw [List.map_cons]
    unfold List.map PyData.eqvAll
    rfl
  | s :: r, [] => by
    rw [List.map_cons]
    unfold List.map PyData.eqvAll
    rfl
  | s :: r, t :: q => by
    rw [List.map_cons, List.map_cons]
    unfold PyData.eqvAll
    rw [eqv_ints r q]
    show ((s == t) && _) = _
    rw [Bool.eq_iff_iff]
    simp
theorem lay_ints : ∀ a : List Int, PyData.canLayAll0 (a.map PyData.int) = true
  | [] => by
    unfold List.map PyData.canLayAll0
    rfl
  | x :: r => by
    rw [List.map_cons]
    unfold PyData.canLayAll0
    rw [lay_ints r]
    rfl
theorem shaped_ints (a : List Int) : SeqAt.shaped (.tuple (a.map PyData.int)) = true := by
  unfold SeqAt.shaped
  have e1 : (PyData.tuple (a.map PyData.int)).canLay0 = true := by
    unfold PyData.canLay0
    exact lay_ints a
  have e2 : (PyData.tuple (a.map PyData.int)).depth ≤ 64 := by
    unfold PyData.depth
    have := dep_ints a
    omega
  rw [e1, decide_eq_true e2]
  rfl
theorem shaped_intsL (a : List Int) : SeqAt.shaped (.list (a.map PyData.int)) = true := by
  unfold SeqAt.shaped
  have e1 : (PyData.list (a.map PyData.int)).canLay0 = true := by
    unfold PyData.canLay0
    exact lay_ints a
  have e2 : (PyData.list (a.map PyData.int)).depth ≤ 64 := by
    unfold PyData.depth
    have := dep_ints a
    omega
  rw [e1, decide_eq_true e2]
  rfl
theorem eqv_tupI (a b : List Int) : PyData.eqv (.tuple (a.map PyData.int)) (.tuple (b.map PyData.int)) = decide (a = b) := eqv_ints a b
theorem eqv_lstI (a b : List Int) : PyData.eqv (.list (a.map PyData.int)) (.list (b.map PyData.int)) = decide (a = b) := eqv_ints a b
theorem SysAt.q {K : PySem.W.Frag} {CS : Addr} {H : Hp} {p : Addr} {qs : List Addr} {dl : List Int} {wl : List Str} {xs : List Int} (h : SysAt K CS H p (qs.map V.ref) dl wl xs) : SysQ K CS H p qs dl :=
  let ⟨dx, ts, ds, ws, st, e, ht, e1, _⟩ := h.ob
  ⟨dx, _, ts, ds, e, rfl, ht, rfl, e1⟩
theorem ok_seq {f C CS fE : Addr} {fd fdE : FuncData} (F : Fun K "__eq__" "System.__eq__" s_System_eq f fd) (B : Blt mg) (TX : HandT K mg C) (TS : SysT K CS) (O : OwnK K C) (OS : OwnK K CS) (E0 : EqC K C fE) (mC : mg "Hand" = some (.ref C)) (mS : mg "System" = some (.ref CS))
    (FE : Fun K "__eq__" "Hand.__eq__" s_Hand_eq fE fdE) (bE : Binds K fdE ["self", "other"] []) : FnOk P w K mg base CX0 3 f fd ["self", "other"] (spSEq K C CS) := by
  have GE : FnOk P w K mg base CX0 1 fE fdE ["self", "other"] (spHEq K C) := ok_heq FE B TX O mC
  refine F.ok sc_seq (fun vs H Q E h => ?_) (fun cdv A outer s H vs Q E hr h => ?_)
  · obtain ⟨p, y, qs, dl, rfl, _⟩ := h
    rfl
  · obtain ⟨p, y, qs, dl, rfl, ⟨dx, fs, ts, ds, hp, fh, ht, fdl, hd⟩, alt⟩ := h
    refine ⟨_, pss_one (ps_ret (pe_and (pe_callB call_isi (by rfl) B.isinstance (by decide +kernel) (pa_cons (pv 1) (pa_cons (pe_glob rfl mS (v := .ref CS) rfl) pa_nil)))
      (pe_and (pe_cmpR (VQ.op_eqT (VQ.eqB_own (E := L2.E0) GE E0.eq E0.fn bE pass0) hr) (pe_fld (pv 0) rfl) (pe_fld (pv 1) rfl) (nomark _)) (pe_one (pe_cmpR (op_eqD (hu64 hr)) (pe_fld (pv 0) rfl) (pe_fld (pv 1) rfl) (nomark _)))))), ?_⟩
    rcases alt with ⟨p2, qs2, dl2, val, rfl, ⟨dx2, fs2, ts2, ds2, hp2, fh2, ht2, fdl2, hd2⟩, hv, hv2, q⟩ | ⟨t, ty, kt, q⟩
    · refine ⟨_, rfl, _, _, _, _, true, rfl, .own CS, OS.ty hp2, kit_self, true, rfl, ?_⟩
      refine ⟨_, rfl, p, CS, dx, _, _, rfl, hp, TS.cl, TS.hands, fh, _, rfl, p2, CS, dx2, _, _, rfl, hp2, TS.cl, TS.hands, fh2, ts, ts2, qs.map V.ref, qs2.map V.ref, gVal val, rfl, rfl, ht, ht2, ?_, _, rfl, ite2 (fun e => ?_) (fun e => ?_)⟩
      · intro x hx y hy
        obtain ⟨a, ha, rfl⟩ := List.mem_map.mp hx
        obtain ⟨b, hb, rfl⟩ := List.mem_map.mp hy
        have h1 := hv a ha
        have h2 := hv2 b hb
        obtain ⟨da, fa, ea⟩ := h1.ins
        obtain ⟨db, fb, eb⟩ := h2.ins
        refine ⟨a, b, da, db, fa, fb, rfl, rfl, ea, eb, O.ty eb, fun z => ?_, fun Q hQ => ?_⟩
        · rw [z]
          exact decide_eq_true rfl
        · refine ⟨a, _, _, _, rfl, h1, .inl ⟨b, _, _, rfl, h2, ?_⟩⟩
          have e : gVal val (.ref a) (.ref b) = decide ((val a).1 = (val b).1 ∧ (val a).2 = (val b).2) := by
            show decide (val a = val b) = _
            rw [Bool.eq_iff_iff]
            simp only [decide_eq_true_eq]
            exact Prod.ext_iff
          rw [← e]
          exact hQ
      · rw [eqs_val] at e
        have e' := of_decide_eq_true e
        refine ⟨_, rfl, p, CS, dx, _, _, rfl, hp, TS.cl, TS.diligent, fdl, _, rfl, p2, CS, dx2, _, _, rfl, hp2, TS.cl, TS.diligent, fdl2, .tuple (dl.map PyData.int), .tuple (dl2.map PyData.int), .tup (.inl (.inl hd)) (dp_ints dl), .tup (.inl (.inl hd2)) (dp_ints dl2), shaped_ints _, shaped_ints _, ?_⟩
        have e2 : PyData.eqv (.tuple (dl.map PyData.int)) (.tuple (dl2.map PyData.int)) = decide (qs.map val = qs2.map val ∧ dl = dl2) := by
          rw [eqv_tupI]
          simp [e']
        rw [e2]
        exact q
      · rw [eqs_val] at e
        rw [decide_eq_false (fun z => e (decide_eq_true z.1))] at q
        exact q
    · exact ⟨_, rfl, _, _, _, _, false, rfl, .own CS, ty, kt, false, rfl, q⟩
end
end KX
namespace KX
open PySem PySem.Spec PyProof.Rows L2
/-! ### _law_rows -/
section
variable {K : PySem.W.Frag} {H H' : Hp}
/-- a drawn row: the tuple of a start and a list of steps -/
def RowAt (K : PySem.W.Frag) (H : Hp) (t : Addr) (x0 : Int) (ss : List Stp) : Prop := ∃ l us, H t = some (.tup [.int x0, .ref l]) ∧ H l = some (.lst us) ∧ StepsAt K H us ss
theorem stepsAt_ext {us : List V} {ss : List Stp} (k : LamX.ExtN H H') (h : StepsAt K H us ss) : StepsAt K H' us ss := extN_steps k h
theorem RowAt.ext {t : Addr} {x0 : Int} {ss : List Stp} (k : LamX.ExtN H H') (h : RowAt K H t x0 ss) : RowAt K H' t x0 ss := let ⟨l, us, e1, e2, e3⟩ := h; ⟨l, us, k _ _ e1 (fun ps z => nomatch z), k _ _ e2 (fun ps z => nomatch z), stepsAt_ext k e3⟩
/-- the rows that us names -/
abbrev RowsAt (K : PySem.W.Frag) (H : Hp) : List V → List (Int × List Stp) → Prop := Paired fun v r => ∃ t, v = .ref t ∧ RowAt K H t r.1 r.2
theorem RowsAt.ext {us : List V} {rs : List (Int × List Stp)} (k : LamX.ExtN H H') (h : RowsAt K H us rs) : RowsAt K H' us rs := Paired.mapP h fun _ _ ⟨t, e, q⟩ => ⟨t, e, q.ext k⟩
end
/-- .. whose list is not at L -/
def RowNe (K : PySem.W.Frag) (H : Hp) (L : Addr) (v : V) (r : Int × List Stp) : Prop := ∃ t l us, v = .ref t ∧ H t = some (.tup [.int r.1, .ref l]) ∧ H l = some (.lst us) ∧ StepsAt K H us r.2 ∧ l ≠ L
theorem RowNe.ext {K : PySem.W.Frag} {H H' : Hp} {L : Addr} {v : V} {r : Int × List Stp} (k : LamX.ExtN H H') (h : RowNe K H L v r) : RowNe K H' L v r := let ⟨t, l, us, e, e1, e2, e3, n⟩ := h; ⟨t, l, us, e, k _ _ e1 (fun ps z => nomatch z), k _ _ e2 (fun ps z => nomatch z), stepsAt_ext k e3, n⟩
theorem RowNe.put {K : PySem.W.Frag} {H : Hp} {L : Addr} {v : V} {r : Int × List Stp} {xs ys : List V} (hL : H L = some (.lst xs)) (h : RowNe K H L v r) : RowNe K (upd H L (.lst ys)) L v r :=
  let ⟨t, l, us, e, e1, e2, e3, n⟩ := h
  ⟨t, l, us, e, by rw [upd_ne (fun z => by rw [z, hL] at e1; cases e1)]; exact e1, by rw [upd_ne n]; exact e2, e3.sameX (NoTup.lst hL) SameX.at, n⟩
theorem RowNe.row {K : PySem.W.Frag} {H : Hp} {L : Addr} {v : V} {r : Int × List Stp} (h : RowNe K H L v r) : ∃ t, v = .ref t ∧ RowAt K H t r.1 r.2 := let ⟨t, l, us, e, e1, e2, e3, _⟩ := h; ⟨t, e, l, us, e1, e2, e3⟩
/-- such a row may be a hand's -/
structure RowOk (ms mt : Nat) (zs : List Str) (r : Int × List Stp) : Prop where
  ex : ∃ sts : List Int, Steps r.2 sts zs ∧ r.1 ∈ sts ∧ sts.length ≤ ms ∧ ∀ x ∈ sts, 0 ≤ x ∧ x ≤ 75 + 3 * (ms : Int)
  ne : r.2 ≠ []
  len : r.2.length ≤ mt
theorem paired_snoc {α β : Type} {F : α → β → Prop} {xs : List α} {ys : List β} {x : α} {y : β} (h : Paired F xs ys) (f : F x y) : Paired F (xs ++ [x]) (ys ++ [y]) := Paired.snoc h f
section
variable {P : Program} {w : World} {K : PySem.W.Frag} {mg : Str → Option Value} {base : Heap}
abbrev nRows : List Str := ["_law_script", "_law_most_hands", "_law_most_words", "_law_most_states", "_law_most_steps", "_law_pool_here", "_law_many", "_law_k", "_law_eager", "_law_names_here", "_law_rows_here"]
theorem sc_rows : FnScope nRows ["_law_script", "_law_most_hands", "_law_most_words", "_law_most_states", "_law_most_steps"] (defScope s_law_rows) := ⟨rfl, rfl, rfl, by decide +kernel, rfl, by decide +kernel, by decide +kernel⟩
def spRows (K : PySem.W.Frag) : Sp := fun vs H Q _ => ∃ (a : Addr) (ns : List Int) (mh mw ms mt : Nat), vs = [.ref a, .int mh, .int mw, .int ms, .int mt] ∧ SqL K H a (ns.map V.int) ∧ 1 ≤ mh ∧ mh ≤ 50 ∧ 1 ≤ mw ∧ mw ≤ 50 ∧ 1 ≤ ms ∧ ms ≤ mt ∧ mt ≤ 24 ∧ ms ≤ 8 ∧
  ∀ (t lr lc : Addr) (us : List V) (rs : List (Int × List Stp)) (cs : List Int) (zs : List Str) (H' : Hp), H t = none → H lr = none → H' t = some (.tup [.ref lr, .ref lc]) → H' lr = some (.lst us) → RowsAt K H' us rs → (∀ r ∈ rs, RowOk ms mt zs r) → 1 ≤ rs.length → rs.length ≤ mh →
    (∀ z ∈ zs, NameOk z) → zs.length ≤ mw → H' lc = some (.lst (cs.map V.int)) → cs.Pairwise (· < ·) → (∀ x ∈ cs, 0 ≤ x ∧ x < (rs.length : Nat)) → Same H H' → Q (.ref t) H'
/-- the helpers that draw -/
structure DrwD (K : PySem.W.Frag) (mg : Str → Option Value) (fC fP fD fM fN fY fH : Addr) (fdC fdP fdD fdM fdN fdY fdH : FuncData) : Prop where
  FC : Fun K "_law_cell" "_law_cell" s_law_cell fC fdC
  bC : Binds K fdC ["_law_script", "_law_k"] []
  gC : mg "_law_cell" = some (.ref fC)
  FP : Fun K "_law_pool" "_law_pool" s_law_pool fP fdP
  bP : Binds K fdP ["_law_cell_here"] []
  gP : mg "_law_pool" = some (.ref fP)
  FD : Fun K "_law_draw" "_law_draw" s_law_draw fD fdD
  bD : Binds K fdD ["_law_pool_here", "_law_many"] []
  gD : mg "_law_draw" = some (.ref fD)
  FM : Fun K "_law_name" "_law_name" s_law_name fM fdM
  bM : Binds K fdM ["_law_number"] []
  gM : mg "_law_name" = some (.ref fM)
  FN : Fun K "_law_names" "_law_names" s_law_names fN fdN
  bN : Binds K fdN ["_law_pool_here", "_law_many"] []
  gN : mg "_law_names" = some (.ref fN)
  FY : Fun K "_law_steps" "_law_steps" s_law_steps fY fdY
  bY : Binds K fdY ["_law_pool_here", "_law_names_here", "_law_states", "_law_many"] []
  gY : mg "_law_steps" = some (.ref fY)
  FH : Fun K "_law_hand" "_law_hand" s_law_hand fH fdH
  bH : Binds K fdH ["_law_pool_here", "_law_names_here", "_law_most_states", "_law_most_steps"] []
  gH : mg "_law_hand" = some (.ref fH)
theorem ok_rows {f gC gP gD gM gN gY gH : Addr} {fd hdC hdP hdD hdM hdN hdY hdH : FuncData} (F : Fun K "_law_rows" "_law_rows" s_law_rows f fd) (B : Blt mg) (LD : DrwD K mg gC gP gD gM gN gY gH hdC hdP hdD hdM hdN hdY hdH) :
    FnOk P w K mg base CX0 4 f fd ["_law_script", "_law_most_hands", "_law_most_words", "_law_most_states", "_law_most_steps"] (spRows K) := by
  have GC : FnOk P w K mg base CX0 1 gC hdC ["_law_script", "_law_k"] (spCellV K) := ok_cell LD.FC B
  have GP : FnOk P w K mg base CX0 1 gP hdP ["_law_cell_here"] spPool := ok_pool LD.FP B
  have GD : FnOk P w K mg base CX0 1 gD hdD ["_law_pool_here", "_law_many"] spDraw := ok_draw LD.FD B
  have GN : FnOk P w K mg base CX0 2 gN hdN ["_law_pool_here", "_law_many"] spNames := ok_names LD.FN B LD.FD LD.bD LD.gD LD.FM LD.bM LD.gM
  have GH : FnOk P w K mg base CX0 3 gH hdH ["_law_pool_here", "_law_names_here", "_law_most_states", "_law_most_steps"] (spLHand K) := ok_lhand LD.FH B LD.FD LD.bD LD.gD LD.FY LD.bY LD.gY
  refine F.ok sc_rows (fun vs H Q E h => ?_) (fun cdv A outer s H vs Q E hr h => ?_)
  · obtain ⟨a, ns, mh, mw, ms, mt, rfl, _⟩ := h
    rfl
  · obtain ⟨a, ns, mh, mw, ms, mt, rfl, hS, h1, h2, w1, w2, m1, m2, m3, m4, q⟩ := h
    have r1 : Room 1 _ := hr.mono (by decide)
    refine ⟨_, pss_cons (ps_set (i := 5) sc_rows.nd rfl (.inr rfl) (pe_call GP r1 (by rfl) LD.gP LD.FP.kp LD.bP .nil pass0 (pa_cons (pe_call GC r1 (by rfl) LD.gC LD.FC.kp LD.bC .nil pass0 (pa_cons (pv 0) (pa_cons pe_int pa_nil))) pa_nil)))
      (pss_cons (ps_set (i := 6) sc_rows.nd rfl (.inl rfl) (pe_op op_add pe_int (pe_call GD r1 (by rfl) LD.gD LD.FD.kp LD.bD .nil pass0 (pa_cons (pv 5) (pa_cons (pv 1) pa_nil)))))
      (pss_cons (ps_set (i := 8) sc_rows.nd rfl (.inr rfl) (pe_lc (own := [("_law_k", 7)]) (g := gName 7) (tt := tYes) rfl sc_rows.nd (pi_range1 rfl B.range (pa_cons (pv 6) pa_nil)) (blkOk_by (N := nRows) (sc := defScope s_law_rows) (by decide +kernel))
        (fun _ _ _ _ _ => pg_name (i := 7) sc_rows.nd rfl (.inl rfl)) (fun _ _ _ _ _ => pts_nil) (fun _ _ _ _ _ => pe_call GD r1 (by rfl) LD.gD LD.FD.kp LD.bD .nil pass0 (pa_cons (pv 5) (pa_cons pe_int pa_nil)))))
      (pss_cons (ps_set (i := 9) sc_rows.nd rfl (.inl rfl) (pe_call GN (hr.mono (by decide)) (by rfl) LD.gN LD.FN.kp LD.bN .nil pass0 (pa_cons (pv 5) (pa_cons (pe_op op_add pe_int (pe_call GD r1 (by rfl) LD.gD LD.FD.kp LD.bD .nil pass0 (pa_cons (pv 5) (pa_cons (pv 2) pa_nil)))) pa_nil))))
      (pss_cons (ps_set (i := 10) sc_rows.nd rfl (.inl rfl) (pe_lst pa_nil))
      (pss_cons (ps_for PassesOwn.never rfl (pi_range1 rfl B.range (pa_cons (pv 6) pa_nil)) (pg_name (i := 7) sc_rows.nd rfl (.inl rfl))
        (pss_one (ps_expr (pe_bm PySem.F.plainAttrs_list PySem.F.slot_list_append PySem.F.type_list_append mt_append (pv 10) (pa_cons (pe_call GH (hr.mono (by decide)) (by rfl) LD.gH LD.FH.kp LD.bH .nil pass0 (pa_cons (pe_call GP r1 (by rfl) LD.gP LD.FP.kp LD.bP .nil pass0 (pa_cons (pe_call GC r1 (by rfl) LD.gC LD.FC.kp LD.bC .nil pass0 (pa_cons (pv 0) (pa_cons (pe_op op_add pe_int (pv 7)) pa_nil))) pa_nil)) (pa_cons (pv 9) (pa_cons (pv 3) (pa_cons (pv 4) pa_nil))))) pa_nil)))))
      (pss_one (ps_ret (pe_tup (pa_cons (pv 10) (pa_cons (pe_lc (own := [("_law_k", 7)]) (g := gName 7) rfl sc_rows.nd (pi_range1 rfl B.range (pa_cons (pv 6) pa_nil)) (blkOk_by (N := nRows) (sc := defScope s_law_rows) (by decide +kernel))
        (fun _ _ _ _ _ => pg_name (i := 7) sc_rows.nd rfl (.inl rfl)) (fun _ _ _ _ _ => pts_one (pt_cmpR op_gt (pe_ix (r := rIxL K) ix_list (pv 8) (pv 7) (fun _ _ => rfl)) pe_int (nomark _))) (fun _ _ _ _ _ => pv 7)) pa_nil)))))))))), ?_⟩
    -- the pool
    refine ⟨_, rfl, a, ns, 0, rfl, hS, fun z => ⟨z, rfl, fun p x y zz np => ?_⟩⟩
    have b1 : Base0 H p (upd H p (.lst [.int x, .int y, .int zz])) := ⟨same_new np, np, ⟨x, y, zz, upd_same⟩⟩
    generalize upd H p (.lst [.int x, .int y, .int zz]) = H1 at b1 ⊢
    -- many
    refine ⟨_, rfl, _, rfl, p, mh, rfl, b1.pool, by omega, by omega, fun d1 x y z d10 d11 => ⟨_, _, rfl, rfl, ?_⟩⟩
    have b2 := b1.draw x y z
    generalize upd H1 p (.lst [.int x, .int y, .int z]) = H2 at b2 ⊢
    obtain ⟨n, en⟩ : ∃ n : Nat, n = (1 + d1).toNat := ⟨_, rfl⟩
    have n1 : 1 ≤ n := by omega
    have nmh : n ≤ mh := by omega
    -- eager
    refine ⟨_, rfl, _, rfl, by omega, by omega, fun D0 nD => ?_⟩
    have nDp : D0 ≠ p := fun z => by
      obtain ⟨_, _, _, e⟩ := b2.pool
      rw [z, e] at nD
      cases nD
    refine lc_range (fun i H' => ∃ es : List Int, H' D0 = some (.lst (es.map V.int)) ∧ es.length = i ∧ PoolAt H' p ∧ SameX p H2 H') ⟨[], upd_same, rfl, (let ⟨x, y, z, e⟩ := b2.pool; ⟨x, y, z, by rw [upd_ne nDp.symm]; exact e⟩), SameX.of (same_new nD)⟩ ?_ ?_
    · rintro i H' hi ⟨es, hD, le, pool', s'⟩
      refine ⟨rfl, _, rfl, p, 3, rfl, pool', by decide, by decide, fun d x y z d0 d1' => ?_⟩
      have hD' : (upd H' p (.lst [.int x, .int y, .int z])) D0 = some (.lst (es.map V.int)) := by rw [upd_ne nDp]; exact hD
      refine ⟨_, hD', small1000 (by rw [List.length_map]; omega), es ++ [d], by rw [upd_same, List.map_append]; rfl, by rw [List.length_append, le]; rfl, ⟨x, y, z, by rw [upd_ne nDp.symm, upd_same]⟩, fun b o hb e => ?_⟩
      rw [upd_ne (ne_of_none e nD), upd_ne hb]
      exact s' b o hb e
    rintro H3 ⟨es, hD3, le, pool3, s3⟩
    replace le : es.length = n := by
      rw [en]
      exact le
    have b3 := b2.sx s3 pool3
    -- names
    refine ⟨_, rfl, _, rfl, _, rfl, p, mw, rfl, b3.pool, by omega, by omega, fun d2 x y z d20 d21 => ⟨_, _, rfl, rfl, ?_⟩⟩
    have b4 := b3.draw x y z
    have hD4 : (upd H3 p (.lst [.int x, .int y, .int z])) D0 = some (.lst (es.map V.int)) := by rw [upd_ne nDp]; exact hD3
    generalize upd H3 p (.lst [.int x, .int y, .int z]) = H4 at b4 hD4 ⊢
    obtain ⟨n2, rfl⟩ := Int.eq_ofNat_of_zero_le d20
    have e2 : (1 + (n2 : Int)) = ((1 + n2 : Nat) : Int) := by omega
    refine ⟨p, 1 + n2, congrArg (fun z => [V.ref p, V.int z]) e2, b4.pool, by omega, fun lN zs H5 nlN hlN hzs lz pool5 s5 => ?_⟩
    have b5 := b4.sx s5 pool5
    have hD5 := s5 _ _ nDp hD4
    have zs0 : zs ≠ [] := List.length_pos_iff.mp (by omega)
    have fD : H D0 = none := by
      cases e : H D0 with
      | none => rfl
      | some o =>
        have := b2.s _ _ e
        rw [nD] at this
        cases this
    -- rows = []
    refine ⟨Nat.zero_le _, fun L nL => ?_⟩
    have nLp : L ≠ p := fun z => by
      obtain ⟨_, _, _, e⟩ := b5.pool
      rw [z, e] at nL
      cases nL
    have fL : H L = none := b5.s.free nL
    have k6 : Same H5 (upd H5 L (.lst [])) := same_new nL
    refine ⟨_, rfl, _, rfl, by omega, by omega, ?_⟩
    refine for_range (fun i σ H' => ∃ (us : List V) (rs : List (Int × List Stp)) (v7 : Option V), σ = [some (.ref a), some (.int mh), some (.int mw), some (.int ms), some (.int mt), some (.ref p), some (.int (1 + d1)), v7, some (.ref D0), some (.ref lN), some (.ref L)] ∧ H' L = some (.lst us) ∧ Paired (RowNe K H' L) us rs ∧ (∀ r ∈ rs, RowOk ms mt zs r) ∧ rs.length = i ∧
        H' lN = some (.lst (zs.map V.str)) ∧ H' D0 = some (.lst (es.map V.int)) ∧ Same H H')
      ⟨[], [], _, rfl, upd_same, .nil, (fun r h => by cases h), rfl, k6 _ _ hlN, k6 _ _ hD5, b5.s.trans k6⟩ ?_ ?_
    · rintro i σ H6 hi ⟨us, rs, v7, rfl, hL, hrs, hok, hlen, hN6, hD6, s6⟩
      have e7 : (1 + (0 + (i : Int))) = ((1 + i : Nat) : Int) := by omega
      refine ⟨_, rfl, .inl ⟨rfl, _, .inl (.inl hL)⟩, _, rfl, _, rfl, _, _, rfl, rfl, a, ns, 1 + i, congrArg (fun z => [V.ref a, V.int z]) e7, s6.seq hS, fun z => ⟨z, rfl, fun p2 x y zz np2 => ?_⟩⟩
      have k7 : Same H6 (upd H6 p2 (.lst [.int x, .int y, .int zz])) := same_new np2
      have pool7 : PoolAt (upd H6 p2 (.lst [.int x, .int y, .int zz])) p2 := ⟨x, y, zz, upd_same⟩
      have nN2 : lN ≠ p2 := ne_of_none hN6 np2
      have nL2 : L ≠ p2 := ne_of_none hL np2
      have nD2 : D0 ≠ p2 := ne_of_none hD6 np2
      have hN7 := k7 _ _ hN6
      generalize upd H6 p2 (.lst [.int x, .int y, .int zz]) = H7 at k7 pool7 hN7 ⊢
      refine ⟨_, rfl, _, rfl, _, rfl, p2, lN, ms, mt, zs, rfl, pool7, nN2, .inl (.inl hN7), zs0, by omega, hzs, m1, m2, m3, m4, fun t l us1 ss x0 sts H8 nt nl ht hl hss S hne len hx0 lsts hrg pool8 s8 => ?_⟩
      have s68 : Same H6 H8 := fun b o e => s8 _ _ (ne_of_none e np2) (k7 _ _ e)
      have hL8 := s68 _ _ hL
      have hrs8 : Paired (RowNe K H8 L) us rs := Paired.mapP hrs fun _ _ r => r.ext (ext_same s68)
      have nlL : l ≠ L := fun z => by
        have := k7 _ _ hL
        rw [← z, nl] at this
        cases this
      have lu : us.length = rs.length := hrs.length
      refine ⟨L, _, _, rfl, rfl, hL8, small1000 (by omega), ?_⟩
      refine ⟨us ++ [.ref t], rs ++ [(x0, ss)], _, rfl, upd_same, paired_snoc (Paired.mapP hrs8 fun _ _ r => r.put hL8) (RowNe.put hL8 ⟨t, l, us1, rfl, ht, hl, hss, nlL⟩), fun r hr => ?_, by rw [List.length_append, hlen]; rfl, ?_, ?_, fun b o e => ?_⟩
      · rcases List.mem_append.mp hr with h | h
        · exact hok r h
        · rw [List.mem_singleton.mp h]
          exact ⟨⟨sts, S, hx0, lsts, hrg⟩, hne, len⟩
      · have ne : lN ≠ L := fun z => by
          have := hlN
          rw [z, nL] at this
          cases this
        rw [upd_ne ne]
        exact s68 _ _ hN6
      · have ne : D0 ≠ L := fun z => by
          have := hD5
          rw [z, nL] at this
          cases this
        rw [upd_ne ne]
        exact s68 _ _ hD6
      · rw [upd_ne (ne_of_none e fL)]
        exact s68 _ _ (s6 _ _ e)
    · rintro σ H6 ⟨us, rs, v7, rfl, hL, hrs, hok, hlen, hN6, hD6, s6⟩
      replace hlen : rs.length = n := by
        rw [en]
        exact hlen
      -- return (rows, [k ..])
      refine ⟨_, rfl, _, rfl, _, rfl, by omega, by omega, fun D1 nD1 => ?_⟩
      refine lc_range (fun i H' => ∃ cs : List Int, H' D1 = some (.lst (cs.map V.int)) ∧ cs.length ≤ i ∧ cs.Pairwise (· < ·) ∧ (∀ x ∈ cs, 0 ≤ x ∧ x < (i : Int)) ∧ Same H6 H') ⟨[], upd_same, Nat.le_refl _, .nil, (fun x h => by cases h), same_new nD1⟩ ?_ ?_
      · rintro i H' hi ⟨cs, hD, lc, pw, rg, s'⟩
        have hin : i < es.length := by omega
        have ei : es[i]? = some es[i] := List.getElem?_eq_getElem hin
        refine ⟨rfl, _, rfl, _, rfl, D0, _, _, .int es[i], rfl, rfl, .inl (.inl (s' _ _ hD6)), by rw [Int.zero_add]; exact atI_nat (by rw [List.getElem?_map, ei]; rfl), _, _, rfl, rfl, _, rfl, ite2 (fun e => ?_) (fun e => ?_)⟩
        · refine ⟨_, rfl, _, hD, small1000 (by rw [List.length_map]; omega), cs ++ [(0 + (i : Int))], by rw [upd_same, List.map_append]; rfl, by rw [List.length_append]; show cs.length + 1 ≤ _; omega, ?_, fun x hx => ?_, fun b o e => ?_⟩
          · refine List.pairwise_append.mpr ⟨pw, List.pairwise_singleton _ _, fun x hx y hy => ?_⟩
            rw [List.mem_singleton.mp hy]
            have := rg x hx
            omega
          · rcases List.mem_append.mp hx with h | h
            · have := rg x h
              omega
            · rw [List.mem_singleton.mp h]
              omega
          · rw [upd_ne (ne_of_none e nD1)]
            exact s' b o e
        · exact ⟨cs, hD, by omega, pw, fun x hx => by have := rg x hx; omega, s'⟩
      rintro H7 ⟨cs, hD7, lc, pw, rg, s7⟩
      refine ⟨by show 2 ≤ sizeLine; decide, fun t nt => ?_⟩
      have k8 : Same H6 (upd H7 t (.tup [.ref L, .ref D1])) := s7.trans (same_new nt)
      refine q t L D1 us rs cs zs _ ((s6.trans s7).free nt) fL upd_same (k8 _ _ hL) (Paired.mapP hrs fun _ _ r => (r.ext (ext_same k8)).row) hok (by omega) (by omega) hzs (by omega) (same_new nt _ _ hD7) pw (fun x hx => ?_) (s6.trans k8)
      have h := rg x hx
      omega
end
end KX
namespace KX
open PySem PySem.Spec PyProof.Rows L2
/-! ### _law_holds: the system tells its parts -/
/-- what a system tells, as data -/
def sysD (dl : List Int) (wl : List Str) (xs : List Int) : PyData := .tuple [.tuple (dl.map PyData.int), .tuple (wl.map PyData.str), .tuple (xs.map PyData.int)]
theorem sysD_dep (dl : List Int) (wl : List Str) (xs : List Int) : (sysD dl wl xs).depth ≤ 3 := by
  have h1 := dep_ints dl
  have h2 := dep_strs wl
  have h3 := dep_ints xs
  unfold sysD PyData.depth PyData.depthAll PyData.depthAll PyData.depthAll PyData.depthAll PyData.depth
  rw [h1, h2, h3]
  omega
theorem sysD_sm {dl : List Int} {wl : List Str} {xs : List Int} (h1 : dl.length ≤ 1000) (h2 : wl.length ≤ 1000) (h3 : xs.length ≤ 1000) : sm (sysD dl wl xs) = true := by
  unfold sysD sm smAll smAll smAll smAll sm
  rw [sm_ints, sm_strs, sm_ints, List.length_map, List.length_map, List.length_map, decide_eq_true h1, decide_eq_true h2, decide_eq_true h3]
  rfl
theorem mem_map_w (ss : List Stp) (z : Str) : z ∈ ss.map (·.w) ↔ ∃ s ∈ ss, s.w = z := List.mem_map
theorem paired_to {α β : Type} {F : α → β → Prop} : ∀ {xs : List α} {ys : List β}, Paired F xs ys → ∀ {i : Nat} {y : β}, ys[i]? = some y → ∃ x, xs[i]? = some x ∧ F x y
  | _, _, .nil, i, x, h => by simp at h
  | _, _, .cons f t, 0, x, h => by
    simp at h
    subst h
    exact ⟨_, rfl, f⟩
  | _, _, .cons f t, i + 1, x, h => by
    rw [List.getElem?_cons_succ] at h
    obtain ⟨y, e, q⟩ := paired_to t h
    exact ⟨y, by rw [List.getElem?_cons_succ]; exact e, q⟩
section
variable {P : Program} {w : World} {K : PySem.W.Frag} {mg : Str → Option Value} {base : Heap}
abbrev nLHo : List Str := ["_law_system", "_law_rows_here", "_law_chosen", "_law_words", "_law_row", "_law_step", "_law_due", "_law_k", "_law_hand_here"]
theorem sc_lho : FnScope nLHo ["_law_system", "_law_rows_here", "_law_chosen"] (defScope s_law_holds) := ⟨rfl, rfl, rfl, by decide +kernel, rfl, by decide +kernel, by decide +kernel⟩
/-- the words of these rows, ascending -/
structure WordsOf (rs : List (Int × List Stp)) (wl : List Str) : Prop where
  s : sortedS wl = true
  n : wl.Nodup
  m : ∀ z, z ∈ wl ↔ ∃ r ∈ rs, ∃ s ∈ r.2, s.w = z
def spLHo (K : PySem.W.Frag) (C CS : Addr) : Sp := fun vs H Q _ => ∃ (p lr lc : Addr) (qs : List Addr) (rs : List (Int × List Stp)) (us : List V) (dl : List Int) (wl : List Str), vs = [.ref p, .ref lr, .ref lc] ∧ SysAt K CS H p (qs.map V.ref) dl wl (rs.map (·.1)) ∧ Paired (fun q r => HandS K C H q r.1 r.2) qs rs ∧
  H lr = some (.lst us) ∧ RowsAt K H us rs ∧ 1 ≤ rs.length ∧ rs.length ≤ 4 ∧ (∀ r ∈ rs, r.2.length ≤ 8) ∧ H lc = some (.lst (dl.map V.int)) ∧ dl.length ≤ 100 ∧ WordsOf rs wl ∧ ∀ H', Same H H' → Q (.bl true) H'
theorem ok_lho {f fS C CS : Addr} {fd fdS : FuncData} (F : Fun K "_law_holds" "_law_holds" s_law_holds f fd) (B : Blt mg) (N : Kin mg) (B2 : Blt2 mg) (TX : HandT K mg C) (TS : SysT K CS) (O : OwnK K C) (mC : mg "Hand" = some (.ref C))
    (FS : Fun K "_law_same" "_law_same" s_law_same fS fdS) (bS : Binds K fdS ["_law_told", "_law_due"] []) (gS : mg "_law_same" = some (.ref fS)) : FnOk P w K mg base CX0 5 f fd ["_law_system", "_law_rows_here", "_law_chosen"] (spLHo K C CS) := by
  have GS : FnOk P w K mg base CX0 4 fS fdS ["_law_told", "_law_due"] (spSame K 4) := ok_same FS B N B2 bS gS 4
  refine F.ok sc_lho (fun vs H Q E h => ?_) (fun cdv A outer s H vs Q E hr h => ?_)
  · obtain ⟨p, lr, lc, qs, rs, us, dl, wl, rfl, _⟩ := h
    rfl
  · obtain ⟨p, lr, lc, qs, rs, us, dl, wl, rfl, ⟨dx, ts, ds, ws, st, hp, ht, hds, hws, hst⟩, hq, hlr, hrs, l1, l4, l8, hlc, ldl, W, q⟩ := h
    refine ⟨_, pss_cons (ps_set (i := 3) sc_lho.nd rfl (.inl rfl) (pe_lst pa_nil))
      (pss_cons (ps_for PassesOwn.never rfl (pi_list (pv 1)) (pg_name (i := 4) sc_lho.nd rfl (.inl rfl))
        (pss_one (ps_set (i := 3) sc_lho.nd rfl (.inl rfl) (pe_op op_cat (pv 3) (pe_lc (own := [("_law_step", 5)]) (g := gName 5) (tt := tYes) rfl sc_lho.nd (pi_list (pe_ix (r := rIxT K) ix_tup (pv 4) pe_int (fun _ _ => rfl))) (blkOk_by (N := nLHo) (sc := defScope s_law_holds) (by decide +kernel))
          (fun _ _ _ _ _ => pg_name (i := 5) sc_lho.nd rfl (.inl rfl)) (fun _ _ _ _ _ => pts_nil) (fun _ _ _ _ _ => pe_ix (r := rIxT K) ix_tup (pv 5) pe_int (fun _ _ => rfl)))))))
      (pss_cons (ps_set (i := 6) sc_lho.nd rfl (.inl rfl) (pe_tup (pa_cons (pe_tupleOf (by rfl) B.tuple (pv 2)) (pa_cons (pe_tupleOf (by rfl) B.tuple (pe_callB (VT.cr_sortedT rfl) (by rfl) B.sorted (by decide +kernel) (pa_cons (pe_callTy (VT.cr_setT rfl) (by rfl) B.set (by decide +kernel) (pa_cons (pv 3) pa_nil)) pa_nil)))
        (pa_cons (pe_tupleOf (by rfl) B.tuple (pe_lc (own := [("_law_row", 4)]) (g := gName 4) (tt := tYes) rfl sc_lho.nd (pi_list (pv 1)) (blkOk_by (N := nLHo) (sc := defScope s_law_holds) (by decide +kernel))
          (fun _ _ _ _ _ => pg_name (i := 4) sc_lho.nd rfl (.inl rfl)) (fun _ _ _ _ _ => pts_nil) (fun _ _ _ _ _ => pe_ix (r := rIxT K) ix_tup (pv 4) pe_int (fun _ _ => rfl)))) pa_nil)))))
      (pss_cons (ps_if (pt_not (pt_val (pe_call GS hr (by rfl) gS FS.kp bS .nil pass0 (pa_cons (pe_tup (pa_cons (pe_fld (pv 0) rfl) (pa_cons (pe_fld (pv 0) rfl) (pa_cons (pe_fld (pv 0) rfl) pa_nil)))) (pa_cons (pv 6) pa_nil))))) (pss_one (ps_ret pe_bl)) pss_nil)
      (pss_cons (ps_if (PW.pt (pw_or (pt_not (pt_val (pe_callB call_isi (by rfl) B.isinstance (by decide +kernel) (pa_cons (pe_fld (pv 0) rfl) (pa_cons (pe_bltn rfl B.tuple (by decide +kernel) (v := .ty "tuple") rfl) pa_nil)))))
        (pw_or1 (pt_cmpR op_ne (pe_callB call_len_seq (by rfl) B.len PySem.boot_len (pa_cons (pe_fld (pv 0) rfl) pa_nil)) (pe_callB call_len_seq (by rfl) B.len PySem.boot_len (pa_cons (pv 1) pa_nil)) (nomark _))))) (pss_one (ps_ret pe_bl)) pss_nil)
      (pss_cons (ps_for PassesOwn.never rfl (pi_range1 rfl B.range (pa_cons (pe_callB call_len_seq (by rfl) B.len PySem.boot_len (pa_cons (pv 1) pa_nil)) pa_nil)) (pg_name (i := 7) sc_lho.nd rfl (.inl rfl))
        (pss_cons (ps_set (i := 8) sc_lho.nd rfl (.inl rfl) (pe_ix (r := rIxT K) ix_tup (pe_fld (pv 0) rfl) (pv 7) (fun _ _ => rfl)))
        (pss_one (ps_if (PW.pt (pw_or (pt_not (pt_val (pe_callB call_isi (by rfl) B.isinstance (by decide +kernel) (pa_cons (pv 8) (pa_cons (pe_glob rfl mC (v := .ref C) rfl) pa_nil)))))
          (pw_or (pt_cmpR op_ne (pe_fld (pv 8) rfl) (pe_ix (r := rIxT K) ix_tup (pe_ix (r := rIxL K) ix_list (pv 1) (pv 7) (fun _ _ => rfl)) pe_int (fun _ _ => rfl)) (nomark _))
          (pw_or1 (pt_cmpR (op_neD (hu64b hr)) (pe_fld (pv 8) rfl) (pe_tupleOf (by rfl) B.tuple (pe_ix (r := rIxT K) ix_tup (pe_ix (r := rIxL K) ix_list (pv 1) (pv 7) (fun _ _ => rfl)) pe_int (fun _ _ => rfl))) (nomark _)))))) (pss_one (ps_ret pe_bl)) pss_nil))))
      (pss_one (ps_ret pe_bl))))))), ?_⟩
    have lu : us.length = rs.length := hrs.length
    have lq : qs.length = rs.length := hq.length
    -- the words of all rows
    refine ⟨Nat.zero_le _, fun l0 nl0 => ?_⟩
    have k1 : Same H (upd H l0 (.lst [])) := same_new nl0
    refine ⟨_, rfl, lr, rfl, ⟨us, .inl (.inl (k1 _ _ hlr))⟩, ?_⟩
    refine for_list (K := K) (xs := us) (fun i σ H' => ∃ (l : Addr) (zs : List Str) (v4 : Option V), σ = [some (.ref p), some (.ref lr), some (.ref lc), some (.ref l), v4, none, none, none, none] ∧ H' l = some (.lst (zs.map V.str)) ∧ zs.length ≤ 8 * i ∧ (∀ z, z ∈ zs ↔ ∃ r ∈ rs.take i, ∃ s ∈ r.2, s.w = z) ∧ Same H H')
      ⟨l0, [], none, rfl, upd_same, Nat.le_refl _, (fun z => ⟨(fun h => by cases h), (fun ⟨r, h, _⟩ => by rw [List.take_zero] at h; cases h)⟩), k1⟩ (fun i σ H' _ ⟨_, _, _, _, _, _, _, k⟩ => .inl (.inl (k _ _ hlr))) ?_ ?_
    · rintro i x σ H2 hx ⟨l, zs, v4, rfl, hl, lz, mz, k2⟩
      obtain ⟨r, er, t, rfl, lb, ub, etb, elb, esb⟩ := paired_at (hrs.ext (ext_same k2)) hx
      have hm : r ∈ rs := List.mem_of_getElem? er
      have hi : i < rs.length := (List.getElem?_eq_some_iff.mp er).1
      have lb8 := l8 r hm
      have lub : ub.length = r.2.length := esb.length
      refine ⟨_, rfl, _, rfl, t, _, _, .ref lb, rfl, rfl, .inl (.inl etb), atI_nat (j := 1) rfl, lb, rfl, ⟨_, .inl (.inl elb)⟩, fun D hD => ?_⟩
      refine lc_list (K := K) (xs := ub) (fun j H3 => H3 D = some (.lst (((r.2.take j).map (·.w)).map V.str)) ∧ Same H2 H3) ⟨by rw [upd_same]; rfl, same_new hD⟩ (fun j H3 _ ⟨_, k⟩ => .inl (.inl (k _ _ elb))) ?_ ?_
      · rintro j y H3 hy ⟨hD3, k3⟩
        obtain ⟨st1, t1, rfl, es, htt⟩ := get_tup (esb.same k3) hy
        have hj : j < r.2.length := (List.getElem?_eq_some_iff.mp es).1
        refine ⟨rfl, _, rfl, t1, _, _, _, rfl, rfl, .inl (.inl htt), atI_nat (j := 1) rfl, _, hD3, small1000 (by rw [List.length_map, List.length_map, List.length_take]; omega), ?_, fun b o e => ?_⟩
        · rw [upd_same, List.take_add_one, es, List.map_append, List.map_append]
          rfl
        · rw [upd_ne (ne_of_none e hD)]
          exact k3 b o e
      rintro H3 ⟨hD3, k3⟩
      rw [lub, List.take_length] at hD3
      refine ⟨l, D, _, _, rfl, rfl, k3 _ _ hl, hD3, by rw [List.length_map, List.length_map, List.length_map]; exact Nat.le_of_lt (small1000 (by omega)), fun l2 nl2 => ?_⟩
      refine ⟨l2, zs ++ r.2.map (·.w), _, rfl, by rw [upd_same, List.map_append], by rw [List.length_append, List.length_map]; omega, fun z => ?_, (k2.trans k3).trans (same_new nl2)⟩
      rw [List.mem_append, mz z, mem_map_w, List.take_add_one, er]
      constructor
      · rintro (⟨r2, h, e⟩ | e)
        · exact ⟨r2, List.mem_append_left _ h, e⟩
        · exact ⟨r, List.mem_append_right _ (List.mem_singleton.mpr rfl), e⟩
      · rintro ⟨r2, h, e⟩
        rcases List.mem_append.mp h with h | h
        · exact .inl ⟨r2, h, e⟩
        · rw [List.mem_singleton.mp h] at e
          exact .inr e
    rintro σ H2 ⟨l, zs, v4, rfl, hl, lz, mz, k2⟩
    rw [lu, List.take_length] at mz
    -- tuple(chosen)
    refine ⟨_, rfl, .inl ⟨lc, _, rfl, .inl (.inl (k2 _ _ hlc)), fun t1 nt1 => ?_⟩⟩
    have k3 : Same H2 (upd H2 t1 (.tup (dl.map V.int))) := same_new nt1
    have ht1 : (upd H2 t1 (.tup (dl.map V.int))) t1 = some (.tup (dl.map V.int)) := upd_same
    have k03 := k2.trans k3
    have hl3 := k3 _ _ hl
    generalize upd H2 t1 (.tup (dl.map V.int)) = H3 at k3 ht1 k03 hl3 ⊢
    -- tuple(sorted(set(words)))
    refine ⟨_, rfl, l, _, rfl, .inl (.inl hl3), by unfold scanBound; omega, fun E1 n1 nE ln => ?_⟩
    refine ⟨E1, _, n1, rfl, upd_same, by omega, fun ns pw w1 w2 w3 w4 npw => ?_⟩
    generalize hH4 : upd (upd H3 E1 (VT.SetTO _ E1 (fun j => decide (j ∈ zs)) n1)) pw (.lst (ns.map V.str)) = H4
    have k4 : Same H3 H4 := by
      rw [← hH4]
      exact (same_new nE).trans (same_new npw)
    have hpw : H4 pw = some (.lst (ns.map V.str)) := by
      rw [← hH4]
      exact upd_same
    have ens : ns = wl := sorted_one w1 W.s w2 W.n fun z => by
      rw [w3 z, W.m z, decide_eq_true_eq, mz z]
    subst ens
    refine .inl ⟨pw, _, rfl, .inl (.inl hpw), fun t2 nt2 => ?_⟩
    have k5 : Same H3 (upd H4 t2 (.tup (ns.map V.str))) := k4.trans (same_new nt2)
    have ht2 : (upd H4 t2 (.tup (ns.map V.str))) t2 = some (.tup (ns.map V.str)) := upd_same
    have k05 := k03.trans k5
    have ht15 := k5 _ _ ht1
    generalize upd H4 t2 (.tup (ns.map V.str)) = H5 at k5 ht2 k05 ht15 ⊢
    -- tuple([row[0] ..])
    refine ⟨_, rfl, lr, rfl, ⟨us, .inl (.inl (k05 _ _ hlr))⟩, fun D hD => ?_⟩
    refine lc_list (K := K) (xs := us) (fun j H6 => H6 D = some (.lst (((rs.take j).map (·.1)).map V.int)) ∧ Same H5 H6) ⟨by rw [upd_same]; rfl, same_new hD⟩ (fun j H6 _ ⟨_, k⟩ => .inl (.inl (k _ _ (k05 _ _ hlr)))) ?_ ?_
    · rintro j y H6 hy ⟨hD6, k6⟩
      obtain ⟨r, er, t, rfl, lb, ub, etb, elb, esb⟩ := paired_at (hrs.ext (ext_same (k05.trans k6))) hy
      have hj : j < rs.length := (List.getElem?_eq_some_iff.mp er).1
      refine ⟨rfl, _, rfl, t, _, _, _, rfl, rfl, .inl (.inl etb), atI_nat (j := 0) rfl, _, hD6, small1000 (by rw [List.length_map, List.length_map, List.length_take]; omega), ?_, fun b o e => ?_⟩
      · rw [upd_same, List.take_add_one, er, List.map_append, List.map_append]
        rfl
      · rw [upd_ne (ne_of_none e hD)]
        exact k6 b o e
    rintro H6 ⟨hD6, k6⟩
    rw [lu, List.take_length] at hD6
    refine .inl ⟨D, _, rfl, .inl (.inl hD6), fun t3 nt3 => ⟨by show 3 ≤ sizeLine; decide, fun t4 nt4 => ?_⟩⟩
    have k7 : Same H5 (upd (upd H6 t3 (.tup ((rs.map (·.1)).map V.int))) t4 (.tup [.ref t1, .ref t2, .ref t3])) := (k6.trans (same_new nt3)).trans (same_new nt4)
    have ht4 : (upd (upd H6 t3 (.tup ((rs.map (·.1)).map V.int))) t4 (.tup [.ref t1, .ref t2, .ref t3])) t4 = some (.tup [.ref t1, .ref t2, .ref t3]) := upd_same
    have ht3 : (upd (upd H6 t3 (.tup ((rs.map (·.1)).map V.int))) t4 (.tup [.ref t1, .ref t2, .ref t3])) t3 = some (.tup ((rs.map (·.1)).map V.int)) := same_new nt4 _ _ upd_same
    have k07 := k05.trans k7
    have h1 := k7 _ _ ht15
    have h2 := k7 _ _ ht2
    generalize upd (upd H6 t3 (.tup ((rs.map (·.1)).map V.int))) t4 (.tup [.ref t1, .ref t2, .ref t3]) = H7 at k7 ht4 ht3 k07 h1 h2 ⊢
    have hp7 := k07 _ _ hp
    -- told
    refine ⟨_, rfl, p, CS, dx, _, _, rfl, hp7, TS.cl, TS.diligent, rfl, _, rfl, p, CS, dx, _, _, rfl, hp7, TS.cl, TS.words, rfl, _, rfl, p, CS, dx, _, _, rfl, hp7, TS.cl, TS.start, rfl, by show 3 ≤ sizeLine; decide, fun t5 nt5 => ?_⟩
    have k8 : Same H7 (upd H7 t5 (.tup [.ref ds, .ref ws, .ref st])) := same_new nt5
    have ht5 : (upd H7 t5 (.tup [.ref ds, .ref ws, .ref st])) t5 = some (.tup [.ref ds, .ref ws, .ref st]) := upd_same
    have k08 := k07.trans k8
    generalize upd H7 t5 (.tup [.ref ds, .ref ws, .ref st]) = H8 at k8 ht5 k08 ⊢
    have lwl : ns.length ≤ 1000 := by omega
    refine ⟨_, rfl, _, _, sysD dl ns (rs.map (·.1)), rfl, ?_, ?_, sysD_dep _ _ _, sysD_sm (by omega) lwl (by rw [List.length_map]; omega), true, rfl, ?_⟩
    · exact .tup (.inl (.inl ht5)) (.cons (.tup (.inl (.inl (k08 _ _ hds))) (dp_ints _)) (.cons (.tup (.inl (.inl (k08 _ _ hws))) (dp_strs _)) (.cons (.tup (.inl (.inl (k08 _ _ hst))) (dp_ints _)) .nil)))
    · exact .tup (.inl (.inl (k8 _ _ ht4))) (.cons (.tup (.inl (.inl (k8 _ _ h1))) (dp_ints _)) (.cons (.tup (.inl (.inl (k8 _ _ h2))) (dp_strs _)) (.cons (.tup (.inl (.inl (k8 _ _ ht3))) (dp_ints _)) .nil)))
    -- the hands
    have hp8 := k08 _ _ hp
    have hts8 : SqT K H8 ts (qs.map V.ref) := sqT_ext (ext_same k08) ht
    have hlr8 := k08 _ _ hlr
    refine ⟨_, rfl, p, CS, dx, _, _, rfl, hp8, TS.cl, TS.hands, rfl, _, _, _, _, true, rfl, .ty "tuple", tyT hts8, kit_ty (by decide +kernel), true, rfl, ?_⟩
    refine ⟨_, rfl, p, CS, dx, _, _, rfl, hp8, TS.cl, TS.hands, rfl, ts, _, rfl, .inr hts8, _, rfl, lr, _, rfl, .inl (.inl (.inl hlr8)), rfl, _, rfl, ite2 (fun e => absurd e ?_) (fun e => ?_)⟩
    · rw [List.length_map, lq, lu]
      simp
    refine ⟨_, rfl, lr, _, rfl, .inl (.inl (.inl hlr8)), _, rfl, by omega, by omega, ?_⟩
    refine for_range (fun i σ H' => ∃ (v7 v8 : Option V), σ = [some (.ref p), some (.ref lr), some (.ref lc), some (.ref l), v4, none, some (.ref t4), v7, v8] ∧ Same H H') ⟨none, none, rfl, k08⟩ ?_ ?_
    · rintro i σ H9 hi ⟨v7, v8, rfl, k9⟩
      have hi' : i < rs.length := by omega
      obtain ⟨r, er⟩ : ∃ r, rs[i]? = some r := ⟨rs[i], List.getElem?_eq_getElem hi'⟩
      obtain ⟨q1, eq1, hs1⟩ := paired_to hq er
      obtain ⟨u1, eu1, t, rfl, R⟩ := paired_to hrs er
      have A1 := hs1.ext (ext_same k9)
      obtain ⟨lb, ub, etb, elb, esb⟩ := R.ext (ext_same k9)
      obtain ⟨dq, fs, tq, uq, hq9, fst, fss, htq, hsq, hnq⟩ := id A1
      have hp9 := k9 _ _ hp
      have hts9 : SqT K H9 ts (qs.map V.ref) := sqT_ext (ext_same k9) ht
      have hlr9 := k9 _ _ hlr
      have at1 : atI (qs.map V.ref) (0 + (i : Int)) = some (.ref q1) := by rw [Int.zero_add]; exact atI_nat (by rw [List.getElem?_map, eq1]; rfl)
      have at2 : atI us (0 + (i : Int)) = some (.ref t) := by rw [Int.zero_add]; exact atI_nat eu1
      refine ⟨_, rfl, p, CS, dx, _, _, rfl, hp9, TS.cl, TS.hands, rfl, _, rfl, ts, _, _, .ref q1, rfl, rfl, hts9, at1, ?_⟩
      refine ⟨_, rfl, _, _, _, _, true, rfl, .own C, O.ty hq9, kit_self, true, rfl, ?_⟩
      refine ⟨_, rfl, q1, C, dq, _, _, rfl, hq9, TX.cl, TX.start, fst, _, rfl, _, rfl, lr, _, _, .ref t, rfl, rfl, .inl (.inl hlr9), at2, t, _, _, .int r.1, rfl, rfl, .inl (.inl etb), atI_nat (j := 0) rfl, rfl, _, rfl, ite2 (fun e => absurd e ?_) (fun e => ?_)⟩
      · simp
      refine ⟨_, rfl, q1, C, dq, _, _, rfl, hq9, TX.cl, TX.steps, fss, _, rfl, _, rfl, lr, _, _, .ref t, rfl, rfl, .inl (.inl hlr9), at2, t, _, _, .ref lb, rfl, rfl, .inl (.inl etb), atI_nat (j := 1) rfl, .inl ⟨lb, ub, rfl, .inl (.inl elb), fun t9 nt9 => ?_⟩⟩
      have k10 : Same H9 (upd H9 t9 (.tup ub)) := same_new nt9
      refine ⟨.tuple (r.2.map stpD), .tuple (r.2.map stpD), .tup (sqT_ext (ext_same k10) htq) (hsq.same k10).dp, .tup (.inl (.inl upd_same)) (esb.same k10).dp, shaped_tup hnq, shaped_tup hnq, _, rfl, ?_⟩
      rw [show PyData.eqv (.tuple (r.2.map stpD)) (.tuple (r.2.map stpD)) = true from eqvAll_stps r.2]
      exact ⟨_, _, rfl, k9.trans k10⟩
    · rintro σ H9 ⟨v7, v8, rfl, k9⟩
      exact q H9 k9
end
end KX
namespace KX
open PySem PySem.Spec PyProof.Rows L2
/-! ### what the law keeps -/
theorem RowOk.all {ms mt : Nat} {zs : List Str} {r : Int × List Stp} (h : RowOk ms mt zs r) (hm : ms ≤ 8) (ht : mt ≤ 24) (hz : ∀ z ∈ zs, NameOk z) :
    Good r.2 ∧ 0 ≤ r.1 ∧ r.1 ≤ 99 ∧ (∀ s ∈ r.2, s.w ∈ zs) ∧ (∃ U : List Int, (∀ x, Reach r.2 r.1 x → x ∈ U) ∧ U.length ≤ 8) ∧ ∀ s ∈ r.2, NameOk s.w := by
  obtain ⟨sts, S, h0, ls, rg⟩ := h.ex
  have b : ∀ x ∈ sts, 0 ≤ x ∧ x ≤ 99 := fun x hx => by
    have := rg x hx
    omega
  refine ⟨⟨fun s hs => ⟨(b _ (S.sa s hs)).1, (b _ (S.sa s hs)).2, hz _ (S.sw s hs), (b _ (S.sb s hs)).1, (b _ (S.sb s hs)).2⟩, S.nd, S.lv, List.length_pos_iff.mpr h.ne, Nat.le_trans h.len ht⟩, (b _ h0).1, (b _ h0).2, S.sw, ⟨sts, fun x r => ?_, Nat.le_trans ls hm⟩, fun s hs => hz _ (S.sw s hs)⟩
  cases r with
  | refl => exact h0
  | step _ hs => exact S.sb _ hs
/-- the hand made of a row: where it stands, its words -/
structure HandR (K : PySem.W.Frag) (C : Addr) (H : Hp) (x : Addr × List Str) (r : Int × List Stp) : Prop where
  s : HandS K C H x.1 r.1 r.2
  w : HandW K C H (.ref x.1) (r.1, x.2)
  m : ∀ z, z ∈ x.2 ↔ ∃ s ∈ r.2, s.w = z
  l : x.2.length ≤ 8
section
variable {K : PySem.W.Frag} {C : Addr} {H H' : Hp}
theorem HandR.ext {x : Addr × List Str} {r : Int × List Stp} (k : LamX.ExtN H H') (h : HandR K C H x r) : HandR K C H' x r := ⟨h.s.ext k, h.w.ext k, h.m, h.l⟩
theorem handsR_ext {xs : List (Addr × List Str)} {rs : List (Int × List Stp)} (k : LamX.ExtN H H') (h : Paired (HandR K C H) xs rs) : Paired (HandR K C H') xs rs := Paired.mapP h fun _ _ q => q.ext k
theorem handsR_s : ∀ {xs : List (Addr × List Str)} {rs : List (Int × List Stp)}, Paired (HandR K C H) xs rs → Paired (fun q r => HandS K C H q r.1 r.2) (xs.map (·.1)) rs
  | _, _, .nil => .nil
  | _, _, .cons h t => .cons h.s (handsR_s t)
theorem handsR_w : ∀ {xs : List (Addr × List Str)} {rs : List (Int × List Stp)}, Paired (HandR K C H) xs rs → ∃ hs : List (Int × List Str), HandsW K C H ((xs.map (·.1)).map V.ref) hs ∧ hs.map (·.1) = rs.map (·.1) ∧ (∀ h ∈ hs, h.2.length ≤ 8) ∧ ∀ z, (∃ h ∈ hs, z ∈ h.2) ↔ ∃ r ∈ rs, ∃ s ∈ r.2, s.w = z
  | _, _, .nil => ⟨[], .nil, rfl, (fun h hh => by cases hh), fun z => ⟨(fun ⟨h, hh, _⟩ => by cases hh), (fun ⟨h, hh, _⟩ => by cases hh)⟩⟩
  | x :: _, r :: _, .cons h t => by
    obtain ⟨hs, h1, h2, h3, h4⟩ := handsR_w t
    refine ⟨(r.1, x.2) :: hs, .cons h.w h1, ?_, fun y hy => ?_, fun z => ?_⟩
    · rw [List.map_cons, List.map_cons, h2]
    · rcases List.mem_cons.mp hy with rfl | hy
      · exact h.l
      · exact h3 y hy
    · constructor
      · rintro ⟨y, hy, e⟩
        rcases List.mem_cons.mp hy with rfl | hy
        · exact ⟨r, List.mem_cons_self, (h.m z).mp e⟩
        · obtain ⟨r2, hr2, e2⟩ := (h4 z).mp ⟨y, hy, e⟩
          exact ⟨r2, List.mem_cons_of_mem _ hr2, e2⟩
      · rintro ⟨y, hy, e⟩
        rcases List.mem_cons.mp hy with rfl | hy
        · exact ⟨(y.1, x.2), List.mem_cons_self, (h.m z).mpr e⟩
        · obtain ⟨r2, hr2, e2⟩ := (h4 z).mpr ⟨y, hy, e⟩
          exact ⟨r2, List.mem_cons_of_mem _ hr2, e2⟩
theorem extN_new {Hc H : Hp} {g : Addr} {o : HO} (k : LamX.ExtN Hc H) (h : Hc g = none) : LamX.ExtN Hc (upd H g o) := fun b u e n => by
  rw [upd_ne (ne_of_none e h)]
  exact k b u e n
theorem extN_kept {Hc H H' : Hp} {q : Addr} (k : LamX.ExtN Hc H) (h : Hc q = none) (kp : Kept q H H') : LamX.ExtN Hc H' := fun b o e n => kp b o (ne_of_none e h) (k b o e n) n
theorem extN_none {Hc H : Hp} {q : Addr} (k : LamX.ExtN Hc H) (nt : ∀ ps, Hc q ≠ some (.tbl ps)) (h : H q = none) : Hc q = none := by
  cases e : Hc q with
  | none => rfl
  | some o =>
    have := k q o e (fun ps z => nt ps (z ▸ e))
    rw [h] at this
    cases this
/-- the rows by the hands' places -/
def valOf (qs : List Addr) (rs : List (Int × List Stp)) (q : Addr) : Int × List Stp := ((qs.zip rs).lookup q).getD (0, [])
theorem valOf_map : ∀ {qs : List Addr} {rs : List (Int × List Stp)}, qs.Nodup → qs.length = rs.length → qs.map (valOf qs rs) = rs
  | [], [], _, _ => rfl
  | [], _ :: _, _, h => by cases h
  | _ :: _, [], _, h => by cases h
  | q :: t, r :: u, nd, h => by
    obtain ⟨n1, n2⟩ := List.nodup_cons.mp nd
    have ih := valOf_map n2 (Nat.succ.inj h)
    rw [List.map_cons]
    have e1 : valOf (q :: t) (r :: u) q = r := by
      unfold valOf
      rw [List.zip_cons_cons, List.lookup_cons_self]
      rfl
    have e2 : t.map (valOf (q :: t) (r :: u)) = t.map (valOf t u) := List.map_congr_left fun x hx => by
      have ne : (x == q) = false := by
        simp only [beq_eq_false_iff_ne, ne_eq]
        exact fun z => n1 (z ▸ hx)
      unfold valOf
      rw [List.zip_cons_cons, List.lookup_cons, ne]
    rw [e1, e2, ih]
theorem handsV_of {qs : List Addr} {rs : List (Int × List Stp)} (nd : qs.Nodup) (h : Paired (fun q r => HandS K C H q r.1 r.2) qs rs) : HandsV K C H (valOf qs rs) qs := fun q hq => by
  obtain ⟨i, hi⟩ := List.mem_iff_getElem?.mp hq
  obtain ⟨r, er, s⟩ := paired_at h hi
  have e := congrArg (fun l => l[i]?) (valOf_map nd h.length)
  rw [List.getElem?_map, hi, er] at e
  have e' : valOf qs rs q = r := Option.some.inj e
  rw [e']
  exact s
end
theorem cut3 (us : List V) : cutV us none (some 3) = us.take 3 := by
  unfold cutV
  have e1 : HT.sIx us.length 0 none = 0 := rfl
  have e2 : HT.sIx us.length us.length (some 3) = min 3 us.length := HT.sIx_nat _ _ 3
  rw [e1, e2, List.drop_zero, Nat.sub_zero]
  by_cases h : 3 ≤ us.length
  · rw [Nat.min_eq_left h]
  · rw [Nat.min_eq_right (by omega), List.take_of_length_le (Nat.le_refl _), List.take_of_length_le (by omega)]
/-- a row as data -/
def rowD (r : Int × List Stp) : PyData := .tuple [.int r.1, .tuple (r.2.map stpD)]
theorem eqv_row (a b : Int × List Stp) : PyData.eqv (rowD a) (rowD b) = decide (a = b) := by
  show ((a.1 == b.1) && (PyData.eqvAll (a.2.map stpD) (b.2.map stpD) && true)) = _
  rw [eqvAll_dec, Bool.eq_iff_iff]
  simp only [Bool.and_eq_true, beq_iff_eq, decide_eq_true_eq, and_true]
  exact Prod.ext_iff.symm
theorem eqv_rows : ∀ a b : List (Int × List Stp), PyData.eqvAll (a.map rowD) (b.map rowD) = decide (a = b)
  | [], [] => by
    unfold List.map PyData.eqvAll
    rfl
  | [], t :: r => by
    rw [List.map_cons]
    unfold List.map PyData.eqvAll
    rfl
  | s :: r, [] => by
    rw [List.map_cons]
    unfold List.map PyData.eqvAll
    rfl
  | s :: r, t :: q => by
    rw [List.map_cons, List.map_cons]
    unfold PyData.eqvAll
    rw [eqv_rows r q, eqv_row, Bool.eq_iff_iff]
    simp
theorem lay_rows : ∀ {rs : List (Int × List Stp)}, (∀ r ∈ rs, ∀ s ∈ r.2, NameOk s.w) → PyData.canLayAll0 (rs.map rowD) = true
  | [], _ => by
    unfold List.map PyData.canLayAll0
    rfl
  | r :: t, h => by
    rw [List.map_cons]
    unfold PyData.canLayAll0
    rw [lay_rows fun x hx => h x (List.mem_cons_of_mem _ hx)]
    have e : (rowD r).canLay0 = true := by
      show (PyData.canLay0 (.int r.1) && (PyData.canLay0 (.tuple (r.2.map stpD)) && true)) = true
      have e2 : (PyData.tuple (r.2.map stpD)).canLay0 = true := by
        unfold PyData.canLay0
        exact lay_stps (h r List.mem_cons_self)
      rw [e2]
      unfold PyData.canLay0
      rfl
    rw [e]
    rfl
theorem dep_rows : ∀ rs : List (Int × List Stp), PyData.depthAll (rs.map rowD) ≤ 3
  | [] => by
    unfold List.map PyData.depthAll
    decide
  | r :: t => by
    rw [List.map_cons]
    unfold PyData.depthAll
    have h1 := dep_rows t
    have h2 := dep_stps r.2
    have e : (rowD r).depth ≤ 3 := by
      unfold rowD PyData.depth PyData.depthAll PyData.depthAll PyData.depthAll PyData.depth
      omega
    omega
theorem shaped_rows {rs : List (Int × List Stp)} (h : ∀ r ∈ rs, ∀ s ∈ r.2, NameOk s.w) : SeqAt.shaped (.list (rs.map rowD)) = true := by
  unfold SeqAt.shaped
  have e1 : (PyData.list (rs.map rowD)).canLay0 = true := by
    unfold PyData.canLay0
    exact lay_rows h
  have e2 : (PyData.list (rs.map rowD)).depth ≤ 64 := by
    unfold PyData.depth
    have := dep_rows rs
    omega
  rw [e1, decide_eq_true e2]
  rfl
/-- a told row: the tuple of a start and a tuple of steps -/
def BackAt (K : PySem.W.Frag) (H : Hp) (v : V) (r : Int × List Stp) : Prop := ∃ t ts us, v = .ref t ∧ H t = some (.tup [.int r.1, .ref ts]) ∧ H ts = some (.tup us) ∧ StepsAt K H us r.2
theorem BackAt.ext {K : PySem.W.Frag} {H H' : Hp} {v : V} {r : Int × List Stp} (k : LamX.ExtN H H') (h : BackAt K H v r) : BackAt K H' v r := let ⟨t, ts, us, e, e1, e2, e3⟩ := h; ⟨t, ts, us, e, k _ _ e1 (fun ps z => nomatch z), k _ _ e2 (fun ps z => nomatch z), extN_steps k e3⟩
theorem backs_dp {K : PySem.W.Frag} {H : Hp} : ∀ {vs : List V} {rs : List (Int × List Stp)}, Paired (BackAt K H) vs rs → DpAll K H vs (rs.map rowD)
  | _, _, .nil => .nil
  | _, _, .cons ⟨t, ts, us, e, e1, e2, e3⟩ r => .cons (e ▸ .tup (.inl (.inl e1)) (.cons (.int _) (.cons (.tup (.inl (.inl e2)) e3.dp) .nil))) (backs_dp r)
theorem paired_rev {α β : Type} {F : α → β → Prop} : ∀ {xs : List α} {ys : List β}, Paired F xs ys → Paired F xs.reverse ys.reverse
  | _, _, .nil => .nil
  | _, _, .cons f t => by
    rw [List.reverse_cons, List.reverse_cons]
    exact paired_snoc (paired_rev t) f
theorem paired_take {α β : Type} {F : α → β → Prop} : ∀ {xs : List α} {ys : List β} (i : Nat), Paired F xs ys → Paired F (xs.take i) (ys.take i)
  | _, _, 0, _ => by
    rw [List.take_zero, List.take_zero]
    exact .nil
  | _, _, i + 1, .nil => .nil
  | _, _, i + 1, .cons g t => .cons g (paired_take i t)
end KX
namespace KX
open PySem PySem.Spec PyProof.Rows L2
/-! ### the law -/
theorem Kept.ofX {q : Addr} {H H' : Hp} (k : SameX q H H') : Kept q H H' := fun b o n e _ => k b o n e
theorem ext_make {H Hi H' : Hp} {p : Addr} (m : Same H Hi) (n : H p = none) (sx : SameX p Hi H') : LamX.ExtN H H' := extN_kept (ext_same m) n (Kept.ofX sx)
theorem HandR.sxL {K : PySem.W.Frag} {C l : Addr} {H H' : Hp} {ys : List V} {x : Addr × List Str} {r : Int × List Stp} (hl : H l = some (.lst ys)) (k : SameX l H H') (h : HandR K C H x r) : HandR K C H' x r := ⟨h.s.sxL hl k, h.w.sxL hl k, h.m, h.l⟩
theorem BackAt.sxL {K : PySem.W.Frag} {l : Addr} {H H' : Hp} {ys : List V} {v : V} {r : Int × List Stp} (hl : H l = some (.lst ys)) (k : SameX l H H') (h : BackAt K H v r) : BackAt K H' v r :=
  let ⟨t, ts, us, e, e1, e2, e3⟩ := h
  ⟨t, ts, us, e, k _ _ (fun z => by rw [z, hl] at e1; cases e1) e1, k _ _ (fun z => by rw [z, hl] at e2; cases e2) e2, e3.sameX (NoTup.lst hl) k⟩
section
variable {P : Program} {w : World} {K : PySem.W.Frag} {mg : Str → Option Value} {base : Heap}
abbrev rLOF (K : PySem.W.Frag) : List V → Hp → VK → Prop := fun xs H Q => ∃ p ys, xs = [.ref p] ∧ (SqL K H p ys ∨ SqT K H p ys) ∧ ∀ l, H l = none → Q (.ref l) (upd H l (.lst ys))
theorem pe_tupK {X : Cx} {K : PySem.W.Frag} {a : Expr} {ta : TE} {p pos : Pos} (hK : X.K = K) (hg : Gl X "tuple") (hm : X.mg "tuple" = none) (ha : PE X a ta) (na : starEach [a] X.env = (false, eval a X.env) :: starEach [] X.env := by rfl) : PE X (.Call (.Name "tuple" p) [a] [] pos) (tThen ta (kTup K)) := hK ▸ pe_tupleOf hg hm ha na
abbrev nLaw : List Str := ["_law_script", "_law_pair", "_law_rows_here", "_law_pool_here", "_law_everyone", "_law_k", "_law_chosen", "_law_turned", "_law_row", "_law_hands", "_law_given", "_law_system", "_law_plain", "_law_named", "_law_other", "_law_back"]
theorem sc_law : FnScope nLaw ["_law_script"] (defScope s_law) := ⟨rfl, rfl, rfl, by decide +kernel, rfl, by decide +kernel, by decide +kernel⟩
def spLaw (K : PySem.W.Frag) (T : Addr) : Sp := fun vs H Q _ => ∃ (a : Addr) (ns : List Int), vs = [.ref a] ∧ SqL K H a (ns.map V.int) ∧ TabL T H ∧ ∀ H', Q (.bl true) H'
/-- the classes: Hand at C, System at CS -/
structure ClsD (K : PySem.W.Frag) (mg : Str → Option Value) (C CS fI fE fJ fG : Addr) (fdI fdE fdJ fdG : FuncData) (dsJ : List Value) : Prop where
  TX : HandT K mg C
  TS : SysT K CS
  O : OwnK K C
  OS : OwnK K CS
  E : EqC K C fE
  ES : EqC K CS fG
  nHand : NotC K CS (.ref C)
  nTup : NotC K CS (.type "tuple")
  nNon : NotC K CS (.type "NoneType")
  M : Mk K C fI
  MS : Mk K CS fJ
  mC : mg "Hand" = some (.ref C)
  mS : mg "System" = some (.ref CS)
  FI : Fun K "__init__" "Hand.__init__" s_Hand_init fI fdI
  bI : Binds K fdI ["self", "start", "steps"] []
  FE : Fun K "__eq__" "Hand.__eq__" s_Hand_eq fE fdE
  bE : Binds K fdE ["self", "other"] []
  FG : Fun K "__eq__" "System.__eq__" s_System_eq fG fdG
  bG : Binds K fdG ["self", "other"] []
  FJ : FunD K "__init__" "System.__init__" (defArgs s_System_init) (defBody s_System_init) (defScope s_System_init) [V.non] [] fJ fdJ
  bJ : Binds K fdJ ["self", "hands", "diligent"] dsJ
  dJ : Vals [V.non] dsJ
  b3 : Binds K fdJ ["self", "hands", "diligent"] []
  kJ : KBn K fdJ ["self", "hands", "diligent"] 2 ["diligent"] (fun us ws => us ++ ws) (fun vs zs => vs ++ zs)
/-- the law's own defs -/
structure OwnD (K : PySem.W.Frag) (mg : Str → Option Value) (fR fS fH : Addr) (fdR fdS fdH : FuncData) : Prop where
  FR : Fun K "_law_rows" "_law_rows" s_law_rows fR fdR
  bR : Binds K fdR ["_law_script", "_law_most_hands", "_law_most_words", "_law_most_states", "_law_most_steps"] []
  gR : mg "_law_rows" = some (.ref fR)
  FS : Fun K "_law_same" "_law_same" s_law_same fS fdS
  bS : Binds K fdS ["_law_told", "_law_due"] []
  gS : mg "_law_same" = some (.ref fS)
  FH : Fun K "_law_holds" "_law_holds" s_law_holds fH fdH
  bH : Binds K fdH ["_law_system", "_law_rows_here", "_law_chosen"] []
  gH : mg "_law_holds" = some (.ref fH)
theorem ok_law {f C CS fI fE fJ fZ fW fS fN fR fT fK fA fG fX c T sK sX gC gP gD gM gN gY gH oR oS oH : Addr} {fd fdI fdE fdJ fdZ fdW fdS fdN fdR fdT fdK fdA fdG fdX sdK sdX hdC hdP hdD hdM hdN hdY hdH odR odS odH : FuncData} {dsJ : List Value}
    (F : Fun K "law" "law" s_law f fd) (B : Blt mg) (N : Kin mg) (B2 : Blt2 mg) (L : Lim mg) (LL : Lim2 mg) (CD : ClsD K mg C CS fI fE fJ fZ fdI fdE fdJ fdZ dsJ) (D : HandD K mg base fW fS fN fR fT fK fA fG fX c T fdW fdS fdN fdR fdT fdK fdA fdG fdX) (SD : SysD K mg fR fW sK sX fdR fdW sdK sdX)
    (LD : DrwD K mg gC gP gD gM gN gY gH hdC hdP hdD hdM hdN hdY hdH) (OD : OwnD K mg oR oS oH odR odS odH) : FnOk P w K mg base CX0 7 f fd ["_law_script"] (spLaw K T) := by
  have GC : FnOk P w K mg base CX0 1 gC hdC ["_law_script", "_law_k"] (spCellV K) := ok_cell LD.FC B
  have GP : FnOk P w K mg base CX0 1 gP hdP ["_law_cell_here"] spPool := ok_pool LD.FP B
  have GD : FnOk P w K mg base CX0 1 gD hdD ["_law_pool_here", "_law_many"] spDraw := ok_draw LD.FD B
  have GR : FnOk P w K mg base CX0 4 oR odR ["_law_script", "_law_most_hands", "_law_most_words", "_law_most_states", "_law_most_steps"] (spRows K) := ok_rows OD.FR B LD
  have GI : FnOk P w K mg base CX0 5 fI fdI ["self", "start", "steps"] (spHand K C T) := ok_init CD.FI B N L CD.TX D
  have GJ : FnOk P w K mg base CX0 3 fJ fdJ ["self", "hands", "diligent"] (spSys K C CS) := ok_sys CD.FJ B N LL CD.TX CD.TS CD.O CD.mC SD
  have GZ : FnOk P w K mg base CX0 3 fZ fdZ ["self", "other"] (spSEq K C CS) := ok_seq CD.FG B CD.TX CD.TS CD.O CD.OS CD.E CD.mC CD.mS CD.FE CD.bE
  have GH : FnOk P w K mg base CX0 5 oH odH ["_law_system", "_law_rows_here", "_law_chosen"] (spLHo K C CS) := ok_lho OD.FH B N B2 CD.TX CD.TS CD.O CD.mC OD.FS OD.bS OD.gS
  refine F.ok sc_law (fun vs H Q E h => ?_) (fun cdv A outer s H vs Q E hr h => ?_)
  · obtain ⟨a, ns, rfl, _⟩ := h
    rfl
  · obtain ⟨a, ns, rfl, hS, hT, q⟩ := h
    have r1 : Room 1 _ := hr.mono (by decide)
    have r3 : Room 3 _ := hr.mono (by decide)
    refine ⟨_, pss_cons (ps_set (i := 1) sc_law.nd rfl (.inl rfl) (pe_call GR (hr.mono (by decide)) (by rfl) OD.gR OD.FR.kp OD.bR .nil pass0 (pa_cons (pv 0) (pa_cons pe_int (pa_cons pe_int (pa_cons pe_int (pa_cons pe_int pa_nil)))))))
      (pss_cons (ps_set (i := 2) sc_law.nd rfl (.inl rfl) (pe_ix (r := rIxT K) ix_tup (pv 1) pe_int (fun _ _ => rfl)))
      (pss_cons (ps_set (i := 3) sc_law.nd rfl (.inr rfl) (pe_call GP r1 (by rfl) LD.gP LD.FP.kp LD.bP .nil pass0 (pa_cons (pe_call GC r1 (by rfl) LD.gC LD.FC.kp LD.bC .nil pass0 (pa_cons (pv 0) (pa_cons pe_int pa_nil))) pa_nil)))
      (C8.pss_cut (ps_if (pt_cmpR op_eq (pe_call GD r1 (by rfl) LD.gD LD.FD.kp LD.bD .nil pass0 (pa_cons (pv 3) (pa_cons pe_int pa_nil))) pe_int (nomark _)) (pss_one (ps_set (i := 2) sc_law.nd rfl (.inl rfl) (pe_op op_cat (pe_slice sl_list (pv 2) po_none (po_some pe_int)) (pe_lst (pa_cons (pe_ix (r := rIxL K) ix_list (pv 2) pe_int (fun _ _ => rfl)) pa_nil))))) pss_nil)
      (pss_cons (ps_set (i := 4) sc_law.nd rfl (.inl rfl) (pe_listRg rfl (by rfl) B.list (prg_1 rfl B.range (pe_callB call_len_seq (by rfl) B.len PySem.boot_len (pa_cons (pv 2) pa_nil)))))
      (pss_cons (ps_setLc (i := 6) (own := [("_law_k", 5)]) (g := gName 5) rfl sc_law.nd rfl rfl (sw_true rfl rfl rfl (by decide +kernel)) (pi_list (pv 4)) (blkOk_by (N := nLaw) (sc := defScope s_law) (by decide +kernel))
        (fun _ _ _ _ _ => pg_name (i := 5) sc_law.nd rfl (.inl rfl)) (fun _ _ _ _ _ => pts_one (pt_cmpR op_eq (pe_call GD r1 (by rfl) LD.gD LD.FD.kp LD.bD .nil pass0 (pa_cons (pv 3) (pa_cons pe_int pa_nil))) pe_int (nomark _))) (fun _ _ _ _ _ => pv 5))
      (pss_cons (ps_set (i := 7) sc_law.nd rfl (.inl rfl) (pe_callTy call_list_of (by rfl) B.list (by decide +kernel) (pa_cons (pv 6) pa_nil)))
      (C8.pss_cut (ps_if (PW.pt (pw_and (pt_cmpR op_gt (pe_callB call_len_seq (by rfl) B.len PySem.boot_len (pa_cons (pv 6) pa_nil)) pe_int (nomark _)) (pw_and1 (pt_cmpR op_eq (pe_call GD r1 (by rfl) LD.gD LD.FD.kp LD.bD .nil pass0 (pa_cons (pv 3) (pa_cons pe_int pa_nil))) pe_int (nomark _)))))
        (pss_one (ps_expr (pe_bm PySem.F.plainAttrs_list PySem.F.slot_list_insert PySem.F.type_list_insert mt_insert (pv 7) (pa_cons (pe_call GD r1 (by rfl) LD.gD LD.FD.kp LD.bD .nil pass0 (pa_cons (pv 3) (pa_cons (pe_callB call_len_seq (by rfl) B.len PySem.boot_len (pa_cons (pv 6) pa_nil)) pa_nil)))
          (pa_cons (pe_bm0 PySem.F.plainAttrs_list PySem.F.slot_list_pop PySem.F.type_list_pop mt_pop (pv 7)) pa_nil))))) pss_nil)
      (pss_cons (ps_setLc (i := 9) (own := [("_law_row", 8)]) (g := gName 8) (tt := tYes) rfl sc_law.nd rfl rfl (sw_true rfl rfl rfl (by decide +kernel)) (pi_list (pv 2)) (blkOk_by (N := nLaw) (sc := defScope s_law) (by decide +kernel))
        (fun _ _ _ _ _ => pg_name (i := 8) sc_law.nd rfl (.inl rfl)) (fun _ _ _ _ _ => pts_nil) (fun _ _ _ _ _ => pe_make CD.M GI (hr.mono (by decide)) (by rfl) CD.mC CD.bI .nil pass0 (pa_cons (pe_ix (r := rIxT K) ix_tup (pv 8) pe_int (fun _ _ => rfl)) (pa_cons (pe_callTy (r := rLOF K) call_list_of (by rfl) B.list (by decide +kernel) (pa_cons (pe_ix (r := rIxT K) ix_tup (pv 8) pe_int (fun _ _ => rfl)) pa_nil)) pa_nil))))
      (pss_cons (ps_set (i := 10) sc_law.nd rfl (.inl rfl) (pe_lst (pa_cons (pe_callTy call_list_of (by rfl) B.list (by decide +kernel) (pa_cons (pv 9) pa_nil)) (pa_cons (pe_callTy call_list_of (by rfl) B.list (by decide +kernel) (pa_cons (pv 7) pa_nil)) pa_nil))))
      (pss_cons (ps_set (i := 11) sc_law.nd rfl (.inl rfl) (pe_make CD.MS GJ (hr.mono (by decide)) (by rfl) CD.mS CD.b3 .nil pass0 (pa_cons (pe_ix (r := rIxL K) ix_list (pv 10) pe_int (fun _ _ => rfl)) (pa_cons (pe_ix (r := rIxL K) ix_list (pv 10) pe_int (fun _ _ => rfl)) pa_nil))))
      (pss_cons (ps_if (PW.pt (pw_or (pt_cmpR op_ne (pe_callB call_len_seq (by rfl) B.len PySem.boot_len (pa_cons (pe_ix (r := rIxL K) ix_list (pv 10) pe_int (fun _ _ => rfl)) pa_nil)) (pe_callB call_len_seq (by rfl) B.len PySem.boot_len (pa_cons (pv 9) pa_nil)) (nomark _))
          (pw_or (pt_cmpR (op_neD (hu64b r1)) (pe_ix (r := rIxL K) ix_list (pv 10) pe_int (fun _ _ => rfl)) (pv 7) (nomark _))
          (pw_or1 (pt_not (pt_val (pe_call GH (hr.mono (by decide)) (by rfl) OD.gH OD.FH.kp OD.bH .nil pass0 (pa_cons (pv 11) (pa_cons (pv 2) (pa_cons (pv 6) pa_nil)))))))))) (pss_one (ps_ret pe_bl)) pss_nil)
      (pss_cons (ps_expr (pe_bm0 PySem.F.plainAttrs_list PySem.F.slot_list_pop PySem.F.type_list_pop mt_pop (pe_ix (r := rIxL K) ix_list (pv 10) pe_int (fun _ _ => rfl))))
      (pss_cons (ps_expr (pe_bm PySem.F.plainAttrs_list PySem.F.slot_list_append PySem.F.type_list_append mt_append (pe_ix (r := rIxL K) ix_list (pv 10) pe_int (fun _ _ => rfl)) (pa_cons pe_int pa_nil)))
      (pss_cons (ps_set (i := 12) sc_law.nd rfl (.inl rfl) (pe_make CD.MS GJ (hr.mono (by decide)) (by rfl) CD.mS CD.bJ CD.dJ pass0 (pa_cons (pe_tupleOf (by rfl) B.tuple (pv 9)) pa_nil)))
      (pss_cons (ps_set (i := 13) sc_law.nd rfl (.inl rfl) (pe_makeN CD.MS GJ (hr.mono (by decide)) (by rfl) CD.mS CD.kJ pass0 (pa_cons (pv 9) pa_nil) (pk_cons (pe_tupleOf (by rfl) B.tuple (pv 7)) pk_nil)))
      (pss_cons (ps_if (PW.pt (pw_or (pt_not (pt_val (pe_call GH (hr.mono (by decide)) (by rfl) OD.gH OD.FH.kp OD.bH .nil pass0 (pa_cons (pv 12) (pa_cons (pv 2) (pa_cons (pv 4) pa_nil))))))
          (pw_or1 (pt_not (pt_val (pe_call GH (hr.mono (by decide)) (by rfl) OD.gH OD.FH.kp OD.bH .nil pass0 (pa_cons (pe_make CD.MS GJ (hr.mono (by decide)) (by rfl) CD.mS CD.b3 .nil pass0 (pa_cons (pv 9) (pa_cons pe_non pa_nil))) (pa_cons (pv 2) (pa_cons (pv 4) pa_nil))))))))) (pss_one (ps_ret pe_bl)) pss_nil)
      (pss_cons (ps_if (PW.pt (pw_or (pt_not (pt_val (pe_call GH (hr.mono (by decide)) (by rfl) OD.gH OD.FH.kp OD.bH .nil pass0 (pa_cons (pv 13) (pa_cons (pv 2) (pa_cons (pv 6) pa_nil))))))
          (pw_or1 (pt_not (pt_val (pe_call GH (hr.mono (by decide)) (by rfl) OD.gH OD.FH.kp OD.bH .nil pass0 (pa_cons (pv 11) (pa_cons (pv 2) (pa_cons (pv 6) pa_nil))))))))) (pss_one (ps_ret pe_bl)) pss_nil)
      (pss_cons (ps_if (PW.pt (pw_or (pt_not (pt_cmpR (VQ.op_eqO (E := L2.E0) GZ CD.ES.eq CD.ES.fn CD.bG pass0 r3) (pv 11) (pv 13) (nomark _)))
          (pw_or (pt_cmpR (VQ.op_neO (E := L2.E0) GZ CD.ES.eq CD.ES.fn CD.ES.ne CD.OS.ob CD.bG pass0 (hr.mono (by decide))) (pv 11) (pv 13) (nomark _))
          (pw_or1 (pt_cmpR op_ne (pe_cmpR (VQ.op_eqO (E := L2.E0) GZ CD.ES.eq CD.ES.fn CD.bG pass0 r3) (pv 12) (pv 11) (nomark _)) (pe_cmpR (op_eqD (hu64 r1)) (pv 6) (pv 4) (nomark _)) (nomark _)))))) (pss_one (ps_ret pe_bl)) pss_nil)
      (pss_cons (ps_set (i := 14) sc_law.nd rfl (.inl rfl) (pe_make CD.MS GJ (hr.mono (by decide)) (by rfl) CD.mS CD.b3 .nil pass0 (pa_cons (pe_revL (pv 9)) (pa_cons (pv 7) pa_nil))))
      (pss_cons (ps_setLc (i := 15) (own := [("_law_row", 8)]) (g := gName 8) (tt := tYes) rfl sc_law.nd rfl rfl (sw_true rfl rfl rfl (by decide +kernel)) (pi_list (pv 2)) (blkOk_by (N := nLaw) (sc := defScope s_law) (by decide +kernel))
        (fun _ _ _ _ _ => pg_name (i := 8) sc_law.nd rfl (.inl rfl)) (fun _ _ _ _ _ => pts_nil) (fun _ _ _ _ _ => pe_tup (pa_cons (pe_ix (r := rIxT K) ix_tup (pv 8) pe_int (fun _ _ => rfl)) (pa_cons (pe_tupK rfl (by rfl) B.tuple (pe_ix (r := rIxT K) ix_tup (pv 8) pe_int (fun _ _ => rfl))) pa_nil))))
      (pss_cons (ps_if (pt_cmpR op_ne (pe_cmpR (VQ.op_eqO (E := L2.E0) GZ CD.ES.eq CD.ES.fn CD.bG pass0 r3) (pv 14) (pv 13) (nomark _)) (pe_cmpR (op_eqD (hu64 r1)) (pv 15) (pe_revL (pv 15)) (nomark _)) (nomark _)) (pss_one (ps_ret pe_bl)) pss_nil)
      (pss_one (ps_ret (pe_and (pe_not (pe_cmpR (VQ.op_eqO (E := L2.E0) GZ CD.ES.eq CD.ES.fn CD.bG pass0 r3) (pv 11) (pe_ix (r := rIxL K) ix_list (pv 9) pe_int (fun _ _ => rfl)) (nomark _)))
        (pe_and (pe_not (pe_cmpR (VQ.op_eqO (E := L2.E0) GZ CD.ES.eq CD.ES.fn CD.bG pass0 r3) (pv 11) (pe_tupleOf (by rfl) B.tuple (pv 9)) (nomark _)))
        (pe_one (pe_not (pe_cmpR (VQ.op_eqO (E := L2.E0) GZ CD.ES.eq CD.ES.fn CD.bG pass0 r3) (pv 11) pe_non (nomark _))))))))))))))))))))))))))))), ?_⟩
    -- pair
    refine ⟨_, rfl, a, ns, 4, 4, 3, 5, rfl, hS, by decide, by decide, by decide, by decide, by decide, by decide, by decide, by decide, fun t0 lr0 lc0 us0 rs0 cs0 zs H1 nt0 nlr0 ht0 hlr0 hrs0 hok0 n10 n40 hzs lz hlc0 pw0 rg0 s1 => ?_⟩
    refine ⟨_, rfl, t0, _, _, .ref lr0, rfl, rfl, .inl (.inl ht0), atI_nat (j := 0) rfl, ?_⟩
    have hT1 := tabL_same s1 hT
    -- the pool
    refine ⟨_, rfl, a, ns, 5, rfl, s1.seq hS, fun z => ⟨z, rfl, fun p x y zz np => ?_⟩⟩
    have b2 : Base0 H1 p (upd H1 p (.lst [.int x, .int y, .int zz])) := ⟨same_new np, np, ⟨x, y, zz, upd_same⟩⟩
    have nlr0p : lr0 ≠ p := ne_of_none hlr0 np
    generalize upd H1 p (.lst [.int x, .int y, .int zz]) = H2 at b2 ⊢
    -- three and the first again
    refine ⟨fun σ H' => ∃ (lr : Addr) (us : List V) (rs : List (Int × List Stp)), σ = [some (.ref a), some (.ref t0), some (.ref lr), some (.ref p), none, none, none, none, none, none, none, none, none, none, none, none] ∧ LstAt H' lr p us ∧ RowsAt K H1 us rs ∧ (∀ r ∈ rs, RowOk 3 5 zs r) ∧ 1 ≤ rs.length ∧ rs.length ≤ 4 ∧ Base0 H1 p H', ?_, ?_⟩
    · refine ⟨_, rfl, p, 4, rfl, b2.pool, by decide, by decide, fun d x y z _ _ => ?_⟩
      have b3 := b2.draw x y z
      have h3 : LstAt (upd H2 p (.lst [.int x, .int y, .int z])) lr0 p us0 := ⟨by rw [upd_ne nlr0p]; exact b2.s _ _ hlr0, nlr0p⟩
      generalize upd H2 p (.lst [.int x, .int y, .int z]) = H3 at b3 h3 ⊢
      refine ⟨rfl, _, rfl, ite2 (fun e => ?_) (fun e => ?_)⟩
      · have lu0 : us0.length = rs0.length := hrs0.length
        obtain ⟨r0, er0⟩ : ∃ r0, rs0[0]? = some r0 := ⟨rs0[0], List.getElem?_eq_getElem (by omega)⟩
        obtain ⟨u0, eu0, f0⟩ := paired_to hrs0 er0
        refine ⟨_, rfl, 3, rfl, lr0, us0, rfl, .inl (.inl h3.at_), fun l1 nl1 => ?_⟩
        have k4 : Same H3 (upd H3 l1 (.lst (cutV us0 none (some 3)))) := same_new nl1
        have hl14 : (upd H3 l1 (.lst (cutV us0 none (some 3)))) l1 = some (.lst (us0.take 3)) := by rw [upd_same, cut3]
        generalize upd H3 l1 (.lst (cutV us0 none (some 3))) = H4 at k4 hl14 ⊢
        refine ⟨_, rfl, lr0, _, _, u0, rfl, rfl, .inl (.inl (k4 _ _ h3.at_)), atI_nat (j := 0) eu0, by show 1 ≤ sizeLine; decide, fun l2 nl2 => ?_⟩
        have k5 : Same H4 (upd H4 l2 (.lst [u0])) := same_new nl2
        have hl25 : (upd H4 l2 (.lst [u0])) l2 = some (.lst [u0]) := upd_same
        have hl15 := k5 _ _ hl14
        generalize upd H4 l2 (.lst [u0]) = H5 at k5 hl25 hl15 ⊢
        refine ⟨l1, l2, _, _, rfl, rfl, hl15, hl25, Nat.le_of_lt (small1000 (by rw [List.length_take]; show min 3 us0.length + 1 ≤ 1000; omega)), fun l3 nl3 => ?_⟩
        have b6 : Base0 H1 p (upd H5 l3 (.lst (us0.take 3 ++ [u0]))) := ((b3.same k4).same k5).same (same_new nl3)
        have nl3p : l3 ≠ p := fun z => by
          obtain ⟨_, _, _, e⟩ := ((b3.same k4).same k5).pool
          rw [z, e] at nl3
          cases nl3
        refine ⟨l3, us0.take 3 ++ [u0], rs0.take 3 ++ [r0], rfl, ⟨upd_same, nl3p⟩, paired_snoc (paired_take 3 hrs0) f0, fun r hr => ?_, by simp, by rw [List.length_append, List.length_take]; show min 3 rs0.length + 1 ≤ 4; omega, b6⟩
        rcases List.mem_append.mp hr with h | h
        · exact hok0 r (List.mem_of_mem_take h)
        · rw [List.mem_singleton.mp h]
          exact hok0 r0 (List.mem_of_getElem? er0)
      · exact ⟨lr0, us0, rs0, rfl, h3, hrs0, hok0, n10, n40, b3⟩
    clear hlr0 hrs0 hok0 n10 n40 b2
    rintro σ H3 ⟨lr, us, rs, rfl, hlr3, hrs1, hok, n1, n4, b3⟩
    have lu : us.length = rs.length := hrs1.length
    -- everyone
    refine ⟨_, rfl, lr, _, rfl, .inl (.inl (.inl hlr3.at_)), _, rfl, RgOk.of_le (by omega) (by omega) (by omega) (by omega), fun le nle => ?_⟩
    obtain ⟨es, ees⟩ : ∃ es : List Int, es = (List.range us.length).map fun (i : Nat) => (i : Int) := ⟨_, rfl⟩
    have e1 : (rgV 0 (us.length : Nat)) = es.map V.int := by rw [ees, rgV_map]
    rw [e1]
    have nlep : le ≠ p := fun z => by
      obtain ⟨_, _, _, e⟩ := b3.pool
      rw [z, e] at nle
      cases nle
    have k4 : Same H3 (upd H3 le (.lst (es.map V.int))) := same_new nle
    have b4 := b3.same k4
    have hlr4 := hlr3.same k4
    have hle4 : LstAt (upd H3 le (.lst (es.map V.int))) le p (es.map V.int) := ⟨upd_same, nlep⟩
    generalize upd H3 le (.lst (es.map V.int)) = H4 at b4 hlr4 hle4 ⊢
    have les : es.length = us.length := by rw [ees, List.length_map, List.length_range]
    have eat : ∀ {i : Nat}, i < us.length → es[i]? = some (i : Int) := fun {i} h => by
      rw [ees, List.getElem?_map, List.getElem?_range h]
      rfl
    have pwe : es.Pairwise (· < ·) := by
      rw [ees, List.pairwise_map]
      exact List.pairwise_lt_range.imp fun h => by omega
    have mem_e : ∀ x, x ∈ es ↔ 0 ≤ x ∧ x < (us.length : Nat) := fun x => by
      rw [ees, List.mem_map]
      constructor
      · rintro ⟨i, hi, rfl⟩
        have := List.mem_range.mp hi
        omega
      · intro h
        exact ⟨x.toNat, List.mem_range.mpr (by omega), by omega⟩
    -- chosen
    refine ⟨_, rfl, le, rfl, ⟨_, .inl (.inl hle4.at_)⟩, fun D0 nD => ?_⟩
    have nDp : D0 ≠ p := fun z => by
      obtain ⟨_, _, _, e⟩ := b4.pool
      rw [z, e] at nD
      cases nD
    refine lc_list (K := K) (xs := es.map V.int) (fun i H' => ∃ cs : List Int, H' D0 = some (.lst (cs.map V.int)) ∧ cs.length ≤ i ∧ cs.Pairwise (· < ·) ∧ (∀ x ∈ cs, 0 ≤ x ∧ x < (i : Int)) ∧ PoolAt H' p ∧ SameX p H4 H') ⟨[], upd_same, Nat.le_refl _, .nil, (fun x h => by cases h), (let ⟨x, y, z, e⟩ := b4.pool; ⟨x, y, z, by rw [upd_ne nDp.symm]; exact e⟩), SameX.of (same_new nD)⟩
      (fun i H' _ ⟨_, _, _, _, _, _, k⟩ => .inl (.inl (k _ _ nlep hle4.at_))) ?_ ?_
    · rintro i v H' hv ⟨cs, hD, lc, pw, rg, pool', k'⟩
      have hi : i < us.length := by
        have := (List.getElem?_eq_some_iff.mp hv).1
        rw [List.length_map] at this
        omega
      have ev : v = .int (i : Int) := by
        rw [List.getElem?_map, eat hi] at hv
        exact (Option.some.inj hv).symm
      subst ev
      refine ⟨rfl, _, rfl, p, 2, rfl, pool', by decide, by decide, fun d x y z _ _ => ?_⟩
      have hD' : (upd H' p (.lst [.int x, .int y, .int z])) D0 = some (.lst (cs.map V.int)) := by rw [upd_ne nDp]; exact hD
      have k2 := k'.trans (SameX.at (o := .lst [.int x, .int y, .int z]))
      refine ⟨rfl, _, rfl, ite2 (fun e => ?_) (fun e => ?_)⟩
      · refine ⟨_, rfl, _, hD', small1000 (by rw [List.length_map]; omega), cs ++ [(i : Int)], by rw [upd_same, List.map_append]; rfl, by rw [List.length_append]; show cs.length + 1 ≤ _; omega, ?_, fun x hx => ?_, ⟨x, y, z, by rw [upd_ne nDp.symm, upd_same]⟩, fun b o hb e => ?_⟩
        · refine List.pairwise_append.mpr ⟨pw, List.pairwise_singleton _ _, fun x hx y hy => ?_⟩
          rw [List.mem_singleton.mp hy]
          have := rg x hx
          omega
        · rcases List.mem_append.mp hx with h | h
          · have := rg x h
            omega
          · rw [List.mem_singleton.mp h]
            omega
        · rw [upd_ne (ne_of_none e nD)]
          exact k2 b o hb e
      · exact ⟨cs, hD', by omega, pw, fun x hx => by have := rg x hx; omega, ⟨x, y, z, upd_same⟩, k2⟩
    rintro H5 ⟨cs, hlc5, lcs, pwc, rgc, pool5, k5⟩
    rw [List.length_map, les] at lcs rgc
    have b5 := b4.sx k5 pool5
    have hlr5 := hlr4.sx k5
    have hle5 := hle4.sx k5
    have hlc5 : LstAt H5 D0 p (cs.map V.int) := ⟨hlc5, nDp⟩
    -- turned
    refine ⟨_, rfl, D0, _, rfl, .inl (.inl (.inl hlc5.at_)), fun lt nlt => ?_⟩
    have nltp : lt ≠ p := fun z => by
      obtain ⟨_, _, _, e⟩ := b5.pool
      rw [z, e] at nlt
      cases nlt
    have nltr : lr ≠ lt := ne_of_none hlr5.at_ nlt
    have nlte : le ≠ lt := ne_of_none hle5.at_ nlt
    have nltc : D0 ≠ lt := ne_of_none hlc5.at_ nlt
    have flt : H1 lt = none := b5.s.free nlt
    have k6 : Same H5 (upd H5 lt (.lst (cs.map V.int))) := same_new nlt
    have b6 := b5.same k6
    have hlr6 := hlr5.same k6
    have hle6 := hle5.same k6
    have hlc6 := hlc5.same k6
    have hlt6 : LstAt (upd H5 lt (.lst (cs.map V.int))) lt p (cs.map V.int) := ⟨upd_same, nltp⟩
    generalize upd H5 lt (.lst (cs.map V.int)) = H6 at b6 hlr6 hle6 hlc6 hlt6 ⊢
    refine ⟨fun σ H' => ∃ ts : List Int, σ = [some (.ref a), some (.ref t0), some (.ref lr), some (.ref p), some (.ref le), none, some (.ref D0), some (.ref lt), none, none, none, none, none, none, none, none] ∧ LstAt H' lr p us ∧ LstAt H' le p (es.map V.int) ∧ LstAt H' D0 p (cs.map V.int) ∧ LstAt H' lt p (ts.map V.int) ∧ ts.Perm cs ∧ Base0 H1 p H', ?_, ?_⟩
    · refine ⟨_, rfl, D0, _, rfl, .inl (.inl (.inl hlc6.at_)), _, _, rfl, rfl, _, rfl, ite2 (fun e => ?_) (fun e => ?_)⟩
      · have l2 : 1 < cs.length := by
          have z : (1 : Int) < (((cs.map V.int).length : Nat) : Int) := of_decide_eq_true e
          rw [List.length_map] at z
          omega
        refine ⟨_, rfl, p, 2, rfl, b6.pool, by decide, by decide, fun d x y z _ _ => ?_⟩
        have b7 := b6.draw x y z
        have hlr7 := hlr6.draw (.lst [.int x, .int y, .int z])
        have hle7 := hle6.draw (.lst [.int x, .int y, .int z])
        have hlc7 := hlc6.draw (.lst [.int x, .int y, .int z])
        have hlt7 := hlt6.draw (.lst [.int x, .int y, .int z])
        generalize upd H6 p (.lst [.int x, .int y, .int z]) = H7 at b7 hlr7 hle7 hlc7 hlt7 ⊢
        refine ⟨rfl, _, rfl, ite2 (fun e2 => ?_) (fun e2 => ?_)⟩
        · refine ⟨_, rfl, .inl ⟨rfl, _, .inl (.inl hlt7.at_)⟩, _, rfl, _, rfl, D0, _, rfl, .inl (.inl (.inl hlc7.at_)), p, _, rfl, b7.pool, by rw [List.length_map]; omega, by rw [List.length_map]; omega, fun d2 x y z d20 d21 => ?_⟩
          rw [List.length_map] at d21
          have b8 := b7.draw x y z
          have hlr8 := hlr7.draw (.lst [.int x, .int y, .int z])
          have hle8 := hle7.draw (.lst [.int x, .int y, .int z])
          have hlc8 := hlc7.draw (.lst [.int x, .int y, .int z])
          have hlt8 := hlt7.draw (.lst [.int x, .int y, .int z])
          generalize upd H7 p (.lst [.int x, .int y, .int z]) = H8 at b8 hlr8 hle8 hlc8 hlt8 ⊢
          obtain ⟨y0, ey0⟩ : ∃ y0, cs[cs.length - 1]? = some y0 := ⟨cs[cs.length - 1], List.getElem?_eq_getElem (by omega)⟩
          refine ⟨_, rfl, .inl ⟨rfl, _, .inl (.inl hlt8.at_)⟩, lt, _, .int y0, rfl, rfl, hlt8.at_, by rw [List.length_map, List.getElem?_map, ey0]; rfl, ?_⟩
          have dl : (cs.map V.int).dropLast = cs.dropLast.map V.int := List.map_dropLast.symm
          rw [dl]
          have put : ∀ (H : Hp) (ys : List Int), Base0 H1 p H → LstAt H lr p us → LstAt H le p (es.map V.int) → LstAt H D0 p (cs.map V.int) → Base0 H1 p (upd H lt (.lst (ys.map V.int))) ∧ LstAt (upd H lt (.lst (ys.map V.int))) lr p us ∧ LstAt (upd H lt (.lst (ys.map V.int))) le p (es.map V.int) ∧ LstAt (upd H lt (.lst (ys.map V.int))) D0 p (cs.map V.int) := fun H ys hb h1 h2 h3 =>
            ⟨⟨fun b o e => by rw [upd_ne (ne_of_none e flt)]; exact hb.s b o e, hb.np, (let ⟨x, y, z, e⟩ := hb.pool; ⟨x, y, z, by rw [upd_ne nltp.symm]; exact e⟩)⟩, ⟨by rw [upd_ne nltr]; exact h1.at_, h1.ne⟩, ⟨by rw [upd_ne nlte]; exact h2.at_, h2.ne⟩, ⟨by rw [upd_ne nltc]; exact h3.at_, h3.ne⟩⟩
          obtain ⟨b9, hlr9, hle9, hlc9⟩ := put H8 cs.dropLast b8 hlr8 hle8 hlc8
          have hlt9 : (upd H8 lt (.lst (cs.dropLast.map V.int))) lt = some (.lst (cs.dropLast.map V.int)) := upd_same
          generalize upd H8 lt (.lst (cs.dropLast.map V.int)) = H9 at b9 hlr9 hle9 hlc9 hlt9 ⊢
          refine ⟨lt, _, d2, .int y0, rfl, rfl, hlt9, small1000 (by rw [List.length_map, List.length_dropLast]; omega), d20, by omega, ?_⟩
          obtain ⟨b10, hlr10, hle10, hlc10⟩ := put H9 (cs.dropLast.take d2.toNat ++ [y0] ++ cs.dropLast.drop d2.toNat) b9 hlr9 hle9 hlc9
          have eo : (HO.lst ((cs.dropLast.map V.int).take d2.toNat ++ [V.int y0] ++ (cs.dropLast.map V.int).drop d2.toNat)) = .lst ((cs.dropLast.take d2.toNat ++ [y0] ++ cs.dropLast.drop d2.toNat).map V.int) := by
            rw [List.map_append, List.map_append, List.map_take, List.map_drop]
            rfl
          rw [eo]
          refine ⟨_, rfl, hlr10, hle10, hlc10, ⟨upd_same, nltp⟩, ?_, b10⟩
          have e3 : cs.dropLast.take d2.toNat ++ [y0] ++ cs.dropLast.drop d2.toNat = cs.dropLast.take d2.toNat ++ y0 :: cs.dropLast.drop d2.toNat := by simp
          rw [e3]
          have q1 := List.perm_middle (a := y0) (l₁ := cs.dropLast.take d2.toNat) (l₂ := cs.dropLast.drop d2.toNat)
          rw [List.take_append_drop] at q1
          refine q1.trans ?_
          have e4 : cs = cs.dropLast ++ [y0] := by
            have ne : cs ≠ [] := List.length_pos_iff.mp (by omega)
            have h := List.dropLast_concat_getLast ne
            have h2 : cs.getLast ne = y0 := by
              rw [List.getLast_eq_getElem]
              exact (List.getElem?_eq_some_iff.mp ey0).2
            rw [h2] at h
            exact h.symm
          conv => rhs; rw [e4]
          exact (List.perm_append_singleton y0 cs.dropLast).symm
        · exact ⟨cs, rfl, hlr7, hle7, hlc7, hlt7, List.Perm.refl _, b7⟩
      · exact ⟨cs, rfl, hlr6, hle6, hlc6, hlt6, List.Perm.refl _, b6⟩
    rintro σ H7 ⟨ts, rfl, hlr7, hle7, hlc7, hlt7, pts, b7⟩
    have hrs7 : RowsAt K H7 us rs := hrs1.ext (ext_same b7.s)
    have hT7 := tabL_same b7.s hT1
    have hlr7' := hlr7.at_
    have hle7' := hle7.at_
    have hlc7' := hlc7.at_
    have hlt7' := hlt7.at_
    have lz4 : zs.length ≤ 4 := lz
    clear b7 hlr7 hle7 hlc7 hlt7 b6 hlr6 hle6 hlc6 hlt6 b5 hlr5 hle5 hlc5 b4 hlr4 hle4 b3 hlr3 k6 k5 k4 pool5
    -- hands
    refine ⟨_, rfl, lr, rfl, ⟨_, .inl (.inl hlr7')⟩, fun lh nlh => ?_⟩
    refine lc_list (K := K) (xs := us) (fun i H' => ∃ xs : List (Addr × List Str), H' lh = some (.lst ((xs.map (·.1)).map V.ref)) ∧ Paired (HandR K C H') xs (rs.take i) ∧ (xs.map (·.1)).Nodup ∧ TabL T H' ∧ LamX.ExtN H7 H')
      ⟨[], upd_same, (by rw [List.take_zero]; exact .nil), List.nodup_nil, tabL_same (same_new nlh) hT7, ext_same (same_new nlh)⟩ (fun i H' _ ⟨_, _, _, _, _, k⟩ => .inl (.inl (k _ _ hlr7' (fun ps z => nomatch z)))) ?_ ?_
    · rintro i v H8 hv ⟨xs, hlh8, hx8, nd8, T8, k8⟩
      obtain ⟨r, er, t, rfl, lb, ub, etb, elb, esb⟩ := paired_at (hrs7.ext k8) hv
      have hi : i < rs.length := (List.getElem?_eq_some_iff.mp er).1
      obtain ⟨G, b0, b1, hw, ⟨U, hU, lU⟩, hn⟩ := (hok r (List.mem_of_getElem? er)).all (by decide) (by decide) hzs
      refine ⟨rfl, _, rfl, t, _, _, .int r.1, rfl, rfl, .inl (.inl etb), atI_nat (j := 0) rfl, _, rfl, t, _, _, .ref lb, rfl, rfl, .inl (.inl etb), atI_nat (j := 1) rfl, lb, ub, rfl, .inl (.inl (.inl elb)), fun h nh => ?_⟩
      have m9 : Same H8 (upd H8 h (.lst ub)) := same_new nh
      have hh9 : (upd H8 h (.lst ub)) h = some (.lst ub) := upd_same
      have es9 := esb.same m9
      have T9 := tabL_same m9 T8
      generalize upd H8 h (.lst ub) = H9 at m9 hh9 es9 T9 ⊢
      refine fun q0 dx nx ndx ned => ?_
      have m10 : Same H9 (upd (upd H9 dx (.own q0)) q0 (.ins C dx [])) := (same_new ndx).trans (same_new (by rw [upd_ne ned.symm]; exact nx))
      have hq10 : (upd (upd H9 dx (.own q0)) q0 (.ins C dx [])) q0 = some (.ins C dx []) := upd_same
      refine ⟨q0, dx, h, r.1, ub, r.2, U, zs, rfl, hq10, tabL_same m10 T9, .inl (.inl (.inl (m10 _ _ hh9))), es9.same m10, G, b0, b1, hw, by omega, hU, lU, fun wl nl H11 HA HO kept tab => ⟨rfl, ?_⟩⟩
      have k811 : LamX.ExtN H8 H11 := extN_kept (ext_same (m9.trans m10)) (m9.free nx) kept
      have A11 : HandS K C H11 q0 r.1 r.2 := HA.hs (kept_steps hq10 (fun u z => nomatch z) kept (es9.same m10)) hn
      have W11 : HandW K C H11 (.ref q0) (r.1, wl) := HA.hw
      have l8 : wl.length ≤ 8 := Nat.le_trans (nd_lenS HO.wn fun z hz => by
        obtain ⟨s, hs, e⟩ := (HO.wm z).mp hz
        exact e ▸ hw s hs) (by omega)
      have hx11 := handsR_ext k811 hx8
      have hlh11 := k811 _ _ hlh8 (fun ps z => nomatch z)
      have lx : xs.length = (rs.take i).length := hx8.length
      have nq : q0 ∉ xs.map (·.1) := fun hq => by
        obtain ⟨x, hx, e⟩ := List.mem_map.mp hq
        obtain ⟨j, hj⟩ := List.mem_iff_getElem?.mp hx
        obtain ⟨_, _, hr⟩ := paired_at hx8 hj
        obtain ⟨d, f, e2⟩ := hr.s.ins
        have := m9 _ _ e2
        rw [e, nx] at this
        cases this
      refine ⟨_, hlh11, small1000 (by rw [List.length_map, List.length_map, lx, List.length_take]; omega), xs ++ [(q0, wl)], by rw [upd_same, List.map_append, List.map_append]; rfl, ?_, ?_, tabL_lst hlh11 SameX.at tab, extN_new (extN_trans k8 k811) nlh⟩
      · rw [List.take_add_one, er]
        exact paired_snoc (Paired.mapP hx11 fun _ _ h => h.sxL hlh11 SameX.at) (HandR.sxL hlh11 SameX.at ⟨A11, W11, HO.wm, l8⟩)
      · rw [List.map_append]
        exact List.nodup_append.mpr ⟨nd8, List.nodup_cons.mpr ⟨(fun z => by cases z), List.nodup_nil⟩, fun x hx y hy e => nq (by
          have hy' : y = q0 := List.mem_singleton.mp hy
          rw [← hy', ← e]
          exact hx)⟩
    rintro H8 ⟨xs, hlh8, hx8, nd8, _, k8⟩
    rw [lu, List.take_length] at hx8
    obtain ⟨qs, eqs⟩ : ∃ qs, qs = xs.map (·.1) := ⟨_, rfl⟩
    rw [← eqs] at hlh8 nd8
    have lq : qs.length = rs.length := by
      rw [eqs, List.length_map]
      exact hx8.length
    have hq8 : Paired (fun q r => HandS K C H8 q r.1 r.2) qs rs := eqs ▸ handsR_s hx8
    obtain ⟨hs, hw8, hs1, hs8, hsz⟩ := handsR_w hx8
    rw [← eqs] at hw8
    have hlr8 := k8 _ _ hlr7' (fun ps z => nomatch z)
    have hle8 := k8 _ _ hle7' (fun ps z => nomatch z)
    have hlc8 := k8 _ _ hlc7' (fun ps z => nomatch z)
    have hlt8 := k8 _ _ hlt7' (fun ps z => nomatch z)
    have hrs8 := hrs7.ext k8
    have hn8 : ∀ r ∈ rs, ∀ s ∈ r.2, NameOk s.w := fun r hr => ((hok r hr).all (by decide) (by decide) hzs).2.2.2.2.2
    have hzw : ∀ h ∈ hs, h.2.length ≤ 8 ∧ ∀ z ∈ h.2, z ∈ zs := fun h hh => ⟨hs8 h hh, fun z hz => by
      obtain ⟨r, hr, s, hs2, e⟩ := (hsz z).mp ⟨h, hh, hz⟩
      exact e ▸ ((hok r hr).all (by decide) (by decide) hzs).2.2.2.1 s hs2⟩
    have rl8 : ∀ r ∈ rs, r.2.length ≤ 8 := fun r hr => Nat.le_trans (hok r hr).len (by decide)
    have lqv : (qs.map V.ref).length = rs.length := by rw [List.length_map, lq]
    clear hx8 hT7 hrs7 hlr7' hle7' hlc7' hlt7' k8 hrs1
    -- given = [list(hands), list(turned)]
    refine ⟨_, rfl, lh, _, rfl, .inl (.inl (.inl hlh8)), fun g0 ng0 => ?_⟩
    have m9 : Same H8 (upd H8 g0 (.lst (qs.map V.ref))) := same_new ng0
    have hg09 : (upd H8 g0 (.lst (qs.map V.ref))) g0 = some (.lst (qs.map V.ref)) := upd_same
    generalize upd H8 g0 (.lst (qs.map V.ref)) = H9 at m9 hg09 ⊢
    refine ⟨_, rfl, lt, _, rfl, .inl (.inl (.inl (m9 _ _ hlt8))), fun g1 ng1 => ⟨by show 2 ≤ sizeLine; decide, fun gv ngv => ?_⟩⟩
    have ng18 : H8 g1 = none := m9.free ng1
    have n01 : g0 ≠ g1 := ne_of_none hg09 ng1
    have m10 : Same H9 (upd (upd H9 g1 (.lst (ts.map V.int))) gv (.lst [.ref g0, .ref g1])) := (same_new ng1).trans (same_new ngv)
    have hgv10 : (upd (upd H9 g1 (.lst (ts.map V.int))) gv (.lst [.ref g0, .ref g1])) gv = some (.lst [.ref g0, .ref g1]) := upd_same
    have hg110 : (upd (upd H9 g1 (.lst (ts.map V.int))) gv (.lst [.ref g0, .ref g1])) g1 = some (.lst (ts.map V.int)) := same_new ngv _ _ upd_same
    have hg010 := m10 _ _ hg09
    have k10 : LamX.ExtN H8 (upd (upd H9 g1 (.lst (ts.map V.int))) gv (.lst [.ref g0, .ref g1])) := ext_same (m9.trans m10)
    have ngv0 : gv ≠ g0 := fun z => by
      have := (same_new (o := .lst (ts.map V.int)) ng1) _ _ hg09
      rw [← z, ngv] at this
      cases this
    have ngv1 : gv ≠ g1 := fun z => by
      rw [z, upd_same] at ngv
      cases ngv
    generalize upd (upd H9 g1 (.lst (ts.map V.int))) gv (.lst [.ref g0, .ref g1]) = H10 at m10 hgv10 hg110 hg010 k10 ⊢
    have tnd : ts.Nodup := pts.nodup_iff.mpr (pwc.imp fun h => by omega)
    have trg : ∀ x ∈ ts, 0 ≤ x ∧ x < ((qs.map V.ref).length : Nat) := fun x hx => by
      have := rgc x (pts.mem_iff.mp hx)
      rw [lqv]
      omega
    have wof : ∀ {wl : List Str}, sortedS wl = true → wl.Nodup → (∀ z, z ∈ wl ↔ ∃ h ∈ hs, z ∈ h.2) → WordsOf rs wl := fun {wl} w1 w2 w3 => ⟨w1, w2, fun z => (w3 z).trans (hsz z)⟩
    have dlc : ∀ {dl : List Int}, dl.Pairwise (· < ·) → (∀ x, x ∈ dl ↔ x ∈ ts) → dl = cs := fun {dl} h1 h2 => ints_one h1 pwc fun z => (h2 z).trans pts.mem_iff
    have dle : ∀ {dl : List Int}, dl.Pairwise (· < ·) → (∀ x, x ∈ dl ↔ 0 ≤ x ∧ x < ((qs.map V.ref).length : Nat)) → dl = es := fun {dl} h1 h2 => ints_one h1 pwe fun z => by
      rw [h2 z, mem_e z, lqv, lu]
    have ln1 : 1 ≤ (qs.map V.ref).length := by omega
    have ln4 : (qs.map V.ref).length ≤ 4 := by omega
    -- system = System(given[0], given[1])
    refine ⟨_, rfl, gv, _, _, .ref g0, rfl, rfl, .inl (.inl hgv10), atI_nat (j := 0) rfl, _, rfl, gv, _, _, .ref g1, rfl, rfl, .inl (.inl hgv10), atI_nat (j := 1) rfl, fun p1 dx1 nx1 ndx1 ned1 => ?_⟩
    have m11 : Same H10 (upd (upd H10 dx1 (.own p1)) p1 (.ins CS dx1 [])) := (same_new ndx1).trans (same_new (by rw [upd_ne ned1.symm]; exact nx1))
    have hp11 : (upd (upd H10 dx1 (.own p1)) p1 (.ins CS dx1 [])) p1 = some (.ins CS dx1 []) := upd_same
    refine ⟨p1, dx1, g0, .ref g1, qs.map V.ref, hs, fun x => x ∈ ts, zs, rfl, hp11, .inl (.inl (.inl (m11 _ _ hg010))), Paired.mapP hw8 fun _ _ h => h.ext (extN_trans k10 (ext_same m11)), ln1, ln4, .inr ⟨g1, ts, rfl, .inl (.inl (.inl (m11 _ _ hg110))), tnd, trg, fun _ => Iff.rfl⟩, hzw, by omega, fun dl wl H12 SA1 pd md w1 w2 w3 sx => ⟨rfl, ?_⟩⟩
    have edl := dlc pd md
    subst edl
    rw [hs1] at SA1
    have W1 := wof w1 w2 w3
    have x12 : SameX p1 H10 H12 := fun b o nb e => sx b o nb (m11 _ _ e)
    have k12 : LamX.ExtN H8 H12 := extN_kept k10 (by
      cases e : H8 p1 with
      | none => rfl
      | some o =>
        have := m9 _ _ e
        have := m10 _ _ this
        rw [nx1] at this
        cases this) (Kept.ofX x12)
    have hgv12 : H12 gv = some (.lst [.ref g0, .ref g1]) := x12 _ _ (ne_of_none hgv10 nx1) hgv10
    have hg012 : H12 g0 = some (.lst (qs.map V.ref)) := x12 _ _ (ne_of_none hg010 nx1) hg010
    have hg112 : H12 g1 = some (.lst (ts.map V.int)) := x12 _ _ (ne_of_none hg110 nx1) hg110
    have at8 : ∀ {H : Hp} {b : Addr} {ys : List V}, LamX.ExtN H8 H → H8 b = some (.lst ys) → H b = some (.lst ys) := fun {H b ys} k e => k _ _ e (fun ps z => nomatch z)
    clear sx x12 m11 hp11
    -- if len(given[0]) != len(hands) or given[1] != turned or not holds(..)
    refine ⟨_, rfl, gv, _, _, .ref g0, rfl, rfl, .inl (.inl hgv12), atI_nat (j := 0) rfl, g0, _, rfl, .inl (.inl (.inl hg012)), _, rfl, lh, _, rfl, .inl (.inl (.inl (at8 k12 hlh8))), rfl, _, rfl, ite2 (fun e => absurd e (by simp)) (fun e => ?_)⟩
    refine ⟨_, rfl, gv, _, _, .ref g1, rfl, rfl, .inl (.inl hgv12), atI_nat (j := 1) rfl, _, rfl, .list (ts.map PyData.int), .list (ts.map PyData.int), .lst (.inl (.inl hg112)) (dp_ints ts), .lst (.inl (.inl (at8 k12 hlt8))) (dp_ints ts), shaped_intsL _, shaped_intsL _, _, rfl, ?_⟩
    rw [eqv_lstI, decide_eq_true rfl]
    refine ⟨_, rfl, _, rfl, _, rfl, p1, lr, D0, qs, rs, us, dl, wl, rfl, SA1, Paired.mapP hq8 (fun _ _ h => h.ext k12), at8 k12 hlr8, hrs8.ext k12, n1, n4, rl8, at8 k12 hlc8, by omega, W1, fun H13 s13 => ⟨true, rfl, ?_⟩⟩
    have k13 := extN_trans k12 (ext_same s13)
    have SA13 := SA1.ext (ext_same s13)
    have hgv13 := s13 _ _ hgv12
    have hg013 := s13 _ _ hg012
    have hg113 := s13 _ _ hg112
    -- given[0].pop(), given[1].append(77)
    obtain ⟨y0, ey0⟩ : ∃ y0, (qs.map V.ref)[(qs.map V.ref).length - 1]? = some y0 := ⟨_, List.getElem?_eq_getElem (by omega)⟩
    refine ⟨_, rfl, gv, _, _, .ref g0, rfl, rfl, .inl (.inl hgv13), atI_nat (j := 0) rfl, .inl ⟨rfl, _, .inl (.inl hg013)⟩, g0, _, y0, rfl, rfl, hg013, ey0, ?_⟩
    have k14 : LamX.ExtN H8 (upd H13 g0 (.lst (qs.map V.ref).dropLast)) := extN_new k13 ng0
    have SA14 := SA13.sxL hg013 (SameX.at (o := .lst (qs.map V.ref).dropLast))
    have hgv14 : (upd H13 g0 (.lst (qs.map V.ref).dropLast)) gv = some (.lst [.ref g0, .ref g1]) := by rw [upd_ne ngv0]; exact hgv13
    have hg114 : (upd H13 g0 (.lst (qs.map V.ref).dropLast)) g1 = some (.lst (ts.map V.int)) := by rw [upd_ne n01.symm]; exact hg113
    generalize upd H13 g0 (.lst (qs.map V.ref).dropLast) = H14 at k14 SA14 hgv14 hg114 ⊢
    have lts : ts.length ≤ 4 := by
      have := pts.length_eq
      omega
    refine ⟨_, rfl, gv, _, _, .ref g1, rfl, rfl, .inl (.inl hgv14), atI_nat (j := 1) rfl, .inl ⟨rfl, _, .inl (.inl hg114)⟩, g1, _, _, rfl, rfl, hg114, small1000 (by rw [List.length_map]; omega), ?_⟩
    have k15 : LamX.ExtN H8 (upd H14 g1 (.lst (ts.map V.int ++ [.int 77]))) := extN_new k14 ng18
    have SA15 := SA14.sxL hg114 (SameX.at (o := .lst (ts.map V.int ++ [.int 77])))
    generalize upd H14 g1 (.lst (ts.map V.int ++ [.int 77])) = H15 at k15 SA15 ⊢
    -- plain = System(tuple(hands))
    refine ⟨_, rfl, .inl ⟨lh, _, rfl, .inl (.inl (at8 k15 hlh8)), fun tq2 ntq2 => ?_⟩⟩
    have m16 : Same H15 (upd H15 tq2 (.tup (qs.map V.ref))) := same_new ntq2
    have ht16 : (upd H15 tq2 (.tup (qs.map V.ref))) tq2 = some (.tup (qs.map V.ref)) := upd_same
    generalize upd H15 tq2 (.tup (qs.map V.ref)) = H16 at m16 ht16 ⊢
    refine fun p2 dx2 nx2 ndx2 ned2 => ?_
    have m17 : Same H16 (upd (upd H16 dx2 (.own p2)) p2 (.ins CS dx2 [])) := (same_new ndx2).trans (same_new (by rw [upd_ne ned2.symm]; exact nx2))
    have hp17 : (upd (upd H16 dx2 (.own p2)) p2 (.ins CS dx2 [])) p2 = some (.ins CS dx2 []) := upd_same
    refine ⟨p2, dx2, tq2, .non, qs.map V.ref, hs, fun x => 0 ≤ x ∧ x < ((qs.map V.ref).length : Nat), zs, rfl, hp17, .inr (.inl (.inl (m17 _ _ ht16))), Paired.mapP hw8 (fun _ _ h => h.ext (extN_trans k15 (ext_same (m16.trans m17)))), ln1, ln4, .inl ⟨rfl, fun _ => Iff.rfl⟩, hzw, by omega, fun dl2 wl2 H18 SA2 pd2 md2 w12 w22 w32 sx2 => ⟨rfl, ?_⟩⟩
    have edl2 := dle pd2 md2
    rw [edl2, hs1] at SA2
    have W2 := wof w12 w22 w32
    have e18 : LamX.ExtN H15 H18 := ext_make (m16.trans m17) (m16.free nx2) sx2
    have k18 := extN_trans k15 e18
    have SA118 := SA15.ext e18
    clear sx2 hp17 m17 m16
    -- named = System(hands, diligent=tuple(turned))
    refine ⟨_, rfl, _, rfl, .inl ⟨lt, _, rfl, .inl (.inl (at8 k18 hlt8)), fun tq3 ntq3 => ⟨rfl, rfl, fun p3 dx3 nx3 ndx3 ned3 => ?_⟩⟩⟩
    have m19 : Same H18 (upd H18 tq3 (.tup (ts.map V.int))) := same_new ntq3
    have ht19 : (upd H18 tq3 (.tup (ts.map V.int))) tq3 = some (.tup (ts.map V.int)) := upd_same
    generalize upd H18 tq3 (.tup (ts.map V.int)) = H19 at m19 ht19 nx3 ndx3 ⊢
    have m20 : Same H19 (upd (upd H19 dx3 (.own p3)) p3 (.ins CS dx3 [])) := (same_new ndx3).trans (same_new (by rw [upd_ne ned3.symm]; exact nx3))
    have hp20 : (upd (upd H19 dx3 (.own p3)) p3 (.ins CS dx3 [])) p3 = some (.ins CS dx3 []) := upd_same
    have k20 := extN_trans k18 (ext_same (m19.trans m20))
    refine ⟨p3, dx3, lh, .ref tq3, qs.map V.ref, hs, fun x => x ∈ ts, zs, rfl, hp20, .inl (.inl (.inl (at8 k20 hlh8))), Paired.mapP hw8 (fun _ _ h => h.ext k20), ln1, ln4, .inr ⟨tq3, ts, rfl, .inr (.inl (.inl (m20 _ _ ht19))), tnd, trg, fun _ => Iff.rfl⟩, hzw, by omega, fun dl3 wl3 H21 SA3 pd3 md3 w13 w23 w33 sx3 => ⟨rfl, ?_⟩⟩
    have edl3 := dlc pd3 md3
    rw [edl3, hs1] at SA3
    have W3 := wof w13 w23 w33
    have e21 : LamX.ExtN H18 H21 := ext_make (m19.trans m20) (m19.free nx3) sx3
    have k21 := extN_trans k18 e21
    have SA121 := SA118.ext e21
    have SA221 := SA2.ext e21
    clear sx3 hp20 m20 m19 k20
    -- holds(plain, ..), holds(System(hands, None), ..)
    have lle : es.length ≤ 100 := by omega
    refine ⟨_, rfl, _, rfl, _, rfl, p2, lr, le, qs, rs, us, es, wl2, rfl, SA221, Paired.mapP hq8 (fun _ _ h => h.ext k21), at8 k21 hlr8, hrs8.ext k21, n1, n4, rl8, at8 k21 hle8, lle, W2, fun H22 s22 => ⟨true, rfl, ?_⟩⟩
    have k22 := extN_trans k21 (ext_same s22)
    refine ⟨_, rfl, fun p4 dx4 nx4 ndx4 ned4 => ?_⟩
    have m23 : Same H22 (upd (upd H22 dx4 (.own p4)) p4 (.ins CS dx4 [])) := (same_new ndx4).trans (same_new (by rw [upd_ne ned4.symm]; exact nx4))
    have hp23 : (upd (upd H22 dx4 (.own p4)) p4 (.ins CS dx4 [])) p4 = some (.ins CS dx4 []) := upd_same
    have k23 := extN_trans k22 (ext_same m23)
    refine ⟨p4, dx4, lh, .non, qs.map V.ref, hs, fun x => 0 ≤ x ∧ x < ((qs.map V.ref).length : Nat), zs, rfl, hp23, .inl (.inl (.inl (at8 k23 hlh8))), Paired.mapP hw8 (fun _ _ h => h.ext k23), ln1, ln4, .inl ⟨rfl, fun _ => Iff.rfl⟩, hzw, by omega, fun dl4 wl4 H24 SA4 pd4 md4 w14 w24 w34 sx4 => ⟨rfl, ?_⟩⟩
    have edl4 := dle pd4 md4
    rw [edl4, hs1] at SA4
    have W4 := wof w14 w24 w34
    have e24 : LamX.ExtN H22 H24 := ext_make m23 nx4 sx4
    have k24 := extN_trans k22 e24
    have e2124 := extN_trans (ext_same s22) e24
    have SA124 := SA121.ext e2124
    have SA224 := SA221.ext e2124
    have SA324 := SA3.ext e2124
    clear sx4 hp23 m23 k23
    refine ⟨_, rfl, _, rfl, p4, lr, le, qs, rs, us, es, wl4, rfl, SA4, Paired.mapP hq8 (fun _ _ h => h.ext k24), at8 k24 hlr8, hrs8.ext k24, n1, n4, rl8, at8 k24 hle8, lle, W4, fun H25 s25 => ⟨true, rfl, ?_⟩⟩
    have k25 := extN_trans k24 (ext_same s25)
    have ldl : dl.length ≤ 100 := by omega
    -- holds(named, ..), holds(system, ..)
    refine ⟨_, rfl, _, rfl, _, rfl, p3, lr, D0, qs, rs, us, dl, wl3, rfl, SA324.ext (ext_same s25), Paired.mapP hq8 (fun _ _ h => h.ext k25), at8 k25 hlr8, hrs8.ext k25, n1, n4, rl8, at8 k25 hlc8, ldl, W3, fun H26 s26 => ⟨true, rfl, ?_⟩⟩
    have k26 := extN_trans k25 (ext_same s26)
    refine ⟨_, rfl, _, rfl, _, rfl, p1, lr, D0, qs, rs, us, dl, wl, rfl, SA124.ext (ext_same (s25.trans s26)), Paired.mapP hq8 (fun _ _ h => h.ext k26), at8 k26 hlr8, hrs8.ext k26, n1, n4, rl8, at8 k26 hlc8, ldl, W1, fun H27 s27 => ⟨true, rfl, ?_⟩⟩
    have k27 := extN_trans k26 (ext_same s27)
    have e2427 := ext_same ((s25.trans s26).trans s27)
    have S1 := SA124.ext e2427
    have S2 := SA224.ext e2427
    have S3 := SA324.ext e2427
    clear SA124 SA224 SA324 SA121 SA221 SA118 SA15 SA14 SA13 SA1 SA4
    obtain ⟨d1, _, _, _, _, i1, _⟩ := id S1.ob
    obtain ⟨d2, _, _, _, _, i2, _⟩ := id S2.ob
    obtain ⟨d3, _, _, _, _, i3, _⟩ := id S3.ob
    have HV : HandsV K C H27 (valOf qs rs) qs := handsV_of nd8 (Paired.mapP hq8 fun _ _ h => h.ext k27)
    have vm : qs.map (valOf qs rs) = rs := valOf_map nd8 lq
    -- system == named, system != named, (plain == system) != (chosen == everyone)
    refine ⟨_, rfl, _, rfl, p1, _, _, _, rfl, i1, CD.OS.ty i3, notFirst_self, p1, _, qs, dl, rfl, S1.q, .inl ⟨p3, qs, dl, valOf qs rs, rfl, S3.q, HV, HV, _, rfl, _, rfl, ite2 (fun e => absurd e (by simp)) (fun e => ?_)⟩⟩
    refine ⟨_, rfl, _, rfl, p1, _, _, _, rfl, i1, CD.OS.ty i3, notFirst_self, p1, _, qs, dl, rfl, S1.q, .inl ⟨p3, qs, dl, valOf qs rs, rfl, S3.q, HV, HV, _, rfl, _, rfl, ite2 (fun e => absurd e (by simp)) (fun e => ?_)⟩⟩
    refine ⟨_, rfl, _, rfl, p2, _, _, _, rfl, i2, CD.OS.ty i1, notFirst_self, p2, _, qs, es, rfl, S2.q, .inl ⟨p1, qs, dl, valOf qs rs, rfl, S1.q, HV, HV, _, rfl, ?_⟩⟩
    refine ⟨_, rfl, _, rfl, .list (dl.map PyData.int), .list (es.map PyData.int), .lst (.inl (.inl (at8 k27 hlc8))) (dp_ints dl), .lst (.inl (.inl (at8 k27 hle8))) (dp_ints es), shaped_intsL _, shaped_intsL _, rfl, _, rfl, ite2 (fun e => absurd e ?_) (fun e => ?_)⟩
    · rw [eqv_lstI]
      have : decide (List.map (valOf qs rs) qs = List.map (valOf qs rs) qs ∧ es = dl) = decide (dl = es) := by
        rw [Bool.eq_iff_iff]
        simp only [decide_eq_true_eq, true_and]
        exact eq_comm
      rw [this]
      simp
    -- other = System(hands[::-1], turned)
    refine ⟨_, rfl, lh, _, rfl, .inl (.inl (at8 k27 hlh8)), fun lv nlv => ?_⟩
    have er : (qs.map V.ref).reverse = qs.reverse.map V.ref := List.map_reverse.symm
    rw [er]
    have m28 : Same H27 (upd H27 lv (.lst (qs.reverse.map V.ref))) := same_new nlv
    have hlv28 : (upd H27 lv (.lst (qs.reverse.map V.ref))) lv = some (.lst (qs.reverse.map V.ref)) := upd_same
    generalize upd H27 lv (.lst (qs.reverse.map V.ref)) = H28 at m28 hlv28 nlv ⊢
    refine ⟨_, rfl, fun p5 dx5 nx5 ndx5 ned5 => ?_⟩
    have m29 : Same H28 (upd (upd H28 dx5 (.own p5)) p5 (.ins CS dx5 [])) := (same_new ndx5).trans (same_new (by rw [upd_ne ned5.symm]; exact nx5))
    have hp29 : (upd (upd H28 dx5 (.own p5)) p5 (.ins CS dx5 [])) p5 = some (.ins CS dx5 []) := upd_same
    have k29 := extN_trans k27 (ext_same (m28.trans m29))
    have hrv : HandsW K C H8 (qs.reverse.map V.ref) hs.reverse := er ▸ paired_rev hw8
    have lrv : (qs.reverse.map V.ref).length = (qs.map V.ref).length := by rw [List.length_map, List.length_map, List.length_reverse]
    refine ⟨p5, dx5, lv, .ref lt, qs.reverse.map V.ref, hs.reverse, fun x => x ∈ ts, zs, rfl, hp29, .inl (.inl (.inl (m29 _ _ hlv28))), Paired.mapP hrv (fun _ _ h => h.ext k29), by omega, by omega, .inr ⟨lt, ts, rfl, .inl (.inl (.inl (at8 k29 hlt8))), tnd, (fun x hx => lrv.symm ▸ trg x hx), fun _ => Iff.rfl⟩, (fun h hh => hzw h (List.mem_reverse.mp hh)), by omega, fun dl5 wl5 H30 SA5 pd5 md5 _ _ _ sx5 => ⟨rfl, ?_⟩⟩
    have edl5 := dlc pd5 md5
    rw [edl5] at SA5
    have e30 : LamX.ExtN H27 H30 := ext_make (m28.trans m29) (m28.free nx5) sx5
    have k30 := extN_trans k27 e30
    clear sx5 hp29 m29 k29
    -- back
    refine ⟨_, rfl, lr, rfl, ⟨_, .inl (.inl (at8 k30 hlr8))⟩, fun D1 nD1 => ?_⟩
    refine lc_list (K := K) (xs := us) (fun i H' => ∃ vs : List V, H' D1 = some (.lst vs) ∧ Paired (BackAt K H') vs (rs.take i) ∧ LamX.ExtN H30 H')
      ⟨[], upd_same, (by rw [List.take_zero]; exact .nil), ext_same (same_new nD1)⟩ (fun i H' _ ⟨_, _, _, k⟩ => .inl (.inl (k _ _ (at8 k30 hlr8) (fun ps z => nomatch z)))) ?_ ?_
    · rintro i v H31 hv ⟨vs, hD, hb, k31⟩
      obtain ⟨r, er2, t, rfl, lb, ub, etb, elb, esb⟩ := paired_at (hrs8.ext (extN_trans k30 k31)) hv
      have hi : i < rs.length := (List.getElem?_eq_some_iff.mp er2).1
      refine ⟨rfl, _, rfl, t, _, _, .int r.1, rfl, rfl, .inl (.inl etb), atI_nat (j := 0) rfl, _, rfl, t, _, _, .ref lb, rfl, rfl, .inl (.inl etb), atI_nat (j := 1) rfl, .inl ⟨lb, ub, rfl, .inl (.inl elb), fun tb ntb => ⟨by show 2 ≤ sizeLine; decide, fun tt ntt => ?_⟩⟩⟩
      have m32 : Same H31 (upd (upd H31 tb (.tup ub)) tt (.tup [.int r.1, .ref tb])) := (same_new ntb).trans (same_new ntt)
      have htt : (upd (upd H31 tb (.tup ub)) tt (.tup [.int r.1, .ref tb])) tt = some (.tup [.int r.1, .ref tb]) := upd_same
      have htb : (upd (upd H31 tb (.tup ub)) tt (.tup [.int r.1, .ref tb])) tb = some (.tup ub) := same_new ntt _ _ upd_same
      have es32 := esb.same m32
      have hD32 := m32 _ _ hD
      have hb32 : Paired (BackAt K (upd (upd H31 tb (.tup ub)) tt (.tup [.int r.1, .ref tb]))) vs (rs.take i) := Paired.mapP hb fun _ _ h => h.ext (ext_same m32)
      have k32 := extN_trans k31 (ext_same m32)
      generalize upd (upd H31 tb (.tup ub)) tt (.tup [.int r.1, .ref tb]) = H32 at htt htb es32 hD32 hb32 k32 ⊢
      have lv2 : vs.length = (rs.take i).length := hb.length
      refine ⟨_, hD32, small1000 (by rw [lv2, List.length_take]; omega), vs ++ [.ref tt], upd_same, ?_, extN_new k32 nD1⟩
      rw [List.take_add_one, er2]
      exact paired_snoc (Paired.mapP hb32 fun _ _ h => h.sxL hD32 SameX.at) (BackAt.sxL hD32 SameX.at ⟨tt, tb, ub, rfl, htt, htb, es32⟩)
    rintro H31 ⟨vs, hD, hb, k31⟩
    rw [lu, List.take_length] at hb
    have S131 := S1.ext (extN_trans e30 k31)
    have S331 := S3.ext (extN_trans e30 k31)
    have S531 := SA5.ext k31
    have k831 := extN_trans k30 k31
    obtain ⟨d31, _, _, _, _, i31, _⟩ := id S331.ob
    obtain ⟨d51, _, _, _, _, i51, _⟩ := id S531.ob
    have HV31 : HandsV K C H31 (valOf qs rs) qs := handsV_of nd8 (Paired.mapP hq8 fun _ _ h => h.ext k831)
    have HVr : HandsV K C H31 (valOf qs rs) qs.reverse := fun x hx => HV31 x (List.mem_reverse.mp hx)
    -- (other == named) != (back == back[::-1])
    refine ⟨_, rfl, _, rfl, p5, _, _, _, rfl, i51, CD.OS.ty i31, notFirst_self, p5, _, qs.reverse, dl, rfl, S531.q, .inl ⟨p3, qs, dl, valOf qs rs, rfl, S331.q, HVr, HV31, _, rfl, ?_⟩⟩
    refine ⟨_, rfl, _, rfl, D1, _, rfl, .inl (.inl hD), fun D2 nD2 => ?_⟩
    have m33 : Same H31 (upd H31 D2 (.lst vs.reverse)) := same_new nD2
    have hD2 : (upd H31 D2 (.lst vs.reverse)) D2 = some (.lst vs.reverse) := upd_same
    have hb33 : Paired (BackAt K (upd H31 D2 (.lst vs.reverse))) vs rs := Paired.mapP hb fun _ _ h => h.ext (ext_same m33)
    have hD33 := m33 _ _ hD
    have k33 := extN_trans k831 (ext_same m33)
    have S133 := S131.ext (ext_same m33)
    generalize upd H31 D2 (.lst vs.reverse) = H33 at hD2 hb33 hD33 k33 S133 ⊢
    have hnr : ∀ r ∈ rs.reverse, ∀ s ∈ r.2, NameOk s.w := fun r hr => hn8 r (List.mem_reverse.mp hr)
    refine ⟨.list (rs.map rowD), .list (rs.reverse.map rowD), .lst (.inl (.inl hD33)) (backs_dp hb33), .lst (.inl (.inl hD2)) (backs_dp (paired_rev hb33)), shaped_rows hn8, shaped_rows hnr, rfl, _, rfl, ite2 (fun e => absurd e ?_) (fun e => ?_)⟩
    · rw [show PyData.eqv (.list (rs.map rowD)) (.list (rs.reverse.map rowD)) = PyData.eqvAll (rs.map rowD) (rs.reverse.map rowD) from rfl, eqv_rows]
      have : decide (List.map (valOf qs rs) qs.reverse = List.map (valOf qs rs) qs ∧ dl = dl) = decide (rs = rs.reverse) := by
        rw [Bool.eq_iff_iff, List.map_reverse, vm]
        simp only [decide_eq_true_eq, and_true]
        exact eq_comm
      rw [this]
      simp
    -- not system == hands[0] and not system == tuple(hands) and not system == None
    obtain ⟨d13, _, _, _, _, i13, _⟩ := id S133.ob
    obtain ⟨q0, eq0⟩ : ∃ q0, qs[0]? = some q0 := ⟨qs[0], List.getElem?_eq_getElem (by omega)⟩
    obtain ⟨r0, er0, hs0⟩ := paired_at hq8 eq0
    obtain ⟨dq, fq, iq⟩ := (hs0.ext k33).ins
    refine ⟨_, rfl, _, rfl, lh, _, _, .ref q0, rfl, rfl, .inl (.inl (at8 k33 hlh8)), atI_nat (j := 0) (by rw [List.getElem?_map, eq0]; rfl), p1, _, _, _, rfl, i13, CD.O.ty iq, CD.nHand.nf, p1, _, qs, dl, rfl, S133.q, .inr ⟨_, CD.O.ty iq, CD.nHand.kit, _, rfl, _, rfl, true, rfl, ?_⟩⟩
    refine ⟨_, rfl, _, rfl, .inl ⟨lh, _, rfl, .inl (.inl (at8 k33 hlh8)), fun tq9 ntq9 => ?_⟩⟩
    have m34 : Same H33 (upd H33 tq9 (.tup (qs.map V.ref))) := same_new ntq9
    have ht34 : (upd H33 tq9 (.tup (qs.map V.ref))) tq9 = some (.tup (qs.map V.ref)) := upd_same
    have S134 := S133.ext (ext_same m34)
    have i14 := m34 _ _ i13
    generalize upd H33 tq9 (.tup (qs.map V.ref)) = H34 at ht34 S134 i14 ⊢
    refine ⟨p1, _, _, _, rfl, i14, .base (.tup ht34), CD.nTup.nf, p1, _, qs, dl, rfl, S134.q, .inr ⟨_, .base (.tup ht34), CD.nTup.kit, _, rfl, _, rfl, true, rfl, ?_⟩⟩
    exact ⟨_, rfl, p1, _, _, _, rfl, i14, .base .non, CD.nNon.nf, p1, _, qs, dl, rfl, S134.q, .inr ⟨_, .base .non, CD.nNon.kit, _, rfl, _, rfl, q _⟩⟩
end
end KX
namespace KX
open PySem PySem.Spec PyProof.Rows L2
/-! ### the head: what it tells, by names -/
def dTop (x : Str) (st : Stmt) : He.DefD := ⟨(x, none), x, x, defArgs st, defBody st, defScope st, [], []⟩
def dMeth (c m q : Str) (st : Stmt) (dv : List He.Dv) : He.DefD := ⟨(c, some m), m, q, defArgs st, defBody st, defScope st, dv, []⟩
def fns : List He.DefD := [dMeth "Hand" "__init__" "Hand.__init__" s_Hand_init [], dMeth "Hand" "__eq__" "Hand.__eq__" s_Hand_eq [], dMeth "System" "__init__" "System.__init__" s_System_init [.non], dMeth "System" "__eq__" "System.__eq__" s_System_eq [], dTop "is_whole" s_is_whole, dTop "is_state" s_is_state, dTop "is_name" s_is_name, dTop "is_row" s_is_row, dTop "is_step" s_is_step, dTop "check_steps" s_check_steps, dTop "all_reached" s_all_reached, dTop "reached_states" s_reached_states, dTop "exits_of" s_exits_of, dTop "check_hands" s_check_hands, dTop "chosen_hands" s_chosen_hands, dTop "_law_cell" s_law_cell, dTop "_law_pool" s_law_pool, dTop "_law_draw" s_law_draw, dTop "_law_name" s_law_name, dTop "_law_names" s_law_names, dTop "_law_steps" s_law_steps, dTop "_law_hand" s_law_hand, dTop "_law_rows" s_law_rows, dTop "_law_same" s_law_same, dTop "_law_holds" s_law_holds, dTop "law" s_law]
def fas0 : List He.Fa := [.glo "Hand", .glo "System", .cls "Hand", .cls "System", .mkr "Hand", .mkr "System", .noat "Hand" "start", .noat "Hand" "steps", .noat "Hand" "words", .noat "Hand" "states", .noat "Hand" "exits", .noat "System" "hands", .noat "System" "diligent", .noat "System" "words", .noat "System" "start", .free "len", .free "int", .free "range", .free "isinstance", .free "tuple", .free "list", .free "set", .free "sorted", .free "all", .free "enumerate", .free "bool", .free "str", .free "dict", .int "MOST_LETTERS" 12, .int "LAST_STATE" 99, .int "MOST_STEPS" 24, .int "MOST_LEAVING" 4, .int "MOST_WORDS_hands" 8, .int "MOST_STATES" 8, .int "MOST_HANDS" 4, .int "MOST_WORDS_systems" 12, .glo "is_whole", .glo "is_state"]
def fas1 : List He.Fa := [.glo "is_name", .glo "is_row", .glo "is_step", .glo "check_steps", .glo "all_reached", .glo "reached_states", .glo "exits_of", .glo "check_hands", .glo "chosen_hands", .glo "_law_cell", .glo "_law_pool", .glo "_law_draw", .glo "_law_name", .glo "_law_names", .glo "_law_steps", .glo "_law_hand", .glo "_law_rows", .glo "_law_same", .glo "_law_holds", .glo "law"]
def fas : List He.Fa := fas0 ++ fas1
abbrev tfs : List He.Defn := [("reached_states", none)]
def ownB (K : PySem.W.Frag) (C : Addr) : Bool := He.eqO (PySem.W.findIn K (.ref C) "__class__") (some (some (.builtin "object.__class__"))) && (He.eqO (PySem.W.specialIn K (.builtin "object.__class__") "__get__") (some (some (.builtin "getset_descriptor.__get__"))) && (decide (PySem.W.takesIn K (.builtin "object.__class__") = some true) && decide (PySem.W.mroIn K C (.type "object") = some true)))
def eqB (K : PySem.W.Frag) (C f : Addr) : Bool := He.eqO (PySem.W.findIn K (.ref C) "__eq__") (some (some (.ref f))) && (PySem.W.isFn K (.ref f) && He.eqO (PySem.W.findIn K (.ref C) "__ne__") (some (some (.builtin "object.__ne__"))))
def notB (K : PySem.W.Frag) (C : Addr) (t : Value) : Bool := decide (PySem.W.kitOne K t (.ref C) = some false) && PySem.W.notFirst K C t
def exs (K : PySem.W.Frag) : Bool := ownB K (He.ga K "Hand") && (ownB K (He.ga K "System") && (eqB K (He.ga K "Hand") (He.fAd K ("Hand", some "__eq__")) && (eqB K (He.ga K "System") (He.fAd K ("System", some "__eq__")) && (notB K (He.ga K "System") (.ref (He.ga K "Hand")) && (notB K (He.ga K "System") (.type "tuple") && notB K (He.ga K "System") (.type "NoneType"))))))
theorem ownB_ok {K : PySem.W.Frag} {C : Addr} (cl : Cls K C) (h : ownB K C = true) : OwnK K C := by
  obtain ⟨h1, h⟩ := He.ba h
  obtain ⟨h2, h⟩ := He.ba h
  obtain ⟨h3, h4⟩ := He.ba h
  exact ⟨cl, He.eqO_ok h1, He.eqO_ok h2, of_decide_eq_true h3, of_decide_eq_true h4⟩
theorem eqB_ok {K : PySem.W.Frag} {C f : Addr} (h : eqB K C f = true) : EqC K C f := by
  obtain ⟨h1, h⟩ := He.ba h
  obtain ⟨h2, h3⟩ := He.ba h
  exact ⟨He.eqO_ok h1, h2, He.eqO_ok h3⟩
theorem notB_ok {K : PySem.W.Frag} {C : Addr} {t : Value} (h : notB K C t = true) : NotC K C t := by
  obtain ⟨h1, h2⟩ := He.ba h
  exact ⟨of_decide_eq_true h1, h2⟩
theorem fun_of {K : PySem.W.Frag} {x q : Str} {st : Stmt} {f : Addr} {fd : FuncData} (F : FunD K x q (defArgs st) (defBody st) (defScope st) [] [] f fd) : Fun K x q st f fd := by
  obtain ⟨oc, od, dV, kV, doc, pm, an, cdv, ct, osl, e1, e2, e3, hD, _⟩ := F.ex
  rcases hD with ⟨_, rfl⟩ | ⟨e, _⟩
  · exact ⟨⟨oc, od, kV, doc, pm, an, cdv, ct, osl, e1, e2, e3⟩, F.kp⟩
  · exact absurd rfl e
theorem funC_of {K : PySem.W.Frag} {p : Str × Option Str} {x q : Str} {st : Stmt} {fd : FuncData} (F : FunD K x q (defArgs st) (defBody st) (defScope st) [] [] (He.fAd K p) fd) : FunC K x q st (He.fAd K p) fd (He.cT K p).1 := by
  obtain ⟨oc, od, dV, kV, doc, pm, an, cdv, ct, osl, e1, e2, e3, hD, _⟩ := F.ex
  rcases hD with ⟨_, rfl⟩ | ⟨e, _⟩
  · obtain ⟨c, rfl⟩ := He.codeIn_ref e3
    have ec : (He.cT K p).1 = c := He.codeOf_eq e2 (by rw [e1] <;> rfl)
    rw [ec]
    exact ⟨⟨oc, od, kV, doc, pm, an, ct, osl, e1, e2, e3⟩, F.kp⟩
  · exact absurd rfl e
section
variable {P : Program} {w : World} {K : PySem.W.Frag} {mg : Str → Option Value} {base h : Heap}
theorem got_Hand_init (c : He.SaysD fas fns K) : ∃ fd, FunD K "__init__" "Hand.__init__" (defArgs s_Hand_init) (defBody s_Hand_init) (defScope s_Hand_init) [] [] (He.fAd K ("Hand", some "__init__")) fd ∧ Binds K fd ["self", "start", "steps"] [] := by
  obtain ⟨fd, F⟩ := c.def_ 0 (d := dMeth "Hand" "__init__" "Hand.__init__" s_Hand_init []) rfl
  exact ⟨fd, F, FunD.bindsN F fun _ _ _ _ _ _ us hl => match us, hl with | [_, _, _], _ => rfl⟩
theorem got_Hand_eq (c : He.SaysD fas fns K) : ∃ fd, FunD K "__eq__" "Hand.__eq__" (defArgs s_Hand_eq) (defBody s_Hand_eq) (defScope s_Hand_eq) [] [] (He.fAd K ("Hand", some "__eq__")) fd ∧ Binds K fd ["self", "other"] [] := by
  obtain ⟨fd, F⟩ := c.def_ 1 (d := dMeth "Hand" "__eq__" "Hand.__eq__" s_Hand_eq []) rfl
  exact ⟨fd, F, FunD.bindsN F fun _ _ _ _ _ _ us hl => match us, hl with | [_, _], _ => rfl⟩
theorem got_System_init (c : He.SaysD fas fns K) : ∃ (fd : FuncData) (ds : List Value), FunD K "__init__" "System.__init__" (defArgs s_System_init) (defBody s_System_init) (defScope s_System_init) [V.non] [] (He.fAd K ("System", some "__init__")) fd ∧ Vals [V.non] ds ∧ Binds K fd ["self", "hands", "diligent"] ds := by
  obtain ⟨fd, F⟩ := c.def_ 2 (d := dMeth "System" "__init__" "System.__init__" s_System_init [.non]) rfl
  have F : FunD K "__init__" "System.__init__" (defArgs s_System_init) (defBody s_System_init) (defScope s_System_init) [V.non] [] (He.fAd K ("System", some "__init__")) fd := F
  obtain ⟨ds, h1, h2⟩ := FunD.binds1 (ps := ["self", "hands", "diligent"]) F 2 0 (by simp) rfl fun _ _ _ _ _ _ _ us its hu hi => match us, its, hu, hi with | [_, _], [_], _, _ => ⟨_, rfl, rfl⟩
  exact ⟨fd, ds, F, h1, h2⟩
theorem got_System_eq (c : He.SaysD fas fns K) : ∃ fd, FunD K "__eq__" "System.__eq__" (defArgs s_System_eq) (defBody s_System_eq) (defScope s_System_eq) [] [] (He.fAd K ("System", some "__eq__")) fd ∧ Binds K fd ["self", "other"] [] := by
  obtain ⟨fd, F⟩ := c.def_ 3 (d := dMeth "System" "__eq__" "System.__eq__" s_System_eq []) rfl
  exact ⟨fd, F, FunD.bindsN F fun _ _ _ _ _ _ us hl => match us, hl with | [_, _], _ => rfl⟩
theorem got_is_whole (X : K.In h) (G : h.Ns mainGlobals mg) (c : He.SaysD fas fns K) : ∃ fd, FunD K "is_whole" "is_whole" (defArgs s_is_whole) (defBody s_is_whole) (defScope s_is_whole) [] [] (He.fAd K ("is_whole", none)) fd ∧ Binds K fd ["value"] [] ∧ mg "is_whole" = some (.ref (He.fAd K ("is_whole", none))) := by
  obtain ⟨fd, F⟩ := c.def_ 4 (d := dTop "is_whole" s_is_whole) rfl
  exact ⟨fd, F, FunD.bindsN F fun _ _ _ _ _ _ us hl => match us, hl with | [_], _ => rfl, He.glo_ok X G (c.fact 36 (f := .glo "is_whole") rfl)⟩
theorem got_is_state (X : K.In h) (G : h.Ns mainGlobals mg) (c : He.SaysD fas fns K) : ∃ fd, FunD K "is_state" "is_state" (defArgs s_is_state) (defBody s_is_state) (defScope s_is_state) [] [] (He.fAd K ("is_state", none)) fd ∧ Binds K fd ["value"] [] ∧ mg "is_state" = some (.ref (He.fAd K ("is_state", none))) := by
  obtain ⟨fd, F⟩ := c.def_ 5 (d := dTop "is_state" s_is_state) rfl
  exact ⟨fd, F, FunD.bindsN F fun _ _ _ _ _ _ us hl => match us, hl with | [_], _ => rfl, He.glo_ok X G (c.fact 37 (f := .glo "is_state") rfl)⟩
theorem got_is_name (X : K.In h) (G : h.Ns mainGlobals mg) (c : He.SaysD fas fns K) : ∃ fd, FunD K "is_name" "is_name" (defArgs s_is_name) (defBody s_is_name) (defScope s_is_name) [] [] (He.fAd K ("is_name", none)) fd ∧ Binds K fd ["value"] [] ∧ mg "is_name" = some (.ref (He.fAd K ("is_name", none))) := by
  obtain ⟨fd, F⟩ := c.def_ 6 (d := dTop "is_name" s_is_name) rfl
  exact ⟨fd, F, FunD.bindsN F fun _ _ _ _ _ _ us hl => match us, hl with | [_], _ => rfl, He.glo_ok X G (c.fact 38 (f := .glo "is_name") rfl)⟩
theorem got_is_row (X : K.In h) (G : h.Ns mainGlobals mg) (c : He.SaysD fas fns K) : ∃ fd, FunD K "is_row" "is_row" (defArgs s_is_row) (defBody s_is_row) (defScope s_is_row) [] [] (He.fAd K ("is_row", none)) fd ∧ Binds K fd ["value"] [] ∧ mg "is_row" = some (.ref (He.fAd K ("is_row", none))) := by
  obtain ⟨fd, F⟩ := c.def_ 7 (d := dTop "is_row" s_is_row) rfl
  exact ⟨fd, F, FunD.bindsN F fun _ _ _ _ _ _ us hl => match us, hl with | [_], _ => rfl, He.glo_ok X G (c.fact 39 (f := .glo "is_row") rfl)⟩
theorem got_is_step (X : K.In h) (G : h.Ns mainGlobals mg) (c : He.SaysD fas fns K) : ∃ fd, FunD K "is_step" "is_step" (defArgs s_is_step) (defBody s_is_step) (defScope s_is_step) [] [] (He.fAd K ("is_step", none)) fd ∧ Binds K fd ["value"] [] ∧ mg "is_step" = some (.ref (He.fAd K ("is_step", none))) := by
  obtain ⟨fd, F⟩ := c.def_ 8 (d := dTop "is_step" s_is_step) rfl
  exact ⟨fd, F, FunD.bindsN F fun _ _ _ _ _ _ us hl => match us, hl with | [_], _ => rfl, He.glo_ok X G (c.fact 40 (f := .glo "is_step") rfl)⟩
theorem got_check_steps (X : K.In h) (G : h.Ns mainGlobals mg) (c : He.SaysD fas fns K) : ∃ fd, FunD K "check_steps" "check_steps" (defArgs s_check_steps) (defBody s_check_steps) (defScope s_check_steps) [] [] (He.fAd K ("check_steps", none)) fd ∧ Binds K fd ["steps"] [] ∧ mg "check_steps" = some (.ref (He.fAd K ("check_steps", none))) := by
  obtain ⟨fd, F⟩ := c.def_ 9 (d := dTop "check_steps" s_check_steps) rfl
  exact ⟨fd, F, FunD.bindsN F fun _ _ _ _ _ _ us hl => match us, hl with | [_], _ => rfl, He.glo_ok X G (c.fact 41 (f := .glo "check_steps") rfl)⟩
theorem got_all_reached (X : K.In h) (G : h.Ns mainGlobals mg) (c : He.SaysD fas fns K) : ∃ fd, FunD K "all_reached" "all_reached" (defArgs s_all_reached) (defBody s_all_reached) (defScope s_all_reached) [] [] (He.fAd K ("all_reached", none)) fd ∧ Binds K fd ["first", "following", "most"] [] ∧ mg "all_reached" = some (.ref (He.fAd K ("all_reached", none))) := by
  obtain ⟨fd, F⟩ := c.def_ 10 (d := dTop "all_reached" s_all_reached) rfl
  exact ⟨fd, F, FunD.bindsN F fun _ _ _ _ _ _ us hl => match us, hl with | [_, _, _], _ => rfl, He.glo_ok X G (c.fact 42 (f := .glo "all_reached") rfl)⟩
theorem got_reached_states (X : K.In h) (G : h.Ns mainGlobals mg) (c : He.SaysD fas fns K) : ∃ fd, FunD K "reached_states" "reached_states" (defArgs s_reached_states) (defBody s_reached_states) (defScope s_reached_states) [] [] (He.fAd K ("reached_states", none)) fd ∧ Binds K fd ["start", "steps"] [] ∧ mg "reached_states" = some (.ref (He.fAd K ("reached_states", none))) := by
  obtain ⟨fd, F⟩ := c.def_ 11 (d := dTop "reached_states" s_reached_states) rfl
  exact ⟨fd, F, FunD.bindsN F fun _ _ _ _ _ _ us hl => match us, hl with | [_, _], _ => rfl, He.glo_ok X G (c.fact 43 (f := .glo "reached_states") rfl)⟩
theorem got_exits_of (X : K.In h) (G : h.Ns mainGlobals mg) (c : He.SaysD fas fns K) : ∃ fd, FunD K "exits_of" "exits_of" (defArgs s_exits_of) (defBody s_exits_of) (defScope s_exits_of) [] [] (He.fAd K ("exits_of", none)) fd ∧ Binds K fd ["steps"] [] ∧ mg "exits_of" = some (.ref (He.fAd K ("exits_of", none))) := by
  obtain ⟨fd, F⟩ := c.def_ 12 (d := dTop "exits_of" s_exits_of) rfl
  exact ⟨fd, F, FunD.bindsN F fun _ _ _ _ _ _ us hl => match us, hl with | [_], _ => rfl, He.glo_ok X G (c.fact 44 (f := .glo "exits_of") rfl)⟩
theorem got_check_hands (X : K.In h) (G : h.Ns mainGlobals mg) (c : He.SaysD fas fns K) : ∃ fd, FunD K "check_hands" "check_hands" (defArgs s_check_hands) (defBody s_check_hands) (defScope s_check_hands) [] [] (He.fAd K ("check_hands", none)) fd ∧ Binds K fd ["hands"] [] ∧ mg "check_hands" = some (.ref (He.fAd K ("check_hands", none))) := by
  obtain ⟨fd, F⟩ := c.def_ 13 (d := dTop "check_hands" s_check_hands) rfl
  exact ⟨fd, F, FunD.bindsN F fun _ _ _ _ _ _ us hl => match us, hl with | [_], _ => rfl, He.glo_ok X G (c.fact 45 (f := .glo "check_hands") rfl)⟩
theorem got_chosen_hands (X : K.In h) (G : h.Ns mainGlobals mg) (c : He.SaysD fas fns K) : ∃ fd, FunD K "chosen_hands" "chosen_hands" (defArgs s_chosen_hands) (defBody s_chosen_hands) (defScope s_chosen_hands) [] [] (He.fAd K ("chosen_hands", none)) fd ∧ Binds K fd ["diligent", "many"] [] ∧ mg "chosen_hands" = some (.ref (He.fAd K ("chosen_hands", none))) := by
  obtain ⟨fd, F⟩ := c.def_ 14 (d := dTop "chosen_hands" s_chosen_hands) rfl
  exact ⟨fd, F, FunD.bindsN F fun _ _ _ _ _ _ us hl => match us, hl with | [_, _], _ => rfl, He.glo_ok X G (c.fact 46 (f := .glo "chosen_hands") rfl)⟩
theorem got_law_cell (X : K.In h) (G : h.Ns mainGlobals mg) (c : He.SaysD fas fns K) : ∃ fd, FunD K "_law_cell" "_law_cell" (defArgs s_law_cell) (defBody s_law_cell) (defScope s_law_cell) [] [] (He.fAd K ("_law_cell", none)) fd ∧ Binds K fd ["_law_script", "_law_k"] [] ∧ mg "_law_cell" = some (.ref (He.fAd K ("_law_cell", none))) := by
  obtain ⟨fd, F⟩ := c.def_ 15 (d := dTop "_law_cell" s_law_cell) rfl
  exact ⟨fd, F, FunD.bindsN F fun _ _ _ _ _ _ us hl => match us, hl with | [_, _], _ => rfl, He.glo_ok X G (c.fact 47 (f := .glo "_law_cell") rfl)⟩
theorem got_law_pool (X : K.In h) (G : h.Ns mainGlobals mg) (c : He.SaysD fas fns K) : ∃ fd, FunD K "_law_pool" "_law_pool" (defArgs s_law_pool) (defBody s_law_pool) (defScope s_law_pool) [] [] (He.fAd K ("_law_pool", none)) fd ∧ Binds K fd ["_law_cell_here"] [] ∧ mg "_law_pool" = some (.ref (He.fAd K ("_law_pool", none))) := by
  obtain ⟨fd, F⟩ := c.def_ 16 (d := dTop "_law_pool" s_law_pool) rfl
  exact ⟨fd, F, FunD.bindsN F fun _ _ _ _ _ _ us hl => match us, hl with | [_], _ => rfl, He.glo_ok X G (c.fact 48 (f := .glo "_law_pool") rfl)⟩
theorem got_law_draw (X : K.In h) (G : h.Ns mainGlobals mg) (c : He.SaysD fas fns K) : ∃ fd, FunD K "_law_draw" "_law_draw" (defArgs s_law_draw) (defBody s_law_draw) (defScope s_law_draw) [] [] (He.fAd K ("_law_draw", none)) fd ∧ Binds K fd ["_law_pool_here", "_law_many"] [] ∧ mg "_law_draw" = some (.ref (He.fAd K ("_law_draw", none))) := by
  obtain ⟨fd, F⟩ := c.def_ 17 (d := dTop "_law_draw" s_law_draw) rfl
  exact ⟨fd, F, FunD.bindsN F fun _ _ _ _ _ _ us hl => match us, hl with | [_, _], _ => rfl, He.glo_ok X G (c.fact 49 (f := .glo "_law_draw") rfl)⟩
theorem got_law_name (X : K.In h) (G : h.Ns mainGlobals mg) (c : He.SaysD fas fns K) : ∃ fd, FunD K "_law_name" "_law_name" (defArgs s_law_name) (defBody s_law_name) (defScope s_law_name) [] [] (He.fAd K ("_law_name", none)) fd ∧ Binds K fd ["_law_number"] [] ∧ mg "_law_name" = some (.ref (He.fAd K ("_law_name", none))) := by
  obtain ⟨fd, F⟩ := c.def_ 18 (d := dTop "_law_name" s_law_name) rfl
  exact ⟨fd, F, FunD.bindsN F fun _ _ _ _ _ _ us hl => match us, hl with | [_], _ => rfl, He.glo_ok X G (c.fact 50 (f := .glo "_law_name") rfl)⟩
theorem got_law_names (X : K.In h) (G : h.Ns mainGlobals mg) (c : He.SaysD fas fns K) : ∃ fd, FunD K "_law_names" "_law_names" (defArgs s_law_names) (defBody s_law_names) (defScope s_law_names) [] [] (He.fAd K ("_law_names", none)) fd ∧ Binds K fd ["_law_pool_here", "_law_many"] [] ∧ mg "_law_names" = some (.ref (He.fAd K ("_law_names", none))) := by
  obtain ⟨fd, F⟩ := c.def_ 19 (d := dTop "_law_names" s_law_names) rfl
  exact ⟨fd, F, FunD.bindsN F fun _ _ _ _ _ _ us hl => match us, hl with | [_, _], _ => rfl, He.glo_ok X G (c.fact 51 (f := .glo "_law_names") rfl)⟩
theorem got_law_steps (X : K.In h) (G : h.Ns mainGlobals mg) (c : He.SaysD fas fns K) : ∃ fd, FunD K "_law_steps" "_law_steps" (defArgs s_law_steps) (defBody s_law_steps) (defScope s_law_steps) [] [] (He.fAd K ("_law_steps", none)) fd ∧ Binds K fd ["_law_pool_here", "_law_names_here", "_law_states", "_law_many"] [] ∧ mg "_law_steps" = some (.ref (He.fAd K ("_law_steps", none))) := by
  obtain ⟨fd, F⟩ := c.def_ 20 (d := dTop "_law_steps" s_law_steps) rfl
  exact ⟨fd, F, FunD.bindsN F fun _ _ _ _ _ _ us hl => match us, hl with | [_, _, _, _], _ => rfl, He.glo_ok X G (c.fact 52 (f := .glo "_law_steps") rfl)⟩
theorem got_law_hand (X : K.In h) (G : h.Ns mainGlobals mg) (c : He.SaysD fas fns K) : ∃ fd, FunD K "_law_hand" "_law_hand" (defArgs s_law_hand) (defBody s_law_hand) (defScope s_law_hand) [] [] (He.fAd K ("_law_hand", none)) fd ∧ Binds K fd ["_law_pool_here", "_law_names_here", "_law_most_states", "_law_most_steps"] [] ∧ mg "_law_hand" = some (.ref (He.fAd K ("_law_hand", none))) := by
  obtain ⟨fd, F⟩ := c.def_ 21 (d := dTop "_law_hand" s_law_hand) rfl
  exact ⟨fd, F, FunD.bindsN F fun _ _ _ _ _ _ us hl => match us, hl with | [_, _, _, _], _ => rfl, He.glo_ok X G (c.fact 53 (f := .glo "_law_hand") rfl)⟩
theorem got_law_rows (X : K.In h) (G : h.Ns mainGlobals mg) (c : He.SaysD fas fns K) : ∃ fd, FunD K "_law_rows" "_law_rows" (defArgs s_law_rows) (defBody s_law_rows) (defScope s_law_rows) [] [] (He.fAd K ("_law_rows", none)) fd ∧ Binds K fd ["_law_script", "_law_most_hands", "_law_most_words", "_law_most_states", "_law_most_steps"] [] ∧ mg "_law_rows" = some (.ref (He.fAd K ("_law_rows", none))) := by
  obtain ⟨fd, F⟩ := c.def_ 22 (d := dTop "_law_rows" s_law_rows) rfl
  exact ⟨fd, F, FunD.bindsN F fun _ _ _ _ _ _ us hl => match us, hl with | [_, _, _, _, _], _ => rfl, He.glo_ok X G (c.fact 54 (f := .glo "_law_rows") rfl)⟩
theorem got_law_same (X : K.In h) (G : h.Ns mainGlobals mg) (c : He.SaysD fas fns K) : ∃ fd, FunD K "_law_same" "_law_same" (defArgs s_law_same) (defBody s_law_same) (defScope s_law_same) [] [] (He.fAd K ("_law_same", none)) fd ∧ Binds K fd ["_law_told", "_law_due"] [] ∧ mg "_law_same" = some (.ref (He.fAd K ("_law_same", none))) := by
  obtain ⟨fd, F⟩ := c.def_ 23 (d := dTop "_law_same" s_law_same) rfl
  exact ⟨fd, F, FunD.bindsN F fun _ _ _ _ _ _ us hl => match us, hl with | [_, _], _ => rfl, He.glo_ok X G (c.fact 55 (f := .glo "_law_same") rfl)⟩
theorem got_law_holds (X : K.In h) (G : h.Ns mainGlobals mg) (c : He.SaysD fas fns K) : ∃ fd, FunD K "_law_holds" "_law_holds" (defArgs s_law_holds) (defBody s_law_holds) (defScope s_law_holds) [] [] (He.fAd K ("_law_holds", none)) fd ∧ Binds K fd ["_law_system", "_law_rows_here", "_law_chosen"] [] ∧ mg "_law_holds" = some (.ref (He.fAd K ("_law_holds", none))) := by
  obtain ⟨fd, F⟩ := c.def_ 24 (d := dTop "_law_holds" s_law_holds) rfl
  exact ⟨fd, F, FunD.bindsN F fun _ _ _ _ _ _ us hl => match us, hl with | [_, _, _], _ => rfl, He.glo_ok X G (c.fact 56 (f := .glo "_law_holds") rfl)⟩
theorem got_law (X : K.In h) (G : h.Ns mainGlobals mg) (c : He.SaysD fas fns K) : ∃ fd, FunD K "law" "law" (defArgs s_law) (defBody s_law) (defScope s_law) [] [] (He.fAd K ("law", none)) fd ∧ Binds K fd ["_law_script"] [] ∧ mg "law" = some (.ref (He.fAd K ("law", none))) := by
  obtain ⟨fd, F⟩ := c.def_ 25 (d := dTop "law" s_law) rfl
  exact ⟨fd, F, FunD.bindsN F fun _ _ _ _ _ _ us hl => match us, hl with | [_], _ => rfl, He.glo_ok X G (c.fact 57 (f := .glo "law") rfl)⟩
theorem got_blt (X : K.In h) (G : h.Ns mainGlobals mg) (c : He.SaysD fas fns K) : Blt mg := ⟨He.free_ok X G (c.fact 15 (f := .free "len") rfl), He.free_ok X G (c.fact 16 (f := .free "int") rfl), He.free_ok X G (c.fact 17 (f := .free "range") rfl), He.free_ok X G (c.fact 18 (f := .free "isinstance") rfl), He.free_ok X G (c.fact 19 (f := .free "tuple") rfl), He.free_ok X G (c.fact 20 (f := .free "list") rfl), He.free_ok X G (c.fact 21 (f := .free "set") rfl), He.free_ok X G (c.fact 22 (f := .free "sorted") rfl), He.free_ok X G (c.fact 23 (f := .free "all") rfl), He.free_ok X G (c.fact 24 (f := .free "enumerate") rfl)⟩
theorem got_kin (X : K.In h) (G : h.Ns mainGlobals mg) (c : He.SaysD fas fns K) : Kin mg := ⟨He.free_ok X G (c.fact 25 (f := .free "bool") rfl), He.free_ok X G (c.fact 26 (f := .free "str") rfl), He.int_ok X G (c.fact 28 (f := .int "MOST_LETTERS" 12) rfl), He.int_ok X G (c.fact 29 (f := .int "LAST_STATE" 99) rfl)⟩
theorem got_lim (X : K.In h) (G : h.Ns mainGlobals mg) (c : He.SaysD fas fns K) : Lim mg := ⟨He.int_ok X G (c.fact 30 (f := .int "MOST_STEPS" 24) rfl), He.int_ok X G (c.fact 31 (f := .int "MOST_LEAVING" 4) rfl), He.int_ok X G (c.fact 32 (f := .int "MOST_WORDS_hands" 8) rfl), He.int_ok X G (c.fact 33 (f := .int "MOST_STATES" 8) rfl)⟩
theorem got_lim2 (X : K.In h) (G : h.Ns mainGlobals mg) (c : He.SaysD fas fns K) : Lim2 mg := ⟨He.int_ok X G (c.fact 34 (f := .int "MOST_HANDS" 4) rfl), He.int_ok X G (c.fact 35 (f := .int "MOST_WORDS_systems" 12) rfl)⟩
theorem got_blt2 (X : K.In h) (G : h.Ns mainGlobals mg) (c : He.SaysD fas fns K) : Blt2 mg := ⟨He.free_ok X G (c.fact 27 (f := .free "dict") rfl)⟩
theorem got_handT (c : He.SaysD fas fns K) : HandT K mg (He.ga K "Hand") := ⟨He.cls_ok (c.fact 2 (f := .cls "Hand") rfl), He.noat_ok (c.fact 6 (f := .noat "Hand" "start") rfl), He.noat_ok (c.fact 7 (f := .noat "Hand" "steps") rfl), He.noat_ok (c.fact 8 (f := .noat "Hand" "words") rfl), He.noat_ok (c.fact 9 (f := .noat "Hand" "states") rfl), He.noat_ok (c.fact 10 (f := .noat "Hand" "exits") rfl)⟩
theorem got_sysT (c : He.SaysD fas fns K) : SysT K (He.ga K "System") := ⟨He.cls_ok (c.fact 3 (f := .cls "System") rfl), He.noat_ok (c.fact 11 (f := .noat "System" "hands") rfl), He.noat_ok (c.fact 12 (f := .noat "System" "diligent") rfl), He.noat_ok (c.fact 13 (f := .noat "System" "words") rfl), He.noat_ok (c.fact 14 (f := .noat "System" "start") rfl)⟩
theorem sys_b3 {f : Addr} {fd : FuncData} (F : FunD K "__init__" "System.__init__" (defArgs s_System_init) (defBody s_System_init) (defScope s_System_init) [V.non] [] f fd) : Binds K fd ["self", "hands", "diligent"] [] := by
  obtain ⟨ds, h1, h2⟩ := FunD.binds1 (ps := ["self", "hands", "diligent"]) F 3 1 (by simp) rfl fun _ _ _ _ _ _ _ us its hu hi => match us, its, hu, hi with | [_, _, _], [_], _, _ => ⟨_, rfl, rfl⟩
  have e : ds = [] := by
    cases ds with
    | nil => rfl
    | cons x r => cases h1
  exact e ▸ h2
theorem sys_kJ {f : Addr} {fd : FuncData} (F : FunD K "__init__" "System.__init__" (defArgs s_System_init) (defBody s_System_init) (defScope s_System_init) [V.non] [] f fd) : KBn K fd ["self", "hands", "diligent"] 2 ["diligent"] (fun us ws => us ++ ws) (fun vs zs => vs ++ zs) := by
  refine ⟨fun s us ws X hu hw => ?_, fun r rz => r.append rz⟩
  obtain ⟨oc, od, dV, kV, doc, pm, an, cdv, ct, osl, rfl, lk, hcd, hD, hK⟩ := F.ex
  rcases hD with ⟨e, _⟩ | ⟨_, T, o, its, m, rfl, lT, oT, rT⟩
  · exact absurd e (by simp)
  · have li : its.length = 1 := rT.length.symm
    obtain ⟨k, e1, e2⟩ : ∃ k, bindArgs (PySem.W.fnOf "__init__" "System.__init__" (defArgs s_System_init) (defBody s_System_init) (defScope s_System_init) (.ref T) kV doc pm an cdv ct) ⟨us, (["diligent"] : List Str).zip ws⟩ = seqItems? (.ref T) >>= k ∧ k (some its.toArray) = pure ((["self", "hands", "diligent"] : List Str).zip (us ++ ws)) :=
      match us, ws, its, hu, hw, li with | [_, _], [_], [_], _, _, _ => ⟨_, rfl, rfl⟩
    refine BindsTo.of_looks fun M => ?_
    rw [e1]
    exact looks_items X lT oT (.of_pure e2)
theorem law_at {w : World} {fa : Addr} (X : K.In h) (G : h.Ns mainGlobals mg) (hfa : mg ("law" : Str) = some (.ref fa)) (S : He.SaysX fas fns [] tfs exs w h K) : LamX.LawAtS PySem.Challenge.rw_surelydone_k05_system_tells_its_parts w K CX0 7 63 "_law_script" mg fa h := by
  have c := S.t.d
  obtain ⟨d_Hand_init, F_Hand_init, b_Hand_init⟩ := got_Hand_init c
  obtain ⟨d_Hand_eq, F_Hand_eq, b_Hand_eq⟩ := got_Hand_eq c
  obtain ⟨d_System_init, ds_System_init, F_System_init, v_System_init, b_System_init⟩ := got_System_init c
  obtain ⟨d_System_eq, F_System_eq, b_System_eq⟩ := got_System_eq c
  obtain ⟨d_is_whole, F_is_whole, b_is_whole, g_is_whole⟩ := got_is_whole X G c
  obtain ⟨d_is_state, F_is_state, b_is_state, g_is_state⟩ := got_is_state X G c
  obtain ⟨d_is_name, F_is_name, b_is_name, g_is_name⟩ := got_is_name X G c
  obtain ⟨d_is_row, F_is_row, b_is_row, g_is_row⟩ := got_is_row X G c
  obtain ⟨d_is_step, F_is_step, b_is_step, g_is_step⟩ := got_is_step X G c
  obtain ⟨d_check_steps, F_check_steps, b_check_steps, g_check_steps⟩ := got_check_steps X G c
  obtain ⟨d_all_reached, F_all_reached, b_all_reached, g_all_reached⟩ := got_all_reached X G c
  obtain ⟨d_reached_states, F_reached_states, b_reached_states, g_reached_states⟩ := got_reached_states X G c
  obtain ⟨d_exits_of, F_exits_of, b_exits_of, g_exits_of⟩ := got_exits_of X G c
  obtain ⟨d_check_hands, F_check_hands, b_check_hands, g_check_hands⟩ := got_check_hands X G c
  obtain ⟨d_chosen_hands, F_chosen_hands, b_chosen_hands, g_chosen_hands⟩ := got_chosen_hands X G c
  obtain ⟨d_law_cell, F_law_cell, b_law_cell, g_law_cell⟩ := got_law_cell X G c
  obtain ⟨d_law_pool, F_law_pool, b_law_pool, g_law_pool⟩ := got_law_pool X G c
  obtain ⟨d_law_draw, F_law_draw, b_law_draw, g_law_draw⟩ := got_law_draw X G c
  obtain ⟨d_law_name, F_law_name, b_law_name, g_law_name⟩ := got_law_name X G c
  obtain ⟨d_law_names, F_law_names, b_law_names, g_law_names⟩ := got_law_names X G c
  obtain ⟨d_law_steps, F_law_steps, b_law_steps, g_law_steps⟩ := got_law_steps X G c
  obtain ⟨d_law_hand, F_law_hand, b_law_hand, g_law_hand⟩ := got_law_hand X G c
  obtain ⟨d_law_rows, F_law_rows, b_law_rows, g_law_rows⟩ := got_law_rows X G c
  obtain ⟨d_law_same, F_law_same, b_law_same, g_law_same⟩ := got_law_same X G c
  obtain ⟨d_law_holds, F_law_holds, b_law_holds, g_law_holds⟩ := got_law_holds X G c
  obtain ⟨d_law, F_law, b_law, g_law⟩ := got_law X G c
  have hCh := hfa.symm.trans g_law
  cases hCh
  have cr := funC_of F_reached_states
  have bl := FunD.bindsA (ps := ["_law_script"]) F_law fun _ _ _ _ _ _ us hl => match us, hl with | [_], _ => rfl
  refine ⟨d_law, [He.cT K ("reached_states", none)], spLaw K (He.cT K ("reached_states", none)).2, fun p hp => ?_, fun p hp => ?_, fun p hp => ?_, fun s u => bl s [u] rfl, fun H a ns _ _ hT hS => ?_, fun base KB GB TB => ?_⟩
  · cases List.mem_singleton.mp hp
    exact S.empty _ (List.mem_cons_self ..)
  · cases List.mem_singleton.mp hp
    exact S.out _ (List.mem_cons_self ..)
  · cases List.mem_singleton.mp hp
    exact PySem.W.codeHd_of_K X (S.hd _ (List.mem_cons_self ..))
  · refine ⟨a, ns, rfl, hS, fun q hq => ?_, fun _ => rfl⟩
    cases List.mem_singleton.mp hq
    exact NdefX.TabN.nil (hT _ (List.mem_cons_self ..))
  · have T1 := TB _ (List.mem_cons_self ..)
    obtain ⟨x1, z⟩ := He.ba S.more
    obtain ⟨x2, z⟩ := He.ba z
    obtain ⟨x3, z⟩ := He.ba z
    obtain ⟨x4, z⟩ := He.ba z
    obtain ⟨x5, z⟩ := He.ba z
    obtain ⟨x6, x7⟩ := He.ba z
    have mHand : mg "Hand" = some (.ref (He.ga K "Hand")) := He.glo_ok X G (c.fact 0 (f := .glo "Hand") rfl)
    have mSystem : mg "System" = some (.ref (He.ga K "System")) := He.glo_ok X G (c.fact 1 (f := .glo "System") rfl)
    have TX := got_handT (mg := mg) c
    have TS := got_sysT c
    have CD : ClsD K mg (He.ga K "Hand") (He.ga K "System") (He.fAd K ("Hand", some "__init__")) (He.fAd K ("Hand", some "__eq__")) (He.fAd K ("System", some "__init__")) (He.fAd K ("System", some "__eq__")) d_Hand_init d_Hand_eq d_System_init d_System_eq ds_System_init :=
      ⟨TX, TS, ownB_ok TX.cl x1, ownB_ok TS.cl x2, eqB_ok x3, eqB_ok x4, notB_ok x5, notB_ok x6, notB_ok x7, He.mkr_ok (c.fact 4 (f := .mkr "Hand") rfl), He.mkr_ok (c.fact 5 (f := .mkr "System") rfl), mHand, mSystem, fun_of F_Hand_init, b_Hand_init, fun_of F_Hand_eq, b_Hand_eq, fun_of F_System_eq, b_System_eq, F_System_init, b_System_init, v_System_init, sys_b3 F_System_init, sys_kJ F_System_init⟩
    exact ok_law (fun_of F_law) (got_blt X G c) (got_kin X G c) (got_blt2 X G c) (got_lim X G c) (got_lim2 X G c) CD ⟨⟨fun_of F_is_whole, b_is_whole, g_is_whole, fun_of F_is_state, b_is_state, g_is_state, fun_of F_is_name, b_is_name, g_is_name⟩, fun_of F_is_row, b_is_row, g_is_row, fun_of F_is_step, b_is_step, g_is_step, fun_of F_check_steps, b_check_steps, g_check_steps, fun_of F_all_reached, b_all_reached, g_all_reached, cr, b_reached_states, g_reached_states, T1, fun_of F_exits_of, b_exits_of, g_exits_of⟩ ⟨fun_of F_is_row, b_is_row, g_is_row, fun_of F_is_whole, b_is_whole, g_is_whole, fun_of F_check_hands, b_check_hands, g_check_hands, fun_of F_chosen_hands, b_chosen_hands, g_chosen_hands⟩ ⟨fun_of F_law_cell, b_law_cell, g_law_cell, fun_of F_law_pool, b_law_pool, g_law_pool, fun_of F_law_draw, b_law_draw, g_law_draw, fun_of F_law_name, b_law_name, g_law_name, fun_of F_law_names, b_law_names, g_law_names, fun_of F_law_steps, b_law_steps, g_law_steps, fun_of F_law_hand, b_law_hand, g_law_hand⟩ ⟨fun_of F_law_rows, b_law_rows, g_law_rows, fun_of F_law_same, b_law_same, g_law_same, fun_of F_law_holds, b_law_holds, g_law_holds⟩
end
end KX
namespace KX
open PySem PySem.Spec PyProof.Rows L2
abbrev Rw : PySem.W.OpenRow := PySem.W.OpenLaw.row PySem.Challenge.rw_surelydone_k05_system_tells_its_parts
abbrev lse0 : List Str := ["_wall", "__name__", "DoneError", "BadState", "BadSteps", "BadHands", "BadDiligent", "TooMany", "MOST_LETTERS", "LAST_STATE", "is_whole", "is_state", "is_name", "is_row", "all_reached", "MOST_STEPS", "MOST_LEAVING", "MOST_WORDS_hands", "MOST_STATES", "Hand", "is_step", "check_steps", "reached_states", "exits_of", "MOST_HANDS", "MOST_WORDS_systems", "System", "check_hands", "chosen_hands", "as_system"]
abbrev lse1 : List Str := ["side_by_side", "_law_cell", "_law_pool", "_law_draw", "_law_name", "_law_names", "_law_steps", "_law_hand", "_law_rows", "_law_same", "_law_holds"]
abbrev lse : List Str := lse0 ++ lse1
abbrev vw : Program := PySem.W.view Rw.prog [46]
abbrev hkX : PySem.W.Hook := He.hookX 4 fas fns [] tfs exs
def obX (s : PySem.W.SharedT) : He.AlX := He.obsX 4 fas fns [] tfs exs (HandSHeadRun.getT s)
theorem obX_eq (s : PySem.W.SharedT) : obX s = hkX.obs s.abs := He.obsX_eq (HandSHeadRun.getT_eq s)
theorem runX (w : World) : HandSHeadRun.RunEq Rw vw hkX obX 5000 lse w := by
  intro os
  kernel_rfl
end KX
open PySem PySem.W PySem.Calls PyProof.Rows
theorem PySem.Challenge.cw_surelydone_k05_system_tells_its_parts_holds : PySem.Challenge.rw_surelydone_k05_system_tells_its_parts.Holds := by
  w_on; o_law
  refine HandSHeadRun.head_any (r := KX.Rw) (q := KX.vw) (H := KX.hkX) (ob := KX.obX) (M := 5000) (loose := KX.lse) (d := HandSHeadRun.topDef KX.Rw.prog 46) (kwd := []) KX.obX_eq
    (by kernel_rfl) (fun s => by kernel_rfl) KX.runX (by kernel_rfl) (by kernel_rfl) (by kernel_rfl) (by rfl) (by first | assumption | decide +kernel) (by decide +kernel) ⟨rfl, rfl, rfl, rfl, rfl, by decide +kernel⟩ ?hw ?hc
  case hw => w_witness2
  case hc =>
    refine LamX.walk_ofTsE (l := PySem.Challenge.rw_surelydone_k05_system_tells_its_parts) (n := 63) (k := 7) (x := "_law_script") (CX := fun _ => L2.CX0) rfl (by decide) (by kernel_rfl) ⟨by rfl, by decide, by decide⟩ ?F (fun _ _ _ _ _ z => z)
    intro w mg fa h Y G hmg0
    obtain ⟨K, KX1, c⟩ := Y
    have hmg : mg ("law" : PySem.Str) = some (.ref fa) := by
      have e : (HandSHeadRun.topDef KX.Rw.prog 46).name = ("law" : PySem.Str) := by kernel_rfl
      rw [← e]
      exact hmg0
    exact ⟨K, KX1, KX.law_at KX1 G hmg c⟩
