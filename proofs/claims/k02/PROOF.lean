import PyProof.Rows.All
import Wide.All
import OpenK.AllK
import Wide.FinOn
import KE.KLam
import HandS.ForMost
import HandS.Exc
import HandS.Codes
import HandS.TryOnly
import HandS.Lambda
import HandS.Nested
import HandS.NestedK
import PyProof.CodeObj
import HandS.Set
import HandS.SetBool
import HandS.Strs
import HandS.SetFor
import HandS.Iter
import KE.GoesMore
import HandS.Walk
import HandS.Wide
import HandS.IsInst
import HandS.Conv
import HandS.Deep
import HandS.TupAny
import HandS.HeadHook4
import HandS.HeadWalk
import HandS.Defaults
import HandS.Head2
import PySem.Challenge.RW_surelydone_k02_hand_tells_its_parts
set_option Elab.async false
set_option linter.all false
set_option maxRecDepth 100000
set_option maxHeartbeats 8000000
/-! Lambdas of one parameter that capture names, handed to a def that calls them. -/
namespace VL
open PySem PySem.Spec PyProof.Rows L2 LamX NdefX

structure LF where
  qual : Str
  params : Arguments
  body : Expr
  scope : Scope
  cl : List (Str × Addr)
  c : Addr

/-- at f stands the lambda F -/
def LamO (f : Addr) (F : LF) : HO := .ext fun h => ∃ (od : Option Addr) (sl : Array (Option Value)) (pm ctv : Value),
  h.get? f = some (⟨.type "function", od, .func (PySem.W.kla_fn "<lambda>" F.qual F.params F.body F.scope F.cl pm (.ref F.c) ctv), sl⟩ : Obj)
theorem lamO_at {P : Program} {w : World} {H : Hp} {h : Heap} {f : Addr} {F : LF} (hok : HOk P w H h) (e : H f = some (LamO f F)) : ∃ (od : Option Addr) (sl : Array (Option Value)) (pm ctv : Value),
    h.get? f = some (⟨.type "function", od, .func (PySem.W.kla_fn "<lambda>" F.qual F.params F.body F.scope F.cl pm (.ref F.c) ctv), sl⟩ : Obj) := (hok f _ e).1
theorem lamO_ne {f : Addr} {F : LF} (ps : Array Value) : LamO f F ≠ .tbl ps := fun z => by
  unfold LamO at z
  cases z

section
variable {X : Cx} {pins : List (Addr × Obj)} {σ : L2.St} {H : Hp} {s : Shared}
theorem inv_lam {F : LF} {t' : Nat} {pm ctv : Value} (I : Inv X pins σ H s) :
    Inv X pins σ (upd H s.heap.objs.size (LamO s.heap.objs.size F)) { s with heap := s.heap.push (PySem.W.kla_obj "<lambda>" F.qual F.params F.body F.scope F.cl pm F.c ctv), toks := t' } := by
  refine I.laid (a := s.heap.objs.size) (fun b u e => Heap.get?_push_of_some _ e) (Nat.le_refl _) ?_
  have e : (s.heap.push (PySem.W.kla_obj "<lambda>" F.qual F.params F.body F.scope F.cl pm F.c ctv)).get? s.heap.objs.size = some (PySem.W.kla_obj "<lambda>" F.qual F.params F.body F.scope F.cl pm F.c ctv) := Heap.get?_push_size _ rfl
  exact ⟨⟨_, _, pm, ctv, e⟩, ⟨_, e⟩, fun h1 h2 ⟨od, sl, p, t, z⟩ st => ⟨od, sl, p, t, st _ z⟩⟩

theorem lam_mk {T : List NTab} {nm : Nat → Nat → Str} {c P : Addr} {params : Arguments} {body : Expr} {scope : Scope} {pos : Pos} {E : Value → Shared → Prop} {Q : Value → Shared → Prop} (I : Inv X pins σ H s) (TB : TabB X.base X.mg c P) (hcode : X.env.code = .ref c)
    (hm : (P, nm) ∈ T) (hn : nm pos.line pos.col = X.env.qual ++ "<lambda>") (hu : ∀ p ∈ T, p.1 = P → p.2 = nm) (hT : TabsN T H) (hdef : defaultsOf params X.env = ([], [])) (hfree : ∀ y ∈ scope.names, y.2 = .free → ∃ c, X.env.cells.lookup y.1 = some c)
    (h : ∀ (f c' : Addr) (H1 : Hp) (s' : Shared), Inv X pins σ H1 s' → ExtN H H1 → (∀ b, H1 b = Option.none → H b = Option.none) → TabsN T H1 → H f = none →
      H1 f = some (LamO f ⟨X.env.qual ++ "<lambda>", params, body, scope, cloFrom X.env.cells scope.names [], c'⟩) → H1 c' = some (CodeO c' (X.env.qual ++ "<lambda>")) → Q (.ref f) s') :
    wpAny (model X.prog X.w) X.A (eval (.Lambda params body scope pos) X.env) Q E s := by
  obtain ⟨ps, hP, ht, ha⟩ := (show TabN H P nm from hT _ hm)
  refine PySem.W.kla_eval hdef ?_
  have bP : s.heap.BuiltinsAt X.mg P := TB.bm.keeps I.bk
  have hP' : s.heap.get? P = some { cls := .none, data := .fields ps } := I.hok P _ hP
  cases hc : codeAmong pos ps.toList with
  | none =>
    refine PySem.W.kla_makeFunction (mg := X.mg) (c := c) (P := P) (ps := ps) (closure_ok hfree) I.ok.glob (I.mod.glob.keeps I.bk) hcode (TB.code.keeps I.bk) hP' ht hc TB.gP bP fun c' ctv h' tk hx hge hlt hrec htb => ?_
    obtain ⟨c2, oc, vs, t, e2, hoc, hd, hv⟩ := hrec
    cases e2
    have nC : H c' = none := I.hok.fresh hge
    have I1 := inv_table (t' := tk) (more := #[rawInt pos.line, rawInt pos.col, .ref c']) (h' := h') I hP (fun b o hb e => hx b o hb e) htb hge ⟨oc, vs, t, hoc, hd, hv⟩
    have hE : ExtN H (upd (upd H P (.tbl (ps ++ #[rawInt pos.line, rawInt pos.col, .ref c']))) c' (CodeO c' (X.env.qual ++ "<lambda>"))) := fun b o e n => by
      rw [upd_ne (ne_of_none e nC), upd_ne (fun z => n ps (Option.some.inj (e.symm.trans (by rw [z]; exact hP))))]
      exact e
    have eL : (ps ++ #[rawInt pos.line, rawInt pos.col, .ref c']).toList = ps.toList ++ [rawInt pos.line, rawInt pos.col, .ref c'] := by simp
    have T1 : TabsN T (upd (upd H P (.tbl (ps ++ #[rawInt pos.line, rawInt pos.col, .ref c']))) c' (CodeO c' (X.env.qual ++ "<lambda>"))) := fun p hp => by
      by_cases hb : p.1 = P
      · rw [hu p hp hb, hb]
        refine ⟨_, by rw [upd_ne (ne_of_none hP nC), upd_same], by rw [eL]; exact PySem.TriplesOk_snoc _ _ _ _ ht, fun p' cv hcv => ?_⟩
        rw [eL] at hcv
        rcases among_app2 _ ht hcv with z | ⟨z, z1, z2⟩
        · obtain ⟨c0, e1, e2⟩ := ha p' cv z
          exact ⟨c0, e1, hE _ _ e2 codeO_ne⟩
        · refine ⟨c', z, ?_⟩
          rw [← z1, ← z2, hn]
          exact upd_same
      · obtain ⟨ps', a1, a2, a3⟩ := hT p hp
        refine ⟨ps', by rw [upd_ne (ne_of_none a1 nC), upd_ne hb]; exact a1, a2, fun p' cv hcv => ?_⟩
        obtain ⟨c0, e1, e2⟩ := a3 p' cv hcv
        exact ⟨c0, e1, hE _ _ e2 codeO_ne⟩
    have nF := I1.hok.fresh (Nat.le_refl _)
    have I2 := inv_lam (F := ⟨X.env.qual ++ "<lambda>", params, body, scope, cloFrom X.env.cells scope.names [], c'⟩) (t' := tk) (pm := (X.mg "__name__").getD .none) (ctv := ctv) I1
    refine h h'.objs.size c' _ _ I2 (fun b o e n => ?_) (fun b e => upd_none (upd_none (upd_none e))) (T1.ext fun b o e => ?_) (I.hok.fresh (Nat.le_trans hge (Nat.le_of_lt hlt))) upd_same ?_
    · have e1 := hE b o e n
      exact (upd_ne (ne_of_none e1 nF)).trans e1
    · exact (upd_ne (ne_of_none e nF)).trans e
    · exact (upd_ne (Nat.ne_of_lt hlt)).trans upd_same
  | some cv =>
    obtain ⟨c', e, hco⟩ := ha pos cv hc
    subst e
    rw [hn] at hco
    refine PySem.W.kla_makeFunctionHit (mg := X.mg) (c := c) (P := P) (ps := ps) (closure_ok hfree) I.ok.glob (I.mod.glob.keeps I.bk) hcode (TB.code.keeps I.bk) hP' ht hc bP fun ctv h' tk hx hsz => ?_
    have I1 : Inv X pins σ H { s with heap := h', toks := tk } := I.kept hx
    have nF : H h'.objs.size = none := I1.hok.fresh (Nat.le_refl _)
    have I2 := inv_lam (F := ⟨X.env.qual ++ "<lambda>", params, body, scope, cloFrom X.env.cells scope.names [], c'⟩) (t' := tk) (pm := (X.mg "__name__").getD .none) (ctv := ctv) I1
    refine h h'.objs.size c' _ _ I2 (fun b o e n => ?_) (fun b e => upd_none e) (hT.ext fun b o e => ?_) nF upd_same ?_
    · exact (upd_ne (ne_of_none e nF)).trans e
    · exact (upd_ne (ne_of_none e nF)).trans e
    · exact (upd_ne (ne_of_none hco nF)).trans hco
end
/-- the lambda as a value -/
def tLamV (T : List NTab) (mk : Addr → LF) : TE := fun _ H Q => TabsN T H ∧ ∀ (f c' : Addr) (H1 : Hp), ExtN H H1 → (∀ b, H1 b = Option.none → H b = Option.none) → TabsN T H1 → H f = none → H1 f = some (LamO f (mk c')) → H1 c' = some (CodeO c' (mk c').qual) → Q (.ref f) H1
theorem pe_lamV {X : Cx} {T : List NTab} {nm : Nat → Nat → Str} {c P : Addr} {params : Arguments} {body : Expr} {scope : Scope} {pos : Pos} (TB : TabB X.base X.mg c P) (hcode : X.env.code = .ref c)
    (hm : (P, nm) ∈ T) (hn : nm pos.line pos.col = X.env.qual ++ "<lambda>") (hu : ∀ p ∈ T, p.1 = P → p.2 = nm) (hdef : defaultsOf params X.env = ([], []))
    (hfree : ∀ y ∈ scope.names, y.2 = .free → X.env.scope.names.lookup y.1 = some .cell ∨ X.env.scope.names.lookup y.1 = some .free) :
    PE X (.Lambda params body scope pos) (tLamV T fun c' => ⟨X.env.qual ++ "<lambda>", params, body, scope, cloFrom X.env.cells scope.names [], c'⟩) := by
  refine ⟨fun pins s σ H Q I h => ?_⟩
  obtain ⟨hT, h⟩ := h
  have hfr : ∀ y ∈ scope.names, y.2 = .free → ∃ c, X.env.cells.lookup y.1 = some c := fun y hy e => (hfree y hy e).elim (fun z => I.ok.has _ (.inl z)) fun z => I.ok.has _ (.inr z)
  exact lam_mk I TB hcode hm hn hu hT hdef hfr fun f c' H1 s' I1 eN nn T1 f0 f1 c1 => ⟨.ref f, H1, I1, rfl, h f c' H1 eN nn T1 f0 f1 c1⟩
end VL
namespace VL
open PySem PySem.Spec PyProof.Rows L2 LamX NdefX
/-- the lambda's names: its parameter, the captured ones, the others (of its comprehensions) -/
structure LScope (N : List Str) (p : Str) (fr : List Str) (sc : Scope) : Prop where
  kind : sc.kind = .function
  co : sc.isCoroutine = false
  gen : sc.isGenerator = false
  nd : N.Nodup
  pre : N.take (1 + fr.length) = p :: fr
  par : sc.names.lookup p = some .local ∨ sc.names.lookup p = some .cell
  uniq : ∀ y ∈ sc.names, sc.names.lookup y.1 = some y.2
  own : ∀ y ∈ sc.names, y.2 = .cell → y.1 = p
  free : ∀ y ∈ sc.names, y.2 = .free → y.1 ∈ fr
  frk : ∀ x ∈ fr, sc.names.lookup x = some .free
/-- the closure: each captured name once -/
structure ClOk (cl : List (Str × Addr)) (sc : Scope) : Prop where
  fn : ∀ y c, (y, c) ∈ cl → cl.lookup y = some c
  fr : ∀ y c, (y, c) ∈ cl → (y, NameKind.free) ∈ sc.names
theorem clOk_from {cells : List (Str × Addr)} {sc : Scope} : ClOk (cloFrom cells sc.names []) sc := by
  refine ⟨fun y c h => ?_, fun y c h => ?_⟩
  · obtain ⟨c', e⟩ := mem_lookup h
    have h' := PySem.mem_of_lookup e
    rcases cloFrom_mem h with z | ⟨_, z⟩
    · cases z
    · rcases cloFrom_mem h' with z' | ⟨_, z'⟩
      · cases z'
      · rw [e, z', z]
  · rcases cloFrom_mem h with z | ⟨z, _⟩
    · cases z
    · exact z

abbrev envL (F : LF) (f L : Addr) : Env := newEnv F.scope L mainGlobals (cellsFrom (L + 1) F.scope.names F.cl) (F.qual ++ ".<locals>.") (some f) (.ref F.c) none builtinsNs
def startL (N : List Str) (v : V) (ws : List (Option V)) : L2.St := some v :: (ws ++ List.replicate (N.length - 1 - ws.length) none)
/-- the context of its body -/
def lcx (CX : CXT) (P : Program) (w : World) (K : PySem.W.Frag) (mg : Str → Option Value) (base : Heap) (N : List Str) (F : LF) (f : Addr) (A : Around) (outer : List Env) (s : Shared) (H : Hp) (E : XK) : Cx where
  prog := P
  w := w
  K := K
  mg := mg
  base := base
  A := A.deeper (envL F f s.heap.objs.size)
  N := N
  s_0 := s
  H_0 := H
  env := envL F f s.heap.objs.size
  outer := outer
  stack := envL F f s.heap.objs.size :: outer
  ex := []
  fn := fun x => F.scope.names.lookup x == some .cell
  calm := true
  pn := []
  xe := fun e s' => wpAny (model P w) (A.deeper (envL F f s.heap.objs.size)) (leaving (envL F f s.heap.objs.size) e) (fun _ s'' => CX outer H s E e s'') (fun e' s'' => CX outer H s E e' s'') s'

section
variable {CX : CXT} {P : Program} {w : World} {K : PySem.W.Frag} {mg : Str → Option Value} {base : Heap} {N fr : List Str} {p : Str} {F : LF} {f : Addr} {A : Around} {outer : List Env} {s : Shared} {H : Hp} {E : XK} {u : Value} {v : V} {ws : List (Option V)}
/-- the frame's map and the parameter's cell, as the call leaves them -/
structure Laid (F : LF) (p : Str) (u : Value) (L : Addr) (h h1 : Heap) : Prop where
  keep : ∀ b o, h.get? b = some o → h1.get? b = some o
  ns : ∃ m, h1.Ns L m ∧ (F.scope.names.lookup p = some .local → m p = some u)
  cells : ∀ y c, (y, c) ∈ cellsFrom (L + 1) F.scope.names F.cl → (y, c) ∈ F.cl ∨ (F.scope.names.lookup y = some .cell ∧ L < c ∧ ∃ z, h1.IsCell c z)
  pc : ∀ c, F.scope.names.lookup p = some .cell → (cellsFrom (L + 1) F.scope.names F.cl).lookup p = some c → h1.IsCell c (some u)

theorem inv_lstart {h1 : Heap} {tk : Nat} (S : LScope N p fr F.scope) (CL : ClOk F.cl F.scope) (hd : A.handled = none) (e0 : Env0 P w K mg base A outer s H) (r : L2.RelV v u) (C : CellsAt F.cl fr ws s.heap H)
    (Y : Laid F p u s.heap.objs.size s.heap h1) : Inv (lcx CX P w K mg base N F f A outer s H E) [] (startL N v ws) H { s with heap := h1, toks := tk } := by
  have hpl : 1 + fr.length ≤ N.length := by
    have q := congrArg List.length S.pre
    rw [List.length_take, List.length_cons] at q
    omega
  have noA : ∀ b : Addr, b ∉ (lcx CX P w K mg base N F f A outer s H E).ex := fun b z => absurd (show b ∈ ([] : List Addr) from z) (by simp)
  have cellK : ∀ {c : Addr} {v : Option Value}, s.heap.IsCell c v → h1.IsCell c v := fun {c v} ⟨o, ho, hd⟩ => ⟨o, Y.keep _ _ ho, hd⟩
  have clt : ∀ q ∈ F.cl, q.2 < (s.heap.push { cls := .type "frame", data := .dict #[] }).objs.size := fun ⟨y, c⟩ hq => by
    obtain ⟨_, z, hz⟩ := C.all y c (CL.fn y c hq)
    rw [Heap.size_push]
    exact Nat.lt_succ_of_lt hz.lt
  have cinj : ∀ x y c, (x, c) ∈ F.cl → (y, c) ∈ F.cl → x = y := fun x y c a b => C.inj x y c (CL.fn _ _ a) (CL.fn _ _ b)
  have esz : (s.heap.push { cls := .type "frame", data := .dict #[] }).objs.size = s.heap.objs.size + 1 := Heap.size_push ..
  refine ⟨⟨e0.mod, S.kind, rfl, rfl, Nat.le_refl _, fun x y c e1 e2 => ?_, fun y hy => ?_, fun y c z e => ?_, fun _ => hd, Around.frames_deeper e0.frames, .inr ⟨rfl, rfl⟩, fun b z => absurd z (noA b), e0.bs, e0.bsz, fun b _ _ => noA b,
      fun b z => absurd z (noA b), e0.funs, e0.frf⟩,
    rfl, e0.bare, Un.kept Y.keep, ?_, fun y c e => ?_, e0.hok.fresh (Nat.le_refl _), fun y c e => ?_, fun q hq => absurd (show q ∈ ([] : List (Addr × Obj)) ++ [] from hq) (by simp), e0.hok.kept Y.keep, ?_⟩
  · have e1 : (cellsFrom (s.heap.objs.size + 1) F.scope.names F.cl).lookup x = some c := e1
    have e2 : (cellsFrom (s.heap.objs.size + 1) F.scope.names F.cl).lookup y = some c := e2
    rw [← esz] at e1 e2
    exact cells_inj clt cinj (PySem.mem_of_lookup e1) (PySem.mem_of_lookup e2)
  · have hy : F.scope.names.lookup y = some .cell ∨ F.scope.names.lookup y = some .free := hy
    show ∃ c, (cellsFrom (s.heap.objs.size + 1) F.scope.names F.cl).lookup y = some c
    rcases hy with hy | hy
    · exact Option.isSome_iff_exists.mp (PySem.W.cellsFrom_some F.scope.names _ F.cl (.inl hy))
    · obtain ⟨i, hi⟩ := List.mem_iff_getElem?.mp (S.free _ (PySem.mem_of_lookup hy) rfl)
      obtain ⟨c, hc, _⟩ := C.has i y hi
      exact mem_lookup (cells_acc (PySem.mem_of_lookup hc))
  · have z : (F.scope.names.lookup y == some .cell) = true := z
    have e : (cellsFrom (s.heap.objs.size + 1) F.scope.names F.cl).lookup y = some c := e
    show s.heap.objs.size ≤ c
    rcases Y.cells y c (PySem.mem_of_lookup e) with hm | ⟨_, q, _⟩
    · have hf := S.uniq _ (CL.fr y c hm)
      rw [hf] at z
      cases z
    · exact Nat.le_of_lt q
  · obtain ⟨m, hn, hm⟩ := Y.ns
    refine ⟨m, hn, fun i y x e1 e2 e3 => ?_⟩
    have e1 : N[i]? = some y := e1
    have e3 : Vis F.scope y := e3
    have clen := C.len
    cases i with
    | zero =>
      have ey : y = p := by
        have q := congrArg (fun l => l[0]?) S.pre
        rw [List.getElem?_take_of_lt (by omega), e1] at q
        exact Option.some.inj q
      subst ey
      have ex : x = v := (Option.some.inj (Option.some.inj e2)).symm
      subst ex
      refine ⟨u, r, ?_⟩
      rcases S.par with k | k
      · exact .inl ⟨k, hm k⟩
      · obtain ⟨c, hc⟩ := Option.isSome_iff_exists.mp (PySem.W.cellsFrom_some F.scope.names (s.heap.objs.size + 1) F.cl (.inl k))
        exact .inr ⟨.inl k, c, hc, Y.pc c k hc⟩
    | succ i =>
      have e2 : (ws ++ List.replicate (N.length - 1 - ws.length) (none : Option V))[i]? = some (some x) := e2
      by_cases h2 : i < fr.length
      · have hq : fr[i]? = some y := by
          have q := congrArg (fun l => l[i + 1]?) S.pre
          rw [List.getElem?_take_of_lt (by omega), e1, List.getElem?_cons_succ] at q
          exact q.symm
        rw [List.getElem?_append_left (by omega)] at e2
        obtain ⟨c, hc, hv⟩ := C.has i y hq
        obtain ⟨u', ru, hu⟩ := hv x e2
        have hfree := S.frk y (List.mem_of_getElem? hq)
        obtain ⟨c2, hc2⟩ := mem_lookup (cells_acc (names := F.scope.names) (n := s.heap.objs.size + 1) (PySem.mem_of_lookup hc))
        have ec : c2 = c := by
          rcases Y.cells y c2 (PySem.mem_of_lookup hc2) with hm2 | ⟨q, _⟩
          · have q := CL.fn y c2 hm2
            rw [hc] at q
            exact (Option.some.inj q).symm
          · rw [hfree] at q
            cases q
        rw [ec] at hc2
        exact ⟨u', ru, .inr ⟨.inr hfree, c, hc2, cellK hu⟩⟩
      · rw [List.getElem?_append_right (by omega), List.getElem?_replicate] at e2
        split at e2 <;> cases e2
  · have e : (cellsFrom (s.heap.objs.size + 1) F.scope.names F.cl).lookup y = some c := e
    rcases Y.cells y c (PySem.mem_of_lookup e) with hm | ⟨_, _, z⟩
    · obtain ⟨_, z, hz⟩ := C.all y c (CL.fn y c hm)
      exact ⟨z, cellK hz⟩
    · exact z
  · have e : (cellsFrom (s.heap.objs.size + 1) F.scope.names F.cl).lookup y = some c := e
    rcases Y.cells y c (PySem.mem_of_lookup e) with hm | ⟨_, q, _⟩
    · exact (C.all y c (CL.fn y c hm)).1
    · exact e0.hok.fresh (Nat.le_of_lt q)
  · have clen := C.len
    show (startL N v ws).length = N.length
    unfold startL
    rw [List.length_cons, List.length_append, List.length_replicate]
    omega

/-- the environment of the call -/
theorem env_lam {Q : Env → Shared → Prop} {EE : Value → Shared → Prop} (S : LScope N p fr F.scope) (C : CellsAt F.cl fr ws s.heap H) (CL : ClOk F.cl F.scope)
    (hQ : ∀ h1, Laid F p u s.heap.objs.size s.heap h1 → Q (envL F f s.heap.objs.size) { s with heap := h1, toks := s.toks + 1 } ∧ Q (envL F f s.heap.objs.size) { s with heap := h1 }) :
    wpAny (model P w) A (newFunctionEnv F.scope mainGlobals F.cl [(p, u)] (F.qual ++ ".<locals>.") (some f) (.ref F.c) none builtinsNs) Q EE s := by
  simp only [newFunctionEnv, Option.isSome_none, Bool.false_eq_true, if_false]
  refine wpAny_bind (wpAny_alloc ?_)
  refine wpAny_bind (wpAny_layCells _ (fun name kind cells => by cases hkc : kind == NameKind.cell <;> simp [hkc]) _ _ _ _ ?_)
  have esz : (s.heap.push { cls := .type "frame", data := .dict #[] }).objs.size = s.heap.objs.size + 1 := Heap.size_push ..
  rw [show ({ s with heap := s.heap.push { cls := .type "frame", data := .dict #[] } } : Shared).heap.objs.size = s.heap.objs.size + 1 from esz]
  have kp : ∀ b o, s.heap.get? b = some o → (pushCells (s.heap.push { cls := .type "frame", data := .dict #[] }) F.scope.names).get? b = some o := fun b o e => pushCells_keeps _ _ b o (Heap.get?_push_of_some _ e)
  have ns0 : (pushCells (s.heap.push { cls := .type "frame", data := .dict #[] }) F.scope.names).Ns s.heap.objs.size (fun _ => none) := (Heap.Ns.new s.heap (.type "frame")).keeps (pushCells_keeps _ _)
  have cm : ∀ y c, (y, c) ∈ cellsFrom (s.heap.objs.size + 1) F.scope.names F.cl → (y, c) ∈ F.cl ∨ (F.scope.names.lookup y = some .cell ∧ s.heap.objs.size < c ∧ (pushCells (s.heap.push { cls := .type "frame", data := .dict #[] }) F.scope.names).IsCell c none) := fun y c hm => by
    rw [← esz] at hm
    rcases cells_mem hm with z | ⟨z1, z2, z3⟩
    · exact .inl z
    · exact .inr ⟨S.uniq _ z1, by rw [esz] at z2; exact z2, z3⟩
  simp only [List.forIn_cons, List.forIn_nil]
  rcases S.par with k | k
  · refine wpAny_bind (wpAny_bind (wpAny_bind (wpAny_storeName_local k ns0 (fun h' hn' hs' => wpAny_pure ?_) (by rw [S.kind]; rfl))))
    refine wpAny_pure (wpAny_pure ?_)
    refine (hQ h' ⟨fun b o e => ?_, ⟨_, hn', fun _ => by simp⟩, fun y c hm => ?_, fun c z _ => by rw [k] at z; cases z⟩).1
    · exact hs'.extBut b o (Nat.ne_of_lt (Heap.lt_size e)) (kp b o e)
    · rcases cm y c hm with z | ⟨z1, z2, z3⟩
      · exact .inl z
      · exact .inr ⟨z1, z2, none, z3.sameBut hs' (Nat.ne_of_gt z2)⟩
  · obtain ⟨c0, hc0⟩ := Option.isSome_iff_exists.mp (PySem.W.cellsFrom_some F.scope.names (s.heap.objs.size + 1) F.cl (.inl k))
    have h0 : s.heap.objs.size < c0 ∧ (pushCells (s.heap.push { cls := .type "frame", data := .dict #[] }) F.scope.names).IsCell c0 none := by
      rcases cm p c0 (PySem.mem_of_lookup hc0) with z | ⟨_, z2, z3⟩
      · have q := S.uniq _ (CL.fr _ _ z)
        rw [k] at q
        cases q
      · exact ⟨z2, z3⟩
    refine wpAny_bind (wpAny_bind (wpAny_bind (wpAny_storeName_cell S.kind k hc0 h0.2 fun h' hc' hs' => wpAny_pure ?_)))
    refine wpAny_pure (wpAny_pure ?_)
    refine (hQ h' ⟨fun b o e => ?_, ⟨_, ns0.sameBut hs' (Nat.ne_of_lt h0.1), fun z => by rw [k] at z; cases z⟩, fun y c hm => ?_, fun c _ z => ?_⟩).2
    · exact hs'.extBut b o (Nat.ne_of_lt (Nat.lt_trans (Heap.lt_size e) h0.1)) (kp b o e)
    · rcases cm y c hm with z | ⟨z1, z2, z3⟩
      · exact .inl z
      · refine .inr ⟨z1, z2, ?_⟩
        by_cases ec : c = c0
        · rw [ec]
          exact ⟨_, hc'⟩
        · exact ⟨none, z3.sameBut hs' ec⟩
    · rw [hc0] at z
      cases z
      exact hc'
end
end VL
namespace VL
open PySem PySem.Spec PyProof.Rows L2 LamX NdefX
/-- the lambda at f keeps the promise sp (of what it captured and of its argument) -/
structure LamOk (P : Program) (w : World) (K : PySem.W.Frag) (mg : Str → Option Value) (base : Heap) (CX : CXT) (k : Nat) (f : Addr) (F : LF) (fr : List Str) (sp : List (Option V) → V → Hp → VK → XK → Prop) : Prop where
  run : ∀ (A : Around) (outer : List Env) (s : Shared) (H : Hp) (u : Value) (v : V) (ws : List (Option V)) (Q : VK) (E : XK), Room k A → Env0 P w K mg base A outer s H → H f = some (LamO f F) → H F.c = some (CodeO F.c F.qual) →
    CellsAt F.cl fr ws s.heap H → L2.RelV v u → sp ws v H Q E → codeAny (model P w) A (.call (.ref f) ⟨[u], []⟩) (CR CX outer P w H s Q E) s
section
variable {CX : CXT} {P : Program} {w : World} {K : PySem.W.Frag} {mg : Str → Option Value} {base : Heap} {N fr : List Str} {p : Str} {F : LF} {f : Addr} {k : Nat} {sp : List (Option V) → V → Hp → VK → XK → Prop}
theorem lamOk_of (S : LScope N p fr F.scope) (CL : ClOk F.cl F.scope) (hb : ∀ (pm ctv u : Value), bindArgs (PySem.W.kla_fn "<lambda>" F.qual F.params F.body F.scope F.cl pm (.ref F.c) ctv) ⟨[u], []⟩ = pure [(p, u)])
    (hbody : ∀ (A : Around) (outer : List Env) (s : Shared) (H : Hp) (v : V) (ws : List (Option V)) (Q : VK) (E : XK), Room k (A.deeper (envL F f s.heap.objs.size)) → ws.length = fr.length → sp ws v H Q E →
      ∃ t, PE (lcx CX P w K mg base N F f A outer s H E) F.body t ∧ t (startL N v ws) H Q) :
    LamOk P w K mg base CX (k + 1) f F fr sp := by
  refine ⟨fun A outer s H u v ws Q E hr e0 hf hc C r hsp => ?_⟩
  have lim : s.heap.NoLimit := e0.mod.nolimit.keeps fun b o e => (e0.bs b o e).1
  obtain ⟨od, sl, pm, ctv, ho⟩ := lamO_at e0.hok hf
  refine PySem.W.kla_callFunE hr.depth ho rfl S.co S.gen rfl (codeO_at e0.hok hc) ?_
  rw [hb pm ctv u]
  obtain ⟨t, ht, hq⟩ := hbody A outer s H v ws Q E (hr.deeper _) C.len hsp
  have main : ∀ (h1 : Heap) (tk : Nat), Laid F p u s.heap.objs.size s.heap h1 →
      (({ s with heap := h1, toks := tk } : Shared).heap.NoLimit ∧ codeAny (model P w) A (.expr F.body (envL F f s.heap.objs.size)) (CR CX outer P w H s Q E) { s with heap := h1, toks := tk }) := fun h1 tk Y => by
    refine ⟨lim.keeps Y.keep, ?_⟩
    have I : Inv (lcx CX P w K mg base N F f A outer s H E) [] (startL N v ws) H { s with heap := h1, toks := tk } := inv_lstart S CL hr.hd e0 r C Y
    refine PySem.W.kla_codeExpr (wpAny_mono (ht.run [] _ (startL N v ws) H Q I hq) (fun v' s' hs => ?_) fun e s' hs => hs)
    obtain ⟨w', H', J', rv, q⟩ := hs
    exact ⟨w', H', J'.os, J'.bare, J'.base, J'.hok, rv, q⟩
  exact wpAny_pure (env_lam S C CL fun h1 Y => ⟨main h1 _ Y, main h1 _ Y⟩)
end
/-- the captured cells, seen from a def that got the lambda and was entered at (s_0, H_0) -/
theorem cells_later {X : Cx} {pins : List (Addr × Obj)} {σ : L2.St} {H : Hp} {s : Shared} {cl : List (Str × Addr)} {fr : List Str} {ws : List (Option V)} (I : Inv X pins σ H s) (hex : X.ex = []) (C : CellsAt cl fr ws X.s_0.heap X.H_0) : CellsAt cl fr ws s.heap H := by
  have nx : ∀ b : Addr, b ∉ X.ex := fun b z => by rw [hex] at z; cases z
  have kp : ∀ {c : Addr} {v : Option Value}, X.H_0 c = none → X.s_0.heap.IsCell c v → s.heap.IsCell c v := fun {c v} n ⟨o, ho, hd⟩ => by
    obtain ⟨sl, q⟩ := I.base.any ho n (nx c)
    exact ⟨_, q, hd⟩
  refine ⟨C.len, fun y c e => ?_, C.inj, fun i y e => ?_⟩
  · obtain ⟨n, v, z⟩ := C.all y c e
    have ⟨o, ho, hd⟩ := z
    exact ⟨I.base.free c o ho n (nx c), v, kp n z⟩
  · obtain ⟨c, hc, hv⟩ := C.has i y e
    refine ⟨c, hc, fun v ev => ?_⟩
    obtain ⟨u, r, z⟩ := hv v ev
    exact ⟨u, r, kp (C.all y c hc).1 z⟩
/-- x(e): the slot i holds the lambda -/
def tCallL (F : LF) (i : Nat) (sp : V → Hp → VK → XK → Prop) (E : XK) (t : TA) : TE := fun σ H Q => ∃ f, σ[i]? = some (some (.ref f)) ∧ H f = some (LamO f F) ∧ t σ H fun vs H1 => ∃ v, vs = [v] ∧ H1 f = some (LamO f F) ∧ H1 F.c = some (CodeO F.c F.qual) ∧ sp v H1 Q E
theorem lamAt_of {X : Cx} {pins : List (Addr × Obj)} {σ : L2.St} {H : Hp} {s : Shared} {f : Addr} {F : LF} (I : Inv X pins σ H s) (e : H f = some (LamO f F)) : ∃ (oc : Value) (od : Option Addr) (fd : FuncData) (sl : Array (Option Value)), s.heap.get? f = some ⟨.type "function", od, .func fd, sl⟩ := by
  obtain ⟨od, sl, pm, ctv, ho⟩ := lamO_at I.hok e
  exact ⟨.none, od, _, sl, ho⟩
section
variable {X : Cx} {CX : CXT} {F : LF} {fr : List Str} {ws : List (Option V)} {i j k : Nat} {x : Str} {sp : List (Option V) → V → Hp → VK → XK → Prop} {E : XK} {t : TA} {e : Expr} {es : List Expr} {p pos : Pos}
theorem pe_callL (Fn : ∀ f, LamOk X.prog X.w X.K X.mg X.base CX k f F fr sp) (C : CellsAt F.cl fr ws X.s_0.heap X.H_0) (hex : X.ex = []) (hr : Room j X.A) (hk : k ≤ j) (hx : Passes CX X E) (hN : X.N[i]? = some x) (hv : Vis X.env.scope x) (ha : PA X [e] t)
    (hd : (x == ("__debug__" : Str)) = false := by decide) (hcd : (x == ("__classdict__" : Str)) = false := by decide)
    (he : starEach [e] X.env = (false, eval e X.env) :: starEach [] X.env := by rfl) (hpl : (backTo pos (starEach [] X.env)).any (·.1) = false := by rfl) :
    PE X (.Call (.Name x p) [e] [] pos) (tCallL F i (sp ws) E t) := by
  refine ⟨fun pins s σ H Q I h => ?_⟩
  obtain ⟨f, hs, hf, ht⟩ := h
  refine wpAny_Call_Name_kw (thn ((pe_var (pos := p) hN hv hd hcd).run pins s σ H (fun v H1 => v = .ref f ∧ H1 = H) I ⟨.ref f, hs, rfl, rfl⟩) fun u s1 ⟨v, H1, I1, r1, q1⟩ => ?_)
  obtain ⟨ev, eH⟩ := q1
  subst ev
  rw [eH] at I1
  obtain rfl : u = Value.ref f := r1
  have at_ : ∀ {H2 : Hp} {s2 : Shared}, Inv X pins σ H2 s2 → H2 f = some (LamO f F) → PySem.W.FnAt f s2.heap := fun {H2 s2} I2 e2 => by
    obtain ⟨od, sl, pm, ctv, ho⟩ := lamO_at I2.hok e2
    exact ⟨_, od, _, sl, ho⟩
  refine PySem.W.callWith_F (first := []) (at_ I1 hf) (thn (ha.run pos pins s1 σ H _ I1 ht) fun us s2 ⟨vs, H2, I2, r, v, ev, h1, h2, q⟩ => ⟨at_ I2 h1, ?_⟩) he hpl
  subst ev
  obtain ⟨u0, rfl, rv⟩ : ∃ u0, us = [u0] ∧ L2.RelV v u0 := by
    cases r with
    | cons rv rt =>
      cases rt
      exact ⟨_, rfl, rv⟩
  · show wpAny _ _ (call (.ref f) [u0]) _ _ _
    refine wpAny_call (codeAny_mono ((Fn f).run X.A X.stack s2 H2 u0 v ws Q E (hr.mono hk) I2.env0 h1 h2 (cells_later I2 hex C) rv q) fun r s' hq => ?_)
    cases r with
    | error e => exact hx pins σ H2 s2 e s' I2 hq
    | ok fl =>
      cases fl with
      | ret u => exact I2.after hq
      | next => exact False.elim hq
      | brk => exact False.elim hq
      | cont => exact False.elim hq
end
/-- a def's promise that may speak of the state at the call -/
structure FnOkS (P : Program) (w : World) (K : PySem.W.Frag) (mg : Str → Option Value) (base : Heap) (CX : CXT) (k : Nat) (f : Addr) (fd : FuncData) (ps : List Str) (sp : Shared → Sp) : Prop where
  len : ∀ s vs H Q E, sp s vs H Q E → vs.length = ps.length
  run : ∀ (A : Around) (outer : List Env) (s : Shared) (H : Hp) (args : Args) (us : List Value) (vs : List V) (Q : VK) (E : XK), Room k A → Env0 P w K mg base A outer s H → BindsTo s fd args (ps.zip us) → Vals vs us → sp s vs H Q E →
    codeAny (model P w) A (.call (.ref f) args) (CR CX outer P w H s Q E) s
section
variable {P : Program} {w : World} {K : PySem.W.Frag} {mg : Str → Option Value} {base : Heap}
theorem okS {CX : CXT} {x qual : Str} {st : Stmt} {f : Addr} {fd : FuncData} {N ps : List Str} {k : Nat} {sp : Shared → Sp} (F : Fun K x qual st f fd) (S : FnScope N ps (defScope st)) (len : ∀ s vs H Q E, sp s vs H Q E → vs.length = ps.length)
    (hbody : ∀ (cdv : Value) (A : Around) (outer : List Env) (s : Shared) (H : Hp) (vs : List V) (Q : VK) (E : XK), Room k (A.deeper (envOfC qual (defScope st) s.heap.objs.size f cdv)) → sp s vs H Q E →
      ∃ t, PSs (cxOf CX P w K mg base N qual (defScope st) f cdv A outer s H E) (defBody st) t ∧ t { nx := fun _ H' => Q .non H', rt := Q } (start N vs) H) : FnOkS P w K mg base CX (k + 1) f fd ps sp := by
  obtain ⟨oc, od, kV, doc, pm, an, cdv, ct, osl, rfl, lk, hcd⟩ := F.ex
  exact ⟨len, fun A outer s H args us vs Q E hr e0 hb r hsp => run_ofS lk hcd S hr e0 hb r (len _ _ _ _ _ hsp) fun hr' => hbody cdv A outer s H vs Q E hr' hsp⟩
end
def tCallSt (X : Cx) (sp : Shared → Sp) (E : XK) (t : TA) : TE := fun σ H Q => t σ H fun vs H1 => ∀ (pins : List (Addr × Obj)) (s : Shared), Inv X pins σ H1 s → sp s vs H1 Q E
section
variable {X : Cx} {CX : CXT} {k : Nat} {f : Addr} {fd : FuncData} {ps : List Str} {sp : Shared → Sp} {E : XK} {x : Str} {p pos : Pos} {e : Expr} {es : List Expr} {t : TA}
theorem pe_callSt (F : FnOkS X.prog X.w X.K X.mg X.base CX k f fd ps sp) (hr : Room k X.A) (hg : Gl X x) (hm : X.mg x = some (.ref f)) (hk : PySem.W.keepIn X.K (.ref f) = true) (hb : Binds X.K fd ps []) (hx : Passes CX X E)
    (ha : PA X (e :: es) t) (hdb : (x == ("__debug__" : Str)) = false := by decide) (he : starEach (e :: es) X.env = (false, eval e X.env) :: starEach es X.env := by rfl) (hpl : (backTo pos (starEach es X.env)).any (·.1) = false := by rfl) :
    PE X (.Call (.Name x p) (e :: es) [] pos) (tCallSt X sp E t) := by
  refine ⟨fun pins s σ H Q I h => ?_⟩
  refine wpAny_Call_Name_kw (ld_glob I hg hm ?_ hdb)
  refine PySem.W.callWith_K (h₀ := X.base) I.ok.mod.kin hk (thn (ha.run pos pins s σ H _ I h) fun us s1 ⟨vs, H1, I1, r, q⟩ => ⟨I1.kIn, ?_⟩) he hpl
  have q1 := q pins s1 I1
  have hl : us.length = ps.length := by rw [← r.length]; exact F.len _ _ _ _ _ q1
  have hb1 := hb s1 us I1.kIn (by rw [List.append_nil]; exact hl)
  rw [List.append_nil] at hb1
  show wpAny _ _ (call (.ref f) us) _ _ _
  refine wpAny_call (codeAny_mono (F.run X.A X.stack s1 H1 ⟨us, []⟩ us vs Q E hr I1.env0 hb1 r q1) fun r s' hq => ?_)
  cases r with
  | error e => exact hx pins σ H1 s1 e s' I1 hq
  | ok fl =>
    cases fl with
    | ret u => exact I1.after hq
    | next => exact False.elim hq
    | brk => exact False.elim hq
    | cont => exact False.elim hq
end
/-- a statement that no way reaches -/
theorem ps_dead {X : Cx} {st : Stmt} : PS X st (fun _ _ _ => False) := ⟨fun _ _ _ _ _ _ h => h.elim⟩
theorem pe_dead {X : Cx} {e : Expr} : PE X e (fun _ _ _ => False) := ⟨fun _ _ _ _ _ _ h => h.elim⟩
end VL
namespace VL
open PySem PySem.Spec PyProof.Rows L2 LamX NdefX
def lscB (N : List Str) (p : Str) (fr : List Str) (sc : Scope) : Bool :=
  decide (sc.kind = .function) && !sc.isCoroutine && !sc.isGenerator && decide N.Nodup && decide (N.take (1 + fr.length) = p :: fr) && (decide (sc.names.lookup p = some .local) || decide (sc.names.lookup p = some .cell)) &&
    sc.names.all (fun y => decide (sc.names.lookup y.1 = some y.2)) && sc.names.all (fun y => !decide (y.2 = .cell) || decide (y.1 = p)) && sc.names.all (fun y => !decide (y.2 = .free) || decide (y.1 ∈ fr)) && fr.all (fun x => decide (sc.names.lookup x = some .free))
theorem lscope_by {N : List Str} {p : Str} {fr : List Str} {sc : Scope} (h : lscB N p fr sc = true) : LScope N p fr sc := by
  unfold lscB at h
  simp only [Bool.and_eq_true, Bool.or_eq_true, Bool.not_eq_true', decide_eq_true_eq, decide_eq_false_iff_not, List.all_eq_true] at h
  obtain ⟨⟨⟨⟨⟨⟨⟨⟨⟨h1, h2⟩, h3⟩, h4⟩, h5⟩, h6⟩, h7⟩, h8⟩, h9⟩, h10⟩ := h
  exact ⟨h1, h2, h3, h4, h5, h6, h7, fun y hy e => (h8 y hy).elim (fun z => absurd e z) id, fun y hy e => (h9 y hy).elim (fun z => absurd e z) id, h10⟩
/-- each free name of the inner scope is one that the outer scope has -/
def freeB (sc scope : Scope) : Bool := scope.names.all fun y => !decide (y.2 = .free) || decide (sc.names.lookup y.1 = some .cell) || decide (sc.names.lookup y.1 = some .free)
theorem free_by {sc scope : Scope} (h : freeB sc scope = true) : ∀ y ∈ scope.names, y.2 = .free → sc.names.lookup y.1 = some .cell ∨ sc.names.lookup y.1 = some .free := fun y hy e => by
  unfold freeB at h
  simp only [List.all_eq_true, Bool.or_eq_true, Bool.not_eq_true', decide_eq_false_iff_not, decide_eq_true_eq] at h
  rcases h y hy with (z | z) | z
  · exact absurd e z
  · exact .inl z
  · exact .inr z
end VL
/-! Sets of texts: their comprehension, set(a list), sorted. -/
namespace VT
open PySem PySem.Spec PyProof.Rows L2
def keyT (e : Int × Value) : Str := match e.2 with
  | .str z _ => z
  | _ => Str.empty
def GoodT (w : World) (e : Int × Value) : Prop := ∃ z tk, e.2 = Value.str z tk ∧ e.1 = hashStr w z
/-- the set of texts at a: S its members, n their number; its table can be walked -/
def SetT (w : World) (h : Heap) (a : Addr) (S : Str → Bool) (n : Nat) : Prop :=
  ∃ o es ep t, h.get? a = some o ∧ o.ExactSet ∧ o.data = .set es ep t ∧ (∀ e ∈ es.toList, GoodT w e) ∧ (es.toList.map keyT).Nodup ∧ (∀ z, S z = true ↔ z ∈ es.toList.map keyT) ∧
    es.size < scanBound ∧ t.fits es.size = true ∧ es.size = n ∧ Ris t.place.toList ∧ (w.params.followText "set-order" = true ∨ t.led = true)
section
variable {P : Program} {w : World} {h h' : Heap} {a : Addr} {S : Str → Bool} {n : Nat}
theorem SetT.at (R : SetT w h a S n) (k : ∀ o, h.get? a = some o → h'.get? a = some o) : SetT w h' a S n :=
  let ⟨o, es, ep, t, ho, r⟩ := R
  ⟨o, es, ep, t, k o ho, r⟩
theorem SetT.congr {S' : Str → Bool} (R : SetT w h a S n) (e : ∀ z, S' z = S z) : SetT w h a S' n := (funext e : S' = S) ▸ R
theorem goodT_elems {l : List (Int × Value)} (g : ∀ e ∈ l, GoodT w e) : ElemsOf (PySem.strKind P w) l := fun e he =>
  let ⟨z, tk, h1, h2⟩ := g e he
  ⟨⟨z, by rw [h1]; exact strKind_is P w z tk, h2⟩, by rw [h1]; rfl⟩
theorem goodT_is {e : Int × Value} (g : GoodT w e) (k : Str) : (PySem.strKind P w).is k e.2 = true ↔ keyT e = k := by
  obtain ⟨z, tk, h1, _⟩ := g
  unfold keyT
  rw [h1]
  constructor
  · intro q
    exact (PySem.strKind P w).inj _ _ _ (strKind_is P w z tk) q
  · intro q
    rw [← q]
    exact strKind_is P w z tk
theorem goodT_mem {l : List (Int × Value)} (g : ∀ e ∈ l, GoodT w e) (k : Str) : k ∈ l.map keyT ↔ ∃ e ∈ l, (PySem.strKind P w).is k e.2 = true := by
  rw [List.mem_map]
  exact ⟨fun ⟨e, he, q⟩ => ⟨e, he, (goodT_is (g e he) k).2 q⟩, fun ⟨e, he, q⟩ => ⟨e, he, (goodT_is (g e he) k).1 q⟩⟩
theorem SetT.setOf (R : SetT w h a S n) : h.SetOf (PySem.strKind P w) a S n := by
  obtain ⟨o, es, ep, t, ho, hx, hd, g, nd, hm, hb, hf, hn, _⟩ := R
  exact ⟨o, es, ep, t, ho, hx, hd, goodT_elems g, fun z => (hm z).trans (goodT_mem g z), hb, hf, hn⟩
end
section
variable {P : Program} {w : World} {A : Around} {E : Value → Shared → Prop} {s : Shared} {a : Addr} {S : Str → Bool} {n : Nat}
theorem putT_at {h : Heap} {a : Addr} {o : Obj} {es es' : Array (Int × Value)} {ep : Nat} {t t' : SetTable} (ho : h.get? a = some o) (hd : o.data = .set es ep t) :
    (h.update a (Obj.putSet es' t')).get? a = some { o with data := .set es' (ep + 1) t' } := by
  have q := Heap.get?_update_self (Obj.putSet es' t') ho (by rw [putSet_of es' t' hd]; rfl)
  exact (putSet_of es' t' hd) ▸ q
theorem addT_tail {g : Bool → Sem Unit} (hg : ∀ (b : Bool) (s₁ : Shared) (Q' : Unit → Shared → Prop), Q' () s₁ → wpAny (model P w) A (g b) Q' E s₁)
    {o : Obj} {es : Array (Int × Value)} {ep : Nat} {t : SetTable} (ho : s.heap.get? a = some o) (hex : o.ExactSet) (hd : o.data = .set es ep t)
    {em : Array (Int × Value)} {tm : SetTable} {S' : Str → Bool} (gm : ∀ e ∈ em.toList, GoodT w e) (ndm : (em.toList.map keyT).Nodup) (mm : ∀ z, S' z = true ↔ z ∈ em.toList.map keyT)
    (hbm : em.size < scanBound) (hfm : tm.fits em.size = true) (hrm : Ris tm.place.toList) (hlm : w.params.followText "set-order" = true ∨ tm.led = true) {wasDummy : Bool} {R : Option Bool → Shared → Prop}
    (hR : ∀ h', Heap.SameBut a s.heap h' → SetT w h' a S' em.size → R (some true) { s with heap := h' }) :
    wpAny (model P w) A (do
        storeSet a em tm
        if (!wasDummy && tm.tooFull) = true then do
            g (relayAll tm em (SetTable.grown em.size)).2.2
            storeSet a (relayAll tm em (SetTable.grown em.size)).1 (relayAll tm em (SetTable.grown em.size)).2.1
            pure (some true)
          else pure (some true)) R E s := by
  refine wpAny_bind (wpAny_storeSet_of ho hd ?_ (fits_of_scanBound hbm))
  have om := putT_at (es' := em) (t' := tm) ho hd
  have sm := Heap.SameBut.update s.heap a (Obj.putSet em tm)
  split
  · have pm := relayAll_perm tm em (SetTable.grown em.size)
    have f3 := relayAll_fits tm em (SetTable.grown em.size)
    have r3 := relayAll_ris tm em (SetTable.grown em.size)
    have l3 := relayAll_led tm em (SetTable.grown em.size)
    generalize relayAll tm em (SetTable.grown em.size) = Z at pm f3 r3 l3 ⊢
    obtain ⟨e2, t3, gave⟩ := Z
    dsimp only at pm f3 r3 l3 ⊢
    have hsz : e2.size = em.size := by rw [← Array.length_toList, pm.length_eq, Array.length_toList]
    have hb2 : e2.size < scanBound := hsz ▸ hbm
    refine wpAny_bind (hg _ _ _ (wpAny_bind (wpAny_storeSet_of om rfl ?_ (fits_of_scanBound hb2))))
    have o2 := putT_at (es' := e2) (t' := t3) om rfl
    refine wpAny_pure (hR _ (sm.trans (Heap.SameBut.update _ a _)) ?_)
    exact ⟨_, e2, _, t3, o2, hex, rfl, fun e he => gm e (pm.mem_iff.mp he), (pm.map keyT).nodup_iff.mpr ndm, fun z => (mm z).trans (pm.map keyT).mem_iff.symm, hb2, f3, hsz, r3,
      hlm.imp id fun z => l3 ▸ z⟩
  · exact wpAny_pure (hR _ sm ⟨_, em, _, tm, om, hex, rfl, gm, ndm, mm, hbm, hfm, rfl, hrm, hlm⟩)
theorem addT_hashed {k : Str} {tk : Tok} {Q : Bool → Shared → Prop} (R : SetT w s.heap a S n) (room : n + 1 < scanBound)
    (hQ : ∀ h', Heap.SameBut a s.heap h' → SetT w h' a (fun j => S j || decide (j = k)) (if S k = true then n else n + 1) → Q (!S k) { s with heap := h' }) :
    wpAny (model P w) A (setAddHashed a (.str k tk) ((PySem.strKind P w).hash k)) Q E s := by
  obtain ⟨o, es, ep, t, ho, hex, hd, g, nd, hm, hb, hf, hn, hr, hl⟩ := R
  have hkey : (PySem.strKind P w).is k (.str k tk) = true := strKind_is P w k tk
  have hsc : (Value.str k tk).scannable = true := rfl
  have hel : ElemsOf (PySem.strKind P w) es.toList := goodT_elems g
  unfold setAddHashed setAddHashedIn
  refine wpAny_holding (wpAny_bind (wpAny_setState_of ho hd hf ?_))
  dsimp only
  rw [byScan_of hsc hb hel]
  simp only [↓reduceIte]
  unfold setAddByScan
  refine wpAny_bind (wpAny_bind (wpAny_rule (wpAny_bind (wpAny_setScan_of hkey ho hd hf hel ?_))))
  cases hfi : List.findIdx? (fun e => (PySem.strKind P w).is k e.2) es.toList with
  | some j =>
    dsimp only
    obtain ⟨hj, pj, _⟩ := List.findIdx?_eq_some_iff_getElem.mp hfi
    have hSk : S k = true := (hm k).2 ((goodT_mem (P := P) (w := w) g k).2 ⟨es.toList[j], List.getElem_mem hj, pj⟩)
    have q := hQ s.heap (Heap.SameBut.refl a s.heap) ⟨o, es, ep, t, ho, hex, hd, g, nd, fun i => by
      rw [Bool.or_eq_true, decide_eq_true_eq, ← hm i]
      exact ⟨fun z => z.elim id (fun e => e ▸ hSk), .inl⟩, hb, hf, by rw [if_pos hSk]; exact hn, hr, hl⟩
    rw [hSk] at q
    exact wpAny_pure (wpAny_pure q)
  | none =>
    dsimp only
    have hnk : k ∉ es.toList.map keyT := fun z => by
      obtain ⟨e, he, q⟩ := (goodT_mem (P := P) (w := w) g k).1 z
      have c := List.findIdx?_eq_none_iff.mp hfi e he
      rw [q] at c
      cases c
    have hSk : S k = false := Bool.eq_false_iff.mpr fun q => hnk ((hm k).1 q)
    have hgw : ∀ (b : Bool) {s₁ : Shared} {Q' : Unit → Shared → Prop}, Q' () s₁ → wpAny (model P w) A (match b with | true => rule "set.scan.the-table-gave-way" | false => pure ()) Q' E s₁ :=
      fun b s₁ Q' q => by cases b <;> first | exact wpAny_pure q | exact wpAny_rule q
    have pm := layNew_perm t es ((PySem.strKind P w).hash k) (.str k tk)
    have f1 := layNew_fits t es ((PySem.strKind P w).hash k) (.str k tk)
    have r1 := layNew_ris t es ((PySem.strKind P w).hash k) (.str k tk) hr
    have l1 := layNew_led t es ((PySem.strKind P w).hash k) (.str k tk)
    generalize layNew t es ((PySem.strKind P w).hash k) (.str k tk) = Z at pm f1 r1 l1 ⊢
    obtain ⟨e1, t1, wasDummy, gave⟩ := Z
    dsimp only at pm f1 r1 l1 ⊢
    rw [Array.toList_push] at pm
    have pc : e1.toList.Perm (((PySem.strKind P w).hash k, Value.str k tk) :: es.toList) := pm.trans (List.perm_append_singleton _ _)
    have pk : (e1.toList.map keyT).Perm (k :: es.toList.map keyT) := pc.map keyT
    have g1 : ∀ e ∈ e1.toList, GoodT w e := fun e he => by
      rcases List.mem_cons.mp (pc.mem_iff.mp he) with z | z
      · rw [z]
        exact ⟨k, tk, rfl, rfl⟩
      · exact g e z
    have m1 : ∀ i, (S i || decide (i = k)) = true ↔ i ∈ e1.toList.map keyT := fun i => by
      rw [Bool.or_eq_true, decide_eq_true_eq, hm i, pk.mem_iff, List.mem_cons]
      exact Or.comm
    have hsz : e1.size = n + 1 := by rw [← Array.length_toList, pc.length_eq, List.length_cons, Array.length_toList, hn]
    have hled : w.params.followText "set-order" = true ∨ t1.led = true := hl.imp id fun z => l1 ▸ z
    have fin : ∀ h', Heap.SameBut a s.heap h' → SetT w h' a (fun j => S j || decide (j = k)) e1.size → Q true { s with heap := h' } := fun h' sb r => by
      have q := hQ h' sb
      rw [hSk] at q
      rw [hsz] at r
      exact q r
    refine wpAny_bind (hgw _ ?_)
    have hb1 : e1.size < scanBound := hsz ▸ room
    have nd1 := pk.nodup_iff.mpr (List.nodup_cons.mpr ⟨hnk, nd⟩)
    split
    · refine wpAny_bind ?_
      rw [hashByValue_scannable 8 hsc]
      refine wpAny_pure (addT_tail ?_ ho hex hd g1 nd1 m1 hb1 ?_ ?_ ?_ ?_)
      · exact fun b s₁ Q' q => by cases b <;> first | exact wpAny_pure q | exact wpAny_rule q
      · first | (split <;> first | exact f1 | exact SetTable.fits_plain_off f1) | exact f1
      · first | (split <;> exact r1) | exact r1
      · first | (split <;> exact hled) | exact hled
      · exact fun h' sb r => by dsimp only; exact wpAny_pure (fin h' sb r)
    · refine wpAny_bind (wpAny_pure ?_)
      simp only [↓reduceIte]
      refine addT_tail ?_ ho hex hd g1 nd1 m1 hb1 f1 r1 hled ?_
      · exact fun b s₁ Q' q => by cases b <;> first | exact wpAny_pure q | exact wpAny_rule q
      · exact fun h' sb r => by dsimp only; exact wpAny_pure (fin h' sb r)
/-- set.add of a text -/
theorem addT {k : Str} {tk : Tok} {Q : Value → Shared → Prop} (R : SetT w s.heap a S n) (room : n + 1 < scanBound)
    (hQ : ∀ h', Heap.SameBut a s.heap h' → SetT w h' a (fun j => S j || decide (j = k)) (if S k = true then n else n + 1) → Q .none { s with heap := h', toks := s.toks + 1 }) :
    wpAny (model P w) A (call (.builtin "set.add") [.ref a, .str k tk]) Q E s := by
  have hS : s.heap.SetOf (PySem.strKind P w) a S n := R.setOf
  refine wpAny_call_entry F.slot_set_add hS.typeIs F.entry_set_add ?_ (F.args_set_add_2 _ _)
  unfold Builtin.«set.add» Builtin.Frozenset.oneOther
  simp only [List.isEmpty_nil, bind_assoc]
  unfold Builtin.Frozenset.addrOf setAdd
  refine wpAny_bind (wpAny_pure ?_)
  try dsimp only
  refine wpAny_bind (wpAny_pure ?_)
  try dsimp only
  refine wpAny_bind (wpAny_holding (wpAny_bind ((PySem.strKind P w).pyHash (strKind_is P w k tk) ?_)))
  refine addT_hashed (s := { s with toks := s.toks + 1 }) R room fun h' sb r => ?_
  show wpAny _ _ (ret Value.none) _ _ _
  exact wpAny_pure ⟨_, rfl, hQ h' sb r⟩
theorem freshT {h : Heap} (w : World) : SetT w (h.push { cls := .type "set", dict := none, data := .set #[] 0 (.fresh 0 0 (!w.params.followText "set-order")) }) h.objs.size (fun _ => false) 0 :=
  ⟨_, #[], 0, _, Heap.get?_push_size _ rfl, ⟨rfl, rfl, rfl⟩, rfl, (fun e he => by simp at he), (by simp), (fun k => by simp), (by decide), (by rfl), rfl, List.Pairwise.nil, by
    show _ ∨ (!w.params.followText "set-order") = true
    cases w.params.followText "set-order"
    · exact .inr rfl
    · exact .inl rfl⟩
/-- sorted of it -/
theorem sorted_setT {Q : Value → Shared → Prop} (R : SetT w s.heap a S n) (hh : A.handled = none) (h64 : n < 64)
    (hQ : ∀ s' p (out : Array Value) (c : Nat) (ns : List Str), (∀ b o, s.heap.get? b = some o → s'.heap.get? b = some o) → s'.gens = s.gens → s'.os = s.os → s.heap.objs.size ≤ p →
      s'.heap.get? p = some (seqObj "list" out c) → StrsAre out.toList ns → sortedS ns = true → ns.Nodup → (∀ k, k ∈ ns ↔ S k = true) → ns.length = n → Q (.ref p) s') :
    wpAny (model P w) A (call (.builtin "sorted") [.ref a]) Q E s := by
  obtain ⟨o, es, ep, t, ho, hex, hd, g, nd, hm, hb, hf, hn, hr, hl⟩ := R
  refine Calls.call_function_entry kind_sorted plain_sorted entry_sorted (args_sorted1 _) ?_
  unfold Builtin.«sorted»
  refine wpAny_bind (m := checkCount "sorted" 1 1 _) (wpAny_pure ?_)
  refine wpAny_bind (collect_set (A := A.in1) hh ⟨o, ho, hex.1, hd⟩ hf hb hr hl fun s1 vs k1 hz g1 o1 pm => ?_)
  have hvl : vs.length = n := by rw [pm.length_eq, List.length_map, Array.length_toList]; exact hn
  have hall : ∀ v ∈ vs, ∃ z tk, v = Value.str z tk := fun v hv => by
    obtain ⟨e, he, q⟩ := List.mem_map.mp (pm.mem_iff.mp hv)
    obtain ⟨z, tk, e1, _⟩ := g e he
    exact ⟨z, tk, q ▸ e1⟩
  have hS : StrsAre vs (vs.map strOf) := strsAre_map vs hall
  have pk : (vs.map strOf).Perm (es.toList.map keyT) := by
    have q := pm.map strOf
    rw [List.map_map] at q
    have ee : es.toList.map (strOf ∘ fun x => x.2) = es.toList.map keyT := List.map_congr_left fun e he => by
      obtain ⟨z, tk, e1, _⟩ := g e he
      show strOf e.2 = keyT e
      unfold keyT
      rw [e1]
      rfl
    exact ee ▸ q
  refine wpAny_bind (wpAny_newList ?_ (by rw [hvl, sizeLine_eq]; omega))
  have hoL : (s1.heap.push (seqObj "list" vs.toArray 0)).get? s1.heap.objs.size = some (seqObj "list" vs.toArray 0) := Heap.get?_push_size _ rfl
  refine wpAny_bind (wpAny_holding (wpAny_call_entry slot_list_sort ⟨_, hoL, rfl⟩ entry_list_sort (list_sort_treeK strKind_oneLt hoL hS.keysOf (fun v₁ v₂ rest e => keyKind_strs (by rw [← e]; exact hS)) (by rw [hvl]; exact h64) fun st' hp hs => ⟨_, rfl, ?_⟩) (args_list_sort _)))
  obtain ⟨ss, h1, h2, h3⟩ := sorted_out_str hS hp hs
  obtain ⟨c, hc⟩ := sortedHeap_at (vs := vs) (out := (arrOf st').map (·.2)) hoL
  have pn : ss.Perm (es.toList.map keyT) := h2.trans pk
  refine wpAny_pure ⟨_, rfl, hQ _ s1.heap.objs.size _ c ss (fun b u e => ?_) g1 o1 hz hc h1 h3 (pn.nodup_iff.mpr nd) (fun k => by rw [pn.mem_iff, ← hm k]) ?_⟩
  · have q := k1 b u e
    have hlt := Heap.lt_size q
    show (sortedHeap (s1.heap.push (seqObj "list" vs.toArray 0)) s1.heap.objs.size vs _).get? b = some u
    rw [sortedHeap_old (Nat.ne_of_lt hlt) (by rw [size_push']; exact Nat.lt_succ_of_lt hlt)]
    exact Heap.get?_push_of_some _ q
  · rw [pn.length_eq, List.length_map, Array.length_toList]
    exact hn
end
/-! ### over the layer -/
def SetTO (w : World) (a : Addr) (S : Str → Bool) (n : Nat) : HO := .ext fun h => SetT w h a S n
theorem setTO_new {w : World} {P : Program} {H : Hp} {h : Heap} {a : Addr} {S : Str → Bool} {n : Nat} (R : SetT w h a S n) : ObjOk P w H h a (SetTO w a S n) :=
  let ⟨o, _, _, _, ho, _⟩ := id R
  ⟨R, ⟨o, ho⟩, fun h1 h2 p k => SetT.at p k⟩
section
variable {X : Cx}
theorem setTO_get {pins : List (Addr × Obj)} {σ : L2.St} {H : Hp} {s : Shared} {a : Addr} {S : Str → Bool} {n : Nat} (I : Inv X pins σ H s) (ha : H a = some (SetTO X.w a S n)) : SetT X.w s.heap a S n := (I.hok a _ ha).1
theorem addT_ok {pins : List (Addr × Obj)} {σ : L2.St} {H : Hp} {s : Shared} {E : Value → Shared → Prop} {D : Addr} {S : Str → Bool} {n : Nat} {y : Str} {tk : Tok} {Q : Value → Shared → Prop} (I : Inv X pins σ H s) (hD : H D = some (SetTO X.w D S n)) (room : n + 1 < scanBound)
    (h : ∀ s', Inv X pins σ (upd H D (SetTO X.w D (fun j => S j || decide (j = y)) (if S y = true then n else n + 1))) s' → Q .none s') : wpAny (model X.prog X.w) X.A (call (.builtin "set.add") [.ref D, .str y tk]) Q E s := by
  refine addT (setTO_get I hD) room fun h' sb new => ?_
  have he : ∃ u, h'.get? D = some u :=
    let ⟨o, _, _, _, ho, _⟩ := id new
    ⟨o, ho⟩
  exact h _ (I.write (e := D) (t' := s.toks + 1) (by rw [hD]; trivial) (.inl rfl) (fun b u hb hu => (sb.2 b hb).trans hu) he (setTO_new new))
/-- sorted(a set of texts) -/
def rSortedT (w : World) : List V → Hp → VK → Prop := fun vs H Q => ∃ (a : Addr) (S : Str → Bool) (n : Nat), vs = [V.ref a] ∧ H a = some (SetTO w a S n) ∧ n < 64 ∧
  ∀ (ns : List Str) (p : Addr), sortedS ns = true → ns.Nodup → (∀ k, k ∈ ns ↔ S k = true) → ns.length = n → H p = none → Q (.ref p) (upd H p (.lst (ns.map V.str)))
theorem cr_sortedT (hc : X.calm = true) : CallR X (.builtin "sorted") (rSortedT X.w) := by
  intro pins s σ H vs us Q I r h
  obtain ⟨a, S, n, rfl, ha, h64, q⟩ := h
  rw [Vals.ref1 r]
  refine sorted_setT (setTO_get I ha) (I.ok.hd hc) h64 fun s' p out c ns k g o hp hg hi hs hd hm hl => ?_
  have hlen : (ns.map V.str).length ≤ sizeLine := by rw [List.length_map, hl, sizeLine_eq]; omega
  have hn : H p = none := I.hok.fresh hp
  have J : Inv X pins σ (upd H p (.lst (ns.map V.str))) { s with heap := s'.heap, gens := s'.gens, drawn := s'.drawn, toks := s'.toks } :=
    I.call (ch := []) (Un.laid k hp hn) (I.hok.laid k hp ⟨hlen, out.toList, c, vals_of_strs hi, hg⟩) (by rw [g]; exact I.bare) (fun _ z => nomatch z)
  have e : s' = { s with heap := s'.heap, gens := s'.gens, drawn := s'.drawn, toks := s'.toks } := by
    cases s'
    cases s
    cases o
    rfl
  exact e ▸ ⟨.ref p, _, J, rfl, q ns p hs hd hm hl hn⟩
end
end VT
namespace VT
open PySem PySem.Spec PyProof.Rows L2 PpSet
section
variable {X : Cx}
/-- one text more in the set at D -/
def AddT (w : World) (D : Addr) (y : V) (H : Hp) (k : Hp → Prop) : Prop := ∃ (c : Str) (S : Str → Bool) (n : Nat), y = .str c ∧ H D = some (SetTO w D S n) ∧ n + 1 < scanBound ∧ k (upd H D (SetTO w D (fun j => S j || decide (j = c)) (if S c = true then n else n + 1)))
/-- {elt for target in iter if ..}, elt a text: D the new set -/
def tScT (w : World) (wi : TI) (g : TG) (tt : TT) (te : TE) (vs : List Nat) : TE := fun σ H Q => wi σ H fun J H1 => ∀ D, H1 D = none → ∃ W : Nat → Nat → Hp → Prop, (∃ m, W 0 m (upd H1 D (SetTO w D (fun _ => false) 0))) ∧ ∀ i m H, W i m H →
  (J.stop i H ∧ Q (.ref D) H) ∨ (J.go i H ∧ ∃ Nx : Hp → Prop, (∀ H', Nx H' → ∃ m', m' < m ∧ W (i + 1) m' H') ∧ ∀ x H', J.yld i H x H' → g x (wipe σ vs) H' fun σ2 H2 => wipe σ2 vs = wipe σ vs ∧ tt σ2 H2 fun b H3 =>
    if b = true then te σ2 H3 fun y H4 => AddT w D y H4 Nx else Nx H3)
theorem sc_coreT {pins : List (Addr × Obj)} {s : Shared} {σ : L2.St} {H : Hp} {Q : VK} {elt tg iter : Expr} {ifs : List Expr} {scope : Scope} {own : List (PySem.Str × Nat)} {pos pos' : Pos} {wi : TI} {g : TG} {tt : TT} {te : TE} {use : Option (Value → Sem Unit)} {Qf : Value → Shared → Prop}
    (hc : X.calm = true) (hN : X.N.Nodup) (I : Inv X pins σ H s) (hi : PI X tg iter wi) (ok : BlkOk X.N X.env.scope scope own)
    (hg : ∀ (s : Shared) (H : Hp) (C : Addr) (cl : List (PySem.Str × Addr)) (fp : List Addr), PG (X.blk s H scope (compEnvC scope cl C X.env) fp) tg g) (ht : ∀ (s : Shared) (H : Hp) (C : Addr) (cl : List (PySem.Str × Addr)) (fp : List Addr), PTs (X.blk s H scope (compEnvC scope cl C X.env) fp) ifs tt)
    (he : ∀ (s : Shared) (H : Hp) (C : Addr) (cl : List (PySem.Str × Addr)) (fp : List Addr), PE (X.blk s H scope (compEnvC scope cl C X.env) fp) elt te) (hs : ∀ x, foldedSetIterable iter X.env x = pure x)
    (h : tScT X.w wi g tt te (own.map (·.2)) σ H Q)
    (hRR : ∀ D C s' m H', Inv X pins σ H' s' → Q (.ref D) H' → s'.heap.Ns C m → FpOk X pins H' C → compPost (model X.prog X.w) X.A X.xe use Qf (.ref D) C (.ok .next) s') :
    wpAny (model X.prog X.w) X.A (comprehension (.SetComp elt [⟨tg, iter, ifs, 0⟩] scope pos) scope X.env pos' (newSet (.type "set")) false (eval iter X.env) use) Qf X.xe s := by
  have hfree : ∀ y ∈ scope.names, y.2 = .free → ∃ c, X.env.cells.lookup y.1 = some c := fun y hy e => (ok.free y hy e).elim (fun k => I.ok.has _ (.inl k)) (fun k => I.ok.has _ (.inr k))
  refine wpAny_comprehension_free (use := use) rfl hs (closure_ok hfree) ok.kind (fun y hy e => by rw [ok.uniq y hy, e])
    (thn (hi.run pins s σ H _ I h) fun xv s1 hx => thn hx fun itv s2 h2 => ?_)
  obtain ⟨it, fp, tn, J, H2, e, I2, T, st2, f2, q⟩ := h2
  subst e
  refine newSet_ok (newEnv_comp ?_)
  generalize hD : s2.heap.objs.size = D
  have hDn : H2 D = none := I2.hok.fresh (Nat.le_of_eq hD)
  obtain ⟨W, ⟨m0, w0⟩, turn⟩ := q D hDn
  generalize hs3 : ({ s2 with heap := s2.heap.push { cls := .type "set", dict := none, data := .set #[] 0 (.fresh 0 0 (!X.w.params.followText "set-order")) } } : Shared) = s3
  have I3 : Inv X pins σ (upd H2 D (SetTO X.w D (fun _ => false) 0)) s3 := by
    rw [← hs3]
    refine I2.laid (t' := s2.toks) (fun b o e => Heap.get?_push_of_some _ e) (Nat.le_of_eq hD) ?_
    exact hD ▸ setTO_new (freshT X.w)
  have h3 : s3.heap = s2.heap.push { cls := .type "set", dict := none, data := .set #[] 0 (.fresh 0 0 (!X.w.params.followText "set-order")) } := by rw [← hs3]
  have sz : ∀ b ∈ fp, b < s2.heap.objs.size := fun b hb =>
    let ⟨o, e, _⟩ := T.obj _ _ st2 b hb
    Heap.lt_size e
  have f3 : ∀ b ∈ fp, FpOk X pins (upd H2 D (SetTO X.w D (fun _ => false) 0)) b ∧ b < s3.heap.objs.size := fun b hb => by
    have hlt := sz b hb
    refine ⟨⟨?_, (f2 b hb).2⟩, by rw [h3, Heap.size_push]; exact Nat.lt_succ_of_lt hlt⟩
    rw [upd_ne (by rw [← hD]; exact Nat.ne_of_lt hlt)]
    exact (f2 b hb).1
  have st3 : tn 0 s3.heap := T.keep _ _ _ st2 fun b _ o e => by rw [h3]; exact Heap.get?_push_of_some _ e
  have I4 := block_start I3 ok hN f3
  have pg := hg s3 (upd H2 D (SetTO X.w D (fun _ => false) 0)) s3.heap.objs.size (cellsFrom (s3.heap.objs.size + 1) scope.names (cloFrom X.env.cells scope.names [])) fp
  have pt := ht s3 (upd H2 D (SetTO X.w D (fun _ => false) 0)) s3.heap.objs.size (cellsFrom (s3.heap.objs.size + 1) scope.names (cloFrom X.env.cells scope.names [])) fp
  have pe := he s3 (upd H2 D (SetTO X.w D (fun _ => false) 0)) s3.heap.objs.size (cellsFrom (s3.heap.objs.size + 1) scope.names (cloFrom X.env.cells scope.names [])) fp
  show codeAny _ _ (.compStart (.SetComp elt [⟨tg, iter, ifs, 0⟩] scope pos) 0 (.ref it) (.ref D) (compEnvC scope (cellsFrom (s3.heap.objs.size + 1) scope.names (cloFrom X.env.cells scope.names [])) s3.heap.objs.size X.env)) (compPost (model X.prog X.w) X.A X.xe use Qf (.ref D) s3.heap.objs.size) { s3 with heap := pushCells (s3.heap.push { cls := .type "dict", data := .dict #[] }) scope.names }
  have nfp : ∀ b ∈ fp, (upd H2 D (SetTO X.w D (fun _ => false) 0)) b = none := fun b hb => (f3 b hb).1.1
  generalize hce : compEnvC scope (cellsFrom (s3.heap.objs.size + 1) scope.names (cloFrom X.env.cells scope.names [])) s3.heap.objs.size X.env = ce at I4 pg pt pe ⊢
  have cL : ce.locals = s3.heap.objs.size := by subst hce; rfl
  generalize hH3 : upd H2 D (SetTO X.w D (fun _ => false) 0) = H3 at I3 I4 pg pt pe w0 nfp f3
  generalize hs4 : ({ s3 with heap := pushCells (s3.heap.push { cls := .type "dict", data := .dict #[] }) scope.names } : Shared) = s4 at I4 ⊢
  have st4 : tn 0 s4.heap := T.keep _ _ _ st3 fun b _ o e => by rw [← hs4]; exact pushCells_keeps _ _ _ _ (Heap.get?_push_of_some _ e)
  have stat : ∀ {σ' : L2.St} {H' : Hp} {s' : Shared}, Inv (X.blk s3 H3 scope ce fp) [] σ' H' s' → (∀ b ∈ fp, H' b = none) → ∀ b ∈ fp, FpOk (X.blk s3 H3 scope ce fp) [] H' b := fun {σ' H' s'} I' hn b hb =>
    ⟨hn b hb, (I'.ok.exf b hb).1, I'.ok.exfs b hb, .inl hb, fun x c e => (I'.ok.exf b hb).2 x c e, fun p hp => absurd (show p ∈ ([] : List (Addr × Obj)) ++ [] from hp) (by simp)⟩
  have loop : codeAny (model X.prog X.w) X.A (.compLoop (.SetComp elt [⟨tg, iter, ifs, 0⟩] scope pos) 0 (.ref it) (.ref D) ce) (compPost (model X.prog X.w) X.A X.xe use Qf (.ref D) s3.heap.objs.size) s4 := by
    refine compLoopS_any (fun n s' => ∃ i H', Inv (X.blk s3 H3 scope ce fp) [] (wipe σ (own.map (·.2))) H' s' ∧ tn i s'.heap ∧ (∀ b ∈ fp, H' b = none) ∧ W i n H') ?_ m0 ⟨0, H3, I4, st4, nfp, w0⟩
    rintro n s5 ⟨i, H5, I5, st5, n5, w5⟩
    rcases turn i n H5 w5 with ⟨stop, qq⟩ | ⟨go, Nx, hNx, step⟩
    · refine thnF (T.done (X.blk s3 H3 scope ce fp) rfl rfl rfl hc i [] s5 _ H5 (fun _ _ => False) I5 (stat I5 n5) st5 stop) fun r s6 ⟨hr, I6⟩ => ?_
      subst hr
      have I7 : Inv X pins σ H5 s6 := I3.call' (ch := fp) I6.os I6.base I6.hok I6.bare fun b hb => ⟨(f3 b hb).1.2.2.2.1, (f3 b hb).1.2.1, (f3 b hb).1.2.2.2.2.1, (f3 b hb).1.2.2.2.2.2⟩
      have nC : H5 s3.heap.objs.size = none := cL ▸ I6.free
      obtain ⟨m, hn, _⟩ := I6.loc
      have hn : s6.heap.Ns ce.locals m := hn
      rw [cL] at hn
      exact hRR D s3.heap.objs.size s6 m H5 I7 qq hn (I3.fpOk (Nat.le_refl _) nC)
    · refine thnF (T.item (X.blk s3 H3 scope ce fp) rfl rfl rfl hc i [] s5 _ H5 (fun _ _ => False) I5 (stat I5 n5) st5 go) fun r s6 ⟨u, hr, h6⟩ => ?_
      subst hr
      refine thnF h6 fun _ s7 ⟨x, H7, I7, r7, y7, st7, n7⟩ => ?_
      have I7' := I7.pinned (stat I7 n7) (T.obj _ _ st7)
      refine thnF (pg.run _ s7 _ H7 x u _ I7' r7 (step x H7 y7)) fun _ s8 ⟨σ8, H8, I8, hw8, q8⟩ => ?_
      refine thnF (pt.run _ s8 σ8 H8 _ I8 q8) fun b s9 ⟨H9, I9, q9⟩ => ?_
      have fin : ∀ {s' : Shared} {H' : Hp}, Inv (X.blk s3 H3 scope ce fp) ([] ++ pinsAt fp s7.heap) σ8 H' s' → Nx H' → ∃ m, m < n ∧ ∃ i H', Inv (X.blk s3 H3 scope ce fp) [] (wipe σ (own.map (·.2))) H' s' ∧ tn i s'.heap ∧ (∀ b ∈ fp, H' b = none) ∧ W i m H' := fun {s' H'} I' nx => by
        obtain ⟨m', hm, w'⟩ := hNx H' nx
        have pin' : ∀ b ∈ fp, ∀ o, s7.heap.get? b = some o → s'.heap.get? b = some o ∧ H' b = none := fun b hb o e =>
          let z := I'.pin (b, o) (List.mem_append_right _ (List.mem_append_right _ (mem_pinsAt hb e)))
          ⟨z.1, z.2.1⟩
        have hl : (wipe σ (own.map (·.2))).length = σ8.length := by rw [← hw8, wipe_length]
        refine ⟨m', hm, i + 1, H', (I'.unpinned (pins := [])).weak hl (fun j v e => (wipe_some (hw8 ▸ e)).1), T.keep _ _ _ st7 fun b hb o e => (pin' b hb o e).1, fun b hb => ?_, w'⟩
        obtain ⟨o, e, _⟩ := T.obj _ _ st7 b hb
        exact (pin' b hb o e).2
      cases b with
      | false =>
        simp only [Bool.false_eq_true, if_false] at q9 ⊢
        exact fin I9 q9
      | true =>
        simp only [if_true] at q9 ⊢
        refine thnF (pe.run _ s9 σ8 H9 _ I9 q9) fun z s10 ⟨yv, H10, I10, r10, cb, S0, n0, ey, hD10, hz10, nx⟩ => ?_
        subst ey
        obtain ⟨tk, rfl⟩ := (show ∃ tk, z = Value.str cb tk from r10)
        exact addT_ok (X := X.blk s3 H3 scope ce fp) I10 hD10 hz10 fun s11 I11 => fin I11 nx
  exact codeAny_compStart_set loop (T.self X.A 0 _ _ _ st4 loop)
theorem pe_scT {elt tg iter : Expr} {ifs : List Expr} {scope : Scope} {own : List (PySem.Str × Nat)} {pos : Pos} {wi : TI} {g : TG} {tt : TT} {te : TE} (hc : X.calm = true) (hN : X.N.Nodup) (hi : PI X tg iter wi) (ok : BlkOk X.N X.env.scope scope own)
    (hg : ∀ (s : Shared) (H : Hp) (C : Addr) (cl : List (PySem.Str × Addr)) (fp : List Addr), PG (X.blk s H scope (compEnvC scope cl C X.env) fp) tg g) (ht : ∀ (s : Shared) (H : Hp) (C : Addr) (cl : List (PySem.Str × Addr)) (fp : List Addr), PTs (X.blk s H scope (compEnvC scope cl C X.env) fp) ifs tt)
    (he : ∀ (s : Shared) (H : Hp) (C : Addr) (cl : List (PySem.Str × Addr)) (fp : List Addr), PE (X.blk s H scope (compEnvC scope cl C X.env) fp) elt te) (hs : ∀ x, foldedSetIterable iter X.env x = pure x := by intro _; rfl) :
    PE X (.SetComp elt [⟨tg, iter, ifs, 0⟩] scope pos) (tScT X.w wi g tt te (own.map (·.2))) := by
  refine ⟨fun pins s σ H Q I h => ?_⟩
  rw [eval_SetComp]
  refine sc_coreT hc hN I hi ok hg ht he hs h fun D C s' m H' I' q hn f => ⟨m, hn, fun h'' sb => ?_⟩
  obtain ⟨f0, f1, f2, f3, f4, f5⟩ := f
  exact ⟨.ref D, H', I'.turned (t' := s'.toks) (fun b o hb e => (sb.2 b hb).trans e) f0 f1 f3 f4 f5, rfl, q⟩
end
end VT
namespace VT
open PySem PySem.Spec PyProof.Rows L2
theorem newT_at {w : World} {h : Heap} {a : Addr} {ns : List Str} (ho : h.get? a = some { cls := .type "set", dict := none, data := .set #[] 0 (.fresh 0 0 (!w.params.followText "set-order")) }) : SetT w h a (fun j => decide (j ∈ ns.take 0)) 0 :=
  ⟨_, #[], 0, _, ho, ⟨rfl, rfl, rfl⟩, rfl, (fun e he => by simp at he), (by simp), (fun k => by simp), (by decide), (by rfl), rfl, List.Pairwise.nil, by
    show _ ∨ (!w.params.followText "set-order") = true
    cases w.params.followText "set-order"
    · exact .inr rfl
    · exact .inl rfl⟩
section
variable {P : Program} {w : World} {A : Around} {E : Value → Shared → Prop} {s : Shared}
theorem updT {I : Addr} {fp wr : List Addr} {G : Array GenState → Array GenState → Prop} {n : Nat} {Pv : Nat → Value → Prop} {St : Nat → Shared → Prop} {R : Result → Shared → Prop}
    (W : WalksS P w A.in1 I fp wr G n Pv St) (S : Addr) (hSf : S ∉ fp) (ns : List Str) (hn : n = ns.length) (hb : ns.length + 1 < scanBound) (hval : ∀ i v, Pv i v → ∃ k t, ns[i]? = some k ∧ v = .str k t) :
    ∀ (k i : Nat) (s : Shared), n - i = k → i ≤ n → St i s → (∃ c, c ≤ i ∧ SetT w s.heap S (fun j => decide (j ∈ ns.take i)) c) →
      (∀ s' c, Moved (S :: wr) G s s' → c ≤ n → SetT w s'.heap S (fun j => decide (j ∈ ns)) c → R (.ok (.ret .none)) s') →
      codeAny (model P w) A (.builtin "set.update.loop" ⟨[.ref S, .ref I], []⟩) R s := by
  have hSw : S ∉ wr := fun h => hSf (W.sub _ h)
  have hsub : ∀ b ∈ wr, b ∈ S :: wr := fun b hb => List.mem_cons_of_mem _ hb
  intro k
  induction k with
  | zero =>
    intro i s hk' hi hst ⟨c, hc, hS⟩ hR
    have hin : i = n := by omega
    subst hin
    refine codeAny_builtin F.entry_set_update_loop ?_
    rw [Around.under_plainId F.plain_set_update_loop _]
    show wpAny _ A.in1 (pyNext (.ref I) >>= _) _ _ s
    refine wpAny_bind (W.done s _ _ hst fun s' hm => ?_)
    show wpAny _ A.in1 (ret Value.none) _ _ s'
    have e : ns.take i = ns := List.take_of_length_le (by omega)
    rw [e] at hS
    exact wpAny_pure (hR s' c (hm.mono hsub) hc (hS.at fun o e => hm.heap S o hSw e))
  | succ k ih =>
    intro i s hk' hi hst ⟨c, hc, hS⟩ hR
    have hlt : i < n := by omega
    refine codeAny_builtin F.entry_set_update_loop ?_
    rw [Around.under_plainId F.plain_set_update_loop _]
    show wpAny _ A.in1 (pyNext (.ref I) >>= _) _ _ s
    refine wpAny_bind (W.item i s _ _ hlt hst fun v s' hP hst' hm => ?_)
    obtain ⟨z, t, hz, rfl⟩ := hval i v hP
    have hS' : SetT w s'.heap S (fun j => decide (j ∈ ns.take i)) c := hS.at fun o e => hm.heap S o hSw e
    show wpAny _ A.in1 (holding [Value.str z t] (setAdd S (.str z t)) >>= _) _ _ s'
    refine wpAny_bind (wpAny_holding ?_)
    unfold setAdd
    refine wpAny_holding ?_
    refine wpAny_bind ((PySem.strKind P w).pyHash (k := z) (strKind_is _ _ _ _) ?_)
    refine addT_hashed (s := { s' with toks := s'.toks + 1 }) hS' (by omega) fun h' hsb hS2 => ?_
    have hS3 : SetT w h' S (fun j => decide (j ∈ ns.take (i + 1))) (if decide (z ∈ ns.take i) = true then c else c + 1) := hS2.congr fun j => by
      rw [List.take_add_one, hz]
      simp [List.mem_append]
    have hc3 : (if decide (z ∈ ns.take i) = true then c else c + 1) ≤ i + 1 := by
      split <;> omega
    refine wpAny_pure ⟨plainId_quiet F.plain_set_update_loop _, ih (i + 1) _ (by omega) hlt (W.frame _ s' _ _ hst' (Nat.le_succ _) fun b hb o e => ?_) ⟨_, hc3, hS3⟩ fun s'' c2 hm'' hc'' hS'' => ?_⟩
    · rw [hsb.2 b (fun h : b = S => hSf (by rw [← h]; exact hb))]; exact e
    · refine hR s'' c2 (Moved.trans W.gtrans ((hm.mono hsub).then_heap (Nat.le_succ _) fun b o hb e => ?_) hm'') hc'' hS''
      rw [hsb.2 b (fun h : b = S => hb (by rw [h]; exact List.mem_cons_self))]; exact e

theorem call_setT {l : Addr} {items : Array Value} (ns : List Str) {Q : Value → Shared → Prop} (hh : A.handled = none) (hl : s.heap.IsList l items) (hit : StrsAre items.toList ns) (hb : ns.length + 1 < scanBound)
    (h : ∀ (h' : Heap) (tk c : Nat), SetT w h' s.heap.objs.size (fun j => decide (j ∈ ns)) c → c ≤ ns.length → (∀ b o, s.heap.get? b = some o → h'.get? b = some o) → Q (.ref s.heap.objs.size) { s with heap := h', toks := tk }) :
    wpAny (model P w) A (call (.type "set") [.ref l]) Q E s := by
  have hisz : items.size = ns.length := by
    have q := StrsAre.len_eq hit
    rw [Array.length_toList] at q
    exact q
  obtain ⟨c, tl, hmro⟩ := F.called_set.mro
  have hmade := F.called_set.made
  have hsub := F.called_set.sub
  refine wpAny_call (codeAny_of_tree ?_)
  show wpAny _ _ (callAny (.type "set") _) _ _ _
  refine wpAny_pure ⟨Code.quiet_builtin _ (by decide +kernel), codeAny_builtin F.entry_type_call ?_⟩
  rw [Around.under_plain (weight_type_call_type "set" [.ref l] []) rfl]
  have h1 := F.called_set.notType
  have h2 := F.called_set.canCreate
  have hct := F.typeCall_set_1 (.ref l)
  repeat (any_goals (first | assumption | wp_step))

  refine codeAny_mono (code_set_led1 (.ref l) (E := E) (Q₁ := fun obj s₁ => obj = .ref s.heap.objs.size ∧ s₁ = { s with heap := s.heap.push { cls := .type "set", dict := none, data := .set #[] 0 (.fresh 0 0 (!w.params.followText "set-order")) } }) ⟨rfl, rfl⟩) fun r s₁ hr => ?_
  cases r with
  | error e => exact hr
  | ok fl =>
    cases fl with
    | ret obj =>
      obtain ⟨rfl, rfl⟩ := hr
      have hS : (s.heap.push { cls := .type "set", dict := none, data := .set #[] 0 (.fresh 0 0 (!w.params.followText "set-order")) }).get? s.heap.objs.size = some { cls := .type "set", dict := none, data := .set #[] 0 (.fresh 0 0 (!w.params.followText "set-order")) } := Heap.get?_push_size _ rfl
      have hT : Shared.TypeIs { s with heap := s.heap.push { cls := .type "set", dict := none, data := .set #[] 0 (.fresh 0 0 (!w.params.followText "set-order")) } } (.ref s.heap.objs.size) "set" := ⟨_, hS, rfl⟩
      have hli := F.called_set.init.lookup
      have hbi := F.called_set.init.bind (.ref s.heap.objs.size)
      repeat (any_goals (first | assumption | wp_step))

      refine codeAny_mono (codeAny_call_builtin (R := wants (fun r s₂ => r = .none ∧ ∃ h' tk c, s₂ = { s with heap := h', toks := tk } ∧ SetT w h' s.heap.objs.size (fun j => decide (j ∈ ns)) c ∧ c ≤ ns.length ∧
          (∀ b o, s.heap.get? b = some o → h'.get? b = some o)) E) F.called_set.init.plain F.entry_set_init (check_set_init_1 hT ?_)) fun r₂ s₂ hr₂ => ?_
      · obtain ⟨ol, hol, hcl, nl, hdl⟩ := hl
        obtain ⟨ocls, odict, odata, oslots⟩ := ol
        simp only at hcl hdl
        subst hcl; subst hdl
        have hol' : (s.heap.push { cls := .type "set", dict := none, data := .set #[] 0 (.fresh 0 0 (!w.params.followText "set-order")) }).get? l = some { cls := .type "list", dict := odict, data := .seq items nl, slots := oslots } := Heap.get?_push_of_some _ hol
        have hsls := F.sub_list_set
        have hslf := F.sub_list_frozenset
        have hne : (Value.type "list" == Value.type "dict") = false := by decide
        have hl1 : (s.heap.push { cls := .type "set", dict := none, data := .set #[] 0 (.fresh 0 0 (!w.params.followText "set-order")) }).IsList l items := ⟨_, hol', rfl, nl, rfl⟩
        unfold Builtin.«set.__init__» noKeywords Builtin.Frozenset.updateFrom
        generalize hPI : pyIter = PI
        wp_walk
        subst hPI

        refine wpAny_pyIter_list hl1 ?_
        refine wpAny_bind (wpAny_runValue ?_)
        have hlS : l < s.heap.objs.size := Heap.lt_size hol
        have hh3 : A.in1.in1.in1.handled = none := by simp [hh]
        have hz1 : (s.heap.push { cls := .type "set", dict := none, data := .set #[] 0 (.fresh 0 0 (!w.params.followText "set-order")) }).objs.size = s.heap.objs.size + 1 := Heap.size_push ..
        have hneI : l ≠ (s.heap.push { cls := .type "set", dict := none, data := .set #[] 0 (.fresh 0 0 (!w.params.followText "set-order")) }).objs.size := by
          rw [Heap.size_push]; exact Nat.ne_of_lt (Nat.lt_succ_of_lt hlS)
        have hSf : s.heap.objs.size ∉ [(s.heap.push { cls := .type "set", dict := none, data := .set #[] 0 (.fresh 0 0 (!w.params.followText "set-order")) }).objs.size, l] := by
          rw [Heap.size_push]; simp only [List.mem_cons, List.mem_singleton, List.not_mem_nil, or_false, not_or]
          exact ⟨Nat.ne_of_lt (Nat.lt_succ_self _), Nat.ne_of_gt hlS⟩
        have hval : ∀ (i : Nat) (v : Value), items[i]? = some v → ∃ k t, ns[i]? = some k ∧ v = .str k t := fun i v hv => by
          have hi : i < ns.length := by rw [← hisz]; exact (Array.getElem?_eq_some_iff.mp hv).1
          obtain ⟨t, e⟩ := SS.strs_at hit i v (by rw [Array.getElem?_toList]; exact hv)
          refine ⟨ns[i], t, List.getElem?_eq_getElem hi, ?_⟩
          rw [e, List.getD_eq_getElem?_getD, List.getElem?_eq_getElem hi] <;> rfl
        refine updT ((Walks.list hh3 _ l hneI items).toS) s.heap.objs.size
          hSf ns hisz hb hval (items.size - 0) 0 _ (by omega) (Nat.zero_le _)
          ⟨⟨_, Heap.get?_push_size _ rfl, rfl, rfl⟩, (hl1.push _)⟩ ?hS0 ?hR
        case hS0 =>
          have hget : ((s.heap.push { cls := .type "set", dict := none, data := .set #[] 0 (.fresh 0 0 (!w.params.followText "set-order")) }).push { cls := .type "list_iterator", data := .fields #[.ref l, .int 0 0] }).get? s.heap.objs.size
              = some { cls := .type "set", dict := none, data := .set #[] 0 (.fresh 0 0 (!w.params.followText "set-order")) } := Heap.get?_push_of_some _ hS
          exact ⟨0, Nat.le_refl 0, newT_at hget⟩
        case hR =>
          intro s' c' hm hc' hS'
          obtain ⟨h', g2, d', tk', os'⟩ := s'
          have eg : g2 = s.gens := hm.gens
          have ed : d' = s.drawn := hm.drawn
          have eo : os' = s.os := hm.os
          subst eg; subst ed; subst eo
          show wpAny _ _ _ _ _ _
          refine wpAny_pure ?_
          show wpAny _ _ (ret Value.none) _ _ _
          rw [hisz] at hc'
          refine wpAny_pure ⟨rfl, h', tk', c', rfl, hS', hc', fun b o e => ?_⟩
          have hb0 : b < s.heap.objs.size := Heap.lt_size e
          have hb1 : b ≠ s.heap.objs.size := Nat.ne_of_lt hb0
          have hb2 : b ≠ (s.heap.push { cls := .type "set", dict := none, data := .set #[] 0 (.fresh 0 0 (!w.params.followText "set-order")) }).objs.size := by
            rw [Heap.size_push]; exact Nat.ne_of_lt (Nat.lt_succ_of_lt hb0)
          exact hm.heap b o (by simp only [List.mem_cons, List.mem_singleton, List.not_mem_nil, or_false, not_or]; exact ⟨hb1, hb2⟩) (Heap.get?_push_of_some _ (Heap.get?_push_of_some _ e))

      · cases r₂ with
        | error e => exact hr₂
        | ok fl₂ =>
          cases fl₂ with
          | ret r =>
            obtain ⟨rfl, h', tk, c', rfl, hS', hc', hk'⟩ := hr₂
            repeat (any_goals (first | assumption | wp_step))
            exact h _ _ _ hS' hc' hk'
          | _ => exact hr₂.elim
    | _ => exact hr.elim

end
section
variable {X : Cx}
/-- set(a list of texts) -/
def rSetT (w : World) (K : PySem.W.Frag) : List V → Hp → VK → Prop := fun xs H Q => ∃ (l : Addr) (zs : List Str), xs = [.ref l] ∧ SqL K H l (zs.map V.str) ∧ zs.length + 1 < scanBound ∧
  ∀ (D : Addr) (n : Nat), H D = none → n ≤ zs.length → Q (.ref D) (upd H D (SetTO w D (fun j => decide (j ∈ zs)) n))
theorem cr_setT (hc : X.calm = true) : CallR X (.type "set") (rSetT X.w X.K) := by
  intro pins s σ H vs us Q I r h
  obtain ⟨l, zs, rfl, hS, lz, q⟩ := h
  obtain ⟨its, rv, pl, hz⟩ := I.list hS
  rw [Vals.ref1 r]
  refine call_setT zs (I.ok.hd hc) pl.isList (by simpa using rv.strs) lz fun h' tk c R hcn k => ?_
  have hn : H s.heap.objs.size = none := I.hok.fresh (Nat.le_refl _)
  exact ⟨.ref _, upd H s.heap.objs.size (SetTO X.w s.heap.objs.size (fun j => decide (j ∈ zs)) c), I.laid (t' := tk) k (Nat.le_refl _) (setTO_new R), rfl, q _ c hn hcn⟩
end
end VT
/-! enumerate(a tuple). -/
namespace VE
open PySem PySem.Spec PyProof.Rows
open Sem (wp)
open AutoSeq1 (wpAny_loadPart')
theorem new_enumT (l : Addr) (items : Array Value) (n : Nat) (dct : Option Addr) (sl : Array (Option Value)) :
    Meets (Builtin.«enumerate.__new__» ⟨[.type "enumerate", .ref l], []⟩) (fun _ R s => s.heap.get? l = some { cls := .type "tuple", dict := dct, data := .seq items n, slots := sl } ∧
      R (.ok (.ret (.ref (s.heap.push { cls := .type "tuple_iterator", data := .fields #[.ref l, .int 0 0] }).objs.size)))
        { s with heap := (s.heap.push { cls := .type "tuple_iterator", data := .fields #[.ref l, .int 0 0] }).push { cls := .type "enumerate", data := .fields #[.none, .bool false, .ref s.heap.objs.size, rawInt 0, .none, .none] } }) :=
  .of_wp fun prog w A R s h => by
    obtain ⟨hp, g, d, tk, os⟩ := s
    obtain ⟨hl, h⟩ := h
    have hsub := sub_enumerate
    have hT : Heap.IsTuple (Shared.heap ⟨hp, g, d, tk, os⟩) l items := ⟨_, hl, rfl, n, rfl⟩
    wp_walk using wpAny_loadPart' hl
    refine wpAny_stack_any fun st => wpAny_pure ?_
    split
    · rename_i c _ _ _ _ _
      cases (c == Value.type "enumerate")
      · wp_walk using wpAny_loadPart' hl, wpAny_pyIter_tuple hT
        exact ⟨_, rfl, h⟩
      · wp_walk using wpAny_loadPart' hl, wpAny_pyIter_tuple hT
        exact ⟨_, rfl, h⟩
    · wp_walk using wpAny_loadPart' hl, wpAny_pyIter_tuple hT
      exact ⟨_, rfl, h⟩
section
variable {prog : Program} {w : World} {A : Around} {E : Value → Shared → Prop} {s : Shared}
theorem call_enumT {l : Addr} {items : Array Value} {Q : Value → Shared → Prop} (hT : s.heap.IsTuple l items)
    (h : ∀ h', IsEnum h' (s.heap.objs.size + 1) s.heap.objs.size 0 .none → h'.IsTupleIter s.heap.objs.size l 0 → h'.objs.size = s.heap.objs.size + 2 →
      (∀ b o, s.heap.get? b = some o → h'.get? b = some o) → Q (.ref (s.heap.objs.size + 1)) { s with heap := h' }) :
    wpAny (model prog w) A (call (.type "enumerate") [.ref l]) Q E s := by
  obtain ⟨⟨c, dct, dt, sl⟩, hl, hc, n, hd⟩ := hT
  replace hc : c = .type "tuple" := hc
  replace hd : dt = .seq items n := hd
  subst hc hd
  refine callType_new F.called_enumerate (by decide) (F.typeCall_enumerate_1 _) (F.newCall_enumerate_1 _) (fun obj => F.args_object_init_2 obj _) F.entry_enumerate_new
    (new_enumT l items n dct sl) ⟨hl, ?_⟩
  have hz : (s.heap.push { cls := .type "tuple_iterator", data := .fields #[.ref l, .int 0 0] }).objs.size = s.heap.objs.size + 1 := Heap.size_push ..
  show _ ∧ _
  rw [hz]
  have he : IsEnum ((s.heap.push { cls := .type "tuple_iterator", data := .fields #[.ref l, .int 0 0] }).push
      { cls := .type "enumerate", data := .fields #[.none, .bool false, .ref s.heap.objs.size, rawInt 0, .none, .none] }) (s.heap.objs.size + 1) s.heap.objs.size 0 .none := by
    have := Heap.get?_push_size (s.heap.push { cls := .type "tuple_iterator", data := .fields #[.ref l, .int 0 0] })
      (o := { cls := .type "enumerate", data := .fields #[.none, .bool false, .ref s.heap.objs.size, rawInt 0, .none, .none] }) rfl
    rw [hz] at this
    exact this
  exact ⟨⟨_, he, rfl⟩, h _ he ⟨_, Heap.get?_push_of_some _ (Heap.get?_push_size _ rfl), rfl, rfl⟩ (by rw [Heap.size_push, hz]) fun b o x => Heap.get?_push_of_some _ (Heap.get?_push_of_some _ x)⟩
end
open L2
/-- the tuple at a, each item in a new pair with its number -/
def Itet (K : PySem.W.Frag) (a : Addr) : It :=
  ⟨fun i H => ∃ (xs : List V) (x : V), SqT K H a xs ∧ xs[i]? = some x, fun i H v H' => ∃ T x, v = .ref T ∧ H T = none ∧ H' = upd H T (.tup [.int (i : Nat), x]) ∧ ∀ xs, SqT K H a xs → xs[i]? = some x, fun i H => ∃ xs : List V, SqT K H a xs ∧ xs.length ≤ i⟩
theorem turn_enumT {P : Program} {w : World} {K : PySem.W.Frag} {elts : List Expr} {kk : Nat} {tpos : Pos} (a e it : Addr) :
    Turn P w K (.Tuple elts kk tpos) (Itet K a) [e, it] e (fun i h => (∃ old, IsEnum h e it ((i : Nat) : Int) old) ∧ h.IsTupleIter it a i ∧ e ≠ it) where
  mem := by simp
  obj := fun i h st b hb => by
    obtain ⟨⟨old, he⟩, ⟨o, ho, hc, hd⟩, _⟩ := st
    have e' : b = e ∨ b = it := by simpa using hb
    rcases e' with z | z
    · exact z ▸ ⟨_, he, fun v q => nomatch q⟩
    · exact z ▸ ⟨o, ho, fun v q => by rw [hd] at q; cases q⟩
  keep := fun i h h' ⟨⟨old, he⟩, hi, hne⟩ k => ⟨⟨old, k e (by simp) _ he⟩, hi.at fun o q => k it (by simp) o q, hne⟩
  item := by
    intro X hP hw hK hc i pins s σ H E I hf ⟨⟨old, he⟩, hit, hne⟩ ⟨xs, x, hq, hx⟩
    subst hP hw hK
    obtain ⟨its, rv, p, hz⟩ := I.tuple hq
    obtain ⟨u, hu, ru⟩ := rv.get hx
    have hel : e < s.heap.objs.size := Heap.lt_size he
    have hil : it < s.heap.objs.size := let ⟨_, q, _⟩ := hit; Heap.lt_size q
    have p' : s.heap.IsTuple a its.toArray := p
    have nai : a ≠ it := fun z => by
      obtain ⟨o, ho, hc1, _⟩ := hit
      obtain ⟨o2, ho2, hc2, _⟩ := p'
      rw [z, ho] at ho2
      cases ho2
      rw [hc1] at hc2
      exact absurd (Value.type.inj hc2) (by decide)
    have nea : e ≠ a := fun z => by
      obtain ⟨o2, ho2, hc2, _⟩ := p'
      rw [← z, (show s.heap.get? e = some _ from he)] at ho2
      cases ho2
      exact absurd (Value.type.inj hc2) (by decide)
    have ui : i < its.toArray.size := by
      have z := (List.getElem?_eq_some_iff.mp hu).1
      simpa using z
    refine wpAny_pyNext_enum_itemD (Draws.tuple (show X.A.in1.handled = none from I.ok.hd hc) it a nai its.toArray) he ⟨hit, p'⟩ ui hne (by simp [hne, nea]) fun y h' tk hy ho hst hT hsz hk => ?_
    have ey : y = u := by
      have z : its.toArray[i]? = some y := hy
      rw [List.getElem?_toArray, hu] at z
      exact (Option.some.inj z).symm
    subst ey
    refine ⟨_, rfl, wpAny_letOwnedTupleGo_enum (s := { s with heap := h', toks := tk + 1 }) ho fun h2 he' sb => ?_⟩
    have hT2 : h2.get? s.heap.objs.size = some { cls := .type "tuple", data := .seq #[.int i tk, y] } := (sb.2 _ (Nat.ne_of_gt hel)).trans hT
    have new : ObjOk X.prog X.w (upd H s.heap.objs.size (.tup [.int (i : Nat), x])) h2 s.heap.objs.size (.tup [.int (i : Nat), x]) :=
      ⟨by show 2 ≤ sizeLine; decide, [.int i tk, y], .cons ⟨_, rfl⟩ (.cons ru .nil), ⟨_, hT2, rfl, _, rfl⟩⟩
    have I1 : Inv X pins σ (upd H s.heap.objs.size (.tup [.int (i : Nat), x])) { s with heap := h2, toks := tk + 1 } :=
      I.turnedNew (ch := [e, it]) (fun b ob hb q => (sb.2 b (fun z => hb (by simp [z]))).trans (hk b ob (fun z => hb (by simp [z])) (fun z => hb (by simp [z])) q)) hf (Nat.le_refl _) new
    refine ⟨.ref s.heap.objs.size, _, I1, rfl, ⟨_, x, rfl, I.hok.fresh (Nat.le_refl _), rfl, fun ys hy => by rw [I.tuple_inj hy hq]; exact hx⟩, ⟨⟨y, ?_⟩, hst.1.at fun o q => (sb.2 it (Ne.symm hne)).trans q, hne⟩, fun b hb => ?_⟩
    · have e1 : ((i + 1 : Nat) : Int) = (i : Int) + 1 := by omega
      exact e1 ▸ he'
    · have hb' : b < s.heap.objs.size := by
        have e' : b = e ∨ b = it := by simpa using hb
        rcases e' with z | z
        · exact z ▸ hel
        · exact z ▸ hil
      rw [upd_ne (Nat.ne_of_lt hb')]
      exact (hf b hb).1
  done := by
    intro X hP hw hK hc i pins s σ H E I hf ⟨⟨old, he⟩, hit, hne⟩ ⟨xs, hq, hx⟩
    subst hP hw hK
    obtain ⟨its, rv, p, hz⟩ := I.tuple hq
    obtain ⟨f0, f1, f2, f3, f4, f5⟩ := hf it (by simp)
    have hl := rv.length
    have p' : s.heap.IsTuple a its.toArray := p
    have nai : a ≠ it := fun z => by
      obtain ⟨o, ho, hc1, _⟩ := hit
      obtain ⟨o2, ho2, hc2, _⟩ := p'
      rw [z, ho] at ho2
      cases ho2
      rw [hc1] at hc2
      exact absurd (Value.type.inj hc2) (by decide)
    have hT : s.TypeIs (.ref e) "enumerate" := ⟨_, he, rfl⟩
    unfold pyNext
    refine wpAny_bind (wpAny_attempt (wpAny_callSpecial?_slot (name := Str.ofString "__next__") hT F.slot_enumerate_next
      (wpAny_call_entry F.slot_enumerate_next hT F.entry_enumerate_next ?_ (F.args_enumerate_next_1 _))))
    show wpAny _ _ (field (.ref e) 2 >>= _) _ _ _
    refine wpAny_bind (wpAny_field he rfl (x := .ref it) rfl (wpAny_bind (wpAny_nextOf_tuple_end (show X.A.in1.handled = none from I.ok.hd hc) hit p' (by simp; omega) fun h' x eb hs => ?_)))
    obtain ⟨o, ho, hc3⟩ := hs
    refine wpAny_bind (wpAny_isInstance (T := "StopIteration") (b := true) ⟨o, ho, hc3⟩ isSubtype_stop (wpAny_pure ?_))
    exact ⟨rfl, I.turned (t' := s.toks) (fun b o hb q => eb b o hb q) f0 f1 f3 f4 f5⟩
  self := fun A i s Q E ⟨⟨_, he⟩, _⟩ h => wpAny_pyIter_enum he h
/-- enumerate of a list or of a tuple, held by the slot j -/
def iEnumS (K : PySem.W.Frag) (j : Nat) : TI := fun σ H R => ∃ a xs, σ[j]? = some (some (.ref a)) ∧ ((SqL K H a xs ∧ R (Ite K a) H) ∨ (SqT K H a xs ∧ R (Itet K a) H))
theorem pi_enumT {X : Cx} {e : Expr} {ta : TA} {p pos tpos : Pos} {elts : List Expr} {kk : Nat} (hg : Gl X "enumerate") (hm : X.mg "enumerate" = none) (ha : PA X [e] ta) (hs : starEach [e] X.env = [(false, eval e X.env)] := by rfl) :
    PI X (.Tuple elts kk tpos) (.Call (.Name "enumerate" p) [e] [] pos) (fun σ H R => ta σ H fun vs H1 => ∃ a xs, vs = [.ref a] ∧ SqT X.K H1 a xs ∧ R (Itet X.K a) H1) := by
  refine ⟨fun pins s σ H R I h => ?_⟩
  refine Call_ (ld_blt I hg hm boot_enumerate (PyProof.Rows.callWith_type1 (thn (ha.run pos pins s σ H _ I h) fun us s1 ⟨vs, H1, I1, r1, q1⟩ => ?_) hs rfl))
  obtain ⟨a, xs, ex, hq, q⟩ := q1
  subst ex
  cases r1 with
  | cons r rr =>
    cases rr
    cases r
    obtain ⟨its, rv, p', hz⟩ := I1.tuple hq
    refine call_enumT (show s1.heap.IsTuple a its.toArray from p') fun h' he hit hsz hk => wpAny_pyIter_enum he ?_
    have I2 : Inv X pins σ H1 { s1 with heap := h' } := I1.kept (t' := s1.toks) hk
    refine ⟨s1.heap.objs.size + 1, [s1.heap.objs.size + 1, s1.heap.objs.size], _, _, H1, rfl, I2, turn_enumT a (s1.heap.objs.size + 1) s1.heap.objs.size, ⟨⟨.none, he⟩, hit, Nat.succ_ne_self _⟩, fun b hb => ?_, q⟩
    have e' : b = s1.heap.objs.size + 1 ∨ b = s1.heap.objs.size := by simpa using hb
    have hle : s1.heap.objs.size ≤ b := by
      rcases e' with z | z
      · exact Nat.le_of_lt (Nat.lt_of_lt_of_eq (Nat.lt_succ_self _) z.symm)
      · exact Nat.le_of_eq z.symm
    exact I1.fpOk hle (I1.hok.fresh hle)
theorem pi_enumS {X : Cx} {j : Nat} {x : Str} {p p2 pos tpos : Pos} {elts : List Expr} {kk : Nat} (hg : Gl X "enumerate") (hm : X.mg "enumerate" = none) (hN : X.N[j]? = some x) (hv : Vis X.env.scope x) (hd : (x == ("__debug__" : Str)) = false := by decide) (hcd : (x == ("__classdict__" : Str)) = false := by decide) :
    PI X (.Tuple elts kk tpos) (.Call (.Name "enumerate" p) [.Name x p2] [] pos) (iEnumS X.K j) := by
  refine ⟨fun pins s σ H R I h => ?_⟩
  obtain ⟨a, xs, hs, h | h⟩ := h
  · exact (pi_enum hg hm (pa_cons (pe_var hN hv hd hcd) pa_nil)).run pins s σ H R I ⟨_, hs, a, xs, rfl, h.1, h.2⟩
  · exact (pi_enumT hg hm (pa_cons (pe_var hN hv hd hcd) pa_nil)).run pins s σ H R I ⟨_, hs, a, xs, rfl, h.1, h.2⟩
theorem walk_enumT {K : PySem.W.Frag} {a : Addr} {xs : List V} : Walk (Itet K a) xs.length (fun H => SqT K H a xs) (YPair (fun i => some (.int (i : Nat))) (fun i => xs[i]?)) :=
  ⟨fun i _ hi q => ⟨xs, xs[i], q, by simp [hi]⟩, fun _ q => ⟨xs, q, Nat.le_refl _⟩, fun i _ _ _ _ q ⟨T, x, e1, e2, e3, f⟩ => ⟨T, .int (i : Nat), x, e1, e2, e3, rfl, f xs q⟩⟩
/-- over a list or a tuple, held by the slot j -/
def iSeqS (K : PySem.W.Frag) (j : Nat) : TI := fun σ H R => ∃ a xs, σ[j]? = some (some (.ref a)) ∧ ((SqL K H a xs ∧ R (Itl K a) H) ∨ (SqT K H a xs ∧ R (Itt K a) H))
theorem pi_seqS {X : Cx} {j : Nat} {x : Str} {p : Pos} {tg : Expr} (hN : X.N[j]? = some x) (hv : Vis X.env.scope x) (hd : (x == ("__debug__" : Str)) = false := by decide) (hcd : (x == ("__classdict__" : Str)) = false := by decide) : PI X tg (.Name x p) (iSeqS X.K j) := by
  refine ⟨fun pins s σ H R I h => ?_⟩
  obtain ⟨a, xs, hs, h | h⟩ := h
  · exact (pi_list (pe_var hN hv hd hcd)).run pins s σ H R I ⟨_, hs, a, rfl, ⟨xs, h.1⟩, h.2⟩
  · exact (pi_tup (pe_var hN hv hd hcd)).run pins s σ H R I ⟨_, hs, a, rfl, ⟨xs, h.1⟩, h.2⟩
end VE
namespace VE
open PySem PySem.Spec PyProof.Rows L2
section
variable {K : PySem.W.Frag} {a : Addr} {xs : List V} {j : Nat} {σ : L2.St} {H H0 : Hp} {g : TG} {tb : TS} {D : Ends}
theorem kL {H H' : Hp} (k : Same H H') (h : SqL K H a xs) : SqL K H' a xs := k.seq h
theorem kT {H H' : Hp} (k : Same H H') (h : SqT K H a xs) : SqT K H' a xs := h.imp (fun r => r.imp (fun e => k _ _ e) fun ⟨o, e⟩ => ⟨o, k _ _ e⟩) id
/-- for i, x in enumerate(what the slot j holds): nothing that stood is changed in it -/
theorem for_enumS (hs : σ[j]? = some (some (.ref a))) (hS : SqL K H0 a xs ∨ SqT K H0 a xs) (Pv : Nat → L2.St → Hp → Prop) (h0 : Pv 0 σ H) (hG : ∀ i σ' H', Pv i σ' H' → Same H0 H')
    (step : ∀ i x σ' H1 H', i < xs.length → Pv i σ' H1 → YPair (fun i => some (.int (i : Nat))) (fun i => xs[i]?) i H1 x H' → g x σ' H' fun σ2 H2 => tb { D with nx := Pv (i + 1), ct := Pv (i + 1), bk := D.nx } σ2 H2)
    (hd : ∀ σ' H', Pv xs.length σ' H' → D.nx σ' H') : tFor (iEnumS K j) g tb D σ H := by
  refine ⟨a, xs, hs, ?_⟩
  rcases hS with h | h
  · exact .inl ⟨kL (hG 0 _ _ h0) h, for_it walk_enum Pv h0 (fun i σ' H' _ p => kL (hG i σ' H' p) h) step hd⟩
  · exact .inr ⟨kT (hG 0 _ _ h0) h, for_it walk_enumT Pv h0 (fun i σ' H' _ p => kT (hG i σ' H' p) h) step hd⟩
/-- for x in what the slot j holds -/
theorem for_seqS (hs : σ[j]? = some (some (.ref a))) (hS : SqL K H0 a xs ∨ SqT K H0 a xs) (Pv : Nat → L2.St → Hp → Prop) (h0 : Pv 0 σ H) (hG : ∀ i σ' H', Pv i σ' H' → Same H0 H')
    (step : ∀ i x σ' H', xs[i]? = some x → Pv i σ' H' → g x σ' H' fun σ2 H2 => tb { D with nx := Pv (i + 1), ct := Pv (i + 1), bk := D.nx } σ2 H2)
    (hd : ∀ σ' H', Pv xs.length σ' H' → D.nx σ' H') : tFor (iSeqS K j) g tb D σ H := by
  refine ⟨a, xs, hs, ?_⟩
  rcases hS with h | h
  · exact .inl ⟨kL (hG 0 _ _ h0) h, for_it walk_list Pv h0 (fun i σ' H' _ p => kL (hG i σ' H' p) h) (fun i x σ' H1 H' _ p y => by rw [y.1]; exact step i x σ' H1 y.2 p) hd⟩
  · exact .inr ⟨kT (hG 0 _ _ h0) h, for_it walk_tup Pv h0 (fun i σ' H' _ p => kT (hG i σ' H' p) h) (fun i x σ' H1 H' _ p y => by rw [y.1]; exact step i x σ' H1 y.2 p) hd⟩
/-- [.. for x in what the slot j holds ..] -/
theorem lc_seqS {tt : TT} {te : TE} {vs : List Nat} {Q : VK} (hs : σ[j]? = some (some (.ref a))) (hH : Same H0 H) (hS : SqL K H0 a xs ∨ SqT K H0 a xs) (Pv : Addr → Nat → Hp → Prop)
    (h0 : ∀ D, H D = none → Pv D 0 (upd H D (.lst []))) (hG : ∀ D i H', H D = none → Pv D i H' → Same H0 H')
    (step : ∀ D i x H', H D = none → xs[i]? = some x → Pv D i H' → g x (wipe σ vs) H' fun σ2 H2 => wipe σ2 vs = wipe σ vs ∧ tt σ2 H2 fun b H3 =>
      if b = true then te σ2 H3 fun y H4 => ∃ acc, H4 D = some (.lst acc) ∧ acc.length < sizeLine ∧ Pv D (i + 1) (upd H4 D (.lst (acc ++ [y]))) else Pv D (i + 1) H3)
    (hd : ∀ D H', H D = none → Pv D xs.length H' → Q (.ref D) H') : tLc (iSeqS K j) g tt te vs σ H Q := by
  refine ⟨a, xs, hs, ?_⟩
  rcases hS with h | h
  · exact .inl ⟨kL hH h, fun D hD => lc_it walk_list (Pv D) (h0 D hD) (fun i H' _ p => kL (hG D i H' hD p) h) (fun i x H1 H' _ p y => by rw [y.1]; exact step D i x H1 hD y.2 p) (fun H' p => hd D H' hD p)⟩
  · exact .inr ⟨kT hH h, fun D hD => lc_it walk_tup (Pv D) (h0 D hD) (fun i H' _ p => kT (hG D i H' hD p) h) (fun i x H1 H' _ p y => by rw [y.1]; exact step D i x H1 hD y.2 p) (fun H' p => hd D H' hD p)⟩
open VT
/-- a set comprehension of texts over a walk -/
theorem sc_it {J : It} {n : Nat} {G : Hp → Prop} {Y : Nat → Hp → V → Hp → Prop} (w : Walk J n G Y) {ww : World} {tt : TT} {te : TE} {vs : List Nat} {H1 : Hp} {E : Addr} {Qd : Hp → Prop} (Pv : Nat → Hp → Prop) (h0 : Pv 0 (upd H1 E (SetTO ww E (fun _ => false) 0))) (hG : ∀ i H, i ≤ n → Pv i H → G H)
    (hs : ∀ i x H H', i < n → Pv i H → Y i H x H' → g x (wipe σ vs) H' fun σ2 H2 => wipe σ2 vs = wipe σ vs ∧ tt σ2 H2 fun b H3 => if b = true then te σ2 H3 fun y H4 => AddT ww E y H4 (Pv (i + 1)) else Pv (i + 1) H3) (hd : ∀ H, Pv n H → Qd H) :
    ∃ W : Nat → Nat → Hp → Prop, (∃ m, W 0 m (upd H1 E (SetTO ww E (fun _ => false) 0))) ∧ ∀ i m H, W i m H →
      (J.stop i H ∧ Qd H) ∨ (J.go i H ∧ ∃ Nx : Hp → Prop, (∀ H', Nx H' → ∃ m', m' < m ∧ W (i + 1) m' H') ∧ ∀ x H', J.yld i H x H' → g x (wipe σ vs) H' fun σ2 H2 => wipe σ2 vs = wipe σ vs ∧ tt σ2 H2 fun b H3 => if b = true then te σ2 H3 fun y H4 => AddT ww E y H4 Nx else Nx H3) := by
  refine ⟨fun i m H => m = n - i ∧ i ≤ n ∧ Pv i H, ⟨n, by simp, Nat.zero_le _, h0⟩, fun i m H ⟨hm, hi, p⟩ => ?_⟩
  subst hm
  have q := hG i H hi p
  by_cases hlt : i < n
  · exact .inr ⟨w.goes i H hlt q, Pv (i + 1), fun H' p' => ⟨n - (i + 1), by omega, rfl, hlt, p'⟩, fun x H' y => hs i x H H' hlt p (w.yields i H x H' hlt q y)⟩
  · have e : i = n := by omega
    exact .inl ⟨e ▸ w.stops H q, hd H (e ▸ p)⟩
theorem sc_seqS {ww : World} {tt : TT} {te : TE} {vs : List Nat} {Q : VK} (hs : σ[j]? = some (some (.ref a))) (hH : Same H0 H) (hS : SqL K H0 a xs ∨ SqT K H0 a xs) (Pv : Addr → Nat → Hp → Prop)
    (h0 : ∀ D, H D = none → Pv D 0 (upd H D (SetTO ww D (fun _ => false) 0))) (hG : ∀ D i H', H D = none → Pv D i H' → Same H0 H')
    (step : ∀ D i x H', H D = none → xs[i]? = some x → Pv D i H' → g x (wipe σ vs) H' fun σ2 H2 => wipe σ2 vs = wipe σ vs ∧ tt σ2 H2 fun b H3 => if b = true then te σ2 H3 fun y H4 => AddT ww D y H4 (Pv D (i + 1)) else Pv D (i + 1) H3)
    (hd : ∀ D H', H D = none → Pv D xs.length H' → Q (.ref D) H') : tScT ww (iSeqS K j) g tt te vs σ H Q := by
  refine ⟨a, xs, hs, ?_⟩
  rcases hS with h | h
  · exact .inl ⟨kL hH h, fun D hD => sc_it walk_list (Pv D) (h0 D hD) (fun i H' _ p => kL (hG D i H' hD p) h) (fun i x H1 H' _ p y => by rw [y.1]; exact step D i x H1 hD y.2 p) (fun H' p => hd D H' hD p)⟩
  · exact .inr ⟨kT hH h, fun D hD => sc_it walk_tup (Pv D) (h0 D hD) (fun i H' _ p => kT (hG D i H' hD p) h) (fun i x H1 H' _ p y => by rw [y.1]; exact step D i x H1 hD y.2 p) (fun H' p => hd D H' hD p)⟩
end
end VE
namespace KX
open PySem PySem.Spec PyProof.Rows L2
def topS (i : Nat) : Stmt := PySem.Challenge.pw_surelydone_k02_hand_tells_its_parts.main.body.getD i (.Pass ⟨0, 0, 0, 0⟩)
abbrev s_wall : Stmt := topS 0
abbrev s_BadState_init : Stmt := inClass (topS 3) 0
abbrev s_BadSteps_init : Stmt := inClass (topS 4) 0
abbrev s_TooMany_init : Stmt := inClass (topS 5) 0
abbrev s_is_whole : Stmt := topS 9
abbrev s_is_state : Stmt := topS 10
abbrev s_is_name : Stmt := topS 11
abbrev s_is_row : Stmt := topS 12
abbrev s_all_reached : Stmt := topS 14
abbrev s_Hand_init : Stmt := inClass (topS 20) 0
abbrev s_Hand_ring : Stmt := inClass (topS 20) 1
abbrev s_Hand_eq : Stmt := inClass (topS 20) 2
abbrev s_is_step : Stmt := topS 21
abbrev s_check_steps : Stmt := topS 22
abbrev s_reached_states : Stmt := topS 23
abbrev s_exits_of : Stmt := topS 24
abbrev s_law_cell : Stmt := topS 26
abbrev s_law_pool : Stmt := topS 27
abbrev s_law_draw : Stmt := topS 28
abbrev s_law_name : Stmt := topS 29
abbrev s_law_names : Stmt := topS 30
abbrev s_law_same : Stmt := topS 31
abbrev s_law_many_steps : Stmt := topS 32
abbrev s_law_reached : Stmt := topS 33
abbrev s_law_holds : Stmt := topS 34
abbrev s_law : Stmt := topS 35
/-! ### what the top leaves: built-in names -/
structure Blt (mg : Str → Option Value) : Prop where
  len : mg "len" = none
  int : mg "int" = none
  range : mg "range" = none
  isinstance : mg "isinstance" = none
  tuple : mg "tuple" = none
  list : mg "list" = none
  set : mg "set" = none
  sorted : mg "sorted" = none
  all : mg "all" = none
  enumerate : mg "enumerate" = none
section
variable {P : Program} {w : World} {K : PySem.W.Frag} {mg : Str → Option Value} {base : Heap}
/-! ### _law_cell, _law_pool, _law_draw -/
theorem sc_cell : FnScope ["_law_script", "_law_k"] ["_law_script", "_law_k"] (defScope s_law_cell) := ⟨rfl, rfl, rfl, by decide +kernel, rfl, by decide +kernel, by decide +kernel⟩
def spCellV (K : PySem.W.Frag) : Sp := fun vs H Q _ => ∃ (a : Addr) (ns : List Int) (k : Nat), vs = [.ref a, .int k] ∧ SqL K H a (ns.map V.int) ∧ ∀ z : Int, Q (.int z) H
theorem ok_cell {f : Addr} {fd : FuncData} (F : Fun K "_law_cell" "_law_cell" s_law_cell f fd) (B : Blt mg) : FnOk P w K mg base CX0 1 f fd ["_law_script", "_law_k"] (spCellV K) := by
  refine F.ok sc_cell (fun vs H Q E h => ?_) (fun cdv A outer s H vs Q E hr h => ?_)
  · obtain ⟨a, ns, k, rfl, _⟩ := h
    rfl
  · obtain ⟨a, ns, k, rfl, hS, q⟩ := h
    refine ⟨_, pss_cons (ps_if (pt_cmpR op_lt (pv 1) (pe_callB call_len_seq (by rfl) B.len PySem.boot_len (pa_cons (pv 0) pa_nil)) (nomark _)) (pss_one (ps_ret (pe_ix ix_list (pv 0) (pv 1) (fun _ _ => rfl)))) pss_nil)
      (pss_one (ps_ret (pe_op op_add (pe_op op_mul pe_int (pv 1)) pe_int))), ?_⟩
    refine ⟨_, rfl, _, rfl, a, _, rfl, .inl hS, _, _, rfl, rfl, _, rfl, ite2 (fun e => ?_) (fun e => ?_)⟩
    · have e1 : (k : Int) < ((ns.map V.int).length : Nat) := of_decide_eq_true e
      rw [List.length_map] at e1
      have hk : k < ns.length := by omega
      exact ⟨_, rfl, _, rfl, a, _, _, .int ns[k], rfl, rfl, hS, atI_nat (by rw [List.getElem?_map, List.getElem?_eq_getElem hk]; rfl), q _⟩
    · exact ⟨_, rfl, _, _, rfl, rfl, .inl ⟨by decide, by decide⟩, _, _, rfl, rfl, q _⟩
theorem sc_pool : FnScope ["_law_cell_here", "_law_rest"] ["_law_cell_here"] (defScope s_law_pool) := ⟨rfl, rfl, rfl, by decide +kernel, rfl, by decide +kernel, by decide +kernel⟩
/-- a pool stands at p -/
def PoolAt (H : Hp) (p : Addr) : Prop := ∃ x y z : Int, H p = some (.lst [.int x, .int y, .int z])
def spPool : Sp := fun vs H Q _ => ∃ z : Int, vs = [.int z] ∧ ∀ (p : Addr) (x y z : Int), H p = none → Q (.ref p) (upd H p (.lst [.int x, .int y, .int z]))
theorem ok_pool {f : Addr} {fd : FuncData} (F : Fun K "_law_pool" "_law_pool" s_law_pool f fd) (B : Blt mg) : FnOk P w K mg base CX0 1 f fd ["_law_cell_here"] spPool := by
  refine F.ok sc_pool (fun vs H Q E h => ?_) (fun cdv A outer s H vs Q E hr h => ?_)
  · obtain ⟨z, rfl, _⟩ := h
    rfl
  · obtain ⟨z, rfl, q⟩ := h
    refine ⟨_, pss_cons (ps_set (i := 1) sc_pool.nd rfl (.inl rfl) pe_int)
      (pss_cons (ps_if (pt_cmpR op_ge (pv 0) (pe_op op_pow pe_int pe_int) (nomark _)) (pss_one (ps_set (i := 1) sc_pool.nd rfl (.inl rfl) (pv 0))) pss_nil)
      (pss_one (ps_ret (pe_lst (pa_cons (pe_op op_mod (pe_callTy call_int1 (by rfl) B.int (by decide +kernel) (pa_cons (pv 0) pa_nil)) pe_int) (pa_cons (pv 1) (pa_cons pe_int pa_nil))))))), ?_⟩
    have fin : ∀ (b : Int), (fun (D : Ends) (σ : L2.St) (H : Hp) => (tRet (tLst (tCons (tOp (rI (fun _ j => 0 < j) fun i j => .int (i % j)) (tCB (fun xs H Q => (∃ i, xs = [V.int i] ∧ Q (.int i) H) ∨ ∃ k, xs = [.bl k] ∧ Q (.int (if k then 1 else 0)) H) (tCons (tVar 0) tNil)) (tC (.int 2147483629))) (tCons (tVar 1) (tCons (tC (.int 0)) tNil))))) D σ H) { nx := fun _ H' => Q .non H', rt := Q } [some (.int z), some (.int b)] H := fun b => by
      exact ⟨_, rfl, .inl ⟨_, rfl, _, _, rfl, rfl, by show (0 : Int) < 2147483629; decide, _, rfl, by show 3 ≤ sizeLine; decide, fun l hl => q l _ _ _ hl⟩⟩
    refine ⟨_, rfl, _, _, rfl, rfl, ?_, _, _, rfl, rfl, _, rfl, ite2 (fun e => ?_) (fun e => ?_)⟩
    · exact ⟨by decide, by decide, by decide⟩
    · exact ⟨_, rfl, fin z⟩
    · exact fin 0
theorem sc_draw : FnScope ["_law_pool_here", "_law_many", "_law_digit", "_law_number"] ["_law_pool_here", "_law_many"] (defScope s_law_draw) := ⟨rfl, rfl, rfl, by decide +kernel, rfl, by decide +kernel, by decide +kernel⟩
def spDraw : Sp := fun vs H Q _ => ∃ (p : Addr) (m : Int), vs = [.ref p, .int m] ∧ PoolAt H p ∧ 0 < m ∧ m < 2 ^ 64 ∧ ∀ d x y z : Int, 0 ≤ d → d < m → Q (.int d) (upd H p (.lst [.int x, .int y, .int z]))
theorem upd_upd {H : Hp} {p : Addr} {o o' : HO} : upd (upd H p o) p o' = upd H p o' := by
  funext b
  unfold upd
  by_cases e : b = p
  · rw [if_pos e, if_pos e]
  · rw [if_neg e, if_neg e, if_neg e]
theorem emod_lt64 {x m : Int} (h : 0 < m) (hm : m < 2 ^ 64) : -(2 ^ 64) < x % m ∧ x % m < 2 ^ 64 := by
  have h1 := Int.emod_nonneg x (by omega : m ≠ 0)
  have h2 := Int.emod_lt_of_pos x h
  omega
theorem ok_draw {f : Addr} {fd : FuncData} (F : Fun K "_law_draw" "_law_draw" s_law_draw f fd) (B : Blt mg) : FnOk P w K mg base CX0 1 f fd ["_law_pool_here", "_law_many"] spDraw := by
  refine F.ok sc_draw (fun vs H Q E h => ?_) (fun cdv A outer s H vs Q E hr h => ?_)
  · obtain ⟨p, m, rfl, _⟩ := h
    rfl
  · obtain ⟨p, m, rfl, ⟨x, y, z, hp⟩, h0, h1, q⟩ := h
    refine ⟨_, pss_cons (ps_asg (pe_op op_add (pe_ix ix_list (pv 0) pe_int (fun _ _ => rfl)) pe_int) (pg_sub (pv 0) pe_int set_list))
      (pss_cons (ps_if (pt_cmpR op_gt (pe_ix ix_list (pv 0) pe_int (fun _ _ => rfl)) pe_int (nomark _))
        (pss_cons (ps_set (i := 2) sc_draw.nd rfl (.inl rfl) (pe_op op_mod (pe_callTy call_int1 (by rfl) B.int (by decide +kernel) (pa_cons (pe_ix ix_list (pv 0) pe_int (fun _ _ => rfl)) pa_nil)) (pv 1)))
        (pss_cons (ps_asg (pe_op op_fdivW (pe_ix ix_list (pv 0) pe_int (fun _ _ => rfl)) (pv 1)) (pg_sub (pv 0) pe_int set_list))
        (pss_one (ps_ret (pv 2))))) pss_nil)
      (pss_cons (ps_set (i := 3) sc_draw.nd rfl (.inl rfl) (pe_op op_mod (pe_callTy call_int1 (by rfl) B.int (by decide +kernel) (pa_cons (pe_op op_mul (pe_op op_add (pe_op op_add (pe_ix ix_list (pv 0) pe_int (fun _ _ => rfl)) (pe_op op_mul pe_int (pe_ix ix_list (pv 0) pe_int (fun _ _ => rfl)))) pe_int) pe_int) pa_nil)) pe_int))
      (pss_cons (ps_set (i := 3) sc_draw.nd rfl (.inl rfl) (pe_op op_mod (pe_callTy call_int1 (by rfl) B.int (by decide +kernel) (pa_cons (pe_op op_mul (pv 3) (pe_op op_add (pe_op op_fdiv (pv 3) pe_int) pe_int)) pa_nil)) pe_int))
      (pss_cons (ps_set (i := 3) sc_draw.nd rfl (.inl rfl) (pe_op op_mod (pe_callTy call_int1 (by rfl) B.int (by decide +kernel) (pa_cons (pe_op op_mul (pv 3) (pe_op op_add (pe_op op_fdiv (pv 3) pe_int) pe_int)) pa_nil)) pe_int))
      (pss_one (ps_ret (pe_op op_mod (pe_callTy call_int1 (by rfl) B.int (by decide +kernel) (pa_cons (pe_op op_fdiv (pv 3) pe_int) pa_nil)) (pv 1)))))))), ?_⟩
    -- pool[2] = pool[2] + 1
    refine ⟨_, rfl, p, _, _, .int z, rfl, rfl, .inl (.inl hp), atI_nat (j := 2) rfl, _, _, rfl, rfl, ?_⟩
    refine ⟨_, rfl, p, _, _, 2, rfl, rfl, hp, rfl, ?_⟩
    have hp1 : upd H p (.lst [.int x, .int y, .int (z + 1)]) p = some (.lst [.int x, .int y, .int (z + 1)]) := upd_same
    -- if pool[1] > 0
    refine ⟨_, rfl, p, _, _, .int y, rfl, rfl, .inl (.inl hp1), atI_nat (j := 1) rfl, _, _, rfl, rfl, _, rfl, ite2 (fun e => ?_) (fun e => ?_)⟩
    · refine ⟨_, rfl, p, _, _, .int y, rfl, rfl, .inl (.inl hp1), atI_nat (j := 1) rfl, .inl ⟨_, rfl, _, rfl, _, _, rfl, rfl, h0, ?_⟩⟩
      refine ⟨_, rfl, p, _, _, .int y, rfl, rfl, .inl (.inl hp1), atI_nat (j := 1) rfl, _, rfl, _, _, rfl, rfl, wide_div (b := 64) h0 (by omega) (by decide) (by decide), ?_⟩
      refine ⟨_, rfl, p, _, _, 1, rfl, rfl, hp1, rfl, _, rfl, ?_⟩
      rw [upd_upd]
      exact q _ _ _ _ (Int.emod_nonneg y (by omega)) (Int.emod_lt_of_pos y h0)
    · refine ⟨_, rfl, p, _, _, .int x, rfl, rfl, .inl (.inl hp1), atI_nat (j := 0) rfl, _, rfl, p, _, _, .int (z + 1), rfl, rfl, .inl (.inl hp1), atI_nat (j := 2) rfl, _, _, rfl, rfl, .inl ⟨by decide, by decide⟩, _, _, rfl, rfl, _, _, rfl, rfl, _, _, rfl, rfl, .inr ⟨by decide, by decide⟩, .inl ⟨_, rfl, _, _, rfl, rfl, by show (0 : Int) < 2147483647; decide, ?_⟩⟩
      refine ⟨_, rfl, _, rfl, _, _, rfl, rfl, ⟨by decide, by decide⟩, _, _, rfl, rfl, _, _, rfl, rfl, .inl (emod_lt64 (by decide) (by decide)), .inl ⟨_, rfl, _, _, rfl, rfl, by show (0 : Int) < 2147483647; decide, ?_⟩⟩
      refine ⟨_, rfl, _, rfl, _, _, rfl, rfl, ⟨by decide, by decide⟩, _, _, rfl, rfl, _, _, rfl, rfl, .inl (emod_lt64 (by decide) (by decide)), .inl ⟨_, rfl, _, _, rfl, rfl, by show (0 : Int) < 2147483399; decide, ?_⟩⟩
      refine ⟨_, rfl, _, _, rfl, rfl, ⟨by decide, by decide⟩, .inl ⟨_, rfl, _, rfl, _, _, rfl, rfl, h0, ?_⟩⟩
      exact q _ _ _ _ (Int.emod_nonneg _ (by omega)) (Int.emod_lt_of_pos _ h0)
end
end KX
namespace KX
open PySem PySem.Spec PyProof.Rows L2
/-! ### _law_name -/
/-- 1 to 12 letters from a to z -/
structure NameOk (z : Str) : Prop where
  lo : 1 ≤ z.cps.toList.length
  hi : z.cps.toList.length ≤ 12
  az : ∀ c ∈ z.cps.toList, 97 ≤ c ∧ c ≤ 122
theorem cps_app (x y : Str) : (x ++ y).cps.toList = x.cps.toList ++ y.cps.toList := PyProof.Rows.cps_toList_append x y
theorem len_cps (x : Str) : x.length = x.cps.toList.length := by
  show x.cps.size = _
  rw [Array.length_toList]
theorem p26 (l : Nat) (h : l < 12) : (26 : Int) ^ (12 - l) = 26 * 26 ^ (11 - l) := by
  have e : 12 - l = (11 - l) + 1 := by omega
  rw [e, Int.pow_succ, Int.mul_comm]
theorem nil_cps : ("" : Str).cps.toList = [] := by decide +kernel
/-- between two turns of the loop of _law_name: the letters so far and what is left -/
structure NmInv (z : Str) (r : Int) : Prop where
  lo : 0 ≤ r
  le : z.cps.toList.length ≤ 12
  up : r ≤ 26 ^ (12 - z.cps.toList.length)
  st : 0 < z.cps.toList.length → r < 26 ^ (12 - z.cps.toList.length)
  az : ∀ c ∈ z.cps.toList, 97 ≤ c ∧ c ≤ 122
  one : r = 0 → 1 ≤ z.cps.toList.length
theorem nm_turn {z : Str} {r : Int} {c : Nat} (I : NmInv z r) (h : 0 < r) (hc : 97 ≤ c ∧ c ≤ 122) : NmInv ((⟨#[c]⟩ : Str) ++ z) ((r - 1) / 26) ∧ z.cps.toList.length < 12 := by
  have hl : z.cps.toList.length < 12 := by
    have h1 := I.le
    have h2 := I.st
    by_cases e : z.cps.toList.length = 12
    · rw [e] at h2
      have h3 := h2 (by decide)
      simp at h3
      omega
    · omega
  have el : ((⟨#[c]⟩ : Str) ++ z).cps.toList.length = z.cps.toList.length + 1 := by
    rw [cps_app, List.length_append]
    show 1 + _ = _
    omega
  have e2 : (26 : Int) ^ (12 - (z.cps.toList.length + 1)) = 26 ^ (11 - z.cps.toList.length) := by
    congr 1
    omega
  have hlt : (r - 1) / 26 < 26 ^ (11 - z.cps.toList.length) := by
    have h1 := I.up
    rw [p26 _ hl] at h1
    omega
  refine ⟨⟨by omega, by rw [el]; omega, by rw [el, e2]; omega, fun _ => by rw [el, e2]; exact hlt, fun d hd => ?_, fun _ => by rw [el]; omega⟩, hl⟩
  rw [cps_app] at hd
  rcases List.mem_append.mp hd with q | q
  · have q' : d = c := by simpa using q
    rw [q']
    exact hc
  · exact I.az d q
abbrev abc : Str := "abcdefghijklmnopqrstuvwxyz"
theorem abc_at (i : Int) (h0 : 0 ≤ i) (h1 : i < 26) : ∃ c, atI abc.cps.toList i = some c ∧ 97 ≤ c ∧ c ≤ 122 := by
  obtain ⟨n, rfl⟩ := Int.eq_ofNat_of_zero_le h0
  have hn : n < 26 := by omega
  have all : ∀ m, m < 26 → ∃ c, abc.cps.toList[m]? = some c ∧ 97 ≤ c ∧ c ≤ 122 := by decide +kernel
  obtain ⟨c, e, q⟩ := all n hn
  exact ⟨c, atI_nat e, q⟩
section
variable {P : Program} {w : World} {K : PySem.W.Frag} {mg : Str → Option Value} {base : Heap}
theorem sc_name : FnScope ["_law_number", "_law_letters", "_law_left"] ["_law_number"] (defScope s_law_name) := ⟨rfl, rfl, rfl, by decide +kernel, rfl, by decide +kernel, by decide +kernel⟩
def spName : Sp := fun vs H Q _ => ∃ n : Int, vs = [.int n] ∧ 0 ≤ n ∧ n < 26 ^ 12 ∧ ∀ z, NameOk z → Q (.str z) H
theorem ok_name {f : Addr} {fd : FuncData} (F : Fun K "_law_name" "_law_name" s_law_name f fd) (B : Blt mg) : FnOk P w K mg base CX0 1 f fd ["_law_number"] spName := by
  refine F.ok sc_name (fun vs H Q E h => ?_) (fun cdv A outer s H vs Q E hr h => ?_)
  · obtain ⟨n, rfl, _⟩ := h
    rfl
  · obtain ⟨n, rfl, h0, h1, q⟩ := h
    refine ⟨_, pss_cons (ps_set (i := 1) sc_name.nd rfl (.inl rfl) pe_str)
      (pss_cons (ps_set (i := 2) sc_name.nd rfl (.inl rfl) (pe_op op_add (pv 0) pe_int))
      (pss_cons (ps_while PassesOwn.never (pt_cmpR op_gt (pv 2) pe_int (nomark _))
        (pss_cons (ps_set (i := 2) sc_name.nd rfl (.inl rfl) (pe_op op_sub (pv 2) pe_int))
        (pss_cons (ps_set (i := 1) sc_name.nd rfl (.inl rfl) (pe_op op_add_str (pe_ix ix_str pe_str (pe_op op_mod (pe_callTy call_int1 (by rfl) B.int (by decide +kernel) (pa_cons (pv 2) pa_nil)) pe_int) (fun _ _ => rfl)) (pv 1)))
        (pss_one (ps_set (i := 2) sc_name.nd rfl (.inl rfl) (pe_op op_fdiv (pv 2) pe_int))))))
      (pss_one (ps_ret (pv 1))))), ?_⟩
    refine ⟨_, rfl, _, _, rfl, rfl, fun m σ H2 => ∃ (z : Str) (r : Int), σ = [some (.int n), some (.str z), some (.int r)] ∧ H2 = H ∧ NmInv z r ∧ m = r.toNat, ⟨_, _, _, rfl, rfl, ?_, rfl⟩, ?_⟩
    · exact ⟨by omega, by decide, by show n + 1 ≤ 26 ^ 12; omega, fun z => absurd z (by decide), fun c hc => absurd hc (by rw [nil_cps]; exact List.not_mem_nil), fun z => by omega⟩
    · rintro m σ H2 ⟨z, r, rfl, rfl, I, rfl⟩
      refine ⟨_, rfl, _, _, rfl, rfl, _, rfl, ?_⟩
      by_cases e : 0 < r
      · rw [decide_eq_true e]
        obtain ⟨c, hc, hz⟩ := abc_at ((r - 1) % 26) (Int.emod_nonneg _ (by decide)) (Int.emod_lt_of_pos _ (by decide))
        obtain ⟨I2, hl⟩ := nm_turn I e hz
        refine ⟨fun σ' H' => ∃ (z' : Str) (r' : Int), σ' = [some (.int n), some (.str z'), some (.int r')] ∧ H' = H2 ∧ NmInv z' r' ∧ r'.toNat < r.toNat, ?_, ?_⟩
        · rintro σ' H' ⟨z', r', rfl, rfl, I', hm⟩
          exact ⟨_, hm, _, _, rfl, rfl, I', rfl⟩
        · refine ⟨_, rfl, _, _, rfl, rfl, _, rfl, .inl ⟨_, rfl, _, _, rfl, rfl, by show (0 : Int) < 26; decide, abc, _, c, rfl, rfl, by decide +kernel, hc, _, rfl, _, _, rfl, rfl, ?_, ?_⟩⟩
          · rw [len_cps, len_cps]
            show 1 + _ ≤ sizeLine
            rw [sizeLine_eq]
            omega
          · exact ⟨_, rfl, _, _, rfl, rfl, ⟨by decide, by decide⟩, _, _, rfl, rfl, I2, by omega⟩
      · rw [decide_eq_false e]
        exact ⟨_, rfl, q z ⟨I.one (by have := I.lo; omega), I.le, I.az⟩⟩
end
end KX
namespace KX
open PySem PySem.Spec PyProof.Rows L2
/-! ### _law_names -/
/-- what stood stands, but what is at p -/
def SameX (p : Addr) (H H' : Hp) : Prop := ∀ b o, b ≠ p → H b = some o → H' b = some o
theorem SameX.refl {p : Addr} {H : Hp} : SameX p H H := fun _ _ _ e => e
theorem SameX.trans {p : Addr} {H H1 H2 : Hp} (a : SameX p H H1) (b : SameX p H1 H2) : SameX p H H2 := fun c o n e => b c o n (a c o n e)
theorem SameX.at {p : Addr} {H : Hp} {o : HO} : SameX p H (upd H p o) := fun _ _ n e => by rw [upd_ne n]; exact e
theorem SameX.new {p q : Addr} {H : Hp} {o : HO} (h : H q = none) : SameX p H (upd H q o) := fun _ _ _ e => by rw [upd_ne (ne_of_none e h)]; exact e
theorem SameX.of {p : Addr} {H H' : Hp} (h : Same H H') : SameX p H H' := fun _ _ _ e => h _ _ e
/-- what is at p and q may change -/
def SameXX (p q : Addr) (H H' : Hp) : Prop := ∀ b o, b ≠ p → b ≠ q → H b = some o → H' b = some o
def Nm (n : Int) : Prop := 0 ≤ n ∧ n < 26 ^ 12
section
variable {P : Program} {w : World} {K : PySem.W.Frag} {mg : Str → Option Value} {base : Heap}
theorem sc_names : FnScope ["_law_pool_here", "_law_many", "_law_numbers", "_law_k", "_law_number", "_law_again"] ["_law_pool_here", "_law_many"] (defScope s_law_names) := ⟨rfl, rfl, rfl, by decide +kernel, rfl, by decide +kernel, by decide +kernel⟩
def spNames : Sp := fun vs H Q _ => ∃ (p : Addr) (m : Nat), vs = [.ref p, .int m] ∧ PoolAt H p ∧ m ≤ 1000 ∧
  ∀ (l : Addr) (zs : List Str) (H' : Hp), H l = none → H' l = some (.lst (zs.map V.str)) → (∀ z ∈ zs, NameOk z) → zs.length = m → PoolAt H' p → SameX p H H' → Q (.ref l) H'
theorem flat_ints (ns : List Int) : (ns.map V.int).all flatV = true := by
  rw [List.all_map]
  exact List.all_eq_true.mpr fun _ _ => rfl
theorem get_int {ns : List Int} {i : Nat} {y : V} (h : (ns.map V.int)[i]? = some y) : ∃ z, y = .int z ∧ z ∈ ns := by
  rw [List.getElem?_map] at h
  cases e : ns[i]? with
  | none => rw [e] at h; cases h
  | some z => rw [e] at h; exact ⟨z, (Option.some.inj h).symm, List.mem_of_getElem? e⟩
theorem ok_names {f fD fN : Addr} {fd fdD fdN : FuncData} (F : Fun K "_law_names" "_law_names" s_law_names f fd) (B : Blt mg) (FD : Fun K "_law_draw" "_law_draw" s_law_draw fD fdD) (bD : Binds K fdD ["_law_pool_here", "_law_many"] []) (gD : mg "_law_draw" = some (.ref fD))
    (FN : Fun K "_law_name" "_law_name" s_law_name fN fdN) (bN : Binds K fdN ["_law_number"] []) (gN : mg "_law_name" = some (.ref fN)) : FnOk P w K mg base CX0 2 f fd ["_law_pool_here", "_law_many"] spNames := by
  have GD : FnOk P w K mg base CX0 1 fD fdD ["_law_pool_here", "_law_many"] spDraw := ok_draw FD B
  have GN : FnOk P w K mg base CX0 1 fN fdN ["_law_number"] spName := ok_name FN B
  refine F.ok sc_names (fun vs H Q E h => ?_) (fun cdv A outer s H vs Q E hr h => ?_)
  · obtain ⟨p, m, rfl, _⟩ := h
    rfl
  · obtain ⟨p, m, rfl, hp, hm, q⟩ := h
    refine ⟨_, pss_cons (ps_set (i := 2) sc_names.nd rfl (.inl rfl) (pe_lst pa_nil))
      (pss_cons (ps_for PassesOwn.never rfl (pi_range1 rfl B.range (pa_cons (pv 1) pa_nil)) (pg_name (i := 3) sc_names.nd rfl (.inl rfl))
        (pss_cons (ps_set (i := 4) sc_names.nd rfl (.inl rfl) (pe_call GD hr (by rfl) gD FD.kp bD .nil pass0 (pa_cons (pv 0) (pa_cons pe_int pa_nil))))
        (C8.pss_cut (ps_if (pt_cmpR op_eq (pe_call GD hr (by rfl) gD FD.kp bD .nil pass0 (pa_cons (pv 0) (pa_cons pe_int pa_nil))) pe_int (nomark _))
          (pss_one (ps_set (i := 4) sc_names.nd rfl (.inl rfl) (pe_call GD hr (by rfl) gD FD.kp bD .nil pass0 (pa_cons (pv 0) (pa_cons (pe_op op_pow pe_int pe_int) pa_nil))))) pss_nil)
        (pss_cons (ps_for PassesOwn.never rfl (pi_range1 rfl B.range (pa_cons (pv 3) pa_nil)) (pg_name (i := 5) sc_names.nd rfl (.inl rfl))
          (pss_one (ps_if (pt_cmpR op_in_seq (pv 4) (pv 2) rfl)
            (pss_one (ps_set (i := 4) sc_names.nd rfl (.inl rfl) (pe_op op_mod (pe_callTy call_int1 (by rfl) B.int (by decide +kernel) (pa_cons (pe_op op_add (pv 4) pe_int) pa_nil)) (pe_op op_pow pe_int pe_int)))) pss_nil)))
        (pss_one (ps_expr (pe_bm PySem.F.plainAttrs_list PySem.F.slot_list_append PySem.F.type_list_append mt_append (pv 2) (pa_cons (pv 4) pa_nil))))))))
      (pss_one (ps_ret (pe_lc (own := [("_law_number", 4)]) (g := gName 4) (tt := tYes) rfl sc_names.nd (pi_list (pv 2)) (blkOk_by (N := ["_law_pool_here", "_law_many", "_law_numbers", "_law_k", "_law_number", "_law_again"]) (sc := defScope s_law_names) (by decide +kernel))
        (fun _ _ _ _ _ => pg_name (i := 4) sc_names.nd rfl (.inl rfl)) (fun _ _ _ _ _ => pts_nil) (fun _ _ _ _ _ => pe_call GN hr (by rfl) gN FN.kp bN .nil pass0 (pa_cons (pv 4) pa_nil)))))), ?_⟩
    refine ⟨Nat.zero_le _, fun l nl => ?_⟩
    have npl : l ≠ p := by
      obtain ⟨x, y, z, e⟩ := hp
      exact (ne_of_none e nl).symm
    -- for k in range(many)
    refine ⟨_, rfl, m, rfl, by omega, by omega, ?_⟩
    refine for_range (fun i σ H2 => ∃ (ns : List Int) (v3 v4 v5 : Option V), σ = [some (.ref p), some (.int m), some (.ref l), v3, v4, v5] ∧ H2 l = some (.lst (ns.map V.int)) ∧ ns.length = i ∧ (∀ n ∈ ns, Nm n) ∧ PoolAt H2 p ∧ SameX p H H2)
      ⟨[], none, none, none, rfl, upd_same, rfl, (fun n h => by cases h), ?_, SameX.new nl⟩ ?_ ?_
    · obtain ⟨x, y, z, e⟩ := hp
      exact ⟨x, y, z, by rw [upd_ne npl.symm]; exact e⟩
    · rintro i σ H2 hi ⟨ns, v3, v4, v5, rfl, hl, el, hn, hp2, s2⟩
      -- number = draw(pool, 26)
      refine ⟨_, rfl, p, 26, rfl, hp2, by decide, by decide, fun d x y z d0 d1 => ?_⟩
      have hp3 : PoolAt (upd H2 p (.lst [.int x, .int y, .int z])) p := ⟨x, y, z, upd_same⟩
      have hl3 : (upd H2 p (.lst [.int x, .int y, .int z])) l = some (.lst (ns.map V.int)) := by rw [upd_ne npl]; exact hl
      -- the rest behind the test
      refine ⟨fun σ H4 => ∃ n : Int, σ = [some (.ref p), some (.int m), some (.ref l), some (.int (0 + (i : Int))), some (.int n), v5] ∧ Nm n ∧ PoolAt H4 p ∧ H4 l = some (.lst (ns.map V.int)) ∧ SameX p H H4, ?_, ?_⟩
      · refine ⟨_, rfl, p, 4, rfl, hp3, by decide, by decide, fun d2 x2 y2 z2 _ _ => ?_⟩
        rw [upd_upd]
        have s4 : ∀ x y z : Int, SameX p H (upd H2 p (.lst [.int x, .int y, .int z])) := fun x y z => s2.trans SameX.at
        have hl4 : ∀ x y z : Int, (upd H2 p (.lst [.int x, .int y, .int z])) l = some (.lst (ns.map V.int)) := fun x y z => by rw [upd_ne npl]; exact hl
        refine ⟨rfl, _, rfl, ite2 (fun e => ?_) (fun e => ?_)⟩
        · refine ⟨_, rfl, _, _, rfl, rfl, ⟨by decide, by decide, by decide⟩, p, _, rfl, ⟨x2, y2, z2, upd_same⟩, by decide, by decide, fun d3 x3 y3 z3 h0 h1 => ?_⟩
          rw [upd_upd]
          exact ⟨d3, rfl, ⟨h0, h1⟩, ⟨x3, y3, z3, upd_same⟩, hl4 _ _ _, s4 _ _ _⟩
        · exact ⟨d, rfl, ⟨d0, Int.lt_trans d1 (by decide)⟩, ⟨x2, y2, z2, upd_same⟩, hl4 _ _ _, s4 _ _ _⟩
      · rintro σ H4 ⟨n, rfl, hnn, hp4, hl4, s4⟩
        -- for again in range(k)
        refine ⟨_, rfl, _, rfl, by omega, by omega, ?_⟩
        refine for_range (fun j σ H5 => ∃ (n : Int) (v5 : Option V), σ = [some (.ref p), some (.int m), some (.ref l), some (.int (0 + (i : Int))), some (.int n), v5] ∧ H5 = H4 ∧ Nm n)
          ⟨n, v5, rfl, rfl, hnn⟩ ?_ ?_
        · rintro j σ H5 hj ⟨n5, v5', rfl, rfl, hn5⟩
          refine ⟨_, rfl, _, rfl, l, _, rfl, .inl (.inl (.inl hl4)), rfl, flat_ints ns, _, rfl, ite2 (fun e => ?_) (fun e => ?_)⟩
          · refine ⟨_, rfl, _, _, rfl, rfl, .inl ⟨_, rfl, _, _, rfl, rfl, ⟨by decide, by decide, by decide⟩, _, _, rfl, rfl, by show (0 : Int) < 26 ^ 12; decide, ?_⟩⟩
            exact ⟨_, _, rfl, rfl, Int.emod_nonneg _ (by decide), Int.emod_lt_of_pos _ (by decide)⟩
          · exact ⟨n5, _, rfl, rfl, hn5⟩
        · rintro σ H5 ⟨n5, v5', rfl, rfl, hn5⟩
          -- numbers.append(number)
          refine ⟨_, rfl, .inl ⟨rfl, _, .inl (.inl hl4)⟩, _, rfl, l, _, _, rfl, rfl, hl4, ?_, ?_⟩
          · rw [List.length_map]
            exact small1000 (by omega)
          · refine ⟨ns ++ [n5], _, _, _, rfl, ?_, by rw [List.length_append, el]; rfl, fun k hk => ?_, ?_, fun b o hb e => ?_⟩
            · rw [upd_same, List.map_append]
              rfl
            · rcases List.mem_append.mp hk with z | z
              · exact hn k z
              · rw [List.mem_singleton.mp z]
                exact hn5
            · obtain ⟨x, y, z, e⟩ := hp4
              exact ⟨x, y, z, by rw [upd_ne npl.symm]; exact e⟩
            · rw [upd_ne (ne_of_none e nl)]
              exact s4 b o hb e
    · rintro σ H2 ⟨ns, v3, v4, v5, rfl, hl, el, hn, hp2, s2⟩
      -- the names
      refine ⟨_, rfl, l, rfl, ⟨_, .inl (.inl hl)⟩, fun D hD => ?_⟩
      have nDl : l ≠ D := ne_of_none hl hD
      refine lc_list (K := K) (xs := ns.map V.int) (fun i H3 => ∃ zs : List Str, H3 D = some (.lst (zs.map V.str)) ∧ zs.length = i ∧ (∀ z ∈ zs, NameOk z) ∧ Same H2 H3) ⟨[], upd_same, rfl, (fun z h => by cases h), fun b o e => by rw [upd_ne (ne_of_none e hD)]; exact e⟩
        (fun i H3 _ ⟨zs, _, _, _, s3⟩ => s3.seq (.inl (.inl hl))) ?_ ?_
      · rintro i x H3 hx ⟨zs, hD3, ez, hz, s3⟩
        obtain ⟨n, rfl, hm⟩ := get_int hx
        have hi : i < (ns.map V.int).length := (List.getElem?_eq_some_iff.mp hx).1
        rw [List.length_map] at hi
        refine ⟨rfl, _, rfl, n, rfl, (hn n hm).1, (hn n hm).2, fun z hzo => ?_⟩
        refine ⟨_, hD3, by rw [List.length_map]; exact small1000 (by omega), zs ++ [z], by rw [upd_same, List.map_append]; rfl, by rw [List.length_append, ez]; rfl, fun y hy => ?_, fun b o e => ?_⟩
        · rcases List.mem_append.mp hy with h | h
          · exact hz y h
          · rw [List.mem_singleton.mp h]
            exact hzo
        · rw [upd_ne (ne_of_none e hD)]
          exact s3 b o e
      · rintro H3 ⟨zs, hD3, ez, hz, s3⟩
        rw [List.length_map] at ez
        have hnD : H D = none := by
          cases e : H D with
          | none => rfl
          | some o =>
            by_cases hb : D = p
            · obtain ⟨x, y, z, e2⟩ := hp2
              rw [← hb, hD] at e2
              cases e2
            · have := s2 D o hb e
              rw [hD] at this
              cases this
        exact q D zs H3 hnD hD3 hz (ez.trans el) (let ⟨x, y, z, e⟩ := hp2; ⟨x, y, z, s3 _ _ e⟩) (s2.trans (SameX.of s3))
end
end KX
namespace KX
open PySem PySem.Spec PyProof.Rows L2
/-! ### steps as data -/
structure Stp where
  a : Int
  w : Str
  b : Int
deriving DecidableEq
def stpD (s : Stp) : PyData := .tuple [.int s.a, .str s.w, .int s.b]
theorem eqv_stp (s t : Stp) : PyData.eqv (stpD s) (stpD t) = decide (s = t) := by
  show (s.a == t.a && (s.w == t.w && (s.b == t.b && true))) = decide (s = t)
  rw [Bool.eq_iff_iff]
  simp only [Bool.and_eq_true, beq_iff_eq, decide_eq_true_eq, and_true]
  cases s
  cases t
  simp
def StepAt (K : PySem.W.Frag) (H : Hp) (v : V) (s : Stp) : Prop := ∃ t, v = .ref t ∧ H t = some (.tup [.int s.a, .str s.w, .int s.b])
abbrev StepsAt (K : PySem.W.Frag) (H : Hp) : List V → List Stp → Prop := Paired (StepAt K H)
section
variable {K : PySem.W.Frag} {H H' : Hp}
theorem StepAt.dp {v : V} {s : Stp} (h : StepAt K H v s) : Dp K H v (stpD s) := by
  obtain ⟨t, rfl, q⟩ := h
  exact .tup (.inl (.inl q)) (.cons (.int _) (.cons (.str _) (.cons (.int _) .nil)))
theorem StepsAt.dp : ∀ {vs : List V} {ss : List Stp}, StepsAt K H vs ss → DpAll K H vs (ss.map stpD)
  | _, _, .nil => .nil
  | _, _, .cons h t => .cons h.dp (StepsAt.dp t)
theorem NameOk.ok {z : Str} (h : NameOk z) : PyData.strOk z = true := by
  unfold PyData.strOk
  rw [← Array.all_toList]
  exact List.all_eq_true.mpr fun c hc => decide_eq_true (by have := (h.az c hc).2; omega)
theorem lay_stp {s : Stp} (h : NameOk s.w) : (stpD s).canLay0 = true := by
  show (PyData.canLay0 (.int s.a) && (PyData.canLay0 (.str s.w) && (PyData.canLay0 (.int s.b) && true))) = true
  unfold PyData.canLay0
  rw [h.ok]
  rfl
theorem dep_stp (s : Stp) : (stpD s).depth = 1 := by
  unfold stpD PyData.depth PyData.depthAll PyData.depthAll PyData.depthAll PyData.depthAll
  unfold PyData.depth
  rfl
theorem lay_stps : ∀ {ss : List Stp}, (∀ s ∈ ss, NameOk s.w) → PyData.canLayAll0 (ss.map stpD) = true
  | [], _ => by
    unfold List.map PyData.canLayAll0
    rfl
  | s :: r, h => by
    rw [List.map_cons]
    unfold PyData.canLayAll0
    rw [lay_stp (h s List.mem_cons_self), lay_stps fun x hx => h x (List.mem_cons_of_mem _ hx)]
    rfl
theorem dep_stps : ∀ ss : List Stp, PyData.depthAll (ss.map stpD) ≤ 1
  | [] => by
    unfold List.map PyData.depthAll
    decide
  | s :: r => by
    rw [List.map_cons]
    unfold PyData.depthAll
    rw [dep_stp]
    have := dep_stps r
    omega
theorem shaped_stp {s : Stp} (h : NameOk s.w) : SeqAt.shaped (stpD s) = true := by
  unfold SeqAt.shaped
  rw [lay_stp h, dep_stp]
  rfl
theorem shaped_list {ss : List Stp} (h : ∀ s ∈ ss, NameOk s.w) : SeqAt.shaped (.list (ss.map stpD)) = true := by
  unfold SeqAt.shaped
  have e1 : (PyData.list (ss.map stpD)).canLay0 = true := by
    unfold PyData.canLay0
    exact lay_stps h
  have e2 : (PyData.list (ss.map stpD)).depth ≤ 64 := by
    unfold PyData.depth
    have := dep_stps ss
    omega
  rw [e1, decide_eq_true e2]
  rfl
theorem shaped_tup {ss : List Stp} (h : ∀ s ∈ ss, NameOk s.w) : SeqAt.shaped (.tuple (ss.map stpD)) = true := by
  unfold SeqAt.shaped
  have e1 : (PyData.tuple (ss.map stpD)).canLay0 = true := by
    unfold PyData.canLay0
    exact lay_stps h
  have e2 : (PyData.tuple (ss.map stpD)).depth ≤ 64 := by
    unfold PyData.depth
    have := dep_stps ss
    omega
  rw [e1, decide_eq_true e2]
  rfl
theorem any_stp (ss : List Stp) (s : Stp) : ((ss.map stpD).any fun z => PyData.eqv z (stpD s)) = decide (s ∈ ss) := by
  induction ss with
  | nil => rfl
  | cons x r ih =>
    rw [List.map_cons, List.any_cons, ih, eqv_stp]
    rw [Bool.eq_iff_iff]
    simp only [Bool.or_eq_true, decide_eq_true_eq, List.mem_cons]
    exact ⟨fun z => z.imp (fun e => e.symm) id, fun z => z.imp (fun e => e.symm) id⟩
end
/-! ### _law_many_steps -/
def cnt (ss : List Stp) (a : Int) : Nat := (ss.filter fun s => decide (s.a = a)).length
theorem cnt_app (ss ts : List Stp) (a : Int) : cnt (ss ++ ts) a = cnt ss a + cnt ts a := by
  unfold cnt
  rw [List.filter_append, List.length_append]
theorem cnt_one (s : Stp) (a : Int) : cnt [s] a = if s.a = a then 1 else 0 := by
  unfold cnt
  by_cases e : s.a = a
  · rw [List.filter_cons_of_pos (by rw [decide_eq_true e]), if_pos e]
    rfl
  · rw [List.filter_cons_of_neg (by rw [decide_eq_false e]; decide), if_neg e]
    rfl
/-- steps of a hand over these states and names -/
structure Steps (ss : List Stp) (sts : List Int) (zs : List Str) : Prop where
  nd : ss.Nodup
  sa : ∀ s ∈ ss, s.a ∈ sts
  sb : ∀ s ∈ ss, s.b ∈ sts
  sw : ∀ s ∈ ss, s.w ∈ zs
  lv : ∀ a, cnt ss a ≤ 4
theorem Steps.nil {sts : List Int} {zs : List Str} : Steps [] sts zs := ⟨List.nodup_nil, (fun _ h => by cases h), (fun _ h => by cases h), (fun _ h => by cases h), fun a => by show 0 ≤ 4; decide⟩
theorem Steps.snoc {ss : List Stp} {sts : List Int} {zs : List Str} {s : Stp} (S : Steps ss sts zs) (n : s ∉ ss) (ha : s.a ∈ sts) (hb : s.b ∈ sts) (hw : s.w ∈ zs) (hc : cnt ss s.a < 4) : Steps (ss ++ [s]) sts zs := by
  have mem : ∀ {p : Stp → Prop}, (∀ x ∈ ss, p x) → p s → ∀ x ∈ ss ++ [s], p x := fun {p} h1 h2 x hx => by
    rcases List.mem_append.mp hx with z | z
    · exact h1 x z
    · rw [List.mem_singleton.mp z]
      exact h2
  refine ⟨List.nodup_append.mpr ⟨S.nd, (by simp), fun x hx y hy e => ?_⟩, mem S.sa ha, mem S.sb hb, mem S.sw hw, fun a => ?_⟩
  · rw [List.mem_singleton.mp hy] at e
    exact n (e ▸ hx)
  · rw [cnt_app, cnt_one]
    have := S.lv a
    by_cases e : s.a = a
    · rw [if_pos e, ← e]
      omega
    · rw [if_neg e]
      omega
section
variable {K : PySem.W.Frag} {H H' : Hp}
theorem Rd.keep {a : Addr} {o : HO} (h : ∀ b u, H b = some u → b = a → H' b = some u) (r : Rd H a o) : Rd H' a o := r.imp (fun e => h _ _ e rfl) fun ⟨q, e⟩ => ⟨q, h _ _ e rfl⟩
theorem SameX.seqL {p a : Addr} {xs : List V} (s : SameX p H H') (n : a ≠ p) (q : SqL K H a xs) : SqL K H' a xs := q.imp (Rd.keep fun b u e eb => s b u (eb ▸ n) e) id
theorem SameX.seqT' {p a : Addr} {xs : List V} (s : SameX p H H') (n : a ≠ p) (q : SqT K H a xs) : SqT K H' a xs := q.imp (Rd.keep fun b u e eb => s b u (eb ▸ n) e) id
/-- what is no tuple at p is none that a step names -/
def NoTup (H : Hp) (p : Addr) : Prop := ∀ xs, ¬ Rd H p (.tup xs)
theorem NoTup.lst {p : Addr} {xs : List V} (h : H p = some (.lst xs)) : NoTup H p := fun ys r => by
  rcases r with e | ⟨q, e⟩ <;> rw [h] at e <;> cases e
theorem NoTup.none {p : Addr} (h : H p = Option.none) : NoTup H p := fun ys r => by
  rcases r with e | ⟨q, e⟩ <;> rw [h] at e <;> cases e
theorem PoolAt.noTup {p : Addr} (h : PoolAt H p) : NoTup H p := let ⟨_, _, _, e⟩ := h; NoTup.lst e
theorem SqT.sameX {p a : Addr} {xs : List V} (n : NoTup H p) (s : SameX p H H') (q : SqT K H a xs) : SqT K H' a xs := by
  rcases q with r | q
  · have ne : a ≠ p := fun e => n xs (e ▸ r)
    exact .inl (Rd.keep (fun b u e eb => s b u (eb ▸ ne) e) r)
  · exact .inr q
theorem StepAt.sameX {p : Addr} {v : V} {s : Stp} (n : NoTup H p) (k : SameX p H H') (h : StepAt K H v s) : StepAt K H' v s := let ⟨t, e, q⟩ := h; ⟨t, e, k t _ (fun z => n _ (show Rd H p _ from Or.inl (z ▸ q))) q⟩
theorem StepsAt.sameX {p : Addr} {vs : List V} {ss : List Stp} (n : NoTup H p) (k : SameX p H H') (h : StepsAt K H vs ss) : StepsAt K H' vs ss := Paired.mapP h fun _ _ q => q.sameX n k
theorem StepsAt.same {vs : List V} {ss : List Stp} (k : Same H H') (h : StepsAt K H vs ss) : StepsAt K H' vs ss := Paired.mapP h fun _ _ ⟨t, e, q⟩ => ⟨t, e, k _ _ q⟩
theorem paired_at {α β : Type} {F : α → β → Prop} : ∀ {xs : List α} {ys : List β}, Paired F xs ys → ∀ {i : Nat} {x : α}, xs[i]? = some x → ∃ y, ys[i]? = some y ∧ F x y
  | _, _, .nil, i, x, h => by simp at h
  | _, _, .cons f t, 0, x, h => by
    simp at h
    subst h
    exact ⟨_, rfl, f⟩
  | _, _, .cons f t, i + 1, x, h => by
    rw [List.getElem?_cons_succ] at h
    obtain ⟨y, e, q⟩ := paired_at t h
    exact ⟨y, by rw [List.getElem?_cons_succ]; exact e, q⟩
end
end KX
namespace KX
open PySem PySem.Spec PyProof.Rows L2

section
variable {P : Program} {w : World} {K : PySem.W.Frag} {mg : Str → Option Value} {base : Heap}
abbrev nMany : List Str := ["_law_pool_here", "_law_names_here", "_law_states", "_law_many", "_law_steps", "_law_k", "_law_leaves", "_law_step", "_law_one"]
theorem sc_many : FnScope nMany ["_law_pool_here", "_law_names_here", "_law_states", "_law_many"] (defScope s_law_many_steps) := ⟨rfl, rfl, rfl, by decide +kernel, rfl, by decide +kernel, by decide +kernel⟩
def spMany (K : PySem.W.Frag) : Sp := fun vs H Q _ => ∃ (p nl sl : Addr) (m : Nat) (zs : List Str) (sts : List Int), vs = [.ref p, .ref nl, .ref sl, .int m] ∧ PoolAt H p ∧ nl ≠ p ∧ sl ≠ p ∧ SqL K H nl (zs.map V.str) ∧ SqL K H sl (sts.map V.int) ∧
  zs ≠ [] ∧ sts ≠ [] ∧ zs.length ≤ 1000 ∧ sts.length ≤ 1000 ∧ (∀ z ∈ zs, NameOk z) ∧ 1 ≤ m ∧ m ≤ 1000 ∧
  ∀ (l : Addr) (us : List V) (ss : List Stp) (H' : Hp), H l = none → H' l = some (.lst us) → StepsAt K H' us ss → Steps ss sts zs → ss ≠ [] → ss.length ≤ m → PoolAt H' p → SameX p H H' → Q (.ref l) H'
theorem hu65 {A : Around} {k : Nat} (hr : Room k A) : A.units + 65 < cLine := by
  have := hr.un
  omega
theorem StepAt.same {v : V} {s : Stp} {H H' : Hp} (k : Same H H') (h : StepAt K H v s) : StepAt K H' v s := let ⟨t, e, q⟩ := h; ⟨t, e, k _ _ q⟩
theorem get_ref {us : List V} {ss : List Stp} {H : Hp} (h : StepsAt K H us ss) {i : Nat} {x : V} (e : us[i]? = some x) : ∃ s t, x = .ref t ∧ ss[i]? = some s ∧ SqT K H t [.int s.a, .str s.w, .int s.b] := by
  obtain ⟨s, es, t, et, q⟩ := paired_at h e
  exact ⟨s, t, et, es, .inl (.inl q)⟩
theorem cnt_take {ss : List Stp} {i : Nat} {s : Stp} (a : Int) (e : ss[i]? = some s) : cnt (ss.take (i + 1)) a = cnt (ss.take i) a + if s.a = a then 1 else 0 := by
  rw [List.take_add_one, e, cnt_app]
  show _ + cnt [s] a = _
  rw [cnt_one]
theorem at_mod {α : Type} {xs : List α} (f : α → V) {d : Int} (h0 : 0 ≤ d) (h1 : d < (xs.length : Nat)) : ∃ x, atI (xs.map f) d = some (f x) ∧ x ∈ xs := by
  obtain ⟨n, rfl⟩ := Int.eq_ofNat_of_zero_le h0
  have hn : n < xs.length := by omega
  exact ⟨xs[n], atI_nat (by rw [List.getElem?_map, List.getElem?_eq_getElem hn]; rfl), List.getElem_mem hn⟩
theorem ok_many {f fD : Addr} {fd fdD : FuncData} (F : Fun K "_law_many_steps" "_law_many_steps" s_law_many_steps f fd) (B : Blt mg) (FD : Fun K "_law_draw" "_law_draw" s_law_draw fD fdD) (bD : Binds K fdD ["_law_pool_here", "_law_many"] []) (gD : mg "_law_draw" = some (.ref fD)) :
    FnOk P w K mg base CX0 2 f fd ["_law_pool_here", "_law_names_here", "_law_states", "_law_many"] (spMany K) := by
  have GD : FnOk P w K mg base CX0 1 fD fdD ["_law_pool_here", "_law_many"] spDraw := ok_draw FD B
  refine F.ok sc_many (fun vs H Q E h => ?_) (fun cdv A outer s H vs Q E hr h => ?_)
  · obtain ⟨p, nl, sl, m, zs, sts, rfl, _⟩ := h
    rfl
  · obtain ⟨p, nl, sl, m, zs, sts, rfl, hp, npn, nps, hnl, hsl, hz0, hs0, hz1, hs1, hzo, hm1, hm2, q⟩ := h
    refine ⟨_, pss_cons (ps_set (i := 4) sc_many.nd rfl (.inl rfl) (pe_lst pa_nil))
      (pss_cons (ps_for PassesOwn.never rfl (pi_range1 rfl B.range (pa_cons (pv 3) pa_nil)) (pg_name (i := 5) sc_many.nd rfl (.inl rfl))
        (pss_cons (ps_set (i := 6) sc_many.nd rfl (.inr rfl) (pe_ix ix_list (pv 2) (pe_call GD hr (by rfl) gD FD.kp bD .nil pass0 (pa_cons (pv 0) (pa_cons (pe_callB call_len_seq (by rfl) B.len PySem.boot_len (pa_cons (pv 2) pa_nil)) pa_nil))) (fun _ _ => rfl)))
        (pss_cons (ps_set (i := 7) sc_many.nd rfl (.inl rfl) (pe_tup (pa_cons (pv 6) (pa_cons (pe_ix ix_list (pv 1) (pe_call GD hr (by rfl) gD FD.kp bD .nil pass0 (pa_cons (pv 0) (pa_cons (pe_callB call_len_seq (by rfl) B.len PySem.boot_len (pa_cons (pv 1) pa_nil)) pa_nil))) (fun _ _ => rfl))
          (pa_cons (pe_ix ix_list (pv 2) (pe_call GD hr (by rfl) gD FD.kp bD .nil pass0 (pa_cons (pv 0) (pa_cons (pe_callB call_len_seq (by rfl) B.len PySem.boot_len (pa_cons (pv 2) pa_nil)) pa_nil))) (fun _ _ => rfl)) pa_nil)))))
        (pss_one (ps_if (PW.pt (pw_and (pt_cmpR (op_notInD (hu65 hr)) (pv 7) (pv 4) rfl) (pw_and1 (pt_cmpR op_lt (pe_callB call_len_seq (by rfl) B.len PySem.boot_len (pa_cons
            (pe_lc (own := [("_law_one", 8)]) (g := gName 8) rfl sc_many.nd (pi_list (pv 4)) (blkOk_by (N := nMany) (sc := defScope s_law_many_steps) (by decide +kernel))
              (fun _ _ _ _ _ => pg_name (i := 8) sc_many.nd rfl (.inl rfl)) (fun _ _ _ _ _ => pts_one (pt_cmpR op_eq (pe_ix (r := rIxT K) ix_tup (pv 8) pe_int (fun _ _ => rfl)) (pv 6) (nomark _))) (fun _ _ _ _ _ => pv 8)) pa_nil)) pe_int (nomark _)))))
          (pss_one (ps_expr (pe_bm PySem.F.plainAttrs_list PySem.F.slot_list_append PySem.F.type_list_append mt_append (pv 4) (pa_cons (pv 7) pa_nil)))) pss_nil)))))
      (pss_one (ps_ret (pv 4)))), ?_⟩
    refine ⟨Nat.zero_le _, fun l nl0 => ?_⟩
    have npl : l ≠ p := by
      obtain ⟨x, y, z, e⟩ := hp
      exact (ne_of_none e nl0).symm
    refine ⟨_, rfl, m, rfl, by omega, by omega, ?_⟩
    refine for_range (fun i σ H2 => ∃ (us : List V) (ss : List Stp) (v5 v6 v7 v8 : Option V), σ = [some (.ref p), some (.ref nl), some (.ref sl), some (.int m), some (.ref l), v5, v6, v7, v8] ∧ H2 l = some (.lst us) ∧ StepsAt K H2 us ss ∧ Steps ss sts zs ∧ ss.length ≤ i ∧ (0 < i → ss ≠ []) ∧ PoolAt H2 p ∧ SameX p H H2)
      ⟨[], [], none, none, none, none, rfl, upd_same, .nil, Steps.nil, Nat.le_refl _, (fun h => absurd h (Nat.lt_irrefl _)), ?_, SameX.new nl0⟩ ?_ ?_
    · obtain ⟨x, y, z, e⟩ := hp
      exact ⟨x, y, z, by rw [upd_ne npl.symm]; exact e⟩
    · rintro i σ H2 hi ⟨us, ss, v5, v6, v7, v8, rfl, hl, hss, S, hlen, hne, hp2, s2⟩
      have hi' : i < m := by
        have e : ((m : Nat) : Int).toNat = m := Int.toNat_natCast m
        omega
      have zl : 0 < zs.length := List.length_pos_iff.mpr hz0
      have tl : 0 < sts.length := List.length_pos_iff.mpr hs0
      -- leaves
      refine ⟨_, rfl, _, rfl, _, rfl, sl, _, rfl, .inl (s2.seqL nps hsl), p, _, rfl, hp2, by rw [List.length_map]; omega, by rw [List.length_map]; omega, fun d x y z d0 d1 => ?_⟩
      have s3 : SameX p H (upd H2 p (.lst [.int x, .int y, .int z])) := s2.trans SameX.at
      rw [List.length_map] at d1
      obtain ⟨a, ea, ha⟩ := at_mod V.int d0 d1
      refine ⟨sl, _, _, _, rfl, rfl, s3.seqL nps hsl, ea, ?_⟩
      -- step
      refine ⟨_, rfl, _, rfl, _, rfl, _, rfl, nl, _, rfl, .inl (s3.seqL npn hnl), p, _, rfl, ⟨x, y, z, upd_same⟩, by rw [List.length_map]; omega, by rw [List.length_map]; omega, fun d2 x2 y2 z2 d20 d21 => ?_⟩
      rw [List.length_map] at d21
      rw [upd_upd]
      have s4 : SameX p H (upd H2 p (.lst [.int x2, .int y2, .int z2])) := s2.trans SameX.at
      obtain ⟨wd, ew, hw⟩ := at_mod V.str d20 d21
      refine ⟨nl, _, _, _, rfl, rfl, s4.seqL npn hnl, ew, ?_⟩
      refine ⟨_, rfl, _, rfl, _, rfl, sl, _, rfl, .inl (s4.seqL nps hsl), p, _, rfl, ⟨x2, y2, z2, upd_same⟩, by rw [List.length_map]; omega, by rw [List.length_map]; omega, fun d3 x3 y3 z3 d30 d31 => ?_⟩
      rw [List.length_map] at d31
      rw [upd_upd]
      have s5 : SameX p H (upd H2 p (.lst [.int x3, .int y3, .int z3])) := s2.trans SameX.at
      have s25 : SameX p H2 (upd H2 p (.lst [.int x3, .int y3, .int z3])) := SameX.at
      obtain ⟨b, eb, hb⟩ := at_mod V.int d30 d31
      refine ⟨sl, _, _, _, rfl, rfl, s5.seqL nps hsl, eb, by show 3 ≤ sizeLine; decide, fun t nt => ?_⟩
      have hp5 : PoolAt (upd H2 p (.lst [.int x3, .int y3, .int z3])) p := ⟨x3, y3, z3, upd_same⟩
      have hl5 : (upd H2 p (.lst [.int x3, .int y3, .int z3])) l = some (.lst us) := by rw [upd_ne npl]; exact hl
      have hss5 : StepsAt K (upd H2 p (.lst [.int x3, .int y3, .int z3])) us ss := hss.sameX hp2.noTup s25
      generalize upd H2 p (.lst [.int x3, .int y3, .int z3]) = H5 at s5 hp5 hl5 hss5 nt ⊢
      have s56 : Same H5 (upd H5 t (.tup [.int a, .str wd, .int b])) := fun c o e => by
        rw [upd_ne (ne_of_none e nt)]
        exact e
      have tt : upd H5 t (.tup [.int a, .str wd, .int b]) t = some (.tup [.int a, .str wd, .int b]) := upd_same
      have hl6 := s56 _ _ hl5
      have hss6 := hss5.same s56
      have hp6 : PoolAt (upd H5 t (.tup [.int a, .str wd, .int b])) p := let ⟨x, y, z, e⟩ := hp5; ⟨x, y, z, s56 _ _ e⟩
      have s6 := s5.trans (SameX.of s56)
      generalize upd H5 t (.tup [.int a, .str wd, .int b]) = H6 at tt hl6 hss6 hp6 s6 ⊢
      have hst : StepAt K H6 (.ref t) ⟨a, wd, b⟩ := ⟨t, rfl, tt⟩
      have wok : ∀ x ∈ ss, NameOk x.w := fun x hx => hzo _ (S.sw x hx)
      -- if step not in steps and ..
      refine ⟨_, rfl, _, rfl, stpD ⟨a, wd, b⟩, ss.map stpD, hst.dp, .lst (.inl (.inl hl6)) hss6.dp, shaped_stp (hzo wd hw), shaped_list wok, _, rfl, ?_⟩
      rw [any_stp]
      by_cases e : (⟨a, wd, b⟩ : Stp) ∈ ss
      · rw [decide_eq_true e]
        exact ⟨us, ss, _, _, _, _, rfl, hl6, hss6, S, by omega, (fun _ z => List.not_mem_nil (z ▸ e)), hp6, s6⟩
      · rw [decide_eq_false e]
        refine ⟨_, rfl, l, rfl, ⟨_, .inl (.inl hl6)⟩, fun D hD => ?_⟩
        refine lc_list (K := K) (xs := us) (fun i H3 => ∃ acc, H3 D = some (.lst acc) ∧ acc.length = cnt (ss.take i) a ∧ acc.length ≤ i ∧ Same H6 H3) ⟨[], upd_same, rfl, Nat.le_refl _, fun c o e => by rw [upd_ne (ne_of_none e hD)]; exact e⟩
          (fun i H3 _ ⟨acc, _, _, _, s3⟩ => s3.seq (.inl (.inl hl6))) ?_ ?_
        · rintro j x H3 hx ⟨acc, hD3, ez, hj, s3⟩
          obtain ⟨st, t1, rfl, es, hq⟩ := get_ref (hss6.same s3) hx
          have hjl : j < ss.length := (List.getElem?_eq_some_iff.mp es).1
          refine ⟨rfl, _, rfl, t1, _, _, _, rfl, rfl, hq, atI_nat (j := 0) rfl, _, rfl, rfl, _, rfl, ?_⟩
          by_cases ea : st.a = a
          · rw [decide_eq_true (congrArg V.int ea)]
            refine ⟨_, rfl, acc, hD3, small1000 (by omega), acc ++ [.ref t1], upd_same, ?_, ?_, fun c o e => ?_⟩
            · rw [cnt_take a es, if_pos ea, List.length_append, ez]
              rfl
            · rw [List.length_append]
              show acc.length + 1 ≤ _
              omega
            · rw [upd_ne (ne_of_none e hD)]
              exact s3 c o e
          · rw [decide_eq_false fun z => ea (V.int.inj z)]
            exact ⟨acc, hD3, by rw [cnt_take a es, if_neg ea]; exact ez, by omega, s3⟩
        · rintro H3 ⟨acc, hD3, ez, hj, s3⟩
          have lu : us.length = ss.length := hss6.length
          rw [lu, List.take_length] at ez
          have hl3 := s3 _ _ hl6
          refine ⟨D, _, rfl, .inl (.inl (.inl hD3)), _, _, rfl, rfl, _, rfl, ite2 (fun e4 => ?_) (fun e4 => ?_)⟩
          · have c4 : cnt ss a < 4 := by
              have z : ((acc.length : Nat) : Int) < 4 := of_decide_eq_true e4
              omega
            refine ⟨_, rfl, .inl ⟨rfl, _, .inl (.inl hl3)⟩, _, rfl, l, _, _, rfl, rfl, hl3, small1000 (by omega), ?_⟩
            have nt3 : NoTup H3 l := NoTup.lst hl3
            have sx : SameX l H3 (upd H3 l (.lst (us ++ [.ref t]))) := SameX.at
            refine ⟨us ++ [.ref t], ss ++ [⟨a, wd, b⟩], _, _, _, _, rfl, upd_same, Paired.snoc ((hss6.same s3).sameX nt3 sx) (((hst.same s3).sameX nt3 sx)), S.snoc e ha hb hw c4, by rw [List.length_append]; show ss.length + 1 ≤ _; omega, fun _ => by simp, ?_, fun c o hc e => ?_⟩
            · obtain ⟨x, y, z, e⟩ := hp6
              exact ⟨x, y, z, by rw [upd_ne npl.symm]; exact s3 _ _ e⟩
            · rw [upd_ne (ne_of_none e nl0)]
              exact s3 _ _ (s6 c o hc e)
          · refine ⟨us, ss, _, _, _, _, rfl, hl3, hss6.same s3, S, by omega, fun h0 => ?_, (let ⟨x, y, z, e⟩ := hp6; ⟨x, y, z, s3 _ _ e⟩), s6.trans (SameX.of s3)⟩
            by_cases h1 : 0 < i
            · exact hne h1
            · intro z
              rw [z] at ez
              have ez : acc.length = 0 := ez
              rw [ez] at e4
              exact e4 (decide_eq_true (by decide))
    · rintro σ H2 ⟨us, ss, v5, v6, v7, v8, rfl, hl, hss, S, hlen, hne, hp2, s2⟩
      have em : ((m : Nat) : Int).toNat = m := Int.toNat_natCast m
      exact ⟨_, rfl, q l us ss H2 nl0 hl hss S (hne (by omega)) (by omega) hp2 s2⟩
end
end KX
namespace KX
open PySem PySem.Spec PyProof.Rows L2
theorem not_lt1 {c d : Nat} (h : d ≤ c) : ¬ ([c] < [d]) := fun z => by
  cases z with
  | rel q => exact absurd q (by omega)
  | cons q => cases q
/-! ### kinds: is_whole, is_state, is_name, is_row; is_step -/
structure Kin (mg : Str → Option Value) : Prop where
  bool : mg "bool" = none
  str : mg "str" = none
  letters : ∃ t, mg "MOST_LETTERS" = some (.int 12 t)
  state : ∃ t, mg "LAST_STATE" = some (.int 99 t)
theorem tyT {K : PySem.W.Frag} {H : Hp} {a : Addr} {xs : List V} (h : SqT K H a xs) : TyX K H (.ref a) (.type "tuple") := by
  rcases h with (e | ⟨o, e⟩) | ⟨o, its, n, e, c, _⟩
  · exact .base (.tup e)
  · exact .fTuple e
  · exact .kTuple e c
theorem tyL {K : PySem.W.Frag} {H : Hp} {a : Addr} {xs : List V} (h : SqL K H a xs) : TyX K H (.ref a) (.type "list") := by
  rcases h with (e | ⟨o, e⟩) | ⟨o, its, n, e, c, _⟩
  · exact .base (.lst e)
  · exact .base (.frz e)
  · exact .kList e c
section
variable {P : Program} {w : World} {K : PySem.W.Frag} {mg : Str → Option Value} {base : Heap}
theorem sc_whole : FnScope ["value"] ["value"] (defScope s_is_whole) := ⟨rfl, rfl, rfl, by decide +kernel, rfl, by decide +kernel, by decide +kernel⟩
def spWhole : Sp := fun vs H Q _ => ∃ i : Int, vs = [.int i] ∧ Q (.bl true) H
theorem ok_whole {f : Addr} {fd : FuncData} (F : Fun K "is_whole" "is_whole" s_is_whole f fd) (B : Blt mg) (N : Kin mg) : FnOk P w K mg base CX0 1 f fd ["value"] spWhole := by
  refine F.ok sc_whole (fun vs H Q E h => ?_) (fun cdv A outer s H vs Q E hr h => ?_)
  · obtain ⟨i, rfl, _⟩ := h
    rfl
  · obtain ⟨i, rfl, q⟩ := h
    refine ⟨_, pss_one (ps_ret (pe_and (pe_callB call_isi (by rfl) B.isinstance (by decide +kernel) (pa_cons (pv 0) (pa_cons (pe_bltn rfl B.int (by decide +kernel) (v := .ty "int") rfl) pa_nil)))
      (pe_one (pe_not (pe_callB call_isi (by rfl) B.isinstance (by decide +kernel) (pa_cons (pv 0) (pa_cons (pe_bltn rfl N.bool (by decide +kernel) (v := .ty "bool") rfl) pa_nil))))))), ?_⟩
    refine ⟨_, rfl, _, _, _, _, true, rfl, .ty "int", .base (.int i), kit_ty (by decide +kernel), true, rfl, ?_⟩
    exact ⟨_, rfl, _, _, _, _, false, rfl, .ty "bool", .base (.int i), kit_ty (by decide +kernel), _, rfl, q⟩
theorem sc_state : FnScope ["value"] ["value"] (defScope s_is_state) := ⟨rfl, rfl, rfl, by decide +kernel, rfl, by decide +kernel, by decide +kernel⟩
def spState : Sp := fun vs H Q _ => ∃ i : Int, vs = [.int i] ∧ 0 ≤ i ∧ i ≤ 99 ∧ Q (.bl true) H
theorem ok_state {f fW : Addr} {fd fdW : FuncData} (F : Fun K "is_state" "is_state" s_is_state f fd) (B : Blt mg) (N : Kin mg) (FW : Fun K "is_whole" "is_whole" s_is_whole fW fdW) (bW : Binds K fdW ["value"] []) (gW : mg "is_whole" = some (.ref fW)) : FnOk P w K mg base CX0 2 f fd ["value"] spState := by
  have GW : FnOk P w K mg base CX0 1 fW fdW ["value"] spWhole := ok_whole FW B N
  obtain ⟨t99, e99⟩ := N.state
  refine F.ok sc_state (fun vs H Q E h => ?_) (fun cdv A outer s H vs Q E hr h => ?_)
  · obtain ⟨i, rfl, _⟩ := h
    rfl
  · obtain ⟨i, rfl, h0, h1, q⟩ := h
    refine ⟨_, pss_one (ps_ret (pe_and (pe_call GW hr (by rfl) gW FW.kp bW .nil pass0 (pa_cons (pv 0) pa_nil))
      (pe_one (pe_chain op_le op_le pe_int (pv 0) (pe_glob rfl e99 (v := .int 99) ⟨_, rfl⟩))))), ?_⟩
    refine ⟨_, rfl, i, rfl, true, rfl, ?_⟩
    refine ⟨_, rfl, _, _, rfl, rfl, _, rfl, ?_⟩
    rw [decide_eq_true h0]
    refine ⟨_, _, rfl, rfl, ?_⟩
    show Q (.bl (decide (i ≤ 99))) H
    rw [decide_eq_true h1]
    exact q
theorem sc_isname : FnScope ["value", "letter"] ["value"] (defScope s_is_name) := ⟨rfl, rfl, rfl, by decide +kernel, rfl, by decide +kernel, by decide +kernel⟩
def spIsName : Sp := fun vs H Q _ => ∃ z : Str, vs = [.str z] ∧ NameOk z ∧ ∀ H', Same H H' → Q (.bl true) H'
theorem ok_isname {f : Addr} {fd : FuncData} (F : Fun K "is_name" "is_name" s_is_name f fd) (B : Blt mg) (N : Kin mg) : FnOk P w K mg base CX0 1 f fd ["value"] spIsName := by
  obtain ⟨t12, e12⟩ := N.letters
  refine F.ok sc_isname (fun vs H Q E h => ?_) (fun cdv A outer s H vs Q E hr h => ?_)
  · obtain ⟨z, rfl, _⟩ := h
    rfl
  · obtain ⟨z, rfl, hz, q⟩ := h
    refine ⟨_, pss_cons (ps_if (PW.pt (pw_or (pt_not (pt_val (pe_callB call_isi (by rfl) B.isinstance (by decide +kernel) (pa_cons (pv 0) (pa_cons (pe_bltn rfl N.str (by decide +kernel) (v := .ty "str") rfl) pa_nil)))))
        (pw_or1 (pt_not (pt_chain op_le op_le pe_int (pe_callB call_len_str (by rfl) B.len PySem.boot_len (pa_cons (pv 0) pa_nil)) (pe_glob rfl e12 (v := .int 12) ⟨_, rfl⟩)))))) (pss_one (ps_ret pe_bl)) pss_nil)
      (pss_one (ps_ret (pe_callB (cr_all rfl) (by rfl) B.all (by decide +kernel) (pa_cons (pe_lc (own := [("letter", 1)]) (g := gName 1) (tt := tYes) rfl sc_isname.nd (pi_str (pv 0)) (blkOk_by (N := ["value", "letter"]) (sc := defScope s_is_name) (by decide +kernel))
        (fun _ _ _ _ _ => pg_name (i := 1) sc_isname.nd rfl (.inl rfl)) (fun _ _ _ _ _ => pts_nil) (fun _ _ _ _ _ => pe_chain op_le_str op_le_str pe_str (pv 1) pe_str)) pa_nil)))), ?_⟩
    have lz : z.length ≤ sizeLine := by
      rw [len_cps, sizeLine_eq]
      have := hz.hi
      omega
    have l1 : (1 : Int) ≤ (z.length : Nat) := by
      rw [len_cps]
      have := hz.lo
      omega
    have l2 : ((z.length : Nat) : Int) ≤ 12 := by
      rw [len_cps]
      have := hz.hi
      omega
    refine ⟨_, rfl, _, _, _, _, true, rfl, .ty "str", .base (.str z), kit_ty (by decide +kernel), true, rfl, ?_⟩
    refine ⟨_, rfl, z, rfl, lz, _, _, rfl, rfl, _, rfl, ?_⟩
    rw [decide_eq_true l1]
    refine ⟨_, _, rfl, rfl, _, rfl, ?_⟩
    show if (!decide (((z.length : Nat) : Int) ≤ 12)) = true then _ else _
    rw [decide_eq_true l2]
    -- all([..])
    refine ⟨_, rfl, z, rfl, fun D hD => ?_⟩
    refine lc_it walk_str (fun i H3 => ∃ bs : List Bool, H3 D = some (.lst (bs.map V.bl)) ∧ bs.all id = true ∧ bs.length = i ∧ Same H H3) ⟨[], upd_same, rfl, rfl, fun b o e => by rw [upd_ne (ne_of_none e hD)]; exact e⟩ (fun _ _ _ _ => True.intro) ?_ ?_
    · rintro i x H3 H4 hi ⟨bs, hD3, hall, hl, s3⟩ ⟨rfl, c, hc, rfl⟩
      have hm : c ∈ z.cps.toList := Array.mem_toList_iff.mpr (Array.mem_of_getElem? hc)
      obtain ⟨c1, c2⟩ := hz.az c hm
      refine ⟨rfl, _, rfl, _, _, rfl, rfl, _, rfl, ?_⟩
      have e1 : (!decide ((⟨#[c]⟩ : Str).cps.toList < ("a" : Str).cps.toList)) = true := by
        rw [show ("a" : Str).cps.toList = [97] by decide +kernel]
        rw [decide_eq_false (not_lt1 c1)]
        rfl
      have e2 : (!decide (("z" : Str).cps.toList < (⟨#[c]⟩ : Str).cps.toList)) = true := by
        rw [show ("z" : Str).cps.toList = [122] by decide +kernel]
        rw [decide_eq_false (not_lt1 c2)]
        rfl
      rw [e1]
      refine ⟨_, _, rfl, rfl, ?_⟩
      rw [e2]
      have hsz : z.cps.size ≤ 12 := by rw [← Array.length_toList]; exact hz.hi
      refine ⟨_, hD3, small1000 (by rw [List.length_map]; omega), bs ++ [true], by rw [upd_same, List.map_append]; rfl, ?_, by rw [List.length_append, hl]; rfl, fun b o e => ?_⟩
      · rw [List.all_append, hall]
        rfl
      · rw [upd_ne (ne_of_none e hD)]
        exact s3 b o e
    · rintro H3 ⟨bs, hD3, hall, hl, s3⟩
      refine ⟨D, bs, rfl, .inl (.inl hD3), ?_⟩
      rw [hall]
      exact q H3 s3
theorem sc_row : FnScope ["value"] ["value"] (defScope s_is_row) := ⟨rfl, rfl, rfl, by decide +kernel, rfl, by decide +kernel, by decide +kernel⟩
/-- at a stands a list or a tuple of us -/
def Seq (K : PySem.W.Frag) (H : Hp) (a : Addr) (us : List V) : Prop := SqL K H a us ∨ SqT K H a us
def spRow (K : PySem.W.Frag) : Sp := fun vs H Q _ => ∃ (a : Addr) (us : List V), vs = [.ref a] ∧ Seq K H a us ∧ ∀ H', Same H H' → Q (.bl true) H'
theorem ok_row {f : Addr} {fd : FuncData} (F : Fun K "is_row" "is_row" s_is_row f fd) (B : Blt mg) : FnOk P w K mg base CX0 1 f fd ["value"] (spRow K) := by
  refine F.ok sc_row (fun vs H Q E h => ?_) (fun cdv A outer s H vs Q E hr h => ?_)
  · obtain ⟨a, us, rfl, _⟩ := h
    rfl
  · obtain ⟨a, us, rfl, hS, q⟩ := h
    refine ⟨_, pss_one (ps_ret (pe_callB call_isiT (by rfl) B.isinstance (by decide +kernel) (pa_cons (pv 0) (pa_cons (pe_tup (pa_cons (pe_bltn rfl B.list (by decide +kernel) (v := .ty "list") rfl) (pa_cons (pe_bltn rfl B.tuple (by decide +kernel) (v := .ty "tuple") rfl) pa_nil))) pa_nil)))), ?_⟩
    refine ⟨_, rfl, by show 2 ≤ sizeLine; decide, fun T hT => ?_⟩
    have sm : Same H (upd H T (.tup [.ty "list", .ty "tuple"])) := fun b o e => by
      rw [upd_ne (ne_of_none e hT)]
      exact e
    have cl : Paired ClsV [V.ty "list", .ty "tuple"] [.type "list", .type "tuple"] := .cons (.ty _) (.cons (.ty _) .nil)
    rcases hS with h | h
    · exact ⟨_, T, _, _, _, true, rfl, upd_same, cl, tyL (sm.seq h), kitAny_cons (kit_ty (b := "list") (r := true) (by decide +kernel)) (fun z => nomatch z) (fun _ => rfl), q _ sm⟩
    · refine ⟨_, T, _, _, _, true, rfl, upd_same, cl, tyT (h.imp (Rd.keep fun b u e _ => sm b u e) id), kitAny_cons (kit_ty (b := "list") (r := false) (by decide +kernel)) (fun _ => ?_) (fun z => nomatch z), q _ sm⟩
      exact kitAny_cons (kit_ty (b := "tuple") (r := true) (by decide +kernel)) (fun z => nomatch z) (fun _ => rfl)
theorem sc_step : FnScope ["value"] ["value"] (defScope s_is_step) := ⟨rfl, rfl, rfl, by decide +kernel, rfl, by decide +kernel, by decide +kernel⟩
/-- a step that may stand in a hand -/
structure StpOk (s : Stp) : Prop where
  a0 : 0 ≤ s.a
  a1 : s.a ≤ 99
  w : NameOk s.w
  b0 : 0 ≤ s.b
  b1 : s.b ≤ 99
def spStep (K : PySem.W.Frag) : Sp := fun vs H Q _ => ∃ (v : V) (st : Stp), vs = [v] ∧ StepAt K H v st ∧ StpOk st ∧ ∀ H', Same H H' → Q (.bl true) H'
/-- what the kinds' defs are -/
structure KinD (K : PySem.W.Frag) (mg : Str → Option Value) (fW fS fN : Addr) (fdW fdS fdN : FuncData) : Prop where
  FW : Fun K "is_whole" "is_whole" s_is_whole fW fdW
  bW : Binds K fdW ["value"] []
  gW : mg "is_whole" = some (.ref fW)
  FS : Fun K "is_state" "is_state" s_is_state fS fdS
  bS : Binds K fdS ["value"] []
  gS : mg "is_state" = some (.ref fS)
  FN : Fun K "is_name" "is_name" s_is_name fN fdN
  bN : Binds K fdN ["value"] []
  gN : mg "is_name" = some (.ref fN)
theorem ok_step {f fW fS fN : Addr} {fd fdW fdS fdN : FuncData} (F : Fun K "is_step" "is_step" s_is_step f fd) (B : Blt mg) (N : Kin mg) (D : KinD K mg fW fS fN fdW fdS fdN) : FnOk P w K mg base CX0 3 f fd ["value"] (spStep K) := by
  have GS : FnOk P w K mg base CX0 2 fS fdS ["value"] spState := ok_state D.FS B N D.FW D.bW D.gW
  have GN : FnOk P w K mg base CX0 1 fN fdN ["value"] spIsName := ok_isname D.FN B N
  refine F.ok sc_step (fun vs H Q E h => ?_) (fun cdv A outer s H vs Q E hr h => ?_)
  · obtain ⟨v, st, rfl, _⟩ := h
    rfl
  · obtain ⟨v, st, rfl, ⟨t, rfl, ht0⟩, o, q⟩ := h
    have ht : SqT K H t [.int st.a, .str st.w, .int st.b] := .inl (.inl ht0)
    refine ⟨_, pss_cons (ps_if (PW.pt (pw_or (pt_not (pt_val (pe_callB call_isi (by rfl) B.isinstance (by decide +kernel) (pa_cons (pv 0) (pa_cons (pe_bltn rfl B.tuple (by decide +kernel) (v := .ty "tuple") rfl) pa_nil)))))
        (pw_or1 (pt_cmpR op_ne (pe_callB call_len_seq (by rfl) B.len PySem.boot_len (pa_cons (pv 0) pa_nil)) pe_int (nomark _))))) (pss_one (ps_ret pe_bl)) pss_nil)
      (pss_one (ps_ret (pe_and (pe_call GS hr (by rfl) D.gS D.FS.kp D.bS .nil pass0 (pa_cons (pe_ix ix_tup (pv 0) pe_int (fun _ _ => rfl)) pa_nil))
        (pe_and (pe_call GN (hr.mono (by decide)) (by rfl) D.gN D.FN.kp D.bN .nil pass0 (pa_cons (pe_ix ix_tup (pv 0) pe_int (fun _ _ => rfl)) pa_nil))
        (pe_one (pe_call GS hr (by rfl) D.gS D.FS.kp D.bS .nil pass0 (pa_cons (pe_ix ix_tup (pv 0) pe_int (fun _ _ => rfl)) pa_nil))))))), ?_⟩
    refine ⟨_, rfl, _, _, _, _, true, rfl, .ty "tuple", tyT ht, kit_ty (by decide +kernel), true, rfl, ?_⟩
    refine ⟨_, rfl, t, _, rfl, .inr ht, rfl, _, rfl, ?_⟩
    refine ⟨_, rfl, t, _, _, .int st.a, rfl, rfl, ht, atI_nat (j := 0) rfl, st.a, rfl, o.a0, o.a1, true, rfl, ?_⟩
    refine ⟨_, rfl, t, _, _, .str st.w, rfl, rfl, ht, atI_nat (j := 1) rfl, st.w, rfl, o.w, fun H1 s1 => ⟨true, rfl, ?_⟩⟩
    exact ⟨_, rfl, t, _, _, .int st.b, rfl, rfl, ht.imp (Rd.keep fun b u e _ => s1 b u e) id, atI_nat (j := 2) rfl, st.b, rfl, o.b0, o.b1, q _ s1⟩
end
end KX
namespace KX
open PySem PySem.Spec PyProof.Rows L2
/-! ### check_steps, exits_of -/
structure Lim (mg : Str → Option Value) : Prop where
  steps : ∃ t, mg "MOST_STEPS" = some (.int 24 t)
  leaving : ∃ t, mg "MOST_LEAVING" = some (.int 4 t)
  words : ∃ t, mg "MOST_WORDS" = some (.int 8 t)
  states : ∃ t, mg "MOST_STATES" = some (.int 8 t)
def keyS (s : Stp) : List Key := [.inl s.a, .inr s.w, .inl s.b]
theorem keyS_inj {s t : Stp} (h : keyS s = keyS t) : s = t := by
  unfold keyS at h
  cases s
  cases t
  simp at h
  obtain ⟨h1, h2, h3⟩ := h
  subst h1 h2 h3
  rfl
theorem Seq.same {K : PySem.W.Frag} {H H' : Hp} {a : Addr} {us : List V} (k : Same H H') (h : Seq K H a us) : Seq K H' a us := h.imp (fun q => k.seq q) fun q => q.imp (Rd.keep fun b u e _ => k b u e) id
theorem get_tup {K : PySem.W.Frag} {us : List V} {ss : List Stp} {H : Hp} (h : StepsAt K H us ss) {i : Nat} {x : V} (e : us[i]? = some x) : ∃ s t, x = .ref t ∧ ss[i]? = some s ∧ H t = some (.tup [.int s.a, .str s.w, .int s.b]) := by
  obtain ⟨s, es, t, et, q⟩ := paired_at h e
  exact ⟨s, t, et, es, q⟩
theorem same_new {H : Hp} {p : Addr} {o : HO} (h : H p = none) : Same H (upd H p o) := fun b u e => by
  rw [upd_ne (ne_of_none e h)]
  exact e
/-- steps that a hand may have -/
structure Good (ss : List Stp) : Prop where
  ok : ∀ s ∈ ss, StpOk s
  nd : ss.Nodup
  lv : ∀ a, cnt ss a ≤ 4
  lo : 1 ≤ ss.length
  hi : ss.length ≤ 24
theorem take_new {ss : List Stp} (nd : ss.Nodup) {i : Nat} {s : Stp} (e : ss[i]? = some s) : s ∉ ss.take i := fun h => by
  obtain ⟨hi, es⟩ := List.getElem?_eq_some_iff.mp e
  have q : ss = ss.take i ++ s :: ss.drop (i + 1) := by
    rw [← es, ← List.drop_eq_getElem_cons hi, List.take_append_drop]
  rw [q] at nd
  exact (List.nodup_append.mp nd).2.2 s h s List.mem_cons_self rfl
theorem cnt_take_le (ss : List Stp) (i : Nat) (a : Int) : cnt (ss.take i) a ≤ cnt ss a := by
  have q := cnt_app (ss.take i) (ss.drop i) a
  rw [List.take_append_drop] at q
  omega
theorem putK_in {κ : Type} [DecidableEq κ] {kvs : List (κ × V)} {k : κ} {v : V} {p : κ × V} (h : p ∈ putK kvs k v) : p ∈ kvs ∨ p.2 = v := by
  unfold putK at h
  split at h
  · obtain ⟨q, hq, e⟩ := List.mem_map.mp h
    split at e
    · exact .inr (by rw [← e])
    · exact .inl (e ▸ hq)
  · rcases List.mem_append.mp h with h | h
    · exact .inl h
    · exact .inr (by rw [List.mem_singleton.mp h])
theorem valV_mem {κ : Type} [DecidableEq κ] {kvs : List (κ × V)} {k : κ} {v : V} (e : valV kvs k = some v) : ∃ p ∈ kvs, p.2 = v := by
  unfold valV at e
  obtain ⟨p, hp, ep⟩ := Option.map_eq_some_iff.mp e
  exact ⟨p, List.mem_of_find?_eq_some hp, ep⟩
section
variable {P : Program} {w : World} {K : PySem.W.Frag} {mg : Str → Option Value} {base : Heap}
abbrev nCheck : List Str := ["steps", "earlier", "leaving", "index", "step", "count"]
theorem sc_check : FnScope nCheck ["steps"] (defScope s_check_steps) := ⟨rfl, rfl, rfl, by decide +kernel, rfl, by decide +kernel, by decide +kernel⟩
def spCheck (K : PySem.W.Frag) : Sp := fun vs H Q _ => ∃ (a : Addr) (us : List V) (ss : List Stp), vs = [.ref a] ∧ Seq K H a us ∧ StepsAt K H us ss ∧ Good ss ∧ ∀ H', Same H H' → Q .non H'
theorem ok_check {f fR fT fW fS fN : Addr} {fd fdR fdT fdW fdS fdN : FuncData} (F : Fun K "check_steps" "check_steps" s_check_steps f fd) (B : Blt mg) (N : Kin mg) (L : Lim mg) (D : KinD K mg fW fS fN fdW fdS fdN)
    (FR : Fun K "is_row" "is_row" s_is_row fR fdR) (bR : Binds K fdR ["value"] []) (gR : mg "is_row" = some (.ref fR)) (FT : Fun K "is_step" "is_step" s_is_step fT fdT) (bT : Binds K fdT ["value"] []) (gT : mg "is_step" = some (.ref fT)) : FnOk P w K mg base CX0 4 f fd ["steps"] (spCheck K) := by
  have GR : FnOk P w K mg base CX0 1 fR fdR ["value"] (spRow K) := ok_row FR B
  have GT : FnOk P w K mg base CX0 3 fT fdT ["value"] (spStep K) := ok_step FT B N D
  obtain ⟨t24, e24⟩ := L.steps
  obtain ⟨t4, e4⟩ := L.leaving
  refine F.ok sc_check (fun vs H Q E h => ?_) (fun cdv A outer s H vs Q E hr h => ?_)
  · obtain ⟨a, us, ss, rfl, _⟩ := h
    rfl
  · obtain ⟨a, us, ss, rfl, hS, hss, G, q⟩ := h
    have hu := hu_of hr
    refine ⟨_, pss_cons (ps_if (PW.pt (pw_or (pt_not (pt_val (pe_call GR (hr.mono (by decide)) (by rfl) gR FR.kp bR .nil pass0 (pa_cons (pv 0) pa_nil))))
        (pw_or1 (pt_not (pt_chain op_le op_le pe_int (pe_callB call_len_seq (by rfl) B.len PySem.boot_len (pa_cons (pv 0) pa_nil)) (pe_glob rfl e24 (v := .int 24) ⟨_, rfl⟩)))))) (pss_one VL.ps_dead) pss_nil)
      (pss_cons (ps_set (i := 1) sc_check.nd rfl (.inl rfl) pe_dnewT)
      (pss_cons (ps_set (i := 2) sc_check.nd rfl (.inl rfl) pe_dnewK)
      (pss_one (ps_for PassesOwn.never rfl (VE.pi_enumS (j := 0) rfl B.enumerate rfl (.inl rfl)) (pg_tup rfl (pgs_cons (pg_name (i := 3) sc_check.nd rfl (.inl rfl)) (pgs_cons (pg_name (i := 4) sc_check.nd rfl (.inl rfl)) pgs_nil)))
        (pss_cons (ps_if (PW.pt (pw_or (pt_not (pt_val (pe_call GT hr (by rfl) gT FT.kp bT .nil pass0 (pa_cons (pv 4) pa_nil)))) (pw_or1 (pt_cmp (pc_din hu (pv 4) (pv 1)))))) (pss_one VL.ps_dead) pss_nil)
        (pss_cons (ps_set (i := 5) sc_check.nd rfl (.inl rfl) (pe_op op_add (pe_dget2 hu (pv 2) (pe_ix ix_tup (pv 4) pe_int (fun _ _ => rfl)) pe_int ⟨rfl, rfl, rfl, rfl⟩) pe_int))
        (pss_cons (ps_if (pt_cmpR op_gt (pv 5) (pe_glob rfl e4 (v := .int 4) ⟨_, rfl⟩) (nomark _)) (pss_one VL.ps_dead) pss_nil)
        (pss_cons (ps_dput hu (pv 1) (pv 4) pe_bl rfl)
        (pss_one (ps_dput hu (pv 2) (pe_ix ix_tup (pv 4) pe_int (fun _ _ => rfl)) (pv 5) rfl))))))))))
      , ?_⟩
    -- the first test
    refine ⟨_, rfl, a, us, rfl, hS, fun H1 s1 => ⟨true, rfl, ?_⟩⟩
    have lu : us.length = ss.length := hss.length
    have l1 : (1 : Int) ≤ (us.length : Nat) := by
      have := G.lo
      omega
    have l2 : ((us.length : Nat) : Int) ≤ 24 := by
      have := G.hi
      omega
    have hS1 := hS.same s1
    have hss1 := hss.same s1
    refine ⟨_, rfl, a, us, rfl, hS1, _, _, rfl, rfl, _, rfl, ?_⟩
    rw [decide_eq_true l1]
    refine ⟨_, _, rfl, rfl, _, rfl, ?_⟩
    show if (!decide (((us.length : Nat) : Int) ≤ 24)) = true then _ else _
    rw [decide_eq_true l2]
    -- the dicts
    refine fun e1 n1 e2 n2 => ?_
    have n21 : e2 ≠ e1 := fun z => by
      rw [z, upd_same] at n2
      cases n2
    have s2 := (s1.trans (same_new (o := .dT []) n1)).trans (same_new (o := .dK []) n2)
    have hd1 : (upd (upd H1 e1 (.dT [])) e2 (.dK [])) e1 = some (.dT []) := by rw [upd_ne n21.symm, upd_same]
    have hd2 : (upd (upd H1 e1 (.dT [])) e2 (.dK [])) e2 = some (.dK []) := upd_same
    have f1 : H e1 = none := s1.free n1
    have f2 : H e2 = none := s1.free (by rw [upd_ne n21] at n2; exact n2)
    generalize upd (upd H1 e1 (.dT [])) e2 (.dK []) = H2 at s2 hd1 hd2 ⊢
    have nss : ∀ {i : Nat} {st : Stp}, ss[i]? = some st → st ∉ ss.take i := fun e => take_new G.nd e
    refine VE.for_enumS (j := 0) rfl hS (fun i σ H3 => ∃ (v3 v4 v5 : Option V) (kv1 : List (List Key × V)) (kv2 : List (Key × V)), σ = [some (.ref a), some (.ref e1), some (.ref e2), v3, v4, v5] ∧ H3 e1 = some (.dT kv1) ∧ H3 e2 = some (.dK kv2) ∧ kv1.length ≤ i ∧ kv2.length ≤ i ∧
        (∀ s, (valV kv1 (keyS s)).isSome = decide (s ∈ ss.take i)) ∧ (∀ b, (valV kv2 (.inl b)).getD (.int 0) = .int (cnt (ss.take i) b)) ∧ Same H H3)
      ⟨none, none, none, [], [], rfl, hd1, hd2, Nat.le_refl _, Nat.le_refl _, (fun s => by rw [List.take_zero]; exact (decide_eq_false List.not_mem_nil).symm), (fun b => by rw [List.take_zero]; rfl), s2⟩
      (fun _ _ _ ⟨_, _, _, _, _, _, _, _, _, _, _, _, k⟩ => k) ?_ ?_
    · rintro i x σ H3 H4 hi ⟨v3, v4, v5, kv1, kv2, rfl, h1, h2, l1, l2, m1, m2, s3⟩ ⟨T, y1, y2, rfl, nT, rfl, ey, ex⟩
      have ey := Option.some.inj ey
      subst ey
      have sT : Same H3 (upd H3 T (.tup [.int (i : Nat), y2])) := same_new nT
      refine ⟨T, _, rfl, .inl (.inl upd_same), rfl, _, _, rfl, _, _, rfl, rfl, ?_⟩
      have g1 := sT _ _ h1
      have g2 := sT _ _ h2
      have s4 := s3.trans sT
      generalize upd H3 T (.tup [.int (i : Nat), y2]) = H4 at g1 g2 s4 ⊢
      obtain ⟨st, t, rfl, es, ht⟩ := get_tup (hss.same s4) ex
      have hi' : i < ss.length := (List.getElem?_eq_some_iff.mp es).1
      have i24 : i < 24 := Nat.lt_of_lt_of_le hi' G.hi
      -- if not is_step(step) or step in earlier
      refine ⟨_, rfl, .ref t, st, rfl, ⟨t, rfl, ht⟩, G.ok st (List.mem_of_getElem? es), fun H5 s5 => ⟨true, rfl, ?_⟩⟩
      have g15 := s5 _ _ g1
      have g25 := s5 _ _ g2
      have t5 := s5 _ _ ht
      have s05 := s4.trans s5
      refine ⟨_, rfl, _, rfl, e1, _, rfl, DGet.t (k := keyS st) g15 t5, _, rfl, ?_⟩
      have m1s : (valV kv1 (keyS st)).isSome = false := by
        rw [m1 st]
        exact decide_eq_false (nss es)
      rw [m1s]
      -- count
      refine ⟨_, rfl, e2, rfl, .inl ⟨_, .inl g25⟩, _, rfl, t, _, _, _, rfl, rfl, .inl (.inl t5), atI_nat (j := 0) rfl, _, DGet.k (k := Sum.inl st.a) g25, ?_⟩
      rw [m2 st.a]
      refine ⟨_, _, rfl, rfl, ?_⟩
      have c4 : cnt (ss.take i) st.a + 1 ≤ 4 := by
        have q1 := G.lv st.a
        have q2 := cnt_take st.a es
        have q3 := cnt_take_le ss (i + 1) st.a
        rw [if_pos rfl] at q2
        omega
      refine ⟨_, rfl, _, _, rfl, rfl, _, rfl, ?_⟩
      rw [decide_eq_false (show ¬ (4 : Int) < (cnt (ss.take i) st.a : Nat) + 1 by omega)]
      -- the two stores
      refine ⟨_, rfl, _, rfl, e1, _, rfl, DPut.t (k := keyS st) g15 t5 (small1000 (by omega)), ?_⟩
      have n12 : e1 ≠ e2 := fun z => by
        rw [z, g25] at g15
        cases g15
      have n1t : t ≠ e1 := fun z => by
        rw [z, g15] at t5
        cases t5
      have g26 : (upd H5 e1 (.dT (putK kv1 (keyS st) (.bl true)))) e2 = some (.dK kv2) := by rw [upd_ne n12.symm]; exact g25
      refine ⟨_, rfl, _, rfl, _, rfl, t, _, _, _, rfl, rfl, .inl (.inl (by rw [upd_ne n1t]; exact t5)), atI_nat (j := 0) rfl, e2, _, rfl, DPut.k (k := Sum.inl st.a) g26 (small1000 (by omega)), ?_⟩
      refine ⟨_, _, _, _, _, rfl, by rw [upd_ne n12, upd_same], upd_same, ?_, ?_, fun s => ?_, fun b => ?_, fun b o e => ?_⟩
      · exact Nat.le_trans (length_putK _ _ _) (Nat.succ_le_succ l1)
      · exact Nat.le_trans (length_putK _ _ _) (Nat.succ_le_succ l2)
      · rw [valV_put, List.take_add_one, es]
        by_cases e : keyS s = keyS st
        · rw [if_pos e, keyS_inj e]
          exact (decide_eq_true (List.mem_append_right _ (List.mem_singleton.mpr rfl))).symm
        · rw [if_neg e, m1 s]
          refine decide_eq_decide.mpr ⟨fun h => List.mem_append_left _ h, fun h => ?_⟩
          rcases List.mem_append.mp h with h | h
          · exact h
          · exact absurd (congrArg keyS (List.mem_singleton.mp h)) e
      · rw [valV_put, cnt_take b es]
        by_cases e : (Sum.inl b : Key) = Sum.inl st.a
        · rw [if_pos e, if_pos (Sum.inl.inj e).symm, Sum.inl.inj e]
          rfl
        · rw [if_neg e, if_neg (fun z => e (congrArg Sum.inl z.symm)), m2 b]
          rfl
      · have b1 : b ≠ e1 := ne_of_none e f1
        have b2 : b ≠ e2 := ne_of_none e f2
        rw [upd_ne b2, upd_ne b1]
        exact s05 _ _ e
    · rintro σ H3 ⟨_, _, _, _, _, _, _, _, _, _, _, _, k⟩
      exact q H3 k
abbrev nExits : List Str := ["steps", "exits", "number", "step", "place"]
theorem sc_exits : FnScope nExits ["steps"] (defScope s_exits_of) := ⟨rfl, rfl, rfl, by decide +kernel, rfl, by decide +kernel, by decide +kernel⟩
/-- exits_of hands back some dict (what it holds is not told here) -/
def spExits (K : PySem.W.Frag) : Sp := fun vs H Q _ => ∃ (a : Addr) (us : List V) (ss : List Stp), vs = [.ref a] ∧ Seq K H a us ∧ StepsAt K H us ss ∧ Good ss ∧ ∀ (d : Addr) (H' : Hp), H d = none → Same H H' → Q (.ref d) H'
theorem ok_exits {f : Addr} {fd : FuncData} (F : Fun K "exits_of" "exits_of" s_exits_of f fd) (B : Blt mg) : FnOk P w K mg base CX0 1 f fd ["steps"] (spExits K) := by
  refine F.ok sc_exits (fun vs H Q E h => ?_) (fun cdv A outer s H vs Q E hr h => ?_)
  · obtain ⟨a, us, ss, rfl, _⟩ := h
    rfl
  · obtain ⟨a, us, ss, rfl, hS, hss, G, q⟩ := h
    have hu := hu_of hr
    refine ⟨_, pss_cons (ps_set (i := 1) sc_exits.nd rfl (.inl rfl) pe_dnewT)
      (pss_cons (ps_for PassesOwn.never rfl (VE.pi_enumS (j := 0) rfl B.enumerate rfl (.inl rfl)) (pg_tup rfl (pgs_cons (pg_name (i := 2) sc_exits.nd rfl (.inl rfl)) (pgs_cons (pg_name (i := 3) sc_exits.nd rfl (.inl rfl)) pgs_nil)))
        (pss_cons (ps_set (i := 4) sc_exits.nd rfl (.inl rfl) (pe_tup (pa_cons (pe_ix ix_tup (pv 3) pe_int (fun _ _ => rfl)) (pa_cons (pe_ix ix_tup (pv 3) pe_int (fun _ _ => rfl)) pa_nil))))
        (pss_one (ps_dput hu (pv 1) (pv 4) (pe_op op_catA (pe_dget2 hu (pv 1) (pv 4) (pe_tup pa_nil) ⟨rfl, rfl, rfl, rfl⟩) (pe_tup (pa_cons (pv 2) pa_nil))) rfl))))
      (pss_one (ps_ret (pv 1)))), ?_⟩
    refine fun e1 n1 => ?_
    refine VE.for_enumS (j := 0) rfl hS (fun i σ H3 => ∃ (v2 v3 v4 : Option V) (kvs : List (List Key × V)), σ = [some (.ref a), some (.ref e1), v2, v3, v4] ∧ H3 e1 = some (.dT kvs) ∧ kvs.length ≤ i ∧
        (∀ p ∈ kvs, ∃ (b : Addr) (xs : List V), p.2 = .ref b ∧ H3 b = some (.tup xs) ∧ xs.length ≤ i) ∧ Same H H3)
      ⟨none, none, none, [], rfl, upd_same, Nat.le_refl _, (fun p h => by cases h), same_new n1⟩ (fun _ _ _ ⟨_, _, _, _, _, _, _, _, k⟩ => k) ?_ ?_
    · rintro i x σ H3 H4 hi ⟨v2, v3, v4, kvs, rfl, h1, l1, m1, s3⟩ ⟨T, y1, y2, rfl, nT, rfl, ey, ex⟩
      have ey := Option.some.inj ey
      subst ey
      have sT : Same H3 (upd H3 T (.tup [.int (i : Nat), y2])) := same_new nT
      refine ⟨T, _, rfl, .inl (.inl upd_same), rfl, _, _, rfl, _, _, rfl, rfl, ?_⟩
      have g1 := sT _ _ h1
      have s4 := s3.trans sT
      have m4 : ∀ p ∈ kvs, ∃ (b : Addr) (xs : List V), p.2 = .ref b ∧ (upd H3 T (.tup [.int (i : Nat), y2])) b = some (.tup xs) ∧ xs.length ≤ i := fun p hp => let ⟨b, xs, e1, e2, e3⟩ := m1 p hp; ⟨b, xs, e1, sT _ _ e2, e3⟩
      generalize upd H3 T (.tup [.int (i : Nat), y2]) = H4 at g1 s4 m4 ⊢
      obtain ⟨st, t, rfl, es, ht⟩ := get_tup (hss.same s4) ex
      have hi' : i < ss.length := (List.getElem?_eq_some_iff.mp es).1
      have i24 : i < 24 := Nat.lt_of_lt_of_le hi' G.hi
      -- place
      refine ⟨_, rfl, t, _, _, _, rfl, rfl, .inl (.inl ht), atI_nat (j := 0) rfl, _, rfl, t, _, _, _, rfl, rfl, .inl (.inl ht), atI_nat (j := 1) rfl, by show 2 ≤ sizeLine; decide, fun b nb => ?_⟩
      have sb : Same H4 (upd H4 b (.tup [.int st.a, .str st.w])) := same_new nb
      have g2 := sb _ _ g1
      have hb : (upd H4 b (.tup [.int st.a, .str st.w])) b = some (.tup (([.inl st.a, .inr st.w] : List Key).map kV)) := upd_same
      have s5 := s4.trans sb
      have m5 : ∀ p ∈ kvs, ∃ (c : Addr) (xs : List V), p.2 = .ref c ∧ (upd H4 b (.tup [.int st.a, .str st.w])) c = some (.tup xs) ∧ xs.length ≤ i := fun p hp => let ⟨c, xs, e1, e2, e3⟩ := m4 p hp; ⟨c, xs, e1, sb _ _ e2, e3⟩
      generalize upd H4 b (.tup [.int st.a, .str st.w]) = H5 at g2 hb s5 m5 ⊢
      -- exits.get(place, ())
      refine ⟨_, rfl, e1, rfl, .inr ⟨_, .inl g2⟩, _, rfl, Nat.zero_le _, fun c nc => ⟨_, DGet.t (k := [.inl st.a, .inr st.w]) (same_new nc _ _ g2) (same_new nc _ _ hb), ?_⟩⟩
      have sc : Same H5 (upd H5 c (.tup [])) := same_new nc
      have g3 := sc _ _ g2
      have hb3 := sc _ _ hb
      have s6 := s5.trans sc
      have old : ∃ (c2 : Addr) (xs : List V), (valV kvs [.inl st.a, .inr st.w]).getD (.ref c) = .ref c2 ∧ (upd H5 c (.tup [])) c2 = some (.tup xs) ∧ xs.length ≤ i := by
        cases e : valV kvs [.inl st.a, .inr st.w] with
        | none => exact ⟨c, [], rfl, upd_same, Nat.zero_le _⟩
        | some v =>
          obtain ⟨p, hp, ep⟩ := valV_mem e
          obtain ⟨c2, xs, q1, q2, q3⟩ := m5 p hp
          exact ⟨c2, xs, by rw [← ep, q1]; rfl, sc _ _ q2, q3⟩
      have m6 : ∀ p ∈ kvs, ∃ (c2 : Addr) (xs : List V), p.2 = .ref c2 ∧ (upd H5 c (.tup [])) c2 = some (.tup xs) ∧ xs.length ≤ i := fun p hp => let ⟨c2, xs, e1, e2, e3⟩ := m5 p hp; ⟨c2, xs, e1, sc _ _ e2, e3⟩
      generalize upd H5 c (.tup []) = H6 at g3 hb3 s6 old m6 ⊢
      obtain ⟨c2, xs, e2, hx, lx⟩ := old
      rw [e2]
      refine ⟨_, rfl, by show 1 ≤ sizeLine; decide, fun d nd => ?_⟩
      have sd : Same H6 (upd H6 d (.tup [.int (i : Nat)])) := same_new nd
      have fin : ∀ (r : Addr) (zs : List V) (H8 : Hp), Same H6 H8 → H8 r = some (.tup zs) → zs.length ≤ i + 1 → ∃ (v2 v3 v4 : Option V) (kvs' : List (List Key × V)), ([some (.ref a), some (.ref e1), some (.int (i : Nat)), some (.ref t), some (.ref b)] : List (Option V)) = [some (.ref a), some (.ref e1), v2, v3, v4] ∧
          (upd H8 e1 (.dT (putK kvs [.inl st.a, .inr st.w] (.ref r)))) e1 = some (.dT kvs') ∧ kvs'.length ≤ i + 1 ∧ (∀ p ∈ kvs', ∃ (b : Addr) (xs : List V), p.2 = .ref b ∧ (upd H8 e1 (.dT (putK kvs [.inl st.a, .inr st.w] (.ref r)))) b = some (.tup xs) ∧ xs.length ≤ i + 1) ∧ Same H (upd H8 e1 (.dT (putK kvs [.inl st.a, .inr st.w] (.ref r)))) := fun r zs H8 s8 hr8 lz => by
        have ne : ∀ {c3 : Addr} {ys : List V}, H8 c3 = some (.tup ys) → c3 ≠ e1 := fun {c3 ys} e z => by
          rw [z, s8 _ _ g3] at e
          cases e
        refine ⟨_, _, _, _, rfl, upd_same, Nat.le_trans (length_putK _ _ _) (Nat.succ_le_succ l1), fun p hp => ?_, fun c3 o e => ?_⟩
        · rcases putK_in hp with h | h
          · obtain ⟨c3, ys, q1, q2, q3⟩ := m6 p h
            exact ⟨c3, ys, q1, by rw [upd_ne (ne (s8 _ _ q2))]; exact s8 _ _ q2, by omega⟩
          · exact ⟨r, zs, h, by rw [upd_ne (ne hr8)]; exact hr8, lz⟩
        · rw [upd_ne (ne_of_none e n1)]
          exact s8 _ _ (s6 _ _ e)
      have put : ∀ (r : Addr) (H8 : Hp), Same H6 H8 → DPut H8 e1 (.ref b) (.ref r) (upd H8 e1 (.dT (putK kvs [.inl st.a, .inr st.w] (.ref r)))) := fun r H8 s8 => DPut.t (k := [.inl st.a, .inr st.w]) (s8 _ _ g3) (s8 _ _ hb3) (small1000 (by omega))
      refine ⟨c2, d, xs, _, rfl, rfl, .inl (.inl (sd _ _ hx)), .inl (.inl upd_same), by show xs.length + 1 ≤ sizeLine; exact Nat.le_of_lt (small1000 (by omega)), fun _ => ?_, (fun _ z => nomatch z), fun _ _ g ng => ?_⟩
      · exact ⟨_, rfl, _, rfl, e1, _, rfl, put d _ sd, fin d _ _ sd upd_same (by show 1 ≤ i + 1; omega)⟩
      · have sg := sd.trans (same_new (o := .tup (xs ++ [.int (i : Nat)])) ng)
        exact ⟨_, rfl, _, rfl, e1, _, rfl, put g _ sg, fin g _ _ sg upd_same (by rw [List.length_append]; show xs.length + 1 ≤ i + 1; omega)⟩
    · rintro σ H3 ⟨v2, v3, v4, kvs, rfl, h1, l1, m1, s3⟩
      exact ⟨_, rfl, q e1 H3 n1 s3⟩
end
end KX
namespace KX
/-- where the steps that leave x lead, in their order -/
def nxOf (ss : List Stp) (x : Int) : List Int := (ss.filter fun s => decide (s.a = x)).map (·.b)
inductive Reach (ss : List Stp) (x0 : Int) : Int → Prop where
  | refl : Reach ss x0 x0
  | step {s : Stp} : Reach ss x0 s.a → s ∈ ss → Reach ss x0 s.b
theorem mem_nx {ss : List Stp} {x y : Int} : y ∈ nxOf ss x ↔ ∃ s ∈ ss, s.a = x ∧ s.b = y := by
  unfold nxOf
  rw [List.mem_map]
  constructor
  · rintro ⟨s, hs, e⟩
    obtain ⟨h1, h2⟩ := List.mem_filter.mp hs
    exact ⟨s, h1, of_decide_eq_true h2, e⟩
  · rintro ⟨s, h1, h2, e⟩
    exact ⟨s, List.mem_filter.mpr ⟨h1, decide_eq_true h2⟩, e⟩
theorem Reach.nx {ss : List Stp} {x0 x y : Int} (h : Reach ss x0 x) (hy : y ∈ nxOf ss x) : Reach ss x0 y := by
  obtain ⟨s, hs, e1, e2⟩ := mem_nx.mp hy
  rw [← e2]
  exact .step (e1 ▸ h) hs
/-- what is closed under the steps and holds the start holds all that is reached -/
theorem reach_in {ss : List Stp} {x0 : Int} {fs : List Int} (h0 : x0 ∈ fs) (hc : ∀ x ∈ fs, ∀ y ∈ nxOf ss x, y ∈ fs) {x : Int} (h : Reach ss x0 x) : x ∈ fs := by
  induction h with
  | refl => exact h0
  | step h hs ih => exact hc _ ih _ (mem_nx.mpr ⟨_, hs, rfl, rfl⟩)
theorem nd_len : ∀ {fs U : List Int}, fs.Nodup → (∀ x ∈ fs, x ∈ U) → fs.length ≤ U.length
  | [], _, _, _ => Nat.zero_le _
  | x :: r, U, nd, h => by
    obtain ⟨n1, n2⟩ := List.nodup_cons.mp nd
    have hx := h x List.mem_cons_self
    have q := nd_len (fs := r) (U := U.erase x) n2 fun y hy => by
      have ne : y ≠ x := fun e => n1 (e ▸ hy)
      exact (List.mem_erase_of_ne ne).mpr (h y (List.mem_cons_of_mem _ hy))
    rw [List.length_erase_of_mem hx] at q
    have := List.length_pos_of_mem hx
    rw [List.length_cons]
    omega
/-- the search: fs found, as ahead; w: the place whose steps are being looked at, its first ones done -/
structure Srch (ss : List Stp) (x0 : Int) (U fs as : List Int) (w : Option (Int × Nat)) : Prop where
  nd : fs.Nodup
  sub : ∀ x ∈ as, x ∈ fs
  st : x0 ∈ fs
  re : ∀ x ∈ fs, Reach ss x0 x
  inU : ∀ x ∈ fs, x ∈ U
  cl : ∀ x ∈ fs, x ∉ as → (∀ y ∈ nxOf ss x, y ∈ fs) ∨ ∃ n, w = some (x, n)
  pt : ∀ x n, w = some (x, n) → x ∈ fs ∧ ∀ y ∈ (nxOf ss x).take n, y ∈ fs
theorem Srch.start {ss : List Stp} {x0 : Int} {U : List Int} (hU : ∀ x, Reach ss x0 x → x ∈ U) : Srch ss x0 U [x0] [x0] none :=
  ⟨by simp, fun _ h => h, List.mem_singleton.mpr rfl, (fun x h => by rw [List.mem_singleton.mp h]; exact .refl), (fun x h => by rw [List.mem_singleton.mp h]; exact hU _ .refl), (fun x h n => absurd h n), fun _ _ h => nomatch h⟩
theorem Srch.pop {ss : List Stp} {x0 x : Int} {U fs as : List Int} (S : Srch ss x0 U fs (as ++ [x]) none) : Srch ss x0 U fs as (some (x, 0)) := by
  have hx : x ∈ fs := S.sub x (List.mem_append_right _ (List.mem_singleton.mpr rfl))
  refine ⟨S.nd, fun y hy => S.sub y (List.mem_append_left _ hy), S.st, S.re, S.inU, fun y hy n => ?_, fun y m e => ?_⟩
  · by_cases e : y = x
    · exact .inr ⟨0, by rw [e]⟩
    · have n' : y ∉ as ++ [x] := fun h => by
        rcases List.mem_append.mp h with h | h
        · exact n h
        · exact e (List.mem_singleton.mp h)
      rcases S.cl y hy n' with h | ⟨_, h⟩
      · exact .inl h
      · cases h
  · cases e
    exact ⟨hx, fun y hy => by rw [List.take_zero] at hy; cases hy⟩
theorem Srch.old {ss : List Stp} {x0 x y : Int} {U fs as : List Int} {i : Nat} (S : Srch ss x0 U fs as (some (x, i))) (e : (nxOf ss x)[i]? = some y) (h : y ∈ fs) : Srch ss x0 U fs as (some (x, i + 1)) := by
  refine ⟨S.nd, S.sub, S.st, S.re, S.inU, fun z hz n => ?_, fun z m q => ?_⟩
  · rcases S.cl z hz n with c | ⟨_, c⟩
    · exact .inl c
    · cases c
      exact .inr ⟨_, rfl⟩
  · cases q
    obtain ⟨p1, p2⟩ := S.pt x i rfl
    refine ⟨p1, fun w hw => ?_⟩
    rw [List.take_add_one, e] at hw
    rcases List.mem_append.mp hw with hw | hw
    · exact p2 w hw
    · have hw : w ∈ [y] := hw
      rw [List.mem_singleton.mp hw]
      exact h
theorem Srch.new {ss : List Stp} {x0 x y : Int} {U fs as : List Int} {i : Nat} (hU : ∀ x, Reach ss x0 x → x ∈ U) (S : Srch ss x0 U fs as (some (x, i))) (e : (nxOf ss x)[i]? = some y) (h : y ∉ fs) : Srch ss x0 U (fs ++ [y]) (as ++ [y]) (some (x, i + 1)) := by
  obtain ⟨p1, p2⟩ := S.pt x i rfl
  have ry : Reach ss x0 y := (S.re x p1).nx (List.mem_of_getElem? e)
  have mem : ∀ {p : Int → Prop}, (∀ z ∈ fs, p z) → p y → ∀ z ∈ fs ++ [y], p z := fun {p} h1 h2 z hz => by
    rcases List.mem_append.mp hz with q | q
    · exact h1 z q
    · rw [List.mem_singleton.mp q]
      exact h2
  refine ⟨List.nodup_append.mpr ⟨S.nd, by simp, fun a ha b hb q => ?_⟩, fun z hz => ?_, List.mem_append_left _ S.st, mem S.re ry, mem S.inU (hU y ry), fun z hz n => ?_, fun z m q => ?_⟩
  · rw [List.mem_singleton.mp hb] at q
    exact h (q ▸ ha)
  · rcases List.mem_append.mp hz with q | q
    · exact List.mem_append_left _ (S.sub z q)
    · exact List.mem_append_right _ q
  · rcases List.mem_append.mp hz with q | q
    · rcases S.cl z q (fun c => n (List.mem_append_left _ c)) with c | ⟨_, c⟩
      · exact .inl fun w hw => List.mem_append_left _ (c w hw)
      · cases c
        exact .inr ⟨_, rfl⟩
    · exact absurd (List.mem_append_right _ q) n
  · cases q
    refine ⟨List.mem_append_left _ p1, fun w hw => ?_⟩
    rw [List.take_add_one, e] at hw
    rcases List.mem_append.mp hw with hw | hw
    · exact List.mem_append_left _ (p2 w hw)
    · exact List.mem_append_right _ hw
theorem Srch.done {ss : List Stp} {x0 x : Int} {U fs as : List Int} (S : Srch ss x0 U fs as (some (x, (nxOf ss x).length))) : Srch ss x0 U fs as none := by
  refine ⟨S.nd, S.sub, S.st, S.re, S.inU, fun z hz n => ?_, fun _ _ q => nomatch q⟩
  rcases S.cl z hz n with c | ⟨_, c⟩
  · exact .inl c
  · cases c
    obtain ⟨_, p2⟩ := S.pt x _ rfl
    rw [List.take_length] at p2
    exact .inl p2
theorem Srch.all {ss : List Stp} {x0 : Int} {U fs : List Int} (S : Srch ss x0 U fs [] none) (x : Int) : x ∈ fs ↔ Reach ss x0 x := by
  refine ⟨S.re x, reach_in S.st fun y hy => ?_⟩
  rcases S.cl y hy List.not_mem_nil with c | ⟨_, c⟩
  · exact c
  · cases c
end KX
namespace KX
open PySem PySem.Spec PyProof.Rows L2
/-! ### all_reached over ints, by a lambda that tells where the steps lead -/
section
variable {P : Program} {w : World} {K : PySem.W.Frag} {mg : Str → Option Value} {base : Heap}
abbrev nAll : List Str := ["first", "following", "most", "found", "ahead", "place", "after"]
theorem sc_all : FnScope nAll ["first", "following", "most"] (defScope s_all_reached) := ⟨rfl, rfl, rfl, by decide +kernel, rfl, by decide +kernel, by decide +kernel⟩
/-- what the lambda of reached_states tells -/
def spFol (K : PySem.W.Frag) : List (Option V) → V → Hp → VK → XK → Prop := fun ws v H Q _ => ∃ (a : Addr) (us : List V) (ss : List Stp) (x : Int), ws = [some (.ref a)] ∧ v = .int x ∧ Seq K H a us ∧ StepsAt K H us ss ∧ ss.length ≤ 24 ∧
  ∀ (l : Addr) (H' : Hp), H l = none → H' l = some (.lst ((nxOf ss x).map V.int)) → Same H H' → Q (.ref l) H'
def spAll (P : Program) (w : World) (K : PySem.W.Frag) (mg : Str → Option Value) (base : Heap) : Shared → Sp := fun s vs H Q _ => ∃ (x0 : Int) (f a : Addr) (m : Nat) (F : VL.LF) (us : List V) (ss : List Stp) (U : List Int), vs = [.int x0, .ref f, .int m] ∧
  H f = some (VL.LamO f F) ∧ H F.c = some (LamX.CodeO F.c F.qual) ∧ NdefX.CellsAt F.cl ["steps"] [some (.ref a)] s.heap H ∧ (∀ g, VL.LamOk P w K mg base CX0 1 g F ["steps"] (spFol K)) ∧ Seq K H a us ∧ StepsAt K H us ss ∧ ss.length ≤ 24 ∧
  (∀ x, Reach ss x0 x → x ∈ U) ∧ U.length ≤ m ∧ m ≤ 60 ∧
  ∀ (l : Addr) (ns : List Int) (H' : Hp), H l = none → H' l = some (.lst (ns.map V.int)) → ns.Pairwise (· < ·) → (∀ x, x ∈ ns ↔ Reach ss x0 x) → Same H H' → Q (.ref l) H'
theorem ok_all {f : Addr} {fd : FuncData} (F : Fun K "all_reached" "all_reached" s_all_reached f fd) (B : Blt mg) : VL.FnOkS P w K mg base CX0 2 f fd ["first", "following", "most"] (spAll P w K mg base) := by
  refine VL.okS F sc_all (fun s vs H Q E h => ?_) (fun cdv A outer s H vs Q E hr h => ?_)
  · obtain ⟨x0, f, a, m, F, us, ss, U, rfl, _⟩ := h
    rfl
  · obtain ⟨x0, f, a, m, F, us, ss, U, rfl, hf, hc, C, GL, hS, hss, l24, hU, lU, lm, q⟩ := h
    have hu := hu_of hr
    refine ⟨_, PSs.nox (pss_cons (ps_set (i := 3) sc_all.nd rfl (.inl rfl) (pe_disp (pps_cons (pv 0) pe_bl pps_nil) (by rfl) (by rfl) (fun z => by cases z) (by decide)))
      (pss_cons (ps_set (i := 4) sc_all.nd rfl (.inl rfl) (pe_lst (pa_cons (pv 0) pa_nil)))
      (pss_cons (ps_while PassesOwn.never (pt_truth (pv 4) (fun _ => rfl))
        (pss_cons (ps_set (i := 5) sc_all.nd rfl (.inl rfl) (pe_bm0 PySem.F.plainAttrs_list PySem.F.slot_list_pop PySem.F.type_list_pop mt_pop (pv 4)))
        (pss_cons (ps_for PassesOwn.never rfl (pi_list (VL.pe_callL (i := 1) (CX := CX0) (E := E0) GL C rfl hr (Nat.le_refl 1) pass0 rfl (.inl rfl) (pa_cons (pv 5) pa_nil))) (pg_name (i := 6) sc_all.nd rfl (.inl rfl))
          (pss_one (ps_if (pt_cmp (pc_dnotin hu (pv 6) (pv 3))) (pss_cons (ps_dput hu (pv 3) (pv 6) pe_bl rfl)
            (pss_one (ps_expr (pe_bm PySem.F.plainAttrs_list PySem.F.slot_list_append PySem.F.type_list_append mt_append (pv 4) (pa_cons (pv 6) pa_nil))))) pss_nil)))
        (pss_one (ps_if (pt_cmpR op_gt (pe_callB call_lenD (by rfl) B.len PySem.boot_len (pa_cons (pv 3) pa_nil)) (pv 2) (nomark _)) (pss_one VL.ps_dead) pss_nil)))))
      (pss_one (ps_ret (pe_callB (call_sortedDI rfl) (by rfl) B.sorted (by decide +kernel) (pa_cons (pv 3) pa_nil))))))), ?_⟩
    refine fun d nd => ⟨_, rfl, upd_same, [(Sum.inl x0, .bl true)], rfl, (by show 1 ≤ 15; decide), _, rfl, by show 1 ≤ sizeLine; decide, fun l nl => ?_⟩
    rw [upd_upd] at nl ⊢
    have ndl : d ≠ l := fun z => by
      rw [z, upd_same] at nl
      cases nl
    have s0 : Same H (upd (upd H d (.dK (mergeK [] [(Sum.inl x0, .bl true)]))) l (.lst [.int x0])) := (same_new nd).trans (same_new nl)
    have fl : H l = none := (same_new (o := .dK (mergeK [] [(Sum.inl x0, .bl true)])) nd).free nl
    have hd0 : (upd (upd H d (.dK (mergeK [] [(Sum.inl x0, .bl true)]))) l (.lst [.int x0])) d = some (.dK [(Sum.inl x0, .bl true)]) := by
      rw [upd_ne ndl, upd_same]
      rfl
    have hl0 : (upd (upd H d (.dK (mergeK [] [(Sum.inl x0, .bl true)]))) l (.lst [.int x0])) l = some (.lst [.int x0]) := upd_same
    generalize upd (upd H d (.dK (mergeK [] [(Sum.inl x0, .bl true)]))) l (.lst [.int x0]) = H0 at s0 hd0 hl0 ⊢
    have U1 : 1 ≤ U.length := List.length_pos_of_mem (hU x0 .refl)
    have fU : ∀ {fs as : List Int} {wt : Option (Int × Nat)}, Srch ss x0 U fs as wt → fs.length ≤ U.length := fun S => nd_len S.nd S.inU
    refine ⟨fun mm σ H2 => ∃ (kvs : List (Key × V)) (fs as : List Int) (v5 v6 : Option V), σ = [some (.int x0), some (.ref f), some (.int m), some (.ref d), some (.ref l), v5, v6] ∧ H2 d = some (.dK kvs) ∧ kvs.map (·.1) = fs.map Sum.inl ∧ H2 l = some (.lst (as.map V.int)) ∧ Srch ss x0 U fs as none ∧ Same H H2 ∧
        mm = 2 * (U.length - fs.length) + as.length ∧ mm ≤ 2 * U.length, ⟨_, _, [x0], [x0], none, none, rfl, hd0, rfl, hl0, Srch.start hU, s0, rfl, by show 2 * (U.length - 1) + 1 ≤ _; omega⟩, ?_⟩
    rintro mm σ H2 ⟨kvs, fs, as, v5, v6, rfl, hd, hk, hl, S, s2, rfl, lmm⟩
    have isS : ∀ {kvs : List (Key × V)} {fs : List Int} (z : Int), kvs.map (·.1) = fs.map Sum.inl → (valV kvs (Sum.inl z)).isSome = decide (z ∈ fs) := fun {kvs fs} z hk => by
      cases e : valV kvs (Sum.inl z) with
      | none =>
        have q := valV_not e
        rw [hk] at q
        exact (decide_eq_false fun h => q (List.mem_map_of_mem h)).symm
      | some v =>
        have q := valV_in e
        rw [hk] at q
        obtain ⟨z', hz, ez⟩ := List.mem_map.mp q
        cases ez
        exact (decide_eq_true hz).symm
    refine ⟨_, rfl, _, .inl ⟨_, .inl (.inl hl), rfl⟩, ?_⟩
    rcases List.eq_nil_or_concat as with rfl | ⟨as', x, rfl⟩
    · -- return sorted(found)
      refine ⟨_, rfl, d, kvs, fs, rfl, .inl hd, hk, by have := fU S; omega, fun ys p perm pw np => ?_⟩
      refine q p ys _ (s2.free np) upd_same (lt_of_le_nodup ys pw (perm.nodup_iff.mpr S.nd)) (fun z => perm.mem_iff.trans (S.all z)) (s2.trans (same_new np))
    · rw [List.concat_eq_append] at hl S lmm ⊢
      have eE : (!((as' ++ [x]).map V.int).isEmpty) = true := by
        cases as' <;> rfl
      rw [eE]
      have lA : (as' ++ [x]).length = as'.length + 1 := by rw [List.length_append]; rfl
      refine ⟨fun σ' H' => ∃ (kvs : List (Key × V)) (fs2 as2 : List Int) (v5 v6 : Option V), σ' = [some (.int x0), some (.ref f), some (.int m), some (.ref d), some (.ref l), v5, v6] ∧ H' d = some (.dK kvs) ∧ kvs.map (·.1) = fs2.map Sum.inl ∧ H' l = some (.lst (as2.map V.int)) ∧ Srch ss x0 U fs2 as2 none ∧ Same H H' ∧
        2 * (U.length - fs2.length) + as2.length < 2 * (U.length - fs.length) + (as' ++ [x]).length, ?_, ?_⟩
      · rintro σ' H' ⟨kvs2, fs2, as2, w5, w6, rfl, hd2, hk2, hl2, S2, s22, lt2⟩
        exact ⟨_, lt2, kvs2, fs2, as2, w5, w6, rfl, hd2, hk2, hl2, S2, s22, rfl, by omega⟩
      · -- place = ahead.pop()
        refine ⟨_, rfl, .inl ⟨rfl, _, .inl (.inl hl)⟩, l, _, .int x, rfl, rfl, hl, by rw [List.map_append, List.length_append, List.length_map]; show (as'.map V.int ++ [.int x])[as'.length + 1 - 1]? = _; rw [Nat.add_sub_cancel, List.getElem?_append_right (by rw [List.length_map]; exact Nat.le_refl _), List.length_map, Nat.sub_self]; rfl, ?_⟩
        have edl : ((as' ++ [x]).map V.int).dropLast = as'.map V.int := by
          rw [List.map_append]
          exact List.dropLast_concat
        rw [edl]
        have hd3 : (upd H2 l (.lst (as'.map V.int))) d = some (.dK kvs) := by rw [upd_ne ndl]; exact hd
        have hl3 : (upd H2 l (.lst (as'.map V.int))) l = some (.lst (as'.map V.int)) := upd_same
        have s3 : Same H (upd H2 l (.lst (as'.map V.int))) := fun b o e => by
          rw [upd_ne (ne_of_none e fl)]
          exact s2 _ _ e
        generalize upd H2 l (.lst (as'.map V.int)) = H3 at hd3 hl3 s3 ⊢
        refine ⟨f, rfl, s3 _ _ hf, _, rfl, .int x, rfl, s3 _ _ hf, s3 _ _ hc, a, us, ss, x, rfl, rfl, hS.same s3, hss.same s3, l24, fun l2 H4 n2 h2 s4 => ⟨l2, rfl, ⟨_, .inl (.inl h2)⟩, ?_⟩⟩
        have n2d : d ≠ l2 := ne_of_none hd3 n2
        have n2l : l ≠ l2 := ne_of_none hl3 n2
        refine for_list (K := K) (xs := (nxOf ss x).map V.int) (fun i σ H5 => ∃ (kvs : List (Key × V)) (fs2 as2 : List Int) (v6 : Option V), σ = [some (.int x0), some (.ref f), some (.int m), some (.ref d), some (.ref l), some (.int x), v6] ∧ H5 d = some (.dK kvs) ∧ kvs.map (·.1) = fs2.map Sum.inl ∧ H5 l = some (.lst (as2.map V.int)) ∧
            Srch ss x0 U fs2 as2 (some (x, i)) ∧ Same H H5 ∧ H5 l2 = some (.lst ((nxOf ss x).map V.int)) ∧ 2 * (U.length - fs2.length) + as2.length ≤ 2 * (U.length - fs.length) + as'.length)
          ⟨kvs, fs, as', v6, rfl, s4 _ _ hd3, hk, s4 _ _ hl3, S.pop, s3.trans s4, h2, Nat.le_refl _⟩ (fun _ _ _ _ ⟨_, _, _, _, _, _, _, _, _, _, h, _⟩ => .inl (.inl h)) ?_ ?_
        · rintro i y σ H5 hy ⟨kvs2, fs2, as2, w6, rfl, hd5, hk5, hl5, S5, s5, h25, lt5⟩
          obtain ⟨z, rfl, ez⟩ : ∃ z, y = .int z ∧ (nxOf ss x)[i]? = some z := by
            rw [List.getElem?_map] at hy
            cases e : (nxOf ss x)[i]? with
            | none => rw [e] at hy; cases hy
            | some z => rw [e] at hy; exact ⟨z, (Option.some.inj hy).symm, rfl⟩
          refine ⟨_, rfl, _, rfl, d, _, rfl, DGet.k (k := Sum.inl z) hd5, _, rfl, ?_⟩
          rw [isS z hk5]
          have lk : kvs2.length = fs2.length := by
            have q := congrArg List.length hk5
            rw [List.length_map, List.length_map] at q
            exact q
          have := fU S5
          by_cases e : z ∈ fs2
          · rw [decide_eq_true e]
            exact ⟨kvs2, fs2, as2, _, rfl, hd5, hk5, hl5, S5.old ez e, s5, h25, lt5⟩
          · rw [decide_eq_false e]
            have vn : valV kvs2 (Sum.inl z) = none := by
              have q := isS z hk5
              rw [decide_eq_false e] at q
              exact Option.isNone_iff_eq_none.mp (by rw [← Option.not_isSome, q]; rfl)
            refine ⟨_, rfl, _, rfl, d, _, rfl, DPut.k (k := Sum.inl z) hd5 (small1000 (by omega)), ?_⟩
            have hl6 : (upd H5 d (.dK (putK kvs2 (Sum.inl z) (.bl true)))) l = some (.lst (as2.map V.int)) := by rw [upd_ne ndl.symm]; exact hl5
            refine ⟨_, rfl, .inl ⟨rfl, _, .inl (.inl hl6)⟩, _, rfl, l, _, _, rfl, rfl, hl6, small1000 (by rw [List.length_map]; omega), ?_⟩
            have S6 := S5.new hU ez e
            have := fU S6
            have lf : (fs2 ++ [z]).length = fs2.length + 1 := by rw [List.length_append]; rfl
            have la : (as2 ++ [z]).length = as2.length + 1 := by rw [List.length_append]; rfl
            refine ⟨_, fs2 ++ [z], as2 ++ [z], _, rfl, by rw [upd_ne ndl, upd_same], ?_, by rw [upd_same, List.map_append]; rfl, S6, fun b o eb => ?_, by rw [upd_ne n2l.symm, upd_ne n2d.symm]; exact h25, by omega⟩
            · rw [putK_new _ vn, List.map_append, List.map_append, hk5]
              rfl
            · rw [upd_ne (ne_of_none eb fl), upd_ne (ne_of_none eb nd)]
              exact s5 _ _ eb
        · rintro σ H5 ⟨kvs2, fs2, as2, w6, rfl, hd5, hk5, hl5, S5, s5, h25, lt5⟩
          rw [List.length_map] at S5
          have lk : kvs2.length = fs2.length := by
            have q := congrArg List.length hk5
            rw [List.length_map, List.length_map] at q
            exact q
          have := fU S5
          refine ⟨_, rfl, d, kvs2, rfl, hd5, _, rfl, _, _, rfl, rfl, _, rfl, ?_⟩
          rw [decide_eq_false (show ¬ (m : Int) < (kvs2.length : Nat) by omega)]
          exact ⟨kvs2, fs2, as2, _, _, rfl, hd5, hk5, hl5, S5.done, s5, by omega⟩
end
end KX
namespace KX
open PySem PySem.Spec PyProof.Rows L2
/-! ### reached_states -/
/-- a def whose code object has a table of its own -/
structure FunC (K : PySem.W.Frag) (x qual : Str) (st : Stmt) (f : Addr) (fd : FuncData) (c : Addr) : Prop where
  ex : ∃ (oc : Value) (od : Option Addr) (kV doc pm : Value) (an : Option Addr) (ct : Value) (osl : Array (Option Value)),
    fd = PySem.W.fnOf x qual (defArgs st) (defBody st) (defScope st) .none kV doc pm an (.ref c) ct ∧ K.lookup f = some ⟨oc, od, .func fd, osl⟩ ∧ PySem.W.codeIn K (.ref c) qual = true
  kp : PySem.W.keepIn K (.ref f) = true
theorem FunC.fun {K : PySem.W.Frag} {x qual : Str} {st : Stmt} {f c : Addr} {fd : FuncData} (F : FunC K x qual st f fd c) : Fun K x qual st f fd :=
  let ⟨oc, od, kV, doc, pm, an, ct, osl, e1, e2, e3⟩ := F.ex
  ⟨⟨oc, od, kV, doc, pm, an, .ref c, ct, osl, e1, e2, e3⟩, F.kp⟩
section
variable {P : Program} {w : World} {K : PySem.W.Frag} {mg : Str → Option Value} {base : Heap}
theorem FunC.ok {x qual : Str} {st : Stmt} {f c : Addr} {fd : FuncData} {N ps : List Str} {k : Nat} {sp : Sp} (F : FunC K x qual st f fd c) (S : FnScope N ps (defScope st)) (len : ∀ vs H Q E, sp vs H Q E → vs.length = ps.length)
    (hbody : ∀ (A : Around) (outer : List Env) (s : Shared) (H : Hp) (vs : List V) (Q : VK) (E : XK), Room k (A.deeper (envOfC qual (defScope st) s.heap.objs.size f (.ref c))) → sp vs H Q E →
      ∃ t, PSs (cxOf CX0 P w K mg base N qual (defScope st) f (.ref c) A outer s H E).nox (defBody st) t ∧ t { nx := fun _ H' => Q .non H', rt := Q } (start N vs) H) : FnOk P w K mg base CX0 (k + 1) f fd ps sp := by
  obtain ⟨oc, od, kV, doc, pm, an, ct, osl, rfl, lk, hcd⟩ := F.ex
  refine fn_of lk hcd S len fun A outer s H vs Q E hr hsp => ?_
  obtain ⟨t, h, q⟩ := hbody A outer s H vs Q E hr hsp
  exact ⟨t, h.nox, q⟩
theorem sc_reached : FnScope ["start", "steps"] ["start", "steps"] (defScope s_reached_states) := ⟨rfl, rfl, rfl, by decide +kernel, rfl, by decide +kernel, by decide +kernel⟩
abbrev nmL : Nat → Nat → Str := fun _ _ => "reached_states.<locals>.<lambda>"
/-- the table of the code objects that reached_states makes -/
abbrev TabL (P : Addr) (H : Hp) : Prop := NdefX.TabsN [(P, nmL)] H
def spReached (K : PySem.W.Frag) (T : Addr) : Sp := fun vs H Q _ => ∃ (x0 : Int) (a : Addr) (us : List V) (ss : List Stp) (U : List Int), vs = [.int x0, .ref a] ∧ TabL T H ∧ Seq K H a us ∧ StepsAt K H us ss ∧ ss.length ≤ 24 ∧ (∀ x, Reach ss x0 x → x ∈ U) ∧ U.length ≤ 8 ∧
  ∀ (l : Addr) (ns : List Int) (H' : Hp), H l = none → H' l = some (.lst (ns.map V.int)) → ns.Pairwise (· < ·) → (∀ x, x ∈ ns ↔ Reach ss x0 x) → LamX.ExtN H H' → TabL T H' → Q (.ref l) H'
theorem extN_seq {H H' : Hp} {a : Addr} {us : List V} (k : LamX.ExtN H H') (h : Seq K H a us) : Seq K H' a us :=
  h.imp (fun q => q.imp (fun r => r.imp (fun e => k _ _ e (fun ps z => nomatch z)) fun ⟨o, e⟩ => ⟨o, k _ _ e (fun ps z => nomatch z)⟩) id) fun q => q.imp (fun r => r.imp (fun e => k _ _ e (fun ps z => nomatch z)) fun ⟨o, e⟩ => ⟨o, k _ _ e (fun ps z => nomatch z)⟩) id
theorem extN_steps {H H' : Hp} {us : List V} {ss : List Stp} (k : LamX.ExtN H H') (h : StepsAt K H us ss) : StepsAt K H' us ss := Paired.mapP h fun _ _ ⟨t, e, q⟩ => ⟨t, e, k _ _ q (fun ps z => nomatch z)⟩
theorem tabL_same {T : Addr} {H H' : Hp} (k : Same H H') (h : TabL T H) : TabL T H' := NdefX.TabsN.ext h k
theorem nxOf_take {ss : List Stp} {i : Nat} {s : Stp} (x : Int) (e : ss[i]? = some s) : nxOf (ss.take (i + 1)) x = nxOf (ss.take i) x ++ if s.a = x then [s.b] else [] := by
  unfold nxOf
  rw [List.take_add_one, e, List.filter_append, List.map_append]
  congr 1
  show (List.filter (fun s => decide (s.a = x)) [s]).map (·.b) = _
  by_cases h : s.a = x
  · rw [if_pos h]
    simp [h]
  · rw [if_neg h]
    simp [h]
theorem nxOf_len (ss : List Stp) (x : Int) : (nxOf ss x).length ≤ ss.length := by
  unfold nxOf
  rw [List.length_map]
  exact List.length_filter_le _ _
theorem ok_reached {f fA c T : Addr} {fd fdA : FuncData} (F : FunC K "reached_states" "reached_states" s_reached_states f fd c) (B : Blt mg) (L : Lim mg) (TB : LamX.TabB base mg c T) (FA : Fun K "all_reached" "all_reached" s_all_reached fA fdA) (bA : Binds K fdA ["first", "following", "most"] []) (gA : mg "all_reached" = some (.ref fA)) :
    FnOk P w K mg base CX0 3 f fd ["start", "steps"] (spReached K T) := by
  have GA : VL.FnOkS P w K mg base CX0 2 fA fdA ["first", "following", "most"] (spAll P w K mg base) := ok_all FA B
  obtain ⟨t8, e8⟩ := L.states
  refine F.ok sc_reached (fun vs H Q E h => ?_) (fun A outer s H vs Q E hr h => ?_)
  · obtain ⟨x0, a, us, ss, U, rfl, _⟩ := h
    rfl
  · obtain ⟨x0, a, us, ss, U, rfl, hT, hS, hss, l24, hU, lU, q⟩ := h
    refine ⟨_, pss_one (ps_ret (VL.pe_callSt (E := E0) GA hr (by rfl) gA FA.kp bA pass0 (pa_cons (pv 0) (pa_cons (VL.pe_lamV (T := [(T, nmL)]) (nm := nmL) (P := T) (c := c) TB rfl List.mem_cons_self rfl (fun p hp _ => by rw [List.mem_singleton.mp hp]) rfl (VL.free_by (by kernel_rfl)))
      (pa_cons (pe_glob rfl e8 (v := .int 8) ⟨_, rfl⟩) pa_nil))))), ?_⟩
    refine ⟨_, rfl, hT, fun g c' H1 eN nn T1 g0 hg hc => fun pins s1 I1 => ?_⟩
    refine ⟨x0, g, a, 8, _, us, ss, U, rfl, hg, hc, ?_, fun g2 => ?_, extN_seq eN hS, extN_steps eN hss, l24, hU, lU, by decide, fun l ns H' nl hl pw hr' s' => ?_⟩
    · exact NdefX.cells_of (js := [1]) I1 (NdefX.Caps.made I1.ok (VL.free_by (by kernel_rfl)) (fun y hy => by rw [List.mem_singleton.mp hy]; exact List.mem_cons_of_mem _ List.mem_cons_self) rfl)
    · refine VL.lamOk_of (N := ["state", "steps", "step"]) (p := "state") (VL.lscope_by (by kernel_rfl)) VL.clOk_from (fun _ _ _ => rfl) fun A2 outer2 s2 H2 v ws Q2 E2 hr2 hw hsp => ?_
      obtain ⟨a2, us2, ss2, x, rfl, rfl, hS2, hss2, l242, q2⟩ := hsp
      have nd3 : (["state", "steps", "step"] : List Str).Nodup := by decide +kernel
      refine ⟨_, pe_lc (own := [("step", 2)]) (g := gName 2) rfl nd3 (VE.pi_seqS (j := 1) rfl (.inr (.inr rfl))) (blkOk_by (by kernel_rfl)) (fun _ _ _ _ _ => pg_name (i := 2) nd3 rfl (.inl rfl))
        (fun _ _ _ _ _ => pts_one (pt_cmpR op_eq (pe_ix (r := rIxT K) ix_tup (pv 2) pe_int (fun _ _ => rfl)) (pv 0) (nomark _))) (fun _ _ _ _ _ => pe_ix (r := rIxT K) ix_tup (pv 2) pe_int (fun _ _ => rfl)), ?_⟩
      refine VE.lc_seqS (H0 := H2) rfl (Same.refl _) hS2 (fun D i H3 => H3 D = some (.lst ((nxOf (ss2.take i) x).map V.int)) ∧ Same H2 H3) (fun D hD => ⟨by rw [upd_same]; rfl, same_new hD⟩) (fun D i H3 _ h => h.2) ?_ ?_
      · rintro D i y H3 hD hy ⟨hD3, s3⟩
        obtain ⟨st, t, rfl, es, ht⟩ := get_tup (hss2.same s3) hy
        refine ⟨rfl, _, rfl, t, _, _, _, rfl, rfl, .inl (.inl ht), atI_nat (j := 0) rfl, _, rfl, rfl, _, rfl, ?_⟩
        by_cases ea : st.a = x
        · rw [decide_eq_true (congrArg V.int ea)]
          refine ⟨_, rfl, t, _, _, _, rfl, rfl, .inl (.inl ht), atI_nat (j := 2) rfl, _, hD3, ?_, ?_, fun b o e => ?_⟩
          · rw [List.length_map]
            have := nxOf_len (ss2.take i) x
            have := List.length_take_le' i ss2
            exact small1000 (by omega)
          · rw [upd_same, nxOf_take x es, if_pos ea, List.map_append]
            rfl
          · rw [upd_ne (ne_of_none e hD)]
            exact s3 b o e
        · rw [decide_eq_false fun z => ea (V.int.inj z)]
          refine ⟨?_, s3⟩
          rw [nxOf_take x es, if_neg ea, List.append_nil]
          exact hD3
      · rintro D H3 hD ⟨hD3, s3⟩
        rw [hss2.length, List.take_length] at hD3
        exact q2 D H3 hD hD3 s3
    · exact q l ns H' (nn _ nl) hl pw hr' (fun b o e n => s' _ _ (eN b o e n)) (tabL_same s' T1)
end
end KX
namespace KX
open PySem PySem.Spec PyProof.Rows L2
/-! ### Hand.__init__ -/
structure HandT (K : PySem.W.Frag) (mg : Str → Option Value) (C : Addr) : Prop where
  cl : Cls K C
  start : NoAttr K C "start"
  steps : NoAttr K C "steps"
  words : NoAttr K C "words"
  states : NoAttr K C "states"
  exits : NoAttr K C "exits"
def hfs (x0 : Int) (ts ws sts ex : Addr) : List (Str × V) := putF "exits" (.ref ex) (putF "states" (.ref sts) (putF "words" (.ref ws) (putF "steps" (.ref ts) (putF "start" (.int x0) []))))
/-- what stands stands, but what is at p and the tables -/
def Kept (p : Addr) (H H' : Hp) : Prop := ∀ b o, b ≠ p → H b = some o → (∀ ps, o ≠ .tbl ps) → H' b = some o
/-- a hand stands at p -/
structure HandAt (K : PySem.W.Frag) (C : Addr) (H : Hp) (p : Addr) (x0 : Int) (us : List V) (wl : List Str) (nl : List Int) : Prop where
  ob : ∃ dx ts ws sts ex, H p = some (.ins C dx (hfs x0 ts ws sts ex)) ∧ SqT K H ts us ∧ H ws = some (.tup (wl.map V.str)) ∧ H sts = some (.tup (nl.map V.int))
/-- the hand of such a start and such steps -/
structure HandOf (ss : List Stp) (x0 : Int) (wl : List Str) (nl : List Int) : Prop where
  ws : sortedS wl = true
  wn : wl.Nodup
  wm : ∀ z, z ∈ wl ↔ ∃ s ∈ ss, s.w = z
  np : nl.Pairwise (· < ·)
  nm : ∀ x, x ∈ nl ↔ Reach ss x0 x
section
variable {P : Program} {w : World} {K : PySem.W.Frag} {mg : Str → Option Value} {base : Heap}
abbrev nInit : List Str := ["self", "start", "steps", "words", "states", "step"]
theorem sc_init : FnScope nInit ["self", "start", "steps"] (defScope s_Hand_init) := ⟨rfl, rfl, rfl, by decide +kernel, rfl, by decide +kernel, by decide +kernel⟩
def spHand (K : PySem.W.Frag) (C T : Addr) : Sp := fun vs H Q _ => ∃ (p dx a : Addr) (x0 : Int) (us : List V) (ss : List Stp) (U : List Int) (zs : List Str), vs = [.ref p, .int x0, .ref a] ∧ H p = some (.ins C dx []) ∧ TabL T H ∧ Seq K H a us ∧ StepsAt K H us ss ∧ Good ss ∧
  0 ≤ x0 ∧ x0 ≤ 99 ∧ (∀ s ∈ ss, s.w ∈ zs) ∧ zs.length ≤ 8 ∧ (∀ x, Reach ss x0 x → x ∈ U) ∧ U.length ≤ 8 ∧
  ∀ (wl : List Str) (nl : List Int) (H' : Hp), HandAt K C H' p x0 us wl nl → HandOf ss x0 wl nl → Kept p H H' → TabL T H' → Q .non H'
/-- the defs that Hand's making calls -/
structure HandD (K : PySem.W.Frag) (mg : Str → Option Value) (base : Heap) (fW fS fN fR fT fC fA fG fE c T : Addr) (fdW fdS fdN fdR fdT fdC fdA fdG fdE : FuncData) : Prop where
  kin : KinD K mg fW fS fN fdW fdS fdN
  FR : Fun K "is_row" "is_row" s_is_row fR fdR
  bR : Binds K fdR ["value"] []
  gR : mg "is_row" = some (.ref fR)
  FT : Fun K "is_step" "is_step" s_is_step fT fdT
  bT : Binds K fdT ["value"] []
  gT : mg "is_step" = some (.ref fT)
  FC : Fun K "check_steps" "check_steps" s_check_steps fC fdC
  bC : Binds K fdC ["steps"] []
  gC : mg "check_steps" = some (.ref fC)
  FA : Fun K "all_reached" "all_reached" s_all_reached fA fdA
  bA : Binds K fdA ["first", "following", "most"] []
  gA : mg "all_reached" = some (.ref fA)
  FG : FunC K "reached_states" "reached_states" s_reached_states fG fdG c
  bG : Binds K fdG ["start", "steps"] []
  gG : mg "reached_states" = some (.ref fG)
  TB : LamX.TabB base mg c T
  FE : Fun K "exits_of" "exits_of" s_exits_of fE fdE
  bE : Binds K fdE ["steps"] []
  gE : mg "exits_of" = some (.ref fE)
theorem Kept.same {p : Addr} {H H' : Hp} (k : Same H H') : Kept p H H' := fun b o _ e _ => k b o e
theorem Kept.ext {p : Addr} {H H' : Hp} (k : LamX.ExtN H H') : Kept p H H' := fun b o _ e n => k b o e n
theorem Kept.trans {p : Addr} {H H1 H2 : Hp} (a : Kept p H H1) (b : Kept p H1 H2) : Kept p H H2 := fun c o n e t => b c o n (a c o n e t) t
theorem Kept.at {p : Addr} {H : Hp} {o : HO} : Kept p H (upd H p o) := fun b u n e _ => by rw [upd_ne n]; exact e
theorem nd_lenS : ∀ {fs U : List Str}, fs.Nodup → (∀ x ∈ fs, x ∈ U) → fs.length ≤ U.length
  | [], _, _, _ => Nat.zero_le _
  | x :: r, U, nd, h => by
    obtain ⟨n1, n2⟩ := List.nodup_cons.mp nd
    have hx := h x List.mem_cons_self
    have q := nd_lenS (fs := r) (U := U.erase x) n2 fun y hy => by
      have ne : y ≠ x := fun e => n1 (e ▸ hy)
      exact (List.mem_erase_of_ne ne).mpr (h y (List.mem_cons_of_mem _ hy))
    rw [List.length_erase_of_mem hx] at q
    have := List.length_pos_of_mem hx
    rw [List.length_cons]
    omega
theorem few1 {x0 : Int} : (putF "start" (.int x0) []).length < 1000 := Nat.lt_of_le_of_lt (length_putF _ _ _) (by decide)
theorem few2 {x0 : Int} {t : Addr} : (putF "steps" (.ref t) (putF "start" (.int x0) [])).length < 1000 := Nat.lt_of_le_of_lt (Nat.le_trans (length_putF _ _ _) (Nat.succ_le_succ (length_putF _ _ _))) (by decide)
theorem few3 {x0 : Int} {t u : Addr} : (putF "words" (.ref u) (putF "steps" (.ref t) (putF "start" (.int x0) []))).length < 1000 :=
  Nat.lt_of_le_of_lt (Nat.le_trans (length_putF _ _ _) (Nat.succ_le_succ (Nat.le_trans (length_putF _ _ _) (Nat.succ_le_succ (length_putF _ _ _))))) (by decide)
theorem few4 {x0 : Int} {t u v : Addr} : (putF "states" (.ref v) (putF "words" (.ref u) (putF "steps" (.ref t) (putF "start" (.int x0) [])))).length < 1000 :=
  Nat.lt_of_le_of_lt (Nat.le_trans (length_putF _ _ _) (Nat.succ_le_succ (Nat.le_trans (length_putF _ _ _) (Nat.succ_le_succ (Nat.le_trans (length_putF _ _ _) (Nat.succ_le_succ (length_putF _ _ _))))))) (by decide)
theorem kept_seq {p a : Addr} {H H' : Hp} {us : List V} {o : HO} (hp : H p = some o) (hn : ∀ u, (o = .lst u ∨ o = .tup u) → False) (hf : ∀ q u, o = .frz q u → False) (k : Kept p H H') (h : Seq K H a us) : Seq K H' a us := by
  have one : ∀ {b : Addr} {u : HO}, (u = .lst us ∨ u = .tup us) → Rd H b u → Rd H' b u := fun {b u} hu r => by
    rcases r with e | ⟨q, e⟩
    · refine .inl (k b u (fun z => ?_) e fun ps z => ?_)
      · rw [z, hp] at e
        cases e
        exact hn us hu
      · rcases hu with r | r <;> rw [r] at z <;> cases z
    · refine .inr ⟨q, k b _ (fun z => ?_) e fun ps z => nomatch z⟩
      rw [z, hp] at e
      cases e
      exact hf q u rfl
  exact h.imp (fun q => q.imp (one (.inl rfl)) id) fun q => q.imp (one (.inr rfl)) id
theorem kept_steps {p : Addr} {H H' : Hp} {us : List V} {ss : List Stp} {o : HO} (hp : H p = some o) (hn : ∀ u, o = .tup u → False) (k : Kept p H H') (h : StepsAt K H us ss) : StepsAt K H' us ss :=
  Paired.mapP h fun _ _ ⟨t, e, q⟩ => ⟨t, e, k _ _ (fun z => by rw [z, hp] at q; cases q; exact hn _ rfl) q (fun ps z => nomatch z)⟩
theorem tabL_upd {T p : Addr} {H : Hp} {o o' : HO} (hp : H p = some o) (n1 : ∀ ps, o ≠ .tbl ps) (n2 : ∀ c q, o ≠ LamX.CodeO c q) (h : TabL T H) : TabL T (upd H p o') := by
  intro x hx
  obtain ⟨ps, e1, e2, e3⟩ := h x hx
  refine ⟨ps, by rw [upd_ne (fun z => n1 ps (by rw [z, hp] at e1; exact Option.some.inj e1))]; exact e1, e2, fun pos cv hc => ?_⟩
  obtain ⟨c, r1, r2⟩ := e3 pos cv hc
  exact ⟨c, r1, by rw [upd_ne (fun z => n2 _ _ (by rw [z, hp] at r2; exact Option.some.inj r2))]; exact r2⟩
/-- while Hand's fields are stored -/
structure InitSt (K : PySem.W.Frag) (C T p dx a ts : Addr) (us : List V) (ss : List Stp) (H0 : Hp) (fs : List (Str × V)) (H : Hp) : Prop where
  hp : H p = some (.ins C dx fs)
  tt : SqT K H ts us
  tab : TabL T H
  kept : Kept p H0 H
  seq : Seq K H a us
  steps : StepsAt K H us ss
theorem kept_tup {K : PySem.W.Frag} {p ts C dx : Addr} {fs : List (Str × V)} {H H' : Hp} {us : List V} (hp : H p = some (.ins C dx fs)) (k : Kept p H H') (h : SqT K H ts us) : SqT K H' ts us := by
  refine h.imp (fun r => r.imp (fun e => k _ _ (fun z => ?_) e fun ps z => nomatch z) fun ⟨o, e⟩ => ⟨o, k _ _ (fun z => ?_) e fun ps z => nomatch z⟩) id
  · rw [z, hp] at e
    cases e
  · rw [z, hp] at e
    cases e
theorem InitSt.put {K : PySem.W.Frag} {C T p dx a ts : Addr} {us : List V} {ss : List Stp} {H0 H H6 : Hp} {fs fs' : List (Str × V)} (S : InitSt K C T p dx a ts us ss H0 fs H) (s6 : Same H H6) : InitSt K C T p dx a ts us ss H0 fs' (upd H6 p (.ins C dx fs')) := by
  have hp6 := s6 _ _ S.hp
  refine ⟨upd_same, kept_tup hp6 Kept.at (S.tt.imp (Rd.keep fun b u e _ => s6 b u e) id), tabL_upd hp6 (fun ps z => nomatch z) (fun c q z => by unfold LamX.CodeO at z; cases z) (tabL_same s6 S.tab), (S.kept.trans (Kept.same s6)).trans Kept.at,
    kept_seq hp6 (fun u h => by rcases h with h | h <;> cases h) (fun q u h => nomatch h) Kept.at (S.seq.same s6), kept_steps hp6 (fun u h => nomatch h) Kept.at (S.steps.same s6)⟩
theorem ok_init {f C fW fS fN fR fT fC fA fG fE c T : Addr} {fd fdW fdS fdN fdR fdT fdC fdA fdG fdE : FuncData} (F : Fun K "__init__" "Hand.__init__" s_Hand_init f fd) (B : Blt mg) (N : Kin mg) (L : Lim mg) (TX : HandT K mg C) (D : HandD K mg base fW fS fN fR fT fC fA fG fE c T fdW fdS fdN fdR fdT fdC fdA fdG fdE) :
    FnOk P w K mg base CX0 5 f fd ["self", "start", "steps"] (spHand K C T) := by
  have GS : FnOk P w K mg base CX0 2 fS fdS ["value"] spState := ok_state D.kin.FS B N D.kin.FW D.kin.bW D.kin.gW
  have GC : FnOk P w K mg base CX0 4 fC fdC ["steps"] (spCheck K) := ok_check D.FC B N L D.kin D.FR D.bR D.gR D.FT D.bT D.gT
  have GG : FnOk P w K mg base CX0 3 fG fdG ["start", "steps"] (spReached K T) := ok_reached D.FG B L D.TB D.FA D.bA D.gA
  have GE : FnOk P w K mg base CX0 1 fE fdE ["steps"] (spExits K) := ok_exits D.FE B
  obtain ⟨t8, e8⟩ := L.words
  refine F.ok sc_init (fun vs H Q E h => ?_) (fun cdv A outer s H vs Q E hr h => ?_)
  · obtain ⟨p, dx, a, x0, us, ss, U, zs, rfl, _⟩ := h
    rfl
  · obtain ⟨p, dx, a, x0, us, ss, U, zs, rfl, hp, hT, hS, hss, G, h0, h1, hz, lz, hU, lU, q⟩ := h
    refine ⟨_, pss_cons (ps_if (pt_not (pt_val (pe_call GS (hr.mono (by decide)) (by rfl) D.kin.gS D.kin.FS.kp D.kin.bS .nil pass0 (pa_cons (pv 1) pa_nil)))) (pss_one VL.ps_dead) pss_nil)
      (pss_cons (ps_expr (pe_call GC hr (by rfl) D.gC D.FC.kp D.bC .nil pass0 (pa_cons (pv 2) pa_nil)))
      (pss_cons (ps_set (i := 3) sc_init.nd rfl (.inl rfl) (pe_callB (VT.cr_sortedT rfl) (by rfl) B.sorted (by decide +kernel) (pa_cons (VT.pe_scT (own := [("step", 5)]) (g := gName 5) (tt := tYes) rfl sc_init.nd (VE.pi_seqS (j := 2) rfl (.inl rfl)) (blkOk_by (N := nInit) (sc := defScope s_Hand_init) (by decide +kernel))
        (fun _ _ _ _ _ => pg_name (i := 5) sc_init.nd rfl (.inl rfl)) (fun _ _ _ _ _ => pts_nil) (fun _ _ _ _ _ => pe_ix (r := rIxT K) ix_tup (pv 5) pe_int (fun _ _ => rfl))) pa_nil)))
      (pss_cons (ps_if (pt_cmpR op_gt (pe_callB call_len_seq (by rfl) B.len PySem.boot_len (pa_cons (pv 3) pa_nil)) (pe_glob rfl e8 (v := .int 8) ⟨_, rfl⟩) (nomark _)) (pss_one VL.ps_dead) pss_nil)
      (pss_cons (ps_set (i := 4) sc_init.nd rfl (.inl rfl) (pe_call GG (hr.mono (by decide)) (by rfl) D.gG D.FG.kp D.bG .nil pass0 (pa_cons (pv 1) (pa_cons (pv 2) pa_nil))))
      (pss_cons (ps_fld (pv 0) (pv 1) rfl)
      (C8.pss_cut (ps_fld (pv 0) (pe_tupleOf (by rfl) B.tuple (pv 2)) rfl)
      (pss_cons (ps_fld (pv 0) (pe_tupleOf (by rfl) B.tuple (pv 3)) rfl)
      (pss_cons (ps_fld (pv 0) (pe_tupleOf (by rfl) B.tuple (pv 4)) rfl)
      (pss_one (ps_fld (pv 0) (pe_call GE (hr.mono (by decide)) (by rfl) D.gE D.FE.kp D.bE .nil pass0 (pa_cons (pv 2) pa_nil)) rfl)))))))))), ?_⟩
    refine ⟨_, rfl, x0, rfl, h0, h1, true, rfl, ?_⟩
    refine ⟨_, rfl, a, us, ss, rfl, hS, hss, G, fun H1 s1 => ?_⟩
    have l24 := G.hi
    have hS1 := hS.same s1
    have hss1 := hss.same s1
    have lu : us.length = ss.length := hss.length
    -- words
    dsimp only [tSeq, tAsg, tCB, tCons]
    refine VE.sc_seqS (K := K) (a := a) (xs := us) (σ := [some (V.ref p), some (V.int x0), some (V.ref a), none, none, none]) (H := H1) (g := gName 5) (tt := tYes) (te := tOp (rIxT K) (tVar 5) (tC (.int 1))) (vs := [5]) (ww := w) (j := 2) (H0 := H1) rfl (Same.refl _) hS1 (fun D i H2 => ∃ (S : Str → Bool) (n : Nat), H2 D = some (VT.SetTO w D S n) ∧ n ≤ i ∧ (∀ z, S z = true ↔ ∃ s ∈ ss.take i, s.w = z) ∧ Same H1 H2)
      (fun D hD => ⟨_, _, upd_same, Nat.le_refl _, (fun z => ⟨(fun h => Bool.noConfusion h), (fun ⟨s, h, _⟩ => by rw [List.take_zero] at h; cases h)⟩), same_new hD⟩) (fun D i H2 _ ⟨_, _, _, _, _, k⟩ => k) ?_ ?_
    · rintro D i y H2 hD hy ⟨S, n, hDS, ln, hSz, s2⟩
      obtain ⟨st, t, rfl, es, ht⟩ := get_tup (hss1.same s2) hy
      have hi' : i < ss.length := (List.getElem?_eq_some_iff.mp es).1
      refine ⟨rfl, _, rfl, t, _, _, _, rfl, rfl, .inl (.inl ht), atI_nat (j := 1) rfl, st.w, S, n, rfl, hDS, by unfold scanBound; omega, _, _, upd_same, ?_, fun z => ?_, fun b o e => ?_⟩
      · split <;> omega
      · rw [Bool.or_eq_true, hSz z, decide_eq_true_eq, List.take_add_one, es]
        constructor
        · rintro (⟨s, h, e⟩ | e)
          · exact ⟨s, List.mem_append_left _ h, e⟩
          · exact ⟨st, List.mem_append_right _ (List.mem_singleton.mpr rfl), e.symm⟩
        · rintro ⟨s, h, e⟩
          rcases List.mem_append.mp h with h | h
          · exact .inl ⟨s, h, e⟩
          · rw [List.mem_singleton.mp h] at e
            exact .inr e.symm
      · rw [upd_ne (ne_of_none e hD)]
        exact s2 b o e
    rintro D0 H2 hD0 ⟨S, n, hDS, ln, hSz, s2⟩
    rw [lu, List.take_length] at hSz
    refine ⟨D0, S, n, rfl, hDS, by omega, fun wl pw w1 w2 w3 w4 npw => ?_⟩
    have s3 : Same H (upd H2 pw (.lst (wl.map V.str))) := (s1.trans s2).trans (same_new npw)
    have hpw : (upd H2 pw (.lst (wl.map V.str))) pw = some (.lst (wl.map V.str)) := upd_same
    generalize upd H2 pw (.lst (wl.map V.str)) = H3 at s3 hpw ⊢
    have wm : ∀ z, z ∈ wl ↔ ∃ s ∈ ss, s.w = z := fun z => (w3 z).trans (hSz z)
    have l8 : wl.length ≤ 8 := Nat.le_trans (nd_lenS w2 fun z hzz => by
      obtain ⟨s, hs, e⟩ := (wm z).mp hzz
      exact e ▸ hz s hs) lz
    refine ⟨_, rfl, pw, _, rfl, .inl (.inl (.inl hpw)), _, _, rfl, rfl, _, rfl, ?_⟩
    rw [decide_eq_false (show ¬ (8 : Int) < ((wl.map V.str).length : Nat) by rw [List.length_map]; omega)]
    -- states
    refine ⟨_, rfl, _, rfl, x0, a, us, ss, U, rfl, tabL_same s3 hT, hS.same s3, hss.same s3, l24, hU, lU, fun ps nl H4 nps hps np nm e4 T4 => ?_⟩
    have k4 : Kept p H H4 := (Kept.same s3).trans (Kept.ext e4)
    have hp4 : H4 p = some (.ins C dx []) := e4 _ _ (s3 _ _ hp) (fun ps z => nomatch z)
    have hpw4 : H4 pw = some (.lst (wl.map V.str)) := e4 _ _ hpw (fun ps z => nomatch z)
    have hS4 : Seq K H4 a us := extN_seq e4 (hS.same s3)
    have hss4 : StepsAt K H4 us ss := extN_steps e4 (hss.same s3)
    have npw : pw ≠ p := fun z => by
      rw [z, hp4] at hpw4
      cases hpw4
    have npp : ps ≠ p := fun z => by
      rw [z, hp4] at hps
      cases hps
    -- self.start = start
    refine ⟨_, rfl, _, rfl, p, C, dx, _, rfl, hp4, TX.cl, TX.start, (by show 0 < 1000; decide), ?_⟩
    have insN : ∀ {fs : List (Str × V)} (u : List V), ((HO.ins C dx fs) = .lst u ∨ (HO.ins C dx fs) = .tup u) → False := fun u h => by
      rcases h with h | h <;> cases h
    have insF : ∀ {fs : List (Str × V)} (q : Obj) (u : HO), (HO.ins C dx fs) = .frz q u → False := fun q u h => nomatch h
    have insT : ∀ {fs : List (Str × V)} (u : List V), (HO.ins C dx fs) = .tup u → False := fun u h => nomatch h
    have insB : ∀ {fs : List (Str × V)} (q : Array Value), (HO.ins C dx fs) ≠ .tbl q := fun q h => nomatch h
    have insC : ∀ {fs : List (Str × V)} (c : Addr) (q : Str), (HO.ins C dx fs) ≠ LamX.CodeO c q := fun c q h => by
      unfold LamX.CodeO at h
      cases h
    have T5 : TabL T (upd H4 p (.ins C dx (putF "start" (.int x0) []))) := tabL_upd hp4 insB insC T4
    have k5 : Kept p H (upd H4 p (.ins C dx (putF "start" (.int x0) []))) := k4.trans Kept.at
    have S5 : Seq K (upd H4 p (.ins C dx (putF "start" (.int x0) []))) a us := kept_seq hp4 insN insF Kept.at hS4
    have ss5 : StepsAt K (upd H4 p (.ins C dx (putF "start" (.int x0) []))) us ss := kept_steps hp4 insT Kept.at hss4
    have pw5 : (upd H4 p (.ins C dx (putF "start" (.int x0) []))) pw = some (.lst (wl.map V.str)) := by rw [upd_ne npw]; exact hpw4
    have ps5 : (upd H4 p (.ins C dx (putF "start" (.int x0) []))) ps = some (.lst (nl.map V.int)) := by rw [upd_ne npp]; exact hps
    have hp5 : (upd H4 p (.ins C dx (putF "start" (.int x0) []))) p = some (.ins C dx (putF "start" (.int x0) [])) := upd_same
    generalize upd H4 p (.ins C dx (putF "start" (.int x0) [])) = H5 at T5 k5 S5 ss5 pw5 ps5 hp5 ⊢
    -- self.steps = tuple(steps)
    refine ⟨fun σ H7 => σ = [some (.ref p), some (.int x0), some (.ref a), some (.ref pw), some (.ref ps), none] ∧ ∃ ts, H7 p = some (.ins C dx (putF "steps" (.ref ts) (putF "start" (.int x0) []))) ∧ SqT K H7 ts us ∧ TabL T H7 ∧ Kept p H H7 ∧ Seq K H7 a us ∧ StepsAt K H7 us ss ∧
      H7 pw = some (.lst (wl.map V.str)) ∧ H7 ps = some (.lst (nl.map V.int)), ?_, ?_⟩
    · have put : ∀ (ts : Addr) (H6 : Hp), Same H5 H6 → SqT K H6 ts us → (∃ ts2, (upd H6 p (.ins C dx (putF "steps" (.ref ts) (putF "start" (.int x0) [])))) p = some (.ins C dx (putF "steps" (.ref ts2) (putF "start" (.int x0) []))) ∧ SqT K (upd H6 p (.ins C dx (putF "steps" (.ref ts) (putF "start" (.int x0) [])))) ts2 us ∧
          TabL T (upd H6 p (.ins C dx (putF "steps" (.ref ts) (putF "start" (.int x0) [])))) ∧ Kept p H (upd H6 p (.ins C dx (putF "steps" (.ref ts) (putF "start" (.int x0) [])))) ∧ Seq K (upd H6 p (.ins C dx (putF "steps" (.ref ts) (putF "start" (.int x0) [])))) a us ∧ StepsAt K (upd H6 p (.ins C dx (putF "steps" (.ref ts) (putF "start" (.int x0) [])))) us ss ∧
          (upd H6 p (.ins C dx (putF "steps" (.ref ts) (putF "start" (.int x0) [])))) pw = some (.lst (wl.map V.str)) ∧ (upd H6 p (.ins C dx (putF "steps" (.ref ts) (putF "start" (.int x0) [])))) ps = some (.lst (nl.map V.int))) := fun ts H6 s6 ht => by
        have hp6 := s6 _ _ hp5
        refine ⟨ts, upd_same, ?_, tabL_upd hp6 insB insC (tabL_same s6 T5), (k5.trans (Kept.same s6)).trans Kept.at, kept_seq hp6 insN insF Kept.at (S5.same s6), kept_steps hp6 insT Kept.at (ss5.same s6), by rw [upd_ne npw]; exact s6 _ _ pw5, by rw [upd_ne npp]; exact s6 _ _ ps5⟩
        have := kept_seq (K := K) (a := ts) (us := us) hp6 insN insF (Kept.at (o := .ins C dx (putF "steps" (.ref ts) (putF "start" (.int x0) [])))) (.inr ht)
        exact ht.imp (fun r => r.imp (fun e => by
          have ne : ts ≠ p := fun z => by
            rw [z, hp6] at e
            cases e
          rw [upd_ne ne]
          exact e) fun ⟨o, e⟩ => ⟨o, by
          have ne : ts ≠ p := fun z => by
            rw [z, hp6] at e
            cases e
          rw [upd_ne ne]
          exact e⟩) id
      rcases S5 with sl | st
      · refine ⟨_, rfl, .inl ⟨a, us, rfl, sl, fun q0 nq => ⟨_, rfl, p, C, dx, _, rfl, same_new nq _ _ hp5, TX.cl, TX.steps, few1, rfl, put q0 _ (same_new nq) (.inl (.inl upd_same))⟩⟩⟩
      · refine ⟨_, rfl, .inr ⟨a, us, rfl, st, _, rfl, p, C, dx, _, rfl, hp5, TX.cl, TX.steps, few1, rfl, put a _ (Same.refl _) st⟩⟩
    rintro σ H7 ⟨rfl, ts, hp7, ht7, T7, k7, S7, ss7, pw7, ps7⟩
    have I7 : InitSt K C T p dx a ts us ss H _ H7 := ⟨hp7, ht7, T7, k7, S7, ss7⟩
    -- self.words = tuple(words)
    refine ⟨_, rfl, .inl ⟨pw, _, rfl, .inl (.inl pw7), fun q1 nq1 => ⟨_, rfl, p, C, dx, _, rfl, same_new nq1 _ _ hp7, TX.cl, TX.words, few2, ?_⟩⟩⟩
    have n1p : q1 ≠ p := (ne_of_none hp7 nq1).symm
    have I8 := I7.put (fs' := putF "words" (.ref q1) (putF "steps" (.ref ts) (putF "start" (.int x0) []))) (same_new (o := .tup (wl.map V.str)) nq1)
    have w8 : (upd (upd H7 q1 (.tup (wl.map V.str))) p (.ins C dx (putF "words" (.ref q1) (putF "steps" (.ref ts) (putF "start" (.int x0) []))))) q1 = some (.tup (wl.map V.str)) := by rw [upd_ne n1p, upd_same]
    have ps8 : (upd (upd H7 q1 (.tup (wl.map V.str))) p (.ins C dx (putF "words" (.ref q1) (putF "steps" (.ref ts) (putF "start" (.int x0) []))))) ps = some (.lst (nl.map V.int)) := by rw [upd_ne npp]; exact same_new nq1 _ _ ps7
    generalize upd (upd H7 q1 (.tup (wl.map V.str))) p (.ins C dx (putF "words" (.ref q1) (putF "steps" (.ref ts) (putF "start" (.int x0) [])))) = H8 at I8 w8 ps8 ⊢
    -- self.states = tuple(states)
    refine ⟨_, rfl, .inl ⟨ps, _, rfl, .inl (.inl ps8), fun q2 nq2 => ⟨_, rfl, p, C, dx, _, rfl, same_new nq2 _ _ I8.hp, TX.cl, TX.states, few3, ?_⟩⟩⟩
    have n2p : q2 ≠ p := (ne_of_none I8.hp nq2).symm
    have I9 := I8.put (fs' := putF "states" (.ref q2) (putF "words" (.ref q1) (putF "steps" (.ref ts) (putF "start" (.int x0) [])))) (same_new (o := .tup (nl.map V.int)) nq2)
    have w9 : (upd (upd H8 q2 (.tup (nl.map V.int))) p (.ins C dx (putF "states" (.ref q2) (putF "words" (.ref q1) (putF "steps" (.ref ts) (putF "start" (.int x0) [])))))) q1 = some (.tup (wl.map V.str)) := by rw [upd_ne n1p]; exact same_new nq2 _ _ w8
    have s9 : (upd (upd H8 q2 (.tup (nl.map V.int))) p (.ins C dx (putF "states" (.ref q2) (putF "words" (.ref q1) (putF "steps" (.ref ts) (putF "start" (.int x0) [])))))) q2 = some (.tup (nl.map V.int)) := by rw [upd_ne n2p, upd_same]
    generalize upd (upd H8 q2 (.tup (nl.map V.int))) p (.ins C dx (putF "states" (.ref q2) (putF "words" (.ref q1) (putF "steps" (.ref ts) (putF "start" (.int x0) []))))) = H9 at I9 w9 s9 ⊢
    -- self.exits = exits_of(steps)
    refine ⟨_, rfl, a, us, ss, rfl, I9.seq, I9.steps, G, fun d H10 nd s10 => ⟨_, rfl, p, C, dx, _, rfl, s10 _ _ I9.hp, TX.cl, TX.exits, few4, ?_⟩⟩
    have I11 := I9.put (fs' := hfs x0 ts q1 q2 d) s10
    exact q wl nl _ ⟨dx, ts, q1, q2, d, I11.hp, I11.tt, by rw [upd_ne n1p]; exact s10 _ _ w9, by rw [upd_ne n2p]; exact s10 _ _ s9⟩ ⟨w1, w2, wm, np, nm⟩ I11.kept I11.tab
end
end KX
namespace KX
open PySem PySem.Spec PyProof.Rows L2
/-! ### _law_reached -/
/-- the passes: after each one it is closed or has grown -/
structure Pass (ss : List Stp) (x0 : Int) (U fs : List Int) (k : Nat) : Prop where
  nd : fs.Nodup
  st : x0 ∈ fs
  re : ∀ x ∈ fs, Reach ss x0 x
  inU : ∀ x ∈ fs, x ∈ U
  gr : (∀ s ∈ ss, s.a ∈ fs → s.b ∈ fs) ∨ k + 1 ≤ fs.length
theorem Pass.all {ss : List Stp} {x0 : Int} {U fs : List Int} (S : Pass ss x0 U fs 9) (hU : U.length ≤ 8) (x : Int) : x ∈ fs ↔ Reach ss x0 x := by
  refine ⟨S.re x, fun h => ?_⟩
  rcases S.gr with c | c
  · refine reach_in S.st (fun y hy z hz => ?_) h
    obtain ⟨s, hs, e1, e2⟩ := mem_nx.mp hz
    rw [← e2]
    exact c s hs (e1 ▸ hy)
  · have := nd_len S.nd S.inU
    omega
/-- within a pass that began with n found -/
structure In1 (ss : List Stp) (x0 : Int) (U fs : List Int) (k n i : Nat) : Prop where
  nd : fs.Nodup
  st : x0 ∈ fs
  re : ∀ x ∈ fs, Reach ss x0 x
  inU : ∀ x ∈ fs, x ∈ U
  ge : n ≤ fs.length
  gr : (n < fs.length) ∨ (∀ s ∈ ss.take i, s.a ∈ fs → s.b ∈ fs)
  kn : (∀ s ∈ ss, s.a ∈ fs → s.b ∈ fs) ∨ k + 1 ≤ n
theorem In1.add {ss : List Stp} {x0 : Int} {U fs : List Int} {k n i : Nat} {s : Stp} (hU : ∀ x, Reach ss x0 x → x ∈ U) (S : In1 ss x0 U fs k n i) (e : ss[i]? = some s) (ha : s.a ∈ fs) (hb : s.b ∉ fs) : In1 ss x0 U (fs ++ [s.b]) k n (i + 1) := by
  have rb : Reach ss x0 s.b := .step (S.re _ ha) (List.mem_of_getElem? e)
  have mem : ∀ {p : Int → Prop}, (∀ z ∈ fs, p z) → p s.b → ∀ z ∈ fs ++ [s.b], p z := fun {p} h1 h2 z hz => by
    rcases List.mem_append.mp hz with q | q
    · exact h1 z q
    · rw [List.mem_singleton.mp q]
      exact h2
  refine ⟨List.nodup_append.mpr ⟨S.nd, by simp, fun a ha2 b hb2 q => ?_⟩, List.mem_append_left _ S.st, mem S.re rb, mem S.inU (hU _ rb), by rw [List.length_append]; have := S.ge; omega, .inl ?_, ?_⟩
  · rw [List.mem_singleton.mp hb2] at q
    exact hb (q ▸ ha2)
  · rw [List.length_append]
    have := S.ge
    show n < fs.length + 1
    omega
  · rcases S.kn with c | c
    · exact absurd (c s (List.mem_of_getElem? e) ha) hb
    · exact .inr c
theorem In1.skip {ss : List Stp} {x0 : Int} {U fs : List Int} {k n i : Nat} {s : Stp} (S : In1 ss x0 U fs k n i) (e : ss[i]? = some s) (h : s.a ∈ fs → s.b ∈ fs) : In1 ss x0 U fs k n (i + 1) := by
  refine ⟨S.nd, S.st, S.re, S.inU, S.ge, S.gr.imp id fun c t ht => ?_, S.kn⟩
  rw [List.take_add_one, e] at ht
  rcases List.mem_append.mp ht with q | q
  · exact c t q
  · rw [List.mem_singleton.mp q]
    exact h
section
variable {P : Program} {w : World} {K : PySem.W.Frag} {mg : Str → Option Value} {base : Heap}
abbrev nLR : List Str := ["_law_start", "_law_steps", "_law_found", "_law_again", "_law_step"]
theorem sc_lr : FnScope nLR ["_law_start", "_law_steps"] (defScope s_law_reached) := ⟨rfl, rfl, rfl, by decide +kernel, rfl, by decide +kernel, by decide +kernel⟩
def spLR (K : PySem.W.Frag) : Sp := fun vs H Q _ => ∃ (x0 : Int) (a : Addr) (us : List V) (ss : List Stp) (U : List Int), vs = [.int x0, .ref a] ∧ SqL K H a us ∧ StepsAt K H us ss ∧ (∀ x, Reach ss x0 x → x ∈ U) ∧ U.length ≤ 8 ∧
  ∀ (t : Addr) (ns : List Int) (H' : Hp), H t = none → H' t = some (.tup (ns.map V.int)) → ns.Pairwise (· < ·) → (∀ x, x ∈ ns ↔ Reach ss x0 x) → Same H H' → Q (.ref t) H'
theorem inV_int (z : Int) (fs : List Int) : inV (.int z) (fs.map V.int) = decide (z ∈ fs) := by
  unfold inV
  induction fs with
  | nil => rfl
  | cons x r ih =>
    rw [List.map_cons, List.any_cons, ih, Bool.eq_iff_iff]
    show ((x == z) || _) = true ↔ _
    rw [Bool.or_eq_true, beq_iff_eq, decide_eq_true_eq, decide_eq_true_eq, List.mem_cons]
    exact ⟨fun h => h.imp (fun e => e.symm) id, fun h => h.imp (fun e => e.symm) id⟩
theorem ok_lr {f : Addr} {fd : FuncData} (F : Fun K "_law_reached" "_law_reached" s_law_reached f fd) (B : Blt mg) : FnOk P w K mg base CX0 1 f fd ["_law_start", "_law_steps"] (spLR K) := by
  refine F.ok sc_lr (fun vs H Q E h => ?_) (fun cdv A outer s H vs Q E hr h => ?_)
  · obtain ⟨x0, a, us, ss, U, rfl, _⟩ := h
    rfl
  · obtain ⟨x0, a, us, ss, U, rfl, hS, hss, hU, lU, q⟩ := h
    refine ⟨_, pss_cons (ps_set (i := 2) sc_lr.nd rfl (.inl rfl) (pe_lst (pa_cons (pv 0) pa_nil)))
      (pss_cons (ps_for PassesOwn.never rfl (pi_range1 rfl B.range (pa_cons pe_int pa_nil)) (pg_name (i := 3) sc_lr.nd rfl (.inl rfl))
        (pss_one (ps_for PassesOwn.never rfl (pi_list (pv 1)) (pg_name (i := 4) sc_lr.nd rfl (.inl rfl))
          (pss_one (ps_if (PW.pt (pw_and (pt_cmpR op_in_seq (pe_ix ix_tup (pv 4) pe_int (fun _ _ => rfl)) (pv 2) rfl) (pw_and1 (pt_cmpR op_notIn_seq (pe_ix ix_tup (pv 4) pe_int (fun _ _ => rfl)) (pv 2) rfl))))
            (pss_one (ps_expr (pe_bm PySem.F.plainAttrs_list PySem.F.slot_list_append PySem.F.type_list_append mt_append (pv 2) (pa_cons (pe_ix ix_tup (pv 4) pe_int (fun _ _ => rfl)) pa_nil)))) pss_nil)))))
      (pss_one (ps_ret (pe_tupleOf (by rfl) B.tuple (pe_callB cr_sorted (by rfl) B.sorted (by decide +kernel) (pa_cons (pv 2) pa_nil)))))), ?_⟩
    refine ⟨_, rfl, by show 1 ≤ sizeLine; decide, fun l nl => ?_⟩
    refine ⟨9, rfl, by decide, by decide, ?_⟩
    have st0 : Pass ss x0 U [x0] 0 := ⟨by simp, List.mem_singleton.mpr rfl, (fun x h => by rw [List.mem_singleton.mp h]; exact .refl), (fun x h => by rw [List.mem_singleton.mp h]; exact hU _ .refl), .inr (by show 0 + 1 ≤ 1; decide)⟩
    refine for_range (fun k σ H2 => ∃ (fs : List Int) (v3 v4 : Option V), σ = [some (.int x0), some (.ref a), some (.ref l), v3, v4] ∧ H2 l = some (.lst (fs.map V.int)) ∧ Pass ss x0 U fs k ∧ Same H H2)
      ⟨[x0], none, none, rfl, upd_same, st0, same_new nl⟩ ?_ ?_
    · rintro k σ H2 hk ⟨fs, v3, v4, rfl, hl, S, s2⟩
      refine ⟨_, rfl, a, rfl, ⟨_, s2.seq hS⟩, ?_⟩
      refine for_list (K := K) (xs := us) (fun i σ H3 => ∃ (gs : List Int) (v4 : Option V), σ = [some (.int x0), some (.ref a), some (.ref l), some (.int (0 + (k : Int))), v4] ∧ H3 l = some (.lst (gs.map V.int)) ∧ In1 ss x0 U gs k fs.length i ∧ Same H H3)
        ⟨fs, v4, rfl, hl, ⟨S.nd, S.st, S.re, S.inU, Nat.le_refl _, .inr (fun s h => by rw [List.take_zero] at h; cases h), S.gr⟩, s2⟩ (fun _ _ _ _ ⟨_, _, _, _, _, k⟩ => k.seq hS) ?_ ?_
      · rintro i x σ H3 hx ⟨gs, v4, rfl, hl3, I, s3⟩
        obtain ⟨st, t, rfl, es, ht⟩ := get_tup (hss.same s3) hx
        refine ⟨_, rfl, t, _, _, _, rfl, rfl, .inl (.inl ht), atI_nat (j := 0) rfl, _, rfl, l, _, rfl, .inl (.inl (.inl hl3)), rfl, flat_ints gs, _, rfl, ?_⟩
        show if inV (.int st.a) (gs.map V.int) = true then _ else _
        rw [inV_int]
        by_cases ha : st.a ∈ gs
        · rw [decide_eq_true ha]
          refine ⟨_, rfl, t, _, _, _, rfl, rfl, .inl (.inl ht), atI_nat (j := 2) rfl, _, rfl, l, _, rfl, .inl (.inl (.inl hl3)), rfl, flat_ints gs, _, rfl, ?_⟩
          show if (!inV (.int st.b) (gs.map V.int)) = true then _ else _
          rw [inV_int]
          by_cases hb : st.b ∈ gs
          · rw [decide_eq_true hb]
            exact ⟨gs, _, rfl, hl3, I.skip es fun _ => hb, s3⟩
          · rw [decide_eq_false hb]
            have lg := nd_len I.nd I.inU
            refine ⟨_, rfl, .inl ⟨rfl, _, .inl (.inl hl3)⟩, _, rfl, t, _, _, _, rfl, rfl, .inl (.inl ht), atI_nat (j := 2) rfl, l, _, _, rfl, rfl, hl3, small1000 (by rw [List.length_map]; omega), ?_⟩
            exact ⟨gs ++ [st.b], _, rfl, by rw [upd_same, List.map_append]; rfl, I.add hU es ha hb, fun b o e => by rw [upd_ne (ne_of_none e nl)]; exact s3 b o e⟩
        · rw [decide_eq_false ha]
          exact ⟨gs, _, rfl, hl3, I.skip es fun z => absurd z ha, s3⟩
      · rintro σ H3 ⟨gs, v4, rfl, hl3, I, s3⟩
        have I := I
        rw [hss.length] at I
        refine ⟨gs, _, _, rfl, hl3, ⟨I.nd, I.st, I.re, I.inU, ?_⟩, s3⟩
        rcases I.gr with c | c
        · rcases I.kn with d | d
          · exact .inl d
          · exact .inr (by omega)
        · rw [List.take_length] at c
          exact .inl c
    · rintro σ H2 ⟨fs, v3, v4, rfl, hl, S, s2⟩
      have lf := nd_len S.nd S.inU
      refine ⟨_, rfl, l, fs, rfl, .inl (.inl hl), by omega, fun ns p perm pw np => ?_⟩
      refine .inl ⟨p, _, rfl, .inl (.inl upd_same), fun t nt => ?_⟩
      have s3 : Same H2 (upd H2 p (.lst (ns.map V.int))) := same_new np
      exact q t ns _ (s2.free (s3.free nt)) upd_same (lt_of_le_nodup ns pw (perm.nodup_iff.mpr S.nd)) (fun x => perm.mem_iff.trans (S.all lU x)) ((s2.trans s3).trans (same_new nt))
end
end KX
namespace KX
open PySem PySem.Spec PyProof.Rows L2
/-! ### _law_same -/
mutual
def sm : PyData → Bool
  | .none | .bool _ | .int _ | .str _ => true
  | .list xs | .tuple xs => decide (xs.length ≤ 1000) && smAll xs
  | .dict _ => false
def smAll : List PyData → Bool
  | [] => true
  | x :: r => sm x && smAll r
end
theorem smAll_get : ∀ {ds : List PyData}, smAll ds = true → ∀ {i : Nat} {d : PyData}, ds[i]? = some d → sm d = true
  | [], _, i, d, h => by simp at h
  | x :: r, hs, i, d, h => by
    unfold smAll at hs
    obtain ⟨h1, h2⟩ := Bool.and_eq_true_iff.mp hs
    cases i with
    | zero =>
      simp at h
      exact h ▸ h1
    | succ i => exact smAll_get h2 (by rw [List.getElem?_cons_succ] at h; exact h)
theorem depthAll_get : ∀ {ds : List PyData} {i : Nat} {d : PyData}, ds[i]? = some d → d.depth ≤ PyData.depthAll ds
  | [], i, d, h => by simp at h
  | x :: r, i, d, h => by
    unfold PyData.depthAll
    cases i with
    | zero =>
      simp at h
      rw [← h]
      exact Nat.le_max_left _ _
    | succ i => exact Nat.le_trans (depthAll_get (by rw [List.getElem?_cons_succ] at h; exact h)) (Nat.le_max_right _ _)
theorem dpAll_get {K : PySem.W.Frag} {H : Hp} : ∀ {vs : List V} {ds : List PyData}, DpAll K H vs ds → ∀ {i : Nat} {d : PyData}, ds[i]? = some d → ∃ v, vs[i]? = some v ∧ Dp K H v d
  | _, _, .nil, i, d, h => by simp at h
  | _, _, .cons hv t, 0, d, h => by
    simp at h
    subst h
    exact ⟨_, rfl, hv⟩
  | _, _, .cons hv t, i + 1, d, h => by
    rw [List.getElem?_cons_succ] at h
    obtain ⟨v, e, q⟩ := dpAll_get t h
    exact ⟨v, by rw [List.getElem?_cons_succ]; exact e, q⟩
theorem dpAll_len {K : PySem.W.Frag} {H : Hp} : ∀ {vs : List V} {ds : List PyData}, DpAll K H vs ds → vs.length = ds.length
  | _, _, .nil => rfl
  | _, _, .cons _ t => congrArg (· + 1) (dpAll_len t)
section
variable {P : Program} {w : World} {K : PySem.W.Frag} {mg : Str → Option Value} {base : Heap}
theorem sc_same : FnScope ["_law_told", "_law_due", "_law_k"] ["_law_told", "_law_due"] (defScope s_law_same) := ⟨rfl, rfl, rfl, by decide +kernel, rfl, by decide +kernel, by decide +kernel⟩
/-- two values that are the same data -/
def spSame (K : PySem.W.Frag) : Nat → Sp
  | 0 => fun _ _ _ _ => False
  | n + 1 => fun vs H Q _ => ∃ (u v : V) (d : PyData), vs = [u, v] ∧ Dp K H u d ∧ Dp K H v d ∧ d.depth ≤ n ∧ sm d = true ∧ Q (.bl true) H
structure Blt2 (mg : Str → Option Value) : Prop where
  dict : mg "dict" = none
theorem same_step {n : Nat} {f : Addr} {fd : FuncData} (F : Fun K "_law_same" "_law_same" s_law_same f fd) (B : Blt mg) (N : Kin mg) (B2 : Blt2 mg) (bS : Binds K fd ["_law_told", "_law_due"] []) (gS : mg "_law_same" = some (.ref f)) (G : FnOk P w K mg base CX0 n f fd ["_law_told", "_law_due"] (spSame K n)) :
    FnOk P w K mg base CX0 (n + 1) f fd ["_law_told", "_law_due"] (spSame K (n + 1)) := by
  refine F.ok sc_same (fun vs H Q E h => ?_) (fun cdv A outer s H vs Q E hr h => ?_)
  · obtain ⟨u, v, d, rfl, _⟩ := h
    rfl
  · obtain ⟨u, v, d, rfl, hu, hv, hd, hs, q⟩ := h
    refine ⟨_, pss_cons (ps_if (pt_cmp (pc_isN (pv 1))) (pss_one (ps_ret (pe_cmp (pc_isN (pv 0))))) pss_nil)
      (pss_cons (ps_if (pt_val (pe_callB call_isi (by rfl) B.isinstance (by decide +kernel) (pa_cons (pv 1) (pa_cons (pe_bltn rfl N.bool (by decide +kernel) (v := .ty "bool") rfl) pa_nil))))
        (pss_one (ps_ret (pe_and (pe_callB call_isi (by rfl) B.isinstance (by decide +kernel) (pa_cons (pv 0) (pa_cons (pe_bltn rfl N.bool (by decide +kernel) (v := .ty "bool") rfl) pa_nil))) (pe_one (pe_cmpR op_eq (pv 0) (pv 1) (nomark _)))))) pss_nil)
      (pss_cons (ps_if (pt_val (pe_callB call_isi (by rfl) B.isinstance (by decide +kernel) (pa_cons (pv 1) (pa_cons (pe_bltn rfl B.int (by decide +kernel) (v := .ty "int") rfl) pa_nil))))
        (pss_one (ps_ret (pe_and (pe_callB call_isi (by rfl) B.isinstance (by decide +kernel) (pa_cons (pv 0) (pa_cons (pe_bltn rfl B.int (by decide +kernel) (v := .ty "int") rfl) pa_nil)))
          (pe_and (pe_not (pe_callB call_isi (by rfl) B.isinstance (by decide +kernel) (pa_cons (pv 0) (pa_cons (pe_bltn rfl N.bool (by decide +kernel) (v := .ty "bool") rfl) pa_nil)))) (pe_one (pe_cmpR op_eq (pv 0) (pv 1) (nomark _))))))) pss_nil)
      (pss_cons (ps_if (pt_val (pe_callB call_isi (by rfl) B.isinstance (by decide +kernel) (pa_cons (pv 1) (pa_cons (pe_bltn rfl N.str (by decide +kernel) (v := .ty "str") rfl) pa_nil))))
        (pss_one (ps_ret (pe_and (pe_callB call_isi (by rfl) B.isinstance (by decide +kernel) (pa_cons (pv 0) (pa_cons (pe_bltn rfl N.str (by decide +kernel) (v := .ty "str") rfl) pa_nil))) (pe_one (pe_cmpR op_eq (pv 0) (pv 1) (nomark _)))))) pss_nil)
      (pss_cons (ps_if (PW.pt (pw_and (pt_val (pe_callB call_isi (by rfl) B.isinstance (by decide +kernel) (pa_cons (pv 1) (pa_cons (pe_bltn rfl B.list (by decide +kernel) (v := .ty "list") rfl) pa_nil))))
        (pw_and1 (pt_not (pt_val (pe_callB call_isi (by rfl) B.isinstance (by decide +kernel) (pa_cons (pv 0) (pa_cons (pe_bltn rfl B.list (by decide +kernel) (v := .ty "list") rfl) pa_nil)))))))) (pss_one (ps_ret pe_bl)) pss_nil)
      (pss_cons (ps_if (PW.pt (pw_and (pt_val (pe_callB call_isi (by rfl) B.isinstance (by decide +kernel) (pa_cons (pv 1) (pa_cons (pe_bltn rfl B.tuple (by decide +kernel) (v := .ty "tuple") rfl) pa_nil))))
        (pw_and1 (pt_not (pt_val (pe_callB call_isi (by rfl) B.isinstance (by decide +kernel) (pa_cons (pv 0) (pa_cons (pe_bltn rfl B.tuple (by decide +kernel) (v := .ty "tuple") rfl) pa_nil)))))))) (pss_one (ps_ret pe_bl)) pss_nil)
      (pss_cons (ps_if (pt_val (pe_callB call_isi (by rfl) B.isinstance (by decide +kernel) (pa_cons (pv 1) (pa_cons (pe_bltn rfl B2.dict (by decide +kernel) (v := .ty "dict") rfl) pa_nil)))) (pss_one VL.ps_dead) pss_nil)
      (pss_cons (ps_if (pt_cmpR op_ne (pe_callB call_len_seq (by rfl) B.len PySem.boot_len (pa_cons (pv 0) pa_nil)) (pe_callB call_len_seq (by rfl) B.len PySem.boot_len (pa_cons (pv 1) pa_nil)) (nomark _)) (pss_one (ps_ret pe_bl)) pss_nil)
      (pss_cons (ps_for PassesOwn.never rfl (pi_range1 rfl B.range (pa_cons (pe_callB call_len_seq (by rfl) B.len PySem.boot_len (pa_cons (pv 1) pa_nil)) pa_nil)) (pg_name (i := 2) sc_same.nd rfl (.inl rfl))
        (pss_one (ps_if (pt_not (pt_val (pe_call G hr (by rfl) gS F.kp bS .nil pass0 (pa_cons (pe_ix ix_seq (pv 0) (pv 2) (fun _ _ => rfl)) (pa_cons (pe_ix ix_seq (pv 1) (pv 2) (fun _ _ => rfl)) pa_nil))))) (pss_one (ps_ret pe_bl)) pss_nil)))
      (pss_one (ps_ret pe_bl)))))))))), ?_⟩
    cases d with
    | none =>
      cases hu
      cases hv
      refine ⟨_, rfl, true, rfl, ?_⟩
      exact ⟨_, rfl, q⟩
    | bool b =>
      cases hu
      cases hv
      refine ⟨_, rfl, _, rfl, ?_⟩
      rw [decide_eq_false (fun z => nomatch z)]
      refine ⟨_, rfl, _, _, _, _, true, rfl, .ty "bool", .base (.bl b), kit_ty (by decide +kernel), true, rfl, ?_⟩
      refine ⟨_, rfl, _, _, _, _, true, rfl, .ty "bool", .base (.bl b), kit_ty (by decide +kernel), true, rfl, ?_⟩
      refine ⟨_, rfl, _, rfl, rfl, ?_⟩
      rw [decide_eq_true rfl]
      exact q
    | int i =>
      cases hu
      cases hv
      refine ⟨_, rfl, _, rfl, ?_⟩
      rw [decide_eq_false (fun z => nomatch z)]
      refine ⟨_, rfl, _, _, _, _, false, rfl, .ty "bool", .base (.int i), kit_ty (by decide +kernel), false, rfl, ?_⟩
      refine ⟨_, rfl, _, _, _, _, true, rfl, .ty "int", .base (.int i), kit_ty (by decide +kernel), true, rfl, ?_⟩
      refine ⟨_, rfl, _, _, _, _, true, rfl, .ty "int", .base (.int i), kit_ty (by decide +kernel), true, rfl, ?_⟩
      refine ⟨_, rfl, _, _, _, _, false, rfl, .ty "bool", .base (.int i), kit_ty (by decide +kernel), false, rfl, _, rfl, ?_⟩
      refine ⟨_, rfl, _, rfl, rfl, ?_⟩
      rw [decide_eq_true rfl]
      exact q
    | str x =>
      cases hu
      cases hv
      refine ⟨_, rfl, _, rfl, ?_⟩
      rw [decide_eq_false (fun z => nomatch z)]
      refine ⟨_, rfl, _, _, _, _, false, rfl, .ty "bool", .base (.str x), kit_ty (by decide +kernel), false, rfl, ?_⟩
      refine ⟨_, rfl, _, _, _, _, false, rfl, .ty "int", .base (.str x), kit_ty (by decide +kernel), false, rfl, ?_⟩
      refine ⟨_, rfl, _, _, _, _, true, rfl, .ty "str", .base (.str x), kit_ty (by decide +kernel), true, rfl, ?_⟩
      refine ⟨_, rfl, _, _, _, _, true, rfl, .ty "str", .base (.str x), kit_ty (by decide +kernel), true, rfl, ?_⟩
      refine ⟨_, rfl, _, rfl, rfl, ?_⟩
      rw [decide_eq_true rfl]
      exact q
    | list ds =>
      cases hu with
      | lst hx hxs =>
      rename_i a xs
      cases hv with
      | lst hy hys =>
      rename_i b ys
      refine ⟨_, rfl, _, rfl, ?_⟩
      rw [decide_eq_false (fun z => nomatch z)]
      refine ⟨_, rfl, _, _, _, _, false, rfl, .ty "bool", tyL hy, kit_ty (by decide +kernel), false, rfl, ?_⟩
      refine ⟨_, rfl, _, _, _, _, false, rfl, .ty "int", tyL hy, kit_ty (by decide +kernel), false, rfl, ?_⟩
      refine ⟨_, rfl, _, _, _, _, false, rfl, .ty "str", tyL hy, kit_ty (by decide +kernel), false, rfl, ?_⟩
      refine ⟨_, rfl, _, _, _, _, true, rfl, .ty "list", tyL hy, kit_ty (by decide +kernel), true, rfl, ?_⟩
      refine ⟨_, rfl, _, _, _, _, true, rfl, .ty "list", tyL hx, kit_ty (by decide +kernel), true, rfl, ?_⟩
      refine ⟨_, rfl, _, _, _, _, false, rfl, .ty "tuple", tyL hy, kit_ty (by decide +kernel), false, rfl, ?_⟩
      refine ⟨_, rfl, _, _, _, _, false, rfl, .ty "dict", tyL hy, kit_ty (by decide +kernel), false, rfl, ?_⟩
      have lx := dpAll_len hxs
      have ly := dpAll_len hys
      have hsm : decide (ds.length ≤ 1000) = true ∧ smAll ds = true := by
        unfold sm at hs
        exact Bool.and_eq_true_iff.mp hs
      have l1 : ds.length ≤ 1000 := of_decide_eq_true hsm.1
      have hdd : PyData.depthAll ds + 1 ≤ n := by
        unfold PyData.depth at hd
        exact hd
      refine ⟨_, rfl, a, _, rfl, (.inl hx), _, rfl, b, _, rfl, (.inl hy), rfl, _, rfl, ?_⟩
      rw [lx, ly, decide_eq_true rfl]
      refine ⟨_, rfl, b, _, rfl, (.inl hy), _, rfl, by omega, by omega, ?_⟩
      refine for_range (fun i σ H2 => ∃ v2, σ = [some (.ref a), some (.ref b), v2] ∧ H2 = H) ⟨none, rfl, rfl⟩ ?_ ?_
      · rintro i σ H2 hi ⟨v2, rfl, rfl⟩
        have hi' : i < ds.length := by
          rw [ly] at hi
          have e : ((ds.length : Nat) : Int).toNat = ds.length := Int.toNat_natCast _
          omega
        have ed : ds[i]? = some ds[i] := List.getElem?_eq_getElem hi'
        obtain ⟨u1, e1, q1⟩ := dpAll_get hxs ed
        obtain ⟨u2, e2, q2⟩ := dpAll_get hys ed
        have ei : (0 + (i : Int)) = ((i : Nat) : Int) := by omega
        rw [ei]
        obtain ⟨m, rfl⟩ : ∃ m, n = m + 1 := ⟨n - 1, by omega⟩
        have := depthAll_get ed
        refine ⟨_, rfl, _, rfl, .inl ⟨a, _, _, _, rfl, rfl, hx, atI_nat e1, _, rfl, _, rfl, .inl ⟨b, _, _, _, rfl, rfl, hy, atI_nat e2, u1, u2, ds[i], rfl, q1, q2, by omega, smAll_get hsm.2 ed, true, rfl, _, rfl, rfl⟩⟩⟩
      · rintro σ H2 ⟨v2, rfl, rfl⟩
        exact q
    | tuple ds =>
      cases hu with
      | tup hx hxs =>
      rename_i a xs
      cases hv with
      | tup hy hys =>
      rename_i b ys
      refine ⟨_, rfl, _, rfl, ?_⟩
      rw [decide_eq_false (fun z => nomatch z)]
      refine ⟨_, rfl, _, _, _, _, false, rfl, .ty "bool", tyT hy, kit_ty (by decide +kernel), false, rfl, ?_⟩
      refine ⟨_, rfl, _, _, _, _, false, rfl, .ty "int", tyT hy, kit_ty (by decide +kernel), false, rfl, ?_⟩
      refine ⟨_, rfl, _, _, _, _, false, rfl, .ty "str", tyT hy, kit_ty (by decide +kernel), false, rfl, ?_⟩
      refine ⟨_, rfl, _, _, _, _, false, rfl, .ty "list", tyT hy, kit_ty (by decide +kernel), false, rfl, ?_⟩
      refine ⟨_, rfl, _, _, _, _, true, rfl, .ty "tuple", tyT hy, kit_ty (by decide +kernel), true, rfl, ?_⟩
      refine ⟨_, rfl, _, _, _, _, true, rfl, .ty "tuple", tyT hx, kit_ty (by decide +kernel), true, rfl, ?_⟩
      refine ⟨_, rfl, _, _, _, _, false, rfl, .ty "dict", tyT hy, kit_ty (by decide +kernel), false, rfl, ?_⟩
      have lx := dpAll_len hxs
      have ly := dpAll_len hys
      have hsm : decide (ds.length ≤ 1000) = true ∧ smAll ds = true := by
        unfold sm at hs
        exact Bool.and_eq_true_iff.mp hs
      have l1 : ds.length ≤ 1000 := of_decide_eq_true hsm.1
      have hdd : PyData.depthAll ds + 1 ≤ n := by
        unfold PyData.depth at hd
        exact hd
      refine ⟨_, rfl, a, _, rfl, (.inr hx), _, rfl, b, _, rfl, (.inr hy), rfl, _, rfl, ?_⟩
      rw [lx, ly, decide_eq_true rfl]
      refine ⟨_, rfl, b, _, rfl, (.inr hy), _, rfl, by omega, by omega, ?_⟩
      refine for_range (fun i σ H2 => ∃ v2, σ = [some (.ref a), some (.ref b), v2] ∧ H2 = H) ⟨none, rfl, rfl⟩ ?_ ?_
      · rintro i σ H2 hi ⟨v2, rfl, rfl⟩
        have hi' : i < ds.length := by
          rw [ly] at hi
          have e : ((ds.length : Nat) : Int).toNat = ds.length := Int.toNat_natCast _
          omega
        have ed : ds[i]? = some ds[i] := List.getElem?_eq_getElem hi'
        obtain ⟨u1, e1, q1⟩ := dpAll_get hxs ed
        obtain ⟨u2, e2, q2⟩ := dpAll_get hys ed
        have ei : (0 + (i : Int)) = ((i : Nat) : Int) := by omega
        rw [ei]
        obtain ⟨m, rfl⟩ : ∃ m, n = m + 1 := ⟨n - 1, by omega⟩
        have := depthAll_get ed
        refine ⟨_, rfl, _, rfl, .inr (.inl ⟨a, _, _, _, rfl, rfl, hx, atI_nat e1, _, rfl, _, rfl, .inr (.inl ⟨b, _, _, _, rfl, rfl, hy, atI_nat e2, u1, u2, ds[i], rfl, q1, q2, by omega, smAll_get hsm.2 ed, true, rfl, _, rfl, rfl⟩)⟩)⟩
      · rintro σ H2 ⟨v2, rfl, rfl⟩
        exact q
    | dict kvs => cases hu
theorem ok_same {f : Addr} {fd : FuncData} (F : Fun K "_law_same" "_law_same" s_law_same f fd) (B : Blt mg) (N : Kin mg) (B2 : Blt2 mg) (bS : Binds K fd ["_law_told", "_law_due"] []) (gS : mg "_law_same" = some (.ref f)) : ∀ n, FnOk P w K mg base CX0 n f fd ["_law_told", "_law_due"] (spSame K n)
  | 0 => ⟨fun _ _ _ _ h => h.elim, fun _ _ _ _ _ _ _ _ _ _ _ _ _ h => h.elim⟩
  | n + 1 => same_step F B N B2 bS gS (ok_same F B N B2 bS gS n)
end
end KX
namespace KX
open PySem PySem.Spec PyProof.Rows L2
/-! ### sorted texts; _law_holds -/
theorem rising_pw : ∀ {x : Str} {r : List Str}, risingS x r = true → (x :: r).Pairwise (fun a b => a.cps.toList ≤ b.cps.toList)
  | x, [], _ => by simp
  | x, y :: r, h => by
    unfold risingS at h
    obtain ⟨h1, h2⟩ := Bool.and_eq_true_iff.mp h
    have le : x.cps.toList ≤ y.cps.toList := by
      have q : ¬ y.cps.toList < x.cps.toList := by
        intro z
        rw [ltCps_eq, decide_eq_true z] at h1
        cases h1
      exact List.not_lt.mp q
    have ih := rising_pw h2
    obtain ⟨i1, i2⟩ := List.pairwise_cons.mp ih
    refine List.pairwise_cons.mpr ⟨fun z hz => ?_, ih⟩
    rcases List.mem_cons.mp hz with e | hz
    · exact e ▸ le
    · exact List.le_trans le (i1 z hz)
theorem sorted_pw : ∀ {l : List Str}, sortedS l = true → l.Pairwise (fun a b => a.cps.toList ≤ b.cps.toList)
  | [], _ => List.Pairwise.nil
  | x :: r, h => rising_pw h
theorem str_ext {x y : Str} (h : x.cps.toList = y.cps.toList) : x = y := by
  cases x
  cases y
  simp only [Str.mk.injEq]
  exact Array.toList_inj.mp h
theorem sorted_one {l m : List Str} (h1 : sortedS l = true) (h2 : sortedS m = true) (n1 : l.Nodup) (n2 : m.Nodup) (e : ∀ z, z ∈ l ↔ z ∈ m) : l = m :=
  List.Perm.eq_of_pairwise (fun a b _ _ p q => str_ext (List.le_antisymm p q)) (sorted_pw h1) (sorted_pw h2) ((List.perm_ext_iff_of_nodup n1 n2).mpr e)
theorem ints_one {l m : List Int} (h1 : l.Pairwise (· < ·)) (h2 : m.Pairwise (· < ·)) (e : ∀ z, z ∈ l ↔ z ∈ m) : l = m := by
  have nd : ∀ {l : List Int}, l.Pairwise (· < ·) → l.Nodup := fun h => h.imp fun a b => by omega
  exact List.Perm.eq_of_pairwise (le := (· < ·)) (fun a b _ _ p q => by omega) h1 h2 ((List.perm_ext_iff_of_nodup (nd h1) (nd h2)).mpr e)
section
variable {x0 : Int} {ts ws sts ex : Addr}
theorem ne1 : ¬ (("start" : Str) = "exits") := by decide +kernel
theorem ne2 : ¬ (("start" : Str) = "states") := by decide +kernel
theorem ne3 : ¬ (("start" : Str) = "words") := by decide +kernel
theorem ne4 : ¬ (("start" : Str) = "steps") := by decide +kernel
theorem ne5 : ¬ (("steps" : Str) = "exits") := by decide +kernel
theorem ne6 : ¬ (("steps" : Str) = "states") := by decide +kernel
theorem ne7 : ¬ (("steps" : Str) = "words") := by decide +kernel
theorem ne8 : ¬ (("words" : Str) = "exits") := by decide +kernel
theorem ne9 : ¬ (("words" : Str) = "states") := by decide +kernel
theorem ne10 : ¬ (("states" : Str) = "exits") := by decide +kernel
theorem hfs_start : (hfs x0 ts ws sts ex).lookup ("start" : Str) = some (.int x0) := by
  unfold hfs
  rw [lookup_putF, if_neg ne1, lookup_putF, if_neg ne2, lookup_putF, if_neg ne3, lookup_putF, if_neg ne4, lookup_putF, if_pos rfl]
theorem hfs_steps : (hfs x0 ts ws sts ex).lookup ("steps" : Str) = some (.ref ts) := by
  unfold hfs
  rw [lookup_putF, if_neg ne5, lookup_putF, if_neg ne6, lookup_putF, if_neg ne7, lookup_putF, if_pos rfl]
theorem hfs_words : (hfs x0 ts ws sts ex).lookup ("words" : Str) = some (.ref ws) := by
  unfold hfs
  rw [lookup_putF, if_neg ne8, lookup_putF, if_neg ne9, lookup_putF, if_pos rfl]
theorem hfs_states : (hfs x0 ts ws sts ex).lookup ("states" : Str) = some (.ref sts) := by
  unfold hfs
  rw [lookup_putF, if_neg ne10, lookup_putF, if_pos rfl]
end
theorem dp_strs {K : PySem.W.Frag} {H : Hp} : ∀ zs : List Str, DpAll K H (zs.map V.str) (zs.map PyData.str)
  | [] => .nil
  | z :: r => .cons (.str z) (dp_strs r)
theorem dp_ints {K : PySem.W.Frag} {H : Hp} : ∀ ns : List Int, DpAll K H (ns.map V.int) (ns.map PyData.int)
  | [] => .nil
  | z :: r => .cons (.int z) (dp_ints r)
theorem sm_strs : ∀ zs : List Str, smAll (zs.map PyData.str) = true
  | [] => by
    unfold List.map smAll
    rfl
  | z :: r => by
    rw [List.map_cons]
    unfold smAll sm
    rw [sm_strs r]
    rfl
theorem sm_ints : ∀ ns : List Int, smAll (ns.map PyData.int) = true
  | [] => by
    unfold List.map smAll
    rfl
  | z :: r => by
    rw [List.map_cons]
    unfold smAll sm
    rw [sm_ints r]
    rfl
theorem sm_stps : ∀ ss : List Stp, smAll (ss.map stpD) = true
  | [] => by
    unfold List.map smAll
    rfl
  | s :: r => by
    rw [List.map_cons]
    unfold smAll
    rw [sm_stps r]
    unfold stpD sm smAll sm smAll sm smAll sm smAll
    rfl
theorem dep_strs : ∀ zs : List Str, PyData.depthAll (zs.map PyData.str) = 0
  | [] => by
    unfold List.map PyData.depthAll
    rfl
  | z :: r => by
    rw [List.map_cons]
    unfold PyData.depthAll PyData.depth
    rw [dep_strs r]
    rfl
theorem dep_ints : ∀ zs : List Int, PyData.depthAll (zs.map PyData.int) = 0
  | [] => by
    unfold List.map PyData.depthAll
    rfl
  | z :: r => by
    rw [List.map_cons]
    unfold PyData.depthAll PyData.depth
    rw [dep_ints r]
    rfl
/-- what a hand tells, as data -/
def handD (x0 : Int) (ss : List Stp) (wl : List Str) (nl : List Int) : PyData := .tuple [.int x0, .tuple (ss.map stpD), .tuple (wl.map PyData.str), .tuple (nl.map PyData.int)]
theorem handD_dep (x0 : Int) (ss : List Stp) (wl : List Str) (nl : List Int) : (handD x0 ss wl nl).depth ≤ 3 := by
  have h1 := dep_stps ss
  have h2 := dep_strs wl
  have h3 := dep_ints nl
  unfold handD PyData.depth PyData.depthAll PyData.depthAll PyData.depthAll PyData.depthAll PyData.depthAll PyData.depth
  rw [h2, h3]
  omega
theorem handD_sm {x0 : Int} {ss : List Stp} {wl : List Str} {nl : List Int} (h1 : ss.length ≤ 1000) (h2 : wl.length ≤ 1000) (h3 : nl.length ≤ 1000) : sm (handD x0 ss wl nl) = true := by
  unfold handD sm smAll smAll smAll smAll smAll sm
  rw [sm_stps, sm_strs, sm_ints, List.length_map, List.length_map, List.length_map, decide_eq_true h1, decide_eq_true h2, decide_eq_true h3]
  rfl
end KX
namespace KX
open PySem PySem.Spec PyProof.Rows L2
section
variable {P : Program} {w : World} {K : PySem.W.Frag} {mg : Str → Option Value} {base : Heap}
abbrev nHolds : List Str := ["_law_hand", "_law_start", "_law_steps", "_law_words", "_law_due", "_law_step"]
theorem sc_holds : FnScope nHolds ["_law_hand", "_law_start", "_law_steps"] (defScope s_law_holds) := ⟨rfl, rfl, rfl, by decide +kernel, rfl, by decide +kernel, by decide +kernel⟩
def spHolds (K : PySem.W.Frag) (C : Addr) : Sp := fun vs H Q _ => ∃ (p a : Addr) (x0 : Int) (us hus : List V) (ss : List Stp) (wl : List Str) (nl U : List Int), vs = [.ref p, .int x0, .ref a] ∧ HandAt K C H p x0 hus wl nl ∧ HandOf ss x0 wl nl ∧ StepsAt K H hus ss ∧ SqL K H a us ∧ StepsAt K H us ss ∧
  ss.length ≤ 24 ∧ (∀ s ∈ ss, NameOk s.w) ∧ wl.length ≤ 1000 ∧ (∀ x, Reach ss x0 x → x ∈ U) ∧ U.length ≤ 8 ∧ ∀ H', Same H H' → Q (.bl true) H'
theorem ok_holds {f fR fS C : Addr} {fd fdR fdS : FuncData} (F : Fun K "_law_holds" "_law_holds" s_law_holds f fd) (B : Blt mg) (N : Kin mg) (B2 : Blt2 mg) (TX : HandT K mg C)
    (FR : Fun K "_law_reached" "_law_reached" s_law_reached fR fdR) (bR : Binds K fdR ["_law_start", "_law_steps"] []) (gR : mg "_law_reached" = some (.ref fR))
    (FS : Fun K "_law_same" "_law_same" s_law_same fS fdS) (bS : Binds K fdS ["_law_told", "_law_due"] []) (gS : mg "_law_same" = some (.ref fS)) : FnOk P w K mg base CX0 5 f fd ["_law_hand", "_law_start", "_law_steps"] (spHolds K C) := by
  have GR : FnOk P w K mg base CX0 1 fR fdR ["_law_start", "_law_steps"] (spLR K) := ok_lr FR B
  have GS : FnOk P w K mg base CX0 4 fS fdS ["_law_told", "_law_due"] (spSame K 4) := ok_same FS B N B2 bS gS 4
  refine F.ok sc_holds (fun vs H Q E h => ?_) (fun cdv A outer s H vs Q E hr h => ?_)
  · obtain ⟨p, a, x0, us, hus, ss, wl, nl, U, rfl, _⟩ := h
    rfl
  · obtain ⟨p, a, x0, us, hus, ss, wl, nl, U, rfl, ⟨dx, ts, ws, sts, ex, hp, ht, hw, hst⟩, O, hhs, hS, hss, l24, hnm, lwl, hU, lU, q⟩ := h
    refine ⟨_, pss_cons (ps_set (i := 3) sc_holds.nd rfl (.inl rfl) (pe_tupleOf (by rfl) B.tuple (pe_callB (VT.cr_sortedT rfl) (by rfl) B.sorted (by decide +kernel) (pa_cons (pe_callTy (VT.cr_setT rfl) (by rfl) B.set (by decide +kernel) (pa_cons
        (pe_lc (own := [("_law_step", 5)]) (g := gName 5) (tt := tYes) rfl sc_holds.nd (pi_list (pv 2)) (blkOk_by (N := nHolds) (sc := defScope s_law_holds) (by decide +kernel)) (fun _ _ _ _ _ => pg_name (i := 5) sc_holds.nd rfl (.inl rfl)) (fun _ _ _ _ _ => pts_nil)
          (fun _ _ _ _ _ => pe_ix (r := rIxT K) ix_tup (pv 5) pe_int (fun _ _ => rfl))) pa_nil)) pa_nil))))
      (pss_cons (ps_set (i := 4) sc_holds.nd rfl (.inl rfl) (pe_tup (pa_cons (pv 1) (pa_cons (pe_tupleOf (by rfl) B.tuple (pv 2)) (pa_cons (pv 3) (pa_cons (pe_call GR (hr.mono (by decide)) (by rfl) gR FR.kp bR .nil pass0 (pa_cons (pv 1) (pa_cons (pv 2) pa_nil))) pa_nil))))))
      (pss_one (ps_ret (pe_call GS hr (by rfl) gS FS.kp bS .nil pass0 (pa_cons (pe_tup (pa_cons (pe_fld (pv 0) rfl) (pa_cons (pe_fld (pv 0) rfl) (pa_cons (pe_fld (pv 0) rfl) (pa_cons (pe_fld (pv 0) rfl) pa_nil))))) (pa_cons (pv 4) pa_nil)))))), ?_⟩
    have lu : us.length = ss.length := hss.length
    -- the words' list
    refine ⟨_, rfl, a, rfl, ⟨_, hS⟩, fun D hD => ?_⟩
    refine lc_list (K := K) (xs := us) (fun i H3 => H3 D = some (.lst (((ss.take i).map (·.w)).map V.str)) ∧ Same H H3) ⟨by rw [upd_same]; rfl, same_new hD⟩ (fun i H3 _ ⟨_, k⟩ => k.seq hS) ?_ ?_
    · rintro i x H3 hx ⟨hD3, s3⟩
      obtain ⟨st, t, rfl, es, htt⟩ := get_tup (hss.same s3) hx
      have hi : i < ss.length := (List.getElem?_eq_some_iff.mp es).1
      refine ⟨rfl, _, rfl, t, _, _, _, rfl, rfl, .inl (.inl htt), atI_nat (j := 1) rfl, _, hD3, small1000 (by rw [List.length_map, List.length_map, List.length_take]; omega), ?_, fun b o e => ?_⟩
      · rw [upd_same, List.take_add_one, es, List.map_append, List.map_append]
        rfl
      · rw [upd_ne (ne_of_none e hD)]
        exact s3 b o e
    rintro H3 ⟨hD3, s3⟩
    rw [lu, List.take_length] at hD3
    refine ⟨D, _, rfl, .inl (.inl hD3), by rw [List.length_map]; unfold scanBound; omega, fun E1 n1 nE ln => ?_⟩
    rw [List.length_map] at ln
    refine ⟨E1, _, n1, rfl, upd_same, by omega, fun ns pw w1 w2 w3 w4 npw => ?_⟩
    generalize hH4 : upd (upd H3 E1 (VT.SetTO _ E1 (fun j => decide (j ∈ ss.map (·.w))) n1)) pw (.lst (ns.map V.str)) = H4
    have s4 : Same H H4 := by
      rw [← hH4]
      exact (s3.trans (same_new nE)).trans (same_new npw)
    have hpw : H4 pw = some (.lst (ns.map V.str)) := by
      rw [← hH4]
      exact upd_same
    have ens : ns = wl := sorted_one w1 O.ws w2 O.wn fun z => by
      rw [w3 z, O.wm z, decide_eq_true_eq, List.mem_map]
    subst ens
    refine .inl ⟨pw, _, rfl, .inl (.inl hpw), fun t1 nt1 => ?_⟩
    have s5 := s4.trans (same_new (o := .tup (ns.map V.str)) nt1)
    have ht1 : (upd H4 t1 (.tup (ns.map V.str))) t1 = some (.tup (ns.map V.str)) := upd_same
    generalize upd H4 t1 (.tup (ns.map V.str)) = H5 at s5 ht1 ⊢
    -- due
    refine ⟨_, rfl, _, rfl, .inl ⟨a, us, rfl, s5.seq hS, fun t2 nt2 => ?_⟩⟩
    have s6 := s5.trans (same_new (o := .tup us) nt2)
    have ht2 : (upd H5 t2 (.tup us)) t2 = some (.tup us) := upd_same
    have ht1' := same_new (o := .tup us) nt2 _ _ ht1
    generalize upd H5 t2 (.tup us) = H6 at s6 ht2 ht1' ⊢
    refine ⟨_, rfl, _, rfl, _, rfl, x0, a, us, ss, U, rfl, s6.seq hS, hss.same s6, hU, lU, fun t3 nl3 H7 nt3 h3 np3 nm3 s67 => ?_⟩
    have enl : nl3 = nl := ints_one np3 O.np fun z => (nm3 z).trans (O.nm z).symm
    subst enl
    refine ⟨by show 4 ≤ sizeLine; decide, fun t4 nt4 => ?_⟩
    have s7 := s6.trans s67
    have s8 := s7.trans (same_new (o := .tup [.int x0, .ref t2, .ref t1, .ref t3]) nt4)
    have k8 : Same H7 (upd H7 t4 (.tup [.int x0, .ref t2, .ref t1, .ref t3])) := same_new nt4
    have ht4 : (upd H7 t4 (.tup [.int x0, .ref t2, .ref t1, .ref t3])) t4 = some (.tup [.int x0, .ref t2, .ref t1, .ref t3]) := upd_same
    have h1 := k8 _ _ (s67 _ _ ht1')
    have h2 := k8 _ _ (s67 _ _ ht2)
    have h3' := k8 _ _ h3
    generalize upd H7 t4 (.tup [.int x0, .ref t2, .ref t1, .ref t3]) = H8 at s8 ht4 h1 h2 h3' ⊢
    -- told
    have hp8 := s8 _ _ hp
    refine ⟨_, rfl, p, C, dx, _, _, rfl, hp8, TX.cl, TX.start, hfs_start, _, rfl, p, C, dx, _, _, rfl, hp8, TX.cl, TX.steps, hfs_steps, _, rfl, p, C, dx, _, _, rfl, hp8, TX.cl, TX.words, hfs_words, _, rfl, p, C, dx, _, _, rfl, hp8, TX.cl, TX.states, hfs_states, by show 4 ≤ sizeLine; decide, fun t5 nt5 => ?_⟩
    have k9 : Same H8 (upd H8 t5 (.tup [.int x0, .ref ts, .ref ws, .ref sts])) := same_new nt5
    have s9 := s8.trans k9
    have ht5 : (upd H8 t5 (.tup [.int x0, .ref ts, .ref ws, .ref sts])) t5 = some (.tup [.int x0, .ref ts, .ref ws, .ref sts]) := upd_same
    have lnl : nl3.length ≤ 8 := Nat.le_trans (nd_len (O.np.imp fun h => by omega) fun x hx => hU x ((O.nm x).mp hx)) lU
    refine ⟨_, rfl, _, _, handD x0 ss ns nl3, rfl, ?_, ?_, handD_dep _ _ _ _, handD_sm (by omega) lwl (by omega), q _ s9⟩
    · refine .tup (.inl (.inl ht5)) (.cons (.int _) (.cons (.tup (ht.imp (Rd.keep fun b u e _ => s9 b u e) id) (hhs.same s9).dp) (.cons (.tup (.inl (.inl (s9 _ _ hw))) (dp_strs _)) (.cons (.tup (.inl (.inl (s9 _ _ hst))) (dp_ints _)) .nil))))
    · exact .tup (.inl (.inl (k9 _ _ ht4))) (.cons (.int _) (.cons (.tup (.inl (.inl (k9 _ _ h2))) (hss.same s9).dp) (.cons (.tup (.inl (.inl (k9 _ _ h1))) (dp_strs _)) (.cons (.tup (.inl (.inl (k9 _ _ h3'))) (dp_ints _)) .nil))))
end
end KX
namespace KX
open PySem PySem.Spec PyProof.Rows L2
/-! ### the law -/
theorem tabL_sx {T p : Addr} {H H' : Hp} (n1 : ∀ ps, H p ≠ some (.tbl ps)) (n2 : ∀ c q, H p ≠ some (LamX.CodeO c q)) (k : SameX p H H') (h : TabL T H) : TabL T H' := by
  intro x hx
  obtain ⟨ps, e1, e2, e3⟩ := h x hx
  refine ⟨ps, k _ _ (fun z => n1 ps (z ▸ e1)) e1, e2, fun pos cv hc => ?_⟩
  obtain ⟨c, r1, r2⟩ := e3 pos cv hc
  exact ⟨c, r1, k _ _ (fun z => n2 _ _ (z ▸ r2)) r2⟩
theorem PoolAt.nt {H : Hp} {p : Addr} (h : PoolAt H p) : (∀ ps, H p ≠ some (.tbl ps)) ∧ ∀ c q, H p ≠ some (LamX.CodeO c q) := by
  obtain ⟨x, y, z, e⟩ := h
  refine ⟨fun ps q => ?_, fun c r q => ?_⟩
  · rw [e] at q
    cases q
  · rw [e] at q
    unfold LamX.CodeO at q
    cases q
/-- what the law keeps while it draws from the pool at p -/
structure Base0 (H0 : Hp) (p : Addr) (H : Hp) : Prop where
  s : Same H0 H
  np : H0 p = none
  pool : PoolAt H p
theorem PoolAt.same {H H' : Hp} {p : Addr} (k : Same H H') (h : PoolAt H p) : PoolAt H' p := let ⟨x, y, z, e⟩ := h; ⟨x, y, z, k _ _ e⟩
theorem Base0.sx {H0 : Hp} {p : Addr} {H H' : Hp} (h : Base0 H0 p H) (k : SameX p H H') (hp : PoolAt H' p) : Base0 H0 p H' := ⟨fun b o e => k _ _ (ne_of_none e h.np) (h.s _ _ e), h.np, hp⟩
theorem Base0.draw {H0 : Hp} {p : Addr} {H : Hp} (h : Base0 H0 p H) (x y z : Int) : Base0 H0 p (upd H p (.lst [.int x, .int y, .int z])) := h.sx SameX.at ⟨x, y, z, upd_same⟩
theorem Base0.same {H0 : Hp} {p : Addr} {H H' : Hp} (h : Base0 H0 p H) (k : Same H H') : Base0 H0 p H' := h.sx (SameX.of k) (h.pool.same k)
/-- a list that stands, but for the pool's place -/
structure LstAt (H : Hp) (l p : Addr) (xs : List V) : Prop where
  at_ : H l = some (.lst xs)
  ne : l ≠ p
theorem LstAt.draw {H : Hp} {l p : Addr} {xs : List V} (h : LstAt H l p xs) (o : HO) : LstAt (upd H p o) l p xs := ⟨by rw [upd_ne h.ne]; exact h.at_, h.ne⟩
theorem LstAt.same {H H' : Hp} {l p : Addr} {xs : List V} (h : LstAt H l p xs) (k : Same H H') : LstAt H' l p xs := ⟨k _ _ h.at_, h.ne⟩
theorem LstAt.sx {H H' : Hp} {l p : Addr} {xs : List V} (h : LstAt H l p xs) (k : SameX p H H') : LstAt H' l p xs := ⟨k _ _ h.ne h.at_, h.ne⟩
section
variable {P : Program} {w : World} {K : PySem.W.Frag} {mg : Str → Option Value} {base : Heap}
abbrev nLaw : List Str := ["_law_script", "_law_pool_here", "_law_first", "_law_gap", "_law_states", "_law_start", "_law_many", "_law_names_here", "_law_steps", "_law_handed", "_law_hand", "_law_other", "_law_k"]
theorem sc_law : FnScope nLaw ["_law_script"] (defScope s_law) := ⟨rfl, rfl, rfl, by decide +kernel, rfl, by decide +kernel, by decide +kernel⟩
def spLaw (K : PySem.W.Frag) (T : Addr) : Sp := fun vs H Q _ => ∃ (a : Addr) (ns : List Int), vs = [.ref a] ∧ SqL K H a (ns.map V.int) ∧ TabL T H ∧ ∀ H', Q (.bl true) H'
/-- the law's helpers -/
structure LawD (K : PySem.W.Frag) (mg : Str → Option Value) (fC fP fD fM fN fY fR fS fH : Addr) (fdC fdP fdD fdM fdN fdY fdR fdS fdH : FuncData) : Prop where
  FC : Fun K "_law_cell" "_law_cell" s_law_cell fC fdC
  bC : Binds K fdC ["_law_script", "_law_k"] []
  gC : mg "_law_cell" = some (.ref fC)
  FP : Fun K "_law_pool" "_law_pool" s_law_pool fP fdP
  bP : Binds K fdP ["_law_cell_here"] []
  gP : mg "_law_pool" = some (.ref fP)
  FD : Fun K "_law_draw" "_law_draw" s_law_draw fD fdD
  bD : Binds K fdD ["_law_pool_here", "_law_many"] []
  gD : mg "_law_draw" = some (.ref fD)
  FM : Fun K "_law_name" "_law_name" s_law_name fM fdM
  bM : Binds K fdM ["_law_number"] []
  gM : mg "_law_name" = some (.ref fM)
  FN : Fun K "_law_names" "_law_names" s_law_names fN fdN
  bN : Binds K fdN ["_law_pool_here", "_law_many"] []
  gN : mg "_law_names" = some (.ref fN)
  FY : Fun K "_law_many_steps" "_law_many_steps" s_law_many_steps fY fdY
  bY : Binds K fdY ["_law_pool_here", "_law_names_here", "_law_states", "_law_many"] []
  gY : mg "_law_many_steps" = some (.ref fY)
  FR : Fun K "_law_reached" "_law_reached" s_law_reached fR fdR
  bR : Binds K fdR ["_law_start", "_law_steps"] []
  gR : mg "_law_reached" = some (.ref fR)
  FS : Fun K "_law_same" "_law_same" s_law_same fS fdS
  bS : Binds K fdS ["_law_told", "_law_due"] []
  gS : mg "_law_same" = some (.ref fS)
  FH : Fun K "_law_holds" "_law_holds" s_law_holds fH fdH
  bH : Binds K fdH ["_law_hand", "_law_start", "_law_steps"] []
  gH : mg "_law_holds" = some (.ref fH)
end
end KX
namespace KX
open PySem PySem.Spec PyProof.Rows L2

theorem hu64b {A : Around} {k : Nat} (hr : Room k A) : A.units + 64 < cLine := by
  have := hr.un
  omega
/-- a start and steps over these states and names -/
structure Drawn (x0 : Int) (ss : List Stp) (sts : List Int) (zs : List Str) : Prop where
  st : x0 ∈ sts ∨ (98 ≤ x0 ∧ x0 ≤ 99)
  steps : Steps ss sts zs
  ne : ss ≠ []
  l24 : ss.length ≤ 24
  rng : ∀ x ∈ sts, 0 ≤ x ∧ x < 98
  ls : sts.length ≤ 8
  zok : ∀ z ∈ zs, NameOk z
  lz : zs.length ≤ 8
theorem Drawn.good {x0 : Int} {ss : List Stp} {sts : List Int} {zs : List Str} (D : Drawn x0 ss sts zs) : Good ss :=
  ⟨fun s hs => ⟨(D.rng _ (D.steps.sa s hs)).1, by have := (D.rng _ (D.steps.sa s hs)).2; omega, D.zok _ (D.steps.sw s hs), (D.rng _ (D.steps.sb s hs)).1, by have := (D.rng _ (D.steps.sb s hs)).2; omega⟩, D.steps.nd, D.steps.lv, List.length_pos_iff.mpr D.ne, D.l24⟩
theorem Drawn.reach {x0 : Int} {ss : List Stp} {sts : List Int} {zs : List Str} (D : Drawn x0 ss sts zs) : ∃ U : List Int, (∀ x, Reach ss x0 x → x ∈ U) ∧ U.length ≤ 8 := by
  rcases D.st with h | h
  · refine ⟨sts, fun x r => ?_, D.ls⟩
    cases r with
    | refl => exact h
    | step _ hs => exact D.steps.sb _ hs
  · refine ⟨[x0], fun x r => ?_, by show 1 ≤ 8; decide⟩
    induction r with
    | refl => exact List.mem_singleton.mpr rfl
    | step r hs ih =>
      have e := List.mem_singleton.mp ih
      have q := (D.rng _ (D.steps.sa _ hs)).2
      rw [e] at q
      omega
theorem Drawn.b0 {x0 : Int} {ss : List Stp} {sts : List Int} {zs : List Str} (D : Drawn x0 ss sts zs) : 0 ≤ x0 ∧ x0 ≤ 99 := by
  rcases D.st with h | h
  · have := D.rng _ h
    omega
  · omega
theorem Drawn.from {x0 : Int} {s : Stp} {ss : List Stp} {sts : List Int} {zs : List Str} (D : Drawn x0 ss sts zs) (hs : s ∈ ss) : Drawn s.b ss sts zs := ⟨.inl (D.steps.sb s hs), D.steps, D.ne, D.l24, D.rng, D.ls, D.zok, D.lz⟩
theorem HandAt.kept {K : PySem.W.Frag} {C p p2 C2 dx2 : Addr} {fs : List (Str × V)} {H H' : Hp} {x0 : Int} {us : List V} {wl : List Str} {nl : List Int} (ne : p ≠ p2) (hp2 : H p2 = some (.ins C2 dx2 fs)) (k : Kept p2 H H') (h : HandAt K C H p x0 us wl nl) : HandAt K C H' p x0 us wl nl := by
  obtain ⟨dx, ts, ws, sts, ex, e1, e2, e3, e4⟩ := h.ob
  have nt : ∀ {b : Addr} {xs : List V}, H b = some (.tup xs) → b ≠ p2 := fun {b xs} e z => by
    rw [z, hp2] at e
    cases e
  exact ⟨dx, ts, ws, sts, ex, k _ _ ne e1 (fun ps z => nomatch z), kept_tup hp2 k e2, k _ _ (nt e3) e3 (fun ps z => nomatch z), k _ _ (nt e4) e4 (fun ps z => nomatch z)⟩
theorem HandAt.same {K : PySem.W.Frag} {C p : Addr} {H H' : Hp} {x0 : Int} {us : List V} {wl : List Str} {nl : List Int} (k : Same H H') (h : HandAt K C H p x0 us wl nl) : HandAt K C H' p x0 us wl nl := by
  obtain ⟨dx, ts, ws, sts, ex, e1, e2, e3, e4⟩ := h.ob
  exact ⟨dx, ts, ws, sts, ex, k _ _ e1, e2.imp (Rd.keep fun b u e _ => k b u e) id, k _ _ e3, k _ _ e4⟩
/-- but for a list at l -/
theorem HandAt.sx {K : PySem.W.Frag} {C p l : Addr} {H H' : Hp} {x0 : Int} {us ys : List V} {wl : List Str} {nl : List Int} (hl : H l = some (.lst ys)) (k : SameX l H H') (h : HandAt K C H p x0 us wl nl) : HandAt K C H' p x0 us wl nl := by
  obtain ⟨dx, ts, ws, sts, ex, e1, e2, e3, e4⟩ := h.ob
  have nt : ∀ {b : Addr} {o : HO}, H b = some o → (∀ xs, o ≠ .lst xs) → b ≠ l := fun {b o} e n z => by
    rw [z, hl] at e
    exact n _ (Option.some.inj e).symm
  exact ⟨dx, ts, ws, sts, ex, k _ _ (nt e1 fun xs z => nomatch z) e1, SqT.sameX (NoTup.lst hl) k e2, k _ _ (nt e3 fun xs z => nomatch z) e3, k _ _ (nt e4 fun xs z => nomatch z) e4⟩
theorem tabL_lst {T l : Addr} {H H' : Hp} {ys : List V} (hl : H l = some (.lst ys)) (k : SameX l H H') (h : TabL T H) : TabL T H' :=
  tabL_sx (fun ps z => by rw [hl] at z; cases z) (fun c q z => by rw [hl] at z; unfold LamX.CodeO at z; cases z) k h
theorem eqvAll_stps : ∀ ss : List Stp, PyData.eqvAll (ss.map stpD) (ss.map stpD) = true
  | [] => by
    unfold List.map PyData.eqvAll
    rfl
  | s :: r => by
    rw [List.map_cons]
    unfold PyData.eqvAll
    rw [eqvAll_stps r, eqv_stp, decide_eq_true rfl]
    rfl
section
variable {P : Program} {w : World} {K : PySem.W.Frag} {mg : Str → Option Value} {base : Heap}
theorem ok_law {f C fI fW fS fN fR fT fK fA fG fE c T gC gP gD gM gN gY gR gS gH : Addr} {fd fdI fdW fdS fdN fdR fdT fdK fdA fdG fdE hdC hdP hdD hdM hdN hdY hdR hdS hdH : FuncData} (F : Fun K "law" "law" s_law f fd) (B : Blt mg) (N : Kin mg) (B2 : Blt2 mg) (L : Lim mg) (TX : HandT K mg C)
    (D : HandD K mg base fW fS fN fR fT fK fA fG fE c T fdW fdS fdN fdR fdT fdK fdA fdG fdE) (M : Mk K C fI) (FI : Fun K "__init__" "Hand.__init__" s_Hand_init fI fdI) (bI : Binds K fdI ["self", "start", "steps"] []) (mC : mg "Hand" = some (.ref C))
    (LD : LawD K mg gC gP gD gM gN gY gR gS gH hdC hdP hdD hdM hdN hdY hdR hdS hdH) : FnOk P w K mg base CX0 7 f fd ["_law_script"] (spLaw K T) := by
  have GC : FnOk P w K mg base CX0 1 gC hdC ["_law_script", "_law_k"] (spCellV K) := ok_cell LD.FC B
  have GP : FnOk P w K mg base CX0 1 gP hdP ["_law_cell_here"] spPool := ok_pool LD.FP B
  have GD : FnOk P w K mg base CX0 1 gD hdD ["_law_pool_here", "_law_many"] spDraw := ok_draw LD.FD B
  have GN : FnOk P w K mg base CX0 2 gN hdN ["_law_pool_here", "_law_many"] spNames := ok_names LD.FN B LD.FD LD.bD LD.gD LD.FM LD.bM LD.gM
  have GY : FnOk P w K mg base CX0 2 gY hdY ["_law_pool_here", "_law_names_here", "_law_states", "_law_many"] (spMany K) := ok_many LD.FY B LD.FD LD.bD LD.gD
  have GH : FnOk P w K mg base CX0 5 gH hdH ["_law_hand", "_law_start", "_law_steps"] (spHolds K C) := ok_holds LD.FH B N B2 TX LD.FR LD.bR LD.gR LD.FS LD.bS LD.gS
  have GI : FnOk P w K mg base CX0 5 fI fdI ["self", "start", "steps"] (spHand K C T) := ok_init FI B N L TX D
  refine F.ok sc_law (fun vs H Q E h => ?_) (fun cdv A outer s H vs Q E hr h => ?_)
  · obtain ⟨a, ns, rfl, _⟩ := h
    rfl
  · obtain ⟨a, ns, rfl, hS, hT, q⟩ := h
    have hu := hr.un
    have r1 : Room 1 _ := hr.mono (by decide)
    refine ⟨_, pss_cons (ps_set (i := 1) sc_law.nd rfl (.inl rfl) (pe_call GP r1 (by rfl) LD.gP LD.FP.kp LD.bP .nil pass0 (pa_cons (pe_call GC r1 (by rfl) LD.gC LD.FC.kp LD.bC .nil pass0 (pa_cons (pv 0) (pa_cons pe_int pa_nil))) pa_nil)))
      (pss_cons (ps_set (i := 2) sc_law.nd rfl (.inr rfl) (pe_call GD r1 (by rfl) LD.gD LD.FD.kp LD.bD .nil pass0 (pa_cons (pv 1) (pa_cons pe_int pa_nil))))
      (pss_cons (ps_set (i := 3) sc_law.nd rfl (.inr rfl) (pe_ix ix_list (pe_lst (pa_cons pe_int (pa_cons pe_int (pa_cons pe_int (pa_cons pe_int (pa_cons pe_int (pa_cons pe_int (pa_cons pe_int pa_nil)))))))) (pe_call GD r1 (by rfl) LD.gD LD.FD.kp LD.bD .nil pass0 (pa_cons (pv 1) (pa_cons pe_int pa_nil))) (fun _ _ => rfl)))
      (pss_cons (ps_setLc (i := 4) (own := [("_law_k", 12)]) (g := gName 12) (tt := tYes) rfl sc_law.nd rfl rfl (sw_true rfl rfl rfl (by decide +kernel)) (pi_range1 rfl B.range (pa_cons (pe_op op_add pe_int (pe_call GD r1 (by rfl) LD.gD LD.FD.kp LD.bD .nil pass0 (pa_cons (pv 1) (pa_cons pe_int pa_nil)))) pa_nil)) (blkOk_by (N := nLaw) (sc := defScope s_law) (by decide +kernel))
        (fun _ _ _ _ _ => pg_name (i := 12) sc_law.nd rfl (.inl rfl)) (fun _ _ _ _ _ => pts_nil) (fun _ _ _ _ _ => pe_op op_mod (pe_callTy call_int1 (by rfl) B.int (by decide +kernel) (pa_cons (pe_op op_add (pv 2) (pe_op op_mul (pv 3) (pv 12))) pa_nil)) pe_int))
      (pss_cons (ps_set (i := 5) sc_law.nd rfl (.inl rfl) (pe_ix ix_list (pv 4) (pe_call GD r1 (by rfl) LD.gD LD.FD.kp LD.bD .nil pass0 (pa_cons (pv 1) (pa_cons (pe_callB call_len_seq (by rfl) B.len PySem.boot_len (pa_cons (pv 4) pa_nil)) pa_nil))) (fun _ _ => rfl)))
      (C8.pss_cut (ps_if (pt_cmpR op_eq (pe_call GD r1 (by rfl) LD.gD LD.FD.kp LD.bD .nil pass0 (pa_cons (pv 1) (pa_cons pe_int pa_nil))) pe_int (nomark _)) (pss_one (ps_set (i := 5) sc_law.nd rfl (.inl rfl) (pe_op op_add pe_int (pe_call GD r1 (by rfl) LD.gD LD.FD.kp LD.bD .nil pass0 (pa_cons (pv 1) (pa_cons pe_int pa_nil)))))) pss_nil)
      (pss_cons (ps_set (i := 6) sc_law.nd rfl (.inl rfl) (pe_op op_add pe_int (pe_call GD r1 (by rfl) LD.gD LD.FD.kp LD.bD .nil pass0 (pa_cons (pv 1) (pa_cons pe_int pa_nil)))))
      (pss_cons (ps_set (i := 7) sc_law.nd rfl (.inl rfl) (pe_call GN (hr.mono (by decide)) (by rfl) LD.gN LD.FN.kp LD.bN .nil pass0 (pa_cons (pv 1) (pa_cons (pe_op op_add pe_int (pe_call GD r1 (by rfl) LD.gD LD.FD.kp LD.bD .nil pass0 (pa_cons (pv 1) (pa_cons pe_int pa_nil)))) pa_nil))))
      (pss_cons (ps_set (i := 8) sc_law.nd rfl (.inl rfl) (pe_call GY (hr.mono (by decide)) (by rfl) LD.gY LD.FY.kp LD.bY .nil pass0 (pa_cons (pe_call GP r1 (by rfl) LD.gP LD.FP.kp LD.bP .nil pass0 (pa_cons (pe_call GC r1 (by rfl) LD.gC LD.FC.kp LD.bC .nil pass0 (pa_cons (pv 0) (pa_cons pe_int pa_nil))) pa_nil)) (pa_cons (pv 7) (pa_cons (pv 4) (pa_cons (pv 6) pa_nil))))))
      (pss_cons (ps_set (i := 9) sc_law.nd rfl (.inl rfl) (pe_callTy call_list_of (by rfl) B.list (by decide +kernel) (pa_cons (pv 8) pa_nil)))
      (pss_cons (ps_set (i := 10) sc_law.nd rfl (.inl rfl) (pe_make M GI (hr.mono (by decide)) (by rfl) mC bI .nil pass0 (pa_cons (pv 5) (pa_cons (pv 9) pa_nil))))
      (pss_cons (ps_if (PW.pt (pw_or (pt_cmpR (op_neD (hu64b hr)) (pv 9) (pv 8) (nomark _)) (pw_or1 (pt_not (pt_val (pe_call GH (hr.mono (by decide)) (by rfl) LD.gH LD.FH.kp LD.bH .nil pass0 (pa_cons (pv 10) (pa_cons (pv 5) (pa_cons (pv 8) pa_nil))))))))) (pss_one (ps_ret pe_bl)) pss_nil)
      (pss_cons (ps_expr (pe_bm0 PySem.F.plainAttrs_list PySem.F.slot_list_clear PySem.F.type_list_clear mt_clear (pv 9)))
      (pss_cons (ps_expr (pe_bm PySem.F.plainAttrs_list PySem.F.slot_list_append PySem.F.type_list_append mt_append (pv 9) (pa_cons (pe_tup (pa_cons pe_int (pa_cons pe_str (pa_cons pe_int pa_nil)))) pa_nil)))
      (pss_cons (ps_set (i := 11) sc_law.nd rfl (.inl rfl) (pe_make M GI (hr.mono (by decide)) (by rfl) mC bI .nil pass0 (pa_cons (pe_ix ix_tup (pe_ix ix_list (pv 8) pe_int (fun _ _ => rfl)) pe_int (fun _ _ => rfl)) (pa_cons (pe_tupleOf (by rfl) B.tuple (pv 8)) pa_nil))))
      (pss_one (ps_ret (pe_and (pe_call GH (hr.mono (by decide)) (by rfl) LD.gH LD.FH.kp LD.bH .nil pass0 (pa_cons (pv 11) (pa_cons (pe_ix ix_tup (pe_ix ix_list (pv 8) pe_int (fun _ _ => rfl)) pe_int (fun _ _ => rfl)) (pa_cons (pv 8) pa_nil))))
        (pe_one (pe_call GH (hr.mono (by decide)) (by rfl) LD.gH LD.FH.kp LD.bH .nil pass0 (pa_cons (pv 10) (pa_cons (pv 5) (pa_cons (pv 8) pa_nil)))))))))))))))))))))), ?_⟩
    -- the pool
    refine ⟨_, rfl, a, ns, 0, rfl, hS, fun z => ⟨z, rfl, fun p x y zz np => ?_⟩⟩
    have b1 : Base0 H p (upd H p (.lst [.int x, .int y, .int zz])) := ⟨same_new np, np, ⟨x, y, zz, upd_same⟩⟩
    generalize upd H p (.lst [.int x, .int y, .int zz]) = H1 at b1 ⊢
    -- first
    refine ⟨_, rfl, p, 98, rfl, b1.pool, by decide, by decide, fun d1 x y z _ _ => ?_⟩
    have b2 := b1.draw x y z
    generalize upd H1 p (.lst [.int x, .int y, .int z]) = H2 at b2 ⊢
    -- gap
    refine ⟨by show 7 ≤ sizeLine; decide, fun g ng => ⟨_, rfl, p, 7, rfl, (b2.same (same_new ng)).pool, by decide, by decide, fun d2 x y z d20 d21 => ?_⟩⟩
    have hg : LstAt (upd H2 g (.lst (([1, 3, 7, 9, 11, 13, 33] : List Int).map V.int))) g p (([1, 3, 7, 9, 11, 13, 33] : List Int).map V.int) := ⟨upd_same, fun z => by
      obtain ⟨_, _, _, e⟩ := b2.pool
      rw [z, e] at ng
      cases ng⟩
    have b3 := (b2.same (same_new (o := .lst (([1, 3, 7, 9, 11, 13, 33] : List Int).map V.int)) ng)).draw x y z
    obtain ⟨gz, eg, _⟩ := at_mod (xs := ([1, 3, 7, 9, 11, 13, 33] : List Int)) V.int d20 d21
    refine ⟨g, _, _, .int gz, rfl, rfl, .inl (.inl (hg.draw (.lst [.int x, .int y, .int z])).at_), eg, ?_⟩
    replace hg := trivial
    have e3 : (upd (upd H2 g (.lst [.int 1, .int 3, .int 7, .int 9, .int 11, .int 13, .int 33])) p (.lst [.int x, .int y, .int z])) = upd (upd H2 g (.lst (([1, 3, 7, 9, 11, 13, 33] : List Int).map V.int))) p (.lst [.int x, .int y, .int z]) := rfl
    rw [e3]
    generalize upd (upd H2 g (.lst (([1, 3, 7, 9, 11, 13, 33] : List Int).map V.int))) p (.lst [.int x, .int y, .int z]) = H3 at b3 ⊢
    -- states
    refine ⟨_, rfl, p, 8, rfl, b3.pool, by decide, by decide, fun d3 x y z d30 d31 => ⟨_, _, rfl, rfl, _, rfl, by omega, by omega, fun D0 nD => ?_⟩⟩
    have b4 := b3.draw x y z
    generalize upd H3 p (.lst [.int x, .int y, .int z]) = H4 at b4 nD ⊢
    have nDp : D0 ≠ p := fun z => by
      obtain ⟨_, _, _, e⟩ := b4.pool
      rw [z, e] at nD
      cases nD
    refine lc_range (fun i H' => ∃ sts : List Int, H' D0 = some (.lst (sts.map V.int)) ∧ sts.length = i ∧ (∀ x ∈ sts, 0 ≤ x ∧ x < 98) ∧ Same H4 H') ⟨[], upd_same, rfl, (fun x h => by cases h), same_new nD⟩ ?_ ?_
    · rintro i H' hi ⟨sts, hD, ls, hr', s'⟩
      have hi8 : i < 8 := by omega
      refine ⟨rfl, _, rfl, _, rfl, _, rfl, _, _, rfl, rfl, .inr ⟨by omega, by omega⟩, _, _, rfl, rfl, .inl ⟨_, rfl, _, _, rfl, rfl, by show (0 : Int) < 98; decide, _, hD, small1000 (by rw [List.length_map]; omega), ?_⟩⟩
      refine ⟨sts ++ [_], by rw [upd_same, List.map_append]; rfl, by rw [List.length_append, ls]; rfl, fun x hx => ?_, fun b o e => ?_⟩
      · rcases List.mem_append.mp hx with h | h
        · exact hr' x h
        · rw [List.mem_singleton.mp h]
          exact ⟨Int.emod_nonneg _ (by decide), Int.emod_lt_of_pos _ (by decide)⟩
      · rw [upd_ne (ne_of_none e nD)]
        exact s' b o e
    rintro H5 ⟨sts, hD, ls, hrng, s5⟩
    have b5 := b4.same s5
    have hD5 : LstAt H5 D0 p (sts.map V.int) := ⟨hD, nDp⟩
    have ls1 : 1 ≤ sts.length := by omega
    have ls8 : sts.length ≤ 8 := by omega
    -- start
    refine ⟨_, rfl, _, rfl, _, rfl, D0, _, rfl, .inl (.inl (.inl hD5.at_)), p, _, rfl, b5.pool, by rw [List.length_map]; omega, by rw [List.length_map]; omega, fun d4 x y z d40 d41 => ?_⟩
    rw [List.length_map] at d41
    obtain ⟨x0, ex0, hx0⟩ := at_mod (xs := sts) V.int d40 d41
    have b6 := b5.draw x y z
    have hD6 := hD5.draw (.lst [.int x, .int y, .int z])
    refine ⟨D0, _, _, _, rfl, rfl, .inl (.inl hD6.at_), ex0, ?_⟩
    generalize upd H5 p (.lst [.int x, .int y, .int z]) = H6 at b6 hD6 ⊢
    refine ⟨fun σ H' => ∃ x0 : Int, σ = [some (.ref a), some (.ref p), some (.int d1), some (.int gz), some (.ref D0), some (.int x0), none, none, none, none, none, none, none] ∧ (x0 ∈ sts ∨ (98 ≤ x0 ∧ x0 ≤ 99)) ∧ Base0 H p H' ∧ LstAt H' D0 p (sts.map V.int), ?_, ?_⟩
    · refine ⟨_, rfl, p, 6, rfl, b6.pool, by decide, by decide, fun d5 x y z _ _ => ?_⟩
      have b7 := b6.draw x y z
      have hD7 := hD6.draw (.lst [.int x, .int y, .int z])
      refine ⟨rfl, _, rfl, ite2 (fun e => ?_) (fun e => ?_)⟩
      · refine ⟨_, rfl, p, 2, rfl, b7.pool, by decide, by decide, fun d6 x2 y2 z2 d60 d61 => ⟨_, _, rfl, rfl, ?_⟩⟩
        exact ⟨98 + d6, rfl, .inr ⟨by omega, by omega⟩, b7.draw x2 y2 z2, hD7.draw _⟩
      · exact ⟨x0, rfl, .inl hx0, b7, hD7⟩
    rintro σ H7 ⟨x0, rfl, hst, b7, hD7⟩
    -- many
    refine ⟨_, rfl, p, 24, rfl, b7.pool, by decide, by decide, fun d7 x y z d70 d71 => ⟨_, _, rfl, rfl, ?_⟩⟩
    have b8 := b7.draw x y z
    have hD8 := hD7.draw (.lst [.int x, .int y, .int z])
    generalize upd H7 p (.lst [.int x, .int y, .int z]) = H8 at b8 hD8 ⊢
    obtain ⟨n7, rfl⟩ := Int.eq_ofNat_of_zero_le d70
    have em : (1 + (n7 : Int)) = ((1 + n7 : Nat) : Int) := by omega
    -- names
    refine ⟨_, rfl, _, rfl, p, 8, rfl, b8.pool, by decide, by decide, fun d8 x y z d80 d81 => ⟨_, _, rfl, rfl, ?_⟩⟩
    have b9 := b8.draw x y z
    have hD9 := hD8.draw (.lst [.int x, .int y, .int z])
    generalize upd H8 p (.lst [.int x, .int y, .int z]) = H9 at b9 hD9 ⊢
    obtain ⟨n8, rfl⟩ := Int.eq_ofNat_of_zero_le d80
    have en : (1 + (n8 : Int)) = ((1 + n8 : Nat) : Int) := by omega
    refine ⟨p, 1 + n8, congrArg (fun z => [V.ref p, V.int z]) en, b9.pool, by omega, fun lN zs H10 nlN hlN hzs lz pool10 s10 => ?_⟩
    have b10 := b9.sx s10 pool10
    have hD10 := hD9.sx s10
    have nlp : lN ≠ p := fun z => by
      obtain ⟨_, _, _, e⟩ := b9.pool
      rw [z, e] at nlN
      cases nlN
    -- steps
    refine ⟨_, rfl, a, ns, 1, rfl, b10.s.seq hS, fun z => ⟨z, rfl, fun p2 x y zz np2 => ?_⟩⟩
    have s11 : Same H10 (upd H10 p2 (.lst [.int x, .int y, .int zz])) := same_new np2
    have pool11 : PoolAt (upd H10 p2 (.lst [.int x, .int y, .int zz])) p2 := ⟨x, y, zz, upd_same⟩
    have hD11 := s11 _ _ hD10.at_
    have hN11 := s11 _ _ hlN
    have s011 := b10.s.trans s11
    have np20 : H p2 = none := b10.s.free np2
    have nD2 : D0 ≠ p2 := ne_of_none hD10.at_ np2
    have nN2 : lN ≠ p2 := ne_of_none hlN np2
    generalize upd H10 p2 (.lst [.int x, .int y, .int zz]) = H11 at s11 pool11 hD11 hN11 s011 ⊢
    have zl : 0 < zs.length := by omega
    refine ⟨_, rfl, _, rfl, _, rfl, p2, lN, D0, 1 + n7, zs, sts, congrArg (fun z => [V.ref p2, V.ref lN, V.ref D0, V.int z]) em, pool11, nN2, nD2, .inl (.inl hN11), .inl (.inl hD11), List.length_pos_iff.mp zl, List.length_pos_iff.mp (by omega), by omega, by omega, hzs, by omega, by omega, fun l us ss H12 nl hl hss S hne hlen pool12 s12 => ?_⟩
    have DR : Drawn x0 ss sts zs := ⟨hst, S, hne, by omega, hrng, ls8, hzs, by omega⟩
    have s012 : Same H H12 := fun b o e => s12 _ _ (ne_of_none e np20) (s011 _ _ e)
    have hT12 := tabL_same s012 hT
    obtain ⟨U, hU, lU⟩ := DR.reach
    have G := DR.good
    have lu : us.length = ss.length := hss.length
    have l24 := DR.l24
    -- handed = list(steps)
    refine ⟨_, rfl, l, us, rfl, .inl (.inl (.inl hl)), fun h nh => ?_⟩
    have s13 : Same H12 (upd H12 h (.lst us)) := same_new nh
    have hh13 : (upd H12 h (.lst us)) h = some (.lst us) := upd_same
    have nhl : l ≠ h := ne_of_none hl nh
    have hl13 := s13 _ _ hl
    have hss13 := hss.same s13
    have hT13 := tabL_same s13 hT12
    generalize upd H12 h (.lst us) = H13 at s13 hh13 hl13 hss13 hT13 ⊢
    -- hand = Hand(start, handed)
    refine ⟨_, rfl, _, rfl, fun p3 dx nx ndx ned => ?_⟩
    have s14 : Same H13 (upd (upd H13 dx (.own p3)) p3 (.ins C dx [])) := (same_new ndx).trans (same_new (by rw [upd_ne ned.symm]; exact nx))
    have b0 := DR.b0
    refine ⟨p3, dx, h, x0, us, ss, U, zs, rfl, upd_same, tabL_same s14 hT13, .inl (.inl (.inl (s14 _ _ hh13))), hss13.same s14, G, b0.1, b0.2, S.sw, DR.lz, hU, lU, fun wl nl2 H15 HA HO kept tab => ⟨rfl, ?_⟩⟩
    have n3l : l ≠ p3 := ne_of_none hl13 nx
    have n3h : h ≠ p3 := ne_of_none hh13 nx
    have hl15 : H15 l = some (.lst us) := kept _ _ n3l (s14 _ _ hl13) (fun ps z => nomatch z)
    have hh15 : H15 h = some (.lst us) := kept _ _ n3h (s14 _ _ hh13) (fun ps z => nomatch z)
    have hss15 : StepsAt K H15 us ss := kept_steps (o := .ins C dx []) upd_same (fun u z => nomatch z) kept (hss13.same s14)
    -- if handed != steps or not holds(..)
    have wok : ∀ s ∈ ss, NameOk s.w := fun s hs => hzs _ (S.sw s hs)
    have dl : Dp K H15 (.ref h) (.list (ss.map stpD)) := .lst (.inl (.inl hh15)) hss15.dp
    have dl2 : Dp K H15 (.ref l) (.list (ss.map stpD)) := .lst (.inl (.inl hl15)) hss15.dp
    refine ⟨_, rfl, _, rfl, _, _, dl, dl2, shaped_list wok, shaped_list wok, _, rfl, ?_⟩
    rw [show PyData.eqv (.list (ss.map stpD)) (.list (ss.map stpD)) = true from eqvAll_stps ss]
    have lwl : wl.length ≤ 1000 := by
      have := nd_lenS HO.wn (fun z hz => by
        obtain ⟨s, hs, e⟩ := (HO.wm z).mp hz
        exact e ▸ S.sw s hs : ∀ z ∈ wl, z ∈ zs)
      omega
    refine ⟨_, rfl, _, rfl, _, rfl, p3, l, x0, us, us, ss, wl, nl2, U, rfl, HA, HO, hss15, .inl (.inl hl15), hss15, l24, wok, lwl, hU, lU, fun H16 s16 => ⟨true, rfl, ?_⟩⟩
    -- handed.clear(); handed.append((0, 'z', 1))
    have hh16 := s16 _ _ hh15
    have hl16 := s16 _ _ hl15
    have HA16 := HA.same s16
    have hss16 := hss15.same s16
    have tab16 := tabL_same s16 tab
    refine ⟨_, rfl, .inl ⟨rfl, _, .inl (.inl hh16)⟩, h, us, rfl, rfl, hh16, ?_⟩
    have x17 : SameX h H16 (upd H16 h (.lst [])) := SameX.at
    have hh17 : (upd H16 h (.lst [])) h = some (.lst []) := upd_same
    have hl17 := x17 _ _ nhl hl16
    have HA17 := HA16.sx hh16 x17
    have hss17 := hss16.sameX (NoTup.lst hh16) x17
    have tab17 := tabL_lst hh16 x17 tab16
    generalize upd H16 h (.lst []) = H17 at hh17 hl17 HA17 hss17 tab17 ⊢
    refine ⟨_, rfl, .inl ⟨rfl, _, .inl (.inl hh17)⟩, by show 3 ≤ sizeLine; decide, fun t nt => ?_⟩
    have s18 : Same H17 (upd H17 t (.tup [.int 0, .str "z", .int 1])) := same_new nt
    have hh18 := s18 _ _ hh17
    have hl18 := s18 _ _ hl17
    have HA18 := HA17.same s18
    have hss18 := hss17.same s18
    have tab18 := tabL_same s18 tab17
    generalize upd H17 t (.tup [.int 0, .str "z", .int 1]) = H18 at hh18 hl18 HA18 hss18 tab18 ⊢
    refine ⟨h, _, _, rfl, rfl, hh18, by show 0 < sizeLine; rw [sizeLine_eq]; decide, ?_⟩
    have x19 : SameX h H18 (upd H18 h (.lst ([] ++ [.ref t]))) := SameX.at
    have hl19 := x19 _ _ nhl hl18
    have HA19 := HA18.sx hh18 x19
    have hss19 := hss18.sameX (NoTup.lst hh18) x19
    have tab19 := tabL_lst hh18 x19 tab18
    generalize upd H18 h (.lst ([] ++ [.ref t])) = H19 at hl19 HA19 hss19 tab19 ⊢
    -- other = Hand(steps[0][2], tuple(steps))
    obtain ⟨s0, e0⟩ : ∃ s0, ss[0]? = some s0 := by
      cases ss with
      | nil => exact absurd rfl hne
      | cons s0 r => exact ⟨s0, rfl⟩
    have hs0 : s0 ∈ ss := List.mem_of_getElem? e0
    have u0 : ∃ t0, us[0]? = some (.ref t0) ∧ H19 t0 = some (.tup [.int s0.a, .str s0.w, .int s0.b]) := by
      cases hu0 : us[0]? with
      | none =>
        have z := List.getElem?_eq_none_iff.mp hu0
        have := List.length_pos_iff.mpr hne
        omega
      | some y =>
        obtain ⟨s1, t0, rfl, es, ht0⟩ := get_tup hss19 hu0
        rw [e0] at es
        cases es
        exact ⟨t0, rfl, ht0⟩
    obtain ⟨t0, eu0, ht0⟩ := u0
    have DR2 := DR.from hs0
    obtain ⟨U2, hU2, lU2⟩ := DR2.reach
    have b02 := DR2.b0
    refine ⟨_, rfl, l, _, _, _, rfl, rfl, .inl (.inl hl19), atI_nat (j := 0) eu0, t0, _, _, _, rfl, rfl, .inl (.inl ht0), atI_nat (j := 2) rfl, _, rfl, .inl ⟨l, us, rfl, .inl (.inl hl19), fun tq ntq => ?_⟩⟩
    have s20 : Same H19 (upd H19 tq (.tup us)) := same_new ntq
    have htq : (upd H19 tq (.tup us)) tq = some (.tup us) := upd_same
    have hl20 := s20 _ _ hl19
    have ht020 := s20 _ _ ht0
    have HA20 := HA19.same s20
    have hss20 := hss19.same s20
    have tab20 := tabL_same s20 tab19
    generalize upd H19 tq (.tup us) = H20 at htq hl20 ht020 HA20 hss20 tab20 ⊢
    refine fun p4 dx4 nx4 ndx4 ned4 => ?_
    have s21 : Same H20 (upd (upd H20 dx4 (.own p4)) p4 (.ins C dx4 [])) := (same_new ndx4).trans (same_new (by rw [upd_ne ned4.symm]; exact nx4))
    refine ⟨p4, dx4, tq, s0.b, us, ss, U2, zs, rfl, upd_same, tabL_same s21 tab20, .inr (.inl (.inl (s21 _ _ htq))), hss20.same s21, G, b02.1, b02.2, S.sw, DR.lz, hU2, lU2, fun wl4 nl4 H22 HA4 HO4 kept4 tab4 => ⟨rfl, ?_⟩⟩
    have n4l : l ≠ p4 := ne_of_none hl20 nx4
    have hl22 : H22 l = some (.lst us) := kept4 _ _ n4l (s21 _ _ hl20) (fun ps z => nomatch z)
    have n4t : t0 ≠ p4 := ne_of_none ht020 nx4
    have ht22 : H22 t0 = some (.tup [.int s0.a, .str s0.w, .int s0.b]) := kept4 _ _ n4t (s21 _ _ ht020) (fun ps z => nomatch z)
    have hss22 : StepsAt K H22 us ss := kept_steps (o := .ins C dx4 []) upd_same (fun u z => nomatch z) kept4 (hss20.same s21)
    have n43 : p3 ≠ p4 := by
      obtain ⟨_, _, _, _, _, e, _⟩ := HA20.ob
      exact ne_of_none e nx4
    have HA22 := (HA20.same s21).kept (fs := []) (C2 := C) (dx2 := dx4) n43 upd_same kept4
    have lwl4 : wl4.length ≤ 1000 := by
      have := nd_lenS HO4.wn (fun z hz => by
        obtain ⟨s, hs, e⟩ := (HO4.wm z).mp hz
        exact e ▸ S.sw s hs : ∀ z ∈ wl4, z ∈ zs)
      omega
    refine ⟨_, rfl, _, rfl, l, _, _, _, rfl, rfl, .inl (.inl hl22), atI_nat (j := 0) eu0, t0, _, _, _, rfl, rfl, .inl (.inl ht22), atI_nat (j := 2) rfl, _, rfl, p4, l, s0.b, us, us, ss, wl4, nl4, U2, rfl, HA4, HO4, hss22, .inl (.inl hl22), hss22, l24, wok, lwl4, hU2, lU2, fun H23 s23 => ⟨true, rfl, ?_⟩⟩
    exact ⟨_, rfl, _, rfl, _, rfl, p3, l, x0, us, us, ss, wl, nl2, U, rfl, HA22.same s23, HO, hss22.same s23, .inl (.inl (s23 _ _ hl22)), hss22.same s23, l24, wok, lwl, hU, lU, fun H24 _ => q H24⟩
end
end KX
namespace KX
open PySem PySem.Spec PyProof.Rows L2
/-! ### the head: what it tells, by names -/
def dTop (x : Str) (st : Stmt) : He.DefD := ⟨(x, none), x, x, defArgs st, defBody st, defScope st, [], []⟩
abbrev dInit : He.DefD := ⟨("Hand", some "__init__"), "__init__", "Hand.__init__", defArgs s_Hand_init, defBody s_Hand_init, defScope s_Hand_init, [], []⟩
def fns : List He.DefD := [dInit, dTop "is_whole" s_is_whole, dTop "is_state" s_is_state, dTop "is_name" s_is_name, dTop "is_row" s_is_row, dTop "is_step" s_is_step, dTop "check_steps" s_check_steps, dTop "all_reached" s_all_reached, dTop "reached_states" s_reached_states, dTop "exits_of" s_exits_of, dTop "_law_cell" s_law_cell, dTop "_law_pool" s_law_pool, dTop "_law_draw" s_law_draw, dTop "_law_name" s_law_name, dTop "_law_names" s_law_names, dTop "_law_many_steps" s_law_many_steps, dTop "_law_reached" s_law_reached, dTop "_law_same" s_law_same, dTop "_law_holds" s_law_holds, dTop "law" s_law]
def fas : List He.Fa := [.glo "Hand", .cls "Hand", .mkr "Hand", .noat "Hand" "start", .noat "Hand" "steps", .noat "Hand" "words", .noat "Hand" "states", .noat "Hand" "exits", .free "len", .free "int", .free "range", .free "isinstance", .free "tuple", .free "list", .free "set", .free "sorted", .free "all", .free "enumerate", .free "bool", .free "str", .free "dict", .int "MOST_LETTERS" 12, .int "LAST_STATE" 99, .int "MOST_STEPS" 24, .int "MOST_LEAVING" 4, .int "MOST_WORDS" 8, .int "MOST_STATES" 8, .glo "is_whole", .glo "is_state", .glo "is_name", .glo "is_row", .glo "is_step", .glo "check_steps", .glo "all_reached", .glo "reached_states", .glo "exits_of", .glo "_law_cell", .glo "_law_pool", .glo "_law_draw", .glo "_law_name", .glo "_law_names", .glo "_law_many_steps", .glo "_law_reached", .glo "_law_same", .glo "_law_holds", .glo "law"]
abbrev tfs : List He.Defn := [("reached_states", none)]
abbrev exs : PySem.W.Frag → Bool := fun _ => true
theorem fun_of {K : PySem.W.Frag} {x q : Str} {st : Stmt} {f : Addr} {fd : FuncData} (F : FunD K x q (defArgs st) (defBody st) (defScope st) [] [] f fd) : Fun K x q st f fd := by
  obtain ⟨oc, od, dV, kV, doc, pm, an, cdv, ct, osl, e1, e2, e3, hD, _⟩ := F.ex
  rcases hD with ⟨_, rfl⟩ | ⟨e, _⟩
  · exact ⟨⟨oc, od, kV, doc, pm, an, cdv, ct, osl, e1, e2, e3⟩, F.kp⟩
  · exact absurd rfl e
theorem funC_of {K : PySem.W.Frag} {p : Str × Option Str} {x q : Str} {st : Stmt} {fd : FuncData} (F : FunD K x q (defArgs st) (defBody st) (defScope st) [] [] (He.fAd K p) fd) : FunC K x q st (He.fAd K p) fd (He.cT K p).1 := by
  obtain ⟨oc, od, dV, kV, doc, pm, an, cdv, ct, osl, e1, e2, e3, hD, _⟩ := F.ex
  rcases hD with ⟨_, rfl⟩ | ⟨e, _⟩
  · obtain ⟨c, rfl⟩ := He.codeIn_ref e3
    have ec : (He.cT K p).1 = c := He.codeOf_eq e2 (by rw [e1] <;> rfl)
    rw [ec]
    exact ⟨⟨oc, od, kV, doc, pm, an, ct, osl, e1, e2, e3⟩, F.kp⟩
  · exact absurd rfl e
section
variable {P : Program} {w : World} {K : PySem.W.Frag} {mg : Str → Option Value} {base h : Heap}
theorem got_is_whole (X : K.In h) (G : h.Ns mainGlobals mg) (c : He.SaysD fas fns K) : ∃ fd, FunD K "is_whole" "is_whole" (defArgs s_is_whole) (defBody s_is_whole) (defScope s_is_whole) [] [] (He.fAd K ("is_whole", none)) fd ∧ Binds K fd ["value"] [] ∧ mg "is_whole" = some (.ref (He.fAd K ("is_whole", none))) := by
  obtain ⟨fd, F⟩ := c.def_ 1 (d := dTop "is_whole" s_is_whole) rfl
  exact ⟨fd, F, FunD.bindsN F fun _ _ _ _ _ _ us hl => match us, hl with | [_], _ => rfl, He.glo_ok X G (c.fact 27 (f := .glo "is_whole") rfl)⟩
theorem got_is_state (X : K.In h) (G : h.Ns mainGlobals mg) (c : He.SaysD fas fns K) : ∃ fd, FunD K "is_state" "is_state" (defArgs s_is_state) (defBody s_is_state) (defScope s_is_state) [] [] (He.fAd K ("is_state", none)) fd ∧ Binds K fd ["value"] [] ∧ mg "is_state" = some (.ref (He.fAd K ("is_state", none))) := by
  obtain ⟨fd, F⟩ := c.def_ 2 (d := dTop "is_state" s_is_state) rfl
  exact ⟨fd, F, FunD.bindsN F fun _ _ _ _ _ _ us hl => match us, hl with | [_], _ => rfl, He.glo_ok X G (c.fact 28 (f := .glo "is_state") rfl)⟩
theorem got_is_name (X : K.In h) (G : h.Ns mainGlobals mg) (c : He.SaysD fas fns K) : ∃ fd, FunD K "is_name" "is_name" (defArgs s_is_name) (defBody s_is_name) (defScope s_is_name) [] [] (He.fAd K ("is_name", none)) fd ∧ Binds K fd ["value"] [] ∧ mg "is_name" = some (.ref (He.fAd K ("is_name", none))) := by
  obtain ⟨fd, F⟩ := c.def_ 3 (d := dTop "is_name" s_is_name) rfl
  exact ⟨fd, F, FunD.bindsN F fun _ _ _ _ _ _ us hl => match us, hl with | [_], _ => rfl, He.glo_ok X G (c.fact 29 (f := .glo "is_name") rfl)⟩
theorem got_is_row (X : K.In h) (G : h.Ns mainGlobals mg) (c : He.SaysD fas fns K) : ∃ fd, FunD K "is_row" "is_row" (defArgs s_is_row) (defBody s_is_row) (defScope s_is_row) [] [] (He.fAd K ("is_row", none)) fd ∧ Binds K fd ["value"] [] ∧ mg "is_row" = some (.ref (He.fAd K ("is_row", none))) := by
  obtain ⟨fd, F⟩ := c.def_ 4 (d := dTop "is_row" s_is_row) rfl
  exact ⟨fd, F, FunD.bindsN F fun _ _ _ _ _ _ us hl => match us, hl with | [_], _ => rfl, He.glo_ok X G (c.fact 30 (f := .glo "is_row") rfl)⟩
theorem got_is_step (X : K.In h) (G : h.Ns mainGlobals mg) (c : He.SaysD fas fns K) : ∃ fd, FunD K "is_step" "is_step" (defArgs s_is_step) (defBody s_is_step) (defScope s_is_step) [] [] (He.fAd K ("is_step", none)) fd ∧ Binds K fd ["value"] [] ∧ mg "is_step" = some (.ref (He.fAd K ("is_step", none))) := by
  obtain ⟨fd, F⟩ := c.def_ 5 (d := dTop "is_step" s_is_step) rfl
  exact ⟨fd, F, FunD.bindsN F fun _ _ _ _ _ _ us hl => match us, hl with | [_], _ => rfl, He.glo_ok X G (c.fact 31 (f := .glo "is_step") rfl)⟩
theorem got_check_steps (X : K.In h) (G : h.Ns mainGlobals mg) (c : He.SaysD fas fns K) : ∃ fd, FunD K "check_steps" "check_steps" (defArgs s_check_steps) (defBody s_check_steps) (defScope s_check_steps) [] [] (He.fAd K ("check_steps", none)) fd ∧ Binds K fd ["steps"] [] ∧ mg "check_steps" = some (.ref (He.fAd K ("check_steps", none))) := by
  obtain ⟨fd, F⟩ := c.def_ 6 (d := dTop "check_steps" s_check_steps) rfl
  exact ⟨fd, F, FunD.bindsN F fun _ _ _ _ _ _ us hl => match us, hl with | [_], _ => rfl, He.glo_ok X G (c.fact 32 (f := .glo "check_steps") rfl)⟩
theorem got_all_reached (X : K.In h) (G : h.Ns mainGlobals mg) (c : He.SaysD fas fns K) : ∃ fd, FunD K "all_reached" "all_reached" (defArgs s_all_reached) (defBody s_all_reached) (defScope s_all_reached) [] [] (He.fAd K ("all_reached", none)) fd ∧ Binds K fd ["first", "following", "most"] [] ∧ mg "all_reached" = some (.ref (He.fAd K ("all_reached", none))) := by
  obtain ⟨fd, F⟩ := c.def_ 7 (d := dTop "all_reached" s_all_reached) rfl
  exact ⟨fd, F, FunD.bindsN F fun _ _ _ _ _ _ us hl => match us, hl with | [_, _, _], _ => rfl, He.glo_ok X G (c.fact 33 (f := .glo "all_reached") rfl)⟩
theorem got_reached_states (X : K.In h) (G : h.Ns mainGlobals mg) (c : He.SaysD fas fns K) : ∃ fd, FunD K "reached_states" "reached_states" (defArgs s_reached_states) (defBody s_reached_states) (defScope s_reached_states) [] [] (He.fAd K ("reached_states", none)) fd ∧ Binds K fd ["start", "steps"] [] ∧ mg "reached_states" = some (.ref (He.fAd K ("reached_states", none))) := by
  obtain ⟨fd, F⟩ := c.def_ 8 (d := dTop "reached_states" s_reached_states) rfl
  exact ⟨fd, F, FunD.bindsN F fun _ _ _ _ _ _ us hl => match us, hl with | [_, _], _ => rfl, He.glo_ok X G (c.fact 34 (f := .glo "reached_states") rfl)⟩
theorem got_exits_of (X : K.In h) (G : h.Ns mainGlobals mg) (c : He.SaysD fas fns K) : ∃ fd, FunD K "exits_of" "exits_of" (defArgs s_exits_of) (defBody s_exits_of) (defScope s_exits_of) [] [] (He.fAd K ("exits_of", none)) fd ∧ Binds K fd ["steps"] [] ∧ mg "exits_of" = some (.ref (He.fAd K ("exits_of", none))) := by
  obtain ⟨fd, F⟩ := c.def_ 9 (d := dTop "exits_of" s_exits_of) rfl
  exact ⟨fd, F, FunD.bindsN F fun _ _ _ _ _ _ us hl => match us, hl with | [_], _ => rfl, He.glo_ok X G (c.fact 35 (f := .glo "exits_of") rfl)⟩
theorem got_law_cell (X : K.In h) (G : h.Ns mainGlobals mg) (c : He.SaysD fas fns K) : ∃ fd, FunD K "_law_cell" "_law_cell" (defArgs s_law_cell) (defBody s_law_cell) (defScope s_law_cell) [] [] (He.fAd K ("_law_cell", none)) fd ∧ Binds K fd ["_law_script", "_law_k"] [] ∧ mg "_law_cell" = some (.ref (He.fAd K ("_law_cell", none))) := by
  obtain ⟨fd, F⟩ := c.def_ 10 (d := dTop "_law_cell" s_law_cell) rfl
  exact ⟨fd, F, FunD.bindsN F fun _ _ _ _ _ _ us hl => match us, hl with | [_, _], _ => rfl, He.glo_ok X G (c.fact 36 (f := .glo "_law_cell") rfl)⟩
theorem got_law_pool (X : K.In h) (G : h.Ns mainGlobals mg) (c : He.SaysD fas fns K) : ∃ fd, FunD K "_law_pool" "_law_pool" (defArgs s_law_pool) (defBody s_law_pool) (defScope s_law_pool) [] [] (He.fAd K ("_law_pool", none)) fd ∧ Binds K fd ["_law_cell_here"] [] ∧ mg "_law_pool" = some (.ref (He.fAd K ("_law_pool", none))) := by
  obtain ⟨fd, F⟩ := c.def_ 11 (d := dTop "_law_pool" s_law_pool) rfl
  exact ⟨fd, F, FunD.bindsN F fun _ _ _ _ _ _ us hl => match us, hl with | [_], _ => rfl, He.glo_ok X G (c.fact 37 (f := .glo "_law_pool") rfl)⟩
theorem got_law_draw (X : K.In h) (G : h.Ns mainGlobals mg) (c : He.SaysD fas fns K) : ∃ fd, FunD K "_law_draw" "_law_draw" (defArgs s_law_draw) (defBody s_law_draw) (defScope s_law_draw) [] [] (He.fAd K ("_law_draw", none)) fd ∧ Binds K fd ["_law_pool_here", "_law_many"] [] ∧ mg "_law_draw" = some (.ref (He.fAd K ("_law_draw", none))) := by
  obtain ⟨fd, F⟩ := c.def_ 12 (d := dTop "_law_draw" s_law_draw) rfl
  exact ⟨fd, F, FunD.bindsN F fun _ _ _ _ _ _ us hl => match us, hl with | [_, _], _ => rfl, He.glo_ok X G (c.fact 38 (f := .glo "_law_draw") rfl)⟩
theorem got_law_name (X : K.In h) (G : h.Ns mainGlobals mg) (c : He.SaysD fas fns K) : ∃ fd, FunD K "_law_name" "_law_name" (defArgs s_law_name) (defBody s_law_name) (defScope s_law_name) [] [] (He.fAd K ("_law_name", none)) fd ∧ Binds K fd ["_law_number"] [] ∧ mg "_law_name" = some (.ref (He.fAd K ("_law_name", none))) := by
  obtain ⟨fd, F⟩ := c.def_ 13 (d := dTop "_law_name" s_law_name) rfl
  exact ⟨fd, F, FunD.bindsN F fun _ _ _ _ _ _ us hl => match us, hl with | [_], _ => rfl, He.glo_ok X G (c.fact 39 (f := .glo "_law_name") rfl)⟩
theorem got_law_names (X : K.In h) (G : h.Ns mainGlobals mg) (c : He.SaysD fas fns K) : ∃ fd, FunD K "_law_names" "_law_names" (defArgs s_law_names) (defBody s_law_names) (defScope s_law_names) [] [] (He.fAd K ("_law_names", none)) fd ∧ Binds K fd ["_law_pool_here", "_law_many"] [] ∧ mg "_law_names" = some (.ref (He.fAd K ("_law_names", none))) := by
  obtain ⟨fd, F⟩ := c.def_ 14 (d := dTop "_law_names" s_law_names) rfl
  exact ⟨fd, F, FunD.bindsN F fun _ _ _ _ _ _ us hl => match us, hl with | [_, _], _ => rfl, He.glo_ok X G (c.fact 40 (f := .glo "_law_names") rfl)⟩
theorem got_law_many_steps (X : K.In h) (G : h.Ns mainGlobals mg) (c : He.SaysD fas fns K) : ∃ fd, FunD K "_law_many_steps" "_law_many_steps" (defArgs s_law_many_steps) (defBody s_law_many_steps) (defScope s_law_many_steps) [] [] (He.fAd K ("_law_many_steps", none)) fd ∧ Binds K fd ["_law_pool_here", "_law_names_here", "_law_states", "_law_many"] [] ∧ mg "_law_many_steps" = some (.ref (He.fAd K ("_law_many_steps", none))) := by
  obtain ⟨fd, F⟩ := c.def_ 15 (d := dTop "_law_many_steps" s_law_many_steps) rfl
  exact ⟨fd, F, FunD.bindsN F fun _ _ _ _ _ _ us hl => match us, hl with | [_, _, _, _], _ => rfl, He.glo_ok X G (c.fact 41 (f := .glo "_law_many_steps") rfl)⟩
theorem got_law_reached (X : K.In h) (G : h.Ns mainGlobals mg) (c : He.SaysD fas fns K) : ∃ fd, FunD K "_law_reached" "_law_reached" (defArgs s_law_reached) (defBody s_law_reached) (defScope s_law_reached) [] [] (He.fAd K ("_law_reached", none)) fd ∧ Binds K fd ["_law_start", "_law_steps"] [] ∧ mg "_law_reached" = some (.ref (He.fAd K ("_law_reached", none))) := by
  obtain ⟨fd, F⟩ := c.def_ 16 (d := dTop "_law_reached" s_law_reached) rfl
  exact ⟨fd, F, FunD.bindsN F fun _ _ _ _ _ _ us hl => match us, hl with | [_, _], _ => rfl, He.glo_ok X G (c.fact 42 (f := .glo "_law_reached") rfl)⟩
theorem got_law_same (X : K.In h) (G : h.Ns mainGlobals mg) (c : He.SaysD fas fns K) : ∃ fd, FunD K "_law_same" "_law_same" (defArgs s_law_same) (defBody s_law_same) (defScope s_law_same) [] [] (He.fAd K ("_law_same", none)) fd ∧ Binds K fd ["_law_told", "_law_due"] [] ∧ mg "_law_same" = some (.ref (He.fAd K ("_law_same", none))) := by
  obtain ⟨fd, F⟩ := c.def_ 17 (d := dTop "_law_same" s_law_same) rfl
  exact ⟨fd, F, FunD.bindsN F fun _ _ _ _ _ _ us hl => match us, hl with | [_, _], _ => rfl, He.glo_ok X G (c.fact 43 (f := .glo "_law_same") rfl)⟩
theorem got_law_holds (X : K.In h) (G : h.Ns mainGlobals mg) (c : He.SaysD fas fns K) : ∃ fd, FunD K "_law_holds" "_law_holds" (defArgs s_law_holds) (defBody s_law_holds) (defScope s_law_holds) [] [] (He.fAd K ("_law_holds", none)) fd ∧ Binds K fd ["_law_hand", "_law_start", "_law_steps"] [] ∧ mg "_law_holds" = some (.ref (He.fAd K ("_law_holds", none))) := by
  obtain ⟨fd, F⟩ := c.def_ 18 (d := dTop "_law_holds" s_law_holds) rfl
  exact ⟨fd, F, FunD.bindsN F fun _ _ _ _ _ _ us hl => match us, hl with | [_, _, _], _ => rfl, He.glo_ok X G (c.fact 44 (f := .glo "_law_holds") rfl)⟩
theorem got_law (X : K.In h) (G : h.Ns mainGlobals mg) (c : He.SaysD fas fns K) : ∃ fd, FunD K "law" "law" (defArgs s_law) (defBody s_law) (defScope s_law) [] [] (He.fAd K ("law", none)) fd ∧ Binds K fd ["_law_script"] [] ∧ mg "law" = some (.ref (He.fAd K ("law", none))) := by
  obtain ⟨fd, F⟩ := c.def_ 19 (d := dTop "law" s_law) rfl
  exact ⟨fd, F, FunD.bindsN F fun _ _ _ _ _ _ us hl => match us, hl with | [_], _ => rfl, He.glo_ok X G (c.fact 45 (f := .glo "law") rfl)⟩
theorem got_init (c : He.SaysD fas fns K) : ∃ fd, FunD K "__init__" "Hand.__init__" (defArgs s_Hand_init) (defBody s_Hand_init) (defScope s_Hand_init) [] [] (He.fAd K ("Hand", some "__init__")) fd ∧ Binds K fd ["self", "start", "steps"] [] := by
  obtain ⟨fd, F⟩ := c.def_ 0 (d := dInit) rfl
  exact ⟨fd, F, FunD.bindsN F fun _ _ _ _ _ _ us hl => match us, hl with | [_, _, _], _ => rfl⟩
theorem got_blt (X : K.In h) (G : h.Ns mainGlobals mg) (c : He.SaysD fas fns K) : Blt mg := ⟨He.free_ok X G (c.fact 8 (f := .free "len") rfl), He.free_ok X G (c.fact 9 (f := .free "int") rfl), He.free_ok X G (c.fact 10 (f := .free "range") rfl), He.free_ok X G (c.fact 11 (f := .free "isinstance") rfl), He.free_ok X G (c.fact 12 (f := .free "tuple") rfl), He.free_ok X G (c.fact 13 (f := .free "list") rfl), He.free_ok X G (c.fact 14 (f := .free "set") rfl), He.free_ok X G (c.fact 15 (f := .free "sorted") rfl), He.free_ok X G (c.fact 16 (f := .free "all") rfl), He.free_ok X G (c.fact 17 (f := .free "enumerate") rfl)⟩
theorem got_kin (X : K.In h) (G : h.Ns mainGlobals mg) (c : He.SaysD fas fns K) : Kin mg := ⟨He.free_ok X G (c.fact 18 (f := .free "bool") rfl), He.free_ok X G (c.fact 19 (f := .free "str") rfl), He.int_ok X G (c.fact 21 (f := .int "MOST_LETTERS" 12) rfl), He.int_ok X G (c.fact 22 (f := .int "LAST_STATE" 99) rfl)⟩
theorem got_blt2 (X : K.In h) (G : h.Ns mainGlobals mg) (c : He.SaysD fas fns K) : Blt2 mg := ⟨He.free_ok X G (c.fact 20 (f := .free "dict") rfl)⟩
theorem got_lim (X : K.In h) (G : h.Ns mainGlobals mg) (c : He.SaysD fas fns K) : Lim mg := ⟨He.int_ok X G (c.fact 23 (f := .int "MOST_STEPS" 24) rfl), He.int_ok X G (c.fact 24 (f := .int "MOST_LEAVING" 4) rfl), He.int_ok X G (c.fact 25 (f := .int "MOST_WORDS" 8) rfl), He.int_ok X G (c.fact 26 (f := .int "MOST_STATES" 8) rfl)⟩
theorem got_handT (c : He.SaysD fas fns K) : HandT K mg (He.ga K "Hand") := ⟨He.cls_ok (c.fact 1 (f := .cls "Hand") rfl), He.noat_ok (c.fact 3 (f := .noat "Hand" "start") rfl), He.noat_ok (c.fact 4 (f := .noat "Hand" "steps") rfl), He.noat_ok (c.fact 5 (f := .noat "Hand" "words") rfl), He.noat_ok (c.fact 6 (f := .noat "Hand" "states") rfl), He.noat_ok (c.fact 7 (f := .noat "Hand" "exits") rfl)⟩
theorem law_at {w : World} {fa : Addr} (X : K.In h) (G : h.Ns mainGlobals mg) (hfa : mg ("law" : Str) = some (.ref fa)) (S : He.SaysX fas fns [] tfs exs w h K) : LamX.LawAtS PySem.Challenge.rw_surelydone_k02_hand_tells_its_parts w K CX0 7 63 "_law_script" mg fa h := by
  have c := S.t.d
  obtain ⟨d_is_whole, F_is_whole, b_is_whole, g_is_whole⟩ := got_is_whole X G c
  obtain ⟨d_is_state, F_is_state, b_is_state, g_is_state⟩ := got_is_state X G c
  obtain ⟨d_is_name, F_is_name, b_is_name, g_is_name⟩ := got_is_name X G c
  obtain ⟨d_is_row, F_is_row, b_is_row, g_is_row⟩ := got_is_row X G c
  obtain ⟨d_is_step, F_is_step, b_is_step, g_is_step⟩ := got_is_step X G c
  obtain ⟨d_check_steps, F_check_steps, b_check_steps, g_check_steps⟩ := got_check_steps X G c
  obtain ⟨d_all_reached, F_all_reached, b_all_reached, g_all_reached⟩ := got_all_reached X G c
  obtain ⟨d_reached_states, F_reached_states, b_reached_states, g_reached_states⟩ := got_reached_states X G c
  obtain ⟨d_exits_of, F_exits_of, b_exits_of, g_exits_of⟩ := got_exits_of X G c
  obtain ⟨d_law_cell, F_law_cell, b_law_cell, g_law_cell⟩ := got_law_cell X G c
  obtain ⟨d_law_pool, F_law_pool, b_law_pool, g_law_pool⟩ := got_law_pool X G c
  obtain ⟨d_law_draw, F_law_draw, b_law_draw, g_law_draw⟩ := got_law_draw X G c
  obtain ⟨d_law_name, F_law_name, b_law_name, g_law_name⟩ := got_law_name X G c
  obtain ⟨d_law_names, F_law_names, b_law_names, g_law_names⟩ := got_law_names X G c
  obtain ⟨d_law_many_steps, F_law_many_steps, b_law_many_steps, g_law_many_steps⟩ := got_law_many_steps X G c
  obtain ⟨d_law_reached, F_law_reached, b_law_reached, g_law_reached⟩ := got_law_reached X G c
  obtain ⟨d_law_same, F_law_same, b_law_same, g_law_same⟩ := got_law_same X G c
  obtain ⟨d_law_holds, F_law_holds, b_law_holds, g_law_holds⟩ := got_law_holds X G c
  obtain ⟨d_law, F_law, b_law, g_law⟩ := got_law X G c
  obtain ⟨d_init, F_init, b_init⟩ := got_init c
  have hCh := hfa.symm.trans g_law
  cases hCh
  have cr := funC_of F_reached_states
  have mHand : mg "Hand" = some (.ref (He.ga K "Hand")) := He.glo_ok X G (c.fact 0 (f := .glo "Hand") rfl)
  have bl := FunD.bindsA (ps := ["_law_script"]) F_law fun _ _ _ _ _ _ us hl => match us, hl with | [_], _ => rfl
  refine ⟨d_law, [He.cT K ("reached_states", none)], spLaw K (He.cT K ("reached_states", none)).2, fun p hp => ?_, fun p hp => ?_, fun p hp => ?_, fun s u => bl s [u] rfl, fun H a ns _ _ hT hS => ?_, fun base KB GB TB => ?_⟩
  · cases List.mem_singleton.mp hp
    exact S.empty _ (List.mem_cons_self ..)
  · cases List.mem_singleton.mp hp
    exact S.out _ (List.mem_cons_self ..)
  · cases List.mem_singleton.mp hp
    exact PySem.W.codeHd_of_K X (S.hd _ (List.mem_cons_self ..))
  · refine ⟨a, ns, rfl, hS, fun q hq => ?_, fun _ => rfl⟩
    cases List.mem_singleton.mp hq
    exact NdefX.TabN.nil (hT _ (List.mem_cons_self ..))
  · have T1 := TB _ (List.mem_cons_self ..)
    refine ok_law (fun_of F_law) (got_blt X G c) (got_kin X G c) (got_blt2 X G c) (got_lim X G c) (got_handT c) ⟨⟨fun_of F_is_whole, b_is_whole, g_is_whole, fun_of F_is_state, b_is_state, g_is_state, fun_of F_is_name, b_is_name, g_is_name⟩, fun_of F_is_row, b_is_row, g_is_row, fun_of F_is_step, b_is_step, g_is_step, fun_of F_check_steps, b_check_steps, g_check_steps, fun_of F_all_reached, b_all_reached, g_all_reached, cr, b_reached_states, g_reached_states, T1, fun_of F_exits_of, b_exits_of, g_exits_of⟩ (He.mkr_ok (c.fact 2 (f := .mkr "Hand") rfl)) (fun_of F_init) b_init mHand ⟨fun_of F_law_cell, b_law_cell, g_law_cell, fun_of F_law_pool, b_law_pool, g_law_pool, fun_of F_law_draw, b_law_draw, g_law_draw, fun_of F_law_name, b_law_name, g_law_name, fun_of F_law_names, b_law_names, g_law_names, fun_of F_law_many_steps, b_law_many_steps, g_law_many_steps, fun_of F_law_reached, b_law_reached, g_law_reached, fun_of F_law_same, b_law_same, g_law_same, fun_of F_law_holds, b_law_holds, g_law_holds⟩
end
end KX
namespace KX
open PySem PySem.Spec PyProof.Rows L2
abbrev Rw : PySem.W.OpenRow := PySem.W.OpenLaw.row PySem.Challenge.rw_surelydone_k02_hand_tells_its_parts
abbrev lse : List Str := ["_wall", "__name__", "DoneError", "BadState", "BadSteps", "TooMany", "MOST_LETTERS", "LAST_STATE", "is_whole", "is_state", "is_name", "is_row", "all_reached", "MOST_STEPS", "MOST_LEAVING", "MOST_WORDS", "MOST_STATES", "Hand", "is_step", "check_steps", "reached_states", "exits_of", "_law_cell", "_law_pool", "_law_draw", "_law_name", "_law_names", "_law_same", "_law_many_steps", "_law_reached", "_law_holds"]
abbrev vw : Program := PySem.W.view Rw.prog [35]
abbrev hkX : PySem.W.Hook := He.hookX 4 fas fns [] tfs exs
def obX (s : PySem.W.SharedT) : He.AlX := He.obsX 4 fas fns [] tfs exs (HandSHeadRun.getT s)
theorem obX_eq (s : PySem.W.SharedT) : obX s = hkX.obs s.abs := He.obsX_eq (HandSHeadRun.getT_eq s)
theorem runX (w : World) : HandSHeadRun.RunEq Rw vw hkX obX 2600 lse w := by
  intro os
  kernel_rfl
end KX
open PySem PySem.W PySem.Calls PyProof.Rows
theorem PySem.Challenge.cw_surelydone_k02_hand_tells_its_parts_holds : PySem.Challenge.rw_surelydone_k02_hand_tells_its_parts.Holds := by
  w_on; o_law
  refine HandSHeadRun.head_any (r := KX.Rw) (q := KX.vw) (H := KX.hkX) (ob := KX.obX) (M := 2600) (loose := KX.lse) (d := HandSHeadRun.topDef KX.Rw.prog 35) (kwd := []) KX.obX_eq
    (by kernel_rfl) (fun s => by kernel_rfl) KX.runX (by kernel_rfl) (by kernel_rfl) (by kernel_rfl) (by rfl) (by first | assumption | decide +kernel) (by decide +kernel) ⟨rfl, rfl, rfl, rfl, rfl, by decide +kernel⟩ ?hw ?hc
  case hw => w_witness2
  case hc =>
    refine LamX.walk_ofTsE (l := PySem.Challenge.rw_surelydone_k02_hand_tells_its_parts) (n := 63) (k := 7) (x := "_law_script") (CX := fun _ => L2.CX0) rfl (by decide) (by kernel_rfl) ⟨by rfl, by decide, by decide⟩ ?F (fun _ _ _ _ _ z => z)
    intro w mg fa h Y G hmg0
    obtain ⟨K, KX1, c⟩ := Y
    have hmg : mg ("law" : PySem.Str) = some (.ref fa) := by
      have e : (HandSHeadRun.topDef KX.Rw.prog 35).name = ("law" : PySem.Str) := by kernel_rfl
      rw [← e]
      exact hmg0
    exact ⟨K, KX1, KX.law_at KX1 G hmg c⟩
