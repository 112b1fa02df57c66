import PyProof.Rows.All
import Wide.All
import OpenK.AllK
import Wide.FinOn
import HandS.HeadHook4
import HandS.HeadWalk
import HandS.Head2
import HandS.Defaults
import HandS.Words
import HandS.ExcField
import HandS.ClsMeth
import HandS.ForMost
import HandS.Lambda
import KE.KDictKeyed
import KE.KDictLaw
import HandS.DictComp
import HandS.Walk
import HandS.Deep
import HandS.TupAny
import HandS.Zip
import HandS.TupSets
import HandS.SortInts
import HandS.Conv
import HandS.Wide
import HandS.IsInst
import HandS.Nested
import HandS.ForExc
import HandS.TryMany
import HandS.WordsExc
import HandS.CallSlots
import HandS.ExcInit
import HandS.Set
import HandS.SetBool
import HandS.Strs
import HandS.SetFor
import HandS.Iter
import KE.GoesMore
import KE.GoesEnum
import KE.KLam
import HandS.Exc
import HandS.Codes
import HandS.TryOnly
import HandS.NestedK
import PyProof.CodeObj
import PyProof.InstNe
import HandS.OwnEq
import HandS.Style
import HandS.MakeKw
import HandS.More
import PyProof.NeKinds
import HandS.DeepEq
import HandS.Steps
import HandS.HeadNt
import PySem.Challenge.RW_surelydone_k03_hand_refuses
set_option Elab.async false
set_option linter.all false
set_option maxRecDepth 100000
set_option maxHeartbeats 8000000
namespace KX
open PySem PySem.Spec PyProof.Rows L2
def topS (i : Nat) : Stmt := PySem.Challenge.pw_surelydone_k03_hand_refuses.main.body.getD i (.Pass ⟨0, 0, 0, 0⟩)
abbrev s_wall : Stmt := topS 0
abbrev s_BadState_init : Stmt := inClass (topS 3) 0
abbrev s_BadSteps_init : Stmt := inClass (topS 4) 0
abbrev s_TooMany_init : Stmt := inClass (topS 5) 0
abbrev s_is_whole : Stmt := topS 9
abbrev s_is_state : Stmt := topS 10
abbrev s_is_name : Stmt := topS 11
abbrev s_is_row : Stmt := topS 12
abbrev s_all_reached : Stmt := topS 14
abbrev s_Hand_init : Stmt := inClass (topS 20) 0
abbrev s_Hand_eq : Stmt := inClass (topS 20) 2
abbrev s_is_step : Stmt := topS 21
abbrev s_check_steps : Stmt := topS 22
abbrev s_reached_states : Stmt := topS 23
abbrev s_exits_of : Stmt := topS 24
abbrev s_law_cell : Stmt := topS 26
abbrev s_law_pool : Stmt := topS 27
abbrev s_law_draw : Stmt := topS 28
abbrev s_law_name : Stmt := topS 29
abbrev s_law_names : Stmt := topS 30
abbrev s_law_same : Stmt := topS 31
abbrev s_law_told : Stmt := topS 32
abbrev s_law_is_state : Stmt := topS 33
abbrev s_law_is_name : Stmt := topS 34
abbrev s_law_is_step : Stmt := topS 35
abbrev s_law_many_reached : Stmt := topS 36
abbrev s_law_due : Stmt := topS 37
abbrev s_law_deep : Stmt := topS 38
abbrev s_law_odd_step : Stmt := topS 39
abbrev s_law_good : Stmt := topS 40
abbrev s_law : Stmt := topS 41
def oexB (K : PySem.W.Frag) (C : Addr) : Bool := (match K.lookup C with
  | some ⟨.type "type", _, .cls cd, sl⟩ => (match cd.mro, sl.toList with
    | .ref C' :: bm, [_, _, _, _, some (.builtin n), _] => C' == C && n == "ValueError.__new__" && !cd.hasDel && cd.hasDict && PySem.HandSPX.refsVE bm
    | _, _ => false)
  | _ => false) && (He.eqO (PySem.W.findIn K (.ref C) "__setattr__") (some (some (.builtin "object.__setattr__"))) && (decide (PySem.W.subIn K (.ref C) (.type "BaseException") = some true) && (decide (PySem.W.typeIn K (.ref C) = some (.type "type")) && PySem.W.keepIn K (.ref C))))
def dTop (x : Str) (st : Stmt) : He.DefD := ⟨(x, none), x, x, defArgs st, defBody st, defScope st, [], []⟩
def dMeth (c m q : Str) (st : Stmt) (dv : List He.Dv) : He.DefD := ⟨(c, some m), m, q, defArgs st, defBody st, defScope st, dv, []⟩
def fns : List He.DefD := [dMeth "Hand" "__init__" "Hand.__init__" s_Hand_init [], dMeth "BadState" "__init__" "BadState.__init__" s_BadState_init [], dMeth "BadSteps" "__init__" "BadSteps.__init__" s_BadSteps_init [], dMeth "TooMany" "__init__" "TooMany.__init__" s_TooMany_init [], dTop "is_whole" s_is_whole, dTop "is_state" s_is_state, dTop "is_name" s_is_name, dTop "is_row" s_is_row, dTop "is_step" s_is_step, dTop "check_steps" s_check_steps, dTop "all_reached" s_all_reached, dTop "exits_of" s_exits_of, dTop "_law_pool" s_law_pool, dTop "_law_cell" s_law_cell, dTop "_law_draw" s_law_draw, dTop "_law_names" s_law_names, dTop "_law_told" s_law_told, dTop "_law_same" s_law_same, dTop "_law_due" s_law_due, dTop "_law_odd_step" s_law_odd_step, dTop "_law_good" s_law_good, dTop "_law_name" s_law_name, dTop "_law_is_state" s_law_is_state, dTop "_law_is_name" s_law_is_name, dTop "_law_is_step" s_law_is_step, dTop "_law_many_reached" s_law_many_reached, dTop "_law_deep" s_law_deep, dTop "reached_states" s_reached_states, dTop "law" s_law]
def fas0 : List He.Fa := [.glo "Hand", .cls "Hand", .mkr "Hand", .noat "Hand" "start", .noat "Hand" "steps", .noat "Hand" "words", .noat "Hand" "states", .noat "Hand" "exits", .glo "BadState", .meth "BadState" "__init__", .noat "BadState" "value", .glo "BadSteps", .meth "BadSteps" "__init__", .noat "BadSteps" "at", .glo "TooMany", .meth "TooMany" "__init__", .noat "TooMany" "limit", .exm "BadState" "BadState" true, .exm "BadSteps" "BadSteps" true, .exm "TooMany" "TooMany" true, .exm "BadSteps" "BadState" false, .exm "TooMany" "BadState" false, .exm "TooMany" "BadSteps" false, .free "len", .free "int", .free "range", .free "isinstance", .free "tuple", .free "list", .free "set", .free "sorted", .free "all", .free "enumerate", .free "bool", .free "str", .free "dict", .free "zip", .free "any"]
def fas1 : List He.Fa := [.int "MOST_LETTERS" 12, .int "LAST_STATE" 99, .int "MOST_STEPS" 24, .int "MOST_LEAVING" 4, .int "MOST_WORDS" 8, .int "MOST_STATES" 8, .glo "is_whole", .glo "is_state", .glo "is_name", .glo "is_row", .glo "is_step", .glo "check_steps", .glo "all_reached", .glo "exits_of", .glo "_law_pool", .glo "_law_cell", .glo "_law_draw", .glo "_law_names", .glo "_law_told", .glo "_law_same", .glo "_law_due", .glo "_law_odd_step", .glo "_law_good", .glo "_law_name", .glo "_law_is_state", .glo "_law_is_name", .glo "_law_is_step", .glo "_law_many_reached", .glo "_law_deep", .glo "reached_states", .glo "law"]
def fas : List He.Fa := fas0 ++ fas1
abbrev tfs : List He.Defn := [("reached_states", none)]
def ownB (K : PySem.W.Frag) (C : Addr) : Bool := He.eqO (PySem.W.findIn K (.ref C) "__class__") (some (some (.builtin "object.__class__"))) && (He.eqO (PySem.W.specialIn K (.builtin "object.__class__") "__get__") (some (some (.builtin "getset_descriptor.__get__"))) && (decide (PySem.W.takesIn K (.builtin "object.__class__") = some true) && decide (PySem.W.mroIn K C (.type "object") = some true)))
def exs (K : PySem.W.Frag) : Bool := ownB K (He.ga K "Hand") && (oexB K (He.ga K "BadState") && (xfB K (He.ga K "BadState") && (oexB K (He.ga K "BadSteps") && (xfB K (He.ga K "BadSteps") && (oexB K (He.ga K "TooMany") && xfB K (He.ga K "TooMany"))))))
abbrev Rw : PySem.W.OpenRow := PySem.W.OpenLaw.row PySem.Challenge.rw_surelydone_k03_hand_refuses
abbrev lse0 : List Str := ["_wall", "__name__", "DoneError", "BadState", "BadSteps", "TooMany", "MOST_LETTERS", "LAST_STATE", "is_whole", "is_state", "is_name", "is_row", "all_reached", "MOST_STEPS", "MOST_LEAVING", "MOST_WORDS", "MOST_STATES", "Hand", "is_step", "check_steps", "reached_states", "exits_of", "_law_cell", "_law_pool", "_law_draw", "_law_name", "_law_names", "_law_same", "_law_told", "_law_is_state"]
abbrev lse1 : List Str := ["_law_is_name", "_law_is_step", "_law_many_reached", "_law_due", "_law_deep", "_law_odd_step", "_law_good"]
abbrev lse : List Str := lse0 ++ lse1
abbrev vw : Program := PySem.W.view Rw.prog [41]
abbrev hkX : PySem.W.Hook := He.hookX 5 fas fns [] tfs exs
def obX (s : PySem.W.SharedT) : He.AlX := He.obsX 5 fas fns [] tfs exs (HandSHeadRun.getT s)
theorem obX_eq (s : PySem.W.SharedT) : obX s = hkX.obs s.abs := He.obsX_eq (HandSHeadRun.getT_eq s)
theorem runX (w : World) : HandSHeadRun.RunEq Rw vw hkX obX 8500 lse w := by
  intro os
  kernel_rfl
end KX
/-! Dicts whose keys are nested tuples of numbers and flags, in the abstract heap. -/
namespace UL
open PySem PySem.Spec PyProof.Rows L2
mutual
def NF : NestedKey → Prop
  | .none => True
  | .num _ => True
  | .text _ => False
  | .tup ks => NFs ks
def NFs : List NestedKey → Prop
  | [] => True
  | k :: ks => NF k ∧ NFs ks
end
mutual
theorem nf_hash (w w' : World) : ∀ k : NestedKey, NF k → NestedKey.hash w k = NestedKey.hash w' k
  | .none, _ => by rw [NestedKey.hash, NestedKey.hash]
  | .num i, _ => by rw [NestedKey.hash, NestedKey.hash]
  | .text _, h => by unfold NF at h; exact h.elim
  | .tup ks, h => by
    unfold NF at h
    rw [NestedKey.hash, NestedKey.hash, nf_hashes w w' ks h]
theorem nf_hashes (w w' : World) : ∀ ks : List NestedKey, NFs ks → NestedKey.hashes w ks = NestedKey.hashes w' ks
  | [], _ => by rw [NestedKey.hashes, NestedKey.hashes]
  | k :: ks, h => by
    unfold NFs at h
    rw [NestedKey.hashes, NestedKey.hashes, nf_hash w w' k h.1, nf_hashes w w' ks h.2]
end
abbrev NL3 := List (NestedKey × Addr × V)
abbrev PrV : (NestedKey × Addr × V) → (NestedKey × Addr × Value) → Prop := fun p q => p.1 = q.1 ∧ p.2.1 = q.2.1 ∧ RelV p.2.2 q.2.2
/-- at D stands the dict L: keys, where they stand, values -/
def NdAt (h : Heap) (D : Addr) (L : NL3) : Prop :=
  L.length ≤ sizeLine ∧ (D == sysModules) = false ∧ (L.map (·.1)).Nodup ∧ (∀ p ∈ L, NF p.1 ∧ p.1.depth ≤ 8) ∧ ∃ xs : List (NestedKey × Addr × Value), Paired PrV L xs ∧
    ∃ o es ep, h.get? D = some o ∧ o.ExactDict ∧ o.data = .dict es ep ∧ ∀ w, es.toList = xs.map fun x => ⟨NestedKey.hash w x.1, .ref x.2.1, x.2.2⟩
theorem NdAt.at {h h' : Heap} {D : Addr} {L : NL3} (x : NdAt h D L) (k : ∀ o, h.get? D = some o → h'.get? D = some o) : NdAt h' D L := by
  obtain ⟨a, b, c, d, xs, e, o, es, ep, f, g⟩ := x
  exact ⟨a, b, c, d, xs, e, o, es, ep, k o f, g⟩
def NdO (D : Addr) (L : NL3) : HO := .ext fun h => NdAt h D L
/-- it is no code object -/
theorem ndO_code {h : Heap} {D : Addr} {L : NL3} (x : NdAt h D L) : ∀ c q, NdO D L ≠ LamX.CodeO c q := fun c q e => by
  obtain ⟨_, _, _, _, _, _, o, es, ep, f, g, d, _⟩ := id x
  have all : ∀ (y : Addr) (oc : Obj), (⟨Array.replicate (D + 1) o, {}⟩ : Heap).get? y = some oc → oc = o := fun y oc hy => by
    unfold Heap.get? at hy
    simp only [Array.getElem?_replicate] at hy
    by_cases l : y < D + 1
    · rw [if_pos l] at hy
      split at hy
      · cases hy
      · cases hy; rfl
    · rw [if_neg l] at hy
      cases hy
  have at0 : (⟨Array.replicate (D + 1) o, {}⟩ : Heap).get? D = some o := by
    unfold Heap.get?
    simp only [Array.getElem?_replicate]
    rw [if_pos (Nat.lt_succ_self D)]
    split
    · rename_i h1
      cases h1
      cases d
    · rfl
  have y : NdAt (⟨Array.replicate (D + 1) o, {}⟩ : Heap) D L := x.at fun o' h' => by rw [f] at h'; cases h'; exact at0
  have e : (fun h => NdAt h D L) = fun h : Heap => ∃ (oc : Obj) (vs : Array Value) (t : Tok), h.get? c = some oc ∧ oc.data = .fields vs ∧ vs[1]? = some (.str q t) := HO.ext.inj e
  rw [show NdAt (⟨Array.replicate (D + 1) o, {}⟩ : Heap) D L = _ from congrFun e _] at y
  obtain ⟨oc, vs, t, h1, h2, _⟩ := y
  rw [all _ _ h1, d] at h2
  cases h2
theorem paired_keys {L : NL3} {xs : List (NestedKey × Addr × Value)} (h : Paired PrV L xs) : xs.map (·.1) = L.map (·.1) := by
  induction h with
  | nil => rfl
  | cons a _ ih => rw [List.map_cons, List.map_cons, ih, a.1]
theorem paired_mem {L : NL3} {xs : List (NestedKey × Addr × Value)} (h : Paired PrV L xs) : ∀ q ∈ xs, ∃ p ∈ L, PrV p q := by
  induction h with
  | nil => intro q hq; cases hq
  | cons a _ ih =>
    intro q hq
    rcases List.mem_cons.mp hq with rfl | hq
    · exact ⟨_, List.mem_cons_self, a⟩
    · obtain ⟨p, hp, r⟩ := ih q hq
      exact ⟨p, List.mem_cons_of_mem _ hp, r⟩
theorem NdAt.of {P : Program} {w : World} {h : Heap} {D : Addr} {L : NL3} {xs : List (NestedKey × Addr × Value)} (hm : h.DictOfH (nestedKind P w) D xs) (pr : Paired PrV L xs) (hl : L.length ≤ sizeLine) (hs : (D == sysModules) = false) (nf : ∀ p ∈ L, NF p.1 ∧ p.1.depth ≤ 8) : NdAt h D L := by
  obtain ⟨o, es, ep, f, g, d, e, _, nd⟩ := hm
  refine ⟨hl, hs, by rw [← paired_keys pr]; exact nd, nf, xs, pr, o, es, ep, f, g, d, fun w' => ?_⟩
  rw [e]
  refine List.map_congr_left fun q hq => ?_
  obtain ⟨p, hp, r1, _⟩ := paired_mem pr q hq
  show (⟨NestedKey.hash w q.1, .ref q.2.1, q.2.2⟩ : DictEntry) = _
  rw [nf_hash w w' q.1 (r1 ▸ (nf p hp).1)]
/-- what is found at a key -/
def nAt (L : NL3) (k : NestedKey) : Option V := (L.find? fun p => decide (p.1 = k)).map (·.2.2)
def nPut (L : NL3) (k : NestedKey) (a : Addr) (v : V) : NL3 := if (nAt L k).isSome then L.map fun p => if p.1 = k then (p.1, p.2.1, v) else p else L ++ [(k, a, v)]
theorem paired_at {L : NL3} {xs : List (NestedKey × Addr × Value)} (h : Paired PrV L xs) (k : NestedKey) : (atKey xs k = none ∧ nAt L k = none) ∨ ∃ p v, atKey xs k = some p ∧ nAt L k = some v ∧ RelV v p.2 := by
  induction h with
  | nil => exact .inl ⟨rfl, rfl⟩
  | @cons p q l1 l2 a _ ih =>
    by_cases e : p.1 = k
    · refine .inr ⟨q.2, p.2.2, ?_, ?_, a.2.2⟩
      · unfold atKey; rw [List.find?_cons_of_pos (by rw [← a.1]; exact decide_eq_true e)]; rfl
      · unfold nAt; rw [List.find?_cons_of_pos (by simp [e])]; rfl
    · have h1 : atKey (q :: l2) k = atKey l2 k := by unfold atKey; rw [List.find?_cons_of_neg (by rw [← a.1]; simp [e])]
      have h2 : nAt (p :: l1) k = nAt l1 k := by unfold nAt; rw [List.find?_cons_of_neg (by simp [e])]
      rw [h1, h2]
      exact ih
/-! ### the operations -/
/-- a is the key k; the keys of L -/
def KeyIs (H : Hp) (k : NestedKey) (a : Addr) : Prop := ∀ (P : Program) (w : World) (h : Heap), HOk P w H h → NestedIs h k (.ref a)
def NKeys (H : Hp) (L : NL3) : Prop := ∀ p ∈ L, KeyIs H p.1 p.2.1
section
variable {X : Cx} {pins : List (Addr × Obj)} {σ : L2.St} {H : Hp} {s : Shared} {D a : Addr} {L : NL3} {k : NestedKey} {A : Around} {E : Value → Shared → Prop}
/-- k in d, k not in d -/
def rInN (neg : Bool) : R2 := fun x y H Q => ∃ (D a : Addr) (L : NL3) (k : NestedKey), x = .ref a ∧ y = .ref D ∧ H D = some (NdO D L) ∧ NKeys H L ∧ KeyIs H k a ∧ k.depth ≤ 8 ∧ Q (.bl (if neg then !(nAt L k).isSome else (nAt L k).isSome)) H
/-- d[k] -/
def rGetN : R2 := fun x y H Q => ∃ (D a : Addr) (L : NL3) (k : NestedKey) (v : V), x = .ref D ∧ y = .ref a ∧ H D = some (NdO D L) ∧ NKeys H L ∧ KeyIs H k a ∧ k.depth ≤ 8 ∧ nAt L k = some v ∧ Q v H
/-- d[k] = v -/
def sNPut (td ty tv : TE) : TS := fun D σ H => tv σ H fun v H1 => td σ H1 fun x H2 => ty σ H2 fun y H3 => ∃ (d a : Addr) (L : NL3) (k : NestedKey), x = .ref d ∧ y = .ref a ∧ H3 d = some (NdO d L) ∧ NKeys H3 L ∧ KeyIs H3 k a ∧ NF k ∧ k.depth ≤ 8 ∧ L.length < sizeLine ∧
  ((∃ h, NdAt h d (nPut L k a v)) → D.nx σ (upd H3 d (NdO d (nPut L k a v))))
/-- {} -/
def tDNewN : TE := fun _ H Q => ∀ p, H p = none → (∃ h, NdAt h p []) → Q (.ref p) (upd H p (NdO p []))
/-- len(d) -/
def rLenN : List V → Hp → VK → Prop := fun xs H Q => ∃ (D : Addr) (L : NL3), xs = [V.ref D] ∧ H D = some (NdO D L) ∧ NKeys H L ∧ Q (.int ((L.length : Nat) : Int)) H
end
end UL
/-! {k: v for t in iter if ..} whose keys are nested tuples of numbers and flags. -/
namespace UL
open PySem PySem.Spec PyProof.Rows L2
abbrev newD : Obj := { cls := .type "dict", data := .dict #[] }
/-- what the comprehension asks where it stores v at the key y -/
def PutN (D : Addr) (y z : V) (H : Hp) (Nx : Hp → Prop) : Prop := ∃ (a : Addr) (L : NL3) (k : NestedKey), y = .ref a ∧ H D = some (NdO D L) ∧ NKeys H L ∧ KeyIs H k a ∧ NF k ∧ k.depth ≤ 8 ∧ L.length < sizeLine ∧
  ((∃ h, NdAt h D (nPut L k a z)) → Nx (upd H D (NdO D (nPut L k a z))))
/-- the promise: D the new dict -/
def tDcN (wi : TI) (g : TG) (tt : TT) (tk tv : TE) (vs : List Nat) : TE := fun σ H Q => wi σ H fun J H1 => ∀ D, H1 D = none → (∃ h, NdAt h D []) → ∃ W : Nat → Nat → Hp → Prop, (∃ m, W 0 m (upd H1 D (NdO D []))) ∧
  ∀ i m H, W i m H → (J.stop i H ∧ Q (.ref D) H) ∨ (J.go i H ∧ ∃ Nx : Hp → Prop, (∀ H', Nx H' → ∃ m', m' < m ∧ W (i + 1) m' H') ∧
    ∀ x H', J.yld i H x H' → g x (wipe σ vs) H' fun σ2 H2 => wipe σ2 vs = wipe σ vs ∧ tt σ2 H2 fun b H3 => if b = true then tk σ2 H3 fun y H4 => tv σ2 H4 fun z H5 => PutN D y z H5 Nx else Nx H3)
section
variable {X : Cx}
end
end UL
/-! UL: a def's text told over data: what the values of its names are as trees, no heap in sight. -/
namespace UL
open PySem PySem.Spec PyProof.Rows L2
/-- data: what a value is, read down to its leaves; val: a value by itself -/
inductive Dt where
  | non | bl (b : Bool) | int (i : Int) | str (z : Str)
  | lst (ds : List Dt) | tup (ds : List Dt)
  | obj (C : Addr) (ks : List Str) (ds : List Dt)
  | dct (ks : List (List Key)) (ds : List Dt)
  | nd (ks ds : List Dt)
  | dk (ks : List Key) (ds : List Dt)
  | val (v : V)
  | sql (ns : List Int)
mutual
/-- data as a key: nested tuples of numbers and flags -/
def Dt.nk : Dt → Option NestedKey
  | .non => some .none
  | .bl b => some (.num (if b then 1 else 0))
  | .int i => some (.num i)
  | .tup ds => (Dt.nks ds).map .tup
  | .str _ => none
  | .lst _ => none
  | .obj _ _ _ => none
  | .dct _ _ => none
  | .nd _ _ => none
  | .dk _ _ => none
  | .val _ => none
  | .sql _ => none
def Dt.nks : List Dt → Option (List NestedKey)
  | [] => some []
  | d :: ds => match d.nk, Dt.nks ds with
    | some x, some xs => some (x :: xs)
    | _, _ => none
end
mutual
/-- v is d in H; ok: where its lists, dicts and instances may stand -/
inductive R (K : PySem.W.Frag) (ok : Addr → Prop) (H : Hp) : Dt → V → Prop
  | non : R K ok H .non .non
  | bl (b : Bool) : R K ok H (.bl b) (.bl b)
  | int (i : Int) : R K ok H (.int i) (.int i)
  | str (z : Str) : R K ok H (.str z) (.str z)
  | lst {a : Addr} {us : List V} {ds : List Dt} : H a = some (.lst us) → ok a → Rs K ok H ds us → R K ok H (.lst ds) (.ref a)
  | tup {a : Addr} {us : List V} {ds : List Dt} : H a = some (.tup us) → Rs K ok H ds us → R K ok H (.tup ds) (.ref a)
  | obj {a C dx : Addr} {gs : List (Str × V)} {ks : List Str} {us : List V} {ds : List Dt} : H a = some (.ins C dx gs) → ks.map (fun f => gs.lookup f) = us.map some → (∀ f, f ∉ ks → gs.lookup f = none) → Rs K ok H ds us → R K ok H (.obj C ks ds) (.ref a)
  | dct {a : Addr} {kvs : List (List Key × V)} {ds : List Dt} : H a = some (.dT kvs) → Rs K ok H ds (kvs.map (·.2)) → R K ok H (.dct (kvs.map (·.1)) ds) (.ref a)
  | nd {a : Addr} {L : NL3} {ks ds : List Dt} : H a = some (NdO a L) → ok a → (∃ h, NdAt h a L) → Rs K ok H ks (L.map fun p => V.ref p.2.1) → Dt.nks ks = some (L.map (·.1)) → Rs K ok H ds (L.map (·.2.2)) → R K ok H (.nd ks ds) (.ref a)
  | dk {a : Addr} {kvs : List (Key × V)} {ds : List Dt} : H a = some (.dK kvs) → ok a → Rs K ok H ds (kvs.map (·.2)) → R K ok H (.dk (kvs.map (·.1)) ds) (.ref a)
  | val (v : V) : R K ok H (.val v) v
  | sql {a : Addr} {ns : List Int} : Rd H a (.lst (ns.map V.int)) → ok a → R K ok H (.sql ns) (.ref a)
  | sqk {a : Addr} {ns : List Int} : (∃ (o : Obj) (its : Array Value) (n : Nat), K.lookup a = some o ∧ o.cls = .type "list" ∧ o.dict = none ∧ o.data = .seq its n ∧ its.size ≤ sizeLine ∧ Vals (ns.map V.int) its.toList) → R K ok H (.sql ns) (.ref a)
inductive Rs (K : PySem.W.Frag) (ok : Addr → Prop) (H : Hp) : List Dt → List V → Prop
  | nil : Rs K ok H [] []
  | cons {d : Dt} {ds : List Dt} {v : V} {vs : List V} : R K ok H d v → Rs K ok H ds vs → Rs K ok H (d :: ds) (v :: vs)
end
/-- no code object's table; nothing but one; all but those stands on -/
def NT (o : HO) : Prop := ∀ ps, o ≠ .tbl ps
def Fre (H : Hp) (a : Addr) : Prop := ∀ o, NT o → H a ≠ some o
structure Ex (T : List NdefX.NTab) (H H' : Hp) : Prop where
  k : ∀ a o, NT o → H a = some o → H' a = some o
  tab : NdefX.TabsN T H → NdefX.TabsN T H'
instance {T : List NdefX.NTab} {H H' : Hp} : CoeFun (Ex T H H') fun _ => ∀ a o, NT o → H a = some o → H' a = some o := ⟨Ex.k⟩
theorem tabs_put {T : List NdefX.NTab} {H : Hp} {p : Addr} {o o' : HO} (e : H p = some o) (n1 : NT o) (n2 : ∀ c q, o ≠ LamX.CodeO c q) (h : NdefX.TabsN T H) : NdefX.TabsN T (upd H p o') := fun q hq => by
  obtain ⟨ps, h1, h2, h3⟩ := h q hq
  refine ⟨ps, ?_, h2, fun pos cv hc => ?_⟩
  · rw [upd_ne (fun z => by rw [z, e] at h1; cases h1; exact n1 _ rfl)]
    exact h1
  · obtain ⟨c, e1, e2⟩ := h3 pos cv hc
    refine ⟨c, e1, ?_⟩
    rw [upd_ne (fun z => by rw [z, e] at e2; exact n2 _ _ (Option.some.inj e2))]
    exact e2
theorem nc_lst {us : List V} : ∀ c q, HO.lst us ≠ LamX.CodeO c q := fun c q z => by
  unfold LamX.CodeO at z
  cases z
theorem tabs_lst {T : List NdefX.NTab} {H : Hp} {p : Addr} {us : List V} {o' : HO} (e : H p = some (.lst us)) (h : NdefX.TabsN T H) : NdefX.TabsN T (upd H p o') := tabs_put e (fun _ z => nomatch z) nc_lst h
theorem nt_lst {us : List V} : NT (.lst us) := fun _ z => nomatch z
theorem nt_tup {us : List V} : NT (.tup us) := fun _ z => nomatch z
theorem nt_ins {C dx : Addr} {gs : List (Str × V)} : NT (.ins C dx gs) := fun _ z => nomatch z
theorem nt_dT {kvs : List (List Key × V)} : NT (.dT kvs) := fun _ z => nomatch z
theorem nt_frz {o : Obj} {u : HO} : NT (.frz o u) := fun _ z => nomatch z
theorem nt_nd {D : Addr} {L : NL3} : NT (NdO D L) := fun _ z => by unfold NdO at z; cases z
theorem nt_dK {kvs : List (Key × V)} : NT (.dK kvs) := fun _ z => nomatch z
/-- no list, no dict that may change -/
structure NL (o : HO) : Prop where
  lst : ∀ us, o ≠ .lst us
  nd : ∀ D L, o ≠ NdO D L
  dk : ∀ kvs, o ≠ .dK kvs
theorem nl_tup {us : List V} : NL (.tup us) := ⟨fun _ z => (nomatch z), (fun _ _ z => by unfold NdO at z; cases z), fun _ z => (nomatch z)⟩
theorem nl_ins {C dx : Addr} {gs : List (Str × V)} : NL (.ins C dx gs) := ⟨fun _ z => (nomatch z), (fun _ _ z => by unfold NdO at z; cases z), fun _ z => (nomatch z)⟩
theorem nl_dT {kvs : List (List Key × V)} : NL (.dT kvs) := ⟨fun _ z => (nomatch z), (fun _ _ z => by unfold NdO at z; cases z), fun _ z => (nomatch z)⟩
theorem nl_xd {fs : List (Str × V)} : NL (.xd fs) := ⟨fun _ z => (nomatch z), (fun _ _ z => by unfold NdO at z; cases z), fun _ z => (nomatch z)⟩
theorem nl_frz {o : Obj} {u : HO} : NL (.frz o u) := ⟨fun _ z => (nomatch z), (fun _ _ z => by unfold NdO at z; cases z), fun _ z => (nomatch z)⟩
theorem Fre.of {H : Hp} {a : Addr} (h : H a = none) : Fre H a := fun o _ z => by rw [h] at z; cases z
theorem nfre {H : Hp} {a : Addr} {o : HO} (e : H a = some o) (n : NT o) : ¬ Fre H a := fun f => f o n e
variable {T : List NdefX.NTab}
theorem Ex.of {H H' : Hp} (k : Same H H') : Ex T H H' := ⟨fun a o _ e => k a o e, fun h => h.ext k⟩
theorem Ex.refl {H : Hp} : Ex T H H := ⟨fun _ _ _ e => e, id⟩
theorem Ex.trans {H H1 H2 : Hp} (a : Ex T H H1) (b : Ex T H1 H2) : Ex T H H2 := ⟨fun x o n e => b x o n (a x o n e), fun h => b.tab (a.tab h)⟩
theorem Ex.fre {H H' : Hp} (k : Ex T H H') {a : Addr} (f : Fre H' a) : Fre H a := fun o n e => f o n (k a o n e)
/-- what stands at such places, and each tuple, stands on -/
structure Kp (ok : Addr → Prop) (H H' : Hp) : Prop where
  keep : ∀ a o, NT o → H a = some o → (ok a ∨ NL o) → H' a = some o
  dom : ∀ a, Fre H' a → Fre H a
theorem Kp.ex {ok : Addr → Prop} {H H' : Hp} (k : Ex T H H') : Kp ok H H' := ⟨fun a o n e _ => k a o n e, fun a f => k.fre f⟩
theorem Kp.same {ok : Addr → Prop} {H H' : Hp} (k : Same H H') : Kp ok H H' := .ex (T := []) (.of k)
theorem Kp.refl {ok : Addr → Prop} {H : Hp} : Kp ok H H := .ex (T := []) .refl
/-- the places may become more -/
structure Mv (ok : Addr → Prop) (H : Hp) (ok' : Addr → Prop) (H' : Hp) : Prop where
  kp : Kp ok H H'
  ok : ∀ a, ¬ Fre H a → ok a → ok' a
theorem Mv.refl {ok : Addr → Prop} {H : Hp} : Mv ok H ok H := ⟨.refl, fun _ _ h => h⟩
theorem Mv.ex {ok : Addr → Prop} {H H' : Hp} (k : Ex T H H') : Mv ok H ok H' := ⟨.ex k, fun _ _ h => h⟩
theorem Mv.same {ok : Addr → Prop} {H H' : Hp} (k : Same H H') : Mv ok H ok H' := .ex (T := []) (.of k)
theorem Mv.of {ok : Addr → Prop} {H H' : Hp} (k : Kp ok H H') : Mv ok H ok H' := ⟨k, fun _ _ h => h⟩
theorem Mv.trans {o1 o2 o3 : Addr → Prop} {H1 H2 H3 : Hp} (a : Mv o1 H1 o2 H2) (b : Mv o2 H2 o3 H3) : Mv o1 H1 o3 H3 := by
  have ne : ∀ {x : Addr}, ¬ Fre H1 x → ¬ Fre H2 x := fun h z => h (a.kp.dom _ z)
  refine ⟨⟨fun x o n e h => ?_, fun x e => a.kp.dom x (b.kp.dom x e)⟩, fun x e h => b.ok x (ne e) (a.ok x e h)⟩
  exact b.kp.keep x o n (a.kp.keep x o n e h) (h.imp (fun q => a.ok x (nfre e n) q) id)
section
variable {K : PySem.W.Frag} {T : List NdefX.NTab} {ok ok' : Addr → Prop} {H H' : Hp}
theorem sqT_mv {a : Addr} {us : List V} (m : Mv ok H ok' H') (h : SqT K H a us) : SqT K H' a us :=
  h.imp (fun r => r.imp (fun e => m.kp.keep _ _ nt_tup e (.inr nl_tup)) fun ⟨o, e⟩ => ⟨o, m.kp.keep _ _ nt_frz e (.inr nl_frz)⟩) id
mutual
theorem R.mv (m : Mv ok H ok' H') : ∀ {d : Dt} {v : V}, R K ok H d v → R K ok' H' d v
  | _, _, .non => .non
  | _, _, .bl b => .bl b
  | _, _, .int i => .int i
  | _, _, .str z => .str z
  | _, _, .lst e q t => .lst (m.kp.keep _ _ nt_lst e (.inl q)) (m.ok _ (nfre e nt_lst) q) (Rs.mv m t)
  | _, _, .tup e t => .tup (m.kp.keep _ _ nt_tup e (.inr nl_tup)) (Rs.mv m t)
  | _, _, .obj e f n t => .obj (m.kp.keep _ _ nt_ins e (.inr nl_ins)) f n (Rs.mv m t)
  | _, _, .dct e t => .dct (m.kp.keep _ _ nt_dT e (.inr nl_dT)) (Rs.mv m t)
  | _, _, .nd e q x r1 nk r2 => .nd (m.kp.keep _ _ nt_nd e (.inl q)) (m.ok _ (nfre e nt_nd) q) x (Rs.mv m r1) nk (Rs.mv m r2)
  | _, _, .dk e q r => .dk (m.kp.keep _ _ nt_dK e (.inl q)) (m.ok _ (nfre e nt_dK) q) (Rs.mv m r)
  | _, _, .val v => .val v
  | _, _, .sql e q => .sql (e.imp (fun e => m.kp.keep _ _ nt_lst e (.inl q)) fun ⟨o, e⟩ => ⟨o, m.kp.keep _ _ nt_frz e (.inr nl_frz)⟩) (m.ok _ (e.elim (fun e => nfre e nt_lst) fun ⟨_, e⟩ => nfre e nt_frz) q)
  | _, _, .sqk e => .sqk e
theorem Rs.mv (m : Mv ok H ok' H') : ∀ {ds : List Dt} {vs : List V}, Rs K ok H ds vs → Rs K ok' H' ds vs
  | _, _, .nil => .nil
  | _, _, .cons h t => .cons (R.mv m h) (Rs.mv m t)
end
theorem R.ex {d : Dt} {v : V} (k : Ex T H H') (h : R K ok H d v) : R K ok H' d v := h.mv (.ex k)
theorem Rs.ex {d : List Dt} {v : List V} (k : Ex T H H') (h : Rs K ok H d v) : Rs K ok H' d v := h.mv (.ex k)
theorem R.same {d : Dt} {v : V} (k : Same H H') (h : R K ok H d v) : R K ok H' d v := h.mv (.same k)
theorem Rs.same {d : List Dt} {v : List V} (k : Same H H') (h : Rs K ok H d v) : Rs K ok H' d v := h.mv (.same k)
theorem R.okm {d : Dt} {v : V} (k : ∀ a, ¬ Fre H a → ok a → ok' a) (h : R K ok H d v) : R K ok' H d v := h.mv ⟨.refl, k⟩
theorem Rs.okm {d : List Dt} {v : List V} (k : ∀ a, ¬ Fre H a → ok a → ok' a) (h : Rs K ok H d v) : Rs K ok' H d v := h.mv ⟨.refl, k⟩
theorem Rs.len : ∀ {ds : List Dt} {vs : List V}, Rs K ok H ds vs → vs.length = ds.length
  | _, _, .nil => rfl
  | _, _, .cons _ t => by rw [List.length_cons, List.length_cons, Rs.len t]
theorem Rs.get : ∀ {ds : List Dt} {vs : List V} {i : Nat} {v : V}, Rs K ok H ds vs → vs[i]? = some v → ∃ d, ds[i]? = some d ∧ R K ok H d v
  | _, _, _, _, .nil, e => by simp at e
  | _, _, 0, v, .cons h _, e => by
    cases e
    exact ⟨_, rfl, h⟩
  | _, _, i + 1, v, .cons _ t, e => Rs.get (i := i) t e
theorem Rs.getD : ∀ {ds : List Dt} {vs : List V} {i : Nat} {d : Dt}, Rs K ok H ds vs → ds[i]? = some d → ∃ v, vs[i]? = some v ∧ R K ok H d v
  | _, _, _, _, .nil, e => by simp at e
  | _, _, 0, v, .cons h _, e => by
    cases e
    exact ⟨_, rfl, h⟩
  | _, _, i + 1, v, .cons _ t, e => Rs.getD (i := i) t e
theorem Rs.append : ∀ {ds es : List Dt} {vs us : List V}, Rs K ok H ds vs → Rs K ok H es us → Rs K ok H (ds ++ es) (vs ++ us)
  | _, _, _, _, .nil, s => s
  | _, _, _, _, .cons h t, s => .cons h (Rs.append t s)
theorem Rs.snoc {ds : List Dt} {vs : List V} {d : Dt} {v : V} (h : Rs K ok H ds vs) (q : R K ok H d v) : Rs K ok H (ds ++ [d]) (vs ++ [v]) := h.append (.cons q .nil)
theorem R.listSq {ds : List Dt} {v : V} (h : R K ok H (.lst ds) v) : ∃ a us, v = .ref a ∧ H a = some (.lst us) ∧ ok a ∧ Rs K ok H ds us := by
  cases h with
  | lst e q t => exact ⟨_, _, rfl, e, q, t⟩
theorem R.tupE {ds : List Dt} {v : V} (h : R K ok H (.tup ds) v) : ∃ a us, v = .ref a ∧ H a = some (.tup us) ∧ Rs K ok H ds us := by
  cases h with
  | tup h t => exact ⟨_, _, rfl, h, t⟩
theorem R.tupSq {ds : List Dt} {v : V} (h : R K ok H (.tup ds) v) : ∃ a us, v = .ref a ∧ SqT K H a us ∧ Rs K ok H ds us := by
  cases h with
  | tup h t => exact ⟨_, _, rfl, .of h, t⟩
theorem R.intE {i : Int} {v : V} (h : R K ok H (.int i) v) : v = .int i := by cases h; rfl
theorem R.strE {z : Str} {v : V} (h : R K ok H (.str z) v) : v = .str z := by cases h; rfl
theorem R.blE {b : Bool} {v : V} (h : R K ok H (.bl b) v) : v = .bl b := by cases h; rfl
theorem R.nonE {v : V} (h : R K ok H .non v) : v = .non := by cases h; rfl
theorem R.newT {p : Addr} {us : List V} {ds : List Dt} (hn : H p = none) (h : Rs K ok H ds us) : R K ok (upd H p (.tup us)) (.tup ds) (.ref p) := .tup upd_same (h.same fun b o e => by rw [upd_ne (ne_of_none e hn)]; exact e)
end
theorem same_up {H : Hp} {p : Addr} {o : HO} (hn : H p = none) : Same H (upd H p o) := fun b u e => by rw [upd_ne (ne_of_none e hn)]; exact e
/-! ### data as the library's -/
mutual
def Dt.py : Dt → Option PyData
  | .non => some .none
  | .bl b => some (.bool b)
  | .int i => some (.int i)
  | .str z => some (.str z)
  | .lst ds => (Dt.pys ds).map .list
  | .tup ds => (Dt.pys ds).map .tuple
  | .obj _ _ _ => none
  | .dct _ _ => none
  | .nd _ _ => none
  | .dk _ _ => none
  | .val _ => none
  | .sql _ => none
def Dt.pys : List Dt → Option (List PyData)
  | [] => some []
  | d :: ds => match d.py, Dt.pys ds with
    | some x, some xs => some (x :: xs)
    | _, _ => none
end
mutual
theorem R.dp {K : PySem.W.Frag} {ok : Addr → Prop} {H : Hp} : ∀ {d : Dt} {v : V}, R K ok H d v → ∀ {x : PyData}, d.py = some x → Dp K H v x
  | _, _, .non, _, e => by cases e; exact .non
  | _, _, .bl b, _, e => by cases e; exact .bl b
  | _, _, .int i, _, e => by cases e; exact .int i
  | _, _, .str z, _, e => by cases e; exact .str z
  | .lst ds, _, .lst h _ t, x, e => by
    have e : (Dt.pys ds).map PyData.list = some x := by rw [← e]; unfold Dt.py; rfl
    cases q : Dt.pys ds with
    | none => rw [q] at e; cases e
    | some xs =>
      rw [q] at e
      cases e
      exact .lst (.of h) (Rs.dp t q)
  | .tup ds, _, .tup h t, x, e => by
    have e : (Dt.pys ds).map PyData.tuple = some x := by rw [← e]; unfold Dt.py; rfl
    cases q : Dt.pys ds with
    | none => rw [q] at e; cases e
    | some xs =>
      rw [q] at e
      cases e
      exact .tup (.of h) (Rs.dp t q)
  | _, _, .obj _ _ _ _, _, e => by unfold Dt.py at e; cases e
  | _, _, .dct _ _, _, e => by unfold Dt.py at e; cases e
  | _, _, .nd _ _ _ _ _ _, _, e => by unfold Dt.py at e; cases e
  | _, _, .dk _ _ _, _, e => by unfold Dt.py at e; cases e
  | _, _, .val v, _, e => by unfold Dt.py at e; cases e
  | _, _, .sql _ _, _, e => by unfold Dt.py at e; cases e
  | _, _, .sqk _, _, e => by unfold Dt.py at e; cases e
theorem Rs.dp {K : PySem.W.Frag} {ok : Addr → Prop} {H : Hp} : ∀ {ds : List Dt} {vs : List V}, Rs K ok H ds vs → ∀ {xs : List PyData}, Dt.pys ds = some xs → DpAll K H vs xs
  | _, _, .nil, _, e => by unfold Dt.pys at e; cases e; exact .nil
  | d :: ds, _, .cons h t, xs, e => by
    unfold Dt.pys at e
    cases q1 : d.py with
    | none => rw [q1] at e; cases e
    | some x =>
      cases q2 : Dt.pys ds with
      | none => rw [q1, q2] at e; cases e
      | some ys =>
        rw [q1, q2] at e
        cases e
        exact .cons (R.dp h q1) (Rs.dp t q2)
end
/-! ### data as keys -/
mutual
theorem R.nested {K : PySem.W.Frag} {ok : Addr → Prop} {H : Hp} {P : Program} {w : World} {h : Heap} (hok : HOk P w H h) : ∀ {d : Dt} {v : V}, R K ok H d v → ∀ {k : NestedKey} {u : Value}, d.nk = some k → RelV v u → NestedIs h k u
  | _, _, .non, _, _, e, r => by
    unfold Dt.nk at e; cases e
    obtain rfl : _ = Value.none := r
    exact .none
  | _, _, .bl b, _, _, e, r => by
    unfold Dt.nk at e; cases e
    obtain rfl : _ = Value.bool b := r
    exact .bool rfl
  | _, _, .int i, _, _, e, r => by
    unfold Dt.nk at e; cases e
    obtain ⟨t, rfl⟩ := r
    exact .int i t
  | _, _, .str z, _, _, e, _ => by unfold Dt.nk at e; cases e
  | _, _, .lst _ _ _, _, _, e, _ => by unfold Dt.nk at e; cases e
  | .tup ds, .ref a, .tup (us := us) e1 t, k, u, e, r => by
    obtain rfl : u = Value.ref a := r
    have e : (Dt.nks ds).map NestedKey.tup = some k := by rw [← e]; unfold Dt.nk; rfl
    obtain ⟨_, its, rv, o, h1, h2, n, h3⟩ := (show ObjOk P w H h a (.tup us) from hok a _ e1)
    cases q : Dt.nks ds with
    | none => rw [q] at e; cases e
    | some ks =>
      rw [q] at e
      cases e
      exact .tup h1 h2 h3 (by simpa using Rs.nested hok t q rv)
  | _, _, .obj _ _ _ _, _, _, e, _ => by unfold Dt.nk at e; cases e
  | _, _, .dct _ _, _, _, e, _ => by unfold Dt.nk at e; cases e
  | _, _, .nd _ _ _ _ _ _, _, _, e, _ => by unfold Dt.nk at e; cases e
  | _, _, .dk _ _ _, _, _, e, _ => by unfold Dt.nk at e; cases e
  | _, _, .val _, _, _, e, _ => by unfold Dt.nk at e; cases e
  | _, _, .sql _ _, _, _, e, _ => by unfold Dt.nk at e; cases e
  | _, _, .sqk _, _, _, e, _ => by unfold Dt.nk at e; cases e
theorem Rs.nested {K : PySem.W.Frag} {ok : Addr → Prop} {H : Hp} {P : Program} {w : World} {h : Heap} (hok : HOk P w H h) : ∀ {ds : List Dt} {vs : List V}, Rs K ok H ds vs → ∀ {ks : List NestedKey} {us : List Value}, Dt.nks ds = some ks → Vals vs us → NestedAll h ks us
  | _, _, .nil, _, _, e, r => by
    unfold Dt.nks at e; cases e
    cases r
    exact .nil
  | d :: ds, _, .cons hd t, ks, us, e, r => by
    unfold Dt.nks at e
    cases q1 : d.nk with
    | none => rw [q1] at e; cases e
    | some x =>
      cases q2 : Dt.nks ds with
      | none => rw [q1, q2] at e; cases e
      | some ys =>
        rw [q1, q2] at e
        cases e
        cases r with
        | cons rv rt => exact .cons (R.nested hok hd q1 rv) (Rs.nested hok t q2 rt)
end
mutual
theorem nk_nf : ∀ {d : Dt} {k : NestedKey}, d.nk = some k → NF k
  | .non, _, e => by unfold Dt.nk at e; cases e; unfold NF; trivial
  | .bl _, _, e => by unfold Dt.nk at e; cases e; unfold NF; trivial
  | .int _, _, e => by unfold Dt.nk at e; cases e; unfold NF; trivial
  | .tup ds, k, e => by
    have e : (Dt.nks ds).map NestedKey.tup = some k := by rw [← e]; unfold Dt.nk; rfl
    cases q : Dt.nks ds with
    | none => rw [q] at e; cases e
    | some ks =>
      rw [q] at e
      cases e
      unfold NF
      exact nks_nf q
  | .str _, _, e => by unfold Dt.nk at e; cases e
  | .lst _, _, e => by unfold Dt.nk at e; cases e
  | .obj _ _ _, _, e => by unfold Dt.nk at e; cases e
  | .dct _ _, _, e => by unfold Dt.nk at e; cases e
  | .nd _ _, _, e => by unfold Dt.nk at e; cases e
  | .dk _ _, _, e => by unfold Dt.nk at e; cases e
  | .val _, _, e => by unfold Dt.nk at e; cases e
  | .sql _, _, e => by unfold Dt.nk at e; cases e
theorem nks_nf : ∀ {ds : List Dt} {ks : List NestedKey}, Dt.nks ds = some ks → NFs ks
  | [], _, e => by unfold Dt.nks at e; cases e; unfold NFs; trivial
  | d :: ds, ks, e => by
    unfold Dt.nks at e
    cases q1 : d.nk with
    | none => rw [q1] at e; cases e
    | some x =>
      cases q2 : Dt.nks ds with
      | none => rw [q1, q2] at e; cases e
      | some ys =>
        rw [q1, q2] at e
        cases e
        unfold NFs
        exact ⟨nk_nf q1, nks_nf q2⟩
end
end UL
namespace UL
open PySem PySem.Spec PyProof.Rows L2
/-- the pool that draws are made from: a list of three ints at such a place -/
def PlAt (H : Hp) (p : Addr) : Prop := ∃ x y z : Int, H p = some (.lst [.int x, .int y, .int z])
abbrev Env := List (Option Dt)
/-- a def that runs: its entry's heap, where its arguments' lists stand, the places that may change, the pools lent to it, the slots of its own lists, of its pools, their places -/
structure Ct where
  H0 : Hp
  ok0 : Addr → Prop
  L : Addr → Prop
  LP : Addr → Prop
  O : List Nat
  Pl : List Nat
  A : Nat → Addr
  T : List NdefX.NTab
def Ct.base (C : Ct) (a : Addr) : Prop := (C.ok0 a ∧ ¬ C.L a) ∨ Fre C.H0 a
def Ct.ok (C : Ct) (a : Addr) : Prop := C.base a ∧ ∀ i, i ∈ C.O ∨ i ∈ C.Pl → a ≠ C.A i
/-- what an own thing is: a list, a dict -/
inductive OwnD (K : PySem.W.Frag) (ok : Addr → Prop) (H : Hp) (a : Addr) : Dt → HO → Prop
  | lst {us : List V} {ds : List Dt} : Rs K ok H ds us → OwnD K ok H a (.lst ds) (.lst us)
  | nd {L : NL3} {ks ds : List Dt} : (∃ h, NdAt h a L) → Rs K ok H ks (L.map fun p => V.ref p.2.1) → Dt.nks ks = some (L.map (·.1)) → Rs K ok H ds (L.map (·.2.2)) → OwnD K ok H a (.nd ks ds) (NdO a L)
  | dk {kvs : List (Key × V)} {ds : List Dt} : Rs K ok H ds (kvs.map (·.2)) → OwnD K ok H a (.dk (kvs.map (·.1)) ds) (.dK kvs)
theorem OwnD.mv {K : PySem.W.Frag} {ok ok' : Addr → Prop} {H H' : Hp} {a : Addr} {d : Dt} {o : HO} (m : Mv ok H ok' H') (h : OwnD K ok H a d o) : OwnD K ok' H' a d o := by
  cases h with
  | lst r => exact .lst (r.mv m)
  | nd x r1 nk r2 => exact .nd x (r1.mv m) nk (r2.mv m)
  | dk r => exact .dk (r.mv m)
theorem OwnD.nt {K : PySem.W.Frag} {ok : Addr → Prop} {H : Hp} {a : Addr} {d : Dt} {o : HO} (h : OwnD K ok H a d o) : NT o := by
  cases h with
  | lst r => exact nt_lst
  | nd x r1 nk r2 => exact nt_nd
  | dk r => exact nt_dK
theorem OwnD.nl {K : PySem.W.Frag} {ok : Addr → Prop} {H : Hp} {a : Addr} {d : Dt} {o : HO} (h : OwnD K ok H a d o) : ¬ NL o := fun z => by
  cases h with
  | lst r => exact z.lst _ rfl
  | nd x r1 nk r2 => exact z.nd _ _ rfl
  | dk r => exact z.dk _ rfl
theorem OwnD.nc {K : PySem.W.Frag} {ok : Addr → Prop} {H : Hp} {a : Addr} {d : Dt} {o : HO} (h : OwnD K ok H a d o) : ∀ c q, o ≠ LamX.CodeO c q := by
  cases h with
  | lst r => exact nc_lst
  | nd x r1 nk r2 => exact ndO_code x.choose_spec
  | dk r => exact fun c q z => by unfold LamX.CodeO at z; cases z
theorem OwnD.r {K : PySem.W.Frag} {ok : Addr → Prop} {H : Hp} {a : Addr} {d : Dt} {o : HO} (h : OwnD K ok H a d o) (e : H a = some o) (q : ok a) : R K ok H d (.ref a) := by
  cases h with
  | lst r => exact .lst e q r
  | nd x r1 nk r2 => exact .nd e q x r1 nk r2
  | dk r => exact .dk e q r
theorem OwnD.l {K : PySem.W.Frag} {ok : Addr → Prop} {H : Hp} {a : Addr} {ds : List Dt} {o : HO} (h : OwnD K ok H a (.lst ds) o) : ∃ us, o = .lst us ∧ Rs K ok H ds us := by
  cases h with
  | lst r => exact ⟨_, rfl, r⟩
structure EnvR (K : PySem.W.Frag) (C : Ct) (σ : L2.St) (H : Hp) (ρ : Env) : Prop where
  len : σ.length = ρ.length
  keep : ∀ a o, NT o → C.H0 a = some o → ¬ C.L a → H a = some o
  dom : ∀ a, Fre H a → Fre C.H0 a
  lent : ∀ a, C.LP a → PlAt H a ∧ C.L a
  tab : NdefX.TabsN C.T H
  sh : ∀ i d, i ∉ C.O → i ∉ C.Pl → ρ[i]? = some (some d) → ∃ v, σ[i]? = some (some v) ∧ R K C.ok H d v
  own : ∀ i ∈ C.O, ∃ d o, ρ[i]? = some (some d) ∧ σ[i]? = some (some (.ref (C.A i))) ∧ H (C.A i) = some o ∧ OwnD K C.ok H (C.A i) d o ∧ (Fre C.H0 (C.A i) ∨ C.L (C.A i)) ∧ ¬ C.LP (C.A i)
  pls : ∀ i ∈ C.Pl, i < ρ.length ∧ σ[i]? = some (some (.ref (C.A i))) ∧ PlAt H (C.A i) ∧ (Fre C.H0 (C.A i) ∨ C.LP (C.A i))
  dj : ∀ i ∈ C.O, i ∉ C.Pl
  inj : ∀ i j, i ∈ C.O ∨ i ∈ C.Pl → j ∈ C.O ∨ j ∈ C.Pl → C.A i = C.A j → i = j
/-- what an expression may do to the heap: new objects; the pools turn where m is false -/
structure Gr (m : Bool) (C : Ct) (H H' : Hp) : Prop where
  keep : ∀ a o, NT o → H a = some o → (m = false → ∀ i ∈ C.Pl, a ≠ C.A i) → H' a = some o
  pl : ∀ i ∈ C.Pl, PlAt H (C.A i) → PlAt H' (C.A i)
  dom : ∀ a, Fre H' a → Fre H a
  tab : NdefX.TabsN C.T H → NdefX.TabsN C.T H'
section
variable {K : PySem.W.Frag} {T : List NdefX.NTab} {C : Ct} {σ : L2.St} {H H' H'' : Hp} {ρ : Env} {m m' : Bool}
theorem PlAt.ex {p : Addr} (k : Ex T H H') (h : PlAt H p) : PlAt H' p := let ⟨x, y, z, e⟩ := h; ⟨x, y, z, k _ _ nt_lst e⟩
theorem PlAt.same {p : Addr} (k : Same H H') (h : PlAt H p) : PlAt H' p := h.ex (T := []) (.of k)
theorem Gr.ex (k : Ex C.T H H') : Gr m C H H' := ⟨fun a o n e _ => k a o n e, fun _ _ h => h.ex k, fun _ e => k.fre e, k.tab⟩
theorem Gr.of (k : Same H H') : Gr m C H H' := .ex (.of k)
theorem Gr.refl : Gr m C H H := .of (Same.refl H)
theorem Gr.same (g : Gr true C H H') : Ex C.T H H' := ⟨fun a o n e => g.keep a o n e (fun z => nomatch z), g.tab⟩
theorem Gr.weak (g : Gr m C H H') : Gr false C H H' := ⟨fun a o n e h => g.keep a o n e fun _ => h rfl, g.pl, g.dom, g.tab⟩
theorem Gr.trans (a : Gr m C H H') (b : Gr m' C H' H'') : Gr (m && m') C H H'' := ⟨fun x o n e h => by
    refine b.keep x o n (a.keep x o n e fun z => h (by rw [z]; rfl)) fun z => h (by rw [z, Bool.and_false]),
  fun i hi h => b.pl i hi (a.pl i hi h), fun x e => a.dom x (b.dom x e), fun h => b.tab (a.tab h)⟩
theorem EnvR.place (E : EnvR K C σ H ρ) {i : Nat} (hi : i ∈ C.O ∨ i ∈ C.Pl) : ∃ o, H (C.A i) = some o ∧ NT o := by
  rcases hi with hi | hi
  · obtain ⟨_, o, _, _, e, r, _⟩ := E.own i hi
    exact ⟨o, e, r.nt⟩
  · obtain ⟨_, _, ⟨x, y, z, e⟩, _⟩ := E.pls i hi
    exact ⟨_, e, nt_lst⟩
/-- .. a list -/
theorem EnvR.ownL (E : EnvR K C σ H ρ) {i : Nat} {ds : List Dt} (hi : i ∈ C.O) (e : ρ[i]? = some (some (.lst ds))) : ∃ us, σ[i]? = some (some (.ref (C.A i))) ∧ H (C.A i) = some (.lst us) ∧ Rs K C.ok H ds us := by
  obtain ⟨d, o, e1, e2, e3, r0, _⟩ := E.own i hi
  rw [e] at e1
  cases e1
  obtain ⟨us, rfl, r1⟩ := r0.l
  exact ⟨us, e2, e3, r1⟩
theorem EnvR.freshF (E : EnvR K C σ H ρ) {p : Addr} (hp : Fre H p) : C.ok p := by
  refine ⟨.inr (E.dom p hp), fun i hi e => ?_⟩
  obtain ⟨us, e1, n1⟩ := E.place hi
  exact hp _ n1 (e ▸ e1)
theorem EnvR.fresh (E : EnvR K C σ H ρ) {p : Addr} (hp : H p = none) : C.ok p := E.freshF (.of hp)
theorem Gr.kp (g : Gr m C H H') (E : EnvR K C σ H ρ) : Kp C.ok H H' := by
  refine ⟨fun a o n e h => g.keep a o n e fun _ i hi z => ?_, g.dom⟩
  rcases h with h | h
  · exact h.2 i (.inr hi) z
  · obtain ⟨_, _, ⟨x1, x2, x3, e1⟩, _⟩ := E.pls i hi
    rw [← z, e] at e1
    cases e1
    exact h.lst _ rfl
theorem Gr.mv (g : Gr m C H H') (E : EnvR K C σ H ρ) : Mv C.ok H C.ok H' := .of (g.kp E)
theorem EnvR.gr (E : EnvR K C σ H ρ) (g : Gr m C H H') : EnvR K C σ H' ρ where
  len := E.len
  keep := fun a o nt e n => g.keep a o nt (E.keep a o nt e n) fun _ i hi z => by
    obtain ⟨_, _, _, q⟩ := E.pls i hi
    rcases q with q | q
    · exact q o nt (z ▸ e)
    · exact n (z ▸ (E.lent _ q).2)
  dom := fun a e => E.dom a (g.dom a e)
  lent := fun a h => by
    obtain ⟨p, l⟩ := E.lent a h
    refine ⟨?_, l⟩
    by_cases q : ∃ i ∈ C.Pl, a = C.A i
    · obtain ⟨i, hi, rfl⟩ := q
      exact g.pl i hi p
    · obtain ⟨x, y, z, e⟩ := p
      exact ⟨x, y, z, g.keep a _ nt_lst e fun _ i hi z => q ⟨i, hi, z⟩⟩
  tab := g.tab E.tab
  sh := fun i d hi hp e => let ⟨v, e1, r⟩ := E.sh i d hi hp e; ⟨v, e1, r.mv (g.mv E)⟩
  own := fun i hi => by
    obtain ⟨ds, us, e1, e2, e3, r, q, l⟩ := E.own i hi
    refine ⟨ds, us, e1, e2, g.keep _ _ r.nt e3 fun _ j hj z => ?_, r.mv (g.mv E), q, l⟩
    obtain rfl := E.inj i j (.inl hi) (.inr hj) z
    exact E.dj i hi hj
  pls := fun i hi => let ⟨l, e, p, q⟩ := E.pls i hi; ⟨l, e, g.pl i hi p, q⟩
  dj := E.dj
  inj := E.inj
theorem EnvR.same (E : EnvR K C σ H ρ) (k : Same H H') : EnvR K C σ H' ρ := E.gr (m := true) (.of k)
/-- .. any list, read -/
theorem EnvR.varR (E : EnvR K C σ H ρ) {i : Nat} {ds : List Dt} (hp : i ∉ C.Pl) (e : ρ[i]? = some (some (.lst ds))) : ∃ a us, σ[i]? = some (some (.ref a)) ∧ H a = some (.lst us) ∧ Rs K C.ok H ds us ∧ ∀ j ∈ C.Pl, a ≠ C.A j := by
  by_cases hi : i ∈ C.O
  · obtain ⟨us, e2, e3, r⟩ := E.ownL hi e
    exact ⟨_, _, e2, e3, r, fun j hj z => hp (E.inj i j (.inl hi) (.inr hj) z ▸ hj)⟩
  · obtain ⟨v, e1, r⟩ := E.sh i _ hi hp e
    obtain ⟨a, us, rfl, q, k, t⟩ := r.listSq
    exact ⟨a, us, e1, q, t, fun j hj => k.2 j (.inr hj)⟩
theorem set_get {α : Type} {l : List α} {i j : Nat} {x y : α} (h : (l.set i x)[j]? = some y) : (j = i ∧ y = x ∧ i < l.length) ∨ (j ≠ i ∧ l[j]? = some y) := by
  by_cases e : j = i
  · subst e
    have hl : j < (l.set j x).length := (List.getElem?_eq_some_iff.mp h).1
    rw [List.length_set] at hl
    rw [List.getElem?_set_self hl] at h
    exact .inl ⟨rfl, (Option.some.inj h).symm, hl⟩
  · rw [List.getElem?_set_ne (Ne.symm e)] at h
    exact .inr ⟨e, h⟩
/-- the ownership map behind a store to slot i of what is not an own list -/
def Ct.drop (C : Ct) (i : Nat) : Ct := { C with O := C.O.filter (· ≠ i) }
theorem mem_drop {O : List Nat} {i j : Nat} : j ∈ O.filter (· ≠ i) ↔ j ∈ O ∧ j ≠ i := by
  rw [List.mem_filter]
  simp
theorem Ct.ok_drop {C : Ct} {i : Nat} {a : Addr} (h : C.ok a) : (C.drop i).ok a := ⟨h.1, fun j hj => h.2 j (hj.imp (fun z => (mem_drop.mp z).1) id)⟩
theorem Mv.drop {i : Nat} : Mv C.ok H (C.drop i).ok H := ⟨.refl, fun _ _ h => C.ok_drop h⟩
/-- slot i is stored -/
theorem EnvR.set (E : EnvR K C σ H ρ) {i : Nat} {d : Dt} {v : V} (hi : i ∉ C.Pl) (r : R K C.ok H d v) : EnvR K (C.drop i) (σ.set i (some v)) H (ρ.set i (some d)) where
  len := by rw [List.length_set, List.length_set, E.len]
  keep := E.keep
  dom := E.dom
  lent := E.lent
  tab := E.tab
  sh := fun j e hj hp h => by
    rcases set_get h with ⟨rfl, e1, hl⟩ | ⟨n, h⟩
    · cases e1
      exact ⟨v, List.getElem?_set_self (by rw [E.len]; exact hl), r.mv .drop⟩
    · obtain ⟨u, e1, q⟩ := E.sh j e (fun z => hj (mem_drop.mpr ⟨z, n⟩)) hp h
      exact ⟨u, by rw [List.getElem?_set_ne (Ne.symm n)]; exact e1, q.mv .drop⟩
  own := fun j hj => by
    obtain ⟨h1, h2⟩ := mem_drop.mp hj
    obtain ⟨ds, us, e1, e2, e3, r, q⟩ := E.own j h1
    exact ⟨ds, us, by rw [List.getElem?_set_ne (Ne.symm h2)]; exact e1, by rw [List.getElem?_set_ne (Ne.symm h2)]; exact e2, e3, r.mv .drop, q⟩
  pls := fun j hj => by
    have n : j ≠ i := fun z => hi (z ▸ hj)
    obtain ⟨l, e, q⟩ := E.pls j hj
    exact ⟨by rw [List.length_set]; exact l, by rw [List.getElem?_set_ne (Ne.symm n)]; exact e, q⟩
  dj := fun j hj => E.dj j (mem_drop.mp hj).1
  inj := fun j k hj hk => E.inj j k (hj.imp (fun z => (mem_drop.mp z).1) id) (hk.imp (fun z => (mem_drop.mp z).1) id)
/-- the list of an own slot may go out: it is no longer the def's own -/
theorem EnvR.release (E : EnvR K C σ H ρ) (i : Nat) (h0 : ∀ j ∈ C.O, Fre C.H0 (C.A j)) : EnvR K (C.drop i) σ H ρ where
  len := E.len
  keep := E.keep
  dom := E.dom
  lent := E.lent
  tab := E.tab
  sh := fun j d hj hp h => by
    by_cases hO : j ∈ C.O
    · have e : j = i := by
        by_cases z : j = i
        · exact z
        · exact absurd (mem_drop.mpr ⟨hO, z⟩) hj
      subst e
      obtain ⟨ds, us, e1, e2, e3, r, q, l⟩ := E.own j hO
      rw [h] at e1
      cases e1
      refine ⟨_, e2, (r.mv .drop).r e3 ⟨?_, fun k hk z => ?_⟩⟩
      · exact .inr (h0 j hO)
      · have := E.inj j k (.inl hO) (hk.imp (fun z => (mem_drop.mp z).1) id) z
        rcases hk with hk | hk
        · exact (mem_drop.mp hk).2 this.symm
        · exact hp (this ▸ hk)
    · obtain ⟨v, e1, r⟩ := E.sh j d hO hp h
      exact ⟨v, e1, r.mv .drop⟩
  own := fun j hj => by
    obtain ⟨h1, h2⟩ := mem_drop.mp hj
    obtain ⟨ds, us, e1, e2, e3, r, q⟩ := E.own j h1
    exact ⟨ds, us, e1, e2, e3, r.mv .drop, q⟩
  pls := E.pls
  dj := fun j hj => E.dj j (mem_drop.mp hj).1
  inj := fun j k hj hk => E.inj j k (hj.imp (fun z => (mem_drop.mp z).1) id) (hk.imp (fun z => (mem_drop.mp z).1) id)
/-- slot i is stored: a new list, which is the def's own from now on -/
def Ct.take (C : Ct) (i : Nat) (p : Addr) : Ct := { C with O := i :: C.O.filter (· ≠ i), A := fun j => if j = i then p else C.A j }
theorem take_A {i j : Nat} {p : Addr} (h : j ≠ i) : (C.take i p).A j = C.A j := if_neg h
theorem take_self {i : Nat} {p : Addr} : (C.take i p).A i = p := if_pos rfl
theorem Ct.ok_take {i : Nat} {p a : Addr} (h : C.ok a) (n : a ≠ p) : (C.take i p).ok a := by
  refine ⟨h.1, fun j hj => ?_⟩
  by_cases z : j = i
  · rw [z, take_self]
    exact n
  · rw [take_A z]
    refine h.2 j (hj.imp (fun q => ?_) id)
    rcases List.mem_cons.mp q with q | q
    · exact absurd q z
    · exact (mem_drop.mp q).1
theorem EnvR.setD {m : Bool} (E : EnvR K C σ H ρ) {i : Nat} {d : Dt} {p : Addr} {o : HO} (hi : i < ρ.length) (hq : i ∉ C.Pl) (hp : Fre H p) (g : Gr m C H H') (e : H' p = some o) (r : OwnD K (fun a => C.ok a ∧ a ≠ p) H' p d o) :
    EnvR K (C.take i p) (σ.set i (some (.ref p))) H' (ρ.set i (some d)) ∧ Mv C.ok H (C.take i p).ok H' := by
  have m : Mv C.ok H (C.take i p).ok H' := ⟨g.kp E, fun a hn h => C.ok_take h fun z => hn (by rw [z]; exact hp)⟩
  have m2 : Mv (fun a => C.ok a ∧ a ≠ p) H' (C.take i p).ok H' := ⟨.refl, fun a _ h => C.ok_take h.1 h.2⟩
  have E' := E.gr g
  have ne : ∀ j, j ∈ C.O ∨ j ∈ C.Pl → C.A j ≠ p := fun j hj z => by
    obtain ⟨us, e1, n1⟩ := E.place hj
    exact hp _ n1 (z ▸ e1)
  have np : ∀ {a : Addr}, C.LP a → a ≠ p := fun {a} h z => by
    obtain ⟨⟨x, y, w, e1⟩, _⟩ := E.lent a h
    exact hp _ nt_lst (z ▸ e1)
  refine ⟨⟨by rw [List.length_set, List.length_set, E.len], E'.keep, E'.dom, E'.lent, E'.tab, fun j d' hj hpl h => ?_, fun j hj => ?_, fun j hj => ?_, fun j hj => ?_, fun j j' hj hj' h => ?_⟩, m⟩
  · rcases set_get h with ⟨rfl, _, _⟩ | ⟨n, h⟩
    · exact absurd (List.mem_cons.mpr (.inl rfl)) hj
    · obtain ⟨u, e1, q⟩ := E.sh j d' (fun z => hj (List.mem_cons_of_mem _ (mem_drop.mpr ⟨z, n⟩))) hpl h
      exact ⟨u, by rw [List.getElem?_set_ne (Ne.symm n)]; exact e1, q.mv m⟩
  · rcases List.mem_cons.mp hj with rfl | hj
    · refine ⟨d, o, by rw [List.getElem?_set_self hi], by rw [take_self, List.getElem?_set_self (by rw [E.len]; exact hi)], by rw [take_self]; exact e, by rw [take_self]; exact r.mv m2, by rw [take_self]; exact .inl (E.dom p hp), fun z => np z take_self⟩
    · obtain ⟨h1, h2⟩ := mem_drop.mp hj
      obtain ⟨ds', us0, e1, e2, e30, r0, q, l⟩ := E.own j h1
      obtain ⟨ds2, us', e1', _, e3, _, _, _⟩ := E'.own j h1
      rw [e1] at e1'
      cases e1'
      have eA : (C.take i p).A j = C.A j := take_A h2
      have e4 := g.keep _ _ r0.nt e30 fun _ k hk z => by
        have := E.inj j k (.inl h1) (.inr hk) z
        exact E.dj j h1 (this ▸ hk)
      exact ⟨ds', us0, by rw [List.getElem?_set_ne (Ne.symm h2)]; exact e1, by rw [List.getElem?_set_ne (Ne.symm h2), eA]; exact e2, by rw [eA]; exact e4, by rw [eA]; exact r0.mv m, by rw [eA]; exact q, by rw [eA]; exact l⟩
  · have n : j ≠ i := fun z => hq (z ▸ hj)
    have eA : (C.take i p).A j = C.A j := take_A n
    obtain ⟨l, e1, e2, q⟩ := E'.pls j hj
    exact ⟨by rw [List.length_set]; exact l, by rw [List.getElem?_set_ne (Ne.symm n), eA]; exact e1, by rw [eA]; exact e2, by rw [eA]; exact q⟩
  · rcases List.mem_cons.mp hj with rfl | hj
    · exact hq
    · exact E.dj j (mem_drop.mp hj).1
  · have eA : ∀ x, (x ∈ i :: C.O.filter (· ≠ i) ∨ x ∈ C.Pl) → (x = i ∧ (C.take i p).A x = p) ∨ ((x ∈ C.O ∨ x ∈ C.Pl) ∧ x ≠ i ∧ (C.take i p).A x = C.A x) := fun x hx => by
      by_cases z : x = i
      · exact .inl ⟨z, by rw [z]; exact take_self⟩
      · refine .inr ⟨hx.imp (fun q => ?_) id, z, take_A z⟩
        rcases List.mem_cons.mp q with q | q
        · exact absurd q z
        · exact (mem_drop.mp q).1
    rcases eA j hj with ⟨a1, a2⟩ | ⟨a1, a2, a3⟩
    · rcases eA j' hj' with ⟨b1, b2⟩ | ⟨b1, b2, b3⟩
      · rw [a1, b1]
      · rw [a2, b3] at h
        exact absurd h.symm (ne j' b1)
    · rcases eA j' hj' with ⟨b1, b2⟩ | ⟨b1, b2, b3⟩
      · rw [a3, b2] at h
        exact absurd h (ne j a1)
      · rw [a3, b3] at h
        exact E.inj j j' a1 b1 h
theorem EnvR.setF {m : Bool} (E : EnvR K C σ H ρ) {i : Nat} {ds : List Dt} {p : Addr} {us : List V} (hi : i < ρ.length) (hq : i ∉ C.Pl) (hp : Fre H p) (g : Gr m C H H') (e : H' p = some (.lst us)) (r : Rs K (fun a => C.ok a ∧ a ≠ p) H' ds us) :
    EnvR K (C.take i p) (σ.set i (some (.ref p))) H' (ρ.set i (some (.lst ds))) ∧ Mv C.ok H (C.take i p).ok H' := E.setD hi hq hp g e (.lst r)
/-- an own list is changed -/
theorem EnvR.putD (E : EnvR K C σ H ρ) {i : Nat} {d2 : Dt} {o2 : HO} (hi : i ∈ C.O) (r : OwnD K C.ok H (C.A i) d2 o2) :
    EnvR K C σ (upd H (C.A i) o2) (ρ.set i (some d2)) ∧ Kp C.ok H (upd H (C.A i) o2) := by
  obtain ⟨ds, us, e1, e2, hA, r0, q, l⟩ := E.own i hi
  have k : Kp C.ok H (upd H (C.A i) o2) := by
    refine ⟨fun a o nt e h => ?_, fun a f o nt e => ?_⟩
    · have n : a ≠ C.A i := by
        rintro rfl
        rw [hA] at e
        cases e
        rcases h with h | h
        · exact h.2 i (.inl hi) rfl
        · exact r0.nl h
      rw [upd_ne n]
      exact e
    · by_cases n : a = C.A i
      · exact f _ r.nt (by rw [n]; exact upd_same)
      · exact f o nt (by rw [upd_ne n]; exact e)
  have hl : i < ρ.length := (List.getElem?_eq_some_iff.mp e1).1
  refine ⟨⟨by rw [List.length_set, E.len], fun a o nt e n => ?_, fun a e => E.dom a (k.dom a e), fun a h => ?_, tabs_put hA r0.nt r0.nc E.tab, fun j d hj hp h => ?_, fun j hj => ?_, fun j hj => ?_, E.dj, E.inj⟩, k⟩
  · have : a ≠ C.A i := by
      rintro rfl
      rcases q with q | q
      · exact q o nt e
      · exact n q
    rw [upd_ne this]
    exact E.keep a o nt e n
  · have : a ≠ C.A i := fun z => l (z ▸ h)
    obtain ⟨⟨x, y, z, ex⟩, ha⟩ := E.lent a h
    exact ⟨⟨x, y, z, by rw [upd_ne this]; exact ex⟩, ha⟩
  · have n : j ≠ i := by
      rintro rfl
      exact hj hi
    rw [List.getElem?_set_ne (Ne.symm n)] at h
    obtain ⟨v, e1, r1⟩ := E.sh j d hj hp h
    exact ⟨v, e1, r1.mv (.of k)⟩
  · by_cases n : j = i
    · subst n
      exact ⟨d2, o2, List.getElem?_set_self hl, e2, upd_same, r.mv (.of k), q, l⟩
    · obtain ⟨ds', us', d1, d2, d3, r1, q1⟩ := E.own j hj
      refine ⟨ds', us', by rw [List.getElem?_set_ne (Ne.symm n)]; exact d1, d2, ?_, r1.mv (.of k), q1⟩
      rw [upd_ne (fun z => n (E.inj j i (.inl hj) (.inl hi) z))]
      exact d3
  · have n : j ≠ i := fun z => E.dj i hi (z ▸ hj)
    obtain ⟨l', e1', ⟨x, y, z, e3⟩, q'⟩ := E.pls j hj
    refine ⟨by rw [List.length_set]; exact l', e1', ⟨x, y, z, ?_⟩, q'⟩
    rw [upd_ne (fun z => n (E.inj j i (.inr hj) (.inl hi) z))]
    exact e3
theorem EnvR.put (E : EnvR K C σ H ρ) {i : Nat} {es : List Dt} {vs : List V} (hi : i ∈ C.O) (r : Rs K C.ok H es vs) :
    EnvR K C σ (upd H (C.A i) (.lst vs)) (ρ.set i (some (.lst es))) ∧ Kp C.ok H (upd H (C.A i) (.lst vs)) := E.putD hi (.lst r)
end
end UL
namespace UL
open PySem PySem.Spec PyProof.Rows L2
abbrev WE := Env → (Dt → Prop) → Prop
abbrev WA := Env → (List Dt → Prop) → Prop
abbrev WT := Env → (Bool → Prop) → Prop
/-- the slots of the own lists, of the pools -/
abbrev Sl := List Nat × List Nat
structure Ct.In (T : List NdefX.NTab) (C : Ct) (S : Sl) : Prop where
  O : C.O = S.1
  Pl : C.Pl = S.2
  T : C.T = T
/-- read: a list may be an own one -/
def RB (K : PySem.W.Frag) (C : Ct) (H : Hp) : Dt → V → Prop
  | .lst ds, v => ∃ a us, v = .ref a ∧ H a = some (.lst us) ∧ (∀ j ∈ C.Pl, a ≠ C.A j) ∧ Rs K C.ok H ds us
  | .nd ks ds, v => ∃ (a : Addr) (L : NL3), v = .ref a ∧ H a = some (NdO a L) ∧ (∃ h, NdAt h a L) ∧ Rs K C.ok H ks (L.map fun p => V.ref p.2.1) ∧ Dt.nks ks = some (L.map (·.1)) ∧ Rs K C.ok H ds (L.map (·.2.2))
  | .dk ks ds, v => ∃ (a : Addr) (kvs : List (Key × V)), v = .ref a ∧ ks = kvs.map (·.1) ∧ H a = some (.dK kvs) ∧ Rs K C.ok H ds (kvs.map (·.2))
  | d, v => R K C.ok H d v
theorem R.b {K : PySem.W.Frag} {C : Ct} {H : Hp} {d : Dt} {v : V} (h : R K C.ok H d v) : RB K C H d v := by
  cases h with
  | lst e q t => exact ⟨_, _, rfl, e, fun j hj => q.2 j (.inr hj), t⟩
  | non => exact .non
  | bl => exact .bl _
  | int => exact .int _
  | str => exact .str _
  | tup h t => exact .tup h t
  | obj e f n t => exact .obj e f n t
  | dct e t => exact .dct e t
  | nd e q x r1 nk r2 => exact ⟨_, _, rfl, e, x, r1, nk, r2⟩
  | dk e q r => exact ⟨_, _, rfl, rfl, e, r⟩
  | val => exact .val _
  | sql e q => exact .sql e q
  | sqk e => exact .sqk e
/-- an expression's reading, told by data; SB: read only; SF: a new list; SA: arguments; ST: a test -/
def SE (K : PySem.W.Frag) (T : List NdefX.NTab) (S : Sl) (m : Bool) (te : TE) (t : WE) : Prop := ∀ (C : Ct) (ρ : Env) (P : Dt → Prop) (σ : L2.St) (H : Hp) (Q : VK), C.In T S → t ρ P → EnvR K C σ H ρ →
  (∀ d v H', P d → Gr m C H H' → R K C.ok H' d v → Q v H') → te σ H Q
def SB (K : PySem.W.Frag) (T : List NdefX.NTab) (S : Sl) (m : Bool) (te : TE) (t : WE) : Prop := ∀ (C : Ct) (ρ : Env) (P : Dt → Prop) (σ : L2.St) (H : Hp) (Q : VK), C.In T S → t ρ P → EnvR K C σ H ρ →
  (∀ d v H', P d → Gr m C H H' → RB K C H' d v → Q v H') → te σ H Q
def SF (K : PySem.W.Frag) (T : List NdefX.NTab) (S : Sl) (m : Bool) (te : TE) (t : WA) : Prop := ∀ (C : Ct) (ρ : Env) (P : List Dt → Prop) (σ : L2.St) (H : Hp) (Q : VK), C.In T S → t ρ P → EnvR K C σ H ρ →
  (∀ ds p us H', P ds → Gr m C H H' → Fre H p → H' p = some (.lst us) → Rs K (fun a => C.ok a ∧ a ≠ p) H' ds us → Q (.ref p) H') → te σ H Q
def SA (K : PySem.W.Frag) (T : List NdefX.NTab) (S : Sl) (m : Bool) (ta : TA) (t : WA) : Prop := ∀ (C : Ct) (ρ : Env) (P : List Dt → Prop) (σ : L2.St) (H : Hp) (Q : List V → Hp → Prop), C.In T S → t ρ P → EnvR K C σ H ρ →
  (∀ ds vs H', P ds → Gr m C H H' → Rs K C.ok H' ds vs → Q vs H') → ta σ H Q
def ST (K : PySem.W.Frag) (T : List NdefX.NTab) (S : Sl) (m : Bool) (tt : TT) (t : WT) : Prop := ∀ (C : Ct) (ρ : Env) (P : Bool → Prop) (σ : L2.St) (H : Hp) (Q : Bool → Hp → Prop), C.In T S → t ρ P → EnvR K C σ H ρ →
  (∀ b H', P b → Gr m C H H' → Q b H') → tt σ H Q
section
variable {K : PySem.W.Frag} {T : List NdefX.NTab} {S : Sl} {m m' : Bool} {te ta tb : TE} {t u : WE}
theorem SE.b (h : SE K T S m te t) : SB K T S m te t := fun C ρ P σ H Q hC ht E q => h C ρ P σ H Q hC ht E fun d v H' hp g r => q d v H' hp g r.b
theorem SF.e {t : WA} (h : SF K T S m te t) : SE K T S m te (fun ρ P => t ρ fun ds => P (.lst ds)) := fun C ρ P σ H Q hC ht E q => h C ρ _ σ H Q hC ht E fun ds p us H' hp g hn e r =>
  q _ _ _ hp g (.lst e (E.freshF hn) (r.okm fun a _ h => h.1))
theorem RB.gr {C : Ct} {σ : L2.St} {H H' : Hp} {ρ : Env} {d : Dt} {v : V} (E : EnvR K C σ H ρ) (g : Gr m C H H') (h : RB K C H d v) : RB K C H' d v := by
  cases d with
  | lst ds =>
    obtain ⟨a, us, rfl, e, n, t⟩ := h
    exact ⟨a, us, rfl, g.keep _ _ nt_lst e fun _ => n, n, t.mv (g.mv E)⟩
  | nd ks ds =>
    obtain ⟨a, L, rfl, e, x, r1, nk, r2⟩ := h
    refine ⟨a, L, rfl, g.keep _ _ nt_nd e fun _ i hi z => ?_, x, r1.mv (g.mv E), nk, r2.mv (g.mv E)⟩
    obtain ⟨_, _, ⟨x, y, w, e1⟩, _⟩ := E.pls i hi
    rw [← z, e] at e1
    unfold NdO at e1
    cases e1
  | dk ks ds =>
    obtain ⟨a, kvs, rfl, rfl, e, r⟩ := h
    refine ⟨a, kvs, rfl, rfl, g.keep _ _ nt_dK e fun _ i hi z => ?_, r.mv (g.mv E)⟩
    obtain ⟨_, _, ⟨x, y, w, e1⟩, _⟩ := E.pls i hi
    rw [← z, e] at e1
    cases e1
  | _ => exact R.mv (g.mv E) h
/-! ### names, constants -/
def wVar (i : Nat) : WE := fun ρ P => match ρ[i]? with
  | some (some d) => P d
  | _ => False
def wC (d : Dt) : WE := fun _ P => P d
theorem se_var (i : Nat) (h : i ∉ S.1 ∧ i ∉ S.2 := by decide) : SE K T S true (tVar i) (wVar i) := fun C ρ P σ H Q hC ht E q => by
  unfold wVar at ht
  cases e : ρ[i]? with
  | none => rw [e] at ht; exact ht.elim
  | some o =>
    cases o with
    | none => rw [e] at ht; exact ht.elim
    | some d =>
      rw [e] at ht
      obtain ⟨v, e1, r⟩ := E.sh i d (by rw [hC.1]; exact h.1) (by rw [hC.2]; exact h.2) e
      exact ⟨v, e1, q d v H ht .refl r⟩
theorem sb_var (i : Nat) (h : i ∉ S.2 := by decide) : SB K T S true (tVar i) (wVar i) := fun C ρ P σ H Q hC ht E q => by
  unfold wVar at ht
  cases e : ρ[i]? with
  | none => rw [e] at ht; exact ht.elim
  | some o =>
    cases o with
    | none => rw [e] at ht; exact ht.elim
    | some d =>
      rw [e] at ht
      have hp : i ∉ C.Pl := by rw [hC.2]; exact h
      by_cases hi : i ∈ C.O
      · obtain ⟨d1, o1, e1, e2, e3, r, _⟩ := E.own i hi
        rw [e] at e1
        cases e1
        refine ⟨_, e2, q _ _ H ht .refl ?_⟩
        cases r with
        | lst r => exact ⟨_, _, rfl, e3, fun j hj z => hp (E.inj i j (.inl hi) (.inr hj) z ▸ hj), r⟩
        | nd x r1 nk r2 => exact ⟨_, _, rfl, e3, x, r1, nk, r2⟩
        | dk r => exact ⟨_, _, rfl, rfl, e3, r⟩
      · obtain ⟨v, e1, r⟩ := E.sh i d hi hp e
        exact ⟨v, e1, q d v H ht .refl r.b⟩
theorem se_c {v : V} {d : Dt} (h : ∀ ok H, R K ok H d v) : SE K T S true (tC v) (wC d) := fun C ρ P σ H Q hC ht E q => q d v H ht .refl (h _ _)
theorem se_int {i : Int} : SE K T S true (tC (.int i)) (wC (.int i)) := se_c fun _ _ => .int i
theorem se_bl {b : Bool} : SE K T S true (tC (.bl b)) (wC (.bl b)) := se_c fun _ _ => .bl b
theorem se_non : SE K T S true (tC .non) (wC .non) := se_c fun _ _ => .non
theorem se_str {z : Str} : SE K T S true (tC (.str z)) (wC (.str z)) := se_c fun _ _ => .str z
/-! ### operators -/
def w2 (f : Dt → Dt → (Dt → Prop) → Prop) (t u : WE) : WE := fun ρ P => t ρ fun a => u ρ fun b => f a b P
/-- an operator by values, told by data -/
def OpS (K : PySem.W.Frag) (r : R2) (f : Dt → Dt → (Dt → Prop) → Prop) : Prop := ∀ (C : Ct) (a b : Dt) (P : Dt → Prop) (x y : V) (H : Hp) (Q : VK), f a b P → RB K C H a x → RB K C H b y → (∀ p, H p = none → C.ok p) →
  (∀ d v H', P d → Same H H' → R K C.ok H' d v → Q v H') → r x y H Q
theorem se_op {r : R2} {f : Dt → Dt → (Dt → Prop) → Prop} (h : OpS K r f) (ha : SB K T S m ta t) (hb : SB K T S m' tb u) : SE K T S (m && m') (tOp r ta tb) (w2 f t u) := fun C ρ P σ H Q hC ht E q => by
  refine ha C ρ _ σ H _ hC ht E fun a x H1 h1 g1 r1 => ?_
  refine hb C ρ _ σ H1 _ hC h1 (E.gr g1) fun b y H2 h2 g2 r2 => ?_
  have E2 := (E.gr g1).gr g2
  refine h C a b P x y H2 Q h2 (r1.gr (E.gr g1) g2) r2 (fun p hp => E2.fresh hp) fun d v H3 hp k r3 => q d v H3 hp ?_ r3
  have := (g1.trans g2).trans (Gr.of (m := true) (C := C) k)
  rwa [Bool.and_true] at this
theorem gr_and {C : Ct} {H H1 H2 : Hp} (g : Gr m C H H1) (k : Same H1 H2) : Gr m C H H2 := by
  have := g.trans (Gr.of (m := true) (C := C) k)
  rwa [Bool.and_true] at this
theorem gr_andE {C : Ct} {H H1 H2 : Hp} (g : Gr m C H H1) (k : Ex C.T H1 H2) : Gr m C H H2 := by
  have := g.trans (Gr.ex (m := true) (C := C) k)
  rwa [Bool.and_true] at this
/-- two ints -/
def kI (g : Int → Int → Dt) : Dt → Dt → (Dt → Prop) → Prop
  | .int i, .int j, P => P (g i j)
  | _, _, _ => False
def kIc (c : Int → Int → Prop) (g : Int → Int → Dt) : Dt → Dt → (Dt → Prop) → Prop
  | .int i, .int j, P => c i j ∧ P (g i j)
  | _, _, _ => False
theorem kI_int {f : Dt → Dt → (Dt → Prop) → Prop} {g : Int → Int → Dt} {a b : Dt} {P : Dt → Prop} (h : kI g a b P) : ∃ i j, a = .int i ∧ b = .int j ∧ P (g i j) := by
  cases a <;> cases b <;> first | exact ⟨_, _, rfl, rfl, h⟩ | exact h.elim
theorem kIc_int {c : Int → Int → Prop} {g : Int → Int → Dt} {a b : Dt} {P : Dt → Prop} (h : kIc c g a b P) : ∃ i j, a = .int i ∧ b = .int j ∧ c i j ∧ P (g i j) := by
  cases a <;> cases b <;> first | exact ⟨_, _, rfl, rfl, h⟩ | exact h.elim
theorem opS_I {g : Int → Int → V} {g' : Int → Int → Dt} (hr : ∀ i j ok H, R K ok H (g' i j) (g i j)) : OpS K (rI0 g) (kI g') := fun C a b P x y H Q h ra rb hf q => by
  obtain ⟨i, j, rfl, rfl, h⟩ := kI_int (f := kI g') h
  exact ⟨i, j, R.intE ra, R.intE rb, q _ _ H h (Same.refl H) (hr i j _ _)⟩
theorem opS_Ic {c : Int → Int → Prop} {g : Int → Int → V} {g' : Int → Int → Dt} (hr : ∀ i j ok H, R K ok H (g' i j) (g i j)) : OpS K (rI c g) (kIc c g') := fun C a b P x y H Q h ra rb hf q => by
  obtain ⟨i, j, rfl, rfl, hc, h⟩ := kIc_int h
  exact ⟨i, j, R.intE ra, R.intE rb, hc, q _ _ H h (Same.refl H) (hr i j _ _)⟩
theorem oS_add : OpS K (rI0 fun i j => .int (i + j)) (kI fun i j => .int (i + j)) := opS_I fun _ _ _ _ => .int _
theorem oS_mul : OpS K (rI CMul fun i j => .int (i * j)) (kIc CMul fun i j => .int (i * j)) := opS_Ic fun _ _ _ _ => .int _
theorem oS_mod : OpS K (rI (fun _ j => 0 < j) fun i j => .int (i % j)) (kIc (fun _ j => 0 < j) fun i j => .int (i % j)) := opS_Ic fun _ _ _ _ => .int _
theorem oS_lt : OpS K (rI0 fun i j => .bl (decide (i < j))) (kI fun i j => .bl (decide (i < j))) := opS_I fun _ _ _ _ => .bl _
theorem oS_le : OpS K (rI0 fun i j => .bl (decide (i ≤ j))) (kI fun i j => .bl (decide (i ≤ j))) := opS_I fun _ _ _ _ => .bl _
theorem oS_gt : OpS K (rI0 fun i j => .bl (decide (j < i))) (kI fun i j => .bl (decide (j < i))) := opS_I fun _ _ _ _ => .bl _
/-- ==, != of two ints, two texts, two bools -/
def kEq (neg : Bool) : Dt → Dt → (Dt → Prop) → Prop
  | .int i, .int j, P => P (.bl (if neg then !decide (i = j) else decide (i = j)))
  | .str i, .str j, P => P (.bl (if neg then !decide (i = j) else decide (i = j)))
  | .bl i, .bl j, P => P (.bl (if neg then !decide (i = j) else decide (i = j)))
  | _, _, _ => False
theorem decV_int {i j : Int} : decide (V.int i = V.int j) = decide (i = j) := by
  rw [Bool.eq_iff_iff]; simp
theorem decV_str {i j : Str} : decide (V.str i = V.str j) = decide (i = j) := by
  rw [Bool.eq_iff_iff]; simp
theorem decV_bl {i j : Bool} : decide (V.bl i = V.bl j) = decide (i = j) := by
  rw [Bool.eq_iff_iff]; simp
theorem oS_eq : OpS K rEq (kEq false) := fun C a b P x y H Q h ra rb hf q => by
  cases a <;> cases b <;> first | exact h.elim | skip
  · cases ra; cases rb
    exact ⟨rfl, by rw [decV_bl]; exact q _ _ H h (Same.refl H) (.bl _)⟩
  · cases ra; cases rb
    exact ⟨rfl, by rw [decV_int]; exact q _ _ H h (Same.refl H) (.bl _)⟩
  · cases ra; cases rb
    exact ⟨rfl, by rw [decV_str]; exact q _ _ H h (Same.refl H) (.bl _)⟩
theorem oS_ne : OpS K rNe (kEq true) := fun C a b P x y H Q h ra rb hf q => by
  cases a <;> cases b <;> first | exact h.elim | skip
  · cases ra; cases rb
    exact ⟨rfl, by rw [decV_bl]; exact q _ _ H h (Same.refl H) (.bl _)⟩
  · cases ra; cases rb
    exact ⟨rfl, by rw [decV_int]; exact q _ _ H h (Same.refl H) (.bl _)⟩
  · cases ra; cases rb
    exact ⟨rfl, by rw [decV_str]; exact q _ _ H h (Same.refl H) (.bl _)⟩
/-- what is read of any form, as the library's data -/
theorem RB.dp {C : Ct} {H : Hp} {d : Dt} {v : V} {x : PyData} (h : RB K C H d v) (e : d.py = some x) : Dp K H v x := by
  cases d with
  | lst ds =>
    obtain ⟨a, us, rfl, e1, n, t⟩ := h
    exact (R.lst (ok := fun a' => C.ok a' ∨ a' = a) e1 (.inr rfl) (t.okm fun _ _ q => .inl q)).dp e
  | nd ks ds => unfold Dt.py at e; cases e
  | dk ks ds => unfold Dt.py at e; cases e
  | _ => exact R.dp h e
/-- == of data of any depth -/
def kEqD (neg : Bool) : Dt → Dt → (Dt → Prop) → Prop := fun a b P => match a.py, b.py with
  | some x, some y => SeqAt.shaped x = true ∧ SeqAt.shaped y = true ∧ P (.bl (if neg then !PyData.eqv x y else PyData.eqv x y))
  | _, _ => False
/-- x in a list, x not in it: data of any depth -/
def kInD (neg : Bool) : Dt → Dt → (Dt → Prop) → Prop := fun a b P => match a.py, b with
  | some x, .lst ds => ∃ xs, Dt.pys ds = some xs ∧ SeqAt.shaped x = true ∧ SeqAt.shaped (.list xs) = true ∧ P (.bl (if neg then !xs.any fun z => PyData.eqv z x else xs.any fun z => PyData.eqv z x))
  | _, _ => False
theorem kInD_of {neg : Bool} {a b : Dt} {P : Dt → Prop} (h : kInD neg a b P) : ∃ x ds xs, a.py = some x ∧ b = .lst ds ∧ Dt.pys ds = some xs ∧ SeqAt.shaped x = true ∧ SeqAt.shaped (.list xs) = true ∧ P (.bl (if neg then !xs.any fun z => PyData.eqv z x else xs.any fun z => PyData.eqv z x)) := by
  unfold kInD at h
  split at h
  · rename_i x ds e
    obtain ⟨xs, h⟩ := h
    exact ⟨x, ds, xs, e, rfl, h⟩
  · exact h.elim
theorem py_lst {ds : List Dt} {xs : List PyData} (e : Dt.pys ds = some xs) : (Dt.lst ds).py = some (.list xs) := by unfold Dt.py; rw [e]; rfl
theorem oS_inD : OpS K (rInD K) (kInD false) := fun C a b P x y H Q h ra rb hf q => by
  obtain ⟨d, ds, xs, e1, rfl, e2, s1, s2, h⟩ := kInD_of h
  exact ⟨d, xs, ra.dp e1, rb.dp (py_lst e2), s1, s2, q _ _ H h (Same.refl H) (.bl _)⟩
theorem oS_notInD : OpS K (rNotInD K) (kInD true) := fun C a b P x y H Q h ra rb hf q => by
  obtain ⟨d, ds, xs, e1, rfl, e2, s1, s2, h⟩ := kInD_of h
  exact ⟨d, xs, ra.dp e1, rb.dp (py_lst e2), s1, s2, q _ _ H h (Same.refl H) (.bl _)⟩
/-- flat values -/
def Dt.fl : Dt → Option V
  | .non => some .non
  | .bl b => some (.bl b)
  | .int i => some (.int i)
  | .str z => some (.str z)
  | _ => none
theorem R.flE {ok : Addr → Prop} {H : Hp} {d : Dt} {v x : V} (h : R K ok H d v) (e : d.fl = some x) : v = x ∧ flatV x = true := by
  cases h <;> first | (cases e; exact ⟨rfl, rfl⟩) | cases e
theorem RB.flE {C : Ct} {H : Hp} {d : Dt} {v x : V} (h : RB K C H d v) (e : d.fl = some x) : v = x ∧ flatV x = true := by
  cases d with
  | lst ds => cases e
  | nd ks ds => cases e
  | dk ks ds => cases e
  | _ => exact R.flE h e
def Dt.fls : List Dt → Option (List V)
  | [] => some []
  | d :: ds => match d.fl, Dt.fls ds with
    | some x, some xs => some (x :: xs)
    | _, _ => none
theorem Rs.flE {ok : Addr → Prop} {H : Hp} : ∀ {ds : List Dt} {vs xs : List V}, Rs K ok H ds vs → Dt.fls ds = some xs → vs = xs ∧ xs.all flatV = true
  | _, _, _, .nil, e => by cases e; exact ⟨rfl, rfl⟩
  | d :: ds, _, xs, .cons h t, e => by
    unfold Dt.fls at e
    split at e
    · rename_i x ys e1 e2
      cases e
      obtain ⟨q1, q2⟩ := h.flE e1
      obtain ⟨q3, q4⟩ := Rs.flE t e2
      exact ⟨by rw [q1, q3], by rw [List.all_cons, q2, q4]; rfl⟩
    · cases e
/-- x in a list or a tuple of flat values -/
def kIn (neg : Bool) : Dt → Dt → (Dt → Prop) → Prop := fun a b P => match a.fl, b with
  | some x, .lst ds => ∃ xs, Dt.fls ds = some xs ∧ P (.bl (if neg then !inV x xs else inV x xs))
  | some x, .tup ds => ∃ xs, Dt.fls ds = some xs ∧ P (.bl (if neg then !inV x xs else inV x xs))
  | _, _ => False
theorem oS_in (neg : Bool) : OpS K (rIn K neg) (kIn neg) := fun C a b P x y H Q h ra rb hf q => by
  unfold kIn at h
  split at h
  · rename_i z ds e
    obtain ⟨xs, e2, h⟩ := h
    obtain ⟨rfl, f1⟩ := ra.flE e
    obtain ⟨a, us, rfl, e3, _, t⟩ := rb
    obtain ⟨rfl, f2⟩ := t.flE e2
    exact ⟨a, us, rfl, .inl (.of e3), f1, f2, q _ _ H h (Same.refl H) (.bl _)⟩
  · rename_i z ds e
    obtain ⟨xs, e2, h⟩ := h
    obtain ⟨rfl, f1⟩ := ra.flE e
    obtain ⟨a, us, rfl, e3, t⟩ := R.tupSq rb
    obtain ⟨rfl, f2⟩ := t.flE e2
    exact ⟨a, us, rfl, .inr e3, f1, f2, q _ _ H h (Same.refl H) (.bl _)⟩
  · exact h.elim
/-- x is None, x is not None -/
def Dt.isN : Dt → Bool
  | .non => true
  | .val v => decide (v = .non)
  | _ => false
theorem RB.isN {C : Ct} {H : Hp} {d : Dt} {v : V} (h : RB K C H d v) : decide (v = .non) = d.isN := by
  cases d with
  | lst ds => obtain ⟨a, us, rfl, _⟩ := h; rfl
  | nd ks ds => obtain ⟨a, L, rfl, _⟩ := h; rfl
  | dk ks ds => obtain ⟨a, L, rfl, _⟩ := h; rfl
  | _ => cases h <;> rfl
theorem oS_isN : OpS K (fun x y H Q => y = .non ∧ Q (.bl (decide (x = .non))) H) (fun a b P => match b with | .non => P (.bl a.isN) | _ => False) := fun C a b P x y H Q h ra rb hf q => by
  cases b <;> first | exact h.elim | skip
  exact ⟨R.nonE rb, by rw [ra.isN]; exact q _ _ H h (Same.refl H) (.bl _)⟩
/-- xs[i] -/
def kIxL : Dt → Dt → (Dt → Prop) → Prop
  | .lst ds, .int i, P => match atI ds i with
    | some d => P d
    | none => False
  | _, _, _ => False
def kIxT : Dt → Dt → (Dt → Prop) → Prop
  | .tup ds, .int i, P => match atI ds i with
    | some d => P d
    | none => False
  | _, _, _ => False
theorem Rs.atI {ok : Addr → Prop} {H : Hp} {ds : List Dt} {vs : List V} {i : Int} {d : Dt} (h : Rs K ok H ds vs) (e : atI ds i = some d) : ∃ v, L2.atI vs i = some v ∧ R K ok H d v := by
  unfold L2.atI at e ⊢
  rw [h.len]
  cases q : ixN ds.length i with
  | none => rw [q] at e; cases e
  | some j =>
    rw [q] at e
    exact h.getD e
theorem oS_ixL : OpS K (rIxL K) kIxL := fun C a b P x y H Q h ra rb hf q => by
  cases a <;> cases b <;> first | exact h.elim | skip
  rename_i ds i
  unfold kIxL at h
  cases e : atI ds i with
  | none => simp only [e] at h
  | some d =>
    simp only [e] at h
    obtain ⟨a, us, rfl, e1, _, t⟩ := ra
    obtain ⟨v, e2, r⟩ := t.atI e
    exact ⟨a, us, i, v, rfl, R.intE rb, .of e1, e2, q d v H h (Same.refl H) r⟩
theorem oS_ixT : OpS K (rIxT K) kIxT := fun C a b P x y H Q h ra rb hf q => by
  cases a <;> cases b <;> first | exact h.elim | skip
  rename_i ds i
  unfold kIxT at h
  cases e : atI ds i with
  | none => simp only [e] at h
  | some d =>
    simp only [e] at h
    obtain ⟨a, us, rfl, e1, t⟩ := R.tupSq ra
    obtain ⟨v, e2, r⟩ := t.atI e
    exact ⟨a, us, i, v, rfl, R.intE rb, e1, e2, q d v H h (Same.refl H) r⟩
/-- t + u of tuples -/
def kCatT : Dt → Dt → (Dt → Prop) → Prop
  | .tup ds, .tup es, P => ds.length + es.length ≤ sizeLine ∧ P (.tup (ds ++ es))
  | _, _, _ => False
theorem oS_catT : OpS K (rCatA K) kCatT := fun C a b P x y H Q h ra rb hf q => by
  cases a <;> cases b <;> first | exact h.elim | skip
  rename_i ds es
  obtain ⟨hl, h⟩ := h
  obtain ⟨a, us, rfl, e1, t1⟩ := R.tupSq ra
  obtain ⟨b, vs, rfl, e2, t2⟩ := R.tupSq rb
  have l1 := t1.len
  have l2 := t2.len
  refine ⟨a, b, us, vs, rfl, rfl, e1, e2, by omega, fun e => ?_, fun e1' e => ?_, fun _ _ p hp => ?_⟩
  · subst e
    have : ds = [] := List.length_eq_zero_iff.mp l1.symm
    subst this
    exact q _ _ H h (Same.refl H) rb
  · subst e
    have : es = [] := List.length_eq_zero_iff.mp l2.symm
    subst this
    rw [List.append_nil] at h
    exact q _ _ H h (Same.refl H) ra
  · exact q _ _ _ h (same_up hp) (R.newT hp (t1.append t2))
end
end UL
namespace UL
open PySem PySem.Spec PyProof.Rows L2
section
variable {K : PySem.W.Frag} {T : List NdefX.NTab} {S : Sl} {m m' m1 m2 m3 s : Bool} {te ta tb : TE} {t u : WE} {C : Ct} {σ : L2.St} {H H' : Hp} {ρ : Env}
/-! ### arguments, displays -/
def wNil : WA := fun _ P => P []
def wCons (t : WE) (u : WA) : WA := fun ρ P => t ρ fun d => u ρ fun ds => P (d :: ds)
theorem sa_nil : SA K T S true tNil wNil := fun C ρ P σ H Q hC ht E q => q [] [] H ht .refl .nil
theorem sa_cons {tr : TA} {u : WA} (h : SE K T S m te t) (hr : SA K T S m' tr u) : SA K T S (m && m') (tCons te tr) (wCons t u) := fun C ρ P σ H Q hC ht E q => by
  refine h C ρ _ σ H _ hC ht E fun d v H1 h1 g1 r1 => ?_
  refine hr C ρ _ σ H1 _ hC h1 (E.gr g1) fun ds vs H2 h2 g2 r2 => ?_
  exact q _ _ H2 h2 (g1.trans g2) (.cons (r1.mv (g2.mv (E.gr g1))) r2)
theorem se_tup {tr : TA} {u : WA} (h : SA K T S m tr u) : SE K T S m (tTup tr) (fun ρ P => u ρ fun ds => ds.length ≤ 1000 ∧ P (.tup ds)) := fun C ρ P σ H Q hC ht E q => by
  refine h C ρ _ σ H _ hC ht E fun ds vs H1 h1 g1 r1 => ⟨Nat.le_of_lt (small1000 (by rw [r1.len]; exact h1.1)), fun p hp => ?_⟩
  exact q _ _ _ h1.2 (gr_and g1 (same_up hp)) (R.newT hp r1)
theorem ok_ne {p : Addr} {d : List Dt} {v : List V} (hn : H p = none) (h : Rs K C.ok H d v) : Rs K (fun a => C.ok a ∧ a ≠ p) H d v := h.okm fun a n q => ⟨q, fun z => n (by rw [z]; exact .of hn)⟩
theorem sf_lst {tr : TA} {u : WA} (h : SA K T S m tr u) : SF K T S m (tLst tr) (fun ρ P => u ρ fun ds => ds.length ≤ 1000 ∧ P ds) := fun C ρ P σ H Q hC ht E q => by
  refine h C ρ _ σ H _ hC ht E fun ds vs H1 h1 g1 r1 => ⟨Nat.le_of_lt (small1000 (by rw [r1.len]; exact h1.1)), fun p hp => ?_⟩
  exact q _ _ _ _ h1.2 (gr_and g1 (same_up hp)) (g1.dom p (.of hp)) upd_same ((ok_ne hp r1).same (same_up hp))
def kCatL : Dt → Dt → (List Dt → Prop) → Prop
  | .lst ds, .lst es, P => ds.length + es.length ≤ sizeLine ∧ P (ds ++ es)
  | _, _, _ => False
/-- xs + ys of lists -/
theorem sf_cat (ha : SB K T S m ta t) (hb : SB K T S m' tb u) : SF K T S (m && m') (tOp rCat ta tb) (fun ρ P => t ρ fun a => u ρ fun b => kCatL a b P) := fun C ρ P σ H Q hC ht E q => by
  refine ha C ρ _ σ H _ hC ht E fun a x H1 h1 g1 r1 => ?_
  refine hb C ρ _ σ H1 _ hC h1 (E.gr g1) fun b y H2 h2 g2 r2 => ?_
  cases a <;> cases b <;> first | exact h2.elim | skip
  rename_i ds es
  obtain ⟨hl, h2⟩ := h2
  obtain ⟨a, us, rfl, e1, _, t1⟩ := r1.gr (E.gr g1) g2
  obtain ⟨b, vs, rfl, e2, _, t2⟩ := r2
  have l1 := t1.len
  have l2 := t2.len
  refine ⟨a, b, us, vs, rfl, rfl, e1, e2, by omega, fun p hp => ?_⟩
  exact q _ _ _ _ h2 (gr_and (g1.trans g2) (same_up hp)) (g1.dom p (g2.dom p (.of hp))) upd_same ((ok_ne hp (t1.append t2)).same (same_up hp))
/-! ### built-ins of one argument -/
def w1 (f : Dt → (Dt → Prop) → Prop) (t : WE) : WE := fun ρ P => t ρ fun a => f a P
def C1 (K : PySem.W.Frag) (r : List V → Hp → VK → Prop) (f : Dt → (Dt → Prop) → Prop) : Prop := ∀ (C : Ct) (a : Dt) (P : Dt → Prop) (x : V) (H : Hp) (Q : VK), f a P → RB K C H a x → (∀ p, H p = none → C.ok p) →
  (∀ d v H', P d → Same H H' → R K C.ok H' d v → Q v H') → r [x] H Q
theorem se_cb {r : List V → Hp → VK → Prop} {f : Dt → (Dt → Prop) → Prop} (h : C1 K r f) (ha : SB K T S m ta t) : SE K T S m (tCB r (tCons ta tNil)) (w1 f t) := fun C ρ P σ H Q hC ht E q => by
  refine ha C ρ _ σ H _ hC ht E fun a x H1 h1 g1 r1 => ?_
  exact h C a P x H1 Q h1 r1 (fun p hp => (E.gr g1).fresh hp) fun d v H2 hp k r2 => q d v H2 hp (gr_and g1 k) r2
def C1F (K : PySem.W.Frag) (r : List V → Hp → VK → Prop) (f : Dt → (List Dt → Prop) → Prop) : Prop := ∀ (C : Ct) (a : Dt) (P : List Dt → Prop) (x : V) (H : Hp) (Q : VK), f a P → RB K C H a x → (∀ p, H p = none → C.ok p) →
  (∀ ds p us H', P ds → Same H H' → H p = none → H' p = some (.lst us) → Rs K (fun a => C.ok a ∧ a ≠ p) H' ds us → Q (.ref p) H') → r [x] H Q
theorem sf_cb {r : List V → Hp → VK → Prop} {f : Dt → (List Dt → Prop) → Prop} (h : C1F K r f) (ha : SB K T S m ta t) : SF K T S m (tCB r (tCons ta tNil)) (fun ρ P => t ρ fun a => f a P) := fun C ρ P σ H Q hC ht E q => by
  refine ha C ρ _ σ H _ hC ht E fun a x H1 h1 g1 r1 => ?_
  exact h C a P x H1 Q h1 r1 (fun p hp => (E.gr g1).fresh hp) fun ds p us H2 hp k hn e r2 => q ds p us H2 hp (gr_and g1 k) (g1.dom p (.of hn)) e r2
def kLen : Dt → (Dt → Prop) → Prop
  | .lst ds, P => P (.int ds.length)
  | .tup ds, P => P (.int ds.length)
  | _, _ => False
theorem c1_len : C1 K (fun xs H Q => ∃ p ys, xs = [.ref p] ∧ (SqL K H p ys ∨ SqT K H p ys) ∧ Q (.int ys.length) H) kLen := fun C a P x H Q h ra hf q => by
  cases a <;> first | exact h.elim | skip
  · obtain ⟨a, us, rfl, e, _, t⟩ := ra
    exact ⟨a, us, rfl, .inl (.of e), by rw [t.len]; exact q _ _ H h (Same.refl H) (.int _)⟩
  · obtain ⟨a, us, rfl, e, t⟩ := R.tupSq ra
    exact ⟨a, us, rfl, .inr e, by rw [t.len]; exact q _ _ H h (Same.refl H) (.int _)⟩
def kLenS : Dt → (Dt → Prop) → Prop
  | .str z, P => z.length ≤ sizeLine ∧ P (.int z.length)
  | _, _ => False
theorem c1_lenS : C1 K (fun xs H Q => ∃ z, xs = [.str z] ∧ z.length ≤ sizeLine ∧ Q (.int z.length) H) kLenS := fun C a P x H Q h ra hf q => by
  cases a <;> first | exact h.elim | skip
  exact ⟨_, by rw [R.strE ra], h.1, q _ _ H h.2 (Same.refl H) (.int _)⟩
def kTupOf : Dt → (Dt → Prop) → Prop
  | .lst ds, P => P (.tup ds)
  | .tup ds, P => P (.tup ds)
  | _, _ => False
theorem c1_tupOf : C1 K (fun xs H Q => ∃ p ys, xs = [.ref p] ∧ ((SqL K H p ys ∧ ∀ l, H l = none → Q (.ref l) (upd H l (.tup ys))) ∨ (SqT K H p ys ∧ Q (.ref p) H))) kTupOf := fun C a P x H Q h ra hf q => by
  cases a <;> first | exact h.elim | skip
  · obtain ⟨a, us, rfl, e, _, t⟩ := ra
    exact ⟨a, us, rfl, .inl ⟨.of e, fun l hl => q _ _ _ h (same_up hl) (R.newT hl t)⟩⟩
  · obtain ⟨a, us, rfl, e, t⟩ := R.tupE ra
    exact ⟨a, us, rfl, .inr ⟨.of e, q _ _ H h (Same.refl H) (.tup e t)⟩⟩
def kLstOf : Dt → (List Dt → Prop) → Prop
  | .lst ds, P => P ds
  | .tup ds, P => P ds
  | _, _ => False
theorem c1_lstOf : C1F K (fun xs H Q => ∃ p ys, xs = [.ref p] ∧ (SqL K H p ys ∨ SqT K H p ys) ∧ ∀ l, H l = none → Q (.ref l) (upd H l (.lst ys))) kLstOf := fun C a P x H Q h ra hf q => by
  cases a <;> first | exact h.elim | skip
  · obtain ⟨a, us, rfl, e, _, t⟩ := ra
    exact ⟨a, us, rfl, .inl (.of e), fun l hl => q _ _ _ _ h (same_up hl) hl upd_same ((ok_ne hl t).same (same_up hl))⟩
  · obtain ⟨a, us, rfl, e, t⟩ := R.tupSq ra
    exact ⟨a, us, rfl, .inr e, fun l hl => q _ _ _ _ h (same_up hl) hl upd_same ((ok_ne hl t).same (same_up hl))⟩
def Dt.bls : List Dt → Option (List Bool)
  | [] => some []
  | .bl b :: ds => (Dt.bls ds).map (b :: ·)
  | _ :: _ => none
theorem Rs.bls {ok : Addr → Prop} {H : Hp} : ∀ {ds : List Dt} {vs : List V} {bs : List Bool}, Rs K ok H ds vs → Dt.bls ds = some bs → vs = bs.map V.bl
  | _, _, _, .nil, e => by cases e; rfl
  | .bl b :: ds, _, bs, .cons h t, e => by
    unfold Dt.bls at e
    cases q : Dt.bls ds with
    | none => rw [q] at e; cases e
    | some cs =>
      rw [q] at e
      cases e
      rw [R.blE h, Rs.bls t q]
      rfl
def Dt.ints : List Dt → Option (List Int)
  | [] => some []
  | .int b :: ds => (Dt.ints ds).map (b :: ·)
  | _ :: _ => none
theorem Rs.ints {ok : Addr → Prop} {H : Hp} : ∀ {ds : List Dt} {vs : List V} {bs : List Int}, Rs K ok H ds vs → Dt.ints ds = some bs → vs = bs.map V.int
  | _, _, _, .nil, e => by cases e; rfl
  | .int b :: ds, _, bs, .cons h t, e => by
    unfold Dt.ints at e
    cases q : Dt.ints ds with
    | none => rw [q] at e; cases e
    | some cs =>
      rw [q] at e
      cases e
      rw [R.intE h, Rs.ints t q]
      rfl
def Dt.strs : List Dt → Option (List Str)
  | [] => some []
  | .str b :: ds => (Dt.strs ds).map (b :: ·)
  | _ :: _ => none
theorem Rs.strs {ok : Addr → Prop} {H : Hp} : ∀ {ds : List Dt} {vs : List V} {bs : List Str}, Rs K ok H ds vs → Dt.strs ds = some bs → vs = bs.map V.str
  | _, _, _, .nil, e => by cases e; rfl
  | .str b :: ds, _, bs, .cons h t, e => by
    unfold Dt.strs at e
    cases q : Dt.strs ds with
    | none => rw [q] at e; cases e
    | some cs =>
      rw [q] at e
      cases e
      rw [R.strE h, Rs.strs t q]
      rfl
theorem Rs.ofInts {ok : Addr → Prop} {H : Hp} : ∀ (ns : List Int), Rs K ok H (ns.map Dt.int) (ns.map V.int)
  | [] => .nil
  | _ :: r => .cons (.int _) (Rs.ofInts r)
theorem Rs.ofStrs {ok : Addr → Prop} {H : Hp} : ∀ (ns : List Str), Rs K ok H (ns.map Dt.str) (ns.map V.str)
  | [] => .nil
  | _ :: r => .cons (.str _) (Rs.ofStrs r)
def kAll : Dt → (Dt → Prop) → Prop
  | .lst ds, P => ∃ bs, Dt.bls ds = some bs ∧ P (.bl (bs.all id))
  | _, _ => False
def kAny : Dt → (Dt → Prop) → Prop
  | .lst ds, P => ∃ bs, Dt.bls ds = some bs ∧ P (.bl (bs.any id))
  | _, _ => False
def kInt1 : Dt → (Dt → Prop) → Prop
  | .int i, P => P (.int i)
  | .bl k, P => P (.int (if k then 1 else 0))
  | _, _ => False
theorem c1_int : C1 K (fun xs H Q => (∃ i, xs = [.int i] ∧ Q (.int i) H) ∨ ∃ k, xs = [.bl k] ∧ Q (.int (if k then 1 else 0)) H) kInt1 := fun C a P x H Q h ra hf q => by
  cases a <;> first | exact h.elim | skip
  · exact .inr ⟨_, by rw [R.blE ra], q _ _ H h (Same.refl H) (.int _)⟩
  · exact .inl ⟨_, by rw [R.intE ra], q _ _ H h (Same.refl H) (.int _)⟩
/-- sorted(ints), sorted(texts) -/
def kSortI : Dt → (List Dt → Prop) → Prop
  | .lst ds, P => ∃ ns, Dt.ints ds = some ns ∧ ∀ ns' : List Int, ns'.Perm ns → ns'.Pairwise (· ≤ ·) → P (ns'.map Dt.int)
  | _, _ => False
/-! ### tests -/
def wB (t : WE) : WT := fun ρ P => t ρ fun d => match d with
  | .bl b => P b
  | _ => False
theorem st_tB (h : SE K T S m te t) : ST K T S m (tB te) (wB t) := fun C ρ P σ H Q hC ht E q => by
  refine h C ρ _ σ H _ hC ht E fun d v H1 h1 g1 r1 => ?_
  cases d <;> first | exact h1.elim | skip
  exact ⟨_, R.blE r1, q _ H1 h1 g1⟩
theorem st_tTest (h : SE K T S m te t) : ST K T S m (tTest te) (wB t) := fun C ρ P σ H Q hC ht E q => by
  refine h C ρ _ σ H _ hC ht E fun d v H1 h1 g1 r1 => ?_
  cases d <;> first | exact h1.elim | skip
  exact ⟨_, R.blE r1, q _ H1 h1 g1⟩
def wAnd (t u : WT) : WT := fun ρ P => t ρ fun b => if b = true then u ρ P else P false
def wOr (t u : WT) : WT := fun ρ P => t ρ fun b => if b = true then P true else u ρ P
def wNot (t : WT) : WT := fun ρ P => t ρ fun b => P (!b)
variable {tA tB' : TT} {wa wb : WT}
theorem Gr.up (g : Gr m C H H') : Gr (m && m') C H H' := by
  cases m with
  | false => exact g
  | true =>
    cases m' with
    | true => exact g
    | false => exact g.weak
theorem st_and (ha : ST K T S m tA wa) (hb : ST K T S m' tB' wb) : ST K T S (m && m') (tAnd tA tB') (wAnd wa wb) := fun C ρ P σ H Q hC ht E q => by
  refine ha C ρ _ σ H _ hC ht E fun b H1 h1 g1 => ?_
  cases b with
  | false => exact q _ _ h1 g1.up
  | true => exact hb C ρ P σ H1 Q hC h1 (E.gr g1) fun b H2 h2 g2 => q _ _ h2 (g1.trans g2)
theorem st_or (ha : ST K T S m tA wa) (hb : ST K T S m' tB' wb) : ST K T S (m && m') (tOr tA tB') (wOr wa wb) := fun C ρ P σ H Q hC ht E q => by
  refine ha C ρ _ σ H _ hC ht E fun b H1 h1 g1 => ?_
  cases b with
  | true => exact q _ _ h1 g1.up
  | false => exact hb C ρ P σ H1 Q hC h1 (E.gr g1) fun b H2 h2 g2 => q _ _ h2 (g1.trans g2)
theorem st_not (ha : ST K T S m tA wa) : ST K T S m (tNot tA) (wNot wa) := fun C ρ P σ H Q hC ht E q => ha C ρ _ σ H _ hC ht E fun b H1 h1 g1 => q _ _ h1 g1
def wIf (c : WT) (t u : WE) : WE := fun ρ P => c ρ fun b => if b = true then t ρ P else u ρ P
/-- and, or, not as values -/
def wAndV (t u : WE) : WE := fun ρ P => t ρ fun d => match d with
  | .bl b => if b = true then u ρ P else P (.bl false)
  | _ => False
def wOrV (t u : WE) : WE := fun ρ P => t ρ fun d => match d with
  | .bl b => if b = true then P (.bl true) else u ρ P
  | _ => False
def wNotV (t : WE) : WE := fun ρ P => t ρ fun d => match d with
  | .bl b => P (.bl (!b))
  | _ => False
theorem se_and (ha : SE K T S m ta t) (hb : SE K T S m' tb u) : SE K T S (m && m') (tAndV ta tb) (wAndV t u) := fun C ρ P σ H Q hC ht E q => by
  refine ha C ρ _ σ H _ hC ht E fun d v H1 h1 g1 r1 => ?_
  cases d <;> first | exact h1.elim | skip
  rename_i b
  refine ⟨b, R.blE r1, ?_⟩
  cases b with
  | false => exact q _ _ _ h1 g1.up (.bl _)
  | true => exact hb C ρ P σ H1 Q hC h1 (E.gr g1) fun d v H2 h2 g2 r2 => q _ _ _ h2 (g1.trans g2) r2
theorem se_not (ha : SE K T S m ta t) : SE K T S m (tNotV ta) (wNotV t) := fun C ρ P σ H Q hC ht E q => by
  refine ha C ρ _ σ H _ hC ht E fun d v H1 h1 g1 r1 => ?_
  cases d <;> first | exact h1.elim | skip
  exact ⟨_, R.blE r1, q _ _ _ h1 g1 (.bl _)⟩
/-- a < b < c -/
def wChain (f g : Dt → Dt → (Dt → Prop) → Prop) (t u v : WE) : WE := fun ρ P => t ρ fun a => u ρ fun b => f a b fun z => match z with
  | .bl k => if k = true then v ρ fun c => g b c P else P (.bl false)
  | _ => False
/-! ### an attribute of an instance -/
def kFld (CC : Addr) (f : Str) : Dt → (Dt → Prop) → Prop
  | .obj C' ks ds, P => C' = CC ∧ match (ks.zip ds).lookup f with
    | some d => P d
    | none => False
  | _, _ => False
end
end UL
namespace UL
open PySem PySem.Spec PyProof.Rows L2
section
variable {K : PySem.W.Frag} {T : List NdefX.NTab} {S : Sl} {m m' m1 m2 m3 m4 m5 s s' : Bool} {te ta tb : TE} {t u : WE} {C : Ct} {σ : L2.St} {H H' : Hp} {ρ : Env}
/-! ### calls -/
/-- the promise of a def that changes nothing: w tells what it gives -/
def spU (K : PySem.W.Frag) (T : List NdefX.NTab) (w : List Dt → (Dt → Prop) → Prop) : Sp := fun vs H Q _ => ∃ (ok : Addr → Prop) (ds : List Dt) (P : Dt → Prop), NdefX.TabsN T H ∧ Rs K ok H ds vs ∧ w ds P ∧
  ∀ d v H', P d → Ex T H H' → R K (fun a => ok a ∨ Fre H a) H' d v → Q v H'
/-- .. and gives a new list -/
def spF (K : PySem.W.Frag) (T : List NdefX.NTab) (w : List Dt → (List Dt → Prop) → Prop) : Sp := fun vs H Q _ => ∃ (ok : Addr → Prop) (ds : List Dt) (P : List Dt → Prop), NdefX.TabsN T H ∧ Rs K ok H ds vs ∧ w ds P ∧
  ∀ es p us H', P es → Ex T H H' → Fre H p → H' p = some (.lst us) → Rs K (fun a => (ok a ∨ Fre H a) ∧ a ≠ p) H' es us → Q (.ref p) H'
/-- .. of a def that draws from its first argument -/
def spP (K : PySem.W.Frag) (T : List NdefX.NTab) (w : List Dt → (Dt → Prop) → Prop) : Sp := fun vs H Q _ => ∃ (p : Addr) (vs' : List V) (ok : Addr → Prop) (ds : List Dt) (P : Dt → Prop), vs = .ref p :: vs' ∧ PlAt H p ∧ ¬ ok p ∧ NdefX.TabsN T H ∧ Rs K ok H ds vs' ∧ w ds P ∧
  ∀ d v H', P d → (∀ a o, NT o → a ≠ p → H a = some o → H' a = some o) → PlAt H' p → NdefX.TabsN T H' → R K (fun a => ok a ∨ Fre H a) H' d v → Q v H'
theorem se_call {tr : TA} {u : WA} {w : List Dt → (Dt → Prop) → Prop} {E0 : XK} (h : SA K T S m tr u) : SE K T S m (tCall (spU K T w) [] E0 tr) (fun ρ P => u ρ fun ds => w ds P) := fun C ρ P σ H Q hC ht E q => by
  refine h C ρ _ σ H _ hC ht E fun ds vs H1 h1 g1 r1 => ?_
  rw [List.append_nil]
  have t1 := (E.gr g1).tab
  rw [hC.T] at t1
  refine ⟨C.ok, ds, P, t1, r1, h1, fun d v H2 hp k r2 => q d v H2 hp (gr_andE g1 (by rw [hC.T]; exact k)) (r2.okm fun a _ z => z.elim id fun z => (E.gr g1).freshF z)⟩
theorem gr_pool {i : Nat} (E : EnvR K C σ H ρ) (hi : i ∈ C.Pl) (k : ∀ a o, NT o → a ≠ C.A i → H a = some o → H' a = some o) (hp : PlAt H' (C.A i)) (ht : NdefX.TabsN C.T H') : Gr false C H H' := by
  refine ⟨fun a o nt e h => k a o nt (h rfl i hi) e, fun j hj h => ?_, fun a f o nt e => ?_, fun _ => ht⟩
  · by_cases e : C.A j = C.A i
    · rw [e]
      exact hp
    · obtain ⟨x, y, z, e1⟩ := h
      exact ⟨x, y, z, k _ _ nt_lst e e1⟩
  · by_cases q : a = C.A i
    · obtain ⟨x, y, z, e1⟩ := hp
      exact f _ nt_lst (q ▸ e1)
    · exact f o nt (k a o nt q e)
theorem se_callP (i : Nat) {tr : TA} {u : WA} {w : List Dt → (Dt → Prop) → Prop} {E0 : XK} (h : SA K T S m tr u) (hi : i ∈ S.2 := by decide) : SE K T S false (tCall (spP K T w) [] E0 (tCons (tVar i) tr)) (fun ρ P => u ρ fun ds => w ds P) := fun C ρ P σ H Q hC ht E q => by
  have hi' : i ∈ C.Pl := by rw [hC.2]; exact hi
  obtain ⟨_, e1, _⟩ := E.pls i hi'
  refine ⟨_, e1, ?_⟩
  refine h C ρ _ σ H _ hC ht E fun ds vs H1 h1 g1 r1 => ?_
  have E1 := E.gr g1
  obtain ⟨_, _, pl, _⟩ := E1.pls i hi'
  show spP K T w (V.ref (C.A i) :: (vs ++ [])) H1 Q E0
  rw [List.append_nil]
  have t1 := E1.tab
  rw [hC.T] at t1
  refine ⟨C.A i, vs, C.ok, ds, P, rfl, pl, fun z => z.2 i (.inr hi') rfl, t1, r1, h1, fun d v H2 hp k hpl t2 r2 => ?_⟩
  refine q d v H2 hp ?_ (r2.okm fun a _ z => z.elim id fun z => E1.freshF z)
  have := g1.trans (gr_pool E1 hi' k hpl (by rw [hC.T]; exact t2))
  rwa [Bool.and_false] at this
/-! ### targets -/
/-- a target, told by data: the slots js, what it stores -/
def SG (K : PySem.W.Frag) (T : List NdefX.NTab) (S : Sl) (g : TG) (js : List Nat) (bind : Dt → Env → Option Env) : Prop := ∀ (C : Ct) (ρ ρ' : Env) (d : Dt) (v : V) (σ : L2.St) (H : Hp) (Q : L2.St → Hp → Prop), C.In T S → bind d ρ = some ρ' → EnvR K C σ H ρ → R K C.ok H d v →
  (∀ σ', EnvR K C σ' H ρ' → (∀ vs : List Nat, (∀ j ∈ js, j ∈ vs) → wipe σ' vs = wipe σ vs) → Q σ' H) → g v σ H Q
theorem EnvR.setN (E : EnvR K C σ H ρ) {i : Nat} {d : Dt} {v : V} (hO : i ∉ C.O) (hi : i ∉ C.Pl) (r : R K C.ok H d v) : EnvR K C (σ.set i (some v)) H (ρ.set i (some d)) := by
  have e : C.drop i = C := by
    unfold Ct.drop
    rw [List.filter_eq_self.mpr fun j hj => by simp; rintro rfl; exact hO hj]
  have := E.set hi r
  rwa [e] at this
theorem wipe_set {σ : L2.St} {j : Nat} {x : Option V} : ∀ {vs : List Nat}, j ∈ vs → wipe (σ.set j x) vs = wipe σ vs
  | v :: vs, h => by
    unfold wipe
    by_cases hj : j ∈ vs
    · rw [wipe_set hj]
    · have e : v = j := by
        rcases List.mem_cons.mp h with h | h
        · exact h.symm
        · exact absurd h hj
      subst e
      have key : ∀ us : List Nat, wipe (σ.set v x) us = (wipe σ us).set v ((wipe (σ.set v x) us).getD v none) := fun us => by
        apply List.ext_getElem?
        intro k
        by_cases hk : k = v
        · subst hk
          by_cases hl : k < σ.length
          · rw [List.getElem?_set_self (by rw [wipe_length]; exact hl), List.getD_eq_getElem?_getD]
            rw [List.getElem?_eq_getElem (by rw [wipe_length, List.length_set]; exact hl)]
            rfl
          · rw [List.getElem?_eq_none (by rw [wipe_length, List.length_set]; omega), List.getElem?_eq_none (by rw [List.length_set, wipe_length]; omega)]
        · rw [List.getElem?_set_ne (Ne.symm hk)]
          induction us with
          | nil => exact List.getElem?_set_ne (Ne.symm hk)
          | cons w us ih =>
            unfold wipe
            by_cases hw : w = k
            · subst hw
              by_cases hl : w < σ.length
              · rw [List.getElem?_set_self (by rw [wipe_length, List.length_set]; exact hl), List.getElem?_set_self (by rw [wipe_length]; exact hl)]
              · rw [List.getElem?_eq_none (by rw [List.length_set, wipe_length, List.length_set]; omega), List.getElem?_eq_none (by rw [List.length_set, wipe_length]; omega)]
            · rw [List.getElem?_set_ne hw, List.getElem?_set_ne hw]
              exact ih
      rw [key vs, List.set_set]
theorem wipe_wipe {σ : L2.St} : ∀ (vs : List Nat) {us : List Nat}, (∀ v ∈ vs, v ∈ us) → wipe (wipe σ vs) us = wipe σ us
  | [], _, _ => rfl
  | v :: vs, us, h => by
    show wipe ((wipe σ vs).set v none) us = _
    rw [wipe_set (h v List.mem_cons_self), wipe_wipe vs fun w hw => h w (List.mem_cons_of_mem _ hw)]
theorem sg_name (j : Nat) (h : j ∉ S.1 ∧ j ∉ S.2 := by decide) : SG K T S (gName j) [j] (fun d ρ => some (ρ.set j (some d))) := fun C ρ ρ' d v σ H Q hC e E r q => by
  cases e
  exact q _ (E.setN (by rw [hC.1]; exact h.1) (by rw [hC.2]; exact h.2) r) fun vs hv => wipe_set (hv j List.mem_cons_self)
def gNames : List Nat → TGs
  | [] => gNil
  | j :: js => gCons (gName j) (gNames js)
def bindNames : List Nat → List Dt → Env → Option Env
  | [], [], ρ => some ρ
  | j :: js, d :: ds, ρ => bindNames js ds (ρ.set j (some d))
  | _, _, _ => none
def bindTup (js : List Nat) : Dt → Env → Option Env
  | .tup ds, ρ => bindNames js ds ρ
  | _, _ => none
/-! ### what is walked -/
structure WalkD (K : PySem.W.Frag) (J : It) (items : List Dt) (as : List Addr) (WI : (Addr → Prop) → Hp → Prop) : Prop where
  ex : ∃ (G : Hp → Prop) (Y : Nat → Hp → V → Hp → Prop), Walk J items.length G Y ∧ (∀ ok H, WI ok H → G H) ∧
    ∀ (ok : Addr → Prop) i H x H', i < items.length → WI ok H → (∀ p, H p = none → ok p) → Y i H x H' → Same H H' ∧ ∃ d, items[i]? = some d ∧ R K ok H' d x
  mv : ∀ ok ok' H H', (∀ a ∈ as, ∀ us, H a = some (.lst us) → H' a = some (.lst us)) → Mv ok H ok' H' → WI ok H → WI ok' H'
/-- s: its lists are none of the def's own -/
def SI (K : PySem.W.Frag) (T : List NdefX.NTab) (S : Sl) (m s : Bool) (wi : TI) (t : WA) : Prop := ∀ (C : Ct) (ρ : Env) (P : List Dt → Prop) (σ : L2.St) (H : Hp) (Q : It → Hp → Prop), C.In T S → t ρ P → EnvR K C σ H ρ →
  (∀ items J H' as WI, P items → Gr m C H H' → WalkD K J items as WI → WI C.ok H' → (∀ a ∈ as, (∃ us, H' a = some (.lst us)) ∧ (∀ j ∈ C.Pl, a ≠ C.A j) ∧ (s = true → C.ok a)) → Q J H') → wi σ H Q
def wItems (t : WE) : WA := fun ρ P => t ρ fun d => match d with
  | .lst ds => P ds
  | .tup ds => P ds
  | _ => False
def wItemsL (t : WE) : WA := fun ρ P => t ρ fun d => match d with
  | .lst ds => P ds
  | _ => False
def wItemsT (t : WE) : WA := fun ρ P => t ρ fun d => match d with
  | .tup ds => P ds
  | _ => False
theorem walkD_list {a : Addr} {us : List V} {ds : List Dt} (hl : us.length = ds.length) : WalkD K (Itl K a) ds [a] (fun ok H => H a = some (.lst us) ∧ Rs K ok H ds us) :=
  ⟨⟨_, _, hl ▸ walk_list (xs := us), fun ok H h => .of h.1, fun ok i H x H' hi h hf y => by
    obtain ⟨rfl, e⟩ := y
    obtain ⟨d, e1, r⟩ := h.2.get e
    exact ⟨Same.refl _, d, e1, r⟩⟩, fun ok ok' H H' hk mv h => ⟨hk a (List.mem_singleton.mpr rfl) _ h.1, h.2.mv mv⟩⟩
theorem si_list (h : SB K T S m te t) : SI K T S m false (iList K te) (wItemsL t) := fun C ρ P σ H Q hC ht E q => by
  refine h C ρ _ σ H _ hC ht E fun d v H1 h1 g1 r1 => ?_
  cases d <;> first | exact h1.elim | skip
  obtain ⟨a, us, rfl, e, n, t⟩ := r1
  refine ⟨a, rfl, ⟨us, .of e⟩, q _ _ H1 _ _ h1 g1 (walkD_list t.len) ⟨e, t⟩ fun b hb => ?_⟩
  rw [List.mem_singleton.mp hb]
  exact ⟨⟨_, e⟩, n, fun z => nomatch z⟩
theorem si_listS (h : SE K T S m te t) : SI K T S m true (iList K te) (wItemsL t) := fun C ρ P σ H Q hC ht E q => by
  refine h C ρ _ σ H _ hC ht E fun d v H1 h1 g1 r1 => ?_
  cases d <;> first | exact h1.elim | skip
  obtain ⟨a, us, rfl, e, k, t⟩ := r1.listSq
  refine ⟨a, rfl, ⟨us, .of e⟩, q _ _ H1 _ _ h1 g1 (walkD_list t.len) ⟨e, t⟩ fun b hb => ?_⟩
  rw [List.mem_singleton.mp hb]
  exact ⟨⟨_, e⟩, fun j hj => k.2 j (.inr hj), fun _ => k⟩
def rngD (lo : Int) (n : Nat) : List Dt := (List.range n).map fun i => Dt.int (lo + (i : Nat))
theorem rngD_len {lo : Int} {n : Nat} : (rngD lo n).length = n := by unfold rngD; rw [List.length_map, List.length_range]
theorem rngD_get {lo : Int} {n i : Nat} (h : i < n) : (rngD lo n)[i]? = some (.int (lo + (i : Nat))) := by
  unfold rngD
  rw [List.getElem?_map, List.getElem?_range h]
  rfl
theorem walkD_rng {lo : Int} {n : Nat} : WalkD K (Itr lo n) (rngD lo n) [] (fun _ _ => True) :=
  ⟨⟨_, _, by rw [rngD_len]; exact walk_range, fun _ _ h => h, fun ok i H x H' hi h hf y => by
    obtain ⟨rfl, rfl⟩ := y
    exact ⟨Same.refl _, _, rngD_get (by rw [rngD_len] at hi; exact hi), .int _⟩⟩, fun _ _ _ _ _ _ h => h⟩
def kRng1 : List Dt → (List Dt → Prop) → Prop
  | [.int j], P => j < 2 ^ 62 ∧ -(2 ^ 62) ≤ j ∧ P (rngD 0 j.toNat)
  | _, _ => False
def kRng2 : List Dt → (List Dt → Prop) → Prop
  | [.int i, .int j], P => (-(2 ^ 62) ≤ i ∧ i < 2 ^ 62 ∧ -(2 ^ 62) ≤ j ∧ j < 2 ^ 62) ∧ P (rngD i (j - i).toNat)
  | _, _ => False
theorem kRng1_of {ds : List Dt} {P : List Dt → Prop} (h : kRng1 ds P) : ∃ j, ds = [.int j] ∧ j < 2 ^ 62 ∧ -(2 ^ 62) ≤ j ∧ P (rngD 0 j.toNat) := by
  unfold kRng1 at h
  split at h
  · exact ⟨_, rfl, h⟩
  · exact h.elim
theorem si_rng1 {tr : TA} {u : WA} (h : SA K T S m tr u) : SI K T S m true (iRng1 tr) (fun ρ P => u ρ fun ds => kRng1 ds P) := fun C ρ P σ H Q hC ht E q => by
  refine h C ρ _ σ H _ hC ht E fun ds vs H1 h1 g1 r1 => ?_
  obtain ⟨j, rfl, h1, h2, h3⟩ := kRng1_of h1
  cases r1 with
  | cons r t =>
    cases t
    exact ⟨j, by rw [R.intE r], h2, h1, q _ _ H1 _ _ h3 g1 walkD_rng True.intro fun b hb => nomatch hb⟩
def zipD (ds es : List Dt) : List Dt := List.zipWith (fun x y => .tup [x, y]) ds es
def kZipT : List Dt → (List Dt → Prop) → Prop
  | [.tup ds, .tup es], P => P (zipD ds es)
  | _, _ => False
/-- enumerate(a list) -/
def enumD (ds : List Dt) : List Dt := (List.range ds.length).zipWith (fun i d => .tup [.int (i : Nat), d]) ds
/-- a text, sign by sign -/
def strD (z : Str) : List Dt := z.cps.toList.map fun c => .str ⟨#[c]⟩
theorem si_str (h : SB K T S m te t) : SI K T S m true (iStr te) (fun ρ P => t ρ fun d => match d with | .str z => P (strD z) | _ => False) := fun C ρ P σ H Q hC ht E q => by
  refine h C ρ _ σ H _ hC ht E fun d v H1 h1 g1 r1 => ?_
  cases d <;> first | exact h1.elim | skip
  rename_i z
  refine ⟨z, R.strE r1, q _ _ H1 [] (fun _ _ => True) h1 g1 ⟨⟨fun _ => True, (fun i H v H' => H' = H ∧ ∃ c, z.cps[i]? = some c ∧ v = V.str ⟨#[c]⟩), ?_, fun _ _ h => h, fun ok i H x H' hi h hf y => ?_⟩, fun _ _ _ _ _ _ h => h⟩ True.intro fun b hb => nomatch hb⟩
  · have : (strD z).length = z.cps.size := by unfold strD; rw [List.length_map, Array.length_toList]
    rw [this]
    exact walk_str
  · obtain ⟨rfl, c, e, rfl⟩ := y
    refine ⟨Same.refl _, _, ?_, .str _⟩
    unfold strD
    rw [List.getElem?_map, Array.getElem?_toList, e]
    rfl
end
end UL
namespace UL
open PySem PySem.Spec PyProof.Rows L2
section
variable {K : PySem.W.Frag} {T : List NdefX.NTab} {S : Sl} {m m' m1 m2 m3 m4 m5 s s' : Bool} {te ta tb : TE} {t u : WE} {C : Ct} {σ : L2.St} {H H' : Hp} {ρ : Env}
/-! ### comprehensions -/
def wipeE (ρ : Env) : List Nat → Env
  | [] => ρ
  | v :: vs => (wipeE ρ vs).set v none
theorem wipeE_some {ρ : Env} {i : Nat} {d : Dt} : ∀ {vs : List Nat}, (wipeE ρ vs)[i]? = some (some d) → ρ[i]? = some (some d) ∧ i ∉ vs
  | [], h => ⟨h, List.not_mem_nil⟩
  | v :: vs, h => by
    unfold wipeE at h
    rcases set_get h with ⟨_, e, _⟩ | ⟨n, h⟩
    · cases e
    · obtain ⟨h1, h2⟩ := wipeE_some h
      exact ⟨h1, fun z => (List.mem_cons.mp z).elim n h2⟩
theorem wipeE_out {ρ : Env} {i : Nat} : ∀ {vs : List Nat}, i ∉ vs → (wipeE ρ vs)[i]? = ρ[i]?
  | [], _ => rfl
  | v :: vs, h => by
    unfold wipeE
    have n : v ≠ i := fun z => h (by rw [z]; exact List.mem_cons_self)
    rw [List.getElem?_set_ne n]
    exact wipeE_out fun z => h (List.mem_cons_of_mem _ z)
theorem wipeE_len (ρ : Env) : ∀ vs : List Nat, (wipeE ρ vs).length = ρ.length
  | [] => rfl
  | v :: vs => by unfold wipeE; rw [List.length_set, wipeE_len ρ vs]
theorem EnvR.wipe (E : EnvR K C σ H ρ) {vs : List Nat} (hv : ∀ j ∈ vs, j ∉ C.O ∧ j ∉ C.Pl) : EnvR K C (L2.wipe σ vs) H (wipeE ρ vs) where
  len := by rw [wipe_length, wipeE_len]; exact E.len
  keep := E.keep
  dom := E.dom
  lent := E.lent
  tab := E.tab
  sh := fun i d h1 h2 e => by
    obtain ⟨e1, n⟩ := wipeE_some e
    rw [wipe_out n]
    exact E.sh i d h1 h2 e1
  own := fun i hi => by
    have n : i ∉ vs := fun z => (hv i z).1 hi
    rw [wipe_out n, wipeE_out n]
    exact E.own i hi
  pls := fun i hi => by
    have n : i ∉ vs := fun z => (hv i z).2 hi
    rw [wipe_out n, wipeE_len]
    exact E.pls i hi
  dj := E.dj
  inj := E.inj
/-- a list of nobody's is changed -/
theorem EnvR.side (E : EnvR K C σ H ρ) {D : Addr} {us vs : List V} (hD : H D = some (.lst us)) (hL : C.L D) (hLP : ¬ C.LP D) (hok : ¬ C.ok D) (hA : ∀ i, i ∈ C.O ∨ i ∈ C.Pl → C.A i ≠ D) :
    EnvR K C σ (upd H D (.lst vs)) ρ ∧ Mv C.ok H C.ok (upd H D (.lst vs)) := by
  have k : Mv C.ok H C.ok (upd H D (.lst vs)) := by
    refine .of ⟨fun a o nt e h => ?_, fun a f o nt e => ?_⟩
    · have n : a ≠ D := by
        rintro rfl
        rw [hD] at e
        cases e
        rcases h with h | h
        · exact hok h
        · exact h.lst _ rfl
      rw [upd_ne n]
      exact e
    · by_cases n : a = D
      · exact f _ nt_lst (by rw [n]; exact upd_same)
      · exact f o nt (by rw [upd_ne n]; exact e)
  refine ⟨⟨E.len, fun a o nt e n => ?_, fun a e => E.dom a (k.kp.dom a e), fun a h => ?_, tabs_lst hD E.tab, fun j d hj hp h => ?_, fun j hj => ?_, fun j hj => ?_, E.dj, E.inj⟩, k⟩
  · have ne : a ≠ D := fun z => n (by rw [z]; exact hL)
    rw [upd_ne ne]
    exact E.keep a o nt e n
  · obtain ⟨⟨x, y, z, e⟩, l⟩ := E.lent a h
    have ne : a ≠ D := fun z => hLP (by rw [← z]; exact h)
    exact ⟨⟨x, y, z, by rw [upd_ne ne]; exact e⟩, l⟩
  · obtain ⟨v, e, r⟩ := E.sh j d hj hp h
    exact ⟨v, e, r.mv k⟩
  · obtain ⟨ds, us', e1, e2, e3, r, q⟩ := E.own j hj
    exact ⟨ds, us', e1, e2, by rw [upd_ne (hA j (.inl hj))]; exact e3, r.mv k, q⟩
  · obtain ⟨l, e, ⟨x, y, z, e3⟩, q⟩ := E.pls j hj
    exact ⟨l, e, ⟨x, y, z, by rw [upd_ne (hA j (.inr hj))]; exact e3⟩, q⟩
/-- within a comprehension: the new list is at D -/
def Ct.comp (C : Ct) (H1 : Hp) (D : Addr) : Ct where
  H0 := upd H1 D (.lst [])
  ok0 := fun a => C.ok a ∧ a ≠ D
  L := fun a => a = D ∨ ∃ i, (i ∈ C.O ∨ i ∈ C.Pl) ∧ a = C.A i
  LP := fun a => ∃ i ∈ C.Pl, a = C.A i
  O := C.O
  Pl := C.Pl
  A := C.A
  T := C.T
theorem comp_ok {H1 : Hp} {D a : Addr} (E : EnvR K C σ H1 ρ) (hD : H1 D = none) (h : (C.comp H1 D).ok a) : C.ok a ∧ a ≠ D := by
  rcases h.1 with ⟨q, _⟩ | q
  · exact q
  · have q : Fre (upd H1 D (.lst [])) a := q
    have n : a ≠ D := fun e => q _ nt_lst (by rw [e]; exact upd_same)
    exact ⟨E.freshF fun o nt e => q o nt (by rw [upd_ne n]; exact e), n⟩
theorem ok_comp {H1 : Hp} {D a : Addr} (h : C.ok a) (n : a ≠ D) : (C.comp H1 D).ok a := by
  refine ⟨.inl ⟨⟨h, n⟩, fun z => ?_⟩, h.2⟩
  rcases z with z | ⟨i, hi, z⟩
  · exact n z
  · exact h.2 i hi z
theorem EnvR.comp {H1 : Hp} {D : Addr} (E : EnvR K C σ H1 ρ) (hD : H1 D = none) : EnvR K (C.comp H1 D) σ (upd H1 D (.lst [])) ρ ∧ (∀ i, i ∈ C.O ∨ i ∈ C.Pl → C.A i ≠ D) := by
  have ne : ∀ i, i ∈ C.O ∨ i ∈ C.Pl → C.A i ≠ D := fun i hi z => by
    obtain ⟨us, e, _⟩ := E.place hi
    rw [z, hD] at e
    cases e
  have mv : Mv C.ok H1 (C.comp H1 D).ok (upd H1 D (.lst [])) := ⟨.same (same_up hD), fun a n h => ok_comp h fun z => n (by rw [z]; exact .of hD)⟩
  refine ⟨⟨E.len, fun a o _ e _ => e, fun a e => e, fun a ⟨i, hi, z⟩ => ?_, E.tab.ext (same_up hD), fun i d h1 h2 e => ?_, fun i hi => ?_, fun i hi => ?_, E.dj, E.inj⟩, ne⟩
  · obtain ⟨_, _, p, _⟩ := E.pls i hi
    rw [z]
    exact ⟨p.same (same_up hD), .inr ⟨i, .inr hi, rfl⟩⟩
  · obtain ⟨v, e1, r⟩ := E.sh i d h1 h2 e
    exact ⟨v, e1, r.mv mv⟩
  · obtain ⟨ds, us, e1, e2, e3, r, q, l⟩ := E.own i hi
    refine ⟨ds, us, e1, e2, same_up hD _ _ e3, r.mv mv, .inr (.inr ⟨i, .inl hi, rfl⟩), fun ⟨j, hj, z⟩ => ?_⟩
    have := E.inj i j (.inl hi) (.inr hj) z
    exact E.dj i hi (this ▸ hj)
  · obtain ⟨l, e, p, q⟩ := E.pls i hi
    exact ⟨l, e, p.same (same_up hD), .inr ⟨i, hi, rfl⟩⟩
/-- the turns of a comprehension -/
def wComp (bind : Dt → Env → Option Env) (u : WT) (t : WE) (ρ : Env) : List Dt → List Dt → (List Dt → Prop) → Prop
  | [], acc, P => P acc
  | d :: ds, acc, P => match bind d ρ with
    | some ρ1 => u ρ1 fun b => if b = true then t ρ1 fun x => wComp bind u t ρ ds (acc ++ [x]) P else wComp bind u t ρ ds acc P
    | none => False
def wLc (ti : WA) (bind : Dt → Env → Option Env) (u : WT) (t : WE) (vs : List Nat) : WA := fun ρ P => ti ρ fun items => items.length ≤ 1000000 ∧ wComp bind u t (wipeE ρ vs) items [] P
theorem drop_of {α : Type} {l : List α} {i : Nat} {x : α} (h : l[i]? = some x) : l.drop i = x :: l.drop (i + 1) := by
  obtain ⟨h1, h2⟩ := List.getElem?_eq_some_iff.mp h
  rw [← h2]
  exact List.drop_eq_getElem_cons h1
theorem Gr.comm (g : Gr m C H H') : Gr (m' && m) C H H' := by
  rw [Bool.and_comm]
  exact g.up
theorem Gr.idem {H'' : Hp} (a : Gr m C H H') (b : Gr m C H' H'') : Gr m C H H'' := by
  have := a.trans b
  rwa [Bool.and_self] at this
theorem st_yes : ST K T S true tYes (fun _ P => P true) := fun C ρ P σ H Q hC ht E q => q true H ht .refl
/-- the state of a comprehension between two turns -/
structure LcSt (K : PySem.W.Frag) (C : Ct) (m : Bool) (H1 : Hp) (D : Addr) (σ : L2.St) (ρ : Env) (as : List Addr) (WI : (Addr → Prop) → Hp → Prop) (acc : List Dt) (H : Hp) : Prop where
  env : EnvR K (C.comp H1 D) σ H ρ
  at_ : ∃ us, H D = some (.lst us) ∧ Rs K (C.comp H1 D).ok H acc us
  gr : Gr m C H1 H
  wi : WI (C.comp H1 D).ok H
theorem LcSt.gr_ {H1 : Hp} {D : Addr} {as : List Addr} {WI : (Addr → Prop) → Hp → Prop} {acc : List Dt} {J : It} {items : List Dt} (W : WalkD K J items as WI) (hs : ∀ a ∈ as, ∀ j ∈ C.Pl, a ≠ C.A j) {σ' : L2.St} {ρ' : Env}
    (L : LcSt K C m H1 D σ ρ as WI acc H) (nD : ∀ j ∈ C.Pl, C.A j ≠ D) (g : Gr m (C.comp H1 D) H H') (E' : EnvR K (C.comp H1 D) σ' H ρ') : LcSt K C m H1 D σ ρ as WI acc H' := by
  have g' : Gr m C H H' := ⟨g.keep, g.pl, g.dom, g.tab⟩
  obtain ⟨us, e, r⟩ := L.at_
  refine ⟨L.env.gr g, ⟨us, g.keep _ _ nt_lst e fun _ j hj z => nD j hj z.symm, r.mv (g.mv L.env)⟩, L.gr.idem g', ?_⟩
  exact W.mv _ _ _ _ (fun a ha us e => g.keep _ _ nt_lst e fun _ j hj => hs a ha j hj) (g.mv L.env) L.wi
theorem LcSt.put {H1 : Hp} {D : Addr} {as : List Addr} {WI : (Addr → Prop) → Hp → Prop} {acc : List Dt} {J : It} {items : List Dt} (W : WalkD K J items as WI) (hD : H1 D = none) (hs : ∀ a ∈ as, ∃ us, H1 a = some (.lst us)) {σ' : L2.St} {ρ' : Env} (E : EnvR K C σ' H1 ρ')
    (L : LcSt K C m H1 D σ ρ as WI acc H) (nD : ∀ i, i ∈ C.O ∨ i ∈ C.Pl → C.A i ≠ D) {d : Dt} {y : V} (r : R K (C.comp H1 D).ok H d y) : ∃ us, H D = some (.lst us) ∧ us.length = acc.length ∧ LcSt K C m H1 D σ ρ as WI (acc ++ [d]) (upd H D (.lst (us ++ [y]))) ∧
    Mv (C.comp H1 D).ok H (C.comp H1 D).ok (upd H D (.lst (us ++ [y]))) ∧ ∀ {σ2 : L2.St} {ρ2 : Env}, EnvR K (C.comp H1 D) σ2 H ρ2 → EnvR K (C.comp H1 D) σ2 (upd H D (.lst (us ++ [y]))) ρ2 := by
  obtain ⟨us, e, rs⟩ := L.at_
  have nok : ¬ (C.comp H1 D).ok D := fun z => (comp_ok E hD z).2 rfl
  obtain ⟨E2, k⟩ := L.env.side (vs := us ++ [y]) e (.inl rfl) (fun ⟨i, hi, z⟩ => nD i (.inr hi) z.symm) nok nD
  refine ⟨us, e, rs.len, ⟨E2, ⟨_, upd_same, (rs.snoc r).mv k⟩, ?_, ?_⟩, k, fun E' => (E'.side (vs := us ++ [y]) e (.inl rfl) (fun ⟨i, hi, z⟩ => nD i (.inr hi) z.symm) nok nD).1⟩
  · refine ⟨fun a o nt h n => ?_, fun i hi h => ?_, fun a h => L.gr.dom a (k.kp.dom a h), fun h => tabs_lst e (L.gr.tab h)⟩
    · rw [upd_ne (ne_of_none h hD)]
      exact L.gr.keep a o nt h n
    · obtain ⟨x, y, z, q⟩ := L.gr.pl i hi h
      exact ⟨x, y, z, by rw [upd_ne (nD i (.inr hi))]; exact q⟩
  · refine W.mv _ _ _ _ (fun a ha vs q => ?_) k L.wi
    obtain ⟨ws, q1⟩ := hs a ha
    rw [upd_ne (ne_of_none q1 hD)]
    exact q
theorem sf_lc {wi : TI} {ti : WA} {g : TG} {js vs : List Nat} {bind : Dt → Env → Option Env} {tt : TT} {uT : WT} (hi : SI K T S m1 s wi ti) (hg : SG K T S g js bind) (ht : ST K T S m2 tt uT) (he : SE K T S m3 te t)
    (hjs : ∀ j ∈ js, j ∈ vs := by decide) (hv : ∀ j ∈ vs, j ∉ S.1 ∧ j ∉ S.2 := by decide) : SF K T S (m1 && (m2 && m3)) (tLc wi g tt te vs) (wLc ti bind uT t vs) := fun C ρ P σ H Q hC hw E q => by
  refine hi C ρ _ σ H _ hC hw E fun items J H1 as WI hP g1 W w0 hs D hD => ?_
  obtain ⟨hlen, hP⟩ := hP
  have E1 := E.gr g1
  obtain ⟨E2, nD⟩ := E1.comp hD
  have hC2 : (C.comp H1 D).In T S := ⟨hC.1, hC.2, hC.3⟩
  have hv' : ∀ j ∈ vs, j ∉ C.O ∧ j ∉ C.Pl := fun j hj => by rw [hC.1, hC.2]; exact hv j hj
  have E3 := E2.wipe (vs := vs) hv'
  obtain ⟨⟨G, Y, wk, wG, wY⟩, _⟩ := id W
  have hs1 : ∀ a ∈ as, ∀ j ∈ C.Pl, a ≠ C.A j := fun a ha => (hs a ha).2.1
  have hs2 : ∀ a ∈ as, ∃ us, H1 a = some (.lst us) := fun a ha => (hs a ha).1
  refine lc_it wk (fun i H' => ∃ acc, LcSt K C (m2 && m3) H1 D (wipe σ vs) (wipeE ρ vs) as WI acc H' ∧ acc.length ≤ i ∧ wComp bind uT t (wipeE ρ vs) (items.drop i) acc P) ?_ (fun i H' _ ⟨acc, L, _⟩ => wG _ _ L.wi) ?_ ?_
  · refine ⟨[], ⟨E3, ⟨[], upd_same, .nil⟩, .of (same_up hD), ?_⟩, Nat.le_refl _, hP⟩
    refine W.mv _ _ _ _ (fun a ha us e => same_up hD _ _ e) ⟨.same (same_up hD), fun a n h => ok_comp h fun z => n (by rw [z]; exact .of hD)⟩ w0
  · rintro i x H2 H3 hi' ⟨acc, L, la, wc⟩ hy
    obtain ⟨k, d, ed, r⟩ := wY _ i H2 x H3 hi' L.wi (fun p hp => L.env.fresh hp) hy
    have L3 := L.gr_ W hs1 (fun j hj => nD j (.inr hj)) (.of k) L.env
    rw [drop_of ed] at wc
    unfold wComp at wc
    cases eb : bind d (wipeE ρ vs) with
    | none => simp only [eb] at wc
    | some ρ1 =>
      simp only [eb] at wc
      refine hg _ _ ρ1 d x _ H3 _ hC2 eb L3.env r fun σ2 E4 hw2 => ⟨by rw [hw2 vs hjs, wipe_wipe vs fun _ h => h], ?_⟩
      refine ht _ ρ1 _ σ2 H3 _ hC2 wc E4 fun b H4 h4 g4 => ?_
      have L4 := L3.gr_ W hs1 (fun j hj => nD j (.inr hj)) (g4.up (m' := m3)) E4
      have E5 := E4.gr g4
      cases b with
      | false => exact ⟨acc, L4, Nat.le_succ_of_le la, h4⟩
      | true =>
        refine he _ ρ1 _ σ2 H4 _ hC2 h4 E5 fun y v H5 h5 g5 r5 => ?_
        have L5 := L4.gr_ W hs1 (fun j hj => nD j (.inr hj)) (g5.comm (m' := m2)) E5
        obtain ⟨us, eD, lu, L6, _⟩ := L5.put W hD hs2 E1 nD r5
        refine ⟨us, eD, ?_, acc ++ [y], L6, by rw [List.length_append]; exact Nat.succ_le_succ la, h5⟩
        rw [sizeLine_eq]
        omega
  · rintro H2 ⟨acc, L, la, wc⟩
    rw [List.drop_length] at wc
    obtain ⟨us, eD, rs⟩ := L.at_
    exact q acc D us H2 wc (g1.trans L.gr) (g1.dom D (.of hD)) eD (rs.okm fun a _ h => comp_ok E1 hD h)
/-- two clauses -/
def wComp2 (bind : Dt → Env → Option Env) (u : WT) (ti1 : WA) (bind1 : Dt → Env → Option Env) (u1 : WT) (t : WE) (vs1 : List Nat) (ρ : Env) : List Dt → List Dt → (List Dt → Prop) → Prop
  | [], acc, P => P acc
  | d :: ds, acc, P => match bind d ρ with
    | some ρ1 => u ρ1 fun b => if b = true then ti1 ρ1 fun items1 => items1.length ≤ 1000 ∧ wComp bind1 u1 t (wipeE ρ1 vs1) items1 acc fun acc' => wComp2 bind u ti1 bind1 u1 t vs1 ρ ds acc' P else wComp2 bind u ti1 bind1 u1 t vs1 ρ ds acc P
    | none => False
def wLc2 (ti : WA) (bind : Dt → Env → Option Env) (u : WT) (ti1 : WA) (bind1 : Dt → Env → Option Env) (u1 : WT) (t : WE) (vs vs1 : List Nat) : WA := fun ρ P => ti ρ fun items => items.length ≤ 1000 ∧ wComp2 bind u ti1 bind1 u1 t vs1 (wipeE ρ vs) items [] P
end
end UL
/-! several except clauses, each with a name or without -/
namespace VY
open PySem PySem.Spec PyProof.Rows L2
abbrev Cl := Value × Option Nat × (Addr → Value → Option Addr → TS)
/-- what the clauses wish of an exception of the body -/
def wMA (K : PySem.W.Frag) (Wout : WX) (D : Ends) : List Cl → WX
  | [] => Wout
  | (c, none, ts) :: r => fun cls d σ H => ∃ b, PySem.W.exmOne K cls c = some b ∧ (b = true → ∀ a, H a = none → ts a cls d D σ H) ∧ (b = false → wMA K Wout D r cls d σ H)
  | (c, some i, ts) :: r => fun cls d σ H => ∃ b, PySem.W.exmOne K cls c = some b ∧
      (b = true → ∀ a, H a = none → ts a cls d { nx := fun σ' H' => D.nx (σ'.set i none) H', rt := D.rt, bk := fun σ' H' => D.bk (σ'.set i none) H', ct := fun σ' H' => D.ct (σ'.set i none) H' } (σ.set i (some (.ref a))) H) ∧
      (b = false → wMA K Wout D r cls d σ H)
inductive HdsA (X : Cx) : List ExceptHandler → List Cl → Prop
  | nil : HdsA X [] []
  | no {x : Str} {c : Value} {ts : Addr → Value → Option Addr → TS} {b₀ : Stmt} {suite : List Stmt} {np pos' : Pos} {hds : List ExceptHandler} {l : List Cl} (hc : Names X x c)
      (hsu : ∀ (a : Addr) (oe : Obj) (cls : Value) (d : Option Addr) (pn : List (Addr × Obj)), Zc cls d oe → (∃ vs, oe.data = .fields vs) → PSs (X.suite a ((a, oe) :: pn)) (b₀ :: suite) (ts a cls d)) (r : HdsA X hds l) :
      HdsA X (.ExceptHandler (some (.Name x np)) none (b₀ :: suite) pos' :: hds) ((c, none, ts) :: l)
  | as {x n : Str} {c : Value} {i : Nat} {ts : Addr → Value → Option Addr → TS} {b₀ : Stmt} {suite : List Stmt} {np pos' : Pos} {hds : List ExceptHandler} {l : List Cl} (hi : X.N[i]? = some n) (hln : X.env.kindOf n = some .local) (hc : Names X x c)
      (hsu : ∀ (a : Addr) (oe : Obj) (cls : Value) (d : Option Addr) (pn : List (Addr × Obj)), Zc cls d oe → (∃ vs, oe.data = .fields vs) → PSs (X.suite a ((a, oe) :: pn)) (b₀ :: suite) (ts a cls d)) (r : HdsA X hds l) :
      HdsA X (.ExceptHandler (some (.Name x np)) (some n) (b₀ :: suite) pos' :: hds) ((c, some i, ts) :: l)
section
variable {X : Cx} {body : List Stmt} {h₀ : ExceptHandler} {hds : List ExceptHandler} {l : List Cl} {pos : Pos} {tb : WX → TS} {Wout : WX}
theorem ps_tryA (hs : X.stack = X.env :: X.outer) (hf : X.env.frame = some X.env.locals) (hN : X.N.Nodup) (tk : Takes X Wout)
    (hb : ∀ (W : WX) (pn : List (Addr × Obj)) (xe : Value → Shared → Prop), Takes (X.tr pn xe) W → PassesOwn (model X.prog X.w) X.A X.env xe → PSs (X.tr pn xe) body (tb W))
    (hh : HdsA X (h₀ :: hds) l) : PS X (.Try body (h₀ :: hds) [] [] pos) (fun D σ H => tb (wMA X.K Wout D l) D σ H) := by
  refine ⟨fun pins s σ H D I h => ?_⟩
  have ok := I.ok
  have hfr : X.A.frames = some (X.env :: X.outer) := by rw [ok.frames, hs]
  refine wpAny_Try_except ?_
  refine wpAny_mono ((hb (wMA X.K Wout D l) (X.pn ++ pins) (fun e s₁ => wpAny (model X.prog X.w) X.A (noteFrame e X.env) (fun _ s₂ => wpAny (model X.prog X.w) X.A (setFlight e none) (fun _ s₃ =>
    wpAny (model X.prog X.w) X.A (handleBy e X.env (h₀ :: hds)) (SP X pins D) X.xe s₃) X.xe s₂) X.xe s₁) (fun u s' xx => ?_) PassesOwn.looking).run [] s σ H D (I.toTry _) h) (fun f s1 hsp => ?_) (fun e s1 he => he)
  · obtain ⟨a, B, sI, pins', σ', H', cls, d, rfl, J', nb, up, sky, na, os, ag, w⟩ := xx
    have J : Inv X pins σ' H' sI := J'.ofTry ok
    have sky' : Sky B (X.env :: X.outer) a (Zc cls d) X.env.locals s'.heap := by rw [← hs]; exact sky
    show wpAny (model X.prog X.w) X.A (noteFrame (.ref a) X.env) _ _ _
    refine Sky.land Zc.steady hfr hf sky' fun h3 fl3 up3 => ?_
    have J3 : Inv X pins σ' H' { s' with heap := h3 } := J.landed nb fl3.1 (up.trans up3) os ag
    obtain ⟨oe3, vs3, he3, hz3, hd3⟩ := fl3.there
    have notFr : ∀ {h : Heap} {o : Obj} {vs : Array Value}, h.FunFrames B (X.env :: X.outer) → h.get? a = some o → o.data = .fields vs → a ∉ frs (X.env :: X.outer) := fun {h o vs} ff e dd hm => by
      obtain ⟨_, o', e', hnf⟩ := ff.mem hm
      rw [e] at e'; cases e'
      exact hnf _ dd
    have nfr := notFr fl3.2.2.1 he3 hd3
    have nL : a ≠ X.env.locals := fun z => nfr (List.mem_filterMap.mpr ⟨X.env, List.mem_cons_self, by rw [hf, z]⟩)
    have nF : a ∉ X.fs := fun hm => by
      obtain ⟨e, he, q⟩ := List.mem_filterMap.mp hm
      exact nfr (List.mem_filterMap.mpr ⟨e, List.mem_cons_of_mem _ he, q⟩)
    have S3 := J3.suite he3 hd3 na nL nF
    have tst : ∀ {x : Str} {c : Value} {np : Pos}, Names X x c → ∀ {Q : Value → Shared → Prop} {E : Value → Shared → Prop}, Q c { s' with heap := h3 } → wpAny (model X.prog X.w) (X.A.mark (some (.ref a))) (eval (.Name x np) X.env) Q E { s' with heap := h3 } := fun {x c np} hc {Q E} q => by
      obtain ⟨hg, hdbg, hm | ⟨hm, hv, hnn⟩⟩ := hc
      · exact ld_glob (X := X.suite a ((a, oe3) :: (X.pn ++ pins))) S3 hg hm q hdbg
      · exact ld_blt (X := X.suite a ((a, oe3) :: (X.pn ++ pins))) S3 hg hm hv q hnn hdbg
    have LT : PySem.W.Looks (model X.prog X.w) h3 (typeOf (.ref a)) cls := fun A Q E s k q => wpAny_typeOf_ref (k _ _ he3) (by rw [hz3.1]; exact q)
    have go : ∀ {hds' : List ExceptHandler} {l' : List Cl}, HdsA X hds' l' → wMA X.K Wout D l' cls d σ' H' →
        wpAny (model X.prog X.w) X.A (handleBy (.ref a) X.env hds') (SP X pins D) X.xe { s' with heap := h3 } := by
      intro hds' l' hk
      induction hk with
      | nil =>
        intro w
        refine wpAny_handleBy_nil ?_
        obtain ⟨k1, k2, k3, oe, vs, T, oT, ts', he, hz, hd, h1, hr⟩ := id fl3
        unfold PySem.passOn
        refine wpAny_bind (wpAny_field he hd h1 ?_)
        rw [if_neg (show ¬ ((Value.ref T == Value.none) = true) from by simp)]
        have fin : wpAny (model X.prog X.w) X.A (setFlight (.ref a) X.env.frame) (fun _ s4 => wpAny (model X.prog X.w) X.A (throw (.ref a) : Sem Flow) (SP X pins D) X.xe s4) X.xe { s' with heap := h3 } := by
          rw [hf]
          refine HandSPX.setFlight_upZ fl3 fun h4 hh4 up4 => wpAny_throw (tk _ _ ?_)
          exact ⟨a, B, sI, pins, σ', H', cls, d, rfl, J, nb, (up.trans up3).trans up4, .inr (.inr (by rw [hs]; exact hh4)), na, os, ag, w⟩
        first
          | exact wpAny_bind (wpAny_pure (wpAny_bind fin))
          | exact wpAny_bind fin
      | @no x c ts b₀ suite np pos' hds2 l2 hc hsu r ih =>
        intro w
        obtain ⟨b, hb1, hyes, hno⟩ := w
        refine wpAny_handleBy_cons (codeAny_handlers_test ?_) (by intro q; cases q)
        have LM := PySem.W.exm_one (M := model X.prog X.w) (J3.kIn) LT hb1
        refine tst hc (LM.here ?_)
        cases b with
        | true =>
          refine codeAny_handlers_suite ?_
          refine HandSPX.lands_againZ fl3 fun h4 fl4 up4 => ?_
          have J4 : Inv X pins σ' H' { s' with heap := h4 } := J.landed nb fl4.1 ((up.trans up3).trans up4) os ag
          obtain ⟨oe4, vs4, he4, hz4, hd4⟩ := fl4.there
          have S4 := J4.suite he4 hd4 na nL nF
          refine wpAny_mono ((hsu a oe4 cls d (X.pn ++ pins) hz4 ⟨_, hd4⟩).run [] _ _ H' _ S4 (hyes rfl a na)) (fun f s6 hsp => ?_) (fun _ _ z => False.elim z)
          cases f with
          | next =>
            obtain ⟨σ6, H6, S6, q6⟩ := hsp
            exact ⟨_, _, S6.unsuite ok, q6⟩
          | brk =>
            obtain ⟨σ6, H6, S6, q6⟩ := hsp
            exact ⟨_, _, S6.unsuite ok, q6⟩
          | cont =>
            obtain ⟨σ6, H6, S6, q6⟩ := hsp
            exact ⟨_, _, S6.unsuite ok, q6⟩
          | ret u =>
            obtain ⟨v6, σ6, H6, S6, r6, q6⟩ := hsp
            exact ⟨_, _, _, S6.unsuite ok, r6, q6⟩
        | false =>
          show wpAny _ X.A (handleBy (.ref a) X.env hds2) _ _ _
          exact ih (hno rfl)
      | @as x n c i ts b₀ suite np pos' hds2 l2 hi hln hc hsu r ih =>
        intro w
        obtain ⟨b, hb1, hyes, hno⟩ := w
        have hloc : Loc X.env.scope n := .inl hln
        refine wpAny_handleBy_cons (codeAny_handlers_test ?_) (by intro q; cases q)
        have LM := PySem.W.exm_one (M := model X.prog X.w) (J3.kIn) LT hb1
        refine tst hc (LM.here ?_)
        cases b with
        | true =>
          refine codeAny_handlers_suite_as ?_
          refine HandSPX.lands_againZ fl3 fun h4 fl4 up4 => ?_
          have J4 : Inv X pins σ' H' { s' with heap := h4 } := J.landed nb fl4.1 ((up.trans up3).trans up4) os ag
          obtain ⟨oe4, vs4, he4, hz4, hd4⟩ := fl4.there
          have S4 := J4.suite he4 hd4 na nL nF
          refine store_ok (X := X.suite a ((a, oe4) :: (X.pn ++ pins))) (v := .ref a) S4 hN hi hloc rfl (fun s5 S5 => ?_) (.inr hln)
          refine wpAny_mono ((hsu a oe4 cls d (X.pn ++ pins) hz4 ⟨_, hd4⟩).run [] s5 _ H' _ S5 (hyes rfl a na)) (fun f s6 hsp => ?_) (fun _ _ z => False.elim z)
          have end_ : ∀ {σ6 : L2.St} {H6 : Hp} {Q : Shared → Prop}, Inv (X.suite a ((a, oe4) :: (X.pn ++ pins))) [] σ6 H6 s6 → (∀ s7, Inv X pins (σ6.set i none) H6 s7 → Q s7) →
              wpAny (model X.prog X.w) X.A (do bindName X.env n .none; unbindBehindTheSuite X.env n pos') (fun _ s7 => Q s7) X.xe s6 := fun {σ6 H6 Q} S6 hq => gone_ok (S6.unsuite ok) hN hi hln hq
          cases f with
          | next =>
            obtain ⟨σ6, H6, S6, q6⟩ := hsp
            exact end_ S6 fun s7 J7 => ⟨_, _, J7, q6⟩
          | brk =>
            obtain ⟨σ6, H6, S6, q6⟩ := hsp
            exact end_ S6 fun s7 J7 => ⟨_, _, J7, q6⟩
          | cont =>
            obtain ⟨σ6, H6, S6, q6⟩ := hsp
            exact end_ S6 fun s7 J7 => ⟨_, _, J7, q6⟩
          | ret u =>
            obtain ⟨v6, σ6, H6, S6, r6, q6⟩ := hsp
            exact end_ S6 fun s7 J7 => ⟨_, _, _, J7, r6, q6⟩
        | false =>
          show wpAny _ X.A (handleBy (.ref a) X.env hds2) _ _ _
          exact ih (hno rfl)
    exact go hh w
  · cases f with
    | next =>
      obtain ⟨σ', H', J', q⟩ := hsp
      exact wpAny_execs_nil ⟨σ', H', J'.ofTry ok, q⟩
    | brk =>
      obtain ⟨σ', H', J', q⟩ := hsp
      exact ⟨σ', H', J'.ofTry ok, q⟩
    | cont =>
      obtain ⟨σ', H', J', q⟩ := hsp
      exact ⟨σ', H', J'.ofTry ok, q⟩
    | ret u =>
      obtain ⟨v, σ', H', J', r, q⟩ := hsp
      exact ⟨v, σ', H', J'.ofTry ok, r, q⟩
end
end VY
namespace UL
open PySem PySem.Spec PyProof.Rows L2
/-- an exception that a def raises: its class, its only field, what the field holds -/
structure Xn where
  cls : Addr
  f : Str
  d : Dt
def XR (K : PySem.W.Frag) (ok : Addr → Prop) (H : Hp) (x : Xn) (cls : Value) (dd : Option Addr) : Prop := cls = .ref x.cls ∧ ∃ a v, dd = some a ∧ H a = some (.xd [(x.f, v)]) ∧ R K ok H x.d v
/-- what is wished of exceptions; the slots that are the def's own where one is raised -/
structure XOut where
  W : WX
  SX : Option Sl
abbrev XO0 : XOut := ⟨fun _ _ _ _ => False, none⟩
/-- how a statement ends: it goes on, it gives a value, a new list, it leaves a loop, a turn -/
inductive Out where
  | nx (ρ : Env) | rt (d : Dt) | rf (ds : List Dt) | bk (ρ : Env) | ct (ρ : Env) | xc (x : Xn) (ρ : Env)
abbrev WS := Env → (Out → Prop) → Prop
structure Cm (C C' : Ct) : Prop where
  H0 : C'.H0 = C.H0
  ok0 : C'.ok0 = C.ok0
  L : C'.L = C.L
  LP : C'.LP = C.LP
  T : C'.T = C.T
def Ct.Own (C : Ct) : Prop := ∀ i ∈ C.O, Fre C.H0 (C.A i)
structure Fin (C : Ct) (H' : Hp) : Prop where
  keep : ∀ a o, NT o → C.H0 a = some o → ¬ C.L a → H' a = some o
  dom : ∀ a, Fre H' a → Fre C.H0 a
  lent : ∀ a, C.LP a → PlAt H' a
  tab : NdefX.TabsN C.T H'
/-- the def's own slots: how a statement's end is told -/
def Post (K : PySem.W.Frag) (T : List NdefX.NTab) (XO : XOut) (SL S' : Sl) (C : Ct) (H : Hp) (D : Ends) : Out → Prop
  | .nx ρ' => ∀ C' σ' H', C'.In T S' → Cm C C' → EnvR K C' σ' H' ρ' → C'.Own → Mv C.ok H C'.ok H' → D.nx σ' H'
  | .rt d => ∀ v H', Fin C H' → R K C.base H' d v → D.rt v H'
  | .rf ds => ∀ p us H', Fin C H' → Fre C.H0 p → H' p = some (.lst us) → Rs K (fun a => C.base a ∧ a ≠ p) H' ds us → D.rt (.ref p) H'
  | .bk ρ' => ∀ C' σ' H', C'.In T SL → Cm C C' → EnvR K C' σ' H' ρ' → C'.Own → Mv C.ok H C'.ok H' → D.bk σ' H'
  | .ct ρ' => ∀ C' σ' H', C'.In T SL → Cm C C' → EnvR K C' σ' H' ρ' → C'.Own → Mv C.ok H C'.ok H' → D.ct σ' H'
  | .xc x ρ' => ∀ C' σ' H' cls dd, (∀ S0, XO.SX = some S0 → C'.In T S0) → Cm C C' → EnvR K C' σ' H' ρ' → C'.Own → Mv C.ok H C'.ok H' → XR K C'.ok H' x cls dd → XO.W cls dd σ' H'
def SS (K : PySem.W.Frag) (T : List NdefX.NTab) (XO : XOut) (SL S S' : Sl) (ts : TS) (t : WS) : Prop := ∀ (C : Ct) (ρ : Env) (P : Out → Prop) (σ : L2.St) (H : Hp) (D : Ends), C.In T S → t ρ P → EnvR K C σ H ρ → C.Own → (∀ o, P o → Post K T XO SL S' C H D o) → ts D σ H
section
variable {K : PySem.W.Frag} {T : List NdefX.NTab} {SL S S' S1 : Sl} {m m' m1 m2 m3 s : Bool} {te ta tb : TE} {t u : WE} {C C1 C' : Ct} {σ : L2.St} {H H' H1 : Hp} {ρ : Env} {ts ts1 : TS} {w w' : WS} {XO : XOut}
theorem Cm.refl : Cm C C := ⟨rfl, rfl, rfl, rfl, rfl⟩
theorem Cm.trans (a : Cm C C1) (b : Cm C1 C') : Cm C C' := ⟨b.H0.trans a.H0, b.ok0.trans a.ok0, b.L.trans a.L, b.LP.trans a.LP, b.T.trans a.T⟩
theorem Cm.fin (c : Cm C C1) (h : Fin C1 H') : Fin C H' := by
  obtain ⟨e1, e2, e3, e4, e5⟩ := c
  exact ⟨fun a o nt e n => h.keep a o nt (by rw [e1]; exact e) (by rw [e3]; exact n), fun a e => by rw [← e1]; exact h.dom a e, fun a q => h.lent a (by rw [e4]; exact q), by rw [← e5]; exact h.tab⟩
theorem Cm.base (c : Cm C C1) (a : Addr) : C1.base a ↔ C.base a := by
  unfold Ct.base
  rw [c.H0, c.ok0, c.L]
theorem EnvR.fin (E : EnvR K C σ H ρ) : Fin C H := ⟨E.keep, E.dom, fun a h => (E.lent a h).1, E.tab⟩
/-- from later on -/
theorem Post.from {SL S' : Sl} {D : Ends} (c : Cm C C1) (k : Mv C.ok H C1.ok H1) : ∀ {o : Out}, Post K T XO SL S' C H D o → Post K T XO SL S' C1 H1 D o
  | .nx ρ', h => fun C' σ' H' hC c' E own k' => h C' σ' H' hC (c.trans c') E own (k.trans k')
  | .rt d, h => fun v H' f r => h v H' (c.fin f) (r.okm fun a _ q => (c.base a).mp q)
  | .rf ds, h => fun p us H' f hp e r => h p us H' (c.fin f) (by rw [← c.H0]; exact hp) e (r.okm fun a _ q => ⟨(c.base a).mp q.1, q.2⟩)
  | .bk ρ', h => fun C' σ' H' hC c' E own k' => h C' σ' H' hC (c.trans c') E own (k.trans k')
  | .ct ρ', h => fun C' σ' H' hC c' E own k' => h C' σ' H' hC (c.trans c') E own (k.trans k')
  | .xc x ρ', h => fun C' σ' H' cls dd hC c' E own k' r => h C' σ' H' cls dd hC (c.trans c') E own (k.trans k') r
def wNext : WS := fun ρ P => P (.nx ρ)
theorem ss_nil : SS K T XO SL S S tNext wNext := fun C ρ P σ H D hC h E own q => q _ h C σ H hC .refl E own .refl
def wSeq (t u : WS) : WS := fun ρ P => t ρ fun o => match o with
  | .nx ρ1 => u ρ1 P
  | o => P o
theorem ss_seq (h1 : SS K T XO SL S S1 ts w) (h2 : SS K T XO SL S1 S' ts1 w') : SS K T XO SL S S' (tSeq ts ts1) (wSeq w w') := fun C ρ P σ H D hC h E own q => by
  refine h1 C ρ _ σ H { D with nx := ts1 D } hC h E own fun o ho => ?_
  cases o with
  | nx ρ1 => exact fun C' σ' H' hC' c' E' own' k' => h2 C' ρ1 P σ' H' D hC' ho E' own' fun o ho => (q o ho).from c' k'
  | rt d => exact q _ ho
  | rf d => exact q _ ho
  | bk d => exact q _ ho
  | ct d => exact q _ ho
  | xc x d => exact q _ ho
/-- the slots behind a store to i -/
def Sl.drop (S : Sl) (i : Nat) : Sl := (S.1.filter (· ≠ i), S.2)
def Sl.take (S : Sl) (i : Nat) : Sl := (i :: S.1.filter (· ≠ i), S.2)
theorem In.drop {i : Nat} (h : C.In T S) : (C.drop i).In T (S.drop i) := ⟨by show C.O.filter _ = _; rw [h.1]; rfl, h.2, h.3⟩
theorem In.take {i : Nat} {p : Addr} (h : C.In T S) : (C.take i p).In T (S.take i) := ⟨by show i :: C.O.filter _ = _; rw [h.1]; rfl, h.2, h.3⟩
theorem Own.drop {i : Nat} (h : C.Own) : (C.drop i).Own := fun j hj => h j (mem_drop.mp hj).1
theorem Own.take {i : Nat} {p : Addr} (h : C.Own) (hp : Fre C.H0 p) : (C.take i p).Own := fun j hj => by
  by_cases z : j = i
  · rw [z, take_self]
    exact hp
  · rw [take_A z]
    rcases List.mem_cons.mp hj with q | q
    · exact absurd q z
    · exact h j (mem_drop.mp q).1
/-- x = e -/
def wSet (i : Nat) (t : WE) : WS := fun ρ P => t ρ fun d => P (.nx (ρ.set i (some d)))
theorem ss_set (i : Nat) (h : SE K T S m te t) (hi : i ∉ S.2 := by decide) : SS K T XO SL S (S.drop i) (tAsg te (gName i)) (wSet i t) := fun C ρ P σ H D hC ht E own q => by
  refine h C ρ _ σ H _ hC ht E fun d v H1 h1 g1 r1 => ?_
  have E1 := E.gr g1
  exact q _ h1 (C.drop i) _ H1 (In.drop hC) ⟨rfl, rfl, rfl, rfl, rfl⟩ (E1.set (by rw [hC.2]; exact hi) r1) (Own.drop own) ((g1.mv E).trans .drop)
/-- x = a new list -/
def wSetF (i : Nat) (t : WA) : WS := fun ρ P => i < ρ.length ∧ t ρ fun ds => P (.nx (ρ.set i (some (.lst ds))))
theorem ss_setF (i : Nat) {t : WA} (h : SF K T S m te t) (hi : i ∉ S.2 := by decide) : SS K T XO SL S (S.take i) (tAsg te (gName i)) (wSetF i t) := fun C ρ P σ H D hC ht E own q => by
  refine h C ρ _ σ H _ hC ht.2 E fun ds p us H1 h1 g1 hn e r1 => ?_
  obtain ⟨E1, k⟩ := E.setF ht.1 (by rw [hC.2]; exact hi) hn g1 e r1
  exact q _ h1 (C.take i p) _ H1 (In.take hC) ⟨rfl, rfl, rfl, rfl, rfl⟩ E1 (Own.take own (E.dom p hn)) k
/-- a, b = e -/
def wUnp (bind : Dt → Env → Option Env) (t : WE) : WS := fun ρ P => t ρ fun d => match bind d ρ with
  | some ρ' => P (.nx ρ')
  | none => False
/-- an expression alone -/
def wDrop (t : WE) : WS := fun ρ P => t ρ fun _ => P (.nx ρ)
theorem ss_expr (h : SB K T S m te t) : SS K T XO SL S S (tDrop te) (wDrop t) := fun C ρ P σ H D hC ht E own q => by
  refine h C ρ _ σ H _ hC ht E fun d v H1 h1 g1 r1 => ?_
  exact q _ h1 C σ H1 hC .refl (E.gr g1) own (g1.mv E)
/-- xs.append(e), xs an own list -/
def wApp (i : Nat) (t : WE) : WS := fun ρ P => match ρ[i]? with
  | some (some (.lst ds)) => t ρ fun d => ds.length < sizeLine ∧ P (.nx (ρ.set i (some (.lst (ds ++ [d])))))
  | _ => False
theorem ss_app (i : Nat) (h : SE K T S m te t) (hi : i ∈ S.1 := by decide) : SS K T XO SL S S (tDrop (tBM K "list" rAppend (tVar i) (tCons te tNil))) (wApp i t) := fun C ρ P σ H D hC ht E own q => by
  have hi' : i ∈ C.O := by rw [hC.1]; exact hi
  unfold wApp at ht
  split at ht
  case h_2 => exact ht.elim
  rename_i ds e1
  obtain ⟨us0, e2, e3, r0⟩ := E.ownL hi' e1
  refine ⟨_, e2, .inl ⟨rfl, us0, .of e3⟩, ?_⟩
  refine h C ρ _ σ H _ hC ht E fun d v H1 h1 g1 r1 => ?_
  have E1 := E.gr g1
  obtain ⟨us, d2, d3, r2⟩ := E1.ownL hi' e1
  refine ⟨C.A i, us, v, rfl, rfl, d3, by rw [r2.len]; exact h1.1, ?_⟩
  obtain ⟨E2, k⟩ := E1.put (es := ds ++ [d]) (vs := us ++ [v]) hi' (r2.snoc r1)
  exact q _ h1.2 C σ _ hC .refl E2 own ((g1.mv E).trans (.of k))
/-- if -/
def wIfS (c : WT) (t u : WS) : WS := fun ρ P => c ρ fun b => if b = true then t ρ P else u ρ P
theorem ss_if {tc : TT} {wc : WT} (hc : ST K T S m tc wc) (ha : SS K T XO SL S S' ts w) (hb : SS K T XO SL S S' ts1 w') : SS K T XO SL S S' (tIfS tc ts ts1) (wIfS wc w w') := fun C ρ P σ H D hC ht E own q => by
  refine hc C ρ _ σ H _ hC ht E fun b H1 h1 g1 => ?_
  cases b with
  | true => exact ha C ρ P σ H1 D hC h1 (E.gr g1) own fun o ho => (q o ho).from .refl (g1.mv E)
  | false => exact hb C ρ P σ H1 D hC h1 (E.gr g1) own fun o ho => (q o ho).from .refl (g1.mv E)
/-- return -/
def wRet (t : WE) : WS := fun ρ P => t ρ fun d => P (.rt d)
theorem ss_ret (h : SE K T S m te t) : SS K T XO SL S S' (tRet te) (wRet t) := fun C ρ P σ H D hC ht E own q => by
  refine h C ρ _ σ H _ hC ht E fun d v H1 h1 g1 r1 => ?_
  exact q _ h1 v H1 (E.gr g1).fin (r1.okm fun a _ z => z.1)
def wRetF (t : WA) : WS := fun ρ P => t ρ fun ds => P (.rf ds)
/-- return of an own list -/
def wRetO (i : Nat) : WS := fun ρ P => match ρ[i]? with
  | some (some (.lst ds)) => P (.rf ds)
  | _ => False
theorem ss_retO (i : Nat) (hi : i ∈ S.1 := by decide) : SS K T XO SL S S' (tRet (tVar i)) (wRetO i) := fun C ρ P σ H D hC ht E own q => by
  have hi' : i ∈ C.O := by rw [hC.1]; exact hi
  unfold wRetO at ht
  split at ht
  · rename_i ds e1
    obtain ⟨us, e2, e3, r⟩ := E.ownL hi' e1
    exact ⟨_, e2, q _ ht _ us H E.fin (own i hi') e3 (r.okm fun a _ z => ⟨z.1, z.2 i (.inl hi')⟩)⟩
  · exact ht.elim
/-- what is never come to -/
theorem ss_dead : SS K T XO SL S S' ts (fun _ _ => False) := fun C ρ P σ H D hC ht E own q => ht.elim
/-- for -/
def wFor (bind : Dt → Env → Option Env) (body : WS) : List Dt → Env → (Out → Prop) → Prop
  | [], ρ, P => P (.nx ρ)
  | d :: ds, ρ, P => match bind d ρ with
    | some ρ1 => body ρ1 fun o => match o with
      | .nx ρ2 => wFor bind body ds ρ2 P
      | .ct ρ2 => wFor bind body ds ρ2 P
      | .bk ρ2 => P (.nx ρ2)
      | .rt x => P (.rt x)
      | .rf x => P (.rf x)
      | .xc x ρ2 => P (.xc x ρ2)
    | none => False
def wForS (ti : WA) (bind : Dt → Env → Option Env) (body : WS) : WS := fun ρ P => ti ρ fun items => wFor bind body items ρ P
theorem ss_for {wi : TI} {ti : WA} {g : TG} {js : List Nat} {bind : Dt → Env → Option Env} (hi : SI K T S m true wi ti) (hg : SG K T S g js bind) (hb : SS K T XO S S S ts w) : SS K T XO SL S S (tFor wi g ts) (wForS ti bind w) := fun C ρ P σ H D hC ht E own q => by
  refine hi C ρ _ σ H _ hC ht E fun items J H1 as WI hP g1 W w0 hs => ?_
  obtain ⟨⟨G, Y, wk, wG, wY⟩, _⟩ := id W
  have E1 := E.gr g1
  refine for_it wk (fun i σ' H' => ∃ C' ρ', C'.In T S ∧ Cm C C' ∧ EnvR K C' σ' H' ρ' ∧ C'.Own ∧ Mv C.ok H C'.ok H' ∧ (∀ a ∈ as, ∃ us, H' a = some (.lst us)) ∧ (∀ a ∈ as, C'.ok a) ∧ WI C'.ok H' ∧ wFor bind w (items.drop i) ρ' P)
    ⟨C, ρ, hC, .refl, E1, own, g1.mv E, fun a ha => (hs a ha).1, fun a ha => (hs a ha).2.2 rfl, w0, hP⟩ (fun i σ' H' _ ⟨C', ρ', _, _, _, _, _, _, _, wi, _⟩ => wG _ _ wi) ?_ ?_
  · rintro i x σ' H2 H3 hi' ⟨C', ρ', hC', c', E', own', k', s1, s2, wi', wc⟩ hy
    obtain ⟨k, d, ed, r⟩ := wY _ i H2 x H3 hi' wi' (fun p hp => E'.fresh hp) hy
    have E3 := E'.same k
    have w3 := W.mv _ _ _ _ (fun a ha us e => k _ _ e) (.same k) wi'
    rw [drop_of ed] at wc
    unfold wFor at wc
    cases eb : bind d ρ' with
    | none => simp only [eb] at wc
    | some ρ1 =>
      simp only [eb] at wc
      refine hg C' ρ' ρ1 d x σ' H3 _ hC' eb E3 r fun σ2 E4 _ => ?_
      have nxt : ∀ ρ2, wFor bind w (items.drop (i + 1)) ρ2 P → ∀ C2 σ3 H4, C2.In T S → Cm C' C2 → EnvR K C2 σ3 H4 ρ2 → C2.Own → Mv C'.ok H3 C2.ok H4 → ∃ C' ρ', C'.In T S ∧ Cm C C' ∧ EnvR K C' σ3 H4 ρ' ∧ C'.Own ∧ Mv C.ok H C'.ok H4 ∧ (∀ a ∈ as, ∃ us, H4 a = some (.lst us)) ∧ (∀ a ∈ as, C'.ok a) ∧ WI C'.ok H4 ∧ wFor bind w (items.drop (i + 1)) ρ' P := fun ρ2 wc2 C2 σ3 H4 hC2 c2 E5 own2 k2 => by
        refine ⟨C2, ρ2, hC2, c'.trans c2, E5, own2, k'.trans ((Mv.same k).trans k2), fun a ha => ?_, fun a ha => ?_, W.mv _ _ _ _ (fun a ha us e => k2.kp.keep _ _ nt_lst e (.inl (s2 a ha))) k2 w3, wc2⟩
        · obtain ⟨us, e⟩ := s1 a ha
          exact ⟨us, k2.kp.keep _ _ nt_lst (k _ _ e) (.inl (s2 a ha))⟩
        · obtain ⟨us, e⟩ := s1 a ha
          exact k2.ok a (nfre (k _ _ e) nt_lst) (s2 a ha)
      refine hb C' ρ1 _ σ2 H3 _ hC' wc E4 own' fun o ho => ?_
      cases o with
      | nx ρ2 => exact fun C2 σ3 H4 hC2 c2 E5 own2 k2 => nxt ρ2 ho C2 σ3 H4 hC2 c2 E5 own2 k2
      | ct ρ2 => exact fun C2 σ3 H4 hC2 c2 E5 own2 k2 => nxt ρ2 ho C2 σ3 H4 hC2 c2 E5 own2 k2
      | bk ρ2 => exact fun C2 σ3 H4 hC2 c2 E5 own2 k2 => q _ ho C2 σ3 H4 hC2 (c'.trans c2) E5 own2 (k'.trans ((Mv.same k).trans k2))
      | rt x => exact ((q _ ho).from (S' := S) c' (k'.trans (Mv.same k)))
      | rf x => exact ((q _ ho).from (S' := S) c' (k'.trans (Mv.same k)))
      | xc x ρ2 => exact ((q _ ho).from (S' := S) c' (k'.trans (Mv.same k)))
  · rintro σ' H2 ⟨C', ρ', hC', c', E', own', k', s1, s2, wi', wc⟩
    rw [List.drop_length] at wc
    exact q _ wc C' σ' H2 hC' c' E' own' k'
/-- while, at most n turns -/
def wWhN (c : WT) (body : WS) : Nat → Env → (Out → Prop) → Prop
  | 0, _, _ => False
  | n + 1, ρ, P => c ρ fun b => if b = true then body ρ fun o => match o with
      | .nx ρ2 => wWhN c body n ρ2 P
      | .ct ρ2 => wWhN c body n ρ2 P
      | .bk ρ2 => P (.nx ρ2)
      | .rt x => P (.rt x)
      | .rf x => P (.rf x)
      | .xc x ρ2 => P (.xc x ρ2)
    else P (.nx ρ)
def wWh (c : WT) (body : WS) : WS := fun ρ P => ∃ n, wWhN c body n ρ P
end
/-! ### a def's promise by its body -/
section
variable {K : PySem.W.Frag} {T : List NdefX.NTab} {H : Hp}
def env0 (N : List Str) (ds : List Dt) : Env := ds.map some ++ List.replicate (N.length - ds.length) none
theorem start_get {N : List Str} {ok : Addr → Prop} {ds : List Dt} {vs : List V} {i : Nat} {d : Dt} (r : Rs K ok H ds vs) (e : (env0 N ds)[i]? = some (some d)) : ∃ v, (L2.start N vs)[i]? = some (some v) ∧ R K ok H d v := by
  unfold env0 at e
  by_cases h : i < ds.length
  · rw [List.getElem?_append_left (by rw [List.length_map]; exact h), List.getElem?_map, List.getElem?_eq_getElem h] at e
    cases e
    obtain ⟨v, e1, r1⟩ := r.getD (List.getElem?_eq_getElem h)
    refine ⟨v, ?_, r1⟩
    have hl : i < vs.length := (List.getElem?_eq_some_iff.mp e1).1
    unfold L2.start
    rw [List.getElem?_append_left (by rw [List.length_map]; exact hl), List.getElem?_map, e1]
    rfl
  · rw [List.getElem?_append_right (by rw [List.length_map]; omega)] at e
    have := List.mem_of_getElem? e
    rw [List.mem_replicate] at this
    cases this.2
theorem start_len {N : List Str} {ok : Addr → Prop} {ds : List Dt} {vs : List V} (r : Rs K ok H ds vs) (hl : ds.length ≤ N.length) : (L2.start N vs).length = (env0 N ds).length := by
  unfold L2.start env0
  rw [List.length_append, List.length_append, List.length_map, List.length_map, List.length_replicate, List.length_replicate, r.len]
def ct0 (T : List NdefX.NTab) (H : Hp) (ok : Addr → Prop) : Ct := ⟨H, ok, fun _ => False, fun _ => False, [], [], fun _ => default, T⟩
theorem envR0 {N : List Str} {ok : Addr → Prop} {ds : List Dt} {vs : List V} (r : Rs K ok H ds vs) (hl : ds.length ≤ N.length) (ht : NdefX.TabsN T H) : EnvR K (ct0 T H ok) (L2.start N vs) H (env0 N ds) where
  len := start_len r hl
  keep := fun a o _ e _ => e
  dom := fun a e => e
  lent := fun a h => h.elim
  tab := ht
  sh := fun i d _ _ e => by
    obtain ⟨v, e1, r1⟩ := start_get r e
    exact ⟨v, e1, r1.okm fun a _ q => ⟨.inl ⟨q, fun z => z⟩, fun i hi => by rcases hi with hi | hi <;> cases hi⟩⟩
  own := fun i hi => nomatch hi
  pls := fun i hi => nomatch hi
  dj := fun i hi => nomatch hi
  inj := fun i j hi => by rcases hi with hi | hi <;> cases hi
variable {P : Program} {w : World} {mg : Str → Option Value} {base : Heap}
/-- a def that changes nothing: w0 what its body gives -/
theorem fn_u {x qual : Str} {st : Stmt} {f : Addr} {fd : FuncData} {N ps : List Str} {k : Nat} {sp : List Dt → (Dt → Prop) → Prop} (F : Fun K x qual st f fd) (S : FnScope N ps (defScope st)) (hn : ps.length ≤ N.length) (len : ∀ ds Q, sp ds Q → ds.length = ps.length)
    (hb : ∀ (cdv : Value) (A : Around) (outer : List PySem.Env) (s : Shared) (H : Hp) (E : XK), Room k (A.deeper (envOfC qual (defScope st) s.heap.objs.size f cdv)) →
      ∃ (ts : TS) (wb : WS) (SL S' : Sl), PSs (cxOf CX0 P w K mg base N qual (defScope st) f cdv A outer s H E).nox (defBody st) ts ∧ SS K T XO0 SL ([], []) S' ts wb ∧
        ∀ ds Q, sp ds Q → wb (env0 N ds) fun o => match o with
          | .rt d => Q d
          | .rf d => Q (.lst d)
          | .nx _ => Q .non
          | _ => False) : FnOk P w K mg base CX0 (k + 1) f fd ps (spU K T sp) := by
  refine F.ok S (fun vs H Q E ⟨ok, ds, P, _, r, h, _⟩ => by rw [r.len]; exact len _ _ h) (fun cdv A outer s H vs Q E hr h => ?_)
  obtain ⟨ok, ds, P, ht, r, h, q⟩ := h
  obtain ⟨ts, wb, SL, S', h1, h2, h3⟩ := hb cdv A outer s H E hr
  have hl : ds.length ≤ N.length := by rw [len _ _ h]; exact hn
  refine ⟨ts, h1, ?_⟩
  have bs : ∀ a, (ct0 T H ok).base a → ok a ∨ Fre H a := fun a z => z.imp And.left id
  refine h2 (ct0 T H ok) (env0 N ds) _ (L2.start N vs) H _ ⟨rfl, rfl, rfl⟩ (h3 ds P h) (envR0 r hl ht) (fun i hi => nomatch hi) fun o ho => ?_
  cases o with
  | rt d => exact fun v H' f r => q d v H' ho ⟨fun a o nt e => f.keep a o nt e fun z => z, fun _ => f.tab⟩ (r.okm fun a _ z => bs a z)
  | rf d => exact fun p us H' f hp e r => q _ _ H' ho ⟨fun a o nt e => f.keep a o nt e fun z => z, fun _ => f.tab⟩ (.lst e (.inr hp) (r.okm fun a _ z => bs a z.1))
  | nx ρ => exact fun C' σ' H' _ c E _ _ => q _ _ H' ho ⟨fun a o nt e => (c.fin E.fin).keep a o nt e fun z => z, fun _ => (c.fin E.fin).tab⟩ .non
  | bk ρ => exact ho.elim
  | ct ρ => exact ho.elim
  | xc x ρ => exact ho.elim
end
end UL
/-! Sets of texts: their comprehension, set(a list), sorted. -/
namespace VT
open PySem PySem.Spec PyProof.Rows L2
def keyT (e : Int × Value) : Str := match e.2 with
  | .str z _ => z
  | _ => Str.empty
def GoodT (w : World) (e : Int × Value) : Prop := ∃ z tk, e.2 = Value.str z tk ∧ e.1 = hashStr w z
/-- the set of texts at a: S its members, n their number; its table can be walked -/
def SetT (w : World) (h : Heap) (a : Addr) (S : Str → Bool) (n : Nat) : Prop :=
  ∃ o es ep t, h.get? a = some o ∧ o.ExactSet ∧ o.data = .set es ep t ∧ (∀ e ∈ es.toList, GoodT w e) ∧ (es.toList.map keyT).Nodup ∧ (∀ z, S z = true ↔ z ∈ es.toList.map keyT) ∧
    es.size < scanBound ∧ t.fits es.size = true ∧ es.size = n ∧ Ris t.place.toList ∧ (w.params.followText "set-order" = true ∨ t.led = true)
section
variable {P : Program} {w : World} {h h' : Heap} {a : Addr} {S : Str → Bool} {n : Nat}
theorem SetT.at (R : SetT w h a S n) (k : ∀ o, h.get? a = some o → h'.get? a = some o) : SetT w h' a S n :=
  let ⟨o, es, ep, t, ho, r⟩ := R
  ⟨o, es, ep, t, k o ho, r⟩
theorem SetT.congr {S' : Str → Bool} (R : SetT w h a S n) (e : ∀ z, S' z = S z) : SetT w h a S' n := (funext e : S' = S) ▸ R
theorem goodT_elems {l : List (Int × Value)} (g : ∀ e ∈ l, GoodT w e) : ElemsOf (PySem.strKind P w) l := fun e he =>
  let ⟨z, tk, h1, h2⟩ := g e he
  ⟨⟨z, by rw [h1]; exact strKind_is P w z tk, h2⟩, by rw [h1]; rfl⟩
theorem goodT_is {e : Int × Value} (g : GoodT w e) (k : Str) : (PySem.strKind P w).is k e.2 = true ↔ keyT e = k := by
  obtain ⟨z, tk, h1, _⟩ := g
  unfold keyT
  rw [h1]
  constructor
  · intro q
    exact (PySem.strKind P w).inj _ _ _ (strKind_is P w z tk) q
  · intro q
    rw [← q]
    exact strKind_is P w z tk
theorem goodT_mem {l : List (Int × Value)} (g : ∀ e ∈ l, GoodT w e) (k : Str) : k ∈ l.map keyT ↔ ∃ e ∈ l, (PySem.strKind P w).is k e.2 = true := by
  rw [List.mem_map]
  exact ⟨fun ⟨e, he, q⟩ => ⟨e, he, (goodT_is (g e he) k).2 q⟩, fun ⟨e, he, q⟩ => ⟨e, he, (goodT_is (g e he) k).1 q⟩⟩
theorem SetT.setOf (R : SetT w h a S n) : h.SetOf (PySem.strKind P w) a S n := by
  obtain ⟨o, es, ep, t, ho, hx, hd, g, nd, hm, hb, hf, hn, _⟩ := R
  exact ⟨o, es, ep, t, ho, hx, hd, goodT_elems g, fun z => (hm z).trans (goodT_mem g z), hb, hf, hn⟩
end
section
variable {P : Program} {w : World} {A : Around} {E : Value → Shared → Prop} {s : Shared} {a : Addr} {S : Str → Bool} {n : Nat}
theorem putT_at {h : Heap} {a : Addr} {o : Obj} {es es' : Array (Int × Value)} {ep : Nat} {t t' : SetTable} (ho : h.get? a = some o) (hd : o.data = .set es ep t) :
    (h.update a (Obj.putSet es' t')).get? a = some { o with data := .set es' (ep + 1) t' } := by
  have q := Heap.get?_update_self (Obj.putSet es' t') ho (by rw [putSet_of es' t' hd]; rfl)
  exact (putSet_of es' t' hd) ▸ q
theorem addT_tail {g : Bool → Sem Unit} (hg : ∀ (b : Bool) (s₁ : Shared) (Q' : Unit → Shared → Prop), Q' () s₁ → wpAny (model P w) A (g b) Q' E s₁)
    {o : Obj} {es : Array (Int × Value)} {ep : Nat} {t : SetTable} (ho : s.heap.get? a = some o) (hex : o.ExactSet) (hd : o.data = .set es ep t)
    {em : Array (Int × Value)} {tm : SetTable} {S' : Str → Bool} (gm : ∀ e ∈ em.toList, GoodT w e) (ndm : (em.toList.map keyT).Nodup) (mm : ∀ z, S' z = true ↔ z ∈ em.toList.map keyT)
    (hbm : em.size < scanBound) (hfm : tm.fits em.size = true) (hrm : Ris tm.place.toList) (hlm : w.params.followText "set-order" = true ∨ tm.led = true) {wasDummy : Bool} {R : Option Bool → Shared → Prop}
    (hR : ∀ h', Heap.SameBut a s.heap h' → SetT w h' a S' em.size → R (some true) { s with heap := h' }) :
    wpAny (model P w) A (do
        storeSet a em tm
        if (!wasDummy && tm.tooFull) = true then do
            g (relayAll tm em (SetTable.grown em.size)).2.2
            storeSet a (relayAll tm em (SetTable.grown em.size)).1 (relayAll tm em (SetTable.grown em.size)).2.1
            pure (some true)
          else pure (some true)) R E s := by
  refine wpAny_bind (wpAny_storeSet_of ho hd ?_ (fits_of_scanBound hbm))
  have om := putT_at (es' := em) (t' := tm) ho hd
  have sm := Heap.SameBut.update s.heap a (Obj.putSet em tm)
  split
  · have pm := relayAll_perm tm em (SetTable.grown em.size)
    have f3 := relayAll_fits tm em (SetTable.grown em.size)
    have r3 := relayAll_ris tm em (SetTable.grown em.size)
    have l3 := relayAll_led tm em (SetTable.grown em.size)
    generalize relayAll tm em (SetTable.grown em.size) = Z at pm f3 r3 l3 ⊢
    obtain ⟨e2, t3, gave⟩ := Z
    dsimp only at pm f3 r3 l3 ⊢
    have hsz : e2.size = em.size := by rw [← Array.length_toList, pm.length_eq, Array.length_toList]
    have hb2 : e2.size < scanBound := hsz ▸ hbm
    refine wpAny_bind (hg _ _ _ (wpAny_bind (wpAny_storeSet_of om rfl ?_ (fits_of_scanBound hb2))))
    have o2 := putT_at (es' := e2) (t' := t3) om rfl
    refine wpAny_pure (hR _ (sm.trans (Heap.SameBut.update _ a _)) ?_)
    exact ⟨_, e2, _, t3, o2, hex, rfl, fun e he => gm e (pm.mem_iff.mp he), (pm.map keyT).nodup_iff.mpr ndm, fun z => (mm z).trans (pm.map keyT).mem_iff.symm, hb2, f3, hsz, r3,
      hlm.imp id fun z => l3 ▸ z⟩
  · exact wpAny_pure (hR _ sm ⟨_, em, _, tm, om, hex, rfl, gm, ndm, mm, hbm, hfm, rfl, hrm, hlm⟩)
theorem addT_hashed {k : Str} {tk : Tok} {Q : Bool → Shared → Prop} (R : SetT w s.heap a S n) (room : n + 1 < scanBound)
    (hQ : ∀ h', Heap.SameBut a s.heap h' → SetT w h' a (fun j => S j || decide (j = k)) (if S k = true then n else n + 1) → Q (!S k) { s with heap := h' }) :
    wpAny (model P w) A (setAddHashed a (.str k tk) ((PySem.strKind P w).hash k)) Q E s := by
  obtain ⟨o, es, ep, t, ho, hex, hd, g, nd, hm, hb, hf, hn, hr, hl⟩ := R
  have hkey : (PySem.strKind P w).is k (.str k tk) = true := strKind_is P w k tk
  have hsc : (Value.str k tk).scannable = true := rfl
  have hel : ElemsOf (PySem.strKind P w) es.toList := goodT_elems g
  unfold setAddHashed setAddHashedIn
  refine wpAny_holding (wpAny_bind (wpAny_setState_of ho hd hf ?_))
  dsimp only
  rw [byScan_of hsc hb hel]
  simp only [↓reduceIte]
  unfold setAddByScan
  refine wpAny_bind (wpAny_bind (wpAny_rule (wpAny_bind (wpAny_setScan_of hkey ho hd hf hel ?_))))
  cases hfi : List.findIdx? (fun e => (PySem.strKind P w).is k e.2) es.toList with
  | some j =>
    dsimp only
    obtain ⟨hj, pj, _⟩ := List.findIdx?_eq_some_iff_getElem.mp hfi
    have hSk : S k = true := (hm k).2 ((goodT_mem (P := P) (w := w) g k).2 ⟨es.toList[j], List.getElem_mem hj, pj⟩)
    have q := hQ s.heap (Heap.SameBut.refl a s.heap) ⟨o, es, ep, t, ho, hex, hd, g, nd, fun i => by
      rw [Bool.or_eq_true, decide_eq_true_eq, ← hm i]
      exact ⟨fun z => z.elim id (fun e => e ▸ hSk), .inl⟩, hb, hf, by rw [if_pos hSk]; exact hn, hr, hl⟩
    rw [hSk] at q
    exact wpAny_pure (wpAny_pure q)
  | none =>
    dsimp only
    have hnk : k ∉ es.toList.map keyT := fun z => by
      obtain ⟨e, he, q⟩ := (goodT_mem (P := P) (w := w) g k).1 z
      have c := List.findIdx?_eq_none_iff.mp hfi e he
      rw [q] at c
      cases c
    have hSk : S k = false := Bool.eq_false_iff.mpr fun q => hnk ((hm k).1 q)
    have hgw : ∀ (b : Bool) {s₁ : Shared} {Q' : Unit → Shared → Prop}, Q' () s₁ → wpAny (model P w) A (match b with | true => rule "set.scan.the-table-gave-way" | false => pure ()) Q' E s₁ :=
      fun b s₁ Q' q => by cases b <;> first | exact wpAny_pure q | exact wpAny_rule q
    have pm := layNew_perm t es ((PySem.strKind P w).hash k) (.str k tk)
    have f1 := layNew_fits t es ((PySem.strKind P w).hash k) (.str k tk)
    have r1 := layNew_ris t es ((PySem.strKind P w).hash k) (.str k tk) hr
    have l1 := layNew_led t es ((PySem.strKind P w).hash k) (.str k tk)
    generalize layNew t es ((PySem.strKind P w).hash k) (.str k tk) = Z at pm f1 r1 l1 ⊢
    obtain ⟨e1, t1, wasDummy, gave⟩ := Z
    dsimp only at pm f1 r1 l1 ⊢
    rw [Array.toList_push] at pm
    have pc : e1.toList.Perm (((PySem.strKind P w).hash k, Value.str k tk) :: es.toList) := pm.trans (List.perm_append_singleton _ _)
    have pk : (e1.toList.map keyT).Perm (k :: es.toList.map keyT) := pc.map keyT
    have g1 : ∀ e ∈ e1.toList, GoodT w e := fun e he => by
      rcases List.mem_cons.mp (pc.mem_iff.mp he) with z | z
      · rw [z]
        exact ⟨k, tk, rfl, rfl⟩
      · exact g e z
    have m1 : ∀ i, (S i || decide (i = k)) = true ↔ i ∈ e1.toList.map keyT := fun i => by
      rw [Bool.or_eq_true, decide_eq_true_eq, hm i, pk.mem_iff, List.mem_cons]
      exact Or.comm
    have hsz : e1.size = n + 1 := by rw [← Array.length_toList, pc.length_eq, List.length_cons, Array.length_toList, hn]
    have hled : w.params.followText "set-order" = true ∨ t1.led = true := hl.imp id fun z => l1 ▸ z
    have fin : ∀ h', Heap.SameBut a s.heap h' → SetT w h' a (fun j => S j || decide (j = k)) e1.size → Q true { s with heap := h' } := fun h' sb r => by
      have q := hQ h' sb
      rw [hSk] at q
      rw [hsz] at r
      exact q r
    refine wpAny_bind (hgw _ ?_)
    have hb1 : e1.size < scanBound := hsz ▸ room
    have nd1 := pk.nodup_iff.mpr (List.nodup_cons.mpr ⟨hnk, nd⟩)
    split
    · refine wpAny_bind ?_
      rw [hashByValue_scannable 8 hsc]
      refine wpAny_pure (addT_tail ?_ ho hex hd g1 nd1 m1 hb1 ?_ ?_ ?_ ?_)
      · exact fun b s₁ Q' q => by cases b <;> first | exact wpAny_pure q | exact wpAny_rule q
      · first | (split <;> first | exact f1 | exact SetTable.fits_plain_off f1) | exact f1
      · first | (split <;> exact r1) | exact r1
      · first | (split <;> exact hled) | exact hled
      · exact fun h' sb r => by dsimp only; exact wpAny_pure (fin h' sb r)
    · refine wpAny_bind (wpAny_pure ?_)
      simp only [↓reduceIte]
      refine addT_tail ?_ ho hex hd g1 nd1 m1 hb1 f1 r1 hled ?_
      · exact fun b s₁ Q' q => by cases b <;> first | exact wpAny_pure q | exact wpAny_rule q
      · exact fun h' sb r => by dsimp only; exact wpAny_pure (fin h' sb r)
/-- set.add of a text -/
theorem addT {k : Str} {tk : Tok} {Q : Value → Shared → Prop} (R : SetT w s.heap a S n) (room : n + 1 < scanBound)
    (hQ : ∀ h', Heap.SameBut a s.heap h' → SetT w h' a (fun j => S j || decide (j = k)) (if S k = true then n else n + 1) → Q .none { s with heap := h', toks := s.toks + 1 }) :
    wpAny (model P w) A (call (.builtin "set.add") [.ref a, .str k tk]) Q E s := by
  have hS : s.heap.SetOf (PySem.strKind P w) a S n := R.setOf
  refine wpAny_call_entry F.slot_set_add hS.typeIs F.entry_set_add ?_ (F.args_set_add_2 _ _)
  unfold Builtin.«set.add» Builtin.Frozenset.oneOther
  simp only [List.isEmpty_nil, bind_assoc]
  unfold Builtin.Frozenset.addrOf setAdd
  refine wpAny_bind (wpAny_pure ?_)
  try dsimp only
  refine wpAny_bind (wpAny_pure ?_)
  try dsimp only
  refine wpAny_bind (wpAny_holding (wpAny_bind ((PySem.strKind P w).pyHash (strKind_is P w k tk) ?_)))
  refine addT_hashed (s := { s with toks := s.toks + 1 }) R room fun h' sb r => ?_
  show wpAny _ _ (ret Value.none) _ _ _
  exact wpAny_pure ⟨_, rfl, hQ h' sb r⟩
theorem freshT {h : Heap} (w : World) : SetT w (h.push { cls := .type "set", dict := none, data := .set #[] 0 (.fresh 0 0 (!w.params.followText "set-order")) }) h.objs.size (fun _ => false) 0 :=
  ⟨_, #[], 0, _, Heap.get?_push_size _ rfl, ⟨rfl, rfl, rfl⟩, rfl, (fun e he => by simp at he), (by simp), (fun k => by simp), (by decide), (by rfl), rfl, List.Pairwise.nil, by
    show _ ∨ (!w.params.followText "set-order") = true
    cases w.params.followText "set-order"
    · exact .inr rfl
    · exact .inl rfl⟩
/-- sorted of it -/
theorem sorted_setT {Q : Value → Shared → Prop} (R : SetT w s.heap a S n) (hh : A.handled = none) (h64 : n < 64)
    (hQ : ∀ s' p (out : Array Value) (c : Nat) (ns : List Str), (∀ b o, s.heap.get? b = some o → s'.heap.get? b = some o) → s'.gens = s.gens → s'.os = s.os → s.heap.objs.size ≤ p →
      s'.heap.get? p = some (seqObj "list" out c) → StrsAre out.toList ns → sortedS ns = true → ns.Nodup → (∀ k, k ∈ ns ↔ S k = true) → ns.length = n → Q (.ref p) s') :
    wpAny (model P w) A (call (.builtin "sorted") [.ref a]) Q E s := by
  obtain ⟨o, es, ep, t, ho, hex, hd, g, nd, hm, hb, hf, hn, hr, hl⟩ := R
  refine Calls.call_function_entry kind_sorted plain_sorted entry_sorted (args_sorted1 _) ?_
  unfold Builtin.«sorted»
  refine wpAny_bind (m := checkCount "sorted" 1 1 _) (wpAny_pure ?_)
  refine wpAny_bind (collect_set (A := A.in1) hh ⟨o, ho, hex.1, hd⟩ hf hb hr hl fun s1 vs k1 hz g1 o1 pm => ?_)
  have hvl : vs.length = n := by rw [pm.length_eq, List.length_map, Array.length_toList]; exact hn
  have hall : ∀ v ∈ vs, ∃ z tk, v = Value.str z tk := fun v hv => by
    obtain ⟨e, he, q⟩ := List.mem_map.mp (pm.mem_iff.mp hv)
    obtain ⟨z, tk, e1, _⟩ := g e he
    exact ⟨z, tk, q ▸ e1⟩
  have hS : StrsAre vs (vs.map strOf) := strsAre_map vs hall
  have pk : (vs.map strOf).Perm (es.toList.map keyT) := by
    have q := pm.map strOf
    rw [List.map_map] at q
    have ee : es.toList.map (strOf ∘ fun x => x.2) = es.toList.map keyT := List.map_congr_left fun e he => by
      obtain ⟨z, tk, e1, _⟩ := g e he
      show strOf e.2 = keyT e
      unfold keyT
      rw [e1]
      rfl
    exact ee ▸ q
  refine wpAny_bind (wpAny_newList ?_ (by rw [hvl, sizeLine_eq]; omega))
  have hoL : (s1.heap.push (seqObj "list" vs.toArray 0)).get? s1.heap.objs.size = some (seqObj "list" vs.toArray 0) := Heap.get?_push_size _ rfl
  refine wpAny_bind (wpAny_holding (wpAny_call_entry slot_list_sort ⟨_, hoL, rfl⟩ entry_list_sort (list_sort_treeK strKind_oneLt hoL hS.keysOf (fun v₁ v₂ rest e => keyKind_strs (by rw [← e]; exact hS)) (by rw [hvl]; exact h64) fun st' hp hs => ⟨_, rfl, ?_⟩) (args_list_sort _)))
  obtain ⟨ss, h1, h2, h3⟩ := sorted_out_str hS hp hs
  obtain ⟨c, hc⟩ := sortedHeap_at (vs := vs) (out := (arrOf st').map (·.2)) hoL
  have pn : ss.Perm (es.toList.map keyT) := h2.trans pk
  refine wpAny_pure ⟨_, rfl, hQ _ s1.heap.objs.size _ c ss (fun b u e => ?_) g1 o1 hz hc h1 h3 (pn.nodup_iff.mpr nd) (fun k => by rw [pn.mem_iff, ← hm k]) ?_⟩
  · have q := k1 b u e
    have hlt := Heap.lt_size q
    show (sortedHeap (s1.heap.push (seqObj "list" vs.toArray 0)) s1.heap.objs.size vs _).get? b = some u
    rw [sortedHeap_old (Nat.ne_of_lt hlt) (by rw [size_push']; exact Nat.lt_succ_of_lt hlt)]
    exact Heap.get?_push_of_some _ q
  · rw [pn.length_eq, List.length_map, Array.length_toList]
    exact hn
end
/-! ### over the layer -/
def SetTO (w : World) (a : Addr) (S : Str → Bool) (n : Nat) : HO := .ext fun h => SetT w h a S n
theorem setTO_new {w : World} {P : Program} {H : Hp} {h : Heap} {a : Addr} {S : Str → Bool} {n : Nat} (R : SetT w h a S n) : ObjOk P w H h a (SetTO w a S n) :=
  let ⟨o, _, _, _, ho, _⟩ := id R
  ⟨R, ⟨o, ho⟩, fun h1 h2 p k => SetT.at p k⟩
section
variable {X : Cx}
theorem setTO_get {pins : List (Addr × Obj)} {σ : L2.St} {H : Hp} {s : Shared} {a : Addr} {S : Str → Bool} {n : Nat} (I : Inv X pins σ H s) (ha : H a = some (SetTO X.w a S n)) : SetT X.w s.heap a S n := (I.hok a _ ha).1
theorem addT_ok {pins : List (Addr × Obj)} {σ : L2.St} {H : Hp} {s : Shared} {E : Value → Shared → Prop} {D : Addr} {S : Str → Bool} {n : Nat} {y : Str} {tk : Tok} {Q : Value → Shared → Prop} (I : Inv X pins σ H s) (hD : H D = some (SetTO X.w D S n)) (room : n + 1 < scanBound)
    (h : ∀ s', Inv X pins σ (upd H D (SetTO X.w D (fun j => S j || decide (j = y)) (if S y = true then n else n + 1))) s' → Q .none s') : wpAny (model X.prog X.w) X.A (call (.builtin "set.add") [.ref D, .str y tk]) Q E s := by
  refine addT (setTO_get I hD) room fun h' sb new => ?_
  have he : ∃ u, h'.get? D = some u :=
    let ⟨o, _, _, _, ho, _⟩ := id new
    ⟨o, ho⟩
  exact h _ (I.write (e := D) (t' := s.toks + 1) (by rw [hD]; trivial) (.inl rfl) (fun b u hb hu => (sb.2 b hb).trans hu) he (setTO_new new))
/-- sorted(a set of texts) -/
def rSortedT (w : World) : List V → Hp → VK → Prop := fun vs H Q => ∃ (a : Addr) (S : Str → Bool) (n : Nat), vs = [V.ref a] ∧ H a = some (SetTO w a S n) ∧ n < 64 ∧
  ∀ (ns : List Str) (p : Addr), sortedS ns = true → ns.Nodup → (∀ k, k ∈ ns ↔ S k = true) → ns.length = n → H p = none → Q (.ref p) (upd H p (.lst (ns.map V.str)))
theorem cr_sortedT (hc : X.calm = true) : CallR X (.builtin "sorted") (rSortedT X.w) := by
  intro pins s σ H vs us Q I r h
  obtain ⟨a, S, n, rfl, ha, h64, q⟩ := h
  rw [Vals.ref1 r]
  refine sorted_setT (setTO_get I ha) (I.ok.hd hc) h64 fun s' p out c ns k g o hp hg hi hs hd hm hl => ?_
  have hlen : (ns.map V.str).length ≤ sizeLine := by rw [List.length_map, hl, sizeLine_eq]; omega
  have hn : H p = none := I.hok.fresh hp
  have J : Inv X pins σ (upd H p (.lst (ns.map V.str))) { s with heap := s'.heap, gens := s'.gens, drawn := s'.drawn, toks := s'.toks } :=
    I.call (ch := []) (Un.laid k hp hn) (I.hok.laid k hp ⟨hlen, out.toList, c, vals_of_strs hi, hg⟩) (by rw [g]; exact I.bare) (fun _ z => nomatch z)
  have e : s' = { s with heap := s'.heap, gens := s'.gens, drawn := s'.drawn, toks := s'.toks } := by
    cases s'
    cases s
    cases o
    rfl
  exact e ▸ ⟨.ref p, _, J, rfl, q ns p hs hd hm hl hn⟩
end
end VT
namespace VT
open PySem PySem.Spec PyProof.Rows L2 PpSet
section
variable {X : Cx}
/-- one text more in the set at D -/
def AddT (w : World) (D : Addr) (y : V) (H : Hp) (k : Hp → Prop) : Prop := ∃ (c : Str) (S : Str → Bool) (n : Nat), y = .str c ∧ H D = some (SetTO w D S n) ∧ n + 1 < scanBound ∧ k (upd H D (SetTO w D (fun j => S j || decide (j = c)) (if S c = true then n else n + 1)))
/-- {elt for target in iter if ..}, elt a text: D the new set -/
def tScT (w : World) (wi : TI) (g : TG) (tt : TT) (te : TE) (vs : List Nat) : TE := fun σ H Q => wi σ H fun J H1 => ∀ D, H1 D = none → ∃ W : Nat → Nat → Hp → Prop, (∃ m, W 0 m (upd H1 D (SetTO w D (fun _ => false) 0))) ∧ ∀ i m H, W i m H →
  (J.stop i H ∧ Q (.ref D) H) ∨ (J.go i H ∧ ∃ Nx : Hp → Prop, (∀ H', Nx H' → ∃ m', m' < m ∧ W (i + 1) m' H') ∧ ∀ x H', J.yld i H x H' → g x (wipe σ vs) H' fun σ2 H2 => wipe σ2 vs = wipe σ vs ∧ tt σ2 H2 fun b H3 =>
    if b = true then te σ2 H3 fun y H4 => AddT w D y H4 Nx else Nx H3)
theorem sc_coreT {pins : List (Addr × Obj)} {s : Shared} {σ : L2.St} {H : Hp} {Q : VK} {elt tg iter : Expr} {ifs : List Expr} {scope : Scope} {own : List (PySem.Str × Nat)} {pos pos' : Pos} {wi : TI} {g : TG} {tt : TT} {te : TE} {use : Option (Value → Sem Unit)} {Qf : Value → Shared → Prop}
    (hc : X.calm = true) (hN : X.N.Nodup) (I : Inv X pins σ H s) (hi : PI X tg iter wi) (ok : BlkOk X.N X.env.scope scope own)
    (hg : ∀ (s : Shared) (H : Hp) (C : Addr) (cl : List (PySem.Str × Addr)) (fp : List Addr), PG (X.blk s H scope (compEnvC scope cl C X.env) fp) tg g) (ht : ∀ (s : Shared) (H : Hp) (C : Addr) (cl : List (PySem.Str × Addr)) (fp : List Addr), PTs (X.blk s H scope (compEnvC scope cl C X.env) fp) ifs tt)
    (he : ∀ (s : Shared) (H : Hp) (C : Addr) (cl : List (PySem.Str × Addr)) (fp : List Addr), PE (X.blk s H scope (compEnvC scope cl C X.env) fp) elt te) (hs : ∀ x, foldedSetIterable iter X.env x = pure x)
    (h : tScT X.w wi g tt te (own.map (·.2)) σ H Q)
    (hRR : ∀ D C s' m H', Inv X pins σ H' s' → Q (.ref D) H' → s'.heap.Ns C m → FpOk X pins H' C → compPost (model X.prog X.w) X.A X.xe use Qf (.ref D) C (.ok .next) s') :
    wpAny (model X.prog X.w) X.A (comprehension (.SetComp elt [⟨tg, iter, ifs, 0⟩] scope pos) scope X.env pos' (newSet (.type "set")) false (eval iter X.env) use) Qf X.xe s := by
  have hfree : ∀ y ∈ scope.names, y.2 = .free → ∃ c, X.env.cells.lookup y.1 = some c := fun y hy e => (ok.free y hy e).elim (fun k => I.ok.has _ (.inl k)) (fun k => I.ok.has _ (.inr k))
  refine wpAny_comprehension_free (use := use) rfl hs (closure_ok hfree) ok.kind (fun y hy e => by rw [ok.uniq y hy, e])
    (thn (hi.run pins s σ H _ I h) fun xv s1 hx => thn hx fun itv s2 h2 => ?_)
  obtain ⟨it, fp, tn, J, H2, e, I2, T, st2, f2, q⟩ := h2
  subst e
  refine newSet_ok (newEnv_comp ?_)
  generalize hD : s2.heap.objs.size = D
  have hDn : H2 D = none := I2.hok.fresh (Nat.le_of_eq hD)
  obtain ⟨W, ⟨m0, w0⟩, turn⟩ := q D hDn
  generalize hs3 : ({ s2 with heap := s2.heap.push { cls := .type "set", dict := none, data := .set #[] 0 (.fresh 0 0 (!X.w.params.followText "set-order")) } } : Shared) = s3
  have I3 : Inv X pins σ (upd H2 D (SetTO X.w D (fun _ => false) 0)) s3 := by
    rw [← hs3]
    refine I2.laid (t' := s2.toks) (fun b o e => Heap.get?_push_of_some _ e) (Nat.le_of_eq hD) ?_
    exact hD ▸ setTO_new (freshT X.w)
  have h3 : s3.heap = s2.heap.push { cls := .type "set", dict := none, data := .set #[] 0 (.fresh 0 0 (!X.w.params.followText "set-order")) } := by rw [← hs3]
  have sz : ∀ b ∈ fp, b < s2.heap.objs.size := fun b hb =>
    let ⟨o, e, _⟩ := T.obj _ _ st2 b hb
    Heap.lt_size e
  have f3 : ∀ b ∈ fp, FpOk X pins (upd H2 D (SetTO X.w D (fun _ => false) 0)) b ∧ b < s3.heap.objs.size := fun b hb => by
    have hlt := sz b hb
    refine ⟨⟨?_, (f2 b hb).2⟩, by rw [h3, Heap.size_push]; exact Nat.lt_succ_of_lt hlt⟩
    rw [upd_ne (by rw [← hD]; exact Nat.ne_of_lt hlt)]
    exact (f2 b hb).1
  have st3 : tn 0 s3.heap := T.keep _ _ _ st2 fun b _ o e => by rw [h3]; exact Heap.get?_push_of_some _ e
  have I4 := block_start I3 ok hN f3
  have pg := hg s3 (upd H2 D (SetTO X.w D (fun _ => false) 0)) s3.heap.objs.size (cellsFrom (s3.heap.objs.size + 1) scope.names (cloFrom X.env.cells scope.names [])) fp
  have pt := ht s3 (upd H2 D (SetTO X.w D (fun _ => false) 0)) s3.heap.objs.size (cellsFrom (s3.heap.objs.size + 1) scope.names (cloFrom X.env.cells scope.names [])) fp
  have pe := he s3 (upd H2 D (SetTO X.w D (fun _ => false) 0)) s3.heap.objs.size (cellsFrom (s3.heap.objs.size + 1) scope.names (cloFrom X.env.cells scope.names [])) fp
  show codeAny _ _ (.compStart (.SetComp elt [⟨tg, iter, ifs, 0⟩] scope pos) 0 (.ref it) (.ref D) (compEnvC scope (cellsFrom (s3.heap.objs.size + 1) scope.names (cloFrom X.env.cells scope.names [])) s3.heap.objs.size X.env)) (compPost (model X.prog X.w) X.A X.xe use Qf (.ref D) s3.heap.objs.size) { s3 with heap := pushCells (s3.heap.push { cls := .type "dict", data := .dict #[] }) scope.names }
  have nfp : ∀ b ∈ fp, (upd H2 D (SetTO X.w D (fun _ => false) 0)) b = none := fun b hb => (f3 b hb).1.1
  generalize hce : compEnvC scope (cellsFrom (s3.heap.objs.size + 1) scope.names (cloFrom X.env.cells scope.names [])) s3.heap.objs.size X.env = ce at I4 pg pt pe ⊢
  have cL : ce.locals = s3.heap.objs.size := by subst hce; rfl
  generalize hH3 : upd H2 D (SetTO X.w D (fun _ => false) 0) = H3 at I3 I4 pg pt pe w0 nfp f3
  generalize hs4 : ({ s3 with heap := pushCells (s3.heap.push { cls := .type "dict", data := .dict #[] }) scope.names } : Shared) = s4 at I4 ⊢
  have st4 : tn 0 s4.heap := T.keep _ _ _ st3 fun b _ o e => by rw [← hs4]; exact pushCells_keeps _ _ _ _ (Heap.get?_push_of_some _ e)
  have stat : ∀ {σ' : L2.St} {H' : Hp} {s' : Shared}, Inv (X.blk s3 H3 scope ce fp) [] σ' H' s' → (∀ b ∈ fp, H' b = none) → ∀ b ∈ fp, FpOk (X.blk s3 H3 scope ce fp) [] H' b := fun {σ' H' s'} I' hn b hb =>
    ⟨hn b hb, (I'.ok.exf b hb).1, I'.ok.exfs b hb, .inl hb, fun x c e => (I'.ok.exf b hb).2 x c e, fun p hp => absurd (show p ∈ ([] : List (Addr × Obj)) ++ [] from hp) (by simp)⟩
  have loop : codeAny (model X.prog X.w) X.A (.compLoop (.SetComp elt [⟨tg, iter, ifs, 0⟩] scope pos) 0 (.ref it) (.ref D) ce) (compPost (model X.prog X.w) X.A X.xe use Qf (.ref D) s3.heap.objs.size) s4 := by
    refine compLoopS_any (fun n s' => ∃ i H', Inv (X.blk s3 H3 scope ce fp) [] (wipe σ (own.map (·.2))) H' s' ∧ tn i s'.heap ∧ (∀ b ∈ fp, H' b = none) ∧ W i n H') ?_ m0 ⟨0, H3, I4, st4, nfp, w0⟩
    rintro n s5 ⟨i, H5, I5, st5, n5, w5⟩
    rcases turn i n H5 w5 with ⟨stop, qq⟩ | ⟨go, Nx, hNx, step⟩
    · refine thnF (T.done (X.blk s3 H3 scope ce fp) rfl rfl rfl hc i [] s5 _ H5 (fun _ _ => False) I5 (stat I5 n5) st5 stop) fun r s6 ⟨hr, I6⟩ => ?_
      subst hr
      have I7 : Inv X pins σ H5 s6 := I3.call' (ch := fp) I6.os I6.base I6.hok I6.bare fun b hb => ⟨(f3 b hb).1.2.2.2.1, (f3 b hb).1.2.1, (f3 b hb).1.2.2.2.2.1, (f3 b hb).1.2.2.2.2.2⟩
      have nC : H5 s3.heap.objs.size = none := cL ▸ I6.free
      obtain ⟨m, hn, _⟩ := I6.loc
      have hn : s6.heap.Ns ce.locals m := hn
      rw [cL] at hn
      exact hRR D s3.heap.objs.size s6 m H5 I7 qq hn (I3.fpOk (Nat.le_refl _) nC)
    · refine thnF (T.item (X.blk s3 H3 scope ce fp) rfl rfl rfl hc i [] s5 _ H5 (fun _ _ => False) I5 (stat I5 n5) st5 go) fun r s6 ⟨u, hr, h6⟩ => ?_
      subst hr
      refine thnF h6 fun _ s7 ⟨x, H7, I7, r7, y7, st7, n7⟩ => ?_
      have I7' := I7.pinned (stat I7 n7) (T.obj _ _ st7)
      refine thnF (pg.run _ s7 _ H7 x u _ I7' r7 (step x H7 y7)) fun _ s8 ⟨σ8, H8, I8, hw8, q8⟩ => ?_
      refine thnF (pt.run _ s8 σ8 H8 _ I8 q8) fun b s9 ⟨H9, I9, q9⟩ => ?_
      have fin : ∀ {s' : Shared} {H' : Hp}, Inv (X.blk s3 H3 scope ce fp) ([] ++ pinsAt fp s7.heap) σ8 H' s' → Nx H' → ∃ m, m < n ∧ ∃ i H', Inv (X.blk s3 H3 scope ce fp) [] (wipe σ (own.map (·.2))) H' s' ∧ tn i s'.heap ∧ (∀ b ∈ fp, H' b = none) ∧ W i m H' := fun {s' H'} I' nx => by
        obtain ⟨m', hm, w'⟩ := hNx H' nx
        have pin' : ∀ b ∈ fp, ∀ o, s7.heap.get? b = some o → s'.heap.get? b = some o ∧ H' b = none := fun b hb o e =>
          let z := I'.pin (b, o) (List.mem_append_right _ (List.mem_append_right _ (mem_pinsAt hb e)))
          ⟨z.1, z.2.1⟩
        have hl : (wipe σ (own.map (·.2))).length = σ8.length := by rw [← hw8, wipe_length]
        refine ⟨m', hm, i + 1, H', (I'.unpinned (pins := [])).weak hl (fun j v e => (wipe_some (hw8 ▸ e)).1), T.keep _ _ _ st7 fun b hb o e => (pin' b hb o e).1, fun b hb => ?_, w'⟩
        obtain ⟨o, e, _⟩ := T.obj _ _ st7 b hb
        exact (pin' b hb o e).2
      cases b with
      | false =>
        simp only [Bool.false_eq_true, if_false] at q9 ⊢
        exact fin I9 q9
      | true =>
        simp only [if_true] at q9 ⊢
        refine thnF (pe.run _ s9 σ8 H9 _ I9 q9) fun z s10 ⟨yv, H10, I10, r10, cb, S0, n0, ey, hD10, hz10, nx⟩ => ?_
        subst ey
        obtain ⟨tk, rfl⟩ := (show ∃ tk, z = Value.str cb tk from r10)
        exact addT_ok (X := X.blk s3 H3 scope ce fp) I10 hD10 hz10 fun s11 I11 => fin I11 nx
  exact codeAny_compStart_set loop (T.self X.A 0 _ _ _ st4 loop)
theorem pe_scT {elt tg iter : Expr} {ifs : List Expr} {scope : Scope} {own : List (PySem.Str × Nat)} {pos : Pos} {wi : TI} {g : TG} {tt : TT} {te : TE} (hc : X.calm = true) (hN : X.N.Nodup) (hi : PI X tg iter wi) (ok : BlkOk X.N X.env.scope scope own)
    (hg : ∀ (s : Shared) (H : Hp) (C : Addr) (cl : List (PySem.Str × Addr)) (fp : List Addr), PG (X.blk s H scope (compEnvC scope cl C X.env) fp) tg g) (ht : ∀ (s : Shared) (H : Hp) (C : Addr) (cl : List (PySem.Str × Addr)) (fp : List Addr), PTs (X.blk s H scope (compEnvC scope cl C X.env) fp) ifs tt)
    (he : ∀ (s : Shared) (H : Hp) (C : Addr) (cl : List (PySem.Str × Addr)) (fp : List Addr), PE (X.blk s H scope (compEnvC scope cl C X.env) fp) elt te) (hs : ∀ x, foldedSetIterable iter X.env x = pure x := by intro _; rfl) :
    PE X (.SetComp elt [⟨tg, iter, ifs, 0⟩] scope pos) (tScT X.w wi g tt te (own.map (·.2))) := by
  refine ⟨fun pins s σ H Q I h => ?_⟩
  rw [eval_SetComp]
  refine sc_coreT hc hN I hi ok hg ht he hs h fun D C s' m H' I' q hn f => ⟨m, hn, fun h'' sb => ?_⟩
  obtain ⟨f0, f1, f2, f3, f4, f5⟩ := f
  exact ⟨.ref D, H', I'.turned (t' := s'.toks) (fun b o hb e => (sb.2 b hb).trans e) f0 f1 f3 f4 f5, rfl, q⟩
end
end VT
namespace VT
open PySem PySem.Spec PyProof.Rows L2
theorem newT_at {w : World} {h : Heap} {a : Addr} {ns : List Str} (ho : h.get? a = some { cls := .type "set", dict := none, data := .set #[] 0 (.fresh 0 0 (!w.params.followText "set-order")) }) : SetT w h a (fun j => decide (j ∈ ns.take 0)) 0 :=
  ⟨_, #[], 0, _, ho, ⟨rfl, rfl, rfl⟩, rfl, (fun e he => by simp at he), (by simp), (fun k => by simp), (by decide), (by rfl), rfl, List.Pairwise.nil, by
    show _ ∨ (!w.params.followText "set-order") = true
    cases w.params.followText "set-order"
    · exact .inr rfl
    · exact .inl rfl⟩
section
variable {P : Program} {w : World} {A : Around} {E : Value → Shared → Prop} {s : Shared}
theorem updT {I : Addr} {fp wr : List Addr} {G : Array GenState → Array GenState → Prop} {n : Nat} {Pv : Nat → Value → Prop} {St : Nat → Shared → Prop} {R : Result → Shared → Prop}
    (W : WalksS P w A.in1 I fp wr G n Pv St) (S : Addr) (hSf : S ∉ fp) (ns : List Str) (hn : n = ns.length) (hb : ns.length + 1 < scanBound) (hval : ∀ i v, Pv i v → ∃ k t, ns[i]? = some k ∧ v = .str k t) :
    ∀ (k i : Nat) (s : Shared), n - i = k → i ≤ n → St i s → (∃ c, c ≤ i ∧ SetT w s.heap S (fun j => decide (j ∈ ns.take i)) c) →
      (∀ s' c, Moved (S :: wr) G s s' → c ≤ n → SetT w s'.heap S (fun j => decide (j ∈ ns)) c → R (.ok (.ret .none)) s') →
      codeAny (model P w) A (.builtin "set.update.loop" ⟨[.ref S, .ref I], []⟩) R s := by
  have hSw : S ∉ wr := fun h => hSf (W.sub _ h)
  have hsub : ∀ b ∈ wr, b ∈ S :: wr := fun b hb => List.mem_cons_of_mem _ hb
  intro k
  induction k with
  | zero =>
    intro i s hk' hi hst ⟨c, hc, hS⟩ hR
    have hin : i = n := by omega
    subst hin
    refine codeAny_builtin F.entry_set_update_loop ?_
    rw [Around.under_plainId F.plain_set_update_loop _]
    show wpAny _ A.in1 (pyNext (.ref I) >>= _) _ _ s
    refine wpAny_bind (W.done s _ _ hst fun s' hm => ?_)
    show wpAny _ A.in1 (ret Value.none) _ _ s'
    have e : ns.take i = ns := List.take_of_length_le (by omega)
    rw [e] at hS
    exact wpAny_pure (hR s' c (hm.mono hsub) hc (hS.at fun o e => hm.heap S o hSw e))
  | succ k ih =>
    intro i s hk' hi hst ⟨c, hc, hS⟩ hR
    have hlt : i < n := by omega
    refine codeAny_builtin F.entry_set_update_loop ?_
    rw [Around.under_plainId F.plain_set_update_loop _]
    show wpAny _ A.in1 (pyNext (.ref I) >>= _) _ _ s
    refine wpAny_bind (W.item i s _ _ hlt hst fun v s' hP hst' hm => ?_)
    obtain ⟨z, t, hz, rfl⟩ := hval i v hP
    have hS' : SetT w s'.heap S (fun j => decide (j ∈ ns.take i)) c := hS.at fun o e => hm.heap S o hSw e
    show wpAny _ A.in1 (holding [Value.str z t] (setAdd S (.str z t)) >>= _) _ _ s'
    refine wpAny_bind (wpAny_holding ?_)
    unfold setAdd
    refine wpAny_holding ?_
    refine wpAny_bind ((PySem.strKind P w).pyHash (k := z) (strKind_is _ _ _ _) ?_)
    refine addT_hashed (s := { s' with toks := s'.toks + 1 }) hS' (by omega) fun h' hsb hS2 => ?_
    have hS3 : SetT w h' S (fun j => decide (j ∈ ns.take (i + 1))) (if decide (z ∈ ns.take i) = true then c else c + 1) := hS2.congr fun j => by
      rw [List.take_add_one, hz]
      simp [List.mem_append]
    have hc3 : (if decide (z ∈ ns.take i) = true then c else c + 1) ≤ i + 1 := by
      split <;> omega
    refine wpAny_pure ⟨plainId_quiet F.plain_set_update_loop _, ih (i + 1) _ (by omega) hlt (W.frame _ s' _ _ hst' (Nat.le_succ _) fun b hb o e => ?_) ⟨_, hc3, hS3⟩ fun s'' c2 hm'' hc'' hS'' => ?_⟩
    · rw [hsb.2 b (fun h : b = S => hSf (by rw [← h]; exact hb))]; exact e
    · refine hR s'' c2 (Moved.trans W.gtrans ((hm.mono hsub).then_heap (Nat.le_succ _) fun b o hb e => ?_) hm'') hc'' hS''
      rw [hsb.2 b (fun h : b = S => hb (by rw [h]; exact List.mem_cons_self))]; exact e

theorem call_setT {l : Addr} {items : Array Value} (ns : List Str) {Q : Value → Shared → Prop} (hh : A.handled = none) (hl : s.heap.IsList l items) (hit : StrsAre items.toList ns) (hb : ns.length + 1 < scanBound)
    (h : ∀ (h' : Heap) (tk c : Nat), SetT w h' s.heap.objs.size (fun j => decide (j ∈ ns)) c → c ≤ ns.length → (∀ b o, s.heap.get? b = some o → h'.get? b = some o) → Q (.ref s.heap.objs.size) { s with heap := h', toks := tk }) :
    wpAny (model P w) A (call (.type "set") [.ref l]) Q E s := by
  have hisz : items.size = ns.length := by
    have q := StrsAre.len_eq hit
    rw [Array.length_toList] at q
    exact q
  obtain ⟨c, tl, hmro⟩ := F.called_set.mro
  have hmade := F.called_set.made
  have hsub := F.called_set.sub
  refine wpAny_call (codeAny_of_tree ?_)
  show wpAny _ _ (callAny (.type "set") _) _ _ _
  refine wpAny_pure ⟨Code.quiet_builtin _ (by decide +kernel), codeAny_builtin F.entry_type_call ?_⟩
  rw [Around.under_plain (weight_type_call_type "set" [.ref l] []) rfl]
  have h1 := F.called_set.notType
  have h2 := F.called_set.canCreate
  have hct := F.typeCall_set_1 (.ref l)
  repeat (any_goals (first | assumption | wp_step))

  refine codeAny_mono (code_set_led1 (.ref l) (E := E) (Q₁ := fun obj s₁ => obj = .ref s.heap.objs.size ∧ s₁ = { s with heap := s.heap.push { cls := .type "set", dict := none, data := .set #[] 0 (.fresh 0 0 (!w.params.followText "set-order")) } }) ⟨rfl, rfl⟩) fun r s₁ hr => ?_
  cases r with
  | error e => exact hr
  | ok fl =>
    cases fl with
    | ret obj =>
      obtain ⟨rfl, rfl⟩ := hr
      have hS : (s.heap.push { cls := .type "set", dict := none, data := .set #[] 0 (.fresh 0 0 (!w.params.followText "set-order")) }).get? s.heap.objs.size = some { cls := .type "set", dict := none, data := .set #[] 0 (.fresh 0 0 (!w.params.followText "set-order")) } := Heap.get?_push_size _ rfl
      have hT : Shared.TypeIs { s with heap := s.heap.push { cls := .type "set", dict := none, data := .set #[] 0 (.fresh 0 0 (!w.params.followText "set-order")) } } (.ref s.heap.objs.size) "set" := ⟨_, hS, rfl⟩
      have hli := F.called_set.init.lookup
      have hbi := F.called_set.init.bind (.ref s.heap.objs.size)
      repeat (any_goals (first | assumption | wp_step))

      refine codeAny_mono (codeAny_call_builtin (R := wants (fun r s₂ => r = .none ∧ ∃ h' tk c, s₂ = { s with heap := h', toks := tk } ∧ SetT w h' s.heap.objs.size (fun j => decide (j ∈ ns)) c ∧ c ≤ ns.length ∧
          (∀ b o, s.heap.get? b = some o → h'.get? b = some o)) E) F.called_set.init.plain F.entry_set_init (check_set_init_1 hT ?_)) fun r₂ s₂ hr₂ => ?_
      · obtain ⟨ol, hol, hcl, nl, hdl⟩ := hl
        obtain ⟨ocls, odict, odata, oslots⟩ := ol
        simp only at hcl hdl
        subst hcl; subst hdl
        have hol' : (s.heap.push { cls := .type "set", dict := none, data := .set #[] 0 (.fresh 0 0 (!w.params.followText "set-order")) }).get? l = some { cls := .type "list", dict := odict, data := .seq items nl, slots := oslots } := Heap.get?_push_of_some _ hol
        have hsls := F.sub_list_set
        have hslf := F.sub_list_frozenset
        have hne : (Value.type "list" == Value.type "dict") = false := by decide
        have hl1 : (s.heap.push { cls := .type "set", dict := none, data := .set #[] 0 (.fresh 0 0 (!w.params.followText "set-order")) }).IsList l items := ⟨_, hol', rfl, nl, rfl⟩
        unfold Builtin.«set.__init__» noKeywords Builtin.Frozenset.updateFrom
        generalize hPI : pyIter = PI
        wp_walk
        subst hPI

        refine wpAny_pyIter_list hl1 ?_
        refine wpAny_bind (wpAny_runValue ?_)
        have hlS : l < s.heap.objs.size := Heap.lt_size hol
        have hh3 : A.in1.in1.in1.handled = none := by simp [hh]
        have hz1 : (s.heap.push { cls := .type "set", dict := none, data := .set #[] 0 (.fresh 0 0 (!w.params.followText "set-order")) }).objs.size = s.heap.objs.size + 1 := Heap.size_push ..
        have hneI : l ≠ (s.heap.push { cls := .type "set", dict := none, data := .set #[] 0 (.fresh 0 0 (!w.params.followText "set-order")) }).objs.size := by
          rw [Heap.size_push]; exact Nat.ne_of_lt (Nat.lt_succ_of_lt hlS)
        have hSf : s.heap.objs.size ∉ [(s.heap.push { cls := .type "set", dict := none, data := .set #[] 0 (.fresh 0 0 (!w.params.followText "set-order")) }).objs.size, l] := by
          rw [Heap.size_push]; simp only [List.mem_cons, List.mem_singleton, List.not_mem_nil, or_false, not_or]
          exact ⟨Nat.ne_of_lt (Nat.lt_succ_self _), Nat.ne_of_gt hlS⟩
        have hval : ∀ (i : Nat) (v : Value), items[i]? = some v → ∃ k t, ns[i]? = some k ∧ v = .str k t := fun i v hv => by
          have hi : i < ns.length := by rw [← hisz]; exact (Array.getElem?_eq_some_iff.mp hv).1
          obtain ⟨t, e⟩ := SS.strs_at hit i v (by rw [Array.getElem?_toList]; exact hv)
          refine ⟨ns[i], t, List.getElem?_eq_getElem hi, ?_⟩
          rw [e, List.getD_eq_getElem?_getD, List.getElem?_eq_getElem hi] <;> rfl
        refine updT ((Walks.list hh3 _ l hneI items).toS) s.heap.objs.size
          hSf ns hisz hb hval (items.size - 0) 0 _ (by omega) (Nat.zero_le _)
          ⟨⟨_, Heap.get?_push_size _ rfl, rfl, rfl⟩, (hl1.push _)⟩ ?hS0 ?hR
        case hS0 =>
          have hget : ((s.heap.push { cls := .type "set", dict := none, data := .set #[] 0 (.fresh 0 0 (!w.params.followText "set-order")) }).push { cls := .type "list_iterator", data := .fields #[.ref l, .int 0 0] }).get? s.heap.objs.size
              = some { cls := .type "set", dict := none, data := .set #[] 0 (.fresh 0 0 (!w.params.followText "set-order")) } := Heap.get?_push_of_some _ hS
          exact ⟨0, Nat.le_refl 0, newT_at hget⟩
        case hR =>
          intro s' c' hm hc' hS'
          obtain ⟨h', g2, d', tk', os'⟩ := s'
          have eg : g2 = s.gens := hm.gens
          have ed : d' = s.drawn := hm.drawn
          have eo : os' = s.os := hm.os
          subst eg; subst ed; subst eo
          show wpAny _ _ _ _ _ _
          refine wpAny_pure ?_
          show wpAny _ _ (ret Value.none) _ _ _
          rw [hisz] at hc'
          refine wpAny_pure ⟨rfl, h', tk', c', rfl, hS', hc', fun b o e => ?_⟩
          have hb0 : b < s.heap.objs.size := Heap.lt_size e
          have hb1 : b ≠ s.heap.objs.size := Nat.ne_of_lt hb0
          have hb2 : b ≠ (s.heap.push { cls := .type "set", dict := none, data := .set #[] 0 (.fresh 0 0 (!w.params.followText "set-order")) }).objs.size := by
            rw [Heap.size_push]; exact Nat.ne_of_lt (Nat.lt_succ_of_lt hb0)
          exact hm.heap b o (by simp only [List.mem_cons, List.mem_singleton, List.not_mem_nil, or_false, not_or]; exact ⟨hb1, hb2⟩) (Heap.get?_push_of_some _ (Heap.get?_push_of_some _ e))

      · cases r₂ with
        | error e => exact hr₂
        | ok fl₂ =>
          cases fl₂ with
          | ret r =>
            obtain ⟨rfl, h', tk, c', rfl, hS', hc', hk'⟩ := hr₂
            repeat (any_goals (first | assumption | wp_step))
            exact h _ _ _ hS' hc' hk'
          | _ => exact hr₂.elim
    | _ => exact hr.elim

end
section
variable {X : Cx}
/-- set(a list of texts) -/
def rSetT (w : World) (K : PySem.W.Frag) : List V → Hp → VK → Prop := fun xs H Q => ∃ (l : Addr) (zs : List Str), xs = [.ref l] ∧ SqL K H l (zs.map V.str) ∧ zs.length + 1 < scanBound ∧
  ∀ (D : Addr) (n : Nat), H D = none → n ≤ zs.length → Q (.ref D) (upd H D (SetTO w D (fun j => decide (j ∈ zs)) n))
theorem cr_setT (hc : X.calm = true) : CallR X (.type "set") (rSetT X.w X.K) := by
  intro pins s σ H vs us Q I r h
  obtain ⟨l, zs, rfl, hS, lz, q⟩ := h
  obtain ⟨its, rv, pl, hz⟩ := I.list hS
  rw [Vals.ref1 r]
  refine call_setT zs (I.ok.hd hc) pl.isList (by simpa using rv.strs) lz fun h' tk c R hcn k => ?_
  have hn : H s.heap.objs.size = none := I.hok.fresh (Nat.le_refl _)
  exact ⟨.ref _, upd H s.heap.objs.size (SetTO X.w s.heap.objs.size (fun j => decide (j ∈ zs)) c), I.laid (t' := tk) k (Nat.le_refl _) (setTO_new R), rfl, q _ c hn hcn⟩
end
end VT
namespace UL
open PySem PySem.Spec PyProof.Rows L2
/-! ### names for readings (for comprehensions) -/
abbrev rAdd_ : R2 := rI0 fun i j => .int (i + j)
abbrev rSub_ : R2 := rI0 fun i j => .int (i - j)
abbrev rMul_ : R2 := rI CMul fun i j => .int (i * j)
abbrev rMod_ : R2 := rI (fun _ j => 0 < j) fun i j => .int (i % j)
abbrev rFdiv_ : R2 := rI CDiv fun i j => .int (i / j)
abbrev rLt_ : R2 := rI0 fun i j => .bl (decide (i < j))
abbrev rLe_ : R2 := rI0 fun i j => .bl (decide (i ≤ j))
abbrev rGt_ : R2 := rI0 fun i j => .bl (decide (j < i))
abbrev rGe_ : R2 := rI0 fun i j => .bl (decide (j ≤ i))
abbrev rIsN_ : R2 := fun x y H Q => y = .non ∧ Q (.bl (decide (x = .non))) H
abbrev rNotN_ : R2 := fun x y H Q => y = .non ∧ Q (.bl (!decide (x = .non))) H
abbrev rLen_ (K : PySem.W.Frag) : List V → Hp → VK → Prop := fun xs H Q => ∃ p ys, xs = [.ref p] ∧ (SqL K H p ys ∨ SqT K H p ys) ∧ Q (.int ys.length) H
abbrev rLenS_ : List V → Hp → VK → Prop := fun xs H Q => ∃ z, xs = [.str z] ∧ z.length ≤ sizeLine ∧ Q (.int z.length) H
abbrev rTupOf_ (K : PySem.W.Frag) : List V → Hp → VK → Prop := fun xs H Q => ∃ p ys, xs = [.ref p] ∧ ((SqL K H p ys ∧ ∀ l, H l = none → Q (.ref l) (upd H l (.tup ys))) ∨ (SqT K H p ys ∧ Q (.ref p) H))
abbrev rLstOf_ (K : PySem.W.Frag) : List V → Hp → VK → Prop := fun xs H Q => ∃ p ys, xs = [.ref p] ∧ (SqL K H p ys ∨ SqT K H p ys) ∧ ∀ l, H l = none → Q (.ref l) (upd H l (.lst ys))
abbrev rInt_ : List V → Hp → VK → Prop := fun xs H Q => (∃ i, xs = [.int i] ∧ Q (.int i) H) ∨ ∃ k, xs = [.bl k] ∧ Q (.int (if k then 1 else 0)) H
section
variable {X : Cx}
theorem call_len_ : CallR X (.builtin "len") (rLen_ X.K) := call_len_seq
theorem call_tup_ : CallR X (.type "tuple") (rTupOf_ X.K) := call_tuple_of
theorem call_lst_ : CallR X (.type "list") (rLstOf_ X.K) := call_list_of
end
section
variable {K : PySem.W.Frag} {T : List NdefX.NTab} {SL S S' S1 : Sl} {m m' m1 m2 m3 s : Bool} {te ta tb tc : TE} {t u v : WE} {C C1 C' : Ct} {σ : L2.St} {H H' H1 : Hp} {ρ : Env} {ts ts1 : TS} {XO : XOut} {w w' : WS}
theorem ss_cast {S2 : Sl} (h : SS K T XO SL S S2 ts w) (e : S2 = S' := by rfl) : SS K T XO SL S S' ts w := e ▸ h
/-- an expression's answer, weakened -/
theorem SE.imp {t' : WE} (h : SE K T S m te t) (f : ∀ ρ P, t' ρ P → t ρ P) : SE K T S m te t' := fun C ρ P σ H Q hC ht E q => h C ρ P σ H Q hC (f ρ P ht) E q
/-- a < b < c -/
theorem se_chain {r r' : R2} {f g : Dt → Dt → (Dt → Prop) → Prop} (hf : OpS K r f) (hg : OpS K r' g) (ha : SB K T S m1 ta t) (hb : SB K T S m2 tb u) (hc : SB K T S m3 tc v) : SE K T S ((m1 && m2) && m3) (tChain r r' ta tb tc) (wChain f g t u v) := fun C ρ P σ H Q hC ht E q => by
  refine ha C ρ _ σ H _ hC ht E fun a x H1 h1 g1 r1 => ?_
  refine hb C ρ _ σ H1 _ hC h1 (E.gr g1) fun b y H2 h2 g2 r2 => ?_
  have E2 := (E.gr g1).gr g2
  refine hf C a b _ x y H2 _ h2 (r1.gr (E.gr g1) g2) r2 (fun p hp => E2.fresh hp) fun d z H3 hp k r3 => ?_
  cases d <;> first | exact hp.elim | skip
  rename_i kb
  have g3 : Gr (m1 && m2) C H H3 := gr_and (g1.trans g2) k
  refine ⟨kb, R.blE r3, ?_⟩
  cases kb with
  | false => exact q _ _ H3 hp g3.up (.bl _)
  | true =>
    have E3 := E2.same k
    refine hc C ρ _ σ H3 _ hC hp E3 fun c zc H4 h4 g4 r4 => ?_
    have E4 := E3.gr g4
    refine hg C b c P y zc H4 Q h4 ((RB.gr E2 (Gr.of (m := true) k) r2).gr E3 g4) r4 (fun p hp => E4.fresh hp) fun d v H5 hp k5 r5 => q d v H5 hp (gr_and (g3.trans g4) k5) r5
/-! ### d.get(k, x): a dict that is read -/
def Dt.key : Dt → Option Key
  | .int i => some (.inl i)
  | .str z => some (.inr z)
  | _ => none
def Dt.keys : List Dt → Option (List Key)
  | [] => some []
  | d :: ds => match d.key, Dt.keys ds with
    | some x, some xs => some (x :: xs)
    | _, _ => none
/-- the value at a key -/
def dlook (ks : List (List Key)) (ds : List Dt) (k : List Key) : Option Dt := ((ks.zip ds).find? fun p => decide (p.1 = k)).map (·.2)
def kGet2 (ks : List (List Key)) (ds : List Dt) : Dt → Dt → (Dt → Prop) → Prop
  | .tup es, x, P => ∃ k, Dt.keys es = some k ∧ P ((dlook ks ds k).getD x)
  | _, _, _ => False
def wGet2 (t u v : WE) : WE := fun ρ P => t ρ fun a => match a with
  | .dct ks ds => u ρ fun b => v ρ fun c => kGet2 ks ds b c P
  | _ => False
/-! ### isinstance of data -/
def Dt.tyN : Dt → Option String
  | .non => some "NoneType"
  | .bl _ => some "bool"
  | .int _ => some "int"
  | .str _ => some "str"
  | .lst _ => some "list"
  | .tup _ => some "tuple"
  | .dct _ _ => some "dict"
  | _ => none
theorem tyT_ {K : PySem.W.Frag} {H : Hp} {a : Addr} {xs : List V} (h : SqT K H a xs) : TyX K H (.ref a) (.type "tuple") := by
  rcases h with (e | ⟨o, e⟩) | ⟨o, its, n, e, c, _⟩
  · exact .base (.tup e)
  · exact .fTuple e
  · exact .kTuple e c
theorem RB.tyX {d : Dt} {v : V} {n : String} (h : RB K C H d v) (e : d.tyN = some n) : TyX K H v (.type n) := by
  cases d with
  | lst ds => obtain ⟨a, us, rfl, e1, _, t⟩ := h; cases e; exact .base (.lst e1)
  | non => cases h; cases e; exact .base .non
  | bl => cases h; cases e; exact .base (.bl _)
  | int => cases h; cases e; exact .base (.int _)
  | str => cases h; cases e; exact .base (.str _)
  | tup => cases h; cases e; rename_i e1 t; exact tyT_ (.of e1)
  | dct => cases h; cases e; rename_i e1 t; exact .base (.dT e1)
  | _ => cases e
def kIsi (T : String) : Dt → (Dt → Prop) → Prop := fun d P => match d.tyN with
  | some n => match kitB n T with
    | some b => P (.bl b)
    | none => False
  | none => False
theorem se_isi {TN : String} (ha : SB K T S m ta t) : SE K T S m (tCB (rIsi K) (tCons ta (tCons (tC (.ty TN)) tNil))) (w1 (kIsi TN) t) := fun C ρ P σ H Q hC ht E q => by
  refine ha C ρ _ σ H _ hC ht E fun a x H1 h1 g1 r1 => ?_
  unfold kIsi at h1
  split at h1
  · rename_i n e
    split at h1
    · rename_i b eb
      exact ⟨x, .ty TN, .type n, .type TN, b, rfl, .ty TN, r1.tyX e, kit_ty eb, q _ _ H1 h1 g1 (.bl _)⟩
    · exact h1.elim
  · exact h1.elim
/-- sorted(set(texts)) -/
def kSortSet : Dt → (List Dt → Prop) → Prop
  | .lst ds, P => ∃ zs, Dt.strs ds = some zs ∧ zs.length < 64 ∧ ∀ ys : List Str, sortedS ys = true → ys.Nodup → (∀ z, z ∈ ys ↔ z ∈ zs) → P (ys.map Dt.str)
  | _, _ => False
/-! ### xs[a:b] of a list -/
def wOpt (t : Option WE) (ρ : Env) (P : Option Int → Prop) : Prop := match t with
  | some t => t ρ fun d => match d with
    | .int i => P (some i)
    | _ => False
  | none => P none
/-! ### o.m(..) of an instance -/
end
end UL
namespace UL
open PySem PySem.Spec PyProof.Rows L2
/-- a comprehension over data that are told one by one -/
theorem wComp_map {α : Type} {bind : Dt → Env → Option Env} {u : WT} {t : WE} {ρ : Env} {f : α → Dt} (p : α → Bool) (g : α → Dt) : ∀ (xs : List α) {acc : List Dt} {P : List Dt → Prop},
    (∀ x ∈ xs, ∃ ρ1, bind (f x) ρ = some ρ1 ∧ (∀ Q : Bool → Prop, Q (p x) → u ρ1 Q) ∧ (p x = true → ∀ Q : Dt → Prop, Q (g x) → t ρ1 Q)) → P (acc ++ (xs.filter p).map g) → wComp bind u t ρ (xs.map f) acc P
  | [], acc, P, _, q => by
    rw [List.filter_nil, List.map_nil, List.append_nil] at q
    exact q
  | x :: xs, acc, P, h, q => by
    obtain ⟨ρ1, e, h1, h2⟩ := h x List.mem_cons_self
    have ih := fun {acc P} => wComp_map (P := P) p g xs (acc := acc) fun y hy => h y (List.mem_cons_of_mem _ hy)
    rw [List.map_cons]
    unfold wComp
    simp only [e]
    refine h1 _ ?_
    by_cases hp : p x = true
    · rw [if_pos hp]
      refine h2 hp _ (ih ?_)
      rw [List.filter_cons_of_pos hp, List.map_cons] at q
      rw [List.append_assoc]
      exact q
    · rw [if_neg hp]
      refine ih ?_
      rw [List.filter_cons_of_neg hp] at q
      exact q
theorem wComp_all {α : Type} {bind : Dt → Env → Option Env} {u : WT} {t : WE} {ρ : Env} {f : α → Dt} (g : α → Dt) (xs : List α) {acc : List Dt} {P : List Dt → Prop}
    (h : ∀ x ∈ xs, ∃ ρ1, bind (f x) ρ = some ρ1 ∧ (∀ Q : Bool → Prop, Q true → u ρ1 Q) ∧ ∀ Q : Dt → Prop, Q (g x) → t ρ1 Q) (q : P (acc ++ xs.map g)) : wComp bind u t ρ (xs.map f) acc P := by
  refine wComp_map (fun _ => true) g xs (fun x hx => ?_) ?_
  · obtain ⟨ρ1, e, h1, h2⟩ := h x hx
    exact ⟨ρ1, e, h1, fun _ => h2⟩
  · rw [List.filter_eq_self.mpr fun _ _ => rfl]
    exact q
theorem fls_ints : ∀ (zs : List Int), Dt.fls (zs.map Dt.int) = some (zs.map V.int)
  | [] => rfl
  | z :: zs => by
    rw [List.map_cons, List.map_cons]
    unfold Dt.fls
    rw [fls_ints zs]
    rfl
theorem strs_map : ∀ (zs : List Str), Dt.strs (zs.map Dt.str) = some zs
  | [] => rfl
  | z :: zs => by
    rw [List.map_cons]
    unfold Dt.strs
    rw [strs_map zs]
    rfl
theorem inV_ints (z : Int) : ∀ zs : List Int, inV (.int z) (zs.map V.int) = decide (z ∈ zs)
  | [] => rfl
  | y :: zs => by
    have e : inV (.int z) ((y :: zs).map V.int) = (eqV (.int y) (.int z) || inV (.int z) (zs.map V.int)) := rfl
    rw [e, inV_ints z zs]
    show ((y == z) || decide (z ∈ zs)) = _
    rw [Bool.eq_iff_iff, Bool.or_eq_true, beq_iff_eq, decide_eq_true_eq, decide_eq_true_eq, List.mem_cons]
    exact or_congr_left eq_comm
/-! ### step by step -/
section
variable {t u v : WE} {wa wb : WT} {ta : WA} {ρ : Env} {P : Dt → Prop} {Q : Bool → Prop} {R' : List Dt → Prop}
theorem wVar_of {i : Nat} {d : Dt} (e : ρ[i]? = some (some d)) (h : P d) : wVar i ρ P := by
  unfold wVar
  rw [e]
  exact h
theorem wC_of {d : Dt} (h : P d) : wC d ρ P := h
theorem w2_of {f : Dt → Dt → (Dt → Prop) → Prop} (h : t ρ fun a => u ρ fun b => f a b P) : w2 f t u ρ P := h
theorem w1_of {f : Dt → (Dt → Prop) → Prop} (h : t ρ fun a => f a P) : w1 f t ρ P := h
theorem wB_of (h : t ρ fun d => match d with | .bl b => Q b | _ => False) : wB t ρ Q := h
theorem wAnd_of (h : wa ρ fun b => if b = true then wb ρ Q else Q false) : wAnd wa wb ρ Q := h
theorem wOr_of (h : wa ρ fun b => if b = true then Q true else wb ρ Q) : wOr wa wb ρ Q := h
theorem wNot_of (h : wa ρ fun b => Q (!b)) : wNot wa ρ Q := h
theorem wCons_of (h : t ρ fun d => ta ρ fun ds => R' (d :: ds)) : wCons t ta ρ R' := h
theorem wNil_of (h : R' []) : wNil ρ R' := h
theorem kIxT_of {ds : List Dt} {i : Int} {d : Dt} (e : atI ds i = some d) (h : P d) : kIxT (.tup ds) (.int i) P := by
  unfold kIxT
  simp only [e]
  exact h
theorem kIxL_of {ds : List Dt} {i : Int} {d : Dt} (e : atI ds i = some d) (h : P d) : kIxL (.lst ds) (.int i) P := by
  unfold kIxL
  simp only [e]
  exact h
theorem atI_map {α : Type} {f : α → Dt} {xs : List α} {i : Nat} {x : α} (e : xs[i]? = some x) : atI (xs.map f) (i : Nat) = some (f x) := atI_nat (by rw [List.getElem?_map, e]; rfl)
end
/-- a for over data, by an invariant; k: what stands behind the turn -/
theorem wFor_map {α : Type} {bind : Dt → Env → Option Env} {body : WS} {f : α → Dt} {ρ : Env} {P : Out → Prop} (I : Nat → Env → Prop) (xs : List α) (h0 : I 0 ρ)
    (hs : ∀ i x ρ (k : Env → Prop), xs[i]? = some x → I i ρ → (∀ ρ2, I (i + 1) ρ2 → k ρ2) → ∃ ρ1, bind (f x) ρ = some ρ1 ∧ body ρ1 fun o => match o with
      | .nx ρ2 => k ρ2
      | .ct ρ2 => k ρ2
      | .bk ρ2 => P (.nx ρ2)
      | .rt x => P (.rt x)
      | .rf x => P (.rf x)
      | .xc x ρ2 => P (.xc x ρ2)) (hd : ∀ ρ, I xs.length ρ → P (.nx ρ)) : wFor bind body (xs.map f) ρ P := by
  have key : ∀ (n i : Nat) (ρ : Env), xs.length - i = n → i ≤ xs.length → I i ρ → wFor bind body ((xs.drop i).map f) ρ P := by
    intro n
    induction n with
    | zero =>
      intro i ρ hn hi h
      have e : i = xs.length := by omega
      subst e
      rw [List.drop_length]
      exact hd ρ h
    | succ n ih =>
      intro i ρ hn hi h
      have hlt : i < xs.length := by omega
      have ei : xs[i]? = some xs[i] := List.getElem?_eq_getElem hlt
      rw [drop_of ei, List.map_cons]
      obtain ⟨ρ1, e, hb⟩ := hs i _ ρ (fun ρ2 => wFor bind body ((xs.drop (i + 1)).map f) ρ2 P) ei h fun ρ2 h2 => ih (i + 1) ρ2 (by omega) hlt h2
      unfold wFor
      simp only [e]
      exact hb
  exact key _ 0 ρ rfl (Nat.zero_le _) h0
/-- .. over range(n) -/
theorem rngD_map {n : Nat} : rngD 0 n = (List.range n).map fun i : Nat => Dt.int (i : Nat) := by
  unfold rngD
  refine List.map_congr_left fun i _ => ?_
  rw [Int.zero_add]
theorem wFor_range {bind : Dt → Env → Option Env} {body : WS} {ρ : Env} {P : Out → Prop} (n : Nat) (I : Nat → Env → Prop) (h0 : I 0 ρ)
    (hs : ∀ i ρ (k : Env → Prop), i < n → I i ρ → (∀ ρ2, I (i + 1) ρ2 → k ρ2) → ∃ ρ1, bind (.int (i : Nat)) ρ = some ρ1 ∧ body ρ1 fun o => match o with
      | .nx ρ2 => k ρ2
      | .ct ρ2 => k ρ2
      | .bk ρ2 => P (.nx ρ2)
      | .rt x => P (.rt x)
      | .rf x => P (.rf x)
      | .xc x ρ2 => P (.xc x ρ2)) (hd : ∀ ρ, I n ρ → P (.nx ρ)) : wFor bind body (rngD 0 n) ρ P := by
  rw [rngD_map]
  refine wFor_map I _ h0 (fun i x ρ k e h hk => ?_) (fun ρ h => hd ρ (by rwa [List.length_range] at h))
  have hi : i < n := by
    have := (List.getElem?_eq_some_iff.mp e).1
    rwa [List.length_range] at this
  rw [List.getElem?_range hi] at e
  cases e
  exact hs i ρ k hi h hk
section
variable {t u : WE} {w w' : WS} {wc : WT} {ta : WA} {ρ : Env} {P : Out → Prop} {R' : List Dt → Prop}
theorem wSeq_of (h : w ρ fun o => match o with | .nx ρ1 => w' ρ1 P | o => P o) : wSeq w w' ρ P := h
theorem wSet_of {i : Nat} (h : t ρ fun d => P (.nx (ρ.set i (some d)))) : wSet i t ρ P := h
theorem wRet_of (h : t ρ fun d => P (.rt d)) : wRet t ρ P := h
theorem wRetF_of (h : ta ρ fun d => P (.rf d)) : wRetF ta ρ P := h
theorem wIfS_of (h : wc ρ fun b => if b = true then w ρ P else w' ρ P) : wIfS wc w w' ρ P := h
theorem wForS_of {bind : Dt → Env → Option Env} (h : ta ρ fun items => wFor bind w items ρ P) : wForS ta bind w ρ P := h
theorem wItemsL_of (h : t ρ fun d => match d with | .lst ds => R' ds | _ => False) : wItemsL t ρ R' := h
theorem wItemsT_of (h : t ρ fun d => match d with | .tup ds => R' ds | _ => False) : wItemsT t ρ R' := h
theorem wLc_of {bind : Dt → Env → Option Env} {wt : WT} {vs : List Nat} (h : ta ρ fun items => items.length ≤ 1000000 ∧ wComp bind wt t (wipeE ρ vs) items [] R') : wLc ta bind wt t vs ρ R' := h
end
section
variable {t u : WE} {ta : WA} {ρ : Env} {P : Out → Prop} {R' : List Dt → Prop} {Q : Dt → Prop}
theorem wSetF_of {i : Nat} (hi : decide (i < ρ.length) = true) (h : ta ρ fun ds => P (.nx (ρ.set i (some (.lst ds))))) : wSetF i ta ρ P := ⟨of_decide_eq_true hi, h⟩
theorem wApp_of {i : Nat} {ds : List Dt} (e : ρ[i]? = some (some (.lst ds))) (h : t ρ fun d => ds.length < sizeLine ∧ P (.nx (ρ.set i (some (.lst (ds ++ [d])))))) : wApp i t ρ P := by
  unfold wApp
  rw [e]
  exact h
theorem wRetO_of {i : Nat} {ds : List Dt} (e : ρ[i]? = some (some (.lst ds))) (h : P (.rf ds)) : wRetO i ρ P := by
  unfold wRetO
  rw [e]
  exact h
end
section
variable {t u v : WE} {wa wb : WT} {ta : WA} {ρ : Env} {P : Dt → Prop} {Q : Bool → Prop} {R' : List Dt → Prop}
theorem wAndV_of (h : t ρ fun d => match d with | .bl b => if b = true then u ρ P else P (.bl false) | _ => False) : wAndV t u ρ P := h
theorem wOrV_of (h : t ρ fun d => match d with | .bl b => if b = true then P (.bl true) else u ρ P | _ => False) : wOrV t u ρ P := h
theorem wNotV_of (h : t ρ fun d => match d with | .bl b => P (.bl (!b)) | _ => False) : wNotV t ρ P := h
theorem wIf_of (h : wa ρ fun b => if b = true then t ρ P else u ρ P) : wIf wa t u ρ P := h
theorem wGet2_of (h : t ρ fun a => match a with | .dct ks ds => u ρ fun b => v ρ fun c => kGet2 ks ds b c P | _ => False) : wGet2 t u v ρ P := h
theorem wChain_of {f g : Dt → Dt → (Dt → Prop) → Prop} (h : t ρ fun a => u ρ fun b => f a b fun z => match z with | .bl k => if k = true then v ρ fun c => g b c P else P (.bl false) | _ => False) : wChain f g t u v ρ P := h
theorem kIsi_of {T n : String} {d : Dt} {b : Bool} (e1 : d.tyN = some n) (e2 : kitB n T = some b) (h : P (.bl b)) : kIsi T d P := by
  unfold kIsi
  simp only [e1, e2]
  exact h
theorem kFld_of {CC : Addr} {f : Str} {ks : List Str} {ds : List Dt} {d : Dt} (e : (ks.zip ds).lookup f = some d) (h : P d) : kFld CC f (.obj CC ks ds) P := by
  refine ⟨rfl, ?_⟩
  rw [e]
  exact h
theorem kLenL_of {ds : List Dt} (h : P (.int ds.length)) : kLen (.lst ds) P := h
theorem kLenT_of {ds : List Dt} (h : P (.int ds.length)) : kLen (.tup ds) P := h
theorem wExpr_of {Po : Out → Prop} (h : t ρ fun _ => Po (.nx ρ)) : wDrop t ρ Po := h
end
theorem wNext_of {ρ : Env} {P : Out → Prop} (h : P (.nx ρ)) : wNext ρ P := h
theorem kTupOfL_of {ds : List Dt} {P : Dt → Prop} (h : P (.tup ds)) : kTupOf (.lst ds) P := h
theorem wLc2_of {bind bind1 : Dt → Env → Option Env} {wt wt1 : WT} {ta ti1 : WA} {t : WE} {vs vs1 : List Nat} {ρ : Env} {R' : List Dt → Prop} (h : ta ρ fun items => items.length ≤ 1000 ∧ wComp2 bind wt ti1 bind1 wt1 t vs1 (wipeE ρ vs) items [] R') : wLc2 ta bind wt ti1 bind1 wt1 t vs vs1 ρ R' := h
end UL
namespace UL
open PySem PySem.Spec PyProof.Rows L2
section
variable {K : PySem.W.Frag} {T : List NdefX.NTab} {SL S S' S1 : Sl} {m m' m1 m2 m3 s : Bool} {te ta tb : TE} {t u : WE} {C C1 C' : Ct} {σ : L2.St} {H H' H1 : Hp} {ρ : Env} {ts ts1 : TS} {XO : XOut} {w w' : WS}
/-! ### pools that a def makes -/
def Ct.takeP (C : Ct) (i : Nat) (p : Addr) : Ct := { C with O := C.O.filter (· ≠ i), Pl := i :: C.Pl.filter (· ≠ i), A := fun j => if j = i then p else C.A j }
def Sl.takeP (S : Sl) (i : Nat) : Sl := (S.1.filter (· ≠ i), i :: S.2.filter (· ≠ i))
theorem takeP_A {i j : Nat} {p : Addr} (h : j ≠ i) : (C.takeP i p).A j = C.A j := if_neg h
theorem takeP_self {i : Nat} {p : Addr} : (C.takeP i p).A i = p := if_pos rfl
theorem takeP_mem {i j : Nat} {p : Addr} (h : j ∈ (C.takeP i p).O ∨ j ∈ (C.takeP i p).Pl) : (j = i ∧ (C.takeP i p).A j = p) ∨ ((j ∈ C.O ∨ j ∈ C.Pl) ∧ j ≠ i ∧ (C.takeP i p).A j = C.A j) := by
  by_cases e : j = i
  · exact .inl ⟨e, by rw [e]; exact takeP_self⟩
  · refine .inr ⟨?_, e, takeP_A e⟩
    rcases h with h | h
    · exact .inl (mem_drop.mp h).1
    · rcases List.mem_cons.mp h with h | h
      · exact absurd h e
      · exact .inr (mem_drop.mp h).1
theorem Ct.ok_takeP {i : Nat} {p a : Addr} (h : C.ok a) (n : a ≠ p) : (C.takeP i p).ok a := by
  refine ⟨h.1, fun j hj => ?_⟩
  rcases takeP_mem hj with ⟨_, e⟩ | ⟨q, _, e⟩
  · rw [e]
    exact n
  · rw [e]
    exact h.2 j q
theorem EnvR.setP (E : EnvR K C σ H ρ) {i : Nat} {p : Addr} {x y z : Int} (hi : i < ρ.length) (hp : H p = none) :
    EnvR K (C.takeP i p) (σ.set i (some (.ref p))) (upd H p (.lst [.int x, .int y, .int z])) (ρ.set i none) ∧ Mv C.ok H (C.takeP i p).ok (upd H p (.lst [.int x, .int y, .int z])) := by
  have k := same_up (o := .lst [.int x, .int y, .int z]) hp
  have m : Mv C.ok H (C.takeP i p).ok (upd H p (.lst [.int x, .int y, .int z])) := ⟨.same k, fun a hn h => C.ok_takeP h fun z => hn (by rw [z]; exact .of hp)⟩
  have E' := E.same k
  have ne : ∀ j, j ∈ C.O ∨ j ∈ C.Pl → C.A j ≠ p := fun j hj z => by
    obtain ⟨us, e1, _⟩ := E.place hj
    rw [z, hp] at e1
    cases e1
  have np : ¬ C.LP p := fun h => by
    obtain ⟨⟨x, y, w, e1⟩, _⟩ := E.lent _ h
    rw [hp] at e1
    cases e1
  refine ⟨⟨by rw [List.length_set, List.length_set, E.len], E'.keep, E'.dom, E'.lent, E'.tab, fun j d hj hpl h => ?_, fun j hj => ?_, fun j hj => ?_, fun j hj => ?_, fun j j' hj hj' h => ?_⟩, m⟩
  · rcases set_get h with ⟨_, e, _⟩ | ⟨n, h⟩
    · cases e
    · obtain ⟨v, e1, r⟩ := E.sh j d (fun z => hj (mem_drop.mpr ⟨z, n⟩)) (fun z => hpl (List.mem_cons_of_mem _ (mem_drop.mpr ⟨z, n⟩))) h
      exact ⟨v, by rw [List.getElem?_set_ne (Ne.symm n)]; exact e1, r.mv m⟩
  · obtain ⟨h1, h2⟩ := mem_drop.mp hj
    obtain ⟨ds, us, e1, e2, e3, r, q, l⟩ := E.own j h1
    have eA : (C.takeP i p).A j = C.A j := takeP_A h2
    exact ⟨ds, us, by rw [List.getElem?_set_ne (Ne.symm h2)]; exact e1, by rw [List.getElem?_set_ne (Ne.symm h2), eA]; exact e2, by rw [eA]; exact k _ _ e3, by rw [eA]; exact r.mv m, by rw [eA]; exact q, by rw [eA]; exact l⟩
  · by_cases n : j = i
    · subst n
      rw [takeP_self]
      exact ⟨by rw [List.length_set]; exact hi, by rw [List.getElem?_set_self (by rw [E.len]; exact hi)], ⟨x, y, z, upd_same⟩, .inl (E.dom p (.of hp))⟩
    · have hj : j ∈ C.Pl := by
        rcases List.mem_cons.mp hj with h | h
        · exact absurd h n
        · exact (mem_drop.mp h).1
      obtain ⟨l, e1, e2, q⟩ := E.pls j hj
      have eA : (C.takeP i p).A j = C.A j := takeP_A n
      exact ⟨by rw [List.length_set]; exact l, by rw [List.getElem?_set_ne (Ne.symm n), eA]; exact e1, by rw [eA]; exact e2.same k, by rw [eA]; exact q⟩
  · obtain ⟨h1, h2⟩ := mem_drop.mp hj
    intro h
    rcases List.mem_cons.mp h with h | h
    · exact h2 h
    · exact E.dj j h1 (mem_drop.mp h).1
  · rcases takeP_mem hj with ⟨a1, a2⟩ | ⟨a1, a2, a3⟩
    · rcases takeP_mem hj' with ⟨b1, b2⟩ | ⟨b1, b2, b3⟩
      · rw [a1, b1]
      · rw [a2, b3] at h
        exact absurd h.symm (ne j' b1)
    · rcases takeP_mem hj' with ⟨b1, b2⟩ | ⟨b1, b2, b3⟩
      · rw [a3, b2] at h
        exact absurd h (ne j a1)
      · rw [a3, b3] at h
        exact E.inj j j' a1 b1 h
/-- a promise that makes a pool of an int -/
def PoolSp (sp : Sp) : Prop := ∀ (z : Int) (H : Hp) (Q : VK) (E : XK), (∀ p x y w, H p = none → Q (.ref p) (upd H p (.lst [.int x, .int y, .int w]))) → sp [.int z] H Q E
/-- x = _law_pool(e) -/
def wNewP (i : Nat) (t : WE) : WS := fun ρ P => i < ρ.length ∧ t ρ fun d => match d with
  | .int _ => P (.nx (ρ.set i none))
  | _ => False
theorem ss_newP (i : Nat) {sp : Sp} {E0 : XK} (hs : PoolSp sp) (h : SE K T S true te t) : SS K T XO SL S (S.takeP i) (tAsg (tCall sp [] E0 (tCons te tNil)) (gName i)) (wNewP i t) := fun C ρ P σ H D hC ht E own q => by
  refine h C ρ _ σ H _ hC ht.2 E fun d v H1 h1 g1 r1 => ?_
  cases d <;> first | exact h1.elim | skip
  rw [R.intE r1]
  refine hs _ H1 _ _ fun p x y z hp => ?_
  have E1 := E.gr g1
  obtain ⟨E2, k2⟩ := E1.setP (x := x) (y := y) (z := z) ht.1 hp
  refine q _ h1 (C.takeP i p) _ _ ⟨by show C.O.filter _ = _; rw [hC.1]; rfl, by show i :: C.Pl.filter _ = _; rw [hC.2]; rfl, hC.3⟩ ⟨rfl, rfl, rfl, rfl, rfl⟩ E2 (fun j hj => ?_) ((g1.mv E).trans k2)
  obtain ⟨a1, a2⟩ := mem_drop.mp hj
  have eA : (C.takeP i p).A j = C.A j := takeP_A a2
  rw [eA]
  exact own j a1
/-- a pool is forgotten -/
def Ct.dropP (C : Ct) (i : Nat) : Ct := { C with Pl := C.Pl.filter (· ≠ i) }
def Sl.dropP (S : Sl) (i : Nat) : Sl := (S.1, S.2.filter (· ≠ i))
theorem Ct.ok_dropP {i : Nat} {a : Addr} (h : C.ok a) : (C.dropP i).ok a := ⟨h.1, fun j hj => h.2 j (hj.imp id fun z => (mem_drop.mp z).1)⟩
theorem EnvR.dropP (E : EnvR K C σ H ρ) (i : Nat) (hi : i ∉ C.O) : EnvR K (C.dropP i) σ H (ρ.set i none) where
  len := by rw [List.length_set]; exact E.len
  keep := E.keep
  dom := E.dom
  lent := E.lent
  tab := E.tab
  sh := fun j d hj hp h => by
    rcases set_get h with ⟨_, e, _⟩ | ⟨n, h⟩
    · cases e
    · obtain ⟨v, e1, r⟩ := E.sh j d hj (fun z => hp (mem_drop.mpr ⟨z, n⟩)) h
      exact ⟨v, e1, r.mv ⟨.refl, fun _ _ q => Ct.ok_dropP q⟩⟩
  own := fun j hj => by
    obtain ⟨ds, us, e1, e2, e3, r, q⟩ := E.own j hj
    have n : j ≠ i := fun z => hi (by rw [← z]; exact hj)
    exact ⟨ds, us, by rw [List.getElem?_set_ne (Ne.symm n)]; exact e1, e2, e3, r.mv ⟨.refl, fun _ _ q => Ct.ok_dropP q⟩, q⟩
  pls := fun j hj => by
    obtain ⟨l, q⟩ := E.pls j (mem_drop.mp hj).1
    exact ⟨by rw [List.length_set]; exact l, q⟩
  dj := fun j hj h => E.dj j hj (mem_drop.mp h).1
  inj := fun j k hj hk => E.inj j k (hj.imp id fun z => (mem_drop.mp z).1) (hk.imp id fun z => (mem_drop.mp z).1)
/-- .. at the end of a turn -/
def wEndP (i : Nat) (w : WS) : WS := fun ρ P => w ρ fun o => match o with
  | .nx ρ1 => P (.nx (ρ1.set i none))
  | .rt d => P (.rt d)
  | .rf d => P (.rf d)
  | _ => False
theorem wNewP_of {i : Nat} {P : Out → Prop} (hi : decide (i < ρ.length) = true) (h : t ρ fun d => match d with | .int _ => P (.nx (ρ.set i none)) | _ => False) : wNewP i t ρ P := ⟨of_decide_eq_true hi, h⟩
theorem wEndP_of {i : Nat} {P : Out → Prop} (h : w ρ fun o => match o with | .nx ρ1 => P (.nx (ρ1.set i none)) | .rt d => P (.rt d) | .rf d => P (.rf d) | _ => False) : wEndP i w ρ P := h
theorem kI_of {g : Int → Int → Dt} {i j : Int} {P : Dt → Prop} (h : P (g i j)) : kI g (.int i) (.int j) P := h
theorem kRng1_to {j : Int} {P : List Dt → Prop} (h1 : j < 2 ^ 62) (h2 : -(2 ^ 62) ≤ j) (h : P (rngD 0 j.toNat)) : kRng1 [.int j] P := ⟨h1, h2, h⟩
end
end UL
namespace UL
open PySem PySem.Spec PyProof.Rows L2
section
variable {K : PySem.W.Frag} {T : List NdefX.NTab} {SL S S' S1 : Sl} {m m' m1 m2 m3 s : Bool} {te ta tb : TE} {t u : WE} {C C1 C' : Ct} {σ : L2.St} {H H' H1 : Hp} {ρ : Env} {ts ts1 : TS} {XO : XOut} {w w' : WS}
/-! ### a call that is lent own lists, and gives a flat value -/
def SAB (K : PySem.W.Frag) (T : List NdefX.NTab) (S : Sl) (m : Bool) (ta : TA) (t : WA) : Prop := ∀ (C : Ct) (ρ : Env) (P : List Dt → Prop) (σ : L2.St) (H : Hp) (Q : List V → Hp → Prop), C.In T S → t ρ P → EnvR K C σ H ρ →
  (∀ ds vs H', P ds → Gr m C H H' → Rs K (fun _ => True) H' ds vs → Q vs H') → ta σ H Q
theorem RB.any {d : Dt} {v : V} (h : RB K C H d v) : R K (fun _ => True) H d v := by
  cases d with
  | lst ds =>
    obtain ⟨a, us, rfl, e, _, t⟩ := h
    exact .lst e True.intro (t.okm fun _ _ _ => True.intro)
  | nd ks ds =>
    obtain ⟨a, L, rfl, e, x, r1, nk, r2⟩ := h
    exact .nd e True.intro x (r1.okm fun _ _ _ => True.intro) nk (r2.okm fun _ _ _ => True.intro)
  | dk ks ds =>
    obtain ⟨a, kvs, rfl, rfl, e, r⟩ := h
    exact .dk e True.intro (r.okm fun _ _ _ => True.intro)
  | _ => exact R.okm (fun _ _ _ => True.intro) h
/-! ### xs.reverse(), xs an own list -/
def wRev (i : Nat) : WS := fun ρ P => match ρ[i]? with
  | some (some (.lst ds)) => P (.nx (ρ.set i (some (.lst ds.reverse))))
  | _ => False
theorem wRev_of {i : Nat} {ds : List Dt} {P : Out → Prop} (e : ρ[i]? = some (some (.lst ds))) (h : P (.nx (ρ.set i (some (.lst ds.reverse))))) : wRev i ρ P := by
  unfold wRev
  rw [e]
  exact h
theorem kInD_cases {neg : Bool} {a : Dt} {x : PyData} {ds : List Dt} {xs : List PyData} {P : Dt → Prop} (e1 : a.py = some x) (e2 : Dt.pys ds = some xs) (s1 : SeqAt.shaped x = true) (s2 : SeqAt.shaped (.list xs) = true)
    (h : P (.bl (if neg then !xs.any fun z => PyData.eqv z x else xs.any fun z => PyData.eqv z x))) : kInD neg a (.lst ds) P := by
  unfold kInD
  simp only [e1]
  exact ⟨xs, e2, s1, s2, h⟩
theorem pys_map {α : Type} {f : α → Dt} {g : α → PyData} (h : ∀ x, (f x).py = some (g x)) : ∀ xs : List α, Dt.pys (xs.map f) = some (xs.map g)
  | [] => rfl
  | x :: xs => by
    rw [List.map_cons, List.map_cons]
    unfold Dt.pys
    rw [h x, pys_map h xs]
end
end UL
/-! zip of two, of three: each a list or a tuple. -/
namespace VZ
open PySem PySem.Spec PyProof.Rows L2
def SqK (K : PySem.W.Frag) (k : Bool) (H : Hp) (a : Addr) (xs : List V) : Prop := match k with
  | true => SqT K H a xs
  | false => SqL K H a xs
def IsK (k : Bool) (h : Heap) (a : Addr) (items : Array Value) : Prop := match k with
  | true => h.IsTuple a items
  | false => h.IsList a items
def ItK (k : Bool) (h : Heap) (it a : Addr) (i : Nat) : Prop := match k with
  | true => h.IsTupleIter it a i
  | false => h.IsListIter it a i
def oK (k : Bool) (a : Addr) : Obj := match k with
  | true => { cls := .type "tuple_iterator", data := .fields #[.ref a, .int 0 0] }
  | false => { cls := .type "list_iterator", data := .fields #[.ref a, .int 0 0] }
section
variable {k : Bool} {h h' : Heap} {it a : Addr} {i : Nat} {items : Array Value}
theorem ItK.at (q : ItK k h it a i) (e : ∀ o, h.get? it = some o → h'.get? it = some o) : ItK k h' it a i := by
  cases k
  · exact Heap.IsListIter.at q e
  · exact Heap.IsTupleIter.at q e
theorem ItK.obj (q : ItK k h it a i) : ∃ o, h.get? it = some o ∧ ∀ v, o.data ≠ .cell v := by
  cases k
  · obtain ⟨o, e, _, d⟩ := q
    exact ⟨o, e, fun v z => by rw [d] at z; cases z⟩
  · obtain ⟨o, e, _, d⟩ := q
    exact ⟨o, e, fun v z => by rw [d] at z; cases z⟩
theorem IsK.lt (q : IsK k h a items) : a < h.objs.size := by
  cases k
  · obtain ⟨o, e, _⟩ := q
    exact Heap.lt_size e
  · obtain ⟨o, e, _⟩ := q
    exact Heap.lt_size e
theorem IsK.ne (q : IsK k h a items) (r : ItK k h it a i) : a ≠ it := by
  intro z
  cases k
  · obtain ⟨o, e, c, _⟩ := r
    obtain ⟨o2, e2, c2, _⟩ := q
    rw [z, e] at e2
    cases e2
    rw [c] at c2
    exact absurd (Value.type.inj c2) (by decide)
  · obtain ⟨o, e, c, _⟩ := r
    obtain ⟨o2, e2, c2, _⟩ := q
    rw [z, e] at e2
    cases e2
    rw [c] at c2
    exact absurd (Value.type.inj c2) (by decide)
end
section
variable {X : Cx} {pins : List (Addr × Obj)} {σ : L2.St} {H : Hp} {s : Shared} {k : Bool} {a : Addr} {xs ys : List V}
end
/-- the sequences at a and b, the items in new pairs -/
def Itz2 (K : PySem.W.Frag) (ka kb : Bool) (a b : Addr) : It :=
  ⟨fun i H => ∃ (xs ys : List V) (x y : V), SqK K ka H a xs ∧ SqK K kb H b ys ∧ xs[i]? = some x ∧ ys[i]? = some y,
    fun i H v H' => ∃ T x y, v = .ref T ∧ H T = none ∧ H' = upd H T (.tup [x, y]) ∧ (∀ xs, SqK K ka H a xs → xs[i]? = some x) ∧ ∀ ys, SqK K kb H b ys → ys[i]? = some y,
    fun i H => ∃ xs ys : List V, SqK K ka H a xs ∧ SqK K kb H b ys ∧ i = min xs.length ys.length⟩
def Itz3 (K : PySem.W.Frag) (ka kb kc : Bool) (a b c : Addr) : It :=
  ⟨fun i H => ∃ (xs ys zs : List V) (x y z : V), SqK K ka H a xs ∧ SqK K kb H b ys ∧ SqK K kc H c zs ∧ xs[i]? = some x ∧ ys[i]? = some y ∧ zs[i]? = some z,
    fun i H v H' => ∃ T x y z, v = .ref T ∧ H T = none ∧ H' = upd H T (.tup [x, y, z]) ∧ (∀ xs, SqK K ka H a xs → xs[i]? = some x) ∧ (∀ ys, SqK K kb H b ys → ys[i]? = some y) ∧ ∀ zs, SqK K kc H c zs → zs[i]? = some z,
    fun i H => ∃ xs ys zs : List V, SqK K ka H a xs ∧ SqK K kb H b ys ∧ SqK K kc H c zs ∧ i = min (min xs.length ys.length) zs.length⟩
def iZip2 (K : PySem.W.Frag) (ta : TA) : TI := fun σ H R => ta σ H fun vs H1 => ∃ ka kb a b xs ys, vs = [.ref a, .ref b] ∧ SqK K ka H1 a xs ∧ SqK K kb H1 b ys ∧ R (Itz2 K ka kb a b) H1
def iZip3 (K : PySem.W.Frag) (ta : TA) : TI := fun σ H R => ta σ H fun vs H1 => ∃ ka kb kc a b c xs ys zs, vs = [.ref a, .ref b, .ref c] ∧ SqK K ka H1 a xs ∧ SqK K kb H1 b ys ∧ SqK K kc H1 c zs ∧ R (Itz3 K ka kb kc a b c) H1
end VZ
/-! enumerate(a tuple). -/
namespace VE
open PySem PySem.Spec PyProof.Rows
open Sem (wp)
open AutoSeq1 (wpAny_loadPart')
theorem new_enumT (l : Addr) (items : Array Value) (n : Nat) (dct : Option Addr) (sl : Array (Option Value)) :
    Meets (Builtin.«enumerate.__new__» ⟨[.type "enumerate", .ref l], []⟩) (fun _ R s => s.heap.get? l = some { cls := .type "tuple", dict := dct, data := .seq items n, slots := sl } ∧
      R (.ok (.ret (.ref (s.heap.push { cls := .type "tuple_iterator", data := .fields #[.ref l, .int 0 0] }).objs.size)))
        { s with heap := (s.heap.push { cls := .type "tuple_iterator", data := .fields #[.ref l, .int 0 0] }).push { cls := .type "enumerate", data := .fields #[.none, .bool false, .ref s.heap.objs.size, rawInt 0, .none, .none] } }) :=
  .of_wp fun prog w A R s h => by
    obtain ⟨hp, g, d, tk, os⟩ := s
    obtain ⟨hl, h⟩ := h
    have hsub := sub_enumerate
    have hT : Heap.IsTuple (Shared.heap ⟨hp, g, d, tk, os⟩) l items := ⟨_, hl, rfl, n, rfl⟩
    wp_walk using wpAny_loadPart' hl
    refine wpAny_stack_any fun st => wpAny_pure ?_
    split
    · rename_i c _ _ _ _ _
      cases (c == Value.type "enumerate")
      · wp_walk using wpAny_loadPart' hl, wpAny_pyIter_tuple hT
        exact ⟨_, rfl, h⟩
      · wp_walk using wpAny_loadPart' hl, wpAny_pyIter_tuple hT
        exact ⟨_, rfl, h⟩
    · wp_walk using wpAny_loadPart' hl, wpAny_pyIter_tuple hT
      exact ⟨_, rfl, h⟩
section
variable {prog : Program} {w : World} {A : Around} {E : Value → Shared → Prop} {s : Shared}
theorem call_enumT {l : Addr} {items : Array Value} {Q : Value → Shared → Prop} (hT : s.heap.IsTuple l items)
    (h : ∀ h', IsEnum h' (s.heap.objs.size + 1) s.heap.objs.size 0 .none → h'.IsTupleIter s.heap.objs.size l 0 → h'.objs.size = s.heap.objs.size + 2 →
      (∀ b o, s.heap.get? b = some o → h'.get? b = some o) → Q (.ref (s.heap.objs.size + 1)) { s with heap := h' }) :
    wpAny (model prog w) A (call (.type "enumerate") [.ref l]) Q E s := by
  obtain ⟨⟨c, dct, dt, sl⟩, hl, hc, n, hd⟩ := hT
  replace hc : c = .type "tuple" := hc
  replace hd : dt = .seq items n := hd
  subst hc hd
  refine callType_new F.called_enumerate (by decide) (F.typeCall_enumerate_1 _) (F.newCall_enumerate_1 _) (fun obj => F.args_object_init_2 obj _) F.entry_enumerate_new
    (new_enumT l items n dct sl) ⟨hl, ?_⟩
  have hz : (s.heap.push { cls := .type "tuple_iterator", data := .fields #[.ref l, .int 0 0] }).objs.size = s.heap.objs.size + 1 := Heap.size_push ..
  show _ ∧ _
  rw [hz]
  have he : IsEnum ((s.heap.push { cls := .type "tuple_iterator", data := .fields #[.ref l, .int 0 0] }).push
      { cls := .type "enumerate", data := .fields #[.none, .bool false, .ref s.heap.objs.size, rawInt 0, .none, .none] }) (s.heap.objs.size + 1) s.heap.objs.size 0 .none := by
    have := Heap.get?_push_size (s.heap.push { cls := .type "tuple_iterator", data := .fields #[.ref l, .int 0 0] })
      (o := { cls := .type "enumerate", data := .fields #[.none, .bool false, .ref s.heap.objs.size, rawInt 0, .none, .none] }) rfl
    rw [hz] at this
    exact this
  exact ⟨⟨_, he, rfl⟩, h _ he ⟨_, Heap.get?_push_of_some _ (Heap.get?_push_size _ rfl), rfl, rfl⟩ (by rw [Heap.size_push, hz]) fun b o x => Heap.get?_push_of_some _ (Heap.get?_push_of_some _ x)⟩
end
open L2
/-- the tuple at a, each item in a new pair with its number -/
def Itet (K : PySem.W.Frag) (a : Addr) : It :=
  ⟨fun i H => ∃ (xs : List V) (x : V), SqT K H a xs ∧ xs[i]? = some x, fun i H v H' => ∃ T x, v = .ref T ∧ H T = none ∧ H' = upd H T (.tup [.int (i : Nat), x]) ∧ ∀ xs, SqT K H a xs → xs[i]? = some x, fun i H => ∃ xs : List V, SqT K H a xs ∧ xs.length ≤ i⟩
theorem turn_enumT {P : Program} {w : World} {K : PySem.W.Frag} {elts : List Expr} {kk : Nat} {tpos : Pos} (a e it : Addr) :
    Turn P w K (.Tuple elts kk tpos) (Itet K a) [e, it] e (fun i h => (∃ old, IsEnum h e it ((i : Nat) : Int) old) ∧ h.IsTupleIter it a i ∧ e ≠ it) where
  mem := by simp
  obj := fun i h st b hb => by
    obtain ⟨⟨old, he⟩, ⟨o, ho, hc, hd⟩, _⟩ := st
    have e' : b = e ∨ b = it := by simpa using hb
    rcases e' with z | z
    · exact z ▸ ⟨_, he, fun v q => nomatch q⟩
    · exact z ▸ ⟨o, ho, fun v q => by rw [hd] at q; cases q⟩
  keep := fun i h h' ⟨⟨old, he⟩, hi, hne⟩ k => ⟨⟨old, k e (by simp) _ he⟩, hi.at fun o q => k it (by simp) o q, hne⟩
  item := by
    intro X hP hw hK hc i pins s σ H E I hf ⟨⟨old, he⟩, hit, hne⟩ ⟨xs, x, hq, hx⟩
    subst hP hw hK
    obtain ⟨its, rv, p, hz⟩ := I.tuple hq
    obtain ⟨u, hu, ru⟩ := rv.get hx
    have hel : e < s.heap.objs.size := Heap.lt_size he
    have hil : it < s.heap.objs.size := let ⟨_, q, _⟩ := hit; Heap.lt_size q
    have p' : s.heap.IsTuple a its.toArray := p
    have nai : a ≠ it := fun z => by
      obtain ⟨o, ho, hc1, _⟩ := hit
      obtain ⟨o2, ho2, hc2, _⟩ := p'
      rw [z, ho] at ho2
      cases ho2
      rw [hc1] at hc2
      exact absurd (Value.type.inj hc2) (by decide)
    have nea : e ≠ a := fun z => by
      obtain ⟨o2, ho2, hc2, _⟩ := p'
      rw [← z, (show s.heap.get? e = some _ from he)] at ho2
      cases ho2
      exact absurd (Value.type.inj hc2) (by decide)
    have ui : i < its.toArray.size := by
      have z := (List.getElem?_eq_some_iff.mp hu).1
      simpa using z
    refine wpAny_pyNext_enum_itemD (Draws.tuple (show X.A.in1.handled = none from I.ok.hd hc) it a nai its.toArray) he ⟨hit, p'⟩ ui hne (by simp [hne, nea]) fun y h' tk hy ho hst hT hsz hk => ?_
    have ey : y = u := by
      have z : its.toArray[i]? = some y := hy
      rw [List.getElem?_toArray, hu] at z
      exact (Option.some.inj z).symm
    subst ey
    refine ⟨_, rfl, wpAny_letOwnedTupleGo_enum (s := { s with heap := h', toks := tk + 1 }) ho fun h2 he' sb => ?_⟩
    have hT2 : h2.get? s.heap.objs.size = some { cls := .type "tuple", data := .seq #[.int i tk, y] } := (sb.2 _ (Nat.ne_of_gt hel)).trans hT
    have new : ObjOk X.prog X.w (upd H s.heap.objs.size (.tup [.int (i : Nat), x])) h2 s.heap.objs.size (.tup [.int (i : Nat), x]) :=
      ⟨by show 2 ≤ sizeLine; decide, [.int i tk, y], .cons ⟨_, rfl⟩ (.cons ru .nil), ⟨_, hT2, rfl, _, rfl⟩⟩
    have I1 : Inv X pins σ (upd H s.heap.objs.size (.tup [.int (i : Nat), x])) { s with heap := h2, toks := tk + 1 } :=
      I.turnedNew (ch := [e, it]) (fun b ob hb q => (sb.2 b (fun z => hb (by simp [z]))).trans (hk b ob (fun z => hb (by simp [z])) (fun z => hb (by simp [z])) q)) hf (Nat.le_refl _) new
    refine ⟨.ref s.heap.objs.size, _, I1, rfl, ⟨_, x, rfl, I.hok.fresh (Nat.le_refl _), rfl, fun ys hy => by rw [I.tuple_inj hy hq]; exact hx⟩, ⟨⟨y, ?_⟩, hst.1.at fun o q => (sb.2 it (Ne.symm hne)).trans q, hne⟩, fun b hb => ?_⟩
    · have e1 : ((i + 1 : Nat) : Int) = (i : Int) + 1 := by omega
      exact e1 ▸ he'
    · have hb' : b < s.heap.objs.size := by
        have e' : b = e ∨ b = it := by simpa using hb
        rcases e' with z | z
        · exact z ▸ hel
        · exact z ▸ hil
      rw [upd_ne (Nat.ne_of_lt hb')]
      exact (hf b hb).1
  done := by
    intro X hP hw hK hc i pins s σ H E I hf ⟨⟨old, he⟩, hit, hne⟩ ⟨xs, hq, hx⟩
    subst hP hw hK
    obtain ⟨its, rv, p, hz⟩ := I.tuple hq
    obtain ⟨f0, f1, f2, f3, f4, f5⟩ := hf it (by simp)
    have hl := rv.length
    have p' : s.heap.IsTuple a its.toArray := p
    have nai : a ≠ it := fun z => by
      obtain ⟨o, ho, hc1, _⟩ := hit
      obtain ⟨o2, ho2, hc2, _⟩ := p'
      rw [z, ho] at ho2
      cases ho2
      rw [hc1] at hc2
      exact absurd (Value.type.inj hc2) (by decide)
    have hT : s.TypeIs (.ref e) "enumerate" := ⟨_, he, rfl⟩
    unfold pyNext
    refine wpAny_bind (wpAny_attempt (wpAny_callSpecial?_slot (name := Str.ofString "__next__") hT F.slot_enumerate_next
      (wpAny_call_entry F.slot_enumerate_next hT F.entry_enumerate_next ?_ (F.args_enumerate_next_1 _))))
    show wpAny _ _ (field (.ref e) 2 >>= _) _ _ _
    refine wpAny_bind (wpAny_field he rfl (x := .ref it) rfl (wpAny_bind (wpAny_nextOf_tuple_end (show X.A.in1.handled = none from I.ok.hd hc) hit p' (by simp; omega) fun h' x eb hs => ?_)))
    obtain ⟨o, ho, hc3⟩ := hs
    refine wpAny_bind (wpAny_isInstance (T := "StopIteration") (b := true) ⟨o, ho, hc3⟩ isSubtype_stop (wpAny_pure ?_))
    exact ⟨rfl, I.turned (t' := s.toks) (fun b o hb q => eb b o hb q) f0 f1 f3 f4 f5⟩
  self := fun A i s Q E ⟨⟨_, he⟩, _⟩ h => wpAny_pyIter_enum he h
/-- enumerate of a list or of a tuple, held by the slot j -/
def iEnumS (K : PySem.W.Frag) (j : Nat) : TI := fun σ H R => ∃ a xs, σ[j]? = some (some (.ref a)) ∧ ((SqL K H a xs ∧ R (Ite K a) H) ∨ (SqT K H a xs ∧ R (Itet K a) H))
theorem pi_enumT {X : Cx} {e : Expr} {ta : TA} {p pos tpos : Pos} {elts : List Expr} {kk : Nat} (hg : Gl X "enumerate") (hm : X.mg "enumerate" = none) (ha : PA X [e] ta) (hs : starEach [e] X.env = [(false, eval e X.env)] := by rfl) :
    PI X (.Tuple elts kk tpos) (.Call (.Name "enumerate" p) [e] [] pos) (fun σ H R => ta σ H fun vs H1 => ∃ a xs, vs = [.ref a] ∧ SqT X.K H1 a xs ∧ R (Itet X.K a) H1) := by
  refine ⟨fun pins s σ H R I h => ?_⟩
  refine Call_ (ld_blt I hg hm boot_enumerate (PyProof.Rows.callWith_type1 (thn (ha.run pos pins s σ H _ I h) fun us s1 ⟨vs, H1, I1, r1, q1⟩ => ?_) hs rfl))
  obtain ⟨a, xs, ex, hq, q⟩ := q1
  subst ex
  cases r1 with
  | cons r rr =>
    cases rr
    cases r
    obtain ⟨its, rv, p', hz⟩ := I1.tuple hq
    refine call_enumT (show s1.heap.IsTuple a its.toArray from p') fun h' he hit hsz hk => wpAny_pyIter_enum he ?_
    have I2 : Inv X pins σ H1 { s1 with heap := h' } := I1.kept (t' := s1.toks) hk
    refine ⟨s1.heap.objs.size + 1, [s1.heap.objs.size + 1, s1.heap.objs.size], _, _, H1, rfl, I2, turn_enumT a (s1.heap.objs.size + 1) s1.heap.objs.size, ⟨⟨.none, he⟩, hit, Nat.succ_ne_self _⟩, fun b hb => ?_, q⟩
    have e' : b = s1.heap.objs.size + 1 ∨ b = s1.heap.objs.size := by simpa using hb
    have hle : s1.heap.objs.size ≤ b := by
      rcases e' with z | z
      · exact Nat.le_of_lt (Nat.lt_of_lt_of_eq (Nat.lt_succ_self _) z.symm)
      · exact Nat.le_of_eq z.symm
    exact I1.fpOk hle (I1.hok.fresh hle)
theorem pi_enumS {X : Cx} {j : Nat} {x : Str} {p p2 pos tpos : Pos} {elts : List Expr} {kk : Nat} (hg : Gl X "enumerate") (hm : X.mg "enumerate" = none) (hN : X.N[j]? = some x) (hv : Vis X.env.scope x) (hd : (x == ("__debug__" : Str)) = false := by decide) (hcd : (x == ("__classdict__" : Str)) = false := by decide) :
    PI X (.Tuple elts kk tpos) (.Call (.Name "enumerate" p) [.Name x p2] [] pos) (iEnumS X.K j) := by
  refine ⟨fun pins s σ H R I h => ?_⟩
  obtain ⟨a, xs, hs, h | h⟩ := h
  · exact (pi_enum hg hm (pa_cons (pe_var hN hv hd hcd) pa_nil)).run pins s σ H R I ⟨_, hs, a, xs, rfl, h.1, h.2⟩
  · exact (pi_enumT hg hm (pa_cons (pe_var hN hv hd hcd) pa_nil)).run pins s σ H R I ⟨_, hs, a, xs, rfl, h.1, h.2⟩
theorem walk_enumT {K : PySem.W.Frag} {a : Addr} {xs : List V} : Walk (Itet K a) xs.length (fun H => SqT K H a xs) (YPair (fun i => some (.int (i : Nat))) (fun i => xs[i]?)) :=
  ⟨fun i _ hi q => ⟨xs, xs[i], q, by simp [hi]⟩, fun _ q => ⟨xs, q, Nat.le_refl _⟩, fun i _ _ _ _ q ⟨T, x, e1, e2, e3, f⟩ => ⟨T, .int (i : Nat), x, e1, e2, e3, rfl, f xs q⟩⟩
/-- over a list or a tuple, held by the slot j -/
def iSeqS (K : PySem.W.Frag) (j : Nat) : TI := fun σ H R => ∃ a xs, σ[j]? = some (some (.ref a)) ∧ ((SqL K H a xs ∧ R (Itl K a) H) ∨ (SqT K H a xs ∧ R (Itt K a) H))
theorem pi_seqS {X : Cx} {j : Nat} {x : Str} {p : Pos} {tg : Expr} (hN : X.N[j]? = some x) (hv : Vis X.env.scope x) (hd : (x == ("__debug__" : Str)) = false := by decide) (hcd : (x == ("__classdict__" : Str)) = false := by decide) : PI X tg (.Name x p) (iSeqS X.K j) := by
  refine ⟨fun pins s σ H R I h => ?_⟩
  obtain ⟨a, xs, hs, h | h⟩ := h
  · exact (pi_list (pe_var hN hv hd hcd)).run pins s σ H R I ⟨_, hs, a, rfl, ⟨xs, h.1⟩, h.2⟩
  · exact (pi_tup (pe_var hN hv hd hcd)).run pins s σ H R I ⟨_, hs, a, rfl, ⟨xs, h.1⟩, h.2⟩
end VE
namespace VI
open PySem PySem.Spec PyProof.Rows L2
section
variable {P : Program} {w : World} {A : Around} {E : Value → Shared → Prop} {s : Shared}
end
section
variable {X : Cx}
/-- set(a list of ints) -/
def rSetI (w : World) (K : PySem.W.Frag) : List V → Hp → VK → Prop := fun xs H Q => ∃ (l : Addr) (zs : List Int), xs = [.ref l] ∧ SqL K H l (zs.map V.int) ∧ zs.length + 1 < scanBound ∧
  ∀ (D : Addr) (n : Nat), H D = none → n ≤ zs.length → Q (.ref D) (upd H D (SetO w D (fun j => decide (j ∈ zs)) n))
end
end VI
namespace UL
open PySem PySem.Spec PyProof.Rows L2
section
variable {K : PySem.W.Frag} {T : List NdefX.NTab} {SL S S' S1 : Sl} {m m' m1 m2 m3 s : Bool} {te ta tb : TE} {t u : WE} {C C1 C' : Ct} {σ : L2.St} {H H' H1 : Hp} {ρ : Env} {ts ts1 : TS} {w w' : WS}
/-! ### C(..): a new instance -/
/-- an __init__'s promise, told by data -/
def MkS (K : PySem.W.Frag) (T : List NdefX.NTab) (CC : Addr) (sp : Sp) (dvs : List V) (w : List Dt → (Dt → Prop) → Prop) : Prop :=
  ∀ (vs : List V) (ok : Addr → Prop) (ds : List Dt) (P : Dt → Prop) (H : Hp) (Q : VK) (E : XK) (x dx : Addr), NdefX.TabsN T H → Rs K ok H ds vs → w ds P → H x = none → H dx = none → dx ≠ x →
    (∀ d v H', P d → Ex T H H' → R K (fun a => ok a ∨ Fre H a) H' d v → Q v H') →
    sp (.ref x :: (vs ++ dvs)) (upd (upd H dx (.own x)) x (.ins CC dx [])) (fun v H2 => v = .non ∧ Q (.ref x) H2) E
theorem se_make {CC : Addr} {sp : Sp} {dvs : List V} {E0 : XK} {tr : TA} {u : WA} {w : List Dt → (Dt → Prop) → Prop} (hm : MkS K T CC sp dvs w) (h : SA K T S m tr u) : SE K T S m (tMake CC sp dvs E0 tr) (fun ρ P => u ρ fun ds => w ds P) := fun C ρ P σ H Q hC ht E q => by
  refine h C ρ _ σ H _ hC ht E fun ds vs H1 h1 g1 r1 => ?_
  intro x dx hx hd ne
  have t1 := (E.gr g1).tab
  rw [hC.T] at t1
  exact hm vs C.ok ds P H1 Q E0 x dx t1 r1 h1 hx hd ne fun d v H2 hp k r2 => q d v H2 hp (gr_andE g1 (by rw [hC.T]; exact k)) (r2.okm fun a _ z => z.elim id fun z => (E.gr g1).freshF z)
/-! ### zip of two, of three; enumerate of a tuple -/
def Dt.seq : Dt → Option (List Dt)
  | .lst ds => some ds
  | .tup ds => some ds
  | _ => none
def WK (K : PySem.W.Frag) (k : Bool) (H : Hp) (a : Addr) (us : List V) : Prop := match k with
  | true => SqT K H a us
  | false => H a = some (.lst us)
def asK (k : Bool) (a : Addr) : List Addr := match k with
  | true => []
  | false => [a]
theorem WK.sq {k : Bool} {a : Addr} {us : List V} (h : WK K k H a us) : VZ.SqK K k H a us := by
  cases k
  · exact .of h
  · exact h
theorem WK.mv {ok ok' : Addr → Prop} {k : Bool} {a : Addr} {us : List V} (hk : ∀ b ∈ asK k a, ∀ us, H b = some (.lst us) → H' b = some (.lst us)) (mv : Mv ok H ok' H') (h : WK K k H a us) : WK K k H' a us := by
  cases k
  · exact hk a (List.mem_singleton.mpr rfl) _ h
  · exact sqT_mv mv h
theorem WK.at {k : Bool} {a b : Addr} {us : List V} (h : WK K k H a us) (hb : b ∈ asK k a) : b = a ∧ k = false ∧ H a = some (.lst us) := by
  cases k
  · exact ⟨List.mem_singleton.mp hb, rfl, h⟩
  · cases hb
def kZip2 : List Dt → (List Dt → Prop) → Prop
  | [a, b], P => match a.seq, b.seq with
    | some ds, some es => P (zipD ds es)
    | _, _ => False
  | _, _ => False
def zip3D (ds es fs : List Dt) : List Dt := List.zipWith (fun x p => .tup [x, p.1, p.2]) ds (es.zip fs)
def YTri (xs ys zs : List V) (i : Nat) (H : Hp) (v : V) (H' : Hp) : Prop := ∃ T x y z, v = V.ref T ∧ H T = none ∧ H' = upd H T (.tup [x, y, z]) ∧ xs[i]? = some x ∧ ys[i]? = some y ∧ zs[i]? = some z
def kZip3 : List Dt → (List Dt → Prop) → Prop
  | [a, b, c], P => match a.seq, b.seq, c.seq with
    | some ds, some es, some fs => P (zip3D ds es fs)
    | _, _, _ => False
  | _, _ => False
theorem kZip2_of {a b : Dt} {ds es : List Dt} {P : List Dt → Prop} (h1 : a.seq = some ds) (h2 : b.seq = some es) (h : P (zipD ds es)) : kZip2 [a, b] P := by
  unfold kZip2
  simp only [h1, h2]
  exact h
theorem kZip3_of {a b c : Dt} {ds es fs : List Dt} {P : List Dt → Prop} (h1 : a.seq = some ds) (h2 : b.seq = some es) (h3 : c.seq = some fs) (h : P (zip3D ds es fs)) : kZip3 [a, b, c] P := by
  unfold kZip3
  simp only [h1, h2, h3]
  exact h
/-- enumerate(a tuple) -/
abbrev iEnumT (K : PySem.W.Frag) (ta : TA) : TI := fun σ H R => ta σ H fun vs H1 => ∃ a xs, vs = [.ref a] ∧ SqT K H1 a xs ∧ R (VE.Itet K a) H1
def kEnumT : List Dt → (List Dt → Prop) → Prop
  | [.tup ds], P => P (enumD ds)
  | _, _ => False
/-! ### xs[a:b] -/
abbrev WO := Env → (Option Int → Prop) → Prop
def SO (K : PySem.W.Frag) (T : List NdefX.NTab) (S : Sl) (m : Bool) (to : TO) (t : WO) : Prop := ∀ (C : Ct) (ρ : Env) (P : Option Int → Prop) (σ : L2.St) (H : Hp) (Q : Option Int → Hp → Prop), C.In T S → t ρ P → EnvR K C σ H ρ →
  (∀ o H', P o → Gr m C H H' → Q o H') → to σ H Q
def wNoPart : WO := fun _ P => P none
def wPart (t : WE) : WO := fun ρ P => t ρ fun d => match d with
  | .int i => P (some i)
  | _ => False
theorem so_none : SO K T S true tNoPart wNoPart := fun C ρ P σ H Q hC ht E q => q none H ht .refl
theorem so_some (h : SE K T S m te t) : SO K T S m (tPart te) (wPart t) := fun C ρ P σ H Q hC ht E q => by
  refine h C ρ _ σ H _ hC ht E fun d v H1 h1 g1 r1 => ?_
  cases d <;> first | exact h1.elim | skip
  exact ⟨_, R.intE r1, q _ H1 h1 g1⟩
def cutD (ds : List Dt) (lo hi : Option Int) : List Dt := (ds.drop (HT.sIx ds.length 0 lo)).take (HT.sIx ds.length ds.length hi - HT.sIx ds.length 0 lo)
theorem Rs.drop {ok : Addr → Prop} : ∀ {ds : List Dt} {vs : List V} (n : Nat), Rs K ok H ds vs → Rs K ok H (ds.drop n) (vs.drop n)
  | _, _, 0, h => h
  | _, _, _ + 1, .nil => .nil
  | _, _, n + 1, .cons _ t => Rs.drop n t
theorem Rs.take {ok : Addr → Prop} : ∀ {ds : List Dt} {vs : List V} (n : Nat), Rs K ok H ds vs → Rs K ok H (ds.take n) (vs.take n)
  | _, _, 0, _ => by rw [List.take_zero, List.take_zero]; exact .nil
  | _, _, _ + 1, .nil => .nil
  | _, _, n + 1, .cons h t => .cons h (Rs.take n t)
theorem Rs.cut {ok : Addr → Prop} {ds : List Dt} {vs : List V} {lo hi : Option Int} (h : Rs K ok H ds vs) : Rs K ok H (cutD ds lo hi) (cutV vs lo hi) := by
  unfold cutD cutV
  rw [h.len]
  exact (h.drop _).take _
variable {tl th : TO} {wl wh : WO}
theorem sf_slice (ha : SB K T S m1 ta t) (hl : SO K T S m2 tl wl) (hh : SO K T S m3 th wh) : SF K T S (m1 && (m2 && m3)) (tSl (rSlL K) ta tl th) (fun ρ P => t ρ fun a => match a with
    | .lst ds => wl ρ fun lo => wh ρ fun hi => P (cutD ds lo hi)
    | _ => False) := fun C ρ P σ H Q hC ht E q => by
  refine ha C ρ _ σ H _ hC ht E fun a x H1 h1 g1 r1 => ?_
  cases a <;> first | exact h1.elim | skip
  rename_i ds
  have E1 := E.gr g1
  refine hl C ρ _ σ H1 _ hC h1 E1 fun lo H2 h2 g2 => ?_
  have E2 := E1.gr g2
  refine hh C ρ _ σ H2 _ hC h2 E2 fun hi H3 h3 g3 => ?_
  obtain ⟨a, us, rfl, e, n, t3⟩ := (r1.gr E1 g2).gr E2 g3
  refine ⟨a, us, rfl, .of e, fun p hp => ?_⟩
  have gg := g1.trans (g2.trans g3)
  exact q _ p _ _ h3 (gr_and gg (same_up hp)) (gg.dom p (.of hp)) upd_same ((ok_ne hp t3.cut).same (same_up hp))
theorem wNoPart_of {P : Option Int → Prop} (h : P none) : wNoPart ρ P := h
theorem wPart_of {P : Option Int → Prop} (h : t ρ fun d => match d with | .int i => P (some i) | _ => False) : wPart t ρ P := h
/-! ### sorted(set(ints)) -/
def kSortSetI : Dt → (List Dt → Prop) → Prop
  | .lst ds, P => ∃ zs, Dt.ints ds = some zs ∧ zs.length < 64 ∧ ∀ ys : List Int, ys.Pairwise (· < ·) → (∀ z, z ∈ ys ↔ z ∈ zs) → P (ys.map Dt.int)
  | _, _ => False
/-- a new instance's call, step by step -/
theorem kEnumT_of {ds : List Dt} {P : List Dt → Prop} (h : P (enumD ds)) : kEnumT [.tup ds] P := h
theorem kNeI_of {i j : Int} {P : Dt → Prop} (h : P (.bl (!decide (i = j)))) : kEq true (.int i) (.int j) P := h
theorem kEqI_of {i j : Int} {P : Dt → Prop} (h : P (.bl (decide (i = j)))) : kEq false (.int i) (.int j) P := h
theorem kNeS_of {i j : Str} {P : Dt → Prop} (h : P (.bl (!decide (i = j)))) : kEq true (.str i) (.str j) P := h
theorem kEqS_of {i j : Str} {P : Dt → Prop} (h : P (.bl (decide (i = j)))) : kEq false (.str i) (.str j) P := h
end
end UL
/-! VX: calls whose exceptions are wished for at the caller's slots: o.m(..), C(..) -/
namespace VX
open PySem PySem.Spec PyProof.Rows L2
section
variable {X : Cx} {CX : CXT} {k : Nat} {f C : Addr} {fd : FuncData} {ps : List Str} {sp : Sp} {dvs : List V} {ds : List Value} {E : L2.St → XK} {x m : Str} {p pos apos : Pos} {e o : Expr} {es : List Expr} {ta : TE} {t : TA}
def tMethSD (C : Addr) (m : Str) (sp : Sp) (dvs : List V) (E : L2.St → XK) (ta : TE) (t : TA) : TE := fun σ H Q => ta σ H fun x H1 => ∃ a dx fs, x = .ref a ∧ H1 a = some (.ins C dx fs) ∧ fs.lookup m = none ∧
  t σ H1 fun vs H2 => sp (x :: (vs ++ dvs)) H2 Q (E σ)
def tMakeSD (C : Addr) (sp : Sp) (dvs : List V) (E : L2.St → XK) (t : TA) : TE := fun σ H Q => t σ H fun vs H1 => ∀ x dx, H1 x = none → H1 dx = none → dx ≠ x →
  sp (.ref x :: (vs ++ dvs)) (upd (upd H1 dx (.own x)) x (.ins C dx [])) (fun v H2 => v = .non ∧ Q (.ref x) H2) (E σ)
theorem run_makeSD {pins : List (Addr × Obj)} {σ : L2.St} {H : Hp} {s : Shared} {Q : VK} {us : List Value} {vs : List V} (M : Mk X.K C f) (F : FnOk X.prog X.w X.K X.mg X.base CX k f fd ps sp) (hr : Room (k + 1) X.A) (hb : Binds X.K fd ps ds) (hd : Vals dvs ds)
    (hx : PassesAt CX X σ (E σ)) (I : Inv X pins σ H s) (r : Vals vs us)
    (h : ∀ x dx, H x = none → H dx = none → dx ≠ x → sp (.ref x :: (vs ++ dvs)) (upd (upd H dx (.own x)) x (.ins C dx [])) (fun v H2 => v = .non ∧ Q (.ref x) H2) (E σ)) :
    wpAny (model X.prog X.w) X.A (call (.ref C) us) (EP X pins σ Q) X.xe s := by
  have hq := h (s.heap.objs.size + 1) s.heap.objs.size (I.hok.fresh (Nat.le_succ _)) (I.hok.fresh (Nat.le_refl _)) (Nat.ne_of_lt (Nat.lt_succ_self _))
  have I2 := Inv.made (C := C) I
  have r2 : Vals (V.ref (s.heap.objs.size + 1) :: (vs ++ dvs)) (Value.ref (s.heap.objs.size + 1) :: (us ++ ds)) := .cons rfl (r.append hd)
  have hl : (Value.ref (s.heap.objs.size + 1) :: us ++ ds).length = ps.length := by
    have e := r2.length
    rw [F.len _ _ _ _ hq] at e
    exact e.symm
  refine wpAny_call (make_map (f := f) I.kIn M.makes M.init (beq_iff_eq.mp M.fn) (codeAny_mono (F.run _ X.stack _ _ ⟨Value.ref (s.heap.objs.size + 1) :: us, []⟩ (Value.ref (s.heap.objs.size + 1) :: (us ++ ds)) _ _ (E σ) (hr.make C us [])
    (I2.env0.make C us []) (hb _ (Value.ref (s.heap.objs.size + 1) :: us) I2.kIn hl) r2 hq) fun r s' hq' => ?_))
  cases r with
  | error e => exact hx pins _ _ e s' I2 hq'
  | ok fl =>
    cases fl with
    | ret u =>
      obtain ⟨v, H', I3, rv, ev, q3⟩ := I2.after hq'
      subst ev
      exact ⟨rv, ⟨V.ref (s.heap.objs.size + 1), H', I3, rfl, q3⟩⟩
    | next => exact False.elim hq'
    | brk => exact False.elim hq'
    | cont => exact False.elim hq'
theorem pe_makeSD (M : Mk X.K C f) (F : FnOk X.prog X.w X.K X.mg X.base CX k f fd ps sp) (hr : Room (k + 1) X.A) (hg : Gl X x) (hm : X.mg x = some (.ref C)) (hb : Binds X.K fd ps ds) (hd : Vals dvs ds) (hx : ∀ σ, PassesAt CX X σ (E σ))
    (ha : PA X (e :: es) t) (hdb : (x == ("__debug__" : Str)) = false := by decide) (he : starEach (e :: es) X.env = (false, eval e X.env) :: starEach es X.env := by rfl) (hpl : (backTo pos (starEach es X.env)).any (·.1) = false := by rfl) :
    PE X (.Call (.Name x p) (e :: es) [] pos) (tMakeSD C sp dvs E t) := by
  refine ⟨fun pins s σ H Q I h => ?_⟩
  refine wpAny_Call_Name_kw (ld_glob I hg hm ?_ hdb)
  refine PySem.W.callWith_K (h₀ := X.base) I.ok.mod.kin M.kp (thn (ha.run pos pins s σ H _ I h) fun us s1 ⟨vs, H1, I1, r, q⟩ => ⟨I1.kIn, ?_⟩) he hpl
  exact run_makeSD M F hr hb hd (hx σ) I1 r q
end
end VX
/-! UL: exceptions, told by data -/
namespace UL
open PySem PySem.Spec PyProof.Rows L2
abbrev WEX := Env → (Dt → Prop) → (Xn → Prop) → Prop
/-- an expression that may raise -/
def SEX (K : PySem.W.Frag) (T : List NdefX.NTab) (W : WX) (S : Sl) (m : Bool) (te : TE) (t : WEX) : Prop := ∀ (C : Ct) (ρ : Env) (P : Dt → Prop) (PX : Xn → Prop) (σ : L2.St) (H : Hp) (Q : VK), C.In T S → t ρ P PX → EnvR K C σ H ρ →
  (∀ d v H', P d → Gr m C H H' → R K C.ok H' d v → Q v H') → (∀ x cls dd H', PX x → Gr m C H H' → XR K C.ok H' x cls dd → W cls dd σ H') → te σ H Q
/-- the promise of a def that may raise -/
def spX (K : PySem.W.Frag) (T : List NdefX.NTab) (w : List Dt → (Dt → Prop) → (Xn → Prop) → Prop) : Sp := fun vs H Q E => ∃ (ok : Addr → Prop) (ds : List Dt) (P : Dt → Prop) (PX : Xn → Prop), NdefX.TabsN T H ∧ Rs K ok H ds vs ∧ w ds P PX ∧
  (∀ d v H', P d → Ex T H H' → R K (fun a => ok a ∨ Fre H a) H' d v → Q v H') ∧ ∀ x cls dd H', PX x → Ex T H H' → XR K (fun a => ok a ∨ Fre H a) H' x cls dd → E cls dd H'
section
variable {K : PySem.W.Frag} {T : List NdefX.NTab} {W : WX} {SL S S' S1 : Sl} {m m' m1 m2 s : Bool} {te ta tb : TE} {t u : WE} {tx : WEX} {C C1 C' : Ct} {σ : L2.St} {H H' H1 : Hp} {ρ : Env} {ts ts1 : TS} {w w' : WS} {XO : XOut}
theorem XR.mv {ok ok' : Addr → Prop} {x : Xn} {cls : Value} {dd : Option Addr} (mv : Mv ok H ok' H') (h : XR K ok H x cls dd) : XR K ok' H' x cls dd := by
  obtain ⟨e, a, v, e1, e2, r⟩ := h
  exact ⟨e, a, v, e1, mv.kp.keep _ _ (fun _ z => nomatch z) e2 (.inr nl_xd), r.mv mv⟩
theorem XR.okm {ok ok' : Addr → Prop} {x : Xn} {cls : Value} {dd : Option Addr} (k : ∀ a, ¬ Fre H a → ok a → ok' a) (h : XR K ok H x cls dd) : XR K ok' H x cls dd := h.mv ⟨.refl, k⟩
theorem sex_call {tr : TA} {ua : WA} {wd : List Dt → (Dt → Prop) → (Xn → Prop) → Prop} (h : SA K T S m tr ua) : SEX K T W S m (tCallSD (spX K T wd) [] (L2.WE W) tr) (fun ρ P PX => ua ρ fun ds => wd ds P PX) := fun C ρ P PX σ H Q hC ht E q qx => by
  refine h C ρ _ σ H _ hC ht E fun ds vs H1 h1 g1 r1 => ?_
  rw [List.append_nil]
  have t1 := (E.gr g1).tab
  rw [hC.T] at t1
  refine ⟨C.ok, ds, P, PX, t1, r1, h1, fun d v H2 hp k r2 => q d v H2 hp (gr_andE g1 (by rw [hC.T]; exact k)) (r2.okm fun a _ z => z.elim id fun z => (E.gr g1).freshF z),
    fun x cls dd H2 hp k r2 => qx x cls dd H2 hp (gr_andE g1 (by rw [hC.T]; exact k)) (r2.okm fun a _ z => z.elim id fun z => (E.gr g1).freshF z)⟩
/-! ### statements -/
abbrev XO.at (XO : XOut) (S : Sl) : Prop := ∀ S0, XO.SX = some S0 → S0 = S
def wDropX (t : WEX) : WS := fun ρ P => t ρ (fun _ => P (.nx ρ)) fun x => P (.xc x ρ)
theorem xpost {SL S S' : Sl} {D : Ends} {x : Xn} {cls : Value} {dd : Option Addr} (hS : ∀ S0, XO.SX = some S0 → S0 = S) (hC : C.In T S) (E : EnvR K C σ H ρ) (own : C.Own) (g : Gr m C H H') (r : XR K C.ok H' x cls dd) (q : Post K T XO SL S' C H D (.xc x ρ)) : XO.W cls dd σ H' :=
  q C σ H' cls dd (fun S0 e => by rw [hS S0 e]; exact hC) .refl (E.gr g) own (g.mv E) r
theorem ss_exprX (h : SEX K T XO.W S m te tx) (hS : ∀ S0, XO.SX = some S0 → S0 = S) : SS K T XO SL S S (tDrop te) (wDropX tx) := fun C ρ P σ H D hC ht E own q =>
  h C ρ _ _ σ H _ hC ht E (fun d v H1 h1 g1 r1 => q _ h1 C σ H1 hC .refl (E.gr g1) own (g1.mv E)) fun x cls dd H1 h1 g1 r1 => xpost hS hC E own g1 r1 (q _ h1)
def wSetX (i : Nat) (t : WEX) : WS := fun ρ P => t ρ (fun d => P (.nx (ρ.set i (some d)))) fun x => P (.xc x ρ)
def wRetX (t : WEX) : WS := fun ρ P => t ρ (fun d => P (.rt d)) fun x => P (.xc x ρ)
/-! ### raise -/
/-- the promise of an exception's __init__ that keeps its only argument as f -/
def spI (C : Addr) (f : Str) : Sp := fun vs H Q _ => ∃ (a : Addr) (y : V), vs = [.ref a, y] ∧ H a = some (exo a C none) ∧ ∀ dx, H dx = none → dx ≠ a → Q .non (upd (upd H dx (exd dx [(f, y)])) a (exo a C (some dx)))
def wRaise (C : Addr) (f : Str) (t : WE) : WS := fun ρ P => t ρ fun d => P (.xc ⟨C, f, d⟩ ρ)
def tRaise (W : WX) (CC : Addr) (f : Str) (te : TE) : TS := fun _ σ H => tMkO CC (spI CC f) [] (tCons te tNil) σ H fun cls d H' => W cls d σ H'
theorem heap_mk {H : Hp} {a d : Addr} {o1 o2 o3 o4 : HO} (ha : H a = none) (hd : H d = none) (ne : d ≠ a) : upd (del (upd (upd (upd H a o1) d o2) a o3) a) d o4 = upd H d o4 := by
  funext b
  by_cases h1 : b = d
  · rw [h1, upd_same, upd_same]
  · rw [upd_ne h1, upd_ne h1]
    by_cases h2 : b = a
    · rw [h2, del_same, ha]
    · rw [del_ne h2, upd_ne h2, upd_ne h1, upd_ne h2]
theorem ss_raise {CC : Addr} {f : Str} (h : SE K T S m te t) (hS : ∀ S0, XO.SX = some S0 → S0 = S) : SS K T XO SL S S' (tRaise XO.W CC f te) (wRaise CC f t) := fun C ρ P σ H D hC ht E own q => by
  refine h C ρ _ σ H _ hC ht E fun d v H1 h1 g1 r1 => ?_
  refine ⟨by show 1 ≤ 1000; decide, fun a ha => ⟨a, v, rfl, upd_same, fun dx hdx ne => ?_⟩⟩
  have hd : H1 dx = none := by rw [upd_ne ne] at hdx; exact hdx
  refine ⟨rfl, dx, [(f, v)], upd_same, by rw [upd_ne ne]; exact upd_same, hd, ?_⟩
  rw [heap_mk ha hd ne]
  refine xpost hS hC E own (gr_and g1 (same_up hd)) ⟨rfl, dx, v, rfl, upd_same, r1.same (same_up hd)⟩ (q _ h1)
/-! ### try -/
/-- a clause, told: what it does of an exception -/
abbrev WH := Xn → Env → (Out → Prop) → Prop
/-- the ends of a clause whose name goes -/
def endI (D : Ends) (i : Nat) : Ends := { nx := fun σ' H' => D.nx (σ'.set i none) H', rt := D.rt, bk := fun σ' H' => D.bk (σ'.set i none) H', ct := fun σ' H' => D.ct (σ'.set i none) H' }
def SH (K : PySem.W.Frag) (T : List NdefX.NTab) (XO : XOut) (SL S S' : Sl) (i : Nat) (tf : Addr → Value → Option Addr → TS) (wh : WH) : Prop := ∀ (C : Ct) (ρ : Env) (P : Out → Prop) (σ : L2.St) (H : Hp) (D : Ends) (a : Addr) (cls : Value) (dd : Option Addr) (x : Xn), C.In T S → wh x ρ P → EnvR K C σ H ρ → C.Own → XR K C.ok H x cls dd → H a = none →
  (∀ o, P o → Post K T XO SL S' C H D o) → tf a cls dd (endI D i) (σ.set i (some (.ref a))) H
/-- told = ('tag', e.f) -/
def wTag (CC : Addr) (f tag : Str) (i j : Nat) : WH := fun x ρ P => x.cls = CC ∧ x.f = f ∧ i < ρ.length ∧ P (.nx (wipeE (ρ.set j (some (.tup [.str tag, x.d]))) [i]))
def tTag (CC : Addr) (f tag : Str) (i j : Nat) : Addr → Value → Option Addr → TS := fun a cls d => tAsg (tTup (tCons (tC (.str tag)) (tCons (tXf a cls d CC f (tVar i)) tNil))) (gName j)
theorem sh_tag {CC : Addr} {f tag : Str} {i j : Nat} (hj : (j ∉ S.1 ∧ j ∉ S.2) ∧ (i ∉ S.1 ∧ i ∉ S.2) ∧ i ≠ j := by decide) : SH K T XO SL S S i (tTag CC f tag i j) (wTag CC f tag i j) := fun C ρ P σ H D a cls dd x hC ht E own r na q => by
  obtain ⟨e1, e2, li, ht⟩ := ht
  obtain ⟨ec, da, v, ed, eH, rv⟩ := r
  obtain ⟨⟨hj1, hj2⟩, ⟨hi1, hi2⟩, ne⟩ := hj
  subst ed ec e1 e2
  have li' : i < σ.length := by rw [E.len]; exact li
  refine ⟨.ref a, List.getElem?_set_self li', rfl, rfl, da, _, v, rfl, eH, ?_, ?_⟩
  · simp [List.lookup]
  · refine ⟨by show 2 ≤ sizeLine; rw [sizeLine_eq]; decide, fun p hp => ?_⟩
    have E1 := E.same (same_up (o := .tup [.str tag, v]) hp)
    have r1 : R K C.ok (upd H p (.tup [.str tag, v])) (.tup [.str tag, x.d]) (.ref p) := R.newT hp (.cons (.str _) (.cons rv .nil))
    have E2 := (E1.setN (by rw [hC.1]; exact hj1) (by rw [hC.2]; exact hj2) r1).wipe (vs := [i]) (by
      intro k hk
      rw [List.mem_singleton] at hk
      subst hk
      exact ⟨by rw [hC.1]; exact hi1, by rw [hC.2]; exact hi2⟩)
    have e : L2.wipe (σ.set j (some (.ref p))) [i] = ((σ.set i (some (.ref a))).set j (some (.ref p))).set i none := by
      show (σ.set j (some (.ref p))).set i none = _
      rw [List.set_comm _ _ ne, List.set_set]
    rw [e] at E2
    exact q _ ht C _ _ hC .refl E2 own (.same (same_up hp))
/-- which clause takes an exception -/
def wHds (K : PySem.W.Frag) : List (Addr × WH) → WH
  | [], _, _, _ => False
  | (c, wh) :: r, x, ρ, P => ∃ b, PySem.W.exmOne K (.ref x.cls) (.ref c) = some b ∧ if b = true then wh x ρ P else wHds K r x ρ P
inductive HdsS (K : PySem.W.Frag) (T : List NdefX.NTab) (XO : XOut) (SL S S' : Sl) : List VY.Cl → List (Addr × WH) → Prop
  | nil : HdsS K T XO SL S S' [] []
  | as {c : Addr} {i : Nat} {tf : Addr → Value → Option Addr → TS} {wh : WH} {l : List VY.Cl} {hs : List (Addr × WH)} (h : SH K T XO SL S S' i tf wh) (r : HdsS K T XO SL S S' l hs) : HdsS K T XO SL S S' ((.ref c, some i, tf) :: l) ((c, wh) :: hs)
theorem hds_run {Wout : WX} {D : Ends} {dd : Option Addr} {x : Xn} {P : Out → Prop} (hC : C.In T S) (E : EnvR K C σ H ρ) (own : C.Own) (r : XR K C.ok H x (.ref x.cls) dd) (q : ∀ o, P o → Post K T XO SL S' C H D o) :
    ∀ {l : List VY.Cl} {hs : List (Addr × WH)}, HdsS K T XO SL S S' l hs → wHds K hs x ρ P → VY.wMA K Wout D l (.ref x.cls) dd σ H
  | _, _, .nil, h => h.elim
  | _, _, .as h1 hr, h => by
    obtain ⟨b, e, h⟩ := h
    refine ⟨b, e, fun hb a na => ?_, fun hb => ?_⟩
    · rw [if_pos hb] at h
      exact h1 C ρ P σ H D a _ dd x hC h E own r na q
    · rw [if_neg (by rw [hb]; decide)] at h
      exact hds_run hC E own r q hr h
def wTry (K : PySem.W.Frag) (w : WS) (hs : List (Addr × WH)) : WS := fun ρ P => w ρ fun o => match o with
  | .xc x ρ1 => wHds K hs x ρ1 P
  | o => P o
theorem ss_try {Wout : WX} {tb : WX → TS} {l : List VY.Cl} {hs : List (Addr × WH)} (hb : ∀ W, SS K T ⟨W, some S⟩ SL S S' (tb W) w) (hh : HdsS K T XO SL S S' l hs) : SS K T XO SL S S' (fun D σ H => tb (VY.wMA K Wout D l) D σ H) (wTry K w hs) := fun C ρ P σ H D hC ht E own q => by
  refine hb _ C ρ _ σ H D hC ht E own fun o ho => ?_
  cases o with
  | xc x ρ1 =>
    intro C1 σ1 H1 cls dd hC1 c1 E1 own1 k1 r1
    obtain ⟨ec, _⟩ := id r1
    subst ec
    exact hds_run (hC1 S rfl) E1 own1 r1 (fun o ho => (q o ho).from c1 k1) hh ho
  | nx ρ1 => exact q _ ho
  | rt d => exact q _ ho
  | rf d => exact q _ ho
  | bk ρ1 => exact q _ ho
  | ct ρ1 => exact q _ ho
/-! ### a def that may raise -/
variable {P : Program} {w0 : World} {mg : Str → Option Value} {base : Heap}
theorem fn_x {x qual : Str} {st : Stmt} {f : Addr} {fd : FuncData} {N ps : List Str} {k : Nat} {sp : List Dt → (Dt → Prop) → (Xn → Prop) → Prop} (F : Fun K x qual st f fd) (S : FnScope N ps (defScope st)) (hn : ps.length ≤ N.length) (len : ∀ ds P PX, sp ds P PX → ds.length = ps.length)
    (hb : ∀ (cdv : Value) (A : Around) (outer : List PySem.Env) (s : Shared) (H : Hp) (E : XK), Room k (A.deeper (envOfC qual (defScope st) s.heap.objs.size f cdv)) →
      Takes (cxOf (L2.CX P w0) P w0 K mg base N qual (defScope st) f cdv A outer s H E) (fun cls d _ H' => E cls d H') →
      PassesOwn (model P w0) (A.deeper (envOfC qual (defScope st) s.heap.objs.size f cdv)) (envOfC qual (defScope st) s.heap.objs.size f cdv) (cxOf (L2.CX P w0) P w0 K mg base N qual (defScope st) f cdv A outer s H E).xe →
      ∃ (ts : TS) (wb : WS) (SL S' : Sl), PSs (cxOf (L2.CX P w0) P w0 K mg base N qual (defScope st) f cdv A outer s H E) (defBody st) ts ∧ SS K T ⟨fun cls d _ H' => E cls d H', none⟩ SL ([], []) S' ts wb ∧
        ∀ ds P PX, sp ds P PX → wb (env0 N ds) fun o => match o with
          | .rt d => P d
          | .rf d => P (.lst d)
          | .nx _ => P .non
          | .xc x _ => PX x
          | _ => False) : FnOk P w0 K mg base (L2.CX P w0) (k + 1) f fd ps (spX K T sp) := by
  refine F.okX S (fun vs H Q E ⟨ok, ds, P, PX, _, r, h, _⟩ => by rw [r.len]; exact len _ _ _ h) (fun cdv A outer s H vs Q E hr h => ?_)
  obtain ⟨ok, ds, P, PX, ht, r, h, q, qx⟩ := h
  obtain ⟨ts, wb, SL, S', h1, h2, h3⟩ := hb cdv A outer s H E hr (takes_of rfl rfl rfl rfl) (passes_of rfl)
  have hl : ds.length ≤ N.length := by rw [len _ _ _ h]; exact hn
  refine ⟨ts, h1, ?_⟩
  have bs : ∀ a, (ct0 T H ok).base a → ok a ∨ Fre H a := fun a z => z.imp And.left id
  refine h2 (ct0 T H ok) (env0 N ds) _ (L2.start N vs) H _ ⟨rfl, rfl, rfl⟩ (h3 ds P PX h) (envR0 r hl ht) (fun i hi => nomatch hi) fun o ho => ?_
  have ex : ∀ {H'}, Fin (ct0 T H ok) H' → Ex T H H' := fun f => ⟨fun a o nt e => f.keep a o nt e fun z => z, fun _ => f.tab⟩
  cases o with
  | rt d => exact fun v H' f r => q d v H' ho (ex f) (r.okm fun a _ z => bs a z)
  | rf d => exact fun p us H' f hp e r => q _ _ H' ho (ex f) (.lst e (.inr hp) (r.okm fun a _ z => bs a z.1))
  | nx ρ => exact fun C' σ' H' _ c E _ _ => q _ _ H' ho (ex (c.fin E.fin)) .non
  | bk ρ => exact ho.elim
  | ct ρ => exact ho.elim
  | xc x ρ => exact fun C' σ' H' cls dd _ c E _ _ r => qx x cls dd H' ho (ex (c.fin E.fin)) (r.okm fun a _ z => bs a ((c.base a).mp z.1))
/-- self.f = value -/
theorem fn_xinit {CC : Addr} {qual f : Str} {st : Stmt} {fa : Addr} {fd : FuncData} {ps : List Str} (F : Fun K "__init__" qual st fa fd) (S : FnScope ps ps (defScope st)) (hl : ps.length = 2)
    (T1 : OexC K CC) (hno : PySem.W.findIn K (.ref CC) f = some none)
    (hb : ∀ (cdv : Value) (A : Around) (outer : List PySem.Env) (s : Shared) (H : Hp) (E : XK), Room 0 (A.deeper (envOfC qual (defScope st) s.heap.objs.size fa cdv)) →
      PSs (cxOf CX0 P w0 K mg base ps qual (defScope st) fa cdv A outer s H E).nox (defBody st) (tOst K f (tVar 0) (tVar 1))) : FnOk P w0 K mg base CX0 1 fa fd ps (spI CC f) := by
  refine F.ok S (fun vs H Q E ⟨a, y, e, _⟩ => by rw [e, hl]; rfl) fun cdv A outer s H vs Q E hr h => ⟨_, hb cdv A outer s H E hr, ?_⟩
  obtain ⟨a, y, rfl, e, q⟩ := h
  have g1 : (L2.start ps [.ref a, y])[1]? = some (some y) := rfl
  have g0 : (L2.start ps [.ref a, y])[0]? = some (some (.ref a)) := rfl
  exact ⟨y, g1, .ref a, g0, a, CC, rfl, T1, hno, .inl ⟨e, fun dx n ne => q dx n ne⟩⟩
end
end UL
/-! UL: empty dicts, isinstance by a tuple of classes, items of a list or a tuple -/
namespace UL
open PySem PySem.Spec PyProof.Rows L2
def rEqE : R2 := fun x y H Q => ∃ a b : Addr, x = .ref a ∧ y = .ref b ∧ H a = some (.dT []) ∧ H b = some (.dT []) ∧ Q (.bl true) H
section
variable {X : Cx}
theorem dict0 {P : Program} {w : World} {H : Hp} {h : Heap} {a : Addr} (ok : HOk P w H h) (e : H a = some (.dT [])) : (a == sysModules) = false ∧ h.DictOf (mixKind P w) a [] := by
  obtain ⟨_, y, xs, r, o, es, ep, h1, h2, h3, h4, h5, h6⟩ := dt_of ok e
  have : xs = [] := by cases r; rfl
  subst this
  have e0 : es = #[] := by
    apply Array.toList_inj.mp
    rw [h4]
    rfl
  subst e0
  exact ⟨y, o, _, ep, h1, h2, h3, fun e he => (nomatch he), .nil, List.nodup_nil⟩
theorem op_eqE (hu : X.A.units < cLine) : OpR X (compareOp .Eq) rEqE := by
  intro pins s σ H x y v u Q I rx ry h
  obtain ⟨a, b, rfl, rfl, ea, eb, q⟩ := h
  obtain rfl : v = Value.ref a := rx
  obtain rfl : u = Value.ref b := ry
  obtain ⟨ya, da⟩ := dict0 I.hok ea
  obtain ⟨yb, db⟩ := dict0 I.hok eb
  exact PySem.W.keq_eq (knd := mixKind X.prog X.w) (r := true) ya yb da db hu (fun _ => .nil) (fin_bl I q rfl)
end
section
variable {K : PySem.W.Frag} {T : List NdefX.NTab} {S : Sl} {m m' m1 m2 m3 s : Bool} {te ta tb : TE} {t u : WE} {C C1 C' : Ct} {σ : L2.St} {H H' H1 : Hp} {ρ : Env}
theorem wDropX_of {t : WEX} {P : Out → Prop} (h : t ρ (fun _ => P (.nx ρ)) fun x => P (.xc x ρ)) : wDropX t ρ P := h
theorem wSetX_of {i : Nat} {t : WEX} {P : Out → Prop} (h : t ρ (fun d => P (.nx (ρ.set i (some d)))) fun x => P (.xc x ρ)) : wSetX i t ρ P := h
theorem wRetX_of {t : WEX} {P : Out → Prop} (h : t ρ (fun d => P (.rt d)) fun x => P (.xc x ρ)) : wRetX t ρ P := h
theorem wRaise_of {CC : Addr} {f : Str} {P : Out → Prop} (h : t ρ fun d => P (.xc ⟨CC, f, d⟩ ρ)) : wRaise CC f t ρ P := h
theorem wTry_of {w : WS} {hs : List (Addr × WH)} {P : Out → Prop} (h : w ρ fun o => match o with | .xc x ρ1 => wHds K hs x ρ1 P | o => P o) : wTry K w hs ρ P := h
theorem se_dnew : SE K T S true tDNewT (fun ρ P => P (.dct [] [])) := fun C ρ P σ H Q hC ht E q => fun p hp => q _ _ _ ht (.of (same_up hp)) (R.dct (kvs := []) upd_same .nil)
def kEqE : Dt → Dt → (Dt → Prop) → Prop
  | .dct [] [], .dct [] [], P => P (.bl true)
  | _, _, _ => False
theorem R.edct {ok : Addr → Prop} {v : V} (h : R K ok H (.dct [] []) v) : ∃ a, v = .ref a ∧ H a = some (.dT []) := by
  generalize e1 : ([] : List (List Key)) = ks at h
  cases h with
  | dct e t =>
    rename_i a kvs
    cases kvs with
    | nil => exact ⟨_, rfl, e⟩
    | cons p l => cases e1
theorem oS_eqE : OpS K rEqE kEqE := fun C a b P x y H Q h ra rb hf q => by
  unfold kEqE at h
  split at h
  · obtain ⟨a, rfl, e1⟩ := R.edct ra
    obtain ⟨b, rfl, e2⟩ := R.edct rb
    exact ⟨a, b, rfl, rfl, e1, e2, q _ _ H h (Same.refl H) (.bl _)⟩
  · exact h.elim
/-- ==: flat values, or two empty dicts -/
def kIx : Dt → Dt → (Dt → Prop) → Prop
  | .tup ds, b, P => kIxT (.tup ds) b P
  | a, b, P => kIxL a b P
theorem oS_ix : OpS K (rIx K) kIx := fun C a b P x y H Q h ra rb hf q => by
  cases a with
  | tup ds => exact .inr (.inl (oS_ixT C _ b P x y H Q h ra rb hf q))
  | lst ds => exact .inl (oS_ixL C _ b P x y H Q h ra rb hf q)
  | _ => cases b <;> exact h.elim
/-- isinstance(x, (T1, T2, ..)) -/
def kAnyB (n : String) : List String → Option Bool
  | [] => some false
  | T :: r => match kitB n T with
    | some true => some true
    | some false => kAnyB n r
    | none => none
def kIsiT (Ts : List String) : Dt → (Dt → Prop) → Prop := fun d P => match d.tyN with
  | some n => match kAnyB n Ts with
    | some b => P (.bl b)
    | none => False
  | none => False
theorem kAny_ty {n : String} : ∀ {Ts : List String} {b : Bool}, kAnyB n Ts = some b → PySem.W.kitAny K (.type n) (Ts.map Value.type) = some b
  | [], b, e => e
  | T :: r, b, e => by
    unfold kAnyB at e
    show (match PySem.W.kitOne K (.type n) (.type T) with
      | some true => some true
      | some false => PySem.W.kitAny K (.type n) (r.map Value.type)
      | none => none) = _
    split at e
    · rename_i eb
      rw [kit_ty eb]
      exact e
    · rename_i eb
      rw [kit_ty eb]
      exact kAny_ty e
    · cases e
def tTys : List String → TA
  | [] => tNil
  | T :: r => tCons (tC (.ty T)) (tTys r)
theorem tTys_run : ∀ {Ts : List String} {Q : List V → Hp → Prop}, Q (Ts.map V.ty) H → tTys Ts σ H Q
  | [], _, h => h
  | T :: r, Q, h => tTys_run (Ts := r) (Q := fun xs H2 => Q (V.ty T :: xs) H2) h
theorem clsV_map : ∀ Ts : List String, Paired ClsV (Ts.map V.ty) (Ts.map Value.type)
  | [] => .nil
  | T :: r => .cons (.ty T) (clsV_map r)
end
end UL
/-! UL: parts of a tuple; a list that is only read (the law's argument) -/
namespace UL
open PySem PySem.Spec PyProof.Rows L2
section
variable {K : PySem.W.Frag} {T : List NdefX.NTab} {S : Sl} {m m' m1 m2 m3 s : Bool} {te ta tb : TE} {tl th : TO} {wl wh : WO} {t u : WE} {C C' : Ct} {σ : L2.St} {H H' H1 : Hp} {ρ : Env}
theorem cutD_whole {ds : List Dt} {lo hi : Option Int} (h : HT.sIx ds.length 0 lo = 0 ∧ HT.sIx ds.length ds.length hi = ds.length) : cutD ds lo hi = ds := by
  unfold cutD
  rw [h.1, h.2, List.drop_zero, Nat.sub_zero, List.take_length]
/-- a tuple's part, told -/
def wSlT (t : WE) (wl wh : WO) : WE := fun ρ P => t ρ fun a => match a with
    | .tup ds => wl ρ fun lo => wh ρ fun hi => P (.tup (cutD ds lo hi))
    | _ => False
theorem wSlT_of {P : Dt → Prop} (h : t ρ fun a => match a with
    | .tup ds => wl ρ fun lo => wh ρ fun hi => P (.tup (cutD ds lo hi))
    | _ => False) : wSlT t wl wh ρ P := h
theorem se_sliceT (ha : SB K T S m1 ta t) (hl : SO K T S m2 tl wl) (hh : SO K T S m3 th wh) : SE K T S (m1 && (m2 && m3)) (tSl (rSlA K) ta tl th) (wSlT t wl wh) := fun C ρ P σ H Q hC ht E q => by
  refine ha C ρ _ σ H _ hC ht E fun a x H1 h1 g1 r1 => ?_
  cases a <;> first | exact h1.elim | skip
  rename_i ds
  have E1 := E.gr g1
  refine hl C ρ _ σ H1 _ hC h1 E1 fun lo H2 h2 g2 => ?_
  have E2 := E1.gr g2
  refine hh C ρ _ σ H2 _ hC h2 E2 fun hi H3 h3 g3 => ?_
  have r3 := (r1.gr E1 g2).gr E2 g3
  have r3' : R K C.ok H3 (.tup ds) x := r3
  obtain ⟨a, us, rfl, e, t3⟩ := R.tupE r3'
  have gg := g1.trans (g2.trans g3)
  refine ⟨a, us, rfl, .of e, fun hw => ?_, fun _ p hp => ?_⟩
  · rw [t3.len] at hw
    refine q _ _ H3 h3 gg ?_
    rw [cutD_whole hw]
    exact r3'
  · exact q _ _ _ h3 (gr_and gg (same_up hp)) (R.newT hp t3.cut)
/-! ### the law's argument -/
theorem sql_of {ok : Addr → Prop} {a : Addr} {ns : List Int} (h : SqL K H a (ns.map V.int)) (q : ok a) : R K ok H (.sql ns) (.ref a) := h.elim (fun e => .sql e q) .sqk
theorem R.sqlE {ok : Addr → Prop} {ns : List Int} {v : V} (h : R K ok H (.sql ns) v) : ∃ a, v = .ref a ∧ SqL K H a (ns.map V.int) := by
  cases h with
  | sql e q => exact ⟨_, rfl, .inl e⟩
  | sqk e => exact ⟨_, rfl, .inr e⟩
def kIxQ : Dt → Dt → (Dt → Prop) → Prop
  | .sql ns, .int i, P => match L2.atI ns i with
    | some x => P (.int x)
    | none => False
  | _, _, _ => False
theorem atI_mapV {ns : List Int} {i : Int} {x : Int} (e : L2.atI ns i = some x) : L2.atI (ns.map V.int) i = some (.int x) := by
  unfold L2.atI at e ⊢
  rw [List.length_map]
  cases q : ixN ns.length i with
  | none => rw [q] at e; cases e
  | some j =>
    rw [q] at e
    show (ns.map V.int)[j]? = _
    rw [List.getElem?_map, show ns[j]? = some x from e]
    rfl
theorem oS_ixQ : OpS K (rIxL K) kIxQ := fun C a b P x y H Q h ra rb hf q => by
  cases a <;> cases b <;> first | exact h.elim | skip
  rename_i ns i
  unfold kIxQ at h
  cases e : L2.atI ns i with
  | none => simp only [e] at h
  | some d =>
    simp only [e] at h
    have ra' : R K C.ok H (.sql ns) x := ra
    obtain ⟨a, rfl, e1⟩ := ra'.sqlE
    exact ⟨a, _, i, _, rfl, R.intE rb, e1, atI_mapV e, q _ _ H h (Same.refl H) (.int _)⟩
def kLenQ : Dt → (Dt → Prop) → Prop
  | .sql ns, P => P (.int ns.length)
  | _, _ => False
theorem c1_lenQ : C1 K (rLen_ K) kLenQ := fun C a P x H Q h ra hf q => by
  cases a <;> first | exact h.elim | skip
  rename_i ns
  have ra' : R K C.ok H (.sql ns) x := ra
  obtain ⟨a, rfl, e1⟩ := ra'.sqlE
  refine ⟨a, _, rfl, .inl e1, ?_⟩
  rw [List.length_map]
  exact q _ _ H h (Same.refl H) (.int _)
def cutQ (ns : List Int) (lo hi : Option Int) : List Int := (ns.drop (HT.sIx ns.length 0 lo)).take (HT.sIx ns.length ns.length hi - HT.sIx ns.length 0 lo)
def wSlQ (t : WE) (wl wh : WO) : WA := fun ρ P => t ρ fun a => match a with
    | .sql ns => wl ρ fun lo => wh ρ fun hi => P ((cutQ ns lo hi).map Dt.int)
    | _ => False
theorem wSlQ_of {P : List Dt → Prop} (h : t ρ fun a => match a with
    | .sql ns => wl ρ fun lo => wh ρ fun hi => P ((cutQ ns lo hi).map Dt.int)
    | _ => False) : wSlQ t wl wh ρ P := h
theorem kIxQ_of {ns : List Int} {i x : Int} {P : Dt → Prop} (e : L2.atI ns i = some x) (h : P (.int x)) : kIxQ (.sql ns) (.int i) P := by
  unfold kIxQ
  simp only [e]
  exact h
theorem kLenQ_of {ns : List Int} {P : Dt → Prop} (h : P (.int ns.length)) : kLenQ (.sql ns) P := h
theorem kIxx_tup {ds : List Dt} {i : Int} {d : Dt} {P : Dt → Prop} (e : L2.atI ds i = some d) (h : P d) : kIx (.tup ds) (.int i) P := kIxT_of e h
theorem kIxx_lst {ds : List Dt} {i : Int} {d : Dt} {P : Dt → Prop} (e : L2.atI ds i = some d) (h : P d) : kIx (.lst ds) (.int i) P := kIxL_of e h
/-! ### -x -/
def kNeg : Dt → (Dt → Prop) → Prop
  | .int i, P => P (.int (-i))
  | _, _ => False
theorem se_neg (ha : SB K T S m ta t) : SE K T S m (tUn (rU fun i => .int (-i)) ta) (w1 kNeg t) := fun C ρ P σ H Q hC ht E q => by
  refine ha C ρ _ σ H _ hC ht E fun a x H1 h1 g1 r1 => ?_
  cases a <;> first | exact h1.elim | skip
  rename_i i
  exact ⟨i, R.intE r1, q _ _ H1 h1 g1 (.int _)⟩
theorem kLstT_of {ds : List Dt} {P : List Dt → Prop} (h : P ds) : kLstOf (.tup ds) P := h
theorem kLstL_of {ds : List Dt} {P : List Dt → Prop} (h : P ds) : kLstOf (.lst ds) P := h
theorem kNeg_of {i : Int} {P : Dt → Prop} (h : P (.int (-i))) : kNeg (.int i) P := h
/-- an item of a list, drawn -/
theorem kIxL_all {ds : List Dt} {i : Int} {P : Dt → Prop} (h0 : 0 ≤ i) (h1 : i < (ds.length : Nat)) (h : ∀ d ∈ ds, P d) : kIxL (.lst ds) (.int i) P := by
  have hl : i.toNat < ds.length := by omega
  have e : ds[i.toNat]? = some ds[i.toNat] := List.getElem?_eq_getElem hl
  refine kIxL_of (d := ds[i.toNat]) ?_ (h _ (List.getElem_mem _))
  have := atI_nat e
  rwa [Int.toNat_of_nonneg h0] at this
/-! ### a def that draws from its first argument -/
def env0P (N : List Str) (ds : List Dt) : Env := none :: (ds.map some ++ List.replicate (N.length - 1 - ds.length) none)
theorem startP {N : List Str} {p : Addr} {vs : List V} : L2.start N (.ref p :: vs) = some (.ref p) :: L2.start (N.drop 1) vs := by
  unfold L2.start
  rw [List.map_cons, List.cons_append, List.length_cons, List.length_drop, show N.length - (vs.length + 1) = N.length - 1 - vs.length by omega]
theorem env0P_eq {N : List Str} {ds : List Dt} : env0P N ds = none :: env0 (N.drop 1) ds := by
  unfold env0P env0
  rw [List.length_drop]
def ctP (T : List NdefX.NTab) (H : Hp) (ok : Addr → Prop) (p : Addr) : Ct := ⟨H, ok, fun a => a = p, fun a => a = p, [], [0], fun _ => p, T⟩
theorem envRP {N : List Str} {ok : Addr → Prop} {p : Addr} {ds : List Dt} {vs : List V} (r : Rs K ok H ds vs) (hl : ds.length + 1 ≤ N.length) (ht : NdefX.TabsN T H) (hp : PlAt H p) (nok : ¬ ok p) : EnvR K (ctP T H ok p) (L2.start N (.ref p :: vs)) H (env0P N ds) where
  len := by
    rw [startP, env0P_eq, List.length_cons, List.length_cons, start_len r (by rw [List.length_drop]; omega)]
  keep := fun a o _ e _ => e
  dom := fun a e => e
  lent := fun a h => by
    have h : a = p := h
    exact ⟨h ▸ hp, h⟩
  tab := ht
  sh := fun i d _ hi e => by
    rw [env0P_eq] at e
    rw [startP]
    cases i with
    | zero => cases e
    | succ i =>
      obtain ⟨v, e1, r1⟩ := start_get r e
      refine ⟨v, e1, r1.okm fun a _ q => ⟨.inl ⟨q, fun z => nok ((show a = p from z) ▸ q)⟩, fun j _ z => nok ((show a = p from z) ▸ q)⟩⟩
  own := fun i hi => nomatch hi
  pls := fun i hi => by
    have : i = 0 := List.mem_singleton.mp hi
    subst this
    rw [env0P_eq, startP]
    exact ⟨Nat.succ_pos _, rfl, hp, .inr rfl⟩
  dj := fun i hi => nomatch hi
  inj := fun i j hi hj _ => by
    have a1 : i = 0 := hi.elim (fun h => nomatch h) List.mem_singleton.mp
    have a2 : j = 0 := hj.elim (fun h => nomatch h) List.mem_singleton.mp
    rw [a1, a2]
theorem fn_p {P : Program} {w : World} {mg : Str → Option Value} {base : Heap} {x qual : Str} {st : Stmt} {f : Addr} {fd : FuncData} {N ps : List Str} {k : Nat} {sp : List Dt → (Dt → Prop) → Prop} (F : Fun K x qual st f fd) (S : FnScope N ps (defScope st)) (hn : ps.length ≤ N.length) (len : ∀ ds Q, sp ds Q → ds.length + 1 = ps.length)
    (hb : ∀ (cdv : Value) (A : Around) (outer : List PySem.Env) (s : Shared) (H : Hp) (E : XK), Room k (A.deeper (envOfC qual (defScope st) s.heap.objs.size f cdv)) →
      ∃ (ts : TS) (wb : WS) (SL S' : Sl), PSs (cxOf CX0 P w K mg base N qual (defScope st) f cdv A outer s H E).nox (defBody st) ts ∧ SS K T XO0 SL ([], [0]) S' ts wb ∧
        ∀ ds Q, sp ds Q → wb (env0P N ds) fun o => match o with
          | .rt d => Q d
          | .rf d => Q (.lst d)
          | .nx _ => Q .non
          | _ => False) : FnOk P w K mg base CX0 (k + 1) f fd ps (spP K T sp) := by
  refine F.ok S (fun vs H Q E ⟨p, vs', ok, ds, P, e, _, _, _, r, h, _⟩ => by rw [e, List.length_cons, r.len]; exact len _ _ h) (fun cdv A outer s H vs Q E hr h => ?_)
  obtain ⟨p, vs', ok, ds, P, rfl, hp, nok, ht, r, h, q⟩ := h
  obtain ⟨ts, wb, SL, S', h1, h2, h3⟩ := hb cdv A outer s H E hr
  have hl : ds.length + 1 ≤ N.length := by rw [len _ _ h]; exact hn
  refine ⟨ts, h1, ?_⟩
  have bs : ∀ a, (ctP T H ok p).base a → ok a ∨ Fre H a := fun a z => z.imp And.left id
  have fin : ∀ {d v H'}, P d → Fin (ctP T H ok p) H' → R K (fun a => ok a ∨ Fre H a) H' d v → Q v H' := fun hd f r => q _ _ _ hd (fun a o nt ne e => f.keep a o nt e ne) (f.lent p rfl) f.tab r
  refine h2 (ctP T H ok p) (env0P N ds) _ _ H _ ⟨rfl, rfl, rfl⟩ (h3 ds P h) (envRP r hl ht hp nok) (fun i hi => nomatch hi) fun o ho => ?_
  cases o with
  | rt d => exact fun v H' f r => fin ho f (r.okm fun a _ z => bs a z)
  | rf d => exact fun p us H' f hp e r => fin ho f (.lst e (.inr hp) (r.okm fun a _ z => bs a z.1))
  | nx ρ => exact fun C' σ' H' _ c E _ _ => fin ho (c.fin E.fin) .non
  | bk ρ => exact ho.elim
  | ct ρ => exact ho.elim
  | xc x ρ => exact ho.elim
/-! ### try, by name -/
def tTryA (K : PySem.W.Frag) (Wout : WX) (tb : WX → TS) (l : List VY.Cl) : TS := fun D σ H => tb (VY.wMA K Wout D l) D σ H
theorem ps_tryB {X : Cx} {body : List Stmt} {h₀ : ExceptHandler} {hds : List ExceptHandler} {l : List VY.Cl} {pos : Pos} {tb : WX → TS} {Wout : WX} (hs : X.stack = X.env :: X.outer) (hf : X.env.frame = some X.env.locals) (hN : X.N.Nodup) (tk : Takes X Wout)
    (hb : ∀ (W : WX) (pn : List (Addr × Obj)) (xe : Value → Shared → Prop), Takes (X.tr pn xe) W → PassesOwn (model X.prog X.w) X.A X.env xe → PSs (X.tr pn xe) body (tb W))
    (hh : VY.HdsA X (h₀ :: hds) l) : PS X (.Try body (h₀ :: hds) [] [] pos) (tTryA X.K Wout tb l) := VY.ps_tryA hs hf hN tk hb hh
theorem ss_tryB {XO : XOut} {SL S S' : Sl} {w : WS} {Wout : WX} {tb : WX → TS} {l : List VY.Cl} {hs : List (Addr × WH)} (hb : ∀ W, SS K T ⟨W, some S⟩ SL S S' (tb W) w) (hh : HdsS K T XO SL S S' l hs) : SS K T XO SL S S' (tTryA K Wout tb l) (wTry K w hs) := ss_try hb hh
end
end UL
/-! Own dicts with nested keys, told over data. -/
namespace UL
open PySem PySem.Spec PyProof.Rows L2
section
variable {K : PySem.W.Frag} {T : List NdefX.NTab} {SL S S' S1 : Sl} {m m' m1 m2 m3 s : Bool} {te ta tb ty tv : TE} {t u : WE} {C C1 C' : Ct} {σ : L2.St} {H H' H1 : Hp} {ρ : Env} {ts ts1 : TS} {XO : XOut} {w w' : WS}
/-- what the keys kk and the values ds tell of k -/
def nlook (kk : List NestedKey) (ds : List Dt) (k : NestedKey) : Option Dt := ((kk.zip ds).find? fun p => decide (p.1 = k)).map (·.2)
def nupd (kk : List NestedKey) (ds : List Dt) (k : NestedKey) (d : Dt) : List Dt := (kk.zip ds).map fun p => if p.1 = k then d else p.2
def kInN (neg : Bool) : Dt → Dt → (Dt → Prop) → Prop := fun a b P => match b with
  | .nd ks _ => ∃ es k kk, a = .tup es ∧ a.nk = some k ∧ k.depth ≤ 8 ∧ Dt.nks ks = some kk ∧ P (.bl (if neg then !decide (k ∈ kk) else decide (k ∈ kk)))
  | _ => False
def kGetN : Dt → Dt → (Dt → Prop) → Prop := fun a b P => match a with
  | .nd ks ds => ∃ es k kk d, b = .tup es ∧ b.nk = some k ∧ k.depth ≤ 8 ∧ Dt.nks ks = some kk ∧ nlook kk ds k = some d ∧ P d
  | _ => False
/-- x = {} -/
def wSetNew (i : Nat) : WS := fun ρ P => i < ρ.length ∧ P (.nx (ρ.set i (some (.nd [] []))))
theorem wSetNew_of {i : Nat} {P : Out → Prop} (hi : decide (i < ρ.length) = true) (h : P (.nx (ρ.set i (some (.nd [] []))))) : wSetNew i ρ P := ⟨of_decide_eq_true hi, h⟩
/-- d[k] = v, d an own dict -/
def wPutN (i : Nat) (t u : WE) : WS := fun ρ P => match ρ[i]? with
  | some (some (.nd ks ds)) => t ρ fun dv => u ρ fun dk => ∃ es k kk, dk = .tup es ∧ dk.nk = some k ∧ k.depth ≤ 8 ∧ Dt.nks ks = some kk ∧ ks.length < sizeLine ∧
    P (.nx (ρ.set i (some (if k ∈ kk then .nd ks (nupd kk ds k dv) else .nd (ks ++ [dk]) (ds ++ [dv])))))
  | _ => False
theorem wPutN_of {i : Nat} {ks ds : List Dt} {P : Out → Prop} (e : ρ[i]? = some (some (.nd ks ds))) (h : t ρ fun dv => u ρ fun dk => ∃ es k kk, dk = .tup es ∧ dk.nk = some k ∧ k.depth ≤ 8 ∧ Dt.nks ks = some kk ∧ ks.length < sizeLine ∧
    P (.nx (ρ.set i (some (if k ∈ kk then .nd ks (nupd kk ds k dv) else .nd (ks ++ [dk]) (ds ++ [dv])))))) : wPutN i t u ρ P := by
  unfold wPutN
  rw [e]
  exact h
end
end UL
/-! Dict comprehensions, told over data. -/
namespace UL
open PySem PySem.Spec PyProof.Rows L2
/-- what may be changed: a list, a dict -/
structure Cel (o : HO) : Prop where
  nt : NT o
  nl : ¬ NL o
  nc : ∀ c q, o ≠ LamX.CodeO c q
section
variable {K : PySem.W.Frag} {T : List NdefX.NTab} {S S' : Sl} {m m' m1 m2 m3 m4 s : Bool} {te tk tv : TE} {t u v : WE} {C C' : Ct} {σ : L2.St} {H H' H1 : Hp} {ρ : Env} {D : Addr} {o o' : HO}
theorem OwnD.cel {ok : Addr → Prop} {d : Dt} (h : OwnD K ok H D d o) : Cel o := ⟨h.nt, h.nl, h.nc⟩
/-- the ownership map within the comprehension whose new thing o is at D -/
def Ct.cmp (C : Ct) (H1 : Hp) (D : Addr) (o : HO) : Ct := { C with H0 := upd H1 D o, ok0 := fun a => C.ok a ∧ a ≠ D, L := fun a => a = D ∨ ∃ i, (i ∈ C.O ∨ i ∈ C.Pl) ∧ a = C.A i, LP := fun a => ∃ i ∈ C.Pl, a = C.A i }
theorem cmp_ok {a : Addr} (E : EnvR K C σ H1 ρ) (hD : H1 D = none) (c : Cel o) (h : (C.cmp H1 D o).ok a) : C.ok a ∧ a ≠ D := by
  rcases h.1 with ⟨q, _⟩ | q
  · exact q
  · have q : Fre (upd H1 D o) a := q
    have n : a ≠ D := fun e => q _ c.nt (by rw [e]; exact upd_same)
    exact ⟨E.freshF fun o' nt e => q o' nt (by rw [upd_ne n]; exact e), n⟩
theorem ok_cmp {a : Addr} (h : C.ok a) (n : a ≠ D) : (C.cmp H1 D o).ok a := by
  refine ⟨.inl ⟨⟨h, n⟩, ?_⟩, h.2⟩
  rintro (z | ⟨i, hi, z⟩)
  · exact n z
  · exact h.2 i hi z
theorem EnvR.cmp (E : EnvR K C σ H1 ρ) (hD : H1 D = none) : EnvR K (C.cmp H1 D o) σ (upd H1 D o) ρ ∧ ∀ i, i ∈ C.O ∨ i ∈ C.Pl → C.A i ≠ D := by
  have sm : Same H1 (upd H1 D o) := same_up hD
  have ne : ∀ i, i ∈ C.O ∨ i ∈ C.Pl → C.A i ≠ D := fun i hi z => by
    obtain ⟨us, e, _⟩ := E.place hi
    rw [z, hD] at e
    cases e
  have mv : Mv C.ok H1 (C.cmp H1 D o).ok (upd H1 D o) := ⟨.same sm, fun a n h => ok_cmp h fun z => n (by rw [z]; exact .of hD)⟩
  constructor
  case right => exact ne
  refine { len := E.len, keep := fun _ _ _ e _ => e, dom := fun _ e => e, lent := ?_, tab := E.tab.ext sm, sh := ?_, own := ?_, pls := ?_, dj := E.dj, inj := E.inj }
  · rintro a ⟨i, hi, z⟩
    obtain ⟨_, _, p, _⟩ := E.pls i hi
    exact z ▸ ⟨p.same sm, .inr ⟨i, .inr hi, rfl⟩⟩
  · intro i d h1 h2 e
    obtain ⟨v, e1, r⟩ := E.sh i d h1 h2 e
    exact ⟨v, e1, r.mv mv⟩
  · intro i hi
    obtain ⟨d, o1, e1, e2, e3, r, _, _⟩ := E.own i hi
    refine ⟨d, o1, e1, e2, sm _ _ e3, r.mv mv, .inr (.inr ⟨i, .inl hi, rfl⟩), ?_⟩
    rintro ⟨j, hj, z⟩
    exact E.dj i hi (E.inj i j (.inl hi) (.inr hj) z ▸ hj)
  · intro i hi
    obtain ⟨l, e, p, _⟩ := E.pls i hi
    exact ⟨l, e, p.same sm, .inr ⟨i, hi, rfl⟩⟩
/-- what is nobody's is changed -/
theorem EnvR.chg (E : EnvR K C σ H ρ) (hD : H D = some o) (c : Cel o) (c' : Cel o') (hL : C.L D) (hLP : ¬ C.LP D) (hok : ¬ C.ok D) (hA : ∀ i, i ∈ C.O ∨ i ∈ C.Pl → C.A i ≠ D) : EnvR K C σ (upd H D o') ρ ∧ Mv C.ok H C.ok (upd H D o') := by
  have k : Mv C.ok H C.ok (upd H D o') := by
    refine .of ⟨fun a x nt e h => ?_, fun a f x nt e => ?_⟩
    · have n : a ≠ D := by
        rintro rfl
        rw [hD] at e
        cases e
        exact h.elim hok c.nl
      rw [upd_ne n]
      exact e
    · by_cases n : a = D
      · exact f _ c'.nt (by rw [n]; exact upd_same)
      · exact f x nt (by rw [upd_ne n]; exact e)
  constructor
  case right => exact k
  refine { len := E.len, keep := ?_, dom := fun a e => E.dom a (k.kp.dom a e), lent := ?_, tab := tabs_put hD c.nt c.nc E.tab, sh := ?_, own := ?_, pls := ?_, dj := E.dj, inj := E.inj }
  · intro a x nt e n
    rw [upd_ne (fun z => n (by rw [z]; exact hL))]
    exact E.keep a x nt e n
  · intro a h
    obtain ⟨⟨x, y, z, e⟩, l⟩ := E.lent a h
    exact ⟨⟨x, y, z, by rw [upd_ne (fun z => hLP (by rw [← z]; exact h))]; exact e⟩, l⟩
  · intro j d hj hp h
    obtain ⟨v, e, r⟩ := E.sh j d hj hp h
    exact ⟨v, e, r.mv k⟩
  · intro j hj
    obtain ⟨d, o1, e1, e2, e3, r, q⟩ := E.own j hj
    exact ⟨d, o1, e1, e2, by rw [upd_ne (hA j (.inl hj))]; exact e3, r.mv k, q⟩
  · intro j hj
    obtain ⟨l, e, ⟨x, y, z, e3⟩, q⟩ := E.pls j hj
    exact ⟨l, e, ⟨x, y, z, by rw [upd_ne (hA j (.inr hj))]; exact e3⟩, q⟩
/-- the turns -/
def wDc (put : Dt → Dt → Dt → (Dt → Prop) → Prop) (bind : Dt → Env → Option Env) (u : WT) (tk tv : WE) (ρ : Env) : List Dt → Dt → (Dt → Prop) → Prop
  | [], acc, P => P acc
  | d :: ds, acc, P => match bind d ρ with
    | some ρ1 => u ρ1 fun b => if b = true then tk ρ1 fun y => tv ρ1 fun z => put acc y z fun acc' => wDc put bind u tk tv ρ ds acc' P else wDc put bind u tk tv ρ ds acc P
    | none => False
def wDcS (put : Dt → Dt → Dt → (Dt → Prop) → Prop) (e0 : Dt) (ti : WA) (bind : Dt → Env → Option Env) (u : WT) (tk tv : WE) (vs : List Nat) : WE := fun ρ P => ti ρ fun items => wDc put bind u tk tv (wipeE ρ vs) items e0 P
def putN (acc y z : Dt) (P : Dt → Prop) : Prop := ∃ ks ds es k kk, acc = .nd ks ds ∧ y = .tup es ∧ y.nk = some k ∧ k.depth ≤ 8 ∧ Dt.nks ks = some kk ∧ ks.length < sizeLine ∧ P (if k ∈ kk then .nd ks (nupd kk ds k z) else .nd (ks ++ [y]) (ds ++ [z]))
/-- between two turns: what is at D -/
structure DcSt (K : PySem.W.Frag) (C : Ct) (m : Bool) (H1 : Hp) (D : Addr) (o : HO) (σ : L2.St) (ρ : Env) (WI : (Addr → Prop) → Hp → Prop) (acc : Dt) (H : Hp) : Prop where
  env : EnvR K (C.cmp H1 D o) σ H ρ
  at_ : ∃ o', H D = some o' ∧ OwnD K (C.cmp H1 D o).ok H D acc o'
  gr : Gr m C H1 H
  wi : WI (C.cmp H1 D o).ok H
theorem DcSt.gr_ {as : List Addr} {WI : (Addr → Prop) → Hp → Prop} {acc : Dt} {J : It} {items : List Dt} (W : WalkD K J items as WI) (hs : ∀ a ∈ as, ∀ j ∈ C.Pl, a ≠ C.A j) {σ' : L2.St} {ρ' : Env}
    (L : DcSt K C m H1 D o σ ρ WI acc H) (nD : ∀ j ∈ C.Pl, C.A j ≠ D) (g : Gr m (C.cmp H1 D o) H H') (E' : EnvR K (C.cmp H1 D o) σ' H ρ') : DcSt K C m H1 D o σ ρ WI acc H' := by
  obtain ⟨o', e, r⟩ := L.at_
  exact ⟨L.env.gr g, ⟨o', g.keep _ _ r.nt e fun _ j hj z => nD j hj z.symm, r.mv (g.mv L.env)⟩, L.gr.idem ⟨g.keep, g.pl, g.dom, g.tab⟩, W.mv _ _ _ _ (fun a ha us e => g.keep _ _ nt_lst e fun _ j hj => hs a ha j hj) (g.mv L.env) L.wi⟩
theorem DcSt.put {as : List Addr} {WI : (Addr → Prop) → Hp → Prop} {acc acc' : Dt} {J : It} {items : List Dt} (W : WalkD K J items as WI) (c : Cel o) (hD : H1 D = none) (hs : ∀ a ∈ as, ∃ us, H1 a = some (.lst us)) {σ' : L2.St} {ρ' : Env} (E : EnvR K C σ' H1 ρ')
    (L : DcSt K C m H1 D o σ ρ WI acc H) (nD : ∀ i, i ∈ C.O ∨ i ∈ C.Pl → C.A i ≠ D) {o1 o2 : HO} (e : H D = some o1) (r1 : OwnD K (C.cmp H1 D o).ok H D acc o1) (r2 : OwnD K (C.cmp H1 D o).ok H D acc' o2) : DcSt K C m H1 D o σ ρ WI acc' (upd H D o2) := by
  have nok : ¬ (C.cmp H1 D o).ok D := fun z => (cmp_ok E hD c z).2 rfl
  obtain ⟨E2, k⟩ := L.env.chg e r1.cel r2.cel (.inl rfl) (fun ⟨i, hi, z⟩ => nD i (.inr hi) z.symm) nok nD
  refine ⟨E2, ⟨_, upd_same, r2.mv k⟩, ⟨fun a x nt h n => ?_, fun i hi h => ?_, fun a h => L.gr.dom a (k.kp.dom a h), fun h => tabs_put e r1.nt r1.nc (L.gr.tab h)⟩, ?_⟩
  · rw [upd_ne (ne_of_none h hD)]
    exact L.gr.keep a x nt h n
  · obtain ⟨x, y, z, q⟩ := L.gr.pl i hi h
    exact ⟨x, y, z, by rw [upd_ne (nD i (.inr hi))]; exact q⟩
  · refine W.mv _ _ _ _ (fun a ha vs q => ?_) k L.wi
    obtain ⟨ws, q1⟩ := hs a ha
    rw [upd_ne (ne_of_none q1 hD)]
    exact q
end
end UL
/-! Dicts with texts and ints as keys, told over data: made by a comprehension, read. -/
namespace UL
open PySem PySem.Spec PyProof.Rows L2
def keyOf : Dt → Option Key
  | .str x => some (.inr x)
  | .int i => some (.inl i)
  | _ => none
def kin (ks : List Key) (k : Key) : Bool := ks.any fun x => decide (x = k)
def klook (ks : List Key) (ds : List Dt) (k : Key) : Option Dt := ((ks.zip ds).find? fun p => decide (p.1 = k)).map (·.2)
def kupd (ks : List Key) (ds : List Dt) (k : Key) (d : Dt) : List Dt := (ks.zip ds).map fun p => if p.1 = k then d else p.2
section
variable {K : PySem.W.Frag} {T : List NdefX.NTab} {S S' : Sl} {m m' m1 m2 m3 m4 s : Bool} {te tk tv td ty : TE} {t u v : WE} {C C' : Ct} {σ : L2.St} {H H' H1 : Hp} {ρ : Env} {D : Addr} {o o' : HO}
/-! the comprehension -/
def putT (acc y z : Dt) (P : Dt → Prop) : Prop := ∃ ks ds k, acc = .dk ks ds ∧ keyOf y = some k ∧ ks.length < sizeLine ∧ P (if kin ks k = true then .dk ks (kupd ks ds k z) else .dk (ks ++ [k]) (ds ++ [z]))
end
end UL
/-! UL: own dicts whose keys are numbers or texts: d = {}, d[k] = v -/
namespace UL
open PySem PySem.Spec PyProof.Rows L2
section
variable {K : PySem.W.Frag} {T : List NdefX.NTab} {SL S S' S1 : Sl} {m m' m1 m2 m3 s : Bool} {te ta tb tv ty : TE} {t u : WE} {C C1 C' : Ct} {σ : L2.St} {H H' H1 : Hp} {ρ : Env} {ts ts1 : TS} {w w' : WS} {XO : XOut}
def wSetNewK (i : Nat) : WS := fun ρ P => i < ρ.length ∧ P (.nx (ρ.set i (some (.dk [] []))))
theorem wSetNewK_of {i : Nat} {P : Out → Prop} (hi : decide (i < ρ.length) = true) (h : P (.nx (ρ.set i (some (.dk [] []))))) : wSetNewK i ρ P := ⟨of_decide_eq_true hi, h⟩
def wPutK (i : Nat) (t u : WE) : WS := fun ρ P => match ρ[i]? with
  | some (some (.dk ks ds)) => t ρ fun dv => u ρ fun dy => ∃ k, keyOf dy = some k ∧ ks.length < sizeLine ∧ P (.nx (ρ.set i (some (if kin ks k = true then .dk ks (kupd ks ds k dv) else .dk (ks ++ [k]) (ds ++ [dv])))))
  | _ => False
theorem wPutK_of {i : Nat} {ks : List Key} {ds : List Dt} {P : Out → Prop} (e : ρ[i]? = some (some (.dk ks ds))) (h : t ρ fun dv => u ρ fun dy => ∃ k, keyOf dy = some k ∧ ks.length < sizeLine ∧ P (.nx (ρ.set i (some (if kin ks k = true then .dk ks (kupd ks ds k dv) else .dk (ks ++ [k]) (ds ++ [dv])))))) : wPutK i t u ρ P := by
  unfold wPutK
  rw [e]
  exact h
end
abbrev rPow_ : R2 := rI CPow fun i j => .int (i ^ j.toNat)
theorem oS_pow {K : PySem.W.Frag} : OpS K (rI CPow fun i j => .int (i ^ j.toNat)) (kIc CPow fun i j => .int (i ^ j.toNat)) := opS_Ic fun _ _ _ _ => .int _
end UL
/-! UL: isinstance of any data, own instances too -/
namespace UL
open PySem PySem.Spec PyProof.Rows L2
section
variable {P : Program} {w : World} {K : PySem.W.Frag} {T : List NdefX.NTab} {S : Sl} {m : Bool} {ta : TE} {t : WE} {H H' : Hp} {σ : L2.St}
/-- an instance of C has the type C -/
def OwnT (K : PySem.W.Frag) (C : Addr) : Prop := ∀ (H : Hp) (p dx : Addr) (fs : List (Str × V)), H p = some (.ins C dx fs) → TyX K H (.ref p) (.ref C)
inductive HasTy (K : PySem.W.Frag) : Dt → Value → Prop
  | ty {d : Dt} {n : String} (e : d.tyN = some n) : HasTy K d (.type n)
  | dk {ks : List Key} {ds : List Dt} : HasTy K (.dk ks ds) (.type "dict")
  | own {C : Addr} {ks : List Str} {ds : List Dt} (O : OwnT K C) : HasTy K (.obj C ks ds) (.ref C)
theorem RB.tyG {C : Ct} {d : Dt} {v : V} {u : Value} (h : RB K C H d v) (e : HasTy K d u) : TyX K H v u := by
  cases e with
  | ty e => exact h.tyX e
  | dk =>
    obtain ⟨a, kvs, rfl, _, e1, _⟩ := (show ∃ (a : Addr) (kvs : List (Key × V)), v = .ref a ∧ _ = kvs.map (·.1) ∧ H a = some (.dK kvs) ∧ _ from h)
    exact .base (.dK e1)
  | own O =>
    cases (show R K C.ok H _ v from h) with
    | obj e1 => exact O _ _ _ _ e1
def kIsG (K : PySem.W.Frag) (u : Value) : Dt → (Dt → Prop) → Prop := fun d P => ∃ t b, HasTy K d t ∧ PySem.W.kitOne K t u = some b ∧ P (.bl b)
theorem se_isG {c : V} {u : Value} (hc : ClsV c u) (ha : SB K T S m ta t) : SE K T S m (tCB (rIsi K) (tCons ta (tCons (tC c) tNil))) (w1 (kIsG K u) t) := fun C ρ P σ H Q hC ht E q => by
  refine ha C ρ _ σ H _ hC ht E fun a x H1 h1 g1 r1 => ?_
  obtain ⟨ty, b, h2, h3, h4⟩ := h1
  exact ⟨x, c, ty, u, b, rfl, hc, r1.tyG h2, h3, q _ _ H1 h4 g1 (.bl _)⟩
def kIsTG (K : PySem.W.Frag) (Ts : List String) : Dt → (Dt → Prop) → Prop := fun d P => ∃ t b, HasTy K d t ∧ PySem.W.kitAny K t (Ts.map Value.type) = some b ∧ P (.bl b)
theorem se_isTG (Ts : List String) (hl : Ts.length ≤ 1000) (ha : SE K T S m ta t) : SE K T S m (tCB (rIsiT K) (tCons ta (tCons (tTup (tTys Ts)) tNil))) (w1 (kIsTG K Ts) t) := fun C ρ P σ H Q hC ht E q => by
  refine ha C ρ _ σ H _ hC ht E fun a x H1 h1 g1 r1 => ?_
  obtain ⟨ty, b, h2, h3, h4⟩ := h1
  refine tTys_run ⟨Nat.le_of_lt (small1000 (by rw [List.length_map]; exact hl)), fun p hp => ?_⟩
  refine ⟨x, p, _, ty, _, b, rfl, upd_same, clsV_map Ts, ?_, h3, q _ _ _ h4 (gr_and g1 (same_up hp)) (.bl _)⟩
  exact RB.tyG (C := C) (r1.same (same_up hp)).b h2
end
end UL
/-! enumerate of a list, told over data. -/
namespace UL
open PySem PySem.Spec PyProof.Rows L2
section
variable {K : PySem.W.Frag} {T : List NdefX.NTab} {S : Sl} {m : Bool}
def kEnumL : List Dt → (List Dt → Prop) → Prop
  | [.lst ds], P => P (enumD ds)
  | _, _ => False
end
end UL
/-! Lambdas of one parameter that capture names, handed to a def that calls them. -/
namespace VL
open PySem PySem.Spec PyProof.Rows L2 LamX NdefX

structure LF where
  qual : Str
  params : Arguments
  body : Expr
  scope : Scope
  cl : List (Str × Addr)
  c : Addr

/-- at f stands the lambda F -/
def LamO (f : Addr) (F : LF) : HO := .ext fun h => ∃ (od : Option Addr) (sl : Array (Option Value)) (pm ctv : Value),
  h.get? f = some (⟨.type "function", od, .func (PySem.W.kla_fn "<lambda>" F.qual F.params F.body F.scope F.cl pm (.ref F.c) ctv), sl⟩ : Obj)
theorem lamO_at {P : Program} {w : World} {H : Hp} {h : Heap} {f : Addr} {F : LF} (hok : HOk P w H h) (e : H f = some (LamO f F)) : ∃ (od : Option Addr) (sl : Array (Option Value)) (pm ctv : Value),
    h.get? f = some (⟨.type "function", od, .func (PySem.W.kla_fn "<lambda>" F.qual F.params F.body F.scope F.cl pm (.ref F.c) ctv), sl⟩ : Obj) := (hok f _ e).1
section
variable {X : Cx} {pins : List (Addr × Obj)} {σ : L2.St} {H : Hp} {s : Shared}
theorem inv_lam {F : LF} {t' : Nat} {pm ctv : Value} (I : Inv X pins σ H s) :
    Inv X pins σ (upd H s.heap.objs.size (LamO s.heap.objs.size F)) { s with heap := s.heap.push (PySem.W.kla_obj "<lambda>" F.qual F.params F.body F.scope F.cl pm F.c ctv), toks := t' } := by
  refine I.laid (a := s.heap.objs.size) (fun b u e => Heap.get?_push_of_some _ e) (Nat.le_refl _) ?_
  have e : (s.heap.push (PySem.W.kla_obj "<lambda>" F.qual F.params F.body F.scope F.cl pm F.c ctv)).get? s.heap.objs.size = some (PySem.W.kla_obj "<lambda>" F.qual F.params F.body F.scope F.cl pm F.c ctv) := Heap.get?_push_size _ rfl
  exact ⟨⟨_, _, pm, ctv, e⟩, ⟨_, e⟩, fun h1 h2 ⟨od, sl, p, t, z⟩ st => ⟨od, sl, p, t, st _ z⟩⟩

theorem lam_mk {T : List NTab} {nm : Nat → Nat → Str} {c P : Addr} {params : Arguments} {body : Expr} {scope : Scope} {pos : Pos} {E : Value → Shared → Prop} {Q : Value → Shared → Prop} (I : Inv X pins σ H s) (TB : TabB X.base X.mg c P) (hcode : X.env.code = .ref c)
    (hm : (P, nm) ∈ T) (hn : nm pos.line pos.col = X.env.qual ++ "<lambda>") (hu : ∀ p ∈ T, p.1 = P → p.2 = nm) (hT : TabsN T H) (hdef : defaultsOf params X.env = ([], [])) (hfree : ∀ y ∈ scope.names, y.2 = .free → ∃ c, X.env.cells.lookup y.1 = some c)
    (h : ∀ (f c' : Addr) (H1 : Hp) (s' : Shared), Inv X pins σ H1 s' → ExtN H H1 → (∀ b, H1 b = Option.none → H b = Option.none) → TabsN T H1 → H f = none →
      H1 f = some (LamO f ⟨X.env.qual ++ "<lambda>", params, body, scope, cloFrom X.env.cells scope.names [], c'⟩) → H1 c' = some (CodeO c' (X.env.qual ++ "<lambda>")) → Q (.ref f) s') :
    wpAny (model X.prog X.w) X.A (eval (.Lambda params body scope pos) X.env) Q E s := by
  obtain ⟨ps, hP, ht, ha⟩ := (show TabN H P nm from hT _ hm)
  refine PySem.W.kla_eval hdef ?_
  have bP : s.heap.BuiltinsAt X.mg P := TB.bm.keeps I.bk
  have hP' : s.heap.get? P = some { cls := .none, data := .fields ps } := I.hok P _ hP
  cases hc : codeAmong pos ps.toList with
  | none =>
    refine PySem.W.kla_makeFunction (mg := X.mg) (c := c) (P := P) (ps := ps) (closure_ok hfree) I.ok.glob (I.mod.glob.keeps I.bk) hcode (TB.code.keeps I.bk) hP' ht hc TB.gP bP fun c' ctv h' tk hx hge hlt hrec htb => ?_
    obtain ⟨c2, oc, vs, t, e2, hoc, hd, hv⟩ := hrec
    cases e2
    have nC : H c' = none := I.hok.fresh hge
    have I1 := inv_table (t' := tk) (more := #[rawInt pos.line, rawInt pos.col, .ref c']) (h' := h') I hP (fun b o hb e => hx b o hb e) htb hge ⟨oc, vs, t, hoc, hd, hv⟩
    have hE : ExtN H (upd (upd H P (.tbl (ps ++ #[rawInt pos.line, rawInt pos.col, .ref c']))) c' (CodeO c' (X.env.qual ++ "<lambda>"))) := fun b o e n => by
      rw [upd_ne (ne_of_none e nC), upd_ne (fun z => n ps (Option.some.inj (e.symm.trans (by rw [z]; exact hP))))]
      exact e
    have eL : (ps ++ #[rawInt pos.line, rawInt pos.col, .ref c']).toList = ps.toList ++ [rawInt pos.line, rawInt pos.col, .ref c'] := by simp
    have T1 : TabsN T (upd (upd H P (.tbl (ps ++ #[rawInt pos.line, rawInt pos.col, .ref c']))) c' (CodeO c' (X.env.qual ++ "<lambda>"))) := fun p hp => by
      by_cases hb : p.1 = P
      · rw [hu p hp hb, hb]
        refine ⟨_, by rw [upd_ne (ne_of_none hP nC), upd_same], by rw [eL]; exact PySem.TriplesOk_snoc _ _ _ _ ht, fun p' cv hcv => ?_⟩
        rw [eL] at hcv
        rcases among_app2 _ ht hcv with z | ⟨z, z1, z2⟩
        · obtain ⟨c0, e1, e2⟩ := ha p' cv z
          exact ⟨c0, e1, hE _ _ e2 codeO_ne⟩
        · refine ⟨c', z, ?_⟩
          rw [← z1, ← z2, hn]
          exact upd_same
      · obtain ⟨ps', a1, a2, a3⟩ := hT p hp
        refine ⟨ps', by rw [upd_ne (ne_of_none a1 nC), upd_ne hb]; exact a1, a2, fun p' cv hcv => ?_⟩
        obtain ⟨c0, e1, e2⟩ := a3 p' cv hcv
        exact ⟨c0, e1, hE _ _ e2 codeO_ne⟩
    have nF := I1.hok.fresh (Nat.le_refl _)
    have I2 := inv_lam (F := ⟨X.env.qual ++ "<lambda>", params, body, scope, cloFrom X.env.cells scope.names [], c'⟩) (t' := tk) (pm := (X.mg "__name__").getD .none) (ctv := ctv) I1
    refine h h'.objs.size c' _ _ I2 (fun b o e n => ?_) (fun b e => upd_none (upd_none (upd_none e))) (T1.ext fun b o e => ?_) (I.hok.fresh (Nat.le_trans hge (Nat.le_of_lt hlt))) upd_same ?_
    · have e1 := hE b o e n
      exact (upd_ne (ne_of_none e1 nF)).trans e1
    · exact (upd_ne (ne_of_none e nF)).trans e
    · exact (upd_ne (Nat.ne_of_lt hlt)).trans upd_same
  | some cv =>
    obtain ⟨c', e, hco⟩ := ha pos cv hc
    subst e
    rw [hn] at hco
    refine PySem.W.kla_makeFunctionHit (mg := X.mg) (c := c) (P := P) (ps := ps) (closure_ok hfree) I.ok.glob (I.mod.glob.keeps I.bk) hcode (TB.code.keeps I.bk) hP' ht hc bP fun ctv h' tk hx hsz => ?_
    have I1 : Inv X pins σ H { s with heap := h', toks := tk } := I.kept hx
    have nF : H h'.objs.size = none := I1.hok.fresh (Nat.le_refl _)
    have I2 := inv_lam (F := ⟨X.env.qual ++ "<lambda>", params, body, scope, cloFrom X.env.cells scope.names [], c'⟩) (t' := tk) (pm := (X.mg "__name__").getD .none) (ctv := ctv) I1
    refine h h'.objs.size c' _ _ I2 (fun b o e n => ?_) (fun b e => upd_none e) (hT.ext fun b o e => ?_) nF upd_same ?_
    · exact (upd_ne (ne_of_none e nF)).trans e
    · exact (upd_ne (ne_of_none e nF)).trans e
    · exact (upd_ne (ne_of_none hco nF)).trans hco
end
/-- the lambda as a value -/
def tLamV (T : List NTab) (mk : Addr → LF) : TE := fun _ H Q => TabsN T H ∧ ∀ (f c' : Addr) (H1 : Hp), ExtN H H1 → (∀ b, H1 b = Option.none → H b = Option.none) → TabsN T H1 → H f = none → H1 f = some (LamO f (mk c')) → H1 c' = some (CodeO c' (mk c').qual) → Q (.ref f) H1
theorem pe_lamV {X : Cx} {T : List NTab} {nm : Nat → Nat → Str} {c P : Addr} {params : Arguments} {body : Expr} {scope : Scope} {pos : Pos} (TB : TabB X.base X.mg c P) (hcode : X.env.code = .ref c)
    (hm : (P, nm) ∈ T) (hn : nm pos.line pos.col = X.env.qual ++ "<lambda>") (hu : ∀ p ∈ T, p.1 = P → p.2 = nm) (hdef : defaultsOf params X.env = ([], []))
    (hfree : ∀ y ∈ scope.names, y.2 = .free → X.env.scope.names.lookup y.1 = some .cell ∨ X.env.scope.names.lookup y.1 = some .free) :
    PE X (.Lambda params body scope pos) (tLamV T fun c' => ⟨X.env.qual ++ "<lambda>", params, body, scope, cloFrom X.env.cells scope.names [], c'⟩) := by
  refine ⟨fun pins s σ H Q I h => ?_⟩
  obtain ⟨hT, h⟩ := h
  have hfr : ∀ y ∈ scope.names, y.2 = .free → ∃ c, X.env.cells.lookup y.1 = some c := fun y hy e => (hfree y hy e).elim (fun z => I.ok.has _ (.inl z)) fun z => I.ok.has _ (.inr z)
  exact lam_mk I TB hcode hm hn hu hT hdef hfr fun f c' H1 s' I1 eN nn T1 f0 f1 c1 => ⟨.ref f, H1, I1, rfl, h f c' H1 eN nn T1 f0 f1 c1⟩
end VL
namespace VL
open PySem PySem.Spec PyProof.Rows L2 LamX NdefX
/-- the lambda's names: its parameter, the captured ones, the others (of its comprehensions) -/
structure LScope (N : List Str) (p : Str) (fr : List Str) (sc : Scope) : Prop where
  kind : sc.kind = .function
  co : sc.isCoroutine = false
  gen : sc.isGenerator = false
  nd : N.Nodup
  pre : N.take (1 + fr.length) = p :: fr
  par : sc.names.lookup p = some .local ∨ sc.names.lookup p = some .cell
  uniq : ∀ y ∈ sc.names, sc.names.lookup y.1 = some y.2
  own : ∀ y ∈ sc.names, y.2 = .cell → y.1 = p
  free : ∀ y ∈ sc.names, y.2 = .free → y.1 ∈ fr
  frk : ∀ x ∈ fr, sc.names.lookup x = some .free
/-- the closure: each captured name once -/
structure ClOk (cl : List (Str × Addr)) (sc : Scope) : Prop where
  fn : ∀ y c, (y, c) ∈ cl → cl.lookup y = some c
  fr : ∀ y c, (y, c) ∈ cl → (y, NameKind.free) ∈ sc.names
theorem clOk_from {cells : List (Str × Addr)} {sc : Scope} : ClOk (cloFrom cells sc.names []) sc := by
  refine ⟨fun y c h => ?_, fun y c h => ?_⟩
  · obtain ⟨c', e⟩ := mem_lookup h
    have h' := PySem.mem_of_lookup e
    rcases cloFrom_mem h with z | ⟨_, z⟩
    · cases z
    · rcases cloFrom_mem h' with z' | ⟨_, z'⟩
      · cases z'
      · rw [e, z', z]
  · rcases cloFrom_mem h with z | ⟨z, _⟩
    · cases z
    · exact z

abbrev envL (F : LF) (f L : Addr) : Env := newEnv F.scope L mainGlobals (cellsFrom (L + 1) F.scope.names F.cl) (F.qual ++ ".<locals>.") (some f) (.ref F.c) none builtinsNs
def startL (N : List Str) (v : V) (ws : List (Option V)) : L2.St := some v :: (ws ++ List.replicate (N.length - 1 - ws.length) none)
/-- the context of its body -/
def lcx (CX : CXT) (P : Program) (w : World) (K : PySem.W.Frag) (mg : Str → Option Value) (base : Heap) (N : List Str) (F : LF) (f : Addr) (A : Around) (outer : List Env) (s : Shared) (H : Hp) (E : XK) : Cx where
  prog := P
  w := w
  K := K
  mg := mg
  base := base
  A := A.deeper (envL F f s.heap.objs.size)
  N := N
  s_0 := s
  H_0 := H
  env := envL F f s.heap.objs.size
  outer := outer
  stack := envL F f s.heap.objs.size :: outer
  ex := []
  fn := fun x => F.scope.names.lookup x == some .cell
  calm := true
  pn := []
  xe := fun e s' => wpAny (model P w) (A.deeper (envL F f s.heap.objs.size)) (leaving (envL F f s.heap.objs.size) e) (fun _ s'' => CX outer H s E e s'') (fun e' s'' => CX outer H s E e' s'') s'

section
variable {CX : CXT} {P : Program} {w : World} {K : PySem.W.Frag} {mg : Str → Option Value} {base : Heap} {N fr : List Str} {p : Str} {F : LF} {f : Addr} {A : Around} {outer : List Env} {s : Shared} {H : Hp} {E : XK} {u : Value} {v : V} {ws : List (Option V)}
/-- the frame's map and the parameter's cell, as the call leaves them -/
structure Laid (F : LF) (p : Str) (u : Value) (L : Addr) (h h1 : Heap) : Prop where
  keep : ∀ b o, h.get? b = some o → h1.get? b = some o
  ns : ∃ m, h1.Ns L m ∧ (F.scope.names.lookup p = some .local → m p = some u)
  cells : ∀ y c, (y, c) ∈ cellsFrom (L + 1) F.scope.names F.cl → (y, c) ∈ F.cl ∨ (F.scope.names.lookup y = some .cell ∧ L < c ∧ ∃ z, h1.IsCell c z)
  pc : ∀ c, F.scope.names.lookup p = some .cell → (cellsFrom (L + 1) F.scope.names F.cl).lookup p = some c → h1.IsCell c (some u)

theorem inv_lstart {h1 : Heap} {tk : Nat} (S : LScope N p fr F.scope) (CL : ClOk F.cl F.scope) (hd : A.handled = none) (e0 : Env0 P w K mg base A outer s H) (r : L2.RelV v u) (C : CellsAt F.cl fr ws s.heap H)
    (Y : Laid F p u s.heap.objs.size s.heap h1) : Inv (lcx CX P w K mg base N F f A outer s H E) [] (startL N v ws) H { s with heap := h1, toks := tk } := by
  have hpl : 1 + fr.length ≤ N.length := by
    have q := congrArg List.length S.pre
    rw [List.length_take, List.length_cons] at q
    omega
  have noA : ∀ b : Addr, b ∉ (lcx CX P w K mg base N F f A outer s H E).ex := fun b z => absurd (show b ∈ ([] : List Addr) from z) (by simp)
  have cellK : ∀ {c : Addr} {v : Option Value}, s.heap.IsCell c v → h1.IsCell c v := fun {c v} ⟨o, ho, hd⟩ => ⟨o, Y.keep _ _ ho, hd⟩
  have clt : ∀ q ∈ F.cl, q.2 < (s.heap.push { cls := .type "frame", data := .dict #[] }).objs.size := fun ⟨y, c⟩ hq => by
    obtain ⟨_, z, hz⟩ := C.all y c (CL.fn y c hq)
    rw [Heap.size_push]
    exact Nat.lt_succ_of_lt hz.lt
  have cinj : ∀ x y c, (x, c) ∈ F.cl → (y, c) ∈ F.cl → x = y := fun x y c a b => C.inj x y c (CL.fn _ _ a) (CL.fn _ _ b)
  have esz : (s.heap.push { cls := .type "frame", data := .dict #[] }).objs.size = s.heap.objs.size + 1 := Heap.size_push ..
  refine ⟨⟨e0.mod, S.kind, rfl, rfl, Nat.le_refl _, fun x y c e1 e2 => ?_, fun y hy => ?_, fun y c z e => ?_, fun _ => hd, Around.frames_deeper e0.frames, .inr ⟨rfl, rfl⟩, fun b z => absurd z (noA b), e0.bs, e0.bsz, fun b _ _ => noA b,
      fun b z => absurd z (noA b), e0.funs, e0.frf⟩,
    rfl, e0.bare, Un.kept Y.keep, ?_, fun y c e => ?_, e0.hok.fresh (Nat.le_refl _), fun y c e => ?_, fun q hq => absurd (show q ∈ ([] : List (Addr × Obj)) ++ [] from hq) (by simp), e0.hok.kept Y.keep, ?_⟩
  · have e1 : (cellsFrom (s.heap.objs.size + 1) F.scope.names F.cl).lookup x = some c := e1
    have e2 : (cellsFrom (s.heap.objs.size + 1) F.scope.names F.cl).lookup y = some c := e2
    rw [← esz] at e1 e2
    exact cells_inj clt cinj (PySem.mem_of_lookup e1) (PySem.mem_of_lookup e2)
  · have hy : F.scope.names.lookup y = some .cell ∨ F.scope.names.lookup y = some .free := hy
    show ∃ c, (cellsFrom (s.heap.objs.size + 1) F.scope.names F.cl).lookup y = some c
    rcases hy with hy | hy
    · exact Option.isSome_iff_exists.mp (PySem.W.cellsFrom_some F.scope.names _ F.cl (.inl hy))
    · obtain ⟨i, hi⟩ := List.mem_iff_getElem?.mp (S.free _ (PySem.mem_of_lookup hy) rfl)
      obtain ⟨c, hc, _⟩ := C.has i y hi
      exact mem_lookup (cells_acc (PySem.mem_of_lookup hc))
  · have z : (F.scope.names.lookup y == some .cell) = true := z
    have e : (cellsFrom (s.heap.objs.size + 1) F.scope.names F.cl).lookup y = some c := e
    show s.heap.objs.size ≤ c
    rcases Y.cells y c (PySem.mem_of_lookup e) with hm | ⟨_, q, _⟩
    · have hf := S.uniq _ (CL.fr y c hm)
      rw [hf] at z
      cases z
    · exact Nat.le_of_lt q
  · obtain ⟨m, hn, hm⟩ := Y.ns
    refine ⟨m, hn, fun i y x e1 e2 e3 => ?_⟩
    have e1 : N[i]? = some y := e1
    have e3 : Vis F.scope y := e3
    have clen := C.len
    cases i with
    | zero =>
      have ey : y = p := by
        have q := congrArg (fun l => l[0]?) S.pre
        rw [List.getElem?_take_of_lt (by omega), e1] at q
        exact Option.some.inj q
      subst ey
      have ex : x = v := (Option.some.inj (Option.some.inj e2)).symm
      subst ex
      refine ⟨u, r, ?_⟩
      rcases S.par with k | k
      · exact .inl ⟨k, hm k⟩
      · obtain ⟨c, hc⟩ := Option.isSome_iff_exists.mp (PySem.W.cellsFrom_some F.scope.names (s.heap.objs.size + 1) F.cl (.inl k))
        exact .inr ⟨.inl k, c, hc, Y.pc c k hc⟩
    | succ i =>
      have e2 : (ws ++ List.replicate (N.length - 1 - ws.length) (none : Option V))[i]? = some (some x) := e2
      by_cases h2 : i < fr.length
      · have hq : fr[i]? = some y := by
          have q := congrArg (fun l => l[i + 1]?) S.pre
          rw [List.getElem?_take_of_lt (by omega), e1, List.getElem?_cons_succ] at q
          exact q.symm
        rw [List.getElem?_append_left (by omega)] at e2
        obtain ⟨c, hc, hv⟩ := C.has i y hq
        obtain ⟨u', ru, hu⟩ := hv x e2
        have hfree := S.frk y (List.mem_of_getElem? hq)
        obtain ⟨c2, hc2⟩ := mem_lookup (cells_acc (names := F.scope.names) (n := s.heap.objs.size + 1) (PySem.mem_of_lookup hc))
        have ec : c2 = c := by
          rcases Y.cells y c2 (PySem.mem_of_lookup hc2) with hm2 | ⟨q, _⟩
          · have q := CL.fn y c2 hm2
            rw [hc] at q
            exact (Option.some.inj q).symm
          · rw [hfree] at q
            cases q
        rw [ec] at hc2
        exact ⟨u', ru, .inr ⟨.inr hfree, c, hc2, cellK hu⟩⟩
      · rw [List.getElem?_append_right (by omega), List.getElem?_replicate] at e2
        split at e2 <;> cases e2
  · have e : (cellsFrom (s.heap.objs.size + 1) F.scope.names F.cl).lookup y = some c := e
    rcases Y.cells y c (PySem.mem_of_lookup e) with hm | ⟨_, _, z⟩
    · obtain ⟨_, z, hz⟩ := C.all y c (CL.fn y c hm)
      exact ⟨z, cellK hz⟩
    · exact z
  · have e : (cellsFrom (s.heap.objs.size + 1) F.scope.names F.cl).lookup y = some c := e
    rcases Y.cells y c (PySem.mem_of_lookup e) with hm | ⟨_, q, _⟩
    · exact (C.all y c (CL.fn y c hm)).1
    · exact e0.hok.fresh (Nat.le_of_lt q)
  · have clen := C.len
    show (startL N v ws).length = N.length
    unfold startL
    rw [List.length_cons, List.length_append, List.length_replicate]
    omega

/-- the environment of the call -/
theorem env_lam {Q : Env → Shared → Prop} {EE : Value → Shared → Prop} (S : LScope N p fr F.scope) (C : CellsAt F.cl fr ws s.heap H) (CL : ClOk F.cl F.scope)
    (hQ : ∀ h1, Laid F p u s.heap.objs.size s.heap h1 → Q (envL F f s.heap.objs.size) { s with heap := h1, toks := s.toks + 1 } ∧ Q (envL F f s.heap.objs.size) { s with heap := h1 }) :
    wpAny (model P w) A (newFunctionEnv F.scope mainGlobals F.cl [(p, u)] (F.qual ++ ".<locals>.") (some f) (.ref F.c) none builtinsNs) Q EE s := by
  simp only [newFunctionEnv, Option.isSome_none, Bool.false_eq_true, if_false]
  refine wpAny_bind (wpAny_alloc ?_)
  refine wpAny_bind (wpAny_layCells _ (fun name kind cells => by cases hkc : kind == NameKind.cell <;> simp [hkc]) _ _ _ _ ?_)
  have esz : (s.heap.push { cls := .type "frame", data := .dict #[] }).objs.size = s.heap.objs.size + 1 := Heap.size_push ..
  rw [show ({ s with heap := s.heap.push { cls := .type "frame", data := .dict #[] } } : Shared).heap.objs.size = s.heap.objs.size + 1 from esz]
  have kp : ∀ b o, s.heap.get? b = some o → (pushCells (s.heap.push { cls := .type "frame", data := .dict #[] }) F.scope.names).get? b = some o := fun b o e => pushCells_keeps _ _ b o (Heap.get?_push_of_some _ e)
  have ns0 : (pushCells (s.heap.push { cls := .type "frame", data := .dict #[] }) F.scope.names).Ns s.heap.objs.size (fun _ => none) := (Heap.Ns.new s.heap (.type "frame")).keeps (pushCells_keeps _ _)
  have cm : ∀ y c, (y, c) ∈ cellsFrom (s.heap.objs.size + 1) F.scope.names F.cl → (y, c) ∈ F.cl ∨ (F.scope.names.lookup y = some .cell ∧ s.heap.objs.size < c ∧ (pushCells (s.heap.push { cls := .type "frame", data := .dict #[] }) F.scope.names).IsCell c none) := fun y c hm => by
    rw [← esz] at hm
    rcases cells_mem hm with z | ⟨z1, z2, z3⟩
    · exact .inl z
    · exact .inr ⟨S.uniq _ z1, by rw [esz] at z2; exact z2, z3⟩
  simp only [List.forIn_cons, List.forIn_nil]
  rcases S.par with k | k
  · refine wpAny_bind (wpAny_bind (wpAny_bind (wpAny_storeName_local k ns0 (fun h' hn' hs' => wpAny_pure ?_) (by rw [S.kind]; rfl))))
    refine wpAny_pure (wpAny_pure ?_)
    refine (hQ h' ⟨fun b o e => ?_, ⟨_, hn', fun _ => by simp⟩, fun y c hm => ?_, fun c z _ => by rw [k] at z; cases z⟩).1
    · exact hs'.extBut b o (Nat.ne_of_lt (Heap.lt_size e)) (kp b o e)
    · rcases cm y c hm with z | ⟨z1, z2, z3⟩
      · exact .inl z
      · exact .inr ⟨z1, z2, none, z3.sameBut hs' (Nat.ne_of_gt z2)⟩
  · obtain ⟨c0, hc0⟩ := Option.isSome_iff_exists.mp (PySem.W.cellsFrom_some F.scope.names (s.heap.objs.size + 1) F.cl (.inl k))
    have h0 : s.heap.objs.size < c0 ∧ (pushCells (s.heap.push { cls := .type "frame", data := .dict #[] }) F.scope.names).IsCell c0 none := by
      rcases cm p c0 (PySem.mem_of_lookup hc0) with z | ⟨_, z2, z3⟩
      · have q := S.uniq _ (CL.fr _ _ z)
        rw [k] at q
        cases q
      · exact ⟨z2, z3⟩
    refine wpAny_bind (wpAny_bind (wpAny_bind (wpAny_storeName_cell S.kind k hc0 h0.2 fun h' hc' hs' => wpAny_pure ?_)))
    refine wpAny_pure (wpAny_pure ?_)
    refine (hQ h' ⟨fun b o e => ?_, ⟨_, ns0.sameBut hs' (Nat.ne_of_lt h0.1), fun z => by rw [k] at z; cases z⟩, fun y c hm => ?_, fun c _ z => ?_⟩).2
    · exact hs'.extBut b o (Nat.ne_of_lt (Nat.lt_trans (Heap.lt_size e) h0.1)) (kp b o e)
    · rcases cm y c hm with z | ⟨z1, z2, z3⟩
      · exact .inl z
      · refine .inr ⟨z1, z2, ?_⟩
        by_cases ec : c = c0
        · rw [ec]
          exact ⟨_, hc'⟩
        · exact ⟨none, z3.sameBut hs' ec⟩
    · rw [hc0] at z
      cases z
      exact hc'
end
end VL
namespace VL
open PySem PySem.Spec PyProof.Rows L2 LamX NdefX
/-- the lambda at f keeps the promise sp (of what it captured and of its argument) -/
structure LamOk (P : Program) (w : World) (K : PySem.W.Frag) (mg : Str → Option Value) (base : Heap) (CX : CXT) (k : Nat) (f : Addr) (F : LF) (fr : List Str) (sp : List (Option V) → V → Hp → VK → XK → Prop) : Prop where
  run : ∀ (A : Around) (outer : List Env) (s : Shared) (H : Hp) (u : Value) (v : V) (ws : List (Option V)) (Q : VK) (E : XK), Room k A → Env0 P w K mg base A outer s H → H f = some (LamO f F) → H F.c = some (CodeO F.c F.qual) →
    CellsAt F.cl fr ws s.heap H → L2.RelV v u → sp ws v H Q E → codeAny (model P w) A (.call (.ref f) ⟨[u], []⟩) (CR CX outer P w H s Q E) s
section
variable {CX : CXT} {P : Program} {w : World} {K : PySem.W.Frag} {mg : Str → Option Value} {base : Heap} {N fr : List Str} {p : Str} {F : LF} {f : Addr} {k : Nat} {sp : List (Option V) → V → Hp → VK → XK → Prop}
theorem lamOk_of (S : LScope N p fr F.scope) (CL : ClOk F.cl F.scope) (hb : ∀ (pm ctv u : Value), bindArgs (PySem.W.kla_fn "<lambda>" F.qual F.params F.body F.scope F.cl pm (.ref F.c) ctv) ⟨[u], []⟩ = pure [(p, u)])
    (hbody : ∀ (A : Around) (outer : List Env) (s : Shared) (H : Hp) (v : V) (ws : List (Option V)) (Q : VK) (E : XK), Room k (A.deeper (envL F f s.heap.objs.size)) → ws.length = fr.length → sp ws v H Q E →
      ∃ t, PE (lcx CX P w K mg base N F f A outer s H E) F.body t ∧ t (startL N v ws) H Q) :
    LamOk P w K mg base CX (k + 1) f F fr sp := by
  refine ⟨fun A outer s H u v ws Q E hr e0 hf hc C r hsp => ?_⟩
  have lim : s.heap.NoLimit := e0.mod.nolimit.keeps fun b o e => (e0.bs b o e).1
  obtain ⟨od, sl, pm, ctv, ho⟩ := lamO_at e0.hok hf
  refine PySem.W.kla_callFunE hr.depth ho rfl S.co S.gen rfl (codeO_at e0.hok hc) ?_
  rw [hb pm ctv u]
  obtain ⟨t, ht, hq⟩ := hbody A outer s H v ws Q E (hr.deeper _) C.len hsp
  have main : ∀ (h1 : Heap) (tk : Nat), Laid F p u s.heap.objs.size s.heap h1 →
      (({ s with heap := h1, toks := tk } : Shared).heap.NoLimit ∧ codeAny (model P w) A (.expr F.body (envL F f s.heap.objs.size)) (CR CX outer P w H s Q E) { s with heap := h1, toks := tk }) := fun h1 tk Y => by
    refine ⟨lim.keeps Y.keep, ?_⟩
    have I : Inv (lcx CX P w K mg base N F f A outer s H E) [] (startL N v ws) H { s with heap := h1, toks := tk } := inv_lstart S CL hr.hd e0 r C Y
    refine PySem.W.kla_codeExpr (wpAny_mono (ht.run [] _ (startL N v ws) H Q I hq) (fun v' s' hs => ?_) fun e s' hs => hs)
    obtain ⟨w', H', J', rv, q⟩ := hs
    exact ⟨w', H', J'.os, J'.bare, J'.base, J'.hok, rv, q⟩
  exact wpAny_pure (env_lam S C CL fun h1 Y => ⟨main h1 _ Y, main h1 _ Y⟩)
end
/-- the captured cells, seen from a def that got the lambda and was entered at (s_0, H_0) -/
theorem cells_later {X : Cx} {pins : List (Addr × Obj)} {σ : L2.St} {H : Hp} {s : Shared} {cl : List (Str × Addr)} {fr : List Str} {ws : List (Option V)} (I : Inv X pins σ H s) (hex : X.ex = []) (C : CellsAt cl fr ws X.s_0.heap X.H_0) : CellsAt cl fr ws s.heap H := by
  have nx : ∀ b : Addr, b ∉ X.ex := fun b z => by rw [hex] at z; cases z
  have kp : ∀ {c : Addr} {v : Option Value}, X.H_0 c = none → X.s_0.heap.IsCell c v → s.heap.IsCell c v := fun {c v} n ⟨o, ho, hd⟩ => by
    obtain ⟨sl, q⟩ := I.base.any ho n (nx c)
    exact ⟨_, q, hd⟩
  refine ⟨C.len, fun y c e => ?_, C.inj, fun i y e => ?_⟩
  · obtain ⟨n, v, z⟩ := C.all y c e
    have ⟨o, ho, hd⟩ := z
    exact ⟨I.base.free c o ho n (nx c), v, kp n z⟩
  · obtain ⟨c, hc, hv⟩ := C.has i y e
    refine ⟨c, hc, fun v ev => ?_⟩
    obtain ⟨u, r, z⟩ := hv v ev
    exact ⟨u, r, kp (C.all y c hc).1 z⟩
/-- x(e): the slot i holds the lambda -/
def tCallL (F : LF) (i : Nat) (sp : V → Hp → VK → XK → Prop) (E : XK) (t : TA) : TE := fun σ H Q => ∃ f, σ[i]? = some (some (.ref f)) ∧ H f = some (LamO f F) ∧ t σ H fun vs H1 => ∃ v, vs = [v] ∧ H1 f = some (LamO f F) ∧ H1 F.c = some (CodeO F.c F.qual) ∧ sp v H1 Q E
section
variable {X : Cx} {CX : CXT} {F : LF} {fr : List Str} {ws : List (Option V)} {i j k : Nat} {x : Str} {sp : List (Option V) → V → Hp → VK → XK → Prop} {E : XK} {t : TA} {e : Expr} {es : List Expr} {p pos : Pos}
theorem pe_callL (Fn : ∀ f, LamOk X.prog X.w X.K X.mg X.base CX k f F fr sp) (C : CellsAt F.cl fr ws X.s_0.heap X.H_0) (hex : X.ex = []) (hr : Room j X.A) (hk : k ≤ j) (hx : Passes CX X E) (hN : X.N[i]? = some x) (hv : Vis X.env.scope x) (ha : PA X [e] t)
    (hd : (x == ("__debug__" : Str)) = false := by decide) (hcd : (x == ("__classdict__" : Str)) = false := by decide)
    (he : starEach [e] X.env = (false, eval e X.env) :: starEach [] X.env := by rfl) (hpl : (backTo pos (starEach [] X.env)).any (·.1) = false := by rfl) :
    PE X (.Call (.Name x p) [e] [] pos) (tCallL F i (sp ws) E t) := by
  refine ⟨fun pins s σ H Q I h => ?_⟩
  obtain ⟨f, hs, hf, ht⟩ := h
  refine wpAny_Call_Name_kw (thn ((pe_var (pos := p) hN hv hd hcd).run pins s σ H (fun v H1 => v = .ref f ∧ H1 = H) I ⟨.ref f, hs, rfl, rfl⟩) fun u s1 ⟨v, H1, I1, r1, q1⟩ => ?_)
  obtain ⟨ev, eH⟩ := q1
  subst ev
  rw [eH] at I1
  obtain rfl : u = Value.ref f := r1
  have at_ : ∀ {H2 : Hp} {s2 : Shared}, Inv X pins σ H2 s2 → H2 f = some (LamO f F) → PySem.W.FnAt f s2.heap := fun {H2 s2} I2 e2 => by
    obtain ⟨od, sl, pm, ctv, ho⟩ := lamO_at I2.hok e2
    exact ⟨_, od, _, sl, ho⟩
  refine PySem.W.callWith_F (first := []) (at_ I1 hf) (thn (ha.run pos pins s1 σ H _ I1 ht) fun us s2 ⟨vs, H2, I2, r, v, ev, h1, h2, q⟩ => ⟨at_ I2 h1, ?_⟩) he hpl
  subst ev
  obtain ⟨u0, rfl, rv⟩ : ∃ u0, us = [u0] ∧ L2.RelV v u0 := by
    cases r with
    | cons rv rt =>
      cases rt
      exact ⟨_, rfl, rv⟩
  · show wpAny _ _ (call (.ref f) [u0]) _ _ _
    refine wpAny_call (codeAny_mono ((Fn f).run X.A X.stack s2 H2 u0 v ws Q E (hr.mono hk) I2.env0 h1 h2 (cells_later I2 hex C) rv q) fun r s' hq => ?_)
    cases r with
    | error e => exact hx pins σ H2 s2 e s' I2 hq
    | ok fl =>
      cases fl with
      | ret u => exact I2.after hq
      | next => exact False.elim hq
      | brk => exact False.elim hq
      | cont => exact False.elim hq
end
/-- a def's promise that may speak of the state at the call -/
structure FnOkS (P : Program) (w : World) (K : PySem.W.Frag) (mg : Str → Option Value) (base : Heap) (CX : CXT) (k : Nat) (f : Addr) (fd : FuncData) (ps : List Str) (sp : Shared → Sp) : Prop where
  len : ∀ s vs H Q E, sp s vs H Q E → vs.length = ps.length
  run : ∀ (A : Around) (outer : List Env) (s : Shared) (H : Hp) (args : Args) (us : List Value) (vs : List V) (Q : VK) (E : XK), Room k A → Env0 P w K mg base A outer s H → BindsTo s fd args (ps.zip us) → Vals vs us → sp s vs H Q E →
    codeAny (model P w) A (.call (.ref f) args) (CR CX outer P w H s Q E) s
section
variable {P : Program} {w : World} {K : PySem.W.Frag} {mg : Str → Option Value} {base : Heap}
theorem okS {CX : CXT} {x qual : Str} {st : Stmt} {f : Addr} {fd : FuncData} {N ps : List Str} {k : Nat} {sp : Shared → Sp} (F : Fun K x qual st f fd) (S : FnScope N ps (defScope st)) (len : ∀ s vs H Q E, sp s vs H Q E → vs.length = ps.length)
    (hbody : ∀ (cdv : Value) (A : Around) (outer : List Env) (s : Shared) (H : Hp) (vs : List V) (Q : VK) (E : XK), Room k (A.deeper (envOfC qual (defScope st) s.heap.objs.size f cdv)) → sp s vs H Q E →
      ∃ t, PSs (cxOf CX P w K mg base N qual (defScope st) f cdv A outer s H E) (defBody st) t ∧ t { nx := fun _ H' => Q .non H', rt := Q } (start N vs) H) : FnOkS P w K mg base CX (k + 1) f fd ps sp := by
  obtain ⟨oc, od, kV, doc, pm, an, cdv, ct, osl, rfl, lk, hcd⟩ := F.ex
  exact ⟨len, fun A outer s H args us vs Q E hr e0 hb r hsp => run_ofS lk hcd S hr e0 hb r (len _ _ _ _ _ hsp) fun hr' => hbody cdv A outer s H vs Q E hr' hsp⟩
end
def tCallSt (X : Cx) (sp : Shared → Sp) (E : XK) (t : TA) : TE := fun σ H Q => t σ H fun vs H1 => ∀ (pins : List (Addr × Obj)) (s : Shared), Inv X pins σ H1 s → sp s vs H1 Q E
section
variable {X : Cx} {CX : CXT} {k : Nat} {f : Addr} {fd : FuncData} {ps : List Str} {sp : Shared → Sp} {E : XK} {x : Str} {p pos : Pos} {e : Expr} {es : List Expr} {t : TA}
theorem pe_callSt (F : FnOkS X.prog X.w X.K X.mg X.base CX k f fd ps sp) (hr : Room k X.A) (hg : Gl X x) (hm : X.mg x = some (.ref f)) (hk : PySem.W.keepIn X.K (.ref f) = true) (hb : Binds X.K fd ps []) (hx : Passes CX X E)
    (ha : PA X (e :: es) t) (hdb : (x == ("__debug__" : Str)) = false := by decide) (he : starEach (e :: es) X.env = (false, eval e X.env) :: starEach es X.env := by rfl) (hpl : (backTo pos (starEach es X.env)).any (·.1) = false := by rfl) :
    PE X (.Call (.Name x p) (e :: es) [] pos) (tCallSt X sp E t) := by
  refine ⟨fun pins s σ H Q I h => ?_⟩
  refine wpAny_Call_Name_kw (ld_glob I hg hm ?_ hdb)
  refine PySem.W.callWith_K (h₀ := X.base) I.ok.mod.kin hk (thn (ha.run pos pins s σ H _ I h) fun us s1 ⟨vs, H1, I1, r, q⟩ => ⟨I1.kIn, ?_⟩) he hpl
  have q1 := q pins s1 I1
  have hl : us.length = ps.length := by rw [← r.length]; exact F.len _ _ _ _ _ q1
  have hb1 := hb s1 us I1.kIn (by rw [List.append_nil]; exact hl)
  rw [List.append_nil] at hb1
  show wpAny _ _ (call (.ref f) us) _ _ _
  refine wpAny_call (codeAny_mono (F.run X.A X.stack s1 H1 ⟨us, []⟩ us vs Q E hr I1.env0 hb1 r q1) fun r s' hq => ?_)
  cases r with
  | error e => exact hx pins σ H1 s1 e s' I1 hq
  | ok fl =>
    cases fl with
    | ret u => exact I1.after hq
    | next => exact False.elim hq
    | brk => exact False.elim hq
    | cont => exact False.elim hq
end
/-- a statement that no way reaches -/
theorem ps_dead {X : Cx} {st : Stmt} : PS X st (fun _ _ _ => False) := ⟨fun _ _ _ _ _ _ h => h.elim⟩
end VL
namespace VL
open PySem PySem.Spec PyProof.Rows L2 LamX NdefX
def lscB (N : List Str) (p : Str) (fr : List Str) (sc : Scope) : Bool :=
  decide (sc.kind = .function) && !sc.isCoroutine && !sc.isGenerator && decide N.Nodup && decide (N.take (1 + fr.length) = p :: fr) && (decide (sc.names.lookup p = some .local) || decide (sc.names.lookup p = some .cell)) &&
    sc.names.all (fun y => decide (sc.names.lookup y.1 = some y.2)) && sc.names.all (fun y => !decide (y.2 = .cell) || decide (y.1 = p)) && sc.names.all (fun y => !decide (y.2 = .free) || decide (y.1 ∈ fr)) && fr.all (fun x => decide (sc.names.lookup x = some .free))
theorem lscope_by {N : List Str} {p : Str} {fr : List Str} {sc : Scope} (h : lscB N p fr sc = true) : LScope N p fr sc := by
  unfold lscB at h
  simp only [Bool.and_eq_true, Bool.or_eq_true, Bool.not_eq_true', decide_eq_true_eq, decide_eq_false_iff_not, List.all_eq_true] at h
  obtain ⟨⟨⟨⟨⟨⟨⟨⟨⟨h1, h2⟩, h3⟩, h4⟩, h5⟩, h6⟩, h7⟩, h8⟩, h9⟩, h10⟩ := h
  exact ⟨h1, h2, h3, h4, h5, h6, h7, fun y hy e => (h8 y hy).elim (fun z => absurd e z) id, fun y hy e => (h9 y hy).elim (fun z => absurd e z) id, h10⟩
/-- each free name of the inner scope is one that the outer scope has -/
def freeB (sc scope : Scope) : Bool := scope.names.all fun y => !decide (y.2 = .free) || decide (sc.names.lookup y.1 = some .cell) || decide (sc.names.lookup y.1 = some .free)
theorem free_by {sc scope : Scope} (h : freeB sc scope = true) : ∀ y ∈ scope.names, y.2 = .free → sc.names.lookup y.1 = some .cell ∨ sc.names.lookup y.1 = some .free := fun y hy e => by
  unfold freeB at h
  simp only [List.all_eq_true, Bool.or_eq_true, Bool.not_eq_true', decide_eq_false_iff_not, decide_eq_true_eq] at h
  rcases h y hy with (z | z) | z
  · exact absurd e z
  · exact .inl z
  · exact .inr z
end VL
namespace KX
open PySem PySem.Spec PyProof.Rows L2
/-! ### what the top leaves: built-in names -/
structure Blt (mg : Str → Option Value) : Prop where
  len : mg "len" = none
  int : mg "int" = none
  range : mg "range" = none
  isinstance : mg "isinstance" = none
  tuple : mg "tuple" = none
  list : mg "list" = none
  set : mg "set" = none
  sorted : mg "sorted" = none
  all : mg "all" = none
  enumerate : mg "enumerate" = none
section
variable {P : Program} {w : World} {K : PySem.W.Frag} {mg : Str → Option Value} {base : Heap}
/-! ### _law_cell, _law_pool, _law_draw -/
def spCellV (K : PySem.W.Frag) : Sp := fun vs H Q _ => ∃ (a : Addr) (ns : List Int) (k : Nat), vs = [.ref a, .int k] ∧ SqL K H a (ns.map V.int) ∧ ∀ z : Int, Q (.int z) H
theorem sc_pool : FnScope ["_law_cell_here", "_law_rest"] ["_law_cell_here"] (defScope s_law_pool) := ⟨rfl, rfl, rfl, by decide +kernel, rfl, by decide +kernel, by decide +kernel⟩
/-- a pool stands at p -/
def PoolAt (H : Hp) (p : Addr) : Prop := ∃ x y z : Int, H p = some (.lst [.int x, .int y, .int z])
def spPool : Sp := fun vs H Q _ => ∃ z : Int, vs = [.int z] ∧ ∀ (p : Addr) (x y z : Int), H p = none → Q (.ref p) (upd H p (.lst [.int x, .int y, .int z]))
theorem ok_pool {f : Addr} {fd : FuncData} (F : Fun K "_law_pool" "_law_pool" s_law_pool f fd) (B : Blt mg) : FnOk P w K mg base CX0 1 f fd ["_law_cell_here"] spPool := by
  refine F.ok sc_pool (fun vs H Q E h => ?_) (fun cdv A outer s H vs Q E hr h => ?_)
  · obtain ⟨z, rfl, _⟩ := h
    rfl
  · obtain ⟨z, rfl, q⟩ := h
    refine ⟨_, pss_cons (ps_set (i := 1) sc_pool.nd rfl (.inl rfl) pe_int)
      (pss_cons (ps_if (pt_cmpR op_ge (pv 0) (pe_op op_pow pe_int pe_int) (nomark _)) (pss_one (ps_set (i := 1) sc_pool.nd rfl (.inl rfl) (pv 0))) pss_nil)
      (pss_one (ps_ret (pe_lst (pa_cons (pe_op op_mod (pe_callTy call_int1 (by rfl) B.int (by decide +kernel) (pa_cons (pv 0) pa_nil)) pe_int) (pa_cons (pv 1) (pa_cons pe_int pa_nil))))))), ?_⟩
    have fin : ∀ (b : Int), (fun (D : Ends) (σ : L2.St) (H : Hp) => (tRet (tLst (tCons (tOp (rI (fun _ j => 0 < j) fun i j => .int (i % j)) (tCB (fun xs H Q => (∃ i, xs = [V.int i] ∧ Q (.int i) H) ∨ ∃ k, xs = [.bl k] ∧ Q (.int (if k then 1 else 0)) H) (tCons (tVar 0) tNil)) (tC (.int 2147483629))) (tCons (tVar 1) (tCons (tC (.int 0)) tNil))))) D σ H) { nx := fun _ H' => Q .non H', rt := Q } [some (.int z), some (.int b)] H := fun b => by
      exact ⟨_, rfl, .inl ⟨_, rfl, _, _, rfl, rfl, by show (0 : Int) < 2147483629; decide, _, rfl, by show 3 ≤ sizeLine; decide, fun l hl => q l _ _ _ hl⟩⟩
    refine ⟨_, rfl, _, _, rfl, rfl, ?_, _, _, rfl, rfl, _, rfl, ite2 (fun e => ?_) (fun e => ?_)⟩
    · exact ⟨by decide, by decide, by decide⟩
    · exact ⟨_, rfl, fin z⟩
    · exact fin 0
theorem sc_draw : FnScope ["_law_pool_here", "_law_many", "_law_digit", "_law_number"] ["_law_pool_here", "_law_many"] (defScope s_law_draw) := ⟨rfl, rfl, rfl, by decide +kernel, rfl, by decide +kernel, by decide +kernel⟩
def spDraw : Sp := fun vs H Q _ => ∃ (p : Addr) (m : Int), vs = [.ref p, .int m] ∧ PoolAt H p ∧ 0 < m ∧ m < 2 ^ 64 ∧ ∀ d x y z : Int, 0 ≤ d → d < m → Q (.int d) (upd H p (.lst [.int x, .int y, .int z]))
theorem upd_upd {H : Hp} {p : Addr} {o o' : HO} : upd (upd H p o) p o' = upd H p o' := by
  funext b
  unfold upd
  by_cases e : b = p
  · rw [if_pos e, if_pos e]
  · rw [if_neg e, if_neg e, if_neg e]
theorem emod_lt64 {x m : Int} (h : 0 < m) (hm : m < 2 ^ 64) : -(2 ^ 64) < x % m ∧ x % m < 2 ^ 64 := by
  have h1 := Int.emod_nonneg x (by omega : m ≠ 0)
  have h2 := Int.emod_lt_of_pos x h
  omega
theorem ok_draw {f : Addr} {fd : FuncData} (F : Fun K "_law_draw" "_law_draw" s_law_draw f fd) (B : Blt mg) : FnOk P w K mg base CX0 1 f fd ["_law_pool_here", "_law_many"] spDraw := by
  refine F.ok sc_draw (fun vs H Q E h => ?_) (fun cdv A outer s H vs Q E hr h => ?_)
  · obtain ⟨p, m, rfl, _⟩ := h
    rfl
  · obtain ⟨p, m, rfl, ⟨x, y, z, hp⟩, h0, h1, q⟩ := h
    refine ⟨_, pss_cons (ps_asg (pe_op op_add (pe_ix ix_list (pv 0) pe_int (fun _ _ => rfl)) pe_int) (pg_sub (pv 0) pe_int set_list))
      (pss_cons (ps_if (pt_cmpR op_gt (pe_ix ix_list (pv 0) pe_int (fun _ _ => rfl)) pe_int (nomark _))
        (pss_cons (ps_set (i := 2) sc_draw.nd rfl (.inl rfl) (pe_op op_mod (pe_callTy call_int1 (by rfl) B.int (by decide +kernel) (pa_cons (pe_ix ix_list (pv 0) pe_int (fun _ _ => rfl)) pa_nil)) (pv 1)))
        (pss_cons (ps_asg (pe_op op_fdivW (pe_ix ix_list (pv 0) pe_int (fun _ _ => rfl)) (pv 1)) (pg_sub (pv 0) pe_int set_list))
        (pss_one (ps_ret (pv 2))))) pss_nil)
      (pss_cons (ps_set (i := 3) sc_draw.nd rfl (.inl rfl) (pe_op op_mod (pe_callTy call_int1 (by rfl) B.int (by decide +kernel) (pa_cons (pe_op op_mul (pe_op op_add (pe_op op_add (pe_ix ix_list (pv 0) pe_int (fun _ _ => rfl)) (pe_op op_mul pe_int (pe_ix ix_list (pv 0) pe_int (fun _ _ => rfl)))) pe_int) pe_int) pa_nil)) pe_int))
      (pss_cons (ps_set (i := 3) sc_draw.nd rfl (.inl rfl) (pe_op op_mod (pe_callTy call_int1 (by rfl) B.int (by decide +kernel) (pa_cons (pe_op op_mul (pv 3) (pe_op op_add (pe_op op_fdiv (pv 3) pe_int) pe_int)) pa_nil)) pe_int))
      (pss_cons (ps_set (i := 3) sc_draw.nd rfl (.inl rfl) (pe_op op_mod (pe_callTy call_int1 (by rfl) B.int (by decide +kernel) (pa_cons (pe_op op_mul (pv 3) (pe_op op_add (pe_op op_fdiv (pv 3) pe_int) pe_int)) pa_nil)) pe_int))
      (pss_one (ps_ret (pe_op op_mod (pe_callTy call_int1 (by rfl) B.int (by decide +kernel) (pa_cons (pe_op op_fdiv (pv 3) pe_int) pa_nil)) (pv 1)))))))), ?_⟩
    -- pool[2] = pool[2] + 1
    refine ⟨_, rfl, p, _, _, .int z, rfl, rfl, .inl (.inl hp), atI_nat (j := 2) rfl, _, _, rfl, rfl, ?_⟩
    refine ⟨_, rfl, p, _, _, 2, rfl, rfl, hp, rfl, ?_⟩
    have hp1 : upd H p (.lst [.int x, .int y, .int (z + 1)]) p = some (.lst [.int x, .int y, .int (z + 1)]) := upd_same
    -- if pool[1] > 0
    refine ⟨_, rfl, p, _, _, .int y, rfl, rfl, .inl (.inl hp1), atI_nat (j := 1) rfl, _, _, rfl, rfl, _, rfl, ite2 (fun e => ?_) (fun e => ?_)⟩
    · refine ⟨_, rfl, p, _, _, .int y, rfl, rfl, .inl (.inl hp1), atI_nat (j := 1) rfl, .inl ⟨_, rfl, _, rfl, _, _, rfl, rfl, h0, ?_⟩⟩
      refine ⟨_, rfl, p, _, _, .int y, rfl, rfl, .inl (.inl hp1), atI_nat (j := 1) rfl, _, rfl, _, _, rfl, rfl, wide_div (b := 64) h0 (by omega) (by decide) (by decide), ?_⟩
      refine ⟨_, rfl, p, _, _, 1, rfl, rfl, hp1, rfl, _, rfl, ?_⟩
      rw [upd_upd]
      exact q _ _ _ _ (Int.emod_nonneg y (by omega)) (Int.emod_lt_of_pos y h0)
    · refine ⟨_, rfl, p, _, _, .int x, rfl, rfl, .inl (.inl hp1), atI_nat (j := 0) rfl, _, rfl, p, _, _, .int (z + 1), rfl, rfl, .inl (.inl hp1), atI_nat (j := 2) rfl, _, _, rfl, rfl, .inl ⟨by decide, by decide⟩, _, _, rfl, rfl, _, _, rfl, rfl, _, _, rfl, rfl, .inr ⟨by decide, by decide⟩, .inl ⟨_, rfl, _, _, rfl, rfl, by show (0 : Int) < 2147483647; decide, ?_⟩⟩
      refine ⟨_, rfl, _, rfl, _, _, rfl, rfl, ⟨by decide, by decide⟩, _, _, rfl, rfl, _, _, rfl, rfl, .inl (emod_lt64 (by decide) (by decide)), .inl ⟨_, rfl, _, _, rfl, rfl, by show (0 : Int) < 2147483647; decide, ?_⟩⟩
      refine ⟨_, rfl, _, rfl, _, _, rfl, rfl, ⟨by decide, by decide⟩, _, _, rfl, rfl, _, _, rfl, rfl, .inl (emod_lt64 (by decide) (by decide)), .inl ⟨_, rfl, _, _, rfl, rfl, by show (0 : Int) < 2147483399; decide, ?_⟩⟩
      refine ⟨_, rfl, _, _, rfl, rfl, ⟨by decide, by decide⟩, .inl ⟨_, rfl, _, rfl, _, _, rfl, rfl, h0, ?_⟩⟩
      exact q _ _ _ _ (Int.emod_nonneg _ (by omega)) (Int.emod_lt_of_pos _ h0)
end
end KX
namespace KX
open PySem PySem.Spec PyProof.Rows L2
/-! ### _law_name -/
/-- 1 to 12 letters from a to z -/
structure NameOk (z : Str) : Prop where
  lo : 1 ≤ z.cps.toList.length
  hi : z.cps.toList.length ≤ 12
  az : ∀ c ∈ z.cps.toList, 97 ≤ c ∧ c ≤ 122
theorem cps_app (x y : Str) : (x ++ y).cps.toList = x.cps.toList ++ y.cps.toList := PyProof.Rows.cps_toList_append x y
theorem len_cps (x : Str) : x.length = x.cps.toList.length := by
  show x.cps.size = _
  rw [Array.length_toList]
theorem p26 (l : Nat) (h : l < 12) : (26 : Int) ^ (12 - l) = 26 * 26 ^ (11 - l) := by
  have e : 12 - l = (11 - l) + 1 := by omega
  rw [e, Int.pow_succ, Int.mul_comm]
theorem nil_cps : ("" : Str).cps.toList = [] := by decide +kernel
/-- the number that letters tell -/
def bval : List Nat → Int
  | [] => 0
  | c :: cs => ((c : Int) - 96) * 26 ^ cs.length + bval cs
/-- between two turns of the loop of _law_name: the letters so far and what is left -/
structure NmInv (z : Str) (r : Int) : Prop where
  lo : 0 ≤ r
  le : z.cps.toList.length ≤ 12
  up : r ≤ 26 ^ (12 - z.cps.toList.length)
  st : 0 < z.cps.toList.length → r < 26 ^ (12 - z.cps.toList.length)
  az : ∀ c ∈ z.cps.toList, 97 ≤ c ∧ c ≤ 122
  one : r = 0 → 1 ≤ z.cps.toList.length
theorem nm_turn {z : Str} {r : Int} {c : Nat} (I : NmInv z r) (h : 0 < r) (hc : 97 ≤ c ∧ c ≤ 122) : NmInv ((⟨#[c]⟩ : Str) ++ z) ((r - 1) / 26) ∧ z.cps.toList.length < 12 := by
  have hl : z.cps.toList.length < 12 := by
    have h1 := I.le
    have h2 := I.st
    by_cases e : z.cps.toList.length = 12
    · rw [e] at h2
      have h3 := h2 (by decide)
      simp at h3
      omega
    · omega
  have el : ((⟨#[c]⟩ : Str) ++ z).cps.toList.length = z.cps.toList.length + 1 := by
    rw [cps_app, List.length_append]
    show 1 + _ = _
    omega
  have e2 : (26 : Int) ^ (12 - (z.cps.toList.length + 1)) = 26 ^ (11 - z.cps.toList.length) := by
    congr 1
    omega
  have hlt : (r - 1) / 26 < 26 ^ (11 - z.cps.toList.length) := by
    have h1 := I.up
    rw [p26 _ hl] at h1
    omega
  refine ⟨⟨by omega, by rw [el]; omega, by rw [el, e2]; omega, fun _ => by rw [el, e2]; exact hlt, fun d hd => ?_, fun _ => by rw [el]; omega⟩, hl⟩
  rw [cps_app] at hd
  rcases List.mem_append.mp hd with q | q
  · have q' : d = c := by simpa using q
    rw [q']
    exact hc
  · exact I.az d q
theorem nm_val {n r : Int} {c : Nat} {z : Str} (ec : (c : Int) = 97 + (r - 1) % 26) (ev : n + 1 = r * 26 ^ z.cps.toList.length + bval z.cps.toList) :
    n + 1 = (r - 1) / 26 * 26 ^ ((⟨#[c]⟩ : Str) ++ z).cps.toList.length + bval ((⟨#[c]⟩ : Str) ++ z).cps.toList := by
  rw [cps_app]
  show n + 1 = (r - 1) / 26 * 26 ^ (z.cps.toList.length + 1) + (((c : Int) - 96) * 26 ^ z.cps.toList.length + bval z.cps.toList)
  have e : r = 26 * ((r - 1) / 26) + ((c : Int) - 96) := by omega
  rw [ev, Int.pow_succ]
  generalize (26 : Int) ^ z.cps.toList.length = q
  have : r * q = (r - 1) / 26 * (q * 26) + ((c : Int) - 96) * q := by
    conv => lhs; rw [e]
    rw [Int.add_mul, Int.mul_comm 26, Int.mul_assoc, Int.mul_comm 26 q]
  omega
abbrev abc : Str := "abcdefghijklmnopqrstuvwxyz"
theorem abc_at (i : Int) (h0 : 0 ≤ i) (h1 : i < 26) : ∃ c : Nat, atI abc.cps.toList i = some c ∧ (97 ≤ c ∧ c ≤ 122) ∧ (c : Int) = 97 + i := by
  obtain ⟨n, rfl⟩ := Int.eq_ofNat_of_zero_le h0
  have hn : n < 26 := by omega
  have all : ∀ m, m < 26 → abc.cps.toList[m]? = some (97 + m) := by decide +kernel
  exact ⟨97 + n, atI_nat (all n hn), ⟨by omega, by omega⟩, by omega⟩
section
variable {P : Program} {w : World} {K : PySem.W.Frag} {mg : Str → Option Value} {base : Heap}
theorem sc_name : FnScope ["_law_number", "_law_letters", "_law_left"] ["_law_number"] (defScope s_law_name) := ⟨rfl, rfl, rfl, by decide +kernel, rfl, by decide +kernel, by decide +kernel⟩
def spName : Sp := fun vs H Q _ => ∃ n : Int, vs = [.int n] ∧ 0 ≤ n ∧ n < 26 ^ 12 ∧ ∀ z, NameOk z → bval z.cps.toList = n + 1 → Q (.str z) H
theorem ok_name {f : Addr} {fd : FuncData} (F : Fun K "_law_name" "_law_name" s_law_name f fd) (B : Blt mg) : FnOk P w K mg base CX0 1 f fd ["_law_number"] spName := by
  refine F.ok sc_name (fun vs H Q E h => ?_) (fun cdv A outer s H vs Q E hr h => ?_)
  · obtain ⟨n, rfl, _⟩ := h
    rfl
  · obtain ⟨n, rfl, h0, h1, q⟩ := h
    refine ⟨_, pss_cons (ps_set (i := 1) sc_name.nd rfl (.inl rfl) pe_str)
      (pss_cons (ps_set (i := 2) sc_name.nd rfl (.inl rfl) (pe_op op_add (pv 0) pe_int))
      (pss_cons (ps_while PassesOwn.never (pt_cmpR op_gt (pv 2) pe_int (nomark _))
        (pss_cons (ps_set (i := 2) sc_name.nd rfl (.inl rfl) (pe_op op_sub (pv 2) pe_int))
        (pss_cons (ps_set (i := 1) sc_name.nd rfl (.inl rfl) (pe_op op_add_str (pe_ix ix_str pe_str (pe_op op_mod (pe_callTy call_int1 (by rfl) B.int (by decide +kernel) (pa_cons (pv 2) pa_nil)) pe_int) (fun _ _ => rfl)) (pv 1)))
        (pss_one (ps_set (i := 2) sc_name.nd rfl (.inl rfl) (pe_op op_fdiv (pv 2) pe_int))))))
      (pss_one (ps_ret (pv 1))))), ?_⟩
    refine ⟨_, rfl, _, _, rfl, rfl, fun m σ H2 => ∃ (z : Str) (r : Int), σ = [some (.int n), some (.str z), some (.int r)] ∧ H2 = H ∧ NmInv z r ∧ m = r.toNat ∧ n + 1 = r * 26 ^ z.cps.toList.length + bval z.cps.toList, ⟨_, _, _, rfl, rfl, ?_, rfl, ?_⟩, ?_⟩
    · exact ⟨by omega, by decide, by show n + 1 ≤ 26 ^ 12; omega, fun z => absurd z (by decide), fun c hc => absurd hc (by rw [nil_cps]; exact List.not_mem_nil), fun z => by omega⟩
    · rw [nil_cps]
      show n + 1 = (n + 1) * 26 ^ 0 + 0
      rw [Int.pow_zero]
      omega
    · rintro m σ H2 ⟨z, r, rfl, rfl, I, rfl, ev⟩
      refine ⟨_, rfl, _, _, rfl, rfl, _, rfl, ?_⟩
      by_cases e : 0 < r
      · rw [decide_eq_true e]
        obtain ⟨c, hc, hz, ec⟩ := abc_at ((r - 1) % 26) (Int.emod_nonneg _ (by decide)) (Int.emod_lt_of_pos _ (by decide))
        obtain ⟨I2, hl⟩ := nm_turn I e hz
        refine ⟨fun σ' H' => ∃ (z' : Str) (r' : Int), σ' = [some (.int n), some (.str z'), some (.int r')] ∧ H' = H2 ∧ NmInv z' r' ∧ r'.toNat < r.toNat ∧ n + 1 = r' * 26 ^ z'.cps.toList.length + bval z'.cps.toList, ?_, ?_⟩
        · rintro σ' H' ⟨z', r', rfl, rfl, I', hm, ev'⟩
          exact ⟨_, hm, _, _, rfl, rfl, I', rfl, ev'⟩
        · refine ⟨_, rfl, _, _, rfl, rfl, _, rfl, .inl ⟨_, rfl, _, _, rfl, rfl, by show (0 : Int) < 26; decide, abc, _, c, rfl, rfl, by decide +kernel, hc, _, rfl, _, _, rfl, rfl, ?_, ?_⟩⟩
          · rw [len_cps, len_cps]
            show 1 + _ ≤ sizeLine
            rw [sizeLine_eq]
            omega
          · refine ⟨_, rfl, _, _, rfl, rfl, ⟨by decide, by decide⟩, _, _, rfl, rfl, I2, by omega, ?_⟩
            exact nm_val ec ev
      · rw [decide_eq_false e]
        refine ⟨_, rfl, q z ⟨I.one (by have := I.lo; omega), I.le, I.az⟩ ?_⟩
        have r0 : r = 0 := by have := I.lo; omega
        rw [ev, r0, Int.zero_mul, Int.zero_add]
end
end KX
namespace KX
open PySem PySem.Spec PyProof.Rows L2
/-! ### _law_names -/
/-- what stood stands, but what is at p -/
def SameX (p : Addr) (H H' : Hp) : Prop := ∀ b o, b ≠ p → H b = some o → H' b = some o
theorem SameX.refl {p : Addr} {H : Hp} : SameX p H H := fun _ _ _ e => e
theorem SameX.trans {p : Addr} {H H1 H2 : Hp} (a : SameX p H H1) (b : SameX p H1 H2) : SameX p H H2 := fun c o n e => b c o n (a c o n e)
theorem SameX.at {p : Addr} {H : Hp} {o : HO} : SameX p H (upd H p o) := fun _ _ n e => by rw [upd_ne n]; exact e
theorem SameX.new {p q : Addr} {H : Hp} {o : HO} (h : H q = none) : SameX p H (upd H q o) := fun _ _ _ e => by rw [upd_ne (ne_of_none e h)]; exact e
theorem SameX.of {p : Addr} {H H' : Hp} (h : Same H H') : SameX p H H' := fun _ _ _ e => h _ _ e
/-- what is at p and q may change -/
def SameXX (p q : Addr) (H H' : Hp) : Prop := ∀ b o, b ≠ p → b ≠ q → H b = some o → H' b = some o
def Nm (n : Int) : Prop := 0 ≤ n ∧ n < 26 ^ 12
/-- the number that is tried at the j-th turn: a new one, or all from the first on are taken -/
abbrev nmM : Int := 26 ^ 12
def NmAt (ns : List Int) (j : Nat) (n : Int) : Prop := n ∉ ns ∨ ∃ n0, Nm n0 ∧ n = (n0 + j) % 26 ^ 12 ∧ ∀ t : Nat, t < j → (n0 + t) % 26 ^ 12 ∈ ns
theorem NmAt.start {ns : List Int} {n : Int} (h : Nm n) : NmAt ns 0 n := .inr ⟨n, h, by unfold Nm at h; omega, fun t ht => absurd ht (Nat.not_lt_zero t)⟩
theorem NmAt.step {ns : List Int} {j : Nat} {n : Int} (h : NmAt ns j n) (i : n ∈ ns) : NmAt ns (j + 1) ((n + 1) % 26 ^ 12) := by
  rcases h with h | ⟨n0, h0, e, ht⟩
  · exact absurd i h
  · refine .inr ⟨n0, h0, by omega, fun t hlt => ?_⟩
    by_cases c : t = j
    · subst c
      exact e ▸ i
    · exact ht t (by omega)
theorem nd_lenI : ∀ {fs U : List Int}, fs.Nodup → (∀ x ∈ fs, x ∈ U) → fs.length ≤ U.length
  | [], _, _, _ => Nat.zero_le _
  | x :: r, U, nd, h => by
    obtain ⟨n1, n2⟩ := List.nodup_cons.mp nd
    have hx := h x List.mem_cons_self
    have q := nd_lenI (fs := r) (U := U.erase x) n2 fun y hy => by
      have ne : y ≠ x := fun e => n1 (e ▸ hy)
      exact (List.mem_erase_of_ne ne).mpr (h y (List.mem_cons_of_mem _ hy))
    rw [List.length_erase_of_mem hx] at q
    have := List.length_pos_of_mem hx
    rw [List.length_cons]
    omega
theorem NmAt.new {ns : List Int} {j : Nat} {n : Int} (h : NmAt ns j n) (e : ns.length ≤ j) (_ : ns.Nodup) (hj : j ≤ 1000) : n ∉ ns := by
  rcases h with h | ⟨n0, h0, en, ht⟩
  · exact h
  · intro i
    have nd : ((List.range (j + 1)).map fun t : Nat => (n0 + (t : Int)) % 26 ^ 12).Nodup := by
      refine List.pairwise_map.mpr ?_
      refine List.Pairwise.imp_of_mem ?_ List.nodup_range
      intro a b ha hb ne z
      have ha := List.mem_range.mp ha
      have hb := List.mem_range.mp hb
      omega
    have := nd_lenI (U := ns) nd fun x hx => by
      obtain ⟨t, ht', rfl⟩ := List.mem_map.mp hx
      have := List.mem_range.mp ht'
      by_cases c : t = j
      · subst c
        exact en ▸ i
      · exact ht t (by omega)
    rw [List.length_map, List.length_range] at this
    omega
theorem nd_snoc {α : Type} {l : List α} {x : α} (h : l.Nodup) (n : x ∉ l) : (l ++ [x]).Nodup := List.nodup_append.mpr ⟨h, by simp, fun a ha b hb q => by rw [List.mem_singleton.mp hb] at q; exact n (q ▸ ha)⟩
theorem nd_of_vals {ns : List Int} {zs : List Str} (h : ns.Nodup) (e : zs.map (fun z => bval z.cps.toList) = ns.map (· + 1)) : zs.Nodup := by
  have : (zs.map fun z => bval z.cps.toList).Nodup := by
    rw [e]
    exact List.pairwise_map.mpr (h.imp fun ne z => ne (by omega))
  exact (List.pairwise_map.mp this).imp fun ne z => ne (by rw [z])
theorem inV_intsB {x : Int} : ∀ {ns : List Int}, inV (V.int x) (ns.map V.int) = decide (x ∈ ns)
  | [] => rfl
  | n :: ns => by
    rw [List.map_cons]
    show (eqV (V.int n) (V.int x) || inV (V.int x) (ns.map V.int)) = _
    rw [inV_intsB]
    show (decide (n = x) || _) = _
    simp [List.mem_cons, eq_comm]
theorem in_ints {x : Int} {ns : List Int} (h : inV (V.int x) (ns.map V.int) = true) : x ∈ ns := of_decide_eq_true (inV_intsB ▸ h)
theorem notin_ints {x : Int} {ns : List Int} (h : inV (V.int x) (ns.map V.int) = false) : x ∉ ns := of_decide_eq_false (inV_intsB ▸ h)
section
variable {P : Program} {w : World} {K : PySem.W.Frag} {mg : Str → Option Value} {base : Heap}
theorem sc_names : FnScope ["_law_pool_here", "_law_many", "_law_numbers", "_law_k", "_law_number", "_law_again"] ["_law_pool_here", "_law_many"] (defScope s_law_names) := ⟨rfl, rfl, rfl, by decide +kernel, rfl, by decide +kernel, by decide +kernel⟩
def spNames : Sp := fun vs H Q _ => ∃ (p : Addr) (m : Nat), vs = [.ref p, .int m] ∧ PoolAt H p ∧ m ≤ 1000 ∧
  ∀ (l : Addr) (zs : List Str) (H' : Hp), H l = none → H' l = some (.lst (zs.map V.str)) → (∀ z ∈ zs, NameOk z) → zs.length = m → PoolAt H' p → SameX p H H' → zs.Nodup → Q (.ref l) H'
theorem flat_ints (ns : List Int) : (ns.map V.int).all flatV = true := by
  rw [List.all_map]
  exact List.all_eq_true.mpr fun _ _ => rfl
theorem get_int {ns : List Int} {i : Nat} {y : V} (h : (ns.map V.int)[i]? = some y) : ∃ z, y = .int z ∧ z ∈ ns := by
  rw [List.getElem?_map] at h
  cases e : ns[i]? with
  | none => rw [e] at h; cases h
  | some z => rw [e] at h; exact ⟨z, (Option.some.inj h).symm, List.mem_of_getElem? e⟩
theorem ok_names {f fD fN : Addr} {fd fdD fdN : FuncData} (F : Fun K "_law_names" "_law_names" s_law_names f fd) (B : Blt mg) (FD : Fun K "_law_draw" "_law_draw" s_law_draw fD fdD) (bD : Binds K fdD ["_law_pool_here", "_law_many"] []) (gD : mg "_law_draw" = some (.ref fD))
    (FN : Fun K "_law_name" "_law_name" s_law_name fN fdN) (bN : Binds K fdN ["_law_number"] []) (gN : mg "_law_name" = some (.ref fN)) : FnOk P w K mg base CX0 2 f fd ["_law_pool_here", "_law_many"] spNames := by
  have GD : FnOk P w K mg base CX0 1 fD fdD ["_law_pool_here", "_law_many"] spDraw := ok_draw FD B
  have GN : FnOk P w K mg base CX0 1 fN fdN ["_law_number"] spName := ok_name FN B
  refine F.ok sc_names (fun vs H Q E h => ?_) (fun cdv A outer s H vs Q E hr h => ?_)
  · obtain ⟨p, m, rfl, _⟩ := h
    rfl
  · obtain ⟨p, m, rfl, hp, hm, q⟩ := h
    refine ⟨_, pss_cons (ps_set (i := 2) sc_names.nd rfl (.inl rfl) (pe_lst pa_nil))
      (pss_cons (ps_for PassesOwn.never rfl (pi_range1 rfl B.range (pa_cons (pv 1) pa_nil)) (pg_name (i := 3) sc_names.nd rfl (.inl rfl))
        (pss_cons (ps_set (i := 4) sc_names.nd rfl (.inl rfl) (pe_call GD hr (by rfl) gD FD.kp bD .nil pass0 (pa_cons (pv 0) (pa_cons pe_int pa_nil))))
        (C8.pss_cut (ps_if (pt_cmpR op_eq (pe_call GD hr (by rfl) gD FD.kp bD .nil pass0 (pa_cons (pv 0) (pa_cons pe_int pa_nil))) pe_int (nomark _))
          (pss_one (ps_set (i := 4) sc_names.nd rfl (.inl rfl) (pe_call GD hr (by rfl) gD FD.kp bD .nil pass0 (pa_cons (pv 0) (pa_cons (pe_op op_pow pe_int pe_int) pa_nil))))) pss_nil)
        (pss_cons (ps_for PassesOwn.never rfl (pi_range1 rfl B.range (pa_cons (pv 3) pa_nil)) (pg_name (i := 5) sc_names.nd rfl (.inl rfl))
          (pss_one (ps_if (pt_cmpR op_in_seq (pv 4) (pv 2) rfl)
            (pss_one (ps_set (i := 4) sc_names.nd rfl (.inl rfl) (pe_op op_mod (pe_callTy call_int1 (by rfl) B.int (by decide +kernel) (pa_cons (pe_op op_add (pv 4) pe_int) pa_nil)) (pe_op op_pow pe_int pe_int)))) pss_nil)))
        (pss_one (ps_expr (pe_bm PySem.F.plainAttrs_list PySem.F.slot_list_append PySem.F.type_list_append mt_append (pv 2) (pa_cons (pv 4) pa_nil))))))))
      (pss_one (ps_ret (pe_lc (own := [("_law_number", 4)]) (g := gName 4) (tt := tYes) rfl sc_names.nd (pi_list (pv 2)) (blkOk_by (N := ["_law_pool_here", "_law_many", "_law_numbers", "_law_k", "_law_number", "_law_again"]) (sc := defScope s_law_names) (by decide +kernel))
        (fun _ _ _ _ _ => pg_name (i := 4) sc_names.nd rfl (.inl rfl)) (fun _ _ _ _ _ => pts_nil) (fun _ _ _ _ _ => pe_call GN hr (by rfl) gN FN.kp bN .nil pass0 (pa_cons (pv 4) pa_nil)))))), ?_⟩
    refine ⟨Nat.zero_le _, fun l nl => ?_⟩
    have npl : l ≠ p := by
      obtain ⟨x, y, z, e⟩ := hp
      exact (ne_of_none e nl).symm
    -- for k in range(many)
    refine ⟨_, rfl, m, rfl, by omega, by omega, ?_⟩
    refine for_range (fun i σ H2 => ∃ (ns : List Int) (v3 v4 v5 : Option V), σ = [some (.ref p), some (.int m), some (.ref l), v3, v4, v5] ∧ H2 l = some (.lst (ns.map V.int)) ∧ ns.length = i ∧ (∀ n ∈ ns, Nm n) ∧ PoolAt H2 p ∧ SameX p H H2 ∧ ns.Nodup)
      ⟨[], none, none, none, rfl, upd_same, rfl, (fun n h => by cases h), ?_, SameX.new nl, .nil⟩ ?_ ?_
    · obtain ⟨x, y, z, e⟩ := hp
      exact ⟨x, y, z, by rw [upd_ne npl.symm]; exact e⟩
    · rintro i σ H2 hi ⟨ns, v3, v4, v5, rfl, hl, el, hn, hp2, s2, ndn⟩
      -- number = draw(pool, 26)
      refine ⟨_, rfl, p, 26, rfl, hp2, by decide, by decide, fun d x y z d0 d1 => ?_⟩
      have hp3 : PoolAt (upd H2 p (.lst [.int x, .int y, .int z])) p := ⟨x, y, z, upd_same⟩
      have hl3 : (upd H2 p (.lst [.int x, .int y, .int z])) l = some (.lst (ns.map V.int)) := by rw [upd_ne npl]; exact hl
      -- the rest behind the test
      refine ⟨fun σ H4 => ∃ n : Int, σ = [some (.ref p), some (.int m), some (.ref l), some (.int (0 + (i : Int))), some (.int n), v5] ∧ Nm n ∧ PoolAt H4 p ∧ H4 l = some (.lst (ns.map V.int)) ∧ SameX p H H4, ?_, ?_⟩
      · refine ⟨_, rfl, p, 4, rfl, hp3, by decide, by decide, fun d2 x2 y2 z2 _ _ => ?_⟩
        rw [upd_upd]
        have s4 : ∀ x y z : Int, SameX p H (upd H2 p (.lst [.int x, .int y, .int z])) := fun x y z => s2.trans SameX.at
        have hl4 : ∀ x y z : Int, (upd H2 p (.lst [.int x, .int y, .int z])) l = some (.lst (ns.map V.int)) := fun x y z => by rw [upd_ne npl]; exact hl
        refine ⟨rfl, _, rfl, ite2 (fun e => ?_) (fun e => ?_)⟩
        · refine ⟨_, rfl, _, _, rfl, rfl, ⟨by decide, by decide, by decide⟩, p, _, rfl, ⟨x2, y2, z2, upd_same⟩, by decide, by decide, fun d3 x3 y3 z3 h0 h1 => ?_⟩
          rw [upd_upd]
          exact ⟨d3, rfl, ⟨h0, h1⟩, ⟨x3, y3, z3, upd_same⟩, hl4 _ _ _, s4 _ _ _⟩
        · exact ⟨d, rfl, ⟨d0, Int.lt_trans d1 (by decide)⟩, ⟨x2, y2, z2, upd_same⟩, hl4 _ _ _, s4 _ _ _⟩
      · rintro σ H4 ⟨n, rfl, hnn, hp4, hl4, s4⟩
        -- for again in range(k)
        refine ⟨_, rfl, _, rfl, by omega, by omega, ?_⟩
        refine for_range (fun j σ H5 => ∃ (n : Int) (v5 : Option V), σ = [some (.ref p), some (.int m), some (.ref l), some (.int (0 + (i : Int))), some (.int n), v5] ∧ H5 = H4 ∧ Nm n ∧ NmAt ns j n)
          ⟨n, v5, rfl, rfl, hnn, .start hnn⟩ ?_ ?_
        · rintro j σ H5 hj ⟨n5, v5', rfl, rfl, hn5, at5⟩
          refine ⟨_, rfl, _, rfl, l, _, rfl, .inl (.inl (.inl hl4)), rfl, flat_ints ns, _, rfl, ite2 (fun e => ?_) (fun e => ?_)⟩
          · refine ⟨_, rfl, _, _, rfl, rfl, .inl ⟨_, rfl, _, _, rfl, rfl, ⟨by decide, by decide, by decide⟩, _, _, rfl, rfl, by show (0 : Int) < 26 ^ 12; decide, ?_⟩⟩
            exact ⟨_, _, rfl, rfl, ⟨Int.emod_nonneg _ (by decide), Int.emod_lt_of_pos _ (by decide)⟩, at5.step (in_ints e)⟩
          · exact ⟨n5, _, rfl, rfl, hn5, .inl (notin_ints (by cases z : inV (V.int n5) (ns.map V.int) with | true => exact absurd z e | false => rfl))⟩
        · rintro σ H5 ⟨n5, v5', rfl, rfl, hn5, at5⟩
          -- numbers.append(number)
          refine ⟨_, rfl, .inl ⟨rfl, _, .inl (.inl hl4)⟩, _, rfl, l, _, _, rfl, rfl, hl4, ?_, ?_⟩
          · rw [List.length_map]
            exact small1000 (by omega)
          · refine ⟨ns ++ [n5], _, _, _, rfl, ?_, by rw [List.length_append, el]; rfl, fun k hk => ?_, ?_, fun b o hb e => ?_, nd_snoc ndn (at5.new (by omega) ndn (by omega))⟩
            · rw [upd_same, List.map_append]
              rfl
            · rcases List.mem_append.mp hk with z | z
              · exact hn k z
              · rw [List.mem_singleton.mp z]
                exact hn5
            · obtain ⟨x, y, z, e⟩ := hp4
              exact ⟨x, y, z, by rw [upd_ne npl.symm]; exact e⟩
            · rw [upd_ne (ne_of_none e nl)]
              exact s4 b o hb e
    · rintro σ H2 ⟨ns, v3, v4, v5, rfl, hl, el, hn, hp2, s2, ndn⟩
      -- the names
      refine ⟨_, rfl, l, rfl, ⟨_, .inl (.inl hl)⟩, fun D hD => ?_⟩
      have nDl : l ≠ D := ne_of_none hl hD
      refine lc_list (K := K) (xs := ns.map V.int) (fun i H3 => ∃ zs : List Str, H3 D = some (.lst (zs.map V.str)) ∧ zs.length = i ∧ (∀ z ∈ zs, NameOk z) ∧ Same H2 H3 ∧ zs.map (fun z => bval z.cps.toList) = (ns.take i).map (· + 1)) ⟨[], upd_same, rfl, (fun z h => by cases h), (fun b o e => by rw [upd_ne (ne_of_none e hD)]; exact e), rfl⟩
        (fun i H3 _ ⟨zs, _, _, _, s3, _⟩ => s3.seq (.inl (.inl hl))) ?_ ?_
      · rintro i x H3 hx ⟨zs, hD3, ez, hz, s3, ev3⟩
        obtain ⟨n, rfl, hm⟩ := get_int hx
        have en : ns[i]? = some n := by
          rw [List.getElem?_map] at hx
          cases e : ns[i]? with
          | none => rw [e] at hx; cases hx
          | some m => rw [e] at hx; cases hx; rfl
        have hi : i < (ns.map V.int).length := (List.getElem?_eq_some_iff.mp hx).1
        rw [List.length_map] at hi
        refine ⟨rfl, _, rfl, n, rfl, (hn n hm).1, (hn n hm).2, fun z hzo hzv => ?_⟩
        refine ⟨_, hD3, by rw [List.length_map]; exact small1000 (by omega), zs ++ [z], by rw [upd_same, List.map_append]; rfl, by rw [List.length_append, ez]; rfl, fun y hy => ?_, fun b o e => ?_, ?_⟩
        · rcases List.mem_append.mp hy with h | h
          · exact hz y h
          · rw [List.mem_singleton.mp h]
            exact hzo
        · rw [upd_ne (ne_of_none e hD)]
          exact s3 b o e
        · rw [List.map_append, ev3, List.take_add_one, en, List.map_append]
          show _ ++ [bval z.cps.toList] = _ ++ [n + 1]
          rw [hzv]
      · rintro H3 ⟨zs, hD3, ez, hz, s3, ev3⟩
        rw [List.length_map] at ez
        have hnD : H D = none := by
          cases e : H D with
          | none => rfl
          | some o =>
            by_cases hb : D = p
            · obtain ⟨x, y, z, e2⟩ := hp2
              rw [← hb, hD] at e2
              cases e2
            · have := s2 D o hb e
              rw [hD] at this
              cases this
        exact q D zs H3 hnD hD3 hz (ez.trans el) (let ⟨x, y, z, e⟩ := hp2; ⟨x, y, z, s3 _ _ e⟩) (s2.trans (SameX.of s3)) (nd_of_vals ndn (by rw [ev3, List.length_map, List.take_length]))
end
end KX
namespace KX
open PySem PySem.Spec PyProof.Rows L2
/-! ### steps as data -/
structure Stp where
  a : Int
  w : Str
  b : Int
deriving DecidableEq
def stpD (s : Stp) : PyData := .tuple [.int s.a, .str s.w, .int s.b]
theorem eqv_stp (s t : Stp) : PyData.eqv (stpD s) (stpD t) = decide (s = t) := by
  show (s.a == t.a && (s.w == t.w && (s.b == t.b && true))) = decide (s = t)
  rw [Bool.eq_iff_iff]
  simp only [Bool.and_eq_true, beq_iff_eq, decide_eq_true_eq, and_true]
  cases s
  cases t
  simp
def StepAt (K : PySem.W.Frag) (H : Hp) (v : V) (s : Stp) : Prop := ∃ t, v = .ref t ∧ H t = some (.tup [.int s.a, .str s.w, .int s.b])
abbrev StepsAt (K : PySem.W.Frag) (H : Hp) : List V → List Stp → Prop := Paired (StepAt K H)
section
variable {K : PySem.W.Frag} {H H' : Hp}
theorem StepAt.dp {v : V} {s : Stp} (h : StepAt K H v s) : Dp K H v (stpD s) := by
  obtain ⟨t, rfl, q⟩ := h
  exact .tup (.inl (.inl q)) (.cons (.int _) (.cons (.str _) (.cons (.int _) .nil)))
theorem StepsAt.dp : ∀ {vs : List V} {ss : List Stp}, StepsAt K H vs ss → DpAll K H vs (ss.map stpD)
  | _, _, .nil => .nil
  | _, _, .cons h t => .cons h.dp (StepsAt.dp t)
theorem NameOk.ok {z : Str} (h : NameOk z) : PyData.strOk z = true := by
  unfold PyData.strOk
  rw [← Array.all_toList]
  exact List.all_eq_true.mpr fun c hc => decide_eq_true (by have := (h.az c hc).2; omega)
theorem lay_stp {s : Stp} (h : NameOk s.w) : (stpD s).canLay0 = true := by
  show (PyData.canLay0 (.int s.a) && (PyData.canLay0 (.str s.w) && (PyData.canLay0 (.int s.b) && true))) = true
  unfold PyData.canLay0
  rw [h.ok]
  rfl
theorem dep_stp (s : Stp) : (stpD s).depth = 1 := by
  unfold stpD PyData.depth PyData.depthAll PyData.depthAll PyData.depthAll PyData.depthAll
  unfold PyData.depth
  rfl
theorem lay_stps : ∀ {ss : List Stp}, (∀ s ∈ ss, NameOk s.w) → PyData.canLayAll0 (ss.map stpD) = true
  | [], _ => by
    unfold List.map PyData.canLayAll0
    rfl
  | s :: r, h => by
    rw [List.map_cons]
    unfold PyData.canLayAll0
    rw [lay_stp (h s List.mem_cons_self), lay_stps fun x hx => h x (List.mem_cons_of_mem _ hx)]
    rfl
theorem dep_stps : ∀ ss : List Stp, PyData.depthAll (ss.map stpD) ≤ 1
  | [] => by
    unfold List.map PyData.depthAll
    decide
  | s :: r => by
    rw [List.map_cons]
    unfold PyData.depthAll
    rw [dep_stp]
    have := dep_stps r
    omega
theorem shaped_stp {s : Stp} (h : NameOk s.w) : SeqAt.shaped (stpD s) = true := by
  unfold SeqAt.shaped
  rw [lay_stp h, dep_stp]
  rfl
theorem shaped_list {ss : List Stp} (h : ∀ s ∈ ss, NameOk s.w) : SeqAt.shaped (.list (ss.map stpD)) = true := by
  unfold SeqAt.shaped
  have e1 : (PyData.list (ss.map stpD)).canLay0 = true := by
    unfold PyData.canLay0
    exact lay_stps h
  have e2 : (PyData.list (ss.map stpD)).depth ≤ 64 := by
    unfold PyData.depth
    have := dep_stps ss
    omega
  rw [e1, decide_eq_true e2]
  rfl
theorem any_stp (ss : List Stp) (s : Stp) : ((ss.map stpD).any fun z => PyData.eqv z (stpD s)) = decide (s ∈ ss) := by
  induction ss with
  | nil => rfl
  | cons x r ih =>
    rw [List.map_cons, List.any_cons, ih, eqv_stp]
    rw [Bool.eq_iff_iff]
    simp only [Bool.or_eq_true, decide_eq_true_eq, List.mem_cons]
    exact ⟨fun z => z.imp (fun e => e.symm) id, fun z => z.imp (fun e => e.symm) id⟩
end
/-! ### _law_many_steps -/
def cnt (ss : List Stp) (a : Int) : Nat := (ss.filter fun s => decide (s.a = a)).length
theorem cnt_app (ss ts : List Stp) (a : Int) : cnt (ss ++ ts) a = cnt ss a + cnt ts a := by
  unfold cnt
  rw [List.filter_append, List.length_append]
theorem cnt_one (s : Stp) (a : Int) : cnt [s] a = if s.a = a then 1 else 0 := by
  unfold cnt
  by_cases e : s.a = a
  · rw [List.filter_cons_of_pos (by rw [decide_eq_true e]), if_pos e]
    rfl
  · rw [List.filter_cons_of_neg (by rw [decide_eq_false e]; decide), if_neg e]
    rfl
/-- steps of a hand over these states and names -/
structure Steps (ss : List Stp) (sts : List Int) (zs : List Str) : Prop where
  nd : ss.Nodup
  sa : ∀ s ∈ ss, s.a ∈ sts
  sb : ∀ s ∈ ss, s.b ∈ sts
  sw : ∀ s ∈ ss, s.w ∈ zs
  lv : ∀ a, cnt ss a ≤ 4
theorem Steps.nil {sts : List Int} {zs : List Str} : Steps [] sts zs := ⟨List.nodup_nil, (fun _ h => by cases h), (fun _ h => by cases h), (fun _ h => by cases h), fun a => by show 0 ≤ 4; decide⟩
theorem Steps.snoc {ss : List Stp} {sts : List Int} {zs : List Str} {s : Stp} (S : Steps ss sts zs) (n : s ∉ ss) (ha : s.a ∈ sts) (hb : s.b ∈ sts) (hw : s.w ∈ zs) (hc : cnt ss s.a < 4) : Steps (ss ++ [s]) sts zs := by
  have mem : ∀ {p : Stp → Prop}, (∀ x ∈ ss, p x) → p s → ∀ x ∈ ss ++ [s], p x := fun {p} h1 h2 x hx => by
    rcases List.mem_append.mp hx with z | z
    · exact h1 x z
    · rw [List.mem_singleton.mp z]
      exact h2
  refine ⟨List.nodup_append.mpr ⟨S.nd, (by simp), fun x hx y hy e => ?_⟩, mem S.sa ha, mem S.sb hb, mem S.sw hw, fun a => ?_⟩
  · rw [List.mem_singleton.mp hy] at e
    exact n (e ▸ hx)
  · rw [cnt_app, cnt_one]
    have := S.lv a
    by_cases e : s.a = a
    · rw [if_pos e, ← e]
      omega
    · rw [if_neg e]
      omega
section
variable {K : PySem.W.Frag} {H H' : Hp}
theorem Rd.keep {a : Addr} {o : HO} (h : ∀ b u, H b = some u → b = a → H' b = some u) (r : Rd H a o) : Rd H' a o := r.imp (fun e => h _ _ e rfl) fun ⟨q, e⟩ => ⟨q, h _ _ e rfl⟩
/-- what is no tuple at p is none that a step names -/
def NoTup (H : Hp) (p : Addr) : Prop := ∀ xs, ¬ Rd H p (.tup xs)
theorem NoTup.lst {p : Addr} {xs : List V} (h : H p = some (.lst xs)) : NoTup H p := fun ys r => by
  rcases r with e | ⟨q, e⟩ <;> rw [h] at e <;> cases e
theorem NoTup.none {p : Addr} (h : H p = Option.none) : NoTup H p := fun ys r => by
  rcases r with e | ⟨q, e⟩ <;> rw [h] at e <;> cases e
theorem SqT.sameX {p a : Addr} {xs : List V} (n : NoTup H p) (s : SameX p H H') (q : SqT K H a xs) : SqT K H' a xs := by
  rcases q with r | q
  · have ne : a ≠ p := fun e => n xs (e ▸ r)
    exact .inl (Rd.keep (fun b u e eb => s b u (eb ▸ ne) e) r)
  · exact .inr q
theorem StepAt.sameX {p : Addr} {v : V} {s : Stp} (n : NoTup H p) (k : SameX p H H') (h : StepAt K H v s) : StepAt K H' v s := let ⟨t, e, q⟩ := h; ⟨t, e, k t _ (fun z => n _ (show Rd H p _ from Or.inl (z ▸ q))) q⟩
theorem StepsAt.sameX {p : Addr} {vs : List V} {ss : List Stp} (n : NoTup H p) (k : SameX p H H') (h : StepsAt K H vs ss) : StepsAt K H' vs ss := Paired.mapP h fun _ _ q => q.sameX n k
theorem StepsAt.same {vs : List V} {ss : List Stp} (k : Same H H') (h : StepsAt K H vs ss) : StepsAt K H' vs ss := Paired.mapP h fun _ _ ⟨t, e, q⟩ => ⟨t, e, k _ _ q⟩
theorem paired_at {α β : Type} {F : α → β → Prop} : ∀ {xs : List α} {ys : List β}, Paired F xs ys → ∀ {i : Nat} {x : α}, xs[i]? = some x → ∃ y, ys[i]? = some y ∧ F x y
  | _, _, .nil, i, x, h => by simp at h
  | _, _, .cons f t, 0, x, h => by
    simp at h
    subst h
    exact ⟨_, rfl, f⟩
  | _, _, .cons f t, i + 1, x, h => by
    rw [List.getElem?_cons_succ] at h
    obtain ⟨y, e, q⟩ := paired_at t h
    exact ⟨y, by rw [List.getElem?_cons_succ]; exact e, q⟩
end
end KX
namespace VE
open PySem PySem.Spec PyProof.Rows L2
section
variable {K : PySem.W.Frag} {a : Addr} {xs : List V} {j : Nat} {σ : L2.St} {H H0 : Hp} {g : TG} {tb : TS} {D : Ends}
theorem kL {H H' : Hp} (k : Same H H') (h : SqL K H a xs) : SqL K H' a xs := k.seq h
theorem kT {H H' : Hp} (k : Same H H') (h : SqT K H a xs) : SqT K H' a xs := h.imp (fun r => r.imp (fun e => k _ _ e) fun ⟨o, e⟩ => ⟨o, k _ _ e⟩) id
/-- for i, x in enumerate(what the slot j holds): nothing that stood is changed in it -/
theorem for_enumS (hs : σ[j]? = some (some (.ref a))) (hS : SqL K H0 a xs ∨ SqT K H0 a xs) (Pv : Nat → L2.St → Hp → Prop) (h0 : Pv 0 σ H) (hG : ∀ i σ' H', Pv i σ' H' → Same H0 H')
    (step : ∀ i x σ' H1 H', i < xs.length → Pv i σ' H1 → YPair (fun i => some (.int (i : Nat))) (fun i => xs[i]?) i H1 x H' → g x σ' H' fun σ2 H2 => tb { D with nx := Pv (i + 1), ct := Pv (i + 1), bk := D.nx } σ2 H2)
    (hd : ∀ σ' H', Pv xs.length σ' H' → D.nx σ' H') : tFor (iEnumS K j) g tb D σ H := by
  refine ⟨a, xs, hs, ?_⟩
  rcases hS with h | h
  · exact .inl ⟨kL (hG 0 _ _ h0) h, for_it walk_enum Pv h0 (fun i σ' H' _ p => kL (hG i σ' H' p) h) step hd⟩
  · exact .inr ⟨kT (hG 0 _ _ h0) h, for_it walk_enumT Pv h0 (fun i σ' H' _ p => kT (hG i σ' H' p) h) step hd⟩
/-- [.. for x in what the slot j holds ..] -/
theorem lc_seqS {tt : TT} {te : TE} {vs : List Nat} {Q : VK} (hs : σ[j]? = some (some (.ref a))) (hH : Same H0 H) (hS : SqL K H0 a xs ∨ SqT K H0 a xs) (Pv : Addr → Nat → Hp → Prop)
    (h0 : ∀ D, H D = none → Pv D 0 (upd H D (.lst []))) (hG : ∀ D i H', H D = none → Pv D i H' → Same H0 H')
    (step : ∀ D i x H', H D = none → xs[i]? = some x → Pv D i H' → g x (wipe σ vs) H' fun σ2 H2 => wipe σ2 vs = wipe σ vs ∧ tt σ2 H2 fun b H3 =>
      if b = true then te σ2 H3 fun y H4 => ∃ acc, H4 D = some (.lst acc) ∧ acc.length < sizeLine ∧ Pv D (i + 1) (upd H4 D (.lst (acc ++ [y]))) else Pv D (i + 1) H3)
    (hd : ∀ D H', H D = none → Pv D xs.length H' → Q (.ref D) H') : tLc (iSeqS K j) g tt te vs σ H Q := by
  refine ⟨a, xs, hs, ?_⟩
  rcases hS with h | h
  · exact .inl ⟨kL hH h, fun D hD => lc_it walk_list (Pv D) (h0 D hD) (fun i H' _ p => kL (hG D i H' hD p) h) (fun i x H1 H' _ p y => by rw [y.1]; exact step D i x H1 hD y.2 p) (fun H' p => hd D H' hD p)⟩
  · exact .inr ⟨kT hH h, fun D hD => lc_it walk_tup (Pv D) (h0 D hD) (fun i H' _ p => kT (hG D i H' hD p) h) (fun i x H1 H' _ p y => by rw [y.1]; exact step D i x H1 hD y.2 p) (fun H' p => hd D H' hD p)⟩
open VT
/-- a set comprehension of texts over a walk -/
theorem sc_it {J : It} {n : Nat} {G : Hp → Prop} {Y : Nat → Hp → V → Hp → Prop} (w : Walk J n G Y) {ww : World} {tt : TT} {te : TE} {vs : List Nat} {H1 : Hp} {E : Addr} {Qd : Hp → Prop} (Pv : Nat → Hp → Prop) (h0 : Pv 0 (upd H1 E (SetTO ww E (fun _ => false) 0))) (hG : ∀ i H, i ≤ n → Pv i H → G H)
    (hs : ∀ i x H H', i < n → Pv i H → Y i H x H' → g x (wipe σ vs) H' fun σ2 H2 => wipe σ2 vs = wipe σ vs ∧ tt σ2 H2 fun b H3 => if b = true then te σ2 H3 fun y H4 => AddT ww E y H4 (Pv (i + 1)) else Pv (i + 1) H3) (hd : ∀ H, Pv n H → Qd H) :
    ∃ W : Nat → Nat → Hp → Prop, (∃ m, W 0 m (upd H1 E (SetTO ww E (fun _ => false) 0))) ∧ ∀ i m H, W i m H →
      (J.stop i H ∧ Qd H) ∨ (J.go i H ∧ ∃ Nx : Hp → Prop, (∀ H', Nx H' → ∃ m', m' < m ∧ W (i + 1) m' H') ∧ ∀ x H', J.yld i H x H' → g x (wipe σ vs) H' fun σ2 H2 => wipe σ2 vs = wipe σ vs ∧ tt σ2 H2 fun b H3 => if b = true then te σ2 H3 fun y H4 => AddT ww E y H4 Nx else Nx H3) := by
  refine ⟨fun i m H => m = n - i ∧ i ≤ n ∧ Pv i H, ⟨n, by simp, Nat.zero_le _, h0⟩, fun i m H ⟨hm, hi, p⟩ => ?_⟩
  subst hm
  have q := hG i H hi p
  by_cases hlt : i < n
  · exact .inr ⟨w.goes i H hlt q, Pv (i + 1), fun H' p' => ⟨n - (i + 1), by omega, rfl, hlt, p'⟩, fun x H' y => hs i x H H' hlt p (w.yields i H x H' hlt q y)⟩
  · have e : i = n := by omega
    exact .inl ⟨e ▸ w.stops H q, hd H (e ▸ p)⟩
theorem sc_seqS {ww : World} {tt : TT} {te : TE} {vs : List Nat} {Q : VK} (hs : σ[j]? = some (some (.ref a))) (hH : Same H0 H) (hS : SqL K H0 a xs ∨ SqT K H0 a xs) (Pv : Addr → Nat → Hp → Prop)
    (h0 : ∀ D, H D = none → Pv D 0 (upd H D (SetTO ww D (fun _ => false) 0))) (hG : ∀ D i H', H D = none → Pv D i H' → Same H0 H')
    (step : ∀ D i x H', H D = none → xs[i]? = some x → Pv D i H' → g x (wipe σ vs) H' fun σ2 H2 => wipe σ2 vs = wipe σ vs ∧ tt σ2 H2 fun b H3 => if b = true then te σ2 H3 fun y H4 => AddT ww D y H4 (Pv D (i + 1)) else Pv D (i + 1) H3)
    (hd : ∀ D H', H D = none → Pv D xs.length H' → Q (.ref D) H') : tScT ww (iSeqS K j) g tt te vs σ H Q := by
  refine ⟨a, xs, hs, ?_⟩
  rcases hS with h | h
  · exact .inl ⟨kL hH h, fun D hD => sc_it walk_list (Pv D) (h0 D hD) (fun i H' _ p => kL (hG D i H' hD p) h) (fun i x H1 H' _ p y => by rw [y.1]; exact step D i x H1 hD y.2 p) (fun H' p => hd D H' hD p)⟩
  · exact .inr ⟨kT hH h, fun D hD => sc_it walk_tup (Pv D) (h0 D hD) (fun i H' _ p => kT (hG D i H' hD p) h) (fun i x H1 H' _ p y => by rw [y.1]; exact step D i x H1 hD y.2 p) (fun H' p => hd D H' hD p)⟩
end
end VE
namespace KX
open PySem PySem.Spec PyProof.Rows L2

section
variable {P : Program} {w : World} {K : PySem.W.Frag} {mg : Str → Option Value} {base : Heap}
abbrev nMany : List Str := ["_law_pool_here", "_law_names_here", "_law_states", "_law_many", "_law_steps_here", "_law_k", "_law_leaves", "_law_word", "_law_step", "_law_one"]
def spMany (K : PySem.W.Frag) : Sp := fun vs H Q _ => ∃ (p nl sl : Addr) (m : Nat) (zs : List Str) (sts : List Int), vs = [.ref p, .ref nl, .ref sl, .int m] ∧ PoolAt H p ∧ nl ≠ p ∧ sl ≠ p ∧ SqL K H nl (zs.map V.str) ∧ SqL K H sl (sts.map V.int) ∧
  zs ≠ [] ∧ sts ≠ [] ∧ zs.length ≤ 1000 ∧ sts.length ≤ 1000 ∧ (∀ z ∈ zs, NameOk z) ∧ 1 ≤ m ∧ m ≤ 1000 ∧
  ∀ (l : Addr) (us : List V) (ss : List Stp) (H' : Hp), H l = none → H' l = some (.lst us) → StepsAt K H' us ss → Steps ss sts zs → ss ≠ [] → ss.length ≤ m → PoolAt H' p → SameX p H H' → Q (.ref l) H'
theorem hu65 {A : Around} {k : Nat} (hr : Room k A) : A.units + 65 < cLine := by
  have := hr.un
  omega
theorem StepAt.same {v : V} {s : Stp} {H H' : Hp} (k : Same H H') (h : StepAt K H v s) : StepAt K H' v s := let ⟨t, e, q⟩ := h; ⟨t, e, k _ _ q⟩
theorem cnt_take {ss : List Stp} {i : Nat} {s : Stp} (a : Int) (e : ss[i]? = some s) : cnt (ss.take (i + 1)) a = cnt (ss.take i) a + if s.a = a then 1 else 0 := by
  rw [List.take_add_one, e, cnt_app]
  show _ + cnt [s] a = _
  rw [cnt_one]
end
end KX
namespace KX
open PySem PySem.Spec PyProof.Rows L2
theorem not_lt1 {c d : Nat} (h : d ≤ c) : ¬ ([c] < [d]) := fun z => by
  cases z with
  | rel q => exact absurd q (by omega)
  | cons q => cases q
/-! ### kinds: is_whole, is_state, is_name, is_row; is_step -/
structure Kin (mg : Str → Option Value) : Prop where
  bool : mg "bool" = none
  str : mg "str" = none
  letters : ∃ t, mg "MOST_LETTERS" = some (.int 12 t)
  state : ∃ t, mg "LAST_STATE" = some (.int 99 t)
theorem tyT {K : PySem.W.Frag} {H : Hp} {a : Addr} {xs : List V} (h : SqT K H a xs) : TyX K H (.ref a) (.type "tuple") := by
  rcases h with (e | ⟨o, e⟩) | ⟨o, its, n, e, c, _⟩
  · exact .base (.tup e)
  · exact .fTuple e
  · exact .kTuple e c
theorem tyL {K : PySem.W.Frag} {H : Hp} {a : Addr} {xs : List V} (h : SqL K H a xs) : TyX K H (.ref a) (.type "list") := by
  rcases h with (e | ⟨o, e⟩) | ⟨o, its, n, e, c, _⟩
  · exact .base (.lst e)
  · exact .base (.frz e)
  · exact .kList e c
section
variable {P : Program} {w : World} {K : PySem.W.Frag} {mg : Str → Option Value} {base : Heap}
theorem sc_whole : FnScope ["value"] ["value"] (defScope s_is_whole) := ⟨rfl, rfl, rfl, by decide +kernel, rfl, by decide +kernel, by decide +kernel⟩
def spWhole : Sp := fun vs H Q _ => ∃ i : Int, vs = [.int i] ∧ Q (.bl true) H
theorem ok_whole {f : Addr} {fd : FuncData} (F : Fun K "is_whole" "is_whole" s_is_whole f fd) (B : Blt mg) (N : Kin mg) : FnOk P w K mg base CX0 1 f fd ["value"] spWhole := by
  refine F.ok sc_whole (fun vs H Q E h => ?_) (fun cdv A outer s H vs Q E hr h => ?_)
  · obtain ⟨i, rfl, _⟩ := h
    rfl
  · obtain ⟨i, rfl, q⟩ := h
    refine ⟨_, pss_one (ps_ret (pe_and (pe_callB call_isi (by rfl) B.isinstance (by decide +kernel) (pa_cons (pv 0) (pa_cons (pe_bltn rfl B.int (by decide +kernel) (v := .ty "int") rfl) pa_nil)))
      (pe_one (pe_not (pe_callB call_isi (by rfl) B.isinstance (by decide +kernel) (pa_cons (pv 0) (pa_cons (pe_bltn rfl N.bool (by decide +kernel) (v := .ty "bool") rfl) pa_nil))))))), ?_⟩
    refine ⟨_, rfl, _, _, _, _, true, rfl, .ty "int", .base (.int i), kit_ty (by decide +kernel), true, rfl, ?_⟩
    exact ⟨_, rfl, _, _, _, _, false, rfl, .ty "bool", .base (.int i), kit_ty (by decide +kernel), _, rfl, q⟩
theorem sc_state : FnScope ["value"] ["value"] (defScope s_is_state) := ⟨rfl, rfl, rfl, by decide +kernel, rfl, by decide +kernel, by decide +kernel⟩
def spState : Sp := fun vs H Q _ => ∃ i : Int, vs = [.int i] ∧ 0 ≤ i ∧ i ≤ 99 ∧ Q (.bl true) H
theorem ok_state {f fW : Addr} {fd fdW : FuncData} (F : Fun K "is_state" "is_state" s_is_state f fd) (B : Blt mg) (N : Kin mg) (FW : Fun K "is_whole" "is_whole" s_is_whole fW fdW) (bW : Binds K fdW ["value"] []) (gW : mg "is_whole" = some (.ref fW)) : FnOk P w K mg base CX0 2 f fd ["value"] spState := by
  have GW : FnOk P w K mg base CX0 1 fW fdW ["value"] spWhole := ok_whole FW B N
  obtain ⟨t99, e99⟩ := N.state
  refine F.ok sc_state (fun vs H Q E h => ?_) (fun cdv A outer s H vs Q E hr h => ?_)
  · obtain ⟨i, rfl, _⟩ := h
    rfl
  · obtain ⟨i, rfl, h0, h1, q⟩ := h
    refine ⟨_, pss_one (ps_ret (pe_and (pe_call GW hr (by rfl) gW FW.kp bW .nil pass0 (pa_cons (pv 0) pa_nil))
      (pe_one (pe_chain op_le op_le pe_int (pv 0) (pe_glob rfl e99 (v := .int 99) ⟨_, rfl⟩))))), ?_⟩
    refine ⟨_, rfl, i, rfl, true, rfl, ?_⟩
    refine ⟨_, rfl, _, _, rfl, rfl, _, rfl, ?_⟩
    rw [decide_eq_true h0]
    refine ⟨_, _, rfl, rfl, ?_⟩
    show Q (.bl (decide (i ≤ 99))) H
    rw [decide_eq_true h1]
    exact q
theorem sc_isname : FnScope ["value", "letter"] ["value"] (defScope s_is_name) := ⟨rfl, rfl, rfl, by decide +kernel, rfl, by decide +kernel, by decide +kernel⟩
def spIsName : Sp := fun vs H Q _ => ∃ z : Str, vs = [.str z] ∧ NameOk z ∧ ∀ H', Same H H' → Q (.bl true) H'
theorem ok_isname {f : Addr} {fd : FuncData} (F : Fun K "is_name" "is_name" s_is_name f fd) (B : Blt mg) (N : Kin mg) : FnOk P w K mg base CX0 1 f fd ["value"] spIsName := by
  obtain ⟨t12, e12⟩ := N.letters
  refine F.ok sc_isname (fun vs H Q E h => ?_) (fun cdv A outer s H vs Q E hr h => ?_)
  · obtain ⟨z, rfl, _⟩ := h
    rfl
  · obtain ⟨z, rfl, hz, q⟩ := h
    refine ⟨_, pss_cons (ps_if (PW.pt (pw_or (pt_not (pt_val (pe_callB call_isi (by rfl) B.isinstance (by decide +kernel) (pa_cons (pv 0) (pa_cons (pe_bltn rfl N.str (by decide +kernel) (v := .ty "str") rfl) pa_nil)))))
        (pw_or1 (pt_not (pt_chain op_le op_le pe_int (pe_callB call_len_str (by rfl) B.len PySem.boot_len (pa_cons (pv 0) pa_nil)) (pe_glob rfl e12 (v := .int 12) ⟨_, rfl⟩)))))) (pss_one (ps_ret pe_bl)) pss_nil)
      (pss_one (ps_ret (pe_callB (cr_all rfl) (by rfl) B.all (by decide +kernel) (pa_cons (pe_lc (own := [("letter", 1)]) (g := gName 1) (tt := tYes) rfl sc_isname.nd (pi_str (pv 0)) (blkOk_by (N := ["value", "letter"]) (sc := defScope s_is_name) (by decide +kernel))
        (fun _ _ _ _ _ => pg_name (i := 1) sc_isname.nd rfl (.inl rfl)) (fun _ _ _ _ _ => pts_nil) (fun _ _ _ _ _ => pe_chain op_le_str op_le_str pe_str (pv 1) pe_str)) pa_nil)))), ?_⟩
    have lz : z.length ≤ sizeLine := by
      rw [len_cps, sizeLine_eq]
      have := hz.hi
      omega
    have l1 : (1 : Int) ≤ (z.length : Nat) := by
      rw [len_cps]
      have := hz.lo
      omega
    have l2 : ((z.length : Nat) : Int) ≤ 12 := by
      rw [len_cps]
      have := hz.hi
      omega
    refine ⟨_, rfl, _, _, _, _, true, rfl, .ty "str", .base (.str z), kit_ty (by decide +kernel), true, rfl, ?_⟩
    refine ⟨_, rfl, z, rfl, lz, _, _, rfl, rfl, _, rfl, ?_⟩
    rw [decide_eq_true l1]
    refine ⟨_, _, rfl, rfl, _, rfl, ?_⟩
    show if (!decide (((z.length : Nat) : Int) ≤ 12)) = true then _ else _
    rw [decide_eq_true l2]
    -- all([..])
    refine ⟨_, rfl, z, rfl, fun D hD => ?_⟩
    refine lc_it walk_str (fun i H3 => ∃ bs : List Bool, H3 D = some (.lst (bs.map V.bl)) ∧ bs.all id = true ∧ bs.length = i ∧ Same H H3) ⟨[], upd_same, rfl, rfl, fun b o e => by rw [upd_ne (ne_of_none e hD)]; exact e⟩ (fun _ _ _ _ => True.intro) ?_ ?_
    · rintro i x H3 H4 hi ⟨bs, hD3, hall, hl, s3⟩ ⟨rfl, c, hc, rfl⟩
      have hm : c ∈ z.cps.toList := Array.mem_toList_iff.mpr (Array.mem_of_getElem? hc)
      obtain ⟨c1, c2⟩ := hz.az c hm
      refine ⟨rfl, _, rfl, _, _, rfl, rfl, _, rfl, ?_⟩
      have e1 : (!decide ((⟨#[c]⟩ : Str).cps.toList < ("a" : Str).cps.toList)) = true := by
        rw [show ("a" : Str).cps.toList = [97] by decide +kernel]
        rw [decide_eq_false (not_lt1 c1)]
        rfl
      have e2 : (!decide (("z" : Str).cps.toList < (⟨#[c]⟩ : Str).cps.toList)) = true := by
        rw [show ("z" : Str).cps.toList = [122] by decide +kernel]
        rw [decide_eq_false (not_lt1 c2)]
        rfl
      rw [e1]
      refine ⟨_, _, rfl, rfl, ?_⟩
      rw [e2]
      have hsz : z.cps.size ≤ 12 := by rw [← Array.length_toList]; exact hz.hi
      refine ⟨_, hD3, small1000 (by rw [List.length_map]; omega), bs ++ [true], by rw [upd_same, List.map_append]; rfl, ?_, by rw [List.length_append, hl]; rfl, fun b o e => ?_⟩
      · rw [List.all_append, hall]
        rfl
      · rw [upd_ne (ne_of_none e hD)]
        exact s3 b o e
    · rintro H3 ⟨bs, hD3, hall, hl, s3⟩
      refine ⟨D, bs, rfl, .inl (.inl hD3), ?_⟩
      rw [hall]
      exact q H3 s3
theorem sc_row : FnScope ["value"] ["value"] (defScope s_is_row) := ⟨rfl, rfl, rfl, by decide +kernel, rfl, by decide +kernel, by decide +kernel⟩
/-- at a stands a list or a tuple of us -/
def Seq (K : PySem.W.Frag) (H : Hp) (a : Addr) (us : List V) : Prop := SqL K H a us ∨ H a = some (.tup us)
theorem Seq.sq {K : PySem.W.Frag} {H : Hp} {a : Addr} {us : List V} (h : Seq K H a us) : SqL K H a us ∨ SqT K H a us := h.imp id fun e => .inl (.inl e)
def spRow (K : PySem.W.Frag) : Sp := fun vs H Q _ => ∃ (a : Addr) (us : List V), vs = [.ref a] ∧ Seq K H a us ∧ ∀ H', Same H H' → Q (.bl true) H'
theorem ok_row {f : Addr} {fd : FuncData} (F : Fun K "is_row" "is_row" s_is_row f fd) (B : Blt mg) : FnOk P w K mg base CX0 1 f fd ["value"] (spRow K) := by
  refine F.ok sc_row (fun vs H Q E h => ?_) (fun cdv A outer s H vs Q E hr h => ?_)
  · obtain ⟨a, us, rfl, _⟩ := h
    rfl
  · obtain ⟨a, us, rfl, hS, q⟩ := h
    refine ⟨_, pss_one (ps_ret (pe_callB call_isiT (by rfl) B.isinstance (by decide +kernel) (pa_cons (pv 0) (pa_cons (pe_tup (pa_cons (pe_bltn rfl B.list (by decide +kernel) (v := .ty "list") rfl) (pa_cons (pe_bltn rfl B.tuple (by decide +kernel) (v := .ty "tuple") rfl) pa_nil))) pa_nil)))), ?_⟩
    refine ⟨_, rfl, by show 2 ≤ sizeLine; decide, fun T hT => ?_⟩
    have sm : Same H (upd H T (.tup [.ty "list", .ty "tuple"])) := fun b o e => by
      rw [upd_ne (ne_of_none e hT)]
      exact e
    have cl : Paired ClsV [V.ty "list", .ty "tuple"] [.type "list", .type "tuple"] := .cons (.ty _) (.cons (.ty _) .nil)
    rcases hS with h | h
    · exact ⟨_, T, _, _, _, true, rfl, upd_same, cl, tyL (sm.seq h), kitAny_cons (kit_ty (b := "list") (r := true) (by decide +kernel)) (fun z => nomatch z) (fun _ => rfl), q _ sm⟩
    · refine ⟨_, T, _, _, _, true, rfl, upd_same, cl, tyT (.inl (.inl (sm _ _ h))), kitAny_cons (kit_ty (b := "list") (r := false) (by decide +kernel)) (fun _ => ?_) (fun z => nomatch z), q _ sm⟩
      exact kitAny_cons (kit_ty (b := "tuple") (r := true) (by decide +kernel)) (fun z => nomatch z) (fun _ => rfl)
theorem sc_step : FnScope ["value"] ["value"] (defScope s_is_step) := ⟨rfl, rfl, rfl, by decide +kernel, rfl, by decide +kernel, by decide +kernel⟩
/-- a step that may stand in a hand -/
structure StpOk (s : Stp) : Prop where
  a0 : 0 ≤ s.a
  a1 : s.a ≤ 99
  w : NameOk s.w
  b0 : 0 ≤ s.b
  b1 : s.b ≤ 99
def spStep (K : PySem.W.Frag) : Sp := fun vs H Q _ => ∃ (v : V) (st : Stp), vs = [v] ∧ StepAt K H v st ∧ StpOk st ∧ ∀ H', Same H H' → Q (.bl true) H'
/-- what the kinds' defs are -/
structure KinD (K : PySem.W.Frag) (mg : Str → Option Value) (fW fS fN : Addr) (fdW fdS fdN : FuncData) : Prop where
  FW : Fun K "is_whole" "is_whole" s_is_whole fW fdW
  bW : Binds K fdW ["value"] []
  gW : mg "is_whole" = some (.ref fW)
  FS : Fun K "is_state" "is_state" s_is_state fS fdS
  bS : Binds K fdS ["value"] []
  gS : mg "is_state" = some (.ref fS)
  FN : Fun K "is_name" "is_name" s_is_name fN fdN
  bN : Binds K fdN ["value"] []
  gN : mg "is_name" = some (.ref fN)
theorem ok_step {f fW fS fN : Addr} {fd fdW fdS fdN : FuncData} (F : Fun K "is_step" "is_step" s_is_step f fd) (B : Blt mg) (N : Kin mg) (D : KinD K mg fW fS fN fdW fdS fdN) : FnOk P w K mg base CX0 3 f fd ["value"] (spStep K) := by
  have GS : FnOk P w K mg base CX0 2 fS fdS ["value"] spState := ok_state D.FS B N D.FW D.bW D.gW
  have GN : FnOk P w K mg base CX0 1 fN fdN ["value"] spIsName := ok_isname D.FN B N
  refine F.ok sc_step (fun vs H Q E h => ?_) (fun cdv A outer s H vs Q E hr h => ?_)
  · obtain ⟨v, st, rfl, _⟩ := h
    rfl
  · obtain ⟨v, st, rfl, ⟨t, rfl, ht0⟩, o, q⟩ := h
    have ht : SqT K H t [.int st.a, .str st.w, .int st.b] := .inl (.inl ht0)
    refine ⟨_, pss_cons (ps_if (PW.pt (pw_or (pt_not (pt_val (pe_callB call_isi (by rfl) B.isinstance (by decide +kernel) (pa_cons (pv 0) (pa_cons (pe_bltn rfl B.tuple (by decide +kernel) (v := .ty "tuple") rfl) pa_nil)))))
        (pw_or1 (pt_cmpR op_ne (pe_callB call_len_seq (by rfl) B.len PySem.boot_len (pa_cons (pv 0) pa_nil)) pe_int (nomark _))))) (pss_one (ps_ret pe_bl)) pss_nil)
      (pss_one (ps_ret (pe_and (pe_call GS hr (by rfl) D.gS D.FS.kp D.bS .nil pass0 (pa_cons (pe_ix ix_tup (pv 0) pe_int (fun _ _ => rfl)) pa_nil))
        (pe_and (pe_call GN (hr.mono (by decide)) (by rfl) D.gN D.FN.kp D.bN .nil pass0 (pa_cons (pe_ix ix_tup (pv 0) pe_int (fun _ _ => rfl)) pa_nil))
        (pe_one (pe_call GS hr (by rfl) D.gS D.FS.kp D.bS .nil pass0 (pa_cons (pe_ix ix_tup (pv 0) pe_int (fun _ _ => rfl)) pa_nil))))))), ?_⟩
    refine ⟨_, rfl, _, _, _, _, true, rfl, .ty "tuple", tyT ht, kit_ty (by decide +kernel), true, rfl, ?_⟩
    refine ⟨_, rfl, t, _, rfl, .inr ht, rfl, _, rfl, ?_⟩
    refine ⟨_, rfl, t, _, _, .int st.a, rfl, rfl, ht, atI_nat (j := 0) rfl, st.a, rfl, o.a0, o.a1, true, rfl, ?_⟩
    refine ⟨_, rfl, t, _, _, .str st.w, rfl, rfl, ht, atI_nat (j := 1) rfl, st.w, rfl, o.w, fun H1 s1 => ⟨true, rfl, ?_⟩⟩
    exact ⟨_, rfl, t, _, _, .int st.b, rfl, rfl, ht.imp (Rd.keep fun b u e _ => s1 b u e) id, atI_nat (j := 2) rfl, st.b, rfl, o.b0, o.b1, q _ s1⟩
end
end KX
namespace KX
open PySem PySem.Spec PyProof.Rows L2
/-! ### check_steps, exits_of -/
structure Lim (mg : Str → Option Value) : Prop where
  steps : ∃ t, mg "MOST_STEPS" = some (.int 24 t)
  leaving : ∃ t, mg "MOST_LEAVING" = some (.int 4 t)
  words : ∃ t, mg "MOST_WORDS" = some (.int 8 t)
  states : ∃ t, mg "MOST_STATES" = some (.int 8 t)
def keyS (s : Stp) : List Key := [.inl s.a, .inr s.w, .inl s.b]
theorem keyS_inj {s t : Stp} (h : keyS s = keyS t) : s = t := by
  unfold keyS at h
  cases s
  cases t
  simp at h
  obtain ⟨h1, h2, h3⟩ := h
  subst h1 h2 h3
  rfl
theorem Seq.same {K : PySem.W.Frag} {H H' : Hp} {a : Addr} {us : List V} (k : Same H H') (h : Seq K H a us) : Seq K H' a us := h.imp (fun q => k.seq q) fun q => k _ _ q
theorem get_tup {K : PySem.W.Frag} {us : List V} {ss : List Stp} {H : Hp} (h : StepsAt K H us ss) {i : Nat} {x : V} (e : us[i]? = some x) : ∃ s t, x = .ref t ∧ ss[i]? = some s ∧ H t = some (.tup [.int s.a, .str s.w, .int s.b]) := by
  obtain ⟨s, es, t, et, q⟩ := paired_at h e
  exact ⟨s, t, et, es, q⟩
theorem same_new {H : Hp} {p : Addr} {o : HO} (h : H p = none) : Same H (upd H p o) := fun b u e => by
  rw [upd_ne (ne_of_none e h)]
  exact e
/-- steps that a hand may have -/
structure Good (ss : List Stp) : Prop where
  ok : ∀ s ∈ ss, StpOk s
  nd : ss.Nodup
  lv : ∀ a, cnt ss a ≤ 4
  lo : 1 ≤ ss.length
  hi : ss.length ≤ 24
theorem take_new {ss : List Stp} (nd : ss.Nodup) {i : Nat} {s : Stp} (e : ss[i]? = some s) : s ∉ ss.take i := fun h => by
  obtain ⟨hi, es⟩ := List.getElem?_eq_some_iff.mp e
  have q : ss = ss.take i ++ s :: ss.drop (i + 1) := by
    rw [← es, ← List.drop_eq_getElem_cons hi, List.take_append_drop]
  rw [q] at nd
  exact (List.nodup_append.mp nd).2.2 s h s List.mem_cons_self rfl
theorem cnt_take_le (ss : List Stp) (i : Nat) (a : Int) : cnt (ss.take i) a ≤ cnt ss a := by
  have q := cnt_app (ss.take i) (ss.drop i) a
  rw [List.take_append_drop] at q
  omega
section
variable {P : Program} {w : World} {K : PySem.W.Frag} {mg : Str → Option Value} {base : Heap}
abbrev nCheck : List Str := ["steps", "earlier", "leaving", "index", "step", "count"]
theorem sc_check : FnScope nCheck ["steps"] (defScope s_check_steps) := ⟨rfl, rfl, rfl, by decide +kernel, rfl, by decide +kernel, by decide +kernel⟩
def spCheck (K : PySem.W.Frag) : Sp := fun vs H Q _ => ∃ (a : Addr) (us : List V) (ss : List Stp), vs = [.ref a] ∧ Seq K H a us ∧ StepsAt K H us ss ∧ Good ss ∧ ∀ H', Same H H' → Q .non H'
theorem ok_check {f fR fT fW fS fN : Addr} {fd fdR fdT fdW fdS fdN : FuncData} (F : Fun K "check_steps" "check_steps" s_check_steps f fd) (B : Blt mg) (N : Kin mg) (L : Lim mg) (D : KinD K mg fW fS fN fdW fdS fdN)
    (FR : Fun K "is_row" "is_row" s_is_row fR fdR) (bR : Binds K fdR ["value"] []) (gR : mg "is_row" = some (.ref fR)) (FT : Fun K "is_step" "is_step" s_is_step fT fdT) (bT : Binds K fdT ["value"] []) (gT : mg "is_step" = some (.ref fT)) : FnOk P w K mg base CX0 4 f fd ["steps"] (spCheck K) := by
  have GR : FnOk P w K mg base CX0 1 fR fdR ["value"] (spRow K) := ok_row FR B
  have GT : FnOk P w K mg base CX0 3 fT fdT ["value"] (spStep K) := ok_step FT B N D
  obtain ⟨t24, e24⟩ := L.steps
  obtain ⟨t4, e4⟩ := L.leaving
  refine F.ok sc_check (fun vs H Q E h => ?_) (fun cdv A outer s H vs Q E hr h => ?_)
  · obtain ⟨a, us, ss, rfl, _⟩ := h
    rfl
  · obtain ⟨a, us, ss, rfl, hS, hss, G, q⟩ := h
    have hu := hu_of hr
    refine ⟨_, pss_cons (ps_if (PW.pt (pw_or (pt_not (pt_val (pe_call GR (hr.mono (by decide)) (by rfl) gR FR.kp bR .nil pass0 (pa_cons (pv 0) pa_nil))))
        (pw_or1 (pt_not (pt_chain op_le op_le pe_int (pe_callB call_len_seq (by rfl) B.len PySem.boot_len (pa_cons (pv 0) pa_nil)) (pe_glob rfl e24 (v := .int 24) ⟨_, rfl⟩)))))) (pss_one VL.ps_dead) pss_nil)
      (pss_cons (ps_set (i := 1) sc_check.nd rfl (.inl rfl) pe_dnewT)
      (pss_cons (ps_set (i := 2) sc_check.nd rfl (.inl rfl) pe_dnewK)
      (pss_one (ps_for PassesOwn.never rfl (VE.pi_enumS (j := 0) rfl B.enumerate rfl (.inl rfl)) (pg_tup rfl (pgs_cons (pg_name (i := 3) sc_check.nd rfl (.inl rfl)) (pgs_cons (pg_name (i := 4) sc_check.nd rfl (.inl rfl)) pgs_nil)))
        (pss_cons (ps_if (PW.pt (pw_or (pt_not (pt_val (pe_call GT hr (by rfl) gT FT.kp bT .nil pass0 (pa_cons (pv 4) pa_nil)))) (pw_or1 (pt_cmp (pc_din hu (pv 4) (pv 1)))))) (pss_one VL.ps_dead) pss_nil)
        (pss_cons (ps_set (i := 5) sc_check.nd rfl (.inl rfl) (pe_op op_add (pe_dget2 hu (pv 2) (pe_ix ix_tup (pv 4) pe_int (fun _ _ => rfl)) pe_int ⟨rfl, rfl, rfl, rfl⟩) pe_int))
        (pss_cons (ps_if (pt_cmpR op_gt (pv 5) (pe_glob rfl e4 (v := .int 4) ⟨_, rfl⟩) (nomark _)) (pss_one VL.ps_dead) pss_nil)
        (pss_cons (ps_dput hu (pv 1) (pv 4) pe_bl rfl)
        (pss_one (ps_dput hu (pv 2) (pe_ix ix_tup (pv 4) pe_int (fun _ _ => rfl)) (pv 5) rfl))))))))))
      , ?_⟩
    -- the first test
    refine ⟨_, rfl, a, us, rfl, hS, fun H1 s1 => ⟨true, rfl, ?_⟩⟩
    have lu : us.length = ss.length := hss.length
    have l1 : (1 : Int) ≤ (us.length : Nat) := by
      have := G.lo
      omega
    have l2 : ((us.length : Nat) : Int) ≤ 24 := by
      have := G.hi
      omega
    have hS1 := hS.same s1
    have hss1 := hss.same s1
    refine ⟨_, rfl, a, us, rfl, hS1.sq, _, _, rfl, rfl, _, rfl, ?_⟩
    rw [decide_eq_true l1]
    refine ⟨_, _, rfl, rfl, _, rfl, ?_⟩
    show if (!decide (((us.length : Nat) : Int) ≤ 24)) = true then _ else _
    rw [decide_eq_true l2]
    -- the dicts
    refine fun e1 n1 e2 n2 => ?_
    have n21 : e2 ≠ e1 := fun z => by
      rw [z, upd_same] at n2
      cases n2
    have s2 := (s1.trans (same_new (o := .dT []) n1)).trans (same_new (o := .dK []) n2)
    have hd1 : (upd (upd H1 e1 (.dT [])) e2 (.dK [])) e1 = some (.dT []) := by rw [upd_ne n21.symm, upd_same]
    have hd2 : (upd (upd H1 e1 (.dT [])) e2 (.dK [])) e2 = some (.dK []) := upd_same
    have f1 : H e1 = none := s1.free n1
    have f2 : H e2 = none := s1.free (by rw [upd_ne n21] at n2; exact n2)
    generalize upd (upd H1 e1 (.dT [])) e2 (.dK []) = H2 at s2 hd1 hd2 ⊢
    have nss : ∀ {i : Nat} {st : Stp}, ss[i]? = some st → st ∉ ss.take i := fun e => take_new G.nd e
    refine VE.for_enumS (j := 0) rfl hS.sq (fun i σ H3 => ∃ (v3 v4 v5 : Option V) (kv1 : List (List Key × V)) (kv2 : List (Key × V)), σ = [some (.ref a), some (.ref e1), some (.ref e2), v3, v4, v5] ∧ H3 e1 = some (.dT kv1) ∧ H3 e2 = some (.dK kv2) ∧ kv1.length ≤ i ∧ kv2.length ≤ i ∧
        (∀ s, (valV kv1 (keyS s)).isSome = decide (s ∈ ss.take i)) ∧ (∀ b, (valV kv2 (.inl b)).getD (.int 0) = .int (cnt (ss.take i) b)) ∧ Same H H3)
      ⟨none, none, none, [], [], rfl, hd1, hd2, Nat.le_refl _, Nat.le_refl _, (fun s => by rw [List.take_zero]; exact (decide_eq_false List.not_mem_nil).symm), (fun b => by rw [List.take_zero]; rfl), s2⟩
      (fun _ _ _ ⟨_, _, _, _, _, _, _, _, _, _, _, _, k⟩ => k) ?_ ?_
    · rintro i x σ H3 H4 hi ⟨v3, v4, v5, kv1, kv2, rfl, h1, h2, l1, l2, m1, m2, s3⟩ ⟨T, y1, y2, rfl, nT, rfl, ey, ex⟩
      have ey := Option.some.inj ey
      subst ey
      have sT : Same H3 (upd H3 T (.tup [.int (i : Nat), y2])) := same_new nT
      refine ⟨T, _, rfl, .inl (.inl upd_same), rfl, _, _, rfl, _, _, rfl, rfl, ?_⟩
      have g1 := sT _ _ h1
      have g2 := sT _ _ h2
      have s4 := s3.trans sT
      generalize upd H3 T (.tup [.int (i : Nat), y2]) = H4 at g1 g2 s4 ⊢
      obtain ⟨st, t, rfl, es, ht⟩ := get_tup (hss.same s4) ex
      have hi' : i < ss.length := (List.getElem?_eq_some_iff.mp es).1
      have i24 : i < 24 := Nat.lt_of_lt_of_le hi' G.hi
      -- if not is_step(step) or step in earlier
      refine ⟨_, rfl, .ref t, st, rfl, ⟨t, rfl, ht⟩, G.ok st (List.mem_of_getElem? es), fun H5 s5 => ⟨true, rfl, ?_⟩⟩
      have g15 := s5 _ _ g1
      have g25 := s5 _ _ g2
      have t5 := s5 _ _ ht
      have s05 := s4.trans s5
      refine ⟨_, rfl, _, rfl, e1, _, rfl, DGet.t (k := keyS st) g15 t5, _, rfl, ?_⟩
      have m1s : (valV kv1 (keyS st)).isSome = false := by
        rw [m1 st]
        exact decide_eq_false (nss es)
      rw [m1s]
      -- count
      refine ⟨_, rfl, e2, rfl, .inl ⟨_, .inl g25⟩, _, rfl, t, _, _, _, rfl, rfl, .inl (.inl t5), atI_nat (j := 0) rfl, _, DGet.k (k := Sum.inl st.a) g25, ?_⟩
      rw [m2 st.a]
      refine ⟨_, _, rfl, rfl, ?_⟩
      have c4 : cnt (ss.take i) st.a + 1 ≤ 4 := by
        have q1 := G.lv st.a
        have q2 := cnt_take st.a es
        have q3 := cnt_take_le ss (i + 1) st.a
        rw [if_pos rfl] at q2
        omega
      refine ⟨_, rfl, _, _, rfl, rfl, _, rfl, ?_⟩
      rw [decide_eq_false (show ¬ (4 : Int) < (cnt (ss.take i) st.a : Nat) + 1 by omega)]
      -- the two stores
      refine ⟨_, rfl, _, rfl, e1, _, rfl, DPut.t (k := keyS st) g15 t5 (small1000 (by omega)), ?_⟩
      have n12 : e1 ≠ e2 := fun z => by
        rw [z, g25] at g15
        cases g15
      have n1t : t ≠ e1 := fun z => by
        rw [z, g15] at t5
        cases t5
      have g26 : (upd H5 e1 (.dT (putK kv1 (keyS st) (.bl true)))) e2 = some (.dK kv2) := by rw [upd_ne n12.symm]; exact g25
      refine ⟨_, rfl, _, rfl, _, rfl, t, _, _, _, rfl, rfl, .inl (.inl (by rw [upd_ne n1t]; exact t5)), atI_nat (j := 0) rfl, e2, _, rfl, DPut.k (k := Sum.inl st.a) g26 (small1000 (by omega)), ?_⟩
      refine ⟨_, _, _, _, _, rfl, by rw [upd_ne n12, upd_same], upd_same, ?_, ?_, fun s => ?_, fun b => ?_, fun b o e => ?_⟩
      · exact Nat.le_trans (length_putK _ _ _) (Nat.succ_le_succ l1)
      · exact Nat.le_trans (length_putK _ _ _) (Nat.succ_le_succ l2)
      · rw [valV_put, List.take_add_one, es]
        by_cases e : keyS s = keyS st
        · rw [if_pos e, keyS_inj e]
          exact (decide_eq_true (List.mem_append_right _ (List.mem_singleton.mpr rfl))).symm
        · rw [if_neg e, m1 s]
          refine decide_eq_decide.mpr ⟨fun h => List.mem_append_left _ h, fun h => ?_⟩
          rcases List.mem_append.mp h with h | h
          · exact h
          · exact absurd (congrArg keyS (List.mem_singleton.mp h)) e
      · rw [valV_put, cnt_take b es]
        by_cases e : (Sum.inl b : Key) = Sum.inl st.a
        · rw [if_pos e, if_pos (Sum.inl.inj e).symm, Sum.inl.inj e]
          rfl
        · rw [if_neg e, if_neg (fun z => e (congrArg Sum.inl z.symm)), m2 b]
          rfl
      · have b1 : b ≠ e1 := ne_of_none e f1
        have b2 : b ≠ e2 := ne_of_none e f2
        rw [upd_ne b2, upd_ne b1]
        exact s05 _ _ e
    · rintro σ H3 ⟨_, _, _, _, _, _, _, _, _, _, _, _, k⟩
      exact q H3 k
abbrev nExits : List Str := ["steps", "exits", "number", "step", "place"]
theorem sc_exits : FnScope nExits ["steps"] (defScope s_exits_of) := ⟨rfl, rfl, rfl, by decide +kernel, rfl, by decide +kernel, by decide +kernel⟩
/-- the first n steps' numbers that leave x with the word z -/
def numsTo (ss : List Stp) (x : Int) (z : Str) (n : Nat) : List Int := ((List.range n).filter fun i => (ss[i]?).any fun s => decide (s.a = x ∧ s.w = z)).map fun (i : Nat) => (i : Int)
theorem numsTo_succ {ss : List Stp} {n : Nat} {s : Stp} (e : ss[n]? = some s) (x : Int) (z : Str) : numsTo ss x z (n + 1) = numsTo ss x z n ++ if s.a = x ∧ s.w = z then [(n : Int)] else [] := by
  unfold numsTo
  rw [List.range_succ, List.filter_append, List.map_append]
  congr 1
  by_cases h : s.a = x ∧ s.w = z
  · rw [if_pos h, List.filter_cons_of_pos (by rw [e, Option.any_some, decide_eq_true h])]
    rfl
  · rw [if_neg h, List.filter_cons_of_neg (by rw [e, Option.any_some, decide_eq_false h]; decide)]
    rfl
theorem numsTo_len (ss : List Stp) (x : Int) (z : Str) (n : Nat) : (numsTo ss x z n).length ≤ n := by
  unfold numsTo
  rw [List.length_map]
  exact Nat.le_trans (List.length_filter_le _ _) (Nat.le_of_eq List.length_range)
/-- the dict of the first n steps' exits at d -/
def ExitsAt (H : Hp) (d : Addr) (ss : List Stp) (n : Nat) : Prop := ∃ kvs : List (List Key × V), H d = some (.dT kvs) ∧ kvs.length ≤ n ∧
  (∀ x z, (numsTo ss x z n = [] ∧ valV kvs [.inl x, .inr z] = none) ∨ (numsTo ss x z n ≠ [] ∧ ∃ b, valV kvs [.inl x, .inr z] = some (.ref b) ∧ H b = some (.tup ((numsTo ss x z n).map V.int)))) ∧
  ∀ p ∈ kvs, ∃ (b : Addr) (ns : List Int), p.2 = .ref b ∧ H b = some (.tup (ns.map V.int))
theorem ExitsAt.same {H H' : Hp} {d : Addr} {ss : List Stp} {n : Nat} (k : Same H H') (h : ExitsAt H d ss n) : ExitsAt H' d ss n :=
  let ⟨kvs, e, l, f, g⟩ := h
  ⟨kvs, k _ _ e, l, fun x z => (f x z).imp id fun ⟨n1, b, e1, e2⟩ => ⟨n1, b, e1, k _ _ e2⟩, fun p hp => let ⟨b, ns, e1, e2⟩ := g p hp; ⟨b, ns, e1, k _ _ e2⟩⟩
theorem mem_putK {κ : Type} [DecidableEq κ] {kvs : List (κ × V)} {k : κ} {v : V} {p : κ × V} (h : p ∈ putK kvs k v) : p ∈ kvs ∨ p.2 = v := by
  unfold putK at h
  split at h
  · obtain ⟨q, hq, e⟩ := List.mem_map.mp h
    split at e
    · rw [← e]
      exact .inr rfl
    · rw [← e]
      exact .inl hq
  · rcases List.mem_append.mp h with h | h
    · exact .inl h
    · rw [List.mem_singleton.mp h]
      exact .inr rfl
def spExits (K : PySem.W.Frag) : Sp := fun vs H Q _ => ∃ (a : Addr) (us : List V) (ss : List Stp), vs = [.ref a] ∧ Seq K H a us ∧ StepsAt K H us ss ∧ Good ss ∧ ∀ (d : Addr) (H' : Hp), H d = none → ExitsAt H' d ss ss.length → Same H H' → Q (.ref d) H'
theorem ok_exits {f : Addr} {fd : FuncData} (F : Fun K "exits_of" "exits_of" s_exits_of f fd) (B : Blt mg) : FnOk P w K mg base CX0 1 f fd ["steps"] (spExits K) := by
  refine F.ok sc_exits (fun vs H Q E h => ?_) (fun cdv A outer s H vs Q E hr h => ?_)
  · obtain ⟨a, us, ss, rfl, _⟩ := h
    rfl
  · obtain ⟨a, us, ss, rfl, hS, hss, G, q⟩ := h
    have hu := hu_of hr
    refine ⟨_, pss_cons (ps_set (i := 1) sc_exits.nd rfl (.inl rfl) pe_dnewT)
      (pss_cons (ps_for PassesOwn.never rfl (VE.pi_enumS (j := 0) rfl B.enumerate rfl (.inl rfl)) (pg_tup rfl (pgs_cons (pg_name (i := 2) sc_exits.nd rfl (.inl rfl)) (pgs_cons (pg_name (i := 3) sc_exits.nd rfl (.inl rfl)) pgs_nil)))
        (pss_cons (ps_set (i := 4) sc_exits.nd rfl (.inl rfl) (pe_tup (pa_cons (pe_ix ix_tup (pv 3) pe_int (fun _ _ => rfl)) (pa_cons (pe_ix ix_tup (pv 3) pe_int (fun _ _ => rfl)) pa_nil))))
        (pss_one (ps_dput hu (pv 1) (pv 4) (pe_op op_catA (pe_dget2 hu (pv 1) (pv 4) (pe_tup pa_nil) ⟨rfl, rfl, rfl, rfl⟩) (pe_tup (pa_cons (pv 2) pa_nil))) rfl))))
      (pss_one (ps_ret (pv 1)))), ?_⟩
    have lu : us.length = ss.length := hss.length
    refine fun e1 n1 => ?_
    refine VE.for_enumS (j := 0) rfl hS.sq (fun i σ H3 => ∃ (v2 v3 v4 : Option V), σ = [some (.ref a), some (.ref e1), v2, v3, v4] ∧ ExitsAt H3 e1 ss i ∧ Same H H3)
      ⟨none, none, none, rfl, ⟨[], upd_same, Nat.le_refl _, fun x z => .inl ⟨rfl, rfl⟩, fun p h => nomatch h⟩, same_new n1⟩ (fun _ _ _ ⟨_, _, _, _, _, k⟩ => k) ?_ ?_
    · rintro i x σ H3 H4 hi ⟨v2, v3, v4, rfl, X3, s3⟩ ⟨T, y1, y2, rfl, nT, rfl, ey, ex⟩
      have ey := Option.some.inj ey
      subst ey
      have sT : Same H3 (upd H3 T (.tup [.int (i : Nat), y2])) := same_new nT
      refine ⟨T, _, rfl, .inl (.inl upd_same), rfl, _, _, rfl, _, _, rfl, rfl, ?_⟩
      have X4 := X3.same sT
      have s4 := s3.trans sT
      generalize upd H3 T (.tup [.int (i : Nat), y2]) = H4 at X4 s4 ⊢
      obtain ⟨st, t, rfl, es, ht⟩ := get_tup (hss.same s4) ex
      have hi' : i < ss.length := (List.getElem?_eq_some_iff.mp es).1
      have i24 : i < 24 := Nat.lt_of_lt_of_le hi' G.hi
      -- place
      refine ⟨_, rfl, t, _, _, _, rfl, rfl, .inl (.inl ht), atI_nat (j := 0) rfl, _, rfl, t, _, _, _, rfl, rfl, .inl (.inl ht), atI_nat (j := 1) rfl, by show 2 ≤ sizeLine; decide, fun b nb => ?_⟩
      have sb : Same H4 (upd H4 b (.tup [.int st.a, .str st.w])) := same_new nb
      have hb : (upd H4 b (.tup [.int st.a, .str st.w])) b = some (.tup (([.inl st.a, .inr st.w] : List Key).map kV)) := upd_same
      have X5 := X4.same sb
      have s5 := s4.trans sb
      generalize upd H4 b (.tup [.int st.a, .str st.w]) = H5 at X5 hb s5 ⊢
      obtain ⟨kvs, g2, lk, m5, m7⟩ := id X5
      -- exits.get(place, ())
      refine ⟨_, rfl, e1, rfl, .inr ⟨_, .inl g2⟩, _, rfl, Nat.zero_le _, fun c nc => ⟨_, DGet.t (k := [.inl st.a, .inr st.w]) (same_new nc _ _ g2) (same_new nc _ _ hb), ?_⟩⟩
      have sc : Same H5 (upd H5 c (.tup [])) := same_new nc
      have g3 := sc _ _ g2
      have hb3 := sc _ _ hb
      have s6 := s5.trans sc
      have old : ∃ c2 : Addr, (valV kvs [.inl st.a, .inr st.w]).getD (.ref c) = .ref c2 ∧ (upd H5 c (.tup [])) c2 = some (.tup ((numsTo ss st.a st.w i).map V.int)) := by
        rcases m5 st.a st.w with ⟨e, en⟩ | ⟨_, b2, e, eb⟩
        · exact ⟨c, by rw [en]; rfl, by rw [e]; exact upd_same⟩
        · exact ⟨b2, by rw [e]; rfl, sc _ _ eb⟩
      have m6 : ∀ x z, (numsTo ss x z i = [] ∧ valV kvs [.inl x, .inr z] = none) ∨ (numsTo ss x z i ≠ [] ∧ ∃ b, valV kvs [.inl x, .inr z] = some (.ref b) ∧ (upd H5 c (.tup [])) b = some (.tup ((numsTo ss x z i).map V.int))) := fun x z => (m5 x z).imp id fun ⟨q0, b2, q1, q2⟩ => ⟨q0, b2, q1, sc _ _ q2⟩
      have m8 : ∀ p ∈ kvs, ∃ (b : Addr) (ns : List Int), p.2 = .ref b ∧ (upd H5 c (.tup [])) b = some (.tup (ns.map V.int)) := fun p hp => let ⟨b, ns, e1, e2⟩ := m7 p hp; ⟨b, ns, e1, sc _ _ e2⟩
      generalize upd H5 c (.tup []) = H6 at g3 hb3 s6 old m6 m8 ⊢
      obtain ⟨c2, e2, hx⟩ := old
      rw [e2]
      have ln := numsTo_len ss st.a st.w i
      refine ⟨_, rfl, by show 1 ≤ sizeLine; decide, fun d nd => ?_⟩
      have sd : Same H6 (upd H6 d (.tup [.int (i : Nat)])) := same_new nd
      have enx : numsTo ss st.a st.w (i + 1) = numsTo ss st.a st.w i ++ [(i : Int)] := by rw [numsTo_succ es, if_pos ⟨rfl, rfl⟩]
      have fin : ∀ (r : Addr) (H8 : Hp), Same H6 H8 → H8 r = some (.tup ((numsTo ss st.a st.w (i + 1)).map V.int)) → ∃ (v2 v3 v4 : Option V), ([some (.ref a), some (.ref e1), some (.int (i : Nat)), some (.ref t), some (.ref b)] : List (Option V)) = [some (.ref a), some (.ref e1), v2, v3, v4] ∧
          ExitsAt (upd H8 e1 (.dT (putK kvs [.inl st.a, .inr st.w] (.ref r)))) e1 ss (i + 1) ∧ Same H (upd H8 e1 (.dT (putK kvs [.inl st.a, .inr st.w] (.ref r)))) := fun r H8 s8 hr8 => by
        have ne : ∀ {c3 : Addr} {ys : List V}, H8 c3 = some (.tup ys) → c3 ≠ e1 := fun {c3 ys} e z => by
          rw [z, s8 _ _ g3] at e
          cases e
        refine ⟨_, _, _, rfl, ⟨_, upd_same, Nat.le_trans (length_putK _ _ _) (Nat.succ_le_succ lk), fun x z => ?_, fun p hp => ?_⟩, fun c3 o e => ?_⟩
        · rw [valV_put]
          by_cases h : st.a = x ∧ st.w = z
          · obtain ⟨rfl, rfl⟩ := h
            refine .inr ⟨by rw [enx]; simp, r, if_pos rfl, by rw [upd_ne (ne hr8)]; exact hr8⟩
          · have hk : ¬ (([.inl x, .inr z] : List Key) = [.inl st.a, .inr st.w]) := fun q => by
              injection q with q1 q2
              injection q2 with q2 _
              exact h ⟨(Sum.inl.inj q1).symm, (Sum.inr.inj q2).symm⟩
            rw [if_neg hk, numsTo_succ es, if_neg h, List.append_nil]
            exact (m6 x z).imp id fun ⟨q0, b2, q1, q2⟩ => ⟨q0, b2, q1, by rw [upd_ne (ne (s8 _ _ q2))]; exact s8 _ _ q2⟩
        · rcases mem_putK hp with hp | hp
          · obtain ⟨b2, ns, q1, q2⟩ := m8 p hp
            exact ⟨b2, ns, q1, by rw [upd_ne (ne (s8 _ _ q2))]; exact s8 _ _ q2⟩
          · exact ⟨r, _, hp, by rw [upd_ne (ne hr8)]; exact hr8⟩
        · rw [upd_ne (ne_of_none e n1)]
          exact s8 _ _ (s6 _ _ e)
      have put : ∀ (r : Addr) (H8 : Hp), Same H6 H8 → DPut H8 e1 (.ref b) (.ref r) (upd H8 e1 (.dT (putK kvs [.inl st.a, .inr st.w] (.ref r)))) := fun r H8 s8 => DPut.t (k := [.inl st.a, .inr st.w]) (s8 _ _ g3) (s8 _ _ hb3) (small1000 (by omega))
      refine ⟨c2, d, _, _, rfl, rfl, .inl (.inl (sd _ _ hx)), .inl (.inl upd_same), by rw [List.length_map]; show (numsTo ss st.a st.w i).length + 1 ≤ sizeLine; exact Nat.le_of_lt (small1000 (by omega)), fun e => ?_, (fun _ z => nomatch z), fun _ _ g ng => ?_⟩
      · have e0 : numsTo ss st.a st.w i = [] := List.map_eq_nil_iff.mp e
        exact ⟨_, rfl, _, rfl, e1, _, rfl, put d _ sd, fin d _ sd (by rw [upd_same, enx, e0]; rfl)⟩
      · have sg := sd.trans (same_new (o := .tup ((numsTo ss st.a st.w i).map V.int ++ [.int (i : Nat)])) ng)
        exact ⟨_, rfl, _, rfl, e1, _, rfl, put g _ sg, fin g _ sg (by rw [upd_same, enx, List.map_append]; rfl)⟩
    · rintro σ H3 ⟨v2, v3, v4, rfl, X3, s3⟩
      rw [lu] at X3
      exact ⟨_, rfl, q e1 H3 n1 X3 s3⟩
end
end KX
namespace KX
/-- where the steps that leave x lead, in their order -/
def nxOf (ss : List Stp) (x : Int) : List Int := (ss.filter fun s => decide (s.a = x)).map (·.b)
inductive Reach (ss : List Stp) (x0 : Int) : Int → Prop where
  | refl : Reach ss x0 x0
  | step {s : Stp} : Reach ss x0 s.a → s ∈ ss → Reach ss x0 s.b
theorem mem_nx {ss : List Stp} {x y : Int} : y ∈ nxOf ss x ↔ ∃ s ∈ ss, s.a = x ∧ s.b = y := by
  unfold nxOf
  rw [List.mem_map]
  constructor
  · rintro ⟨s, hs, e⟩
    obtain ⟨h1, h2⟩ := List.mem_filter.mp hs
    exact ⟨s, h1, of_decide_eq_true h2, e⟩
  · rintro ⟨s, h1, h2, e⟩
    exact ⟨s, List.mem_filter.mpr ⟨h1, decide_eq_true h2⟩, e⟩
theorem Reach.nx {ss : List Stp} {x0 x y : Int} (h : Reach ss x0 x) (hy : y ∈ nxOf ss x) : Reach ss x0 y := by
  obtain ⟨s, hs, e1, e2⟩ := mem_nx.mp hy
  rw [← e2]
  exact .step (e1 ▸ h) hs
/-- what is closed under the steps and holds the start holds all that is reached -/
theorem reach_in {ss : List Stp} {x0 : Int} {fs : List Int} (h0 : x0 ∈ fs) (hc : ∀ x ∈ fs, ∀ y ∈ nxOf ss x, y ∈ fs) {x : Int} (h : Reach ss x0 x) : x ∈ fs := by
  induction h with
  | refl => exact h0
  | step h hs ih => exact hc _ ih _ (mem_nx.mpr ⟨_, hs, rfl, rfl⟩)
theorem nd_len : ∀ {fs U : List Int}, fs.Nodup → (∀ x ∈ fs, x ∈ U) → fs.length ≤ U.length
  | [], _, _, _ => Nat.zero_le _
  | x :: r, U, nd, h => by
    obtain ⟨n1, n2⟩ := List.nodup_cons.mp nd
    have hx := h x List.mem_cons_self
    have q := nd_len (fs := r) (U := U.erase x) n2 fun y hy => by
      have ne : y ≠ x := fun e => n1 (e ▸ hy)
      exact (List.mem_erase_of_ne ne).mpr (h y (List.mem_cons_of_mem _ hy))
    rw [List.length_erase_of_mem hx] at q
    have := List.length_pos_of_mem hx
    rw [List.length_cons]
    omega
/-- the search: fs found, as ahead; w: the place whose steps are being looked at, its first ones done -/
structure Srch (ss : List Stp) (x0 : Int) (U fs as : List Int) (w : Option (Int × Nat)) : Prop where
  nd : fs.Nodup
  sub : ∀ x ∈ as, x ∈ fs
  st : x0 ∈ fs
  re : ∀ x ∈ fs, Reach ss x0 x
  inU : ∀ x ∈ fs, x ∈ U
  cl : ∀ x ∈ fs, x ∉ as → (∀ y ∈ nxOf ss x, y ∈ fs) ∨ ∃ n, w = some (x, n)
  pt : ∀ x n, w = some (x, n) → x ∈ fs ∧ ∀ y ∈ (nxOf ss x).take n, y ∈ fs
theorem Srch.start {ss : List Stp} {x0 : Int} {U : List Int} (hU : ∀ x, Reach ss x0 x → x ∈ U) : Srch ss x0 U [x0] [x0] none :=
  ⟨by simp, fun _ h => h, List.mem_singleton.mpr rfl, (fun x h => by rw [List.mem_singleton.mp h]; exact .refl), (fun x h => by rw [List.mem_singleton.mp h]; exact hU _ .refl), (fun x h n => absurd h n), fun _ _ h => nomatch h⟩
theorem Srch.pop {ss : List Stp} {x0 x : Int} {U fs as : List Int} (S : Srch ss x0 U fs (as ++ [x]) none) : Srch ss x0 U fs as (some (x, 0)) := by
  have hx : x ∈ fs := S.sub x (List.mem_append_right _ (List.mem_singleton.mpr rfl))
  refine ⟨S.nd, fun y hy => S.sub y (List.mem_append_left _ hy), S.st, S.re, S.inU, fun y hy n => ?_, fun y m e => ?_⟩
  · by_cases e : y = x
    · exact .inr ⟨0, by rw [e]⟩
    · have n' : y ∉ as ++ [x] := fun h => by
        rcases List.mem_append.mp h with h | h
        · exact n h
        · exact e (List.mem_singleton.mp h)
      rcases S.cl y hy n' with h | ⟨_, h⟩
      · exact .inl h
      · cases h
  · cases e
    exact ⟨hx, fun y hy => by rw [List.take_zero] at hy; cases hy⟩
theorem Srch.old {ss : List Stp} {x0 x y : Int} {U fs as : List Int} {i : Nat} (S : Srch ss x0 U fs as (some (x, i))) (e : (nxOf ss x)[i]? = some y) (h : y ∈ fs) : Srch ss x0 U fs as (some (x, i + 1)) := by
  refine ⟨S.nd, S.sub, S.st, S.re, S.inU, fun z hz n => ?_, fun z m q => ?_⟩
  · rcases S.cl z hz n with c | ⟨_, c⟩
    · exact .inl c
    · cases c
      exact .inr ⟨_, rfl⟩
  · cases q
    obtain ⟨p1, p2⟩ := S.pt x i rfl
    refine ⟨p1, fun w hw => ?_⟩
    rw [List.take_add_one, e] at hw
    rcases List.mem_append.mp hw with hw | hw
    · exact p2 w hw
    · have hw : w ∈ [y] := hw
      rw [List.mem_singleton.mp hw]
      exact h
theorem Srch.new {ss : List Stp} {x0 x y : Int} {U fs as : List Int} {i : Nat} (hU : ∀ x, Reach ss x0 x → x ∈ U) (S : Srch ss x0 U fs as (some (x, i))) (e : (nxOf ss x)[i]? = some y) (h : y ∉ fs) : Srch ss x0 U (fs ++ [y]) (as ++ [y]) (some (x, i + 1)) := by
  obtain ⟨p1, p2⟩ := S.pt x i rfl
  have ry : Reach ss x0 y := (S.re x p1).nx (List.mem_of_getElem? e)
  have mem : ∀ {p : Int → Prop}, (∀ z ∈ fs, p z) → p y → ∀ z ∈ fs ++ [y], p z := fun {p} h1 h2 z hz => by
    rcases List.mem_append.mp hz with q | q
    · exact h1 z q
    · rw [List.mem_singleton.mp q]
      exact h2
  refine ⟨List.nodup_append.mpr ⟨S.nd, by simp, fun a ha b hb q => ?_⟩, fun z hz => ?_, List.mem_append_left _ S.st, mem S.re ry, mem S.inU (hU y ry), fun z hz n => ?_, fun z m q => ?_⟩
  · rw [List.mem_singleton.mp hb] at q
    exact h (q ▸ ha)
  · rcases List.mem_append.mp hz with q | q
    · exact List.mem_append_left _ (S.sub z q)
    · exact List.mem_append_right _ q
  · rcases List.mem_append.mp hz with q | q
    · rcases S.cl z q (fun c => n (List.mem_append_left _ c)) with c | ⟨_, c⟩
      · exact .inl fun w hw => List.mem_append_left _ (c w hw)
      · cases c
        exact .inr ⟨_, rfl⟩
    · exact absurd (List.mem_append_right _ q) n
  · cases q
    refine ⟨List.mem_append_left _ p1, fun w hw => ?_⟩
    rw [List.take_add_one, e] at hw
    rcases List.mem_append.mp hw with hw | hw
    · exact List.mem_append_left _ (p2 w hw)
    · exact List.mem_append_right _ hw
theorem Srch.done {ss : List Stp} {x0 x : Int} {U fs as : List Int} (S : Srch ss x0 U fs as (some (x, (nxOf ss x).length))) : Srch ss x0 U fs as none := by
  refine ⟨S.nd, S.sub, S.st, S.re, S.inU, fun z hz n => ?_, fun _ _ q => nomatch q⟩
  rcases S.cl z hz n with c | ⟨_, c⟩
  · exact .inl c
  · cases c
    obtain ⟨_, p2⟩ := S.pt x _ rfl
    rw [List.take_length] at p2
    exact .inl p2
theorem Srch.all {ss : List Stp} {x0 : Int} {U fs : List Int} (S : Srch ss x0 U fs [] none) (x : Int) : x ∈ fs ↔ Reach ss x0 x := by
  refine ⟨S.re x, reach_in S.st fun y hy => ?_⟩
  rcases S.cl y hy List.not_mem_nil with c | ⟨_, c⟩
  · exact c
  · cases c
end KX
namespace KX
open PySem PySem.Spec PyProof.Rows L2
/-! ### all_reached over ints, by a lambda that tells where the steps lead -/
section
variable {P : Program} {w : World} {K : PySem.W.Frag} {mg : Str → Option Value} {base : Heap}
abbrev nAll : List Str := ["first", "following", "most", "found", "ahead", "place", "after"]
theorem sc_all : FnScope nAll ["first", "following", "most"] (defScope s_all_reached) := ⟨rfl, rfl, rfl, by decide +kernel, rfl, by decide +kernel, by decide +kernel⟩
/-- what the lambda of reached_states tells -/
def spFol (K : PySem.W.Frag) : List (Option V) → V → Hp → VK → XK → Prop := fun ws v H Q _ => ∃ (a : Addr) (us : List V) (ss : List Stp) (x : Int), ws = [some (.ref a)] ∧ v = .int x ∧ Seq K H a us ∧ StepsAt K H us ss ∧ ss.length ≤ 24 ∧
  ∀ (l : Addr) (H' : Hp), H l = none → H' l = some (.lst ((nxOf ss x).map V.int)) → Same H H' → Q (.ref l) H'
def spAll (P : Program) (w : World) (K : PySem.W.Frag) (mg : Str → Option Value) (base : Heap) : Shared → Sp := fun s vs H Q _ => ∃ (x0 : Int) (f a : Addr) (m : Nat) (F : VL.LF) (us : List V) (ss : List Stp) (U : List Int), vs = [.int x0, .ref f, .int m] ∧
  H f = some (VL.LamO f F) ∧ H F.c = some (LamX.CodeO F.c F.qual) ∧ NdefX.CellsAt F.cl ["steps"] [some (.ref a)] s.heap H ∧ (∀ g, VL.LamOk P w K mg base CX0 1 g F ["steps"] (spFol K)) ∧ Seq K H a us ∧ StepsAt K H us ss ∧ ss.length ≤ 24 ∧
  (∀ x, Reach ss x0 x → x ∈ U) ∧ U.length ≤ m ∧ m ≤ 60 ∧
  ∀ (l : Addr) (ns : List Int) (H' : Hp), H l = none → H' l = some (.lst (ns.map V.int)) → ns.Pairwise (· < ·) → (∀ x, x ∈ ns ↔ Reach ss x0 x) → Same H H' → Q (.ref l) H'
theorem ok_all {f : Addr} {fd : FuncData} (F : Fun K "all_reached" "all_reached" s_all_reached f fd) (B : Blt mg) : VL.FnOkS P w K mg base CX0 2 f fd ["first", "following", "most"] (spAll P w K mg base) := by
  refine VL.okS F sc_all (fun s vs H Q E h => ?_) (fun cdv A outer s H vs Q E hr h => ?_)
  · obtain ⟨x0, f, a, m, F, us, ss, U, rfl, _⟩ := h
    rfl
  · obtain ⟨x0, f, a, m, F, us, ss, U, rfl, hf, hc, C, GL, hS, hss, l24, hU, lU, lm, q⟩ := h
    have hu := hu_of hr
    refine ⟨_, PSs.nox (pss_cons (ps_set (i := 3) sc_all.nd rfl (.inl rfl) (pe_disp (pps_cons (pv 0) pe_bl pps_nil) (by rfl) (by rfl) (fun z => by cases z) (by decide)))
      (pss_cons (ps_set (i := 4) sc_all.nd rfl (.inl rfl) (pe_lst (pa_cons (pv 0) pa_nil)))
      (pss_cons (ps_while PassesOwn.never (pt_truth (pv 4) (fun _ => rfl))
        (pss_cons (ps_set (i := 5) sc_all.nd rfl (.inl rfl) (pe_bm0 PySem.F.plainAttrs_list PySem.F.slot_list_pop PySem.F.type_list_pop mt_pop (pv 4)))
        (pss_cons (ps_for PassesOwn.never rfl (pi_list (VL.pe_callL (i := 1) (CX := CX0) (E := E0) GL C rfl hr (Nat.le_refl 1) pass0 rfl (.inl rfl) (pa_cons (pv 5) pa_nil))) (pg_name (i := 6) sc_all.nd rfl (.inl rfl))
          (pss_one (ps_if (pt_cmp (pc_dnotin hu (pv 6) (pv 3))) (pss_cons (ps_dput hu (pv 3) (pv 6) pe_bl rfl)
            (pss_one (ps_expr (pe_bm PySem.F.plainAttrs_list PySem.F.slot_list_append PySem.F.type_list_append mt_append (pv 4) (pa_cons (pv 6) pa_nil))))) pss_nil)))
        (pss_one (ps_if (pt_cmpR op_gt (pe_callB call_lenD (by rfl) B.len PySem.boot_len (pa_cons (pv 3) pa_nil)) (pv 2) (nomark _)) (pss_one VL.ps_dead) pss_nil)))))
      (pss_one (ps_ret (pe_callB (call_sortedDI rfl) (by rfl) B.sorted (by decide +kernel) (pa_cons (pv 3) pa_nil))))))), ?_⟩
    refine fun d nd => ⟨_, rfl, upd_same, [(Sum.inl x0, .bl true)], rfl, (by show 1 ≤ 15; decide), _, rfl, by show 1 ≤ sizeLine; decide, fun l nl => ?_⟩
    rw [upd_upd] at nl ⊢
    have ndl : d ≠ l := fun z => by
      rw [z, upd_same] at nl
      cases nl
    have s0 : Same H (upd (upd H d (.dK (mergeK [] [(Sum.inl x0, .bl true)]))) l (.lst [.int x0])) := (same_new nd).trans (same_new nl)
    have fl : H l = none := (same_new (o := .dK (mergeK [] [(Sum.inl x0, .bl true)])) nd).free nl
    have hd0 : (upd (upd H d (.dK (mergeK [] [(Sum.inl x0, .bl true)]))) l (.lst [.int x0])) d = some (.dK [(Sum.inl x0, .bl true)]) := by
      rw [upd_ne ndl, upd_same]
      rfl
    have hl0 : (upd (upd H d (.dK (mergeK [] [(Sum.inl x0, .bl true)]))) l (.lst [.int x0])) l = some (.lst [.int x0]) := upd_same
    generalize upd (upd H d (.dK (mergeK [] [(Sum.inl x0, .bl true)]))) l (.lst [.int x0]) = H0 at s0 hd0 hl0 ⊢
    have U1 : 1 ≤ U.length := List.length_pos_of_mem (hU x0 .refl)
    have fU : ∀ {fs as : List Int} {wt : Option (Int × Nat)}, Srch ss x0 U fs as wt → fs.length ≤ U.length := fun S => nd_len S.nd S.inU
    refine ⟨fun mm σ H2 => ∃ (kvs : List (Key × V)) (fs as : List Int) (v5 v6 : Option V), σ = [some (.int x0), some (.ref f), some (.int m), some (.ref d), some (.ref l), v5, v6] ∧ H2 d = some (.dK kvs) ∧ kvs.map (·.1) = fs.map Sum.inl ∧ H2 l = some (.lst (as.map V.int)) ∧ Srch ss x0 U fs as none ∧ Same H H2 ∧
        mm = 2 * (U.length - fs.length) + as.length ∧ mm ≤ 2 * U.length, ⟨_, _, [x0], [x0], none, none, rfl, hd0, rfl, hl0, Srch.start hU, s0, rfl, by show 2 * (U.length - 1) + 1 ≤ _; omega⟩, ?_⟩
    rintro mm σ H2 ⟨kvs, fs, as, v5, v6, rfl, hd, hk, hl, S, s2, rfl, lmm⟩
    have isS : ∀ {kvs : List (Key × V)} {fs : List Int} (z : Int), kvs.map (·.1) = fs.map Sum.inl → (valV kvs (Sum.inl z)).isSome = decide (z ∈ fs) := fun {kvs fs} z hk => by
      cases e : valV kvs (Sum.inl z) with
      | none =>
        have q := valV_not e
        rw [hk] at q
        exact (decide_eq_false fun h => q (List.mem_map_of_mem h)).symm
      | some v =>
        have q := valV_in e
        rw [hk] at q
        obtain ⟨z', hz, ez⟩ := List.mem_map.mp q
        cases ez
        exact (decide_eq_true hz).symm
    refine ⟨_, rfl, _, .inl ⟨_, .inl (.inl hl), rfl⟩, ?_⟩
    rcases List.eq_nil_or_concat as with rfl | ⟨as', x, rfl⟩
    · -- return sorted(found)
      refine ⟨_, rfl, d, kvs, fs, rfl, .inl hd, hk, by have := fU S; omega, fun ys p perm pw np => ?_⟩
      refine q p ys _ (s2.free np) upd_same (lt_of_le_nodup ys pw (perm.nodup_iff.mpr S.nd)) (fun z => perm.mem_iff.trans (S.all z)) (s2.trans (same_new np))
    · rw [List.concat_eq_append] at hl S lmm ⊢
      have eE : (!((as' ++ [x]).map V.int).isEmpty) = true := by
        cases as' <;> rfl
      rw [eE]
      have lA : (as' ++ [x]).length = as'.length + 1 := by rw [List.length_append]; rfl
      refine ⟨fun σ' H' => ∃ (kvs : List (Key × V)) (fs2 as2 : List Int) (v5 v6 : Option V), σ' = [some (.int x0), some (.ref f), some (.int m), some (.ref d), some (.ref l), v5, v6] ∧ H' d = some (.dK kvs) ∧ kvs.map (·.1) = fs2.map Sum.inl ∧ H' l = some (.lst (as2.map V.int)) ∧ Srch ss x0 U fs2 as2 none ∧ Same H H' ∧
        2 * (U.length - fs2.length) + as2.length < 2 * (U.length - fs.length) + (as' ++ [x]).length, ?_, ?_⟩
      · rintro σ' H' ⟨kvs2, fs2, as2, w5, w6, rfl, hd2, hk2, hl2, S2, s22, lt2⟩
        exact ⟨_, lt2, kvs2, fs2, as2, w5, w6, rfl, hd2, hk2, hl2, S2, s22, rfl, by omega⟩
      · -- place = ahead.pop()
        refine ⟨_, rfl, .inl ⟨rfl, _, .inl (.inl hl)⟩, l, _, .int x, rfl, rfl, hl, by rw [List.map_append, List.length_append, List.length_map]; show (as'.map V.int ++ [.int x])[as'.length + 1 - 1]? = _; rw [Nat.add_sub_cancel, List.getElem?_append_right (by rw [List.length_map]; exact Nat.le_refl _), List.length_map, Nat.sub_self]; rfl, ?_⟩
        have edl : ((as' ++ [x]).map V.int).dropLast = as'.map V.int := by
          rw [List.map_append]
          exact List.dropLast_concat
        rw [edl]
        have hd3 : (upd H2 l (.lst (as'.map V.int))) d = some (.dK kvs) := by rw [upd_ne ndl]; exact hd
        have hl3 : (upd H2 l (.lst (as'.map V.int))) l = some (.lst (as'.map V.int)) := upd_same
        have s3 : Same H (upd H2 l (.lst (as'.map V.int))) := fun b o e => by
          rw [upd_ne (ne_of_none e fl)]
          exact s2 _ _ e
        generalize upd H2 l (.lst (as'.map V.int)) = H3 at hd3 hl3 s3 ⊢
        refine ⟨f, rfl, s3 _ _ hf, _, rfl, .int x, rfl, s3 _ _ hf, s3 _ _ hc, a, us, ss, x, rfl, rfl, hS.same s3, hss.same s3, l24, fun l2 H4 n2 h2 s4 => ⟨l2, rfl, ⟨_, .inl (.inl h2)⟩, ?_⟩⟩
        have n2d : d ≠ l2 := ne_of_none hd3 n2
        have n2l : l ≠ l2 := ne_of_none hl3 n2
        refine for_list (K := K) (xs := (nxOf ss x).map V.int) (fun i σ H5 => ∃ (kvs : List (Key × V)) (fs2 as2 : List Int) (v6 : Option V), σ = [some (.int x0), some (.ref f), some (.int m), some (.ref d), some (.ref l), some (.int x), v6] ∧ H5 d = some (.dK kvs) ∧ kvs.map (·.1) = fs2.map Sum.inl ∧ H5 l = some (.lst (as2.map V.int)) ∧
            Srch ss x0 U fs2 as2 (some (x, i)) ∧ Same H H5 ∧ H5 l2 = some (.lst ((nxOf ss x).map V.int)) ∧ 2 * (U.length - fs2.length) + as2.length ≤ 2 * (U.length - fs.length) + as'.length)
          ⟨kvs, fs, as', v6, rfl, s4 _ _ hd3, hk, s4 _ _ hl3, S.pop, s3.trans s4, h2, Nat.le_refl _⟩ (fun _ _ _ _ ⟨_, _, _, _, _, _, _, _, _, _, h, _⟩ => .inl (.inl h)) ?_ ?_
        · rintro i y σ H5 hy ⟨kvs2, fs2, as2, w6, rfl, hd5, hk5, hl5, S5, s5, h25, lt5⟩
          obtain ⟨z, rfl, ez⟩ : ∃ z, y = .int z ∧ (nxOf ss x)[i]? = some z := by
            rw [List.getElem?_map] at hy
            cases e : (nxOf ss x)[i]? with
            | none => rw [e] at hy; cases hy
            | some z => rw [e] at hy; exact ⟨z, (Option.some.inj hy).symm, rfl⟩
          refine ⟨_, rfl, _, rfl, d, _, rfl, DGet.k (k := Sum.inl z) hd5, _, rfl, ?_⟩
          rw [isS z hk5]
          have lk : kvs2.length = fs2.length := by
            have q := congrArg List.length hk5
            rw [List.length_map, List.length_map] at q
            exact q
          have := fU S5
          by_cases e : z ∈ fs2
          · rw [decide_eq_true e]
            exact ⟨kvs2, fs2, as2, _, rfl, hd5, hk5, hl5, S5.old ez e, s5, h25, lt5⟩
          · rw [decide_eq_false e]
            have vn : valV kvs2 (Sum.inl z) = none := by
              have q := isS z hk5
              rw [decide_eq_false e] at q
              exact Option.isNone_iff_eq_none.mp (by rw [← Option.not_isSome, q]; rfl)
            refine ⟨_, rfl, _, rfl, d, _, rfl, DPut.k (k := Sum.inl z) hd5 (small1000 (by omega)), ?_⟩
            have hl6 : (upd H5 d (.dK (putK kvs2 (Sum.inl z) (.bl true)))) l = some (.lst (as2.map V.int)) := by rw [upd_ne ndl.symm]; exact hl5
            refine ⟨_, rfl, .inl ⟨rfl, _, .inl (.inl hl6)⟩, _, rfl, l, _, _, rfl, rfl, hl6, small1000 (by rw [List.length_map]; omega), ?_⟩
            have S6 := S5.new hU ez e
            have := fU S6
            have lf : (fs2 ++ [z]).length = fs2.length + 1 := by rw [List.length_append]; rfl
            have la : (as2 ++ [z]).length = as2.length + 1 := by rw [List.length_append]; rfl
            refine ⟨_, fs2 ++ [z], as2 ++ [z], _, rfl, by rw [upd_ne ndl, upd_same], ?_, by rw [upd_same, List.map_append]; rfl, S6, fun b o eb => ?_, by rw [upd_ne n2l.symm, upd_ne n2d.symm]; exact h25, by omega⟩
            · rw [putK_new _ vn, List.map_append, List.map_append, hk5]
              rfl
            · rw [upd_ne (ne_of_none eb fl), upd_ne (ne_of_none eb nd)]
              exact s5 _ _ eb
        · rintro σ H5 ⟨kvs2, fs2, as2, w6, rfl, hd5, hk5, hl5, S5, s5, h25, lt5⟩
          rw [List.length_map] at S5
          have lk : kvs2.length = fs2.length := by
            have q := congrArg List.length hk5
            rw [List.length_map, List.length_map] at q
            exact q
          have := fU S5
          refine ⟨_, rfl, d, kvs2, rfl, hd5, _, rfl, _, _, rfl, rfl, _, rfl, ?_⟩
          rw [decide_eq_false (show ¬ (m : Int) < (kvs2.length : Nat) by omega)]
          exact ⟨kvs2, fs2, as2, _, _, rfl, hd5, hk5, hl5, S5.done, s5, by omega⟩
end
end KX
namespace KX
open PySem PySem.Spec PyProof.Rows L2
/-! ### reached_states -/
/-- a def whose code object has a table of its own -/
structure FunC (K : PySem.W.Frag) (x qual : Str) (st : Stmt) (f : Addr) (fd : FuncData) (c : Addr) : Prop where
  ex : ∃ (oc : Value) (od : Option Addr) (kV doc pm : Value) (an : Option Addr) (ct : Value) (osl : Array (Option Value)),
    fd = PySem.W.fnOf x qual (defArgs st) (defBody st) (defScope st) .none kV doc pm an (.ref c) ct ∧ K.lookup f = some ⟨oc, od, .func fd, osl⟩ ∧ PySem.W.codeIn K (.ref c) qual = true
  kp : PySem.W.keepIn K (.ref f) = true
section
variable {P : Program} {w : World} {K : PySem.W.Frag} {mg : Str → Option Value} {base : Heap}
theorem FunC.ok {x qual : Str} {st : Stmt} {f c : Addr} {fd : FuncData} {N ps : List Str} {k : Nat} {sp : Sp} (F : FunC K x qual st f fd c) (S : FnScope N ps (defScope st)) (len : ∀ vs H Q E, sp vs H Q E → vs.length = ps.length)
    (hbody : ∀ (A : Around) (outer : List Env) (s : Shared) (H : Hp) (vs : List V) (Q : VK) (E : XK), Room k (A.deeper (envOfC qual (defScope st) s.heap.objs.size f (.ref c))) → sp vs H Q E →
      ∃ t, PSs (cxOf CX0 P w K mg base N qual (defScope st) f (.ref c) A outer s H E).nox (defBody st) t ∧ t { nx := fun _ H' => Q .non H', rt := Q } (start N vs) H) : FnOk P w K mg base CX0 (k + 1) f fd ps sp := by
  obtain ⟨oc, od, kV, doc, pm, an, ct, osl, rfl, lk, hcd⟩ := F.ex
  refine fn_of lk hcd S len fun A outer s H vs Q E hr hsp => ?_
  obtain ⟨t, h, q⟩ := hbody A outer s H vs Q E hr hsp
  exact ⟨t, h.nox, q⟩
theorem sc_reached : FnScope ["start", "steps"] ["start", "steps"] (defScope s_reached_states) := ⟨rfl, rfl, rfl, by decide +kernel, rfl, by decide +kernel, by decide +kernel⟩
abbrev nmL : Nat → Nat → Str := fun _ _ => "reached_states.<locals>.<lambda>"
/-- the tables of code objects; among them the one that reached_states makes -/
structure TbC where
  P : Addr
  l : List NdefX.NTab
  mem : (P, nmL) ∈ l
  un : ∀ p ∈ l, p.1 = P → p.2 = nmL
abbrev TabL (T : TbC) (H : Hp) : Prop := NdefX.TabsN T.l H
def spReached (K : PySem.W.Frag) (T : TbC) : Sp := fun vs H Q _ => ∃ (x0 : Int) (a : Addr) (us : List V) (ss : List Stp) (U : List Int), vs = [.int x0, .ref a] ∧ TabL T H ∧ Seq K H a us ∧ StepsAt K H us ss ∧ ss.length ≤ 24 ∧ (∀ x, Reach ss x0 x → x ∈ U) ∧ U.length ≤ 8 ∧
  ∀ (l : Addr) (ns : List Int) (H' : Hp), H l = none → H' l = some (.lst (ns.map V.int)) → ns.Pairwise (· < ·) → (∀ x, x ∈ ns ↔ Reach ss x0 x) → LamX.ExtN H H' → TabL T H' → Q (.ref l) H'
theorem extN_seq {H H' : Hp} {a : Addr} {us : List V} (k : LamX.ExtN H H') (h : Seq K H a us) : Seq K H' a us :=
  h.imp (fun q => q.imp (fun r => r.imp (fun e => k _ _ e (fun ps z => nomatch z)) fun ⟨o, e⟩ => ⟨o, k _ _ e (fun ps z => nomatch z)⟩) id) fun q => k _ _ q (fun ps z => nomatch z)
theorem extN_steps {H H' : Hp} {us : List V} {ss : List Stp} (k : LamX.ExtN H H') (h : StepsAt K H us ss) : StepsAt K H' us ss := Paired.mapP h fun _ _ ⟨t, e, q⟩ => ⟨t, e, k _ _ q (fun ps z => nomatch z)⟩
theorem tabL_same {T : TbC} {H H' : Hp} (k : Same H H') (h : TabL T H) : TabL T H' := NdefX.TabsN.ext h k
theorem nxOf_take {ss : List Stp} {i : Nat} {s : Stp} (x : Int) (e : ss[i]? = some s) : nxOf (ss.take (i + 1)) x = nxOf (ss.take i) x ++ if s.a = x then [s.b] else [] := by
  unfold nxOf
  rw [List.take_add_one, e, List.filter_append, List.map_append]
  congr 1
  show (List.filter (fun s => decide (s.a = x)) [s]).map (·.b) = _
  by_cases h : s.a = x
  · rw [if_pos h]
    simp [h]
  · rw [if_neg h]
    simp [h]
theorem nxOf_len (ss : List Stp) (x : Int) : (nxOf ss x).length ≤ ss.length := by
  unfold nxOf
  rw [List.length_map]
  exact List.length_filter_le _ _
theorem ok_reached {f fA c : Addr} {T : TbC} {fd fdA : FuncData} (F : FunC K "reached_states" "reached_states" s_reached_states f fd c) (B : Blt mg) (L : Lim mg) (TB : LamX.TabB base mg c T.P) (FA : Fun K "all_reached" "all_reached" s_all_reached fA fdA) (bA : Binds K fdA ["first", "following", "most"] []) (gA : mg "all_reached" = some (.ref fA)) :
    FnOk P w K mg base CX0 3 f fd ["start", "steps"] (spReached K T) := by
  have GA : VL.FnOkS P w K mg base CX0 2 fA fdA ["first", "following", "most"] (spAll P w K mg base) := ok_all FA B
  obtain ⟨t8, e8⟩ := L.states
  refine F.ok sc_reached (fun vs H Q E h => ?_) (fun A outer s H vs Q E hr h => ?_)
  · obtain ⟨x0, a, us, ss, U, rfl, _⟩ := h
    rfl
  · obtain ⟨x0, a, us, ss, U, rfl, hT, hS, hss, l24, hU, lU, q⟩ := h
    refine ⟨_, pss_one (ps_ret (VL.pe_callSt (E := E0) GA hr (by rfl) gA FA.kp bA pass0 (pa_cons (pv 0) (pa_cons (VL.pe_lamV (T := T.l) (nm := nmL) (P := T.P) (c := c) TB rfl T.mem rfl T.un rfl (VL.free_by (by kernel_rfl)))
      (pa_cons (pe_glob rfl e8 (v := .int 8) ⟨_, rfl⟩) pa_nil))))), ?_⟩
    refine ⟨_, rfl, hT, fun g c' H1 eN nn T1 g0 hg hc => fun pins s1 I1 => ?_⟩
    refine ⟨x0, g, a, 8, _, us, ss, U, rfl, hg, hc, ?_, fun g2 => ?_, extN_seq eN hS, extN_steps eN hss, l24, hU, lU, by decide, fun l ns H' nl hl pw hr' s' => ?_⟩
    · exact NdefX.cells_of (js := [1]) I1 (NdefX.Caps.made I1.ok (VL.free_by (by kernel_rfl)) (fun y hy => by rw [List.mem_singleton.mp hy]; exact List.mem_cons_of_mem _ List.mem_cons_self) rfl)
    · refine VL.lamOk_of (N := ["state", "steps", "step"]) (p := "state") (VL.lscope_by (by kernel_rfl)) VL.clOk_from (fun _ _ _ => rfl) fun A2 outer2 s2 H2 v ws Q2 E2 hr2 hw hsp => ?_
      obtain ⟨a2, us2, ss2, x, rfl, rfl, hS2, hss2, l242, q2⟩ := hsp
      have nd3 : (["state", "steps", "step"] : List Str).Nodup := by decide +kernel
      refine ⟨_, pe_lc (own := [("step", 2)]) (g := gName 2) rfl nd3 (VE.pi_seqS (j := 1) rfl (.inr (.inr rfl))) (blkOk_by (by kernel_rfl)) (fun _ _ _ _ _ => pg_name (i := 2) nd3 rfl (.inl rfl))
        (fun _ _ _ _ _ => pts_one (pt_cmpR op_eq (pe_ix (r := rIxT K) ix_tup (pv 2) pe_int (fun _ _ => rfl)) (pv 0) (nomark _))) (fun _ _ _ _ _ => pe_ix (r := rIxT K) ix_tup (pv 2) pe_int (fun _ _ => rfl)), ?_⟩
      refine VE.lc_seqS (H0 := H2) rfl (Same.refl _) hS2.sq (fun D i H3 => H3 D = some (.lst ((nxOf (ss2.take i) x).map V.int)) ∧ Same H2 H3) (fun D hD => ⟨by rw [upd_same]; rfl, same_new hD⟩) (fun D i H3 _ h => h.2) ?_ ?_
      · rintro D i y H3 hD hy ⟨hD3, s3⟩
        obtain ⟨st, t, rfl, es, ht⟩ := get_tup (hss2.same s3) hy
        refine ⟨rfl, _, rfl, t, _, _, _, rfl, rfl, .inl (.inl ht), atI_nat (j := 0) rfl, _, rfl, rfl, _, rfl, ?_⟩
        by_cases ea : st.a = x
        · rw [decide_eq_true (congrArg V.int ea)]
          refine ⟨_, rfl, t, _, _, _, rfl, rfl, .inl (.inl ht), atI_nat (j := 2) rfl, _, hD3, ?_, ?_, fun b o e => ?_⟩
          · rw [List.length_map]
            have := nxOf_len (ss2.take i) x
            have := List.length_take_le' i ss2
            exact small1000 (by omega)
          · rw [upd_same, nxOf_take x es, if_pos ea, List.map_append]
            rfl
          · rw [upd_ne (ne_of_none e hD)]
            exact s3 b o e
        · rw [decide_eq_false fun z => ea (V.int.inj z)]
          refine ⟨?_, s3⟩
          rw [nxOf_take x es, if_neg ea, List.append_nil]
          exact hD3
      · rintro D H3 hD ⟨hD3, s3⟩
        rw [hss2.length, List.take_length] at hD3
        exact q2 D H3 hD hD3 s3
    · exact q l ns H' (nn _ nl) hl pw hr' (fun b o e n => s' _ _ (eN b o e n)) (tabL_same s' T1)
end
end KX
namespace KX
open PySem PySem.Spec PyProof.Rows L2
/-! ### Hand.__init__ -/
structure HandT (K : PySem.W.Frag) (mg : Str → Option Value) (C : Addr) : Prop where
  cl : Cls K C
  start : NoAttr K C "start"
  steps : NoAttr K C "steps"
  words : NoAttr K C "words"
  states : NoAttr K C "states"
  exits : NoAttr K C "exits"
def hfs (x0 : Int) (ts ws sts ex : Addr) : List (Str × V) := putF "exits" (.ref ex) (putF "states" (.ref sts) (putF "words" (.ref ws) (putF "steps" (.ref ts) (putF "start" (.int x0) []))))
/-- what stands stands, but what is at p and the tables -/
def Kept (p : Addr) (H H' : Hp) : Prop := ∀ b o, b ≠ p → H b = some o → (∀ ps, o ≠ .tbl ps) → H' b = some o
/-- a hand stands at p -/
structure HandAt (K : PySem.W.Frag) (C : Addr) (H : Hp) (p : Addr) (x0 : Int) (us : List V) (wl : List Str) (nl : List Int) : Prop where
  ob : ∃ dx ts ws sts ex, H p = some (.ins C dx (hfs x0 ts ws sts ex)) ∧ H ts = some (.tup us) ∧ H ws = some (.tup (wl.map V.str)) ∧ H sts = some (.tup (nl.map V.int))
/-- the hand of such a start and such steps -/
structure HandOf (ss : List Stp) (x0 : Int) (wl : List Str) (nl : List Int) : Prop where
  ws : sortedS wl = true
  wn : wl.Nodup
  wm : ∀ z, z ∈ wl ↔ ∃ s ∈ ss, s.w = z
  np : nl.Pairwise (· < ·)
  nm : ∀ x, x ∈ nl ↔ Reach ss x0 x
/-- the hand at p: what its moves want -/
def HandM (K : PySem.W.Frag) (C : Addr) (H : Hp) (p : Addr) (ss : List Stp) (wl : List Str) (nl : List Int) : Prop := ∃ dx fs ws sts ex, H p = some (.ins C dx fs) ∧ fs.lookup ("words" : Str) = some (V.ref ws) ∧ fs.lookup ("states" : Str) = some (V.ref sts) ∧ fs.lookup ("exits" : Str) = some (V.ref ex) ∧
  H ws = some (.tup (wl.map V.str)) ∧ H sts = some (.tup (nl.map V.int)) ∧ ExitsAt H ex ss ss.length
theorem ExitsAt.ext {H H' : Hp} {d : Addr} {ss : List Stp} {n : Nat} (k : LamX.ExtN H H') (h : ExitsAt H d ss n) : ExitsAt H' d ss n :=
  let ⟨kvs, e, l, f, g⟩ := h
  ⟨kvs, k _ _ e (fun ps z => nomatch z), l, fun x z => (f x z).imp id fun ⟨n1, b, e1, e2⟩ => ⟨n1, b, e1, k _ _ e2 (fun ps z => nomatch z)⟩, fun p hp => let ⟨b, ns, e1, e2⟩ := g p hp; ⟨b, ns, e1, k _ _ e2 (fun ps z => nomatch z)⟩⟩
theorem HandM.ext {K : PySem.W.Frag} {C : Addr} {H H' : Hp} {p : Addr} {ss : List Stp} {wl : List Str} {nl : List Int} (k : LamX.ExtN H H') (h : HandM K C H p ss wl nl) : HandM K C H' p ss wl nl :=
  let ⟨dx, fs, ws, sts, ex, e, e1, e2, e3, e4, e5, e6⟩ := h
  ⟨dx, fs, ws, sts, ex, k _ _ e (fun ps z => nomatch z), e1, e2, e3, k _ _ e4 (fun ps z => nomatch z), k _ _ e5 (fun ps z => nomatch z), e6.ext k⟩
/-- but for a list or an instance at q -/
theorem ExitsAt.sxO {H H' : Hp} {q d : Addr} {ss : List Stp} {n : Nat} {o : HO} (hq : H q = some o) (n1 : ∀ kv, o ≠ .dT kv) (n2 : ∀ xs, o ≠ .tup xs) (k : SameX q H H') (h : ExitsAt H d ss n) : ExitsAt H' d ss n :=
  let ⟨kvs, e, l, f, g⟩ := h
  ⟨kvs, k _ _ (fun z => n1 _ (by rw [z, hq] at e; exact Option.some.inj e)) e, l, fun x z => (f x z).imp id fun ⟨n0, b, e1, e2⟩ => ⟨n0, b, e1, k _ _ (fun z => n2 _ (by rw [z, hq] at e2; exact Option.some.inj e2)) e2⟩,
    fun p hp => let ⟨b, ns, e1, e2⟩ := g p hp; ⟨b, ns, e1, k _ _ (fun z => n2 _ (by rw [z, hq] at e2; exact Option.some.inj e2)) e2⟩⟩
section
variable {P : Program} {w : World} {K : PySem.W.Frag} {mg : Str → Option Value} {base : Heap}
abbrev nInit : List Str := ["self", "start", "steps", "words", "states", "step"]
theorem sc_init : FnScope nInit ["self", "start", "steps"] (defScope s_Hand_init) := ⟨rfl, rfl, rfl, by decide +kernel, rfl, by decide +kernel, by decide +kernel⟩
def spHand (K : PySem.W.Frag) (C : Addr) (T : TbC) : Sp := fun vs H Q _ => ∃ (p dx a : Addr) (x0 : Int) (us : List V) (ss : List Stp) (U : List Int) (zs : List Str), vs = [.ref p, .int x0, .ref a] ∧ H p = some (.ins C dx []) ∧ TabL T H ∧ Seq K H a us ∧ StepsAt K H us ss ∧ Good ss ∧
  0 ≤ x0 ∧ x0 ≤ 99 ∧ (∀ s ∈ ss, s.w ∈ zs) ∧ zs.length ≤ 8 ∧ (∀ x, Reach ss x0 x → x ∈ U) ∧ U.length ≤ 8 ∧
  ∀ (wl : List Str) (nl : List Int) (H' : Hp), HandAt K C H' p x0 us wl nl → HandM K C H' p ss wl nl → HandOf ss x0 wl nl → Kept p H H' → TabL T H' → Q .non H'
/-- the defs that Hand's making calls -/
structure HandD (K : PySem.W.Frag) (mg : Str → Option Value) (base : Heap) (fW fS fN fR fT fC fA fG fE c : Addr) (T : TbC) (fdW fdS fdN fdR fdT fdC fdA fdG fdE : FuncData) : Prop where
  kin : KinD K mg fW fS fN fdW fdS fdN
  FR : Fun K "is_row" "is_row" s_is_row fR fdR
  bR : Binds K fdR ["value"] []
  gR : mg "is_row" = some (.ref fR)
  FT : Fun K "is_step" "is_step" s_is_step fT fdT
  bT : Binds K fdT ["value"] []
  gT : mg "is_step" = some (.ref fT)
  FC : Fun K "check_steps" "check_steps" s_check_steps fC fdC
  bC : Binds K fdC ["steps"] []
  gC : mg "check_steps" = some (.ref fC)
  FA : Fun K "all_reached" "all_reached" s_all_reached fA fdA
  bA : Binds K fdA ["first", "following", "most"] []
  gA : mg "all_reached" = some (.ref fA)
  FG : FunC K "reached_states" "reached_states" s_reached_states fG fdG c
  bG : Binds K fdG ["start", "steps"] []
  gG : mg "reached_states" = some (.ref fG)
  TB : LamX.TabB base mg c T.P
  FE : Fun K "exits_of" "exits_of" s_exits_of fE fdE
  bE : Binds K fdE ["steps"] []
  gE : mg "exits_of" = some (.ref fE)
theorem Kept.same {p : Addr} {H H' : Hp} (k : Same H H') : Kept p H H' := fun b o _ e _ => k b o e
theorem Kept.ext {p : Addr} {H H' : Hp} (k : LamX.ExtN H H') : Kept p H H' := fun b o _ e n => k b o e n
theorem Kept.trans {p : Addr} {H H1 H2 : Hp} (a : Kept p H H1) (b : Kept p H1 H2) : Kept p H H2 := fun c o n e t => b c o n (a c o n e t) t
theorem Kept.at {p : Addr} {H : Hp} {o : HO} : Kept p H (upd H p o) := fun b u n e _ => by rw [upd_ne n]; exact e
theorem nd_lenS : ∀ {fs U : List Str}, fs.Nodup → (∀ x ∈ fs, x ∈ U) → fs.length ≤ U.length
  | [], _, _, _ => Nat.zero_le _
  | x :: r, U, nd, h => by
    obtain ⟨n1, n2⟩ := List.nodup_cons.mp nd
    have hx := h x List.mem_cons_self
    have q := nd_lenS (fs := r) (U := U.erase x) n2 fun y hy => by
      have ne : y ≠ x := fun e => n1 (e ▸ hy)
      exact (List.mem_erase_of_ne ne).mpr (h y (List.mem_cons_of_mem _ hy))
    rw [List.length_erase_of_mem hx] at q
    have := List.length_pos_of_mem hx
    rw [List.length_cons]
    omega
theorem few1 {x0 : Int} : (putF "start" (.int x0) []).length < 1000 := Nat.lt_of_le_of_lt (length_putF _ _ _) (by decide)
theorem few2 {x0 : Int} {t : Addr} : (putF "steps" (.ref t) (putF "start" (.int x0) [])).length < 1000 := Nat.lt_of_le_of_lt (Nat.le_trans (length_putF _ _ _) (Nat.succ_le_succ (length_putF _ _ _))) (by decide)
theorem few3 {x0 : Int} {t u : Addr} : (putF "words" (.ref u) (putF "steps" (.ref t) (putF "start" (.int x0) []))).length < 1000 :=
  Nat.lt_of_le_of_lt (Nat.le_trans (length_putF _ _ _) (Nat.succ_le_succ (Nat.le_trans (length_putF _ _ _) (Nat.succ_le_succ (length_putF _ _ _))))) (by decide)
theorem few4 {x0 : Int} {t u v : Addr} : (putF "states" (.ref v) (putF "words" (.ref u) (putF "steps" (.ref t) (putF "start" (.int x0) [])))).length < 1000 :=
  Nat.lt_of_le_of_lt (Nat.le_trans (length_putF _ _ _) (Nat.succ_le_succ (Nat.le_trans (length_putF _ _ _) (Nat.succ_le_succ (Nat.le_trans (length_putF _ _ _) (Nat.succ_le_succ (length_putF _ _ _))))))) (by decide)
theorem kept_seq {p a : Addr} {H H' : Hp} {us : List V} {o : HO} (hp : H p = some o) (hn : ∀ u, (o = .lst u ∨ o = .tup u) → False) (hf : ∀ q u, o = .frz q u → False) (k : Kept p H H') (h : Seq K H a us) : Seq K H' a us := by
  have one : ∀ {b : Addr} {u : HO}, (u = .lst us ∨ u = .tup us) → Rd H b u → Rd H' b u := fun {b u} hu r => by
    rcases r with e | ⟨q, e⟩
    · refine .inl (k b u (fun z => ?_) e fun ps z => ?_)
      · rw [z, hp] at e
        cases e
        exact hn us hu
      · rcases hu with r | r <;> rw [r] at z <;> cases z
    · refine .inr ⟨q, k b _ (fun z => ?_) e fun ps z => nomatch z⟩
      rw [z, hp] at e
      cases e
      exact hf q u rfl
  exact h.imp (fun q => q.imp (one (.inl rfl)) id) fun q => k _ _ (fun z => by rw [z, hp] at q; cases q; exact hn us (.inr rfl)) q fun ps z => nomatch z
theorem kept_steps {p : Addr} {H H' : Hp} {us : List V} {ss : List Stp} {o : HO} (hp : H p = some o) (hn : ∀ u, o = .tup u → False) (k : Kept p H H') (h : StepsAt K H us ss) : StepsAt K H' us ss :=
  Paired.mapP h fun _ _ ⟨t, e, q⟩ => ⟨t, e, k _ _ (fun z => by rw [z, hp] at q; cases q; exact hn _ rfl) q (fun ps z => nomatch z)⟩
theorem tabL_upd {p : Addr} {T : TbC} {H : Hp} {o o' : HO} (hp : H p = some o) (n1 : ∀ ps, o ≠ .tbl ps) (n2 : ∀ c q, o ≠ LamX.CodeO c q) (h : TabL T H) : TabL T (upd H p o') := by
  intro x hx
  obtain ⟨ps, e1, e2, e3⟩ := h x hx
  refine ⟨ps, by rw [upd_ne (fun z => n1 ps (by rw [z, hp] at e1; exact Option.some.inj e1))]; exact e1, e2, fun pos cv hc => ?_⟩
  obtain ⟨c, r1, r2⟩ := e3 pos cv hc
  exact ⟨c, r1, by rw [upd_ne (fun z => n2 _ _ (by rw [z, hp] at r2; exact Option.some.inj r2))]; exact r2⟩
/-- while Hand's fields are stored -/
structure InitSt (K : PySem.W.Frag) (C : Addr) (T : TbC) (p dx a ts : Addr) (us : List V) (ss : List Stp) (H0 : Hp) (fs : List (Str × V)) (H : Hp) : Prop where
  hp : H p = some (.ins C dx fs)
  tt : H ts = some (.tup us)
  tab : TabL T H
  kept : Kept p H0 H
  seq : Seq K H a us
  steps : StepsAt K H us ss
theorem kept_tup {K : PySem.W.Frag} {p ts C dx : Addr} {fs : List (Str × V)} {H H' : Hp} {us : List V} (hp : H p = some (.ins C dx fs)) (k : Kept p H H') (h : H ts = some (.tup us)) : H' ts = some (.tup us) :=
  k _ _ (fun z => by rw [z, hp] at h; cases h) h fun ps z => nomatch z
theorem InitSt.put {K : PySem.W.Frag} {C p dx a ts : Addr} {T : TbC} {us : List V} {ss : List Stp} {H0 H H6 : Hp} {fs fs' : List (Str × V)} (S : InitSt K C T p dx a ts us ss H0 fs H) (s6 : Same H H6) : InitSt K C T p dx a ts us ss H0 fs' (upd H6 p (.ins C dx fs')) := by
  have hp6 := s6 _ _ S.hp
  refine ⟨upd_same, kept_tup (K := K) hp6 Kept.at (s6 _ _ S.tt), tabL_upd hp6 (fun ps z => nomatch z) (fun c q z => by unfold LamX.CodeO at z; cases z) (tabL_same s6 S.tab), (S.kept.trans (Kept.same s6)).trans Kept.at,
    kept_seq hp6 (fun u h => by rcases h with h | h <;> cases h) (fun q u h => nomatch h) Kept.at (S.seq.same s6), kept_steps hp6 (fun u h => nomatch h) Kept.at (S.steps.same s6)⟩
theorem ok_init {f C fW fS fN fR fT fC fA fG fE c : Addr} {T : TbC} {fd fdW fdS fdN fdR fdT fdC fdA fdG fdE : FuncData} (F : Fun K "__init__" "Hand.__init__" s_Hand_init f fd) (B : Blt mg) (N : Kin mg) (L : Lim mg) (TX : HandT K mg C) (D : HandD K mg base fW fS fN fR fT fC fA fG fE c T fdW fdS fdN fdR fdT fdC fdA fdG fdE) :
    FnOk P w K mg base CX0 5 f fd ["self", "start", "steps"] (spHand K C T) := by
  have GS : FnOk P w K mg base CX0 2 fS fdS ["value"] spState := ok_state D.kin.FS B N D.kin.FW D.kin.bW D.kin.gW
  have GC : FnOk P w K mg base CX0 4 fC fdC ["steps"] (spCheck K) := ok_check D.FC B N L D.kin D.FR D.bR D.gR D.FT D.bT D.gT
  have GG : FnOk P w K mg base CX0 3 fG fdG ["start", "steps"] (spReached K T) := ok_reached D.FG B L D.TB D.FA D.bA D.gA
  have GE : FnOk P w K mg base CX0 1 fE fdE ["steps"] (spExits K) := ok_exits D.FE B
  obtain ⟨t8, e8⟩ := L.words
  refine F.ok sc_init (fun vs H Q E h => ?_) (fun cdv A outer s H vs Q E hr h => ?_)
  · obtain ⟨p, dx, a, x0, us, ss, U, zs, rfl, _⟩ := h
    rfl
  · obtain ⟨p, dx, a, x0, us, ss, U, zs, rfl, hp, hT, hS, hss, G, h0, h1, hz, lz, hU, lU, q⟩ := h
    refine ⟨_, pss_cons (ps_if (pt_not (pt_val (pe_call GS (hr.mono (by decide)) (by rfl) D.kin.gS D.kin.FS.kp D.kin.bS .nil pass0 (pa_cons (pv 1) pa_nil)))) (pss_one VL.ps_dead) pss_nil)
      (pss_cons (ps_expr (pe_call GC hr (by rfl) D.gC D.FC.kp D.bC .nil pass0 (pa_cons (pv 2) pa_nil)))
      (pss_cons (ps_set (i := 3) sc_init.nd rfl (.inl rfl) (pe_callB (VT.cr_sortedT rfl) (by rfl) B.sorted (by decide +kernel) (pa_cons (VT.pe_scT (own := [("step", 5)]) (g := gName 5) (tt := tYes) rfl sc_init.nd (VE.pi_seqS (j := 2) rfl (.inl rfl)) (blkOk_by (N := nInit) (sc := defScope s_Hand_init) (by decide +kernel))
        (fun _ _ _ _ _ => pg_name (i := 5) sc_init.nd rfl (.inl rfl)) (fun _ _ _ _ _ => pts_nil) (fun _ _ _ _ _ => pe_ix (r := rIxT K) ix_tup (pv 5) pe_int (fun _ _ => rfl))) pa_nil)))
      (pss_cons (ps_if (pt_cmpR op_gt (pe_callB call_len_seq (by rfl) B.len PySem.boot_len (pa_cons (pv 3) pa_nil)) (pe_glob rfl e8 (v := .int 8) ⟨_, rfl⟩) (nomark _)) (pss_one VL.ps_dead) pss_nil)
      (pss_cons (ps_set (i := 4) sc_init.nd rfl (.inl rfl) (pe_call GG (hr.mono (by decide)) (by rfl) D.gG D.FG.kp D.bG .nil pass0 (pa_cons (pv 1) (pa_cons (pv 2) pa_nil))))
      (pss_cons (ps_fld (pv 0) (pv 1) rfl)
      (C8.pss_cut (ps_fld (pv 0) (pe_tupleOf (by rfl) B.tuple (pv 2)) rfl)
      (pss_cons (ps_fld (pv 0) (pe_tupleOf (by rfl) B.tuple (pv 3)) rfl)
      (pss_cons (ps_fld (pv 0) (pe_tupleOf (by rfl) B.tuple (pv 4)) rfl)
      (pss_one (ps_fld (pv 0) (pe_call GE (hr.mono (by decide)) (by rfl) D.gE D.FE.kp D.bE .nil pass0 (pa_cons (pv 2) pa_nil)) rfl)))))))))), ?_⟩
    refine ⟨_, rfl, x0, rfl, h0, h1, true, rfl, ?_⟩
    refine ⟨_, rfl, a, us, ss, rfl, hS, hss, G, fun H1 s1 => ?_⟩
    have l24 := G.hi
    have hS1 := hS.same s1
    have hss1 := hss.same s1
    have lu : us.length = ss.length := hss.length
    -- words
    dsimp only [tSeq, tAsg, tCB, tCons]
    refine VE.sc_seqS (K := K) (a := a) (xs := us) (σ := [some (V.ref p), some (V.int x0), some (V.ref a), none, none, none]) (H := H1) (g := gName 5) (tt := tYes) (te := tOp (rIxT K) (tVar 5) (tC (.int 1))) (vs := [5]) (ww := w) (j := 2) (H0 := H1) rfl (Same.refl _) hS1.sq (fun D i H2 => ∃ (S : Str → Bool) (n : Nat), H2 D = some (VT.SetTO w D S n) ∧ n ≤ i ∧ (∀ z, S z = true ↔ ∃ s ∈ ss.take i, s.w = z) ∧ Same H1 H2)
      (fun D hD => ⟨_, _, upd_same, Nat.le_refl _, (fun z => ⟨(fun h => Bool.noConfusion h), (fun ⟨s, h, _⟩ => by rw [List.take_zero] at h; cases h)⟩), same_new hD⟩) (fun D i H2 _ ⟨_, _, _, _, _, k⟩ => k) ?_ ?_
    · rintro D i y H2 hD hy ⟨S, n, hDS, ln, hSz, s2⟩
      obtain ⟨st, t, rfl, es, ht⟩ := get_tup (hss1.same s2) hy
      have hi' : i < ss.length := (List.getElem?_eq_some_iff.mp es).1
      refine ⟨rfl, _, rfl, t, _, _, _, rfl, rfl, .inl (.inl ht), atI_nat (j := 1) rfl, st.w, S, n, rfl, hDS, by unfold scanBound; omega, _, _, upd_same, ?_, fun z => ?_, fun b o e => ?_⟩
      · split <;> omega
      · rw [Bool.or_eq_true, hSz z, decide_eq_true_eq, List.take_add_one, es]
        constructor
        · rintro (⟨s, h, e⟩ | e)
          · exact ⟨s, List.mem_append_left _ h, e⟩
          · exact ⟨st, List.mem_append_right _ (List.mem_singleton.mpr rfl), e.symm⟩
        · rintro ⟨s, h, e⟩
          rcases List.mem_append.mp h with h | h
          · exact .inl ⟨s, h, e⟩
          · rw [List.mem_singleton.mp h] at e
            exact .inr e.symm
      · rw [upd_ne (ne_of_none e hD)]
        exact s2 b o e
    rintro D0 H2 hD0 ⟨S, n, hDS, ln, hSz, s2⟩
    rw [lu, List.take_length] at hSz
    refine ⟨D0, S, n, rfl, hDS, by omega, fun wl pw w1 w2 w3 w4 npw => ?_⟩
    have s3 : Same H (upd H2 pw (.lst (wl.map V.str))) := (s1.trans s2).trans (same_new npw)
    have hpw : (upd H2 pw (.lst (wl.map V.str))) pw = some (.lst (wl.map V.str)) := upd_same
    generalize upd H2 pw (.lst (wl.map V.str)) = H3 at s3 hpw ⊢
    have wm : ∀ z, z ∈ wl ↔ ∃ s ∈ ss, s.w = z := fun z => (w3 z).trans (hSz z)
    have l8 : wl.length ≤ 8 := Nat.le_trans (nd_lenS w2 fun z hzz => by
      obtain ⟨s, hs, e⟩ := (wm z).mp hzz
      exact e ▸ hz s hs) lz
    refine ⟨_, rfl, pw, _, rfl, .inl (.inl (.inl hpw)), _, _, rfl, rfl, _, rfl, ?_⟩
    rw [decide_eq_false (show ¬ (8 : Int) < ((wl.map V.str).length : Nat) by rw [List.length_map]; omega)]
    -- states
    refine ⟨_, rfl, _, rfl, x0, a, us, ss, U, rfl, tabL_same s3 hT, hS.same s3, hss.same s3, l24, hU, lU, fun ps nl H4 nps hps np nm e4 T4 => ?_⟩
    have k4 : Kept p H H4 := (Kept.same s3).trans (Kept.ext e4)
    have hp4 : H4 p = some (.ins C dx []) := e4 _ _ (s3 _ _ hp) (fun ps z => nomatch z)
    have hpw4 : H4 pw = some (.lst (wl.map V.str)) := e4 _ _ hpw (fun ps z => nomatch z)
    have hS4 : Seq K H4 a us := extN_seq e4 (hS.same s3)
    have hss4 : StepsAt K H4 us ss := extN_steps e4 (hss.same s3)
    have npw : pw ≠ p := fun z => by
      rw [z, hp4] at hpw4
      cases hpw4
    have npp : ps ≠ p := fun z => by
      rw [z, hp4] at hps
      cases hps
    -- self.start = start
    refine ⟨_, rfl, _, rfl, p, C, dx, _, rfl, hp4, TX.cl, TX.start, (by show 0 < 1000; decide), ?_⟩
    have insN : ∀ {fs : List (Str × V)} (u : List V), ((HO.ins C dx fs) = .lst u ∨ (HO.ins C dx fs) = .tup u) → False := fun u h => by
      rcases h with h | h <;> cases h
    have insF : ∀ {fs : List (Str × V)} (q : Obj) (u : HO), (HO.ins C dx fs) = .frz q u → False := fun q u h => nomatch h
    have insT : ∀ {fs : List (Str × V)} (u : List V), (HO.ins C dx fs) = .tup u → False := fun u h => nomatch h
    have insB : ∀ {fs : List (Str × V)} (q : Array Value), (HO.ins C dx fs) ≠ .tbl q := fun q h => nomatch h
    have insC : ∀ {fs : List (Str × V)} (c : Addr) (q : Str), (HO.ins C dx fs) ≠ LamX.CodeO c q := fun c q h => by
      unfold LamX.CodeO at h
      cases h
    have T5 : TabL T (upd H4 p (.ins C dx (putF "start" (.int x0) []))) := tabL_upd hp4 insB insC T4
    have k5 : Kept p H (upd H4 p (.ins C dx (putF "start" (.int x0) []))) := k4.trans Kept.at
    have S5 : Seq K (upd H4 p (.ins C dx (putF "start" (.int x0) []))) a us := kept_seq hp4 insN insF Kept.at hS4
    have ss5 : StepsAt K (upd H4 p (.ins C dx (putF "start" (.int x0) []))) us ss := kept_steps hp4 insT Kept.at hss4
    have pw5 : (upd H4 p (.ins C dx (putF "start" (.int x0) []))) pw = some (.lst (wl.map V.str)) := by rw [upd_ne npw]; exact hpw4
    have ps5 : (upd H4 p (.ins C dx (putF "start" (.int x0) []))) ps = some (.lst (nl.map V.int)) := by rw [upd_ne npp]; exact hps
    have hp5 : (upd H4 p (.ins C dx (putF "start" (.int x0) []))) p = some (.ins C dx (putF "start" (.int x0) [])) := upd_same
    generalize upd H4 p (.ins C dx (putF "start" (.int x0) [])) = H5 at T5 k5 S5 ss5 pw5 ps5 hp5 ⊢
    -- self.steps = tuple(steps)
    refine ⟨fun σ H7 => σ = [some (.ref p), some (.int x0), some (.ref a), some (.ref pw), some (.ref ps), none] ∧ ∃ ts, H7 p = some (.ins C dx (putF "steps" (.ref ts) (putF "start" (.int x0) []))) ∧ H7 ts = some (.tup us) ∧ TabL T H7 ∧ Kept p H H7 ∧ Seq K H7 a us ∧ StepsAt K H7 us ss ∧
      H7 pw = some (.lst (wl.map V.str)) ∧ H7 ps = some (.lst (nl.map V.int)), ?_, ?_⟩
    · have put : ∀ (ts : Addr) (H6 : Hp), Same H5 H6 → H6 ts = some (.tup us) → (∃ ts2, (upd H6 p (.ins C dx (putF "steps" (.ref ts) (putF "start" (.int x0) [])))) p = some (.ins C dx (putF "steps" (.ref ts2) (putF "start" (.int x0) []))) ∧ (upd H6 p (.ins C dx (putF "steps" (.ref ts) (putF "start" (.int x0) [])))) ts2 = some (.tup us) ∧
          TabL T (upd H6 p (.ins C dx (putF "steps" (.ref ts) (putF "start" (.int x0) [])))) ∧ Kept p H (upd H6 p (.ins C dx (putF "steps" (.ref ts) (putF "start" (.int x0) [])))) ∧ Seq K (upd H6 p (.ins C dx (putF "steps" (.ref ts) (putF "start" (.int x0) [])))) a us ∧ StepsAt K (upd H6 p (.ins C dx (putF "steps" (.ref ts) (putF "start" (.int x0) [])))) us ss ∧
          (upd H6 p (.ins C dx (putF "steps" (.ref ts) (putF "start" (.int x0) [])))) pw = some (.lst (wl.map V.str)) ∧ (upd H6 p (.ins C dx (putF "steps" (.ref ts) (putF "start" (.int x0) [])))) ps = some (.lst (nl.map V.int))) := fun ts H6 s6 ht => by
        have hp6 := s6 _ _ hp5
        refine ⟨ts, upd_same, ?_, tabL_upd hp6 insB insC (tabL_same s6 T5), (k5.trans (Kept.same s6)).trans Kept.at, kept_seq hp6 insN insF Kept.at (S5.same s6), kept_steps hp6 insT Kept.at (ss5.same s6), by rw [upd_ne npw]; exact s6 _ _ pw5, by rw [upd_ne npp]; exact s6 _ _ ps5⟩
        have ne : ts ≠ p := fun z => by
          rw [z, hp6] at ht
          cases ht
        rw [upd_ne ne]
        exact ht
      rcases S5 with sl | st
      · refine ⟨_, rfl, .inl ⟨a, us, rfl, sl, fun q0 nq => ⟨_, rfl, p, C, dx, _, rfl, same_new nq _ _ hp5, TX.cl, TX.steps, few1, rfl, put q0 _ (same_new nq) upd_same⟩⟩⟩
      · refine ⟨_, rfl, .inr ⟨a, us, rfl, .inl (.inl st), _, rfl, p, C, dx, _, rfl, hp5, TX.cl, TX.steps, few1, rfl, put a _ (Same.refl _) st⟩⟩
    rintro σ H7 ⟨rfl, ts, hp7, ht7, T7, k7, S7, ss7, pw7, ps7⟩
    have I7 : InitSt K C T p dx a ts us ss H _ H7 := ⟨hp7, ht7, T7, k7, S7, ss7⟩
    -- self.words = tuple(words)
    refine ⟨_, rfl, .inl ⟨pw, _, rfl, .inl (.inl pw7), fun q1 nq1 => ⟨_, rfl, p, C, dx, _, rfl, same_new nq1 _ _ hp7, TX.cl, TX.words, few2, ?_⟩⟩⟩
    have n1p : q1 ≠ p := (ne_of_none hp7 nq1).symm
    have I8 := I7.put (fs' := putF "words" (.ref q1) (putF "steps" (.ref ts) (putF "start" (.int x0) []))) (same_new (o := .tup (wl.map V.str)) nq1)
    have w8 : (upd (upd H7 q1 (.tup (wl.map V.str))) p (.ins C dx (putF "words" (.ref q1) (putF "steps" (.ref ts) (putF "start" (.int x0) []))))) q1 = some (.tup (wl.map V.str)) := by rw [upd_ne n1p, upd_same]
    have ps8 : (upd (upd H7 q1 (.tup (wl.map V.str))) p (.ins C dx (putF "words" (.ref q1) (putF "steps" (.ref ts) (putF "start" (.int x0) []))))) ps = some (.lst (nl.map V.int)) := by rw [upd_ne npp]; exact same_new nq1 _ _ ps7
    generalize upd (upd H7 q1 (.tup (wl.map V.str))) p (.ins C dx (putF "words" (.ref q1) (putF "steps" (.ref ts) (putF "start" (.int x0) [])))) = H8 at I8 w8 ps8 ⊢
    -- self.states = tuple(states)
    refine ⟨_, rfl, .inl ⟨ps, _, rfl, .inl (.inl ps8), fun q2 nq2 => ⟨_, rfl, p, C, dx, _, rfl, same_new nq2 _ _ I8.hp, TX.cl, TX.states, few3, ?_⟩⟩⟩
    have n2p : q2 ≠ p := (ne_of_none I8.hp nq2).symm
    have I9 := I8.put (fs' := putF "states" (.ref q2) (putF "words" (.ref q1) (putF "steps" (.ref ts) (putF "start" (.int x0) [])))) (same_new (o := .tup (nl.map V.int)) nq2)
    have w9 : (upd (upd H8 q2 (.tup (nl.map V.int))) p (.ins C dx (putF "states" (.ref q2) (putF "words" (.ref q1) (putF "steps" (.ref ts) (putF "start" (.int x0) [])))))) q1 = some (.tup (wl.map V.str)) := by rw [upd_ne n1p]; exact same_new nq2 _ _ w8
    have s9 : (upd (upd H8 q2 (.tup (nl.map V.int))) p (.ins C dx (putF "states" (.ref q2) (putF "words" (.ref q1) (putF "steps" (.ref ts) (putF "start" (.int x0) [])))))) q2 = some (.tup (nl.map V.int)) := by rw [upd_ne n2p, upd_same]
    generalize upd (upd H8 q2 (.tup (nl.map V.int))) p (.ins C dx (putF "states" (.ref q2) (putF "words" (.ref q1) (putF "steps" (.ref ts) (putF "start" (.int x0) []))))) = H9 at I9 w9 s9 ⊢
    -- self.exits = exits_of(steps)
    refine ⟨_, rfl, a, us, ss, rfl, I9.seq, I9.steps, G, fun d H10 nd X10 s10 => ⟨_, rfl, p, C, dx, _, rfl, s10 _ _ I9.hp, TX.cl, TX.exits, few4, ?_⟩⟩
    have I11 := I9.put (fs' := hfs x0 ts q1 q2 d) s10
    have w11 : (upd H10 p (.ins C dx (hfs x0 ts q1 q2 d))) q1 = some (.tup (wl.map V.str)) := by rw [upd_ne n1p]; exact s10 _ _ w9
    have s11 : (upd H10 p (.ins C dx (hfs x0 ts q1 q2 d))) q2 = some (.tup (nl.map V.int)) := by rw [upd_ne n2p]; exact s10 _ _ s9
    exact q wl nl _ ⟨dx, ts, q1, q2, d, I11.hp, I11.tt, w11, s11⟩ ⟨dx, _, q1, q2, d, I11.hp, rfl, rfl, rfl, w11, s11, X10.sxO (s10 _ _ I9.hp) (fun kv z => nomatch z) (fun xs z => nomatch z) SameX.at⟩ ⟨w1, w2, wm, np, nm⟩ I11.kept I11.tab
end
end KX
/-! == and != of an instance with an own __eq__ and any value, both answers. -/
namespace VQ
open PySem PySem.Spec PyProof.Rows L2
section
variable {X : Cx} {CX : CXT} {k : Nat} {C f : Addr} {fd : FuncData} {ps : List Str} {sp : Sp} {E : XK}
/-- x == y -/
def rEqO (K : PySem.W.Frag) (C : Addr) (sp : Sp) (E : XK) : R2 := fun x y H Q => ∃ (p dx : Addr) (fs : List (Str × V)) (t : Value), x = .ref p ∧ H p = some (.ins C dx fs) ∧ TyX K H y t ∧ PySem.W.notFirst K C t = true ∧
  sp [x, y] H (fun v H' => ∃ b, v = .bl b ∧ Q (.bl b) H') E
def rNeO (K : PySem.W.Frag) (C : Addr) (sp : Sp) (E : XK) : R2 := fun x y H Q => ∃ (p dx : Addr) (fs : List (Str × V)) (t : Value), x = .ref p ∧ H p = some (.ins C dx fs) ∧ TyX K H y t ∧ PySem.W.notFirst K C t = true ∧
  sp [x, y] H (fun v H' => ∃ b, v = .bl b ∧ Q (.bl (!b)) H') E
end
end VQ
namespace KX
open PySem PySem.Spec PyProof.Rows L2
/-! ### what isinstance and == ask of the classes -/
structure OwnK (K : PySem.W.Frag) (C : Addr) : Prop where
  cl : Cls K C
  ca : PySem.W.findIn K (.ref C) "__class__" = some (some (.builtin "object.__class__"))
  cg : PySem.W.specialIn K (.builtin "object.__class__") "__get__" = some (some (.builtin "getset_descriptor.__get__"))
  ct : PySem.W.takesIn K (.builtin "object.__class__") = some true
  ob : PySem.W.mroIn K C (.type "object") = some true
theorem OwnK.ty {K : PySem.W.Frag} {C p dx : Addr} {fs : List (Str × V)} {H : Hp} (O : OwnK K C) (e : H p = some (.ins C dx fs)) : TyX K H (.ref p) (.ref C) := .base (.ins e O.cl O.ca O.cg O.ct O.ob)
/-- types that are not the class C, nor below it -/
structure NotC (K : PySem.W.Frag) (C : Addr) (t : Value) : Prop where
  kit : PySem.W.kitOne K t (.ref C) = some false
  nf : PySem.W.notFirst K C t = true
structure EqC (K : PySem.W.Frag) (C f : Addr) : Prop where
  eq : PySem.W.findIn K (.ref C) "__eq__" = some (some (.ref f))
  fn : PySem.W.isFn K (.ref f) = true
  ne : PySem.W.findIn K (.ref C) "__ne__" = some (some (.builtin "object.__ne__"))
end KX
namespace KX
open PySem PySem.Spec PyProof.Rows L2
/-! ### what stands while a law draws -/
theorem tabL_sx {p : Addr} {T : TbC} {H H' : Hp} (n1 : ∀ ps, H p ≠ some (.tbl ps)) (n2 : ∀ c q, H p ≠ some (LamX.CodeO c q)) (k : SameX p H H') (h : TabL T H) : TabL T H' := by
  intro x hx
  obtain ⟨ps, e1, e2, e3⟩ := h x hx
  refine ⟨ps, k _ _ (fun z => n1 ps (z ▸ e1)) e1, e2, fun pos cv hc => ?_⟩
  obtain ⟨c, r1, r2⟩ := e3 pos cv hc
  exact ⟨c, r1, k _ _ (fun z => n2 _ _ (z ▸ r2)) r2⟩
theorem PoolAt.nt {H : Hp} {p : Addr} (h : PoolAt H p) : (∀ ps, H p ≠ some (.tbl ps)) ∧ ∀ c q, H p ≠ some (LamX.CodeO c q) := by
  obtain ⟨x, y, z, e⟩ := h
  refine ⟨fun ps q => ?_, fun c r q => ?_⟩
  · rw [e] at q
    cases q
  · rw [e] at q
    unfold LamX.CodeO at q
    cases q
/-- what the law keeps while it draws from the pool at p -/
structure Base0 (H0 : Hp) (p : Addr) (H : Hp) : Prop where
  s : Same H0 H
  np : H0 p = none
  pool : PoolAt H p
theorem PoolAt.same {H H' : Hp} {p : Addr} (k : Same H H') (h : PoolAt H p) : PoolAt H' p := let ⟨x, y, z, e⟩ := h; ⟨x, y, z, k _ _ e⟩
theorem Base0.sx {H0 : Hp} {p : Addr} {H H' : Hp} (h : Base0 H0 p H) (k : SameX p H H') (hp : PoolAt H' p) : Base0 H0 p H' := ⟨fun b o e => k _ _ (ne_of_none e h.np) (h.s _ _ e), h.np, hp⟩
theorem Base0.draw {H0 : Hp} {p : Addr} {H : Hp} (h : Base0 H0 p H) (x y z : Int) : Base0 H0 p (upd H p (.lst [.int x, .int y, .int z])) := h.sx SameX.at ⟨x, y, z, upd_same⟩
theorem Base0.same {H0 : Hp} {p : Addr} {H H' : Hp} (h : Base0 H0 p H) (k : Same H H') : Base0 H0 p H' := h.sx (SameX.of k) (h.pool.same k)
/-- a list that stands, but for the pool's place -/
structure LstAt (H : Hp) (l p : Addr) (xs : List V) : Prop where
  at_ : H l = some (.lst xs)
  ne : l ≠ p
theorem LstAt.draw {H : Hp} {l p : Addr} {xs : List V} (h : LstAt H l p xs) (o : HO) : LstAt (upd H p o) l p xs := ⟨by rw [upd_ne h.ne]; exact h.at_, h.ne⟩
theorem LstAt.same {H H' : Hp} {l p : Addr} {xs : List V} (h : LstAt H l p xs) (k : Same H H') : LstAt H' l p xs := ⟨k _ _ h.at_, h.ne⟩
theorem LstAt.sx {H H' : Hp} {l p : Addr} {xs : List V} (h : LstAt H l p xs) (k : SameX p H H') : LstAt H' l p xs := ⟨k _ _ h.ne h.at_, h.ne⟩
theorem hu64b {A : Around} {k : Nat} (hr : Room k A) : A.units + 64 < cLine := by
  have := hr.un
  omega
theorem HandAt.kept {K : PySem.W.Frag} {C p p2 C2 dx2 : Addr} {fs : List (Str × V)} {H H' : Hp} {x0 : Int} {us : List V} {wl : List Str} {nl : List Int} (ne : p ≠ p2) (hp2 : H p2 = some (.ins C2 dx2 fs)) (k : Kept p2 H H') (h : HandAt K C H p x0 us wl nl) : HandAt K C H' p x0 us wl nl := by
  obtain ⟨dx, ts, ws, sts, ex, e1, e2, e3, e4⟩ := h.ob
  have nt : ∀ {b : Addr} {xs : List V}, H b = some (.tup xs) → b ≠ p2 := fun {b xs} e z => by
    rw [z, hp2] at e
    cases e
  exact ⟨dx, ts, ws, sts, ex, k _ _ ne e1 (fun ps z => nomatch z), kept_tup (K := K) hp2 k e2, k _ _ (nt e3) e3 (fun ps z => nomatch z), k _ _ (nt e4) e4 (fun ps z => nomatch z)⟩
theorem HandAt.same {K : PySem.W.Frag} {C p : Addr} {H H' : Hp} {x0 : Int} {us : List V} {wl : List Str} {nl : List Int} (k : Same H H') (h : HandAt K C H p x0 us wl nl) : HandAt K C H' p x0 us wl nl := by
  obtain ⟨dx, ts, ws, sts, ex, e1, e2, e3, e4⟩ := h.ob
  exact ⟨dx, ts, ws, sts, ex, k _ _ e1, k _ _ e2, k _ _ e3, k _ _ e4⟩
/-- but for a list at l -/
theorem HandAt.sx {K : PySem.W.Frag} {C p l : Addr} {H H' : Hp} {x0 : Int} {us ys : List V} {wl : List Str} {nl : List Int} (hl : H l = some (.lst ys)) (k : SameX l H H') (h : HandAt K C H p x0 us wl nl) : HandAt K C H' p x0 us wl nl := by
  obtain ⟨dx, ts, ws, sts, ex, e1, e2, e3, e4⟩ := h.ob
  have nt : ∀ {b : Addr} {o : HO}, H b = some o → (∀ xs, o ≠ .lst xs) → b ≠ l := fun {b o} e n z => by
    rw [z, hl] at e
    exact n _ (Option.some.inj e).symm
  exact ⟨dx, ts, ws, sts, ex, k _ _ (nt e1 fun xs z => nomatch z) e1, k _ _ (nt e2 fun xs z => nomatch z) e2, k _ _ (nt e3 fun xs z => nomatch z) e3, k _ _ (nt e4 fun xs z => nomatch z) e4⟩
end KX
namespace KX
open PySem PySem.Spec PyProof.Rows L2
/-! ### _law_hand -/
/-- the pool at p is drawn from, all else stands -/
structure Bp (H0 : Hp) (p : Addr) (H : Hp) : Prop where
  s : SameX p H0 H
  pool : PoolAt H p
theorem Bp.draw {H0 H : Hp} {p : Addr} (h : Bp H0 p H) (x y z : Int) : Bp H0 p (upd H p (.lst [.int x, .int y, .int z])) := ⟨h.s.trans SameX.at, x, y, z, upd_same⟩
theorem Bp.same {H0 H H' : Hp} {p : Addr} (h : Bp H0 p H) (k : Same H H') : Bp H0 p H' := ⟨h.s.trans (SameX.of k), h.pool.same k⟩
theorem Bp.sx {H0 H H' : Hp} {p : Addr} (h : Bp H0 p H) (k : SameX p H H') (hp : PoolAt H' p) : Bp H0 p H' := ⟨h.s.trans k, hp⟩
theorem Bp.ne {H0 H : Hp} {p l : Addr} {o : HO} (h : Bp H0 p H) (e : H l = none) : l ≠ p := fun z => by
  obtain ⟨_, _, _, q⟩ := h.pool
  rw [z, q] at e
  cases e
def stsOf (a g : Int) (n : Nat) : List Int := (List.range n).map fun (k : Nat) => a + g * (k : Int)
section
variable {P : Program} {w : World} {K : PySem.W.Frag} {mg : Str → Option Value} {base : Heap}
abbrev nLH : List Str := ["_law_pool_here", "_law_names_here", "_law_most_states", "_law_most_steps", "_law_shape", "_law_first", "_law_gap", "_law_k", "_law_states", "_law_start_here", "_law_steps_here", "_law_word", "_law_step", "_law_one", "_law_count"]
def spLHand (K : PySem.W.Frag) : Sp := fun vs H Q _ => ∃ (p nl : Addr) (ms mt : Nat) (zs : List Str), vs = [.ref p, .ref nl, .int ms, .int mt] ∧ PoolAt H p ∧ nl ≠ p ∧ SqL K H nl (zs.map V.str) ∧ zs ≠ [] ∧ zs.length ≤ 1000 ∧ (∀ z ∈ zs, NameOk z) ∧
  1 ≤ ms ∧ ms ≤ mt ∧ mt ≤ 24 ∧ ms ≤ 8 ∧
  ∀ (t l : Addr) (us : List V) (ss : List Stp) (x0 : Int) (sts : List Int) (H' : Hp), H t = none → H l = none → H' t = some (.tup [.int x0, .ref l]) → H' l = some (.lst us) → StepsAt K H' us ss → Steps ss sts zs → ss ≠ [] → ss.length ≤ mt → x0 ∈ sts → sts.length ≤ ms →
    (∀ x ∈ sts, 0 ≤ x ∧ x ≤ 75 + 3 * (ms : Int)) → PoolAt H' p → SameX p H H' → Q (.ref t) H'
end
end KX
/-! Set comprehensions of texts with two clauses. -/
namespace VT
open PySem PySem.Spec PyProof.Rows L2 PpSet
section
variable {prog : Program} {w : World} {A : Around} {R : Result → Shared → Prop} {s : Shared} {elt t0 i0 t1 i1 : Expr} {ifs0 ifs1 : List Expr} {scope : Scope} {pos : Pos} {it acc : Value} {env : Env}
end

section
variable {X : Cx}
/-- [elt for tg in iter if .. for tg1 in iter1 if ..]: behind the first clause's store and tests the second source's own loop, from which Nx is reached. vs: the block's names; vs1: those of the second target -/
def tSc2 (w : World) (wi : TI) (g : TG) (tt : TT) (wi1 : TI) (g1 : TG) (tt1 : TT) (te : TE) (vs vs1 : List Nat) : TE := fun σ H Q => wi σ H fun J H1 => ∀ D, H1 D = none → ∃ W : Nat → Nat → Hp → Prop, (∃ m, W 0 m (upd H1 D (SetTO w D (fun _ => false) 0))) ∧ ∀ i m H, W i m H →
  (J.stop i H ∧ Q (.ref D) H) ∨ (J.go i H ∧ ∃ Nx : Hp → Prop, (∀ H', Nx H' → ∃ m', m' < m ∧ W (i + 1) m' H') ∧ ∀ x H', J.yld i H x H' → g x (wipe σ vs) H' fun σ2 H2 => wipe σ2 vs = wipe σ vs ∧ tt σ2 H2 fun b H3 =>
    if b = true then wi1 σ2 H3 fun J1 H4 => ∃ W1 : Nat → Nat → Hp → Prop, (∃ m, W1 0 m H4) ∧ ∀ j k H, W1 j k H →
      (J1.stop j H ∧ Nx H) ∨ (J1.go j H ∧ ∃ Nx1 : Hp → Prop, (∀ H', Nx1 H' → ∃ k', k' < k ∧ W1 (j + 1) k' H') ∧ ∀ x H', J1.yld j H x H' → g1 x (wipe σ2 vs1) H' fun σ3 H5 => wipe σ3 vs1 = wipe σ2 vs1 ∧ tt1 σ3 H5 fun b H6 =>
        if b = true then te σ3 H6 fun y H7 => AddT w D y H7 Nx1 else Nx1 H6)
    else Nx H3)
end
end VT
/-! Walks of two clauses of a set comprehension. -/
namespace VE
open PySem PySem.Spec PyProof.Rows L2 VT
section
variable {K : PySem.W.Frag} {a : Addr} {xs : List V} {j : Nat} {σ σ2 : L2.St} {H H0 H4 : Hp} {g g1 : TG} {tt tt1 : TT} {te : TE} {vs vs1 : List Nat} {ww : World} {D : Addr} {Nx : Hp → Prop}
/-- the second clause's loop, from which Nx is reached -/
def InSc (ww : World) (J1 : It) (g1 : TG) (tt1 : TT) (te : TE) (vs1 : List Nat) (D : Addr) (σ2 : L2.St) (H4 : Hp) (Nx : Hp → Prop) : Prop := ∃ W1 : Nat → Nat → Hp → Prop, (∃ m, W1 0 m H4) ∧ ∀ j k H, W1 j k H →
      (J1.stop j H ∧ Nx H) ∨ (J1.go j H ∧ ∃ Nx1 : Hp → Prop, (∀ H', Nx1 H' → ∃ k', k' < k ∧ W1 (j + 1) k' H') ∧ ∀ x H', J1.yld j H x H' → g1 x (wipe σ2 vs1) H' fun σ3 H5 => wipe σ3 vs1 = wipe σ2 vs1 ∧ tt1 σ3 H5 fun b H6 =>
        if b = true then te σ3 H6 fun y H7 => AddT ww D y H7 Nx1 else Nx1 H6)
end
end VE
namespace KX
open PySem PySem.Spec PyProof.Rows L2
/-! ### System.__init__ and what it calls -/
structure Lim2 (mg : Str → Option Value) : Prop where
  hands : ∃ t, mg "MOST_HANDS" = some (.int 4 t)
  words : ∃ t, mg "MOST_WORDS_systems" = some (.int 12 t)
theorem sqT_same {K : PySem.W.Frag} {H H' : Hp} {a : Addr} {xs : List V} (k : Same H H') (h : SqT K H a xs) : SqT K H' a xs := h.imp (fun r => r.imp (fun e => k _ _ e) fun ⟨o, e⟩ => ⟨o, k _ _ e⟩) id
/-- the hand at p: what a system reads of it -/
def HandW (K : PySem.W.Frag) (C : Addr) (H : Hp) (v : V) (h : Int × List Str) : Prop := ∃ p dx fs ws, v = .ref p ∧ H p = some (.ins C dx fs) ∧ fs.lookup ("start" : Str) = some (V.int h.1) ∧ fs.lookup ("words" : Str) = some (V.ref ws) ∧ SqT K H ws (h.2.map V.str)
theorem HandW.same {K : PySem.W.Frag} {C : Addr} {H H' : Hp} {v : V} {h : Int × List Str} (k : Same H H') (w : HandW K C H v h) : HandW K C H' v h :=
  let ⟨p, dx, fs, ws, e, e1, e2, e3, e4⟩ := w
  ⟨p, dx, fs, ws, e, k _ _ e1, e2, e3, sqT_same k e4⟩
abbrev HandsW (K : PySem.W.Frag) (C : Addr) (H : Hp) (us : List V) (hs : List (Int × List Str)) : Prop := Paired (HandW K C H) us hs
theorem HandsW.same {K : PySem.W.Frag} {C : Addr} {H H' : Hp} {us : List V} {hs : List (Int × List Str)} (k : Same H H') (w : HandsW K C H us hs) : HandsW K C H' us hs := Paired.mapP w fun _ _ q => q.same k
section
variable {P : Program} {w : World} {K : PySem.W.Frag} {mg : Str → Option Value} {base : Heap}
/-! check_hands -/
def spChk (K : PySem.W.Frag) (C : Addr) : Sp := fun vs H Q _ => ∃ (a : Addr) (us : List V) (hs : List (Int × List Str)), vs = [.ref a] ∧ Seq K H a us ∧ HandsW K C H us hs ∧ 1 ≤ us.length ∧ us.length ≤ 4 ∧ ∀ H', Same H H' → Q .non H'
/-! chosen_hands -/
/-- these are chosen by d of many hands -/
def Chosen (K : PySem.W.Frag) (H : Hp) (d : V) (many : Nat) (S : Int → Prop) : Prop := (d = .non ∧ ∀ x, S x ↔ 0 ≤ x ∧ x < (many : Nat)) ∨ (∃ (a : Addr) (xs : List Int), d = .ref a ∧ Seq K H a (xs.map V.int) ∧ xs.Nodup ∧ (∀ x ∈ xs, 0 ≤ x ∧ x < (many : Nat)) ∧ ∀ x, S x ↔ x ∈ xs)
def spCho (K : PySem.W.Frag) : Sp := fun vs H Q _ => ∃ (d : V) (many : Nat) (S : Int → Prop), vs = [d, .int many] ∧ many ≤ 50 ∧ Chosen K H d many S ∧
  ∀ (t : Addr) (dl : List Int) (H' : Hp), H t = none → H' t = some (.tup (dl.map V.int)) → dl.Pairwise (· < ·) → (∀ x, x ∈ dl ↔ S x) → Same H H' → Q (.ref t) H'
end
end KX
namespace KX
open PySem PySem.Spec PyProof.Rows L2
/-! ### System.__init__ -/
structure SysT (K : PySem.W.Frag) (CS : Addr) : Prop where
  cl : Cls K CS
  hands : NoAttr K CS "hands"
  diligent : NoAttr K CS "diligent"
  words : NoAttr K CS "words"
  start : NoAttr K CS "start"
def sfs (ts ds ws st : Addr) : List (Str × V) := putF "start" (.ref st) (putF "words" (.ref ws) (putF "diligent" (.ref ds) (putF "hands" (.ref ts) [])))
/-- a system stands at p: the tuple of its hands, the diligent ones, the words, the starts -/
structure SysAt (K : PySem.W.Frag) (CS : Addr) (H : Hp) (p : Addr) (us : List V) (dl : List Int) (wl : List Str) (xs : List Int) : Prop where
  ob : ∃ dx ts ds ws st, H p = some (.ins CS dx (sfs ts ds ws st)) ∧ H ts = some (.tup us) ∧ H ds = some (.tup (dl.map V.int)) ∧ H ws = some (.tup (wl.map V.str)) ∧ H st = some (.tup (xs.map V.int))
section
variable {K : PySem.W.Frag} {C CS p dx a : Addr} {H0 H : Hp} {fs0 : List (Str × V)} {us : List V} {hs : List (Int × List Str)}
theorem tupX {ts : Addr} (hp : H0 p = some (.ins CS dx fs0)) (k : SameX p H0 H) (h : H0 ts = some (.tup us)) : H ts = some (.tup us) := k _ _ (fun z => by rw [z, hp] at h; cases h) h
end
section
variable {P : Program} {w : World} {K : PySem.W.Frag} {mg : Str → Option Value} {base : Heap}
abbrev nSys : List Str := ["self", "hands", "diligent", "chosen", "words", "hand", "word"]
def spSys (K : PySem.W.Frag) (C CS : Addr) : Sp := fun vs H Q _ => ∃ (p dx a : Addr) (d : V) (us : List V) (hs : List (Int × List Str)) (S : Int → Prop) (zs : List Str), vs = [.ref p, .ref a, d] ∧ H p = some (.ins CS dx []) ∧ Seq K H a us ∧ HandsW K C H us hs ∧ 1 ≤ us.length ∧ us.length ≤ 4 ∧ Chosen K H d us.length S ∧
  (∀ h ∈ hs, h.2.length ≤ 8 ∧ ∀ z ∈ h.2, z ∈ zs) ∧ zs.length ≤ 12 ∧
  ∀ (dl : List Int) (wl : List Str) (H' : Hp), SysAt K CS H' p us dl wl (hs.map (·.1)) → dl.Pairwise (· < ·) → (∀ x, x ∈ dl ↔ S x) → sortedS wl = true → wl.Nodup → (∀ z, z ∈ wl ↔ ∃ h ∈ hs, z ∈ h.2) → SameX p H H' → Q .non H'
/-- the fields stored so far -/
structure SysSt (K : PySem.W.Frag) (CS p dx ts : Addr) (us : List V) (H0 : Hp) (fs : List (Str × V)) (H : Hp) : Prop where
  hp : H p = some (.ins CS dx fs)
  s : SameX p H0 H
  tt : H ts = some (.tup us)
theorem SysSt.put {CS p dx ts : Addr} {us : List V} {H0 H H6 : Hp} {fs fs' : List (Str × V)} (S : SysSt K CS p dx ts us H0 fs H) (k : Same H H6) : SysSt K CS p dx ts us H0 fs' (upd H6 p (.ins CS dx fs')) :=
  ⟨upd_same, (S.s.trans (SameX.of k)).trans SameX.at, tupX (k _ _ S.hp) SameX.at (k _ _ S.tt)⟩
end
end KX
namespace KX
open PySem PySem.Spec PyProof.Rows L2
/-! ### _law_same -/
mutual
def sm : PyData → Bool
  | .none | .bool _ | .int _ | .str _ => true
  | .list xs | .tuple xs => decide (xs.length ≤ 1000) && smAll xs
  | .dict _ => false
def smAll : List PyData → Bool
  | [] => true
  | x :: r => sm x && smAll r
end
section
variable {P : Program} {w : World} {K : PySem.W.Frag} {mg : Str → Option Value} {base : Heap}
/-- two values that are the same data -/
def spSame (K : PySem.W.Frag) : Nat → Sp
  | 0 => fun _ _ _ _ => False
  | n + 1 => fun vs H Q _ => ∃ (u v : V) (d : PyData), vs = [u, v] ∧ Dp K H u d ∧ Dp K H v d ∧ d.depth ≤ n ∧ sm d = true ∧ Q (.bl true) H
structure Blt2 (mg : Str → Option Value) : Prop where
  dict : mg "dict" = none
end
end KX
/-! == of two tuples, item by item, both answers. -/
namespace VQ
open PySem PySem.SeqAt
open AutoSeq1 (wpAny_loadPart')
open MeetsSeq MeetsSeq2 MeetsSeq3 SeqRoads2
/-- the pairs' answers, from the left -/
def eqs {α β : Type} (f : α → β → Bool) : List α → List β → Bool
  | [], [] => true
  | x :: r, y :: t => f x y && eqs f r t
  | _, _ => false
section
variable {prog : Program} {w : World} {A : Around} {R : Result → Shared → Prop}
end
end VQ

namespace VQ
open PySem PySem.Spec PyProof.Rows L2
section
variable {X : Cx} {CX : CXT} {k : Nat} {C f : Addr} {fd : FuncData} {ps : List Str} {sp : Sp} {E : XK}
/-- == of two values inside a builtin: the answer b, the heap stays -/
def EqB (X : Cx) (n : Nat) (D : V → V → Bool → Hp → Prop) : Prop := ∀ (A : Around) (pins : List (Addr × Obj)) (s : Shared) (σ : L2.St) (H : Hp) (x y : V) (u v : Value) (b : Bool), Sub X n A → Inv X pins σ H s → RelV x u → RelV y v → D x y b H →
  wpAny (model X.prog X.w) A (eqBool u v) (fun r s' => r = b ∧ Inv X pins σ H s') X.xe s
/-- two instances of C, told apart by sp -/
def DOwn (K : PySem.W.Frag) (C : Addr) (sp : Sp) (E : XK) : V → V → Bool → Hp → Prop := fun x y b H => ∃ p q dx dy fs gs, x = .ref p ∧ y = .ref q ∧ H p = some (.ins C dx fs) ∧ H q = some (.ins C dy gs) ∧ TyX K H y (.ref C) ∧ (p = q → b = true) ∧ ∀ Q : VK, Q (.bl b) H → sp [x, y] H Q E
def rEqT (K : PySem.W.Frag) (D : V → V → Bool → Hp → Prop) : R2 := fun x y H Q => ∃ (a c : Addr) (xs ys : List V) (g : V → V → Bool), x = .ref a ∧ y = .ref c ∧ SqT K H a xs ∧ SqT K H c ys ∧ (∀ x ∈ xs, ∀ y ∈ ys, D x y (g x y) H) ∧ Q (.bl (eqs g xs ys)) H
end
end VQ
namespace KX
open PySem PySem.Spec PyProof.Rows L2
/-! ### _law_rows -/
section
variable {K : PySem.W.Frag} {H H' : Hp}
/-- a drawn row: the tuple of a start and a list of steps -/
def RowAt (K : PySem.W.Frag) (H : Hp) (t : Addr) (x0 : Int) (ss : List Stp) : Prop := ∃ l us, H t = some (.tup [.int x0, .ref l]) ∧ H l = some (.lst us) ∧ StepsAt K H us ss
theorem stepsAt_ext {us : List V} {ss : List Stp} (k : LamX.ExtN H H') (h : StepsAt K H us ss) : StepsAt K H' us ss := extN_steps k h
theorem RowAt.ext {t : Addr} {x0 : Int} {ss : List Stp} (k : LamX.ExtN H H') (h : RowAt K H t x0 ss) : RowAt K H' t x0 ss := let ⟨l, us, e1, e2, e3⟩ := h; ⟨l, us, k _ _ e1 (fun ps z => nomatch z), k _ _ e2 (fun ps z => nomatch z), stepsAt_ext k e3⟩
/-- the rows that us names -/
abbrev RowsAt (K : PySem.W.Frag) (H : Hp) : List V → List (Int × List Stp) → Prop := Paired fun v r => ∃ t, v = .ref t ∧ RowAt K H t r.1 r.2
theorem RowsAt.ext {us : List V} {rs : List (Int × List Stp)} (k : LamX.ExtN H H') (h : RowsAt K H us rs) : RowsAt K H' us rs := Paired.mapP h fun _ _ ⟨t, e, q⟩ => ⟨t, e, q.ext k⟩
end
/-- .. whose list is not at L -/
def RowNe (K : PySem.W.Frag) (H : Hp) (L : Addr) (v : V) (r : Int × List Stp) : Prop := ∃ t l us, v = .ref t ∧ H t = some (.tup [.int r.1, .ref l]) ∧ H l = some (.lst us) ∧ StepsAt K H us r.2 ∧ l ≠ L
theorem RowNe.ext {K : PySem.W.Frag} {H H' : Hp} {L : Addr} {v : V} {r : Int × List Stp} (k : LamX.ExtN H H') (h : RowNe K H L v r) : RowNe K H' L v r := let ⟨t, l, us, e, e1, e2, e3, n⟩ := h; ⟨t, l, us, e, k _ _ e1 (fun ps z => nomatch z), k _ _ e2 (fun ps z => nomatch z), stepsAt_ext k e3, n⟩
theorem RowNe.put {K : PySem.W.Frag} {H : Hp} {L : Addr} {v : V} {r : Int × List Stp} {xs ys : List V} (hL : H L = some (.lst xs)) (h : RowNe K H L v r) : RowNe K (upd H L (.lst ys)) L v r :=
  let ⟨t, l, us, e, e1, e2, e3, n⟩ := h
  ⟨t, l, us, e, by rw [upd_ne (fun z => by rw [z, hL] at e1; cases e1)]; exact e1, by rw [upd_ne n]; exact e2, e3.sameX (NoTup.lst hL) SameX.at, n⟩
theorem RowNe.row {K : PySem.W.Frag} {H : Hp} {L : Addr} {v : V} {r : Int × List Stp} (h : RowNe K H L v r) : ∃ t, v = .ref t ∧ RowAt K H t r.1 r.2 := let ⟨t, l, us, e, e1, e2, e3, _⟩ := h; ⟨t, e, l, us, e1, e2, e3⟩
/-- such a row may be a hand's -/
structure RowOk (ms mt : Nat) (zs : List Str) (r : Int × List Stp) : Prop where
  ex : ∃ sts : List Int, Steps r.2 sts zs ∧ r.1 ∈ sts ∧ sts.length ≤ ms ∧ ∀ x ∈ sts, 0 ≤ x ∧ x ≤ 75 + 3 * (ms : Int)
  ne : r.2 ≠ []
  len : r.2.length ≤ mt
section
variable {P : Program} {w : World} {K : PySem.W.Frag} {mg : Str → Option Value} {base : Heap}
abbrev nRows : List Str := ["_law_script", "_law_most_hands", "_law_most_words", "_law_most_states", "_law_most_steps", "_law_pool_here", "_law_many", "_law_k", "_law_eager", "_law_names_here", "_law_rows_here"]
def spRows (K : PySem.W.Frag) : Sp := fun vs H Q _ => ∃ (a : Addr) (ns : List Int) (mh mw ms mt : Nat), vs = [.ref a, .int mh, .int mw, .int ms, .int mt] ∧ SqL K H a (ns.map V.int) ∧ 1 ≤ mh ∧ mh ≤ 50 ∧ 1 ≤ mw ∧ mw ≤ 50 ∧ 1 ≤ ms ∧ ms ≤ mt ∧ mt ≤ 24 ∧ ms ≤ 8 ∧
  ∀ (t lr lc : Addr) (us : List V) (rs : List (Int × List Stp)) (cs : List Int) (zs : List Str) (H' : Hp), H t = none → H lr = none → H' t = some (.tup [.ref lr, .ref lc]) → H' lr = some (.lst us) → RowsAt K H' us rs → (∀ r ∈ rs, RowOk ms mt zs r) → 1 ≤ rs.length → rs.length ≤ mh →
    (∀ z ∈ zs, NameOk z) → zs.length ≤ mw → H' lc = some (.lst (cs.map V.int)) → cs.Pairwise (· < ·) → (∀ x ∈ cs, 0 ≤ x ∧ x < (rs.length : Nat)) → Same H H' → Q (.ref t) H'
end
end KX
namespace KX
open PySem PySem.Spec PyProof.Rows L2 UL
/-- a def that is called by its name -/
structure Cal (K : PySem.W.Frag) (mg : Str → Option Value) (x : Str) (st : Stmt) (ps : List Str) (f : Addr) (fd : FuncData) : Prop where
  F : Fun K x x st f fd
  b : Binds K fd ps []
  g : mg x = some (.ref f)
abbrev dStp (s : Stp) : Dt := .tup [.int s.a, .str s.w, .int s.b]
abbrev dRow (r : Int × List Stp) : Dt := .tup [.int r.1, .lst (r.2.map dStp)]
def dNum : Option Int → Dt
  | none => .non
  | some i => .int i
abbrev dIs (ns : List Int) : Dt := .tup (ns.map .int)
abbrev Mov := Str × List (Option Int)
abbrev dMv (m : Mov) : Dt := .tup [.str m.1, .tup (m.2.map dNum)]
local macro_rules | `(tactic| walk_at "u") => `(tactic| repeat (first | ((with_reducible refine' wVar_of ?ke ?_); (case ke => rfl)) | with_reducible refine' wC_of ?_ | with_reducible refine' wB_of ?_ | with_reducible refine' wAnd_of ?_ | with_reducible refine' wOr_of ?_ | with_reducible refine' wNot_of ?_ | with_reducible refine' w2_of ?_ | with_reducible refine' w1_of ?_ | with_reducible refine' wCons_of ?_ | with_reducible refine' wNil_of ?_ | ((with_reducible refine' kIxT_of ?ke ?_); (case ke => rfl)) | with_reducible refine' wSeq_of ?_ | with_reducible refine' wSet_of ?_ | ((with_reducible refine' wSetF_of ?ke ?_); (case ke => rfl)) | ((with_reducible refine' wRetO_of ?ke ?_); (case ke => rfl)) | ((with_reducible refine' wApp_of ?ke ?_); (case ke => rfl)) | with_reducible refine' wRet_of ?_ | with_reducible refine' wRetF_of ?_ | with_reducible refine' wIfS_of ?_ | with_reducible refine' wForS_of ?_ | with_reducible refine' wItemsL_of ?_ | with_reducible refine' wItemsT_of ?_ | with_reducible refine' wLc_of ?_ | with_reducible refine' wAndV_of ?_ | with_reducible refine' wOrV_of ?_ | with_reducible refine' wNotV_of ?_ | with_reducible refine' wIf_of ?_ | with_reducible refine' wGet2_of ?_ | with_reducible refine' wChain_of ?_ | with_reducible refine' wExpr_of ?_ | with_reducible refine' kLenL_of ?_ | with_reducible refine' kLenT_of ?_ | ((with_reducible refine' kFld_of ?ke ?_); (case ke => rfl)) | with_reducible refine' wLc2_of ?_ | with_reducible refine' wNext_of ?_ | ((with_reducible refine' kZip2_of ?k1 ?k2 ?_); (case k1 => rfl); (case k2 => rfl)) | ((with_reducible refine' kZip3_of ?k1 ?k2 ?k3 ?_); (case k1 => rfl); (case k2 => rfl); (case k3 => rfl)) | with_reducible refine' kEnumT_of ?_ | with_reducible refine' wPart_of ?_ | with_reducible refine' wNoPart_of ?_ | with_reducible refine' kTupOfL_of ?_ | with_reducible refine' wEndP_of ?_ | ((with_reducible refine' wNewP_of ?ke ?_); (case ke => rfl)) | with_reducible refine' kI_of ?_ | ((with_reducible refine' wRev_of ?ke ?_); (case ke => rfl)) | with_reducible refine' kNeI_of ?_ | with_reducible refine' kEqI_of ?_ | with_reducible refine' kNeS_of ?_ | with_reducible refine' kEqS_of ?_))
section
variable {P : Program} {w : World} {K : PySem.W.Frag} {mg : Str → Option Value} {base : Heap} {TT : List NdefX.NTab}
/-! ### _law_numbers -/
/-- a hand's choices -/
def numsD (ss : List Stp) (x : Int) (z : Str) : List (Option Int) := if z ∈ ss.map (·.w) then (numsTo ss x z ss.length).map some else [none]
def wNumbers : List Dt → (Dt → Prop) → Prop := fun ds P => ∃ r x z, ds = [dRow r, .int x, .str z] ∧ r.2.length ≤ 1000 ∧ P (.lst ((numsD r.2 x z).map dNum))
end
end KX
namespace KX
open PySem PySem.Spec PyProof.Rows L2 UL
local macro_rules | `(tactic| walk_at "u") => `(tactic| repeat (first | ((with_reducible refine' wVar_of ?ke ?_); (case ke => rfl)) | with_reducible refine' wC_of ?_ | with_reducible refine' wB_of ?_ | with_reducible refine' wAnd_of ?_ | with_reducible refine' wOr_of ?_ | with_reducible refine' wNot_of ?_ | with_reducible refine' w2_of ?_ | with_reducible refine' w1_of ?_ | with_reducible refine' wCons_of ?_ | with_reducible refine' wNil_of ?_ | ((with_reducible refine' kIxT_of ?ke ?_); (case ke => rfl)) | with_reducible refine' wSeq_of ?_ | with_reducible refine' wSet_of ?_ | ((with_reducible refine' wSetF_of ?ke ?_); (case ke => rfl)) | ((with_reducible refine' wRetO_of ?ke ?_); (case ke => rfl)) | ((with_reducible refine' wApp_of ?ke ?_); (case ke => rfl)) | with_reducible refine' wRet_of ?_ | with_reducible refine' wRetF_of ?_ | with_reducible refine' wIfS_of ?_ | with_reducible refine' wForS_of ?_ | with_reducible refine' wItemsL_of ?_ | with_reducible refine' wItemsT_of ?_ | with_reducible refine' wLc_of ?_ | with_reducible refine' wAndV_of ?_ | with_reducible refine' wOrV_of ?_ | with_reducible refine' wNotV_of ?_ | with_reducible refine' wIf_of ?_ | with_reducible refine' wGet2_of ?_ | with_reducible refine' wChain_of ?_ | with_reducible refine' wExpr_of ?_ | with_reducible refine' kLenL_of ?_ | with_reducible refine' kLenT_of ?_ | ((with_reducible refine' kFld_of ?ke ?_); (case ke => rfl)) | with_reducible refine' wLc2_of ?_ | with_reducible refine' wNext_of ?_ | ((with_reducible refine' kZip2_of ?k1 ?k2 ?_); (case k1 => rfl); (case k2 => rfl)) | ((with_reducible refine' kZip3_of ?k1 ?k2 ?k3 ?_); (case k1 => rfl); (case k2 => rfl); (case k3 => rfl)) | with_reducible refine' kEnumT_of ?_ | with_reducible refine' wPart_of ?_ | with_reducible refine' wNoPart_of ?_ | with_reducible refine' kTupOfL_of ?_ | with_reducible refine' wEndP_of ?_ | ((with_reducible refine' wNewP_of ?ke ?_); (case ke => rfl)) | with_reducible refine' kI_of ?_ | ((with_reducible refine' wRev_of ?ke ?_); (case ke => rfl)) | with_reducible refine' kNeI_of ?_ | with_reducible refine' kEqI_of ?_ | with_reducible refine' kNeS_of ?_ | with_reducible refine' kEqS_of ?_))
abbrev Rws := List (Int × List Stp)
abbrev dRows (rs : Rws) : Dt := .lst (rs.map dRow)
/-- the words of the rows, ascending -/
structure WordsOf (rs : Rws) (wl : List Str) : Prop where
  so : sortedS wl = true
  nd : wl.Nodup
  mem : ∀ z, z ∈ wl ↔ ∃ r ∈ rs, ∃ s ∈ r.2, s.w = z
def wds (rs : Rws) : List Str := rs.flatMap fun r => r.2.map (·.w)
section
variable {P : Program} {w : World} {K : PySem.W.Frag} {mg : Str → Option Value} {base : Heap} {TT : List NdefX.NTab}
/-! ### _law_words -/
def wWords : List Dt → (Dt → Prop) → Prop := fun ds P => ∃ rs, ds = [dRows rs] ∧ (wds rs).length < 64 ∧ rs.length ≤ 1000 ∧ ∀ wl, WordsOf rs wl → P (.lst (wl.map Dt.str))
/-! ### _law_moves -/
/-- the lines of numbers with the word z -/
def prodD : Rws → List Int → Str → List (List (Option Int)) → List (List (Option Int))
  | r :: rs, x :: xs, z, ls => prodD rs xs z (ls.flatMap fun l => (numsD r.2 x z).map fun k => l ++ [k])
  | _, _, _, ls => ls
def movesD (rs : Rws) (wl : List Str) (xs : List Int) : List Mov := wl.flatMap fun z => (prodD rs xs z [[]]).map fun l => (z, l)
/-- at most four choices each -/
def Few (rs : Rws) : Prop := rs.length ≤ 4 ∧ ∀ r ∈ rs, r.2.length ≤ 1000 ∧ ∀ x z, (numsD r.2 x z).length ≤ 4
theorem prodD_take {rs : Rws} {xs : List Int} {z : Str} {ls : List (List (Option Int))} {i : Nat} {r : Int × List Stp} {x : Int} (e1 : rs[i]? = some r) (e2 : xs[i]? = some x) :
    prodD (rs.take (i + 1)) (xs.take (i + 1)) z ls = (prodD (rs.take i) (xs.take i) z ls).flatMap fun l => (numsD r.2 x z).map fun k => l ++ [k] := by
  induction rs generalizing xs i ls with
  | nil => cases e1
  | cons a rs ih =>
    cases xs with
    | nil => cases e2
    | cons b xs =>
      cases i with
      | zero =>
        cases e1
        cases e2
        rfl
      | succ i => exact ih e1 e2
theorem prodD_lens {rs : Rws} {xs : List Int} {z : Str} : ∀ i : Nat, i ≤ rs.length → i ≤ xs.length → ∀ l ∈ prodD (rs.take i) (xs.take i) z [[]], l.length = i
  | 0, _, _, l, h => by
    rw [List.take_zero, List.take_zero] at h
    have h : l ∈ [[]] := h
    rw [List.mem_singleton.mp h]
    rfl
  | i + 1, h1, h2, l, h => by
    have e1 : rs[i]? = some rs[i] := List.getElem?_eq_getElem (by omega)
    have e2 : xs[i]? = some xs[i] := List.getElem?_eq_getElem (by omega)
    rw [prodD_take e1 e2] at h
    obtain ⟨l0, h0, h⟩ := List.mem_flatMap.mp h
    obtain ⟨k, _, rfl⟩ := List.mem_map.mp h
    rw [List.length_append, prodD_lens i (by omega) (by omega) l0 h0]
    rfl
end
end KX
namespace KX
open PySem PySem.Spec PyProof.Rows L2 UL
local macro_rules | `(tactic| walk_at "u") => `(tactic| repeat (first | ((with_reducible refine' wVar_of ?ke ?_); (case ke => rfl)) | with_reducible refine' wC_of ?_ | with_reducible refine' wB_of ?_ | with_reducible refine' wAnd_of ?_ | with_reducible refine' wOr_of ?_ | with_reducible refine' wNot_of ?_ | with_reducible refine' w2_of ?_ | with_reducible refine' w1_of ?_ | with_reducible refine' wCons_of ?_ | with_reducible refine' wNil_of ?_ | ((with_reducible refine' kIxT_of ?ke ?_); (case ke => rfl)) | with_reducible refine' wSeq_of ?_ | with_reducible refine' wSet_of ?_ | ((with_reducible refine' wSetF_of ?ke ?_); (case ke => rfl)) | ((with_reducible refine' wRetO_of ?ke ?_); (case ke => rfl)) | ((with_reducible refine' wApp_of ?ke ?_); (case ke => rfl)) | with_reducible refine' wRet_of ?_ | with_reducible refine' wRetF_of ?_ | with_reducible refine' wIfS_of ?_ | with_reducible refine' wForS_of ?_ | with_reducible refine' wItemsL_of ?_ | with_reducible refine' wItemsT_of ?_ | with_reducible refine' wLc_of ?_ | with_reducible refine' wAndV_of ?_ | with_reducible refine' wOrV_of ?_ | with_reducible refine' wNotV_of ?_ | with_reducible refine' wIf_of ?_ | with_reducible refine' wGet2_of ?_ | with_reducible refine' wChain_of ?_ | with_reducible refine' wExpr_of ?_ | with_reducible refine' kLenL_of ?_ | with_reducible refine' kLenT_of ?_ | ((with_reducible refine' kFld_of ?ke ?_); (case ke => rfl)) | with_reducible refine' wLc2_of ?_ | with_reducible refine' wNext_of ?_ | ((with_reducible refine' kZip2_of ?k1 ?k2 ?_); (case k1 => rfl); (case k2 => rfl)) | ((with_reducible refine' kZip3_of ?k1 ?k2 ?k3 ?_); (case k1 => rfl); (case k2 => rfl); (case k3 => rfl)) | with_reducible refine' kEnumT_of ?_ | with_reducible refine' wPart_of ?_ | with_reducible refine' wNoPart_of ?_ | with_reducible refine' kTupOfL_of ?_ | with_reducible refine' wEndP_of ?_ | ((with_reducible refine' wNewP_of ?ke ?_); (case ke => rfl)) | with_reducible refine' kI_of ?_ | ((with_reducible refine' wRev_of ?ke ?_); (case ke => rfl)) | with_reducible refine' kNeI_of ?_ | with_reducible refine' kEqI_of ?_ | with_reducible refine' kNeS_of ?_ | with_reducible refine' kEqS_of ?_))
section
variable {P : Program} {w : World} {K : PySem.W.Frag} {mg : Str → Option Value} {base : Heap} {TT : List NdefX.NTab}
/-! ### _law_behind, _law_start -/
def ledD (r : Int × List Stp) (x : Int) : Option Int → Int
  | none => x
  | some k => ((r.2[k.toNat]?).map (·.b)).getD 0
def behD : Rws → List Int → List (Option Int) → List Int
  | r :: rs, x :: xs, k :: ks => ledD r x k :: behD rs xs ks
  | _, _, _ => []
/-- the numbers are such of steps -/
def NumsV (rs : Rws) (ks : List (Option Int)) : Prop := ks.length = rs.length ∧ ∀ (i : Nat) r k, rs[i]? = some r → ks[i]? = some (some k) → 0 ≤ k ∧ k.toNat < r.2.length
def wBehind : List Dt → (Dt → Prop) → Prop := fun ds P => ∃ rs xs m, ds = [dRows rs, dIs xs, dMv m] ∧ xs.length = rs.length ∧ rs.length ≤ 1000 ∧ NumsV rs m.2 ∧ P (dIs (behD rs xs m.2))
end
end KX
namespace KX
open PySem PySem.Spec PyProof.Rows L2 UL
local macro_rules | `(tactic| walk_at "u") => `(tactic| repeat (first | ((with_reducible refine' wVar_of ?ke ?_); (case ke => rfl)) | with_reducible refine' wC_of ?_ | with_reducible refine' wB_of ?_ | with_reducible refine' wAnd_of ?_ | with_reducible refine' wOr_of ?_ | with_reducible refine' wNot_of ?_ | with_reducible refine' w2_of ?_ | with_reducible refine' w1_of ?_ | with_reducible refine' wCons_of ?_ | with_reducible refine' wNil_of ?_ | ((with_reducible refine' kIxT_of ?ke ?_); (case ke => rfl)) | with_reducible refine' wSeq_of ?_ | with_reducible refine' wSet_of ?_ | ((with_reducible refine' wSetF_of ?ke ?_); (case ke => rfl)) | ((with_reducible refine' wRetO_of ?ke ?_); (case ke => rfl)) | ((with_reducible refine' wApp_of ?ke ?_); (case ke => rfl)) | with_reducible refine' wRet_of ?_ | with_reducible refine' wRetF_of ?_ | with_reducible refine' wIfS_of ?_ | with_reducible refine' wForS_of ?_ | with_reducible refine' wItemsL_of ?_ | with_reducible refine' wItemsT_of ?_ | with_reducible refine' wLc_of ?_ | with_reducible refine' wAndV_of ?_ | with_reducible refine' wOrV_of ?_ | with_reducible refine' wNotV_of ?_ | with_reducible refine' wIf_of ?_ | with_reducible refine' wGet2_of ?_ | with_reducible refine' wChain_of ?_ | with_reducible refine' wExpr_of ?_ | with_reducible refine' kLenL_of ?_ | with_reducible refine' kLenT_of ?_ | ((with_reducible refine' kFld_of ?ke ?_); (case ke => rfl)) | with_reducible refine' wLc2_of ?_ | with_reducible refine' wNext_of ?_ | ((with_reducible refine' kZip2_of ?k1 ?k2 ?_); (case k1 => rfl); (case k2 => rfl)) | ((with_reducible refine' kZip3_of ?k1 ?k2 ?k3 ?_); (case k1 => rfl); (case k2 => rfl); (case k3 => rfl)) | with_reducible refine' kEnumT_of ?_ | with_reducible refine' wPart_of ?_ | with_reducible refine' wNoPart_of ?_ | with_reducible refine' kTupOfL_of ?_ | with_reducible refine' wEndP_of ?_ | ((with_reducible refine' wNewP_of ?ke ?_); (case ke => rfl)) | with_reducible refine' kI_of ?_ | ((with_reducible refine' wRev_of ?ke ?_); (case ke => rfl)) | with_reducible refine' kNeI_of ?_ | with_reducible refine' kEqI_of ?_ | with_reducible refine' kNeS_of ?_ | with_reducible refine' kEqS_of ?_))
/-! ### hands and systems as data -/
structure HD where
  r : Int × List Stp
  wl : List Str
  nl : List Int
  ks : List (List Key)
  ds : List Dt
abbrev dHand (C : Addr) (h : HD) : Dt := .obj C ["start", "steps", "words", "states", "exits"] [.int h.r.1, .tup (h.r.2.map dStp), .tup (h.wl.map Dt.str), .tup (h.nl.map Dt.int), .dct h.ks h.ds]
abbrev dSys (C CS : Addr) (hs : List HD) (dl : List Int) (wl : List Str) : Dt := .obj CS ["hands", "diligent", "words", "start"] [.tup (hs.map (dHand C)), .tup (dl.map Dt.int), .tup (wl.map Dt.str), .tup ((hs.map (·.r.1)).map Dt.int)]
/-- such a hand is the hand of its steps -/
structure HdOk (h : HD) : Prop where
  wm : ∀ z, z ∈ h.wl ↔ z ∈ h.r.2.map (·.w)
  ex : ∀ x z, dlook h.ks h.ds [.inl x, .inr z] = if numsTo h.r.2 x z h.r.2.length = [] then none else some (.tup ((numsTo h.r.2 x z h.r.2.length).map Dt.int))
structure BltZ (mg : Str → Option Value) : Prop where
  zip : mg "zip" = none
  any : mg "any" = none
/-- the places of a standing are reached -/
def StOk (hs : List HD) (xs : List Int) : Prop := xs.length = hs.length ∧ ∀ (i : Nat) h x, hs[i]? = some h → xs[i]? = some x → x ∈ h.nl
section
variable {P : Program} {w : World} {K : PySem.W.Frag} {mg : Str → Option Value} {base : Heap} {TT : List NdefX.NTab} {C CS : Addr}
def wWhole : List Dt → (Dt → Prop) → Prop := fun ds P => ∃ i, ds = [.int i] ∧ P (.bl true)
/-! ### is_standing, check_states -/
def wIsSt (C CS : Addr) : List Dt → (Dt → Prop) → Prop := fun ds P => ∃ hs dl wl xs, ds = [dSys C CS hs dl wl, dIs xs] ∧ hs.length ≤ 1000 ∧ StOk hs xs ∧ P (.bl true)
def wChkSt (C CS : Addr) : List Dt → (Dt → Prop) → Prop := fun ds P => ∃ hs dl wl xs, ds = [dSys C CS hs dl wl, dIs xs] ∧ hs.length ≤ 1000 ∧ StOk hs xs ∧ P .non
/-! ### choices, numbers_of, moves -/
def rowsD (hs : List HD) (xs : List Int) (z : Str) : List (List (Option Int)) := (xs.zip hs).map fun p => numsD p.2.r.2 p.1 z
abbrev dLn (l : List (Option Int)) : Dt := .tup (l.map dNum)
def wChoices (C CS : Addr) : List Dt → (Dt → Prop) → Prop := fun ds P => ∃ hs dl wl xs z, ds = [dSys C CS hs dl wl, dIs xs, .str z] ∧ hs.length ≤ 1000 ∧ xs.length = hs.length ∧ (∀ h ∈ hs, HdOk h) ∧ P (.lst ((rowsD hs xs z).map dLn))
def wNumsOf (C CS : Addr) : List Dt → (Dt → Prop) → Prop := fun ds P => ∃ hs dl wl xs z, ds = [dSys C CS hs dl wl, dIs xs, .str z] ∧ xs.length = hs.length ∧ (∀ h ∈ hs, HdOk h) ∧ Few (hs.map (·.r)) ∧ P (.lst ((prodD (hs.map (·.r)) xs z [[]]).map dLn))
end
end KX
namespace KX
open PySem PySem.Spec PyProof.Rows L2 UL
local macro_rules | `(tactic| walk_at "u") => `(tactic| repeat (first | ((with_reducible refine' wVar_of ?ke ?_); (case ke => rfl)) | with_reducible refine' wC_of ?_ | with_reducible refine' wB_of ?_ | with_reducible refine' wAnd_of ?_ | with_reducible refine' wOr_of ?_ | with_reducible refine' wNot_of ?_ | with_reducible refine' w2_of ?_ | with_reducible refine' w1_of ?_ | with_reducible refine' wCons_of ?_ | with_reducible refine' wNil_of ?_ | ((with_reducible refine' kIxT_of ?ke ?_); (case ke => rfl)) | with_reducible refine' wSeq_of ?_ | with_reducible refine' wSet_of ?_ | ((with_reducible refine' wSetF_of ?ke ?_); (case ke => rfl)) | ((with_reducible refine' wRetO_of ?ke ?_); (case ke => rfl)) | ((with_reducible refine' wApp_of ?ke ?_); (case ke => rfl)) | with_reducible refine' wRet_of ?_ | with_reducible refine' wRetF_of ?_ | with_reducible refine' wIfS_of ?_ | with_reducible refine' wForS_of ?_ | with_reducible refine' wItemsL_of ?_ | with_reducible refine' wItemsT_of ?_ | with_reducible refine' wLc_of ?_ | with_reducible refine' wAndV_of ?_ | with_reducible refine' wOrV_of ?_ | with_reducible refine' wNotV_of ?_ | with_reducible refine' wIf_of ?_ | with_reducible refine' wGet2_of ?_ | with_reducible refine' wChain_of ?_ | with_reducible refine' wExpr_of ?_ | with_reducible refine' kLenL_of ?_ | with_reducible refine' kLenT_of ?_ | ((with_reducible refine' kFld_of ?ke ?_); (case ke => rfl)) | with_reducible refine' wLc2_of ?_ | with_reducible refine' wNext_of ?_ | ((with_reducible refine' kZip2_of ?k1 ?k2 ?_); (case k1 => rfl); (case k2 => rfl)) | ((with_reducible refine' kZip3_of ?k1 ?k2 ?k3 ?_); (case k1 => rfl); (case k2 => rfl); (case k3 => rfl)) | with_reducible refine' kEnumT_of ?_ | with_reducible refine' wPart_of ?_ | with_reducible refine' wNoPart_of ?_ | with_reducible refine' kTupOfL_of ?_ | with_reducible refine' wEndP_of ?_ | ((with_reducible refine' wNewP_of ?ke ?_); (case ke => rfl)) | with_reducible refine' kI_of ?_ | ((with_reducible refine' wRev_of ?ke ?_); (case ke => rfl)) | with_reducible refine' kNeI_of ?_ | with_reducible refine' kEqI_of ?_ | with_reducible refine' kNeS_of ?_ | with_reducible refine' kEqS_of ?_))
section
variable {P : Program} {w : World} {K : PySem.W.Frag} {mg : Str → Option Value} {base : Heap} {TT : List NdefX.NTab} {C CS : Addr}
def wMvs (C CS : Addr) : List Dt → (List Dt → Prop) → Prop := fun ds P => ∃ hs dl wl xs, ds = [dSys C CS hs dl wl, dIs xs] ∧ StOk hs xs ∧ (∀ h ∈ hs, HdOk h) ∧ Few (hs.map (·.r)) ∧ wl.length ≤ 1000 ∧ P ((movesD (hs.map (·.r)) wl xs).map dMv)
end
end KX
namespace KX
open PySem PySem.Spec PyProof.Rows L2 UL
local macro_rules | `(tactic| walk_at "u") => `(tactic| repeat (first | ((with_reducible refine' wVar_of ?ke ?_); (case ke => rfl)) | with_reducible refine' wC_of ?_ | with_reducible refine' wB_of ?_ | with_reducible refine' wAnd_of ?_ | with_reducible refine' wOr_of ?_ | with_reducible refine' wNot_of ?_ | with_reducible refine' w2_of ?_ | with_reducible refine' w1_of ?_ | with_reducible refine' wCons_of ?_ | with_reducible refine' wNil_of ?_ | ((with_reducible refine' kIxT_of ?ke ?_); (case ke => rfl)) | with_reducible refine' wSeq_of ?_ | with_reducible refine' wSet_of ?_ | ((with_reducible refine' wSetF_of ?ke ?_); (case ke => rfl)) | ((with_reducible refine' wRetO_of ?ke ?_); (case ke => rfl)) | ((with_reducible refine' wApp_of ?ke ?_); (case ke => rfl)) | with_reducible refine' wRet_of ?_ | with_reducible refine' wRetF_of ?_ | with_reducible refine' wIfS_of ?_ | with_reducible refine' wForS_of ?_ | with_reducible refine' wItemsL_of ?_ | with_reducible refine' wItemsT_of ?_ | with_reducible refine' wLc_of ?_ | with_reducible refine' wAndV_of ?_ | with_reducible refine' wOrV_of ?_ | with_reducible refine' wNotV_of ?_ | with_reducible refine' wIf_of ?_ | with_reducible refine' wGet2_of ?_ | with_reducible refine' wChain_of ?_ | with_reducible refine' wExpr_of ?_ | with_reducible refine' kLenL_of ?_ | with_reducible refine' kLenT_of ?_ | ((with_reducible refine' kFld_of ?ke ?_); (case ke => rfl)) | with_reducible refine' wLc2_of ?_ | with_reducible refine' wNext_of ?_ | ((with_reducible refine' kZip2_of ?k1 ?k2 ?_); (case k1 => rfl); (case k2 => rfl)) | ((with_reducible refine' kZip3_of ?k1 ?k2 ?k3 ?_); (case k1 => rfl); (case k2 => rfl); (case k3 => rfl)) | with_reducible refine' kEnumT_of ?_ | with_reducible refine' wPart_of ?_ | with_reducible refine' wNoPart_of ?_ | with_reducible refine' kTupOfL_of ?_ | with_reducible refine' wEndP_of ?_ | ((with_reducible refine' wNewP_of ?ke ?_); (case ke => rfl)) | with_reducible refine' kI_of ?_ | ((with_reducible refine' wRev_of ?ke ?_); (case ke => rfl)) | with_reducible refine' kNeI_of ?_ | with_reducible refine' kEqI_of ?_ | with_reducible refine' kNeS_of ?_ | with_reducible refine' kEqS_of ?_))
def vNum : Option Int → V
  | none => .non
  | some i => .int i
section
variable {P : Program} {w : World} {K : PySem.W.Frag} {mg : Str → Option Value} {base : Heap} {TT : List NdefX.NTab} {C CS : Addr}
/-! ### is_choice, is_move -/
def wIsCh : List Dt → (Dt → Prop) → Prop := fun ds P => ∃ k row, ds = [dNum k, dLn row] ∧ P (.bl (decide (k ∈ row)))
def wIsName : List Dt → (Dt → Prop) → Prop := fun ds P => ∃ z, ds = [.str z] ∧ NameOk z ∧ P (.bl true)
/-- such a move is one of the standing's -/
structure MvIn (hs : List HD) (wl : List Str) (xs : List Int) (m : Mov) : Prop where
  nm : NameOk m.1
  wd : m.1 ∈ wl
  len : m.2.length = hs.length
  nu : ∀ (i : Nat) h x k, hs[i]? = some h → xs[i]? = some x → m.2[i]? = some k → k ∈ numsD h.r.2 x m.1
/-- what is asked of a system, of a standing -/
structure SyIn (hs : List HD) (xs : List Int) (wl : List Str) : Prop where
  st : StOk hs xs
  ok : ∀ h ∈ hs, HdOk h
  few : Few (hs.map (·.r))
  wl : wl.length ≤ 1000
def wIsMv (C CS : Addr) : List Dt → (Dt → Prop) → Prop := fun ds P => ∃ hs dl wl xs m, ds = [dSys C CS hs dl wl, dIs xs, dMv m] ∧ SyIn hs xs wl ∧ MvIn hs wl xs m ∧ P (.bl true)
/-! ### led_to, behind -/
def wLed (C CS : Addr) : List Dt → (Dt → Prop) → Prop := fun ds P => ∃ hs dl wl xs m, ds = [dSys C CS hs dl wl, dIs xs, dMv m] ∧ hs.length ≤ 4 ∧ NumsV (hs.map (·.r)) m.2 ∧ P (dIs (behD (hs.map (·.r)) xs m.2))
end
end KX
namespace KX
open PySem PySem.Spec PyProof.Rows L2 UL
local macro_rules | `(tactic| walk_at "u") => `(tactic| repeat (first | ((with_reducible refine' wVar_of ?ke ?_); (case ke => rfl)) | with_reducible refine' wC_of ?_ | with_reducible refine' wB_of ?_ | with_reducible refine' wAnd_of ?_ | with_reducible refine' wOr_of ?_ | with_reducible refine' wNot_of ?_ | with_reducible refine' w2_of ?_ | with_reducible refine' w1_of ?_ | with_reducible refine' wCons_of ?_ | with_reducible refine' wNil_of ?_ | ((with_reducible refine' kIxT_of ?ke ?_); (case ke => rfl)) | with_reducible refine' wSeq_of ?_ | with_reducible refine' wSet_of ?_ | ((with_reducible refine' wSetF_of ?ke ?_); (case ke => rfl)) | ((with_reducible refine' wRetO_of ?ke ?_); (case ke => rfl)) | ((with_reducible refine' wApp_of ?ke ?_); (case ke => rfl)) | with_reducible refine' wRet_of ?_ | with_reducible refine' wRetF_of ?_ | with_reducible refine' wIfS_of ?_ | with_reducible refine' wForS_of ?_ | with_reducible refine' wItemsL_of ?_ | with_reducible refine' wItemsT_of ?_ | with_reducible refine' wLc_of ?_ | with_reducible refine' wAndV_of ?_ | with_reducible refine' wOrV_of ?_ | with_reducible refine' wNotV_of ?_ | with_reducible refine' wIf_of ?_ | with_reducible refine' wGet2_of ?_ | with_reducible refine' wChain_of ?_ | with_reducible refine' wExpr_of ?_ | with_reducible refine' kLenL_of ?_ | with_reducible refine' kLenT_of ?_ | ((with_reducible refine' kFld_of ?ke ?_); (case ke => rfl)) | with_reducible refine' wLc2_of ?_ | with_reducible refine' wNext_of ?_ | ((with_reducible refine' kZip2_of ?k1 ?k2 ?_); (case k1 => rfl); (case k2 => rfl)) | ((with_reducible refine' kZip3_of ?k1 ?k2 ?k3 ?_); (case k1 => rfl); (case k2 => rfl); (case k3 => rfl)) | with_reducible refine' kEnumT_of ?_ | with_reducible refine' wPart_of ?_ | with_reducible refine' wNoPart_of ?_ | with_reducible refine' kTupOfL_of ?_ | with_reducible refine' wEndP_of ?_ | ((with_reducible refine' wNewP_of ?ke ?_); (case ke => rfl)) | with_reducible refine' kI_of ?_ | ((with_reducible refine' wRev_of ?ke ?_); (case ke => rfl)) | with_reducible refine' kNeI_of ?_ | with_reducible refine' kEqI_of ?_ | with_reducible refine' kNeS_of ?_ | with_reducible refine' kEqS_of ?_))
section
variable {P : Program} {w : World} {K : PySem.W.Frag} {mg : Str → Option Value} {base : Heap} {TT : List NdefX.NTab} {C CS : Addr}
/-! ### System.behind -/
def wBeh2 (C CS : Addr) : List Dt → (Dt → Prop) → Prop := fun ds P => ∃ hs dl wl xs m, ds = [dSys C CS hs dl wl, dIs xs, dMv m] ∧ SyIn hs xs wl ∧ MvIn hs wl xs m ∧ P (dIs (behD (hs.map (·.r)) xs m.2))
/-! ### System.able -/
/-- the words that some move has -/
def readyD (hs : List HD) (xs : List Int) (wl : List Str) : List Str := wl.filter fun z => (rowsD hs xs z).all fun r => decide (0 < r.length)
def ableD (hs : List HD) (xs : List Int) (wl : List Str) : List Int := ((List.range hs.length).filter fun i => (hs[i]?).any fun h => (readyD hs xs wl).any fun z => decide (z ∈ h.wl)).map fun i : Nat => (i : Int)
def wAble (C CS : Addr) : List Dt → (List Dt → Prop) → Prop := fun ds P => ∃ hs dl wl xs, ds = [dSys C CS hs dl wl, dIs xs] ∧ SyIn hs xs wl ∧ P ((ableD hs xs wl).map Dt.int)
end
end KX
namespace KX
open PySem PySem.Spec PyProof.Rows L2 UL
/-! ### hands and systems that stand, as data -/
abbrev noA : Addr → Prop := fun _ => False
theorem hfs_look {x0 : Int} {ts ws sts ex : Addr} : (["start", "steps", "words", "states", "exits"] : List Str).map (fun f => (hfs x0 ts ws sts ex).lookup f) = [V.int x0, .ref ts, .ref ws, .ref sts, .ref ex].map some := by
  simp only [List.map_cons, List.map_nil, hfs, lookup_putF]
  rfl
theorem hfs_out {x0 : Int} {ts ws sts ex : Addr} {f : Str} (h : f ∉ (["start", "steps", "words", "states", "exits"] : List Str)) : (hfs x0 ts ws sts ex).lookup f = none := by
  simp only [List.mem_cons, not_or] at h
  simp only [hfs, lookup_putF]
  rw [if_neg h.2.2.2.2.1, if_neg h.2.2.2.1, if_neg h.2.2.1, if_neg h.2.1, if_neg h.1]
  rfl
section
variable {K : PySem.W.Frag} {C CS : Addr} {H : Hp} {ok : Addr → Prop}
theorem rs_steps : ∀ {us : List V} {ss : List Stp}, StepsAt K H us ss → Rs K ok H (ss.map dStp) us
  | _, _, .nil => .nil
  | _, _, .cons ⟨t, e, q⟩ r => by
    subst e
    exact .cons (.tup q (.cons (.int _) (.cons (.str _) (.cons (.int _) .nil)))) (rs_steps r)
/-- the dict of exits, as data -/
theorem ints_vals : ∀ {kvs : List (List Key × V)}, (∀ p ∈ kvs, ∃ (b : Addr) (ns : List Int), p.2 = .ref b ∧ H b = some (.tup (ns.map V.int))) → ∃ ds, Rs K ok H ds (kvs.map (·.2)) ∧ Paired (fun v d => ∃ (b : Addr) (ns : List Int), v = V.ref b ∧ H b = some (.tup (ns.map V.int)) ∧ d = Dt.tup (ns.map Dt.int)) (kvs.map (·.2)) ds
  | [], _ => ⟨[], .nil, .nil⟩
  | p :: kvs, h => by
    obtain ⟨b, ns, e1, e2⟩ := h p List.mem_cons_self
    obtain ⟨ds, r, hd⟩ := ints_vals (kvs := kvs) fun q hq => h q (List.mem_cons_of_mem _ hq)
    refine ⟨.tup (ns.map Dt.int) :: ds, ?_, .cons ⟨b, ns, e1, e2, rfl⟩ hd⟩
    rw [List.map_cons, e1]
    exact .cons (.tup e2 (Rs.ofInts ns)) r
theorem vmap_inj : ∀ {a b : List Int}, a.map V.int = b.map V.int → a = b
  | [], [], _ => rfl
  | _ :: a, _ :: b, h => by
    obtain ⟨h1, h2⟩ := List.cons_eq_cons.mp h
    cases h1
    rw [vmap_inj h2]
  | [], _ :: _, h => nomatch h
  | _ :: _, [], h => nomatch h
theorem dlook_pair {F : V → Dt → Prop} {k : List Key} : ∀ {kvs : List (List Key × V)} {ds : List Dt}, Paired F (kvs.map (·.2)) ds → (dlook (kvs.map (·.1)) ds k = none ∧ valV kvs k = none) ∨ ∃ d v, dlook (kvs.map (·.1)) ds k = some d ∧ valV kvs k = some v ∧ F v d
  | [], [], .nil => .inl ⟨rfl, rfl⟩
  | p :: kvs, d :: ds, .cons h t => by
    by_cases e : p.1 = k
    · refine .inr ⟨d, p.2, ?_, valV_pos e, h⟩
      unfold dlook
      rw [List.map_cons, List.zip_cons_cons, List.find?_cons_of_pos (by simpa using e)]
      rfl
    · have e2 : dlook ((p :: kvs).map (·.1)) (d :: ds) k = dlook (kvs.map (·.1)) ds k := by
        unfold dlook
        rw [List.map_cons, List.zip_cons_cons, List.find?_cons_of_neg (by simpa using e)]
      rw [e2, valV_neg e]
      exact dlook_pair t
theorem exits_data {ex : Addr} {ss : List Stp} (h : ExitsAt H ex ss ss.length) : ∃ ks ds, R K ok H (.dct ks ds) (.ref ex) ∧ ∀ x z, dlook ks ds [.inl x, .inr z] = if numsTo ss x z ss.length = [] then none else some (.tup ((numsTo ss x z ss.length).map Dt.int)) := by
  obtain ⟨kvs, e, _, f, g⟩ := h
  obtain ⟨ds, r, hd⟩ := ints_vals (K := K) (ok := ok) g
  refine ⟨_, ds, .dct e r, fun x z => ?_⟩
  rcases dlook_pair (k := [.inl x, .inr z]) hd with ⟨q1, q2⟩ | ⟨d, v, q1, q2, b', ns, rfl, q3, rfl⟩
  · rw [q1]
    rcases f x z with ⟨e0, _⟩ | ⟨_, b, e1, _⟩
    · rw [if_pos e0]
    · rw [e1] at q2
      cases q2
  · rw [q1]
    rcases f x z with ⟨_, e1⟩ | ⟨n0, b, e1, e2⟩
    · rw [e1] at q2
      cases q2
    · rw [e1] at q2
      cases q2
      rw [if_neg n0]
      rw [e2] at q3
      have := vmap_inj (HO.tup.inj (Option.some.inj q3))
      rw [this]
/-- a hand that was made, as data -/
theorem hand_data {q : Addr} {x0 : Int} {us : List V} {ss : List Stp} {wl : List Str} {nl : List Int} (h : HandAt K C H q x0 us wl nl) (m : HandM K C H q ss wl nl) (st : StepsAt K H us ss) (o : HandOf ss x0 wl nl) :
    ∃ hd : HD, hd.r = (x0, ss) ∧ hd.nl = nl ∧ hd.wl = wl ∧ HdOk hd ∧ R K ok H (dHand C hd) (.ref q) := by
  obtain ⟨dx, ts, ws, sts, ex, e1, e2, e3, e4⟩ := h.ob
  obtain ⟨dx', fs, ws', sts', ex', d1, d2, d3, d4, d5, d6, d7⟩ := m
  rw [e1] at d1
  cases d1
  have l4 : (hfs x0 ts ws sts ex).lookup ("exits" : Str) = some (V.ref ex) := by
    simp only [hfs, lookup_putF]
    rfl
  rw [l4] at d4
  cases d4
  obtain ⟨ks, ds, r, hx⟩ := exits_data (K := K) (ok := ok) d7
  refine ⟨⟨(x0, ss), wl, nl, ks, ds⟩, rfl, rfl, rfl, ⟨fun z => (o.wm z).trans (by rw [List.mem_map]), hx⟩, ?_⟩
  exact .obj e1 hfs_look (fun f h => hfs_out h) (.cons (.int _) (.cons (.tup e2 (rs_steps st)) (.cons (.tup e3 (Rs.ofStrs _)) (.cons (.tup e4 (Rs.ofInts _)) (.cons r .nil)))))
end
end KX
namespace KX
open PySem PySem.Spec PyProof.Rows L2 UL
theorem RowOk.all {ms mt : Nat} {zs : List Str} {r : Int × List Stp} (h : RowOk ms mt zs r) (hm : ms ≤ 8) (ht : mt ≤ 24) (hz : ∀ z ∈ zs, NameOk z) :
    Good r.2 ∧ 0 ≤ r.1 ∧ r.1 ≤ 99 ∧ (∀ s ∈ r.2, s.w ∈ zs) ∧ (∃ U : List Int, (∀ x, Reach r.2 r.1 x → x ∈ U) ∧ U.length ≤ 8) ∧ ∀ s ∈ r.2, NameOk s.w := by
  obtain ⟨sts, S, h0, ls, rg⟩ := h.ex
  have b : ∀ x ∈ sts, 0 ≤ x ∧ x ≤ 99 := fun x hx => by
    have := rg x hx
    omega
  refine ⟨⟨fun s hs => ⟨(b _ (S.sa s hs)).1, (b _ (S.sa s hs)).2, hz _ (S.sw s hs), (b _ (S.sb s hs)).1, (b _ (S.sb s hs)).2⟩, S.nd, S.lv, List.length_pos_iff.mpr h.ne, Nat.le_trans h.len ht⟩, (b _ h0).1, (b _ h0).2, S.sw, ⟨sts, fun x r => ?_, Nat.le_trans ls hm⟩, fun s hs => hz _ (S.sw s hs)⟩
  cases r with
  | refl => exact h0
  | step _ hs => exact S.sb _ hs
/-- all but lists and tables stand: what noA's data want -/
def KNL (H H' : Hp) : Prop := ∀ a o, NT o → NL o → H a = some o → H' a = some o
theorem KNL.ext {H H' : Hp} (k : LamX.ExtN H H') : KNL H H' := fun a o n _ e => k a o e n
theorem KNL.trans {H H1 H2 : Hp} (a : KNL H H1) (b : KNL H1 H2) : KNL H H2 := fun x o n l e => b x o n l (a x o n l e)
theorem KNL.lst {H : Hp} {l : Addr} {xs ys : List V} (h : H l = some (.lst xs)) : KNL H (upd H l (.lst ys)) := fun a o n l' e => by
  rw [upd_ne (fun z => by rw [z, h] at e; cases e; exact l'.lst _ rfl)]
  exact e
mutual
theorem R.knl {K : PySem.W.Frag} {H H' : Hp} (k : KNL H H') : ∀ {d : Dt} {v : V}, R K noA H d v → R K noA H' d v
  | _, _, .non => .non
  | _, _, .bl b => .bl b
  | _, _, .int i => .int i
  | _, _, .str z => .str z
  | _, _, .lst _ q _ => q.elim
  | _, _, .tup h t => .tup (k _ _ nt_tup nl_tup h) (Rs.knl k t)
  | _, _, .obj e f n t => .obj (k _ _ nt_ins nl_ins e) f n (Rs.knl k t)
  | _, _, .dct e t => .dct (k _ _ nt_dT nl_dT e) (Rs.knl k t)
  | _, _, .nd _ q _ _ _ _ => q.elim
  | _, _, .dk _ q _ => q.elim
  | _, _, .val v => .val v
  | _, _, .sql _ q => q.elim
  | _, _, .sqk e => .sqk e
theorem Rs.knl {K : PySem.W.Frag} {H H' : Hp} (k : KNL H H') : ∀ {ds : List Dt} {vs : List V}, Rs K noA H ds vs → Rs K noA H' ds vs
  | _, _, .nil => .nil
  | _, _, .cons h t => .cons (R.knl k h) (Rs.knl k t)
end
section
variable {P : Program} {w : World} {K : PySem.W.Frag} {mg : Str → Option Value} {base : Heap} {TT : List NdefX.NTab} {C CS : Addr} {H H' : Hp}
theorem handW_knl {v : V} {h : Int × List Str} (k : KNL H H') (x : HandW K C H v h) : HandW K C H' v h :=
  let ⟨p, dx, fs, ws, e, e1, e2, e3, e4⟩ := x
  ⟨p, dx, fs, ws, e, k _ _ nt_ins nl_ins e1, e2, e3, e4.imp (fun r => r.imp (fun e => k _ _ nt_tup nl_tup e) fun ⟨o, e⟩ => ⟨o, k _ _ nt_frz nl_frz e⟩) id⟩
/-- a hand that stands -/
structure HandU (K : PySem.W.Frag) (C : Addr) (H : Hp) (v : V) (h : HD) : Prop where
  r : R K noA H (dHand C h) v
  w : HandW K C H v (h.r.1, h.wl)
  ok : HdOk h
  of : HandOf h.r.2 h.r.1 h.wl h.nl
theorem HandU.knl {v : V} {h : HD} (k : KNL H H') (x : HandU K C H v h) : HandU K C H' v h := ⟨R.knl k x.r, handW_knl k x.w, x.ok, x.of⟩
abbrev rLOF (K : PySem.W.Frag) : List V → Hp → VK → Prop := fun xs H Q => ∃ p ys, xs = [.ref p] ∧ (SqL K H p ys ∨ SqT K H p ys) ∧ ∀ l, H l = none → Q (.ref l) (upd H l (.lst ys))
/-- such rows may be hands -/
def RowsGd (rs : Rws) (zs : List Str) : Prop := zs.length ≤ 8 ∧ ∀ r ∈ rs, Good r.2 ∧ 0 ≤ r.1 ∧ r.1 ≤ 99 ∧ (∀ s ∈ r.2, s.w ∈ zs) ∧ ∃ U : List Int, (∀ x, Reach r.2 r.1 x → x ∈ U) ∧ U.length ≤ 8
def spLSys (K : PySem.W.Frag) (C CS : Addr) (T : TbC) : Sp := fun vs H Q _ => ∃ (lr lc : Addr) (us : List V) (rs : Rws) (cs : List Int) (zs : List Str), vs = [.ref lr, .ref lc] ∧ H lr = some (.lst us) ∧ RowsAt K H us rs ∧ H lc = some (.lst (cs.map V.int)) ∧ TabL T H ∧
  RowsGd rs zs ∧ 1 ≤ rs.length ∧ rs.length ≤ 4 ∧ cs.Pairwise (· < ·) ∧ (∀ x ∈ cs, 0 ≤ x ∧ x < (rs.length : Nat)) ∧
  ∀ (hs : List HD) (dl : List Int) (wl : List Str) (p : Addr) (H' : Hp), hs.map (·.r) = rs → (∀ h ∈ hs, HdOk h ∧ HandOf h.r.2 h.r.1 h.wl h.nl) → dl = cs → WordsOf rs wl → LamX.ExtN H H' → TabL T H' → R K noA H' (dSys C CS hs dl wl) (.ref p) → Q (.ref p) H'
end
end KX
namespace KX
open PySem PySem.Spec PyProof.Rows L2 UL
local macro_rules | `(tactic| walk_at "u") => `(tactic| repeat (first | ((with_reducible refine' wVar_of ?ke ?_); (case ke => rfl)) | with_reducible refine' wC_of ?_ | with_reducible refine' wB_of ?_ | with_reducible refine' wAnd_of ?_ | with_reducible refine' wOr_of ?_ | with_reducible refine' wNot_of ?_ | with_reducible refine' w2_of ?_ | with_reducible refine' w1_of ?_ | with_reducible refine' wCons_of ?_ | with_reducible refine' wNil_of ?_ | ((with_reducible refine' kIxT_of ?ke ?_); (case ke => rfl)) | with_reducible refine' wSeq_of ?_ | with_reducible refine' wSet_of ?_ | ((with_reducible refine' wSetF_of ?ke ?_); (case ke => rfl)) | ((with_reducible refine' wRetO_of ?ke ?_); (case ke => rfl)) | ((with_reducible refine' wApp_of ?ke ?_); (case ke => rfl)) | with_reducible refine' wRet_of ?_ | with_reducible refine' wRetF_of ?_ | with_reducible refine' wIfS_of ?_ | with_reducible refine' wForS_of ?_ | with_reducible refine' wItemsL_of ?_ | with_reducible refine' wItemsT_of ?_ | with_reducible refine' wLc_of ?_ | with_reducible refine' wAndV_of ?_ | with_reducible refine' wOrV_of ?_ | with_reducible refine' wNotV_of ?_ | with_reducible refine' wIf_of ?_ | with_reducible refine' wGet2_of ?_ | with_reducible refine' wChain_of ?_ | with_reducible refine' wExpr_of ?_ | with_reducible refine' kLenL_of ?_ | with_reducible refine' kLenT_of ?_ | ((with_reducible refine' kFld_of ?ke ?_); (case ke => rfl)) | with_reducible refine' wLc2_of ?_ | with_reducible refine' wNext_of ?_ | ((with_reducible refine' kZip2_of ?k1 ?k2 ?_); (case k1 => rfl); (case k2 => rfl)) | ((with_reducible refine' kZip3_of ?k1 ?k2 ?k3 ?_); (case k1 => rfl); (case k2 => rfl); (case k3 => rfl)) | with_reducible refine' kEnumT_of ?_ | with_reducible refine' wPart_of ?_ | with_reducible refine' wNoPart_of ?_ | with_reducible refine' kTupOfL_of ?_ | with_reducible refine' wEndP_of ?_ | ((with_reducible refine' wNewP_of ?ke ?_); (case ke => rfl)) | with_reducible refine' kI_of ?_ | ((with_reducible refine' wRev_of ?ke ?_); (case ke => rfl)) | with_reducible refine' kNeI_of ?_ | with_reducible refine' kEqI_of ?_ | with_reducible refine' kNeS_of ?_ | with_reducible refine' kEqS_of ?_))
/-! ### hands and systems are made, told by data -/
/-- such steps may be a hand's -/
structure HdIn (x0 : Int) (ss : List Stp) : Prop where
  good : Good ss
  lo : 0 ≤ x0
  hi : x0 ≤ 99
  ws : ∃ zs : List Str, (∀ s ∈ ss, s.w ∈ zs) ∧ zs.length ≤ 8
  rg : ∃ U : List Int, (∀ x, Reach ss x0 x → x ∈ U) ∧ U.length ≤ 8
theorem Reach.trans {ss : List Stp} {x0 x y : Int} (h : Reach ss x0 x) (k : Reach ss x y) : Reach ss x0 y := by
  induction k with
  | refl => exact h
  | step _ hs ih => exact .step ih hs
theorem HdIn.at {x0 x : Int} {ss : List Stp} (h : HdIn x0 ss) (r : Reach ss x0 x) : HdIn x ss := by
  have b : 0 ≤ x ∧ x ≤ 99 := by
    cases r with
    | refl => exact ⟨h.lo, h.hi⟩
    | step _ hs =>
      have := h.good.ok _ hs
      exact ⟨this.b0, this.b1⟩
  obtain ⟨U, h1, h2⟩ := h.rg
  exact ⟨h.good, b.1, b.2, h.ws, U, fun y hy => h1 y (r.trans hy), h2⟩
section
variable {K : PySem.W.Frag} {ok : Addr → Prop} {H H' : Hp} {C CS : Addr} {T : TbC}
abbrev tts (T : TbC) : List NdefX.NTab := T.l
theorem R.seqS {d : Dt} {ds : List Dt} {v : V} (e : d.seq = some ds) (h : R K ok H d v) : ∃ a us, v = .ref a ∧ Seq K H a us ∧ Rs K ok H ds us := by
  cases h <;> first | cases e | skip
  · rename_i a us h1 h2 h3
    exact ⟨a, us, rfl, .inl (.of h1), h3⟩
  · rename_i a us h1 h3
    exact ⟨a, us, rfl, .inr h1, h3⟩
theorem steps_of : ∀ {us : List V} {ss : List Stp}, Rs K ok H (ss.map dStp) us → StepsAt K H us ss
  | _, [], .nil => .nil
  | _, s :: ss, .cons h t => by
    obtain ⟨a, us, rfl, e, t1⟩ := h.tupE
    cases t1 with
    | cons h1 t1 =>
      cases t1 with
      | cons h2 t1 =>
        cases t1 with
        | cons h3 t1 =>
          cases t1
          refine .cons ⟨a, rfl, ?_⟩ (steps_of t)
          rw [R.intE h1, R.strE h2, R.intE h3] at e
          exact e
def wMkHand (C : Addr) : List Dt → (Dt → Prop) → Prop := fun ds P => ∃ (x0 : Int) (ss : List Stp) (d : Dt), ds = [.int x0, d] ∧ d.seq = some (ss.map dStp) ∧ HdIn x0 ss ∧ ∀ h : HD, h.r = (x0, ss) → HdOk h → HandOf ss x0 h.wl h.nl → P (dHand C h)
theorem mk_hand : MkS K (tts T) C (spHand K C T) [] (wMkHand C) := by
  rintro vs ok ds P H Q E x dx ht r ⟨x0, ss, d, rfl, hd, HI, hP⟩ hx hdx ne q
  obtain ⟨zs, hz, lz⟩ := HI.ws
  obtain ⟨U, hU, lU⟩ := HI.rg
  cases r with
  | cons r0 t =>
    cases t with
    | cons r1 t =>
      cases t
      obtain ⟨a, us, rfl, hS, rs⟩ := R.seqS hd r1
      have hss := steps_of rs
      rw [R.intE r0]
      have m10 : Same H (upd (upd H dx (.own x)) x (.ins C dx [])) := (same_new hdx).trans (same_new (by rw [upd_ne ne.symm]; exact hx))
      refine ⟨x, dx, a, x0, us, ss, U, zs, rfl, upd_same, tabL_same m10 ht, hS.same m10, hss.same m10, HI.good, HI.lo, HI.hi, hz, lz, hU, lU, fun wl nl H' HA HM HO kept tab => ⟨rfl, ?_⟩⟩
      obtain ⟨hd, e1, e2, e3, ho, hR⟩ := hand_data (K := K) (ok := fun a => ok a ∨ Fre H a) HA HM (kept_steps (upd_same (H := upd H dx (.own x)) (a := x) (o := .ins C dx [])) (fun u z => nomatch z) kept (hss.same m10)) HO
      exact q _ _ H' (hP hd e1 ho (by rw [e2, e3]; exact HO)) ⟨fun b o nt e => kept b o (ne_of_none e hx) (m10 b o e) nt, fun _ => tab⟩ hR
/-- who is diligent: told by d, of so many -/
inductive ChoD (n : Nat) : Dt → (Int → Prop) → Prop where
  | all : ChoD n .non (fun x => 0 ≤ x ∧ x < (n : Nat))
  | row {d : Dt} {cs : List Int} : d.seq = some (cs.map Dt.int) → cs.Nodup → (∀ x ∈ cs, 0 ≤ x ∧ x < (n : Nat)) → ChoD n d (fun x => x ∈ cs)
def wMkSys (C CS : Addr) : List Dt → (Dt → Prop) → Prop := fun ds P => ∃ (hs : List HD) (d e : Dt) (S : Int → Prop) (zs : List Str), ds = [d, e] ∧ d.seq = some (hs.map (dHand C)) ∧ 1 ≤ hs.length ∧ hs.length ≤ 4 ∧ ChoD hs.length e S ∧ (∀ h ∈ hs, h.wl.length ≤ 8 ∧ ∀ z ∈ h.wl, z ∈ zs) ∧ zs.length ≤ 12 ∧
  ∀ dl wl, dl.Pairwise (· < ·) → (∀ x, x ∈ dl ↔ S x) → sortedS wl = true → wl.Nodup → (∀ z, z ∈ wl ↔ ∃ h ∈ hs, z ∈ h.wl) → P (dSys C CS hs dl wl)
end
/-- such a system stands -/
structure SySt (hs : List HD) (dl : List Int) (wl : List Str) : Prop where
  l1 : 1 ≤ hs.length
  l4 : hs.length ≤ 4
  hd : ∀ h ∈ hs, HdIn h.r.1 h.r.2 ∧ HdOk h ∧ HandOf h.r.2 h.r.1 h.wl h.nl
  dp : dl.Pairwise (· < ·)
  dr : ∀ x ∈ dl, 0 ≤ x ∧ x < (hs.length : Nat)
  ws : WordsOf (hs.map (·.r)) wl
  zs : ∃ zs : List Str, (∀ h ∈ hs, ∀ s ∈ h.r.2, s.w ∈ zs) ∧ zs.length ≤ 12
section
variable {P : Program} {w : World} {K : PySem.W.Frag} {mg : Str → Option Value} {base : Heap} {C CS : Addr} {T : TbC}
/-- the hands, started elsewhere -/
def HdAt (p : Int × HD) (h : HD) : Prop := h.r = (p.1, p.2.r.2) ∧ HdIn p.1 p.2.r.2 ∧ HdOk h ∧ HandOf p.2.r.2 p.1 h.wl h.nl
def wStarted (C CS : Addr) : List Dt → (Dt → Prop) → Prop := fun ds P => ∃ hs dl wl xs, ds = [dSys C CS hs dl wl, dIs xs] ∧ SySt hs dl wl ∧ StOk hs xs ∧
  ∀ hs' wl', Paired HdAt (xs.zip hs) hs' → SySt hs' dl wl' → P (dSys C CS hs' dl wl')
end
end KX
namespace VJ
open PySem PySem.Spec PyProof.Rows L2
section
variable {X : Cx}
/-- set(a list of ints), its size told by what covers it -/
def rSetJ (w : World) (K : PySem.W.Frag) : List V → Hp → VK → Prop := fun xs H Q => ∃ (l : Addr) (zs : List Int), xs = [.ref l] ∧ SqL K H l (zs.map V.int) ∧ zs.length + 1 < scanBound ∧
  ∀ (D : Addr) (n : Nat), H D = none → (∀ L : List Int, (∀ z ∈ zs, z ∈ L) → n ≤ L.length) → Q (.ref D) (upd H D (SetO w D (fun j => decide (j ∈ zs)) n))
end
end VJ
namespace UL
open PySem PySem.Spec PyProof.Rows L2
section
variable {K : PySem.W.Frag} {T : List NdefX.NTab} {S : Sl} {m : Bool} {ta : TE} {t : WE}
def kSortSetJ : Dt → (List Dt → Prop) → Prop
  | .lst ds, P => ∃ zs L : List Int, Dt.ints ds = some zs ∧ zs.length ≤ 4000 ∧ (∀ z ∈ zs, z ∈ L) ∧ L.length < 64 ∧ ∀ ys : List Int, ys.Pairwise (· < ·) → (∀ z, z ∈ ys ↔ z ∈ zs) → P (ys.map Dt.int)
  | _, _ => False
end
end UL
namespace KX
open PySem PySem.Spec PyProof.Rows L2 UL
local macro_rules | `(tactic| walk_at "u") => `(tactic| repeat (first | ((with_reducible refine' wVar_of ?ke ?_); (case ke => rfl)) | with_reducible refine' wC_of ?_ | with_reducible refine' wB_of ?_ | with_reducible refine' wAnd_of ?_ | with_reducible refine' wOr_of ?_ | with_reducible refine' wNot_of ?_ | with_reducible refine' w2_of ?_ | with_reducible refine' w1_of ?_ | with_reducible refine' wCons_of ?_ | with_reducible refine' wNil_of ?_ | ((with_reducible refine' kIxT_of ?ke ?_); (case ke => rfl)) | with_reducible refine' wSeq_of ?_ | with_reducible refine' wSet_of ?_ | ((with_reducible refine' wSetF_of ?ke ?_); (case ke => rfl)) | ((with_reducible refine' wRetO_of ?ke ?_); (case ke => rfl)) | ((with_reducible refine' wApp_of ?ke ?_); (case ke => rfl)) | with_reducible refine' wRet_of ?_ | with_reducible refine' wRetF_of ?_ | with_reducible refine' wIfS_of ?_ | with_reducible refine' wForS_of ?_ | with_reducible refine' wItemsL_of ?_ | with_reducible refine' wItemsT_of ?_ | with_reducible refine' wLc_of ?_ | with_reducible refine' wAndV_of ?_ | with_reducible refine' wOrV_of ?_ | with_reducible refine' wNotV_of ?_ | with_reducible refine' wIf_of ?_ | with_reducible refine' wGet2_of ?_ | with_reducible refine' wChain_of ?_ | with_reducible refine' wExpr_of ?_ | with_reducible refine' kLenL_of ?_ | with_reducible refine' kLenT_of ?_ | ((with_reducible refine' kFld_of ?ke ?_); (case ke => rfl)) | with_reducible refine' wLc2_of ?_ | with_reducible refine' wNext_of ?_ | ((with_reducible refine' kZip2_of ?k1 ?k2 ?_); (case k1 => rfl); (case k2 => rfl)) | ((with_reducible refine' kZip3_of ?k1 ?k2 ?k3 ?_); (case k1 => rfl); (case k2 => rfl); (case k3 => rfl)) | with_reducible refine' kEnumT_of ?_ | with_reducible refine' wPart_of ?_ | with_reducible refine' wNoPart_of ?_ | with_reducible refine' kTupOfL_of ?_ | with_reducible refine' wEndP_of ?_ | ((with_reducible refine' wNewP_of ?ke ?_); (case ke => rfl)) | with_reducible refine' kI_of ?_ | ((with_reducible refine' wRev_of ?ke ?_); (case ke => rfl)) | with_reducible refine' kNeI_of ?_ | with_reducible refine' kEqI_of ?_ | with_reducible refine' kNeS_of ?_ | with_reducible refine' kEqS_of ?_))
section
variable {P : Program} {w : World} {K : PySem.W.Frag} {mg : Str → Option Value} {base : Heap} {TT : List NdefX.NTab}
/-! ### drawing, over data -/
def wDraw : List Dt → (Dt → Prop) → Prop := fun ds P => ∃ m, ds = [.int m] ∧ 0 < m ∧ m < 2 ^ 64 ∧ ∀ d, 0 ≤ d → d < m → P (.int d)
theorem u_draw {k : Nat} {f : Addr} {fd : FuncData} (G : FnOk P w K mg base CX0 k f fd ["_law_pool_here", "_law_many"] spDraw) : FnOk P w K mg base CX0 k f fd ["_law_pool_here", "_law_many"] (spP K TT wDraw) := by
  refine G.imp fun vs H Q E ⟨p, vs', ok, ds, P, e, hp, nok, ht, r, ⟨m, ed, m0, m1, h⟩, q⟩ => ?_
  subst e
  subst ed
  cases r with
  | cons r t =>
    cases t
    refine ⟨p, m, by rw [R.intE r], hp, m0, m1, fun d x y z d0 d1 => ?_⟩
    exact q _ _ _ (h d d0 d1) (fun a o _ n e => by rw [upd_ne n]; exact e) ⟨x, y, z, upd_same⟩ (let ⟨_, _, _, hpe⟩ := hp; tabs_lst hpe ht) (.int d)
theorem pool_sp : PoolSp spPool := fun z H Q E h => ⟨z, rfl, fun p x y w hp => h p x y w hp⟩
/-! ### _law_walk -/
/-- the numbers of a drawn move are such of steps -/
theorem numsD_ok {ss : List Stp} {x : Int} {z : Str} {k : Int} (h : some k ∈ numsD ss x z) : 0 ≤ k ∧ ∃ s, ss[k.toNat]? = some s ∧ s.a = x ∧ s.w = z := by
  unfold numsD at h
  split at h
  · obtain ⟨j, hj, e⟩ := List.mem_map.mp h
    cases e
    unfold numsTo at hj
    obtain ⟨i, hi, e⟩ := List.mem_map.mp hj
    subst e
    obtain ⟨h1, h2⟩ := List.mem_filter.mp hi
    have hi : i < ss.length := List.mem_range.mp h1
    have ei : ss[i]? = some ss[i] := List.getElem?_eq_getElem hi
    rw [ei, Option.any_some, decide_eq_true_eq] at h2
    exact ⟨Int.natCast_nonneg i, ss[i], ei, h2⟩
  · rw [List.mem_singleton] at h
    cases h
theorem prodD_in {rs : Rws} {xs : List Int} {z : Str} : ∀ (n : Nat), n ≤ rs.length → n ≤ xs.length → ∀ l ∈ prodD (rs.take n) (xs.take n) z [[]], ∀ (i : Nat) r x k, rs[i]? = some r → xs[i]? = some x → l[i]? = some k → k ∈ numsD r.2 x z
  | 0, _, _, l, h, i, r, x, k, e1, e2, e3 => by
    rw [List.take_zero, List.take_zero] at h
    have h : l ∈ [[]] := h
    rw [List.mem_singleton.mp h] at e3
    cases e3
  | n + 1, h1, h2, l, h, i, r, x, k, e1, e2, e3 => by
    have d1 : rs[n]? = some rs[n] := List.getElem?_eq_getElem (by omega)
    have d2 : xs[n]? = some xs[n] := List.getElem?_eq_getElem (by omega)
    have hl := prodD_lens (rs := rs) (xs := xs) (z := z) n (by omega) (by omega)
    rw [prodD_take d1 d2] at h
    obtain ⟨l0, h0, h⟩ := List.mem_flatMap.mp h
    obtain ⟨k0, hk, rfl⟩ := List.mem_map.mp h
    have l0l := hl l0 h0
    by_cases hi : i < n
    · rw [List.getElem?_append_left (by omega)] at e3
      exact prodD_in n (by omega) (by omega) l0 h0 i r x k e1 e2 e3
    · have : i = n := by
        have := (List.getElem?_eq_some_iff.mp e3).1
        rw [List.length_append, l0l] at this
        have : i < n + 1 := this
        omega
      subst this
      rw [List.getElem?_append_right (by omega), l0l, Nat.sub_self] at e3
      cases e3
      rw [d1] at e1
      cases e1
      rw [d2] at e2
      cases e2
      exact hk
theorem movesD_in {rs : Rws} {wl : List Str} {xs : List Int} {m : Mov} (hx : xs.length = rs.length) (h : m ∈ movesD rs wl xs) : m.1 ∈ wl ∧ m.2.length = rs.length ∧ ∀ (i : Nat) r x k, rs[i]? = some r → xs[i]? = some x → m.2[i]? = some k → k ∈ numsD r.2 x m.1 := by
  unfold movesD at h
  obtain ⟨z, hz, h⟩ := List.mem_flatMap.mp h
  obtain ⟨l, hl, rfl⟩ := List.mem_map.mp h
  have e : prodD rs xs z [[]] = prodD (rs.take rs.length) (xs.take rs.length) z [[]] := by rw [List.take_length, ← hx, List.take_length]
  rw [e] at hl
  exact ⟨hz, prodD_lens rs.length (Nat.le_refl _) (by omega) l hl, prodD_in rs.length (Nat.le_refl _) (by omega) l hl⟩
theorem movesD_v {rs : Rws} {wl : List Str} {xs : List Int} {m : Mov} (hx : xs.length = rs.length) (h : m ∈ movesD rs wl xs) : NumsV rs m.2 := by
  obtain ⟨_, h1, h2⟩ := movesD_in hx h
  refine ⟨h1, fun i r k e1 e2 => ?_⟩
  have hi : i < xs.length := by
    have := (List.getElem?_eq_some_iff.mp e1).1
    omega
  obtain ⟨k0, s, es, _⟩ := numsD_ok (h2 i r _ _ e1 (List.getElem?_eq_getElem hi) e2)
  exact ⟨k0, (List.getElem?_eq_some_iff.mp es).1⟩
theorem behD_len {rs : Rws} {xs : List Int} {ks : List (Option Int)} (h1 : xs.length = rs.length) (h2 : ks.length = rs.length) : (behD rs xs ks).length = rs.length := by
  induction rs generalizing xs ks with
  | nil => rfl
  | cons r rs ih =>
    cases xs with
    | nil => cases h1
    | cons x xs =>
      cases ks with
      | nil => cases h2
      | cons k ks => exact congrArg (· + 1) (ih (Nat.succ.inj h1) (Nat.succ.inj h2))
/-- the places of a run -/
inductive Walk (rs : Rws) (wl : List Str) : List Mov → List (List Int) → List Int → Prop where
  | start : Walk rs wl [] [rs.map (·.1)] (rs.map (·.1))
  | step {run : List Mov} {ps : List (List Int)} {x : List Int} {m : Mov} : Walk rs wl run ps x → m ∈ movesD rs wl x → Walk rs wl (run ++ [m]) (ps ++ [behD rs x m.2]) (behD rs x m.2)
theorem Walk.len {rs : Rws} {wl : List Str} {run : List Mov} {ps : List (List Int)} {x : List Int} (h : Walk rs wl run ps x) : x.length = rs.length ∧ ps.length = run.length + 1 := by
  induction h with
  | start => exact ⟨List.length_map _, rfl⟩
  | step h hm ih =>
    refine ⟨behD_len ih.1 (movesD_v ih.1 hm).1, ?_⟩
    rw [List.length_append, List.length_append, ih.2]
    rfl
end
end KX
namespace KX
open PySem PySem.Spec PyProof.Rows L2 UL
/-! ### data that is its own like -/
mutual
theorem eqv_self : ∀ d : PyData, d.canLay0 = true → PyData.eqv d d = true
  | .none, _ => by unfold PyData.eqv; rfl
  | .bool b, _ => by unfold PyData.eqv; exact beq_self_eq_true b
  | .int i, _ => by unfold PyData.eqv; exact beq_self_eq_true i
  | .str z, _ => by unfold PyData.eqv; exact beq_self_eq_true z
  | .list xs, h => by
    unfold PyData.canLay0 at h
    unfold PyData.eqv
    exact eqvAll_self xs h
  | .tuple xs, h => by
    unfold PyData.canLay0 at h
    unfold PyData.eqv
    exact eqvAll_self xs h
  | .dict kvs, h => by
    unfold PyData.canLay0 at h
    cases h
theorem eqvAll_self : ∀ ds : List PyData, PyData.canLayAll0 ds = true → PyData.eqvAll ds ds = true
  | [], _ => by unfold PyData.eqvAll; rfl
  | d :: ds, h => by
    unfold PyData.canLayAll0 at h
    obtain ⟨h1, h2⟩ := Bool.and_eq_true_iff.mp h
    unfold PyData.eqvAll
    rw [eqv_self d h1, eqvAll_self ds h2]
    rfl
end
def pNum : Option Int → PyData
  | none => .none
  | some i => .int i
def pMv (m : Mov) : PyData := .tuple [.str m.1, .tuple (m.2.map pNum)]
def pIs (ns : List Int) : PyData := .tuple (ns.map .int)
/-! ### the places of a walk are reached -/
theorem behD_get : ∀ {rs : Rws} {xs : List Int} {ks : List (Option Int)} {i : Nat} {r : Int × List Stp} {x : Int} {k : Option Int}, rs[i]? = some r → xs[i]? = some x → ks[i]? = some k → (behD rs xs ks)[i]? = some (ledD r x k)
  | _ :: _, _ :: _, _ :: _, 0, _, _, _, e1, e2, e3 => by
    cases e1
    cases e2
    cases e3
    rfl
  | _ :: rs, _ :: xs, _ :: ks, i + 1, r, x, k, e1, e2, e3 => behD_get (rs := rs) (xs := xs) (ks := ks) (i := i) e1 e2 e3
  | [], _, _, _, _, _, _, e, _, _ => nomatch e
  | _ :: _, [], _, _, _, _, _, _, e, _ => nomatch e
  | _ :: _, _ :: _, [], _, _, _, _, _, _, e => nomatch e
theorem walk_st {hs : List HD} {rs : Rws} {wl : List Str} {run : List Mov} {ps : List (List Int)} {x : List Int} (eh : hs.map (·.r) = rs) (hof : ∀ h ∈ hs, HandOf h.r.2 h.r.1 h.wl h.nl) (h : Walk rs wl run ps x) :
    StOk hs x ∧ ∀ y ∈ ps, StOk hs y := by
  have hl : hs.length = rs.length := by rw [← eh, List.length_map]
  have gr : ∀ {i : Nat} {h : HD}, hs[i]? = some h → rs[i]? = some h.r := fun e => by rw [← eh, List.getElem?_map, e]; rfl
  induction h with
  | start =>
    have s : StOk hs (rs.map (·.1)) := ⟨by rw [List.length_map, hl], fun i h x e1 e2 => by
      rw [List.getElem?_map, gr e1] at e2
      cases e2
      exact ((hof h (List.mem_of_getElem? e1)).nm _).mpr .refl⟩
    exact ⟨s, fun y hy => by rw [List.mem_singleton] at hy; rw [hy]; exact s⟩
  | step hw hm ih =>
    obtain ⟨s0, sp⟩ := ih
    rename_i run ps x m
    have hx : x.length = rs.length := hw.len.1
    have hv := movesD_v hx hm
    obtain ⟨_, ml, mi⟩ := movesD_in hx hm
    have s : StOk hs (behD rs x m.2) := ⟨by rw [behD_len hx hv.1, hl], fun i h y e1 e2 => by
      have hi : i < hs.length := (List.getElem?_eq_some_iff.mp e1).1
      have ex : x[i]? = some (x[i]'(by omega)) := List.getElem?_eq_getElem _
      have ek : m.2[i]? = some (m.2[i]'(by omega)) := List.getElem?_eq_getElem _
      have x0 := s0.2 i h _ e1 ex
      have hk := mi i _ _ _ (gr e1) ex ek
      rw [behD_get (gr e1) ex ek] at e2
      cases e2
      generalize m.2[i]'(by omega) = k at hk ⊢
      generalize x[i]'(by omega) = x1 at hk x0 ⊢
      cases k with
      | none => exact x0
      | some k =>
        obtain ⟨k0, s, es, ea, _⟩ := numsD_ok hk
        have nm := (hof h (List.mem_of_getElem? e1)).nm
        have e3 : ledD h.r x1 (some k) = s.b := by
          simp only [ledD, es]
          rfl
        rw [e3]
        refine (nm _).mpr (.step ?_ (List.mem_of_getElem? es))
        rw [ea]
        exact (nm _).mp x0⟩
    exact ⟨s, fun y hy => by
      rcases List.mem_append.mp hy with hy | hy
      · exact sp y hy
      · rw [List.mem_singleton] at hy
        rw [hy]
        exact s⟩
/-- the move of a turn is one of the place before it -/
theorem walk_mv {rs : Rws} {wl : List Str} {run : List Mov} {ps : List (List Int)} {x : List Int} (h : Walk rs wl run ps x) : ps.length = run.length + 1 ∧ ps[run.length]? = some x ∧ ∀ (i : Nat) m, run[i]? = some m → ∃ y, ps[i]? = some y ∧ y.length = rs.length ∧ m ∈ movesD rs wl y := by
  induction h with
  | start => exact ⟨rfl, rfl, fun i m e => nomatch e⟩
  | step hw hm ih =>
    obtain ⟨l, e0, f⟩ := ih
    rename_i run ps x m
    refine ⟨by rw [List.length_append, List.length_append, l]; rfl, ?_, fun i m1 e => ?_⟩
    · rw [List.length_append, List.getElem?_append_right (by show ps.length ≤ run.length + 1; omega), l]
      show [behD rs x m.2][run.length + 1 - (run.length + 1)]? = _
      rw [Nat.sub_self]
      rfl
    · by_cases hi : i < run.length
      · rw [List.getElem?_append_left hi] at e
        obtain ⟨y, e1, e2⟩ := f i m1 e
        exact ⟨y, by rw [List.getElem?_append_left (by omega)]; exact e1, e2⟩
      · have : i = run.length := by
          have := (List.getElem?_eq_some_iff.mp e).1
          rw [List.length_append] at this
          have : i < run.length + 1 := this
          omega
        subst this
        rw [List.getElem?_append_right (Nat.le_refl _), Nat.sub_self] at e
        cases e
        exact ⟨x, by rw [List.getElem?_append_left (by omega)]; exact e0, hw.len.1, hm⟩
end KX
namespace KX
open PySem PySem.Spec PyProof.Rows L2 UL
local macro_rules | `(tactic| walk_at "u") => `(tactic| repeat (first | ((with_reducible refine' wVar_of ?ke ?_); (case ke => rfl)) | with_reducible refine' wC_of ?_ | with_reducible refine' wB_of ?_ | with_reducible refine' wAnd_of ?_ | with_reducible refine' wOr_of ?_ | with_reducible refine' wNot_of ?_ | with_reducible refine' w2_of ?_ | with_reducible refine' w1_of ?_ | with_reducible refine' wCons_of ?_ | with_reducible refine' wNil_of ?_ | ((with_reducible refine' kIxT_of ?ke ?_); (case ke => rfl)) | with_reducible refine' wSeq_of ?_ | with_reducible refine' wSet_of ?_ | ((with_reducible refine' wSetF_of ?ke ?_); (case ke => rfl)) | ((with_reducible refine' wRetO_of ?ke ?_); (case ke => rfl)) | ((with_reducible refine' wApp_of ?ke ?_); (case ke => rfl)) | with_reducible refine' wRet_of ?_ | with_reducible refine' wRetF_of ?_ | with_reducible refine' wIfS_of ?_ | with_reducible refine' wForS_of ?_ | with_reducible refine' wItemsL_of ?_ | with_reducible refine' wItemsT_of ?_ | with_reducible refine' wLc_of ?_ | with_reducible refine' wAndV_of ?_ | with_reducible refine' wOrV_of ?_ | with_reducible refine' wNotV_of ?_ | with_reducible refine' wIf_of ?_ | with_reducible refine' wGet2_of ?_ | with_reducible refine' wChain_of ?_ | with_reducible refine' wExpr_of ?_ | with_reducible refine' kLenL_of ?_ | with_reducible refine' kLenT_of ?_ | ((with_reducible refine' kFld_of ?ke ?_); (case ke => rfl)) | with_reducible refine' wLc2_of ?_ | with_reducible refine' wNext_of ?_ | ((with_reducible refine' kZip2_of ?k1 ?k2 ?_); (case k1 => rfl); (case k2 => rfl)) | ((with_reducible refine' kZip3_of ?k1 ?k2 ?k3 ?_); (case k1 => rfl); (case k2 => rfl); (case k3 => rfl)) | with_reducible refine' kEnumT_of ?_ | with_reducible refine' wPart_of ?_ | with_reducible refine' wNoPart_of ?_ | with_reducible refine' kTupOfL_of ?_ | with_reducible refine' wEndP_of ?_ | ((with_reducible refine' wNewP_of ?ke ?_); (case ke => rfl)) | with_reducible refine' kI_of ?_ | ((with_reducible refine' wRev_of ?ke ?_); (case ke => rfl)) | with_reducible refine' kNeI_of ?_ | with_reducible refine' kEqI_of ?_ | with_reducible refine' kNeS_of ?_ | with_reducible refine' kEqS_of ?_ | with_reducible refine' wDropX_of ?_ | with_reducible refine' wSetX_of ?_ | with_reducible refine' wRetX_of ?_ | with_reducible refine' wRaise_of ?_ | with_reducible refine' wTry_of ?_))
/-! ### values of any kind -/
abbrev Ty (d : Dt) : Prop := d.tyN.isSome = true
/-- .. and the parts of a tuple -/
def Ty1 (d : Dt) : Prop := Ty d ∧ ∀ ds, d = .tup ds → ds.length ≤ 1000 ∧ ∀ x ∈ ds, Ty x
def intB : Dt → Bool
  | .int _ => true
  | _ => false
def inNl (h : HD) : Dt → Bool
  | .int i => decide (i ∈ h.nl)
  | _ => false
/-- a value is a standing of the hands -/
def stB (hs : List HD) : Dt → Bool
  | .tup ds => decide (ds.length = hs.length) && (ds.zip hs).all fun p => inNl p.2 p.1
  | _ => false
section
variable {P : Program} {w : World} {K : PySem.W.Frag} {mg : Str → Option Value} {base : Heap} {TT : List NdefX.NTab} {C CS : Addr}
theorem fnOr {CX : CXT} {k : Nat} {f : Addr} {fd : FuncData} {ps : List Str} {s1 s2 : Sp} (G1 : FnOk P w K mg base CX k f fd ps s1) (G2 : FnOk P w K mg base CX k f fd ps s2) : FnOk P w K mg base CX k f fd ps (fun vs H Q E => s1 vs H Q E ∨ s2 vs H Q E) where
  len := fun vs H Q E h => h.elim (G1.len vs H Q E) (G2.len vs H Q E)
  run := fun A outer s H args us vs Q E hr e0 hb r h => h.elim (G1.run A outer s H args us vs Q E hr e0 hb r) (G2.run A outer s H args us vs Q E hr e0 hb r)
/-! ### is_whole, is_name -/
def wWholeA : List Dt → (Dt → Prop) → Prop := fun ds P => ∃ d, ds = [d] ∧ Ty d ∧ P (.bl (intB d))
theorem sc_wholeA : FnScope ["value"] ["value"] (defScope s_is_whole) := ⟨rfl, rfl, rfl, by decide +kernel, rfl, by decide +kernel, by decide +kernel⟩
theorem ok_wholeA {f : Addr} {fd : FuncData} (F : Fun K "is_whole" "is_whole" s_is_whole f fd) (B : Blt mg) (N : Kin mg) : FnOk P w K mg base CX0 1 f fd ["value"] (spU K TT wWholeA) := by
  refine fn_u F sc_wholeA (by decide) (fun ds Q ⟨_, e, _⟩ => by rw [e]; rfl) fun cdv A outer s H E hr => ?_
  refine ⟨_, _, ([], []), ([], []), (pss_one (ps_ret (pe_and (pe_callB call_isi (by rfl) B.isinstance (by decide +kernel) (pa_cons (pv 0) (pa_cons (pe_bltn rfl B.int (by decide +kernel) (v := .ty "int") rfl) pa_nil))) (pe_one (pe_not (pe_callB call_isi (by rfl) B.isinstance (by decide +kernel) (pa_cons (pv 0) (pa_cons (pe_bltn rfl N.bool (by decide +kernel) (v := .ty "bool") rfl) pa_nil)))))))), (ss_ret (se_and (se_isi (SE.b (se_var 0))) (se_not (se_isi (SE.b (se_var 0)))))), ?_⟩
  rintro ds P ⟨d, rfl, ht, q⟩
  walk_at "u"
  cases d with
  | obj => cases ht
  | val => cases ht
  | sql => cases ht
  | nd => cases ht
  | dk => cases ht
  | int i =>
    refine kIsi_of (b := true) rfl (by decide +kernel) ?_
    refine iteT ?_
    walk_at "u"
    exact kIsi_of (b := false) rfl (by decide +kernel) q
  | bl b =>
    refine kIsi_of (b := true) rfl (by decide +kernel) ?_
    refine iteT ?_
    walk_at "u"
    exact kIsi_of (b := true) rfl (by decide +kernel) q
  | _ =>
    refine kIsi_of (b := false) rfl (by decide +kernel) ?_
    exact iteF q
def NameIn (d : Dt) : Prop := Ty d ∧ ∀ z, d = .str z → NameOk z ∨ (z.length = 0 ∨ 12 < z.length) ∧ z.length ≤ sizeLine
def nameB : Dt → Bool
  | .str z => decide (0 < z.length) && decide (z.length ≤ 12)
  | _ => false
def wNoName : List Dt → (Dt → Prop) → Prop := fun ds P => ∃ d, ds = [d] ∧ Ty d ∧ (∀ z, d = .str z → (z.length = 0 ∨ 12 < z.length) ∧ z.length ≤ sizeLine) ∧ P (.bl false)
theorem sc_nameA : FnScope ["value", "letter"] ["value"] (defScope s_is_name) := ⟨rfl, rfl, rfl, by decide +kernel, rfl, by decide +kernel, by decide +kernel⟩
theorem ok_noname {f : Addr} {fd : FuncData} (F : Fun K "is_name" "is_name" s_is_name f fd) (B : Blt mg) (N : Kin mg) : FnOk P w K mg base CX0 1 f fd ["value"] (spU K TT wNoName) := by
  obtain ⟨tl, hL⟩ := N.letters
  refine fn_u F sc_nameA (by decide) (fun ds Q ⟨_, e, _⟩ => by rw [e]; rfl) fun cdv A outer s H E hr => ?_
  refine ⟨_, _, ([], []), ([], []), (pss_cons (ps_if (PW.pt (pw_or (pt_not (pt_val (pe_callB call_isi (by rfl) B.isinstance (by decide +kernel) (pa_cons (pv 0) (pa_cons (pe_bltn rfl N.str (by decide +kernel) (v := .ty "str") rfl) pa_nil))))) (pw_or1 (pt_not (pt_chain op_le op_le pe_int (pe_callB call_len_str (by rfl) B.len PySem.boot_len (pa_cons (pv 0) pa_nil)) (pe_glob rfl hL (v := .int 12) ⟨_, rfl⟩)))))) (pss_one (ps_ret pe_bl)) pss_nil) (pss_one VL.ps_dead)), (ss_seq (ss_if (st_or (st_not (st_tB (se_isi (SE.b (se_var 0))))) (st_not (st_tTest (se_chain oS_le oS_le (SE.b (se_int (i := 1))) (SE.b (se_cb c1_lenS (SE.b (se_var 0)))) (SE.b (se_int (i := 12))))))) (ss_ret (se_bl (b := false))) ss_nil) ss_dead), ?_⟩
  rintro ds P ⟨d, rfl, ht, hz, q⟩
  walk_at "u"
  cases d with
  | obj => cases ht
  | val => cases ht
  | sql => cases ht
  | nd => cases ht
  | dk => cases ht
  | str z =>
    obtain ⟨h1, h2⟩ := hz z rfl
    refine kIsi_of (b := true) rfl (by decide +kernel) ?_
    refine iteF ?_
    walk_at "u"
    refine ⟨h2, ?_⟩
    refine kI_of ?_
    show if decide ((1 : Int) ≤ (z.length : Int)) = true then _ else _
    rcases h1 with h1 | h1
    · rw [decide_eq_false (by omega)]
      refine iteF ?_
      refine iteT ?_
      walk_at "u"
      exact q
    · rw [decide_eq_true (by omega)]
      refine iteT ?_
      walk_at "u"
      show if (!decide ((z.length : Int) ≤ 12)) = true then _ else _
      rw [decide_eq_false (by omega)]
      refine iteT ?_
      walk_at "u"
      exact q
  | _ =>
    refine kIsi_of (b := false) rfl (by decide +kernel) ?_
    refine iteT ?_
    refine iteT ?_
    walk_at "u"
    exact q
/-! ### is_standing, check_states -/
def wIsStA (C CS : Addr) : List Dt → (Dt → Prop) → Prop := fun ds P => ∃ hs dl wl d, ds = [dSys C CS hs dl wl, d] ∧ hs.length ≤ 1000 ∧ Ty1 d ∧ P (.bl (stB hs d))
/-- an exception's class, its __init__ -/
structure ExcD (P : Program) (w : World) (K : PySem.W.Frag) (mg : Str → Option Value) (base : Heap) (x f : Str) (CC fI : Addr) (fdI : FuncData) : Prop where
  T : OexC K CC
  iC : PySem.W.findIn K (.ref CC) "__init__" = some (some (.ref fI))
  tI : PySem.W.typeIn K (.ref fI) = some (.type "function")
  b : Binds K fdI ["self", f] []
  m : mg x = some (.ref CC)
  xf : XfC K CC
  hno : PySem.W.findIn K (.ref CC) f = some none
  G : FnOk P w K mg base CX0 1 fI fdI ["self", f] (spI CC f)
def wChkX (C CS CB : Addr) : List Dt → (Dt → Prop) → (Xn → Prop) → Prop := fun ds P PX => ∃ hs dl wl d, ds = [dSys C CS hs dl wl, d] ∧ hs.length ≤ 1000 ∧ Ty1 d ∧ if stB hs d = true then P .non else PX ⟨CB, "value", d⟩
end
end KX
namespace KX
open PySem PySem.Spec PyProof.Rows L2 UL
local macro_rules | `(tactic| walk_at "u") => `(tactic| repeat (first | ((with_reducible refine' wVar_of ?ke ?_); (case ke => rfl)) | with_reducible refine' wC_of ?_ | with_reducible refine' wB_of ?_ | with_reducible refine' wAnd_of ?_ | with_reducible refine' wOr_of ?_ | with_reducible refine' wNot_of ?_ | with_reducible refine' w2_of ?_ | with_reducible refine' w1_of ?_ | with_reducible refine' wCons_of ?_ | with_reducible refine' wNil_of ?_ | ((with_reducible refine' kIxT_of ?ke ?_); (case ke => rfl)) | with_reducible refine' wSeq_of ?_ | with_reducible refine' wSet_of ?_ | ((with_reducible refine' wSetF_of ?ke ?_); (case ke => rfl)) | ((with_reducible refine' wRetO_of ?ke ?_); (case ke => rfl)) | ((with_reducible refine' wApp_of ?ke ?_); (case ke => rfl)) | with_reducible refine' wRet_of ?_ | with_reducible refine' wRetF_of ?_ | with_reducible refine' wIfS_of ?_ | with_reducible refine' wForS_of ?_ | with_reducible refine' wItemsL_of ?_ | with_reducible refine' wItemsT_of ?_ | with_reducible refine' wLc_of ?_ | with_reducible refine' wAndV_of ?_ | with_reducible refine' wOrV_of ?_ | with_reducible refine' wNotV_of ?_ | with_reducible refine' wIf_of ?_ | with_reducible refine' wGet2_of ?_ | with_reducible refine' wChain_of ?_ | with_reducible refine' wExpr_of ?_ | with_reducible refine' kLenL_of ?_ | with_reducible refine' kLenT_of ?_ | ((with_reducible refine' kFld_of ?ke ?_); (case ke => rfl)) | with_reducible refine' wLc2_of ?_ | with_reducible refine' wNext_of ?_ | ((with_reducible refine' kZip2_of ?k1 ?k2 ?_); (case k1 => rfl); (case k2 => rfl)) | ((with_reducible refine' kZip3_of ?k1 ?k2 ?k3 ?_); (case k1 => rfl); (case k2 => rfl); (case k3 => rfl)) | with_reducible refine' kEnumT_of ?_ | with_reducible refine' wPart_of ?_ | with_reducible refine' wNoPart_of ?_ | with_reducible refine' kTupOfL_of ?_ | with_reducible refine' wEndP_of ?_ | ((with_reducible refine' wNewP_of ?ke ?_); (case ke => rfl)) | with_reducible refine' kI_of ?_ | ((with_reducible refine' wRev_of ?ke ?_); (case ke => rfl)) | with_reducible refine' kNeI_of ?_ | with_reducible refine' kEqI_of ?_ | with_reducible refine' kNeS_of ?_ | with_reducible refine' kEqS_of ?_ | with_reducible refine' wDropX_of ?_ | with_reducible refine' wSetX_of ?_ | with_reducible refine' wRetX_of ?_ | with_reducible refine' wRaise_of ?_ | with_reducible refine' wTry_of ?_))
/-! ### is_choice, is_move, over any value -/
def chB (row : List (Option Int)) : Dt → Bool
  | .non => decide (none ∈ row)
  | .int i => decide (some i ∈ row)
  | _ => false
def mvB (hs : List HD) (wl : List Str) (xs : List Int) : Dt → Bool
  | .tup [.str z, .tup ks] => (nameB (.str z) && decide (z ∈ wl)) && (decide (ks.length = hs.length) && (ks.zip (rowsD hs xs z)).all fun p => chB p.2 p.1)
  | _ => false
/-- what may be asked of a move -/
def MvTy (d : Dt) : Prop := Ty d ∧ ∀ ds, d = .tup ds → ds.length ≤ 1000 ∧ ∀ w n, ds = [w, n] → NameIn w ∧ Ty1 n
theorem pss_dead {X : Cx} {l : List Stmt} : PSs X l (fun _ _ _ => False) := ⟨fun _ _ _ _ _ _ h => h.elim⟩
section
variable {P : Program} {w : World} {K : PySem.W.Frag} {mg : Str → Option Value} {base : Heap} {TT : List NdefX.NTab} {C CS : Addr}
def wIsChA : List Dt → (Dt → Prop) → Prop := fun ds P => ∃ d row, ds = [d, dLn row] ∧ Ty d ∧ P (.bl (chB row d))
def wIsMvA (C CS : Addr) : List Dt → (Dt → Prop) → Prop := fun ds P => ∃ hs dl wl xs d, ds = [dSys C CS hs dl wl, dIs xs, d] ∧ SyIn hs xs wl ∧ MvTy d ∧ P (.bl (mvB hs wl xs d))
end
end KX
/-! A class in a variable is called; a classmethod is called of its class. -/
namespace UL
open PySem PySem.Spec PyProof.Rows L2
/-- x(..), x a variable that holds the class C -/
def tMakeV (i : Nat) (C : Addr) (sp : Sp) (dvs : List V) (E : XK) (t : TA) : TE := fun σ H Q => σ[i]? = some (some (.ref C)) ∧ tMake C sp dvs E t σ H Q
section
variable {X : Cx} {CX : CXT} {k : Nat} {f C g : Addr} {fd : FuncData} {ps : List Str} {sp : Sp} {dvs : List V} {ds : List Value} {E : XK} {x : Str} {p pos : Pos} {e : Expr} {es : List Expr} {t : TA}
end
section
variable {K : PySem.W.Frag} {T : List NdefX.NTab} {S : Sl} {m m1 : Bool} {C : Addr} {tr ta : TA} {u : WA}
def wMakeV (i : Nat) (C : Addr) (w : List Dt → (Dt → Prop) → Prop) (u : WA) : WE := fun ρ P => ρ[i]? = some (some (.val (.ref C))) ∧ u ρ fun ds => w ds P
end
end UL
/-! UL: a def with defaults that may raise; C(..) whose __init__ raises -/
namespace UL
open PySem PySem.Spec PyProof.Rows L2
section
variable {K : PySem.W.Frag} {T : List NdefX.NTab} {W : WX} {SL S S' S1 : Sl} {m m' m1 m2 s : Bool} {te ta tb : TE} {t u : WE} {tx : WEX} {C C1 C' : Ct} {σ : L2.St} {H H' H1 : Hp} {ρ : Env} {ts ts1 : TS} {w w' : WS} {XO : XOut}
variable {P : Program} {w0 : World} {mg : Str → Option Value} {base : Heap}
/-- C(..) that raises -/
theorem sex_makeX {CC : Addr} {tr : TA} {ua : WA} {wd : List Dt → (Dt → Prop) → (Xn → Prop) → Prop} (h : SA K T S m tr ua) : SEX K T W S m (VX.tMakeSD CC (spX K T wd) [] (L2.WE W) tr) (fun ρ _ PX => ua ρ fun ds => wd (.obj CC [] [] :: ds) (fun _ => False) PX) := fun C ρ P PX σ H Q hC ht E q qx => by
  refine h C ρ _ σ H _ hC ht E fun ds vs H1 h1 g1 r1 => ?_
  intro x dx hx hdx ne
  rw [List.append_nil]
  have E1 := E.gr g1
  have t1 := E1.tab
  rw [hC.T] at t1
  have hx1 : (upd H1 dx (.own x)) x = none := by rw [upd_ne ne.symm]; exact hx
  have m10 : Same H1 (upd (upd H1 dx (.own x)) x (.ins CC dx [])) := (same_up hdx).trans (same_up hx1)
  refine ⟨C.ok, .obj CC [] [] :: ds, fun _ => False, PX, t1.ext m10, .cons (.obj upd_same rfl (fun _ _ => rfl) .nil) (r1.same m10), h1, fun d v H2 hp => hp.elim, fun y cls dd H2 hp k r2 => ?_⟩
  refine qx y cls dd H2 hp (gr_andE g1 (by rw [hC.T]; exact (Ex.of m10).trans k)) (r2.okm fun a _ z => z.elim id fun z => E1.freshF ((Ex.of (T := T) m10).fre z))
end
end UL
/-! C.m(..), m a classmethod that may raise. -/
namespace ClX
open PySem PySem.Spec PyProof.Rows L2
section
variable {X : Cx} {CX : CXT} {k : Nat} {C p g : Addr} {mc : Value} {m : Str} {sp : Sp} {E : L2.St → XK} {pos apos : Pos} {e o : Expr} {es : List Expr} {ta : TE} {t : TA} {pins : List (Addr × Obj)} {σ : L2.St} {H : Hp} {s : Shared}
def tCMethSD (C : Addr) (sp : Sp) (E : L2.St → XK) (ta : TE) (t : TA) : TE := fun σ H Q => ta σ H fun x H1 => x = .ref C ∧ t σ H1 fun vs H2 => sp (.ref C :: vs) H2 Q (E σ)
end
end ClX
namespace UL
open PySem PySem.Spec PyProof.Rows L2
section
variable {K : PySem.W.Frag} {T : List NdefX.NTab} {S : Sl} {m : Bool} {W : WX} {tr : TA} {u : WA} {C : Addr}
end
end UL
namespace KX
open PySem PySem.Spec PyProof.Rows L2 UL
local macro_rules | `(tactic| walk_at "u") => `(tactic| repeat (first | ((with_reducible refine' wVar_of ?ke ?_); (case ke => rfl)) | with_reducible refine' wC_of ?_ | with_reducible refine' wB_of ?_ | with_reducible refine' wAnd_of ?_ | with_reducible refine' wOr_of ?_ | with_reducible refine' wNot_of ?_ | with_reducible refine' w2_of ?_ | with_reducible refine' w1_of ?_ | with_reducible refine' wCons_of ?_ | with_reducible refine' wNil_of ?_ | ((with_reducible refine' kIxT_of ?ke ?_); (case ke => rfl)) | with_reducible refine' wSeq_of ?_ | with_reducible refine' wSet_of ?_ | ((with_reducible refine' wSetF_of ?ke ?_); (case ke => rfl)) | ((with_reducible refine' wRetO_of ?ke ?_); (case ke => rfl)) | ((with_reducible refine' wSetNew_of ?hs ?_); (case hs => rfl)) | ((with_reducible refine' wPutN_of ?he ?_); (case he => rfl)) | ((with_reducible refine' wPutI_of ?he ?_); (case he => rfl)) | ((with_reducible refine' wApp_of ?ke ?_); (case ke => rfl)) | with_reducible refine' wRet_of ?_ | with_reducible refine' wRetF_of ?_ | with_reducible refine' wIfS_of ?_ | with_reducible refine' wForS_of ?_ | with_reducible refine' wItemsL_of ?_ | with_reducible refine' wItemsT_of ?_ | with_reducible refine' wLc_of ?_ | with_reducible refine' wAndV_of ?_ | with_reducible refine' wOrV_of ?_ | with_reducible refine' wNotV_of ?_ | with_reducible refine' wIf_of ?_ | with_reducible refine' wGet2_of ?_ | with_reducible refine' wChain_of ?_ | with_reducible refine' wExpr_of ?_ | with_reducible refine' kLenL_of ?_ | with_reducible refine' kLenT_of ?_ | ((with_reducible refine' kFld_of ?ke ?_); (case ke => rfl)) | with_reducible refine' wLc2_of ?_ | with_reducible refine' wNext_of ?_ | ((with_reducible refine' kZip2_of ?k1 ?k2 ?_); (case k1 => rfl); (case k2 => rfl)) | ((with_reducible refine' kZip3_of ?k1 ?k2 ?k3 ?_); (case k1 => rfl); (case k2 => rfl); (case k3 => rfl)) | with_reducible refine' kEnumT_of ?_ | with_reducible refine' wPart_of ?_ | with_reducible refine' wNoPart_of ?_ | with_reducible refine' kTupOfL_of ?_ | with_reducible refine' wEndP_of ?_ | ((with_reducible refine' wNewP_of ?ke ?_); (case ke => rfl)) | with_reducible refine' kI_of ?_ | ((with_reducible refine' wRev_of ?ke ?_); (case ke => rfl)) | with_reducible refine' kNeI_of ?_ | with_reducible refine' kEqI_of ?_ | with_reducible refine' kNeS_of ?_ | with_reducible refine' kEqS_of ?_ | with_reducible refine' wDropX_of ?_ | with_reducible refine' wSetX_of ?_ | with_reducible refine' wRetX_of ?_ | with_reducible refine' wRaise_of ?_ | with_reducible refine' wTry_of ?_ | with_reducible refine' wSlT_of ?_ | with_reducible refine' wSlQ_of ?_ | with_reducible refine' kNeg_of ?_ | with_reducible refine' kLenQ_of ?_ | with_reducible refine' kLstT_of ?_ | with_reducible refine' kLstL_of ?_ | ((with_reducible refine' wSetNewK_of ?hs ?_); (case hs => rfl)) | ((with_reducible refine' wPutK_of ?he ?_); (case he => rfl)) | ((with_reducible refine' wIns_of ?he ?_); (case he => rfl)) | ((with_reducible refine' wPop_of ?he ?_); (case he => rfl))))
section
variable {P : Program} {w : World} {K : PySem.W.Frag} {mg : Str → Option Value} {base : Heap} {TT : List NdefX.NTab} {C CS : Addr} {T : TbC} {H H' : Hp}
def azB (c : Nat) : Bool := decide (97 ≤ c) && decide (c ≤ 122)
def spIsNameB : Sp := fun vs H Q _ => ∃ z : Str, vs = [.str z] ∧ 1 ≤ z.length ∧ z.length ≤ 12 ∧ ∀ H', Same H H' → Q (.bl (z.cps.toList.all azB)) H'
theorem ok_isnameB {f : Addr} {fd : FuncData} (F : Fun K "is_name" "is_name" s_is_name f fd) (B : Blt mg) (N : Kin mg) : FnOk P w K mg base CX0 1 f fd ["value"] spIsNameB := by
  obtain ⟨t12, e12⟩ := N.letters
  refine F.ok sc_isname (fun vs H Q E h => ?_) (fun cdv A outer s H vs Q E hr h => ?_)
  · obtain ⟨z, rfl, _⟩ := h
    rfl
  · obtain ⟨z, rfl, z1, z12, q⟩ := h
    refine ⟨_, pss_cons (ps_if (PW.pt (pw_or (pt_not (pt_val (pe_callB call_isi (by rfl) B.isinstance (by decide +kernel) (pa_cons (pv 0) (pa_cons (pe_bltn rfl N.str (by decide +kernel) (v := .ty "str") rfl) pa_nil)))))
        (pw_or1 (pt_not (pt_chain op_le op_le pe_int (pe_callB call_len_str (by rfl) B.len PySem.boot_len (pa_cons (pv 0) pa_nil)) (pe_glob rfl e12 (v := .int 12) ⟨_, rfl⟩)))))) (pss_one (ps_ret pe_bl)) pss_nil)
      (pss_one (ps_ret (pe_callB (cr_all rfl) (by rfl) B.all (by decide +kernel) (pa_cons (pe_lc (own := [("letter", 1)]) (g := gName 1) (tt := tYes) rfl sc_isname.nd (pi_str (pv 0)) (blkOk_by (N := ["value", "letter"]) (sc := defScope s_is_name) (by decide +kernel))
        (fun _ _ _ _ _ => pg_name (i := 1) sc_isname.nd rfl (.inl rfl)) (fun _ _ _ _ _ => pts_nil) (fun _ _ _ _ _ => pe_chain op_le_str op_le_str pe_str (pv 1) pe_str)) pa_nil)))), ?_⟩
    have lz : z.length ≤ sizeLine := by
      rw [sizeLine_eq]
      omega
    have l1 : (1 : Int) ≤ (z.length : Nat) := by omega
    have l2 : ((z.length : Nat) : Int) ≤ 12 := by omega
    refine ⟨_, rfl, _, _, _, _, true, rfl, .ty "str", .base (.str z), kit_ty (by decide +kernel), true, rfl, ?_⟩
    refine ⟨_, rfl, z, rfl, lz, _, _, rfl, rfl, _, rfl, ?_⟩
    rw [decide_eq_true l1]
    refine ⟨_, _, rfl, rfl, _, rfl, ?_⟩
    show if (!decide (((z.length : Nat) : Int) ≤ 12)) = true then _ else _
    rw [decide_eq_true l2]
    -- all([..])
    refine ⟨_, rfl, z, rfl, fun D hD => ?_⟩
    refine lc_it walk_str (fun i H3 => ∃ bs : List Bool, H3 D = some (.lst (bs.map V.bl)) ∧ bs.all id = (z.cps.toList.take i).all azB ∧ bs.length = i ∧ Same H H3) ⟨[], upd_same, by rw [List.take_zero]; rfl, rfl, fun b o e => by rw [upd_ne (ne_of_none e hD)]; exact e⟩ (fun _ _ _ _ => True.intro) ?_ ?_
    · rintro i x H3 H4 hi ⟨bs, hD3, hall, hl, s3⟩ ⟨rfl, c, hc, rfl⟩
      have ec : z.cps.toList[i]? = some c := by rw [Array.getElem?_toList]; exact hc
      have hsz : bs.length ≤ 12 := by
        have : i < z.cps.size := (Array.getElem?_eq_some_iff.mp hc).1
        have e : z.length = z.cps.size := rfl
        omega
      have fin : ∀ b : Bool, b = azB c → ∃ bs' : List Bool, (upd H4 D (.lst (bs.map V.bl ++ [V.bl b]))) D = some (.lst (bs'.map V.bl)) ∧ bs'.all id = (z.cps.toList.take (i + 1)).all azB ∧ bs'.length = i + 1 ∧ Same H (upd H4 D (.lst (bs.map V.bl ++ [V.bl b]))) := fun b eb =>
        ⟨bs ++ [b], by rw [upd_same, List.map_append]; rfl, by rw [List.all_append, hall, List.take_add_one, ec, List.all_append, eb]; simp, by rw [List.length_append, hl]; rfl, fun b' o e => by
          rw [upd_ne (ne_of_none e hD)]
          exact s3 b' o e⟩
      refine ⟨rfl, _, rfl, _, _, rfl, rfl, _, rfl, ?_⟩
      have ea : ("a" : Str).cps.toList = [97] := by decide +kernel
      have ez : ("z" : Str).cps.toList = [122] := by decide +kernel
      have lt1 : ∀ {a b : Nat}, a < b → ([a] : List Nat) < [b] := fun h => List.Lex.rel h
      rw [show ((⟨#[c]⟩ : Str).cps.toList) = [c] from rfl, ea]
      have sm : (bs.map V.bl).length < sizeLine := small1000 (by rw [List.length_map]; omega)
      by_cases h1 : 97 ≤ c
      · rw [decide_eq_false (not_lt1 h1)]
        refine ⟨_, _, rfl, rfl, ?_⟩
        rw [show ((⟨#[c]⟩ : Str).cps.toList) = [c] from rfl, ez]
        by_cases h2 : c ≤ 122
        · rw [decide_eq_false (not_lt1 h2)]
          exact ⟨_, hD3, sm, fin true (by unfold azB; rw [decide_eq_true h1, decide_eq_true h2]; rfl)⟩
        · rw [decide_eq_true (lt1 (by omega))]
          exact ⟨_, hD3, sm, fin false (by unfold azB; rw [decide_eq_true h1, decide_eq_false h2]; rfl)⟩
      · rw [decide_eq_true (lt1 (by omega))]
        exact ⟨_, hD3, sm, fin false (by unfold azB; rw [decide_eq_false h1]; rfl)⟩
    · rintro H3 ⟨bs, hD3, hall, hl, s3⟩
      refine ⟨D, bs, rfl, .inl (.inl hD3), ?_⟩
      have e : z.cps.toList.take z.cps.size = z.cps.toList := List.take_of_length_le (Nat.le_of_eq Array.length_toList)
      rw [hall]
      have := q H3 s3
      rwa [← e] at this
def nmB : Dt → Bool
  | .str z => (decide (1 ≤ z.length) && decide (z.length ≤ 12)) && z.cps.toList.all azB
  | _ => false
def wNameG : List Dt → (Dt → Prop) → Prop := fun ds P => ∃ d, ds = [d] ∧ Ty d ∧ (∀ z, d = .str z → z.length ≤ sizeLine) ∧ P (.bl (nmB d))
theorem nameOk_b {z : Str} (h : NameOk z) : nmB (.str z) = true := by
  have h1 := h.lo
  have h2 := h.hi
  rw [Array.length_toList] at h1 h2
  show ((decide (1 ≤ z.cps.size) && decide (z.cps.size ≤ 12)) && z.cps.toList.all azB) = true
  rw [decide_eq_true h1, decide_eq_true h2, Bool.and_self, Bool.true_and, List.all_eq_true]
  intro c hc
  obtain ⟨a, b⟩ := h.az c hc
  unfold azB
  rw [decide_eq_true a, decide_eq_true b]
  rfl
theorem ok_nameG {f : Addr} {fd : FuncData} (F : Fun K "is_name" "is_name" s_is_name f fd) (B : Blt mg) (N : Kin mg) : FnOk P w K mg base CX0 1 f fd ["value"] (spU K TT wNameG) := by
  refine (fnOr (ok_isnameB F B N) (ok_noname (TT := TT) F B N)).imp fun vs H Q E ⟨ok, ds, P, T1, r, ⟨d, ed, ht, hl, h⟩, q⟩ => ?_
  by_cases hg : ∃ z, d = .str z ∧ 1 ≤ z.length ∧ z.length ≤ 12
  · obtain ⟨z, rfl, h1, h2⟩ := hg
    subst ed
    cases r with
    | cons r0 t =>
      cases t
      have e : nmB (.str z) = z.cps.toList.all azB := by
        show ((decide (1 ≤ z.length) && decide (z.length ≤ 12)) && z.cps.toList.all azB) = _
        rw [decide_eq_true h1, decide_eq_true h2]
        rfl
      rw [e] at h
      exact .inl ⟨z, by rw [R.strE r0], h1, h2, fun H' k => q _ _ H' h (.of k) (.bl _)⟩
  · refine .inr ⟨ok, ds, P, T1, r, ⟨d, ed, ht, fun z e => ⟨?_, hl z e⟩, ?_⟩, q⟩
    · by_cases h1 : 1 ≤ z.length
      · by_cases h2 : z.length ≤ 12
        · exact absurd ⟨z, e, h1, h2⟩ hg
        · exact .inr (by omega)
      · exact .inl (by omega)
    · have : nmB d = false := by
        cases d with
        | str z =>
          show ((decide (1 ≤ z.length) && decide (z.length ≤ 12)) && z.cps.toList.all azB) = false
          by_cases h1 : 1 ≤ z.length
          · by_cases h2 : z.length ≤ 12
            · exact absurd ⟨z, rfl, h1, h2⟩ hg
            · rw [decide_eq_false h2, Bool.and_false, Bool.false_and]
          · rw [decide_eq_false h1, Bool.false_and, Bool.false_and]
        | _ => rfl
      rwa [this] at h
def NotRow (K : PySem.W.Frag) (d : Dt) : Prop := ∃ t, HasTy K d t ∧ PySem.W.kitAny K t (["list", "tuple"].map Value.type) = some false
def wRowG (K : PySem.W.Frag) : List Dt → (Dt → Prop) → Prop := fun ds P => ∃ d t b, ds = [d] ∧ HasTy K d t ∧ PySem.W.kitAny K t (["list", "tuple"].map Value.type) = some b ∧ P (.bl b)
theorem row_lst {es : List Dt} {P : Dt → Prop} (h : P (.bl true)) : wRowG K [.lst es] P := ⟨_, _, _, rfl, .ty (n := "list") rfl, kAny_ty (by decide +kernel), h⟩
theorem row_tup {es : List Dt} {P : Dt → Prop} (h : P (.bl true)) : wRowG K [.tup es] P := ⟨_, _, _, rfl, .ty (n := "tuple") rfl, kAny_ty (by decide +kernel), h⟩
theorem sc_rowG : FnScope ["value"] ["value"] (defScope s_is_row) := ⟨rfl, rfl, rfl, by decide +kernel, rfl, by decide +kernel, by decide +kernel⟩
theorem ok_rowG {f : Addr} {fd : FuncData} (F : Fun K "is_row" "is_row" s_is_row f fd) (B : Blt mg) : FnOk P w K mg base CX0 1 f fd ["value"] (spU K TT (wRowG K)) := by
  refine fn_u F sc_rowG (by decide) (fun ds Q ⟨_, _, _, e, _⟩ => by rw [e]; rfl) fun cdv A outer s H E hr => ?_
  refine ⟨_, _, ([], []), ([], []), (pss_one (ps_ret (pe_callB call_isiT (by rfl) B.isinstance (by decide +kernel) (pa_cons (pv 0) (pa_cons (pe_tup (pa_cons (pe_bltn rfl B.list (by decide +kernel) (v := .ty "list") rfl) (pa_cons (pe_bltn rfl B.tuple (by decide +kernel) (v := .ty "tuple") rfl) pa_nil))) pa_nil))))), (ss_ret (se_isTG ["list", "tuple"] (by decide) (se_var 0))), ?_⟩
  rintro ds P ⟨d, t, b, rfl, h1, h2, q⟩
  walk_at "u"
  exact ⟨t, b, h1, h2, q⟩
end
end KX
/-! UL: xs.insert(i, y), xs.pop(), xs.insert(0, xs.pop()), xs an own list -/
namespace UL
open PySem PySem.Spec PyProof.Rows L2
abbrev rIns_ : V → List V → Hp → VK → Prop := fun x vs H Q => ∃ (l : Addr) (xs : List V) (i : Int) (y : V), x = .ref l ∧ vs = [.int i, y] ∧ H l = some (.lst xs) ∧ xs.length < sizeLine ∧ 0 ≤ i ∧ i < 2 ^ 63 ∧ Q .non (upd H l (.lst (xs.take i.toNat ++ [y] ++ xs.drop i.toNat)))
section
variable {K : PySem.W.Frag} {T : List NdefX.NTab} {SL S S' S1 : Sl} {m m' m1 m2 m3 s : Bool} {te ta tb : TE} {t u : WE} {C C1 C' : Ct} {σ : L2.St} {H H' H1 : Hp} {ρ : Env} {ts ts1 : TS} {w w' : WS} {XO : XOut}
def insD (ds : List Dt) (k : Int) (d : Dt) : List Dt := ds.take k.toNat ++ [d] ++ ds.drop k.toNat
def wIns (i : Nat) (t u : WE) : WS := fun ρ P => match ρ[i]? with
  | some (some (.lst ds)) => t ρ fun a => u ρ fun d => match a with
    | .int k => 0 ≤ k ∧ k < 2 ^ 62 ∧ ds.length < 100000 ∧ P (.nx (ρ.set i (some (.lst (insD ds k d)))))
    | _ => False
  | _ => False
theorem wIns_of {i : Nat} {ds : List Dt} {P : Out → Prop} (e : ρ[i]? = some (some (.lst ds))) (h : t ρ fun a => u ρ fun d => match a with
    | .int k => 0 ≤ k ∧ k < 2 ^ 62 ∧ ds.length < 100000 ∧ P (.nx (ρ.set i (some (.lst (insD ds k d)))))
    | _ => False) : wIns i t u ρ P := by
  unfold wIns
  rw [e]
  exact h
/-- xs.pop(), xs not empty -/
def wPop (i : Nat) : WS := fun ρ P => match ρ[i]? with
  | some (some (.lst ds)) => ds ≠ [] ∧ P (.nx (ρ.set i (some (.lst ds.dropLast))))
  | _ => False
theorem Rs.dropLast {ok : Addr → Prop} {ds : List Dt} {vs : List V} (h : Rs K ok H ds vs) : Rs K ok H ds.dropLast vs.dropLast := by
  rw [List.dropLast_eq_take, List.dropLast_eq_take, h.len]
  exact h.take _
theorem wPop_of {i : Nat} {ds : List Dt} {P : Out → Prop} (e : ρ[i]? = some (some (.lst ds))) (h : ds ≠ [] ∧ P (.nx (ρ.set i (some (.lst ds.dropLast))))) : wPop i ρ P := by
  unfold wPop
  rw [e]
  exact h
/-- xs.insert(0, xs.pop()) -/
def wTurn (i : Nat) : WS := fun ρ P => match ρ[i]? with
  | some (some (.lst ds)) => ∃ es d, ds = es ++ [d] ∧ ds.length < 100000 ∧ P (.nx (ρ.set i (some (.lst (d :: es)))))
  | _ => False
end
end UL
/-! == and != of lists of small things, empty dicts among them; the answer when they are equal -/
namespace GQ
open PySem PySem.SeqAt
open AutoSeq1 (wpAny_loadPart')
open MeetsSeq MeetsSeq2 MeetsSeq3 SeqRoads2
section
variable {prog : Program} {w : World} {A : Around} {R : Result → Shared → Prop}
end
section
variable {prog : Program} {w : World} {A : Around} {E : Value → Shared → Prop} {s : Shared}
end
end GQ
namespace L2
open PySem PySem.Spec PyProof.Rows
section
variable {X : Cx} {n m : Nat} {D D' : Eqv}
def DE0 : Eqv := fun x y H => ∃ a b : Addr, x = .ref a ∧ y = .ref b ∧ H a = some (.dT []) ∧ H b = some (.dT [])
def rNeG (D : Eqv) : R2 := fun x y H Q => DList D x y H ∧ ∀ H', Ext H H' → Q (.bl false) H'
end
end L2
namespace UL
open PySem PySem.Spec PyProof.Rows L2
/-- small data -/
def SmD : Nat → Dt → Prop
  | 0, _ => False
  | n + 1, .lst ds => ds.length ≤ 1000 ∧ ∀ x ∈ ds, SmD n x
  | n + 1, .tup ds => ds.length ≤ 1000 ∧ ∀ x ∈ ds, SmD n x
  | _ + 1, .dct ks ds => ks = [] ∧ ds = []
  | _ + 1, .non => True
  | _ + 1, .bl _ => True
  | _ + 1, .int _ => True
  | _ + 1, .str _ => True
  | _, _ => False
theorem SmD.up {n : Nat} : ∀ {d : Dt}, SmD n d → SmD (n + 1) d := by
  induction n with
  | zero => exact fun h => h.elim
  | succ n ih =>
    intro d h
    cases d with
    | lst ds => exact ⟨h.1, fun x hx => ih (h.2 x hx)⟩
    | tup ds => exact ⟨h.1, fun x hx => ih (h.2 x hx)⟩
    | _ => exact h
section
variable {K : PySem.W.Frag} {T : List NdefX.NTab} {S : Sl} {X : Cx}
def DSm (K : PySem.W.Frag) (n : Nat) : Eqv := fun x y H => ∃ (o1 o2 : Addr → Prop) (d : Dt), SmD n d ∧ R K o1 H d x ∧ R K o2 H d y
/-- != of two lists of small things that are equal -/
abbrev rNeS (K : PySem.W.Frag) (n : Nat) : R2 := rNeG (DSm K n)
def kNeS_ (n : Nat) : Dt → Dt → (Dt → Prop) → Prop := fun a b P => ∃ ds, a = .lst ds ∧ b = .lst ds ∧ (∀ x ∈ ds, SmD n x) ∧ P (.bl false)
/-- == of the same -/
abbrev rEqS (K : PySem.W.Frag) (n : Nat) : R2 := rEqG (DList (DSm K n))
def kEqS_ (n : Nat) : Dt → Dt → (Dt → Prop) → Prop := fun a b P => ∃ ds, a = .lst ds ∧ b = .lst ds ∧ (∀ x ∈ ds, SmD n x) ∧ P (.bl true)
end
end UL
/-! UL: xs[i] = v of an own list; a tuple compared with an empty one; len(set(texts)). -/
namespace UL
open PySem PySem.Spec PyProof.Rows L2
section
variable {X : Cx}
/-- != with an empty tuple -/
def rNeT0 (K : PySem.W.Frag) : R2 := fun x y H Q => ∃ (a b : Addr) (us : List V), x = .ref a ∧ y = .ref b ∧ SqT K H a us ∧ SqT K H b [] ∧ Q (.bl (!us.isEmpty)) H
/-- len(set(texts)): how many different ones -/
def rLenT (w : World) : List V → Hp → VK → Prop := fun vs H Q => ∃ (a : Addr) (S : Str → Bool) (n : Nat), vs = [V.ref a] ∧ H a = some (VT.SetTO w a S n) ∧ ∀ ks : List Str, ks.Nodup → (∀ z, z ∈ ks ↔ S z = true) → Q (.int (ks.length : Nat)) H
theorem cr_lenT : CallR X (.builtin "len") (rLenT X.w) := by
  intro pins s σ H vs us Q I r h
  obtain ⟨a, S, n, rfl, ha, q⟩ := h
  rw [Vals.ref1 r]
  obtain ⟨o, es, ep, t, h1, h2, h3, h4, h5, h6, h7, h8, h9, _⟩ := VT.setTO_get I ha
  have hl : (es.toList.map VT.keyT).length = es.size := by rw [List.length_map, Array.length_toList]
  have q := q _ h5 fun z => (h6 z).symm
  rw [hl] at q
  exact call_len_set h1 h2 h3 h8 (by unfold scanBound at h7; omega) ⟨.int es.size, H, I.tok _, ⟨_, rfl⟩, q⟩
end
section
variable {K : PySem.W.Frag} {T : List NdefX.NTab} {SL S S' S1 : Sl} {m m' m1 m2 m3 s : Bool} {te ta tb : TE} {t u : WE} {C C1 C' : Ct} {σ : L2.St} {H H' H1 : Hp} {ρ : Env} {ts ts1 : TS} {w w' : WS} {XO : XOut}
def kNeT0 : Dt → Dt → (Dt → Prop) → Prop
  | .tup ds, .tup [], P => P (.bl (!ds.isEmpty))
  | _, _, _ => False
def kLenSet : Dt → (Dt → Prop) → Prop
  | .lst ds, P => ∃ zs, Dt.strs ds = some zs ∧ zs.length < 1000 ∧ ∀ ks : List Str, ks.Nodup → (∀ z, z ∈ ks ↔ z ∈ zs) → P (.int (ks.length : Nat))
  | _, _ => False
theorem se_lenSet {wd : World} (ha : SB K T S m ta t) : SE K T S m (tCB (rLenT wd) (tCons (tCB (VT.rSetT wd K) (tCons ta tNil)) tNil)) (w1 kLenSet t) := fun C ρ P σ H Q hC ht E q => by
  refine ha C ρ _ σ H _ hC ht E fun a x H1 h1 g1 r1 => ?_
  cases a <;> first | exact h1.elim | skip
  obtain ⟨zs, e, hl, h1⟩ := h1
  obtain ⟨a, us, rfl, e1, _, t⟩ := r1
  refine ⟨a, zs, rfl, by rw [← t.strs e]; exact .of e1, by unfold scanBound; omega, fun D n hD hn => ?_⟩
  refine ⟨D, _, n, rfl, upd_same, fun ks nd hk => ?_⟩
  exact q _ _ _ (h1 ks nd fun z => by rw [hk z]; simp) (gr_and g1 (same_up hD)) (.int _)
/-- xs[k] = v -/
def wPutI (i : Nat) (t u : WE) : WS := fun ρ P => match ρ[i]? with
  | some (some (.lst ds)) => u ρ fun d => t ρ fun a => match a with
    | .int k => 0 ≤ k ∧ k < (ds.length : Nat) ∧ P (.nx (ρ.set i (some (.lst (ds.set k.toNat d)))))
    | _ => False
  | _ => False
theorem Rs.set {ok : Addr → Prop} {d : Dt} {v : V} (h1 : R K ok H d v) : ∀ {ds : List Dt} {vs : List V} (n : Nat), Rs K ok H ds vs → Rs K ok H (ds.set n d) (vs.set n v)
  | _, _, _, .nil => .nil
  | _, _, 0, .cons _ t => .cons h1 t
  | _, _, n + 1, .cons h t => .cons h (Rs.set h1 n t)
theorem ss_putI (i : Nat) (hu : SE K T S m1 te u) (ht0 : SE K T S m2 ta t) (hi : i ∈ S.1 := by decide) : SS K T XO SL S S (tAsg te (gSub (tVar i) ta rSetL)) (wPutI i t u) := fun C ρ P σ H D hC ht E own q => by
  have hi' : i ∈ C.O := by rw [hC.1]; exact hi
  unfold wPutI at ht
  split at ht
  case h_2 => exact ht.elim
  rename_i ds e1
  refine hu C ρ _ σ H _ hC ht E fun d v H1 h1 g1 r1 => ?_
  have E1 := E.gr g1
  obtain ⟨us1, e2, e3, r0⟩ := E1.ownL hi' e1
  refine ⟨_, e2, ?_⟩
  refine ht0 C ρ _ σ H1 _ hC h1 E1 fun a va H2 h2 g2 r2 => ?_
  have E2 := E1.gr g2
  cases a <;> first | exact h2.elim | skip
  rename_i k
  obtain ⟨k0, k1, h2⟩ := h2
  obtain ⟨us, d2, d3, r3⟩ := E2.ownL hi' e1
  have r1' := r1.mv (g2.mv E1)
  refine ⟨C.A i, us, k, k.toNat, rfl, R.intE r2, d3, ?_, ?_⟩
  · have : us.length = ds.length := r3.len
    unfold ixN
    rw [if_pos k0, if_pos (by omega)]
  obtain ⟨E3, kk⟩ := E2.put (es := ds.set k.toNat d) (vs := us.set k.toNat v) hi' (Rs.set r1' _ r3)
  exact q _ h2 C σ _ hC .refl E3 own (((g1.mv E).trans (g2.mv E1)).trans (.of kk))
theorem wPutI_of {i : Nat} {ds : List Dt} {P : Out → Prop} (e : ρ[i]? = some (some (.lst ds))) (h : u ρ fun d => t ρ fun a => match a with
    | .int k => 0 ≤ k ∧ k < (ds.length : Nat) ∧ P (.nx (ρ.set i (some (.lst (ds.set k.toNat d)))))
    | _ => False) : wPutI i t u ρ P := by
  unfold wPutI
  rw [e]
  exact h
end
end UL
namespace KX
open PySem PySem.Spec PyProof.Rows L2 UL
local macro_rules | `(tactic| walk_at "u") => `(tactic| repeat (first | ((with_reducible refine' wVar_of ?ke ?_); (case ke => rfl)) | with_reducible refine' wC_of ?_ | with_reducible refine' wB_of ?_ | with_reducible refine' wAnd_of ?_ | with_reducible refine' wOr_of ?_ | with_reducible refine' wNot_of ?_ | with_reducible refine' w2_of ?_ | with_reducible refine' w1_of ?_ | with_reducible refine' wCons_of ?_ | with_reducible refine' wNil_of ?_ | ((with_reducible refine' kIxT_of ?ke ?_); (case ke => rfl)) | with_reducible refine' wSeq_of ?_ | with_reducible refine' wSet_of ?_ | ((with_reducible refine' wSetF_of ?ke ?_); (case ke => rfl)) | ((with_reducible refine' wRetO_of ?ke ?_); (case ke => rfl)) | ((with_reducible refine' wSetNew_of ?hs ?_); (case hs => rfl)) | ((with_reducible refine' wPutN_of ?he ?_); (case he => rfl)) | ((with_reducible refine' wPutI_of ?he ?_); (case he => rfl)) | ((with_reducible refine' wApp_of ?ke ?_); (case ke => rfl)) | with_reducible refine' wRet_of ?_ | with_reducible refine' wRetF_of ?_ | with_reducible refine' wIfS_of ?_ | with_reducible refine' wForS_of ?_ | with_reducible refine' wItemsL_of ?_ | with_reducible refine' wItemsT_of ?_ | with_reducible refine' wLc_of ?_ | with_reducible refine' wAndV_of ?_ | with_reducible refine' wOrV_of ?_ | with_reducible refine' wNotV_of ?_ | with_reducible refine' wIf_of ?_ | with_reducible refine' wGet2_of ?_ | with_reducible refine' wChain_of ?_ | with_reducible refine' wExpr_of ?_ | with_reducible refine' kLenL_of ?_ | with_reducible refine' kLenT_of ?_ | ((with_reducible refine' kFld_of ?ke ?_); (case ke => rfl)) | with_reducible refine' wLc2_of ?_ | with_reducible refine' wNext_of ?_ | ((with_reducible refine' kZip2_of ?k1 ?k2 ?_); (case k1 => rfl); (case k2 => rfl)) | ((with_reducible refine' kZip3_of ?k1 ?k2 ?k3 ?_); (case k1 => rfl); (case k2 => rfl); (case k3 => rfl)) | with_reducible refine' kEnumT_of ?_ | with_reducible refine' wPart_of ?_ | with_reducible refine' wNoPart_of ?_ | with_reducible refine' kTupOfL_of ?_ | with_reducible refine' wEndP_of ?_ | ((with_reducible refine' wNewP_of ?ke ?_); (case ke => rfl)) | with_reducible refine' kI_of ?_ | ((with_reducible refine' wRev_of ?ke ?_); (case ke => rfl)) | with_reducible refine' kNeI_of ?_ | with_reducible refine' kEqI_of ?_ | with_reducible refine' kNeS_of ?_ | with_reducible refine' kEqS_of ?_ | with_reducible refine' wDropX_of ?_ | with_reducible refine' wSetX_of ?_ | with_reducible refine' wRetX_of ?_ | with_reducible refine' wRaise_of ?_ | with_reducible refine' wTry_of ?_ | with_reducible refine' wSlT_of ?_ | with_reducible refine' wSlQ_of ?_ | with_reducible refine' kNeg_of ?_ | with_reducible refine' kLenQ_of ?_ | with_reducible refine' kLstT_of ?_ | with_reducible refine' kLstL_of ?_ | ((with_reducible refine' wSetNewK_of ?hs ?_); (case hs => rfl)) | ((with_reducible refine' wPutK_of ?he ?_); (case he => rfl)) | ((with_reducible refine' wIns_of ?he ?_); (case he => rfl)) | ((with_reducible refine' wPop_of ?he ?_); (case he => rfl))))
section
variable {P : Program} {w : World} {K : PySem.W.Frag} {mg : Str → Option Value} {base : Heap} {TT : List NdefX.NTab} {C CS : Addr} {T : TbC} {H H' : Hp}
def staB : Dt → Bool
  | .int i => decide (0 ≤ i) && decide (i ≤ 99)
  | _ => false
def wStateI : List Dt → (Dt → Prop) → Prop := fun ds P => ∃ d, ds = [d] ∧ Ty d ∧ P (.bl (staB d))
theorem sc_stateA : FnScope ["value"] ["value"] (defScope s_is_state) := ⟨rfl, rfl, rfl, by decide +kernel, rfl, by decide +kernel, by decide +kernel⟩
theorem ok_stateA {f fW : Addr} {fd fdW : FuncData} (F : Fun K "is_state" "is_state" s_is_state f fd) (B : Blt mg) (N : Kin mg) (DW : Cal K mg "is_whole" s_is_whole ["value"] fW fdW) (GW : FnOk P w K mg base CX0 1 fW fdW ["value"] (spU K TT wWholeA)) : FnOk P w K mg base CX0 2 f fd ["value"] (spU K TT wStateI) := by
  obtain ⟨t99, e99⟩ := N.state
  refine fn_u F sc_stateA (by decide) (fun ds Q ⟨_, e, _⟩ => by rw [e]; rfl) fun cdv A outer s H E hr => ?_
  refine ⟨_, _, ([], []), ([], []), (pss_one (ps_ret (pe_and (pe_call GW (hr.mono (by decide)) (by rfl) DW.g DW.F.kp DW.b .nil pass0 (pa_cons (pv 0) pa_nil)) (pe_one (pe_chain op_le op_le pe_int (pv 0) (pe_glob rfl e99 (v := .int 99) ⟨_, rfl⟩)))))), (ss_ret (se_and (se_call (sa_cons (se_var 0) sa_nil)) (se_chain oS_le oS_le (SE.b (se_int (i := 0))) (SE.b (se_var 0)) (SE.b (se_int (i := 99)))))), ?_⟩
  rintro ds P ⟨d, rfl, td, q⟩
  walk_at "u"
  refine ⟨d, rfl, td, ?_⟩
  cases d with
  | int i =>
    refine iteT ?_
    walk_at "u"
    have q : P (.bl (decide (0 ≤ i) && decide (i ≤ 99))) := q
    by_cases h0 : 0 ≤ i
    · rw [decide_eq_true h0] at q
      show if decide (0 ≤ i) = true then _ else _
      rw [decide_eq_true h0]
      refine iteT ?_
      walk_at "u"
      exact q
    · rw [decide_eq_false h0] at q
      show if decide (0 ≤ i) = true then _ else _
      rw [decide_eq_false h0]
      exact q
  | _ => exact q
def stpB : Dt → Bool
  | .tup [a, b, c] => staB a && (nmB b && staB c)
  | _ => false
/-- data whose parts may be asked whether they are names and states -/
def TyP (d : Dt) : Prop := Ty d ∧ ∀ es, d = .tup es → ∀ x ∈ es, Ty x ∧ ∀ z, x = .str z → z.length ≤ sizeLine
def wStepI : List Dt → (Dt → Prop) → Prop := fun ds P => ∃ d, ds = [d] ∧ TyP d ∧ P (.bl (stpB d))
theorem sc_stepA : FnScope ["value"] ["value"] (defScope s_is_step) := ⟨rfl, rfl, rfl, by decide +kernel, rfl, by decide +kernel, by decide +kernel⟩
theorem ok_stepA {f fS fN : Addr} {fd fdS fdN : FuncData} (F : Fun K "is_step" "is_step" s_is_step f fd) (B : Blt mg) (N : Kin mg) (DS : Cal K mg "is_state" s_is_state ["value"] fS fdS) (DN : Cal K mg "is_name" s_is_name ["value"] fN fdN) (GS : FnOk P w K mg base CX0 2 fS fdS ["value"] (spU K TT wStateI)) (GN : FnOk P w K mg base CX0 1 fN fdN ["value"] (spU K TT wNameG)) : FnOk P w K mg base CX0 3 f fd ["value"] (spU K TT wStepI) := by
  refine fn_u F sc_stepA (by decide) (fun ds Q ⟨_, e, _⟩ => by rw [e]; rfl) fun cdv A outer s H E hr => ?_
  refine ⟨_, _, ([], []), ([], []), (pss_cons (ps_if (PW.pt (pw_or (pt_not (pt_val (pe_callB call_isi (by rfl) B.isinstance (by decide +kernel) (pa_cons (pv 0) (pa_cons (pe_bltn rfl B.tuple (by decide +kernel) (v := .ty "tuple") rfl) pa_nil))))) (pw_or1 (pt_cmpR op_ne (pe_callB call_len_ (by rfl) B.len PySem.boot_len (pa_cons (pv 0) pa_nil)) pe_int (nomark _))))) (pss_one (ps_ret pe_bl)) pss_nil)
      (pss_one (ps_ret (pe_and (pe_call GS (hr.mono (by decide)) (by rfl) DS.g DS.F.kp DS.b .nil pass0 (pa_cons (pe_ix (r := rIx K) ix_seq (pv 0) pe_int (fun _ _ => rfl)) pa_nil)) (pe_and (pe_call GN (hr.mono (by decide)) (by rfl) DN.g DN.F.kp DN.b .nil pass0 (pa_cons (pe_ix (r := rIx K) ix_seq (pv 0) pe_int (fun _ _ => rfl)) pa_nil)) (pe_one (pe_call GS (hr.mono (by decide)) (by rfl) DS.g DS.F.kp DS.b .nil pass0 (pa_cons (pe_ix (r := rIx K) ix_seq (pv 0) pe_int (fun _ _ => rfl)) pa_nil)))))))), (ss_seq (ss_if (st_or (st_not (st_tB (se_isG (.ty _) (SE.b (se_var 0))))) (st_tTest (se_op oS_ne (SE.b (se_cb c1_len (SE.b (se_var 0)))) (SE.b (se_int (i := 3)))))) (ss_ret (se_bl (b := false))) ss_nil)
      (ss_ret (se_and (se_call (sa_cons (se_op oS_ix (SE.b (se_var 0)) (SE.b (se_int (i := 0)))) sa_nil)) (se_and (se_call (sa_cons (se_op oS_ix (SE.b (se_var 0)) (SE.b (se_int (i := 1)))) sa_nil)) (se_call (sa_cons (se_op oS_ix (SE.b (se_var 0)) (SE.b (se_int (i := 2)))) sa_nil)))))), ?_⟩
  rintro ds P ⟨d, rfl, td, q⟩
  walk_at "u"
  cases d with
  | tup es =>
    refine ⟨_, true, .ty (n := "tuple") rfl, kit_ty (by decide +kernel), ?_⟩
    refine iteF ?_
    walk_at "u"
    have tp := td.2 es rfl
    rcases es with _ | ⟨a, _ | ⟨b, _ | ⟨c, _ | ⟨x, r⟩⟩⟩⟩
    · show if (!decide (((0 : Nat) : Int) = 3)) = true then _ else _
      rw [decide_eq_false (show ¬ (((0 : Nat) : Int) = 3) by decide)]
      refine iteT ?_
      walk_at "u"
      exact q
    · show if (!decide (((1 : Nat) : Int) = 3)) = true then _ else _
      rw [decide_eq_false (show ¬ (((1 : Nat) : Int) = 3) by decide)]
      refine iteT ?_
      walk_at "u"
      exact q
    · show if (!decide (((2 : Nat) : Int) = 3)) = true then _ else _
      rw [decide_eq_false (show ¬ (((2 : Nat) : Int) = 3) by decide)]
      refine iteT ?_
      walk_at "u"
      exact q
    · show if (!decide (((3 : Nat) : Int) = 3)) = true then _ else _
      rw [decide_eq_true (show (((3 : Nat) : Int) = 3) by decide)]
      refine iteF ?_
      walk_at "u"
      have q : P (.bl (staB a && (nmB b && staB c))) := q
      have ta := tp a (List.mem_cons_self ..)
      have tb := tp b (List.mem_cons_of_mem _ (List.mem_cons_self ..))
      have tc := tp c (List.mem_cons_of_mem _ (List.mem_cons_of_mem _ (List.mem_cons_self ..)))
      refine kIxx_tup (d := a) rfl ?_
      walk_at "u"
      refine ⟨a, rfl, ta.1, ?_⟩
      cases ea : staB a with
      | false =>
        rw [ea] at q
        exact q
      | true =>
        rw [ea, Bool.true_and] at q
        refine iteT ?_
        walk_at "u"
        refine kIxx_tup (d := b) rfl ?_
        walk_at "u"
        refine ⟨b, rfl, tb.1, tb.2, ?_⟩
        cases eb : nmB b with
        | false =>
          rw [eb] at q
          exact q
        | true =>
          rw [eb, Bool.true_and] at q
          refine iteT ?_
          walk_at "u"
          refine kIxx_tup (d := c) rfl ?_
          walk_at "u"
          exact ⟨c, rfl, tc.1, q⟩
    · show if (!decide (((r.length + 4 : Nat) : Int) = 3)) = true then _ else _
      rw [decide_eq_false (show ¬ (((r.length + 4 : Nat) : Int) = 3) by omega)]
      refine iteT ?_
      walk_at "u"
      exact q
  | _ =>
    first
    | (cases td.1; done)
    | (refine ⟨_, false, .ty rfl, kit_ty (by decide +kernel), ?_⟩
       refine iteT ?_
       refine iteT ?_
       walk_at "u"
       exact q)
end
end KX
/-! all_reached over numbers, by a lambda that tells where the steps lead; TooMany told. -/
namespace KX
open PySem PySem.Spec PyProof.Rows L2 UL
section
variable {P : Program} {w : World} {K : PySem.W.Frag} {mg : Str → Option Value} {base : Heap}
def spAllX (P : Program) (w : World) (K : PySem.W.Frag) (mg : Str → Option Value) (base : Heap) (CT : Addr) : Shared → Sp := fun s vs H Q E => ∃ (x0 : Int) (f a : Addr) (m : Nat) (F : VL.LF) (us : List V) (ss : List Stp) (U : List Int), vs = [.int x0, .ref f, .int m] ∧
  H f = some (VL.LamO f F) ∧ H F.c = some (LamX.CodeO F.c F.qual) ∧ NdefX.CellsAt F.cl ["steps"] [some (.ref a)] s.heap H ∧ (∀ g, VL.LamOk P w K mg base CX0 1 g F ["steps"] (spFol K)) ∧ Seq K H a us ∧ StepsAt K H us ss ∧ ss.length ≤ 24 ∧
  (∀ x, Reach ss x0 x → x ∈ U) ∧ U.length ≤ 60 ∧ 1 ≤ m ∧ m ≤ 60 ∧
  (∀ (l : Addr) (ns : List Int) (H' : Hp), H l = none → H' l = some (.lst (ns.map V.int)) → ns.Pairwise (· < ·) → (∀ x, x ∈ ns ↔ Reach ss x0 x) → ns.length ≤ m → Same H H' → Q (.ref l) H') ∧
  ∀ (fs : List Int) (ok : Addr → Prop) (cls : Value) (dd : Option Addr) (H' : Hp), fs.Nodup → (∀ x ∈ fs, Reach ss x0 x) → m < fs.length → Same H H' → XR K ok H' ⟨CT, "limit", .int m⟩ cls dd → E cls dd H'
theorem ok_allX {f CT fI : Addr} {fd fdI : FuncData} (F : Fun K "all_reached" "all_reached" s_all_reached f fd) (B : Blt mg) (DB : ExcD P w K mg base "TooMany" "limit" CT fI fdI) : VL.FnOkS P w K mg base (L2.CX P w) 3 f fd ["first", "following", "most"] (spAllX P w K mg base CT) := by
  refine VL.okS F sc_all (fun s vs H Q E h => ?_) (fun cdv A outer s H vs Q E hr h => ?_)
  · obtain ⟨x0, f, a, m, F, us, ss, U, rfl, _⟩ := h
    rfl
  · obtain ⟨x0, lf, a, m, F, us, ss, U, rfl, hf, hc, C, GL, hS, hss, l24, hU, lU, m1, lm, q, qx⟩ := h
    have hu := hu_of hr
    have po : PassesOwn (model P w) (A.deeper (envOfC "all_reached" (defScope s_all_reached) s.heap.objs.size f cdv)) (envOfC "all_reached" (defScope s_all_reached) s.heap.objs.size f cdv) (cxOf (L2.CX P w) P w K mg base nAll "all_reached" (defScope s_all_reached) f cdv A outer s H E).xe := passes_of rfl
    have tk : Takes (cxOf (L2.CX P w) P w K mg base nAll "all_reached" (defScope s_all_reached) f cdv A outer s H E) (fun cls d _ H' => E cls d H') := takes_of rfl rfl rfl rfl
    refine ⟨_, (pss_cons (ps_set (i := 3) sc_all.nd rfl (.inl rfl) (pe_disp (pps_cons (pv 0) pe_bl pps_nil) (by rfl) (by rfl) (fun z => by cases z) (by decide)))
      (pss_cons (ps_set (i := 4) sc_all.nd rfl (.inl rfl) (pe_lst (pa_cons (pv 0) pa_nil)))
      (pss_cons (ps_while po (pt_truth (pv 4) (fun _ => rfl))
        (pss_cons (ps_set (i := 5) sc_all.nd rfl (.inl rfl) (pe_bm0 PySem.F.plainAttrs_list PySem.F.slot_list_pop PySem.F.type_list_pop mt_pop (pv 4)))
        (pss_cons (ps_for po rfl (pi_list (VL.pe_callL (i := 1) (CX := CX0) (E := E0) GL C rfl hr (by decide) pass0 rfl (.inl rfl) (pa_cons (pv 5) pa_nil))) (pg_name (i := 6) sc_all.nd rfl (.inl rfl))
          (pss_one (ps_if (pt_cmp (pc_dnotin hu (pv 6) (pv 3))) (pss_cons (ps_dput hu (pv 3) (pv 6) pe_bl rfl)
            (pss_one (ps_expr (pe_bm PySem.F.plainAttrs_list PySem.F.slot_list_append PySem.F.type_list_append mt_append (pv 4) (pa_cons (pv 6) pa_nil))))) pss_nil)))
        (pss_one (ps_if (pt_cmpR op_gt (pe_callB call_lenD (by rfl) B.len PySem.boot_len (pa_cons (pv 3) pa_nil)) (pv 2) (nomark _)) (pss_one (ps_raise rfl tk (pmk_oex DB.T DB.iC DB.tI DB.G (hr.mono (by decide)) DB.b .nil pass0 rfl DB.m (pa_cons (pv 2) pa_nil)))) pss_nil)))))
      (pss_one (ps_ret (pe_callB (call_sortedDI rfl) (by rfl) B.sorted (by decide +kernel) (pa_cons (pv 3) pa_nil))))))), ?_⟩
    refine fun d nd => ⟨_, rfl, upd_same, [(Sum.inl x0, .bl true)], rfl, (by show 1 ≤ 15; decide), _, rfl, by show 1 ≤ sizeLine; decide, fun l nl => ?_⟩
    rw [upd_upd] at nl ⊢
    have ndl : d ≠ l := fun z => by
      rw [z, upd_same] at nl
      cases nl
    have s0 : Same H (upd (upd H d (.dK (mergeK [] [(Sum.inl x0, .bl true)]))) l (.lst [.int x0])) := (same_new nd).trans (same_new nl)
    have fl : H l = none := (same_new (o := .dK (mergeK [] [(Sum.inl x0, .bl true)])) nd).free nl
    have hd0 : (upd (upd H d (.dK (mergeK [] [(Sum.inl x0, .bl true)]))) l (.lst [.int x0])) d = some (.dK [(Sum.inl x0, .bl true)]) := by
      rw [upd_ne ndl, upd_same]
      rfl
    have hl0 : (upd (upd H d (.dK (mergeK [] [(Sum.inl x0, .bl true)]))) l (.lst [.int x0])) l = some (.lst [.int x0]) := upd_same
    generalize upd (upd H d (.dK (mergeK [] [(Sum.inl x0, .bl true)]))) l (.lst [.int x0]) = H0 at s0 hd0 hl0 ⊢
    have U1 : 1 ≤ U.length := List.length_pos_of_mem (hU x0 .refl)
    have fU : ∀ {fs as : List Int} {wt : Option (Int × Nat)}, Srch ss x0 U fs as wt → fs.length ≤ U.length := fun S => nd_len S.nd S.inU
    refine ⟨fun mm σ H2 => ∃ (kvs : List (Key × V)) (fs as : List Int) (v5 v6 : Option V), σ = [some (.int x0), some (.ref lf), some (.int m), some (.ref d), some (.ref l), v5, v6] ∧ H2 d = some (.dK kvs) ∧ kvs.map (·.1) = fs.map Sum.inl ∧ H2 l = some (.lst (as.map V.int)) ∧ Srch ss x0 U fs as none ∧ Same H H2 ∧ fs.length ≤ m ∧
        mm = 2 * (U.length - fs.length) + as.length ∧ mm ≤ 2 * U.length, ⟨_, _, [x0], [x0], none, none, rfl, hd0, rfl, hl0, Srch.start hU, s0, m1, rfl, by show 2 * (U.length - 1) + 1 ≤ _; omega⟩, ?_⟩
    rintro mm σ H2 ⟨kvs, fs, as, v5, v6, rfl, hd, hk, hl, S, s2, cnt, rfl, lmm⟩
    have isS : ∀ {kvs : List (Key × V)} {fs : List Int} (z : Int), kvs.map (·.1) = fs.map Sum.inl → (valV kvs (Sum.inl z)).isSome = decide (z ∈ fs) := fun {kvs fs} z hk => by
      cases e : valV kvs (Sum.inl z) with
      | none =>
        have q := valV_not e
        rw [hk] at q
        exact (decide_eq_false fun h => q (List.mem_map_of_mem h)).symm
      | some v =>
        have q := valV_in e
        rw [hk] at q
        obtain ⟨z', hz, ez⟩ := List.mem_map.mp q
        cases ez
        exact (decide_eq_true hz).symm
    refine ⟨_, rfl, _, .inl ⟨_, .inl (.inl hl), rfl⟩, ?_⟩
    rcases List.eq_nil_or_concat as with rfl | ⟨as', x, rfl⟩
    · -- return sorted(found)
      refine ⟨_, rfl, d, kvs, fs, rfl, .inl hd, hk, by have := fU S; omega, fun ys p perm pw np => ?_⟩
      refine q p ys _ (s2.free np) upd_same (lt_of_le_nodup ys pw (perm.nodup_iff.mpr S.nd)) (fun z => perm.mem_iff.trans (S.all z)) (by rw [perm.length_eq]; exact cnt) (s2.trans (same_new np))
    · rw [List.concat_eq_append] at hl S lmm ⊢
      have eE : (!((as' ++ [x]).map V.int).isEmpty) = true := by
        cases as' <;> rfl
      rw [eE]
      have lA : (as' ++ [x]).length = as'.length + 1 := by rw [List.length_append]; rfl
      refine ⟨fun σ' H' => ∃ (kvs : List (Key × V)) (fs2 as2 : List Int) (v5 v6 : Option V), σ' = [some (.int x0), some (.ref lf), some (.int m), some (.ref d), some (.ref l), v5, v6] ∧ H' d = some (.dK kvs) ∧ kvs.map (·.1) = fs2.map Sum.inl ∧ H' l = some (.lst (as2.map V.int)) ∧ Srch ss x0 U fs2 as2 none ∧ Same H H' ∧ fs2.length ≤ m ∧
        2 * (U.length - fs2.length) + as2.length < 2 * (U.length - fs.length) + (as' ++ [x]).length, ?_, ?_⟩
      · rintro σ' H' ⟨kvs2, fs2, as2, w5, w6, rfl, hd2, hk2, hl2, S2, s22, c2, lt2⟩
        exact ⟨_, lt2, kvs2, fs2, as2, w5, w6, rfl, hd2, hk2, hl2, S2, s22, c2, rfl, by omega⟩
      · -- place = ahead.pop()
        refine ⟨_, rfl, .inl ⟨rfl, _, .inl (.inl hl)⟩, l, _, .int x, rfl, rfl, hl, by rw [List.map_append, List.length_append, List.length_map]; show (as'.map V.int ++ [.int x])[as'.length + 1 - 1]? = _; rw [Nat.add_sub_cancel, List.getElem?_append_right (by rw [List.length_map]; exact Nat.le_refl _), List.length_map, Nat.sub_self]; rfl, ?_⟩
        have edl : ((as' ++ [x]).map V.int).dropLast = as'.map V.int := by
          rw [List.map_append]
          exact List.dropLast_concat
        rw [edl]
        have hd3 : (upd H2 l (.lst (as'.map V.int))) d = some (.dK kvs) := by rw [upd_ne ndl]; exact hd
        have hl3 : (upd H2 l (.lst (as'.map V.int))) l = some (.lst (as'.map V.int)) := upd_same
        have s3 : Same H (upd H2 l (.lst (as'.map V.int))) := fun b o e => by
          rw [upd_ne (ne_of_none e fl)]
          exact s2 _ _ e
        generalize upd H2 l (.lst (as'.map V.int)) = H3 at hd3 hl3 s3 ⊢
        refine ⟨lf, rfl, s3 _ _ hf, _, rfl, .int x, rfl, s3 _ _ hf, s3 _ _ hc, a, us, ss, x, rfl, rfl, hS.same s3, hss.same s3, l24, fun l2 H4 n2 h2 s4 => ⟨l2, rfl, ⟨_, .inl (.inl h2)⟩, ?_⟩⟩
        have n2d : d ≠ l2 := ne_of_none hd3 n2
        have n2l : l ≠ l2 := ne_of_none hl3 n2
        refine for_list (K := K) (xs := (nxOf ss x).map V.int) (fun i σ H5 => ∃ (kvs : List (Key × V)) (fs2 as2 : List Int) (v6 : Option V), σ = [some (.int x0), some (.ref lf), some (.int m), some (.ref d), some (.ref l), some (.int x), v6] ∧ H5 d = some (.dK kvs) ∧ kvs.map (·.1) = fs2.map Sum.inl ∧ H5 l = some (.lst (as2.map V.int)) ∧
            Srch ss x0 U fs2 as2 (some (x, i)) ∧ Same H H5 ∧ H5 l2 = some (.lst ((nxOf ss x).map V.int)) ∧ 2 * (U.length - fs2.length) + as2.length ≤ 2 * (U.length - fs.length) + as'.length)
          ⟨kvs, fs, as', v6, rfl, s4 _ _ hd3, hk, s4 _ _ hl3, S.pop, s3.trans s4, h2, Nat.le_refl _⟩ (fun _ _ _ _ ⟨_, _, _, _, _, _, _, _, _, _, h, _⟩ => .inl (.inl h)) ?_ ?_
        · rintro i y σ H5 hy ⟨kvs2, fs2, as2, w6, rfl, hd5, hk5, hl5, S5, s5, h25, lt5⟩
          obtain ⟨z, rfl, ez⟩ : ∃ z, y = .int z ∧ (nxOf ss x)[i]? = some z := by
            rw [List.getElem?_map] at hy
            cases e : (nxOf ss x)[i]? with
            | none => rw [e] at hy; cases hy
            | some z => rw [e] at hy; exact ⟨z, (Option.some.inj hy).symm, rfl⟩
          refine ⟨_, rfl, _, rfl, d, _, rfl, DGet.k (k := Sum.inl z) hd5, _, rfl, ?_⟩
          rw [isS z hk5]
          have lk : kvs2.length = fs2.length := by
            have q := congrArg List.length hk5
            rw [List.length_map, List.length_map] at q
            exact q
          have := fU S5
          by_cases e : z ∈ fs2
          · rw [decide_eq_true e]
            exact ⟨kvs2, fs2, as2, _, rfl, hd5, hk5, hl5, S5.old ez e, s5, h25, lt5⟩
          · rw [decide_eq_false e]
            have vn : valV kvs2 (Sum.inl z) = none := by
              have q := isS z hk5
              rw [decide_eq_false e] at q
              exact Option.isNone_iff_eq_none.mp (by rw [← Option.not_isSome, q]; rfl)
            refine ⟨_, rfl, _, rfl, d, _, rfl, DPut.k (k := Sum.inl z) hd5 (small1000 (by omega)), ?_⟩
            have hl6 : (upd H5 d (.dK (putK kvs2 (Sum.inl z) (.bl true)))) l = some (.lst (as2.map V.int)) := by rw [upd_ne ndl.symm]; exact hl5
            refine ⟨_, rfl, .inl ⟨rfl, _, .inl (.inl hl6)⟩, _, rfl, l, _, _, rfl, rfl, hl6, small1000 (by rw [List.length_map]; omega), ?_⟩
            have S6 := S5.new hU ez e
            have := fU S6
            have lf : (fs2 ++ [z]).length = fs2.length + 1 := by rw [List.length_append]; rfl
            have la : (as2 ++ [z]).length = as2.length + 1 := by rw [List.length_append]; rfl
            refine ⟨_, fs2 ++ [z], as2 ++ [z], _, rfl, by rw [upd_ne ndl, upd_same], ?_, by rw [upd_same, List.map_append]; rfl, S6, fun b o eb => ?_, by rw [upd_ne n2l.symm, upd_ne n2d.symm]; exact h25, by omega⟩
            · rw [putK_new _ vn, List.map_append, List.map_append, hk5]
              rfl
            · rw [upd_ne (ne_of_none eb fl), upd_ne (ne_of_none eb nd)]
              exact s5 _ _ eb
        · rintro σ H5 ⟨kvs2, fs2, as2, w6, rfl, hd5, hk5, hl5, S5, s5, h25, lt5⟩
          rw [List.length_map] at S5
          have lk : kvs2.length = fs2.length := by
            have q := congrArg List.length hk5
            rw [List.length_map, List.length_map] at q
            exact q
          have := fU S5
          refine ⟨_, rfl, d, kvs2, rfl, hd5, _, rfl, _, _, rfl, rfl, _, rfl, ?_⟩
          rw [lk]
          by_cases e : m < fs2.length
          · rw [decide_eq_true (show (m : Int) < (fs2.length : Nat) by omega)]
            refine ⟨_, rfl, by show 1 ≤ 1000; decide, fun a ha => ⟨a, .int m, rfl, upd_same, fun dx hdx ne => ?_⟩⟩
            have hd : H5 dx = none := by rw [upd_ne ne] at hdx; exact hdx
            refine ⟨rfl, dx, [("limit", .int m)], upd_same, by rw [upd_ne ne]; exact upd_same, hd, ?_⟩
            rw [heap_mk ha hd ne]
            exact qx fs2 (fun _ => True) _ _ _ S5.done.nd (fun x hx => S5.done.re x hx) e (s5.trans (same_up hd)) ⟨rfl, dx, .int m, rfl, upd_same, .int _⟩
          · rw [decide_eq_false (show ¬ (m : Int) < (fs2.length : Nat) by omega)]
            exact ⟨kvs2, fs2, as2, _, _, rfl, hd5, hk5, hl5, S5.done, s5, by omega, by omega⟩
end
end KX
/-! reached_states; TooMany told. -/
namespace KX
open PySem PySem.Spec PyProof.Rows L2 UL
section
variable {P : Program} {w : World} {K : PySem.W.Frag} {mg : Str → Option Value} {base : Heap}
theorem FunC.okX {x qual : Str} {st : Stmt} {f c : Addr} {fd : FuncData} {N ps : List Str} {k : Nat} {sp : Sp} (F : FunC K x qual st f fd c) (S : FnScope N ps (defScope st)) (len : ∀ vs H Q E, sp vs H Q E → vs.length = ps.length)
    (hbody : ∀ (A : Around) (outer : List PySem.Env) (s : Shared) (H : Hp) (vs : List V) (Q : VK) (E : XK), Room k (A.deeper (envOfC qual (defScope st) s.heap.objs.size f (.ref c))) → sp vs H Q E →
      ∃ t, PSs (cxOf (L2.CX P w) P w K mg base N qual (defScope st) f (.ref c) A outer s H E) (defBody st) t ∧ t { nx := fun _ H' => Q .non H', rt := Q } (L2.start N vs) H) : FnOk P w K mg base (L2.CX P w) (k + 1) f fd ps sp := by
  obtain ⟨oc, od, kV, doc, pm, an, ct, osl, rfl, lk, hcd⟩ := F.ex
  exact fn_of lk hcd S len fun A outer s H vs Q E hr hsp => hbody A outer s H vs Q E hr hsp
def spReachedX (K : PySem.W.Frag) (T : TbC) (CT : Addr) : Sp := fun vs H Q E => ∃ (x0 : Int) (a : Addr) (us : List V) (ss : List Stp) (U : List Int), vs = [.int x0, .ref a] ∧ TabL T H ∧ Seq K H a us ∧ StepsAt K H us ss ∧ ss.length ≤ 24 ∧ (∀ x, Reach ss x0 x → x ∈ U) ∧ U.length ≤ 60 ∧
  (∀ (l : Addr) (ns : List Int) (H' : Hp), H l = none → H' l = some (.lst (ns.map V.int)) → ns.Pairwise (· < ·) → (∀ x, x ∈ ns ↔ Reach ss x0 x) → ns.length ≤ 8 → LamX.ExtN H H' → TabL T H' → Q (.ref l) H') ∧
  ∀ (fs : List Int) (ok : Addr → Prop) (cls : Value) (dd : Option Addr) (H' : Hp), fs.Nodup → (∀ x ∈ fs, Reach ss x0 x) → 8 < fs.length → LamX.ExtN H H' → TabL T H' → XR K ok H' ⟨CT, "limit", .int (8 : Nat)⟩ cls dd → E cls dd H'
theorem ok_reachedX {f fA c CT fI : Addr} {T : TbC} {fd fdA fdI : FuncData} (F : FunC K "reached_states" "reached_states" s_reached_states f fd c) (B : Blt mg) (L : Lim mg) (TB : LamX.TabB base mg c T.P) (FA : Fun K "all_reached" "all_reached" s_all_reached fA fdA) (bA : Binds K fdA ["first", "following", "most"] []) (gA : mg "all_reached" = some (.ref fA)) (DB : ExcD P w K mg base "TooMany" "limit" CT fI fdI) :
    FnOk P w K mg base (L2.CX P w) 4 f fd ["start", "steps"] (spReachedX K T CT) := by
  have GA : VL.FnOkS P w K mg base (L2.CX P w) 3 fA fdA ["first", "following", "most"] (spAllX P w K mg base CT) := ok_allX FA B DB
  obtain ⟨t8, e8⟩ := L.states
  refine F.okX sc_reached (fun vs H Q E h => ?_) (fun A outer s H vs Q E hr h => ?_)
  · obtain ⟨x0, a, us, ss, U, rfl, _⟩ := h
    rfl
  · obtain ⟨x0, a, us, ss, U, rfl, hT, hS, hss, l24, hU, lU, q, qx⟩ := h
    have tk : Takes (cxOf (L2.CX P w) P w K mg base ["start", "steps"] "reached_states" (defScope s_reached_states) f (.ref c) A outer s H E) (fun cls d _ H' => E cls d H') := takes_of rfl rfl rfl rfl
    refine ⟨_, pss_one (ps_ret (VL.pe_callSt (E := E) GA hr (by rfl) gA FA.kp bA (fun pins σ H s e s' I c => passAt tk σ pins H s e s' I c) (pa_cons (pv 0) (pa_cons (VL.pe_lamV (T := T.l) (nm := nmL) (P := T.P) (c := c) TB rfl T.mem rfl T.un rfl (VL.free_by (by kernel_rfl)))
      (pa_cons (pe_glob rfl e8 (v := .int 8) ⟨_, rfl⟩) pa_nil))))), ?_⟩
    refine ⟨_, rfl, hT, fun g c' H1 eN nn T1 g0 hg hc => fun pins s1 I1 => ?_⟩
    refine ⟨x0, g, a, 8, _, us, ss, U, rfl, hg, hc, ?_, fun g2 => ?_, extN_seq eN hS, extN_steps eN hss, l24, hU, lU, by decide, by decide, fun l ns H' nl hl pw hr' l8 s' => ?_, fun fs ok cls dd H' nd re lt s' xr => ?_⟩
    · exact NdefX.cells_of (js := [1]) I1 (NdefX.Caps.made I1.ok (VL.free_by (by kernel_rfl)) (fun y hy => by rw [List.mem_singleton.mp hy]; exact List.mem_cons_of_mem _ List.mem_cons_self) rfl)
    · refine VL.lamOk_of (N := ["state", "steps", "step"]) (p := "state") (VL.lscope_by (by kernel_rfl)) VL.clOk_from (fun _ _ _ => rfl) fun A2 outer2 s2 H2 v ws Q2 E2 hr2 hw hsp => ?_
      obtain ⟨a2, us2, ss2, x, rfl, rfl, hS2, hss2, l242, q2⟩ := hsp
      have nd3 : (["state", "steps", "step"] : List Str).Nodup := by decide +kernel
      refine ⟨_, pe_lc (own := [("step", 2)]) (g := gName 2) rfl nd3 (VE.pi_seqS (j := 1) rfl (.inr (.inr rfl))) (blkOk_by (by kernel_rfl)) (fun _ _ _ _ _ => pg_name (i := 2) nd3 rfl (.inl rfl))
        (fun _ _ _ _ _ => pts_one (pt_cmpR op_eq (pe_ix (r := rIxT K) ix_tup (pv 2) pe_int (fun _ _ => rfl)) (pv 0) (nomark _))) (fun _ _ _ _ _ => pe_ix (r := rIxT K) ix_tup (pv 2) pe_int (fun _ _ => rfl)), ?_⟩
      refine VE.lc_seqS (H0 := H2) rfl (Same.refl _) hS2.sq (fun D i H3 => H3 D = some (.lst ((nxOf (ss2.take i) x).map V.int)) ∧ Same H2 H3) (fun D hD => ⟨by rw [upd_same]; rfl, same_new hD⟩) (fun D i H3 _ h => h.2) ?_ ?_
      · rintro D i y H3 hD hy ⟨hD3, s3⟩
        obtain ⟨st, t, rfl, es, ht⟩ := get_tup (hss2.same s3) hy
        refine ⟨rfl, _, rfl, t, _, _, _, rfl, rfl, .inl (.inl ht), atI_nat (j := 0) rfl, _, rfl, rfl, _, rfl, ?_⟩
        by_cases ea : st.a = x
        · rw [decide_eq_true (congrArg V.int ea)]
          refine ⟨_, rfl, t, _, _, _, rfl, rfl, .inl (.inl ht), atI_nat (j := 2) rfl, _, hD3, ?_, ?_, fun b o e => ?_⟩
          · rw [List.length_map]
            have := nxOf_len (ss2.take i) x
            have := List.length_take_le' i ss2
            exact small1000 (by omega)
          · rw [upd_same, nxOf_take x es, if_pos ea, List.map_append]
            rfl
          · rw [upd_ne (ne_of_none e hD)]
            exact s3 b o e
        · rw [decide_eq_false fun z => ea (V.int.inj z)]
          refine ⟨?_, s3⟩
          rw [nxOf_take x es, if_neg ea, List.append_nil]
          exact hD3
      · rintro D H3 hD ⟨hD3, s3⟩
        rw [hss2.length, List.take_length] at hD3
        exact q2 D H3 hD hD3 s3
    · exact q l ns H' (nn _ nl) hl pw hr' l8 (fun b o e n => s' _ _ (eN b o e n)) (tabL_same s' T1)
    · exact qx fs ok cls dd H' nd re lt (fun b o e n => s' _ _ (eN b o e n)) (tabL_same s' T1) xr
end
end KX
namespace KX
open PySem PySem.Spec PyProof.Rows L2 UL
local macro_rules | `(tactic| walk_at "u") => `(tactic| repeat (first | ((with_reducible refine' wVar_of ?ke ?_); (case ke => rfl)) | with_reducible refine' wC_of ?_ | with_reducible refine' wB_of ?_ | with_reducible refine' wAnd_of ?_ | with_reducible refine' wOr_of ?_ | with_reducible refine' wNot_of ?_ | with_reducible refine' w2_of ?_ | with_reducible refine' w1_of ?_ | with_reducible refine' wCons_of ?_ | with_reducible refine' wNil_of ?_ | ((with_reducible refine' kIxT_of ?ke ?_); (case ke => rfl)) | with_reducible refine' wSeq_of ?_ | with_reducible refine' wSet_of ?_ | ((with_reducible refine' wSetF_of ?ke ?_); (case ke => rfl)) | ((with_reducible refine' wRetO_of ?ke ?_); (case ke => rfl)) | ((with_reducible refine' wSetNew_of ?hs ?_); (case hs => rfl)) | ((with_reducible refine' wPutN_of ?he ?_); (case he => rfl)) | ((with_reducible refine' wPutI_of ?he ?_); (case he => rfl)) | ((with_reducible refine' wApp_of ?ke ?_); (case ke => rfl)) | with_reducible refine' wRet_of ?_ | with_reducible refine' wRetF_of ?_ | with_reducible refine' wIfS_of ?_ | with_reducible refine' wForS_of ?_ | with_reducible refine' wItemsL_of ?_ | with_reducible refine' wItemsT_of ?_ | with_reducible refine' wLc_of ?_ | with_reducible refine' wAndV_of ?_ | with_reducible refine' wOrV_of ?_ | with_reducible refine' wNotV_of ?_ | with_reducible refine' wIf_of ?_ | with_reducible refine' wGet2_of ?_ | with_reducible refine' wChain_of ?_ | with_reducible refine' wExpr_of ?_ | with_reducible refine' kLenL_of ?_ | with_reducible refine' kLenT_of ?_ | ((with_reducible refine' kFld_of ?ke ?_); (case ke => rfl)) | with_reducible refine' wLc2_of ?_ | with_reducible refine' wNext_of ?_ | ((with_reducible refine' kZip2_of ?k1 ?k2 ?_); (case k1 => rfl); (case k2 => rfl)) | ((with_reducible refine' kZip3_of ?k1 ?k2 ?k3 ?_); (case k1 => rfl); (case k2 => rfl); (case k3 => rfl)) | with_reducible refine' kEnumT_of ?_ | with_reducible refine' wPart_of ?_ | with_reducible refine' wNoPart_of ?_ | with_reducible refine' kTupOfL_of ?_ | with_reducible refine' wEndP_of ?_ | ((with_reducible refine' wNewP_of ?ke ?_); (case ke => rfl)) | with_reducible refine' kI_of ?_ | ((with_reducible refine' wRev_of ?ke ?_); (case ke => rfl)) | with_reducible refine' kNeI_of ?_ | with_reducible refine' kEqI_of ?_ | with_reducible refine' kNeS_of ?_ | with_reducible refine' kEqS_of ?_ | with_reducible refine' wDropX_of ?_ | with_reducible refine' wSetX_of ?_ | with_reducible refine' wRetX_of ?_ | with_reducible refine' wRaise_of ?_ | with_reducible refine' wTry_of ?_ | with_reducible refine' wSlT_of ?_ | with_reducible refine' wSlQ_of ?_ | with_reducible refine' kNeg_of ?_ | with_reducible refine' kLenQ_of ?_ | with_reducible refine' kLstT_of ?_ | with_reducible refine' kLstL_of ?_ | ((with_reducible refine' wSetNewK_of ?hs ?_); (case hs => rfl)) | ((with_reducible refine' wPutK_of ?he ?_); (case he => rfl)) | ((with_reducible refine' wIns_of ?he ?_); (case he => rfl)) | ((with_reducible refine' wPop_of ?he ?_); (case he => rfl))))
section
variable {P : Program} {w : World} {K : PySem.W.Frag} {mg : Str → Option Value} {base : Heap} {TT : List NdefX.NTab} {C CB : Addr} {T : TbC} {H H' : Hp}
/-- what check_steps refuses before it looks at a step -/
def wChkN (K : PySem.W.Frag) (CB : Addr) : List Dt → (Dt → Prop) → (Xn → Prop) → Prop := fun ds P PX => ∃ d, ds = [d] ∧ NotRow K d ∧ PX ⟨CB, "at", .int (-1)⟩
def wChkL (CB : Addr) (L : List Dt → Dt) : List Dt → (Dt → Prop) → (Xn → Prop) → Prop := fun ds P PX => ∃ us, ds = [L us] ∧ us.length ≤ 1000 ∧ (us.length < 1 ∨ 24 < us.length) ∧ PX ⟨CB, "at", .int (-1)⟩
theorem ok_chk_lst {f fR fB : Addr} {fd fdR fdB : FuncData} (F : Fun K "check_steps" "check_steps" s_check_steps f fd) (B : Blt mg) (L : Lim mg) (DR : Cal K mg "is_row" s_is_row ["value"] fR fdR) (DB : ExcD P w K mg base "BadSteps" "at" CB fB fdB) : FnOk P w K mg base (L2.CX P w) 3 f fd ["steps"] (spX K TT (wChkL CB Dt.lst)) := by
  obtain ⟨t24, e24⟩ := L.steps
  have GR : FnOk P w K mg base CX0 1 fR fdR ["value"] (spU K TT (wRowG K)) := ok_rowG DR.F B
  refine fn_x F sc_check (by decide) (fun ds Q QX ⟨_, e, _⟩ => by rw [e]; rfl) fun cdv A outer s H E hr tk po => ?_
  refine ⟨_, _, ([], []), ([], []), (pss_cons (ps_if (PW.pt (pw_or (pt_not (pt_val (pe_call GR (hr.mono (by decide)) (by rfl) DR.g DR.F.kp DR.b .nil pass0 (pa_cons (pv 0) pa_nil)))) (pw_or1 (pt_not (pt_chain op_le op_le pe_int (pe_callB call_len_ (by rfl) B.len PySem.boot_len (pa_cons (pv 0) pa_nil)) (pe_glob rfl e24 (v := .int 24) ⟨_, rfl⟩)))))) (pss_one (ps_raise rfl tk (pmk_oex DB.T DB.iC DB.tI DB.G (hr.mono (by decide)) DB.b .nil pass0 rfl DB.m (pa_cons (pe_un un_neg pe_int) pa_nil)))) pss_nil)
      pss_dead), (ss_seq (ss_if (st_or (st_not (st_tB (se_call (sa_cons (se_var 0) sa_nil)))) (st_not (st_tTest (se_chain oS_le oS_le (SE.b (se_int (i := 1))) (SE.b (se_cb c1_len (SE.b (se_var 0)))) (SE.b (se_int (i := 24))))))) (ss_raise (se_neg (SE.b (se_int (i := 1)))) (fun _ h => nomatch h)) ss_nil)
      ss_dead), ?_⟩
  rintro ds P PX ⟨us, rfl, lu, h, px⟩
  walk_at "u"
  refine row_lst ?_
  refine iteF ?_
  walk_at "u"
  show if decide ((1 : Int) ≤ (us.length : Nat)) = true then _ else _
  by_cases h1 : (1 : Int) ≤ (us.length : Nat)
  · rw [decide_eq_true h1]
    refine iteT ?_
    walk_at "u"
    show if (!decide (((us.length : Nat) : Int) ≤ 24)) = true then _ else _
    rw [decide_eq_false (show ¬ ((us.length : Nat) : Int) ≤ 24 by omega)]
    refine iteT ?_
    walk_at "u"
    exact px
  · rw [decide_eq_false h1]
    refine iteF ?_
    walk_at "u"
    exact px

theorem ok_chk_tup {f fR fB : Addr} {fd fdR fdB : FuncData} (F : Fun K "check_steps" "check_steps" s_check_steps f fd) (B : Blt mg) (L : Lim mg) (DR : Cal K mg "is_row" s_is_row ["value"] fR fdR) (DB : ExcD P w K mg base "BadSteps" "at" CB fB fdB) : FnOk P w K mg base (L2.CX P w) 3 f fd ["steps"] (spX K TT (wChkL CB Dt.tup)) := by
  obtain ⟨t24, e24⟩ := L.steps
  have GR : FnOk P w K mg base CX0 1 fR fdR ["value"] (spU K TT (wRowG K)) := ok_rowG DR.F B
  refine fn_x F sc_check (by decide) (fun ds Q QX ⟨_, e, _⟩ => by rw [e]; rfl) fun cdv A outer s H E hr tk po => ?_
  refine ⟨_, _, ([], []), ([], []), (pss_cons (ps_if (PW.pt (pw_or (pt_not (pt_val (pe_call GR (hr.mono (by decide)) (by rfl) DR.g DR.F.kp DR.b .nil pass0 (pa_cons (pv 0) pa_nil)))) (pw_or1 (pt_not (pt_chain op_le op_le pe_int (pe_callB call_len_ (by rfl) B.len PySem.boot_len (pa_cons (pv 0) pa_nil)) (pe_glob rfl e24 (v := .int 24) ⟨_, rfl⟩)))))) (pss_one (ps_raise rfl tk (pmk_oex DB.T DB.iC DB.tI DB.G (hr.mono (by decide)) DB.b .nil pass0 rfl DB.m (pa_cons (pe_un un_neg pe_int) pa_nil)))) pss_nil)
      pss_dead), (ss_seq (ss_if (st_or (st_not (st_tB (se_call (sa_cons (se_var 0) sa_nil)))) (st_not (st_tTest (se_chain oS_le oS_le (SE.b (se_int (i := 1))) (SE.b (se_cb c1_len (SE.b (se_var 0)))) (SE.b (se_int (i := 24))))))) (ss_raise (se_neg (SE.b (se_int (i := 1)))) (fun _ h => nomatch h)) ss_nil)
      ss_dead), ?_⟩
  rintro ds P PX ⟨us, rfl, lu, h, px⟩
  walk_at "u"
  refine row_tup ?_
  refine iteF ?_
  walk_at "u"
  show if decide ((1 : Int) ≤ (us.length : Nat)) = true then _ else _
  by_cases h1 : (1 : Int) ≤ (us.length : Nat)
  · rw [decide_eq_true h1]
    refine iteT ?_
    walk_at "u"
    show if (!decide (((us.length : Nat) : Int) ≤ 24)) = true then _ else _
    rw [decide_eq_false (show ¬ ((us.length : Nat) : Int) ≤ 24 by omega)]
    refine iteT ?_
    walk_at "u"
    exact px
  · rw [decide_eq_false h1]
    refine iteF ?_
    walk_at "u"
    exact px

theorem ok_chk_N {f fR fB : Addr} {fd fdR fdB : FuncData} (F : Fun K "check_steps" "check_steps" s_check_steps f fd) (B : Blt mg) (L : Lim mg) (DR : Cal K mg "is_row" s_is_row ["value"] fR fdR) (DB : ExcD P w K mg base "BadSteps" "at" CB fB fdB) : FnOk P w K mg base (L2.CX P w) 3 f fd ["steps"] (spX K TT (wChkN K CB)) := by
  obtain ⟨t24, e24⟩ := L.steps
  have GR : FnOk P w K mg base CX0 1 fR fdR ["value"] (spU K TT (wRowG K)) := ok_rowG DR.F B
  refine fn_x F sc_check (by decide) (fun ds Q QX ⟨_, e, _⟩ => by rw [e]; rfl) fun cdv A outer s H E hr tk po => ?_
  refine ⟨_, _, ([], []), ([], []), (pss_cons (ps_if (PW.pt (pw_or (pt_not (pt_val (pe_call GR (hr.mono (by decide)) (by rfl) DR.g DR.F.kp DR.b .nil pass0 (pa_cons (pv 0) pa_nil)))) (pw_or1 (pt_not (pt_chain op_le op_le pe_int (pe_callB call_len_ (by rfl) B.len PySem.boot_len (pa_cons (pv 0) pa_nil)) (pe_glob rfl e24 (v := .int 24) ⟨_, rfl⟩)))))) (pss_one (ps_raise rfl tk (pmk_oex DB.T DB.iC DB.tI DB.G (hr.mono (by decide)) DB.b .nil pass0 rfl DB.m (pa_cons (pe_un un_neg pe_int) pa_nil)))) pss_nil)
      pss_dead), (ss_seq (ss_if (st_or (st_not (st_tB (se_call (sa_cons (se_var 0) sa_nil)))) (st_not (st_tTest (se_chain oS_le oS_le (SE.b (se_int (i := 1))) (SE.b (se_cb c1_len (SE.b (se_var 0)))) (SE.b (se_int (i := 24))))))) (ss_raise (se_neg (SE.b (se_int (i := 1)))) (fun _ h => nomatch h)) ss_nil)
      ss_dead), ?_⟩
  rintro ds P PX ⟨d, rfl, ⟨t, ht, hk⟩, px⟩
  walk_at "u"
  refine ⟨d, t, false, rfl, ht, hk, ?_⟩
  refine iteT ?_
  refine iteT ?_
  walk_at "u"
  exact px

end
end KX
/-! check_steps: the step that it refuses. -/
namespace KX
open PySem PySem.Spec PyProof.Rows L2 UL
section
variable {P : Program} {w : World} {K : PySem.W.Frag} {mg : Str → Option Value} {base : Heap} {T : TbC}
/-- a step that is refused behind these -/
def BadStp (pre : List Stp) (x : Dt) : Prop := stpB x = false ∨ ∃ st : Stp, x = dStp st ∧ StpOk st ∧ (st ∈ pre ∨ 4 ≤ cnt pre st.a)
def wChkI (CB : Addr) : List Dt → (Dt → Prop) → (Xn → Prop) → Prop := fun ds P PX => ∃ (d : Dt) (pre : List Stp) (x : Dt) (post : List Dt), ds = [d] ∧ d.seq = some (pre.map dStp ++ x :: post) ∧ (∀ s ∈ pre, StpOk s) ∧ pre.Nodup ∧ (∀ a, cnt pre a ≤ 4) ∧ pre.length + 1 + post.length ≤ 24 ∧ TyP x ∧ BadStp pre x ∧ PX ⟨CB, "at", .int (pre.length : Nat)⟩
theorem stp_ok {s : Stp} (h : StpOk s) : stpB (dStp s) = true := by
  obtain ⟨h1, h2, h3, h4, h5⟩ := h
  show ((decide (0 ≤ s.a) && decide (s.a ≤ 99)) && (nmB (.str s.w) && (decide (0 ≤ s.b) && decide (s.b ≤ 99)))) = true
  rw [nameOk_b h3, decide_eq_true h1, decide_eq_true h2, decide_eq_true h4, decide_eq_true h5]
  rfl
theorem stp_typ {s : Stp} (h : StpOk s) : TyP (dStp s) := by
  obtain ⟨h1, h2, h3, h4, h5⟩ := h
  refine ⟨rfl, fun es e x hx => ?_⟩
  cases e
  simp only [List.mem_cons, List.not_mem_nil, or_false] at hx
  rcases hx with rfl | rfl | rfl
  · exact ⟨rfl, fun z e => nomatch e⟩
  · exact ⟨rfl, fun z e => by cases e; have := h3.hi; rw [len_cps, sizeLine_eq]; omega⟩
  · exact ⟨rfl, fun z e => nomatch e⟩
theorem row_seq {d : Dt} {es : List Dt} {P : Dt → Prop} (e : d.seq = some es) (h : P (.bl true)) : wRowG K [d] P := by
  cases d <;> first | (cases e; done) | exact row_lst h | exact row_tup h
section
variable {σ : L2.St} {H : Hp} {a : Addr} {xs : List V} {j : Nat} {g : V → L2.St → Hp → (L2.St → Hp → Prop) → Prop} {tb : TS} {D : Ends}
theorem for_enumX (hs : σ[j]? = some (some (.ref a))) (Pv : Nat → L2.St → Hp → Prop) (hK : (∀ i σ' H', Pv i σ' H' → SqL K H' a xs) ∨ ∀ i σ' H', Pv i σ' H' → SqT K H' a xs) (h0 : Pv 0 σ H)
    (step : ∀ i x σ' H1 H', i < xs.length → Pv i σ' H1 → YPair (fun i => some (.int (i : Nat))) (fun i => xs[i]?) i H1 x H' → g x σ' H' fun σ2 H2 => tb { D with nx := Pv (i + 1), ct := Pv (i + 1), bk := D.nx } σ2 H2)
    (hd : ∀ σ' H', Pv xs.length σ' H' → D.nx σ' H') : tFor (VE.iEnumS K j) g tb D σ H := by
  refine ⟨a, xs, hs, ?_⟩
  rcases hK with h | h
  · exact .inl ⟨h 0 _ _ h0, for_it walk_enum Pv h0 (fun i σ' H' _ p => h i σ' H' p) step hd⟩
  · exact .inr ⟨h 0 _ _ h0, for_it VE.walk_enumT Pv h0 (fun i σ' H' _ p => h i σ' H' p) step hd⟩
end
theorem ex_sq {H : Hp} {a : Addr} {us : List V} (h : Seq K H a us) : (∀ H', Ex (tts T) H H' → SqL K H' a us) ∨ ∀ H', Ex (tts T) H H' → SqT K H' a us := by
  rcases h with h | h
  · exact .inl fun H' x => h.imp (fun r => r.imp (fun e => x _ _ (fun ps z => nomatch z) e) fun ⟨o, e⟩ => ⟨o, x _ _ (fun ps z => nomatch z) e⟩) id
  · exact .inr fun H' x => .inl (.inl (x _ _ (fun ps z => nomatch z) h))
theorem nc_dT {kv : List (List Key × V)} (c : Addr) (q : Str) : (HO.dT kv) ≠ LamX.CodeO c q := fun z => by
  unfold LamX.CodeO at z
  cases z
theorem nc_dK {kv : List (Key × V)} (c : Addr) (q : Str) : (HO.dK kv) ≠ LamX.CodeO c q := fun z => by
  unfold LamX.CodeO at z
  cases z
theorem ok_chkI {f fR fT CB fB : Addr} {fd fdR fdT fdB : FuncData} (F : Fun K "check_steps" "check_steps" s_check_steps f fd) (B : Blt mg) (L : Lim mg) (DR : Cal K mg "is_row" s_is_row ["value"] fR fdR) (DT : Cal K mg "is_step" s_is_step ["value"] fT fdT) (GT : FnOk P w K mg base CX0 3 fT fdT ["value"] (spU K (tts T) wStepI)) (DB : ExcD P w K mg base "BadSteps" "at" CB fB fdB) :
    FnOk P w K mg base (L2.CX P w) 5 f fd ["steps"] (spX K (tts T) (wChkI CB)) := by
  have GR : FnOk P w K mg base CX0 1 fR fdR ["value"] (spU K (tts T) (wRowG K)) := ok_rowG DR.F B
  obtain ⟨t24, e24⟩ := L.steps
  obtain ⟨t4, e4⟩ := L.leaving
  refine F.okX sc_check (fun vs H Q E ⟨ok, ds, P, PX, _, r, ⟨_, _, _, _, e, _⟩, _⟩ => by rw [r.len, e]; rfl) (fun cdv A outer s H vs Q E hr h => ?_)
  obtain ⟨ok, ds, Pp, PX, hT, r, ⟨d, pre, x, post, rfl, hd, hok, hnd, hlv, h24, tx, bx, px⟩, _, qx⟩ := h
  cases r with
  | @cons _ _ v0 _ r0 rn =>
  cases rn
  obtain ⟨a, us, rfl, hS, rs⟩ := R.seqS hd r0
  have hu := hu_of hr
  have po : PassesOwn (model P w) (A.deeper (envOfC "check_steps" (defScope s_check_steps) s.heap.objs.size f cdv)) (envOfC "check_steps" (defScope s_check_steps) s.heap.objs.size f cdv) (cxOf (L2.CX P w) P w K mg base nCheck "check_steps" (defScope s_check_steps) f cdv A outer s H E).xe := passes_of rfl
  have tk : Takes (cxOf (L2.CX P w) P w K mg base nCheck "check_steps" (defScope s_check_steps) f cdv A outer s H E) (fun cls d _ H' => E cls d H') := takes_of rfl rfl rfl rfl
  refine ⟨_, pss_cons (ps_if (PW.pt (pw_or (pt_not (pt_val (pe_call GR (hr.mono (by decide)) (by rfl) DR.g DR.F.kp DR.b .nil pass0 (pa_cons (pv 0) pa_nil))))
        (pw_or1 (pt_not (pt_chain op_le op_le pe_int (pe_callB call_len_seq (by rfl) B.len PySem.boot_len (pa_cons (pv 0) pa_nil)) (pe_glob rfl e24 (v := .int 24) ⟨_, rfl⟩)))))) (pss_one VL.ps_dead) pss_nil)
      (pss_cons (ps_set (i := 1) sc_check.nd rfl (.inl rfl) pe_dnewT)
      (pss_cons (ps_set (i := 2) sc_check.nd rfl (.inl rfl) pe_dnewK)
      (pss_one (ps_for po rfl (VE.pi_enumS (j := 0) rfl B.enumerate rfl (.inl rfl)) (pg_tup rfl (pgs_cons (pg_name (i := 3) sc_check.nd rfl (.inl rfl)) (pgs_cons (pg_name (i := 4) sc_check.nd rfl (.inl rfl)) pgs_nil)))
        (pss_cons (ps_if (PW.pt (pw_or (pt_not (pt_val (pe_call GT (hr.mono (by decide)) (by rfl) DT.g DT.F.kp DT.b .nil pass0 (pa_cons (pv 4) pa_nil)))) (pw_or1 (pt_cmp (pc_din hu (pv 4) (pv 1)))))) (pss_one (ps_raise rfl tk (pmk_oex DB.T DB.iC DB.tI DB.G (hr.mono (by decide)) DB.b .nil pass0 rfl DB.m (pa_cons (pv 3) pa_nil)))) pss_nil)
        (pss_cons (ps_set (i := 5) sc_check.nd rfl (.inl rfl) (pe_op op_add (pe_dget2 hu (pv 2) (pe_ix ix_tup (pv 4) pe_int (fun _ _ => rfl)) pe_int ⟨rfl, rfl, rfl, rfl⟩) pe_int))
        (pss_cons (ps_if (pt_cmpR op_gt (pv 5) (pe_glob rfl e4 (v := .int 4) ⟨_, rfl⟩) (nomark _)) (pss_one (ps_raise rfl tk (pmk_oex DB.T DB.iC DB.tI DB.G (hr.mono (by decide)) DB.b .nil pass0 rfl DB.m (pa_cons (pv 3) pa_nil)))) pss_nil)
        (pss_cons (ps_dput hu (pv 1) (pv 4) pe_bl rfl)
        (pss_one (ps_dput hu (pv 2) (pe_ix ix_tup (pv 4) pe_int (fun _ _ => rfl)) (pv 5) rfl))))))))))
      , ?_⟩
  have rs0 := rs
  have lus : us.length = pre.length + (post.length + 1) := by
    have := rs.len
    rw [List.length_append, List.length_map, List.length_cons] at this
    omega
  refine ⟨_, rfl, ok, [d], fun e => e = .bl true, hT, .cons r0 .nil, row_seq hd rfl, fun e v1 H1 he x1 r1 => ⟨true, by subst he; exact R.blE r1, ?_⟩⟩
  have hS1 : Seq K H1 a us := extN_seq (fun b o e n => x1 b o n e) hS
  have rs1 := rs.mv (.ex x1)
  refine ⟨_, rfl, a, us, rfl, hS1.sq, _, _, rfl, rfl, _, rfl, ?_⟩
  rw [decide_eq_true (show (1 : Int) ≤ (us.length : Nat) by omega)]
  refine ⟨_, _, rfl, rfl, _, rfl, ?_⟩
  show if (!decide (((us.length : Nat) : Int) ≤ 24)) = true then _ else _
  rw [decide_eq_true (show ((us.length : Nat) : Int) ≤ 24 by omega)]
  refine fun e1 n1 e2 n2 => ?_
  have n21 : e2 ≠ e1 := fun z => by
    rw [z, upd_same] at n2
    cases n2
  have n2' : H1 e2 = none := by rw [upd_ne n21] at n2; exact n2
  have s2 : Ex (tts T) H (upd (upd H1 e1 (.dT [])) e2 (.dK [])) := x1.trans ((Ex.of (same_new (o := .dT []) n1)).trans (.of (same_new (o := .dK []) n2)))
  have hd1 : (upd (upd H1 e1 (.dT [])) e2 (.dK [])) e1 = some (.dT []) := by rw [upd_ne n21.symm, upd_same]
  have hd2 : (upd (upd H1 e1 (.dT [])) e2 (.dK [])) e2 = some (.dK []) := upd_same
  have f1 : ∀ b u, NT u → H b = some u → b ≠ e1 := fun b u nt e z => by
    have := x1 b u nt e
    rw [z, n1] at this
    cases this
  have f2 : ∀ b u, NT u → H b = some u → b ≠ e2 := fun b u nt e z => by
    have := x1 b u nt e
    rw [z, n2'] at this
    cases this
  generalize upd (upd H1 e1 (.dT [])) e2 (.dK []) = H2 at s2 hd1 hd2 ⊢
  have kq : (∀ H', Ex (tts T) H H' → SqL K H' a us) ∨ ∀ H', Ex (tts T) H H' → SqT K H' a us := ex_sq hS
  refine for_enumX (j := 0) (a := a) (xs := us) rfl (fun i σ H3 => ∃ (v3 v4 v5 : Option V) (kv1 : List (List Key × V)) (kv2 : List (Key × V)), σ = [some (.ref a), some (.ref e1), some (.ref e2), v3, v4, v5] ∧ H3 e1 = some (.dT kv1) ∧ H3 e2 = some (.dK kv2) ∧ kv1.length ≤ i ∧ kv2.length ≤ i ∧ i ≤ pre.length ∧
        (∀ s, (valV kv1 (keyS s)).isSome = decide (s ∈ pre.take i)) ∧ (∀ b, (valV kv2 (.inl b)).getD (.int 0) = .int (cnt (pre.take i) b)) ∧ Ex (tts T) H H3)
      (kq.imp (fun k i σ' H' ⟨_, _, _, _, _, _, _, _, _, _, _, _, _, x⟩ => k H' x) (fun k i σ' H' ⟨_, _, _, _, _, _, _, _, _, _, _, _, _, x⟩ => k H' x))
      ⟨none, none, none, [], [], rfl, hd1, hd2, Nat.le_refl _, Nat.le_refl _, Nat.zero_le _, (fun s => by rw [List.take_zero]; exact (decide_eq_false List.not_mem_nil).symm), (fun b => by rw [List.take_zero]; rfl), s2⟩ ?_ ?_
  · rintro i y σ H3 H4 hi ⟨v3, v4, v5, kv1, kv2, rfl, h1, h2, l1, l2, li, m1, m2, s3⟩ ⟨T', y1, y2, rfl, nT, rfl, ey, ex⟩
    have ey := Option.some.inj ey
    subst ey
    have sT : Same H3 (upd H3 T' (.tup [.int (i : Nat), y2])) := same_new nT
    refine ⟨T', _, rfl, .inl (.inl upd_same), rfl, _, _, rfl, _, _, rfl, rfl, ?_⟩
    have g1 := sT _ _ h1
    have g2 := sT _ _ h2
    have s4 : Ex (tts T) H (upd H3 T' (.tup [.int (i : Nat), y2])) := s3.trans (.of sT)
    generalize upd H3 T' (.tup [.int (i : Nat), y2]) = H4 at g1 g2 s4 ⊢
    obtain ⟨z, ez, rz⟩ := (rs.mv (.ex s4)).get ex
    rcases Nat.lt_or_ge i pre.length with lt | ge
    · have es : pre[i]? = some pre[i] := List.getElem?_eq_getElem lt
      have so := hok _ (List.getElem_mem lt)
      have hz : z = dStp pre[i] := by
        rw [List.getElem?_append_left (by rw [List.length_map]; exact lt), List.getElem?_map, es] at ez
        exact (Option.some.inj ez).symm
      generalize pre[i] = st at es so hz
      subst hz
      refine ⟨_, rfl, ok, [_], fun e => e = .bl true, s4.tab hT, .cons rz .nil, ⟨_, rfl, stp_typ so, by rw [stp_ok so]⟩, fun e v1 H5 he x5 r5 => ⟨true, by subst he; exact R.blE r5, ?_⟩⟩
      have g15 : H5 e1 = some (.dT kv1) := x5 _ _ (fun ps z => nomatch z) g1
      have g25 : H5 e2 = some (.dK kv2) := x5 _ _ (fun ps z => nomatch z) g2
      have s05 := s4.trans x5
      obtain ⟨st', t, et, es', t5⟩ := get_tup (steps_of (ss := [st]) (Rs.cons (rz.mv (.ex x5)) .nil)) (i := 0) rfl
      cases es'
      subst et
      refine ⟨_, rfl, _, rfl, e1, _, rfl, DGet.t (k := keyS st) g15 t5, _, rfl, ?_⟩
      have m1s : (valV kv1 (keyS st)).isSome = false := by
        rw [m1 st]
        exact decide_eq_false (take_new hnd es)
      rw [m1s]
      refine ⟨_, rfl, e2, rfl, .inl ⟨_, .inl g25⟩, _, rfl, t, _, _, _, rfl, rfl, .inl (.inl t5), atI_nat (j := 0) rfl, _, DGet.k (k := Sum.inl st.a) g25, ?_⟩
      rw [m2 st.a]
      refine ⟨_, _, rfl, rfl, ?_⟩
      have c4 : cnt (pre.take i) st.a + 1 ≤ 4 := by
        have q1 := hlv st.a
        have q2 := cnt_take st.a es
        have q3 := cnt_take_le pre (i + 1) st.a
        rw [if_pos rfl] at q2
        omega
      refine ⟨_, rfl, _, _, rfl, rfl, _, rfl, ?_⟩
      rw [decide_eq_false (show ¬ (4 : Int) < (cnt (pre.take i) st.a : Nat) + 1 by omega)]
      refine ⟨_, rfl, _, rfl, e1, _, rfl, DPut.t (k := keyS st) g15 t5 (small1000 (by omega)), ?_⟩
      have n12 : e1 ≠ e2 := fun z => by
        rw [z, g25] at g15
        cases g15
      have n1t : t ≠ e1 := fun z => by
        rw [z, g15] at t5
        cases t5
      have g26 : (upd H5 e1 (.dT (putK kv1 (keyS st) (.bl true)))) e2 = some (.dK kv2) := by rw [upd_ne n12.symm]; exact g25
      refine ⟨_, rfl, _, rfl, _, rfl, t, _, _, _, rfl, rfl, .inl (.inl (by rw [upd_ne n1t]; exact t5)), atI_nat (j := 0) rfl, e2, _, rfl, DPut.k (k := Sum.inl st.a) g26 (small1000 (by omega)), ?_⟩
      refine ⟨_, _, _, _, _, rfl, by rw [upd_ne n12, upd_same], upd_same, ?_, ?_, lt, fun s => ?_, fun b => ?_, ⟨fun b u nt e => ?_, fun ht => ?_⟩⟩
      · exact Nat.le_trans (length_putK _ _ _) (Nat.succ_le_succ l1)
      · exact Nat.le_trans (length_putK _ _ _) (Nat.succ_le_succ l2)
      · rw [valV_put, List.take_add_one, es]
        by_cases e : keyS s = keyS st
        · rw [if_pos e, keyS_inj e]
          exact (decide_eq_true (List.mem_append_right _ (List.mem_singleton.mpr rfl))).symm
        · rw [if_neg e, m1 s]
          refine decide_eq_decide.mpr ⟨fun h => List.mem_append_left _ h, fun h => ?_⟩
          rcases List.mem_append.mp h with h | h
          · exact h
          · exact absurd (congrArg keyS (List.mem_singleton.mp h)) e
      · rw [valV_put, cnt_take b es]
        by_cases e : (Sum.inl b : Key) = Sum.inl st.a
        · rw [if_pos e, if_pos (Sum.inl.inj e).symm, Sum.inl.inj e]
          rfl
        · rw [if_neg e, if_neg (fun z => e (congrArg Sum.inl z.symm)), m2 b]
          rfl
      · rw [upd_ne (f2 b u nt e), upd_ne (f1 b u nt e)]
        exact s05 _ _ nt e
      · exact tabs_put g26 (fun ps z => nomatch z) nc_dK (tabs_put g15 (fun ps z => nomatch z) nc_dT (s05.tab ht))
    · have ei : i = pre.length := by omega
      have hz : z = x := by
        rw [ei, List.getElem?_append_right (by rw [List.length_map]; exact Nat.le_refl _), List.length_map, Nat.sub_self] at ez
        exact (Option.some.inj ez).symm
      subst hz
      refine ⟨_, rfl, ok, [_], fun e => e = .bl (stpB z), s4.tab hT, .cons rz .nil, ⟨_, rfl, tx, rfl⟩, fun e v1 H5 he x5 r5 => ⟨stpB z, by subst he; exact R.blE r5, ?_⟩⟩
      have fin : ∀ {H6 : Hp} {σ : L2.St}, Ex (tts T) H H6 → σ[3]? = some (some (.int (i : Nat))) → tMkO CB (spI CB "at") [] (tCons (tVar 3) tNil) σ H6 fun cls d H' => E cls d H' := fun {H6 σ} x6 hσ => by
        refine ⟨_, hσ, by show 1 ≤ 1000; decide, fun a' ha => ⟨a', .int (i : Nat), rfl, upd_same, fun dx hdx ne => ?_⟩⟩
        have hd : H6 dx = none := by rw [upd_ne ne] at hdx; exact hdx
        refine ⟨rfl, dx, [("at", .int (i : Nat))], upd_same, by rw [upd_ne ne]; exact upd_same, hd, ?_⟩
        rw [heap_mk ha hd ne]
        exact qx _ _ _ _ (by rw [← ei] at px; exact px) (x6.trans (.of (same_up hd))) ⟨rfl, dx, .int (i : Nat), rfl, upd_same, .int _⟩
      have s05 := s4.trans x5
      cases eb : stpB z with
      | false => exact fin s05 rfl
      | true =>
        rcases bx with bx | ⟨st, rfl, so, hb⟩
        · rw [bx] at eb
          cases eb
        · have g15 : H5 e1 = some (.dT kv1) := x5 _ _ (fun ps z => nomatch z) g1
          have g25 : H5 e2 = some (.dK kv2) := x5 _ _ (fun ps z => nomatch z) g2
          obtain ⟨st', t, et, es', t5⟩ := get_tup (steps_of (ss := [st]) (Rs.cons (rz.mv (.ex x5)) .nil)) (i := 0) rfl
          cases es'
          subst et
          have ep : pre.take i = pre := List.take_of_length_le (by omega)
          refine ⟨_, rfl, _, rfl, e1, _, rfl, DGet.t (k := keyS st) g15 t5, _, rfl, ?_⟩
          rw [m1 st, ep]
          by_cases hm : st ∈ pre
          · rw [decide_eq_true hm]
            exact fin s05 rfl
          · rw [decide_eq_false hm]
            have hc : 4 ≤ cnt pre st.a := hb.resolve_left hm
            refine ⟨_, rfl, e2, rfl, .inl ⟨_, .inl g25⟩, _, rfl, t, _, _, _, rfl, rfl, .inl (.inl t5), atI_nat (j := 0) rfl, _, DGet.k (k := Sum.inl st.a) g25, ?_⟩
            rw [m2 st.a, ep]
            refine ⟨_, _, rfl, rfl, ?_⟩
            refine ⟨_, rfl, _, _, rfl, rfl, _, rfl, ?_⟩
            rw [decide_eq_true (show (4 : Int) < (cnt pre st.a : Nat) + 1 by omega)]
            exact fin s05 rfl
  · rintro σ H3 ⟨_, _, _, _, _, _, _, _, _, _, li, _⟩
    omega
end
end KX
namespace KX
open PySem PySem.Spec PyProof.Rows L2 UL
local macro_rules | `(tactic| walk_at "u") => `(tactic| repeat (first | ((with_reducible refine' wVar_of ?ke ?_); (case ke => rfl)) | with_reducible refine' wC_of ?_ | with_reducible refine' wB_of ?_ | with_reducible refine' wAnd_of ?_ | with_reducible refine' wOr_of ?_ | with_reducible refine' wNot_of ?_ | with_reducible refine' w2_of ?_ | with_reducible refine' w1_of ?_ | with_reducible refine' wCons_of ?_ | with_reducible refine' wNil_of ?_ | ((with_reducible refine' kIxT_of ?ke ?_); (case ke => rfl)) | with_reducible refine' wSeq_of ?_ | with_reducible refine' wSet_of ?_ | ((with_reducible refine' wSetF_of ?ke ?_); (case ke => rfl)) | ((with_reducible refine' wRetO_of ?ke ?_); (case ke => rfl)) | ((with_reducible refine' wSetNew_of ?hs ?_); (case hs => rfl)) | ((with_reducible refine' wPutN_of ?he ?_); (case he => rfl)) | ((with_reducible refine' wPutI_of ?he ?_); (case he => rfl)) | ((with_reducible refine' wApp_of ?ke ?_); (case ke => rfl)) | with_reducible refine' wRet_of ?_ | with_reducible refine' wRetF_of ?_ | with_reducible refine' wIfS_of ?_ | with_reducible refine' wForS_of ?_ | with_reducible refine' wItemsL_of ?_ | with_reducible refine' wItemsT_of ?_ | with_reducible refine' wLc_of ?_ | with_reducible refine' wAndV_of ?_ | with_reducible refine' wOrV_of ?_ | with_reducible refine' wNotV_of ?_ | with_reducible refine' wIf_of ?_ | with_reducible refine' wGet2_of ?_ | with_reducible refine' wChain_of ?_ | with_reducible refine' wExpr_of ?_ | with_reducible refine' kLenL_of ?_ | with_reducible refine' kLenT_of ?_ | ((with_reducible refine' kFld_of ?ke ?_); (case ke => rfl)) | with_reducible refine' wLc2_of ?_ | with_reducible refine' wNext_of ?_ | ((with_reducible refine' kZip2_of ?k1 ?k2 ?_); (case k1 => rfl); (case k2 => rfl)) | ((with_reducible refine' kZip3_of ?k1 ?k2 ?k3 ?_); (case k1 => rfl); (case k2 => rfl); (case k3 => rfl)) | with_reducible refine' kEnumT_of ?_ | with_reducible refine' wPart_of ?_ | with_reducible refine' wNoPart_of ?_ | with_reducible refine' kTupOfL_of ?_ | with_reducible refine' wEndP_of ?_ | ((with_reducible refine' wNewP_of ?ke ?_); (case ke => rfl)) | with_reducible refine' kI_of ?_ | ((with_reducible refine' wRev_of ?ke ?_); (case ke => rfl)) | with_reducible refine' kNeI_of ?_ | with_reducible refine' kEqI_of ?_ | with_reducible refine' kNeS_of ?_ | with_reducible refine' kEqS_of ?_ | with_reducible refine' wDropX_of ?_ | with_reducible refine' wSetX_of ?_ | with_reducible refine' wRetX_of ?_ | with_reducible refine' wRaise_of ?_ | with_reducible refine' wTry_of ?_ | with_reducible refine' wSlT_of ?_ | with_reducible refine' wSlQ_of ?_ | with_reducible refine' kNeg_of ?_ | with_reducible refine' kLenQ_of ?_ | with_reducible refine' kLstT_of ?_ | with_reducible refine' kLstL_of ?_ | ((with_reducible refine' wSetNewK_of ?hs ?_); (case hs => rfl)) | ((with_reducible refine' wPutK_of ?he ?_); (case he => rfl)) | ((with_reducible refine' wIns_of ?he ?_); (case he => rfl)) | ((with_reducible refine' wPop_of ?he ?_); (case he => rfl))))
section
variable {P : Program} {w : World} {K : PySem.W.Frag} {mg : Str → Option Value} {base : Heap} {TT : List NdefX.NTab} {C CB CZ CM : Addr} {T : TbC} {H H' : Hp}
/-- all that check_steps refuses -/
def wChkA (K : PySem.W.Frag) (CB : Addr) : List Dt → (Dt → Prop) → (Xn → Prop) → Prop := fun ds P PX => (wChkN K CB ds P PX ∨ wChkL CB Dt.lst ds P PX ∨ wChkL CB Dt.tup ds P PX) ∨ wChkI CB ds P PX
theorem ok_chkA {f fR fT CB fB : Addr} {fd fdR fdT fdB : FuncData} (F : Fun K "check_steps" "check_steps" s_check_steps f fd) (B : Blt mg) (L : Lim mg) (DR : Cal K mg "is_row" s_is_row ["value"] fR fdR) (DT : Cal K mg "is_step" s_is_step ["value"] fT fdT) (GT : FnOk P w K mg base CX0 3 fT fdT ["value"] (spU K (tts T) wStepI)) (DB : ExcD P w K mg base "BadSteps" "at" CB fB fdB) :
    FnOk P w K mg base (L2.CX P w) 5 f fd ["steps"] (spX K (tts T) (wChkA K CB)) := by
  refine (fnOr ((fnOr (ok_chk_N (TT := tts T) F B L DR DB) (fnOr (ok_chk_lst (TT := tts T) F B L DR DB) (ok_chk_tup (TT := tts T) F B L DR DB))).mono (by decide)) (ok_chkI (T := T) F B L DR DT GT DB)).imp fun vs H Q E ⟨ok, ds, P, PX, T1, r, h1, q, qx⟩ => ?_
  rcases h1 with (h1 | h1 | h1) | h1
  · exact .inl (.inl ⟨ok, ds, P, PX, T1, r, h1, q, qx⟩)
  · exact .inl (.inr (.inl ⟨ok, ds, P, PX, T1, r, h1, q, qx⟩))
  · exact .inl (.inr (.inr ⟨ok, ds, P, PX, T1, r, h1, q, qx⟩))
  · exact .inr ⟨ok, ds, P, PX, T1, r, h1, q, qx⟩
/-- a hand that is refused for its start, for its steps -/
def wHndS (C CZ : Addr) : List Dt → (Dt → Prop) → (Xn → Prop) → Prop := fun ds P PX => ∃ d e, ds = [.obj C [] [], d, e] ∧ Ty d ∧ staB d = false ∧ PX ⟨CZ, "value", d⟩
def wHndC (K : PySem.W.Frag) (C CB : Addr) : List Dt → (Dt → Prop) → (Xn → Prop) → Prop := fun ds P PX => ∃ (x0 : Int) (e : Dt), ds = [.obj C [] [], .int x0, e] ∧ 0 ≤ x0 ∧ x0 ≤ 99 ∧ wChkA K CB [e] (fun _ => False) PX
theorem sc_hnd : FnScope ["self", "start", "steps", "words", "states", "step"] ["self", "start", "steps"] (defScope s_Hand_init) := ⟨rfl, rfl, rfl, by decide +kernel, rfl, by decide +kernel, by decide +kernel⟩
theorem ok_hndS {f fS fZ : Addr} {fd fdS fdZ : FuncData} (F : Fun K "__init__" "Hand.__init__" s_Hand_init f fd) (DS : Cal K mg "is_state" s_is_state ["value"] fS fdS) (GS : FnOk P w K mg base CX0 2 fS fdS ["value"] (spU K TT wStateI)) (DZ : ExcD P w K mg base "BadState" "value" CZ fZ fdZ) : FnOk P w K mg base (L2.CX P w) 4 f fd ["self", "start", "steps"] (spX K TT (wHndS C CZ)) := by
  refine fn_x F sc_hnd (by decide) (fun ds Q QX ⟨_, _, e, _⟩ => by rw [e]; rfl) fun cdv A outer s H E hr tk po => ?_
  refine ⟨_, _, ([], []), ([], []), (pss_cons (ps_if (pt_not (pt_val (pe_call GS (hr.mono (by decide)) (by rfl) DS.g DS.F.kp DS.b .nil pass0 (pa_cons (pv 1) pa_nil)))) (pss_one (ps_raise rfl tk (pmk_oex DZ.T DZ.iC DZ.tI DZ.G (hr.mono (by decide)) DZ.b .nil pass0 rfl DZ.m (pa_cons (pv 1) pa_nil)))) pss_nil)
      pss_dead), (ss_seq (ss_if (st_not (st_tB (se_call (sa_cons (se_var 1) sa_nil)))) (ss_raise (se_var 1) (fun _ h => nomatch h)) ss_nil)
      ss_dead), ?_⟩
  rintro ds P PX ⟨d, e, rfl, td, sd, px⟩
  walk_at "u"
  refine ⟨d, rfl, td, ?_⟩
  rw [sd]
  refine iteT ?_
  walk_at "u"
  exact px

theorem ok_hndC {f fS fZ fC : Addr} {fd fdS fdZ fdC : FuncData} (F : Fun K "__init__" "Hand.__init__" s_Hand_init f fd) (DS : Cal K mg "is_state" s_is_state ["value"] fS fdS) (GS : FnOk P w K mg base CX0 2 fS fdS ["value"] (spU K TT wStateI)) (DZ : ExcD P w K mg base "BadState" "value" CZ fZ fdZ) (DC : Cal K mg "check_steps" s_check_steps ["steps"] fC fdC) (GC : FnOk P w K mg base (L2.CX P w) 5 fC fdC ["steps"] (spX K TT (wChkA K CB))) : FnOk P w K mg base (L2.CX P w) 6 f fd ["self", "start", "steps"] (spX K TT (wHndC K C CB)) := by
  refine fn_x F sc_hnd (by decide) (fun ds Q QX ⟨_, _, e, _⟩ => by rw [e]; rfl) fun cdv A outer s H E hr tk po => ?_
  refine ⟨_, _, ([], []), ([], []), (pss_cons (ps_if (pt_not (pt_val (pe_call GS (hr.mono (by decide)) (by rfl) DS.g DS.F.kp DS.b .nil pass0 (pa_cons (pv 1) pa_nil)))) (pss_one (ps_raise rfl tk (pmk_oex DZ.T DZ.iC DZ.tI DZ.G (hr.mono (by decide)) DZ.b .nil pass0 rfl DZ.m (pa_cons (pv 1) pa_nil)))) pss_nil)
      (pss_cons (ps_expr (pe_callSD GC (hr.mono (by decide)) (by rfl) DC.g DC.F.kp DC.b .nil (passAt tk) (pa_cons (pv 2) pa_nil)))
      pss_dead)), (ss_seq (ss_if (st_not (st_tB (se_call (sa_cons (se_var 1) sa_nil)))) (ss_raise (se_var 1) (fun _ h => nomatch h)) ss_nil)
      (ss_seq (ss_exprX (sex_call (sa_cons (se_var 2) sa_nil)) (fun _ h => nomatch h))
      ss_dead)), ?_⟩
  rintro ds P PX ⟨x0, e, rfl, h0, h1, px⟩
  walk_at "u"
  refine ⟨.int x0, rfl, rfl, ?_⟩
  rw [show staB (.int x0) = true by show (decide (0 ≤ x0) && decide (x0 ≤ 99)) = true; rw [decide_eq_true h0, decide_eq_true h1]; rfl]
  refine iteF ?_
  walk_at "u"
  exact px

end
end KX
/-! A hand that is refused for its words or its states. -/
namespace KX
open PySem PySem.Spec PyProof.Rows L2 UL
section
variable {P : Program} {w : World} {K : PySem.W.Frag} {mg : Str → Option Value} {base : Heap} {T : TbC}
def wHndM (C CM : Addr) : List Dt → (Dt → Prop) → (Xn → Prop) → Prop := fun ds P PX => ∃ (x0 : Int) (e : Dt) (ss : List Stp), ds = [.obj C [] [], .int x0, e] ∧ 0 ≤ x0 ∧ x0 ≤ 99 ∧ e.seq = some (ss.map dStp) ∧ Good ss ∧ ((∃ ls : List Str, ls.Nodup ∧ (∀ z ∈ ls, ∃ s ∈ ss, s.w = z) ∧ 8 < ls.length) ∨ ∃ fs : List Int, fs.Nodup ∧ (∀ x ∈ fs, Reach ss x0 x) ∧ 8 < fs.length) ∧ PX ⟨CM, "limit", .int 8⟩
theorem reach_dst {ss : List Stp} {x0 : Int} : ∀ x, Reach ss x0 x → x ∈ x0 :: ss.map (·.b) := fun x h => by
  induction h with
  | refl => exact List.mem_cons_self ..
  | step _ hs _ => exact List.mem_cons_of_mem _ (List.mem_map_of_mem hs)
theorem ok_hndM {f C fW fS fN fR fT fC fA fG fE c CM fM : Addr} {fd fdW fdS fdN fdR fdT fdC fdA fdG fdE fdM : FuncData} (F : Fun K "__init__" "Hand.__init__" s_Hand_init f fd) (B : Blt mg) (N : Kin mg) (L : Lim mg) (D : HandD K mg base fW fS fN fR fT fC fA fG fE c T fdW fdS fdN fdR fdT fdC fdA fdG fdE) (DM : ExcD P w K mg base "TooMany" "limit" CM fM fdM) :
    FnOk P w K mg base (L2.CX P w) 6 f fd ["self", "start", "steps"] (spX K (tts T) (wHndM C CM)) := by
  have GS : FnOk P w K mg base CX0 2 fS fdS ["value"] spState := ok_state D.kin.FS B N D.kin.FW D.kin.bW D.kin.gW
  have GC : FnOk P w K mg base CX0 4 fC fdC ["steps"] (spCheck K) := ok_check D.FC B N L D.kin D.FR D.bR D.gR D.FT D.bT D.gT
  have GG : FnOk P w K mg base (L2.CX P w) 4 fG fdG ["start", "steps"] (spReachedX K T CM) := ok_reachedX D.FG B L D.TB D.FA D.bA D.gA DM
  obtain ⟨t8, e8⟩ := L.words
  refine F.okX sc_init (fun vs H Q E ⟨ok, ds, P, PX, _, r, ⟨_, _, _, e, _⟩, _⟩ => by rw [r.len, e]; rfl) (fun cdv A outer s H vs Q E hr h => ?_)
  · obtain ⟨ok, ds, Pp, PX, hT, r, ⟨x0, e, ss, rfl, h0, h1, he, G, big, px⟩, _, qx⟩ := h
    cases r with
    | @cons _ _ v0 _ r0 rn =>
    cases rn with
    | @cons _ _ v1 _ r1 rn =>
    cases rn with
    | @cons _ _ v2 _ r2 rn =>
    cases rn
    obtain ⟨a, us, rfl, hS, rs⟩ := R.seqS he r2
    have hss := steps_of rs
    have tk : Takes (cxOf (L2.CX P w) P w K mg base nInit "Hand.__init__" (defScope s_Hand_init) f cdv A outer s H E) (fun cls d _ H' => E cls d H') := takes_of rfl rfl rfl rfl
    rw [R.intE r1]
    obtain ⟨p, gs, rfl⟩ : ∃ (p : Addr) (gs : Unit), v0 = .ref p := by
      cases r0 with
      | obj e f n t => exact ⟨_, (), rfl⟩
    refine ⟨_, pss_cons (ps_if (pt_not (pt_val (pe_call GS (hr.mono (by decide)) (by rfl) D.kin.gS D.kin.FS.kp D.kin.bS .nil pass0 (pa_cons (pv 1) pa_nil)))) (pss_one VL.ps_dead) pss_nil)
      (pss_cons (ps_expr (pe_call GC (hr.mono (by decide)) (by rfl) D.gC D.FC.kp D.bC .nil pass0 (pa_cons (pv 2) pa_nil)))
      (pss_cons (ps_set (i := 3) sc_init.nd rfl (.inl rfl) (pe_callB (VT.cr_sortedT rfl) (by rfl) B.sorted (by decide +kernel) (pa_cons (VT.pe_scT (own := [("step", 5)]) (g := gName 5) (tt := tYes) rfl sc_init.nd (VE.pi_seqS (j := 2) rfl (.inl rfl)) (blkOk_by (N := nInit) (sc := defScope s_Hand_init) (by decide +kernel))
        (fun _ _ _ _ _ => pg_name (i := 5) sc_init.nd rfl (.inl rfl)) (fun _ _ _ _ _ => pts_nil) (fun _ _ _ _ _ => pe_ix (r := rIxT K) ix_tup (pv 5) pe_int (fun _ _ => rfl))) pa_nil)))
      (pss_cons (ps_if (pt_cmpR op_gt (pe_callB call_len_seq (by rfl) B.len PySem.boot_len (pa_cons (pv 3) pa_nil)) (pe_glob rfl e8 (v := .int 8) ⟨_, rfl⟩) (nomark _)) (pss_one (ps_raise rfl tk (pmk_oex DM.T DM.iC DM.tI DM.G (hr.mono (by decide)) DM.b .nil pass0 rfl DM.m (pa_cons (pe_glob rfl e8 (v := .int 8) ⟨_, rfl⟩) pa_nil)))) pss_nil)
      (pss_cons (ps_set (i := 4) sc_init.nd rfl (.inl rfl) (pe_callSD GG (hr.mono (by decide)) (by rfl) D.gG D.FG.kp D.bG .nil (passAt tk) (pa_cons (pv 1) (pa_cons (pv 2) pa_nil)))) pss_dead)))), ?_⟩
    refine ⟨_, rfl, x0, rfl, h0, h1, true, rfl, ?_⟩
    refine ⟨_, rfl, a, us, ss, rfl, hS, hss, G, fun H1 s1 => ?_⟩
    have l24 := G.hi
    have hS1 := hS.same s1
    have hss1 := hss.same s1
    have lu : us.length = ss.length := hss.length
    -- words
    dsimp only [tSeq, tAsg, tCB, tCons]
    refine VE.sc_seqS (K := K) (a := a) (xs := us) (σ := [some (V.ref p), some (V.int x0), some (V.ref a), none, none, none]) (H := H1) (g := gName 5) (tt := tYes) (te := tOp (rIxT K) (tVar 5) (tC (.int 1))) (vs := [5]) (ww := w) (j := 2) (H0 := H1) rfl (Same.refl _) hS1.sq (fun D i H2 => ∃ (S : Str → Bool) (n : Nat), H2 D = some (VT.SetTO w D S n) ∧ n ≤ i ∧ (∀ z, S z = true ↔ ∃ s ∈ ss.take i, s.w = z) ∧ Same H1 H2)
      (fun D hD => ⟨_, _, upd_same, Nat.le_refl _, (fun z => ⟨(fun h => Bool.noConfusion h), (fun ⟨s, h, _⟩ => by rw [List.take_zero] at h; cases h)⟩), same_new hD⟩) (fun D i H2 _ ⟨_, _, _, _, _, k⟩ => k) ?_ ?_
    · rintro D i y H2 hD hy ⟨S, n, hDS, ln, hSz, s2⟩
      obtain ⟨st, t, rfl, es, ht⟩ := get_tup (hss1.same s2) hy
      have hi' : i < ss.length := (List.getElem?_eq_some_iff.mp es).1
      refine ⟨rfl, _, rfl, t, _, _, _, rfl, rfl, .inl (.inl ht), atI_nat (j := 1) rfl, st.w, S, n, rfl, hDS, by unfold scanBound; omega, _, _, upd_same, ?_, fun z => ?_, fun b o e => ?_⟩
      · split <;> omega
      · rw [Bool.or_eq_true, hSz z, decide_eq_true_eq, List.take_add_one, es]
        constructor
        · rintro (⟨s, h, e⟩ | e)
          · exact ⟨s, List.mem_append_left _ h, e⟩
          · exact ⟨st, List.mem_append_right _ (List.mem_singleton.mpr rfl), e.symm⟩
        · rintro ⟨s, h, e⟩
          rcases List.mem_append.mp h with h | h
          · exact .inl ⟨s, h, e⟩
          · rw [List.mem_singleton.mp h] at e
            exact .inr e.symm
      · rw [upd_ne (ne_of_none e hD)]
        exact s2 b o e
    rintro D0 H2 hD0 ⟨S, n, hDS, ln, hSz, s2⟩
    rw [lu, List.take_length] at hSz
    refine ⟨D0, S, n, rfl, hDS, by omega, fun wl pw w1 w2 w3 w4 npw => ?_⟩
    have s3 : Same H (upd H2 pw (.lst (wl.map V.str))) := (s1.trans s2).trans (same_new npw)
    have hpw : (upd H2 pw (.lst (wl.map V.str))) pw = some (.lst (wl.map V.str)) := upd_same
    generalize upd H2 pw (.lst (wl.map V.str)) = H3 at s3 hpw ⊢
    have wm : ∀ z, z ∈ wl ↔ ∃ s ∈ ss, s.w = z := fun z => (w3 z).trans (hSz z)
    refine ⟨_, rfl, pw, _, rfl, .inl (.inl (.inl hpw)), _, _, rfl, rfl, _, rfl, ?_⟩
    have x3 : Ex (tts T) H H3 := .of s3
    by_cases l8 : 8 < wl.length
    · rw [decide_eq_true (show (8 : Int) < ((wl.map V.str).length : Nat) by rw [List.length_map]; omega)]
      refine ⟨by show 1 ≤ 1000; decide, fun a' ha => ⟨a', .int 8, rfl, upd_same, fun dx hdx ne => ?_⟩⟩
      have hd : H3 dx = none := by rw [upd_ne ne] at hdx; exact hdx
      refine ⟨rfl, dx, [("limit", .int 8)], upd_same, by rw [upd_ne ne]; exact upd_same, hd, ?_⟩
      rw [heap_mk ha hd ne]
      exact qx _ _ _ _ px (x3.trans (.of (same_up hd))) ⟨rfl, dx, .int 8, rfl, upd_same, .int _⟩
    · rw [decide_eq_false (show ¬ (8 : Int) < ((wl.map V.str).length : Nat) by rw [List.length_map]; omega)]
      have hbg : ∃ fs : List Int, fs.Nodup ∧ (∀ x ∈ fs, Reach ss x0 x) ∧ 8 < fs.length := by
        rcases big with ⟨ls, n1, n2, n3⟩ | h
        · exact absurd (Nat.lt_of_lt_of_le n3 (nd_lenS n1 fun z hz => (wm z).mpr (n2 z hz))) l8
        · exact h
      obtain ⟨fs, n1, n2, n3⟩ := hbg
      refine ⟨_, rfl, _, rfl, x0, a, us, ss, x0 :: ss.map (·.b), rfl, tabL_same s3 hT, hS.same s3, hss.same s3, l24, reach_dst, by rw [List.length_cons, List.length_map]; omega, fun ps nl H4 nps hps np nm l8' e4 T4 => ?_, fun fs ok' cls dd H' _ _ _ e4 T4 xr => ?_⟩
      · exact absurd (Nat.lt_of_lt_of_le n3 (nd_lenI n1 fun z hz => (nm z).mpr (n2 z hz))) (by omega)
      · obtain ⟨c1, da, v, c2, c3, c4⟩ := xr
        cases c4
        exact qx _ _ _ _ px ⟨fun b o nt e => e4 _ _ (s3 _ _ e) nt, fun _ => T4⟩ ⟨c1, da, .int (8 : Nat), c2, c3, .int _⟩
end
end KX
/-! All that Hand(..) refuses. -/
namespace KX
open PySem PySem.Spec PyProof.Rows L2 UL
section
variable {P : Program} {w : World} {K : PySem.W.Frag} {mg : Str → Option Value} {base : Heap} {T : TbC}
def wHndA (K : PySem.W.Frag) (C CZ CB CM : Addr) : List Dt → (Dt → Prop) → (Xn → Prop) → Prop := fun ds P PX => (wHndS C CZ ds P PX ∨ wHndC K C CB ds P PX) ∨ wHndM C CM ds P PX
theorem ok_hndA {f C fW fS fN fR fT fC fA fG fE c CZ fZ CB fB CM fM : Addr} {fd fdW fdS fdN fdR fdT fdC fdA fdG fdE fdZ fdB fdM : FuncData} (F : Fun K "__init__" "Hand.__init__" s_Hand_init f fd) (B : Blt mg) (N : Kin mg) (L : Lim mg) (D : HandD K mg base fW fS fN fR fT fC fA fG fE c T fdW fdS fdN fdR fdT fdC fdA fdG fdE) (DZ : ExcD P w K mg base "BadState" "value" CZ fZ fdZ) (DB : ExcD P w K mg base "BadSteps" "at" CB fB fdB) (DM : ExcD P w K mg base "TooMany" "limit" CM fM fdM) :
    FnOk P w K mg base (L2.CX P w) 6 f fd ["self", "start", "steps"] (spX K (tts T) (wHndA K C CZ CB CM)) := by
  have DW : Cal K mg "is_whole" s_is_whole ["value"] fW fdW := ⟨D.kin.FW, D.kin.bW, D.kin.gW⟩
  have DS : Cal K mg "is_state" s_is_state ["value"] fS fdS := ⟨D.kin.FS, D.kin.bS, D.kin.gS⟩
  have DN : Cal K mg "is_name" s_is_name ["value"] fN fdN := ⟨D.kin.FN, D.kin.bN, D.kin.gN⟩
  have DR : Cal K mg "is_row" s_is_row ["value"] fR fdR := ⟨D.FR, D.bR, D.gR⟩
  have DT : Cal K mg "is_step" s_is_step ["value"] fT fdT := ⟨D.FT, D.bT, D.gT⟩
  have DC : Cal K mg "check_steps" s_check_steps ["steps"] fC fdC := ⟨D.FC, D.bC, D.gC⟩
  have GW : FnOk P w K mg base CX0 1 fW fdW ["value"] (spU K (tts T) wWholeA) := ok_wholeA DW.F B N
  have GN : FnOk P w K mg base CX0 1 fN fdN ["value"] (spU K (tts T) wNameG) := ok_nameG DN.F B N
  have GS : FnOk P w K mg base CX0 2 fS fdS ["value"] (spU K (tts T) wStateI) := ok_stateA DS.F B N DW GW
  have GT : FnOk P w K mg base CX0 3 fT fdT ["value"] (spU K (tts T) wStepI) := ok_stepA DT.F B N DS DN GS GN
  have GC : FnOk P w K mg base (L2.CX P w) 5 fC fdC ["steps"] (spX K (tts T) (wChkA K CB)) := ok_chkA DC.F B L DR DT GT DB
  refine (fnOr (fnOr ((ok_hndS (TT := tts T) (C := C) F DS GS DZ).mono (by decide)) (ok_hndC (TT := tts T) (C := C) F DS GS DZ DC GC)) (ok_hndM (C := C) F B N L D DM)).imp fun vs H Q E ⟨ok, ds, P, PX, T1, r, h1, q, qx⟩ => ?_
  rcases h1 with (h1 | h1) | h1
  · exact .inl (.inl ⟨ok, ds, P, PX, T1, r, h1, q, qx⟩)
  · exact .inl (.inr ⟨ok, ds, P, PX, T1, r, h1, q, qx⟩)
  · exact .inr ⟨ok, ds, P, PX, T1, r, h1, q, qx⟩
end
end KX
/-! UL: try with clauses that name their exception or do not -/
namespace UL
open PySem PySem.Spec PyProof.Rows L2
section
variable {K : PySem.W.Frag} {T : List NdefX.NTab} {W : WX} {SL S S' S1 : Sl} {m m' m1 m2 s : Bool} {te ta tb : TE} {t u : WE} {tx : WEX} {C C1 C' : Ct} {σ : L2.St} {H H' H1 : Hp} {ρ : Env} {ts ts1 : TS} {w w' : WS} {XO : XOut}
inductive HdsN (K : PySem.W.Frag) (T : List NdefX.NTab) (XO : XOut) (SL S S' : Sl) : List VY.Cl → List (Addr × WH) → Prop
  | nil : HdsN K T XO SL S S' [] []
  | as {c : Addr} {i : Nat} {tf : Addr → Value → Option Addr → TS} {wh : WH} {l : List VY.Cl} {hs : List (Addr × WH)} (h : SH K T XO SL S S' i tf wh) (r : HdsN K T XO SL S S' l hs) : HdsN K T XO SL S S' ((.ref c, some i, tf) :: l) ((c, wh) :: hs)
  | no {c : Addr} {ts : TS} {w : WS} {l : List VY.Cl} {hs : List (Addr × WH)} (h : SS K T XO SL S S' ts w) (r : HdsN K T XO SL S S' l hs) : HdsN K T XO SL S S' ((.ref c, none, fun _ _ _ => ts) :: l) ((c, fun _ => w) :: hs)
end
end UL
namespace KX
open PySem PySem.Spec PyProof.Rows L2 UL
local macro_rules | `(tactic| walk_at "u") => `(tactic| repeat (first | ((with_reducible refine' wVar_of ?ke ?_); (case ke => rfl)) | with_reducible refine' wC_of ?_ | with_reducible refine' wB_of ?_ | with_reducible refine' wAnd_of ?_ | with_reducible refine' wOr_of ?_ | with_reducible refine' wNot_of ?_ | with_reducible refine' w2_of ?_ | with_reducible refine' w1_of ?_ | with_reducible refine' wCons_of ?_ | with_reducible refine' wNil_of ?_ | ((with_reducible refine' kIxT_of ?ke ?_); (case ke => rfl)) | with_reducible refine' wSeq_of ?_ | with_reducible refine' wSet_of ?_ | ((with_reducible refine' wSetF_of ?ke ?_); (case ke => rfl)) | ((with_reducible refine' wRetO_of ?ke ?_); (case ke => rfl)) | ((with_reducible refine' wSetNew_of ?hs ?_); (case hs => rfl)) | ((with_reducible refine' wPutN_of ?he ?_); (case he => rfl)) | ((with_reducible refine' wPutI_of ?he ?_); (case he => rfl)) | ((with_reducible refine' wApp_of ?ke ?_); (case ke => rfl)) | with_reducible refine' wRet_of ?_ | with_reducible refine' wRetF_of ?_ | with_reducible refine' wIfS_of ?_ | with_reducible refine' wForS_of ?_ | with_reducible refine' wItemsL_of ?_ | with_reducible refine' wItemsT_of ?_ | with_reducible refine' wLc_of ?_ | with_reducible refine' wAndV_of ?_ | with_reducible refine' wOrV_of ?_ | with_reducible refine' wNotV_of ?_ | with_reducible refine' wIf_of ?_ | with_reducible refine' wGet2_of ?_ | with_reducible refine' wChain_of ?_ | with_reducible refine' wExpr_of ?_ | with_reducible refine' kLenL_of ?_ | with_reducible refine' kLenT_of ?_ | ((with_reducible refine' kFld_of ?ke ?_); (case ke => rfl)) | with_reducible refine' wLc2_of ?_ | with_reducible refine' wNext_of ?_ | ((with_reducible refine' kZip2_of ?k1 ?k2 ?_); (case k1 => rfl); (case k2 => rfl)) | ((with_reducible refine' kZip3_of ?k1 ?k2 ?k3 ?_); (case k1 => rfl); (case k2 => rfl); (case k3 => rfl)) | with_reducible refine' kEnumT_of ?_ | with_reducible refine' wPart_of ?_ | with_reducible refine' wNoPart_of ?_ | with_reducible refine' kTupOfL_of ?_ | with_reducible refine' wEndP_of ?_ | ((with_reducible refine' wNewP_of ?ke ?_); (case ke => rfl)) | with_reducible refine' kI_of ?_ | ((with_reducible refine' wRev_of ?ke ?_); (case ke => rfl)) | with_reducible refine' kNeI_of ?_ | with_reducible refine' kEqI_of ?_ | with_reducible refine' kNeS_of ?_ | with_reducible refine' kEqS_of ?_ | with_reducible refine' wDropX_of ?_ | with_reducible refine' wSetX_of ?_ | with_reducible refine' wRetX_of ?_ | with_reducible refine' wRaise_of ?_ | with_reducible refine' wTry_of ?_ | with_reducible refine' wSlT_of ?_ | with_reducible refine' wSlQ_of ?_ | with_reducible refine' kNeg_of ?_ | with_reducible refine' kLenQ_of ?_ | with_reducible refine' kLstT_of ?_ | with_reducible refine' kLstL_of ?_ | ((with_reducible refine' wSetNewK_of ?hs ?_); (case hs => rfl)) | ((with_reducible refine' wPutK_of ?he ?_); (case he => rfl)) | ((with_reducible refine' wIns_of ?he ?_); (case he => rfl)) | ((with_reducible refine' wPop_of ?he ?_); (case he => rfl))))
section
variable {P : Program} {w : World} {K : PySem.W.Frag} {mg : Str → Option Value} {base : Heap} {TT : List NdefX.NTab} {C CZ CB CM : Addr} {H H' : Hp}
theorem wChkA.mono {CB : Addr} {ds : List Dt} {P P' : Dt → Prop} {PX PX' : Xn → Prop} (h : wChkA K CB ds P PX) (k : ∀ x, PX x → PX' x) : wChkA K CB ds P' PX' := by
  rcases h with (⟨d, e, n, hx⟩ | ⟨us, e, l, o, hx⟩ | ⟨us, e, l, o, hx⟩) | ⟨d, pre, x, post, e, h1, h2, h3, h4, h5, h6, h7, hx⟩
  · exact .inl (.inl ⟨d, e, n, k _ hx⟩)
  · exact .inl (.inr (.inl ⟨us, e, l, o, k _ hx⟩))
  · exact .inl (.inr (.inr ⟨us, e, l, o, k _ hx⟩))
  · exact .inr ⟨d, pre, x, post, e, h1, h2, h3, h4, h5, h6, h7, k _ hx⟩
theorem wHndA.mono {ds : List Dt} {P P' : Dt → Prop} {PX PX' : Xn → Prop} (h : wHndA K C CZ CB CM ds P PX) (k : ∀ x, PX x → PX' x) : wHndA K C CZ CB CM ds P' PX' := by
  rcases h with (⟨d, e, ed, td, sd, hx⟩ | ⟨x0, e, ed, h0, h1, hc⟩) | ⟨x0, e, ss, ed, h0, h1, he, G, big, hx⟩
  · exact .inl (.inl ⟨d, e, ed, td, sd, k _ hx⟩)
  · exact .inl (.inr ⟨x0, e, ed, h0, h1, hc.mono k⟩)
  · exact .inr ⟨x0, e, ss, ed, h0, h1, he, G, big, k _ hx⟩
/-- which exceptions are which -/
structure Xh3 (K : PySem.W.Frag) (CZ CB CM : Addr) : Prop where
  zz : PySem.W.exmOne K (.ref CZ) (.ref CZ) = some true
  bz : PySem.W.exmOne K (.ref CB) (.ref CZ) = some false
  bb : PySem.W.exmOne K (.ref CB) (.ref CB) = some true
  mz : PySem.W.exmOne K (.ref CM) (.ref CZ) = some false
  mb : PySem.W.exmOne K (.ref CM) (.ref CB) = some false
  mm : PySem.W.exmOne K (.ref CM) (.ref CM) = some true
def wTo3X (K : PySem.W.Frag) (C CZ CB CM : Addr) : List Dt → (Dt → Prop) → Prop := fun ds P => ∃ d e, ds = [d, e] ∧ wHndA K C CZ CB CM [.obj C [] [], d, e] (fun _ => False) fun x => (∃ v, x = ⟨CZ, "value", v⟩ ∧ P (.tup [.str "state", v])) ∨ (∃ v, x = ⟨CB, "at", v⟩ ∧ P (.tup [.str "steps", v])) ∨ ∃ v, x = ⟨CM, "limit", v⟩ ∧ P (.tup [.str "many", v])
def wTo3G : List Dt → (Dt → Prop) → Prop := fun ds P => ∃ (x0 : Int) (e : Dt) (ss : List Stp), ds = [.int x0, e] ∧ e.seq = some (ss.map dStp) ∧ HdIn x0 ss ∧ P (.tup [.str "hand"])
theorem sc_to3G : FnScope ["_law_start", "_law_steps", "_law_told_here", "e"] ["_law_start", "_law_steps"] (defScope s_law_told) := ⟨rfl, rfl, rfl, by decide +kernel, rfl, by decide +kernel, by decide +kernel⟩
theorem ok_to3G {f fJ fZ fB fM : Addr} {fd fdJ fdZ fdB fdM : FuncData} (F : Fun K "_law_told" "_law_told" s_law_told f fd) (MH : Mk K C fJ) (mC : mg "Hand" = some (.ref C)) (bJ : Binds K fdJ ["self", "start", "steps"] []) (DZ : ExcD P w K mg base "BadState" "value" CZ fZ fdZ) (DB : ExcD P w K mg base "BadSteps" "at" CB fB fdB) (DM : ExcD P w K mg base "TooMany" "limit" CM fM fdM) (X3 : Xh3 K CZ CB CM) (GJ : FnOk P w K mg base CX0 5 fJ fdJ ["self", "start", "steps"] (spHand K C T)) : FnOk P w K mg base CX0 8 f fd ["_law_start", "_law_steps"] (spU K (tts T) wTo3G) := by
  refine fn_u F sc_to3G (by decide) (fun ds Q ⟨_, _, _, e, _⟩ => by rw [e]; rfl) fun cdv A outer s H E hr => ?_
  refine ⟨_, _, ([], []), ([], []), (pss_cons (ps_set (i := 2) sc_to3G.nd rfl (.inl rfl) (pe_tup pa_nil))
      (pss_cons (ps_tryB rfl rfl sc_to3G.nd takes_none5 (fun W pn xe tk1 po1 => (pss_cons (ps_expr (pe_make MH GJ (hr.mono (by decide)) (by rfl) mC bJ .nil pass0 (pa_cons (pv 0) (pa_cons (pv 1) pa_nil))))
      (pss_one (ps_set (i := 2) sc_to3G.nd rfl (.inl rfl) (pe_tup (pa_cons pe_str pa_nil))))))
      (.as (i := 3) rfl rfl ⟨rfl, by decide, .inl DZ.m⟩ (fun a oe cls d pn hz hf => pss_one (ps_set (i := 2) sc_to3G.nd rfl (.inl rfl) (pe_tup (pa_cons pe_str (pa_cons (pe_xf DZ.xf DZ.hno hz hf (pv 3)) pa_nil))))) (.as (i := 3) rfl rfl ⟨rfl, by decide, .inl DB.m⟩ (fun a oe cls d pn hz hf => pss_one (ps_set (i := 2) sc_to3G.nd rfl (.inl rfl) (pe_tup (pa_cons pe_str (pa_cons (pe_xf DB.xf DB.hno hz hf (pv 3)) pa_nil))))) (.as (i := 3) rfl rfl ⟨rfl, by decide, .inl DM.m⟩ (fun a oe cls d pn hz hf => pss_one (ps_set (i := 2) sc_to3G.nd rfl (.inl rfl) (pe_tup (pa_cons pe_str (pa_cons (pe_xf DM.xf DM.hno hz hf (pv 3)) pa_nil))))) .nil))))
      (pss_one (ps_ret (pv 2))))), (ss_seq (ss_cast (S' := ([], [])) (ss_set 2 (se_tup sa_nil)))
      (ss_seq (ss_tryB (fun W => (ss_seq (ss_expr (SE.b (se_make mk_hand (sa_cons (se_var 0) (sa_cons (se_var 1) sa_nil)))))
      (ss_cast (S' := ([], [])) (ss_set 2 (se_tup (sa_cons (se_str (z := "hand")) sa_nil))))))
      (.as (sh_tag (CC := CZ) (f := "value") (tag := "state") (i := 3) (j := 2)) (.as (sh_tag (CC := CB) (f := "at") (tag := "steps") (i := 3) (j := 2)) (.as (sh_tag (CC := CM) (f := "limit") (tag := "many") (i := 3) (j := 2)) .nil))))
      (ss_ret (se_var 2)))), ?_⟩
  rintro ds P ⟨x0, e, ss, rfl, he, hi, q⟩
  walk_at "u"
  refine ⟨by decide, ?_⟩
  walk_at "u"
  refine ⟨x0, ss, e, rfl, he, hi, fun h _ _ _ => ?_⟩
  walk_at "u"
  refine ⟨by show 1 ≤ 1000; decide, ?_⟩
  walk_at "u"
  exact q
theorem sc_to3X : FnScope ["_law_start", "_law_steps", "_law_told_here", "e"] ["_law_start", "_law_steps"] (defScope s_law_told) := ⟨rfl, rfl, rfl, by decide +kernel, rfl, by decide +kernel, by decide +kernel⟩
theorem ok_to3X {f fJ fZ fB fM : Addr} {fd fdJ fdZ fdB fdM : FuncData} (F : Fun K "_law_told" "_law_told" s_law_told f fd) (MH : Mk K C fJ) (mC : mg "Hand" = some (.ref C)) (bJ : Binds K fdJ ["self", "start", "steps"] []) (DZ : ExcD P w K mg base "BadState" "value" CZ fZ fdZ) (DB : ExcD P w K mg base "BadSteps" "at" CB fB fdB) (DM : ExcD P w K mg base "TooMany" "limit" CM fM fdM) (X3 : Xh3 K CZ CB CM) (GJ : FnOk P w K mg base (L2.CX P w) 6 fJ fdJ ["self", "start", "steps"] (spX K TT (wHndA K C CZ CB CM))) : FnOk P w K mg base CX0 8 f fd ["_law_start", "_law_steps"] (spU K TT (wTo3X K C CZ CB CM)) := by
  refine fn_u F sc_to3X (by decide) (fun ds Q ⟨_, _, e, _⟩ => by rw [e]; rfl) fun cdv A outer s H E hr => ?_
  refine ⟨_, _, ([], []), ([], []), (pss_cons (ps_set (i := 2) sc_to3X.nd rfl (.inl rfl) (pe_tup pa_nil))
      (pss_cons (ps_tryB rfl rfl sc_to3X.nd takes_none5 (fun W pn xe tk1 po1 => (pss_cons (ps_expr (VX.pe_makeSD MH GJ (hr.mono (by decide)) (by rfl) mC bJ .nil (passAt tk1) (pa_cons (pv 0) (pa_cons (pv 1) pa_nil))))
      (pss_one (ps_set (i := 2) sc_to3X.nd rfl (.inl rfl) (pe_tup (pa_cons pe_str pa_nil))))))
      (.as (i := 3) rfl rfl ⟨rfl, by decide, .inl DZ.m⟩ (fun a oe cls d pn hz hf => pss_one (ps_set (i := 2) sc_to3X.nd rfl (.inl rfl) (pe_tup (pa_cons pe_str (pa_cons (pe_xf DZ.xf DZ.hno hz hf (pv 3)) pa_nil))))) (.as (i := 3) rfl rfl ⟨rfl, by decide, .inl DB.m⟩ (fun a oe cls d pn hz hf => pss_one (ps_set (i := 2) sc_to3X.nd rfl (.inl rfl) (pe_tup (pa_cons pe_str (pa_cons (pe_xf DB.xf DB.hno hz hf (pv 3)) pa_nil))))) (.as (i := 3) rfl rfl ⟨rfl, by decide, .inl DM.m⟩ (fun a oe cls d pn hz hf => pss_one (ps_set (i := 2) sc_to3X.nd rfl (.inl rfl) (pe_tup (pa_cons pe_str (pa_cons (pe_xf DM.xf DM.hno hz hf (pv 3)) pa_nil))))) .nil))))
      (pss_one (ps_ret (pv 2))))), (ss_seq (ss_cast (S' := ([], [])) (ss_set 2 (se_tup sa_nil)))
      (ss_seq (ss_tryB (fun W => (ss_seq (ss_exprX (sex_makeX (sa_cons (se_var 0) (sa_cons (se_var 1) sa_nil))) (fun _ h => (Option.some.inj h).symm))
      (ss_cast (S' := ([], [])) (ss_set 2 (se_tup (sa_cons (se_str (z := "hand")) sa_nil))))))
      (.as (sh_tag (CC := CZ) (f := "value") (tag := "state") (i := 3) (j := 2)) (.as (sh_tag (CC := CB) (f := "at") (tag := "steps") (i := 3) (j := 2)) (.as (sh_tag (CC := CM) (f := "limit") (tag := "many") (i := 3) (j := 2)) .nil))))
      (ss_ret (se_var 2)))), ?_⟩
  rintro ds P ⟨d, e, rfl, h1⟩
  walk_at "u"
  refine ⟨by decide, ?_⟩
  walk_at "u"
  refine h1.mono fun x hx => ?_
  rcases hx with ⟨v, rfl, q⟩ | ⟨v, rfl, q⟩ | ⟨v, rfl, q⟩
  · refine ⟨true, X3.zz, ?_⟩
    refine iteT ⟨rfl, rfl, by show 3 < 4; decide, ?_⟩
    walk_at "u"
    exact q
  · refine ⟨false, X3.bz, ?_⟩
    refine iteF ?_
    refine ⟨true, X3.bb, ?_⟩
    refine iteT ⟨rfl, rfl, by show 3 < 4; decide, ?_⟩
    walk_at "u"
    exact q
  · refine ⟨false, X3.mz, ?_⟩
    refine iteF ?_
    refine ⟨false, X3.mb, ?_⟩
    refine iteF ?_
    refine ⟨true, X3.mm, ?_⟩
    refine iteT ⟨rfl, rfl, by show 3 < 4; decide, ?_⟩
    walk_at "u"
    exact q
end
end KX
namespace KX
open PySem PySem.Spec PyProof.Rows L2 UL
local macro_rules | `(tactic| walk_at "u") => `(tactic| repeat (first | ((with_reducible refine' wVar_of ?ke ?_); (case ke => rfl)) | with_reducible refine' wC_of ?_ | with_reducible refine' wB_of ?_ | with_reducible refine' wAnd_of ?_ | with_reducible refine' wOr_of ?_ | with_reducible refine' wNot_of ?_ | with_reducible refine' w2_of ?_ | with_reducible refine' w1_of ?_ | with_reducible refine' wCons_of ?_ | with_reducible refine' wNil_of ?_ | ((with_reducible refine' kIxT_of ?ke ?_); (case ke => rfl)) | with_reducible refine' wSeq_of ?_ | with_reducible refine' wSet_of ?_ | ((with_reducible refine' wSetF_of ?ke ?_); (case ke => rfl)) | ((with_reducible refine' wRetO_of ?ke ?_); (case ke => rfl)) | ((with_reducible refine' wSetNew_of ?hs ?_); (case hs => rfl)) | ((with_reducible refine' wPutN_of ?he ?_); (case he => rfl)) | ((with_reducible refine' wPutI_of ?he ?_); (case he => rfl)) | ((with_reducible refine' wApp_of ?ke ?_); (case ke => rfl)) | with_reducible refine' wRet_of ?_ | with_reducible refine' wRetF_of ?_ | with_reducible refine' wIfS_of ?_ | with_reducible refine' wForS_of ?_ | with_reducible refine' wItemsL_of ?_ | with_reducible refine' wItemsT_of ?_ | with_reducible refine' wLc_of ?_ | with_reducible refine' wAndV_of ?_ | with_reducible refine' wOrV_of ?_ | with_reducible refine' wNotV_of ?_ | with_reducible refine' wIf_of ?_ | with_reducible refine' wGet2_of ?_ | with_reducible refine' wChain_of ?_ | with_reducible refine' wExpr_of ?_ | with_reducible refine' kLenL_of ?_ | with_reducible refine' kLenT_of ?_ | ((with_reducible refine' kFld_of ?ke ?_); (case ke => rfl)) | with_reducible refine' wLc2_of ?_ | with_reducible refine' wNext_of ?_ | ((with_reducible refine' kZip2_of ?k1 ?k2 ?_); (case k1 => rfl); (case k2 => rfl)) | ((with_reducible refine' kZip3_of ?k1 ?k2 ?k3 ?_); (case k1 => rfl); (case k2 => rfl); (case k3 => rfl)) | with_reducible refine' kEnumT_of ?_ | with_reducible refine' wPart_of ?_ | with_reducible refine' wNoPart_of ?_ | with_reducible refine' kTupOfL_of ?_ | with_reducible refine' wEndP_of ?_ | ((with_reducible refine' wNewP_of ?ke ?_); (case ke => rfl)) | with_reducible refine' kI_of ?_ | ((with_reducible refine' wRev_of ?ke ?_); (case ke => rfl)) | with_reducible refine' kNeI_of ?_ | with_reducible refine' kEqI_of ?_ | with_reducible refine' kNeS_of ?_ | with_reducible refine' kEqS_of ?_ | with_reducible refine' wDropX_of ?_ | with_reducible refine' wSetX_of ?_ | with_reducible refine' wRetX_of ?_ | with_reducible refine' wRaise_of ?_ | with_reducible refine' wTry_of ?_ | with_reducible refine' wSlT_of ?_ | with_reducible refine' wSlQ_of ?_ | with_reducible refine' kNeg_of ?_ | with_reducible refine' kLenQ_of ?_ | with_reducible refine' kLstT_of ?_ | with_reducible refine' kLstL_of ?_ | ((with_reducible refine' wSetNewK_of ?hs ?_); (case hs => rfl)) | ((with_reducible refine' wPutK_of ?he ?_); (case he => rfl)) | ((with_reducible refine' wIns_of ?he ?_); (case he => rfl)) | ((with_reducible refine' wPop_of ?he ?_); (case he => rfl))))
section
variable {P : Program} {w : World} {K : PySem.W.Frag} {mg : Str → Option Value} {base : Heap} {TT : List NdefX.NTab} {C CS : Addr} {H H' : Hp}
theorem sc_lst : FnScope ["_law_thing"] ["_law_thing"] (defScope s_law_is_state) := ⟨rfl, rfl, rfl, by decide +kernel, rfl, by decide +kernel, by decide +kernel⟩
theorem ok_lst {f : Addr} {fd : FuncData} (F : Fun K "_law_is_state" "_law_is_state" s_law_is_state f fd) (B : Blt mg) (N : Kin mg) : FnOk P w K mg base CX0 2 f fd ["_law_thing"] (spU K TT wStateI) := by
  refine fn_u F sc_lst (by decide) (fun ds Q ⟨_, e, _⟩ => by rw [e]; rfl) fun cdv A outer s H E hr => ?_
  refine ⟨_, _, ([], []), ([], []), (pss_one (ps_ret (pe_and (pe_callB call_isi (by rfl) B.isinstance (by decide +kernel) (pa_cons (pv 0) (pa_cons (pe_bltn rfl B.int (by decide +kernel) (v := .ty "int") rfl) pa_nil))) (pe_and (pe_not (pe_callB call_isi (by rfl) B.isinstance (by decide +kernel) (pa_cons (pv 0) (pa_cons (pe_bltn rfl N.bool (by decide +kernel) (v := .ty "bool") rfl) pa_nil)))) (pe_one (pe_chain op_le op_le pe_int (pv 0) pe_int)))))), (ss_ret (se_and (se_isG (.ty _) (SE.b (se_var 0))) (se_and (se_not (se_isG (.ty _) (SE.b (se_var 0)))) (se_chain oS_le oS_le (SE.b (se_int (i := 0))) (SE.b (se_var 0)) (SE.b (se_int (i := 99))))))), ?_⟩
  rintro ds P ⟨d, rfl, td, q⟩
  walk_at "u"
  cases d with
  | int i =>
    refine ⟨_, true, .ty (n := "int") rfl, kit_ty (by decide +kernel), ?_⟩
    refine iteT ?_
    walk_at "u"
    refine ⟨_, false, .ty (n := "int") rfl, kit_ty (by decide +kernel), ?_⟩
    refine iteT ?_
    walk_at "u"
    have q : P (.bl (decide (0 ≤ i) && decide (i ≤ 99))) := q
    by_cases h0 : 0 ≤ i
    · rw [decide_eq_true h0] at q
      show if decide (0 ≤ i) = true then _ else _
      rw [decide_eq_true h0]
      refine iteT ?_
      walk_at "u"
      exact q
    · rw [decide_eq_false h0] at q
      show if decide (0 ≤ i) = true then _ else _
      rw [decide_eq_false h0]
      exact q
  | bl b =>
    refine ⟨_, true, .ty (n := "bool") rfl, kit_ty (by decide +kernel), ?_⟩
    refine iteT ?_
    walk_at "u"
    refine ⟨_, true, .ty (n := "bool") rfl, kit_ty (by decide +kernel), ?_⟩
    exact q
  | _ =>
    first
    | (cases td; done)
    | (refine ⟨_, false, .ty rfl, kit_ty (by decide +kernel), ?_⟩
       exact q)
theorem sc_lstep : FnScope ["_law_thing"] ["_law_thing"] (defScope s_law_is_step) := ⟨rfl, rfl, rfl, by decide +kernel, rfl, by decide +kernel, by decide +kernel⟩
theorem ok_lstep {f fS fN : Addr} {fd fdS fdN : FuncData} (F : Fun K "_law_is_step" "_law_is_step" s_law_is_step f fd) (B : Blt mg) (N : Kin mg) (DS : Cal K mg "_law_is_state" s_law_is_state ["_law_thing"] fS fdS) (DN : Cal K mg "_law_is_name" s_law_is_name ["_law_thing"] fN fdN) (GS : FnOk P w K mg base CX0 2 fS fdS ["_law_thing"] (spU K TT wStateI)) (GN : FnOk P w K mg base CX0 2 fN fdN ["_law_thing"] (spU K TT wNameG)) : FnOk P w K mg base CX0 3 f fd ["_law_thing"] (spU K TT wStepI) := by
  refine fn_u F sc_lstep (by decide) (fun ds Q ⟨_, e, _⟩ => by rw [e]; rfl) fun cdv A outer s H E hr => ?_
  refine ⟨_, _, ([], []), ([], []), (pss_cons (ps_if (PW.pt (pw_or (pt_not (pt_val (pe_callB call_isi (by rfl) B.isinstance (by decide +kernel) (pa_cons (pv 0) (pa_cons (pe_bltn rfl B.tuple (by decide +kernel) (v := .ty "tuple") rfl) pa_nil))))) (pw_or1 (pt_cmpR op_ne (pe_callB call_len_ (by rfl) B.len PySem.boot_len (pa_cons (pv 0) pa_nil)) pe_int (nomark _))))) (pss_one (ps_ret pe_bl)) pss_nil)
      (pss_one (ps_ret (pe_and (pe_call GS (hr.mono (by decide)) (by rfl) DS.g DS.F.kp DS.b .nil pass0 (pa_cons (pe_ix (r := rIx K) ix_seq (pv 0) pe_int (fun _ _ => rfl)) pa_nil)) (pe_and (pe_call GN (hr.mono (by decide)) (by rfl) DN.g DN.F.kp DN.b .nil pass0 (pa_cons (pe_ix (r := rIx K) ix_seq (pv 0) pe_int (fun _ _ => rfl)) pa_nil)) (pe_one (pe_call GS (hr.mono (by decide)) (by rfl) DS.g DS.F.kp DS.b .nil pass0 (pa_cons (pe_ix (r := rIx K) ix_seq (pv 0) pe_int (fun _ _ => rfl)) pa_nil)))))))), (ss_seq (ss_if (st_or (st_not (st_tB (se_isG (.ty _) (SE.b (se_var 0))))) (st_tTest (se_op oS_ne (SE.b (se_cb c1_len (SE.b (se_var 0)))) (SE.b (se_int (i := 3)))))) (ss_ret (se_bl (b := false))) ss_nil)
      (ss_ret (se_and (se_call (sa_cons (se_op oS_ix (SE.b (se_var 0)) (SE.b (se_int (i := 0)))) sa_nil)) (se_and (se_call (sa_cons (se_op oS_ix (SE.b (se_var 0)) (SE.b (se_int (i := 1)))) sa_nil)) (se_call (sa_cons (se_op oS_ix (SE.b (se_var 0)) (SE.b (se_int (i := 2)))) sa_nil)))))), ?_⟩
  rintro ds P ⟨d, rfl, td, q⟩
  walk_at "u"
  cases d with
  | tup es =>
    refine ⟨_, true, .ty (n := "tuple") rfl, kit_ty (by decide +kernel), ?_⟩
    refine iteF ?_
    walk_at "u"
    have tp := td.2 es rfl
    rcases es with _ | ⟨a, _ | ⟨b, _ | ⟨c, _ | ⟨x, r⟩⟩⟩⟩
    · show if (!decide (((0 : Nat) : Int) = 3)) = true then _ else _
      rw [decide_eq_false (show ¬ (((0 : Nat) : Int) = 3) by decide)]
      refine iteT ?_
      walk_at "u"
      exact q
    · show if (!decide (((1 : Nat) : Int) = 3)) = true then _ else _
      rw [decide_eq_false (show ¬ (((1 : Nat) : Int) = 3) by decide)]
      refine iteT ?_
      walk_at "u"
      exact q
    · show if (!decide (((2 : Nat) : Int) = 3)) = true then _ else _
      rw [decide_eq_false (show ¬ (((2 : Nat) : Int) = 3) by decide)]
      refine iteT ?_
      walk_at "u"
      exact q
    · show if (!decide (((3 : Nat) : Int) = 3)) = true then _ else _
      rw [decide_eq_true (show (((3 : Nat) : Int) = 3) by decide)]
      refine iteF ?_
      walk_at "u"
      have q : P (.bl (staB a && (nmB b && staB c))) := q
      have ta := tp a (List.mem_cons_self ..)
      have tb := tp b (List.mem_cons_of_mem _ (List.mem_cons_self ..))
      have tc := tp c (List.mem_cons_of_mem _ (List.mem_cons_of_mem _ (List.mem_cons_self ..)))
      refine kIxx_tup (d := a) rfl ?_
      walk_at "u"
      refine ⟨a, rfl, ta.1, ?_⟩
      cases ea : staB a with
      | false =>
        rw [ea] at q
        exact q
      | true =>
        rw [ea, Bool.true_and] at q
        refine iteT ?_
        walk_at "u"
        refine kIxx_tup (d := b) rfl ?_
        walk_at "u"
        refine ⟨b, rfl, tb.1, tb.2, ?_⟩
        cases eb : nmB b with
        | false =>
          rw [eb] at q
          exact q
        | true =>
          rw [eb, Bool.true_and] at q
          refine iteT ?_
          walk_at "u"
          refine kIxx_tup (d := c) rfl ?_
          walk_at "u"
          exact ⟨c, rfl, tc.1, q⟩
    · show if (!decide (((r.length + 4 : Nat) : Int) = 3)) = true then _ else _
      rw [decide_eq_false (show ¬ (((r.length + 4 : Nat) : Int) = 3) by omega)]
      refine iteT ?_
      walk_at "u"
      exact q
  | _ =>
    first
    | (cases td.1; done)
    | (refine ⟨_, false, .ty rfl, kit_ty (by decide +kernel), ?_⟩
       refine iteT ?_
       refine iteT ?_
       walk_at "u"
       exact q)
end
end KX
namespace KX
open PySem PySem.Spec PyProof.Rows L2 UL
local macro_rules | `(tactic| walk_at "u") => `(tactic| repeat (first | ((with_reducible refine' wVar_of ?ke ?_); (case ke => rfl)) | with_reducible refine' wC_of ?_ | with_reducible refine' wB_of ?_ | with_reducible refine' wAnd_of ?_ | with_reducible refine' wOr_of ?_ | with_reducible refine' wNot_of ?_ | with_reducible refine' w2_of ?_ | with_reducible refine' w1_of ?_ | with_reducible refine' wCons_of ?_ | with_reducible refine' wNil_of ?_ | ((with_reducible refine' kIxT_of ?ke ?_); (case ke => rfl)) | with_reducible refine' wSeq_of ?_ | with_reducible refine' wSet_of ?_ | ((with_reducible refine' wSetF_of ?ke ?_); (case ke => rfl)) | ((with_reducible refine' wRetO_of ?ke ?_); (case ke => rfl)) | ((with_reducible refine' wApp_of ?ke ?_); (case ke => rfl)) | with_reducible refine' wRet_of ?_ | with_reducible refine' wRetF_of ?_ | with_reducible refine' wIfS_of ?_ | with_reducible refine' wForS_of ?_ | with_reducible refine' wItemsL_of ?_ | with_reducible refine' wItemsT_of ?_ | with_reducible refine' wLc_of ?_ | with_reducible refine' wAndV_of ?_ | with_reducible refine' wOrV_of ?_ | with_reducible refine' wNotV_of ?_ | with_reducible refine' wIf_of ?_ | with_reducible refine' wGet2_of ?_ | with_reducible refine' wChain_of ?_ | with_reducible refine' wExpr_of ?_ | with_reducible refine' kLenL_of ?_ | with_reducible refine' kLenT_of ?_ | ((with_reducible refine' kFld_of ?ke ?_); (case ke => rfl)) | with_reducible refine' wLc2_of ?_ | with_reducible refine' wNext_of ?_ | ((with_reducible refine' kZip2_of ?k1 ?k2 ?_); (case k1 => rfl); (case k2 => rfl)) | ((with_reducible refine' kZip3_of ?k1 ?k2 ?k3 ?_); (case k1 => rfl); (case k2 => rfl); (case k3 => rfl)) | with_reducible refine' kEnumT_of ?_ | with_reducible refine' wPart_of ?_ | with_reducible refine' wNoPart_of ?_ | with_reducible refine' kTupOfL_of ?_ | with_reducible refine' wEndP_of ?_ | ((with_reducible refine' wNewP_of ?ke ?_); (case ke => rfl)) | with_reducible refine' kI_of ?_ | ((with_reducible refine' wRev_of ?ke ?_); (case ke => rfl)) | with_reducible refine' kNeI_of ?_ | with_reducible refine' kEqI_of ?_ | with_reducible refine' kNeS_of ?_ | with_reducible refine' kEqS_of ?_ | with_reducible refine' wDropX_of ?_ | with_reducible refine' wSetX_of ?_ | with_reducible refine' wRetX_of ?_ | with_reducible refine' wRaise_of ?_ | with_reducible refine' wTry_of ?_))
/-- what a system of the law is -/
structure SyAll (hs : List HD) (dl : List Int) (wl : List Str) : Prop where
  st : SySt hs dl wl
  few : Few (hs.map (·.r))
  wl : wl.length ≤ 1000
section
variable {P : Program} {w : World} {K : PySem.W.Frag} {mg : Str → Option Value} {base : Heap} {TT : List NdefX.NTab} {C CS CB CM : Addr}
/-- no standing: refused -/
def wRz (C CS CB : Addr) (n : Nat) : List Dt → (Dt → Prop) → (Xn → Prop) → Prop := fun ds P PX => ∃ hs dl wl d rest, ds = dSys C CS hs dl wl :: d :: rest ∧ rest.length = n ∧ hs.length ≤ 1000 ∧ Ty1 d ∧ stB hs d = false ∧ PX ⟨CB, "value", d⟩
/-- no move: refused -/
def wRm (C CS CM : Addr) : List Dt → (Dt → Prop) → (Xn → Prop) → Prop := fun ds P PX => ∃ hs dl wl xs m, ds = [dSys C CS hs dl wl, dIs xs, m] ∧ SyIn hs xs wl ∧ MvTy m ∧ mvB hs wl xs m = false ∧ PX ⟨CM, "value", m⟩
/-- what moves, able, started_at do of any value: an answer, or the value refused -/
def wAsk (C CS CB : Addr) : List Dt → (Dt → Prop) → (Xn → Prop) → Prop := fun ds P PX => ∃ hs dl wl d, ds = [dSys C CS hs dl wl, d] ∧ SyAll hs dl wl ∧ Ty1 d ∧ if stB hs d = true then ∀ r, P r else PX ⟨CB, "value", d⟩
def wAskB (C CS CB CM : Addr) : List Dt → (Dt → Prop) → (Xn → Prop) → Prop := fun ds P PX => ∃ hs dl wl d m, ds = [dSys C CS hs dl wl, d, m] ∧ SyAll hs dl wl ∧ Ty1 d ∧ MvTy m ∧ if stB hs d = true then ∀ xs, d = dIs xs → if mvB hs wl xs m = true then ∀ r, P r else PX ⟨CM, "value", m⟩ else PX ⟨CB, "value", d⟩
end
end KX
namespace KX
open PySem PySem.Spec PyProof.Rows L2 UL
local macro_rules | `(tactic| walk_at "u") => `(tactic| repeat (first | ((with_reducible refine' wVar_of ?ke ?_); (case ke => rfl)) | with_reducible refine' wC_of ?_ | with_reducible refine' wB_of ?_ | with_reducible refine' wAnd_of ?_ | with_reducible refine' wOr_of ?_ | with_reducible refine' wNot_of ?_ | with_reducible refine' w2_of ?_ | with_reducible refine' w1_of ?_ | with_reducible refine' wCons_of ?_ | with_reducible refine' wNil_of ?_ | ((with_reducible refine' kIxT_of ?ke ?_); (case ke => rfl)) | with_reducible refine' wSeq_of ?_ | with_reducible refine' wSet_of ?_ | ((with_reducible refine' wSetF_of ?ke ?_); (case ke => rfl)) | ((with_reducible refine' wRetO_of ?ke ?_); (case ke => rfl)) | ((with_reducible refine' wApp_of ?ke ?_); (case ke => rfl)) | with_reducible refine' wRet_of ?_ | with_reducible refine' wRetF_of ?_ | with_reducible refine' wIfS_of ?_ | with_reducible refine' wForS_of ?_ | with_reducible refine' wItemsL_of ?_ | with_reducible refine' wItemsT_of ?_ | with_reducible refine' wLc_of ?_ | with_reducible refine' wAndV_of ?_ | with_reducible refine' wOrV_of ?_ | with_reducible refine' wNotV_of ?_ | with_reducible refine' wIf_of ?_ | with_reducible refine' wGet2_of ?_ | with_reducible refine' wChain_of ?_ | with_reducible refine' wExpr_of ?_ | with_reducible refine' kLenL_of ?_ | with_reducible refine' kLenT_of ?_ | ((with_reducible refine' kFld_of ?ke ?_); (case ke => rfl)) | with_reducible refine' wLc2_of ?_ | with_reducible refine' wNext_of ?_ | ((with_reducible refine' kZip2_of ?k1 ?k2 ?_); (case k1 => rfl); (case k2 => rfl)) | ((with_reducible refine' kZip3_of ?k1 ?k2 ?k3 ?_); (case k1 => rfl); (case k2 => rfl); (case k3 => rfl)) | with_reducible refine' kEnumT_of ?_ | with_reducible refine' wPart_of ?_ | with_reducible refine' wNoPart_of ?_ | with_reducible refine' kTupOfL_of ?_ | with_reducible refine' wEndP_of ?_ | ((with_reducible refine' wNewP_of ?ke ?_); (case ke => rfl)) | with_reducible refine' kI_of ?_ | ((with_reducible refine' wRev_of ?ke ?_); (case ke => rfl)) | with_reducible refine' kNeI_of ?_ | with_reducible refine' kEqI_of ?_ | with_reducible refine' kNeS_of ?_ | with_reducible refine' kEqS_of ?_ | with_reducible refine' wDropX_of ?_ | with_reducible refine' wSetX_of ?_ | with_reducible refine' wRetX_of ?_ | with_reducible refine' wRaise_of ?_ | with_reducible refine' wTry_of ?_))
section
variable {P : Program} {w : World} {K : PySem.W.Frag} {mg : Str → Option Value} {base : Heap} {TT : List NdefX.NTab}
def wMoves : List Dt → (List Dt → Prop) → Prop := fun ds P => ∃ rs xs, ds = [dRows rs, dIs xs] ∧ xs.length = rs.length ∧ Few rs ∧ (wds rs).length < 64 ∧ ∀ wl, WordsOf rs wl → wl.length < 64 → P ((movesD rs wl xs).map dMv)
def wStart : List Dt → (Dt → Prop) → Prop := fun ds P => ∃ rs, ds = [dRows rs] ∧ rs.length ≤ 1000 ∧ P (dIs (rs.map (·.1)))
def wWalk : List Dt → (Dt → Prop) → Prop := fun ds P => ∃ (rs : Rws) (ns : List Int) (wl : List Str), ds = [dRows rs, .lst (ns.map Dt.int)] ∧ Few rs ∧ (wds rs).length < 64 ∧ ns.length ≤ 1000 ∧ WordsOf rs wl ∧ ∀ run ps x, Walk rs wl run ps x → run.length ≤ 3 * ns.length → P (.tup [.tup (run.map dMv), .lst (ps.map dIs)])
end
end KX
namespace KX
open PySem PySem.Spec PyProof.Rows L2 UL
local macro_rules | `(tactic| walk_at "u") => `(tactic| repeat (first | ((with_reducible refine' wVar_of ?ke ?_); (case ke => rfl)) | with_reducible refine' wC_of ?_ | with_reducible refine' wB_of ?_ | with_reducible refine' wAnd_of ?_ | with_reducible refine' wOr_of ?_ | with_reducible refine' wNot_of ?_ | with_reducible refine' w2_of ?_ | with_reducible refine' w1_of ?_ | with_reducible refine' wCons_of ?_ | with_reducible refine' wNil_of ?_ | ((with_reducible refine' kIxT_of ?ke ?_); (case ke => rfl)) | with_reducible refine' wSeq_of ?_ | with_reducible refine' wSet_of ?_ | ((with_reducible refine' wSetF_of ?ke ?_); (case ke => rfl)) | ((with_reducible refine' wRetO_of ?ke ?_); (case ke => rfl)) | ((with_reducible refine' wApp_of ?ke ?_); (case ke => rfl)) | with_reducible refine' wRet_of ?_ | with_reducible refine' wRetF_of ?_ | with_reducible refine' wIfS_of ?_ | with_reducible refine' wForS_of ?_ | with_reducible refine' wItemsL_of ?_ | with_reducible refine' wItemsT_of ?_ | with_reducible refine' wLc_of ?_ | with_reducible refine' wAndV_of ?_ | with_reducible refine' wOrV_of ?_ | with_reducible refine' wNotV_of ?_ | with_reducible refine' wIf_of ?_ | with_reducible refine' wGet2_of ?_ | with_reducible refine' wChain_of ?_ | with_reducible refine' wExpr_of ?_ | with_reducible refine' kLenL_of ?_ | with_reducible refine' kLenT_of ?_ | ((with_reducible refine' kFld_of ?ke ?_); (case ke => rfl)) | with_reducible refine' wLc2_of ?_ | with_reducible refine' wNext_of ?_ | ((with_reducible refine' kZip2_of ?k1 ?k2 ?_); (case k1 => rfl); (case k2 => rfl)) | ((with_reducible refine' kZip3_of ?k1 ?k2 ?k3 ?_); (case k1 => rfl); (case k2 => rfl); (case k3 => rfl)) | with_reducible refine' kEnumT_of ?_ | with_reducible refine' wPart_of ?_ | with_reducible refine' wNoPart_of ?_ | with_reducible refine' kTupOfL_of ?_ | with_reducible refine' wEndP_of ?_ | ((with_reducible refine' wNewP_of ?ke ?_); (case ke => rfl)) | with_reducible refine' kI_of ?_ | ((with_reducible refine' wRev_of ?ke ?_); (case ke => rfl)) | with_reducible refine' kNeI_of ?_ | with_reducible refine' kEqI_of ?_ | with_reducible refine' kNeS_of ?_ | with_reducible refine' kEqS_of ?_ | with_reducible refine' wDropX_of ?_ | with_reducible refine' wSetX_of ?_ | with_reducible refine' wRetX_of ?_ | with_reducible refine' wRaise_of ?_ | with_reducible refine' wTry_of ?_ | with_reducible refine' wSlT_of ?_ | with_reducible refine' wSlQ_of ?_ | with_reducible refine' kNeg_of ?_ | with_reducible refine' kLenQ_of ?_ | with_reducible refine' kLstT_of ?_ | with_reducible refine' kLstL_of ?_))
section
variable {K : PySem.W.Frag} {H : Hp}
end
theorem SS.run {K : PySem.W.Frag} {T : List NdefX.NTab} {C : Ct} {σ : L2.St} {ρ : UL.Env} {H : Hp} {XO : XOut} {SL S S' : Sl} {ts : TS} {w : WS} (hs : SS K T XO SL S S' ts w) (P : Out → Prop) (D : Ends) (hC : C.In T S) (ht : w ρ P) (E : EnvR K C σ H ρ) (ow : C.Own) (q : ∀ o, P o → Post K T XO SL S' C H D o) : ts D σ H := hs C ρ P σ H D hC ht E ow q
/-- behind a statement only what is told of the names counts -/
theorem wSeq_k {w w' : WS} {ρ : UL.Env} {P : Out → Prop} (I : UL.Env → Prop) (h1 : ∀ k : UL.Env → Prop, (∀ ρ1, I ρ1 → k ρ1) → w ρ fun o => match o with | .nx ρ1 => k ρ1 | o => P o) (h2 : ∀ ρ1, I ρ1 → w' ρ1 P) : wSeq w w' ρ P := h1 (fun ρ1 => w' ρ1 P) h2
section
variable {P : Program} {w : World} {K : PySem.W.Frag} {mg : Str → Option Value} {base : Heap} {TT : List NdefX.NTab} {C CS T : Addr} {H H' : Hp}
def wCell : List Dt → (Dt → Prop) → Prop := fun ds P => ∃ (ns : List Int) (k : Nat), ds = [.sql ns, .int k] ∧ k ≤ 1000 ∧ ∀ z : Int, P (.int z)
theorem sc_cellU : FnScope ["_law_script", "_law_k"] ["_law_script", "_law_k"] (defScope s_law_cell) := ⟨rfl, rfl, rfl, by decide +kernel, rfl, by decide +kernel, by decide +kernel⟩
theorem u_cell {f : Addr} {fd : FuncData} (F : Fun K "_law_cell" "_law_cell" s_law_cell f fd) (B : Blt mg) : FnOk P w K mg base CX0 1 f fd ["_law_script", "_law_k"] (spU K TT wCell) := by
  refine fn_u F sc_cellU (by decide) (fun ds Q ⟨_, _, e, _⟩ => by rw [e]; rfl) fun cdv A outer s H E hr => ?_
  refine ⟨_, _, ([], []), ([], []), (pss_cons (ps_if (pt_cmpR op_lt (pv 1) (pe_callB call_len_ (by rfl) B.len PySem.boot_len (pa_cons (pv 0) pa_nil)) (nomark _)) (pss_one (ps_ret (pe_ix (r := rIxL K) ix_list (pv 0) (pv 1) (fun _ _ => rfl)))) pss_nil)
      (pss_one (ps_ret (pe_op op_add (pe_op op_mul pe_int (pv 1)) pe_int)))), (ss_seq (ss_if (st_tTest (se_op oS_lt (SE.b (se_var 1)) (SE.b (se_cb c1_lenQ (SE.b (se_var 0)))))) (ss_ret (se_op oS_ixQ (SE.b (se_var 0)) (SE.b (se_var 1)))) ss_nil)
      (ss_ret (se_op oS_add (SE.b (se_op oS_mul (SE.b (se_int (i := 1009))) (SE.b (se_var 1)))) (SE.b (se_int (i := 5)))))), ?_⟩
  rintro ds P ⟨ns, k, rfl, hk, q⟩
  walk_at "u"
  show if decide ((k : Int) < (ns.length : Nat)) = true then _ else _
  by_cases h : (k : Int) < (ns.length : Nat)
  · rw [decide_eq_true h]
    refine iteT ?_
    walk_at "u"
    refine kIxQ_of (atI_nat (List.getElem?_eq_getElem (by omega : k < ns.length))) ?_
    exact q _
  · rw [decide_eq_false h]
    refine iteF ?_
    walk_at "u"
    refine ⟨?_, ?_⟩
    · exact .inl ⟨by decide, by decide⟩
    · walk_at "u"
      exact q _
/-! ### _law_same, over data -/
end
end KX
namespace KX
open PySem PySem.Spec PyProof.Rows L2 UL
local macro_rules | `(tactic| walk_at "u") => `(tactic| repeat (first | ((with_reducible refine' wVar_of ?ke ?_); (case ke => rfl)) | with_reducible refine' wC_of ?_ | with_reducible refine' wB_of ?_ | with_reducible refine' wAnd_of ?_ | with_reducible refine' wOr_of ?_ | with_reducible refine' wNot_of ?_ | with_reducible refine' w2_of ?_ | with_reducible refine' w1_of ?_ | with_reducible refine' wCons_of ?_ | with_reducible refine' wNil_of ?_ | ((with_reducible refine' kIxT_of ?ke ?_); (case ke => rfl)) | with_reducible refine' wSeq_of ?_ | with_reducible refine' wSet_of ?_ | ((with_reducible refine' wSetF_of ?ke ?_); (case ke => rfl)) | ((with_reducible refine' wRetO_of ?ke ?_); (case ke => rfl)) | ((with_reducible refine' wApp_of ?ke ?_); (case ke => rfl)) | with_reducible refine' wRet_of ?_ | with_reducible refine' wRetF_of ?_ | with_reducible refine' wIfS_of ?_ | with_reducible refine' wForS_of ?_ | with_reducible refine' wItemsL_of ?_ | with_reducible refine' wItemsT_of ?_ | with_reducible refine' wLc_of ?_ | with_reducible refine' wAndV_of ?_ | with_reducible refine' wOrV_of ?_ | with_reducible refine' wNotV_of ?_ | with_reducible refine' wIf_of ?_ | with_reducible refine' wGet2_of ?_ | with_reducible refine' wChain_of ?_ | with_reducible refine' wExpr_of ?_ | with_reducible refine' kLenL_of ?_ | with_reducible refine' kLenT_of ?_ | ((with_reducible refine' kFld_of ?ke ?_); (case ke => rfl)) | with_reducible refine' wLc2_of ?_ | with_reducible refine' wNext_of ?_ | ((with_reducible refine' kZip2_of ?k1 ?k2 ?_); (case k1 => rfl); (case k2 => rfl)) | ((with_reducible refine' kZip3_of ?k1 ?k2 ?k3 ?_); (case k1 => rfl); (case k2 => rfl); (case k3 => rfl)) | with_reducible refine' kEnumT_of ?_ | with_reducible refine' wPart_of ?_ | with_reducible refine' wNoPart_of ?_ | with_reducible refine' kTupOfL_of ?_ | with_reducible refine' wEndP_of ?_ | ((with_reducible refine' wNewP_of ?ke ?_); (case ke => rfl)) | with_reducible refine' kI_of ?_ | ((with_reducible refine' wRev_of ?ke ?_); (case ke => rfl)) | with_reducible refine' kNeI_of ?_ | with_reducible refine' kEqI_of ?_ | with_reducible refine' kNeS_of ?_ | with_reducible refine' kEqS_of ?_))
theorem kIn_intsL {neg : Bool} {x : Int} {ns : List Int} {P : Dt → Prop} (h : P (.bl (if neg then !decide (x ∈ ns) else decide (x ∈ ns)))) : kIn neg (.int x) (.lst (ns.map Dt.int)) P := by
  refine ⟨_, fls_ints ns, ?_⟩
  rw [inV_ints]
  exact h
section
variable {P : Program} {w : World} {K : PySem.W.Frag} {mg : Str → Option Value} {base : Heap} {TT : List NdefX.NTab}
/-! ### _law_reached -/
/-- few are reached -/
structure RgOk (r : Int × List Stp) : Prop where
  l : r.2.length ≤ 1000
  rg : ∃ U : List Int, (∀ x, Reach r.2 r.1 x → x ∈ U) ∧ U.length ≤ 8
def wReach : List Dt → (Dt → Prop) → Prop := fun ds P => ∃ r, ds = [dRow r] ∧ RgOk r ∧ ∀ ns : List Int, (∀ x ∈ ns, Reach r.2 r.1 x) → ns.length ≤ 8 → P (.lst (ns.map Dt.int))
/-! ### _law_standings -/
/-- such standings are of the rows -/
def StIn (rs : Rws) (xs : List Int) : Prop := xs.length = rs.length ∧ ∀ (i : Nat) r x, rs[i]? = some r → xs[i]? = some x → Reach r.2 r.1 x
def wStands : List Dt → (Dt → Prop) → Prop := fun ds P => ∃ rs, ds = [dRows rs] ∧ rs.length ≤ 4 ∧ (∀ r ∈ rs, RgOk r) ∧ ∀ xss : List (List Int), (∀ xs ∈ xss, StIn rs xs) → P (.lst (xss.map dIs))
theorem StIn.snoc {rs : Rws} {i : Nat} {r : Int × List Stp} {xs : List Int} {x : Int} (e : rs[i]? = some r) (h : StIn (rs.take i) xs) (hx : Reach r.2 r.1 x) : StIn (rs.take (i + 1)) (xs ++ [x]) := by
  have hi : i < rs.length := (List.getElem?_eq_some_iff.mp e).1
  have lt : (rs.take i).length = i := by rw [List.length_take]; omega
  have e2 : rs.take (i + 1) = rs.take i ++ [r] := by rw [List.take_add_one, e]; rfl
  refine ⟨by rw [e2, List.length_append, List.length_append, h.1]; rfl, fun j r' x' e3 e4 => ?_⟩
  rw [e2] at e3
  by_cases hj : j < i
  · rw [List.getElem?_append_left (by omega)] at e3
    rw [List.getElem?_append_left (by rw [h.1]; omega)] at e4
    exact h.2 j r' x' e3 e4
  · have : j = i := by
      have := (List.getElem?_eq_some_iff.mp e4).1
      rw [List.length_append, h.1, lt] at this
      have : j < i + 1 := this
      omega
    subst this
    rw [List.getElem?_append_right (by omega), lt, Nat.sub_self] at e3
    rw [List.getElem?_append_right (by rw [h.1]; omega), h.1, lt, Nat.sub_self] at e4
    cases e3
    cases e4
    exact hx
/-! ### _law_count -/
def wCount : List Dt → (Dt → Prop) → Prop := fun ds P => ∃ rs xs z, ds = [dRows rs, dIs xs, .str z] ∧ xs.length = rs.length ∧ Few rs ∧ P (.int ((prodD rs xs z [[]]).length : Nat))
/-! ### _law_is_right -/
def wRight : List Dt → (Dt → Prop) → Prop := fun ds P => ∃ rs xs m wl, ds = [dRows rs, dIs xs, dMv m] ∧ xs.length = rs.length ∧ Few rs ∧ (wds rs).length < 64 ∧ WordsOf rs wl ∧ m ∈ movesD rs wl xs ∧ P (.bl true)
end
end KX
/-! UL: a letter in a text; a list and its copy are equal, whatever they hold. -/
namespace UL
open PySem PySem.Spec PyProof.Rows L2
section
variable {K : PySem.W.Frag} {T : List NdefX.NTab} {SL S S' S1 : Sl} {m m' m1 m2 m3 : Bool} {te ta tb : TE} {t u we : WE} {C C1 C' : Ct} {σ : L2.St} {H H' H1 : Hp} {ρ : Env} {ts ts1 ts2 : TS} {w w1 w2 : WS} {XO : XOut}
/-- a letter in a text -/
def kInS : Dt → Dt → (Dt → Prop) → Prop
  | .str y, .str z, P => ∃ c, y = ⟨#[c]⟩ ∧ P (.bl (decide (c ∈ z.cps.toList)))
  | _, _, _ => False
theorem oS_inS : OpS K rInS kInS := fun C a b P x y H Q h ra rb hf q => by
  cases a <;> cases b <;> first | exact h.elim | skip
  obtain ⟨c, rfl, h⟩ := h
  exact ⟨c, _, R.strE ra, R.strE rb, q _ _ H h (Same.refl H) (.bl _)⟩
/-- two texts, one behind the other -/
def kAddS : Dt → Dt → (Dt → Prop) → Prop
  | .str y, .str z, P => y.length + z.length ≤ sizeLine ∧ P (.str (y ++ z))
  | _, _, _ => False
theorem oS_addS : OpS K rAddS kAddS := fun C a b P x y H Q h ra rb hf q => by
  cases a <;> cases b <;> first | exact h.elim | skip
  obtain ⟨hl, h⟩ := h
  exact ⟨_, _, R.strE ra, R.strE rb, hl, q _ _ H h (Same.refl H) (.str _)⟩
/-- data that is equal to itself by the place where it stands -/
def Dt.selfE : Dt → Bool
  | .val _ => false
  | _ => true
theorem paired_self {K : PySem.W.Frag} {ok : Addr → Prop} {H H' : Hp} : ∀ {ds : List Dt} {us : List V}, Rs K ok H ds us → (∀ d ∈ ds, d.selfE = true) → Paired (EqV K H' 1) us us
  | _, _, .nil, _ => .nil
  | _, _, .cons (d := d) (v := v) h t, n => by
    refine .cons ?_ (paired_self t fun d hd => n d (List.mem_cons_of_mem _ hd))
    have nd := n d (List.mem_cons_self ..)
    cases h with
    | val => cases nd
    | non => exact .inl ⟨rfl, rfl⟩
    | bl => exact .inl ⟨rfl, rfl⟩
    | int => exact .inl ⟨rfl, rfl⟩
    | str => exact .inl ⟨rfl, rfl⟩
    | _ => exact .inr (.inl ⟨_, rfl, rfl⟩)
/-- ys = list(xs); two questions; then ys == xs and .. -/
def wCopyEq (x y : Nat) (wc : WT) (w : WS) (wt : WT) (w2 : WS) (we : WE) : WS := fun ρ P => x < ρ.length ∧ ∃ ds, ρ[y]? = some (some (.lst ds)) ∧ (∀ d ∈ ds, d.selfE = true) ∧ wc (ρ.set x (some (.lst ds))) fun b => if b = true then w (ρ.set x (some (.lst ds))) (fun o => match o with | .nx _ => False | o => P o)
  else wt (ρ.set x (some (.lst ds))) fun b => if b = true then w2 (ρ.set x (some (.lst ds))) (fun o => match o with | .nx _ => False | o => P o) else we (ρ.set x (some (.lst ds))) fun d => P (.rt d)
theorem ss_copyEq {rL : List V → Hp → VK → Prop} (eL : rL = fun xs H Q => ∃ p ys, xs = [.ref p] ∧ (SqL K H p ys ∨ SqT K H p ys) ∧ ∀ l, H l = none → Q (.ref l) (upd H l (.lst ys))) {tc tt : TT} {wc wt : WT} (x y : Nat) (hx : x ∉ S.2) (hy : y ∉ S.2) (hxy : y ≠ x) (hc : ST K T (((S.take x).drop x).drop y) m1 tc wc) (ha : SS K T XO SL (((S.take x).drop x).drop y) (((S.take x).drop x).drop y) ts w) (ht : ST K T (((S.take x).drop x).drop y) m2 tt wt)
    (hb : SS K T XO SL (((S.take x).drop x).drop y) (((S.take x).drop x).drop y) ts2 w2) (he : SE K T (((S.take x).drop x).drop y) m3 te we) :
    SS K T XO SL S S' (tSeq (tAsg (tCB rL (tCons (tVar y) tNil)) (gName x)) (tSeq (tIfS tc ts tNext) (tSeq (tIfS tt ts2 tNext) (tRet (tAndV (tOp (rEqV K) (tVar x) (tVar y)) te))))) (wCopyEq x y wc w wt w2 we) := fun C ρ P σ H D hC hw E own q => by
  obtain ⟨hl, ds, ey, sf, hw⟩ := hw
  have hxP : x ∉ C.Pl := by rw [hC.2]; exact hx
  have hyP : y ∉ C.Pl := by rw [hC.2]; exact hy
  subst eL
  obtain ⟨a, us, ey1, ea, rs, na⟩ := E.varR hyP ey
  refine ⟨.ref a, ey1, ?_⟩
  refine ⟨a, us, rfl, .inl (.of ea), fun p hp => ?_⟩
  have g0 : Gr true C H (upd H p (.lst us)) := .of (same_up hp)
  have rs1 : Rs K (fun b => C.ok b ∧ b ≠ p) (upd H p (.lst us)) ds us := (rs.okm fun b n h => ⟨h, fun e => n (e ▸ .of hp)⟩).same (same_up hp)
  obtain ⟨E1, k1⟩ := E.setF (i := x) hl hxP (.of hp) g0 upd_same rs1
  have own1 : (C.take x p).Own := Own.take own (E.dom p (.of hp))
  have E2 := (E1.release x own1).release y (Own.drop own1)
  have own2 : (((C.take x p).drop x).drop y).Own := Own.drop (Own.drop own1)
  have hC2 := In.drop (i := y) (In.drop (i := x) (In.take (i := x) (p := p) hC))
  have k2 : Mv C.ok H (((C.take x p).drop x).drop y).ok (upd H p (.lst us)) := (k1.trans .drop).trans .drop
  have c2 : Cm C (((C.take x p).drop x).drop y) := ⟨rfl, rfl, rfl, rfl, rfl⟩
  have sx : (σ.set x (some (V.ref p)))[x]? = some (some (V.ref p)) := List.getElem?_set_self (by rw [E.len]; exact hl)
  have sy : (σ.set x (some (V.ref p)))[y]? = some (some (V.ref a)) := by rw [List.getElem?_set_ne (Ne.symm hxy)]; exact ey1
  have px : (ρ.set x (some (.lst ds)))[x]? = some (some (.lst ds)) := List.getElem?_set_self hl
  have py : (ρ.set x (some (.lst ds)))[y]? = some (some (.lst ds)) := by rw [List.getElem?_set_ne (Ne.symm hxy)]; exact ey
  have hp1 : upd H p (.lst us) p = some (.lst us) := upd_same
  have ha1 : upd H p (.lst us) a = some (.lst us) := same_up hp _ _ ea
  show tSeq (tIfS tc ts tNext) (tSeq (tIfS tt ts2 tNext) (tRet (tAndV (tOp (rEqV K) (tVar x) (tVar y)) te))) D (σ.set x (some (V.ref p))) (upd H p (.lst us))
  generalize upd H p (.lst us) = H1 at *
  generalize ((C.take x p).drop x).drop y = C2 at *
  generalize σ.set x (some (V.ref p)) = σ1 at *
  generalize ρ.set x (some (.lst ds)) = ρ1 at *
  have nP : ∀ {i : Nat} {b : Addr}, i ∉ C2.Pl → ρ1[i]? = some (some (.lst ds)) → σ1[i]? = some (some (V.ref b)) → ∀ j ∈ C2.Pl, b ≠ C2.A j := fun {i b} hi e1 e2 => by
    obtain ⟨b', us', f1, f2, f3, f4⟩ := E2.varR hi e1
    rw [f1] at e2
    cases e2
    exact f4
  have hPl : C2.Pl = S.2 := by rw [hC2.2]; rfl
  have npx := nP (i := x) (by rw [hPl]; exact hx) px sx
  have npy := nP (i := y) (by rw [hPl]; exact hy) py sy
  refine hc C2 ρ1 _ σ1 H1 _ hC2 hw E2 fun b H2 h1 g1 => ?_
  cases b with
  | true =>
    refine ha C2 ρ1 _ σ1 H2 _ hC2 h1 (E2.gr g1) own2 fun o ho => ?_
    have k3 := k2.trans (g1.mv E2)
    cases o with
    | nx ρ1 => exact ho.elim
    | rt d => exact Post.from c2 k3 (q _ ho)
    | rf d => exact Post.from c2 k3 (q _ ho)
    | bk d => exact Post.from c2 k3 (q _ ho)
    | ct d => exact Post.from c2 k3 (q _ ho)
    | xc x d => exact Post.from c2 k3 (q _ ho)
  | false =>
    have E3 := E2.gr g1
    refine ht C2 ρ1 _ σ1 H2 _ hC2 h1 E3 fun b H3 h3 g3 => ?_
    have k3 := (k2.trans (g1.mv E2)).trans (g3.mv E3)
    cases b with
    | true =>
      refine hb C2 ρ1 _ σ1 H3 _ hC2 h3 (E3.gr g3) own2 fun o ho => ?_
      cases o with
      | nx ρ1 => exact ho.elim
      | rt d => exact Post.from c2 k3 (q _ ho)
      | rf d => exact Post.from c2 k3 (q _ ho)
      | bk d => exact Post.from c2 k3 (q _ ho)
      | ct d => exact Post.from c2 k3 (q _ ho)
      | xc x d => exact Post.from c2 k3 (q _ ho)
    | false =>
      have E4 := E3.gr g3
      have hp3 : H3 p = some (.lst us) := g3.keep _ _ nt_lst (g1.keep _ _ nt_lst hp1 fun _ => npx) fun _ => npx
      have ha3 : H3 a = some (.lst us) := g3.keep _ _ nt_lst (g1.keep _ _ nt_lst ha1 fun _ => npy) fun _ => npy
      refine ⟨.ref p, sx, .ref a, sy, 1, by decide, .inl ⟨p, a, us, us, rfl, rfl, .of hp3, .of ha3, paired_self rs sf⟩, true, rfl, ?_⟩
      refine he C2 ρ1 _ σ1 H3 _ hC2 h3 E4 fun d v H4 h4 g4 r4 => ?_
      exact Post.from c2 (k3.trans (g4.mv E4)) (q _ h4) v H4 (E4.gr g4).fin (r4.okm fun a _ z => z.1)
end
end UL
namespace KX
open PySem PySem.Spec PyProof.Rows L2 UL
local macro_rules | `(tactic| walk_at "u") => `(tactic| repeat (first | ((with_reducible refine' wVar_of ?ke ?_); (case ke => rfl)) | with_reducible refine' wC_of ?_ | with_reducible refine' wB_of ?_ | with_reducible refine' wAnd_of ?_ | with_reducible refine' wOr_of ?_ | with_reducible refine' wNot_of ?_ | with_reducible refine' w2_of ?_ | with_reducible refine' w1_of ?_ | with_reducible refine' wCons_of ?_ | with_reducible refine' wNil_of ?_ | ((with_reducible refine' kIxT_of ?ke ?_); (case ke => rfl)) | with_reducible refine' wSeq_of ?_ | with_reducible refine' wSet_of ?_ | ((with_reducible refine' wSetF_of ?ke ?_); (case ke => rfl)) | ((with_reducible refine' wRetO_of ?ke ?_); (case ke => rfl)) | ((with_reducible refine' wSetNew_of ?hs ?_); (case hs => rfl)) | ((with_reducible refine' wPutN_of ?he ?_); (case he => rfl)) | ((with_reducible refine' wPutI_of ?he ?_); (case he => rfl)) | ((with_reducible refine' wApp_of ?ke ?_); (case ke => rfl)) | with_reducible refine' wRet_of ?_ | with_reducible refine' wRetF_of ?_ | with_reducible refine' wIfS_of ?_ | with_reducible refine' wForS_of ?_ | with_reducible refine' wItemsL_of ?_ | with_reducible refine' wItemsT_of ?_ | with_reducible refine' wLc_of ?_ | with_reducible refine' wAndV_of ?_ | with_reducible refine' wOrV_of ?_ | with_reducible refine' wNotV_of ?_ | with_reducible refine' wIf_of ?_ | with_reducible refine' wGet2_of ?_ | with_reducible refine' wChain_of ?_ | with_reducible refine' wExpr_of ?_ | with_reducible refine' kLenL_of ?_ | with_reducible refine' kLenT_of ?_ | ((with_reducible refine' kFld_of ?ke ?_); (case ke => rfl)) | with_reducible refine' wLc2_of ?_ | with_reducible refine' wNext_of ?_ | ((with_reducible refine' kZip2_of ?k1 ?k2 ?_); (case k1 => rfl); (case k2 => rfl)) | ((with_reducible refine' kZip3_of ?k1 ?k2 ?k3 ?_); (case k1 => rfl); (case k2 => rfl); (case k3 => rfl)) | with_reducible refine' kEnumT_of ?_ | with_reducible refine' wPart_of ?_ | with_reducible refine' wNoPart_of ?_ | with_reducible refine' kTupOfL_of ?_ | with_reducible refine' wEndP_of ?_ | ((with_reducible refine' wNewP_of ?ke ?_); (case ke => rfl)) | with_reducible refine' kI_of ?_ | ((with_reducible refine' wRev_of ?ke ?_); (case ke => rfl)) | with_reducible refine' kNeI_of ?_ | with_reducible refine' kEqI_of ?_ | with_reducible refine' kNeS_of ?_ | with_reducible refine' kEqS_of ?_ | with_reducible refine' wDropX_of ?_ | with_reducible refine' wSetX_of ?_ | with_reducible refine' wRetX_of ?_ | with_reducible refine' wRaise_of ?_ | with_reducible refine' wTry_of ?_ | with_reducible refine' wSlT_of ?_ | with_reducible refine' wSlQ_of ?_ | with_reducible refine' kNeg_of ?_ | with_reducible refine' kLenQ_of ?_ | with_reducible refine' kLstT_of ?_ | with_reducible refine' kLstL_of ?_ | ((with_reducible refine' wSetNewK_of ?hs ?_); (case hs => rfl)) | ((with_reducible refine' wPutK_of ?he ?_); (case he => rfl)) | ((with_reducible refine' wIns_of ?he ?_); (case he => rfl)) | ((with_reducible refine' wPop_of ?he ?_); (case he => rfl))))
section
variable {P : Program} {w : World} {K : PySem.W.Frag} {mg : Str → Option Value} {base : Heap} {TT : List NdefX.NTab} {C CS : Addr} {H H' : Hp}
theorem az_in (c : Nat) : decide (c ∈ ("abcdefghijklmnopqrstuvwxyz" : Str).cps.toList) = azB c := by
  have e : ("abcdefghijklmnopqrstuvwxyz" : Str).cps.toList = (List.range 26).map fun i => i + 97 := by decide +kernel
  rw [e]
  unfold azB
  rw [Bool.eq_iff_iff, decide_eq_true_eq, Bool.and_eq_true, decide_eq_true_eq, decide_eq_true_eq, List.mem_map]
  constructor
  · rintro ⟨i, hi, rfl⟩
    have := List.mem_range.mp hi
    omega
  · rintro ⟨h1, h2⟩
    exact ⟨c - 97, List.mem_range.mpr (by omega), by omega⟩
theorem sc_lname : FnScope ["_law_thing", "_law_letter"] ["_law_thing"] (defScope s_law_is_name) := ⟨rfl, rfl, rfl, by decide +kernel, rfl, by decide +kernel, by decide +kernel⟩
theorem ok_lname {f : Addr} {fd : FuncData} (F : Fun K "_law_is_name" "_law_is_name" s_law_is_name f fd) (B : Blt mg) (N : Kin mg) : FnOk P w K mg base CX0 2 f fd ["_law_thing"] (spU K TT wNameG) := by
  refine fn_u F sc_lname (by decide) (fun ds Q ⟨_, e, _⟩ => by rw [e]; rfl) fun cdv A outer s H E hr => ?_
  refine ⟨_, _, ([], []), ([], []), (pss_cons (ps_if (PW.pt (pw_or (pt_not (pt_val (pe_callB call_isi (by rfl) B.isinstance (by decide +kernel) (pa_cons (pv 0) (pa_cons (pe_bltn rfl N.str (by decide +kernel) (v := .ty "str") rfl) pa_nil))))) (pw_or (pt_cmpR op_lt (pe_callB call_len_str (by rfl) B.len PySem.boot_len (pa_cons (pv 0) pa_nil)) pe_int (nomark _)) (pw_or1 (pt_cmpR op_gt (pe_callB call_len_str (by rfl) B.len PySem.boot_len (pa_cons (pv 0) pa_nil)) pe_int (nomark _)))))) (pss_one (ps_ret pe_bl)) pss_nil)
      (pss_one (ps_ret (pe_cmpR op_eq (pe_callB call_len_ (by rfl) B.len PySem.boot_len (pa_cons (pe_lc (own := [("_law_letter", 1)]) (wi := (iStr (tVar 0))) (g := (gName 1)) (tt := (tTest (tOp rInS (tVar 1) (tC (.str "abcdefghijklmnopqrstuvwxyz"))))) (te := (tVar 1)) rfl sc_lname.nd (pi_str (pv 0)) (blkOk_by (N := ["_law_thing", "_law_letter"]) (sc := defScope s_law_is_name) (by decide +kernel)) (fun _ _ _ _ _ => (pg_name (i := 1) sc_lname.nd rfl (.inl rfl))) (fun _ _ _ _ _ => (pts_one (pt_cmpR op_inS (pv 1) pe_str (by rfl)))) (fun _ _ _ _ _ => (pv 1))) pa_nil)) (pe_callB call_len_str (by rfl) B.len PySem.boot_len (pa_cons (pv 0) pa_nil)) (nomark _))))), (ss_seq (ss_if (st_or (st_not (st_tB (se_isG (.ty _) (SE.b (se_var 0))))) (st_or (st_tTest (se_op oS_lt (SE.b (se_cb c1_lenS (SE.b (se_var 0)))) (SE.b (se_int (i := 1))))) (st_tTest (se_op oS_gt (SE.b (se_cb c1_lenS (SE.b (se_var 0)))) (SE.b (se_int (i := 12))))))) (ss_ret (se_bl (b := false))) ss_nil)
      (ss_ret (se_op oS_eq (SE.b (se_cb c1_len (SE.b (SF.e (sf_lc (vs := [1]) (si_str (SE.b (se_var 0))) (sg_name 1) (st_tTest (se_op oS_inS (SE.b (se_var 1)) (SE.b (se_str (z := "abcdefghijklmnopqrstuvwxyz"))))) (se_var 1)))))) (SE.b (se_cb c1_lenS (SE.b (se_var 0))))))), ?_⟩
  rintro ds P ⟨d, rfl, td, hl, q⟩
  walk_at "u"
  cases d with
  | str z =>
    refine ⟨_, true, .ty (n := "str") rfl, kit_ty (by decide +kernel), ?_⟩
    refine iteF ?_
    walk_at "u"
    have lz := hl z rfl
    refine ⟨lz, ?_⟩
    walk_at "u"
    have q : P (.bl ((decide (1 ≤ z.length) && decide (z.length ≤ 12)) && z.cps.toList.all azB)) := q
    show if decide (((z.length : Nat) : Int) < 1) = true then _ else _
    by_cases h1 : 1 ≤ z.length
    · rw [decide_eq_false (show ¬ ((z.length : Nat) : Int) < 1 by omega)]
      refine iteF ?_
      walk_at "u"
      refine ⟨lz, ?_⟩
      walk_at "u"
      show if decide ((12 : Int) < (z.length : Nat)) = true then _ else _
      by_cases h2 : z.length ≤ 12
      · rw [decide_eq_false (show ¬ (12 : Int) < (z.length : Nat) by omega)]
        refine iteF ?_
        walk_at "u"
        rw [decide_eq_true h1, decide_eq_true h2, Bool.and_self, Bool.true_and] at q
        have el : z.cps.toList.length = z.length := Array.length_toList
        show (strD z).length ≤ 1000000 ∧ _
        unfold strD
        refine ⟨by rw [List.length_map]; omega, ?_⟩
        refine wComp_map azB (fun c => Dt.str ⟨#[c]⟩) _ (fun c hc => ?_) ?_
        · refine ⟨_, rfl, fun Q q => ?_, fun _ Q q => q⟩
          walk_at "u"
          refine ⟨c, rfl, ?_⟩
          rw [az_in]
          exact q
        rw [List.nil_append]
        walk_at "u"
        refine ⟨lz, ?_⟩
        walk_at "u"
        rw [List.length_map]
        have e : decide ((((z.cps.toList.filter azB).length : Nat) : Int) = (z.length : Nat)) = z.cps.toList.all azB := by
          rw [← el, Bool.eq_iff_iff, decide_eq_true_eq, List.all_eq_true]
          constructor
          · intro h
            exact List.length_filter_eq_length_iff.mp (by omega)
          · intro h
            have := List.length_filter_eq_length_iff.mpr h
            omega
        rw [e]
        exact q
      · rw [decide_eq_true (show (12 : Int) < (z.length : Nat) by omega)]
        refine iteT ?_
        walk_at "u"
        rw [decide_eq_false h2, Bool.and_false, Bool.false_and] at q
        exact q
    · rw [decide_eq_true (show ((z.length : Nat) : Int) < 1 by omega)]
      refine iteT ?_
      refine iteT ?_
      walk_at "u"
      rw [decide_eq_false h1, Bool.false_and, Bool.false_and] at q
      exact q
  | _ =>
    first
    | (cases td; done)
    | (refine ⟨_, false, .ty rfl, kit_ty (by decide +kernel), ?_⟩
       refine iteT ?_
       refine iteT ?_
       walk_at "u"
       exact q)
/-! ### _law_many_reached -/
def Clo (ss : List Stp) (fs : List Int) : Prop := ∀ s ∈ ss, s.a ∈ fs → s.b ∈ fs
theorem clo_all {ss : List Stp} {x0 : Int} {fs : List Int} (h : Clo ss fs) (h0 : x0 ∈ fs) : ∀ x, Reach ss x0 x → x ∈ fs := fun x r => by
  induction r with
  | refl => exact h0
  | step r hs ih => exact h _ hs ih
def wMany3 : List Dt → (Dt → Prop) → Prop := fun ds P => ∃ (x0 : Int) (ss : List Stp), ds = [.int x0, .lst (ss.map dStp)] ∧ ss.length ≤ 24 ∧ ∀ fs : List Int, fs.Nodup → x0 ∈ fs → (∀ x ∈ fs, Reach ss x0 x) → (Clo ss fs ∨ 12 ≤ fs.length) → P (.int (fs.length : Nat))
theorem sc_many3 : FnScope ["_law_start", "_law_steps", "_law_found", "_law_again", "_law_step"] ["_law_start", "_law_steps"] (defScope s_law_many_reached) := ⟨rfl, rfl, rfl, by decide +kernel, rfl, by decide +kernel, by decide +kernel⟩
theorem ok_many3 {f : Addr} {fd : FuncData} (F : Fun K "_law_many_reached" "_law_many_reached" s_law_many_reached f fd) (B : Blt mg) : FnOk P w K mg base CX0 1 f fd ["_law_start", "_law_steps"] (spU K TT wMany3) := by
  refine fn_u F sc_many3 (by decide) (fun ds Q ⟨_, _, e, _⟩ => by rw [e]; rfl) fun cdv A outer s H E hr => ?_
  refine ⟨_, _, ([], []), ([2], []), (pss_cons (ps_set (i := 2) sc_many3.nd rfl (.inl rfl) (pe_lst (pa_cons (pv 0) pa_nil)))
      (pss_cons (ps_for PassesOwn.never rfl (pi_range1 rfl B.range (pa_cons pe_int pa_nil)) (pg_name (i := 3) sc_many3.nd rfl (.inl rfl)) (pss_one (ps_for PassesOwn.never rfl (pi_list (pv 1)) (pg_name (i := 4) sc_many3.nd rfl (.inl rfl)) (pss_one (ps_if (PW.pt (pw_and (pt_cmpR op_in_seq (pe_ix (r := rIxT K) ix_tup (pv 4) pe_int (fun _ _ => rfl)) (pv 2) (by rfl)) (pw_and1 (pt_cmpR op_notIn_seq (pe_ix (r := rIxT K) ix_tup (pv 4) pe_int (fun _ _ => rfl)) (pv 2) (by rfl))))) (pss_one (ps_expr (pe_bm PySem.F.plainAttrs_list PySem.F.slot_list_append PySem.F.type_list_append mt_append (pv 2) (pa_cons (pe_ix (r := rIxT K) ix_tup (pv 4) pe_int (fun _ _ => rfl)) pa_nil)))) pss_nil)))))
      (pss_one (ps_ret (pe_callB call_len_ (by rfl) B.len PySem.boot_len (pa_cons (pv 2) pa_nil)))))), (ss_seq (ss_cast (S' := ([2], [])) (ss_setF 2 (sf_lst (sa_cons (se_var 0) sa_nil))))
      (ss_seq (ss_for (g := (gName 3)) (si_rng1 (sa_cons (se_int (i := 11)) sa_nil)) (sg_name 3) (ss_for (g := (gName 4)) (si_listS (se_var 1)) (sg_name 4) (ss_if (st_and (st_tTest (se_op (oS_in false) (SE.b (se_op oS_ixT (SE.b (se_var 4)) (SE.b (se_int (i := 0))))) (sb_var 2))) (st_tTest (se_op (oS_in true) (SE.b (se_op oS_ixT (SE.b (se_var 4)) (SE.b (se_int (i := 2))))) (sb_var 2)))) (ss_app 2 (se_op oS_ixT (SE.b (se_var 4)) (SE.b (se_int (i := 2))))) ss_nil)))
      (ss_ret (se_cb c1_len (sb_var 2))))), ?_⟩
  rintro ds P ⟨x0, ss, rfl, hl, q⟩
  have u0 : x0 ∈ x0 :: ss.map (·.b) := List.mem_cons_self ..
  have hU : ∀ s ∈ ss, s.b ∈ x0 :: ss.map (·.b) := fun s hs => List.mem_cons_of_mem _ (List.mem_map_of_mem hs)
  have lU : (x0 :: ss.map (·.b)).length ≤ 25 := by rw [List.length_cons, List.length_map]; omega
  generalize x0 :: ss.map (·.b) = U at u0 hU lU
  walk_at "u"
  refine ⟨by show 1 ≤ 1000; decide, ?_⟩
  walk_at "u"
  refine kRng1_to (by decide) (by decide) ?_
  have lI : ∀ fs : List Int, fs.Nodup → (∀ x ∈ fs, x ∈ U) → fs.length ≤ 25 := fun fs nd h => Nat.le_trans (nd_len nd h) lU
  refine wFor_range 11 (fun n ρ => ∃ (fs : List Int) (v2 v3 : Option Dt), ρ = [some (.int x0), some (.lst (ss.map dStp)), some (.lst (fs.map Dt.int)), v2, v3] ∧ fs.Nodup ∧ x0 ∈ fs ∧ (∀ x ∈ fs, x ∈ U ∧ Reach ss x0 x) ∧ (Clo ss fs ∨ n + 1 ≤ fs.length)) ⟨[x0], none, none, rfl, by simp, by simp, fun x hx => by rw [List.mem_singleton.mp hx]; exact ⟨u0, .refl⟩, .inr (Nat.le_refl _)⟩ ?_ ?_
  · rintro i ρ k hi ⟨fs, v2, v3, rfl, nd, h0, hf, hc⟩ hk
    refine ⟨_, rfl, ?_⟩
    walk_at "u"
    refine wFor_map (fun j ρ => ∃ (gs : List Int) (v2 v3 : Option Dt), ρ = [some (.int x0), some (.lst (ss.map dStp)), some (.lst (gs.map Dt.int)), v2, v3] ∧ gs.Nodup ∧ (∀ x ∈ fs, x ∈ gs) ∧ (∀ x ∈ gs, x ∈ U ∧ Reach ss x0 x) ∧ ((gs = fs ∧ ∀ s ∈ ss.take j, s.a ∈ fs → s.b ∈ fs) ∨ fs.length + 1 ≤ gs.length)) ss ⟨fs, _, v3, rfl, nd, fun x hx => hx, hf, .inl ⟨rfl, fun s hs => by simp at hs⟩⟩ ?_ ?_
    · rintro j st ρ k2 est ⟨gs, v2, v3, rfl, nd2, hs2, hf2, hc2⟩ hk2
      have nx : ∀ s ∈ ss.take (j + 1), s ∈ ss.take j ∨ s = st := fun s hs => by
        rw [List.take_add_one, est] at hs
        rcases List.mem_append.mp hs with h | h
        · exact .inl h
        · exact .inr (List.mem_singleton.mp h)
      refine ⟨_, rfl, ?_⟩
      walk_at "u"
      refine kIn_intsL (neg := false) ?_
      show if decide (st.a ∈ gs) = true then _ else _
      by_cases h1 : st.a ∈ gs
      · rw [decide_eq_true h1]
        refine iteT ?_
        walk_at "u"
        refine kIn_intsL (neg := true) ?_
        show if (!decide (st.b ∈ gs)) = true then _ else _
        by_cases h2 : st.b ∈ gs
        · rw [decide_eq_true h2]
          refine iteF ?_
          walk_at "u"
          refine hk2 _ ⟨gs, v2, _, rfl, nd2, hs2, hf2, hc2.imp (fun ⟨e, h⟩ => ⟨e, fun s hs ha => ?_⟩) id⟩
          rcases nx s hs with q | q
          · exact h s q ha
          · rw [q, ← e]
            exact h2
        · rw [decide_eq_false h2]
          refine iteT ?_
          walk_at "u"
          have l8 := lI gs nd2 fun x hx => (hf2 x hx).1
          refine ⟨by rw [List.length_map, sizeLine_eq]; omega, ?_⟩
          refine hk2 _ ⟨gs ++ [st.b], v2, _, by rw [List.map_append]; rfl, ?_, fun x hx => List.mem_append.mpr (.inl (hs2 x hx)), fun x hx => ?_, .inr ?_⟩
          · rw [List.nodup_append]
            exact ⟨nd2, by simp, fun a ha b hb e => h2 (by rw [← List.mem_singleton.mp hb, ← e]; exact ha)⟩
          · rcases List.mem_append.mp hx with hx | hx
            · exact hf2 x hx
            · rw [List.mem_singleton.mp hx]
              exact ⟨hU _ (List.mem_of_getElem? est), .step (hf2 _ h1).2 (List.mem_of_getElem? est)⟩
          · rw [List.length_append]
            show _ ≤ gs.length + 1
            rcases hc2 with ⟨e, _⟩ | h
            · rw [e]
              exact Nat.le_refl _
            · omega
      · rw [decide_eq_false h1]
        refine iteF ?_
        refine iteF ?_
        walk_at "u"
        refine hk2 _ ⟨gs, v2, _, rfl, nd2, hs2, hf2, hc2.imp (fun ⟨e, h⟩ => ⟨e, fun s hs ha => ?_⟩) id⟩
        rcases nx s hs with q | q
        · exact h s q ha
        · rw [q, ← e] at ha
          exact absurd ha h1
    · rintro ρ ⟨gs, v2, v3, rfl, nd2, hs2, hf2, hc2⟩
      refine hk _ ⟨gs, v2, v3, rfl, nd2, hs2 _ h0, hf2, ?_⟩
      rcases hc2 with ⟨e, h⟩ | h
      · rw [List.take_length] at h
        exact .inl (e ▸ h)
      · rcases hc with hc | hc
        · have : gs.length ≤ fs.length := nd_len nd2 fun x hx => clo_all hc h0 x (hf2 x hx).2
          omega
        · exact .inr (by omega)
  · rintro ρ ⟨fs, v2, v3, rfl, nd, h0, hf, hc⟩
    walk_at "u"
    rw [List.length_map]
    exact q fs nd h0 (fun x hx => (hf x hx).2) hc
end
end KX
namespace KX
open PySem PySem.Spec PyProof.Rows L2 UL
/-! ### the moves: each once, as many as choices -/
/-! ### data of moves: its own like alone -/
theorem cutD_take {α : Type} {f : α → Dt} {xs : List α} {i : Nat} : UL.cutD (xs.map f) none (some (i : Int)) = (xs.take i).map f := by
  unfold UL.cutD
  rw [HT.sIx_none, HT.sIx_nat, List.drop_zero, Nat.sub_zero, List.length_map, List.map_take]
  by_cases h : i ≤ xs.length
  · rw [Nat.min_eq_left h]
  · rw [Nat.min_eq_right (by omega), List.take_of_length_le (by rw [List.length_map]; exact Nat.le_refl _), List.take_of_length_le (by rw [List.length_map]; omega)]
/-! ### who is able -/
/-- the hands that a move takes along -/
def idxD (n : Nat) (m : Mov) : List Int := ((List.range n).filter fun i => (m.2[i]?).any Option.isSome).map fun i : Nat => (i : Int)
/-! ### the same steps -/
end KX
namespace KX
open PySem PySem.Spec PyProof.Rows L2 UL
local macro_rules | `(tactic| walk_at "u") => `(tactic| repeat (first | ((with_reducible refine' wVar_of ?ke ?_); (case ke => rfl)) | with_reducible refine' wC_of ?_ | with_reducible refine' wB_of ?_ | with_reducible refine' wAnd_of ?_ | with_reducible refine' wOr_of ?_ | with_reducible refine' wNot_of ?_ | with_reducible refine' w2_of ?_ | with_reducible refine' w1_of ?_ | with_reducible refine' wCons_of ?_ | with_reducible refine' wNil_of ?_ | ((with_reducible refine' kIxT_of ?ke ?_); (case ke => rfl)) | with_reducible refine' wSeq_of ?_ | with_reducible refine' wSet_of ?_ | ((with_reducible refine' wSetF_of ?ke ?_); (case ke => rfl)) | ((with_reducible refine' wRetO_of ?ke ?_); (case ke => rfl)) | ((with_reducible refine' wSetNew_of ?hs ?_); (case hs => rfl)) | ((with_reducible refine' wPutN_of ?he ?_); (case he => rfl)) | ((with_reducible refine' wPutI_of ?he ?_); (case he => rfl)) | ((with_reducible refine' wApp_of ?ke ?_); (case ke => rfl)) | with_reducible refine' wRet_of ?_ | with_reducible refine' wRetF_of ?_ | with_reducible refine' wIfS_of ?_ | with_reducible refine' wForS_of ?_ | with_reducible refine' wItemsL_of ?_ | with_reducible refine' wItemsT_of ?_ | with_reducible refine' wLc_of ?_ | with_reducible refine' wAndV_of ?_ | with_reducible refine' wOrV_of ?_ | with_reducible refine' wNotV_of ?_ | with_reducible refine' wIf_of ?_ | with_reducible refine' wGet2_of ?_ | with_reducible refine' wChain_of ?_ | with_reducible refine' wExpr_of ?_ | with_reducible refine' kLenL_of ?_ | with_reducible refine' kLenT_of ?_ | ((with_reducible refine' kFld_of ?ke ?_); (case ke => rfl)) | with_reducible refine' wLc2_of ?_ | with_reducible refine' wNext_of ?_ | ((with_reducible refine' kZip2_of ?k1 ?k2 ?_); (case k1 => rfl); (case k2 => rfl)) | ((with_reducible refine' kZip3_of ?k1 ?k2 ?k3 ?_); (case k1 => rfl); (case k2 => rfl); (case k3 => rfl)) | with_reducible refine' kEnumT_of ?_ | with_reducible refine' wPart_of ?_ | with_reducible refine' wNoPart_of ?_ | with_reducible refine' kTupOfL_of ?_ | with_reducible refine' wEndP_of ?_ | ((with_reducible refine' wNewP_of ?ke ?_); (case ke => rfl)) | with_reducible refine' kI_of ?_ | ((with_reducible refine' wRev_of ?ke ?_); (case ke => rfl)) | with_reducible refine' kNeI_of ?_ | with_reducible refine' kEqI_of ?_ | with_reducible refine' kNeS_of ?_ | with_reducible refine' kEqS_of ?_ | with_reducible refine' wDropX_of ?_ | with_reducible refine' wSetX_of ?_ | with_reducible refine' wRetX_of ?_ | with_reducible refine' wRaise_of ?_ | with_reducible refine' wTry_of ?_ | with_reducible refine' wSlT_of ?_ | with_reducible refine' wSlQ_of ?_ | with_reducible refine' kNeg_of ?_ | with_reducible refine' kLenQ_of ?_ | with_reducible refine' kLstT_of ?_ | with_reducible refine' kLstL_of ?_ | ((with_reducible refine' wSetNewK_of ?hs ?_); (case hs => rfl)) | ((with_reducible refine' wPutK_of ?he ?_); (case he => rfl)) | ((with_reducible refine' wIns_of ?he ?_); (case he => rfl)) | ((with_reducible refine' wPop_of ?he ?_); (case he => rfl))))
section
variable {P : Program} {w : World} {K : PySem.W.Frag} {mg : Str → Option Value} {base : Heap} {TT : List NdefX.NTab} {C CS : Addr} {H H' : Hp}
theorem cutD_n {ds : List Dt} {i : Nat} : UL.cutD ds none (some (i : Int)) = ds.take i := by
  have := cutD_take (f := id) (xs := ds) (i := i)
  rwa [List.map_id, List.map_id] at this
theorem stp_py (s : Stp) : (dStp s).py = some (stpD s) := rfl
theorem kInD_stp {neg : Bool} {s : Stp} {ss : List Stp} {P : Dt → Prop} (hs : NameOk s.w) (hn : ∀ x ∈ ss, NameOk x.w) (h : P (.bl (if neg then !decide (s ∈ ss) else decide (s ∈ ss)))) : kInD neg (dStp s) (.lst (ss.map dStp)) P := by
  refine kInD_cases (stp_py s) (pys_map stp_py ss) (shaped_stp hs) (shaped_list hn) ?_
  rw [any_stp]
  exact h
def Big (x0 : Int) (ss : List Stp) : Prop := (∃ ls : List Str, ls.Nodup ∧ (∀ z ∈ ls, ∃ s ∈ ss, s.w = z) ∧ 8 < ls.length) ∨ ∃ fs : List Int, fs.Nodup ∧ (∀ x ∈ fs, Reach ss x0 x) ∧ 8 < fs.length
/-! ### _law_due -/
def wDueS : List Dt → (Dt → Prop) → Prop := fun ds P => ∃ d e, ds = [d, e] ∧ Ty d ∧ staB d = false ∧ P (.tup [.str "state", d])
def wDueR (K : PySem.W.Frag) : List Dt → (Dt → Prop) → Prop := fun ds P => ∃ (x0 : Int) (e : Dt), ds = [.int x0, e] ∧ 0 ≤ x0 ∧ x0 ≤ 99 ∧ (NotRow K e ∨ ∃ us, (e = .lst us ∨ e = .tup us) ∧ us.length ≤ 1000 ∧ (us.length < 1 ∨ 24 < us.length)) ∧ P (.tup [.str "steps", .int (-1)])
structure Pre (pre : List Stp) : Prop where
  ok : ∀ s ∈ pre, StpOk s
  nd : pre.Nodup
  lv : ∀ a, cnt pre a ≤ 4
def wDueL : List Dt → (Dt → Prop) → Prop := fun ds P => ∃ (x0 : Int) (pre : List Stp) (tl : List Dt), ds = [.int x0, .lst (pre.map dStp ++ tl)] ∧ 0 ≤ x0 ∧ x0 ≤ 99 ∧ 1 ≤ pre.length + tl.length ∧ pre.length + tl.length ≤ 24 ∧ Pre pre ∧
  ((∃ x post, tl = x :: post ∧ TyP x ∧ BadStp pre x ∧ P (.tup [.str "steps", .int (pre.length : Nat)])) ∨ (tl = [] ∧ (Big x0 pre → P (.tup [.str "many", .int 8])) ∧ (HdIn x0 pre → P (.tup [.str "hand"]))))
def wDue3 (K : PySem.W.Frag) : List Dt → (Dt → Prop) → Prop := fun ds P => wDueS ds P ∨ wDueR K ds P ∨ wDueL ds P
theorem sc_due3 : FnScope ["_law_start", "_law_steps", "_law_at", "_law_step", "_law_one"] ["_law_start", "_law_steps"] (defScope s_law_due) := ⟨rfl, rfl, rfl, by decide +kernel, rfl, by decide +kernel, by decide +kernel⟩
theorem ok_due3 {f fS fT fM : Addr} {fd fdS fdT fdM : FuncData} (F : Fun K "_law_due" "_law_due" s_law_due f fd) (B : Blt mg) (N : Kin mg) (DS : Cal K mg "_law_is_state" s_law_is_state ["_law_thing"] fS fdS) (DT : Cal K mg "_law_is_step" s_law_is_step ["_law_thing"] fT fdT) (DM : Cal K mg "_law_many_reached" s_law_many_reached ["_law_start", "_law_steps"] fM fdM) (GS : FnOk P w K mg base CX0 2 fS fdS ["_law_thing"] (spU K TT wStateI)) (GT : FnOk P w K mg base CX0 3 fT fdT ["_law_thing"] (spU K TT wStepI)) (GM : FnOk P w K mg base CX0 1 fM fdM ["_law_start", "_law_steps"] (spU K TT wMany3)) : FnOk P w K mg base CX0 4 f fd ["_law_start", "_law_steps"] (spU K TT (wDue3 K)) := by
  refine fn_u F sc_due3 (by decide) (fun ds Q h => by rcases h with ⟨_, _, e, _⟩ | ⟨_, _, e, _⟩ | ⟨_, _, _, e, _⟩ <;> rw [e] <;> rfl) fun cdv A outer s H E hr => ?_
  refine ⟨_, _, ([], []), ([], []), (pss_cons (ps_if (pt_not (pt_val (pe_call GS (hr.mono (by decide)) (by rfl) DS.g DS.F.kp DS.b .nil pass0 (pa_cons (pv 0) pa_nil)))) (pss_one (ps_ret (pe_tup (pa_cons pe_str (pa_cons (pv 0) pa_nil))))) pss_nil)
      (pss_cons (ps_if (PW.pt (pw_or (pt_not (pt_val (pe_callB call_isiT (by rfl) B.isinstance (by decide +kernel) (pa_cons (pv 1) (pa_cons (pe_tup (pa_cons (pe_bltn rfl B.list (by decide +kernel) (v := .ty "list") rfl) (pa_cons (pe_bltn rfl B.tuple (by decide +kernel) (v := .ty "tuple") rfl) pa_nil))) pa_nil))))) (pw_or (pt_cmpR op_lt (pe_callB call_len_ (by rfl) B.len PySem.boot_len (pa_cons (pv 1) pa_nil)) pe_int (nomark _)) (pw_or1 (pt_cmpR op_gt (pe_callB call_len_ (by rfl) B.len PySem.boot_len (pa_cons (pv 1) pa_nil)) pe_int (nomark _)))))) (pss_one (ps_ret (pe_tup (pa_cons pe_str (pa_cons (pe_un un_neg pe_int) pa_nil))))) pss_nil)
      (pss_cons (ps_for PassesOwn.never rfl (pi_range1 rfl B.range (pa_cons (pe_callB call_len_ (by rfl) B.len PySem.boot_len (pa_cons (pv 1) pa_nil)) pa_nil)) (pg_name (i := 2) sc_due3.nd rfl (.inl rfl)) (pss_cons (ps_set (i := 3) sc_due3.nd rfl (.inr rfl) (pe_ix (r := rIxL K) ix_list (pv 1) (pv 2) (fun _ _ => rfl)))
      (pss_cons (ps_if (PW.pt (pw_or (pt_not (pt_val (pe_call GT (hr.mono (by decide)) (by rfl) DT.g DT.F.kp DT.b .nil pass0 (pa_cons (pv 3) pa_nil)))) (pw_or1 (pt_cmpR (op_inD (hu65 hr)) (pv 3) (pe_slice sl_list (pv 1) po_none (po_some (pv 2))) (by rfl))))) (pss_one (ps_ret (pe_tup (pa_cons pe_str (pa_cons (pv 2) pa_nil))))) pss_nil)
      (pss_one (ps_if (pt_cmpR op_gt (pe_callB call_len_ (by rfl) B.len PySem.boot_len (pa_cons (pe_lc (own := [("_law_one", 4)]) (wi := (iList K (tSl (rSlL K) (tVar 1) tNoPart (tPart (tVar 2))))) (g := (gName 4)) (tt := (tTest (tOp rEq (tOp (rIxT K) (tVar 4) (tC (.int 0))) (tOp (rIxT K) (tVar 3) (tC (.int 0)))))) (te := (tVar 4)) rfl sc_due3.nd (pi_list (pe_slice sl_list (pv 1) po_none (po_some (pv 2)))) (blkOk_by (N := ["_law_start", "_law_steps", "_law_at", "_law_step", "_law_one"]) (sc := defScope s_law_due) (by decide +kernel)) (fun _ _ _ _ _ => (pg_name (i := 4) sc_due3.nd rfl (.inl rfl))) (fun _ _ _ _ _ => (pts_one (pt_cmpR op_eq (pe_ix (r := rIxT K) ix_tup (pv 4) pe_int (fun _ _ => rfl)) (pe_ix (r := rIxT K) ix_tup (pv 3) pe_int (fun _ _ => rfl)) (nomark _)))) (fun _ _ _ _ _ => (pv 4))) pa_nil)) pe_int (nomark _)) (pss_one (ps_ret (pe_tup (pa_cons pe_str (pa_cons (pv 2) pa_nil))))) pss_nil)))))
      (pss_cons (ps_if (PW.pt (pw_or (pt_cmpR op_gt (pe_callB cr_lenT (by rfl) B.len PySem.boot_len (pa_cons (pe_callTy (VT.cr_setT rfl) (by rfl) B.set (by decide +kernel) (pa_cons (pe_lc (own := [("_law_step", 3)]) (wi := (iList K (tVar 1))) (g := (gName 3)) (tt := tYes) (te := (tOp (rIxT K) (tVar 3) (tC (.int 1)))) rfl sc_due3.nd (pi_list (pv 1)) (blkOk_by (N := ["_law_start", "_law_steps", "_law_at", "_law_step", "_law_one"]) (sc := defScope s_law_due) (by decide +kernel)) (fun _ _ _ _ _ => (pg_name (i := 3) sc_due3.nd rfl (.inl rfl))) (fun _ _ _ _ _ => pts_nil) (fun _ _ _ _ _ => (pe_ix (r := rIxT K) ix_tup (pv 3) pe_int (fun _ _ => rfl)))) pa_nil)) pa_nil)) pe_int (nomark _)) (pw_or1 (pt_cmpR op_gt (pe_call GM (hr.mono (by decide)) (by rfl) DM.g DM.F.kp DM.b .nil pass0 (pa_cons (pv 0) (pa_cons (pv 1) pa_nil))) pe_int (nomark _))))) (pss_one (ps_ret (pe_tup (pa_cons pe_str (pa_cons pe_int pa_nil))))) pss_nil)
      (pss_one (ps_ret (pe_tup (pa_cons pe_str pa_nil)))))))), (ss_seq (ss_if (st_not (st_tB (se_call (sa_cons (se_var 0) sa_nil)))) (ss_ret (se_tup (sa_cons (se_str (z := "state")) (sa_cons (se_var 0) sa_nil)))) ss_nil)
      (ss_seq (ss_if (st_or (st_not (st_tB (se_isTG ["list", "tuple"] (by decide) (se_var 1)))) (st_or (st_tTest (se_op oS_lt (SE.b (se_cb c1_len (SE.b (se_var 1)))) (SE.b (se_int (i := 1))))) (st_tTest (se_op oS_gt (SE.b (se_cb c1_len (SE.b (se_var 1)))) (SE.b (se_int (i := 24))))))) (ss_ret (se_tup (sa_cons (se_str (z := "steps")) (sa_cons (se_neg (SE.b (se_int (i := 1)))) sa_nil)))) ss_nil)
      (ss_seq (ss_for (g := (gName 2)) (si_rng1 (sa_cons (se_cb c1_len (SE.b (se_var 1))) sa_nil)) (sg_name 2) (ss_seq (ss_cast (S' := ([], [])) (ss_set 3 (se_op oS_ixL (SE.b (se_var 1)) (SE.b (se_var 2)))))
      (ss_seq (ss_if (st_or (st_not (st_tB (se_call (sa_cons (se_var 3) sa_nil)))) (st_tTest (se_op oS_inD (SE.b (se_var 3)) (SE.b (SF.e (sf_slice (SE.b (se_var 1)) so_none (so_some (se_var 2)))))))) (ss_ret (se_tup (sa_cons (se_str (z := "steps")) (sa_cons (se_var 2) sa_nil)))) ss_nil)
      (ss_if (st_tTest (se_op oS_gt (SE.b (se_cb c1_len (SE.b (SF.e (sf_lc (vs := [4]) (si_listS (SF.e (sf_slice (SE.b (se_var 1)) so_none (so_some (se_var 2))))) (sg_name 4) (st_tTest (se_op oS_eq (SE.b (se_op oS_ixT (SE.b (se_var 4)) (SE.b (se_int (i := 0))))) (SE.b (se_op oS_ixT (SE.b (se_var 3)) (SE.b (se_int (i := 0))))))) (se_var 4)))))) (SE.b (se_int (i := 3))))) (ss_ret (se_tup (sa_cons (se_str (z := "steps")) (sa_cons (se_var 2) sa_nil)))) ss_nil))))
      (ss_seq (ss_if (st_or (st_tTest (se_op oS_gt (SE.b (se_lenSet (SE.b (SF.e (sf_lc (vs := [3]) (si_listS (se_var 1)) (sg_name 3) st_yes (se_op oS_ixT (SE.b (se_var 3)) (SE.b (se_int (i := 1))))))))) (SE.b (se_int (i := 8))))) (st_tTest (se_op oS_gt (SE.b (se_call (sa_cons (se_var 0) (sa_cons (se_var 1) sa_nil)))) (SE.b (se_int (i := 8)))))) (ss_ret (se_tup (sa_cons (se_str (z := "many")) (sa_cons (se_int (i := 8)) sa_nil)))) ss_nil)
      (ss_ret (se_tup (sa_cons (se_str (z := "hand")) sa_nil))))))), ?_⟩
  rintro ds P (⟨d, e, rfl, td, sd, q⟩ | ⟨x0, e, rfl, h0, h1, hr, q⟩ | ⟨x0, pre, tl, rfl, h0, h1, l1, l24, G, q⟩)
  · walk_at "u"
    refine ⟨d, rfl, td, ?_⟩
    rw [sd]
    refine iteT ?_
    walk_at "u"
    refine ⟨by show 2 ≤ 1000; decide, ?_⟩
    walk_at "u"
    exact q
  · walk_at "u"
    refine ⟨.int x0, rfl, rfl, ?_⟩
    rw [show staB (.int x0) = true by show (decide (0 ≤ x0) && decide (x0 ≤ 99)) = true; rw [decide_eq_true h0, decide_eq_true h1]; rfl]
    refine iteF ?_
    walk_at "u"
    rcases hr with ⟨t, ht, hk⟩ | ⟨us, he, lu, hl⟩
    · refine ⟨t, false, ht, hk, ?_⟩
      refine iteT ?_
      refine iteT ?_
      walk_at "u"
      refine ⟨by show 2 ≤ 1000; decide, ?_⟩
      walk_at "u"
      exact q
    · rcases he with rfl | rfl
      · refine ⟨_, true, .ty (n := "list") rfl, kAny_ty (by decide +kernel), ?_⟩
        refine iteF ?_
        walk_at "u"
        show if decide (((us.length : Nat) : Int) < 1) = true then _ else _
        by_cases h : us.length < 1
        · rw [decide_eq_true (show ((us.length : Nat) : Int) < 1 by omega)]
          refine iteT ?_
          refine iteT ?_
          walk_at "u"
          refine ⟨by show 2 ≤ 1000; decide, ?_⟩
          walk_at "u"
          exact q
        · rw [decide_eq_false (show ¬ ((us.length : Nat) : Int) < 1 by omega)]
          refine iteF ?_
          walk_at "u"
          show if decide ((24 : Int) < (us.length : Nat)) = true then _ else _
          rw [decide_eq_true (show (24 : Int) < (us.length : Nat) by omega)]
          refine iteT ?_
          walk_at "u"
          refine ⟨by show 2 ≤ 1000; decide, ?_⟩
          walk_at "u"
          exact q
      · refine ⟨_, true, .ty (n := "tuple") rfl, kAny_ty (by decide +kernel), ?_⟩
        refine iteF ?_
        walk_at "u"
        show if decide (((us.length : Nat) : Int) < 1) = true then _ else _
        by_cases h : us.length < 1
        · rw [decide_eq_true (show ((us.length : Nat) : Int) < 1 by omega)]
          refine iteT ?_
          refine iteT ?_
          walk_at "u"
          refine ⟨by show 2 ≤ 1000; decide, ?_⟩
          walk_at "u"
          exact q
        · rw [decide_eq_false (show ¬ ((us.length : Nat) : Int) < 1 by omega)]
          refine iteF ?_
          walk_at "u"
          show if decide ((24 : Int) < (us.length : Nat)) = true then _ else _
          rw [decide_eq_true (show (24 : Int) < (us.length : Nat) by omega)]
          refine iteT ?_
          walk_at "u"
          refine ⟨by show 2 ≤ 1000; decide, ?_⟩
          walk_at "u"
          exact q
  · walk_at "u"
    refine ⟨.int x0, rfl, rfl, ?_⟩
    rw [show staB (.int x0) = true by show (decide (0 ≤ x0) && decide (x0 ≤ 99)) = true; rw [decide_eq_true h0, decide_eq_true h1]; rfl]
    refine iteF ?_
    walk_at "u"
    refine ⟨_, true, .ty (n := "list") rfl, kAny_ty (by decide +kernel), ?_⟩
    refine iteF ?_
    walk_at "u"
    have la : (pre.map dStp ++ tl).length = pre.length + tl.length := by rw [List.length_append, List.length_map]
    rw [la]
    show if decide (((pre.length + tl.length : Nat) : Int) < 1) = true then _ else _
    rw [decide_eq_false (show ¬ ((pre.length + tl.length : Nat) : Int) < 1 by omega)]
    refine iteF ?_
    walk_at "u"
    rw [la]
    show if decide ((24 : Int) < (pre.length + tl.length : Nat)) = true then _ else _
    rw [decide_eq_false (show ¬ (24 : Int) < (pre.length + tl.length : Nat) by omega)]
    refine iteF ?_
    walk_at "u"
    rw [la]
    refine kRng1_to (by omega) (by omega) ?_
    rw [Int.toNat_natCast]
    have nm : ∀ s ∈ pre, NameOk s.w := fun s hs => (G.ok s hs).w
    refine wFor_range _ (fun i ρ => i ≤ pre.length ∧ ∃ v2 v3, ρ = [some (.int x0), some (.lst (pre.map dStp ++ tl)), v2, v3, none]) ⟨Nat.zero_le _, none, none, rfl⟩ ?_ ?_
    · rintro i ρ k hi ⟨hip, v2, v3, rfl⟩ hk
      refine ⟨_, rfl, ?_⟩
      walk_at "u"
      by_cases hlt : i < pre.length
      · have es : pre[i]? = some pre[i] := List.getElem?_eq_getElem hlt
        generalize pre[i] = st at es
        have hm : st ∈ pre := List.mem_of_getElem? es
        have ex : (pre.map dStp ++ tl)[i]? = some (dStp st) := by
          rw [List.getElem?_append_left (by rw [List.length_map]; exact hlt), List.getElem?_map, es]
          rfl
        have et : (pre.map dStp ++ tl).take i = (pre.take i).map dStp := by
          rw [List.take_append_of_le_length (by rw [List.length_map]; omega), List.map_take]
        refine kIxL_of (atI_nat ex) ?_
        walk_at "u"
        refine ⟨dStp st, rfl, stp_typ (G.ok st hm), ?_⟩
        rw [stp_ok (G.ok st hm)]
        refine iteF ?_
        walk_at "u"
        show kInD false _ (.lst (UL.cutD (pre.map dStp ++ tl) none (some ((i : Nat) : Int)))) _
        rw [cutD_n, et]
        have nin : st ∉ pre.take i := fun h => by
          obtain ⟨j, hj⟩ := List.mem_iff_getElem?.mp h
          have hji : j < i := by
            have := (List.getElem?_eq_some_iff.mp hj).1
            rw [List.length_take] at this
            omega
          rw [List.getElem?_take_of_lt hji] at hj
          have := (List.getElem?_inj (by omega) G.nd).mp (hj.trans es.symm)
          omega
        refine kInD_stp (neg := false) (nm st hm) (fun x hx => nm x (List.mem_of_mem_take hx)) ?_
        show if decide (st ∈ pre.take i) = true then _ else _
        rw [decide_eq_false nin]
        refine iteF ?_
        walk_at "u"
        show (UL.cutD (pre.map dStp ++ tl) none (some ((i : Nat) : Int))).length ≤ 1000000 ∧ wComp _ _ _ _ (UL.cutD (pre.map dStp ++ tl) none (some ((i : Nat) : Int))) [] _
        rw [cutD_n, et]
        refine ⟨by rw [List.length_map, List.length_take]; omega, ?_⟩
        refine wComp_map (fun s : Stp => decide (s.a = st.a)) dStp _ (fun s hs => ?_) ?_
        · refine ⟨_, rfl, fun Q q => ?_, fun _ Q q => q⟩
          walk_at "u"
          exact q
        rw [List.nil_append]
        walk_at "u"
        rw [List.length_map]
        show if decide ((3 : Int) < (cnt (pre.take i) st.a : Nat)) = true then _ else _
        have c1 := cnt_take st.a es
        rw [if_pos rfl] at c1
        have c2 := cnt_take_le pre (i + 1) st.a
        have c3 := G.lv st.a
        rw [decide_eq_false (show ¬ (3 : Int) < (cnt (pre.take i) st.a : Nat) by omega)]
        refine iteF ?_
        walk_at "u"
        exact hk _ ⟨hlt, _, _, rfl⟩
      · have ei : i = pre.length := by omega
        subst ei
        rcases q with ⟨x, post, rfl, tx, bx, q⟩ | ⟨rfl, _⟩
        · have ex : (pre.map dStp ++ x :: post)[pre.length]? = some x := by
            rw [List.getElem?_append_right (by rw [List.length_map]; exact Nat.le_refl _), List.length_map, Nat.sub_self]
            rfl
          have et : (pre.map dStp ++ x :: post).take pre.length = pre.map dStp := by
            rw [List.take_append_of_le_length (by rw [List.length_map]; omega), List.take_of_length_le (by rw [List.length_map]; omega)]
          refine kIxL_of (atI_nat ex) ?_
          walk_at "u"
          refine ⟨x, rfl, tx, ?_⟩
          by_cases hb : stpB x = false
          · rw [hb]
            refine iteT ?_
            refine iteT ?_
            walk_at "u"
            refine ⟨by show 2 ≤ 1000; decide, ?_⟩
            walk_at "u"
            exact q
          · rcases bx with hb2 | ⟨st, rfl, ok, hs⟩
            · exact absurd hb2 hb
            · rw [stp_ok ok]
              refine iteF ?_
              walk_at "u"
              show kInD false _ (.lst (UL.cutD (pre.map dStp ++ dStp st :: post) none (some ((pre.length : Nat) : Int)))) _
              rw [cutD_n, et]
              refine kInD_stp (neg := false) ok.w nm ?_
              show if decide (st ∈ pre) = true then _ else _
              by_cases hin : st ∈ pre
              · rw [decide_eq_true hin]
                refine iteT ?_
                walk_at "u"
                refine ⟨by show 2 ≤ 1000; decide, ?_⟩
                walk_at "u"
                exact q
              · rw [decide_eq_false hin]
                refine iteF ?_
                walk_at "u"
                show (UL.cutD (pre.map dStp ++ dStp st :: post) none (some ((pre.length : Nat) : Int))).length ≤ 1000000 ∧ wComp _ _ _ _ (UL.cutD (pre.map dStp ++ dStp st :: post) none (some ((pre.length : Nat) : Int))) [] _
                rw [cutD_n, et]
                refine ⟨by rw [List.length_map]; omega, ?_⟩
                refine wComp_map (fun s : Stp => decide (s.a = st.a)) dStp _ (fun s hs => ?_) ?_
                · refine ⟨_, rfl, fun Q q => ?_, fun _ Q q => q⟩
                  walk_at "u"
                  exact q
                rw [List.nil_append]
                walk_at "u"
                rw [List.length_map]
                show if decide ((3 : Int) < (cnt pre st.a : Nat)) = true then _ else _
                have c4 : 4 ≤ cnt pre st.a := hs.resolve_left hin
                rw [decide_eq_true (show (3 : Int) < (cnt pre st.a : Nat) by omega)]
                refine iteT ?_
                walk_at "u"
                refine ⟨by show 2 ≤ 1000; decide, ?_⟩
                walk_at "u"
                exact q
        · exact absurd hi (by show ¬ pre.length < pre.length + 0; omega)
    · rintro ρ ⟨hip, v2, v3, rfl⟩
      rcases q with ⟨x, post, rfl, _⟩ | ⟨rfl, qb, qh⟩
      · exact absurd hip (by rw [List.length_cons]; omega)
      rw [List.append_nil]
      walk_at "u"
      refine ⟨by rw [List.length_map]; have : ([] : List Dt).length = 0 := rfl; omega, ?_⟩
      refine wComp_all (fun s : Stp => Dt.str s.w) pre (fun s hs => ?_) ?_
      · refine ⟨_, rfl, fun Q q => q, fun Q q => ?_⟩
        walk_at "u"
        exact q
      rw [List.nil_append]
      have lp : pre.length ≤ 24 := by have : ([] : List Dt).length = 0 := rfl; omega
      have lp1 : 1 ≤ pre.length := by have : ([] : List Dt).length = 0 := rfl; omega
      refine ⟨pre.map (·.w), by have := UL.strs_map (pre.map (·.w)); rw [List.map_map] at this; exact this, by rw [List.length_map]; omega, fun ks nd hk => ?_⟩
      have hk2 : ∀ z, z ∈ ks ↔ ∃ s ∈ pre, s.w = z := fun z => by rw [hk z, List.mem_map]
      walk_at "u"
      show if decide ((8 : Int) < (ks.length : Nat)) = true then _ else _
      by_cases h8 : 8 < ks.length
      · rw [decide_eq_true (show (8 : Int) < (ks.length : Nat) by omega)]
        refine iteT ?_
        refine iteT ?_
        walk_at "u"
        refine ⟨by show 2 ≤ 1000; decide, ?_⟩
        walk_at "u"
        exact qb (.inl ⟨ks, nd, fun z hz => (hk2 z).mp hz, h8⟩)
      · rw [decide_eq_false (show ¬ (8 : Int) < (ks.length : Nat) by omega)]
        refine iteF ?_
        walk_at "u"
        refine ⟨x0, pre, rfl, lp, fun fs ndf f0 hf hc => ?_⟩
        walk_at "u"
        show if decide ((8 : Int) < (fs.length : Nat)) = true then _ else _
        by_cases f8 : 8 < fs.length
        · rw [decide_eq_true (show (8 : Int) < (fs.length : Nat) by omega)]
          refine iteT ?_
          walk_at "u"
          refine ⟨by show 2 ≤ 1000; decide, ?_⟩
          walk_at "u"
          exact qb (.inr ⟨fs, ndf, hf, f8⟩)
        · rw [decide_eq_false (show ¬ (8 : Int) < (fs.length : Nat) by omega)]
          refine iteF ?_
          walk_at "u"
          refine ⟨by show 1 ≤ 1000; decide, ?_⟩
          walk_at "u"
          refine qh ⟨⟨G.ok, G.nd, G.lv, lp1, lp⟩, h0, h1, ⟨ks, fun s hs => (hk2 _).mpr ⟨s, hs, rfl⟩, by omega⟩, ⟨fs, fun x r => ?_, by omega⟩⟩
          rcases hc with hc | hc
          · exact clo_all hc f0 x r
          · omega
end
end KX
/-! UL: f(_law_pool(e), x, 1, ..): a pool made in an argument. -/
namespace UL
open PySem PySem.Spec PyProof.Rows L2
section
variable {K : PySem.W.Frag} {T : List NdefX.NTab} {S : Sl} {m1 m2 : Bool} {ta tb tn : TE} {t u tu : WE} {H H1 : Hp} {W : WX} {C : Ct} {σ : L2.St} {ρ : Env}
/-- a name or a number -/
inductive Atm where
  | v (j : Nat) | i (k : Int)
def tAtm : Atm → TE
  | .v j => tVar j
  | .i k => tC (.int k)
def tAtms : List Atm → TA
  | [] => tNil
  | a :: as => tCons (tAtm a) (tAtms as)
def atmD (ρ : Env) : Atm → Option Dt
  | .v j => (ρ[j]?).join
  | .i k => some (.int k)
def atmsD (ρ : Env) : List Atm → Option (List Dt)
  | [] => some []
  | a :: as => match atmD ρ a, atmsD ρ as with
    | some d, some ds => some (d :: ds)
    | _, _ => none
def noV (S : Sl) : List Atm → Bool
  | [] => true
  | .v j :: as => decide (j ∉ S.1 ∧ j ∉ S.2) && noV S as
  | _ :: as => noV S as
theorem noV_ok : ∀ {as : List Atm}, noV S as = true → ∀ j, Atm.v j ∈ as → j ∉ S.1 ∧ j ∉ S.2
  | a :: as, h, j, hj => by
    cases a with
    | v i =>
      unfold noV at h
      obtain ⟨h1, h2⟩ := Bool.and_eq_true_iff.mp h
      rcases List.mem_cons.mp hj with e | hj
      · cases e
        exact of_decide_eq_true h1
      · exact noV_ok h2 j hj
    | i k =>
      unfold noV at h
      rcases List.mem_cons.mp hj with e | hj
      · cases e
      · exact noV_ok h j hj
end
end UL
/-! UL: a def that draws from its first argument and gives a new list; f(_law_pool(e), x, .., e2) of such. -/
namespace UL
open PySem PySem.Spec PyProof.Rows L2
section
variable {K : PySem.W.Frag} {T : List NdefX.NTab} {S : Sl} {m m1 m2 : Bool} {ta tb tn te : TE} {t u tu : WE} {H H1 : Hp} {W : WX} {C : Ct} {σ : L2.St} {ρ : Env}
def spPF (K : PySem.W.Frag) (T : List NdefX.NTab) (w : List Dt → (List Dt → Prop) → Prop) : Sp := fun vs H Q _ => ∃ (p : Addr) (vs' : List V) (ok : Addr → Prop) (ds : List Dt) (P : List Dt → Prop), vs = .ref p :: vs' ∧ PlAt H p ∧ ¬ ok p ∧ NdefX.TabsN T H ∧ Rs K ok H ds vs' ∧ w ds P ∧
  ∀ es q us H', P es → (∀ a o, NT o → a ≠ p → H a = some o → H' a = some o) → PlAt H' p → NdefX.TabsN T H' → Fre H q → H' q = some (.lst us) → Rs K (fun a => (ok a ∨ Fre H a) ∧ a ≠ q) H' es us → Q (.ref q) H'
theorem fn_pf {P : Program} {w : World} {mg : Str → Option Value} {base : Heap} {x qual : Str} {st : Stmt} {f : Addr} {fd : FuncData} {N ps : List Str} {k : Nat} {sp : List Dt → (List Dt → Prop) → Prop} (F : Fun K x qual st f fd) (S : FnScope N ps (defScope st)) (hn : ps.length ≤ N.length) (len : ∀ ds Q, sp ds Q → ds.length + 1 = ps.length)
    (hb : ∀ (cdv : Value) (A : Around) (outer : List PySem.Env) (s : Shared) (H : Hp) (E : XK), Room k (A.deeper (envOfC qual (defScope st) s.heap.objs.size f cdv)) →
      ∃ (ts : TS) (wb : WS) (SL S' : Sl), PSs (cxOf CX0 P w K mg base N qual (defScope st) f cdv A outer s H E).nox (defBody st) ts ∧ SS K T XO0 SL ([], [0]) S' ts wb ∧
        ∀ ds Q, sp ds Q → wb (env0P N ds) fun o => match o with
          | .rf d => Q d
          | _ => False) : FnOk P w K mg base CX0 (k + 1) f fd ps (spPF K T sp) := by
  refine F.ok S (fun vs H Q E ⟨p, vs', ok, ds, P, e, _, _, _, r, h, _⟩ => by rw [e, List.length_cons, r.len]; exact len _ _ h) (fun cdv A outer s H vs Q E hr h => ?_)
  obtain ⟨p, vs', ok, ds, P, rfl, hp, nok, ht, r, h, q⟩ := h
  obtain ⟨ts, wb, SL, S', h1, h2, h3⟩ := hb cdv A outer s H E hr
  have hl : ds.length + 1 ≤ N.length := by rw [len _ _ h]; exact hn
  refine ⟨ts, h1, ?_⟩
  have bs : ∀ a, (ctP T H ok p).base a → ok a ∨ Fre H a := fun a z => z.imp And.left id
  refine h2 (ctP T H ok p) (env0P N ds) _ _ H _ ⟨rfl, rfl, rfl⟩ (h3 ds P h) (envRP r hl ht hp nok) (fun i hi => nomatch hi) fun o ho => ?_
  cases o with
  | rf d => exact fun p' us H' f hp e r => q _ p' us H' ho (fun a o nt ne e => f.keep a o nt e ne) (f.lent p rfl) f.tab hp e (r.okm fun a _ z => ⟨bs a z.1, z.2⟩)
  | rt d => exact ho.elim
  | nx ρ => exact ho.elim
  | bk ρ => exact ho.elim
  | ct ρ => exact ho.elim
  | xc x ρ => exact ho.elim
/-- names and numbers, then an expression -/
def tAtmsE (te : TE) : List Atm → TA
  | [] => tCons te tNil
  | a :: as => tCons (tAtm a) (tAtmsE te as)
theorem atmsE_run {te : TE} (E : EnvR K C σ H ρ) (hC : C.In T S) : ∀ {as : List Atm} {ds : List Dt}, (∀ j, Atm.v j ∈ as → j ∉ S.1 ∧ j ∉ S.2) → atmsD ρ as = some ds → ∃ vs, Rs K C.ok H ds vs ∧ ∀ (H2 : Hp) (Q : List V → Hp → Prop), (te σ H2 fun x H3 => Q (vs ++ [x]) H3) → tAtmsE te as σ H2 Q
  | [], ds, _, e => by cases e; exact ⟨[], .nil, fun H2 Q q => q⟩
  | a :: as, ds, hj, e => by
    unfold atmsD at e
    cases e1 : atmD ρ a with
    | none => rw [e1] at e; cases e
    | some d =>
      cases e2 : atmsD ρ as with
      | none => rw [e1, e2] at e; cases e
      | some ds' =>
        rw [e1, e2] at e
        cases e
        obtain ⟨vs, r, run⟩ := atmsE_run E hC (fun j h => hj j (List.mem_cons_of_mem _ h)) e2
        cases a with
        | v j =>
          obtain ⟨h1, h2⟩ := hj j List.mem_cons_self
          have e1 : ρ[j]? = some (some d) := by
            have e1 : (ρ[j]?).join = some d := e1
            cases q : ρ[j]? with
            | none => rw [q] at e1; cases e1
            | some o => rw [q] at e1; cases o with
              | none => cases e1
              | some d' => cases e1; rfl
          obtain ⟨v, ev, rv⟩ := E.sh j d (by rw [hC.1]; exact h1) (by rw [hC.2]; exact h2) e1
          exact ⟨v :: vs, .cons rv r, fun H2 Q q => ⟨v, ev, run H2 (fun xs H3 => Q (v :: xs) H3) q⟩⟩
        | i k =>
          cases e1
          exact ⟨.int k :: vs, .cons (.int k) r, fun H2 Q q => run H2 (fun xs H3 => Q (V.int k :: xs) H3) q⟩
def intP (f : Int → Prop) : Dt → Prop
  | .int k => f k
  | _ => False
theorem sf_callNE (as : List Atm) {w : List Dt → (List Dt → Prop) → Prop} {sp : Sp} {E0 E1 : XK} (hs : PoolSp sp) (hn : SE K T S true tn tu) (he : SE K T S m te t) (ha : noV S as = true := by decide) : SF K T S m (tCall (spPF K T w) [] E0 (tCons (tCall sp [] E1 (tCons tn tNil)) (tAtmsE te as)))
    (fun ρ P => tu ρ fun d => match d with | .int _ => ∃ ds, atmsD ρ as = some ds ∧ t ρ (intP fun k => w (ds ++ [Dt.int k]) P) | _ => False) := fun C ρ P σ H Q hC ht E q => by
  refine hn C ρ _ σ H _ hC ht E fun d v H1 h1 g1 r1 => ?_
  cases d <;> first | exact h1.elim | skip
  obtain ⟨ds, eds, hw⟩ := h1
  rw [R.intE r1]
  have E1 := E.gr g1
  obtain ⟨vs, rs, run⟩ := atmsE_run E1 hC (noV_ok ha) eds
  refine hs _ H1 _ _ fun p x y z hp => ?_
  refine run _ _ ?_
  have k12 : Same H1 (upd H1 p (.lst [.int x, .int y, .int z])) := same_up hp
  have hp2 : upd H1 p (.lst [.int x, .int y, .int z]) p = some (.lst [.int x, .int y, .int z]) := upd_same
  have rs2 : Rs K (fun a => C.ok a ∧ a ≠ p) (upd H1 p (.lst [.int x, .int y, .int z])) ds vs := (ok_ne hp rs).same k12
  generalize upd H1 p (.lst [.int x, .int y, .int z]) = H2 at k12 hp2 rs2 ⊢
  have E2 := E1.same k12
  have nP : ∀ j ∈ C.Pl, p ≠ C.A j := fun j hj e => by
    obtain ⟨_, _, ⟨a, b, c, e3⟩, _⟩ := E1.pls j hj
    rw [← e, hp] at e3
    cases e3
  refine he C ρ _ σ H2 _ hC hw E2 fun d2 v2 H3 h3 g3 r3 => ?_
  cases d2 <;> first | exact h3.elim | skip
  rename_i k
  have h3 : w (ds ++ [Dt.int k]) P := h3
  rw [R.intE r3]
  have E3 := E2.gr g3
  have hp3 : H3 p = some (.lst [.int x, .int y, .int z]) := g3.keep _ _ nt_lst hp2 fun _ => nP
  have t3 := E3.tab
  rw [hC.T] at t3
  show spPF K T w (V.ref p :: ((vs ++ [V.int k]) ++ [])) _ Q E0
  rw [List.append_nil]
  have kp := g3.kp E2
  have m3 : Mv (fun a => C.ok a ∧ a ≠ p) H2 (fun a => C.ok a ∧ a ≠ p) H3 := .of ⟨fun a o nt e h => kp.keep a o nt e (h.imp And.left id), kp.dom⟩
  refine ⟨p, vs ++ [V.int k], fun a => C.ok a ∧ a ≠ p, ds ++ [.int k], P, rfl, ⟨x, y, z, hp3⟩, fun z => z.2 rfl, t3, (rs2.mv m3).append (.cons (.int k) .nil), h3, fun es pq us H4 hes keep hpl t4 fq eq rq => ?_⟩
  have g13 : Gr m C H1 H3 := (Gr.of (m := true) k12).trans g3
  have g14 : Gr m C H1 H4 := by
    refine ⟨fun a o nt e h => keep a o nt (ne_of_none e hp) (g13.keep a o nt e h), fun i hi h => ?_, fun a f => ?_, fun _ => by rw [hC.T]; exact t4⟩
    · obtain ⟨a, b, c, e3⟩ := g13.pl i hi h
      exact ⟨a, b, c, keep _ _ nt_lst (Ne.symm (nP i hi)) e3⟩
    · refine g13.dom a fun o nt e3 => ?_
      by_cases ea : a = p
      · subst ea
        obtain ⟨a', b', c', e4⟩ := hpl
        exact f _ nt_lst e4
      · exact f o nt (keep a o nt ea e3)
  have g04 : Gr m C H H4 := g1.trans g14
  refine q es pq us H4 hes g04 ?_ eq (rq.okm fun a _ z => ⟨z.1.elim (fun z => z.1) fun z => E3.freshF z, z.2⟩)
  exact g1.dom _ (g13.dom _ fq)
end
end UL
namespace KX
open PySem PySem.Spec PyProof.Rows L2 UL
local macro_rules | `(tactic| walk_at "u") => `(tactic| repeat (first | ((with_reducible refine' wVar_of ?ke ?_); (case ke => rfl)) | with_reducible refine' wC_of ?_ | with_reducible refine' wB_of ?_ | with_reducible refine' wAnd_of ?_ | with_reducible refine' wOr_of ?_ | with_reducible refine' wNot_of ?_ | with_reducible refine' w2_of ?_ | with_reducible refine' w1_of ?_ | with_reducible refine' wCons_of ?_ | with_reducible refine' wNil_of ?_ | ((with_reducible refine' kIxT_of ?ke ?_); (case ke => rfl)) | with_reducible refine' wSeq_of ?_ | with_reducible refine' wSet_of ?_ | ((with_reducible refine' wSetF_of ?ke ?_); (case ke => rfl)) | ((with_reducible refine' wRetO_of ?ke ?_); (case ke => rfl)) | ((with_reducible refine' wSetNew_of ?hs ?_); (case hs => rfl)) | ((with_reducible refine' wPutN_of ?he ?_); (case he => rfl)) | ((with_reducible refine' wPutI_of ?he ?_); (case he => rfl)) | ((with_reducible refine' wApp_of ?ke ?_); (case ke => rfl)) | with_reducible refine' wRet_of ?_ | with_reducible refine' wRetF_of ?_ | with_reducible refine' wIfS_of ?_ | with_reducible refine' wForS_of ?_ | with_reducible refine' wItemsL_of ?_ | with_reducible refine' wItemsT_of ?_ | with_reducible refine' wLc_of ?_ | with_reducible refine' wAndV_of ?_ | with_reducible refine' wOrV_of ?_ | with_reducible refine' wNotV_of ?_ | with_reducible refine' wIf_of ?_ | with_reducible refine' wGet2_of ?_ | with_reducible refine' wChain_of ?_ | with_reducible refine' wExpr_of ?_ | with_reducible refine' kLenL_of ?_ | with_reducible refine' kLenT_of ?_ | ((with_reducible refine' kFld_of ?ke ?_); (case ke => rfl)) | with_reducible refine' wLc2_of ?_ | with_reducible refine' wNext_of ?_ | ((with_reducible refine' kZip2_of ?k1 ?k2 ?_); (case k1 => rfl); (case k2 => rfl)) | ((with_reducible refine' kZip3_of ?k1 ?k2 ?k3 ?_); (case k1 => rfl); (case k2 => rfl); (case k3 => rfl)) | with_reducible refine' kEnumT_of ?_ | with_reducible refine' wPart_of ?_ | with_reducible refine' wNoPart_of ?_ | with_reducible refine' kTupOfL_of ?_ | with_reducible refine' wEndP_of ?_ | ((with_reducible refine' wNewP_of ?ke ?_); (case ke => rfl)) | with_reducible refine' kI_of ?_ | ((with_reducible refine' wRev_of ?ke ?_); (case ke => rfl)) | with_reducible refine' kNeI_of ?_ | with_reducible refine' kEqI_of ?_ | with_reducible refine' kNeS_of ?_ | with_reducible refine' kEqS_of ?_ | with_reducible refine' wDropX_of ?_ | with_reducible refine' wSetX_of ?_ | with_reducible refine' wRetX_of ?_ | with_reducible refine' wRaise_of ?_ | with_reducible refine' wTry_of ?_ | with_reducible refine' wSlT_of ?_ | with_reducible refine' wSlQ_of ?_ | with_reducible refine' kNeg_of ?_ | with_reducible refine' kLenQ_of ?_ | with_reducible refine' kLstT_of ?_ | with_reducible refine' kLstL_of ?_ | ((with_reducible refine' wSetNewK_of ?hs ?_); (case hs => rfl)) | ((with_reducible refine' wPutK_of ?he ?_); (case he => rfl)) | ((with_reducible refine' wIns_of ?he ?_); (case he => rfl)) | ((with_reducible refine' wPop_of ?he ?_); (case he => rfl))))
section
variable {P : Program} {w : World} {K : PySem.W.Frag} {mg : Str → Option Value} {base : Heap} {TT : List NdefX.NTab} {C CS : Addr} {H H' : Hp}
def deepT : Nat → Dt → Dt
  | 0, d => d
  | n + 1, d => .tup [deepT n d]
def wDeep3 : List Dt → (Dt → Prop) → Prop := fun ds P => ∃ d, ds = [d] ∧ P (deepT 450 d)
theorem deep_odd (n : Nat) (d : Dt) : TyP (deepT (n + 2) d) ∧ stpB (deepT (n + 2) d) = false ∧ (deepT (n + 2) d).selfE = true := by
  refine ⟨⟨rfl, fun es e x hx => ?_⟩, rfl, rfl⟩
  unfold deepT at e
  cases e
  rw [List.mem_singleton.mp hx]
  exact ⟨rfl, fun z e => by unfold deepT at e; cases e⟩
/-- what stands in the place of a step, and is none -/
def OddX (x : Dt) : Prop := TyP x ∧ stpB x = false ∧ x.selfE = true
def wOdd3 : List Dt → (Dt → Prop) → Prop := fun ds P => ∃ st, ds = [dStp st] ∧ StpOk st ∧ ∀ x, OddX x → P x
theorem odd_flat {x : Dt} (h1 : Ty x) (h2 : ∀ es, x ≠ .tup es) (h3 : x.selfE = true) : OddX x := ⟨⟨h1, fun es e => absurd e (h2 es)⟩, by cases x <;> first | rfl | exact absurd rfl (h2 _), h3⟩
def OkP (x : Dt) : Prop := Ty x ∧ ∀ z, x = .str z → z.length ≤ sizeLine
theorem odd_tup {es : List Dt} (h : ∀ x ∈ es, OkP x) (h2 : stpB (.tup es) = false) : OddX (.tup es) := ⟨⟨rfl, fun es' e x hx => by cases e; exact h x hx⟩, h2, rfl⟩
theorem okP_int {i : Int} : OkP (.int i) := ⟨rfl, fun z e => nomatch e⟩
theorem okP_w {s : Str} (h : NameOk s) : OkP (.str s) := ⟨rfl, fun z e => by cases e; have := h.hi; rw [len_cps, sizeLine_eq]; omega⟩
theorem sc_deep3 : FnScope ["_law_thing", "_law_k"] ["_law_thing"] (defScope s_law_deep) := ⟨rfl, rfl, rfl, by decide +kernel, rfl, by decide +kernel, by decide +kernel⟩
theorem ok_deep3 {f : Addr} {fd : FuncData} (F : Fun K "_law_deep" "_law_deep" s_law_deep f fd) (B : Blt mg) : FnOk P w K mg base CX0 1 f fd ["_law_thing"] (spU K TT wDeep3) := by
  refine fn_u F sc_deep3 (by decide) (fun ds Q ⟨_, e, _⟩ => by rw [e]; rfl) fun cdv A outer s H E hr => ?_
  refine ⟨_, _, ([], []), ([], []), (pss_cons (ps_for PassesOwn.never rfl (pi_range1 rfl B.range (pa_cons pe_int pa_nil)) (pg_name (i := 1) sc_deep3.nd rfl (.inl rfl)) (pss_one (ps_set (i := 0) sc_deep3.nd rfl (.inl rfl) (pe_tup (pa_cons (pv 0) pa_nil)))))
      (pss_one (ps_ret (pv 0)))), (ss_seq (ss_for (g := (gName 1)) (si_rng1 (sa_cons (se_int (i := 450)) sa_nil)) (sg_name 1) (ss_cast (S' := ([], [])) (ss_set 0 (se_tup (sa_cons (se_var 0) sa_nil)))))
      (ss_ret (se_var 0))), ?_⟩
  rintro ds P ⟨d, rfl, q⟩
  walk_at "u"
  refine kRng1_to (by decide) (by decide) ?_
  refine wFor_range 450 (fun i ρ => ∃ v1, ρ = [some (deepT i d), v1]) ⟨none, rfl⟩ ?_ ?_
  · rintro i ρ k hi ⟨v1, rfl⟩ hk
    refine ⟨_, rfl, ?_⟩
    walk_at "u"
    refine ⟨by show 1 ≤ 1000; decide, ?_⟩
    exact hk _ ⟨_, rfl⟩
  · rintro ρ ⟨v1, rfl⟩
    walk_at "u"
    exact q
theorem sc_odd3 : FnScope ["_law_pool_here", "_law_step", "_law_kind", "_law_plain", "_law_state", "_law_word"] ["_law_pool_here", "_law_step"] (defScope s_law_odd_step) := ⟨rfl, rfl, rfl, by decide +kernel, rfl, by decide +kernel, by decide +kernel⟩
theorem ok_odd3 {f fD fE : Addr} {fd fdD fdE : FuncData} (F : Fun K "_law_odd_step" "_law_odd_step" s_law_odd_step f fd) (B : Blt mg) (DD : Cal K mg "_law_draw" s_law_draw ["_law_pool_here", "_law_many"] fD fdD) (GD : FnOk P w K mg base CX0 1 fD fdD ["_law_pool_here", "_law_many"] (spP K TT wDraw)) (DE : Cal K mg "_law_deep" s_law_deep ["_law_thing"] fE fdE) (GE : FnOk P w K mg base CX0 1 fE fdE ["_law_thing"] (spU K TT wDeep3)) : FnOk P w K mg base CX0 2 f fd ["_law_pool_here", "_law_step"] (spP K TT wOdd3) := by
  refine fn_p F sc_odd3 (by decide) (fun ds Q ⟨_, e, _⟩ => by rw [e]; rfl) fun cdv A outer s H E hr => ?_
  refine ⟨_, _, ([], [0]), ([], [0]), (pss_cons (ps_set (i := 2) sc_odd3.nd rfl (.inl rfl) (pe_call GD (hr.mono (by decide)) (by rfl) DD.g DD.F.kp DD.b .nil pass0 (pa_cons (pv 0) (pa_cons pe_int pa_nil))))
      (pss_cons (ps_set (i := 3) sc_odd3.nd rfl (.inl rfl) (pe_lst (pa_cons pe_non (pa_cons pe_int (pa_cons pe_str (pa_cons (pe_slice sl_tupA (pv 1) po_none (po_some pe_int)) (pa_cons (pe_op op_catA (pv 1) (pe_tup (pa_cons pe_int pa_nil))) (pa_cons (pe_callTy call_lst_ (by rfl) B.list (by decide +kernel) (pa_cons (pv 1) pa_nil)) (pa_cons (pe_tup pa_nil) (pa_cons pe_dnewT pa_nil))))))))))
      (pss_cons (ps_if (pt_cmpR op_lt (pv 2) pe_int (nomark _)) (pss_one (ps_ret (pe_ix (r := rIxL K) ix_list (pv 3) (pv 2) (fun _ _ => rfl)))) pss_nil)
      (pss_cons (ps_if (pt_cmpR op_eq (pv 2) pe_int (nomark _)) (pss_one (ps_ret (pe_call GE (hr.mono (by decide)) (by rfl) DE.g DE.F.kp DE.b .nil pass0 (pa_cons (pv 1) pa_nil)))) pss_nil)
      (pss_cons (ps_set (i := 4) sc_odd3.nd rfl (.inl rfl) (pe_ix (r := rIxL K) ix_list (pe_lst (pa_cons (pe_un un_neg pe_int) (pa_cons pe_int (pa_cons pe_bl (pa_cons pe_str (pa_cons pe_non (pa_cons (pe_tup (pa_cons pe_int pa_nil)) (pa_cons (pe_op op_pow pe_int pe_int) (pa_cons pe_bl pa_nil))))))))) (pe_call GD (hr.mono (by decide)) (by rfl) DD.g DD.F.kp DD.b .nil pass0 (pa_cons (pv 0) (pa_cons pe_int pa_nil))) (fun _ _ => rfl)))
      (pss_cons (ps_set (i := 5) sc_odd3.nd rfl (.inl rfl) (pe_ix (r := rIxL K) ix_list (pe_lst (pa_cons pe_str (pa_cons pe_str (pa_cons pe_str (pa_cons pe_int (pa_cons pe_non (pa_cons pe_str (pa_cons pe_bl (pa_cons pe_str pa_nil))))))))) (pe_call GD (hr.mono (by decide)) (by rfl) DD.g DD.F.kp DD.b .nil pass0 (pa_cons (pv 0) (pa_cons pe_int pa_nil))) (fun _ _ => rfl)))
      (pss_cons (ps_if (pt_cmpR op_eq (pv 2) pe_int (nomark _)) (pss_one (ps_ret (pe_tup (pa_cons (pv 4) (pa_cons (pe_ix (r := rIxT K) ix_tup (pv 1) pe_int (fun _ _ => rfl)) (pa_cons (pe_ix (r := rIxT K) ix_tup (pv 1) pe_int (fun _ _ => rfl)) pa_nil)))))) pss_nil)
      (pss_cons (ps_if (pt_cmpR op_eq (pv 2) pe_int (nomark _)) (pss_one (ps_ret (pe_tup (pa_cons (pe_ix (r := rIxT K) ix_tup (pv 1) pe_int (fun _ _ => rfl)) (pa_cons (pe_ix (r := rIxT K) ix_tup (pv 1) pe_int (fun _ _ => rfl)) (pa_cons (pv 4) pa_nil)))))) pss_nil)
      (pss_cons (ps_if (pt_cmpR op_eq (pv 2) pe_int (nomark _)) (pss_one (ps_ret (pe_tup (pa_cons (pe_ix (r := rIxT K) ix_tup (pv 1) pe_int (fun _ _ => rfl)) (pa_cons (pv 5) (pa_cons (pe_ix (r := rIxT K) ix_tup (pv 1) pe_int (fun _ _ => rfl)) pa_nil)))))) pss_nil)
      (pss_one (ps_ret (pe_tup (pa_cons (pv 4) (pa_cons (pv 5) (pa_cons (pe_ix (r := rIxT K) ix_tup (pv 1) pe_int (fun _ _ => rfl)) pa_nil))))))))))))))), (ss_seq (ss_cast (S' := ([], [0])) (ss_set 2 (se_callP 0 (sa_cons (se_int (i := 13)) sa_nil))))
      (ss_seq (ss_cast (S' := ([], [0])) (ss_set 3 (SF.e (sf_lst (sa_cons se_non (sa_cons (se_int (i := 5)) (sa_cons (se_str (z := "abc")) (sa_cons (se_sliceT (SE.b (se_var 1)) so_none (so_some (se_int (i := 2)))) (sa_cons (se_op oS_catT (SE.b (se_var 1)) (SE.b (se_tup (sa_cons (se_int (i := 0)) sa_nil)))) (sa_cons (SF.e (sf_cb c1_lstOf (SE.b (se_var 1)))) (sa_cons (se_tup sa_nil) (sa_cons se_dnew sa_nil))))))))))))
      (ss_seq (ss_if (st_tTest (se_op oS_lt (SE.b (se_var 2)) (SE.b (se_int (i := 8))))) (ss_ret (se_op oS_ixL (SE.b (se_var 3)) (SE.b (se_var 2)))) ss_nil)
      (ss_seq (ss_if (st_tTest (se_op oS_eq (SE.b (se_var 2)) (SE.b (se_int (i := 12))))) (ss_ret (se_call (sa_cons (se_var 1) sa_nil))) ss_nil)
      (ss_seq (ss_cast (S' := ([], [0])) (ss_set 4 (se_op oS_ixL (SE.b (SF.e (sf_lst (sa_cons (se_neg (SE.b (se_int (i := 1)))) (sa_cons (se_int (i := 100)) (sa_cons (se_bl (b := true)) (sa_cons (se_str (z := "a")) (sa_cons se_non (sa_cons (se_tup (sa_cons (se_int (i := 1)) sa_nil)) (sa_cons (se_op oS_pow (SE.b (se_int (i := 10))) (SE.b (se_int (i := 40)))) (sa_cons (se_bl (b := false)) sa_nil))))))))))) (SE.b (se_callP 0 (sa_cons (se_int (i := 8)) sa_nil))))))
      (ss_seq (ss_cast (S' := ([], [0])) (ss_set 5 (se_op oS_ixL (SE.b (SF.e (sf_lst (sa_cons (se_str (z := "")) (sa_cons (se_str (z := "A")) (sa_cons (se_str (z := "abcdefghijklm")) (sa_cons (se_int (i := 3)) (sa_cons se_non (sa_cons (se_str (z := "a b")) (sa_cons (se_bl (b := true)) (sa_cons (se_str (z := "z9")) sa_nil))))))))))) (SE.b (se_callP 0 (sa_cons (se_int (i := 8)) sa_nil))))))
      (ss_seq (ss_if (st_tTest (se_op oS_eq (SE.b (se_var 2)) (SE.b (se_int (i := 8))))) (ss_ret (se_tup (sa_cons (se_var 4) (sa_cons (se_op oS_ixT (SE.b (se_var 1)) (SE.b (se_int (i := 1)))) (sa_cons (se_op oS_ixT (SE.b (se_var 1)) (SE.b (se_int (i := 2)))) sa_nil))))) ss_nil)
      (ss_seq (ss_if (st_tTest (se_op oS_eq (SE.b (se_var 2)) (SE.b (se_int (i := 9))))) (ss_ret (se_tup (sa_cons (se_op oS_ixT (SE.b (se_var 1)) (SE.b (se_int (i := 0)))) (sa_cons (se_op oS_ixT (SE.b (se_var 1)) (SE.b (se_int (i := 1)))) (sa_cons (se_var 4) sa_nil))))) ss_nil)
      (ss_seq (ss_if (st_tTest (se_op oS_eq (SE.b (se_var 2)) (SE.b (se_int (i := 10))))) (ss_ret (se_tup (sa_cons (se_op oS_ixT (SE.b (se_var 1)) (SE.b (se_int (i := 0)))) (sa_cons (se_var 5) (sa_cons (se_op oS_ixT (SE.b (se_var 1)) (SE.b (se_int (i := 2)))) sa_nil))))) ss_nil)
      (ss_ret (se_tup (sa_cons (se_var 4) (sa_cons (se_var 5) (sa_cons (se_op oS_ixT (SE.b (se_var 1)) (SE.b (se_int (i := 2)))) sa_nil)))))))))))))), ?_⟩
  rintro ds P ⟨st, rfl, ok, q⟩
  have oA : OkP (.int st.a) := okP_int
  have oW : OkP (.str st.w) := okP_w ok.w
  have oB : OkP (.int st.b) := okP_int
  walk_at "u"
  refine ⟨13, rfl, by decide, by decide, fun m m0 m13 => ?_⟩
  walk_at "u"
  refine ⟨by show 1 ≤ 1000; decide, ?_⟩
  walk_at "u"
  refine ⟨by rw [sizeLine_eq]; show 3 + 1 ≤ _; omega, ?_⟩
  walk_at "u"
  refine ⟨by show 0 ≤ 1000; decide, ?_⟩
  walk_at "u"
  refine ⟨by show 8 ≤ 1000; decide, ?_⟩
  walk_at "u"
  show if decide (m < 8) = true then _ else _
  by_cases h8 : m < 8
  · rw [decide_eq_true h8]
    refine iteT ?_
    walk_at "u"
    refine kIxL_all m0 (by show m < ((8 : Nat) : Int); omega) fun d hd => q d ?_
    simp only [List.mem_cons, List.not_mem_nil, or_false] at hd
    rcases hd with rfl | rfl | rfl | rfl | rfl | rfl | rfl | rfl
    · exact odd_flat rfl (fun es e => nomatch e) rfl
    · exact odd_flat rfl (fun es e => nomatch e) rfl
    · exact odd_flat rfl (fun es e => nomatch e) rfl
    · refine odd_tup (es := [.int st.a, .str st.w]) (fun x hx => ?_) rfl
      simp only [List.mem_cons, List.not_mem_nil, or_false] at hx
      rcases hx with rfl | rfl
      · exact oA
      · exact oW
    · refine odd_tup (es := [.int st.a, .str st.w, .int st.b, .int 0]) (fun x hx => ?_) rfl
      simp only [List.mem_cons, List.not_mem_nil, or_false] at hx
      rcases hx with rfl | rfl | rfl | rfl
      · exact oA
      · exact oW
      · exact oB
      · exact okP_int
    · exact odd_flat rfl (fun es e => nomatch e) rfl
    · exact odd_tup (es := []) (fun x hx => nomatch hx) rfl
    · exact odd_flat rfl (fun es e => nomatch e) rfl
  rw [decide_eq_false h8]
  refine iteF ?_
  walk_at "u"
  show if decide (m = 12) = true then _ else _
  by_cases h12 : m = 12
  · rw [decide_eq_true h12]
    refine iteT ?_
    walk_at "u"
    exact ⟨dStp st, rfl, q _ (deep_odd 448 _)⟩
  rw [decide_eq_false h12]
  refine iteF ?_
  walk_at "u"
  refine ⟨by show 1 ≤ 1000; decide, ?_⟩
  walk_at "u"
  refine ⟨by unfold CPow; decide, ?_⟩
  walk_at "u"
  refine ⟨by show 8 ≤ 1000; decide, ?_⟩
  walk_at "u"
  refine ⟨8, rfl, by decide, by decide, fun i i0 i8 => ?_⟩
  refine kIxL_all i0 (by show i < ((8 : Nat) : Int); omega) fun x hx => ?_
  have hx2 : OkP x ∧ staB x = false := by
    simp only [List.mem_cons, List.not_mem_nil, or_false] at hx
    rcases hx with rfl | rfl | rfl | rfl | rfl | rfl | rfl | rfl <;> exact ⟨⟨rfl, fun z e => by first | (cases e; done) | (cases e; rw [sizeLine_eq]; decide)⟩, by decide +kernel⟩
  clear hx
  walk_at "u"
  refine ⟨by show 8 ≤ 1000; decide, ?_⟩
  walk_at "u"
  refine ⟨8, rfl, by decide, by decide, fun j j0 j8 => ?_⟩
  refine kIxL_all j0 (by show j < ((8 : Nat) : Int); omega) fun y hy => ?_
  have hy2 : OkP y ∧ nmB y = false := by
    simp only [List.mem_cons, List.not_mem_nil, or_false] at hy
    rcases hy with rfl | rfl | rfl | rfl | rfl | rfl | rfl | rfl <;> exact ⟨⟨rfl, fun z e => by first | (cases e; done) | (cases e; rw [sizeLine_eq]; decide)⟩, by decide +kernel⟩
  clear hy
  walk_at "u"
  have tri : ∀ {a b c : Dt}, OkP a → OkP b → OkP c → stpB (.tup [a, b, c]) = false → P (.tup [a, b, c]) := fun {a b c} h1 h2 h3 h => q _ (odd_tup (fun x hx => by
    simp only [List.mem_cons, List.not_mem_nil, or_false] at hx
    rcases hx with rfl | rfl | rfl
    · exact h1
    · exact h2
    · exact h3) h)
  have eS : ∀ {a b c : Dt}, stpB (.tup [a, b, c]) = (staB a && (nmB b && staB c)) := rfl
  show if decide (m = 8) = true then _ else _
  by_cases e8 : m = 8
  · rw [decide_eq_true e8]
    refine iteT ?_
    walk_at "u"
    refine ⟨by show 3 ≤ 1000; decide, ?_⟩
    exact tri hx2.1 oW oB (by rw [eS, hx2.2]; rfl)
  rw [decide_eq_false e8]
  refine iteF ?_
  walk_at "u"
  show if decide (m = 9) = true then _ else _
  by_cases e9 : m = 9
  · rw [decide_eq_true e9]
    refine iteT ?_
    walk_at "u"
    refine ⟨by show 3 ≤ 1000; decide, ?_⟩
    exact tri oA oW hx2.1 (by rw [eS, hx2.2, Bool.and_false, Bool.and_false])
  rw [decide_eq_false e9]
  refine iteF ?_
  walk_at "u"
  show if decide (m = 10) = true then _ else _
  by_cases e10 : m = 10
  · rw [decide_eq_true e10]
    refine iteT ?_
    walk_at "u"
    refine ⟨by show 3 ≤ 1000; decide, ?_⟩
    exact tri oA hy2.1 oB (by rw [eS, hy2.2, Bool.false_and, Bool.and_false])
  rw [decide_eq_false e10]
  refine iteF ?_
  walk_at "u"
  refine ⟨by show 3 ≤ 1000; decide, ?_⟩
  exact tri hx2.1 hy2.1 oB (by rw [eS, hx2.2]; rfl)
def wGood3 : List Dt → (List Dt → Prop) → Prop := fun ds P => ∃ (zs : List Str) (xs : List Int) (m : Nat), ds = [.lst (zs.map Dt.str), .lst (xs.map Dt.int), .int m] ∧ 1 ≤ zs.length ∧ zs.length ≤ 1000 ∧ (∀ z ∈ zs, NameOk z) ∧ 1 ≤ xs.length ∧ xs.length ≤ 1000 ∧ (∀ x ∈ xs, 0 ≤ x ∧ x ≤ 99) ∧ 1 ≤ m ∧ m ≤ 24 ∧ ∀ ss, Good ss → P (ss.map dStp)
theorem kNotInD_stp {s : Stp} {ss : List Stp} {P : Dt → Prop} (hs : NameOk s.w) (hn : ∀ x ∈ ss, NameOk x.w) (h : P (.bl (!decide (s ∈ ss)))) : kInD true (dStp s) (.lst (ss.map dStp)) P := kInD_stp (neg := true) hs hn h
theorem kIxL_mem {α : Type} {f : α → Dt} {xs : List α} {i : Int} {P : Dt → Prop} (h0 : 0 ≤ i) (h1 : i < (xs.length : Nat)) (h : ∀ x ∈ xs, P (f x)) : kIxL (.lst (xs.map f)) (.int i) P :=
  kIxL_all h0 (by rw [List.length_map]; exact h1) fun d hd => by
    obtain ⟨x, hx, rfl⟩ := List.mem_map.mp hd
    exact h x hx
theorem kInt1_i {i : Int} {P : Dt → Prop} (h : P (.int i)) : kInt1 (.int i) P := h
theorem sc_good3 : FnScope ["_law_pool_here", "_law_names_here", "_law_states", "_law_many", "_law_steps", "_law_k", "_law_leaves", "_law_step", "_law_one"] ["_law_pool_here", "_law_names_here", "_law_states", "_law_many"] (defScope s_law_good) := ⟨rfl, rfl, rfl, by decide +kernel, rfl, by decide +kernel, by decide +kernel⟩
theorem ok_good3 {f fD : Addr} {fd fdD : FuncData} (F : Fun K "_law_good" "_law_good" s_law_good f fd) (B : Blt mg) (DD : Cal K mg "_law_draw" s_law_draw ["_law_pool_here", "_law_many"] fD fdD) (GD : FnOk P w K mg base CX0 1 fD fdD ["_law_pool_here", "_law_many"] (spP K TT wDraw)) : FnOk P w K mg base CX0 2 f fd ["_law_pool_here", "_law_names_here", "_law_states", "_law_many"] (spPF K TT wGood3) := by
  refine fn_pf F sc_good3 (by decide) (fun ds Q ⟨_, _, _, e, _⟩ => by rw [e]; rfl) fun cdv A outer s H E hr => ?_
  refine ⟨_, _, ([], [0]), ([4], [0]), (pss_cons (ps_set (i := 4) sc_good3.nd rfl (.inl rfl) (pe_lst pa_nil))
      (pss_cons (ps_for PassesOwn.never rfl (pi_range1 rfl B.range (pa_cons (pv 3) pa_nil)) (pg_name (i := 5) sc_good3.nd rfl (.inl rfl)) (pss_cons (ps_set (i := 6) sc_good3.nd rfl (.inr rfl) (pe_ix (r := rIxL K) ix_list (pv 2) (pe_op op_mod (pe_callTy call_int1 (by rfl) B.int (by decide +kernel) (pa_cons (pe_op op_add (pv 5) (pe_call GD (hr.mono (by decide)) (by rfl) DD.g DD.F.kp DD.b .nil pass0 (pa_cons (pv 0) (pa_cons pe_int pa_nil)))) pa_nil)) (pe_callB call_len_ (by rfl) B.len PySem.boot_len (pa_cons (pv 2) pa_nil))) (fun _ _ => rfl)))
      (pss_cons (ps_set (i := 7) sc_good3.nd rfl (.inl rfl) (pe_tup (pa_cons (pv 6) (pa_cons (pe_ix (r := rIxL K) ix_list (pv 1) (pe_call GD (hr.mono (by decide)) (by rfl) DD.g DD.F.kp DD.b .nil pass0 (pa_cons (pv 0) (pa_cons (pe_callB call_len_ (by rfl) B.len PySem.boot_len (pa_cons (pv 1) pa_nil)) pa_nil))) (fun _ _ => rfl)) (pa_cons (pe_ix (r := rIxL K) ix_list (pv 2) (pe_call GD (hr.mono (by decide)) (by rfl) DD.g DD.F.kp DD.b .nil pass0 (pa_cons (pv 0) (pa_cons (pe_callB call_len_ (by rfl) B.len PySem.boot_len (pa_cons (pv 2) pa_nil)) pa_nil))) (fun _ _ => rfl)) pa_nil)))))
      (pss_one (ps_if (PW.pt (pw_and (pt_cmpR (op_notInD (hu65 hr)) (pv 7) (pv 4) (by rfl)) (pw_and1 (pt_cmpR op_lt (pe_callB call_len_ (by rfl) B.len PySem.boot_len (pa_cons (pe_lc (own := [("_law_one", 8)]) (wi := (iList K (tVar 4))) (g := (gName 8)) (tt := (tTest (tOp rEq (tOp (rIxT K) (tVar 8) (tC (.int 0))) (tVar 6)))) (te := (tVar 8)) rfl sc_good3.nd (pi_list (pv 4)) (blkOk_by (N := ["_law_pool_here", "_law_names_here", "_law_states", "_law_many", "_law_steps", "_law_k", "_law_leaves", "_law_step", "_law_one"]) (sc := defScope s_law_good) (by decide +kernel)) (fun _ _ _ _ _ => (pg_name (i := 8) sc_good3.nd rfl (.inl rfl))) (fun _ _ _ _ _ => (pts_one (pt_cmpR op_eq (pe_ix (r := rIxT K) ix_tup (pv 8) pe_int (fun _ _ => rfl)) (pv 6) (nomark _)))) (fun _ _ _ _ _ => (pv 8))) pa_nil)) pe_int (nomark _))))) (pss_one (ps_expr (pe_bm PySem.F.plainAttrs_list PySem.F.slot_list_append PySem.F.type_list_append mt_append (pv 4) (pa_cons (pv 7) pa_nil)))) pss_nil)))))
      (pss_one (ps_ret (pv 4))))), (ss_seq (ss_cast (S' := ([4], [0])) (ss_setF 4 (sf_lst sa_nil)))
      (ss_seq (ss_for (g := (gName 5)) (si_rng1 (sa_cons (se_var 3) sa_nil)) (sg_name 5) (ss_seq (ss_cast (S' := ([4], [0])) (ss_set 6 (se_op oS_ixL (SE.b (se_var 2)) (SE.b (se_op oS_mod (SE.b (se_cb c1_int (SE.b (se_op oS_add (SE.b (se_var 5)) (SE.b (se_callP 0 (sa_cons (se_int (i := 3)) sa_nil))))))) (SE.b (se_cb c1_len (SE.b (se_var 2)))))))))
      (ss_seq (ss_cast (S' := ([4], [0])) (ss_set 7 (se_tup (sa_cons (se_var 6) (sa_cons (se_op oS_ixL (SE.b (se_var 1)) (SE.b (se_callP 0 (sa_cons (se_cb c1_len (SE.b (se_var 1))) sa_nil)))) (sa_cons (se_op oS_ixL (SE.b (se_var 2)) (SE.b (se_callP 0 (sa_cons (se_cb c1_len (SE.b (se_var 2))) sa_nil)))) sa_nil))))))
      (ss_if (st_and (st_tTest (se_op oS_notInD (SE.b (se_var 7)) (sb_var 4))) (st_tTest (se_op oS_lt (SE.b (se_cb c1_len (SE.b (SF.e (sf_lc (vs := [8]) (si_list (sb_var 4)) (sg_name 8) (st_tTest (se_op oS_eq (SE.b (se_op oS_ixT (SE.b (se_var 8)) (SE.b (se_int (i := 0))))) (SE.b (se_var 6)))) (se_var 8)))))) (SE.b (se_int (i := 4)))))) (ss_app 4 (se_var 7)) ss_nil))))
      (ss_retO 4))), ?_⟩
  rintro ds P ⟨zs, xs, m, rfl, z1, z2, hz, x1, x2, hx, m1, m24, q⟩
  walk_at "u"
  refine ⟨by show 0 ≤ 1000; decide, ?_⟩
  walk_at "u"
  refine kRng1_to (by omega) (by omega) ?_
  rw [Int.toNat_natCast]
  refine wFor_range m (fun i ρ => ∃ (ss : List Stp) (v5 v6 v7 : Option Dt), ρ = [none, some (.lst (zs.map Dt.str)), some (.lst (xs.map Dt.int)), some (.int m), some (.lst (ss.map dStp)), v5, v6, v7, none] ∧ Pre ss ∧ ss.length ≤ i ∧ (1 ≤ i → 1 ≤ ss.length)) ⟨[], none, none, none, rfl, ⟨(fun s h => nomatch h), List.nodup_nil, fun a => Nat.zero_le _⟩, Nat.le_refl _, fun h => absurd h (by decide)⟩ ?_ ?_
  · rintro i ρ k hi ⟨ss, v5, v6, v7, rfl, G, li, lo⟩ hk
    refine ⟨_, rfl, ?_⟩
    walk_at "u"
    refine ⟨3, rfl, by decide, by decide, fun d d0 d3 => ?_⟩
    walk_at "u"
    refine kInt1_i ?_
    walk_at "u"
    rw [List.length_map]
    refine ⟨by omega, ?_⟩
    refine kIxL_mem (Int.emod_nonneg _ (by omega)) (Int.emod_lt_of_pos _ (by omega)) fun a ha => ?_
    obtain ⟨a0, a99⟩ := hx a ha
    walk_at "u"
    rw [List.length_map]
    refine ⟨_, rfl, by omega, by omega, fun e e0 e1 => ?_⟩
    refine kIxL_mem e0 e1 fun z hzz => ?_
    walk_at "u"
    rw [List.length_map]
    refine ⟨_, rfl, by omega, by omega, fun g g0 g1 => ?_⟩
    refine kIxL_mem g0 g1 fun b hb => ?_
    obtain ⟨b0, b99⟩ := hx b hb
    walk_at "u"
    refine ⟨by show 3 ≤ 1000; decide, ?_⟩
    walk_at "u"
    have nm : ∀ s ∈ ss, NameOk s.w := fun s hs => (G.ok s hs).w
    refine kNotInD_stp (s := ⟨a, z, b⟩) (hz z hzz) nm ?_
    by_cases hin : (⟨a, z, b⟩ : Stp) ∈ ss
    · rw [decide_eq_true hin]
      refine iteF ?_
      refine iteF ?_
      walk_at "u"
      refine hk _ ⟨ss, _, _, _, rfl, G, by omega, fun _ => ?_⟩
      cases ss with
      | nil => cases hin
      | cons x r => exact Nat.succ_pos _
    · rw [decide_eq_false hin]
      refine iteT ?_
      walk_at "u"
      refine ⟨by rw [List.length_map]; omega, ?_⟩
      refine wComp_map (fun s : Stp => decide (s.a = a)) dStp _ (fun s hs => ?_) ?_
      · refine ⟨_, rfl, fun Q q => ?_, fun _ Q q => q⟩
        walk_at "u"
        exact q
      rw [List.nil_append]
      walk_at "u"
      rw [List.length_map]
      show if decide (((cnt ss a : Nat) : Int) < 4) = true then _ else _
      by_cases h4 : cnt ss a < 4
      · rw [decide_eq_true (show ((cnt ss a : Nat) : Int) < 4 by omega)]
        refine iteT ?_
        walk_at "u"
        refine ⟨by rw [List.length_map, sizeLine_eq]; omega, ?_⟩
        refine hk _ ⟨ss ++ [⟨a, z, b⟩], _, _, _, by rw [List.map_append]; rfl, ⟨fun s hs => ?_, ?_, fun c => ?_⟩, by rw [List.length_append]; show ss.length + 1 ≤ _; omega, fun _ => by rw [List.length_append]; show 1 ≤ ss.length + 1; omega⟩
        · rcases List.mem_append.mp hs with hs | hs
          · exact G.ok s hs
          · rw [List.mem_singleton.mp hs]
            exact ⟨a0, a99, hz z hzz, b0, b99⟩
        · rw [List.nodup_append]
          exact ⟨G.nd, by simp, fun x hx y hy e => hin (by rw [← List.mem_singleton.mp hy, ← e]; exact hx)⟩
        · rw [cnt_app, cnt_one]
          have := G.lv c
          by_cases ec : a = c
          · subst ec
            rw [if_pos rfl]
            omega
          · rw [if_neg ec]
            omega
      · rw [decide_eq_false (show ¬ ((cnt ss a : Nat) : Int) < 4 by omega)]
        refine iteF ?_
        walk_at "u"
        refine hk _ ⟨ss, _, _, _, rfl, G, by omega, fun _ => ?_⟩
        cases ss with
        | nil => exact absurd (show 0 < 4 by decide) h4
        | cons x r => exact Nat.succ_pos _
  · rintro ρ ⟨ss, v5, v6, v7, rfl, G, li, lo⟩
    walk_at "u"
    exact q ss ⟨G.ok, G.nd, G.lv, lo m1, by omega⟩
end
end KX
/-! UL: {"a": 1}, and == of such with itself. -/
namespace UL
open PySem PySem.Spec PyProof.Rows L2
section
variable {K : PySem.W.Frag} {T : List NdefX.NTab} {S : Sl} {m m' : Bool} {ta tb : TE} {t u : WE} {H : Hp}
/-- {z: i} -/
abbrev dOne (z : Str) (i : Int) : Dt := .dk [Sum.inr z] [.int i]
def kEqD1 : Dt → Dt → (Dt → Prop) → Prop := fun a b P => ∃ z i, a = dOne z i ∧ b = dOne z i ∧ P (.bl true)
end
end UL
namespace KX
open PySem PySem.Spec PyProof.Rows L2 UL
local macro_rules | `(tactic| walk_at "u") => `(tactic| repeat (first | ((with_reducible refine' wVar_of ?ke ?_); (case ke => rfl)) | with_reducible refine' wC_of ?_ | with_reducible refine' wB_of ?_ | with_reducible refine' wAnd_of ?_ | with_reducible refine' wOr_of ?_ | with_reducible refine' wNot_of ?_ | with_reducible refine' w2_of ?_ | with_reducible refine' w1_of ?_ | with_reducible refine' wCons_of ?_ | with_reducible refine' wNil_of ?_ | ((with_reducible refine' kIxT_of ?ke ?_); (case ke => rfl)) | with_reducible refine' wSeq_of ?_ | with_reducible refine' wSet_of ?_ | ((with_reducible refine' wSetF_of ?ke ?_); (case ke => rfl)) | ((with_reducible refine' wRetO_of ?ke ?_); (case ke => rfl)) | ((with_reducible refine' wSetNew_of ?hs ?_); (case hs => rfl)) | ((with_reducible refine' wPutN_of ?he ?_); (case he => rfl)) | ((with_reducible refine' wApp_of ?ke ?_); (case ke => rfl)) | with_reducible refine' wRet_of ?_ | with_reducible refine' wRetF_of ?_ | with_reducible refine' wIfS_of ?_ | with_reducible refine' wForS_of ?_ | with_reducible refine' wItemsL_of ?_ | with_reducible refine' wItemsT_of ?_ | with_reducible refine' wLc_of ?_ | with_reducible refine' wAndV_of ?_ | with_reducible refine' wOrV_of ?_ | with_reducible refine' wNotV_of ?_ | with_reducible refine' wIf_of ?_ | with_reducible refine' wGet2_of ?_ | with_reducible refine' wChain_of ?_ | with_reducible refine' wExpr_of ?_ | with_reducible refine' kLenL_of ?_ | with_reducible refine' kLenT_of ?_ | ((with_reducible refine' kFld_of ?ke ?_); (case ke => rfl)) | with_reducible refine' wLc2_of ?_ | with_reducible refine' wNext_of ?_ | ((with_reducible refine' kZip2_of ?k1 ?k2 ?_); (case k1 => rfl); (case k2 => rfl)) | ((with_reducible refine' kZip3_of ?k1 ?k2 ?k3 ?_); (case k1 => rfl); (case k2 => rfl); (case k3 => rfl)) | with_reducible refine' kEnumT_of ?_ | with_reducible refine' wPart_of ?_ | with_reducible refine' wNoPart_of ?_ | with_reducible refine' kTupOfL_of ?_ | with_reducible refine' wEndP_of ?_ | ((with_reducible refine' wNewP_of ?ke ?_); (case ke => rfl)) | with_reducible refine' kI_of ?_ | ((with_reducible refine' wRev_of ?ke ?_); (case ke => rfl)) | with_reducible refine' kNeI_of ?_ | with_reducible refine' kEqI_of ?_ | with_reducible refine' kNeS_of ?_ | with_reducible refine' kEqS_of ?_ | with_reducible refine' wDropX_of ?_ | with_reducible refine' wSetX_of ?_ | with_reducible refine' wRetX_of ?_ | with_reducible refine' wRaise_of ?_ | with_reducible refine' wTry_of ?_ | with_reducible refine' wSlT_of ?_ | with_reducible refine' wSlQ_of ?_ | with_reducible refine' kNeg_of ?_ | with_reducible refine' kLenQ_of ?_ | with_reducible refine' kLstT_of ?_ | with_reducible refine' kLstL_of ?_ | ((with_reducible refine' wSetNewK_of ?hs ?_); (case hs => rfl)) | ((with_reducible refine' wPutK_of ?he ?_); (case he => rfl)) | ((with_reducible refine' wIns_of ?he ?_); (case he => rfl)) | ((with_reducible refine' wPop_of ?he ?_); (case he => rfl))))
section
variable {P : Program} {w : World} {K : PySem.W.Frag} {mg : Str → Option Value} {base : Heap} {TT : List NdefX.NTab} {C CS : Addr} {H H' : Hp}
def wSm (n : Nat) : List Dt → (Dt → Prop) → Prop := fun ds P => ∃ a, ds = [a, a] ∧ SmD n a ∧ P (.bl true)
theorem sc_sm : FnScope ["_law_told_here", "_law_due_here", "_law_k"] ["_law_told_here", "_law_due_here"] (defScope s_law_same) := ⟨rfl, rfl, rfl, by decide +kernel, rfl, by decide +kernel, by decide +kernel⟩
theorem ok_sm {f : Addr} {fd : FuncData} (D : Cal K mg "_law_same" s_law_same ["_law_told_here", "_law_due_here"] f fd) (B : Blt mg) (N : Kin mg) (B2 : Blt2 mg) : ∀ n : Nat, FnOk P w K mg base CX0 (n + 1) f fd ["_law_told_here", "_law_due_here"] (spU K TT (wSm n))
  | 0 => ⟨fun vs H Q E ⟨_, _, _, _, _, ⟨_, _, h, _⟩, _⟩ => h.elim, fun A outer s H args us vs Q E hr e0 hb r ⟨_, _, _, _, _, ⟨_, _, h, _⟩, _⟩ => h.elim⟩
  | n + 1 => by
    have ih : FnOk P w K mg base CX0 (n + 1) f fd ["_law_told_here", "_law_due_here"] (spU K TT (wSm n)) := ok_sm D B N B2 n
    refine fn_u D.F sc_sm (by decide) (fun ds Q ⟨_, e, _⟩ => by rw [e]; rfl) fun cdv A outer s H E hr => ?_
    refine ⟨_, _, ([], []), ([], []), (pss_cons (ps_if (pt_cmpR op_isN (pv 1) pe_non (nomark _)) (pss_one (ps_ret (pe_cmpR op_isN (pv 0) pe_non (nomark _)))) pss_nil)
      (pss_cons (ps_if (pt_val (pe_callB call_isi (by rfl) B.isinstance (by decide +kernel) (pa_cons (pv 1) (pa_cons (pe_bltn rfl N.bool (by decide +kernel) (v := .ty "bool") rfl) pa_nil)))) (pss_one (ps_ret (pe_and (pe_callB call_isi (by rfl) B.isinstance (by decide +kernel) (pa_cons (pv 0) (pa_cons (pe_bltn rfl N.bool (by decide +kernel) (v := .ty "bool") rfl) pa_nil))) (pe_one (pe_cmpR op_eq (pv 0) (pv 1) (nomark _)))))) pss_nil)
      (pss_cons (ps_if (pt_val (pe_callB call_isi (by rfl) B.isinstance (by decide +kernel) (pa_cons (pv 1) (pa_cons (pe_bltn rfl B.int (by decide +kernel) (v := .ty "int") rfl) pa_nil)))) (pss_one (ps_ret (pe_and (pe_callB call_isi (by rfl) B.isinstance (by decide +kernel) (pa_cons (pv 0) (pa_cons (pe_bltn rfl B.int (by decide +kernel) (v := .ty "int") rfl) pa_nil))) (pe_and (pe_not (pe_callB call_isi (by rfl) B.isinstance (by decide +kernel) (pa_cons (pv 0) (pa_cons (pe_bltn rfl N.bool (by decide +kernel) (v := .ty "bool") rfl) pa_nil)))) (pe_one (pe_cmpR op_eq (pv 0) (pv 1) (nomark _))))))) pss_nil)
      (pss_cons (ps_if (pt_val (pe_callB call_isi (by rfl) B.isinstance (by decide +kernel) (pa_cons (pv 1) (pa_cons (pe_bltn rfl N.str (by decide +kernel) (v := .ty "str") rfl) pa_nil)))) (pss_one (ps_ret (pe_and (pe_callB call_isi (by rfl) B.isinstance (by decide +kernel) (pa_cons (pv 0) (pa_cons (pe_bltn rfl N.str (by decide +kernel) (v := .ty "str") rfl) pa_nil))) (pe_one (pe_cmpR op_eq (pv 0) (pv 1) (nomark _)))))) pss_nil)
      (pss_cons (ps_if (PW.pt (pw_and (pt_val (pe_callB call_isi (by rfl) B.isinstance (by decide +kernel) (pa_cons (pv 1) (pa_cons (pe_bltn rfl B.list (by decide +kernel) (v := .ty "list") rfl) pa_nil)))) (pw_and1 (pt_not (pt_val (pe_callB call_isi (by rfl) B.isinstance (by decide +kernel) (pa_cons (pv 0) (pa_cons (pe_bltn rfl B.list (by decide +kernel) (v := .ty "list") rfl) pa_nil)))))))) (pss_one (ps_ret pe_bl)) pss_nil)
      (pss_cons (ps_if (PW.pt (pw_and (pt_val (pe_callB call_isi (by rfl) B.isinstance (by decide +kernel) (pa_cons (pv 1) (pa_cons (pe_bltn rfl B.tuple (by decide +kernel) (v := .ty "tuple") rfl) pa_nil)))) (pw_and1 (pt_not (pt_val (pe_callB call_isi (by rfl) B.isinstance (by decide +kernel) (pa_cons (pv 0) (pa_cons (pe_bltn rfl B.tuple (by decide +kernel) (v := .ty "tuple") rfl) pa_nil)))))))) (pss_one (ps_ret pe_bl)) pss_nil)
      (pss_cons (ps_if (pt_val (pe_callB call_isi (by rfl) B.isinstance (by decide +kernel) (pa_cons (pv 1) (pa_cons (pe_bltn rfl B2.dict (by decide +kernel) (v := .ty "dict") rfl) pa_nil)))) (pss_one (ps_ret (pe_and (pe_callB call_isi (by rfl) B.isinstance (by decide +kernel) (pa_cons (pv 0) (pa_cons (pe_bltn rfl B2.dict (by decide +kernel) (v := .ty "dict") rfl) pa_nil))) (pe_one (pe_cmpR (op_eqE (Nat.lt_of_succ_lt (hu_of hr))) (pv 0) (pv 1) (nomark _)))))) pss_nil)
      (pss_cons (ps_if (pt_cmpR op_ne (pe_callB call_len_ (by rfl) B.len PySem.boot_len (pa_cons (pv 0) pa_nil)) (pe_callB call_len_ (by rfl) B.len PySem.boot_len (pa_cons (pv 1) pa_nil)) (nomark _)) (pss_one (ps_ret pe_bl)) pss_nil)
      (pss_cons (ps_for PassesOwn.never rfl (pi_range1 rfl B.range (pa_cons (pe_callB call_len_ (by rfl) B.len PySem.boot_len (pa_cons (pv 1) pa_nil)) pa_nil)) (pg_name (i := 2) sc_sm.nd rfl (.inl rfl)) (pss_one (ps_if (pt_not (pt_val (pe_call ih hr (by rfl) D.g D.F.kp D.b .nil pass0 (pa_cons (pe_ix (r := rIx K) ix_seq (pv 0) (pv 2) (fun _ _ => rfl)) (pa_cons (pe_ix (r := rIx K) ix_seq (pv 1) (pv 2) (fun _ _ => rfl)) pa_nil))))) (pss_one (ps_ret pe_bl)) pss_nil)))
      (pss_one (ps_ret pe_bl))))))))))), (ss_seq (ss_if (st_tTest (se_op oS_isN (SE.b (se_var 1)) (SE.b se_non))) (ss_ret (se_op oS_isN (SE.b (se_var 0)) (SE.b se_non))) ss_nil)
      (ss_seq (ss_if (st_tB (se_isi (SE.b (se_var 1)))) (ss_ret (se_and (se_isi (SE.b (se_var 0))) (se_op oS_eq (SE.b (se_var 0)) (SE.b (se_var 1))))) ss_nil)
      (ss_seq (ss_if (st_tB (se_isi (SE.b (se_var 1)))) (ss_ret (se_and (se_isi (SE.b (se_var 0))) (se_and (se_not (se_isi (SE.b (se_var 0)))) (se_op oS_eq (SE.b (se_var 0)) (SE.b (se_var 1)))))) ss_nil)
      (ss_seq (ss_if (st_tB (se_isi (SE.b (se_var 1)))) (ss_ret (se_and (se_isi (SE.b (se_var 0))) (se_op oS_eq (SE.b (se_var 0)) (SE.b (se_var 1))))) ss_nil)
      (ss_seq (ss_if (st_and (st_tB (se_isi (SE.b (se_var 1)))) (st_not (st_tB (se_isi (SE.b (se_var 0)))))) (ss_ret (se_bl (b := false))) ss_nil)
      (ss_seq (ss_if (st_and (st_tB (se_isi (SE.b (se_var 1)))) (st_not (st_tB (se_isi (SE.b (se_var 0)))))) (ss_ret (se_bl (b := false))) ss_nil)
      (ss_seq (ss_if (st_tB (se_isi (SE.b (se_var 1)))) (ss_ret (se_and (se_isi (SE.b (se_var 0))) (se_op oS_eqE (SE.b (se_var 0)) (SE.b (se_var 1))))) ss_nil)
      (ss_seq (ss_if (st_tTest (se_op oS_ne (SE.b (se_cb c1_len (SE.b (se_var 0)))) (SE.b (se_cb c1_len (SE.b (se_var 1)))))) (ss_ret (se_bl (b := false))) ss_nil)
      (ss_seq (ss_for (g := (gName 2)) (si_rng1 (sa_cons (se_cb c1_len (SE.b (se_var 1))) sa_nil)) (sg_name 2) (ss_if (st_not (st_tB (se_call (sa_cons (se_op oS_ix (SE.b (se_var 0)) (SE.b (se_var 2))) (sa_cons (se_op oS_ix (SE.b (se_var 1)) (SE.b (se_var 2))) sa_nil))))) (ss_ret (se_bl (b := false))) ss_nil))
      (ss_ret (se_bl (b := true)))))))))))), ?_⟩
    rintro ds P ⟨a, rfl, hs, q⟩
    have seq : ∀ (us : List Dt), us.length ≤ 1000 → (∀ x ∈ us, SmD n x) → (a = .lst us ∨ a = .tup us) → ∀ {body : WS} {bind : Dt → UL.Env → Option UL.Env} {R : Out → Prop}, R (.rt (.bl true)) → True := fun _ _ _ _ _ _ _ _ => True.intro
    walk_at "u"
    cases a with
    | non =>
      show if true = true then _ else _
      refine iteT ?_
      walk_at "u"
      exact q
    | bl b =>
      show if false = true then _ else _
      refine iteF ?_
      walk_at "u"
      refine kIsi_of (b := true) rfl (by decide +kernel) ?_
      refine iteT ?_
      walk_at "u"
      refine kIsi_of (b := true) rfl (by decide +kernel) ?_
      refine iteT ?_
      walk_at "u"
      show P (.bl (decide (b = b)))
      rw [decide_eq_true rfl]
      exact q
    | int i =>
      show if false = true then _ else _
      refine iteF ?_
      walk_at "u"
      refine kIsi_of (b := false) rfl (by decide +kernel) ?_
      refine iteF ?_
      walk_at "u"
      refine kIsi_of (b := true) rfl (by decide +kernel) ?_
      refine iteT ?_
      walk_at "u"
      refine kIsi_of (b := true) rfl (by decide +kernel) ?_
      refine iteT ?_
      walk_at "u"
      refine kIsi_of (b := false) rfl (by decide +kernel) ?_
      refine iteT ?_
      walk_at "u"
      rw [decide_eq_true rfl]
      exact q
    | str z =>
      show if false = true then _ else _
      refine iteF ?_
      walk_at "u"
      refine kIsi_of (b := false) rfl (by decide +kernel) ?_
      refine iteF ?_
      walk_at "u"
      refine kIsi_of (b := false) rfl (by decide +kernel) ?_
      refine iteF ?_
      walk_at "u"
      refine kIsi_of (b := true) rfl (by decide +kernel) ?_
      refine iteT ?_
      walk_at "u"
      refine kIsi_of (b := true) rfl (by decide +kernel) ?_
      refine iteT ?_
      walk_at "u"
      rw [decide_eq_true rfl]
      exact q
    | dct ks ds =>
      obtain ⟨rfl, rfl⟩ := hs
      show if false = true then _ else _
      refine iteF ?_
      walk_at "u"
      refine kIsi_of (b := false) rfl (by decide +kernel) ?_
      refine iteF ?_
      walk_at "u"
      refine kIsi_of (b := false) rfl (by decide +kernel) ?_
      refine iteF ?_
      walk_at "u"
      refine kIsi_of (b := false) rfl (by decide +kernel) ?_
      refine iteF ?_
      walk_at "u"
      refine kIsi_of (b := false) rfl (by decide +kernel) ?_
      refine iteF ?_
      refine iteF ?_
      walk_at "u"
      refine kIsi_of (b := false) rfl (by decide +kernel) ?_
      refine iteF ?_
      refine iteF ?_
      walk_at "u"
      refine kIsi_of (b := true) rfl (by decide +kernel) ?_
      refine iteT ?_
      walk_at "u"
      refine kIsi_of (b := true) rfl (by decide +kernel) ?_
      refine iteT ?_
      walk_at "u"
      exact q
    | lst us =>
      obtain ⟨hl, hx⟩ := hs
      show if false = true then _ else _
      refine iteF ?_
      walk_at "u"
      refine kIsi_of (b := false) rfl (by decide +kernel) ?_
      refine iteF ?_
      walk_at "u"
      refine kIsi_of (b := false) rfl (by decide +kernel) ?_
      refine iteF ?_
      walk_at "u"
      refine kIsi_of (b := false) rfl (by decide +kernel) ?_
      refine iteF ?_
      walk_at "u"
      refine kIsi_of (b := true) rfl (by decide +kernel) ?_
      refine iteT ?_
      walk_at "u"
      refine kIsi_of (b := true) rfl (by decide +kernel) ?_
      refine iteF ?_
      walk_at "u"
      refine kIsi_of (b := false) rfl (by decide +kernel) ?_
      refine iteF ?_
      refine iteF ?_
      walk_at "u"
      refine kIsi_of (b := false) rfl (by decide +kernel) ?_
      refine iteF ?_
      walk_at "u"
      rw [decide_eq_true rfl]
      refine iteF ?_
      walk_at "u"
      refine kRng1_to (by omega) (by omega) ?_
      rw [Int.toNat_natCast]
      refine wFor_range us.length (fun i ρ => ∃ v2, ρ = [some (.lst us), some (.lst us), v2]) ⟨none, rfl⟩ ?_ ?_
      · rintro i ρ k hi ⟨v2, rfl⟩ hk
        have ei : us[i]? = some us[i] := List.getElem?_eq_getElem hi
        refine ⟨_, rfl, ?_⟩
        walk_at "u"
        refine kIxx_lst (atI_nat ei) ?_
        walk_at "u"
        refine kIxx_lst (atI_nat ei) ?_
        walk_at "u"
        refine ⟨_, rfl, hx _ (List.getElem_mem _), ?_⟩
        refine iteF ?_
        walk_at "u"
        exact hk _ ⟨_, rfl⟩
      · rintro ρ ⟨v2, rfl⟩
        walk_at "u"
        exact q
    | tup us =>
      obtain ⟨hl, hx⟩ := hs
      show if false = true then _ else _
      refine iteF ?_
      walk_at "u"
      refine kIsi_of (b := false) rfl (by decide +kernel) ?_
      refine iteF ?_
      walk_at "u"
      refine kIsi_of (b := false) rfl (by decide +kernel) ?_
      refine iteF ?_
      walk_at "u"
      refine kIsi_of (b := false) rfl (by decide +kernel) ?_
      refine iteF ?_
      walk_at "u"
      refine kIsi_of (b := false) rfl (by decide +kernel) ?_
      refine iteF ?_
      refine iteF ?_
      walk_at "u"
      refine kIsi_of (b := true) rfl (by decide +kernel) ?_
      refine iteT ?_
      walk_at "u"
      refine kIsi_of (b := true) rfl (by decide +kernel) ?_
      refine iteF ?_
      walk_at "u"
      refine kIsi_of (b := false) rfl (by decide +kernel) ?_
      refine iteF ?_
      walk_at "u"
      rw [decide_eq_true rfl]
      refine iteF ?_
      walk_at "u"
      refine kRng1_to (by omega) (by omega) ?_
      rw [Int.toNat_natCast]
      refine wFor_range us.length (fun i ρ => ∃ v2, ρ = [some (.tup us), some (.tup us), v2]) ⟨none, rfl⟩ ?_ ?_
      · rintro i ρ k hi ⟨v2, rfl⟩ hk
        have ei : us[i]? = some us[i] := List.getElem?_eq_getElem hi
        refine ⟨_, rfl, ?_⟩
        walk_at "u"
        refine kIxx_tup (atI_nat ei) ?_
        walk_at "u"
        refine kIxx_tup (atI_nat ei) ?_
        walk_at "u"
        refine ⟨_, rfl, hx _ (List.getElem_mem _), ?_⟩
        refine iteF ?_
        walk_at "u"
        exact hk _ ⟨_, rfl⟩
      · rintro ρ ⟨v2, rfl⟩
        walk_at "u"
        exact q
    | obj => exact hs.elim
    | val => exact hs.elim
    | sql => exact hs.elim
    | nd => exact hs.elim
    | dk => exact hs.elim
end
end KX
/-! set(a list), the items' kind left open; set(a list of tuples of ints) with few different ones -/
namespace VG
open PySem PySem.Spec PyProof.Rows L2
section
variable {P : Program} {w : World} {A : Around} {E : Value → Shared → Prop} {s : Shared}
end
end VG
/-! set(a list of tuples of ints): any length, few different ones -/
namespace VG
open PySem PySem.Spec PyProof.Rows L2
theorem nd_len {α : Type} [DecidableEq α] : ∀ {fs U : List α}, fs.Nodup → (∀ x ∈ fs, x ∈ U) → fs.length ≤ U.length
  | [], _, _, _ => Nat.zero_le _
  | x :: fs, U, nd, h => by
    obtain ⟨n1, n2⟩ := List.nodup_cons.mp nd
    have := nd_len (U := U.erase x) n2 fun y hy => (List.mem_erase_of_ne (fun e => n1 (by rw [← e]; exact hy))).mpr (h y (List.mem_cons_of_mem _ hy))
    rw [List.length_erase_of_mem (h x List.mem_cons_self)] at this
    have : 0 < U.length := List.length_pos_of_mem (h x List.mem_cons_self)
    rw [List.length_cons]
    omega
section
variable {P : Program} {w : World} {A : Around} {E : Value → Shared → Prop} {s : Shared}
end
section
variable {X : Cx}
def rSetU (K : PySem.W.Frag) (P : Program) (w : World) : List V → Hp → VK → Prop := fun xs H Q => ∃ (l : Addr) (ks : List (Addr × List Int)) (U : List (List Int)), xs = [V.ref l] ∧ SqL K H l (ks.map fun p => V.ref p.1) ∧ (∀ p ∈ ks, SqT K H p.1 (p.2.map V.int)) ∧ (∀ p ∈ ks, p.2 ∈ U) ∧ U.length + 1 < 64 ∧
  ∀ D L, H D = none → (∀ p ∈ L, p ∈ ks) → (∀ p ∈ ks, p.2 ∈ L.map (·.2)) → Q (.ref D) (upd H D (SetTO P w D L))
end
end VG
/-! UL: sorted(set(a list of tuples of ints)) -/
namespace UL
open PySem PySem.Spec PyProof.Rows L2
abbrev dTi (ns : List Int) : Dt := .tup (ns.map Dt.int)
section
variable {K : PySem.W.Frag} {T : List NdefX.NTab} {S : Sl} {m m' m1 m2 m3 s : Bool} {te ta tb : TE} {t u : WE} {C C' : Ct} {σ : L2.St} {H H' H1 : Hp} {ρ : Env} {ok : Addr → Prop}
def kSortU : Dt → (List Dt → Prop) → Prop
  | .lst ds, P => ∃ (ns U : List (List Int)) (d : Nat) (B : Int), ds = ns.map dTi ∧ 1 ≤ d ∧ (∀ n ∈ ns, n.length = d ∧ TS.Bd B n) ∧ (∀ n ∈ ns, n ∈ U) ∧ U.length + 1 < 64 ∧
      ∀ ms : List (List Int), ms.Nodup → (∀ n, n ∈ ms ↔ n ∈ ns) → ms.length < 64 → P (ms.map dTi)
  | _, _ => False
end
end UL
namespace KX
open PySem PySem.Spec PyProof.Rows L2 UL
/-! ### runs: their parts, their places -/
theorem walk_at {rs : Rws} {wl : List Str} {run : List Mov} {ps : List (List Int)} {x : List Int} (h : Walk rs wl run ps x) : ∀ {i : Nat} {m : Mov}, run[i]? = some m → ∃ y, ps[i]? = some y ∧ ps[i + 1]? = some (behD rs y m.2) ∧ m ∈ movesD rs wl y := by
  induction h with
  | start => intro i m e; simp at e
  | step hw hm ih =>
    rename_i run ps x m0
    intro i m e
    obtain ⟨_, lp⟩ := hw.len
    by_cases hi : i < run.length
    · rw [List.getElem?_append_left hi] at e
      obtain ⟨y, h1, h2, h3⟩ := ih e
      exact ⟨y, by rw [List.getElem?_append_left (by omega)]; exact h1, by rw [List.getElem?_append_left (by omega)]; exact h2, h3⟩
    · have hl := (List.getElem?_eq_some_iff.mp e).1
      rw [List.length_append, List.length_singleton] at hl
      have : i = run.length := by omega
      subst this
      rw [List.getElem?_append_right (Nat.le_refl _), Nat.sub_self] at e
      cases e
      obtain ⟨_, hlast, _⟩ := walk_mv hw
      refine ⟨x, ?_, ?_, hm⟩
      · rw [List.getElem?_append_left (by omega)]
        exact hlast
      · rw [← lp, List.getElem?_append_right (Nat.le_refl _), Nat.sub_self]
        rfl
theorem SySt.place {hs : List HD} {dl : List Int} {wl : List Str} {run : List Mov} {ps : List (List Int)} {x : List Int} (h : SySt hs dl wl) (hw : Walk (hs.map (·.r)) wl run ps x) : ∀ y ∈ ps, StOk hs y := (walk_st rfl (fun d hd => (h.hd d hd).2.2) hw).2
end KX
namespace KX
open PySem PySem.Spec PyProof.Rows L2 UL
local macro_rules | `(tactic| walk_at "u") => `(tactic| repeat (first | ((with_reducible refine' wVar_of ?ke ?_); (case ke => rfl)) | with_reducible refine' wC_of ?_ | with_reducible refine' wB_of ?_ | with_reducible refine' wAnd_of ?_ | with_reducible refine' wOr_of ?_ | with_reducible refine' wNot_of ?_ | with_reducible refine' w2_of ?_ | with_reducible refine' w1_of ?_ | with_reducible refine' wCons_of ?_ | with_reducible refine' wNil_of ?_ | ((with_reducible refine' kIxT_of ?ke ?_); (case ke => rfl)) | with_reducible refine' wSeq_of ?_ | with_reducible refine' wSet_of ?_ | ((with_reducible refine' wSetF_of ?ke ?_); (case ke => rfl)) | ((with_reducible refine' wRetO_of ?ke ?_); (case ke => rfl)) | ((with_reducible refine' wApp_of ?ke ?_); (case ke => rfl)) | with_reducible refine' wRet_of ?_ | with_reducible refine' wRetF_of ?_ | with_reducible refine' wIfS_of ?_ | with_reducible refine' wForS_of ?_ | with_reducible refine' wItemsL_of ?_ | with_reducible refine' wItemsT_of ?_ | with_reducible refine' wLc_of ?_ | with_reducible refine' wAndV_of ?_ | with_reducible refine' wOrV_of ?_ | with_reducible refine' wNotV_of ?_ | with_reducible refine' wIf_of ?_ | with_reducible refine' wGet2_of ?_ | with_reducible refine' wChain_of ?_ | with_reducible refine' wExpr_of ?_ | with_reducible refine' kLenL_of ?_ | with_reducible refine' kLenT_of ?_ | ((with_reducible refine' kFld_of ?ke ?_); (case ke => rfl)) | with_reducible refine' wLc2_of ?_ | with_reducible refine' wNext_of ?_ | ((with_reducible refine' kZip2_of ?k1 ?k2 ?_); (case k1 => rfl); (case k2 => rfl)) | ((with_reducible refine' kZip3_of ?k1 ?k2 ?k3 ?_); (case k1 => rfl); (case k2 => rfl); (case k3 => rfl)) | with_reducible refine' kEnumT_of ?_ | with_reducible refine' wPart_of ?_ | with_reducible refine' wNoPart_of ?_ | with_reducible refine' kTupOfL_of ?_ | with_reducible refine' wEndP_of ?_ | ((with_reducible refine' wNewP_of ?ke ?_); (case ke => rfl)) | with_reducible refine' kI_of ?_ | ((with_reducible refine' wRev_of ?ke ?_); (case ke => rfl)) | with_reducible refine' kNeI_of ?_ | with_reducible refine' kEqI_of ?_ | with_reducible refine' kNeS_of ?_ | with_reducible refine' kEqS_of ?_ | with_reducible refine' wDropX_of ?_ | with_reducible refine' wSetX_of ?_ | with_reducible refine' wRetX_of ?_ | with_reducible refine' wRaise_of ?_ | with_reducible refine' wTry_of ?_ | with_reducible refine' wSlT_of ?_ | with_reducible refine' wSlQ_of ?_ | with_reducible refine' kNeg_of ?_ | with_reducible refine' kLenQ_of ?_ | with_reducible refine' kLstT_of ?_ | with_reducible refine' kLstL_of ?_))
section
variable {P : Program} {w : World} {K : PySem.W.Frag} {mg : Str → Option Value} {base : Heap} {TT : List NdefX.NTab} {C CS : Addr} {H H' : Hp}
/-! ### the program's runs -/
def wSto (C CS : Addr) : List Dt → (List Dt → Prop) → Prop := fun ds P => ∃ hs dl wl run ps x, ds = [dSys C CS hs dl wl, .tup (run.map dMv)] ∧ SySt hs dl wl ∧ Walk (hs.map (·.r)) wl run ps x ∧ run.length ≤ 100000 ∧ P (ps.map dIs)
/-- a move takes a hand along -/
def tkD (m : Mov) (j : Int) : Bool := ((m.2[j.toNat]?).any Option.isSome)
def wTk : List Dt → (Dt → Prop) → Prop := fun ds P => ∃ m j, ds = [dMv m, .int j] ∧ 0 ≤ j ∧ j.toNat < m.2.length ∧ P (.bl (tkD m j))
/-- a hand is served by a loop, or not able at one of these places -/
def srvD (hs : List HD) (wl : List Str) (loop : List Mov) (ys : List (List Int)) (j : Int) : Bool := (loop.any fun m => tkD m j) || ys.any fun y => !decide (j ∈ ableD hs y wl)
def wSrv (C CS : Addr) : List Dt → (Dt → Prop) → Prop := fun ds P => ∃ hs dl wl loop ys j, ds = [dSys C CS hs dl wl, .tup (loop.map dMv), .lst (ys.map dIs), .int j] ∧ SySt hs dl wl ∧ (∀ m ∈ loop, m.2.length = hs.length) ∧ (∀ y ∈ ys, StOk hs y) ∧ loop.length ≤ 100000 ∧ ys.length ≤ 100000 ∧ 0 ≤ j ∧ j.toNat < hs.length ∧ P (.bl (srvD hs wl loop ys j))
end
end KX
namespace KX
open PySem PySem.Spec PyProof.Rows L2 UL
local macro_rules | `(tactic| walk_at "u") => `(tactic| repeat (first | ((with_reducible refine' wVar_of ?ke ?_); (case ke => rfl)) | with_reducible refine' wC_of ?_ | with_reducible refine' wB_of ?_ | with_reducible refine' wAnd_of ?_ | with_reducible refine' wOr_of ?_ | with_reducible refine' wNot_of ?_ | with_reducible refine' w2_of ?_ | with_reducible refine' w1_of ?_ | with_reducible refine' wCons_of ?_ | with_reducible refine' wNil_of ?_ | ((with_reducible refine' kIxT_of ?ke ?_); (case ke => rfl)) | with_reducible refine' wSeq_of ?_ | with_reducible refine' wSet_of ?_ | ((with_reducible refine' wSetF_of ?ke ?_); (case ke => rfl)) | ((with_reducible refine' wRetO_of ?ke ?_); (case ke => rfl)) | ((with_reducible refine' wApp_of ?ke ?_); (case ke => rfl)) | with_reducible refine' wRet_of ?_ | with_reducible refine' wRetF_of ?_ | with_reducible refine' wIfS_of ?_ | with_reducible refine' wForS_of ?_ | with_reducible refine' wItemsL_of ?_ | with_reducible refine' wItemsT_of ?_ | with_reducible refine' wLc_of ?_ | with_reducible refine' wAndV_of ?_ | with_reducible refine' wOrV_of ?_ | with_reducible refine' wNotV_of ?_ | with_reducible refine' wIf_of ?_ | with_reducible refine' wGet2_of ?_ | with_reducible refine' wChain_of ?_ | with_reducible refine' wExpr_of ?_ | with_reducible refine' kLenL_of ?_ | with_reducible refine' kLenT_of ?_ | ((with_reducible refine' kFld_of ?ke ?_); (case ke => rfl)) | with_reducible refine' wLc2_of ?_ | with_reducible refine' wNext_of ?_ | ((with_reducible refine' kZip2_of ?k1 ?k2 ?_); (case k1 => rfl); (case k2 => rfl)) | ((with_reducible refine' kZip3_of ?k1 ?k2 ?k3 ?_); (case k1 => rfl); (case k2 => rfl); (case k3 => rfl)) | with_reducible refine' kEnumT_of ?_ | with_reducible refine' wPart_of ?_ | with_reducible refine' wNoPart_of ?_ | with_reducible refine' kTupOfL_of ?_ | with_reducible refine' wEndP_of ?_ | ((with_reducible refine' wNewP_of ?ke ?_); (case ke => rfl)) | with_reducible refine' kI_of ?_ | ((with_reducible refine' wRev_of ?ke ?_); (case ke => rfl)) | with_reducible refine' kNeI_of ?_ | with_reducible refine' kEqI_of ?_ | with_reducible refine' kNeS_of ?_ | with_reducible refine' kEqS_of ?_ | with_reducible refine' wDropX_of ?_ | with_reducible refine' wSetX_of ?_ | with_reducible refine' wRetX_of ?_ | with_reducible refine' wRaise_of ?_ | with_reducible refine' wTry_of ?_ | with_reducible refine' wSlT_of ?_ | with_reducible refine' wSlQ_of ?_ | with_reducible refine' kNeg_of ?_ | with_reducible refine' kLenQ_of ?_ | with_reducible refine' kLstT_of ?_ | with_reducible refine' kLstL_of ?_))
section
variable {P : Program} {w : World} {K : PySem.W.Frag} {mg : Str → Option Value} {base : Heap} {TT : List NdefX.NTab} {C CS : Addr} {H H' : Hp}
/-- what is_fair tells of a run's places, its loop begun at n -/
def fairD (hs : List HD) (dl : List Int) (wl : List Str) (n : Nat) (loop : List Mov) (ps : List (List Int)) (x : List Int) : Bool := decide (ps[n]? = some x) && dl.all (srvD hs wl loop (ps.drop n))
/-- few different places -/
def FewP (ps : List (List Int)) : Prop := ∃ U : List (List Int), (∀ y ∈ ps, y ∈ U) ∧ U.length + 1 < 64
theorem HandOf.lo {ss : List Stp} {x0 : Int} {wl : List Str} {nl : List Int} (h : HandOf ss x0 wl nl) (i : HdIn x0 ss) : ∀ x ∈ nl, 0 ≤ x ∧ x < 100 := fun x hx => by
  have r := (h.nm x).mp hx
  cases r with
  | refl => exact ⟨i.lo, by have := i.hi; omega⟩
  | step _ hs =>
    have := i.good.ok _ hs
    exact ⟨this.b0, by have := this.b1; omega⟩
theorem cutD_from {α : Type} {f : α → Dt} {xs : List α} {i : Nat} (h : i ≤ xs.length) : UL.cutD (xs.map f) (some (i : Int)) none = (xs.drop i).map f := by
  unfold UL.cutD
  rw [HT.sIx_nat, HT.sIx_none, List.length_map, Nat.min_eq_left h, List.take_of_length_le (by rw [List.length_drop, List.length_map]; exact Nat.le_refl _), List.map_drop]
def wFair (C CS : Addr) : List Dt → (Dt → Prop) → Prop := fun ds P => ∃ hs dl wl stem loop ps x, ds = [dSys C CS hs dl wl, .tup (stem.map dMv), .tup (loop.map dMv)] ∧ SySt hs dl wl ∧ Walk (hs.map (·.r)) wl (stem ++ loop) ps x ∧ (stem ++ loop).length ≤ 100000 ∧ FewP ps ∧ P (.bl (fairD hs dl wl stem.length loop ps x))
end
end KX
namespace KX
open PySem PySem.Spec PyProof.Rows L2 UL
local macro_rules | `(tactic| walk_at "u") => `(tactic| repeat (first | ((with_reducible refine' wVar_of ?ke ?_); (case ke => rfl)) | with_reducible refine' wC_of ?_ | with_reducible refine' wB_of ?_ | with_reducible refine' wAnd_of ?_ | with_reducible refine' wOr_of ?_ | with_reducible refine' wNot_of ?_ | with_reducible refine' w2_of ?_ | with_reducible refine' w1_of ?_ | with_reducible refine' wCons_of ?_ | with_reducible refine' wNil_of ?_ | ((with_reducible refine' kIxT_of ?ke ?_); (case ke => rfl)) | with_reducible refine' wSeq_of ?_ | with_reducible refine' wSet_of ?_ | ((with_reducible refine' wSetF_of ?ke ?_); (case ke => rfl)) | ((with_reducible refine' wRetO_of ?ke ?_); (case ke => rfl)) | ((with_reducible refine' wSetNew_of ?hs ?_); (case hs => rfl)) | ((with_reducible refine' wPutN_of ?he ?_); (case he => rfl)) | ((with_reducible refine' wPutI_of ?he ?_); (case he => rfl)) | ((with_reducible refine' wApp_of ?ke ?_); (case ke => rfl)) | with_reducible refine' wRet_of ?_ | with_reducible refine' wRetF_of ?_ | with_reducible refine' wIfS_of ?_ | with_reducible refine' wForS_of ?_ | with_reducible refine' wItemsL_of ?_ | with_reducible refine' wItemsT_of ?_ | with_reducible refine' wLc_of ?_ | with_reducible refine' wAndV_of ?_ | with_reducible refine' wOrV_of ?_ | with_reducible refine' wNotV_of ?_ | with_reducible refine' wIf_of ?_ | with_reducible refine' wGet2_of ?_ | with_reducible refine' wChain_of ?_ | with_reducible refine' wExpr_of ?_ | with_reducible refine' kLenL_of ?_ | with_reducible refine' kLenT_of ?_ | ((with_reducible refine' kFld_of ?ke ?_); (case ke => rfl)) | with_reducible refine' wLc2_of ?_ | with_reducible refine' wNext_of ?_ | ((with_reducible refine' kZip2_of ?k1 ?k2 ?_); (case k1 => rfl); (case k2 => rfl)) | ((with_reducible refine' kZip3_of ?k1 ?k2 ?k3 ?_); (case k1 => rfl); (case k2 => rfl); (case k3 => rfl)) | with_reducible refine' kEnumT_of ?_ | with_reducible refine' wPart_of ?_ | with_reducible refine' wNoPart_of ?_ | with_reducible refine' kTupOfL_of ?_ | with_reducible refine' wEndP_of ?_ | ((with_reducible refine' wNewP_of ?ke ?_); (case ke => rfl)) | with_reducible refine' kI_of ?_ | ((with_reducible refine' wRev_of ?ke ?_); (case ke => rfl)) | with_reducible refine' kNeI_of ?_ | with_reducible refine' kEqI_of ?_ | with_reducible refine' kNeS_of ?_ | with_reducible refine' kEqS_of ?_ | with_reducible refine' wDropX_of ?_ | with_reducible refine' wSetX_of ?_ | with_reducible refine' wRetX_of ?_ | with_reducible refine' wRaise_of ?_ | with_reducible refine' wTry_of ?_ | with_reducible refine' wSlT_of ?_ | with_reducible refine' wSlQ_of ?_ | with_reducible refine' kNeg_of ?_ | with_reducible refine' kLenQ_of ?_ | with_reducible refine' kLstT_of ?_ | with_reducible refine' kLstL_of ?_ | ((with_reducible refine' wSetNewK_of ?hs ?_); (case hs => rfl)) | ((with_reducible refine' wPutK_of ?he ?_); (case he => rfl)) | ((with_reducible refine' wIns_of ?he ?_); (case he => rfl)) | ((with_reducible refine' wPop_of ?he ?_); (case he => rfl))))
section
variable {P : Program} {w : World} {K : PySem.W.Frag} {mg : Str → Option Value} {base : Heap} {TT : List NdefX.NTab} {C CZ CB CM : Addr} {H H' : Hp}
def wNamesU : List Dt → (Dt → Prop) → Prop := fun ds P => ∃ m : Nat, ds = [.int m] ∧ m ≤ 1000 ∧ ∀ zs : List Str, zs.length = m → (∀ z ∈ zs, NameOk z) → zs.Nodup → P (.lst (zs.map Dt.str))
theorem u_names {k : Nat} {f : Addr} {fd : FuncData} (G : FnOk P w K mg base CX0 k f fd ["_law_pool_here", "_law_many"] spNames) : FnOk P w K mg base CX0 k f fd ["_law_pool_here", "_law_many"] (spP K (tts T) wNamesU) := by
  refine G.imp fun vs H Q E ⟨p, vs', ok, ds, P, e, hp, nok, ht, r, ⟨m, ed, m0, h⟩, q⟩ => ?_
  subst e
  subst ed
  cases r with
  | cons r t =>
    cases t
    refine ⟨p, m, by rw [R.intE r], hp, m0, fun l zs H' hl he hz lz hp' sx nd => ?_⟩
    obtain ⟨x, y, z, hpe⟩ := hp
    exact q _ _ H' (h zs lz hz nd) (fun a o nt n e => sx a o n e) hp' (tabL_sx (p := p) (fun ps z => by rw [hpe] at z; cases z) (fun c q z => by rw [hpe] at z; exact nc_lst c q (Option.some.inj z)) sx ht) (.lst he (.inr (.of hl)) (Rs.ofStrs _))
def wTo3 (K : PySem.W.Frag) (C CZ CB CM : Addr) : List Dt → (Dt → Prop) → Prop := fun ds P => wTo3X K C CZ CB CM ds P ∨ wTo3G ds P
def wLaw3 : List Dt → (Dt → Prop) → Prop := fun ds P => ∃ ns : List Int, ds = [.sql ns] ∧ ns.length ≤ 63 ∧ P (.bl true)
theorem dedup_ex {α : Type} [DecidableEq α] : ∀ l : List α, ∃ l' : List α, l'.Nodup ∧ ∀ x, x ∈ l' ↔ x ∈ l
  | [] => ⟨[], List.nodup_nil, fun x => Iff.rfl⟩
  | a :: l => by
    obtain ⟨l', nd, h⟩ := dedup_ex l
    by_cases ha : a ∈ l'
    · refine ⟨l', nd, fun x => ?_⟩
      rw [List.mem_cons, h x]
      refine ⟨.inr, fun e => e.elim (fun e => ?_) id⟩
      rw [e]
      exact (h a).mp ha
    · exact ⟨a :: l', List.nodup_cons.mpr ⟨ha, nd⟩, fun x => by rw [List.mem_cons, List.mem_cons, h x]⟩
theorem big_or {x0 : Int} {ss : List Stp} (G : Good ss) (h0 : 0 ≤ x0) (h1 : x0 ≤ 99) : HdIn x0 ss ∨ Big x0 ss := by
  obtain ⟨ls, nl, hl⟩ := dedup_ex (ss.map (·.w))
  obtain ⟨fs, nf, hf⟩ := dedup_ex ((x0 :: ss.map (·.b)).filter fun x => @decide (Reach ss x0 x) (Classical.propDecidable _))
  have hf2 : ∀ x, x ∈ fs ↔ Reach ss x0 x := fun x => by
    rw [hf x, List.mem_filter]
    constructor
    · rintro ⟨_, h⟩
      exact @of_decide_eq_true _ (Classical.propDecidable _) h
    · intro h
      exact ⟨reach_dst x h, @decide_eq_true _ (Classical.propDecidable _) h⟩
  by_cases a : 8 < ls.length
  · exact .inr (.inl ⟨ls, nl, fun z hz => by
      obtain ⟨s, hs, e⟩ := List.mem_map.mp ((hl z).mp hz)
      exact ⟨s, hs, e⟩, a⟩)
  · by_cases b : 8 < fs.length
    · exact .inr (.inr ⟨fs, nf, fun x hx => (hf2 x).mp hx, b⟩)
    · exact .inl ⟨G, h0, h1, ⟨ls, fun s hs => (hl _).mpr (List.mem_map_of_mem hs), by omega⟩, ⟨fs, fun x r => (hf2 x).mpr r, by omega⟩⟩
/-- a start; what is handed as steps -/
def StartC (d : Dt) : Prop := (∃ x0 : Int, d = .int x0 ∧ 0 ≤ x0 ∧ x0 ≤ 99) ∨ (Ty d ∧ staB d = false ∧ SmD 3 d)
def CaseB (L : List Dt) : Prop := ∃ pre x post, L = pre.map dStp ++ x :: post ∧ Pre pre ∧ TyP x ∧ BadStp pre x ∧ pre.length + 1 + post.length ≤ 24
structure CaseL (L : List Dt) : Prop where
  k : (∃ ss, L = ss.map dStp ∧ Good ss) ∨ CaseB L ∨ (24 < L.length ∧ L.length ≤ 1000)
  s : ∀ d ∈ L, d.selfE = true
theorem self_stps (ss : List Stp) : ∀ d ∈ ss.map dStp, d.selfE = true := fun d hd => by
  obtain ⟨s, _, rfl⟩ := List.mem_map.mp hd
  rfl
theorem case_ok {qs : List Stp} (h : ∀ s ∈ qs, StpOk s) (l1 : 1 ≤ qs.length) (l2 : qs.length ≤ 1000) : CaseL (qs.map dStp) := by
  refine ⟨?_, self_stps qs⟩
  by_cases l : 24 < qs.length
  · exact .inr (.inr ⟨by rw [List.length_map]; exact l, by rw [List.length_map]; exact l2⟩)
  have key : ∀ n, n ≤ qs.length → Pre (qs.take n) ∨ CaseB (qs.map dStp) := by
    intro n
    induction n with
    | zero => exact fun _ => .inl ⟨(fun s h => nomatch h), List.nodup_nil, fun a => Nat.zero_le _⟩
    | succ n ih =>
      intro hn
      rcases ih (by omega) with G | B
      · have es : qs[n]? = some qs[n] := List.getElem?_eq_getElem (by omega)
        have ed : qs = qs.take n ++ qs[n] :: qs.drop (n + 1) := by rw [← List.drop_eq_getElem_cons (by omega), List.take_append_drop]
        generalize qs[n] = x at es ed
        have xm := List.mem_of_getElem? es
        have lt : (qs.take n).length = n := by rw [List.length_take]; omega
        by_cases hb : x ∈ qs.take n ∨ 4 ≤ cnt (qs.take n) x.a
        · refine .inr ⟨qs.take n, dStp x, (qs.drop (n + 1)).map dStp, ?_, G, stp_typ (h x xm), .inr ⟨x, rfl, h x xm, hb⟩, by rw [List.length_map, List.length_drop, lt]; omega⟩
          rw [← List.map_cons, ← List.map_append, ← ed]
        · have hb1 : x ∉ qs.take n := fun z => hb (.inl z)
          have hb2 : ¬ 4 ≤ cnt (qs.take n) x.a := fun z => hb (.inr z)
          refine .inl ⟨fun s hs => h s (List.mem_of_mem_take hs), ?_, fun a => ?_⟩
          · rw [List.take_add_one, es]
            show (qs.take n ++ [x]).Nodup
            rw [List.nodup_append]
            exact ⟨G.nd, by simp, fun u hu v hv e => hb1 (by rw [← List.mem_singleton.mp hv, ← e]; exact hu)⟩
          · rw [cnt_take a es]
            have := G.lv a
            by_cases ea : x.a = a
            · subst ea
              rw [if_pos rfl]
              omega
            · rw [if_neg ea]
              omega
      · exact .inr B
  rcases key qs.length (Nat.le_refl _) with G | B
  · rw [List.take_length] at G
    exact .inl ⟨qs, rfl, G.ok, G.nd, G.lv, l1, by omega⟩
  · exact .inr (.inl B)
theorem case_odd {ss : List Stp} {i : Nat} {x : Dt} (G : Good ss) (hi : i < ss.length) (hx : OddX x) : CaseL ((ss.map dStp).set i x) := by
  have e : (ss.map dStp).set i x = (ss.take i).map dStp ++ x :: (ss.drop (i + 1)).map dStp := by
    rw [List.set_eq_take_append_cons_drop, if_pos (by rw [List.length_map]; exact hi), List.map_take, List.map_drop]
  have hh := G.hi
  have lt : (ss.take i).length = i := by rw [List.length_take]; omega
  rw [e]
  refine ⟨.inr (.inl ⟨ss.take i, x, _, rfl, ⟨fun s hs => G.ok s (List.mem_of_mem_take hs), G.nd.sublist (List.take_sublist i ss), fun a => Nat.le_trans (cnt_take_le ss i a) (G.lv a)⟩, hx.1, .inl hx.2.1, by rw [List.length_map, List.length_drop, lt]; omega⟩), fun d hd => ?_⟩
  rcases List.mem_append.mp hd with hd | hd
  · exact self_stps _ d hd
  · rcases List.mem_cons.mp hd with rfl | hd
    · exact hx.2.2
    · exact self_stps _ d hd
/-- what is told is what is due -/
theorem agree {C CZ CB CM : Addr} {d0 e : Dt} {L : List Dt} (hs : StartC d0) (hc : CaseL L) (he : e.seq = some L) (hn : ∃ t, (e = .lst L ∧ t = true) ∨ (e = .tup L ∧ t = false)) :
    ∃ r, SmD 4 r ∧ (∀ P, P r → wTo3 K C CZ CB CM [d0, e] P) ∧ ∀ P, P r → wDue3 K [d0, .lst L] P := by
  rcases hs with ⟨x0, rfl, h0, h1⟩ | ⟨ty, sb, sm⟩
  · rcases hc.k with ⟨ss, rfl, G⟩ | ⟨pre, x, post, rfl, G, tx, bx, l24⟩ | ⟨l1, l2⟩
    · have due : ∀ P : Dt → Prop, (Big x0 ss → P (.tup [.str "many", .int 8])) → (HdIn x0 ss → P (.tup [.str "hand"])) → wDue3 K [.int x0, .lst (ss.map dStp)] P := fun P a b => by
        have lo := G.lo
        have hi := G.hi
        exact .inr (.inr ⟨x0, ss, [], by rw [List.append_nil], h0, h1, lo, hi, ⟨G.ok, G.nd, G.lv⟩, .inr ⟨rfl, a, b⟩⟩)
      by_cases hb : Big x0 ss
      · refine ⟨.tup [.str "many", .int 8], ⟨by show 2 ≤ 1000; decide, fun x hx => ?_⟩, fun P p => .inl ⟨_, e, rfl, .inr ⟨x0, e, ss, rfl, h0, h1, he, G, hb, .inr (.inr ⟨_, rfl, p⟩)⟩⟩, fun P p => due P (fun _ => p) fun h => ?_⟩
        · simp only [List.mem_cons, List.not_mem_nil, or_false] at hx
          rcases hx with rfl | rfl <;> exact True.intro
        · exfalso
          obtain ⟨zs, hz, lz⟩ := h.ws
          obtain ⟨U, hU, lU⟩ := h.rg
          rcases hb with ⟨ls, nl, hl, b⟩ | ⟨fs, nf, hf, b⟩
          · have := nd_lenS nl (fun z hz' => by obtain ⟨s, hs, e⟩ := hl z hz'; rw [← e]; exact hz s hs : ∀ z ∈ ls, z ∈ zs)
            omega
          · have := KX.nd_len nf (fun x hx => hU x (hf x hx) : ∀ x ∈ fs, x ∈ U)
            omega
      · have hd := (big_or G h0 h1).resolve_right hb
        exact ⟨.tup [.str "hand"], ⟨by show 1 ≤ 1000; decide, fun x hx => by rw [List.mem_singleton.mp hx]; exact True.intro⟩, fun P p => .inr ⟨x0, e, ss, rfl, he, hd, p⟩, fun P p => due P (fun z => absurd z hb) fun _ => p⟩
    · refine ⟨.tup [.str "steps", .int (pre.length : Nat)], ⟨by show 2 ≤ 1000; decide, fun y hy => ?_⟩, fun P p => .inl ⟨_, e, rfl, .inl (.inr ⟨x0, e, rfl, h0, h1, .inr ⟨e, pre, x, post, rfl, he, G.ok, G.nd, G.lv, l24, tx, bx, .inr (.inl ⟨_, rfl, p⟩)⟩⟩)⟩, fun P p => .inr (.inr ⟨x0, pre, x :: post, rfl, h0, h1, by rw [List.length_cons]; omega, by rw [List.length_cons]; omega, G, .inl ⟨x, post, rfl, tx, bx, p⟩⟩)⟩
      simp only [List.mem_cons, List.not_mem_nil, or_false] at hy
      rcases hy with rfl | rfl <;> exact True.intro
    · refine ⟨.tup [.str "steps", .int (-1)], ⟨by show 2 ≤ 1000; decide, fun y hy => ?_⟩, fun P p => .inl ⟨_, e, rfl, .inl (.inr ⟨x0, e, rfl, h0, h1, .inl ?_⟩)⟩, fun P p => .inr (.inl ⟨x0, _, rfl, h0, h1, .inr ⟨L, .inl rfl, l2, .inr l1⟩, p⟩)⟩
      · simp only [List.mem_cons, List.not_mem_nil, or_false] at hy
        rcases hy with rfl | rfl <;> exact True.intro
      · obtain ⟨t, ⟨rfl, _⟩ | ⟨rfl, _⟩⟩ := hn
        · exact .inr (.inl ⟨L, rfl, l2, .inr l1, .inr (.inl ⟨_, rfl, p⟩)⟩)
        · exact .inr (.inr ⟨L, rfl, l2, .inr l1, .inr (.inl ⟨_, rfl, p⟩)⟩)
  · refine ⟨.tup [.str "state", d0], ⟨by show 2 ≤ 1000; decide, fun x hx => ?_⟩, fun P p => .inl ⟨_, e, rfl, .inl (.inl ⟨d0, e, rfl, ty, sb, .inl ⟨_, rfl, p⟩⟩)⟩, fun P p => .inl ⟨d0, _, rfl, ty, sb, p⟩⟩
    simp only [List.mem_cons, List.not_mem_nil, or_false] at hx
    rcases hx with rfl | rfl
    · exact True.intro
    · exact sm
/-- what is no row of steps -/
def BadRow (K : PySem.W.Frag) (e : Dt) : Prop := NotRow K e ∨ e = .lst [] ∨ e = .tup []
theorem agree6 {C CZ CB CM : Addr} {d0 e : Dt} (hs : StartC d0) (hb : BadRow K e) : ∃ r, SmD 4 r ∧ (∀ P, P r → wTo3 K C CZ CB CM [d0, e] P) ∧ ∀ P, P r → wDue3 K [d0, e] P := by
  rcases hs with ⟨x0, rfl, h0, h1⟩ | ⟨ty, sb, sm⟩
  · refine ⟨.tup [.str "steps", .int (-1)], ⟨by show 2 ≤ 1000; decide, fun y hy => ?_⟩, fun P p => .inl ⟨_, e, rfl, .inl (.inr ⟨x0, e, rfl, h0, h1, .inl ?_⟩)⟩, fun P p => .inr (.inl ⟨x0, _, rfl, h0, h1, ?_, p⟩)⟩
    · simp only [List.mem_cons, List.not_mem_nil, or_false] at hy
      rcases hy with rfl | rfl <;> exact True.intro
    · rcases hb with n | rfl | rfl
      · exact .inl ⟨e, rfl, n, .inr (.inl ⟨_, rfl, p⟩)⟩
      · exact .inr (.inl ⟨[], rfl, by decide, .inl (by decide), .inr (.inl ⟨_, rfl, p⟩)⟩)
      · exact .inr (.inr ⟨[], rfl, by decide, .inl (by decide), .inr (.inl ⟨_, rfl, p⟩)⟩)
    · rcases hb with n | rfl | rfl
      · exact .inl n
      · exact .inr ⟨[], .inl rfl, by decide, .inl (by decide)⟩
      · exact .inr ⟨[], .inr rfl, by decide, .inl (by decide)⟩
  · refine ⟨.tup [.str "state", d0], ⟨by show 2 ≤ 1000; decide, fun x hx => ?_⟩, fun P p => .inl ⟨_, e, rfl, .inl (.inl ⟨d0, e, rfl, ty, sb, .inl ⟨_, rfl, p⟩⟩)⟩, fun P p => .inl ⟨d0, _, rfl, ty, sb, p⟩⟩
    simp only [List.mem_cons, List.not_mem_nil, or_false] at hx
    rcases hx with rfl | rfl
    · exact True.intro
    · exact sm
/-- the law's defs, by their places -/
structure OwnL (K : PySem.W.Frag) (mg : Str → Option Value) (fP fC fD fN fT fS fU fO fG : Addr) (gP gC gD gN gT gS gU gO gG : FuncData) : Prop where
  pool : Cal K mg "_law_pool" s_law_pool ["_law_cell_here"] fP gP
  cell : Cal K mg "_law_cell" s_law_cell ["_law_script", "_law_k"] fC gC
  draw : Cal K mg "_law_draw" s_law_draw ["_law_pool_here", "_law_many"] fD gD
  names : Cal K mg "_law_names" s_law_names ["_law_pool_here", "_law_many"] fN gN
  told : Cal K mg "_law_told" s_law_told ["_law_start", "_law_steps"] fT gT
  same : Cal K mg "_law_same" s_law_same ["_law_told_here", "_law_due_here"] fS gS
  due : Cal K mg "_law_due" s_law_due ["_law_start", "_law_steps"] fU gU
  odd : Cal K mg "_law_odd_step" s_law_odd_step ["_law_pool_here", "_law_step"] fO gO
  good : Cal K mg "_law_good" s_law_good ["_law_pool_here", "_law_names_here", "_law_states", "_law_many"] fG gG
theorem sc_law3 : FnScope ["_law_script", "_law_pool_here", "_law_turn", "_law_start_turn", "_law_first", "_law_states", "_law_names_here", "_law_steps", "_law_more", "_law_place", "_law_start", "_law_handed", "_law_k", "_law_letter"] ["_law_script"] (defScope s_law) := ⟨rfl, rfl, rfl, by decide +kernel, rfl, by decide +kernel, by decide +kernel⟩
theorem ok_law3 {f : Addr} {fd : FuncData} {fP fC fD fN fT fS fU fO fG : Addr} {gP gC gD gN gT gS gU gO gG : FuncData} (F : Fun K "law" "law" s_law f fd) (B : Blt mg) (N : Kin mg) (OD : OwnL K mg fP fC fD fN fT fS fU fO fG gP gC gD gN gT gS gU gO gG) (GP : FnOk P w K mg base CX0 1 fP gP ["_law_cell_here"] spPool) (GC : FnOk P w K mg base CX0 1 fC gC ["_law_script", "_law_k"] (spU K TT wCell)) (GD : FnOk P w K mg base CX0 1 fD gD ["_law_pool_here", "_law_many"] (spP K TT wDraw)) (GN : FnOk P w K mg base CX0 2 fN gN ["_law_pool_here", "_law_many"] (spP K TT wNamesU)) (GT : FnOk P w K mg base CX0 8 fT gT ["_law_start", "_law_steps"] (spU K TT (wTo3 K C CZ CB CM))) (GS : FnOk P w K mg base CX0 5 fS gS ["_law_told_here", "_law_due_here"] (spU K TT (wSm 4))) (GU : FnOk P w K mg base CX0 4 fU gU ["_law_start", "_law_steps"] (spU K TT (wDue3 K))) (GO : FnOk P w K mg base CX0 2 fO gO ["_law_pool_here", "_law_step"] (spP K TT wOdd3)) (GG : FnOk P w K mg base CX0 2 fG gG ["_law_pool_here", "_law_names_here", "_law_states", "_law_many"] (spPF K TT wGood3)) : FnOk P w K mg base CX0 10 f fd ["_law_script"] (spU K TT wLaw3) := by
  refine fn_u F sc_law3 (by decide) (fun ds Q ⟨_, e, _⟩ => by rw [e]; rfl) fun cdv A outer s H E hr => ?_
  refine ⟨_, _, ([], []), ([], []), (pss_cons (ps_set (i := 1) sc_law3.nd rfl (.inl rfl) (pe_call GP (hr.mono (by decide)) (by rfl) OD.pool.g OD.pool.F.kp OD.pool.b .nil pass0 (pa_cons (pe_call GC (hr.mono (by decide)) (by rfl) OD.cell.g OD.cell.F.kp OD.cell.b .nil pass0 (pa_cons (pv 0) (pa_cons pe_int pa_nil))) pa_nil)))
      (pss_cons (ps_set (i := 2) sc_law3.nd rfl (.inl rfl) (pe_call GD (hr.mono (by decide)) (by rfl) OD.draw.g OD.draw.F.kp OD.draw.b .nil pass0 (pa_cons (pv 1) (pa_cons pe_int pa_nil))))
      (pss_cons (ps_set (i := 3) sc_law3.nd rfl (.inl rfl) (pe_call GD (hr.mono (by decide)) (by rfl) OD.draw.g OD.draw.F.kp OD.draw.b .nil pass0 (pa_cons (pv 1) (pa_cons pe_int pa_nil))))
      (pss_cons (ps_set (i := 4) sc_law3.nd rfl (.inr rfl) (pe_call GD (hr.mono (by decide)) (by rfl) OD.draw.g OD.draw.F.kp OD.draw.b .nil pass0 (pa_cons (pv 1) (pa_cons pe_int pa_nil))))
      (pss_cons (ps_setLc (i := 5) (own := [("_law_k", 12)]) (wi := (iRng1 (tCons (tOp rAdd_ (tC (.int 1)) (tCall (spP K TT wDraw) [] E0 (tCons (tVar 1) (tCons (tC (.int 10)) tNil)))) tNil))) (g := (gName 12)) (tt := tYes) (te := (tOp rAdd_ (tVar 4) (tVar 12))) rfl sc_law3.nd rfl rfl (sw_true rfl rfl rfl (by decide +kernel)) (pi_range1 rfl B.range (pa_cons (pe_op op_add pe_int (pe_call GD (hr.mono (by decide)) (by rfl) OD.draw.g OD.draw.F.kp OD.draw.b .nil pass0 (pa_cons (pv 1) (pa_cons pe_int pa_nil)))) pa_nil)) (blkOk_by (N := ["_law_script", "_law_pool_here", "_law_turn", "_law_start_turn", "_law_first", "_law_states", "_law_names_here", "_law_steps", "_law_more", "_law_place", "_law_start", "_law_handed", "_law_k", "_law_letter"]) (sc := defScope s_law) (by decide +kernel)) (fun _ _ _ _ _ => (pg_name (i := 12) sc_law3.nd rfl (.inl rfl))) (fun _ _ _ _ _ => pts_nil) (fun _ _ _ _ _ => (pe_op op_add (pv 4) (pv 12))))
      (pss_cons (ps_set (i := 6) sc_law3.nd rfl (.inr rfl) (pe_call GN (hr.mono (by decide)) (by rfl) OD.names.g OD.names.F.kp OD.names.b .nil pass0 (pa_cons (pv 1) (pa_cons (pe_op op_add pe_int (pe_call GD (hr.mono (by decide)) (by rfl) OD.draw.g OD.draw.F.kp OD.draw.b .nil pass0 (pa_cons (pv 1) (pa_cons pe_int pa_nil)))) pa_nil))))
      (pss_cons (ps_set (i := 7) sc_law3.nd rfl (.inr rfl) (pe_call GG (hr.mono (by decide)) (by rfl) OD.good.g OD.good.F.kp OD.good.b .nil pass0 (pa_cons (pe_call GP (hr.mono (by decide)) (by rfl) OD.pool.g OD.pool.F.kp OD.pool.b .nil pass0 (pa_cons (pe_call GC (hr.mono (by decide)) (by rfl) OD.cell.g OD.cell.F.kp OD.cell.b .nil pass0 (pa_cons (pv 0) (pa_cons pe_int pa_nil))) pa_nil)) (pa_cons (pv 6) (pa_cons (pv 5) (pa_cons (pe_op op_add pe_int (pe_call GD (hr.mono (by decide)) (by rfl) OD.draw.g OD.draw.F.kp OD.draw.b .nil pass0 (pa_cons (pv 1) (pa_cons pe_int pa_nil)))) pa_nil))))))
      (pss_cons (ps_set (i := 8) sc_law3.nd rfl (.inl rfl) (pe_call GP (hr.mono (by decide)) (by rfl) OD.pool.g OD.pool.F.kp OD.pool.b .nil pass0 (pa_cons (pe_call GC (hr.mono (by decide)) (by rfl) OD.cell.g OD.cell.F.kp OD.cell.b .nil pass0 (pa_cons (pv 0) (pa_cons pe_int pa_nil))) pa_nil)))
      (pss_cons (ps_set (i := 9) sc_law3.nd rfl (.inr rfl) (pe_call GD (hr.mono (by decide)) (by rfl) OD.draw.g OD.draw.F.kp OD.draw.b .nil pass0 (pa_cons (pv 8) (pa_cons (pe_callB call_len_ (by rfl) B.len PySem.boot_len (pa_cons (pv 7) pa_nil)) pa_nil))))
      (pss_cons (ps_set (i := 10) sc_law3.nd rfl (.inl rfl) (pe_ix (r := rIxL K) ix_list (pv 5) (pe_call GD (hr.mono (by decide)) (by rfl) OD.draw.g OD.draw.F.kp OD.draw.b .nil pass0 (pa_cons (pv 8) (pa_cons (pe_callB call_len_ (by rfl) B.len PySem.boot_len (pa_cons (pv 5) pa_nil)) pa_nil))) (fun _ _ => rfl)))
      (pss_cons (ps_if (pt_cmpR op_eq (pv 3) pe_int (nomark _)) (pss_one (ps_set (i := 10) sc_law3.nd rfl (.inl rfl) (pe_ix (r := rIxL K) ix_list (pe_lst (pa_cons (pe_un un_neg pe_int) (pa_cons pe_int (pa_cons pe_bl (pa_cons pe_str (pa_cons pe_non (pa_cons (pe_lst (pa_cons pe_int pa_nil)) (pa_cons (pe_op op_pow pe_int pe_int) (pa_cons (pe_un un_neg (pe_op op_pow pe_int pe_int)) pa_nil))))))))) (pe_call GD (hr.mono (by decide)) (by rfl) OD.draw.g OD.draw.F.kp OD.draw.b .nil pass0 (pa_cons (pv 8) (pa_cons pe_int pa_nil))) (fun _ _ => rfl)))) pss_nil)
      (pss_cons (ps_if (PW.pt (pw_or (pt_cmpR op_eq (pv 2) pe_int (nomark _)) (pw_or1 (pt_cmpR op_eq (pv 2) pe_int (nomark _))))) (pss_one (ps_asg (pe_call GO (hr.mono (by decide)) (by rfl) OD.odd.g OD.odd.F.kp OD.odd.b .nil pass0 (pa_cons (pv 8) (pa_cons (pe_ix (r := rIxL K) ix_list (pv 7) (pv 9) (fun _ _ => rfl)) pa_nil))) (pg_sub (pv 7) (pv 9) set_list))) pss_nil)
      (pss_cons (ps_if (pt_cmpR op_eq (pv 2) pe_int (nomark _)) (pss_one (ps_set (i := 7) sc_law3.nd rfl (.inr rfl) (pe_op op_cat (pe_op op_cat (pe_slice sl_list (pv 7) po_none (po_some (pe_op op_add (pv 9) pe_int))) (pe_lst (pa_cons (pe_ix (r := rIxL K) ix_list (pv 7) (pe_call GD (hr.mono (by decide)) (by rfl) OD.draw.g OD.draw.F.kp OD.draw.b .nil pass0 (pa_cons (pv 8) (pa_cons (pe_op op_add (pv 9) pe_int) pa_nil))) (fun _ _ => rfl)) pa_nil))) (pe_slice sl_list (pv 7) (po_some (pe_op op_add (pv 9) pe_int)) po_none)))) pss_nil)
      (pss_cons (ps_if (pt_cmpR op_eq (pv 2) pe_int (nomark _)) (pss_one (ps_set (i := 7) sc_law3.nd rfl (.inr rfl) (pe_op op_cat (pv 7) (pe_lc (own := [("_law_letter", 13)]) (wi := (iStr (tC (.str "abcd")))) (g := (gName 13)) (tt := tYes) (te := (tTup (tCons (tOp (rIxT K) (tOp (rIxL K) (tVar 7) (tVar 9)) (tC (.int 0))) (tCons (tOp rAddS (tC (.str "zzz")) (tVar 13)) (tCons (tC (.int 0)) tNil))))) rfl sc_law3.nd (pi_str pe_str) (blkOk_by (N := ["_law_script", "_law_pool_here", "_law_turn", "_law_start_turn", "_law_first", "_law_states", "_law_names_here", "_law_steps", "_law_more", "_law_place", "_law_start", "_law_handed", "_law_k", "_law_letter"]) (sc := defScope s_law) (by decide +kernel)) (fun _ _ _ _ _ => (pg_name (i := 13) sc_law3.nd rfl (.inl rfl))) (fun _ _ _ _ _ => pts_nil) (fun _ _ _ _ _ => (pe_tup (pa_cons (pe_ix (r := rIxT K) ix_tup (pe_ix (r := rIxL K) ix_list (pv 7) (pv 9) (fun _ _ => rfl)) pe_int (fun _ _ => rfl)) (pa_cons (pe_op op_add_str pe_str (pv 13)) (pa_cons pe_int pa_nil))))))))) pss_nil)
      (pss_cons (ps_if (pt_cmpR op_eq (pv 2) pe_int (nomark _)) (pss_one (ps_set (i := 7) sc_law3.nd rfl (.inr rfl) (pe_lc (own := [("_law_k", 12)]) (wi := (iRng1 (tCons (tOp rAdd_ (tC (.int 24)) (tCall (spP K TT wDraw) [] E0 (tCons (tVar 8) (tCons (tC (.int 2)) tNil)))) tNil))) (g := (gName 12)) (tt := tYes) (te := (tTup (tCons (tVar 12) (tCons (tOp (rIxL K) (tVar 6) (tC (.int 0))) (tCons (tVar 12) tNil))))) rfl sc_law3.nd (pi_range1 rfl B.range (pa_cons (pe_op op_add pe_int (pe_call GD (hr.mono (by decide)) (by rfl) OD.draw.g OD.draw.F.kp OD.draw.b .nil pass0 (pa_cons (pv 8) (pa_cons pe_int pa_nil)))) pa_nil)) (blkOk_by (N := ["_law_script", "_law_pool_here", "_law_turn", "_law_start_turn", "_law_first", "_law_states", "_law_names_here", "_law_steps", "_law_more", "_law_place", "_law_start", "_law_handed", "_law_k", "_law_letter"]) (sc := defScope s_law) (by decide +kernel)) (fun _ _ _ _ _ => (pg_name (i := 12) sc_law3.nd rfl (.inl rfl))) (fun _ _ _ _ _ => pts_nil) (fun _ _ _ _ _ => (pe_tup (pa_cons (pv 12) (pa_cons (pe_ix (r := rIxL K) ix_list (pv 6) pe_int (fun _ _ => rfl)) (pa_cons (pv 12) pa_nil)))))))) pss_nil)
      (pss_cons (ps_set (i := 11) sc_law3.nd rfl (.inl rfl) (pe_callTy call_lst_ (by rfl) B.list (by decide +kernel) (pa_cons (pv 7) pa_nil)))
      (pss_cons (ps_if (pt_cmpR op_eq (pv 2) pe_int (nomark _)) (pss_cons (ps_set (i := 11) sc_law3.nd rfl (.inl rfl) (pe_ix (r := rIxL K) ix_list (pe_lst (pa_cons (pe_lst pa_nil) (pa_cons (pe_tup pa_nil) (pa_cons pe_non (pa_cons pe_str (pa_cons pe_int (pa_cons pe_dnewT (pa_cons pe_bl pa_nil)))))))) (pe_call GD (hr.mono (by decide)) (by rfl) OD.draw.g OD.draw.F.kp OD.draw.b .nil pass0 (pa_cons (pv 8) (pa_cons pe_int pa_nil))) (fun _ _ => rfl)))
      (pss_one (ps_ret (pe_call GS (hr.mono (by decide)) (by rfl) OD.same.g OD.same.F.kp OD.same.b .nil pass0 (pa_cons (pe_call GT (hr.mono (by decide)) (by rfl) OD.told.g OD.told.F.kp OD.told.b .nil pass0 (pa_cons (pv 10) (pa_cons (pv 11) pa_nil))) (pa_cons (pe_call GU (hr.mono (by decide)) (by rfl) OD.due.g OD.due.F.kp OD.due.b .nil pass0 (pa_cons (pv 10) (pa_cons (pv 11) pa_nil))) pa_nil)))))) pss_nil)
      (pss_cons (ps_if (pt_not (pt_val (pe_call GS (hr.mono (by decide)) (by rfl) OD.same.g OD.same.F.kp OD.same.b .nil pass0 (pa_cons (pe_call GT (hr.mono (by decide)) (by rfl) OD.told.g OD.told.F.kp OD.told.b .nil pass0 (pa_cons (pv 10) (pa_cons (pv 11) pa_nil))) (pa_cons (pe_call GU (hr.mono (by decide)) (by rfl) OD.due.g OD.due.F.kp OD.due.b .nil pass0 (pa_cons (pv 10) (pa_cons (pv 7) pa_nil))) pa_nil))))) (pss_one (ps_ret pe_bl)) pss_nil)
      (pss_one (ps_ret (pe_and (pe_cmpR (op_eqV (hu64b hr)) (pv 11) (pv 7) (nomark _)) (pe_one (pe_call GS (hr.mono (by decide)) (by rfl) OD.same.g OD.same.F.kp OD.same.b .nil pass0 (pa_cons (pe_call GT (hr.mono (by decide)) (by rfl) OD.told.g OD.told.F.kp OD.told.b .nil pass0 (pa_cons (pv 10) (pa_cons (pe_callTy call_tup_ (by rfl) B.tuple (by decide +kernel) (pa_cons (pv 7) pa_nil)) pa_nil))) (pa_cons (pe_call GU (hr.mono (by decide)) (by rfl) OD.due.g OD.due.F.kp OD.due.b .nil pass0 (pa_cons (pv 10) (pa_cons (pv 7) pa_nil))) pa_nil))))))))))))))))))))))))), (ss_seq (ss_cast (S' := ([], [1])) (ss_newP 1 pool_sp (se_call (sa_cons (se_var 0) (sa_cons (se_int (i := 0)) sa_nil)))))
      (ss_seq (ss_cast (S' := ([], [1])) (ss_set 2 (se_callP 1 (sa_cons (se_int (i := 8)) sa_nil))))
      (ss_seq (ss_cast (S' := ([], [1])) (ss_set 3 (se_callP 1 (sa_cons (se_int (i := 4)) sa_nil))))
      (ss_seq (ss_cast (S' := ([], [1])) (ss_set 4 (se_callP 1 (sa_cons (se_int (i := 91)) sa_nil))))
      (ss_seq (ss_cast (S' := ([], [1])) (ss_set 5 (SF.e (sf_lc (vs := [12]) (si_rng1 (sa_cons (se_op oS_add (SE.b (se_int (i := 1))) (SE.b (se_callP 1 (sa_cons (se_int (i := 10)) sa_nil)))) sa_nil)) (sg_name 12) st_yes (se_op oS_add (SE.b (se_var 4)) (SE.b (se_var 12)))))))
      (ss_seq (ss_cast (S' := ([], [1])) (ss_set 6 (se_callP 1 (sa_cons (se_op oS_add (SE.b (se_int (i := 1))) (SE.b (se_callP 1 (sa_cons (se_int (i := 10)) sa_nil)))) sa_nil))))
      (ss_seq (ss_cast (S' := ([7], [1])) (ss_setF 7 (sf_callNE [.v 6, .v 5] pool_sp (se_call (sa_cons (se_var 0) (sa_cons (se_int (i := 1)) sa_nil))) (se_op oS_add (SE.b (se_int (i := 1))) (SE.b (se_callP 1 (sa_cons (se_int (i := 24)) sa_nil)))))))
      (ss_seq (ss_cast (S' := ([7], [8, 1])) (ss_newP 8 pool_sp (se_call (sa_cons (se_var 0) (sa_cons (se_int (i := 2)) sa_nil)))))
      (ss_seq (ss_cast (S' := ([7], [8, 1])) (ss_set 9 (se_callP 8 (sa_cons (se_cb c1_len (sb_var 7)) sa_nil))))
      (ss_seq (ss_cast (S' := ([7], [8, 1])) (ss_set 10 (se_op oS_ixL (SE.b (se_var 5)) (SE.b (se_callP 8 (sa_cons (se_cb c1_len (SE.b (se_var 5))) sa_nil))))))
      (ss_seq (ss_if (st_tTest (se_op oS_eq (SE.b (se_var 3)) (SE.b (se_int (i := 0))))) (ss_cast (S' := ([7], [8, 1])) (ss_set 10 (se_op oS_ixL (SE.b (SF.e (sf_lst (sa_cons (se_neg (SE.b (se_int (i := 1)))) (sa_cons (se_int (i := 100)) (sa_cons (se_bl (b := true)) (sa_cons (se_str (z := "0")) (sa_cons se_non (sa_cons (SF.e (sf_lst (sa_cons (se_int (i := 0)) sa_nil))) (sa_cons (se_op oS_pow (SE.b (se_int (i := 10))) (SE.b (se_int (i := 50)))) (sa_cons (se_neg (SE.b (se_op oS_pow (SE.b (se_int (i := 10))) (SE.b (se_int (i := 50)))))) sa_nil))))))))))) (SE.b (se_callP 8 (sa_cons (se_int (i := 8)) sa_nil)))))) ss_nil)
      (ss_seq (ss_if (st_or (st_tTest (se_op oS_eq (SE.b (se_var 2)) (SE.b (se_int (i := 1))))) (st_tTest (se_op oS_eq (SE.b (se_var 2)) (SE.b (se_int (i := 2)))))) (ss_putI 7 (se_callP 8 (sa_cons (se_op oS_ixL (sb_var 7) (SE.b (se_var 9))) sa_nil)) (se_var 9)) ss_nil)
      (ss_seq (ss_if (st_tTest (se_op oS_eq (SE.b (se_var 2)) (SE.b (se_int (i := 3))))) (ss_cast (S' := ([7], [8, 1])) (ss_setF 7 (sf_cat (SE.b (SF.e (sf_cat (SE.b (SF.e (sf_slice (sb_var 7) so_none (so_some (se_op oS_add (SE.b (se_var 9)) (SE.b (se_int (i := 1)))))))) (SE.b (SF.e (sf_lst (sa_cons (se_op oS_ixL (sb_var 7) (SE.b (se_callP 8 (sa_cons (se_op oS_add (SE.b (se_var 9)) (SE.b (se_int (i := 1)))) sa_nil)))) sa_nil))))))) (SE.b (SF.e (sf_slice (sb_var 7) (so_some (se_op oS_add (SE.b (se_var 9)) (SE.b (se_int (i := 1))))) so_none)))))) ss_nil)
      (ss_seq (ss_if (st_tTest (se_op oS_eq (SE.b (se_var 2)) (SE.b (se_int (i := 4))))) (ss_cast (S' := ([7], [8, 1])) (ss_setF 7 (sf_cat (sb_var 7) (SE.b (SF.e (sf_lc (vs := [13]) (si_str (SE.b (se_str (z := "abcd")))) (sg_name 13) st_yes (se_tup (sa_cons (se_op oS_ixT (SE.b (se_op oS_ixL (sb_var 7) (SE.b (se_var 9)))) (SE.b (se_int (i := 0)))) (sa_cons (se_op oS_addS (SE.b (se_str (z := "zzz"))) (SE.b (se_var 13))) (sa_cons (se_int (i := 0)) sa_nil)))))))))) ss_nil)
      (ss_seq (ss_if (st_tTest (se_op oS_eq (SE.b (se_var 2)) (SE.b (se_int (i := 5))))) (ss_cast (S' := ([7], [8, 1])) (ss_setF 7 (sf_lc (vs := [12]) (si_rng1 (sa_cons (se_op oS_add (SE.b (se_int (i := 24))) (SE.b (se_callP 8 (sa_cons (se_int (i := 2)) sa_nil)))) sa_nil)) (sg_name 12) st_yes (se_tup (sa_cons (se_var 12) (sa_cons (se_op oS_ixL (SE.b (se_var 6)) (SE.b (se_int (i := 0)))) (sa_cons (se_var 12) sa_nil))))))) ss_nil)
      (ss_copyEq rfl 11 7 (by decide) (by decide) (by decide) (st_tTest (se_op oS_eq (SE.b (se_var 2)) (SE.b (se_int (i := 6)))))
      (ss_seq (ss_cast (S' := ([], [8, 1])) (ss_set 11 (se_op oS_ixL (SE.b (SF.e (sf_lst (sa_cons (SF.e (sf_lst sa_nil)) (sa_cons (se_tup sa_nil) (sa_cons se_non (sa_cons (se_str (z := "abc")) (sa_cons (se_int (i := 5)) (sa_cons se_dnew (sa_cons (se_bl (b := true)) sa_nil)))))))))) (SE.b (se_callP 8 (sa_cons (se_int (i := 7)) sa_nil))))))
      (ss_ret (se_call (sa_cons (se_call (sa_cons (se_var 10) (sa_cons (se_var 11) sa_nil))) (sa_cons (se_call (sa_cons (se_var 10) (sa_cons (se_var 11) sa_nil))) sa_nil))))) (st_not (st_tB (se_call (sa_cons (se_call (sa_cons (se_var 10) (sa_cons (se_var 11) sa_nil))) (sa_cons (se_call (sa_cons (se_var 10) (sa_cons (se_var 7) sa_nil))) sa_nil)))))
      (ss_ret (se_bl (b := false))) (se_call (sa_cons (se_call (sa_cons (se_var 10) (sa_cons (se_cb c1_tupOf (SE.b (se_var 7))) sa_nil))) (sa_cons (se_call (sa_cons (se_var 10) (sa_cons (se_var 7) sa_nil))) sa_nil))))))))))))))))))), ?_⟩
  rintro ds P ⟨ns, rfl, hn, q⟩
  walk_at "u"
  refine ⟨ns, 0, rfl, by decide, fun z0 => ?_⟩
  walk_at "u"
  refine ⟨8, rfl, by decide, by decide, fun tu t0 t8 => ?_⟩
  walk_at "u"
  refine ⟨4, rfl, by decide, by decide, fun su s0 s4 => ?_⟩
  walk_at "u"
  refine ⟨91, rfl, by decide, by decide, fun fi f0 f91 => ?_⟩
  walk_at "u"
  refine ⟨10, rfl, by decide, by decide, fun m m0 m10 => ?_⟩
  walk_at "u"
  obtain ⟨n, en⟩ : ∃ n : Nat, 1 + m = (n : Nat) := ⟨(1 + m).toNat, by omega⟩
  rw [en]
  refine kRng1_to (by omega) (by omega) ?_
  rw [Int.toNat_natCast, rngD_map]
  refine ⟨by rw [List.length_map, List.length_range]; omega, ?_⟩
  refine wComp_all (fun i : Nat => Dt.int (fi + (i : Nat))) (List.range n) (fun j hj => ?_) ?_
  · refine ⟨_, rfl, fun Q q => q, fun Q q => ?_⟩
    walk_at "u"
    exact q
  rw [List.nil_append]
  obtain ⟨xs, exs, lxs, hxs⟩ : ∃ xs : List Int, (List.range n).map (fun i : Nat => Dt.int (fi + (i : Nat))) = xs.map Dt.int ∧ xs.length = n ∧ ∀ x ∈ xs, 0 ≤ x ∧ x ≤ 99 := by
    refine ⟨(List.range n).map fun i : Nat => fi + (i : Nat), by rw [List.map_map]; rfl, by rw [List.length_map, List.length_range], fun x hx => ?_⟩
    obtain ⟨i, hi, rfl⟩ := List.mem_map.mp hx
    have := List.mem_range.mp hi
    omega
  rw [exs]
  clear exs
  walk_at "u"
  refine ⟨10, rfl, by decide, by decide, fun k k0 k10 => ?_⟩
  walk_at "u"
  obtain ⟨nn, enn⟩ : ∃ n : Nat, 1 + k = (n : Nat) := ⟨(1 + k).toNat, by omega⟩
  rw [enn]
  refine ⟨nn, rfl, by omega, fun zs lz hz nd => ?_⟩
  walk_at "u"
  refine ⟨ns, 1, rfl, by decide, fun z1 => ?_⟩
  refine ⟨_, rfl, ?_⟩
  walk_at "u"
  refine ⟨24, rfl, by decide, by decide, fun g g0 g24 => ?_⟩
  walk_at "u"
  obtain ⟨mm, emm⟩ : ∃ n : Nat, 1 + g = (n : Nat) := ⟨(1 + g).toNat, by omega⟩
  rw [emm]
  refine ⟨zs, xs, mm, rfl, by omega, by omega, hz, by omega, by omega, hxs, by omega, by omega, fun ss G => ?_⟩
  walk_at "u"
  refine ⟨ns, 2, rfl, by decide, fun z2 => ?_⟩
  walk_at "u"
  have l1 := G.lo
  have l24 := G.hi
  rw [List.length_map]
  refine ⟨_, rfl, by omega, by omega, fun pl p0 p1 => ?_⟩
  obtain ⟨p, rfl⟩ : ∃ p : Nat, pl = (p : Nat) := ⟨pl.toNat, by omega⟩
  have hp : p < ss.length := by omega
  walk_at "u"
  rw [List.length_map]
  refine ⟨_, rfl, by omega, by omega, fun o o0 o1 => ?_⟩
  refine kIxL_mem o0 o1 fun x0 hx0 => ?_
  refine wSeq_k (fun ρ => ∃ d0, StartC d0 ∧ ρ = [some (.sql ns), none, some (.int tu), some (.int su), some (.int fi), some (.lst (xs.map Dt.int)), some (.lst (zs.map Dt.str)), some (.lst (ss.map dStp)), none, some (.int p), some d0, none, none, none]) ?_ ?_
  · intro k hk
    walk_at "u"
    show if decide (su = 0) = true then _ else _
    by_cases h0 : su = 0
    · rw [decide_eq_true h0]
      refine iteT ?_
      walk_at "u"
      refine ⟨by show 1 ≤ 1000; decide, ?_⟩
      walk_at "u"
      refine ⟨by unfold CPow; decide, ?_⟩
      walk_at "u"
      refine ⟨by unfold CPow; decide, ?_⟩
      walk_at "u"
      refine ⟨by show 8 ≤ 1000; decide, ?_⟩
      walk_at "u"
      refine ⟨8, rfl, by decide, by decide, fun i i0 i8 => ?_⟩
      refine kIxL_all i0 (by show i < ((8 : Nat) : Int); omega) fun x hx => hk _ ⟨x, ?_, rfl⟩
      simp only [List.mem_cons, List.not_mem_nil, or_false] at hx
      rcases hx with rfl | rfl | rfl | rfl | rfl | rfl | rfl | rfl
      · exact .inr ⟨rfl, by decide +kernel, True.intro⟩
      · exact .inr ⟨rfl, by decide +kernel, True.intro⟩
      · exact .inr ⟨rfl, by decide +kernel, True.intro⟩
      · exact .inr ⟨rfl, by decide +kernel, True.intro⟩
      · exact .inr ⟨rfl, by decide +kernel, True.intro⟩
      · exact .inr ⟨rfl, by decide +kernel, by show 1 ≤ 1000; decide, fun x hx => by rw [List.mem_singleton.mp hx]; exact True.intro⟩
      · exact .inr ⟨rfl, by decide +kernel, True.intro⟩
      · exact .inr ⟨rfl, by decide +kernel, True.intro⟩
    · rw [decide_eq_false h0]
      refine iteF ?_
      walk_at "u"
      exact hk _ ⟨_, .inl ⟨x0, rfl, hxs x0 hx0⟩, rfl⟩
  rintro ρ ⟨d0, hd0, rfl⟩
  clear hx0
  refine wSeq_k (fun ρ => ∃ L, CaseL L ∧ ((tu = 1 ∨ tu = 2) ∨ L = ss.map dStp) ∧ ρ = [some (.sql ns), none, some (.int tu), some (.int su), some (.int fi), some (.lst (xs.map Dt.int)), some (.lst (zs.map Dt.str)), some (.lst L), none, some (.int p), some d0, none, none, none]) ?_ ?_
  · intro k hk
    walk_at "u"
    have go : (tu = 1 ∨ tu = 2) → wPutI 7 (wVar 9) (fun ρ P => wCons (w2 kIxL (wVar 7) (wVar 9)) wNil ρ fun ds => wOdd3 ds P) [some (.sql ns), none, some (.int tu), some (.int su), some (.int fi), some (.lst (xs.map Dt.int)), some (.lst (zs.map Dt.str)), some (.lst (ss.map dStp)), none, some (.int p), some d0, none, none, none] fun o => match o with
        | Out.nx ρ1 => k ρ1
        | o => match o with
          | Out.rt d => P d
          | Out.rf d => P (Dt.lst d)
          | Out.nx ρ => P Dt.non
          | x => False := fun ht => by
      walk_at "u"
      refine kIxL_mem (by omega) (by omega) fun st hst => ?_
      walk_at "u"
      refine ⟨st, rfl, G.ok st hst, fun x hx => ?_⟩
      walk_at "u"
      refine ⟨by omega, by rw [List.length_map]; omega, ?_⟩
      exact hk _ ⟨_, case_odd G hp hx, .inl ht, rfl⟩
    show if decide (tu = 1) = true then _ else _
    by_cases h1 : tu = 1
    · rw [decide_eq_true h1]
      refine iteT ?_
      refine iteT ?_
      exact go (.inl h1)
    · rw [decide_eq_false h1]
      refine iteF ?_
      walk_at "u"
      show if decide (tu = 2) = true then _ else _
      by_cases h2 : tu = 2
      · rw [decide_eq_true h2]
        refine iteT ?_
        exact go (.inr h2)
      · rw [decide_eq_false h2]
        refine iteF ?_
        walk_at "u"
        exact hk _ ⟨_, ⟨.inl ⟨ss, rfl, G⟩, self_stps ss⟩, .inr rfl, rfl⟩
  rintro ρ ⟨L, hL, hk1, rfl⟩
  refine wSeq_k (fun ρ => ∃ L, CaseL L ∧ ((tu = 1 ∨ tu = 2 ∨ tu = 3) ∨ L = ss.map dStp) ∧ ρ = [some (.sql ns), none, some (.int tu), some (.int su), some (.int fi), some (.lst (xs.map Dt.int)), some (.lst (zs.map Dt.str)), some (.lst L), none, some (.int p), some d0, none, none, none]) ?_ ?_
  · intro k hk
    walk_at "u"
    show if decide (tu = 3) = true then _ else _
    by_cases h3 : tu = 3
    · have eL : L = ss.map dStp := hk1.resolve_left (by omega)
      subst eL
      rw [decide_eq_true h3]
      refine iteT ?_
      walk_at "u"
      refine ⟨_, rfl, by omega, by omega, fun j j0 j1 => ?_⟩
      refine kIxL_mem j0 (by omega) fun st hst => ?_
      walk_at "u"
      refine ⟨by show 1 ≤ 1000; decide, ?_⟩
      have e1 : UL.cutD (ss.map dStp) none (some ((p : Nat) + 1)) = (ss.take (p + 1)).map dStp := cutD_take (i := p + 1)
      have e2 : UL.cutD (ss.map dStp) (some ((p : Nat) + 1)) none = (ss.drop (p + 1)).map dStp := cutD_from (i := p + 1) (by omega)
      show kCatL (.lst (UL.cutD (ss.map dStp) none (some ((p : Nat) + 1)))) (.lst [dStp st]) _
      rw [e1]
      refine ⟨by rw [List.length_map, List.length_take, sizeLine_eq]; show _ + 1 ≤ _; omega, ?_⟩
      walk_at "u"
      show kCatL (.lst ((ss.take (p + 1)).map dStp ++ [dStp st])) (.lst (UL.cutD (ss.map dStp) (some ((p : Nat) + 1)) none)) _
      rw [e2]
      refine ⟨by rw [List.length_append, List.length_map, List.length_map, List.length_take, List.length_drop, sizeLine_eq]; show _ + 1 + _ ≤ _; omega, ?_⟩
      have e3 : ((ss.take (p + 1)).map dStp ++ [dStp st]) ++ (ss.drop (p + 1)).map dStp = ((ss.take (p + 1) ++ [st]) ++ ss.drop (p + 1)).map dStp := by rw [List.map_append, List.map_append]; rfl
      rw [e3]
      refine hk _ ⟨_, case_ok (fun s hs => ?_) ?_ ?_, .inl (.inr (.inr h3)), rfl⟩
      · rcases List.mem_append.mp hs with hs | hs
        · rcases List.mem_append.mp hs with hs | hs
          · exact G.ok s (List.mem_of_mem_take hs)
          · rw [List.mem_singleton.mp hs]
            exact G.ok st hst
        · exact G.ok s (List.mem_of_mem_drop hs)
      · rw [List.length_append, List.length_append]
        show 1 ≤ _ + 1 + _
        omega
      · rw [List.length_append, List.length_append, List.length_take, List.length_drop]
        show _ + 1 + _ ≤ 1000
        omega
    · rw [decide_eq_false h3]
      refine iteF ?_
      walk_at "u"
      exact hk _ ⟨_, hL, hk1.imp (fun h => h.elim .inl fun h => .inr (.inl h)) id, rfl⟩
  rintro ρ ⟨L, hL, hk1, rfl⟩
  refine wSeq_k (fun ρ => ∃ L, CaseL L ∧ ((tu = 1 ∨ tu = 2 ∨ tu = 3 ∨ tu = 4) ∨ L = ss.map dStp) ∧ ρ = [some (.sql ns), none, some (.int tu), some (.int su), some (.int fi), some (.lst (xs.map Dt.int)), some (.lst (zs.map Dt.str)), some (.lst L), none, some (.int p), some d0, none, none, none]) ?_ ?_
  · intro k hk
    walk_at "u"
    show if decide (tu = 4) = true then _ else _
    by_cases h3 : tu = 4
    · have eL : L = ss.map dStp := hk1.resolve_left (by omega)
      subst eL
      rw [decide_eq_true h3]
      refine iteT ?_
      walk_at "u"
      have es : ss[p]? = some ss[p] := List.getElem?_eq_getElem hp
      generalize ss[p] = st at es
      have hst := G.ok st (List.mem_of_getElem? es)
      have ea : ("abcd" : Str).cps.toList = [97, 98, 99, 100] := by decide +kernel
      show (strD "abcd").length ≤ 1000000 ∧ wComp _ _ _ _ (strD "abcd") [] _
      unfold strD
      rw [ea]
      refine ⟨by show 4 ≤ 1000000; decide, ?_⟩
      have lz : ("zzz" : Str).length = 3 := by decide +kernel
      refine wComp_all (fun c : Nat => dStp ⟨st.a, "zzz" ++ ⟨#[c]⟩, 0⟩) [97, 98, 99, 100] (fun c hc => ?_) ?_
      · refine ⟨_, rfl, fun Q q => q, fun Q q => ?_⟩
        walk_at "u"
        refine kIxL_of (atI_map es) ?_
        walk_at "u"
        refine ⟨by rw [lz, sizeLine_eq]; show 3 + 1 ≤ _; omega, ?_⟩
        walk_at "u"
        refine ⟨by show 3 ≤ 1000; decide, ?_⟩
        exact q
      rw [List.nil_append]
      walk_at "u"
      refine ⟨by rw [List.length_map, List.length_map, sizeLine_eq]; show _ + 4 ≤ _; omega, ?_⟩
      have e3 : ss.map dStp ++ ([97, 98, 99, 100] : List Nat).map (fun c : Nat => dStp ⟨st.a, "zzz" ++ ⟨#[c]⟩, 0⟩) = (ss ++ ([97, 98, 99, 100] : List Nat).map fun c : Nat => (⟨st.a, "zzz" ++ ⟨#[c]⟩, 0⟩ : Stp)).map dStp := by rw [List.map_append, List.map_map]; rfl
      rw [e3]
      refine hk _ ⟨_, case_ok (fun s hs => ?_) ?_ ?_, .inl (.inr (.inr (.inr h3))), rfl⟩
      · rcases List.mem_append.mp hs with hs | hs
        · exact G.ok s hs
        · obtain ⟨c, hc, rfl⟩ := List.mem_map.mp hs
          have hcb : 97 ≤ c ∧ c ≤ 122 := by
            simp only [List.mem_cons, List.not_mem_nil, or_false] at hc
            omega
          have ez : ("zzz" : Str).cps.toList = [122, 122, 122] := by decide +kernel
          have en : ("zzz" ++ (⟨#[c]⟩ : Str)).cps.toList = [122, 122, 122, c] := by rw [cps_app, ez]; rfl
          refine ⟨hst.a0, hst.a1, ⟨by rw [en]; show 1 ≤ 4; decide, by rw [en]; show 4 ≤ 12; decide, fun x hx => ?_⟩, by show (0 : Int) ≤ 0; decide, by show (0 : Int) ≤ 99; decide⟩
          rw [en] at hx
          simp only [List.mem_cons, List.not_mem_nil, or_false] at hx
          omega
      · rw [List.length_append]
        omega
      · rw [List.length_append, List.length_map]
        show _ + 4 ≤ 1000
        omega
    · rw [decide_eq_false h3]
      refine iteF ?_
      walk_at "u"
      exact hk _ ⟨_, hL, hk1.imp (fun h => by omega) id, rfl⟩
  rintro ρ ⟨L, hL, hk1, rfl⟩
  refine wSeq_k (fun ρ => ∃ L, CaseL L ∧ ρ = [some (.sql ns), none, some (.int tu), some (.int su), some (.int fi), some (.lst (xs.map Dt.int)), some (.lst (zs.map Dt.str)), some (.lst L), none, some (.int p), some d0, none, none, none]) ?_ ?_
  · intro k hk
    walk_at "u"
    show if decide (tu = 5) = true then _ else _
    by_cases h3 : tu = 5
    · rw [decide_eq_true h3]
      refine iteT ?_
      walk_at "u"
      refine ⟨2, rfl, by decide, by decide, fun j j0 j1 => ?_⟩
      walk_at "u"
      obtain ⟨mj, emj⟩ : ∃ n : Nat, 24 + j = (n : Nat) := ⟨(24 + j).toNat, by omega⟩
      rw [emj]
      refine kRng1_to (by omega) (by omega) ?_
      rw [Int.toNat_natCast, rngD_map]
      refine ⟨by rw [List.length_map, List.length_range]; omega, ?_⟩
      have ez : zs[0]? = some zs[0] := List.getElem?_eq_getElem (by omega)
      generalize zs[0] = z at ez
      have hzz := hz z (List.mem_of_getElem? ez)
      refine wComp_all (fun i : Nat => dStp ⟨(i : Nat), z, (i : Nat)⟩) (List.range mj) (fun i hi => ?_) ?_
      · refine ⟨_, rfl, fun Q q => q, fun Q q => ?_⟩
        walk_at "u"
        refine kIxL_of (i := ((0 : Nat) : Int)) (atI_map ez) ?_
        walk_at "u"
        refine ⟨by show 3 ≤ 1000; decide, ?_⟩
        exact q
      rw [List.nil_append]
      have e3 : (List.range mj).map (fun i : Nat => dStp ⟨(i : Nat), z, (i : Nat)⟩) = ((List.range mj).map fun i : Nat => (⟨(i : Nat), z, (i : Nat)⟩ : Stp)).map dStp := by rw [List.map_map]; rfl
      rw [e3]
      refine hk _ ⟨_, case_ok (fun s hs => ?_) ?_ ?_, rfl⟩
      · obtain ⟨i, hi, rfl⟩ := List.mem_map.mp hs
        have := List.mem_range.mp hi
        exact ⟨by show (0 : Int) ≤ (i : Nat); omega, by show ((i : Nat) : Int) ≤ 99; omega, hzz, by show (0 : Int) ≤ (i : Nat); omega, by show ((i : Nat) : Int) ≤ 99; omega⟩
      · rw [List.length_map, List.length_range]
        omega
      · rw [List.length_map, List.length_range]
        omega
    · rw [decide_eq_false h3]
      refine iteF ?_
      walk_at "u"
      exact hk _ ⟨_, hL, rfl⟩
  rintro ρ ⟨L, hL, rfl⟩
  refine ⟨by show 11 < 14; decide, L, rfl, hL.s, ?_⟩
  walk_at "u"
  show if decide (tu = 6) = true then _ else _
  by_cases h6 : tu = 6
  · rw [decide_eq_true h6]
    refine iteT ?_
    walk_at "u"
    refine ⟨by show 0 ≤ 1000; decide, ?_⟩
    walk_at "u"
    refine ⟨by show 0 ≤ 1000; decide, ?_⟩
    walk_at "u"
    refine ⟨by show 7 ≤ 1000; decide, ?_⟩
    walk_at "u"
    refine ⟨7, rfl, by decide, by decide, fun i i0 i7 => ?_⟩
    refine kIxL_all i0 (by show i < ((7 : Nat) : Int); omega) fun x hx => ?_
    have hb : BadRow K x := by
      simp only [List.mem_cons, List.not_mem_nil, or_false] at hx
      rcases hx with rfl | rfl | rfl | rfl | rfl | rfl | rfl
      · exact .inr (.inl rfl)
      · exact .inr (.inr rfl)
      all_goals exact .inl ⟨_, .ty rfl, kAny_ty (by decide +kernel)⟩
    clear hx
    walk_at "u"
    obtain ⟨r, sr, ht, hd⟩ := agree6 (K := K) (C := C) (CZ := CZ) (CB := CB) (CM := CM) hd0 hb
    refine ht _ ?_
    walk_at "u"
    refine hd _ ?_
    walk_at "u"
    refine ⟨r, rfl, sr, ?_⟩
    exact q
  · rw [decide_eq_false h6]
    refine iteF ?_
    walk_at "u"
    obtain ⟨r, sr, ht, hd⟩ := agree (K := K) (C := C) (CZ := CZ) (CB := CB) (CM := CM) (e := .lst L) hd0 hL rfl ⟨true, .inl ⟨rfl, rfl⟩⟩
    refine ht _ ?_
    walk_at "u"
    refine hd _ ?_
    walk_at "u"
    refine ⟨r, rfl, sr, ?_⟩
    refine iteF ?_
    walk_at "u"
    obtain ⟨r, sr, ht, hd⟩ := agree (K := K) (C := C) (CZ := CZ) (CB := CB) (CM := CM) (e := .tup L) hd0 hL rfl ⟨false, .inr ⟨rfl, rfl⟩⟩
    refine ht _ ?_
    walk_at "u"
    refine hd _ ?_
    walk_at "u"
    refine ⟨r, rfl, sr, ?_⟩
    exact q
end
end KX
/-! A head's facts, tables of code objects, and defs of classmethods. -/
namespace KX
open PySem PySem.Spec PyProof.Rows L2
/-- what the names reach, and the statics -/
def reachY (g : Addr → Option Obj) (n : Nat) : List Addr := He5.asA g n
abbrev FrY (g : Addr → Option Obj) (n : Nat) : PySem.W.Frag := He.frT g (reachY g n)
structure SaysY (fa : List He.Fa) (fn : List He.DefD) (tf : List He.Defn) (ex : PySem.W.Frag → Bool) (cm : List He5.DefA) (w : World) (h : Heap) (K : PySem.W.Frag) : Prop where
  x : He.SaysX fa fn [] tf ex w h K
  ok : cm.all (fun d => d.ok K) = true
  at_ : (cm.map fun d => He5.fnA K (d.at_ K)) = cm.map He5.DefA.val
abbrev AlY : Type := He.AlX × Bool × List He.FnW
def obsY (n : Nat) (fa : List He.Fa) (fn : List He.DefD) (tf : List He.Defn) (ex : PySem.W.Frag → Bool) (cm : List He5.DefA) (g : Addr → Option Obj) : AlY :=
  ((He.obsT fa fn [] (FrY g n), ex (FrY g n) && He.tabsB g tf (FrY g n)), cm.all (fun d => d.ok (FrY g n)), cm.map fun d => He5.fnA (FrY g n) (d.at_ (FrY g n)))
def valY (fn : List He.DefD) (cm : List He5.DefA) (w : World) : AlY := (He.valX fn [] w, true, cm.map He5.DefA.val)
theorem saysY_of {n : Nat} {fa : List He.Fa} {fn : List He.DefD} {tf : List He.Defn} {ex : PySem.W.Frag → Bool} {cm : List He5.DefA} {w : World} {h : Heap} (e : obsY n fa fn tf ex cm h.get? = valY fn cm w) : SaysY fa fn tf ex cm w h (FrY h.get? n) := by
  obtain ⟨eX, e⟩ := Prod.mk.inj e
  obtain ⟨e3, e4⟩ := Prod.mk.inj e
  obtain ⟨e1, e2⟩ := Prod.mk.inj eX
  obtain ⟨h1, h2⟩ := He.ba e2
  have tab : ∀ p ∈ tf, PySem.W.codeHdIn (FrY h.get? n) (He.cT (FrY h.get? n) p).1 (He.cT (FrY h.get? n) p).2 = true ∧ ∃ o, h.get? (He.cT (FrY h.get? n) p).2 = some o ∧ He.emptyTab o = true := fun p hp => by
    obtain ⟨h3, h4⟩ := He.ba (List.all_eq_true.mp h2 p hp)
    refine ⟨h3, ?_⟩
    split at h4
    · rename_i o q
      exact ⟨o, q, h4⟩
    · cases h4
  refine ⟨⟨e1, h1, fun p hp => (tab p hp).1, fun p hp => ?_, fun p hp => ?_⟩, e3, e4⟩
  · obtain ⟨_, o, q, z⟩ := tab p hp
    exact He.frT_none q z
  · obtain ⟨_, o, q, z⟩ := tab p hp
    rw [q, He.emptyTab_eq z]
def hookY (n : Nat) (fa : List He.Fa) (fn : List He.DefD) (tf : List He.Defn) (ex : PySem.W.Frag → Bool) (cm : List He5.DefA) : PySem.W.Hook where
  α := AlY
  obs := fun s => obsY n fa fn tf ex cm s.heap.get?
  val := fun w => valY fn cm w
  says := fun w h => ∃ K : PySem.W.Frag, K.In h ∧ SaysY fa fn tf ex cm w h K
  of := fun _ _ e => ⟨_, He.frT_in, saysY_of e⟩
  keeps := fun _ _ _ ⟨K, hK, c⟩ k => ⟨K, PySem.W.Frag.In.keeps hK k, ⟨⟨c.x.t, c.x.more, c.x.hd, c.x.out, fun p hp => k _ _ (c.x.empty p hp)⟩, c.ok, c.at_⟩⟩
theorem SaysY.def_ {fa : List He.Fa} {fn : List He.DefD} {tf : List He.Defn} {ex : PySem.W.Frag → Bool} {cm : List He5.DefA} {w : World} {h : Heap} {K : PySem.W.Frag} (c : SaysY fa fn tf ex cm w h K) (i : Nat) {d : He5.DefA} (hd : cm[i]? = some d := by rfl) : ∃ fd, FunD K d.name d.qual d.params d.body d.scope (d.dvs K) (d.kws K) (d.at_ K) fd := by
  have e : (cm.map fun d => He5.fnA K (d.at_ K))[i]? = (cm.map He5.DefA.val)[i]? := by rw [c.at_]
  rw [List.getElem?_map, List.getElem?_map, hd] at e
  exact He5.DefA.funD (Option.some.inj e) (List.all_eq_true.mp c.ok d (List.mem_of_getElem? hd))
end KX
namespace KX
open PySem PySem.Spec PyProof.Rows L2 UL
local macro_rules | `(tactic| walk_at "u") => `(tactic| repeat (first | ((with_reducible refine' wVar_of ?ke ?_); (case ke => rfl)) | with_reducible refine' wC_of ?_ | with_reducible refine' wB_of ?_ | with_reducible refine' wAnd_of ?_ | with_reducible refine' wOr_of ?_ | with_reducible refine' wNot_of ?_ | with_reducible refine' w2_of ?_ | with_reducible refine' w1_of ?_ | with_reducible refine' wCons_of ?_ | with_reducible refine' wNil_of ?_ | ((with_reducible refine' kIxT_of ?ke ?_); (case ke => rfl)) | with_reducible refine' wSeq_of ?_ | with_reducible refine' wSet_of ?_ | ((with_reducible refine' wSetF_of ?ke ?_); (case ke => rfl)) | ((with_reducible refine' wRetO_of ?ke ?_); (case ke => rfl)) | ((with_reducible refine' wSetNew_of ?hs ?_); (case hs => rfl)) | ((with_reducible refine' wPutN_of ?he ?_); (case he => rfl)) | ((with_reducible refine' wPutI_of ?he ?_); (case he => rfl)) | ((with_reducible refine' wApp_of ?ke ?_); (case ke => rfl)) | with_reducible refine' wRet_of ?_ | with_reducible refine' wRetF_of ?_ | with_reducible refine' wIfS_of ?_ | with_reducible refine' wForS_of ?_ | with_reducible refine' wItemsL_of ?_ | with_reducible refine' wItemsT_of ?_ | with_reducible refine' wLc_of ?_ | with_reducible refine' wAndV_of ?_ | with_reducible refine' wOrV_of ?_ | with_reducible refine' wNotV_of ?_ | with_reducible refine' wIf_of ?_ | with_reducible refine' wGet2_of ?_ | with_reducible refine' wChain_of ?_ | with_reducible refine' wExpr_of ?_ | with_reducible refine' kLenL_of ?_ | with_reducible refine' kLenT_of ?_ | ((with_reducible refine' kFld_of ?ke ?_); (case ke => rfl)) | with_reducible refine' wLc2_of ?_ | with_reducible refine' wNext_of ?_ | ((with_reducible refine' kZip2_of ?k1 ?k2 ?_); (case k1 => rfl); (case k2 => rfl)) | ((with_reducible refine' kZip3_of ?k1 ?k2 ?k3 ?_); (case k1 => rfl); (case k2 => rfl); (case k3 => rfl)) | with_reducible refine' kEnumT_of ?_ | with_reducible refine' wPart_of ?_ | with_reducible refine' wNoPart_of ?_ | with_reducible refine' kTupOfL_of ?_ | with_reducible refine' wEndP_of ?_ | ((with_reducible refine' wNewP_of ?ke ?_); (case ke => rfl)) | with_reducible refine' kI_of ?_ | ((with_reducible refine' wRev_of ?ke ?_); (case ke => rfl)) | with_reducible refine' kNeI_of ?_ | with_reducible refine' kEqI_of ?_ | with_reducible refine' kNeS_of ?_ | with_reducible refine' kEqS_of ?_ | with_reducible refine' wDropX_of ?_ | with_reducible refine' wSetX_of ?_ | with_reducible refine' wRetX_of ?_ | with_reducible refine' wRaise_of ?_ | with_reducible refine' wTry_of ?_ | with_reducible refine' wSlT_of ?_ | with_reducible refine' wSlQ_of ?_ | with_reducible refine' kNeg_of ?_ | with_reducible refine' kLenQ_of ?_ | with_reducible refine' kLstT_of ?_ | with_reducible refine' kLstL_of ?_ | ((with_reducible refine' wSetNewK_of ?hs ?_); (case hs => rfl)) | ((with_reducible refine' wPutK_of ?he ?_); (case he => rfl)) | ((with_reducible refine' wIns_of ?he ?_); (case he => rfl)) | ((with_reducible refine' wPop_of ?he ?_); (case he => rfl))))
theorem oexB_ok {K : PySem.W.Frag} {C : Addr} (h : oexB K C = true) : OexC K C := by
  obtain ⟨q, h⟩ := He.ba h
  obtain ⟨h2, h⟩ := He.ba h
  obtain ⟨h3, h⟩ := He.ba h
  obtain ⟨h4, h5⟩ := He.ba h
  refine ⟨?_, He.eqO_ok h2, of_decide_eq_true h3, of_decide_eq_true h4, h5⟩
  split at q
  · rename_i dd cd sl ho
    split at q
    · rename_i C' bm k0 k1 k2 k3 n k5 hm hs
      simp only [Bool.and_eq_true, beq_iff_eq, Bool.not_eq_true'] at q
      obtain ⟨⟨⟨⟨rfl, rfl⟩, hdel⟩, hdict⟩, ht⟩ := q
      obtain ⟨nm, bs, mro, ns, qn, hd, sn, sub, ab, col, del⟩ := cd
      dsimp only at hm hdel hdict
      subst hm hdel hdict
      have hsl : sl = #[k0, k1, k2, k3, some (.builtin "ValueError.__new__"), k5] := by
        obtain ⟨l⟩ := sl
        simp only at hs
        rw [hs]
      subst hsl
      exact ⟨nm, qn, ns, bs, bm, sn, sub, ab, col, dd, k0, k1, k2, k3, k5, ho, ht⟩
    · cases q
  · cases q

def crB (K : PySem.W.Frag) (C : Addr) : Bool := PySem.W.readsIn K C (.type "type") && He.eqO (PySem.W.specialIn K (.ref C) "__getattribute__") (some (some (.builtin "type.__getattribute__")))
/-- the one table of code objects -/
def tb1 (P : Addr) : TbC := ⟨P, [(P, nmL)], List.mem_singleton.mpr rfl, fun p hp _ => by rw [List.mem_singleton.mp hp]⟩
section
variable {P : Program} {w : World} {K : PySem.W.Frag} {mg : Str → Option Value} {base : Heap} {C : Addr} {T : TbC}
/-- what the head tells of an exception's class -/
structure ExK (K : PySem.W.Frag) (mg : Str → Option Value) (x f : Str) (C fE : Addr) (fdE : FuncData) : Prop where
  ET : OexC K C
  iC : PySem.W.findIn K (.ref C) "__init__" = some (some (.ref fE))
  tI : PySem.W.typeIn K (.ref fE) = some (.type "function")
  eb : Binds K fdE ["self", f] []
  em : mg x = some (.ref C)
  xf : XfC K C
  hno : PySem.W.findIn K (.ref C) f = some none
  XT : PySem.W.exmOne K (.ref C) (.ref C) = some true
theorem sc_xbz : FnScope ["self", "value"] ["self", "value"] (defScope s_BadState_init) := ⟨rfl, rfl, rfl, by decide +kernel, rfl, by decide +kernel, by decide +kernel⟩
theorem exc_xbz {Cx fE : Addr} {fdE : FuncData} (D : ExK K mg "BadState" "value" Cx fE fdE) (FE : Fun K "__init__" "BadState.__init__" s_BadState_init fE fdE) : ExcD P w K mg base "BadState" "value" Cx fE fdE :=
  ⟨D.ET, D.iC, D.tI, D.eb, D.em, D.xf, D.hno, fn_xinit FE sc_xbz rfl D.ET D.hno fun cdv A outer s H E hr => pss_one (ps_ost (pv 0) (pv 1))⟩
theorem sc_xbs : FnScope ["self", "at"] ["self", "at"] (defScope s_BadSteps_init) := ⟨rfl, rfl, rfl, by decide +kernel, rfl, by decide +kernel, by decide +kernel⟩
theorem exc_xbs {Cx fE : Addr} {fdE : FuncData} (D : ExK K mg "BadSteps" "at" Cx fE fdE) (FE : Fun K "__init__" "BadSteps.__init__" s_BadSteps_init fE fdE) : ExcD P w K mg base "BadSteps" "at" Cx fE fdE :=
  ⟨D.ET, D.iC, D.tI, D.eb, D.em, D.xf, D.hno, fn_xinit FE sc_xbs rfl D.ET D.hno fun cdv A outer s H E hr => pss_one (ps_ost (pv 0) (pv 1))⟩
theorem sc_xtm : FnScope ["self", "limit"] ["self", "limit"] (defScope s_TooMany_init) := ⟨rfl, rfl, rfl, by decide +kernel, rfl, by decide +kernel, by decide +kernel⟩
theorem exc_xtm {Cx fE : Addr} {fdE : FuncData} (D : ExK K mg "TooMany" "limit" Cx fE fdE) (FE : Fun K "__init__" "TooMany.__init__" s_TooMany_init fE fdE) : ExcD P w K mg base "TooMany" "limit" Cx fE fdE :=
  ⟨D.ET, D.iC, D.tI, D.eb, D.em, D.xf, D.hno, fn_xinit FE sc_xtm rfl D.ET D.hno fun cdv A outer s H E hr => pss_one (ps_ost (pv 0) (pv 1))⟩
def spLaw (K : PySem.W.Frag) (T : TbC) : Sp := fun vs H Q _ => ∃ (a : Addr) (ns : List Int), vs = [.ref a] ∧ SqL K H a (ns.map V.int) ∧ ns.length ≤ 63 ∧ TabL T H ∧ ∀ H', Q (.bl true) H'
theorem ok_lawH {f : Addr} {fd : FuncData} {fI fW fS fN fR fT fK fA fG fX c : Addr} {fdI fdW fdS fdN fdR fdT fdK fdA fdG fdX : FuncData} {fP fC' fD fN' fT' fS' fU fO fG' nN nS nM nT nY nD : Addr} {gP gC gD gN gT gS gU gO gG hdN hdS hdM hdT hdY hdD : FuncData} {xZ xB xM CZ CB CM : Addr} {xdZ xdB xdM : FuncData}
    (F : Fun K "law" "law" s_law f fd) (B : Blt mg) (N : Kin mg) (L : Lim mg) (TX : HandT K mg C) (mC : mg "Hand" = some (.ref C)) (MH : Mk K C fI) (FI : Fun K "__init__" "Hand.__init__" s_Hand_init fI fdI) (bH : Binds K fdI ["self", "start", "steps"] []) (OS : OwnK K C) (D : HandD K mg base fW fS fN fR fT fK fA fG fX c T fdW fdS fdN fdR fdT fdK fdA fdG fdX)
    (OD : OwnL K mg fP fC' fD fN' fT' fS' fU fO fG' gP gC gD gN gT gS gU gO gG) (DN : Cal K mg "_law_name" s_law_name ["_law_number"] nN hdN) (DS : Cal K mg "_law_is_state" s_law_is_state ["_law_thing"] nS hdS) (DM : Cal K mg "_law_is_name" s_law_is_name ["_law_thing"] nM hdM) (DT : Cal K mg "_law_is_step" s_law_is_step ["_law_thing"] nT hdT) (DY : Cal K mg "_law_many_reached" s_law_many_reached ["_law_start", "_law_steps"] nY hdY) (DD : Cal K mg "_law_deep" s_law_deep ["_law_thing"] nD hdD)
    (B2 : Blt2 mg) (XZ : ExK K mg "BadState" "value" CZ xZ xdZ) (FXZ : Fun K "__init__" "BadState.__init__" s_BadState_init xZ xdZ) (XB : ExK K mg "BadSteps" "at" CB xB xdB) (FXB : Fun K "__init__" "BadSteps.__init__" s_BadSteps_init xB xdB) (XM : ExK K mg "TooMany" "limit" CM xM xdM) (FXM : Fun K "__init__" "TooMany.__init__" s_TooMany_init xM xdM) (X3 : Xh3 K CZ CB CM) :
    FnOk P w K mg base CX0 10 f fd ["_law_script"] (spLaw K T) := by
  have DBz : ExcD P w K mg base "BadState" "value" CZ xZ xdZ := exc_xbz XZ FXZ
  have DBs : ExcD P w K mg base "BadSteps" "at" CB xB xdB := exc_xbs XB FXB
  have DBm : ExcD P w K mg base "TooMany" "limit" CM xM xdM := exc_xtm XM FXM
  have GH : FnOk P w K mg base CX0 5 fI fdI ["self", "start", "steps"] (spHand K C T) := ok_init FI B N L TX D
  have GX : FnOk P w K mg base (L2.CX P w) 6 fI fdI ["self", "start", "steps"] (spX K (tts T) (wHndA K C CZ CB CM)) := ok_hndA FI B N L D DBz DBs DBm
  have GD : FnOk P w K mg base CX0 1 fD gD ["_law_pool_here", "_law_many"] (spP K (tts T) wDraw) := u_draw (ok_draw OD.draw.F B)
  have GN : FnOk P w K mg base CX0 2 fN' gN ["_law_pool_here", "_law_many"] (spP K (tts T) wNamesU) := u_names (ok_names OD.names.F B OD.draw.F OD.draw.b OD.draw.g DN.F DN.b DN.g)
  have GT : FnOk P w K mg base CX0 8 fT' gT ["_law_start", "_law_steps"] (spU K (tts T) (wTo3 K C CZ CB CM)) := (fnOr (ok_to3X OD.told.F MH mC bH DBz DBs DBm X3 GX) (ok_to3G OD.told.F MH mC bH DBz DBs DBm X3 GH)).imp fun vs H Q E ⟨ok, ds, P, T1, r, h, q⟩ => by
    rcases h with h | h
    · exact .inl ⟨ok, ds, P, T1, r, h, q⟩
    · exact .inr ⟨ok, ds, P, T1, r, h, q⟩
  have GIs : FnOk P w K mg base CX0 2 nS hdS ["_law_thing"] (spU K (tts T) wStateI) := ok_lst DS.F B N
  have GIn : FnOk P w K mg base CX0 2 nM hdM ["_law_thing"] (spU K (tts T) wNameG) := ok_lname DM.F B N
  have GIt : FnOk P w K mg base CX0 3 nT hdT ["_law_thing"] (spU K (tts T) wStepI) := ok_lstep DT.F B N DS DM GIs GIn
  have GL : FnOk P w K mg base CX0 10 f fd ["_law_script"] (spU K (tts T) wLaw3) := ok_law3 F B N OD (ok_pool OD.pool.F B) (u_cell OD.cell.F B) GD GN GT (ok_sm OD.same B N B2 4) (ok_due3 OD.due.F B N DS DT DY GIs GIt (ok_many3 DY.F B)) (ok_odd3 OD.odd.F B OD.draw GD DD (ok_deep3 DD.F B)) (ok_good3 OD.good.F B OD.draw GD)
  exact GL.imp fun vs H Q E ⟨a, ns, e, hS, hn, hT, q⟩ => ⟨fun _ => True, [.sql ns], fun d => d = .bl true, hT, by rw [e]; exact .cons (sql_of hS True.intro) .nil, ⟨ns, rfl, hn, rfl⟩, fun d v H' hd _ r => by
    subst hd
    cases r
    exact q H'⟩
end
end KX
namespace KX
open PySem PySem.Spec PyProof.Rows L2 UL
/-! ### the head: what it tells, by names -/
theorem ownB_ok {K : PySem.W.Frag} {C : Addr} (cl : Cls K C) (h : ownB K C = true) : OwnK K C := by
  obtain ⟨h1, h⟩ := He.ba h
  obtain ⟨h2, h⟩ := He.ba h
  obtain ⟨h3, h4⟩ := He.ba h
  exact ⟨cl, He.eqO_ok h1, He.eqO_ok h2, of_decide_eq_true h3, of_decide_eq_true h4⟩

theorem fun_of {K : PySem.W.Frag} {x q : Str} {st : Stmt} {f : Addr} {fd : FuncData} (F : FunD K x q (defArgs st) (defBody st) (defScope st) [] [] f fd) : Fun K x q st f fd := by
  obtain ⟨oc, od, dV, kV, doc, pm, an, cdv, ct, osl, e1, e2, e3, hD, _⟩ := F.ex
  rcases hD with ⟨_, rfl⟩ | ⟨e, _⟩
  · exact ⟨⟨oc, od, kV, doc, pm, an, cdv, ct, osl, e1, e2, e3⟩, F.kp⟩
  · exact absurd rfl e
theorem funC_of {K : PySem.W.Frag} {p : Str × Option Str} {x q : Str} {st : Stmt} {fd : FuncData} (F : FunD K x q (defArgs st) (defBody st) (defScope st) [] [] (He.fAd K p) fd) : FunC K x q st (He.fAd K p) fd (He.cT K p).1 := by
  obtain ⟨oc, od, dV, kV, doc, pm, an, cdv, ct, osl, e1, e2, e3, hD, _⟩ := F.ex
  rcases hD with ⟨_, rfl⟩ | ⟨e, _⟩
  · obtain ⟨c, rfl⟩ := He.codeIn_ref e3
    have ec : (He.cT K p).1 = c := He.codeOf_eq e2 (by rw [e1] <;> rfl)
    rw [ec]
    exact ⟨⟨oc, od, kV, doc, pm, an, ct, osl, e1, e2, e3⟩, F.kp⟩
  · exact absurd rfl e
section
variable {P : Program} {w : World} {K : PySem.W.Frag} {mg : Str → Option Value} {base h : Heap}
theorem got_Hand_init (c : He.SaysD fas fns K) : ∃ fd, FunD K "__init__" "Hand.__init__" (defArgs s_Hand_init) (defBody s_Hand_init) (defScope s_Hand_init) [] [] (He.fAd K ("Hand", some "__init__")) fd ∧ Binds K fd ["self", "start", "steps"] [] := by
  obtain ⟨fd, F⟩ := c.def_ 0 (d := dMeth "Hand" "__init__" "Hand.__init__" s_Hand_init []) rfl
  exact ⟨fd, F, FunD.bindsN F fun _ _ _ _ _ _ us hl => match us, hl with | [_, _, _], _ => rfl⟩
theorem got_BadState_init (c : He.SaysD fas fns K) : ∃ fd, FunD K "__init__" "BadState.__init__" (defArgs s_BadState_init) (defBody s_BadState_init) (defScope s_BadState_init) [] [] (He.fAd K ("BadState", some "__init__")) fd ∧ Binds K fd ["self", "value"] [] := by
  obtain ⟨fd, F⟩ := c.def_ 1 (d := dMeth "BadState" "__init__" "BadState.__init__" s_BadState_init []) rfl
  exact ⟨fd, F, FunD.bindsN F fun _ _ _ _ _ _ us hl => match us, hl with | [_, _], _ => rfl⟩
theorem got_BadSteps_init (c : He.SaysD fas fns K) : ∃ fd, FunD K "__init__" "BadSteps.__init__" (defArgs s_BadSteps_init) (defBody s_BadSteps_init) (defScope s_BadSteps_init) [] [] (He.fAd K ("BadSteps", some "__init__")) fd ∧ Binds K fd ["self", "at"] [] := by
  obtain ⟨fd, F⟩ := c.def_ 2 (d := dMeth "BadSteps" "__init__" "BadSteps.__init__" s_BadSteps_init []) rfl
  exact ⟨fd, F, FunD.bindsN F fun _ _ _ _ _ _ us hl => match us, hl with | [_, _], _ => rfl⟩
theorem got_TooMany_init (c : He.SaysD fas fns K) : ∃ fd, FunD K "__init__" "TooMany.__init__" (defArgs s_TooMany_init) (defBody s_TooMany_init) (defScope s_TooMany_init) [] [] (He.fAd K ("TooMany", some "__init__")) fd ∧ Binds K fd ["self", "limit"] [] := by
  obtain ⟨fd, F⟩ := c.def_ 3 (d := dMeth "TooMany" "__init__" "TooMany.__init__" s_TooMany_init []) rfl
  exact ⟨fd, F, FunD.bindsN F fun _ _ _ _ _ _ us hl => match us, hl with | [_, _], _ => rfl⟩
theorem got_is_whole (X : K.In h) (G : h.Ns mainGlobals mg) (c : He.SaysD fas fns K) : ∃ fd, FunD K "is_whole" "is_whole" (defArgs s_is_whole) (defBody s_is_whole) (defScope s_is_whole) [] [] (He.fAd K ("is_whole", none)) fd ∧ Binds K fd ["value"] [] ∧ mg "is_whole" = some (.ref (He.fAd K ("is_whole", none))) := by
  obtain ⟨fd, F⟩ := c.def_ 4 (d := dTop "is_whole" s_is_whole) rfl
  exact ⟨fd, F, FunD.bindsN F fun _ _ _ _ _ _ us hl => match us, hl with | [_], _ => rfl, He.glo_ok X G (c.fact 44 (f := .glo "is_whole") rfl)⟩
theorem got_is_state (X : K.In h) (G : h.Ns mainGlobals mg) (c : He.SaysD fas fns K) : ∃ fd, FunD K "is_state" "is_state" (defArgs s_is_state) (defBody s_is_state) (defScope s_is_state) [] [] (He.fAd K ("is_state", none)) fd ∧ Binds K fd ["value"] [] ∧ mg "is_state" = some (.ref (He.fAd K ("is_state", none))) := by
  obtain ⟨fd, F⟩ := c.def_ 5 (d := dTop "is_state" s_is_state) rfl
  exact ⟨fd, F, FunD.bindsN F fun _ _ _ _ _ _ us hl => match us, hl with | [_], _ => rfl, He.glo_ok X G (c.fact 45 (f := .glo "is_state") rfl)⟩
theorem got_is_name (X : K.In h) (G : h.Ns mainGlobals mg) (c : He.SaysD fas fns K) : ∃ fd, FunD K "is_name" "is_name" (defArgs s_is_name) (defBody s_is_name) (defScope s_is_name) [] [] (He.fAd K ("is_name", none)) fd ∧ Binds K fd ["value"] [] ∧ mg "is_name" = some (.ref (He.fAd K ("is_name", none))) := by
  obtain ⟨fd, F⟩ := c.def_ 6 (d := dTop "is_name" s_is_name) rfl
  exact ⟨fd, F, FunD.bindsN F fun _ _ _ _ _ _ us hl => match us, hl with | [_], _ => rfl, He.glo_ok X G (c.fact 46 (f := .glo "is_name") rfl)⟩
theorem got_is_row (X : K.In h) (G : h.Ns mainGlobals mg) (c : He.SaysD fas fns K) : ∃ fd, FunD K "is_row" "is_row" (defArgs s_is_row) (defBody s_is_row) (defScope s_is_row) [] [] (He.fAd K ("is_row", none)) fd ∧ Binds K fd ["value"] [] ∧ mg "is_row" = some (.ref (He.fAd K ("is_row", none))) := by
  obtain ⟨fd, F⟩ := c.def_ 7 (d := dTop "is_row" s_is_row) rfl
  exact ⟨fd, F, FunD.bindsN F fun _ _ _ _ _ _ us hl => match us, hl with | [_], _ => rfl, He.glo_ok X G (c.fact 47 (f := .glo "is_row") rfl)⟩
theorem got_is_step (X : K.In h) (G : h.Ns mainGlobals mg) (c : He.SaysD fas fns K) : ∃ fd, FunD K "is_step" "is_step" (defArgs s_is_step) (defBody s_is_step) (defScope s_is_step) [] [] (He.fAd K ("is_step", none)) fd ∧ Binds K fd ["value"] [] ∧ mg "is_step" = some (.ref (He.fAd K ("is_step", none))) := by
  obtain ⟨fd, F⟩ := c.def_ 8 (d := dTop "is_step" s_is_step) rfl
  exact ⟨fd, F, FunD.bindsN F fun _ _ _ _ _ _ us hl => match us, hl with | [_], _ => rfl, He.glo_ok X G (c.fact 48 (f := .glo "is_step") rfl)⟩
theorem got_check_steps (X : K.In h) (G : h.Ns mainGlobals mg) (c : He.SaysD fas fns K) : ∃ fd, FunD K "check_steps" "check_steps" (defArgs s_check_steps) (defBody s_check_steps) (defScope s_check_steps) [] [] (He.fAd K ("check_steps", none)) fd ∧ Binds K fd ["steps"] [] ∧ mg "check_steps" = some (.ref (He.fAd K ("check_steps", none))) := by
  obtain ⟨fd, F⟩ := c.def_ 9 (d := dTop "check_steps" s_check_steps) rfl
  exact ⟨fd, F, FunD.bindsN F fun _ _ _ _ _ _ us hl => match us, hl with | [_], _ => rfl, He.glo_ok X G (c.fact 49 (f := .glo "check_steps") rfl)⟩
theorem got_all_reached (X : K.In h) (G : h.Ns mainGlobals mg) (c : He.SaysD fas fns K) : ∃ fd, FunD K "all_reached" "all_reached" (defArgs s_all_reached) (defBody s_all_reached) (defScope s_all_reached) [] [] (He.fAd K ("all_reached", none)) fd ∧ Binds K fd ["first", "following", "most"] [] ∧ mg "all_reached" = some (.ref (He.fAd K ("all_reached", none))) := by
  obtain ⟨fd, F⟩ := c.def_ 10 (d := dTop "all_reached" s_all_reached) rfl
  exact ⟨fd, F, FunD.bindsN F fun _ _ _ _ _ _ us hl => match us, hl with | [_, _, _], _ => rfl, He.glo_ok X G (c.fact 50 (f := .glo "all_reached") rfl)⟩
theorem got_exits_of (X : K.In h) (G : h.Ns mainGlobals mg) (c : He.SaysD fas fns K) : ∃ fd, FunD K "exits_of" "exits_of" (defArgs s_exits_of) (defBody s_exits_of) (defScope s_exits_of) [] [] (He.fAd K ("exits_of", none)) fd ∧ Binds K fd ["steps"] [] ∧ mg "exits_of" = some (.ref (He.fAd K ("exits_of", none))) := by
  obtain ⟨fd, F⟩ := c.def_ 11 (d := dTop "exits_of" s_exits_of) rfl
  exact ⟨fd, F, FunD.bindsN F fun _ _ _ _ _ _ us hl => match us, hl with | [_], _ => rfl, He.glo_ok X G (c.fact 51 (f := .glo "exits_of") rfl)⟩
theorem got_law_pool (X : K.In h) (G : h.Ns mainGlobals mg) (c : He.SaysD fas fns K) : ∃ fd, FunD K "_law_pool" "_law_pool" (defArgs s_law_pool) (defBody s_law_pool) (defScope s_law_pool) [] [] (He.fAd K ("_law_pool", none)) fd ∧ Binds K fd ["_law_cell_here"] [] ∧ mg "_law_pool" = some (.ref (He.fAd K ("_law_pool", none))) := by
  obtain ⟨fd, F⟩ := c.def_ 12 (d := dTop "_law_pool" s_law_pool) rfl
  exact ⟨fd, F, FunD.bindsN F fun _ _ _ _ _ _ us hl => match us, hl with | [_], _ => rfl, He.glo_ok X G (c.fact 52 (f := .glo "_law_pool") rfl)⟩
theorem got_law_cell (X : K.In h) (G : h.Ns mainGlobals mg) (c : He.SaysD fas fns K) : ∃ fd, FunD K "_law_cell" "_law_cell" (defArgs s_law_cell) (defBody s_law_cell) (defScope s_law_cell) [] [] (He.fAd K ("_law_cell", none)) fd ∧ Binds K fd ["_law_script", "_law_k"] [] ∧ mg "_law_cell" = some (.ref (He.fAd K ("_law_cell", none))) := by
  obtain ⟨fd, F⟩ := c.def_ 13 (d := dTop "_law_cell" s_law_cell) rfl
  exact ⟨fd, F, FunD.bindsN F fun _ _ _ _ _ _ us hl => match us, hl with | [_, _], _ => rfl, He.glo_ok X G (c.fact 53 (f := .glo "_law_cell") rfl)⟩
theorem got_law_draw (X : K.In h) (G : h.Ns mainGlobals mg) (c : He.SaysD fas fns K) : ∃ fd, FunD K "_law_draw" "_law_draw" (defArgs s_law_draw) (defBody s_law_draw) (defScope s_law_draw) [] [] (He.fAd K ("_law_draw", none)) fd ∧ Binds K fd ["_law_pool_here", "_law_many"] [] ∧ mg "_law_draw" = some (.ref (He.fAd K ("_law_draw", none))) := by
  obtain ⟨fd, F⟩ := c.def_ 14 (d := dTop "_law_draw" s_law_draw) rfl
  exact ⟨fd, F, FunD.bindsN F fun _ _ _ _ _ _ us hl => match us, hl with | [_, _], _ => rfl, He.glo_ok X G (c.fact 54 (f := .glo "_law_draw") rfl)⟩
theorem got_law_names (X : K.In h) (G : h.Ns mainGlobals mg) (c : He.SaysD fas fns K) : ∃ fd, FunD K "_law_names" "_law_names" (defArgs s_law_names) (defBody s_law_names) (defScope s_law_names) [] [] (He.fAd K ("_law_names", none)) fd ∧ Binds K fd ["_law_pool_here", "_law_many"] [] ∧ mg "_law_names" = some (.ref (He.fAd K ("_law_names", none))) := by
  obtain ⟨fd, F⟩ := c.def_ 15 (d := dTop "_law_names" s_law_names) rfl
  exact ⟨fd, F, FunD.bindsN F fun _ _ _ _ _ _ us hl => match us, hl with | [_, _], _ => rfl, He.glo_ok X G (c.fact 55 (f := .glo "_law_names") rfl)⟩
theorem got_law_told (X : K.In h) (G : h.Ns mainGlobals mg) (c : He.SaysD fas fns K) : ∃ fd, FunD K "_law_told" "_law_told" (defArgs s_law_told) (defBody s_law_told) (defScope s_law_told) [] [] (He.fAd K ("_law_told", none)) fd ∧ Binds K fd ["_law_start", "_law_steps"] [] ∧ mg "_law_told" = some (.ref (He.fAd K ("_law_told", none))) := by
  obtain ⟨fd, F⟩ := c.def_ 16 (d := dTop "_law_told" s_law_told) rfl
  exact ⟨fd, F, FunD.bindsN F fun _ _ _ _ _ _ us hl => match us, hl with | [_, _], _ => rfl, He.glo_ok X G (c.fact 56 (f := .glo "_law_told") rfl)⟩
theorem got_law_same (X : K.In h) (G : h.Ns mainGlobals mg) (c : He.SaysD fas fns K) : ∃ fd, FunD K "_law_same" "_law_same" (defArgs s_law_same) (defBody s_law_same) (defScope s_law_same) [] [] (He.fAd K ("_law_same", none)) fd ∧ Binds K fd ["_law_told_here", "_law_due_here"] [] ∧ mg "_law_same" = some (.ref (He.fAd K ("_law_same", none))) := by
  obtain ⟨fd, F⟩ := c.def_ 17 (d := dTop "_law_same" s_law_same) rfl
  exact ⟨fd, F, FunD.bindsN F fun _ _ _ _ _ _ us hl => match us, hl with | [_, _], _ => rfl, He.glo_ok X G (c.fact 57 (f := .glo "_law_same") rfl)⟩
theorem got_law_due (X : K.In h) (G : h.Ns mainGlobals mg) (c : He.SaysD fas fns K) : ∃ fd, FunD K "_law_due" "_law_due" (defArgs s_law_due) (defBody s_law_due) (defScope s_law_due) [] [] (He.fAd K ("_law_due", none)) fd ∧ Binds K fd ["_law_start", "_law_steps"] [] ∧ mg "_law_due" = some (.ref (He.fAd K ("_law_due", none))) := by
  obtain ⟨fd, F⟩ := c.def_ 18 (d := dTop "_law_due" s_law_due) rfl
  exact ⟨fd, F, FunD.bindsN F fun _ _ _ _ _ _ us hl => match us, hl with | [_, _], _ => rfl, He.glo_ok X G (c.fact 58 (f := .glo "_law_due") rfl)⟩
theorem got_law_odd_step (X : K.In h) (G : h.Ns mainGlobals mg) (c : He.SaysD fas fns K) : ∃ fd, FunD K "_law_odd_step" "_law_odd_step" (defArgs s_law_odd_step) (defBody s_law_odd_step) (defScope s_law_odd_step) [] [] (He.fAd K ("_law_odd_step", none)) fd ∧ Binds K fd ["_law_pool_here", "_law_step"] [] ∧ mg "_law_odd_step" = some (.ref (He.fAd K ("_law_odd_step", none))) := by
  obtain ⟨fd, F⟩ := c.def_ 19 (d := dTop "_law_odd_step" s_law_odd_step) rfl
  exact ⟨fd, F, FunD.bindsN F fun _ _ _ _ _ _ us hl => match us, hl with | [_, _], _ => rfl, He.glo_ok X G (c.fact 59 (f := .glo "_law_odd_step") rfl)⟩
theorem got_law_good (X : K.In h) (G : h.Ns mainGlobals mg) (c : He.SaysD fas fns K) : ∃ fd, FunD K "_law_good" "_law_good" (defArgs s_law_good) (defBody s_law_good) (defScope s_law_good) [] [] (He.fAd K ("_law_good", none)) fd ∧ Binds K fd ["_law_pool_here", "_law_names_here", "_law_states", "_law_many"] [] ∧ mg "_law_good" = some (.ref (He.fAd K ("_law_good", none))) := by
  obtain ⟨fd, F⟩ := c.def_ 20 (d := dTop "_law_good" s_law_good) rfl
  exact ⟨fd, F, FunD.bindsN F fun _ _ _ _ _ _ us hl => match us, hl with | [_, _, _, _], _ => rfl, He.glo_ok X G (c.fact 60 (f := .glo "_law_good") rfl)⟩
theorem got_law_name (X : K.In h) (G : h.Ns mainGlobals mg) (c : He.SaysD fas fns K) : ∃ fd, FunD K "_law_name" "_law_name" (defArgs s_law_name) (defBody s_law_name) (defScope s_law_name) [] [] (He.fAd K ("_law_name", none)) fd ∧ Binds K fd ["_law_number"] [] ∧ mg "_law_name" = some (.ref (He.fAd K ("_law_name", none))) := by
  obtain ⟨fd, F⟩ := c.def_ 21 (d := dTop "_law_name" s_law_name) rfl
  exact ⟨fd, F, FunD.bindsN F fun _ _ _ _ _ _ us hl => match us, hl with | [_], _ => rfl, He.glo_ok X G (c.fact 61 (f := .glo "_law_name") rfl)⟩
theorem got_law_is_state (X : K.In h) (G : h.Ns mainGlobals mg) (c : He.SaysD fas fns K) : ∃ fd, FunD K "_law_is_state" "_law_is_state" (defArgs s_law_is_state) (defBody s_law_is_state) (defScope s_law_is_state) [] [] (He.fAd K ("_law_is_state", none)) fd ∧ Binds K fd ["_law_thing"] [] ∧ mg "_law_is_state" = some (.ref (He.fAd K ("_law_is_state", none))) := by
  obtain ⟨fd, F⟩ := c.def_ 22 (d := dTop "_law_is_state" s_law_is_state) rfl
  exact ⟨fd, F, FunD.bindsN F fun _ _ _ _ _ _ us hl => match us, hl with | [_], _ => rfl, He.glo_ok X G (c.fact 62 (f := .glo "_law_is_state") rfl)⟩
theorem got_law_is_name (X : K.In h) (G : h.Ns mainGlobals mg) (c : He.SaysD fas fns K) : ∃ fd, FunD K "_law_is_name" "_law_is_name" (defArgs s_law_is_name) (defBody s_law_is_name) (defScope s_law_is_name) [] [] (He.fAd K ("_law_is_name", none)) fd ∧ Binds K fd ["_law_thing"] [] ∧ mg "_law_is_name" = some (.ref (He.fAd K ("_law_is_name", none))) := by
  obtain ⟨fd, F⟩ := c.def_ 23 (d := dTop "_law_is_name" s_law_is_name) rfl
  exact ⟨fd, F, FunD.bindsN F fun _ _ _ _ _ _ us hl => match us, hl with | [_], _ => rfl, He.glo_ok X G (c.fact 63 (f := .glo "_law_is_name") rfl)⟩
theorem got_law_is_step (X : K.In h) (G : h.Ns mainGlobals mg) (c : He.SaysD fas fns K) : ∃ fd, FunD K "_law_is_step" "_law_is_step" (defArgs s_law_is_step) (defBody s_law_is_step) (defScope s_law_is_step) [] [] (He.fAd K ("_law_is_step", none)) fd ∧ Binds K fd ["_law_thing"] [] ∧ mg "_law_is_step" = some (.ref (He.fAd K ("_law_is_step", none))) := by
  obtain ⟨fd, F⟩ := c.def_ 24 (d := dTop "_law_is_step" s_law_is_step) rfl
  exact ⟨fd, F, FunD.bindsN F fun _ _ _ _ _ _ us hl => match us, hl with | [_], _ => rfl, He.glo_ok X G (c.fact 64 (f := .glo "_law_is_step") rfl)⟩
theorem got_law_many_reached (X : K.In h) (G : h.Ns mainGlobals mg) (c : He.SaysD fas fns K) : ∃ fd, FunD K "_law_many_reached" "_law_many_reached" (defArgs s_law_many_reached) (defBody s_law_many_reached) (defScope s_law_many_reached) [] [] (He.fAd K ("_law_many_reached", none)) fd ∧ Binds K fd ["_law_start", "_law_steps"] [] ∧ mg "_law_many_reached" = some (.ref (He.fAd K ("_law_many_reached", none))) := by
  obtain ⟨fd, F⟩ := c.def_ 25 (d := dTop "_law_many_reached" s_law_many_reached) rfl
  exact ⟨fd, F, FunD.bindsN F fun _ _ _ _ _ _ us hl => match us, hl with | [_, _], _ => rfl, He.glo_ok X G (c.fact 65 (f := .glo "_law_many_reached") rfl)⟩
theorem got_law_deep (X : K.In h) (G : h.Ns mainGlobals mg) (c : He.SaysD fas fns K) : ∃ fd, FunD K "_law_deep" "_law_deep" (defArgs s_law_deep) (defBody s_law_deep) (defScope s_law_deep) [] [] (He.fAd K ("_law_deep", none)) fd ∧ Binds K fd ["_law_thing"] [] ∧ mg "_law_deep" = some (.ref (He.fAd K ("_law_deep", none))) := by
  obtain ⟨fd, F⟩ := c.def_ 26 (d := dTop "_law_deep" s_law_deep) rfl
  exact ⟨fd, F, FunD.bindsN F fun _ _ _ _ _ _ us hl => match us, hl with | [_], _ => rfl, He.glo_ok X G (c.fact 66 (f := .glo "_law_deep") rfl)⟩
theorem got_reached_states (X : K.In h) (G : h.Ns mainGlobals mg) (c : He.SaysD fas fns K) : ∃ fd, FunD K "reached_states" "reached_states" (defArgs s_reached_states) (defBody s_reached_states) (defScope s_reached_states) [] [] (He.fAd K ("reached_states", none)) fd ∧ Binds K fd ["start", "steps"] [] ∧ mg "reached_states" = some (.ref (He.fAd K ("reached_states", none))) := by
  obtain ⟨fd, F⟩ := c.def_ 27 (d := dTop "reached_states" s_reached_states) rfl
  exact ⟨fd, F, FunD.bindsN F fun _ _ _ _ _ _ us hl => match us, hl with | [_, _], _ => rfl, He.glo_ok X G (c.fact 67 (f := .glo "reached_states") rfl)⟩
theorem got_law (X : K.In h) (G : h.Ns mainGlobals mg) (c : He.SaysD fas fns K) : ∃ fd, FunD K "law" "law" (defArgs s_law) (defBody s_law) (defScope s_law) [] [] (He.fAd K ("law", none)) fd ∧ Binds K fd ["_law_script"] [] ∧ mg "law" = some (.ref (He.fAd K ("law", none))) := by
  obtain ⟨fd, F⟩ := c.def_ 28 (d := dTop "law" s_law) rfl
  exact ⟨fd, F, FunD.bindsN F fun _ _ _ _ _ _ us hl => match us, hl with | [_], _ => rfl, He.glo_ok X G (c.fact 68 (f := .glo "law") rfl)⟩
theorem got_blt (X : K.In h) (G : h.Ns mainGlobals mg) (c : He.SaysD fas fns K) : Blt mg := ⟨He.free_ok X G (c.fact 23 (f := .free "len") rfl), He.free_ok X G (c.fact 24 (f := .free "int") rfl), He.free_ok X G (c.fact 25 (f := .free "range") rfl), He.free_ok X G (c.fact 26 (f := .free "isinstance") rfl), He.free_ok X G (c.fact 27 (f := .free "tuple") rfl), He.free_ok X G (c.fact 28 (f := .free "list") rfl), He.free_ok X G (c.fact 29 (f := .free "set") rfl), He.free_ok X G (c.fact 30 (f := .free "sorted") rfl), He.free_ok X G (c.fact 31 (f := .free "all") rfl), He.free_ok X G (c.fact 32 (f := .free "enumerate") rfl)⟩
theorem got_kin (X : K.In h) (G : h.Ns mainGlobals mg) (c : He.SaysD fas fns K) : Kin mg := ⟨He.free_ok X G (c.fact 33 (f := .free "bool") rfl), He.free_ok X G (c.fact 34 (f := .free "str") rfl), He.int_ok X G (c.fact 38 (f := .int "MOST_LETTERS" 12) rfl), He.int_ok X G (c.fact 39 (f := .int "LAST_STATE" 99) rfl)⟩
theorem got_lim (X : K.In h) (G : h.Ns mainGlobals mg) (c : He.SaysD fas fns K) : Lim mg := ⟨He.int_ok X G (c.fact 40 (f := .int "MOST_STEPS" 24) rfl), He.int_ok X G (c.fact 41 (f := .int "MOST_LEAVING" 4) rfl), He.int_ok X G (c.fact 42 (f := .int "MOST_WORDS" 8) rfl), He.int_ok X G (c.fact 43 (f := .int "MOST_STATES" 8) rfl)⟩
theorem got_blt2 (X : K.In h) (G : h.Ns mainGlobals mg) (c : He.SaysD fas fns K) : Blt2 mg := ⟨He.free_ok X G (c.fact 35 (f := .free "dict") rfl)⟩
theorem got_handT (c : He.SaysD fas fns K) : HandT K mg (He.ga K "Hand") := ⟨He.cls_ok (c.fact 1 (f := .cls "Hand") rfl), He.noat_ok (c.fact 3 (f := .noat "Hand" "start") rfl), He.noat_ok (c.fact 4 (f := .noat "Hand" "steps") rfl), He.noat_ok (c.fact 5 (f := .noat "Hand" "words") rfl), He.noat_ok (c.fact 6 (f := .noat "Hand" "states") rfl), He.noat_ok (c.fact 7 (f := .noat "Hand" "exits") rfl)⟩

theorem law_at {w : World} {fa : Addr} (X : K.In h) (G : h.Ns mainGlobals mg) (hfa : mg ("law" : Str) = some (.ref fa)) (S : He.SaysX fas fns [] tfs exs w h K) : LamX.LawAtS PySem.Challenge.rw_surelydone_k03_hand_refuses w K CX0 10 63 "_law_script" mg fa h := by
  have c := S.t.d
  obtain ⟨d_Hand_init, F_Hand_init, b_Hand_init⟩ := got_Hand_init c
  obtain ⟨d_BadState_init, F_BadState_init, b_BadState_init⟩ := got_BadState_init c
  obtain ⟨d_BadSteps_init, F_BadSteps_init, b_BadSteps_init⟩ := got_BadSteps_init c
  obtain ⟨d_TooMany_init, F_TooMany_init, b_TooMany_init⟩ := got_TooMany_init c
  obtain ⟨d_is_whole, F_is_whole, b_is_whole, g_is_whole⟩ := got_is_whole X G c
  obtain ⟨d_is_state, F_is_state, b_is_state, g_is_state⟩ := got_is_state X G c
  obtain ⟨d_is_name, F_is_name, b_is_name, g_is_name⟩ := got_is_name X G c
  obtain ⟨d_is_row, F_is_row, b_is_row, g_is_row⟩ := got_is_row X G c
  obtain ⟨d_is_step, F_is_step, b_is_step, g_is_step⟩ := got_is_step X G c
  obtain ⟨d_check_steps, F_check_steps, b_check_steps, g_check_steps⟩ := got_check_steps X G c
  obtain ⟨d_all_reached, F_all_reached, b_all_reached, g_all_reached⟩ := got_all_reached X G c
  obtain ⟨d_exits_of, F_exits_of, b_exits_of, g_exits_of⟩ := got_exits_of X G c
  obtain ⟨d_law_pool, F_law_pool, b_law_pool, g_law_pool⟩ := got_law_pool X G c
  obtain ⟨d_law_cell, F_law_cell, b_law_cell, g_law_cell⟩ := got_law_cell X G c
  obtain ⟨d_law_draw, F_law_draw, b_law_draw, g_law_draw⟩ := got_law_draw X G c
  obtain ⟨d_law_names, F_law_names, b_law_names, g_law_names⟩ := got_law_names X G c
  obtain ⟨d_law_told, F_law_told, b_law_told, g_law_told⟩ := got_law_told X G c
  obtain ⟨d_law_same, F_law_same, b_law_same, g_law_same⟩ := got_law_same X G c
  obtain ⟨d_law_due, F_law_due, b_law_due, g_law_due⟩ := got_law_due X G c
  obtain ⟨d_law_odd_step, F_law_odd_step, b_law_odd_step, g_law_odd_step⟩ := got_law_odd_step X G c
  obtain ⟨d_law_good, F_law_good, b_law_good, g_law_good⟩ := got_law_good X G c
  obtain ⟨d_law_name, F_law_name, b_law_name, g_law_name⟩ := got_law_name X G c
  obtain ⟨d_law_is_state, F_law_is_state, b_law_is_state, g_law_is_state⟩ := got_law_is_state X G c
  obtain ⟨d_law_is_name, F_law_is_name, b_law_is_name, g_law_is_name⟩ := got_law_is_name X G c
  obtain ⟨d_law_is_step, F_law_is_step, b_law_is_step, g_law_is_step⟩ := got_law_is_step X G c
  obtain ⟨d_law_many_reached, F_law_many_reached, b_law_many_reached, g_law_many_reached⟩ := got_law_many_reached X G c
  obtain ⟨d_law_deep, F_law_deep, b_law_deep, g_law_deep⟩ := got_law_deep X G c
  obtain ⟨d_reached_states, F_reached_states, b_reached_states, g_reached_states⟩ := got_reached_states X G c
  obtain ⟨d_law, F_law, b_law, g_law⟩ := got_law X G c
  have hCh := hfa.symm.trans g_law
  cases hCh
  have cr := funC_of F_reached_states
  have bl := FunD.bindsA (ps := ["_law_script"]) F_law fun _ _ _ _ _ _ us hl => match us, hl with | [_], _ => rfl
  refine ⟨d_law, [He.cT K ("reached_states", none)], spLaw K (tb1 (He.cT K ("reached_states", none)).2), fun p hp => ?_, fun p hp => ?_, fun p hp => ?_, fun s u => bl s [u] rfl, fun H a ns hn _ hT hS => ?_, fun KBX KB GB TB => ?_⟩
  · cases List.mem_singleton.mp hp
    exact S.empty _ (List.mem_cons_self ..)
  · cases List.mem_singleton.mp hp
    exact S.out _ (List.mem_cons_self ..)
  · cases List.mem_singleton.mp hp
    exact PySem.W.codeHd_of_K X (S.hd _ (List.mem_cons_self ..))
  · refine ⟨a, ns, rfl, hS, hn, fun q hq => ?_, fun _ => rfl⟩
    cases List.mem_singleton.mp hq
    exact NdefX.TabN.nil (hT _ (List.mem_cons_self ..))
  · have T1 := TB _ (List.mem_cons_self ..)
    have mHand : mg "Hand" = some (.ref (He.ga K "Hand")) := He.glo_ok X G (c.fact 0 (f := .glo "Hand") rfl)
    obtain ⟨x0, z⟩ := He.ba S.more
    obtain ⟨x1, z⟩ := He.ba z
    obtain ⟨x2, z⟩ := He.ba z
    obtain ⟨x3, z⟩ := He.ba z
    obtain ⟨x4, z⟩ := He.ba z
    obtain ⟨x5, x6⟩ := He.ba z
    have TX := got_handT (mg := mg) c
    exact ok_lawH (fun_of F_law) (got_blt X G c) (got_kin X G c) (got_lim X G c) TX mHand (He.mkr_ok (c.fact 2 (f := .mkr "Hand") rfl)) (fun_of F_Hand_init) b_Hand_init (ownB_ok TX.cl x0) ⟨⟨fun_of F_is_whole, b_is_whole, g_is_whole, fun_of F_is_state, b_is_state, g_is_state, fun_of F_is_name, b_is_name, g_is_name⟩, fun_of F_is_row, b_is_row, g_is_row, fun_of F_is_step, b_is_step, g_is_step, fun_of F_check_steps, b_check_steps, g_check_steps, fun_of F_all_reached, b_all_reached, g_all_reached, cr, b_reached_states, g_reached_states, T1, fun_of F_exits_of, b_exits_of, g_exits_of⟩ ⟨⟨fun_of F_law_pool, b_law_pool, g_law_pool⟩, ⟨fun_of F_law_cell, b_law_cell, g_law_cell⟩, ⟨fun_of F_law_draw, b_law_draw, g_law_draw⟩, ⟨fun_of F_law_names, b_law_names, g_law_names⟩, ⟨fun_of F_law_told, b_law_told, g_law_told⟩, ⟨fun_of F_law_same, b_law_same, g_law_same⟩, ⟨fun_of F_law_due, b_law_due, g_law_due⟩, ⟨fun_of F_law_odd_step, b_law_odd_step, g_law_odd_step⟩, ⟨fun_of F_law_good, b_law_good, g_law_good⟩⟩ ⟨fun_of F_law_name, b_law_name, g_law_name⟩ ⟨fun_of F_law_is_state, b_law_is_state, g_law_is_state⟩ ⟨fun_of F_law_is_name, b_law_is_name, g_law_is_name⟩ ⟨fun_of F_law_is_step, b_law_is_step, g_law_is_step⟩ ⟨fun_of F_law_many_reached, b_law_many_reached, g_law_many_reached⟩ ⟨fun_of F_law_deep, b_law_deep, g_law_deep⟩ (got_blt2 X G c) ⟨oexB_ok x1, (He.meth_ok (c.fact 9 (f := .meth "BadState" "__init__") rfl)).at_, beq_iff_eq.mp (He.meth_ok (c.fact 9 (f := .meth "BadState" "__init__") rfl)).fn, b_BadState_init, He.glo_ok X G (c.fact 8 (f := .glo "BadState") rfl), xfB_ok x2, He.noat_ok (c.fact 10 (f := .noat "BadState" "value") rfl), He.exm_ok (c.fact 17 (f := .exm "BadState" "BadState" true) rfl)⟩ (fun_of F_BadState_init) ⟨oexB_ok x3, (He.meth_ok (c.fact 12 (f := .meth "BadSteps" "__init__") rfl)).at_, beq_iff_eq.mp (He.meth_ok (c.fact 12 (f := .meth "BadSteps" "__init__") rfl)).fn, b_BadSteps_init, He.glo_ok X G (c.fact 11 (f := .glo "BadSteps") rfl), xfB_ok x4, He.noat_ok (c.fact 13 (f := .noat "BadSteps" "at") rfl), He.exm_ok (c.fact 18 (f := .exm "BadSteps" "BadSteps" true) rfl)⟩ (fun_of F_BadSteps_init) ⟨oexB_ok x5, (He.meth_ok (c.fact 15 (f := .meth "TooMany" "__init__") rfl)).at_, beq_iff_eq.mp (He.meth_ok (c.fact 15 (f := .meth "TooMany" "__init__") rfl)).fn, b_TooMany_init, He.glo_ok X G (c.fact 14 (f := .glo "TooMany") rfl), xfB_ok x6, He.noat_ok (c.fact 16 (f := .noat "TooMany" "limit") rfl), He.exm_ok (c.fact 19 (f := .exm "TooMany" "TooMany" true) rfl)⟩ (fun_of F_TooMany_init) ⟨He.exm_ok (c.fact 17 (f := .exm "BadState" "BadState" true) rfl), He.exm_ok (c.fact 20 (f := .exm "BadSteps" "BadState" false) rfl), He.exm_ok (c.fact 18 (f := .exm "BadSteps" "BadSteps" true) rfl), He.exm_ok (c.fact 21 (f := .exm "TooMany" "BadState" false) rfl), He.exm_ok (c.fact 22 (f := .exm "TooMany" "BadSteps" false) rfl), He.exm_ok (c.fact 19 (f := .exm "TooMany" "TooMany" true) rfl)⟩
end
end KX
namespace KX
open PySem PySem.Spec PyProof.Rows L2 UL
end KX
open PySem PySem.W PySem.Calls PyProof.Rows
theorem PySem.Challenge.cw_surelydone_k03_hand_refuses_holds : PySem.Challenge.rw_surelydone_k03_hand_refuses.Holds := by
  w_on; o_law
  refine HandSHeadRun.head_any (r := KX.Rw) (q := KX.vw) (H := KX.hkX) (ob := KX.obX) (M := 8500) (loose := KX.lse) (d := HandSHeadRun.topDef KX.Rw.prog 41) (kwd := []) KX.obX_eq
    (by kernel_rfl) (fun s => by kernel_rfl) KX.runX (by kernel_rfl) (by kernel_rfl) (by kernel_rfl) (by rfl) (by first | assumption | decide +kernel) (by decide +kernel) ⟨rfl, rfl, rfl, rfl, rfl, by decide +kernel⟩ ?hw ?hc
  case hw => w_witness2
  case hc =>
    refine LamX.walk_ofTsE (l := PySem.Challenge.rw_surelydone_k03_hand_refuses) (n := 63) (k := 10) (x := "_law_script") (CX := fun _ => L2.CX0) rfl (by decide) (by kernel_rfl) ⟨by rfl, by decide, by decide⟩ ?F (fun _ _ _ _ _ z => z)
    intro w mg fa h Y G hmg0
    obtain ⟨K, KX1, c⟩ := Y
    have hmg : mg ("law" : PySem.Str) = some (.ref fa) := by
      have e : (HandSHeadRun.topDef KX.Rw.prog 41).name = ("law" : PySem.Str) := by kernel_rfl
      rw [← e]
      exact hmg0
    exact ⟨K, KX1, KX.law_at KX1 G hmg c⟩
