import PyProof.Rows.All
import Wide.All
import OpenK.AllK
import Wide.FinOn
import KE.KStateDown
import HandS.Base
import HandS.Call
import HandS.Ends
import HandS.More
import HandS.Words
import HandS.WordsExc
import HandS.Defaults
import HandS.Head0
import HandS.Head1
import HandS.Head2
import HandS.HeadEnd
import HandS.HeadHook1
import HandS.HeadHook2
import HandS.Head3
import HandS.Exc
import HandS.ExcSuper
import HandS.ExcInit
import HandS.ExcField
import KE.KExcSuper
import KE.KExcInit
import KE.RegKSuper
import HandS.Evl
import HandS.Property
import HandS.ForMost
import HandS.IsInst
import HandS.Deep
import HandS.DeepEq
import HandS.TupAny
import HandS.Conv
import HandS.Style
import HandS.Wide
import KE.GoesEnum
import HandS.ClsMeth
import OpenK.KDescr
import HandS.SortInts
import HandS.Dict
import HandS.SetFor
import HandS.TupMul
import KE.KMathGC
import HandS.TupSets
import HandS.DictComp
import HandS.Gcd
import HandS.TryOnly
import HandS.DictTup
import KE.KDictSum
import HandS.ExcValue
import HandS.ExcOwn
import KE.KDictPairs
import HandS.SlotsOwn
import HandS.FStr
import KE.KCallOwn
import PyProof.InstNe
import PyProof.TupleOfSeq
import HandS.HeadWalk
import HandS.Walk
import PySem.Challenge.RW_truenames_k68_whole_shadows_of_tables
set_option Elab.async false
set_option linter.all false
set_option maxRecDepth 100000
set_option autoImplicit false
set_option maxHeartbeats 2000000
namespace He
open PySem PySem.Spec PyProof.Rows L2
def bfB (K : PySem.W.Frag) (q : Str × String) : Bool := match PySem.W.nsIn K mainGlobals q.1 with
  | some (some (.builtin n)) => decide (n = q.2)
  | _ => false
def obsB (bf : List (Str × String)) (fa : List Fa) (fn : List DefD) (K : PySem.W.Frag) : AlD := (bf.all (bfB K) && (obsD fa fn K).1, (obsD fa fn K).2)
def SaysB (bf : List (Str × String)) (fa : List Fa) (fn : List DefD) (K : PySem.W.Frag) : Prop := obsB bf fa fn K = valD fn
theorem SaysB.d {bf : List (Str × String)} {fa : List Fa} {fn : List DefD} {K : PySem.W.Frag} (c : SaysB bf fa fn K) : SaysD fa fn K := by
  have h1 := (ba (show (bf.all (bfB K) && (obsD fa fn K).1) = true from congrArg (fun z : AlD => z.1) c)).2
  have h0 : (obsB bf fa fn K).2 = (valD fn).2 := by
    rw [show obsB bf fa fn K = valD fn from c]
  have h2 : (obsD fa fn K).2 = (valD fn).2 := h0
  exact Prod.ext h1 h2
theorem SaysB.bf {bf : List (Str × String)} {fa : List Fa} {fn : List DefD} {K : PySem.W.Frag} (c : SaysB bf fa fn K) {h : Heap} {mg : Str → Option Value} (X : K.In h) (G : h.Ns mainGlobals mg) (i : Nat) {q : Str × String} (hi : bf[i]? = some q := by rfl) : mg q.1 = some (.builtin q.2) := by
  have h1 := (ba (show (bf.all (bfB K) && (obsD fa fn K).1) = true from congrArg (fun z : AlD => z.1) c)).1
  have h2 := List.all_eq_true.mp h1 q (List.mem_of_getElem? hi)
  unfold bfB at h2
  cases e : PySem.W.nsIn K mainGlobals q.1 with
  | none =>
    rw [e] at h2
    cases h2
  | some o =>
    rw [e] at h2
    cases o with
    | none => cases h2
    | some v =>
      cases v with
      | builtin n =>
        have e2 : n = q.2 := of_decide_eq_true h2
        subst e2
        exact PySem.W.mg_of X G e
      | _ => cases h2
end He
set_option Elab.async false
set_option linter.all false
set_option maxRecDepth 100000
set_option autoImplicit false
set_option maxHeartbeats 4000000
namespace PySem
namespace XiX
open PySem.W PyProof.Rows
section
variable {prog : Program} {w : World} {A : Around} {R : Result → Shared → Prop} {K : Frag} {mg : Str → Option Value} {C fI : Addr} {nm f txt : Str} {B newId i : String} {bm : List Value}
theorem len1 (e : DictEntry) : [e].length ≤ 1000 := (by decide : 1 ≤ 1000)
end
end XiX
end PySem
namespace L2
open PySem PySem.Spec PyProof.Rows
section
variable {X : Cx} {C fI : Addr} {nm f txt : Str} {B newId i : String} {bm : List Value}
end
end L2
set_option Elab.async false
set_option linter.all false
set_option maxRecDepth 100000
set_option autoImplicit false
set_option maxHeartbeats 2000000
namespace He
open PySem PySem.Spec PyProof.Rows L2 PySem.W
abbrev FnB : Type := Option (Str × Str × Arguments × FuncBody × Scope × Addr × Addr)
def fnB (K : Frag) (a : Addr) : FnB := match List.lookup a K with
  | some ⟨_, _, .func fd, _⟩ => some (fd.name, fd.qualname, fd.params, fd.body, fd.scope, fd.globals, fd.builtins)
  | _ => none
def prA (K : Frag) (C : Addr) (f : Str) : Addr := match findIn K (.ref C) f with
  | some (some (.ref p)) => p
  | _ => 0
def gtA (K : Frag) (C : Addr) (f : Str) : Addr := match recIn K (prA K C f) "property" with
  | some (.ref g :: _) => g
  | _ => 0
def prB (K : Frag) (C : Addr) (f : Str) : Bool := eqO (findIn K (.ref C) f) (some (some (.ref (prA K C f)))) && (eqO (specialIn K (.ref (prA K C f)) "__get__") (some (some (.builtin "property.__get__"))) && (decide (takesIn K (.ref (prA K C f)) = some true) && (match recIn K (prA K C f) "property" with
  | some (.ref _ :: _) => true
  | _ => false)))
theorem prB_ok {K : Frag} {C : Addr} {f : Str} (h : prB K C f = true) : PropOf K C f (prA K C f) (gtA K C f) := by
  unfold prB at h
  simp only [Bool.and_eq_true, decide_eq_true_eq] at h
  obtain ⟨h1, h2, h3, h4⟩ := h
  refine ⟨eqO_ok h1, eqO_ok h2, h3, ?_⟩
  unfold gtA
  split at h4
  · rename_i g r e
    rw [e]
    exact ⟨r, rfl⟩
  · cases h4
def obsX (bf : List (Str × String)) (fa : List Fa) (fn : List DefD) (xb : Frag → Bool) (xf : Frag → List FnB) (K : Frag) : AlD × List FnB := ((xb K && (obsB bf fa fn K).1, (obsB bf fa fn K).2), xf K)
def SaysX (bf : List (Str × String)) (fa : List Fa) (fn : List DefD) (xb : Frag → Bool) (xf : Frag → List FnB) (vals : List FnB) (K : Frag) : Prop := obsX bf fa fn xb xf K = (valD fn, vals)
section
variable {bf : List (Str × String)} {fa : List Fa} {fn : List DefD} {xb : Frag → Bool} {xf : Frag → List FnB} {vals : List FnB} {K : Frag}
theorem SaysX.x (c : SaysX bf fa fn xb xf vals K) : xb K = true := (ba (show (xb K && (obsB bf fa fn K).1) = true from congrArg (fun z : AlD × List FnB => z.1.1) c)).1
theorem SaysX.b (c : SaysX bf fa fn xb xf vals K) : SaysB bf fa fn K := by
  have h1 := (ba (show (xb K && (obsB bf fa fn K).1) = true from congrArg (fun z : AlD × List FnB => z.1.1) c)).2
  have h2 : (obsB bf fa fn K).2 = (valD fn).2 := congrArg (fun z : AlD × List FnB => z.1.2) c
  exact Prod.ext h1 h2
theorem SaysX.f (c : SaysX bf fa fn xb xf vals K) : xf K = vals := congrArg (fun z : AlD × List FnB => z.2) c
end
def dN : Value → Bool
  | .none => true
  | _ => false
def gfB (K : Frag) (a : Addr) : Bool := match List.lookup a K with
  | some ⟨_, _, .func fd, _⟩ => fd.closure.isEmpty && (codeIn K fd.code fd.qualname && (dN fd.defaults && keepIn K (.ref a)))
  | _ => false
theorem gfB_ok {K : Frag} {a : Addr} {name qual : Str} {params : Arguments} {body : List Stmt} {scope : Scope} (e : fnB K a = some (name, qual, params, .stmts body, scope, mainGlobals, builtinsNs)) (c : gfB K a = true) : ∃ fd, FunD K name qual params body scope [] [] a fd := by
  unfold fnB at e
  unfold gfB at c
  split at e
  · rename_i oc od fd osl hl
    rw [hl] at c
    dsimp only at c
    obtain ⟨nm, ql, prm, bd, scp, gl, clo, dv, kv, doc, pm, an, cdv, ct, bl⟩ := fd
    simp only [Option.some.injEq, Prod.mk.injEq] at e
    obtain ⟨rfl, rfl, rfl, rfl, rfl, rfl, rfl⟩ := e
    dsimp only at c
    simp only [Bool.and_eq_true, List.isEmpty_iff] at c
    obtain ⟨c1, c2, c3, c4⟩ := c
    subst c1
    have hd : dv = .none := by
      unfold dN at c3
      split at c3
      · rfl
      · cases c3
    subst hd
    exact ⟨_, ⟨oc, od, .none, kv, doc, pm, an, cdv, ct, osl, rfl, hl, c2, .inl ⟨rfl, rfl⟩, .inl rfl⟩, c4⟩
  · cases e
end He
set_option Elab.async false
set_option linter.all false
set_option maxRecDepth 100000
set_option autoImplicit false
set_option maxHeartbeats 4000000
namespace ClT
open PySem PySem.W PySem.Calls PyProof.Rows Builtin Builtin.ObjectAttr Builtin.Getset_descriptor
section
variable {prog : Program} {w : World} {A : Around} {s : Shared} {K : Frag} {C : Addr} {R : Result → Shared → Prop} {E : Value → Shared → Prop}
theorem type_obj : isSubtype (.type "type") (.type "object") = pure true := by rw [isSubtype_type]; kernel_rfl
theorem cls_get {tp : Value} (X : K.In s.heap) (ht : typeIn K (.ref C) = some (.type "type"))
    (h : R (.ok (.ret (.type "type"))) s) : codeAny (model prog w) A (.call (.builtin "getset_descriptor.__get__") ⟨[.builtin "object.__class__", .ref C, tp], []⟩) R s := by
  obtain ⟨hh, g, dr, t, os⟩ := s
  have L0 := looks_typeIn (M := model prog w) X ht
  have L1 : Looks (model prog w) hh (isSubtype (.type "type") (.type "object")) true := Looks.of_pure type_obj
  refine codeAny_call_builtin KF.slot_gs.plain KF.entry_gs (KF.slot_gs.check _ _ _ _ _ _ _ _ KF.type_class (KF.args_gs _ _ _) ?_)
  unfold Builtin.«getset_descriptor.__get__» descrGet
  rw [dga_obj]
  refine wpAny_bind (wpAny_pure ?_)
  unfold descrGetter descrCheckInstance descrNameAndClass isInstance
  simp only [KF.owner_class]
  repeat lk
  refine ⟨Code.quiet_builtin _ (by decide +kernel), codeAny_builtin KF.entry_class ?_⟩
  unfold Builtin.«object.__class__» shownTypeOf
  repeat lk
  exact h
theorem find_class : findIn K (.type "type") "__class__" = some (some (.builtin "object.__class__")) := by kernel_rfl
theorem sp_class : specialIn K (.builtin "object.__class__") "__get__" = some (some (.builtin "getset_descriptor.__get__")) := by kernel_rfl
theorem tk_class : takesIn K (.builtin "object.__class__") = some true := by kernel_rfl
theorem find_ga : findIn K (.type "type") "__getattribute__" = some (some (.builtin "type.__getattribute__")) := by kernel_rfl
theorem findCls_class : findCls K (.ref C) (.type "type") "__class__" = some (.get (.builtin "getset_descriptor.__get__") (.builtin "object.__class__") (.ref C) (.type "type")) := by
  unfold findCls
  rw [find_class, Option.bind_some]
  dsimp only
  rw [sp_class, Option.bind_some]
  dsimp only
  rw [tk_class, Option.bind_some]
theorem cls_openQ {r : CFound} {name : Str} {Q : Option Value → Shared → Prop} (X : K.In s.heap) (ht : typeIn K (.ref C) = some (.type "type")) (ho : nsIn K cStatics "thirdparty.any" = some none) (e : findCls K (.ref C) (.type "type") name = some r)
    (h : wpAny (model prog w) A.in1 r.run (fun fin s' => match fin with | .done (.ret v) => wpAny (model prog w) A (handedOut v) (fun v s'' => Q (some v) s'') (fun _ _ => False) s' | _ => False) (fun _ _ => False) { s with toks := s.toks + 1 }) :
    wpAny (model prog w) A (getAttr? (.ref C) name) Q E s := by
  have lt := looks_typeIn (M := model prog w) X ht
  unfold getAttr? getAttrBy? getAttrBy
  refine wpAny_bind (wpAny_mkText (wpAny_bind (wpAny_attempt (wpAny_holding (wpAny_bind (lt _ _ _ _ (fun _ _ e => e) (wpAny_bind (looks_findIn X find_ga _ _ _ _ (fun _ _ e => e) ?_))))))))
  dsimp only
  rw [show (onTheHeap (.type "type") && Value.builtin "type.__getattribute__" == Value.builtin "object.__getattribute__") = false from by decide +kernel, if_neg (by decide)]
  have hb : Looks (model prog w) s.heap (hookBefore (.type "type")) none := looks_hook X (by rfl)
  refine wpAny_bind (hb _ _ _ _ (fun _ _ e => e) (wpAny_bind (wpAny_attempt (wpAny_holding ?_))))
  unfold callGetattribute
  rw [show (false && onTheHeap (Value.builtin "type.__getattribute__")) = false from rfl, if_neg (by decide)]
  unfold boundAndCalled
  rw [KF.slot_tga.bind]
  refine wpAny_bind (wpAny_pure ?_)
  show wpAny _ _ (call (.builtin "type.__getattribute__") [.ref C, .str name s.toks]) _ _ _
  refine wpAny_call ?_
  refine codeAny_call_builtin KF.slot_tga.plain KF.entry_tga ?_
  refine @check_slot (model prog w) _ _ { s with toks := s.toks + 1 } "type.__getattribute__" "type" "__getattribute__" (.ref C) [.str name s.toks] [] _ (by decide +kernel) (by decide +kernel) (lt.andThen (Looks.of_pure (by rw [isSubtype_type]; kernel_rfl))) (KF.args_tga (.ref C) (.str name s.toks)) ?_
  refine tga_run (s := { s with toks := s.toks + 1 }) X (looks_opaque X ho) lt e (wpAny_mono h (fun fin s' z => ?_) fun _ _ z => z.elim)
  rcases fin with (_ | _ | _ | _) | _ <;> first | exact wpAny_mono z (fun v s'' hv => wpAny_pure hv) (fun _ _ z => z.elim) | exact z.elim
theorem cls_class {Q : Option Value → Shared → Prop} (X : K.In s.heap) (ht : typeIn K (.ref C) = some (.type "type")) (ho : nsIn K cStatics "thirdparty.any" = some none) (h : Q (some (.type "type")) { s with toks := s.toks + 1 }) : wpAny (model prog w) A (getAttr? (.ref C) "__class__") Q E s := by
  refine cls_openQ X ht ho findCls_class ?_
  refine wpAny_bind (wpAny_holding (wpAny_mono (wpAny_call (cls_get (s := { s with toks := s.toks + 1 }) X ht ?_)) (fun _ _ z => wpAny_pure z) fun _ _ z => z))
  exact handed_on rfl h
theorem kitx_cls (ht : typeIn K (.ref C) = some (.type "type")) (ho : nsIn K cStatics "thirdparty.any" = some none) : KitX K (.ref C) (.type "type") (fun _ => True) where
  ty := fun _ _ X _ => looks_typeIn X ht
  it := fun _ _ _ _ => Looks.of_pure rfl
  ne := fun _ _ _ _ _ _ _ _ => rfl
  ca := fun X _ k => cls_class X ht ho k
end
end ClT
set_option Elab.async false
set_option linter.all false
set_option maxRecDepth 100000
set_option autoImplicit false
set_option maxHeartbeats 4000000
namespace Dn
open PySem L2
abbrev D := PyData
def keyB : Key → D
  | .inl i => .int i
  | .inr x => .str x
def dkD (kvs : List (Key × D)) : List (D × D) := kvs.map fun p => (keyB p.1, p.2)
def adrOf (K : PySem.W.Frag) (nm : Str) : Addr := match K.find? (fun p => match p.2.data with
    | .cls cd => decide (cd.name = nm)
    | _ => false) with
  | some p => p.1
  | none => 0
def obL (nm : Str) (es : List (Str × D)) : List (D × D) := [(.bool true, .tuple (.str nm :: es.map fun p => .tuple [.str p.1, p.2]))]
abbrev obD (nm : Str) (es : List (Str × D)) : D := .dict (obL nm es)
structure ObjC (K : PySem.W.Frag) (C : Addr) : Prop where
  cls : Cls K C
  ha : PySem.W.findIn K (.ref C) "__class__" = some (some (.builtin "object.__class__"))
  hn : PySem.W.specialIn K (.builtin "object.__class__") "__get__" = some (some (.builtin "getset_descriptor.__get__"))
  htk : PySem.W.takesIn K (.builtin "object.__class__") = some true
  hm : PySem.W.mroIn K C (.type "object") = some true
  ty : PySem.W.typeIn K (.ref C) = some (.type "type")
  tp : PySem.W.nsIn K PySem.cStatics "thirdparty.any" = some none
  own : ∀ (tn : String) (b : Bool), tn ≠ "slice" → kitB "slice" tn = some b → PySem.W.kitOne K (.ref C) (.type tn) = some b
mutual
inductive Rp (K : PySem.W.Frag) (G : Hp) : V → D → Prop
  | non : Rp K G .non .none
  | bl (b : Bool) : Rp K G (.bl b) (.bool b)
  | int (i : Int) : Rp K G (.int i) (.int i)
  | str (x : Str) : Rp K G (.str x) (.str x)
  | lst {a : Addr} {xs : List V} {ds : List D} : G a = some (.lst xs) → RpAll K G xs ds → Rp K G (.ref a) (.list ds)
  | tup {a : Addr} {xs : List V} {ds : List D} : G a = some (.tup xs) → RpAll K G xs ds → Rp K G (.ref a) (.tuple ds)
  | dct {a : Addr} {kws : List (Key × V)} {kvs : List (Key × D)} {dd : List (D × D)} : G a = some (.dK kws) → RpKv K G kws kvs → dd = dkD kvs → Rp K G (.ref a) (.dict dd)
  | frz {a : Addr} {xs : List V} {ds : List D} : SqL K G a xs → RpAll K G xs ds → Rp K G (.ref a) (.dict [(.none, .tuple ds)])
  | ins {a dx : Addr} {nm : Str} {fs : List (Str × V)} {es : List (Str × D)} {dd : List (D × D)} : ObjC K (adrOf K nm) → G a = some (.ins (adrOf K nm) dx fs) → RpFs K G fs es → dd = obL nm es → Rp K G (.ref a) (.dict dd)
  | typ (nm : Str) : ObjC K (adrOf K nm) → Rp K G (.ref (adrOf K nm)) (.dict [(.bool false, .str nm)])
inductive RpAll (K : PySem.W.Frag) (G : Hp) : List V → List D → Prop
  | nil : RpAll K G [] []
  | cons {v : V} {vs : List V} {d : D} {ds : List D} : Rp K G v d → RpAll K G vs ds → RpAll K G (v :: vs) (d :: ds)
inductive RpKv (K : PySem.W.Frag) (G : Hp) : List (Key × V) → List (Key × D) → Prop
  | nil : RpKv K G [] []
  | cons {k : Key} {v : V} {d : D} {kws : List (Key × V)} {kvs : List (Key × D)} : Rp K G v d → RpKv K G kws kvs → RpKv K G ((k, v) :: kws) ((k, d) :: kvs)
inductive RpFs (K : PySem.W.Frag) (G : Hp) : List (Str × V) → List (Str × D) → Prop
  | nil : RpFs K G [] []
  | cons {k : Str} {v : V} {d : D} {fs : List (Str × V)} {es : List (Str × D)} : Rp K G v d → RpFs K G fs es → RpFs K G ((k, v) :: fs) ((k, d) :: es)
end
open Evl
mutual
theorem Rp.mono {K : PySem.W.Frag} {G G' : Hp} (e : Ex G G') : ∀ {v : V} {d : D}, Rp K G v d → Rp K G' v d
  | _, _, .non => .non
  | _, _, .bl b => .bl b
  | _, _, .int b => .int b
  | _, _, .str b => .str b
  | _, _, .lst h r => .lst (e _ _ h) (RpAll.mono e r)
  | _, _, .tup h r => .tup (e _ _ h) (RpAll.mono e r)
  | _, _, .dct h r z => .dct (e _ _ h) (RpKv.mono e r) z
  | _, _, .frz h r => .frz (ex_l e h) (RpAll.mono e r)
  | _, _, .ins o h r z => .ins o (e _ _ h) (RpFs.mono e r) z
  | _, _, .typ nm o => .typ nm o
theorem RpAll.mono {K : PySem.W.Frag} {G G' : Hp} (e : Ex G G') : ∀ {v : List V} {d : List D}, RpAll K G v d → RpAll K G' v d
  | _, _, .nil => .nil
  | _, _, .cons h r => .cons (Rp.mono e h) (RpAll.mono e r)
theorem RpKv.mono {K : PySem.W.Frag} {G G' : Hp} (e : Ex G G') : ∀ {v : List (Key × V)} {d : List (Key × D)}, RpKv K G v d → RpKv K G' v d
  | _, _, .nil => .nil
  | _, _, .cons h r => .cons (Rp.mono e h) (RpKv.mono e r)
theorem RpFs.mono {K : PySem.W.Frag} {G G' : Hp} (e : Ex G G') : ∀ {v : List (Str × V)} {d : List (Str × D)}, RpFs K G v d → RpFs K G' v d
  | _, _, .nil => .nil
  | _, _, .cons h r => .cons (Rp.mono e h) (RpFs.mono e r)
end
section
variable {K : PySem.W.Frag} {G : Hp}
theorem RpAll.length : ∀ {vs : List V} {ds : List D}, RpAll K G vs ds → vs.length = ds.length
  | _, _, .nil => rfl
  | _, _, .cons _ r => by simp [RpAll.length r]
theorem RpAll.get : ∀ {vs : List V} {ds : List D} {i : Nat} {d : D}, RpAll K G vs ds → ds[i]? = some d → ∃ v, vs[i]? = some v ∧ Rp K G v d
  | _, _, _, _, .nil, e => by simp at e
  | _, _, 0, _, .cons h _, e => by simp at e; subst e; exact ⟨_, rfl, h⟩
  | _, _, i + 1, _, .cons _ r, e => by simpa using RpAll.get r (by simpa using e)
theorem RpAll.append : ∀ {vs ws : List V} {ds es : List D}, RpAll K G vs ds → RpAll K G ws es → RpAll K G (vs ++ ws) (ds ++ es)
  | _, _, _, _, .nil, s => s
  | _, _, _, _, .cons h r, s => .cons h (RpAll.append r s)
theorem RpAll.set : ∀ {vs : List V} {ds : List D} {v : V} {d : D} (i : Nat), RpAll K G vs ds → Rp K G v d → RpAll K G (vs.set i v) (ds.set i d)
  | _, _, _, _, _, .nil, _ => .nil
  | _, _, _, _, 0, .cons _ r, s => .cons s r
  | _, _, _, _, i + 1, .cons h r, s => .cons h (RpAll.set i r s)
theorem RpAll.take : ∀ {vs : List V} {ds : List D} (i : Nat), RpAll K G vs ds → RpAll K G (vs.take i) (ds.take i)
  | _, _, 0, _ => by simp; exact .nil
  | _, _, _ + 1, .nil => .nil
  | _, _, i + 1, .cons h r => .cons h (RpAll.take i r)
theorem RpAll.drop : ∀ {vs : List V} {ds : List D} (i : Nat), RpAll K G vs ds → RpAll K G (vs.drop i) (ds.drop i)
  | _, _, 0, r => r
  | _, _, _ + 1, .nil => .nil
  | _, _, i + 1, .cons _ r => RpAll.drop i r
theorem RpAll.erase : ∀ {vs : List V} {ds : List D} (i : Nat), RpAll K G vs ds → RpAll K G (vs.eraseIdx i) (ds.eraseIdx i)
  | _, _, _, .nil => .nil
  | _, _, 0, .cons _ r => r
  | _, _, i + 1, .cons h r => .cons h (RpAll.erase i r)
theorem RpAll.dropLast {vs : List V} {ds : List D} (r : RpAll K G vs ds) : RpAll K G vs.dropLast ds.dropLast := by
  rw [List.dropLast_eq_take, List.dropLast_eq_take, r.length]; exact r.take _
theorem RpAll.reverse : ∀ {vs : List V} {ds : List D}, RpAll K G vs ds → RpAll K G vs.reverse ds.reverse
  | _, _, .nil => .nil
  | _, _, .cons h r => by simpa using r.reverse.append (.cons h .nil)
theorem RpAll.ints : ∀ (ns : List Int), RpAll K G (ns.map V.int) (ns.map PyData.int)
  | [] => .nil
  | n :: ns => .cons (.int n) (RpAll.ints ns)
theorem RpAll.of_ints : ∀ {ns : List Int} {vs : List V}, RpAll K G vs (ns.map PyData.int) → vs = ns.map V.int
  | [], _, .nil => rfl
  | n :: ns, _, .cons (.int _) r => by rw [RpAll.of_ints r]; rfl
theorem RpAll.of_bls : ∀ {ns : List Bool} {vs : List V}, RpAll K G vs (ns.map PyData.bool) → vs = ns.map V.bl
  | [], _, .nil => rfl
  | n :: ns, _, .cons (.bl _) r => by rw [RpAll.of_bls r]; rfl
end
inductive MO where
  | lst (ds : List D)
  | dct (kvs : List (Key × D))
  | par (p : Addr) (m : MO)
  /-- a kept range 0, 1, .. -/
  | rng (j : Int)
  /-- a dict whose keys are tuples of ints -/
  | dtu (kvs : List (List Int × D))
  /-- an instance that is being made -/
  | obj (nm : Str) (es : List (Str × D))
def RpO (K : PySem.W.Frag) (G : Hp) : MO → HO → Prop
  | .lst ds, .lst vs => RpAll K G vs ds
  | .dct kvs, .dK kws => Paired (fun (p : Key × D) (q : Key × V) => p.1 = q.1 ∧ Rp K G q.2 p.2) kvs kws
  | .par _ m, o => RpO K G m o
  | .rng j, .rng lo hi => lo = 0 ∧ hi = j
  | .dtu kvs, .dT kws => Paired (fun (p : List Int × D) (q : List Key × V) => p.1.map Sum.inl = q.1 ∧ Rp K G q.2 p.2) kvs kws
  | .obj nm es, .ins C _ fs => C = adrOf K nm ∧ ObjC K C ∧ RpFs K G fs es
  | _, _ => False
theorem RpO.mono {K : PySem.W.Frag} {G G' : Hp} (e : Ex G G') : ∀ {m : MO} {o : HO}, RpO K G m o → RpO K G' m o
  | .par _ m, o, h => by unfold RpO at h ⊢; exact RpO.mono (m := m) e h
  | .lst ds, o, h => by cases o <;> first | exact RpAll.mono e h | exact False.elim h
  | .dct ds, o, h => by cases o <;> first | exact False.elim h | exact Paired.mapP h fun p q z => ⟨z.1, z.2.mono e⟩
  | .rng j, o, h => by cases o <;> first | exact False.elim h | exact h
  | .dtu ds, o, h => by cases o <;> first | exact False.elim h | exact Paired.mapP h fun p q z => ⟨z.1, z.2.mono e⟩
  | .obj _ es, o, h => by cases o <;> first | exact False.elim h | exact ⟨h.1, h.2.1, h.2.2.mono e⟩
inductive SV where
  | im (d : D)
  | ow (m : MO)
abbrev Env := List (Option SV)
def Own (ρ : Env) (σ : L2.St) (a : Addr) : Prop := ∃ (i : Nat) (m : MO), ρ[i]? = some (some (SV.ow m)) ∧ σ[i]? = some (some (V.ref a))
open Classical in
noncomputable def hide (O : Addr → Prop) (H : Hp) : Hp := fun a => if O a then none else H a
theorem hide_some {O : Addr → Prop} {H : Hp} {a : Addr} {o : HO} : hide O H a = some o ↔ ¬ O a ∧ H a = some o := by
  unfold hide; by_cases h : O a <;> simp [h]
theorem hide_ex {O : Addr → Prop} {H : Hp} : Ex (hide O H) H := fun _ _ h => (hide_some.1 h).2
def Hd (T : Addr → Prop) (ρ : Env) (σ : L2.St) (a : Addr) : Prop := T a ∨ Own ρ σ a
def Lv (H : Hp) (a : Addr) : Prop := H a ≠ none ∧ ∀ xs, H a ≠ some (.tup xs)
theorem Lv.upd {H : Hp} {a p : Addr} {o : HO} (ne : a ≠ p) (h : Lv H a) : Lv (upd H p o) a := by
  unfold Lv
  rw [upd_ne ne]
  exact h
theorem Lv.at {H : Hp} {p : Addr} {o : HO} (h : ∀ xs, o ≠ .tup xs) : Lv (L2.upd H p o) p := by
  unfold Lv
  rw [upd_same]
  exact ⟨by simp, fun xs z => h xs (by simpa using z)⟩
theorem Lv.keep {H H' : Hp} {a : Addr} (h : Lv H a) (k : ∀ o, H a = some o → H' a = some o) : Lv H' a := by
  obtain ⟨h1, h2⟩ := h
  cases e : H a with
  | none => exact absurd e h1
  | some o =>
    refine ⟨by rw [k o e]; simp, fun xs z => h2 xs ?_⟩
    rw [k o e] at z
    rw [e, z]
structure RS (K : PySem.W.Frag) (T : Addr → Prop) (ρ : Env) (σ : L2.St) (H : Hp) : Prop where
  len : ρ.length = σ.length
  im : ∀ (i : Nat) (d : D), ρ[i]? = some (some (SV.im d)) → ∃ v, σ[i]? = some (some v) ∧ Rp K (hide (Hd T ρ σ) H) v d
  ow : ∀ (i : Nat) (m : MO), ρ[i]? = some (some (SV.ow m)) → ∃ a o, σ[i]? = some (some (V.ref a)) ∧ H a = some o ∧ RpO K (hide (Hd T ρ σ) H) m o
  inj : ∀ (i j : Nat) (m m' : MO) (a : Addr), ρ[i]? = some (some (SV.ow m)) → ρ[j]? = some (some (SV.ow m')) → σ[i]? = some (some (V.ref a)) → σ[j]? = some (some (V.ref a)) → i = j
  dis : ∀ a, T a → ¬ Own ρ σ a
  dom : ∀ a, T a → Lv H a
  tag : ∀ (i : Nat) (p : Addr) (m : MO) (a : Addr), ρ[i]? = some (some (SV.ow (.par p m))) → σ[i]? = some (some (V.ref a)) → a = p
structure Po (ρ : Env) (σ : L2.St) (H : Hp) (ρ' : Env) (σ' : L2.St) (H' : Hp) : Prop where
  keep : ∀ a o, ¬ Own ρ σ a → H a = some o → H' a = some o
  own : ∀ a, Own ρ' σ' a → Own ρ σ a ∨ H a = none
  dom : ∀ a, H a ≠ none → H' a ≠ none
section
variable {K : PySem.W.Frag} {T : Addr → Prop} {ρ ρ1 ρ2 : Env} {σ σ1 σ2 : L2.St} {H H1 H2 : Hp}
theorem Po.refl : Po ρ σ H ρ σ H := ⟨fun _ _ _ h => h, fun _ h => .inl h, fun _ h => h⟩
theorem Po.trans (p : Po ρ σ H ρ1 σ1 H1) (q : Po ρ1 σ1 H1 ρ2 σ2 H2) : Po ρ σ H ρ2 σ2 H2 where
  keep := fun a o n h => q.keep a o (fun w => by
    rcases p.own a w with w | w
    · exact n w
    · rw [w] at h; cases h) (p.keep a o n h)
  own := fun a w => by
    rcases q.own a w with w | w
    · exact p.own a w
    · by_cases h : H a = none
      · exact .inr h
      · exact absurd w (p.dom a h)
  dom := fun a h => q.dom a (p.dom a h)
theorem Po.fz (p : Po ρ σ H ρ1 σ1 H1) : Ex (hide (Hd T ρ σ) H) (hide (Hd T ρ1 σ1) H1) := fun a o h => by
  obtain ⟨n, h⟩ := hide_some.1 h
  refine hide_some.2 ⟨?_, p.keep a o (fun w => n (.inr w)) h⟩
  rintro (t | w)
  · exact n (.inl t)
  · rcases p.own a w with w | w
    · exact n (.inr w)
    · rw [w] at h; cases h
theorem RS.ownDom (r : RS K T ρ σ H) {a : Addr} (h : Own ρ σ a) : H a ≠ none := by
  obtain ⟨i, m, h1, h2⟩ := h
  obtain ⟨b, o, e1, e2, _⟩ := r.ow i m h1
  rw [h2] at e1; cases e1; rw [e2]; simp
theorem RS.hdDom (r : RS K T ρ σ H) {a : Addr} (h : Hd T ρ σ a) : H a ≠ none := h.elim (fun t => (r.dom a t).1) r.ownDom
theorem rpo_tup {G : Hp} {xs : List V} : ∀ {m : MO}, ¬ RpO K G m (.tup xs)
  | .lst _, h => h
  | .dct _, h => h
  | .par _ m, h => rpo_tup (m := m) h
  | .rng _, h => h
  | .dtu _, h => h
  | .obj _ _, h => h
theorem RS.hdLv (r : RS K T ρ σ H) {a : Addr} (h : Hd T ρ σ a) : Lv H a := h.elim (r.dom a) fun w => by
  refine ⟨r.ownDom w, fun xs e => ?_⟩
  obtain ⟨i, m, h1, h2⟩ := w
  obtain ⟨b, o, e1, e2, e3⟩ := r.ow i m h1
  rw [h2] at e1; cases e1
  rw [e] at e2; cases e2
  exact rpo_tup e3
theorem RS.grow (r : RS K T ρ σ H) (e : Ex H H1) : RS K T ρ σ H1 := by
  have ez : Ex (hide (Hd T ρ σ) H) (hide (Hd T ρ σ) H1) := fun a o h => hide_some.2 ⟨(hide_some.1 h).1, e _ _ (hide_some.1 h).2⟩
  refine ⟨r.len, fun i d h => ?_, fun i m h => ?_, r.inj, r.dis, fun a t => ?_, r.tag⟩
  · obtain ⟨v, h1, h2⟩ := r.im i d h; exact ⟨v, h1, h2.mono ez⟩
  · obtain ⟨a, o, h1, h2, h3⟩ := r.ow i m h; exact ⟨a, o, h1, e _ _ h2, h3.mono ez⟩
  · exact (r.dom a t).keep fun o h => e a o h
theorem Po.grow (e : Ex H H1) : Po ρ σ H ρ σ H1 := ⟨fun a o _ h => e a o h, fun _ h => .inl h, fun a h => by
  cases q : H a with
  | none => exact absurd q h
  | some o => rw [e a o q]; simp⟩
theorem hide_new {O : Addr → Prop} {p : Addr} {o : HO} (hO : ∀ a, O a → H a ≠ none) (h : H p = none) : hide O (upd H p o) p = some o := hide_some.2 ⟨fun w => hO p w h, upd_same⟩
theorem hide_grow {O : Addr → Prop} (e : Ex H H1) : Ex (hide O H) (hide O H1) := fun a o h => hide_some.2 ⟨(hide_some.1 h).1, e _ _ (hide_some.1 h).2⟩
end
abbrev DE := Env → (D → Env → Prop) → Prop
abbrev DT := Env → (Bool → Env → Prop) → Prop
abbrev DA := Env → (List D → Env → Prop) → Prop
structure DEnds where
  nx : Env → Prop
  rt : D → Env → Prop
  bk : Env → Prop := fun _ => False
  ct : Env → Prop := fun _ => False
  /-- an error of an own class, with the field that it keeps -/
  er : Str → Option (Str × D) → Prop := fun _ _ => False
def ErrAt (K : PySem.W.Frag) (G H : Hp) (dd : Option Addr) : Option (Str × D) → Prop
  | some fd => ∃ a pv, dd = some a ∧ H a = some (.xd [(fd.1, pv)]) ∧ Rp K G pv fd.2
  | none => True
def Wx (X : Cx) : L2.WX := fun cls d σ H => ∀ u s', L2.XE X (fun c e τ G => c = cls ∧ e = d ∧ τ = σ ∧ G = H) u s' → X.xe u s'
abbrev DS := DEnds → Env → Prop
abbrev DG := D → Env → (Env → Prop) → Prop
structure JE (X : Cx) (e : Expr) (f : DE) : Prop where
  ex : ∃ t, PE X e t ∧ ∀ (T : Addr → Prop) (ρ : Env) (σ : L2.St) (H : Hp) (QD : D → Env → Prop) (Q : VK), RS X.K T ρ σ H → f ρ QD →
    (∀ d ρ' v H', RS X.K T ρ' σ H' → Po ρ σ H ρ' σ H' → Rp X.K (hide (Hd T ρ' σ) H') v d → QD d ρ' → Q v H') → t σ H Q
structure JT (X : Cx) (e : Expr) (f : DT) : Prop where
  ex : ∃ t, PT X e t ∧ ∀ (T : Addr → Prop) (ρ : Env) (σ : L2.St) (H : Hp) (QD : Bool → Env → Prop) (Q : Bool → Hp → Prop), RS X.K T ρ σ H → f ρ QD →
    (∀ b ρ' H', RS X.K T ρ' σ H' → Po ρ σ H ρ' σ H' → QD b ρ' → Q b H') → t σ H Q
structure JA (X : Cx) (es : List Expr) (f : DA) : Prop where
  ex : ∃ t, PA X es t ∧ ∀ (T : Addr → Prop) (ρ : Env) (σ : L2.St) (H : Hp) (QD : List D → Env → Prop) (Q : List V → Hp → Prop), RS X.K T ρ σ H → f ρ QD →
    (∀ ds ρ' vs H', RS X.K T ρ' σ H' → Po ρ σ H ρ' σ H' → RpAll X.K (hide (Hd T ρ' σ) H') vs ds → QD ds ρ' → Q vs H') → t σ H Q
structure EndOk (K : PySem.W.Frag) (W : L2.WX) (T : Addr → Prop) (ρ : Env) (σ : L2.St) (H : Hp) (E : DEnds) (D : Ends) : Prop where
  nx : ∀ ρ' σ' H', RS K T ρ' σ' H' → Po ρ σ H ρ' σ' H' → E.nx ρ' → D.nx σ' H'
  rt : ∀ d ρ' σ' v H', RS K T ρ' σ' H' → Po ρ σ H ρ' σ' H' → Rp K (hide (Hd T ρ' σ') H') v d → E.rt d ρ' → D.rt v H'
  bk : ∀ ρ' σ' H', RS K T ρ' σ' H' → Po ρ σ H ρ' σ' H' → E.bk ρ' → D.bk σ' H'
  ct : ∀ ρ' σ' H', RS K T ρ' σ' H' → Po ρ σ H ρ' σ' H' → E.ct ρ' → D.ct σ' H'
  er : ∀ nm fd σ' dd H', Po ρ σ H [] σ' H' → ErrAt K (hide T H') H' dd fd → E.er nm fd → W (.ref (adrOf K nm)) dd σ' H'
structure JS (X : Cx) (st : Stmt) (f : DS) : Prop where
  ex : ∃ t, PS X st t ∧ ∀ (T : Addr → Prop) (ρ : Env) (σ : L2.St) (H : Hp) (E : DEnds) (D : Ends), RS X.K T ρ σ H → f E ρ → EndOk X.K (Wx X) T ρ σ H E D → t D σ H
structure JSs (X : Cx) (st : List Stmt) (f : DS) : Prop where
  ex : ∃ t, PSs X st t ∧ ∀ (T : Addr → Prop) (ρ : Env) (σ : L2.St) (H : Hp) (E : DEnds) (D : Ends), RS X.K T ρ σ H → f E ρ → EndOk X.K (Wx X) T ρ σ H E D → t D σ H
theorem EndOk.step {K : PySem.W.Frag} {W : L2.WX} {T : Addr → Prop} {ρ ρ1 : Env} {σ σ1 : L2.St} {H H1 : Hp} {E : DEnds} {D : Ends} (e : EndOk K W T ρ σ H E D) (p : Po ρ σ H ρ1 σ1 H1) : EndOk K W T ρ1 σ1 H1 E D :=
  ⟨fun a b c r q => e.nx a b c r (p.trans q), fun a b c d f r q => e.rt a b c d f r (p.trans q), fun a b c r q => e.bk a b c r (p.trans q), fun a b c r q => e.ct a b c r (p.trans q), fun a b c d f q => e.er a b c d f (p.trans q)⟩
section
variable {X : Cx} {a b c : Expr} {fa fb fc : DE} {pos : Pos}
def dVar (i : Nat) : DE := fun ρ Q => match ρ[i]? with
  | some (some (SV.im d)) => Q d ρ
  | _ => False
theorem je_var {i : Nat} {x : Str} (hN : X.N[i]? = some x) (hv : Vis X.env.scope x) (hd : (x == ("__debug__" : Str)) = false := by decide) (hcd : (x == ("__classdict__" : Str)) = false := by decide) : JE X (.Name x pos) (dVar i) := by
  refine ⟨tVar i, pe_var hN hv hd hcd, fun T ρ σ H QD Q r h k => ?_⟩
  unfold dVar at h
  split at h
  · rename_i d e
    obtain ⟨v, e1, e2⟩ := r.im i d e
    exact ⟨v, e1, k d ρ v H r .refl e2 h⟩
  · exact False.elim h
def dC (d : D) : DE := fun ρ Q => Q d ρ
theorem je_of {e : Expr} {v : V} {d : D} (h : PE X e (tC v)) (hr : ∀ G, Rp X.K G v d) : JE X e (dC d) := ⟨tC v, h, fun T ρ σ H QD Q r h k => k d ρ v H r .refl (hr _) h⟩
theorem je_int {i : Int} {j} : JE X (.Constant (.int i) j pos) (dC (.int i)) := je_of pe_int fun _ => .int i
theorem je_bl {i : Bool} {j} : JE X (.Constant (.bool i) j pos) (dC (.bool i)) := je_of pe_bl fun _ => .bl i
theorem je_str {x : Str} {j} : JE X (.Constant (.str x) j pos) (dC (.str x)) := je_of pe_str fun _ => .str x
theorem je_globI {x : Str} {i : Int} {t : Tok} (hm : X.mg x = some (.int i t)) (hg : Gl X x) (hd : (x == ("__debug__" : Str)) = false := by decide) : JE X (.Name x pos) (dC (.int i)) := je_of (pe_glob (v := V.int i) hg hm ⟨t, rfl⟩ hd) fun _ => .int i
structure OpD (X : Cx) (f : Value → Value → Sem Value) (op : D → D → (D → Prop) → Prop) : Prop where
  ex : ∃ r : R2, OpR X f r ∧ ∀ (O : Addr → Prop) (H : Hp) (x y : V) (d e : D) (QD : D → Prop) (Q : VK), (∀ a, O a → H a ≠ none) → Rp X.K (hide O H) x d → Rp X.K (hide O H) y e → op d e QD →
    (∀ z v H', Ex H H' → Rp X.K (hide O H') v z → QD z → Q v H') → r x y H Q
def dBin (op : D → D → (D → Prop) → Prop) (fa fb : DE) : DE := fun ρ Q => fa ρ fun x ρ1 => fb ρ1 fun y ρ2 => op x y fun z => Q z ρ2
theorem je_two {e : Expr} {op : D → D → (D → Prop) → Prop} {r : R2} (hr : ∀ (O : Addr → Prop) (H : Hp) (x y : V) (d e : D) (QD : D → Prop) (Q : VK), (∀ a, O a → H a ≠ none) → Rp X.K (hide O H) x d → Rp X.K (hide O H) y e → op d e QD →
    (∀ z v H', Ex H H' → Rp X.K (hide O H') v z → QD z → Q v H') → r x y H Q) (ha : JE X a fa) (hb : JE X b fb) (he : ∀ ta tb, PE X a ta → PE X b tb → PE X e (tOp r ta tb)) : JE X e (dBin op fa fb) := by
  obtain ⟨ta, pa, ka⟩ := ha.ex
  obtain ⟨tb, pb, kb⟩ := hb.ex
  refine ⟨_, he ta tb pa pb, fun T ρ σ H QD Q r h k => ?_⟩
  refine ka T ρ σ H _ _ r h fun d ρ1 v H1 r1 p1 v1 h1 => ?_
  refine kb T ρ1 σ H1 _ _ r1 h1 fun e ρ2 w H2 r2 p2 v2 h2 => ?_
  refine hr (Hd T ρ2 σ) H2 v w d e _ _ (fun a => r2.hdDom) (v1.mono p2.fz) v2 h2 fun z u H3 e3 v3 h3 => ?_
  exact k z ρ2 u H3 (r2.grow e3) ((p1.trans p2).trans (.grow e3)) v3 h3
theorem je_bin {o : Operator} {op : D → D → (D → Prop) → Prop} (ho : OpD X (binaryOp o) op) (ha : JE X a fa) (hb : JE X b fb) : JE X (.BinOp a o b pos) (dBin op fa fb) := by
  obtain ⟨r, h1, h2⟩ := ho.ex
  exact je_two h2 ha hb fun _ _ => pe_op h1
theorem je_cmp {o : CmpOp} {op : D → D → (D → Prop) → Prop} (ho : OpD X (compareOp o) op) (ha : JE X a fa) (hb : JE X b fb) (hm : behindInMarks o b = false) : JE X (.Compare a [o] [b] pos) (dBin op fa fb) := by
  obtain ⟨r, h1, h2⟩ := ho.ex
  exact je_two h2 ha hb fun _ _ pa pb => pe_cmpR h1 pa pb hm
end
end Dn
set_option Elab.async false
set_option linter.all false
set_option maxRecDepth 100000
set_option autoImplicit false
set_option maxHeartbeats 2000000
namespace He
open PySem PySem.Spec PyProof.Rows L2 PySem.W
def obB (K : Frag) (nm : Str) : Bool := decide (Dn.adrOf K nm = ga K nm) && (eqO (findIn K (.ref (ga K nm)) "__class__") (some (some (.builtin "object.__class__"))) && (eqO (specialIn K (.builtin "object.__class__") "__get__") (some (some (.builtin "getset_descriptor.__get__"))) && (decide (takesIn K (.builtin "object.__class__") = some true) &&
  (decide ((clsIn K (ga K nm)).map (·.mro) = some [.ref (ga K nm), .type "object"]) && (decide (typeIn K (.ref (ga K nm)) = some (.type "type")) && (eqO (nsIn K cStatics "thirdparty.any") (some none) && eqO (findIn K (.ref (ga K nm)) "__ne__") (some (some (.builtin "object.__ne__")))))))))
end He
set_option Elab.async false
set_option linter.all false
set_option maxRecDepth 100000
set_option autoImplicit false
set_option maxHeartbeats 2000000
namespace He
open PySem PySem.Spec PyProof.Rows L2 PySem.W
def obsLG (as : List Addr) (bf : List (Str × String)) (fa : List Fa) (fn : List DefD) (xb : Frag → Bool) (xf : Frag → List FnB) (g : Addr → Option Obj) : AlD × List FnB := obsX bf fa fn xb xf (frG g as)
def hookL (as : List Addr) (bf : List (Str × String)) (fa : List Fa) (fn : List DefD) (xb : Frag → Bool) (xf : Frag → List FnB) (vals : List FnB) : Hook where
  α := AlD × List FnB
  obs := fun s => obsLG as bf fa fn xb xf s.heap.get?
  val := fun _ => (valD fn, vals)
  says := fun _ h => ∃ K : Frag, K.In h ∧ SaysX bf fa fn xb xf vals K
  of := fun _ _ e => ⟨_, frG_in, e⟩
  keeps := fun _ _ _ ⟨K, hK, c⟩ k => ⟨K, Frag.In.keeps hK k, c⟩
theorem obsLG_eq {as : List Addr} {bf : List (Str × String)} {fa : List Fa} {fn : List DefD} {xb : Frag → Bool} {xf : Frag → List FnB} {vals : List FnB} {g : Addr → Option Obj} {s : Shared} (h : ∀ a, g a = s.heap.get? a) : obsLG as bf fa fn xb xf g = (hookL as bf fa fn xb xf vals).obs s := by
  have e : g = s.heap.get? := funext h
  rw [e] <;> rfl
end He
set_option Elab.async false
set_option linter.all false
set_option maxRecDepth 100000
set_option maxHeartbeats 0
namespace Hd
open PySem PySem.Spec PyProof.Rows L2
def top (i : Nat) : Stmt := PySem.Challenge.pw_truenames_k68_whole_shadows_of_tables.main.body.getD i (.Pass ⟨0, 0, 0, 0⟩)
def cm (st : Stmt) (j : Nat) : Stmt := match st with
  | .ClassDef _ _ _ body _ _ _ _ _ _ _ => body.getD j (.Pass ⟨0, 0, 0, 0⟩)
  | s => s
abbrev st__wall : Stmt := top 0
abbrev st_is_integer : Stmt := top 9
abbrev st_is_row : Stmt := top 10
abbrev st_is_square : Stmt := top 11
abbrev st_is_same : Stmt := top 12
abbrev st_is_told : Stmt := top 13
abbrev st_is_move : Stmt := top 16
abbrev st_is_move_of : Stmt := top 17
abbrev st_check_move_of : Stmt := top 18
abbrev st_joined_moves : Stmt := top 19
abbrev st_undone_move : Stmt := top 20
abbrev st_fair_paper : Stmt := top 23
abbrev st__broken_paper : Stmt := top 47
abbrev st__check_rows : Stmt := top 44
abbrev st__is_table_rows : Stmt := top 28
abbrev st__is_pairs : Stmt := top 29
abbrev st_are_fair_rows : Stmt := top 30
abbrev st__pass_alike : Stmt := top 31
abbrev st__threes : Stmt := top 32
abbrev st__breaks_fair : Stmt := top 33
abbrev st__passed_left_first : Stmt := top 34
abbrev st__passed_right_first : Stmt := top 35
abbrev st_check_table : Stmt := top 37
abbrev st__passes_twice_unchanged : Stmt := top 38
abbrev st_renamed_table_rows : Stmt := top 39
abbrev st__pair_rows : Stmt := top 40
abbrev st_shadow_paper : Stmt := top 42
abbrev st_is_shadow_paper : Stmt := top 43
abbrev st__is_shadow : Stmt := top 46
abbrev st__breaks_shadow : Stmt := top 49
abbrev st_shadow_of : Stmt := top 50
abbrev st__law_dice : Stmt := top 52
abbrev st__law_roll : Stmt := top 53
abbrev st__law_pick : Stmt := top 54
abbrev st__law_mixed : Stmt := top 55
abbrev st__law_orders : Stmt := top 56
abbrev st__law_joined : Stmt := top 57
abbrev st__law_undone : Stmt := top 58
abbrev st__law_drawn_move : Stmt := top 59
abbrev st__law_renamed_dots : Stmt := top 60
abbrev st__law_dots_likenesses : Stmt := top 61
abbrev st__law_keeps_dots : Stmt := top 62
abbrev st__law_union_dots : Stmt := top 63
abbrev st__law_places_of : Stmt := top 64
abbrev st__law_product_dots : Stmt := top 65
abbrev st__law_small_dots : Stmt := top 66
abbrev st__law_quiet_dots : Stmt := top 67
abbrev st__law_rows_of_dots : Stmt := top 68
abbrev st__law_left_of : Stmt := top 69
abbrev st__law_right_of : Stmt := top 70
abbrev st__law_renamed_rows : Stmt := top 71
abbrev st__law_fair_rows : Stmt := top 72
abbrev st__law_power : Stmt := top 73
abbrev st__law_shadow_rows : Stmt := top 74
abbrev st__law_is_shadow : Stmt := top 75
abbrev st__law_is_plain : Stmt := top 76
abbrev st__law_are_kept : Stmt := top 77
abbrev st__law_right : Stmt := top 78
abbrev st__law_pairs_right : Stmt := top 79
abbrev st_law : Stmt := top 80
abbrev st_broken_paper_passing : Stmt := top 24
abbrev st_check_rows_passing : Stmt := top 26
abbrev st_check_rows_shadows : Stmt := top 44
abbrev st_broken_paper_shadows : Stmt := top 47
abbrev st_Passing____init__ : Stmt := cm (top 36) 0
abbrev st_Passing__rows : Stmt := cm (top 36) 6
abbrev st_Passing____len__ : Stmt := cm (top 36) 16
abbrev st_Passing__left : Stmt := cm (top 36) 7
abbrev st_Passing__is_quiet : Stmt := cm (top 36) 9
abbrev st_Passing____mul__ : Stmt := cm (top 36) 14
abbrev st_Passing__renamed : Stmt := cm (top 36) 13
def dd__wall : He.DefD := ⟨("_wall", none), "_wall", "_wall", defArgs st__wall, defBody st__wall, defScope st__wall, [], []⟩
def dd_is_integer : He.DefD := ⟨("is_integer", none), "is_integer", "is_integer", defArgs st_is_integer, defBody st_is_integer, defScope st_is_integer, [], []⟩
def dd_is_row : He.DefD := ⟨("is_row", none), "is_row", "is_row", defArgs st_is_row, defBody st_is_row, defScope st_is_row, [], []⟩
def dd_is_square : He.DefD := ⟨("is_square", none), "is_square", "is_square", defArgs st_is_square, defBody st_is_square, defScope st_is_square, [], []⟩
def dd_is_same : He.DefD := ⟨("is_same", none), "is_same", "is_same", defArgs st_is_same, defBody st_is_same, defScope st_is_same, [], []⟩
def dd_is_told : He.DefD := ⟨("is_told", none), "is_told", "is_told", defArgs st_is_told, defBody st_is_told, defScope st_is_told, [], []⟩
def dd_is_move : He.DefD := ⟨("is_move", none), "is_move", "is_move", defArgs st_is_move, defBody st_is_move, defScope st_is_move, [], []⟩
def dd_is_move_of : He.DefD := ⟨("is_move_of", none), "is_move_of", "is_move_of", defArgs st_is_move_of, defBody st_is_move_of, defScope st_is_move_of, [], []⟩
def dd_check_move_of : He.DefD := ⟨("check_move_of", none), "check_move_of", "check_move_of", defArgs st_check_move_of, defBody st_check_move_of, defScope st_check_move_of, [], []⟩
def dd_joined_moves : He.DefD := ⟨("joined_moves", none), "joined_moves", "joined_moves", defArgs st_joined_moves, defBody st_joined_moves, defScope st_joined_moves, [], []⟩
def dd_undone_move : He.DefD := ⟨("undone_move", none), "undone_move", "undone_move", defArgs st_undone_move, defBody st_undone_move, defScope st_undone_move, [], []⟩
def dd_fair_paper : He.DefD := ⟨("fair_paper", none), "fair_paper", "fair_paper", defArgs st_fair_paper, defBody st_fair_paper, defScope st_fair_paper, [], []⟩
def dd__broken_paper : He.DefD := ⟨("_broken_paper", none), "_broken_paper", "_broken_paper", defArgs st__broken_paper, defBody st__broken_paper, defScope st__broken_paper, [], []⟩
def dd__check_rows : He.DefD := ⟨("_check_rows", none), "_check_rows", "_check_rows", defArgs st__check_rows, defBody st__check_rows, defScope st__check_rows, [], []⟩
def dd__is_table_rows : He.DefD := ⟨("_is_table_rows", none), "_is_table_rows", "_is_table_rows", defArgs st__is_table_rows, defBody st__is_table_rows, defScope st__is_table_rows, [], []⟩
def dd__is_pairs : He.DefD := ⟨("_is_pairs", none), "_is_pairs", "_is_pairs", defArgs st__is_pairs, defBody st__is_pairs, defScope st__is_pairs, [], []⟩
def dd_are_fair_rows : He.DefD := ⟨("are_fair_rows", none), "are_fair_rows", "are_fair_rows", defArgs st_are_fair_rows, defBody st_are_fair_rows, defScope st_are_fair_rows, [], []⟩
def dd__pass_alike : He.DefD := ⟨("_pass_alike", none), "_pass_alike", "_pass_alike", defArgs st__pass_alike, defBody st__pass_alike, defScope st__pass_alike, [], []⟩
def dd__threes : He.DefD := ⟨("_threes", none), "_threes", "_threes", defArgs st__threes, defBody st__threes, defScope st__threes, [], []⟩
def dd__breaks_fair : He.DefD := ⟨("_breaks_fair", none), "_breaks_fair", "_breaks_fair", defArgs st__breaks_fair, defBody st__breaks_fair, defScope st__breaks_fair, [], []⟩
def dd__passed_left_first : He.DefD := ⟨("_passed_left_first", none), "_passed_left_first", "_passed_left_first", defArgs st__passed_left_first, defBody st__passed_left_first, defScope st__passed_left_first, [], []⟩
def dd__passed_right_first : He.DefD := ⟨("_passed_right_first", none), "_passed_right_first", "_passed_right_first", defArgs st__passed_right_first, defBody st__passed_right_first, defScope st__passed_right_first, [], []⟩
def dd_check_table : He.DefD := ⟨("check_table", none), "check_table", "check_table", defArgs st_check_table, defBody st_check_table, defScope st_check_table, [], []⟩
def dd__passes_twice_unchanged : He.DefD := ⟨("_passes_twice_unchanged", none), "_passes_twice_unchanged", "_passes_twice_unchanged", defArgs st__passes_twice_unchanged, defBody st__passes_twice_unchanged, defScope st__passes_twice_unchanged, [], []⟩
def dd_renamed_table_rows : He.DefD := ⟨("renamed_table_rows", none), "renamed_table_rows", "renamed_table_rows", defArgs st_renamed_table_rows, defBody st_renamed_table_rows, defScope st_renamed_table_rows, [], []⟩
def dd__pair_rows : He.DefD := ⟨("_pair_rows", none), "_pair_rows", "_pair_rows", defArgs st__pair_rows, defBody st__pair_rows, defScope st__pair_rows, [], []⟩
def dd_shadow_paper : He.DefD := ⟨("shadow_paper", none), "shadow_paper", "shadow_paper", defArgs st_shadow_paper, defBody st_shadow_paper, defScope st_shadow_paper, [], []⟩
def dd_is_shadow_paper : He.DefD := ⟨("is_shadow_paper", none), "is_shadow_paper", "is_shadow_paper", defArgs st_is_shadow_paper, defBody st_is_shadow_paper, defScope st_is_shadow_paper, [], []⟩
def dd__is_shadow : He.DefD := ⟨("_is_shadow", none), "_is_shadow", "_is_shadow", defArgs st__is_shadow, defBody st__is_shadow, defScope st__is_shadow, [], []⟩
def dd__breaks_shadow : He.DefD := ⟨("_breaks_shadow", none), "_breaks_shadow", "_breaks_shadow", defArgs st__breaks_shadow, defBody st__breaks_shadow, defScope st__breaks_shadow, [], []⟩
def dd_shadow_of : He.DefD := ⟨("shadow_of", none), "shadow_of", "shadow_of", defArgs st_shadow_of, defBody st_shadow_of, defScope st_shadow_of, [], []⟩
def dd__law_dice : He.DefD := ⟨("_law_dice", none), "_law_dice", "_law_dice", defArgs st__law_dice, defBody st__law_dice, defScope st__law_dice, [], []⟩
def dd__law_roll : He.DefD := ⟨("_law_roll", none), "_law_roll", "_law_roll", defArgs st__law_roll, defBody st__law_roll, defScope st__law_roll, [], []⟩
def dd__law_pick : He.DefD := ⟨("_law_pick", none), "_law_pick", "_law_pick", defArgs st__law_pick, defBody st__law_pick, defScope st__law_pick, [], []⟩
def dd__law_mixed : He.DefD := ⟨("_law_mixed", none), "_law_mixed", "_law_mixed", defArgs st__law_mixed, defBody st__law_mixed, defScope st__law_mixed, [], []⟩
def dd__law_orders : He.DefD := ⟨("_law_orders", none), "_law_orders", "_law_orders", defArgs st__law_orders, defBody st__law_orders, defScope st__law_orders, [], []⟩
def dd__law_joined : He.DefD := ⟨("_law_joined", none), "_law_joined", "_law_joined", defArgs st__law_joined, defBody st__law_joined, defScope st__law_joined, [], []⟩
def dd__law_undone : He.DefD := ⟨("_law_undone", none), "_law_undone", "_law_undone", defArgs st__law_undone, defBody st__law_undone, defScope st__law_undone, [], []⟩
def dd__law_drawn_move : He.DefD := ⟨("_law_drawn_move", none), "_law_drawn_move", "_law_drawn_move", defArgs st__law_drawn_move, defBody st__law_drawn_move, defScope st__law_drawn_move, [], []⟩
def dd__law_renamed_dots : He.DefD := ⟨("_law_renamed_dots", none), "_law_renamed_dots", "_law_renamed_dots", defArgs st__law_renamed_dots, defBody st__law_renamed_dots, defScope st__law_renamed_dots, [], []⟩
def dd__law_dots_likenesses : He.DefD := ⟨("_law_dots_likenesses", none), "_law_dots_likenesses", "_law_dots_likenesses", defArgs st__law_dots_likenesses, defBody st__law_dots_likenesses, defScope st__law_dots_likenesses, [], []⟩
def dd__law_keeps_dots : He.DefD := ⟨("_law_keeps_dots", none), "_law_keeps_dots", "_law_keeps_dots", defArgs st__law_keeps_dots, defBody st__law_keeps_dots, defScope st__law_keeps_dots, [], []⟩
def dd__law_union_dots : He.DefD := ⟨("_law_union_dots", none), "_law_union_dots", "_law_union_dots", defArgs st__law_union_dots, defBody st__law_union_dots, defScope st__law_union_dots, [], []⟩
def dd__law_places_of : He.DefD := ⟨("_law_places_of", none), "_law_places_of", "_law_places_of", defArgs st__law_places_of, defBody st__law_places_of, defScope st__law_places_of, [], []⟩
def dd__law_product_dots : He.DefD := ⟨("_law_product_dots", none), "_law_product_dots", "_law_product_dots", defArgs st__law_product_dots, defBody st__law_product_dots, defScope st__law_product_dots, [], []⟩
def dd__law_small_dots : He.DefD := ⟨("_law_small_dots", none), "_law_small_dots", "_law_small_dots", defArgs st__law_small_dots, defBody st__law_small_dots, defScope st__law_small_dots, [], []⟩
def dd__law_quiet_dots : He.DefD := ⟨("_law_quiet_dots", none), "_law_quiet_dots", "_law_quiet_dots", defArgs st__law_quiet_dots, defBody st__law_quiet_dots, defScope st__law_quiet_dots, [], []⟩
def dd__law_rows_of_dots : He.DefD := ⟨("_law_rows_of_dots", none), "_law_rows_of_dots", "_law_rows_of_dots", defArgs st__law_rows_of_dots, defBody st__law_rows_of_dots, defScope st__law_rows_of_dots, [], []⟩
def dd__law_left_of : He.DefD := ⟨("_law_left_of", none), "_law_left_of", "_law_left_of", defArgs st__law_left_of, defBody st__law_left_of, defScope st__law_left_of, [], []⟩
def dd__law_right_of : He.DefD := ⟨("_law_right_of", none), "_law_right_of", "_law_right_of", defArgs st__law_right_of, defBody st__law_right_of, defScope st__law_right_of, [], []⟩
def dd__law_renamed_rows : He.DefD := ⟨("_law_renamed_rows", none), "_law_renamed_rows", "_law_renamed_rows", defArgs st__law_renamed_rows, defBody st__law_renamed_rows, defScope st__law_renamed_rows, [], []⟩
def dd__law_fair_rows : He.DefD := ⟨("_law_fair_rows", none), "_law_fair_rows", "_law_fair_rows", defArgs st__law_fair_rows, defBody st__law_fair_rows, defScope st__law_fair_rows, [], []⟩
def dd__law_power : He.DefD := ⟨("_law_power", none), "_law_power", "_law_power", defArgs st__law_power, defBody st__law_power, defScope st__law_power, [], []⟩
def dd__law_shadow_rows : He.DefD := ⟨("_law_shadow_rows", none), "_law_shadow_rows", "_law_shadow_rows", defArgs st__law_shadow_rows, defBody st__law_shadow_rows, defScope st__law_shadow_rows, [], []⟩
def dd__law_is_shadow : He.DefD := ⟨("_law_is_shadow", none), "_law_is_shadow", "_law_is_shadow", defArgs st__law_is_shadow, defBody st__law_is_shadow, defScope st__law_is_shadow, [], []⟩
def dd__law_is_plain : He.DefD := ⟨("_law_is_plain", none), "_law_is_plain", "_law_is_plain", defArgs st__law_is_plain, defBody st__law_is_plain, defScope st__law_is_plain, [], []⟩
def dd__law_are_kept : He.DefD := ⟨("_law_are_kept", none), "_law_are_kept", "_law_are_kept", defArgs st__law_are_kept, defBody st__law_are_kept, defScope st__law_are_kept, [], []⟩
def dd__law_right : He.DefD := ⟨("_law_right", none), "_law_right", "_law_right", defArgs st__law_right, defBody st__law_right, defScope st__law_right, [], []⟩
def dd__law_pairs_right : He.DefD := ⟨("_law_pairs_right", none), "_law_pairs_right", "_law_pairs_right", defArgs st__law_pairs_right, defBody st__law_pairs_right, defScope st__law_pairs_right, [], []⟩
def dd_law : He.DefD := ⟨("law", none), "law", "law", defArgs st_law, defBody st_law, defScope st_law, [], []⟩
def dd_broken_paper_passing : He.DefD := ⟨("broken_paper_passing", none), "_broken_paper", "_broken_paper", defArgs st_broken_paper_passing, defBody st_broken_paper_passing, defScope st_broken_paper_passing, [], []⟩
def dd_check_rows_passing : He.DefD := ⟨("check_rows_passing", none), "_check_rows", "_check_rows", defArgs st_check_rows_passing, defBody st_check_rows_passing, defScope st_check_rows_passing, [], []⟩
def dd_check_rows_shadows : He.DefD := ⟨("check_rows_shadows", none), "_check_rows", "_check_rows", defArgs st_check_rows_shadows, defBody st_check_rows_shadows, defScope st_check_rows_shadows, [], []⟩
def dd_broken_paper_shadows : He.DefD := ⟨("broken_paper_shadows", none), "_broken_paper", "_broken_paper", defArgs st_broken_paper_shadows, defBody st_broken_paper_shadows, defScope st_broken_paper_shadows, [], []⟩
def dd_Passing____init__ : He.DefD := ⟨("Passing", some "__init__"), "__init__", "Passing.__init__", defArgs st_Passing____init__, defBody st_Passing____init__, defScope st_Passing____init__, [], []⟩
def dd_Passing____len__ : He.DefD := ⟨("Passing", some "__len__"), "__len__", "Passing.__len__", defArgs st_Passing____len__, defBody st_Passing____len__, defScope st_Passing____len__, [], []⟩
def dd_Passing____mul__ : He.DefD := ⟨("Passing", some "__mul__"), "__mul__", "Passing.__mul__", defArgs st_Passing____mul__, defBody st_Passing____mul__, defScope st_Passing____mul__, [], []⟩
def dd_Passing__renamed : He.DefD := ⟨("Passing", some "renamed"), "renamed", "Passing.renamed", defArgs st_Passing__renamed, defBody st_Passing__renamed, defScope st_Passing__renamed, [], []⟩
def fn : List He.DefD := [dd__wall, dd_is_integer, dd_is_row, dd_is_square, dd_is_same, dd_is_told, dd_is_move, dd_is_move_of, dd_check_move_of, dd_joined_moves, dd_undone_move, dd_fair_paper, dd__broken_paper, dd__check_rows, dd__is_table_rows, dd__is_pairs, dd_are_fair_rows, dd__pass_alike, dd__threes, dd__breaks_fair, dd__passed_left_first, dd__passed_right_first, dd_check_table, dd__passes_twice_unchanged, dd_renamed_table_rows, dd__pair_rows, dd_shadow_paper, dd_is_shadow_paper, dd__is_shadow, dd__breaks_shadow, dd_shadow_of, dd__law_dice, dd__law_roll, dd__law_pick, dd__law_mixed, dd__law_orders, dd__law_joined, dd__law_undone, dd__law_drawn_move, dd__law_renamed_dots, dd__law_dots_likenesses, dd__law_keeps_dots, dd__law_union_dots, dd__law_places_of, dd__law_product_dots, dd__law_small_dots, dd__law_quiet_dots, dd__law_rows_of_dots, dd__law_left_of, dd__law_right_of, dd__law_renamed_rows, dd__law_fair_rows, dd__law_power, dd__law_shadow_rows, dd__law_is_shadow, dd__law_is_plain, dd__law_are_kept, dd__law_right, dd__law_pairs_right, dd_law, dd_broken_paper_passing, dd_check_rows_passing, dd_check_rows_shadows, dd_broken_paper_shadows, dd_Passing____init__, dd_Passing____len__, dd_Passing____mul__, dd_Passing__renamed]
def fa : List He.Fa := [.glo "_wall", .glo "is_integer", .glo "is_row", .glo "is_square", .glo "is_same", .glo "is_told", .glo "is_move", .glo "is_move_of", .glo "check_move_of", .glo "joined_moves", .glo "undone_move", .glo "fair_paper", .glo "_broken_paper", .glo "_check_rows", .glo "_is_table_rows", .glo "_is_pairs", .glo "are_fair_rows", .glo "_pass_alike", .glo "_threes", .glo "_breaks_fair", .glo "_passed_left_first", .glo "_passed_right_first", .glo "check_table", .glo "_passes_twice_unchanged", .glo "renamed_table_rows", .glo "_pair_rows", .glo "shadow_paper", .glo "is_shadow_paper", .glo "_is_shadow", .glo "_breaks_shadow", .glo "shadow_of", .glo "_law_dice", .glo "_law_roll", .glo "_law_pick", .glo "_law_mixed", .glo "_law_orders", .glo "_law_joined", .glo "_law_undone", .glo "_law_drawn_move", .glo "_law_renamed_dots", .glo "_law_dots_likenesses", .glo "_law_keeps_dots", .glo "_law_union_dots", .glo "_law_places_of", .glo "_law_product_dots", .glo "_law_small_dots", .glo "_law_quiet_dots", .glo "_law_rows_of_dots", .glo "_law_left_of", .glo "_law_right_of", .glo "_law_renamed_rows", .glo "_law_fair_rows", .glo "_law_power", .glo "_law_shadow_rows", .glo "_law_is_shadow", .glo "_law_is_plain", .glo "_law_are_kept", .glo "_law_right", .glo "_law_pairs_right", .glo "law", .glo "broken_paper_passing", .glo "check_rows_passing", .glo "check_rows_shadows", .glo "broken_paper_shadows", .free "len", .free "range", .free "tuple", .free "list", .free "isinstance", .free "int", .free "bool", .free "str", .free "abs", .free "max", .free "min", .free "all", .free "any", .free "sum", .free "sorted", .free "enumerate", .free "repr", .free "set", .free "dict", .free "zip", .int "TOO_LONG" 1000000000000000000000000000000000000000000000000000000000000, .int "MAX_MOVED" 24, .int "MAX_LETTERS" 8, .glo "Passing", .cls "Passing", .mkr "Passing", .noat "Passing" "_rows", .noat "Passing" "_left", .noat "Passing" "_right", .noat "Passing" "_quiet", .meth "Passing" "__len__", .meth "Passing" "__mul__", .meth "Passing" "renamed"]
def lo0 : List PySem.Str := ["_wall", "NamesError", "InvalidMove", "InvalidTable", "TooMany", "Refused", "TOO_LONG", "is_integer", "is_row", "is_square", "is_same", "is_told", "MAX_MOVED", "is_move", "is_move_of", "check_move_of", "joined_moves", "undone_move", "MAX_LETTERS", "fair_paper", "_broken_paper", "broken_paper_passing", "_check_rows", "check_rows_passing", "_is_table_rows", "_is_pairs", "are_fair_rows", "_pass_alike", "_threes", "_breaks_fair"]
def lo1 : List PySem.Str := ["_passed_left_first", "_passed_right_first", "Passing", "check_table", "_passes_twice_unchanged", "renamed_table_rows", "_pair_rows", "shadow_paper", "is_shadow_paper", "check_rows_shadows", "_is_shadow", "broken_paper_shadows", "_breaks_shadow", "shadow_of", "_law_dice", "_law_roll", "_law_pick", "_law_mixed", "_law_orders", "_law_joined", "_law_undone", "_law_drawn_move", "_law_renamed_dots", "_law_dots_likenesses", "_law_keeps_dots", "_law_union_dots", "_law_places_of", "_law_product_dots", "_law_small_dots", "_law_quiet_dots"]
def lo2 : List PySem.Str := ["_law_rows_of_dots", "_law_left_of", "_law_right_of", "_law_renamed_rows", "_law_fair_rows", "_law_power", "_law_shadow_rows", "_law_is_shadow", "_law_is_plain", "_law_are_kept", "_law_right", "_law_pairs_right"]
def loose : List PySem.Str := lo0 ++ lo1 ++ lo2
abbrev R : PySem.W.OpenRow := PySem.W.OpenLaw.row PySem.Challenge.rw_truenames_k68_whole_shadows_of_tables
def bf : List (PySem.Str × String) := []
def xb (K : PySem.W.Frag) : Bool := He.obB K "Passing" && (He.prB K (He.ga K "Passing") "rows" && (He.gfB K (He.gtA K (He.ga K "Passing") "rows") && (He.prB K (He.ga K "Passing") "left" && (He.gfB K (He.gtA K (He.ga K "Passing") "left") && (He.prB K (He.ga K "Passing") "is_quiet" && (He.gfB K (He.gtA K (He.ga K "Passing") "is_quiet") && (PySem.W.selfFirst K (He.ga K "Passing"))))))))
def xf (K : PySem.W.Frag) : List He.FnB := [He.fnB K (He.gtA K (He.ga K "Passing") "rows"), He.fnB K (He.gtA K (He.ga K "Passing") "left"), He.fnB K (He.gtA K (He.ga K "Passing") "is_quiet")]
def vl (q : PySem.Str) (n : PySem.Str) (st : Stmt) : He.FnB := some (n, q, defArgs st, FuncBody.stmts (defBody st), defScope st, mainGlobals, builtinsNs)
def vals : List He.FnB := [vl "Passing.rows" "rows" st_Passing__rows, vl "Passing.left" "left" st_Passing__left, vl "Passing.is_quiet" "is_quiet" st_Passing__is_quiet]
def as0 : List PySem.Addr := [2, 3, 6, 4, 21, 31, 44, 56, 77, 99, 109, 116, 121, 126, 133, 140, 147, 154, 159, 164, 171, 443, 178, 433, 185, 190, 195, 200, 207, 212, 219, 226, 233, 384, 395, 402, 407, 412, 419, 426, 438, 450, 455, 462, 469, 476, 483, 488, 493, 498, 505, 510, 515, 520, 525, 530, 535, 540, 547, 552]
def as1 : List PySem.Addr := [557, 562, 567, 572, 579, 586, 591, 596, 601, 606, 613, 620, 0, 20, 30, 43, 55, 76, 98, 108, 115, 120, 125, 132, 139, 146, 153, 158, 163, 170, 442, 177, 432, 184, 189, 194, 199, 206, 211, 218, 225, 232, 383, 394, 401, 406, 411, 418, 425, 437, 449, 454, 461, 468, 475, 482, 487, 492, 497, 504]
def as2 : List PySem.Addr := [509, 514, 519, 524, 529, 534, 539, 546, 551, 556, 561, 566, 571, 578, 585, 590, 595, 600, 605, 612, 619, 15, 16, 17, 18, 19, 29, 32, 42, 54, 74, 75, 78, 96, 97, 100, 103, 104, 105, 106, 107, 110, 111, 112, 113, 114, 117, 118, 119, 122, 123, 124, 127, 128, 129, 130, 131, 134, 135, 136]
def as3 : List PySem.Addr := [137, 138, 141, 142, 143, 144, 145, 148, 149, 150, 151, 152, 155, 156, 157, 160, 161, 162, 165, 166, 167, 168, 169, 439, 440, 441, 172, 173, 174, 175, 176, 427, 428, 429, 430, 431, 179, 180, 181, 182, 183, 186, 187, 188, 191, 192, 193, 196, 197, 198, 201, 202, 203, 204, 205, 208, 209, 210, 213, 214]
def as4 : List PySem.Addr := [215, 216, 217, 220, 221, 222, 223, 224, 227, 228, 229, 230, 231, 245, 254, 264, 274, 284, 293, 301, 309, 317, 325, 332, 339, 346, 353, 360, 367, 374, 381, 382, 385, 386, 389, 390, 391, 392, 393, 396, 397, 398, 399, 400, 403, 404, 405, 408, 409, 410, 413, 414, 415, 416, 417, 420, 421, 422, 423, 424]
def as5 : List PySem.Addr := [434, 435, 436, 444, 445, 446, 447, 448, 451, 452, 453, 456, 457, 458, 459, 460, 463, 464, 465, 466, 467, 470, 471, 472, 473, 474, 477, 478, 479, 480, 481, 484, 485, 486, 489, 490, 491, 494, 495, 496, 499, 500, 501, 502, 503, 506, 507, 508, 511, 512, 513, 516, 517, 518, 521, 522, 523, 526, 527, 528]
def as6 : List PySem.Addr := [531, 532, 533, 536, 537, 538, 541, 542, 543, 544, 545, 548, 549, 550, 553, 554, 555, 558, 559, 560, 563, 564, 565, 568, 569, 570, 573, 574, 575, 576, 577, 580, 581, 582, 583, 584, 587, 588, 589, 592, 593, 594, 597, 598, 599, 602, 603, 604, 607, 608, 609, 610, 611, 614, 615, 616, 617, 618, 73, 62]
def as7 : List PySem.Addr := [95, 84, 244, 252, 253, 262, 263, 272, 273, 282, 283, 292, 300, 308, 316, 324, 331, 338, 345, 352, 359, 366, 373, 380, 68, 69, 70, 71, 72, 90, 91, 92, 93, 94, 241, 242, 243, 251, 255, 261, 265, 271, 275, 281, 285, 291, 299, 307, 315, 323, 326, 327, 328, 329, 330, 333, 334, 335, 336, 337]
def as8 : List PySem.Addr := [340, 341, 342, 343, 344, 347, 348, 349, 350, 351, 354, 355, 356, 357, 358, 361, 362, 363, 364, 365, 368, 369, 370, 371, 372, 375, 376, 377, 378, 379]
def asL : List PySem.Addr := as0 ++ as1 ++ as2 ++ as3 ++ as4 ++ as5 ++ as6 ++ as7 ++ as8
abbrev hk : PySem.W.Hook := He.hookL asL bf fa fn xb xf vals
def ob (s : PySem.W.SharedT) : He.AlD × List He.FnB := He.obsLG asL bf fa fn xb xf (HandSHeadRun.getT s)
theorem ob_eq (s : PySem.W.SharedT) : ob s = hk.obs s.abs := He.obsLG_eq (HandSHeadRun.getT_eq s)
theorem run (w : World) : HandSHeadRun.RunEq R (PySem.W.view R.prog [80]) hk ob 6000 loose w := by
  intro os
  kernel_rfl
end Hd
set_option Elab.async false
set_option linter.all false
set_option maxRecDepth 100000
set_option autoImplicit false
set_option maxHeartbeats 4000000
namespace Dn
open PySem L2 Evl
section
variable {X : Cx} {a b c : Expr} {fa fb fc : DE} {pos : Pos}
theorem ex_new {O : Addr → Prop} {H : Hp} {p : Addr} {o : HO} (h : H p = none) : Ex (hide O H) (hide O (upd H p o)) := hide_grow (Ex.new h)
theorem rp_newL {K : PySem.W.Frag} {O : Addr → Prop} {H : Hp} {p : Addr} {vs : List V} {ds : List D} (hO : ∀ a, O a → H a ≠ none) (h : H p = none) (r : RpAll K (hide O H) vs ds) : Rp K (hide O (upd H p (.lst vs))) (.ref p) (.list ds) := .lst (hide_new hO h) (r.mono (ex_new h))
theorem rp_newT {K : PySem.W.Frag} {O : Addr → Prop} {H : Hp} {p : Addr} {vs : List V} {ds : List D} (hO : ∀ a, O a → H a ≠ none) (h : H p = none) (r : RpAll K (hide O H) vs ds) : Rp K (hide O (upd H p (.tup vs))) (.ref p) (.tuple ds) := .tup (hide_new hO h) (r.mono (ex_new h))
theorem lt_of {K : PySem.W.Frag} {H : Hp} {a : Addr} {xs : List V} (h : H a = some (.tup xs)) : SqT K H a xs := .inl (.inl h)
theorem sqt_of {K : PySem.W.Frag} {O : Addr → Prop} {H : Hp} {a : Addr} {xs : List V} (h : hide O H a = some (.tup xs)) : SqT K H a xs := lt_of (hide_ex _ _ h)
theorem sql_of {K : PySem.W.Frag} {O : Addr → Prop} {H : Hp} {a : Addr} {xs : List V} (h : SqL K (hide O H) a xs) : SqL K H a xs := ex_l hide_ex h
theorem at_of {O : Addr → Prop} {H : Hp} {a : Addr} {o : HO} (h : hide O H a = some o) : H a = some o := (hide_some.1 h).2
def dAdd : D → D → (D → Prop) → Prop
  | .int i, .int j => fun Q => Q (.int (i + j))
  | .tuple xs, .tuple ys => fun Q => xs.length + ys.length ≤ 16777216 ∧ Q (.tuple (xs ++ ys))
  | .list xs, .list ys => fun Q => xs.length + ys.length ≤ 16777216 ∧ Q (.list (xs ++ ys))
  | .str x, .str y => fun Q => x.length + y.length ≤ 16777216 ∧ Q (.str (x ++ y))
  | _, _ => fun _ => False
theorem opd_add : OpD X (binaryOp .Add) dAdd := by
  refine ⟨_, .or op_add (.or op_catA (.or op_cat op_add_str)), fun O H x y d e QD Q hO rx ry h k => ?_⟩
  cases rx <;> cases ry <;> first | exact False.elim h | skip
  · exact .inl ⟨_, _, rfl, rfl, k _ _ H (.refl H) (.int _) h⟩
  · obtain ⟨hz, h⟩ := h
    exact .inr (.inr (.inr ⟨_, _, rfl, rfl, hz, k _ _ H (.refl H) (.str _) h⟩))
  · rename_i p xs ds hp rp q ys es hq rq
    obtain ⟨hz, h⟩ := h
    refine .inr (.inr (.inl ⟨_, _, _, _, rfl, rfl, at_of hp, at_of hq, by rw [rp.length, rq.length]; exact hz, fun l hl => k _ _ _ (Ex.new hl) (rp_newL hO hl (rp.append rq)) h⟩))
  · rename_i p xs ds hp rp q ys es hq rq
    obtain ⟨hz, h⟩ := h
    refine .inr (.inl ⟨_, _, _, _, rfl, rfl, sqt_of hp, sqt_of hq, by rw [rp.length, rq.length]; exact hz, fun e => ?_, fun _ e => ?_, fun _ _ l hl => k _ _ _ (Ex.new hl) (rp_newT hO hl (rp.append rq)) h⟩)
    · subst e; cases rp; exact k _ _ H (.refl H) (.tup hq rq) h
    · subst e; cases rq; exact k _ _ H (.refl H) (.tup hp rp) (by simpa using h)
def dI2 (C : Int → Int → Prop) (g : Int → Int → D) : D → D → (D → Prop) → Prop
  | .int i, .int j => fun Q => C i j ∧ Q (g i j)
  | _, _ => fun _ => False
theorem opd_i2 {f : Value → Value → Sem Value} {C : Int → Int → Prop} {g : Int → Int → D} {gv : Int → Int → V} (ho : OpR X f (rI C gv)) (hg : ∀ i j G, Rp X.K G (gv i j) (g i j)) : OpD X f (dI2 C g) := by
  refine ⟨_, ho, fun O H x y d e QD Q hO rx ry h k => ?_⟩
  cases rx <;> cases ry <;> first | exact False.elim h | skip
  exact ⟨_, _, rfl, rfl, h.1, k _ _ H (.refl H) (hg _ _ _) h.2⟩
theorem opd_i2' {f : Value → Value → Sem Value} {g : Int → Int → D} {gv : Int → Int → V} (ho : OpR X f (rI0 gv)) (hg : ∀ i j G, Rp X.K G (gv i j) (g i j)) : OpD X f (dI2 (fun _ _ => True) g) := by
  refine ⟨_, ho, fun O H x y d e QD Q hO rx ry h k => ?_⟩
  cases rx <;> cases ry <;> first | exact False.elim h | skip
  exact ⟨_, _, rfl, rfl, k _ _ H (.refl H) (hg _ _ _) h.2⟩
abbrev dSub := dI2 (fun _ _ => True) fun i j => .int (i - j)
abbrev dFdiv := dI2 CDivW fun i j => .int (i / j)
abbrev dMod := dI2 (fun _ j => 0 < j) fun i j => .int (i % j)
abbrev dPow := dI2 CPow fun i j => .int (i ^ j.toNat)
abbrev dLt := dI2 (fun _ _ => True) fun i j => .bool (decide (i < j))
abbrev dLe := dI2 (fun _ _ => True) fun i j => .bool (decide (i ≤ j))
abbrev dGt := dI2 (fun _ _ => True) fun i j => .bool (decide (j < i))
abbrev dGe := dI2 (fun _ _ => True) fun i j => .bool (decide (j ≤ i))
theorem opd_sub : OpD X (binaryOp .Sub) dSub := opd_i2' op_sub fun _ _ _ => .int _
theorem opd_fdiv : OpD X (binaryOp .FloorDiv) dFdiv := opd_i2 op_fdivW fun _ _ _ => .int _
theorem opd_mod : OpD X (binaryOp .Mod) dMod := opd_i2 op_mod fun _ _ _ => .int _
theorem opd_pow : OpD X (binaryOp .Pow) dPow := opd_i2 op_pow fun _ _ _ => .int _
theorem opd_lt : OpD X (compareOp .Lt) dLt := opd_i2' op_lt fun _ _ _ => .bl _
theorem opd_le : OpD X (compareOp .LtE) dLe := opd_i2' op_le fun _ _ _ => .bl _
theorem opd_gt : OpD X (compareOp .Gt) dGt := opd_i2' op_gt fun _ _ _ => .bl _
mutual
theorem Rp.dp {K : PySem.W.Frag} {O : Addr → Prop} {H : Hp} : ∀ {v : V} {d : D}, Rp K (hide O H) v d → d.canLay0 = true → Dp K H v d
  | _, _, .non, _ => .non
  | _, _, .bl _, _ => .bl _
  | _, _, .int _, _ => .int _
  | _, _, .str _, _ => .str _
  | _, _, .lst h r, c => .lst (.inl (.inl (at_of h))) (RpAll.dp r (by simpa only [PyData.canLay0] using c))
  | _, _, .tup h r, c => .tup (sqt_of h) (RpAll.dp r (by simpa only [PyData.canLay0] using c))
  | _, _, .dct _ _ _, c => by simp [PyData.canLay0] at c
  | _, _, .frz _ _, c => by simp [PyData.canLay0] at c
  | _, _, .ins _ _ _ z, c => by subst z; simp [PyData.canLay0] at c
theorem RpAll.dp {K : PySem.W.Frag} {O : Addr → Prop} {H : Hp} : ∀ {v : List V} {d : List D}, RpAll K (hide O H) v d → PyData.canLayAll0 d = true → DpAll K H v d
  | _, _, .nil, _ => .nil
  | _, _, .cons h r, c => by
    simp only [PyData.canLayAll0, Bool.and_eq_true] at c
    exact .cons (Rp.dp h c.1) (RpAll.dp r c.2)
end
theorem shaped_lay {d : D} (h : SeqAt.shaped d = true) : d.canLay0 = true := by
  unfold SeqAt.shaped at h; rw [Bool.and_eq_true] at h; exact h.1
def dEq : D → D → (D → Prop) → Prop := fun x y Q => SeqAt.shaped x = true ∧ SeqAt.shaped y = true ∧ Q (.bool (PyData.eqv x y))
def dNe : D → D → (D → Prop) → Prop := fun x y Q => SeqAt.shaped x = true ∧ SeqAt.shaped y = true ∧ Q (.bool (!PyData.eqv x y))
theorem opd_eq (hu : X.A.units + 64 < cLine) : OpD X (compareOp .Eq) dEq := by
  refine ⟨_, op_eqD hu, fun O H x y d e QD Q hO rx ry h k => ?_⟩
  exact ⟨d, e, rx.dp (shaped_lay h.1), ry.dp (shaped_lay h.2.1), h.1, h.2.1, k _ _ H (.refl H) (.bl _) h.2.2⟩
theorem opd_ne (hu : X.A.units + 64 < cLine) : OpD X (compareOp .NotEq) dNe := by
  refine ⟨_, op_neD hu, fun O H x y d e QD Q hO rx ry h k => ?_⟩
  exact ⟨d, e, rx.dp (shaped_lay h.1), ry.dp (shaped_lay h.2.1), h.1, h.2.1, k _ _ H (.refl H) (.bl _) h.2.2⟩
def isN : D → Bool
  | .none => true
  | _ => false
def dIs : D → D → (D → Prop) → Prop
  | x, .none => fun Q => Q (.bool (isN x))
  | .bool x, .bool y => fun Q => Q (.bool (decide (x = y)))
  | _, _ => fun _ => False
def dIsNot : D → D → (D → Prop) → Prop
  | x, .none => fun Q => Q (.bool (!isN x))
  | .bool x, .bool y => fun Q => Q (.bool (!decide (x = y)))
  | _, _ => fun _ => False
def dChain (op op' : D → D → (D → Prop) → Prop) (fa fb fc : DE) : DE := fun ρ Q => fa ρ fun x ρ1 => fb ρ1 fun y ρ2 => op x y fun z => match z with
  | .bool true => fc ρ2 fun w ρ3 => op' y w fun z => Q z ρ3
  | .bool false => Q (.bool false) ρ2
  | _ => False
theorem je_chain {o o' : CmpOp} {op op' : D → D → (D → Prop) → Prop} (ho : OpD X (compareOp o) op) (ho' : OpD X (compareOp o') op') (ha : JE X a fa) (hb : JE X b fb) (hc : JE X c fc) (hm : lastMarks [o, o'] [b, c] = false := by with_unfolding_all rfl) :
    JE X (.Compare a [o, o'] [b, c] pos) (dChain op op' fa fb fc) := by
  obtain ⟨r, h1, h2⟩ := ho.ex
  obtain ⟨r', h1', h2'⟩ := ho'.ex
  obtain ⟨ta, pa, ka⟩ := ha.ex
  obtain ⟨tb, pb, kb⟩ := hb.ex
  obtain ⟨tc, pc, kc⟩ := hc.ex
  refine ⟨_, pe_chain h1 h1' pa pb pc hm, fun T ρ σ H QD Q r h k => ?_⟩
  refine ka T ρ σ H _ _ r h fun d ρ1 v H1 r1 p1 v1 h => ?_
  refine kb T ρ1 σ H1 _ _ r1 h fun e ρ2 w H2 r2 p2 v2 h => ?_
  refine h2 (Hd T ρ2 σ) H2 v w d e _ _ (fun a => r2.hdDom) (v1.mono p2.fz) v2 h fun z u H3 e3 v3 h => ?_
  have r3 := r2.grow e3
  have p3 : Po ρ2 σ H2 ρ2 σ H3 := .grow e3
  cases v3 with
  | bl q =>
    refine ⟨q, rfl, ?_⟩
    cases q with
    | false => exact k _ _ _ _ r3 ((p1.trans p2).trans p3) (.bl _) h
    | true =>
      rw [if_pos rfl]
      refine kc T ρ2 σ H3 _ _ r3 h fun g ρ4 y H4 r4 p4 v4 h => ?_
      refine h2' (Hd T ρ4 σ) H4 w y e g _ _ (fun a => r4.hdDom) ((v2.mono p3.fz).mono p4.fz) v4 h fun z u H5 e5 v5 h => ?_
      exact k z ρ4 u H5 (r4.grow e5) (((p1.trans p2).trans p3).trans (p4.trans (.grow e5))) v5 h
  | _ => exact False.elim h
def dAnd (fa fb : DE) : DE := fun ρ Q => fa ρ fun x ρ1 => match x with
  | .bool true => fb ρ1 Q
  | .bool false => Q (.bool false) ρ1
  | _ => False
def dOr (fa fb : DE) : DE := fun ρ Q => fa ρ fun x ρ1 => match x with
  | .bool true => Q (.bool true) ρ1
  | .bool false => fb ρ1 Q
  | _ => False
def dNot (fa : DE) : DE := fun ρ Q => fa ρ fun x ρ1 => match x with
  | .bool b => Q (.bool (!b)) ρ1
  | _ => False
variable {rest : List Expr}
theorem je_one {op} (ha : JE X a fa) : JE X (.BoolOp op [a] pos) fa := let ⟨t, p, k⟩ := ha.ex; ⟨t, pe_one p, k⟩
theorem je_and (ha : JE X a fa) (hb : JE X (.BoolOp .And (b :: rest) pos) fb) : JE X (.BoolOp .And (a :: b :: rest) pos) (dAnd fa fb) := by
  obtain ⟨ta, pa, ka⟩ := ha.ex
  obtain ⟨tb, pb, kb⟩ := hb.ex
  refine ⟨_, pe_and pa pb, fun T ρ σ H QD Q r h k => ?_⟩
  refine ka T ρ σ H _ _ r h fun d ρ1 v H1 r1 p1 v1 h => ?_
  cases v1 with
  | bl q =>
    refine ⟨q, rfl, ?_⟩
    cases q with
    | false => exact k _ _ _ _ r1 p1 (.bl _) h
    | true => exact kb T ρ1 σ H1 _ _ r1 h fun e ρ2 w H2 r2 p2 v2 h => k _ _ _ _ r2 (p1.trans p2) v2 h
  | _ => exact False.elim h
def dNeg (fa : DE) : DE := fun ρ Q => fa ρ fun x ρ1 => match x with
  | .int i => Q (.int (-i)) ρ1
  | _ => False
theorem je_neg (ha : JE X a fa) : JE X (.UnaryOp .USub a pos) (dNeg fa) := by
  obtain ⟨ta, pa, ka⟩ := ha.ex
  refine ⟨_, pe_un un_neg pa, fun T ρ σ H QD Q r h k => ?_⟩
  refine ka T ρ σ H _ _ r h fun d ρ1 v H1 r1 p1 v1 h => ?_
  cases v1 with
  | int q => exact ⟨q, rfl, k _ _ _ _ r1 p1 (.int _) h⟩
  | _ => exact False.elim h
def dTst (fa : DE) : DT := fun ρ Q => fa ρ fun x ρ1 => match x with
  | .bool b => Q b ρ1
  | _ => False
theorem jt_val (ha : JE X a fa) (he : ∀ whole, isTrue a X.env whole = (do let v ← whole; standAt a.pos; holding [v] (truthy v)) := by intro _; rfl) : JT X a (dTst fa) := by
  obtain ⟨ta, pa, ka⟩ := ha.ex
  refine ⟨_, pt_val pa he, fun T ρ σ H QD Q r h k => ?_⟩
  refine ka T ρ σ H _ _ r h fun d ρ1 v H1 r1 p1 v1 h => ?_
  cases v1 with
  | bl q => exact ⟨q, rfl, k _ _ _ r1 p1 h⟩
  | _ => exact False.elim h
theorem jt_cmp {o : CmpOp} {op : D → D → (D → Prop) → Prop} (ho : OpD X (compareOp o) op) (ha : JE X a fa) (hb : JE X b fb) (hm : behindInMarks o b = false) : JT X (.Compare a [o] [b] pos) (dTst (dBin op fa fb)) := by
  obtain ⟨r, h1, h2⟩ := ho.ex
  obtain ⟨ta, pa, ka⟩ := ha.ex
  obtain ⟨tb, pb, kb⟩ := hb.ex
  refine ⟨_, pt_cmpR h1 pa pb hm, fun T ρ σ H QD Q r h k => ?_⟩
  refine ka T ρ σ H _ _ r h fun d ρ1 v H1 r1 p1 v1 h => ?_
  refine kb T ρ1 σ H1 _ _ r1 h fun e ρ2 w H2 r2 p2 v2 h => ?_
  refine h2 (Hd T ρ2 σ) H2 v w d e _ _ (fun a => r2.hdDom) (v1.mono p2.fz) v2 h fun z u H3 e3 v3 h => ?_
  cases v3 with
  | bl q => exact ⟨q, rfl, k _ _ _ (r2.grow e3) ((p1.trans p2).trans (.grow e3)) h⟩
  | _ => exact False.elim h
def dTNot (f : DT) : DT := fun ρ Q => f ρ fun b ρ1 => Q (!b) ρ1
variable {gA gB : DT}
theorem jt_not (ha : JT X a gA) : JT X (.UnaryOp .Not a pos) (dTNot gA) := by
  obtain ⟨ta, pa, ka⟩ := ha.ex
  refine ⟨_, pt_not pa, fun T ρ σ H QD Q r h k => ?_⟩
  exact ka T ρ σ H _ _ r h fun d ρ1 H1 r1 p1 h => k _ _ _ r1 p1 h
def dTAnd (f g : DT) : DT := fun ρ Q => f ρ fun b ρ1 => if b = true then g ρ1 Q else Q false ρ1
def dTOr (f g : DT) : DT := fun ρ Q => f ρ fun b ρ1 => if b = true then Q true ρ1 else g ρ1 Q
structure JW (X : Cx) (e : Expr) (f : DT) : Prop where
  ex : ∃ t, PW X e t ∧ ∀ (T : Addr → Prop) (ρ : Env) (σ : L2.St) (H : Hp) (QD : Bool → Env → Prop) (Q : Bool → Hp → Prop), RS X.K T ρ σ H → f ρ QD →
    (∀ b ρ' H', RS X.K T ρ' σ H' → Po ρ σ H ρ' σ H' → QD b ρ' → Q b H') → t σ H Q
theorem JW.jt (h : JW X a gA) : JT X a gA := let ⟨t, p, k⟩ := h.ex; ⟨t, p.pt, k⟩
theorem jw_and1 (ha : JT X a gA) : JW X (.BoolOp .And [a] pos) gA := let ⟨t, p, k⟩ := ha.ex; ⟨t, pw_and1 p, k⟩
theorem jw_or1 (ha : JT X a gA) : JW X (.BoolOp .Or [a] pos) gA := let ⟨t, p, k⟩ := ha.ex; ⟨t, pw_or1 p, k⟩
theorem jw_and (ha : JT X a gA) (hb : JW X (.BoolOp .And (b :: rest) pos) gB) : JW X (.BoolOp .And (a :: b :: rest) pos) (dTAnd gA gB) := by
  obtain ⟨ta, pa, ka⟩ := ha.ex
  obtain ⟨tb, pb, kb⟩ := hb.ex
  refine ⟨_, pw_and pa pb, fun T ρ σ H QD Q r h k => ?_⟩
  refine ka T ρ σ H _ _ r h fun b ρ1 H1 r1 p1 h => ?_
  cases b with
  | true => exact kb T ρ1 σ H1 _ _ r1 h fun e ρ2 H2 r2 p2 h => k _ _ _ r2 (p1.trans p2) h
  | false => exact k _ _ _ r1 p1 h
theorem jw_or (ha : JT X a gA) (hb : JW X (.BoolOp .Or (b :: rest) pos) gB) : JW X (.BoolOp .Or (a :: b :: rest) pos) (dTOr gA gB) := by
  obtain ⟨ta, pa, ka⟩ := ha.ex
  obtain ⟨tb, pb, kb⟩ := hb.ex
  refine ⟨_, pw_or pa pb, fun T ρ σ H QD Q r h k => ?_⟩
  refine ka T ρ σ H _ _ r h fun b ρ1 H1 r1 p1 h => ?_
  cases b with
  | true => exact k _ _ _ r1 p1 h
  | false => exact kb T ρ1 σ H1 _ _ r1 h fun e ρ2 H2 r2 p2 h => k _ _ _ r2 (p1.trans p2) h
def dIfE (g : DT) (fa fb : DE) : DE := fun ρ Q => g ρ fun b ρ1 => if b = true then fa ρ1 Q else fb ρ1 Q
theorem je_if (hc : JT X c gA) (ha : JE X a fa) (hb : JE X b fb) : JE X (.IfExp c a b pos) (dIfE gA fa fb) := by
  obtain ⟨tc, pc, kc⟩ := hc.ex
  obtain ⟨ta, pa, ka⟩ := ha.ex
  obtain ⟨tb, pb, kb⟩ := hb.ex
  refine ⟨_, pe_ifExp pc pa pb, fun T ρ σ H QD Q r h k => ?_⟩
  refine kc T ρ σ H _ _ r h fun b ρ1 H1 r1 p1 h => ?_
  cases b with
  | true => exact ka T ρ1 σ H1 _ _ r1 h fun e ρ2 w H2 r2 p2 v2 h => k _ _ _ _ r2 (p1.trans p2) v2 h
  | false => exact kb T ρ1 σ H1 _ _ r1 h fun e ρ2 w H2 r2 p2 v2 h => k _ _ _ _ r2 (p1.trans p2) v2 h
end
end Dn
set_option Elab.async false
set_option linter.all false
set_option maxRecDepth 100000
set_option autoImplicit false
set_option maxHeartbeats 4000000
namespace Dn
open PySem L2 Evl
section
variable {K : PySem.W.Frag} {T T' : Addr → Prop} {ρ ρ' ρ1 : Env} {σ σ' σ1 : L2.St} {H H' H1 : Hp}
def plus (T : Addr → Prop) (p : Addr) : Addr → Prop := fun a => a = p ∨ T a
theorem hide_sub {O O' : Addr → Prop} (h : ∀ a, O' a → O a) : Ex (hide O H) (hide O' H) := fun a o e => hide_some.2 ⟨fun w => (hide_some.1 e).1 (h a w), (hide_some.1 e).2⟩
theorem RS.sub (r : RS K T ρ σ H) (h : ∀ a, T' a → T a) : RS K T' ρ σ H := by
  have e : Ex (hide (Hd T ρ σ) H) (hide (Hd T' ρ σ) H) := hide_sub fun a w => w.elim (fun t => .inl (h a t)) .inr
  refine ⟨r.len, fun i d q => ?_, fun i m q => ?_, r.inj, fun a t => r.dis a (h a t), fun a t => r.dom a (h a t), r.tag⟩
  · obtain ⟨v, h1, h2⟩ := r.im i d q; exact ⟨v, h1, h2.mono e⟩
  · obtain ⟨a, o, h1, h2, h3⟩ := r.ow i m q; exact ⟨a, o, h1, h2, h3.mono e⟩
theorem RS.unplus {p : Addr} (r : RS K (plus T p) ρ σ H) : RS K T ρ σ H := r.sub fun _ t => .inr t
theorem hd_unplus {p : Addr} : Ex (hide (Hd (plus T p) ρ σ) H) (hide (Hd T ρ σ) H) := hide_sub fun a w => w.elim (fun t => .inl (.inr t)) .inr
theorem RS.laid {p : Addr} {o : HO} (r : RS K T ρ σ H) (h : H p = none) (hnt : ∀ xs, o ≠ .tup xs := by intro _ z; cases z) : RS K (plus T p) ρ σ (upd H p o) := by
  have r1 := r.grow (Ex.new (o := o) h)
  have e : Ex (hide (Hd T ρ σ) H) (hide (Hd (plus T p) ρ σ) (upd H p o)) := fun a u w => by
    obtain ⟨n, w⟩ := hide_some.1 w
    refine hide_some.2 ⟨?_, by rw [upd_ne (ne_of_none w h)]; exact w⟩
    rintro ((t | t) | t)
    · subst t; rw [h] at w; cases w
    · exact n (.inl t)
    · exact n (.inr t)
  refine ⟨r.len, fun i d q => ?_, fun i m q => ?_, r.inj, fun a t => ?_, fun a t => ?_, r.tag⟩
  · obtain ⟨v, h1, h2⟩ := r.im i d q; exact ⟨v, h1, h2.mono e⟩
  · obtain ⟨a, u, h1, h2, h3⟩ := r.ow i m q; exact ⟨a, u, h1, by rw [upd_ne (ne_of_none h2 h)]; exact h2, h3.mono e⟩
  · rcases t with t | t
    · subst t; intro w; exact r.ownDom w h
    · exact r.dis a t
  · rcases t with t | t
    · subst t; exact Lv.at hnt
    · exact r1.dom a t
theorem hd_laid {p : Addr} {o : HO} (h : H p = none) : Ex (hide (Hd T ρ σ) H) (hide (Hd (plus T p) ρ σ) (upd H p o)) := fun a u w => by
  obtain ⟨n, w⟩ := hide_some.1 w
  refine hide_some.2 ⟨?_, by rw [upd_ne (ne_of_none w h)]; exact w⟩
  rintro ((t | t) | t)
  · subst t; rw [h] at w; cases w
  · exact n (.inl t)
  · exact n (.inr t)
theorem getset {α : Type} {l : List (Option α)} {i j : Nat} {x y : Option α} (h : (l.set i x)[j]? = some y) : (i = j ∧ i < l.length ∧ y = x) ∨ (i ≠ j ∧ l[j]? = some y) := by
  by_cases e : i = j
  · subst e
    by_cases l1 : i < l.length
    · rw [List.getElem?_set_self l1] at h; cases h; exact .inl ⟨rfl, l1, rfl⟩
    · rw [List.getElem?_eq_none_iff.mpr (by rw [List.length_set]; omega)] at h; cases h
  · rw [List.getElem?_set_ne e] at h; exact .inr ⟨e, h⟩
theorem own_setIm {i : Nat} {d : D} {v : Option V} {a : Addr} (w : Own (ρ.set i (some (SV.im d))) (σ.set i v) a) : Own ρ σ a := by
  obtain ⟨j, m, h1, h2⟩ := w
  rcases getset h1 with ⟨_, _, h⟩ | ⟨ne, h⟩
  · cases h
  · rw [List.getElem?_set_ne ne] at h2; exact ⟨j, m, h, h2⟩
theorem RS.setIm {i : Nat} {v : V} {d : D} (r : RS K T ρ σ H) (h : Rp K (hide (Hd T ρ σ) H) v d) : RS K T (ρ.set i (some (SV.im d))) (σ.set i (some v)) H := by
  have e : Ex (hide (Hd T ρ σ) H) (hide (Hd T (ρ.set i (some (SV.im d))) (σ.set i (some v))) H) := hide_sub fun a w => w.elim .inl fun w => .inr (own_setIm w)
  refine ⟨by simp [r.len], fun j d' q => ?_, fun j m q => ?_, fun j k m m' a q1 q2 q3 q4 => ?_, fun a t w => r.dis a t (own_setIm w), r.dom, fun j p m a q1 q2 => ?_⟩
  · rcases getset q with ⟨e1, l, h1⟩ | ⟨ne, h1⟩
    · cases h1; subst e1
      exact ⟨v, List.getElem?_set_self (by rw [← r.len]; exact l), h.mono e⟩
    · obtain ⟨u, h2, h3⟩ := r.im j d' h1
      exact ⟨u, by rw [List.getElem?_set_ne ne]; exact h2, h3.mono e⟩
  · rcases getset q with ⟨_, _, h1⟩ | ⟨ne, h1⟩
    · cases h1
    · obtain ⟨a, o, h2, h3, h4⟩ := r.ow j m h1
      exact ⟨a, o, by rw [List.getElem?_set_ne ne]; exact h2, h3, h4.mono e⟩
  · rcases getset q1 with ⟨_, _, h1⟩ | ⟨n1, h1⟩
    · cases h1
    · rcases getset q2 with ⟨_, _, h2⟩ | ⟨n2, h2⟩
      · cases h2
      · rw [List.getElem?_set_ne n1] at q3; rw [List.getElem?_set_ne n2] at q4
        exact r.inj j k m m' a h1 h2 q3 q4
  · rcases getset q1 with ⟨_, _, h1⟩ | ⟨n1, h1⟩
    · cases h1
    · rw [List.getElem?_set_ne n1] at q2; exact r.tag j p m a h1 q2
theorem Po.setIm {i : Nat} {v : V} {d : D} : Po ρ σ H (ρ.set i (some (SV.im d))) (σ.set i (some v)) H := ⟨fun _ _ _ h => h, fun a w => .inl (own_setIm w), fun _ h => h⟩
theorem own_setOw {i : Nat} {m : MO} {p a : Addr} (w : Own (ρ.set i (some (SV.ow m))) (σ.set i (some (V.ref p))) a) : a = p ∨ Own ρ σ a := by
  obtain ⟨j, m', h1, h2⟩ := w
  rcases getset h1 with ⟨e, _, h⟩ | ⟨ne, h⟩
  · subst e
    rcases getset h2 with ⟨_, _, h⟩ | ⟨ne, _⟩
    · cases h; exact .inl rfl
    · exact absurd rfl ne
  · rw [List.getElem?_set_ne ne] at h2; exact .inr ⟨j, m', h, h2⟩
theorem RS.setOw {i : Nat} {p : Addr} {m : MO} {o : HO} (r : RS K (plus T p) ρ σ H) (ho : H p = some o) (h : RpO K (hide (Hd (plus T p) ρ σ) H) m o) (hT : ¬ T p) (hm : ∀ q m', m = .par q m' → p = q) : RS K T (ρ.set i (some (SV.ow m))) (σ.set i (some (V.ref p))) H := by
  have hp : ¬ Own ρ σ p := r.dis p (.inl rfl)
  have e : Ex (hide (Hd (plus T p) ρ σ) H) (hide (Hd T (ρ.set i (some (SV.ow m))) (σ.set i (some (V.ref p)))) H) := hide_sub fun a w => w.elim (fun t => .inl (.inr t)) fun w => (own_setOw w).elim (fun q => .inl (.inl q)) .inr
  refine ⟨by simp [r.len], fun j d' q => ?_, fun j m' q => ?_, fun j k m1 m2 a q1 q2 q3 q4 => ?_, fun a t w => ?_, fun a t => r.dom a (.inr t), fun j q m1 a q1 q2 => ?_⟩
  · rcases getset q with ⟨_, _, h1⟩ | ⟨ne, h1⟩
    · cases h1
    · obtain ⟨u, h2, h3⟩ := r.im j d' h1
      exact ⟨u, by rw [List.getElem?_set_ne ne]; exact h2, h3.mono e⟩
  · rcases getset q with ⟨e1, l, h1⟩ | ⟨ne, h1⟩
    · cases h1; subst e1
      exact ⟨p, o, List.getElem?_set_self (by rw [← r.len]; exact l), ho, h.mono e⟩
    · obtain ⟨a, u, h2, h3, h4⟩ := r.ow j m' h1
      exact ⟨a, u, by rw [List.getElem?_set_ne ne]; exact h2, h3, h4.mono e⟩
  · rcases getset q1 with ⟨e1, l1, h1⟩ | ⟨n1, h1⟩
    · rcases getset q2 with ⟨e2, _, h2⟩ | ⟨n2, h2⟩
      · exact e1.symm.trans e2
      · subst e1
        rcases getset q3 with ⟨_, _, z⟩ | ⟨z, _⟩
        · cases z; rw [List.getElem?_set_ne n2] at q4; exact absurd ⟨k, m2, h2, q4⟩ hp
        · exact absurd rfl z
    · rcases getset q2 with ⟨e2, _, h2⟩ | ⟨n2, h2⟩
      · subst e2
        rcases getset q4 with ⟨_, _, z⟩ | ⟨z, _⟩
        · cases z; rw [List.getElem?_set_ne n1] at q3; exact absurd ⟨j, m1, h1, q3⟩ hp
        · exact absurd rfl z
      · rw [List.getElem?_set_ne n1] at q3; rw [List.getElem?_set_ne n2] at q4
        exact r.inj j k m1 m2 a h1 h2 q3 q4
  · rcases own_setOw w with w | w
    · subst w; exact hT t
    · exact r.dis a (.inr t) w
  · rcases getset q1 with ⟨e1, _, h1⟩ | ⟨n1, h1⟩
    · cases h1; subst e1
      rcases getset q2 with ⟨_, _, h2⟩ | ⟨z, _⟩
      · cases h2; exact hm _ _ rfl
      · exact absurd rfl z
    · rw [List.getElem?_set_ne n1] at q2; exact r.tag j q m1 a h1 q2
theorem Po.setOw {i : Nat} {p : Addr} {m : MO} (q : Po ρ σ H ρ1 σ1 H1) (hp : H p = none) : Po ρ σ H (ρ1.set i (some (SV.ow m))) (σ1.set i (some (V.ref p))) H1 :=
  ⟨q.keep, fun a w => (own_setOw w).elim (fun e => by subst e; exact .inr hp) (q.own a), q.dom⟩
theorem RS.write {i : Nat} {p : Addr} {m m' : MO} {o' : HO} (r : RS K T ρ σ H) (hm : ρ[i]? = some (some (SV.ow m))) (hp : σ[i]? = some (some (V.ref p))) (h : RpO K (hide (Hd T ρ σ) H) m' o') (ht : ∀ q m1, m' = .par q m1 → p = q) : RS K T (ρ.set i (some (SV.ow m'))) σ (upd H p o') := by
  have hO : Own ρ σ p := ⟨i, m, hm, hp⟩
  have hw : ∀ a, Own (ρ.set i (some (SV.ow m'))) σ a → Own ρ σ a := fun a ⟨j, m1, h1, h2⟩ => by
    rcases getset h1 with ⟨e, _, _⟩ | ⟨_, h1⟩
    · subst e; rw [hp] at h2; cases h2; exact hO
    · exact ⟨j, m1, h1, h2⟩
  have e : Ex (hide (Hd T ρ σ) H) (hide (Hd T (ρ.set i (some (SV.ow m'))) σ) (upd H p o')) := fun a u w => by
    obtain ⟨n, w⟩ := hide_some.1 w
    have ne : a ≠ p := fun z => n (.inr (z ▸ hO))
    refine hide_some.2 ⟨fun z => n (z.elim .inl fun z => .inr (hw a z)), by rw [upd_ne ne]; exact w⟩
  have il : i < ρ.length := (List.getElem?_eq_some_iff.mp hm).1
  refine ⟨by simp [r.len], fun j d' q => ?_, fun j m1 q => ?_, fun j k m1 m2 a q1 q2 q3 q4 => ?_, fun a t w => r.dis a t (hw a w), fun a t => ?_, fun j q m1 a q1 q2 => ?_⟩
  · rcases getset q with ⟨_, _, h1⟩ | ⟨ne, h1⟩
    · cases h1
    · obtain ⟨u, h2, h3⟩ := r.im j d' h1
      exact ⟨u, h2, h3.mono e⟩
  · rcases getset q with ⟨e1, l, h1⟩ | ⟨ne, h1⟩
    · cases h1; subst e1
      exact ⟨p, o', hp, upd_same, h.mono e⟩
    · obtain ⟨a, u, h2, h3, h4⟩ := r.ow j m1 h1
      have ne' : a ≠ p := fun z => by subst z; exact ne (r.inj i j m m1 a hm h1 hp h2)
      exact ⟨a, u, h2, by rw [upd_ne ne']; exact h3, h4.mono e⟩
  · have back : ∀ (j : Nat) (m1 : MO), (ρ.set i (some (SV.ow m')))[j]? = some (some (SV.ow m1)) → ∃ m2 : MO, ρ[j]? = some (some (SV.ow m2)) := fun j m1 q => by
      rcases getset q with ⟨e, _, _⟩ | ⟨_, h⟩
      · subst e; exact ⟨m, hm⟩
      · exact ⟨m1, h⟩
    obtain ⟨_, h1⟩ := back j m1 q1
    obtain ⟨_, h2⟩ := back k m2 q2
    exact r.inj j k _ _ a h1 h2 q3 q4
  · have ne : a ≠ p := fun z => by subst z; exact r.dis a t hO
    exact (r.dom a t).upd ne
  · rcases getset q1 with ⟨e1, _, h1⟩ | ⟨_, h1⟩
    · cases h1; subst e1; rw [hp] at q2; cases q2; exact ht _ _ rfl
    · exact r.tag j q m1 a h1 q2
theorem Po.write {i : Nat} {p : Addr} {m m' : MO} {o' : HO} (hm : ρ[i]? = some (some (SV.ow m))) (hp : σ[i]? = some (some (V.ref p))) : Po ρ σ H (ρ.set i (some (SV.ow m'))) σ (upd H p o') := by
  have hO : Own ρ σ p := ⟨i, m, hm, hp⟩
  refine ⟨fun a o n h => by rw [upd_ne (fun z => n (by subst z; exact hO))]; exact h, fun a ⟨j, m1, h1, h2⟩ => ?_, fun a h => ?_⟩
  · rcases getset h1 with ⟨e, _, _⟩ | ⟨_, h1⟩
    · subst e; rw [hp] at h2; cases h2; exact .inl hO
    · exact .inl ⟨j, m1, h1, h2⟩
  · by_cases e : a = p
    · subst e; rw [upd_same]; simp
    · rw [upd_ne e]; exact h
theorem own_freeze {i : Nat} {d : D} {a : Addr} (w : Own (ρ.set i (some (SV.im d))) σ a) : Own ρ σ a := by
  obtain ⟨j, m, h1, h2⟩ := w
  rcases getset h1 with ⟨_, _, h⟩ | ⟨ne, h⟩
  · cases h
  · exact ⟨j, m, h, h2⟩
theorem RS.freeze {i : Nat} {ds : List D} (r : RS K T ρ σ H) (hm : ρ[i]? = some (some (SV.ow (.lst ds)))) : RS K T (ρ.set i (some (SV.im (.list ds)))) σ H := by
  obtain ⟨p, o, hp, ho, hr⟩ := r.ow i _ hm
  have hO : Own ρ σ p := ⟨i, _, hm, hp⟩
  have e : Ex (hide (Hd T ρ σ) H) (hide (Hd T (ρ.set i (some (SV.im (.list ds)))) σ) H) := hide_sub fun a w => w.elim .inl fun w => .inr (own_freeze w)
  have vis : hide (Hd T (ρ.set i (some (SV.im (.list ds)))) σ) H p = some o := hide_some.2 ⟨fun w => by
    rcases w with w | ⟨j, m, h1, h2⟩
    · exact r.dis p w hO
    · rcases getset h1 with ⟨_, _, h⟩ | ⟨ne, h⟩
      · cases h
      · exact ne (r.inj i j _ m p hm h hp h2), ho⟩
  refine ⟨by simp [r.len], fun j d' q => ?_, fun j m1 q => ?_, fun j k m1 m2 a q1 q2 q3 q4 => ?_, fun a t w => r.dis a t (own_freeze w), r.dom, fun j q m1 a q1 q2 => ?_⟩
  · rcases getset q with ⟨e1, l, h1⟩ | ⟨ne, h1⟩
    · cases h1; subst e1
      cases o with
      | lst vs => exact ⟨.ref p, hp, .lst vis (RpAll.mono e hr)⟩
      | _ => exact False.elim hr
    · obtain ⟨u, h2, h3⟩ := r.im j d' h1
      exact ⟨u, h2, h3.mono e⟩
  · rcases getset q with ⟨_, _, h1⟩ | ⟨ne, h1⟩
    · cases h1
    · obtain ⟨a, u, h2, h3, h4⟩ := r.ow j m1 h1
      exact ⟨a, u, h2, h3, h4.mono e⟩
  · rcases getset q1 with ⟨_, _, h1⟩ | ⟨_, h1⟩
    · cases h1
    · rcases getset q2 with ⟨_, _, h2⟩ | ⟨_, h2⟩
      · cases h2
      · exact r.inj j k m1 m2 a h1 h2 q3 q4
  · rcases getset q1 with ⟨_, _, h1⟩ | ⟨_, h1⟩
    · cases h1
    · exact r.tag j q m1 a h1 q2
theorem Po.freeze {i : Nat} {d : D} : Po ρ σ H (ρ.set i (some (SV.im d))) σ H := ⟨fun _ _ _ h => h, fun a w => .inl (own_freeze w), fun _ h => h⟩
end
end Dn
set_option Elab.async false
set_option linter.all false
set_option maxRecDepth 100000
set_option autoImplicit false
set_option maxHeartbeats 4000000
namespace Dn
open PySem L2 Evl
def Fits (K : PySem.W.Frag) (T : Addr → Prop) (ρ : Env) (σ : L2.St) (H0 H : Hp) (v : V) : SV → Prop
  | .im d => RS K T ρ σ H ∧ Rp K (hide (Hd T ρ σ) H) v d
  | .ow m => ∃ p o, v = .ref p ∧ H0 p = none ∧ H p = some o ∧ RS K (plus T p) ρ σ H ∧ RpO K (hide (Hd (plus T p) ρ σ) H) m o ∧ ∀ q m', m = .par q m' → False
abbrev DX := Env → (SV → Env → Prop) → Prop
structure JX (X : Cx) (e : Expr) (f : DX) : Prop where
  ex : ∃ t, PE X e t ∧ ∀ (T : Addr → Prop) (ρ : Env) (σ : L2.St) (H : Hp) (QD : SV → Env → Prop) (Q : VK), RS X.K T ρ σ H → f ρ QD →
    (∀ d ρ' v H', Fits X.K T ρ' σ H H' v d → Po ρ σ H ρ' σ H' → QD d ρ' → Q v H') → t σ H Q
abbrev DL := Env → (List D → Env → Prop) → Prop
structure JL (X : Cx) (e : Expr) (f : DL) : Prop where
  ex : ∃ t, PE X e t ∧ ∀ (T : Addr → Prop) (ρ : Env) (σ : L2.St) (H : Hp) (QD : List D → Env → Prop) (Q : VK), RS X.K T ρ σ H → f ρ QD →
    (∀ ds ρ' p vs H', H p = none → H' p = some (.lst vs) → RS X.K (plus T p) ρ' σ H' → RpAll X.K (hide (Hd (plus T p) ρ' σ) H') vs ds → Po ρ σ H ρ' σ H' → QD ds ρ' → Q (.ref p) H') → t σ H Q
section
variable {X : Cx} {a b c e : Expr} {fa fb fc : DE} {pos : Pos} {es : List Expr}
def xIm (f : DE) : DX := fun ρ Q => f ρ fun d => Q (.im d)
def xOw (f : DL) : DX := fun ρ Q => f ρ fun ds => Q (.ow (.lst ds))
def dOfL (f : DL) : DE := fun ρ Q => f ρ fun ds => Q (.list ds)
theorem JE.jx (h : JE X e fa) : JX X e (xIm fa) := let ⟨t, p, k⟩ := h.ex; ⟨t, p, fun T ρ σ H QD Q r h q => k T ρ σ H _ _ r h fun d ρ' v H' r' p' v' h' => q (SV.im d) ρ' v H' ⟨r', v'⟩ p' h'⟩
theorem JL.jx {f : DL} (h : JL X e f) : JX X e (xOw f) := let ⟨t, p, k⟩ := h.ex; ⟨t, p, fun T ρ σ H QD Q r h q => k T ρ σ H _ _ r h fun ds ρ' p vs H' n s r' v' p' h' => q (SV.ow (.lst ds)) ρ' (.ref p) H' ⟨p, .lst vs, rfl, n, s, r', v', fun _ _ z => nomatch z⟩ p' h'⟩
theorem JL.je {f : DL} (h : JL X e f) : JE X e (dOfL f) := by
  obtain ⟨t, p, k⟩ := h.ex
  refine ⟨t, p, fun T ρ σ H QD Q r h q => k T ρ σ H _ _ r h fun ds ρ' p vs H' n s r' v' p' h' => ?_⟩
  refine q _ _ _ _ r'.unplus p' (.lst (hide_some.2 ⟨?_, s⟩) (v'.mono hd_unplus)) h'
  rintro (w | w)
  · exact (r.dom p w).1 n
  · exact r'.dis p (.inl rfl) w
def aNil : DA := fun ρ Q => Q [] ρ
def aCons (f : DE) (g : DA) : DA := fun ρ Q => f ρ fun d ρ1 => g ρ1 fun ds ρ2 => Q (d :: ds) ρ2
theorem ja_nil : JA X [] aNil := ⟨tNil, pa_nil, fun T ρ σ H QD Q r h q => q _ _ _ _ r .refl .nil h⟩
theorem ja_cons {g : DA} (ha : JE X e fa) (hr : JA X es g) (hs : starEach (e :: es) X.env = (false, eval e X.env) :: starEach es X.env := by rfl) : JA X (e :: es) (aCons fa g) := by
  obtain ⟨ta, pa, ka⟩ := ha.ex
  obtain ⟨tr, pr, kr⟩ := hr.ex
  refine ⟨_, pa_cons pa pr hs, fun T ρ σ H QD Q r h q => ?_⟩
  refine ka T ρ σ H _ _ r h fun d ρ1 v H1 r1 p1 v1 h => kr T ρ1 σ H1 _ _ r1 h fun ds ρ2 vs H2 r2 p2 v2 h => ?_
  exact q _ _ _ _ r2 (p1.trans p2) (.cons (v1.mono p2.fz) v2) h
def dTup (g : DA) : DE := fun ρ Q => g ρ fun ds ρ1 => ds.length ≤ 16777216 ∧ Q (.tuple ds) ρ1
def lLst (g : DA) : DL := fun ρ Q => g ρ fun ds ρ1 => ds.length ≤ 16777216 ∧ Q ds ρ1
theorem je_tup {g : DA} {x1} (h : JA X es g) : JE X (.Tuple es x1 pos) (dTup g) := by
  obtain ⟨t, p, k⟩ := h.ex
  refine ⟨_, pe_tup p, fun T ρ σ H QD Q r h q => k T ρ σ H _ _ r h fun ds ρ' vs H' r' p' v' h' => ⟨by rw [v'.length]; exact h'.1, fun l hl => ?_⟩⟩
  exact q _ _ _ _ (r'.grow (Ex.new hl)) (p'.trans (.grow (Ex.new hl))) (rp_newT (fun a => r'.hdDom) hl v') h'.2
theorem jl_lst {g : DA} (h : JA X es g) : JL X (.List es pos) (lLst g) := by
  obtain ⟨t, p, k⟩ := h.ex
  refine ⟨_, pe_lst p, fun T ρ σ H QD Q r h q => k T ρ σ H _ _ r h fun ds ρ' vs H' r' p' v' h' => ⟨by rw [v'.length]; exact h'.1, fun l hl => ?_⟩⟩
  refine q _ _ _ _ _ ?_ upd_same (r'.laid hl) (v'.mono (hd_laid hl)) (p'.trans (.grow (Ex.new hl))) h'.2
  cases z : H l with
  | none => rfl
  | some o => exact absurd hl (p'.dom l (by rw [z]; simp))
def seqD : D → Option (List D)
  | .list ds => some ds
  | .tuple ds => some ds
  | .dict [(.none, .tuple ds)] => some ds
  | _ => none
theorem seq_dk (kvs : List (Key × D)) : seqD (.dict (dkD kvs)) = none := by
  cases kvs with
  | nil => rfl
  | cons p r => obtain ⟨k, d⟩ := p; cases k <;> rfl
theorem seq_rp {K : PySem.W.Frag} {O : Addr → Prop} {H : Hp} {v : V} {d : D} {ds : List D} (r : Rp K (hide O H) v d) (h : seqD d = some ds) : ∃ p xs, v = .ref p ∧ (SqL K H p xs ∨ SqT K H p xs) ∧ RpAll K (hide O H) xs ds := by
  cases r
  case ins h1 h2 h3 h4 =>
    subst h4
    simp [seqD, obL] at h
  case dct kws kvs dd h1 h2 h3 =>
    subst h3
    cases kvs with
    | nil => simp [seqD, dkD] at h
    | cons p r => obtain ⟨k, d⟩ := p; cases k <;> simp [seqD, dkD, keyB] at h
  all_goals simp only [seqD, Option.some.injEq, reduceCtorEq] at h
  · subst h; exact ⟨_, _, rfl, .inl (.inl (.inl (at_of (by assumption)))), by assumption⟩
  · subst h; exact ⟨_, _, rfl, .inr (sqt_of (by assumption)), by assumption⟩
  · subst h; exact ⟨_, _, rfl, .inl (sql_of (by assumption)), by assumption⟩
theorem atI_rp {K : PySem.W.Frag} {G : Hp} {vs : List V} {ds : List D} {i : Int} {d : D} (r : RpAll K G vs ds) (h : atI ds i = some d) : ∃ v, atI vs i = some v ∧ Rp K G v d := by
  unfold atI at h ⊢
  rw [r.length]
  cases e : ixN ds.length i with
  | none => rw [e] at h; cases h
  | some j =>
    rw [e] at h
    exact r.get (show ds[j]? = some d from h)
def dIx : D → D → (D → Prop) → Prop := fun x y Q => match seqD x, y with
  | some ds, .int i => ∃ d, atI ds i = some d ∧ Q d
  | _, _ => False
theorem ix_two {O : Addr → Prop} {H : Hp} {x y : V} {d e : D} {QD : D → Prop} {Q : VK} (rx : Rp X.K (hide O H) x d) (ry : Rp X.K (hide O H) y e) (h : dIx d e QD)
    (k : ∀ z v H', Ex H H' → Rp X.K (hide O H') v z → QD z → Q v H') : rIxL X.K x y H Q ∨ rIxT X.K x y H Q := by
  unfold dIx at h
  split at h
  · rename_i ds i e1
    obtain ⟨z, h1, h2⟩ := h
    obtain ⟨p, xs, rfl, hs, r⟩ := seq_rp rx e1
    obtain ⟨v, h3, h4⟩ := atI_rp r h1
    cases ry
    rcases hs with hs | hs
    · exact .inl ⟨_, _, _, _, rfl, rfl, hs, h3, k _ _ H (.refl H) h4 h2⟩
    · exact .inr ⟨_, _, _, _, rfl, rfl, hs, h3, k _ _ H (.refl H) h4 h2⟩
  · exact False.elim h
theorem je_ix (ha : JE X a fa) (hb : JE X b fb) (hs : PlainIx b := by exact fun _ _ => rfl) : JE X (.Subscript a b pos) (dBin dIx fa fb) :=
  je_two (fun O H x y d e QD Q hO rx ry h k => ix_two rx ry h k) ha hb fun _ _ pa pb => pe_ix (.or ix_list ix_tup) pa pb hs
def cutD (xs : List D) (lo hi : Option Int) : List D := (xs.drop (HT.sIx xs.length 0 lo)).take (HT.sIx xs.length xs.length hi - HT.sIx xs.length 0 lo)
theorem cut_rp {K : PySem.W.Frag} {G : Hp} {vs : List V} {ds : List D} (r : RpAll K G vs ds) (lo hi : Option Int) : RpAll K G (cutV vs lo hi) (cutD ds lo hi) := by
  unfold cutV cutD; rw [r.length]; exact (r.drop _).take _
abbrev DO := Env → (Option Int → Env → Prop) → Prop
structure JO (X : Cx) (e : Option Expr) (f : DO) : Prop where
  ex : ∃ t, PO X e t ∧ ∀ (T : Addr → Prop) (ρ : Env) (σ : L2.St) (H : Hp) (QD : Option Int → Env → Prop) (Q : Option Int → Hp → Prop), RS X.K T ρ σ H → f ρ QD →
    (∀ d ρ' H', RS X.K T ρ' σ H' → Po ρ σ H ρ' σ H' → QD d ρ' → Q d H') → t σ H Q
def oNone : DO := fun ρ Q => Q none ρ
def oSome (f : DE) : DO := fun ρ Q => f ρ fun d ρ1 => match d with
  | .int i => Q (some i) ρ1
  | _ => False
theorem jo_none : JO X none oNone := ⟨tNoPart, po_none, fun T ρ σ H QD Q r h q => q _ _ _ r .refl h⟩
theorem jo_some (ha : JE X a fa) : JO X (some a) (oSome fa) := by
  obtain ⟨ta, pa, ka⟩ := ha.ex
  refine ⟨_, po_some pa, fun T ρ σ H QD Q r h q => ka T ρ σ H _ _ r h fun d ρ1 v H1 r1 p1 v1 h => ?_⟩
  cases v1 with
  | int i => exact ⟨i, rfl, q _ _ _ r1 p1 h⟩
  | _ => exact False.elim h
def dSl (fa : DE) (lo hi : DO) : DE := fun ρ Q => fa ρ fun x ρ1 => lo ρ1 fun l ρ2 => hi ρ2 fun u ρ3 => match x with
  | .list ds => Q (.list (cutD ds l u)) ρ3
  | .tuple ds => Q (.tuple (cutD ds l u)) ρ3
  | _ => False
theorem sl_or {r r' : V → Option Int → Option Int → Hp → VK → Prop} (h : SlR X r) (h' : SlR X r') : SlR X (fun x lo hi H Q => r x lo hi H Q ∨ r' x lo hi H Q) := by
  intro pins s σ H x v vl vu lo hi sl Q I rx hs pl pu q
  rcases q with q | q
  · exact h pins s σ H x v vl vu lo hi sl Q I rx hs pl pu q
  · exact h' pins s σ H x v vl vu lo hi sl Q I rx hs pl pu q
theorem cut_whole {xs : List D} {lo hi : Option Int} (h : HT.sIx xs.length 0 lo = 0 ∧ HT.sIx xs.length xs.length hi = xs.length) : cutD xs lo hi = xs := by
  unfold cutD; rw [h.1, h.2]; simp
theorem je_sl {lo hi : Option Expr} {fl fh : DO} {p2 : Pos} (ha : JE X a fa) (hl : JO X lo fl) (hh : JO X hi fh) : JE X (.Subscript a (.Slice lo hi none p2) pos) (dSl fa fl fh) := by
  obtain ⟨ta, pa, ka⟩ := ha.ex
  obtain ⟨tl, pl, kl⟩ := hl.ex
  obtain ⟨th, ph, kh⟩ := hh.ex
  refine ⟨_, pe_slice (sl_or sl_list sl_tupA) pa pl ph, fun T ρ σ H QD Q r h q => ka T ρ σ H _ _ r h fun d ρ1 v H1 r1 p1 v1 h => kl T ρ1 σ H1 _ _ r1 h fun l ρ2 H2 r2 p2 h => kh T ρ2 σ H2 _ _ r2 h fun u ρ3 H3 r3 p3 h => ?_⟩
  have v3 := (v1.mono p2.fz).mono p3.fz
  have p := (p1.trans p2).trans p3
  cases v3 with
  | lst hp rr =>
    exact .inl ⟨_, _, rfl, .inl (.inl (at_of hp)), fun n hn => q _ _ _ _ (r3.grow (Ex.new hn)) (p.trans (.grow (Ex.new hn))) (rp_newL (fun a => r3.hdDom) hn (cut_rp rr l u)) h⟩
  | tup hp rr =>
    refine .inr ⟨_, _, rfl, sqt_of hp, fun w => ?_, fun w n hn => q _ _ _ _ (r3.grow (Ex.new hn)) (p.trans (.grow (Ex.new hn))) (rp_newT (fun a => r3.hdDom) hn (cut_rp rr l u)) h⟩
    rw [rr.length] at w
    dsimp only at h; rw [cut_whole w] at h
    exact q _ _ _ _ r3 p (.tup hp rr) h
  | _ => exact False.elim h
end
end Dn
set_option Elab.async false
set_option linter.all false
set_option maxRecDepth 100000
set_option autoImplicit false
set_option maxHeartbeats 4000000
namespace Dn
open PySem L2 Evl
section
variable {X : Cx} {a b c e : Expr} {fa fb fc : DE} {pos p : Pos} {es : List Expr} {x : Str}
structure CallD (X : Cx) (f : Value) (op : List D → (D → Prop) → Prop) : Prop where
  ex : ∃ r, CallR X f r ∧ ∀ (O : Addr → Prop) (H : Hp) (vs : List V) (ds : List D) (QD : D → Prop) (Q : VK), (∀ a, O a → H a ≠ none) → RpAll X.K (hide O H) vs ds → op ds QD →
    (∀ z v H', Ex H H' → Rp X.K (hide O H') v z → QD z → Q v H') → r vs H Q
def dCall (op : List D → (D → Prop) → Prop) (g : DA) : DE := fun ρ Q => g ρ fun ds ρ1 => op ds fun z => Q z ρ1
theorem je_callB {id : String} {op : List D → (D → Prop) → Prop} {g : DA} (hc : CallD X (.builtin id) op) (hm : X.mg x = none) (hv : bootBuiltins x = some (.builtin id)) (ha : JA X (e :: es) g) (hg : Gl X x := by rfl) (hn : x ≠ "__name__" := by decide) (hdb : (x == ("__debug__" : Str)) = false := by decide)
    (he : starEach (e :: es) X.env = (false, eval e X.env) :: starEach es X.env := by rfl) (hpl : (backTo pos (starEach es X.env)).any (·.1) = false := by rfl) : JE X (.Call (.Name x p) (e :: es) [] pos) (dCall op g) := by
  obtain ⟨r, h1, h2⟩ := hc.ex
  obtain ⟨t, pa, ka⟩ := ha.ex
  refine ⟨_, pe_callB h1 hg hm hv pa hn hdb he hpl, fun T ρ σ H QD Q r h q => ka T ρ σ H _ _ r h fun ds ρ1 vs H1 r1 p1 v1 h => ?_⟩
  exact h2 (Hd T ρ1 σ) H1 vs ds _ _ (fun a => r1.hdDom) v1 h fun z v H' e v2 h => q _ _ _ _ (r1.grow e) (p1.trans (.grow e)) v2 h
theorem je_callTy {id : String} {op : List D → (D → Prop) → Prop} {g : DA} (hc : CallD X (.type id) op) (hm : X.mg x = none) (hv : bootBuiltins x = some (.type id)) (ha : JA X (e :: es) g) (hg : Gl X x := by rfl) (hn : x ≠ "__name__" := by decide) (hdb : (x == ("__debug__" : Str)) = false := by decide)
    (he : starEach (e :: es) X.env = (false, eval e X.env) :: starEach es X.env := by rfl) (hpl : (backTo pos (starEach es X.env)).any (·.1) = false := by rfl) : JE X (.Call (.Name x p) (e :: es) [] pos) (dCall op g) := by
  obtain ⟨r, h1, h2⟩ := hc.ex
  obtain ⟨t, pa, ka⟩ := ha.ex
  refine ⟨_, pe_callTy h1 hg hm hv pa hn hdb he hpl, fun T ρ σ H QD Q r h q => ka T ρ σ H _ _ r h fun ds ρ1 vs H1 r1 p1 v1 h => ?_⟩
  exact h2 (Hd T ρ1 σ) H1 vs ds _ _ (fun a => r1.hdDom) v1 h fun z v H' e v2 h => q _ _ _ _ (r1.grow e) (p1.trans (.grow e)) v2 h
def isSc : D → Bool
  | .list _ => false
  | .tuple _ => false
  | .dict _ => false
  | _ => true
theorem sc_rp {K : PySem.W.Frag} {G G' : Hp} {v : V} {d : D} (h : isSc d = true) (r : Rp K G v d) : Rp K G' v d := by
  cases r <;> first | (simp [isSc] at h; done) | constructor
def dCallO (i : Nat) (op : List D → (D → Prop) → Prop) : DE := fun ρ Q => match ρ[i]? with
  | some (some (.ow (.lst ds))) => op [.list ds] fun z => isSc z = true ∧ Q z ρ
  | _ => False
theorem je_callBO {i : Nat} {y : Str} {py : Pos} {id : String} {op : List D → (D → Prop) → Prop} (hc : CallD X (.builtin id) op) (hm : X.mg x = none) (hv : bootBuiltins x = some (.builtin id)) (hN : X.N[i]? = some y) (hy : Vis X.env.scope y) (hg : Gl X x := by rfl) (hn : x ≠ "__name__" := by decide) (hdb : (x == ("__debug__" : Str)) = false := by decide)
    (hd : (y == ("__debug__" : Str)) = false := by decide) (hcd : (y == ("__classdict__" : Str)) = false := by decide)
    (he : starEach [Expr.Name y py] X.env = (false, eval (Expr.Name y py) X.env) :: starEach [] X.env := by rfl) : JE X (.Call (.Name x p) [.Name y py] [] pos) (dCallO i op) := by
  obtain ⟨r, h1, h2⟩ := hc.ex
  refine ⟨_, pe_callB h1 hg hm hv (pa_cons (pe_var hN hy hd hcd) pa_nil he) hn hdb he, fun T ρ σ H QD Q r h q => ?_⟩
  unfold dCallO at h
  split at h
  · rename_i ds e1
    obtain ⟨a, o, ha, ho, hr⟩ := r.ow i _ e1
    have rf := r.freeze e1
    obtain ⟨v, hv, rv⟩ := rf.im i (.list ds) (List.getElem?_set_self (List.getElem?_eq_some_iff.mp e1).1)
    rw [ha] at hv; cases hv
    refine ⟨_, ha, h2 _ H _ _ _ _ (fun a => rf.hdDom) (.cons rv .nil) h fun z v H' e v2 h => ?_⟩
    exact q _ _ _ _ (r.grow e) (.grow e) (sc_rp h.1 v2) h.2
  · exact False.elim h
def dBinO (i : Nat) (op : D → D → (D → Prop) → Prop) (fb : DE) : DE := fun ρ Q => (∃ m, ρ[i]? = some (some (SV.ow m))) ∧ fb ρ fun y ρ1 => match ρ1[i]? with
  | some (some (.ow (.lst ds))) => op (.list ds) y fun z => isSc z = true ∧ Q z ρ1
  | _ => False
def dLen : List D → (D → Prop) → Prop
  | [d] => fun Q => match seqD d with
    | some ds => Q (.int ds.length)
    | none => False
  | _ => fun _ => False
theorem calld_len : CallD X (.builtin "len") dLen := by
  refine ⟨_, call_len_seq, fun O H vs ds QD Q hO r h k => ?_⟩
  cases r with
  | nil => exact False.elim h
  | cons r rr =>
    cases rr with
    | cons _ _ => exact False.elim h
    | nil =>
      unfold dLen at h; dsimp only at h
      split at h
      · rename_i ds e
        obtain ⟨p, xs, rfl, hs, rx⟩ := seq_rp r e
        exact ⟨_, _, rfl, hs, k _ _ H (.refl H) (.int _) (by rw [rx.length]; exact h)⟩
      · exact False.elim h
def dAbs : List D → (D → Prop) → Prop
  | [.int i] => fun Q => Q (.int (if i < 0 then -i else i))
  | _ => fun _ => False
theorem rp1 {K : PySem.W.Frag} {G : Hp} {vs : List V} {d : D} (r : RpAll K G vs [d]) : ∃ v, vs = [v] ∧ Rp K G v d := by
  cases r with
  | cons r rr => cases rr; exact ⟨_, rfl, r⟩
theorem rp2 {K : PySem.W.Frag} {G : Hp} {vs : List V} {d e : D} (r : RpAll K G vs [d, e]) : ∃ v u, vs = [v, u] ∧ Rp K G v d ∧ Rp K G u e := by
  cases r with
  | cons r rr => obtain ⟨u, rfl, h⟩ := rp1 rr; exact ⟨_, _, rfl, r, h⟩
theorem calld_abs : CallD X (.builtin "abs") dAbs := by
  refine ⟨_, call_abs, fun O H vs ds QD Q hO r h k => ?_⟩
  unfold dAbs at h
  split at h
  · obtain ⟨v, rfl, w1⟩ := rp1 r
    cases w1
    exact ⟨_, rfl, k _ _ H (.refl H) (.int _) h⟩
  · exact False.elim h
def dMax2 : List D → (D → Prop) → Prop
  | [.int i, .int j] => fun Q => Q (.int (if j > i then j else i))
  | _ => fun _ => False
theorem calld_max2 (hc : X.calm = true) : CallD X (.builtin "max") dMax2 := by
  refine ⟨_, call_max2 hc, fun O H vs ds QD Q hO r h k => ?_⟩
  unfold dMax2 at h
  split at h
  · obtain ⟨v, u, rfl, r1, r2⟩ := rp2 r
    cases r1; cases r2
    exact ⟨_, _, rfl, k _ _ H (.refl H) (.int _) h⟩
  · exact False.elim h
def dMin2 : List D → (D → Prop) → Prop
  | [.int i, .int j] => fun Q => Q (.int (if j < i then j else i))
  | _ => fun _ => False
theorem calld_min2 (hc : X.calm = true) : CallD X (.builtin "min") dMin2 := by
  refine ⟨_, call_min2 hc, fun O H vs ds QD Q hO r h k => ?_⟩
  unfold dMin2 at h
  split at h
  · obtain ⟨v, u, rfl, r1, r2⟩ := rp2 r
    cases r1; cases r2
    exact ⟨_, _, rfl, k _ _ H (.refl H) (.int _) h⟩
  · exact False.elim h
def dInt : List D → (D → Prop) → Prop
  | [.int i] => fun Q => Q (.int i)
  | [.bool b] => fun Q => Q (.int (if b then 1 else 0))
  | _ => fun _ => False
theorem calld_int : CallD X (.type "int") dInt := by
  refine ⟨_, call_int1, fun O H vs ds QD Q hO r h k => ?_⟩
  unfold dInt at h
  split at h
  · obtain ⟨v, rfl, w1⟩ := rp1 r
    cases w1
    exact .inl ⟨_, rfl, k _ _ H (.refl H) (.int _) h⟩
  · obtain ⟨v, rfl, w1⟩ := rp1 r
    cases w1
    exact .inr ⟨_, rfl, k _ _ H (.refl H) (.int _) h⟩
  · exact False.elim h
def dAll (ds : List D) (Q : D → Prop) : Prop := ∃ bs : List Bool, ds = [.list (bs.map PyData.bool)] ∧ Q (.bool (bs.all id))
def dAny (ds : List D) (Q : D → Prop) : Prop := ∃ bs : List Bool, ds = [.list (bs.map PyData.bool)] ∧ Q (.bool (bs.any id))
def dSum (ds : List D) (Q : D → Prop) : Prop := ∃ ns : List Int, ds = [.list (ns.map PyData.int)] ∧ Q (.int ns.sum)
theorem calld_all (hc : X.calm = true) : CallD X (.builtin "all") dAll := by
  refine ⟨_, cr_all hc, fun O H vs ds QD Q hO r h k => ?_⟩
  obtain ⟨bs, rfl, h⟩ := h
  obtain ⟨v, rfl, w1⟩ := rp1 r
  cases w1 with
  | lst hp rr =>
    obtain rfl := rr.of_bls
    exact ⟨_, bs, rfl, .inl (.inl (at_of hp)), k _ _ H (.refl H) (.bl _) h⟩
def dTupOf : List D → (D → Prop) → Prop
  | [.list ds] => fun Q => Q (.tuple ds)
  | [.tuple ds] => fun Q => Q (.tuple ds)
  | _ => fun _ => False
theorem calld_tuple : CallD X (.type "tuple") dTupOf := by
  refine ⟨_, call_tuple_of, fun O H vs ds QD Q hO r h k => ?_⟩
  unfold dTupOf at h
  split at h
  · obtain ⟨v, rfl, w1⟩ := rp1 r
    cases w1 with
    | lst hp rr => exact ⟨_, _, rfl, .inl ⟨.inl (.inl (at_of hp)), fun l hl => k _ _ _ (Ex.new hl) (rp_newT hO hl rr) h⟩⟩
  · obtain ⟨v, rfl, w1⟩ := rp1 r
    cases w1 with
    | tup hp rr => exact ⟨_, _, rfl, .inr ⟨sqt_of hp, k _ _ H (.refl H) (.tup hp rr) h⟩⟩
  · exact False.elim h
def tyN : D → String
  | .none => "NoneType"
  | .bool _ => "bool"
  | .int _ => "int"
  | .str _ => "str"
  | .list _ => "list"
  | .tuple _ => "tuple"
  | .dict ((.none, _) :: _) => "list"
  | .dict ((.bool true, _) :: _) => "slice"
  | .dict ((.bool false, _) :: _) => "type"
  | .dict _ => "dict"
theorem tyN_dk (kvs : List (Key × D)) : tyN (.dict (dkD kvs)) = "dict" := by
  cases kvs with
  | nil => rfl
  | cons p r => obtain ⟨k, d⟩ := p; cases k <;> rfl
def TyC (K : PySem.W.Frag) (H : Hp) (v : V) (t : Value) : Prop := TyX K H v t ∨ ∃ C, v = .ref C ∧ t = .type "type" ∧ PySem.W.typeIn K (.ref C) = some (.type "type") ∧ PySem.W.nsIn K PySem.cStatics "thirdparty.any" = some none
def rIsiC (K : PySem.W.Frag) : List V → Hp → VK → Prop := fun xs H Q => ∃ (x c : V) (t u : Value) (b : Bool), xs = [x, c] ∧ ClsV c u ∧ TyC K H x t ∧ PySem.W.kitOne K t u = some b ∧ Q (.bl b) H
theorem call_isiC {X : Cx} : CallR X (.builtin "isinstance") (rIsiC X.K) := by
  intro pins s σ H xs us Q I r h
  obtain ⟨x, c, t, u, b, rfl, k, ty, e, q⟩ := h
  rcases ty with ty | ⟨C, rfl, rfl, ht, hn⟩
  · exact call_isi pins s σ H _ us Q I r ⟨x, c, t, u, b, rfl, k, ty, e, q⟩
  · obtain ⟨u1, u2, rfl, r1, r2⟩ := vals2 r
    have e2 := k.eq r2
    subst e2
    cases (show u1 = Value.ref C from r1)
    exact PySem.W.kia_one (ClT.kitx_cls ht hn) I.kIn trivial e (fun z => nomatch z) fun tk => ⟨.bl b, H, I.tok tk, rfl, q⟩
theorem ty_rp {K : PySem.W.Frag} {O : Addr → Prop} {H : Hp} {v : V} {d : D} (r : Rp K (hide O H) v d) {tn : String} {b : Bool} (hk : kitB (tyN d) tn = some b) (ns : tn ≠ "slice") : ∃ t, TyC K H v t ∧ PySem.W.kitOne K t (.type tn) = some b := by
  have fin : ∀ n, n = tyN d → TyX K H v (.type n) → ∃ t, TyC K H v t ∧ PySem.W.kitOne K t (.type tn) = some b := fun n e h => ⟨_, .inl h, kit_ty (by rw [e]; exact hk)⟩
  cases r with
  | ins o h _ z =>
    subst z
    exact ⟨_, .inl (.base (.ins (hide_some.1 h).2 o.cls o.ha o.hn o.htk o.hm)), o.own tn b ns hk⟩
  | typ nm o => exact ⟨_, .inr ⟨_, rfl, rfl, o.ty, o.tp⟩, kit_ty hk⟩
  | non => exact fin _ rfl (.base .non)
  | bl b => exact fin _ rfl (.base (.bl b))
  | int b => exact fin _ rfl (.base (.int b))
  | str b => exact fin _ rfl (.base (.str b))
  | lst h _ => exact fin _ rfl (.base (.lst (at_of h)))
  | dct h _ z => subst z; exact fin _ (tyN_dk _).symm (.base (.dK (at_of h)))
  | tup h _ =>
    rcases sqt_of h with (h | ⟨o, h⟩) | ⟨o, its, n, h1, h2, _⟩
    · exact fin _ rfl (.base (.tup h))
    · exact fin _ rfl (.fTuple h)
    · exact fin _ rfl (.kTuple h1 h2)
  | frz h _ =>
    rcases sql_of h with (h | ⟨o, h⟩) | ⟨o, its, n, h1, h2, _⟩
    · exact fin _ rfl (.base (.lst h))
    · exact fin _ rfl (.base (.frz h))
    · exact fin _ rfl (.kList h1 h2)
def dIsi (tn : String) (fa : DE) : DE := fun ρ Q => fa ρ fun d ρ1 => match kitB (tyN d) tn with
  | some b => Q (.bool b) ρ1
  | none => False
theorem je_isi {tn : String} {y : Str} {py : Pos} (hm : X.mg "isinstance" = none) (hmy : X.mg y = none) (hvy : bootBuiltins y = some (.type tn)) (ha : JE X a fa) (hg : Gl X "isinstance" := by rfl) (hgy : Gl X y := by rfl) (hny : y ≠ "__name__" := by decide) (hdb : (y == ("__debug__" : Str)) = false := by decide)
    (h1 : starEach [a, Expr.Name y py] X.env = (false, eval a X.env) :: starEach [Expr.Name y py] X.env := by rfl) (h2 : starEach [Expr.Name y py] X.env = (false, eval (Expr.Name y py) X.env) :: starEach [] X.env := by rfl) (h3 : (backTo pos (starEach [Expr.Name y py] X.env)).any (·.1) = false := by rfl) (hsl : tn ≠ "slice" := by decide) :
    JE X (.Call (.Name "isinstance" p) [a, .Name y py] [] pos) (dIsi tn fa) := by
  obtain ⟨ta, pa, ka⟩ := ha.ex
  refine ⟨_, pe_callB call_isiC hg hm (by decide +kernel) (pa_cons pa (pa_cons (pe_bltn (v := .ty tn) hgy hmy hvy rfl hny hdb) pa_nil h2) h1) (by decide) (by decide) h1 h3, fun T ρ σ H QD Q r h q => ka T ρ σ H _ _ r h fun d ρ1 v H1 r1 p1 v1 h => ?_⟩
  split at h
  · rename_i b e
    obtain ⟨t, ht, hk⟩ := ty_rp v1 e hsl
    exact ⟨v, .ty tn, t, .type tn, b, rfl, .ty tn, ht, hk, q _ _ _ _ r1 p1 (.bl b) h⟩
  · exact False.elim h
def lOf (f : DE) : DL := fun ρ Q => f ρ fun d ρ1 => match seqD d with
  | some ds => Q ds ρ1
  | none => False
theorem none_back {ρ ρ' : Env} {σ σ' : L2.St} {H H' : Hp} {l : Addr} (q : Po ρ σ H ρ' σ' H') (h : H' l = none) : H l = none := by
  cases z : H l with
  | none => rfl
  | some o => exact absurd h (q.dom l (by rw [z]; simp))
theorem jl_list (hm : X.mg "list" = none) (ha : JE X a fa) (hg : Gl X "list" := by rfl) (he : starEach [a] X.env = (false, eval a X.env) :: starEach [] X.env := by rfl) : JL X (.Call (.Name "list" p) [a] [] pos) (lOf fa) := by
  obtain ⟨ta, pa, ka⟩ := ha.ex
  refine ⟨_, pe_callTy call_list_of hg hm (by decide +kernel) (pa_cons pa pa_nil he) (by decide) (by decide) he, fun T ρ σ H QD Q r h q => ka T ρ σ H _ _ r h fun d ρ1 v H1 r1 p1 v1 h => ?_⟩
  split at h
  · rename_i ds e
    obtain ⟨p, xs, rfl, hs, rx⟩ := seq_rp v1 e
    exact ⟨_, _, rfl, hs, fun l hl => q _ _ _ _ _ (none_back p1 hl) upd_same (r1.laid hl) (rx.mono (hd_laid hl)) (p1.trans (.grow (Ex.new hl))) h⟩
  · exact False.elim h
def lOfO (i : Nat) : DL := fun ρ Q => match ρ[i]? with
  | some (some (.ow (.lst ds))) => Q ds ρ
  | _ => False
theorem jl_listO {i : Nat} {y : Str} {py : Pos} (hm : X.mg "list" = none) (hN : X.N[i]? = some y) (hy : Vis X.env.scope y) (hg : Gl X "list" := by rfl) (hd : (y == ("__debug__" : Str)) = false := by decide) (hcd : (y == ("__classdict__" : Str)) = false := by decide)
    (he : starEach [Expr.Name y py] X.env = (false, eval (Expr.Name y py) X.env) :: starEach [] X.env := by rfl) : JL X (.Call (.Name "list" p) [.Name y py] [] pos) (lOfO i) := by
  refine ⟨_, pe_callTy call_list_of hg hm (by decide +kernel) (pa_cons (pe_var hN hy hd hcd) pa_nil he) (by decide) (by decide) he, fun T ρ σ H QD Q r h q => ?_⟩
  unfold lOfO at h
  split at h
  · rename_i ds e
    obtain ⟨a, o, ha, ho, hr⟩ := r.ow i _ e
    cases o with
    | lst vs => exact ⟨_, ha, _, _, rfl, .inl (.inl (.inl ho)), fun l hl => q _ _ _ _ _ hl upd_same (r.laid hl) (RpAll.mono (hd_laid hl) hr) (.grow (Ex.new hl)) h⟩
    | _ => exact False.elim hr
  · exact False.elim h
def dTupO (i : Nat) : DE := fun ρ Q => match ρ[i]? with
  | some (some (.ow (.lst ds))) => Q (.tuple ds) ρ
  | _ => False
theorem je_tupleO {i : Nat} {y : Str} {py : Pos} (hm : X.mg "tuple" = none) (hN : X.N[i]? = some y) (hy : Vis X.env.scope y) (hg : Gl X "tuple" := by rfl) (hd : (y == ("__debug__" : Str)) = false := by decide) (hcd : (y == ("__classdict__" : Str)) = false := by decide)
    (he : starEach [Expr.Name y py] X.env = (false, eval (Expr.Name y py) X.env) :: starEach [] X.env := by rfl) : JE X (.Call (.Name "tuple" p) [.Name y py] [] pos) (dTupO i) := by
  refine ⟨_, pe_callTy call_tuple_of hg hm (by decide +kernel) (pa_cons (pe_var hN hy hd hcd) pa_nil he) (by decide) (by decide) he, fun T ρ σ H QD Q r h q => ?_⟩
  unfold dTupO at h
  split at h
  · rename_i ds e
    obtain ⟨a, o, ha, ho, hr⟩ := r.ow i _ e
    cases o with
    | lst vs => exact ⟨_, ha, _, _, rfl, .inl ⟨.inl (.inl ho), fun l hl => q _ _ _ _ (r.grow (Ex.new hl)) (.grow (Ex.new hl)) (rp_newT (fun a => r.hdDom) hl hr) h⟩⟩
    | _ => exact False.elim hr
  · exact False.elim h
def rgD (i j : Int) : List D := (List.range (j - i).toNat).map fun k => PyData.int (i + (k : Nat))
def RgD (i j : Int) : Prop := -1000000 ≤ i ∧ i ≤ 1000000 ∧ -1000000 ≤ j ∧ j ≤ 1000000
theorem rg_ok {i j : Int} (h : RgD i j) : RgOk i j := by unfold RgD at h; exact ⟨by omega, by omega, by omega, by omega, by omega⟩
theorem rg_rp {K : PySem.W.Frag} {G : Hp} (i j : Int) : RpAll K G (rgV i j) (rgD i j) := by
  have : rgV i j = ((List.range (j - i).toNat).map fun k => i + (k : Nat)).map V.int := by unfold rgV; simp
  rw [this, show rgD i j = ((List.range (j - i).toNat).map fun k => i + (k : Nat)).map PyData.int from by unfold rgD; simp]
  exact RpAll.ints _
abbrev DR := Env → (Int → Int → Env → Prop) → Prop
structure JR (X : Cx) (e : Expr) (f : DR) : Prop where
  ex : ∃ t, PRg X e t ∧ ∀ (T : Addr → Prop) (ρ : Env) (σ : L2.St) (H : Hp) (QD : Int → Int → Env → Prop) (Q : Int → Int → Hp → Prop), RS X.K T ρ σ H → f ρ QD →
    (∀ i j ρ' H', RS X.K T ρ' σ H' → Po ρ σ H ρ' σ H' → QD i j ρ' → Q i j H') → t σ H Q
def rg1 (fa : DE) : DR := fun ρ Q => fa ρ fun d ρ1 => match d with
  | .int n => Q 0 n ρ1
  | _ => False
def rg2 (fa fb : DE) : DR := fun ρ Q => fa ρ fun d ρ1 => fb ρ1 fun e ρ2 => match d, e with
  | .int n, .int m => Q n m ρ2
  | _, _ => False
theorem jr_1 (hm : X.mg "range" = none) (ha : JE X a fa) (hg : Gl X "range" := by rfl) (na : starEach [a] X.env = (false, eval a X.env) :: starEach [] X.env := by rfl) : JR X (.Call (.Name "range" p) [a] [] pos) (rg1 fa) := by
  obtain ⟨ta, pa, ka⟩ := ha.ex
  refine ⟨_, prg_1 hg hm pa na, fun T ρ σ H QD Q r h q => ka T ρ σ H _ _ r h fun d ρ1 v H1 r1 p1 v1 h => ?_⟩
  cases v1 with
  | int n => exact ⟨n, rfl, q _ _ _ _ r1 p1 h⟩
  | _ => exact False.elim h
def lRg (f : DR) : DL := fun ρ Q => f ρ fun i j ρ1 => RgD i j ∧ Q (rgD i j) ρ1
def dTRg (f : DR) : DE := fun ρ Q => f ρ fun i j ρ1 => RgD i j ∧ Q (.tuple (rgD i j)) ρ1
theorem jl_rg {f : DR} (hc : X.calm = true) (hm : X.mg "list" = none) (ha : JR X a f) (hg : Gl X "list" := by rfl) (na : starEach [a] X.env = (false, eval a X.env) :: starEach [] X.env := by rfl) : JL X (.Call (.Name "list" p) [a] [] pos) (lRg f) := by
  obtain ⟨ta, pa, ka⟩ := ha.ex
  refine ⟨_, pe_listRg hc hg hm pa na, fun T ρ σ H QD Q r h q => ka T ρ σ H _ _ r h fun i j ρ1 H1 r1 p1 h => ⟨rg_ok h.1, fun l hl => ?_⟩⟩
  exact q _ _ _ _ _ (none_back p1 hl) upd_same (r1.laid hl) (rg_rp i j) (p1.trans (.grow (Ex.new hl))) h.2
theorem je_tupRg {f : DR} (hc : X.calm = true) (hm : X.mg "tuple" = none) (ha : JR X a f) (hg : Gl X "tuple" := by rfl) (na : starEach [a] X.env = (false, eval a X.env) :: starEach [] X.env := by rfl) : JE X (.Call (.Name "tuple" p) [a] [] pos) (dTRg f) := by
  obtain ⟨ta, pa, ka⟩ := ha.ex
  refine ⟨_, pe_tupRg hc hg hm pa na, fun T ρ σ H QD Q r h q => ka T ρ σ H _ _ r h fun i j ρ1 H1 r1 p1 h => ⟨rg_ok h.1, fun l hl => ?_⟩⟩
  exact q _ _ _ _ (r1.grow (Ex.new hl)) (p1.trans (.grow (Ex.new hl))) (rp_newT (fun a => r1.hdDom) hl (rg_rp i j)) h.2
end
end Dn
set_option Elab.async false
set_option linter.all false
set_option maxRecDepth 100000
set_option autoImplicit false
set_option maxHeartbeats 4000000
namespace Dn
open PySem L2 Evl
structure JG (X : Cx) (tg : Expr) (vs : List Nat) (g : DG) : Prop where
  ex : ∃ t, PG X tg t ∧ ∀ (T : Addr → Prop) (ρ : Env) (σ : L2.St) (H : Hp) (v : V) (d : D) (QD : Env → Prop) (Q : L2.St → Hp → Prop), RS X.K T ρ σ H → Rp X.K (hide (Hd T ρ σ) H) v d → g d ρ QD →
    (∀ ρ' σ', RS X.K T ρ' σ' H → Po ρ σ H ρ' σ' H → wipe σ' vs = wipe σ vs → QD ρ' → Q σ' H) → t v σ H Q
structure JGs (X : Cx) (tgs : List Expr) (vs : List Nat) (g : List D → Env → (Env → Prop) → Prop) : Prop where
  ex : ∃ t, PGs X tgs t ∧ ∀ (T : Addr → Prop) (ρ : Env) (σ : L2.St) (H : Hp) (us : List V) (ds : List D) (QD : Env → Prop) (Q : L2.St → Hp → Prop), RS X.K T ρ σ H → RpAll X.K (hide (Hd T ρ σ) H) us ds → g ds ρ QD →
    (∀ ρ' σ', RS X.K T ρ' σ' H → Po ρ σ H ρ' σ' H → wipe σ' vs = wipe σ vs → QD ρ' → Q σ' H) → t us σ H Q
theorem wipe_set (σ : L2.St) (v : Option V) : ∀ (vs : List Nat) (i : Nat), i ∈ vs → wipe (σ.set i v) vs = wipe σ vs
  | [], i, h => by cases h
  | j :: vs, i, h => by
    show (wipe (σ.set i v) vs).set j none = (wipe σ vs).set j none
    by_cases e : i ∈ vs
    · rw [wipe_set σ v vs i e]
    · have : i = j := by rcases List.mem_cons.mp h with h | h; exact h; exact absurd h e
      subst this
      have aux : ∀ (ws : List Nat), i ∉ ws → wipe (σ.set i v) ws = (wipe σ ws).set i v := by
        intro ws
        induction ws with
        | nil => intro _; rfl
        | cons k ws ih =>
          intro hn
          show (wipe (σ.set i v) ws).set k none = ((wipe σ ws).set k none).set i v
          rw [ih (fun z => hn (List.mem_cons_of_mem _ z)), List.set_comm _ _ (fun z => hn (by rw [z]; exact List.mem_cons_self))]
      rw [aux vs e, List.set_set]
section
variable {X : Cx} {a b c e : Expr} {fa fb fc : DE} {pos p : Pos} {es : List Expr} {x : Str}
def gNm (i : Nat) : DG := fun d ρ Q => Q (ρ.set i (some (.im d)))
theorem jg_name {i : Nat} {vs : List Nat} (hN : X.N.Nodup) (hi : X.N[i]? = some x) (hx : Loc X.env.scope x) (hv : i ∈ vs := by decide) (hf : X.fn x = true ∨ X.env.scope.names.lookup x = some .local := by first | exact .inl rfl | exact .inr rfl | assumption) : JG X (.Name x pos) vs (gNm i) :=
  ⟨gName i, pg_name hN hi hx hf, fun T ρ σ H v d QD Q r rv h q => q _ _ (r.setIm rv) .setIm (wipe_set σ _ vs i hv) h⟩
def gsNil : List D → Env → (Env → Prop) → Prop := fun ds ρ Q => ds = [] ∧ Q ρ
def gsCons (g : DG) (gs : List D → Env → (Env → Prop) → Prop) : List D → Env → (Env → Prop) → Prop := fun ds ρ Q => match ds with
  | d :: ds => g d ρ fun ρ1 => gs ds ρ1 Q
  | [] => False
theorem jgs_nil {vs : List Nat} : JGs X [] vs gsNil := ⟨gNil, pgs_nil, fun T ρ σ H us ds QD Q r rv h q => by
  obtain ⟨rfl, h⟩ := h
  cases rv
  exact ⟨rfl, q _ _ r .refl rfl h⟩⟩
theorem jgs_cons {g : DG} {gs : List D → Env → (Env → Prop) → Prop} {vs : List Nat} (h1 : JG X e vs g) (h2 : JGs X es vs gs) (hs : (assignEach (e :: es) X.env).map (·.2) = assign e X.env :: (assignEach es X.env).map (·.2) := by rfl) : JGs X (e :: es) vs (gsCons g gs) := by
  obtain ⟨t1, p1, k1⟩ := h1.ex
  obtain ⟨t2, p2, k2⟩ := h2.ex
  refine ⟨_, pgs_cons p1 p2 hs, fun T ρ σ H us ds QD Q r rv h q => ?_⟩
  cases rv with
  | nil => exact False.elim h
  | cons rv rr => exact ⟨_, _, rfl, k1 T ρ σ H _ _ _ _ r rv h fun ρ1 σ1 r1 q1 w1 h => k2 T ρ1 σ1 H _ _ _ _ r1 (rr.mono q1.fz) h fun ρ2 σ2 r2 q2 w2 h => q _ _ r2 (q1.trans q2) (w2.trans w1) h⟩
def gTp (n : Nat) (gs : List D → Env → (Env → Prop) → Prop) : DG := fun d ρ Q => match d with
  | .tuple ds => ds.length = n ∧ gs ds ρ Q
  | _ => False
theorem jg_tup {k n : Nat} {gs : List D → Env → (Env → Prop) → Prop} {vs : List Nat} (hc : X.calm = true) (h : JGs X es vs gs) (hn : (assignEach es X.env).length = n := by rfl) (hst : (assignEach es X.env).findIdx? (·.1) = none := by rfl) : JG X (.Tuple es k pos) vs (gTp n gs) := by
  obtain ⟨t, pt, kt⟩ := h.ex
  refine ⟨_, pg_tup hc pt hn hst, fun T ρ σ H v d QD Q r rv h q => ?_⟩
  cases rv with
  | tup hp rr => exact ⟨_, _, rfl, sqt_of hp, by rw [rr.length]; exact h.1, kt T ρ σ H _ _ _ _ r rr h.2 q⟩
  | _ => exact False.elim h
def sNx : DS := fun E ρ => E.nx ρ
def sSeq (f g : DS) : DS := fun E ρ => f { E with nx := g E } ρ
theorem js_nil : JSs X [] sNx := ⟨tNext, pss_nil, fun T ρ σ H E D r h k => k.nx _ _ _ r .refl h⟩
theorem js_cons {st : Stmt} {sts : List Stmt} {f g : DS} (h1 : JS X st f) (h2 : JSs X sts g) : JSs X (st :: sts) (sSeq f g) := by
  obtain ⟨t1, p1, k1⟩ := h1.ex
  obtain ⟨t2, p2, k2⟩ := h2.ex
  refine ⟨_, pss_cons p1 p2, fun T ρ σ H E D r h k => ?_⟩
  exact k1 T ρ σ H _ _ r h ⟨fun ρ1 σ1 H1 r1 q1 h1 => k2 T ρ1 σ1 H1 E D r1 h1 (k.step q1), k.rt, k.bk, k.ct, k.er⟩
theorem js_one {st : Stmt} {f : DS} (h1 : JS X st f) : JSs X [st] f := by
  obtain ⟨t1, p1, k1⟩ := h1.ex
  refine ⟨_, pss_cons p1 pss_nil, fun T ρ σ H E D r h k => ?_⟩
  exact k1 T ρ σ H E _ r h ⟨k.nx, k.rt, k.bk, k.ct, k.er⟩
def sNever : DS := fun _ _ => False
theorem js_never {st : Stmt} : JS X st sNever := ⟨_, ps_never, fun T ρ σ H E D r h k => h.elim⟩
theorem jss_never {st : List Stmt} : JSs X st sNever := ⟨_, pss_never, fun T ρ σ H E D r h k => h.elim⟩
def sEx (f : DE) : DS := fun E ρ => f ρ fun _ ρ1 => E.nx ρ1
theorem js_expr (ha : JE X e fa) (hs : swapsWith e none pos.line X.env = pure false := by rfl) : JS X (.Expr e pos) (sEx fa) := by
  obtain ⟨t, pt, kt⟩ := ha.ex
  exact ⟨_, ps_expr pt hs, fun T ρ σ H E D r h k => kt T ρ σ H _ _ r h fun d ρ1 v H1 r1 p1 v1 h => k.nx _ _ _ r1 p1 h⟩
def sRet (f : DE) : DS := fun E ρ => f ρ E.rt
theorem js_ret (ha : JE X e fa) : JS X (.Return (some e) pos) (sRet fa) := by
  obtain ⟨t, pt, kt⟩ := ha.ex
  exact ⟨_, ps_ret pt, fun T ρ σ H E D r h k => kt T ρ σ H _ _ r h fun d ρ1 v H1 r1 p1 v1 h => k.rt _ _ _ _ _ r1 p1 v1 h⟩
def sRetN : DS := fun E ρ => E.rt .none ρ
def sRetO (i : Nat) : DS := fun E ρ => match ρ[i]? with
  | some (some (.ow (.lst ds))) => E.rt (.list ds) (ρ.set i (some (.im (.list ds))))
  | _ => False
theorem js_retO {i : Nat} {px : Pos} (hN : X.N[i]? = some x) (hv : Vis X.env.scope x) (hd : (x == ("__debug__" : Str)) = false := by decide) (hcd : (x == ("__classdict__" : Str)) = false := by decide) : JS X (.Return (some (.Name x px)) pos) (sRetO i) := by
  refine ⟨_, ps_ret (pe_var hN hv hd hcd), fun T ρ σ H E D r h k => ?_⟩
  unfold sRetO at h
  split at h
  · rename_i ds e1
    have rf := r.freeze e1
    obtain ⟨v, hv, rv⟩ := rf.im i (.list ds) (List.getElem?_set_self (List.getElem?_eq_some_iff.mp e1).1)
    exact ⟨v, hv, k.rt _ _ _ _ _ rf .freeze rv h⟩
  · exact False.elim h
def sIf (c : DT) (f g : DS) : DS := fun E ρ => c ρ fun b ρ1 => if b = true then f E ρ1 else g E ρ1
theorem js_if {g : DT} {sa sb : List Stmt} {f1 f2 : DS} (hc : JT X c g) (h1 : JSs X sa f1) (h2 : JSs X sb f2) : JS X (.If c sa sb pos) (sIf g f1 f2) := by
  obtain ⟨tc, pc, kc⟩ := hc.ex
  obtain ⟨t1, p1, k1⟩ := h1.ex
  obtain ⟨t2, p2, k2⟩ := h2.ex
  refine ⟨_, ps_if pc p1 p2, fun T ρ σ H E D r h k => kc T ρ σ H _ _ r h fun b ρ1 H1 r1 q1 h => ?_⟩
  cases b with
  | true => exact k1 T ρ1 σ H1 E D r1 h (k.step q1)
  | false => exact k2 T ρ1 σ H1 E D r1 h (k.step q1)
def sSet (i : Nat) (f : DX) : DS := fun E ρ => f ρ fun sv ρ1 => E.nx (ρ1.set i (some sv))
theorem fits_set {K : PySem.W.Frag} {T : Addr → Prop} {ρ ρ0 : Env} {σ : L2.St} {H0 H : Hp} {v : V} {sv : SV} {i : Nat} (r0 : RS K T ρ0 σ H0) (q : Po ρ0 σ H0 ρ σ H) (h : Fits K T ρ σ H0 H v sv) : RS K T (ρ.set i (some sv)) (σ.set i (some v)) H ∧ Po ρ0 σ H0 (ρ.set i (some sv)) (σ.set i (some v)) H := by
  cases sv with
  | im d => exact ⟨h.1.setIm h.2, q.trans .setIm⟩
  | ow m =>
    obtain ⟨p, o, rfl, hn, ho, r, rr, np⟩ := h
    exact ⟨r.setOw ho rr (fun t => (r0.dom p t).1 hn) fun _ _ z => (np _ _ z).elim, q.setOw hn⟩
theorem js_set {i : Nat} {f : DX} {px : Pos} (he : JX X e f) (hN : X.N.Nodup) (hi : X.N[i]? = some x) (hx : Loc X.env.scope x) (hs : swapsWith e (some (.Name x px)) pos.line X.env = pure false := by rfl) (hf : X.fn x = true ∨ X.env.scope.names.lookup x = some .local := by first | exact .inl rfl | exact .inr rfl | assumption) : JS X (.Assign [.Name x px] e pos) (sSet i f) := by
  obtain ⟨t, pt, kt⟩ := he.ex
  refine ⟨_, ps_set hN hi hx pt hs hf, fun T ρ σ H E D r h k => kt T ρ σ H _ _ r h fun sv ρ1 v H1 fi q1 h => ?_⟩
  obtain ⟨r2, q2⟩ := fits_set (i := i) r q1 fi
  exact k.nx _ _ _ r2 q2 h
def sAsg (f : DE) (g : DG) : DS := fun E ρ => f ρ fun d ρ1 => g d ρ1 E.nx
theorem js_asg {tg : Expr} {g : DG} {vs : List Nat} (ha : JE X e fa) (hg : JG X tg vs g) (hs : swapsWithSole [tg] e pos.line X.env = pure false := by rfl) (hw : swappedStores [tg] e X.env = pure none := by rfl) (h1 : (assignEach [tg] X.env).map (·.2) = [assign tg X.env] := by rfl) : JS X (.Assign [tg] e pos) (sAsg fa g) := by
  obtain ⟨t, pt, kt⟩ := ha.ex
  obtain ⟨t2, p2, k2⟩ := hg.ex
  refine ⟨_, ps_asg pt p2 hs hw h1, fun T ρ σ H E D r h k => kt T ρ σ H _ _ r h fun d ρ1 v H1 r1 q1 v1 h => k2 T ρ1 σ H1 _ _ _ _ r1 v1 h fun ρ2 σ2 r2 q2 _ h => k.nx _ _ _ r2 (q1.trans q2) h⟩
def sPar (i j : Nat) (f g : DX) : DS := fun E ρ => f ρ fun s1 ρ1 => g ρ1 fun s2 ρ2 => E.nx ((ρ2.set i (some s1)).set j (some s2))
end
end Dn
set_option Elab.async false
set_option linter.all false
set_option maxRecDepth 100000
set_option autoImplicit false
set_option maxHeartbeats 4000000
namespace Dn
open PySem L2 Evl
section
variable {X : Cx} {a b c e : Expr} {fa fb fc : DE} {pos p : Pos} {es : List Expr} {x y : Str}
theorem setc {α : Type} {l : List α} {i j : Nat} {u v : α} (h : i ≠ j) : (l.set i u).set j v = (l.set j v).set i u := List.set_comm u v h
theorem Fits.grow {K : PySem.W.Frag} {T : Addr → Prop} {ρ : Env} {σ : L2.St} {H0 H H' : Hp} {v : V} {sv : SV} (h : Fits K T ρ σ H0 H v sv) (e : Ex H H') : Fits K T ρ σ H0 H' v sv := by
  cases sv with
  | im d => exact ⟨h.1.grow e, h.2.mono (hide_grow e)⟩
  | ow m => obtain ⟨q, o, h1, h2, h3, h4, h5, h6⟩ := h; exact ⟨q, o, h1, h2, e _ _ h3, h4.grow e, h5.mono (hide_grow e), h6⟩
def SV.temps (v : V) (sv : SV) (T : Addr → Prop) : Addr → Prop := match sv, v with
  | .ow _, .ref p => plus T p
  | _, _ => T
theorem Fits.rs {K : PySem.W.Frag} {T : Addr → Prop} {ρ : Env} {σ : L2.St} {H0 H : Hp} {v : V} {sv : SV} (h : Fits K T ρ σ H0 H v sv) : RS K (sv.temps v T) ρ σ H := by
  cases sv with
  | im d => exact h.1
  | ow m => obtain ⟨q, o, rfl, h2, h3, h4, h5, _⟩ := h; exact h4
theorem par_fin {K : PySem.W.Frag} {T : Addr → Prop} {ρ ρ1 ρ2 : Env} {σ : L2.St} {H H1 H2 : Hp} {v w : V} {s1 s2 : SV} {i j : Nat} (hij : i ≠ j) (r : RS K T ρ σ H) (f1 : Fits K T ρ1 σ H H1 v s1) (q1 : Po ρ σ H ρ1 σ H1)
    (f2 : Fits K (s1.temps v T) ρ2 σ H1 H2 w s2) (q2 : Po ρ1 σ H1 ρ2 σ H2) : RS K T ((ρ2.set i (some s1)).set j (some s2)) ((σ.set i (some v)).set j (some w)) H2 ∧ Po ρ σ H ((ρ2.set i (some s1)).set j (some s2)) ((σ.set i (some v)).set j (some w)) H2 := by
  rw [setc hij, setc hij]
  obtain ⟨r3, q3⟩ := fits_set (i := j) f1.rs q2 f2
  cases s1 with
  | im d => exact ⟨r3.setIm (f1.2.mono q3.fz), (q1.trans q3).trans .setIm⟩
  | ow m =>
    obtain ⟨p, o, rfl, hn, ho, r4, rr, np⟩ := f1
    have no : ¬ Own ρ1 σ p := r4.dis p (.inl rfl)
    exact ⟨r3.setOw (q3.keep p o no ho) (rr.mono q3.fz) (fun t => (r.dom p t).1 hn) fun _ _ z => (np _ _ z).elim, (q1.trans q3).setOw hn⟩
theorem js_par {i j : Nat} {f g : DX} {px py pt : Pos} {kt k2 pt2} (hc : X.calm = true) (hN : X.N.Nodup) (hi : X.N[i]? = some x) (hj : X.N[j]? = some y) (hij : i ≠ j) (hx : X.env.scope.names.lookup x = some .local) (hy : X.env.scope.names.lookup y = some .local)
    (ha : JX X a f) (hb : JX X b g) (hw : swappedStores [.Tuple [.Name x px, .Name y py] kt pt] (.Tuple [a, b] k2 pt2) X.env = pure (some [x, y])) (hs : swapsWithSole [.Tuple [.Name x px, .Name y py] kt pt] (.Tuple [a, b] k2 pt2) pos.line X.env = pure false := by rfl)
    (h1 : starEach [a, b] X.env = (false, eval a X.env) :: starEach [b] X.env := by rfl) (h2 : starEach [b] X.env = (false, eval b X.env) :: starEach [] X.env := by rfl) :
    JS X (.Assign [.Tuple [.Name x px, .Name y py] kt pt] (.Tuple [a, b] k2 pt2) pos) (sPar i j f g) := by
  obtain ⟨t1, p1, k1⟩ := ha.ex
  obtain ⟨t2, p2, k2⟩ := hb.ex
  refine ⟨_, ps_par hc hN hi hj hij hx hy (pa_cons p1 (pa_cons p2 pa_nil h2) h1) hw hs, fun T ρ σ H E D r h k => ?_⟩
  refine k1 T ρ σ H _ _ r h fun s1 ρ1 v H1 f1 q1 h => k2 (s1.temps v T) ρ1 σ H1 _ _ f1.rs h fun s2 ρ2 w H2 f2 q2 h => ⟨v, w, rfl, ?_⟩
  obtain ⟨r3, q3⟩ := par_fin hij r f1 q1 f2 q2
  exact k.nx _ _ _ r3 q3 h
theorem js_parT {i j : Nat} {f g : DX} {px py pt : Pos} {kt k2 pt2} (hc : X.calm = true) (hN : X.N.Nodup) (hi : X.N[i]? = some x) (hj : X.N[j]? = some y) (hij : i ≠ j) (hx : Loc X.env.scope x) (hy : Loc X.env.scope y)
    (ha : JX X a f) (hb : JX X b g) (hfx : X.fn x = true ∨ X.env.scope.names.lookup x = some .local := by first | exact .inl rfl | exact .inr rfl | assumption) (hfy : X.fn y = true ∨ X.env.scope.names.lookup y = some .local := by first | exact .inl rfl | exact .inr rfl | assumption)
    (hw : swappedStores [.Tuple [.Name x px, .Name y py] kt pt] (.Tuple [a, b] k2 pt2) X.env = pure none := by rfl) (hs : swapsWithSole [.Tuple [.Name x px, .Name y py] kt pt] (.Tuple [a, b] k2 pt2) pos.line X.env = pure false := by rfl)
    (h1 : starEach [a, b] X.env = (false, eval a X.env) :: starEach [b] X.env := by rfl) (h2 : starEach [b] X.env = (false, eval b X.env) :: starEach [] X.env := by rfl)
    (h3 : (assignEach [.Tuple [.Name x px, .Name y py] kt pt] X.env).map (·.2) = [assign (.Tuple [.Name x px, .Name y py] kt pt) X.env] := by rfl) (h4 : (assignEach [.Name x px, .Name y py] X.env).length = 2 := by rfl) (h5 : (assignEach [.Name x px, .Name y py] X.env).findIdx? (·.1) = none := by rfl)
    (h6 : (assignEach [.Name x px, .Name y py] X.env).map (·.2) = assign (.Name x px) X.env :: (assignEach [.Name y py] X.env).map (·.2) := by rfl) (h7 : (assignEach [.Name y py] X.env).map (·.2) = assign (.Name y py) X.env :: (assignEach [] X.env).map (·.2) := by rfl) :
    JS X (.Assign [.Tuple [.Name x px, .Name y py] kt pt] (.Tuple [a, b] k2 pt2) pos) (sPar i j f g) := by
  obtain ⟨t1, p1, k1⟩ := ha.ex
  obtain ⟨t2, p2, k2⟩ := hb.ex
  refine ⟨_, ps_asg (pe_tup (pa_cons p1 (pa_cons p2 pa_nil h2) h1)) (pg_tup hc (pgs_cons (pg_name hN hi hx hfx) (pgs_cons (pg_name hN hj hy hfy) pgs_nil h7) h6) h4 h5) hs hw h3, fun T ρ σ H E D r h k => ?_⟩
  refine k1 T ρ σ H _ _ r h fun s1 ρ1 v H1 f1 q1 h => k2 (s1.temps v T) ρ1 σ H1 _ _ f1.rs h fun s2 ρ2 w H2 f2 q2 h => ⟨by show 2 ≤ sizeLine; decide, fun l hl => ?_⟩
  obtain ⟨r3, q3⟩ := par_fin hij r f1 q1 (f2.grow (Ex.new hl)) (q2.trans (.grow (Ex.new hl)))
  exact ⟨l, [v, w], rfl, .inl (.inl upd_same), rfl, _, _, rfl, _, _, rfl, rfl, k.nx _ _ _ r3 q3 h⟩
structure ItOk (K : PySem.W.Frag) (J : It) (G : Hp) (ds : List D) : Prop where
  stop : ∀ H, Ex G H → J.stop ds.length H
  step : ∀ (i : Nat) (d : D) (H : Hp), ds[i]? = some d → Ex G H → J.go i H ∧ ∀ x H', J.yld i H x H' → Ex H H' ∧ ∀ O : Addr → Prop, (∀ a, O a → H a ≠ none) → Ex G (hide O H) → Rp K (hide O H') x d
structure JI (X : Cx) (tg iter : Expr) (f : DL) : Prop where
  ex : ∃ wi, PI X tg iter wi ∧ ∀ (T : Addr → Prop) (ρ : Env) (σ : L2.St) (H : Hp) (QD : List D → Env → Prop) (R : It → Hp → Prop), RS X.K T ρ σ H → f ρ QD →
    (∀ ds ρ' J H', RS X.K T ρ' σ H' → Po ρ σ H ρ' σ H' → ItOk X.K J (hide (Hd T ρ' σ) H') ds → QD ds ρ' → R J H') → wi σ H R
theorem it_list {K : PySem.W.Frag} {G : Hp} {a : Addr} {xs : List V} {ds : List D} (h : SqL K G a xs) (r : RpAll K G xs ds) : ItOk K (Itl K a) G ds :=
  ⟨fun H e => ⟨xs, ex_l e h, by rw [r.length]; exact Nat.le_refl _⟩, fun i d H hd e => by
    obtain ⟨v, h1, h2⟩ := r.get hd
    refine ⟨⟨xs, v, ex_l e h, h1⟩, fun x H' y => ?_⟩
    obtain ⟨rfl, y⟩ := y
    have := y xs (ex_l e h)
    rw [h1] at this; cases this
    exact ⟨Ex.refl _, fun O _ eo => h2.mono eo⟩⟩
theorem it_tup {K : PySem.W.Frag} {G : Hp} {a : Addr} {xs : List V} {ds : List D} (h : SqT K G a xs) (r : RpAll K G xs ds) : ItOk K (Itt K a) G ds :=
  ⟨fun H e => ⟨xs, ex_t e h, by rw [r.length]; exact Nat.le_refl _⟩, fun i d H hd e => by
    obtain ⟨v, h1, h2⟩ := r.get hd
    refine ⟨⟨xs, v, ex_t e h, h1⟩, fun x H' y => ?_⟩
    obtain ⟨rfl, y⟩ := y
    have := y xs (ex_t e h)
    rw [h1] at this; cases this
    exact ⟨Ex.refl _, fun O _ eo => h2.mono eo⟩⟩
theorem it_range {K : PySem.W.Frag} {G : Hp} (i j : Int) : ItOk K (Itr i (j - i).toNat) G (rgD i j) :=
  ⟨fun H e => by show (j - i).toNat ≤ (rgD i j).length; unfold rgD; simp, fun k d H hd e => by
    unfold rgD at hd
    rw [List.getElem?_map] at hd
    obtain ⟨m, hm, rfl⟩ := Option.map_eq_some_iff.mp hd
    obtain ⟨hk, hm⟩ := List.getElem?_eq_some_iff.mp hm
    simp at hk hm
    subst hm
    refine ⟨by show k < (j - i).toNat; omega, fun x H' y => ?_⟩
    obtain ⟨rfl, rfl⟩ := y
    exact ⟨Ex.refl _, fun O _ eo => .int _⟩⟩
variable {tg : Expr}
def iOw (i : Nat) : DL := fun ρ Q => match ρ[i]? with
  | some (some (.ow (.lst ds))) => Q ds (ρ.set i (some (.im (.list ds))))
  | _ => False
def iR1 (f : DE) : DL := fun ρ Q => f ρ fun d ρ1 => match d with
  | .int n => RgD 0 n ∧ Q (rgD 0 n) ρ1
  | _ => False
def iR2 (f g : DE) : DL := fun ρ Q => f ρ fun d ρ1 => g ρ1 fun e ρ2 => match d, e with
  | .int i, .int j => RgD i j ∧ Q (rgD i j) ρ2
  | _, _ => False
theorem ji_r1 (hm : X.mg "range" = none) (ha : JE X a fa) (hg : Gl X "range" := by rfl) (hs : starEach [a] X.env = [(false, eval a X.env)] := by rfl) : JI X tg (.Call (.Name "range" p) [a] [] pos) (iR1 fa) := by
  obtain ⟨t, pt, kt⟩ := ha.ex
  refine ⟨_, pi_range1 hg hm (pa_cons pt pa_nil hs) hs, fun T ρ σ H QD R r h q => kt T ρ σ H _ _ r h fun d ρ1 v H1 r1 p1 v1 h => ?_⟩
  cases v1 with
  | int n =>
    obtain ⟨⟨_, _, h1, h2⟩, h⟩ := h
    have z := q _ _ _ _ r1 p1 (it_range (K := X.K) 0 n) h
    rw [show (n - 0).toNat = n.toNat from by congr 1; omega] at z
    exact ⟨n, rfl, by omega, by omega, z⟩
  | _ => exact False.elim h
def enD (ds : List D) : List D := (List.range ds.length).zipWith (fun k d => .tuple [.int (k : Nat), d]) ds
theorem enD_get {ds : List D} {i : Nat} {d : D} (h : (enD ds)[i]? = some d) : ∃ e, ds[i]? = some e ∧ d = .tuple [.int (i : Nat), e] := by
  unfold enD at h
  rw [List.getElem?_zipWith] at h
  by_cases hi : i < ds.length
  · rw [List.getElem?_range hi, List.getElem?_eq_getElem hi] at h
    simp at h
    exact ⟨_, List.getElem?_eq_getElem hi, h.symm⟩
  · rw [List.getElem?_eq_none_iff.mpr (show ds.length ≤ i by omega)] at h
    cases hr : (List.range ds.length)[i]? <;> rw [hr] at h <;> cases h
theorem enD_len {ds : List D} : (enD ds).length = ds.length := by unfold enD; simp
end
end Dn
set_option Elab.async false
set_option linter.all false
set_option maxRecDepth 100000
set_option autoImplicit false
set_option maxHeartbeats 4000000
namespace Dn
open PySem L2 Evl
def wpFor (g : DG) (body : DS) (E : DEnds) : List D → Env → Prop
  | [], ρ => E.nx ρ
  | d :: ds, ρ => g d ρ fun ρ1 => body { nx := fun ρ2 => wpFor g body E ds ρ2, ct := fun ρ2 => wpFor g body E ds ρ2, bk := E.nx, rt := E.rt, er := E.er } ρ1
def sFor (fi : DL) (g : DG) (body : DS) : DS := fun E ρ => fi ρ fun ds ρ1 => wpFor g body E ds ρ1
def wpWh (c : DT) (body : DS) (E : DEnds) : Nat → Env → Prop
  | 0, _ => False
  | n + 1, ρ => c ρ fun b ρ1 => if b = true then body { nx := wpWh c body E n, ct := wpWh c body E n, bk := E.nx, rt := E.rt, er := E.er } ρ1 else E.nx ρ1
def sWh (c : DT) (body : DS) : DS := fun E ρ => ∃ n, wpWh c body E n ρ
section
variable {X : Cx} {a b c e : Expr} {fa fb fc : DE} {pos p : Pos} {es : List Expr} {x y : Str}
theorem js_for {tg iter : Expr} {body : List Stmt} {fi : DL} {g : DG} {vs : List Nat} {f : DS} (hc : X.calm = true) (hi : JI X tg iter fi) (hg : JG X tg vs g) (hb : JSs X body f) (hp : PassesOwn (model X.prog X.w) X.A X.env X.xe := by first | exact PassesOwn.never | exact passes_of rfl | assumption)
    (hs : ∀ x, foldedSetIterable iter X.env x = pure x := by intro _; rfl) : JS X (.For tg iter body [] pos) (sFor fi g f) := by
  obtain ⟨wi, pi, ki⟩ := hi.ex
  obtain ⟨tg', pg, kg⟩ := hg.ex
  obtain ⟨tb, pb, kb⟩ := hb.ex
  refine ⟨_, ps_for hp hc pi pg pb hs, fun T ρ σ H E D r h k => ki T ρ σ H _ _ r h fun ds ρ1 J H1 r1 p1 it h => ?_⟩
  refine ⟨fun i m σ' H' => i ≤ ds.length ∧ m = ds.length - i ∧ ∃ ρ', RS X.K T ρ' σ' H' ∧ Po ρ1 σ H1 ρ' σ' H' ∧ wpFor g f E (ds.drop i) ρ', ⟨ds.length, Nat.zero_le _, rfl, ρ1, r1, .refl, h⟩, ?_⟩
  rintro i m σ' H' ⟨hi, rfl, ρ', r', p', h⟩
  have eG : Ex (hide (Hd T ρ1 σ) H1) H' := (p'.fz (T := T)).trans hide_ex
  by_cases hl : i < ds.length
  · rw [List.drop_eq_getElem_cons hl] at h
    obtain ⟨go, st⟩ := it.step i ds[i] H' (List.getElem?_eq_getElem hl) eG
    refine .inr ⟨go, fun σ2 H2 => ∃ ρ2, RS X.K T ρ2 σ2 H2 ∧ Po ρ1 σ H1 ρ2 σ2 H2 ∧ wpFor g f E (ds.drop (i + 1)) ρ2, fun σ2 H2 ⟨ρ2, a1, a2, a3⟩ => ⟨ds.length - (i + 1), by omega, by omega, rfl, ρ2, a1, a2, a3⟩, fun v H2 hy => ?_⟩
    obtain ⟨ex, rv⟩ := st v H2 hy
    have r2 := r'.grow ex
    have p2 := p'.trans (Po.grow (ρ := ρ') (σ := σ') ex)
    refine kg T ρ' σ' H2 v _ _ _ r2 (rv _ (fun a => r'.hdDom) (p'.fz (T := T))) h fun ρ3 σ3 r3 p3 _ h => ?_
    refine kb T ρ3 σ3 H2 _ _ r3 h ⟨fun ρ4 σ4 H4 r4 p4 h => ⟨ρ4, r4, (p2.trans p3).trans p4, h⟩, fun d ρ4 σ4 v4 H4 r4 p4 v5 h => k.rt d ρ4 σ4 v4 H4 r4 ((p1.trans (p2.trans p3)).trans p4) v5 h, fun ρ4 σ4 H4 r4 p4 h => k.nx ρ4 σ4 H4 r4 ((p1.trans (p2.trans p3)).trans p4) h, fun ρ4 σ4 H4 r4 p4 h => ⟨ρ4, r4, (p2.trans p3).trans p4, h⟩, fun a b σ4 d H4 p4 v5 h => k.er a b σ4 d H4 ((p1.trans (p2.trans p3)).trans p4) v5 h⟩
  · have e : i = ds.length := by omega
    subst e
    rw [List.drop_length] at h
    exact .inl ⟨it.stop H' eG, k.nx _ _ _ r' (p1.trans p') h⟩
def wipeD (ρ : Env) : List Nat → Env
  | [] => ρ
  | v :: vs => (wipeD ρ vs).set v none
section
variable {K : PySem.W.Frag} {T : Addr → Prop} {ρ ρ' : Env} {σ σ' : L2.St} {H H' : Hp}
theorem own_congr (hs : ∀ (i : Nat) (sv : SV), ρ[i]? = some (some sv) → σ'[i]? = σ[i]?) {a : Addr} (w : Own ρ σ' a) : Own ρ σ a := by
  obtain ⟨i, m, h1, h2⟩ := w
  exact ⟨i, m, h1, by rw [← hs i _ h1]; exact h2⟩
theorem RS.congr (r : RS K T ρ σ H) (hl : σ'.length = σ.length) (hs : ∀ (i : Nat) (sv : SV), ρ[i]? = some (some sv) → σ'[i]? = σ[i]?) : RS K T ρ σ' H := by
  have e : Ex (hide (Hd T ρ σ) H) (hide (Hd T ρ σ') H) := hide_sub fun a w => w.elim .inl fun w => .inr (own_congr hs w)
  refine ⟨by rw [r.len, hl], fun i d h => ?_, fun i m h => ?_, fun i j m m' a h1 h2 h3 h4 => ?_, fun a t w => r.dis a t (own_congr hs w), r.dom, fun i p m a h1 h2 => by rw [hs i _ h1] at h2; exact r.tag i p m a h1 h2⟩
  · obtain ⟨v, h1, h2⟩ := r.im i d h; exact ⟨v, by rw [hs i _ h]; exact h1, h2.mono e⟩
  · obtain ⟨a, o, h1, h2, h3⟩ := r.ow i m h; exact ⟨a, o, by rw [hs i _ h]; exact h1, h2, h3.mono e⟩
  · rw [hs i _ h1] at h3; rw [hs j _ h2] at h4; exact r.inj i j m m' a h1 h2 h3 h4
theorem own_drop {i : Nat} {a : Addr} (w : Own (ρ.set i none) σ a) : Own ρ σ a := by
  obtain ⟨j, m, h1, h2⟩ := w
  rcases getset h1 with ⟨_, _, h⟩ | ⟨_, h⟩
  · cases h
  · exact ⟨j, m, h, h2⟩
theorem RS.drop {i : Nat} (r : RS K T ρ σ H) : RS K T (ρ.set i none) σ H := by
  have e : Ex (hide (Hd T ρ σ) H) (hide (Hd T (ρ.set i none) σ) H) := hide_sub fun a w => w.elim .inl fun w => .inr (own_drop w)
  refine ⟨by simp [r.len], fun j d h => ?_, fun j m h => ?_, fun j k m m' a h1 h2 h3 h4 => ?_, fun a t w => r.dis a t (own_drop w), r.dom, fun j p m a h1 h2 => ?_⟩
  · rcases getset h with ⟨_, _, h⟩ | ⟨_, h⟩
    · cases h
    · obtain ⟨v, h1, h2⟩ := r.im j d h; exact ⟨v, h1, h2.mono e⟩
  · rcases getset h with ⟨_, _, h⟩ | ⟨_, h⟩
    · cases h
    · obtain ⟨a, o, h1, h2, h3⟩ := r.ow j m h; exact ⟨a, o, h1, h2, h3.mono e⟩
  · rcases getset h1 with ⟨_, _, h1⟩ | ⟨_, h1⟩
    · cases h1
    · rcases getset h2 with ⟨_, _, h2⟩ | ⟨_, h2⟩
      · cases h2
      · exact r.inj j k m m' a h1 h2 h3 h4
  · rcases getset h1 with ⟨_, _, h1⟩ | ⟨_, h1⟩
    · cases h1
    · exact r.tag j p m a h1 h2
theorem Po.drop {i : Nat} : Po ρ σ H (ρ.set i none) σ H := ⟨fun _ _ _ h => h, fun a w => .inl (own_drop w), fun _ h => h⟩
theorem RS.dropAll (r : RS K T ρ σ H) : ∀ vs : List Nat, RS K T (wipeD ρ vs) σ H
  | [] => r
  | v :: vs => (RS.dropAll r vs).drop
theorem Po.dropAll : ∀ vs : List Nat, Po ρ σ H (wipeD ρ vs) σ H
  | [] => .refl
  | v :: vs => (Po.dropAll vs).trans .drop
theorem wipeD_none : ∀ (vs : List Nat) (i : Nat) (sv : SV), (wipeD ρ vs)[i]? = some (some sv) → i ∉ vs
  | [], _, _, _ => by simp
  | v :: vs, i, sv, h => by
    rcases getset (show ((wipeD ρ vs).set v none)[i]? = _ from h) with ⟨_, _, h⟩ | ⟨ne, h⟩
    · cases h
    · intro z
      rcases List.mem_cons.mp z with z | z
      · exact ne z.symm
      · exact wipeD_none vs i sv h z
theorem wipe_ne : ∀ (vs : List Nat) (i : Nat), i ∉ vs → (wipe σ vs)[i]? = σ[i]?
  | [], _, _ => rfl
  | v :: vs, i, h => by
    show ((wipe σ vs).set v none)[i]? = _
    rw [List.getElem?_set_ne (fun z => h (by rw [z]; exact List.mem_cons_self)), wipe_ne vs i fun z => h (List.mem_cons_of_mem _ z)]
theorem RS.wiped (r : RS K T ρ σ H) (vs : List Nat) : RS K T (wipeD ρ vs) (wipe σ vs) H := (r.dropAll vs).congr (wipe_length σ vs) fun i sv h => wipe_ne vs i (wipeD_none vs i sv h)
theorem own_wipe {vs : List Nat} {a : Addr} (w : Own (wipeD ρ vs) (wipe σ vs) a) : Own ρ σ a := by
  have w' : Own (wipeD ρ vs) σ a := own_congr (fun i sv h => wipe_ne vs i (wipeD_none vs i sv h)) w
  rcases (Po.dropAll (ρ := ρ) (σ := σ) (H := fun _ => some (.tup [])) vs).own a w' with h | h
  · exact h
  · cases h
theorem Po.wiped (vs : List Nat) : Po ρ σ H (wipeD ρ vs) (wipe σ vs) H := ⟨fun _ _ _ h => h, fun a w => .inl (own_wipe w), fun _ h => h⟩
theorem RS.unwipe {vs : List Nat} (r : RS K T (wipeD ρ vs) (wipe σ vs) H) : RS K T (wipeD ρ vs) σ H := r.congr (wipe_length σ vs).symm fun i sv h => (wipe_ne vs i (wipeD_none vs i sv h)).symm
theorem own_unwipe {vs : List Nat} {a : Addr} (w : Own (wipeD ρ vs) σ a) : Own (wipeD ρ vs) (wipe σ vs) a := own_congr (fun i sv h => (wipe_ne vs i (wipeD_none vs i sv h)).symm) w
end
structure JTs (X : Cx) (ifs : List Expr) (f : DT) : Prop where
  ex : ∃ t, PTs X ifs t ∧ ∀ (T : Addr → Prop) (ρ : Env) (σ : L2.St) (H : Hp) (QD : Bool → Env → Prop) (Q : Bool → Hp → Prop), RS X.K T ρ σ H → f ρ QD →
    (∀ b ρ' H', RS X.K T ρ' σ H' → Po ρ σ H ρ' σ H' → QD b ρ' → Q b H') → t σ H Q
def dYes : DT := fun ρ Q => Q true ρ
theorem jts_nil : JTs X [] dYes := ⟨tYes, pts_nil, fun T ρ σ H QD Q r h q => q _ _ _ r .refl h⟩
theorem jts_one {g : DT} (h : JT X c g) : JTs X [c] g := let ⟨t, pt, k⟩ := h.ex; ⟨t, pts_one pt, k⟩
def teOf (K : PySem.W.Frag) (f : DE) : TE := fun σ H Q => ∃ (T : Addr → Prop) (ρ : Env) (QD : D → Env → Prop), RS K T ρ σ H ∧ f ρ QD ∧ ∀ d ρ' v H', RS K T ρ' σ H' → Po ρ σ H ρ' σ H' → Rp K (hide (Hd T ρ' σ) H') v d → QD d ρ' → Q v H'
def ttOf (K : PySem.W.Frag) (f : DT) : TT := fun σ H Q => ∃ (T : Addr → Prop) (ρ : Env) (QD : Bool → Env → Prop), RS K T ρ σ H ∧ f ρ QD ∧ ∀ d ρ' H', RS K T ρ' σ H' → Po ρ σ H ρ' σ H' → QD d ρ' → Q d H'
def tgOf (K : PySem.W.Frag) (vs : List Nat) (g : DG) : TG := fun v σ H Q => ∃ (T : Addr → Prop) (ρ : Env) (d : D) (QD : Env → Prop), RS K T ρ σ H ∧ Rp K (hide (Hd T ρ σ) H) v d ∧ g d ρ QD ∧ ∀ ρ' σ', RS K T ρ' σ' H → Po ρ σ H ρ' σ' H → wipe σ' vs = wipe σ vs → QD ρ' → Q σ' H
theorem JE.pe (h : JE X e fa) : PE X e (teOf X.K fa) := by
  obtain ⟨t, pt, k⟩ := h.ex
  exact ⟨fun pins s σ H Q I ⟨T, ρ, QD, r, h, q⟩ => pt.run pins s σ H Q I (k T ρ σ H QD Q r h q)⟩
theorem JTs.pts {ifs : List Expr} {g : DT} (h : JTs X ifs g) : PTs X ifs (ttOf X.K g) := by
  obtain ⟨t, pt, k⟩ := h.ex
  exact ⟨fun pins s σ H Q I ⟨T, ρ, QD, r, h, q⟩ => pt.run pins s σ H Q I (k T ρ σ H QD Q r h q)⟩
theorem JG.pg {tg : Expr} {vs : List Nat} {g : DG} (h : JG X tg vs g) : PG X tg (tgOf X.K vs g) := by
  obtain ⟨t, pt, k⟩ := h.ex
  exact ⟨fun pins s σ H v u Q I rv ⟨T, ρ, d, QD, r, r2, h, q⟩ => pt.run pins s σ H v u Q I rv (k T ρ σ H v d QD Q r r2 h q)⟩
def wpLc (g : DG) (tt : DT) (te : DE) (vs : List Nat) (Q : List D → Env → Prop) : List D → List D → Env → Prop
  | [], acc, ρ => Q acc ρ
  | d :: ds, acc, ρ => acc.length < 16777216 ∧ g d (wipeD ρ vs) fun ρ1 => tt ρ1 fun b ρ2 => if b = true then te ρ2 fun y ρ3 => wpLc g tt te vs Q ds (acc ++ [y]) (wipeD ρ3 vs) else wpLc g tt te vs Q ds acc (wipeD ρ2 vs)
def lLc (fi : DL) (g : DG) (tt : DT) (te : DE) (vs : List Nat) : DL := fun ρ Q => fi ρ fun ds ρ1 => wpLc g tt te vs Q ds [] (wipeD ρ1 vs)
theorem wipeD_idem {ρ : Env} : ∀ vs : List Nat, wipeD (wipeD ρ vs) vs = wipeD ρ vs := by
  intro vs
  apply List.ext_getElem?
  intro i
  have len : ∀ (ρ : Env) (vs : List Nat), (wipeD ρ vs).length = ρ.length := fun ρ vs => by
    induction vs with
    | nil => rfl
    | cons v vs ih => show ((wipeD ρ vs).set v none).length = _; rw [List.length_set, ih]
  have at1 : ∀ (ρ : Env) (vs : List Nat), (wipeD ρ vs)[i]? = if i ∈ vs then (if i < ρ.length then some none else none) else ρ[i]? := fun ρ vs => by
    induction vs with
    | nil => simp [wipeD]
    | cons v vs ih =>
      show ((wipeD ρ vs).set v none)[i]? = _
      by_cases e : v = i
      · subst e
        by_cases hl : v < ρ.length
        · rw [List.getElem?_set_self (by rw [len]; exact hl)]; simp [hl]
        · rw [List.getElem?_eq_none_iff.mpr (by rw [List.length_set, len]; omega)]; simp [hl]
      · rw [List.getElem?_set_ne e, ih]
        simp only [List.mem_cons, show ¬ i = v from fun z => e z.symm, false_or]
  rw [at1, at1, len]
  by_cases h : i ∈ vs <;> simp [h]
theorem wipe_idem (ρ : L2.St) : ∀ vs : List Nat, wipe (wipe ρ vs) vs = wipe ρ vs := by
  intro vs
  apply List.ext_getElem?
  intro i
  have len : ∀ (ρ : L2.St) (vs : List Nat), (wipe ρ vs).length = ρ.length := fun ρ vs => by
    induction vs with
    | nil => rfl
    | cons v vs ih => show ((wipe ρ vs).set v none).length = _; rw [List.length_set, ih]
  have at1 : ∀ (ρ : L2.St) (vs : List Nat), (wipe ρ vs)[i]? = if i ∈ vs then (if i < ρ.length then some none else none) else ρ[i]? := fun ρ vs => by
    induction vs with
    | nil => simp [wipe]
    | cons v vs ih =>
      show ((wipe ρ vs).set v none)[i]? = _
      by_cases e : v = i
      · subst e
        by_cases hl : v < ρ.length
        · rw [List.getElem?_set_self (by rw [len]; exact hl)]; simp [hl]
        · rw [List.getElem?_eq_none_iff.mpr (by rw [List.length_set, len]; omega)]; simp [hl]
      · rw [List.getElem?_set_ne e, ih]
        simp only [List.mem_cons, show ¬ i = v from fun z => e z.symm, false_or]
  rw [at1, at1, len]
  by_cases h : i ∈ vs <;> simp [h]
theorem lc_read {tg iter : Expr} {vs : List Nat} {fi : DL} {g : DG} {tt : DT} {te : DE} (hi : JI X tg iter fi) : ∃ wi, PI X tg iter wi ∧ ∀ (T : Addr → Prop) (ρ : Env) (σ : L2.St) (H : Hp) (QD : List D → Env → Prop) (Q : VK), RS X.K T ρ σ H → lLc fi g tt te vs ρ QD →
    (∀ ds ρ' p vs H', H p = none → H' p = some (.lst vs) → RS X.K (plus T p) ρ' σ H' → RpAll X.K (hide (Hd (plus T p) ρ' σ) H') vs ds → Po ρ σ H ρ' σ H' → QD ds ρ' → Q (.ref p) H') → tLc wi (tgOf X.K vs g) (ttOf X.K tt) (teOf X.K te) vs σ H Q := by
  obtain ⟨wi, pi, ki⟩ := hi.ex
  refine ⟨wi, pi, fun T ρ σ H QD Q r h q => ki T ρ σ H _ _ r h fun ds ρ1 J H1 r1 p1 it h => ?_⟩
  intro L hL
  -- kept: what was known at the start stands apart from the new list
  refine ⟨fun i m H' => i ≤ ds.length ∧ m = ds.length - i ∧ ∃ ρ' acc us, ρ' = wipeD ρ' vs ∧ RS X.K (plus T L) ρ' (wipe σ vs) H' ∧ Po ρ1 σ H1 ρ' (wipe σ vs) H' ∧ H' L = some (.lst us) ∧ RpAll X.K (hide (Hd (plus T L) ρ' (wipe σ vs)) H') us acc ∧ wpLc g tt te vs QD (ds.drop i) acc ρ',
    ⟨ds.length, Nat.zero_le _, rfl, wipeD ρ1 vs, [], [], (wipeD_idem vs).symm, (r1.laid hL).wiped vs, (Po.grow (Ex.new hL)).trans (.wiped vs), upd_same, .nil, h⟩, ?_⟩
  rintro i m H' ⟨hi, rfl, ρ', acc, us, ew, r', p', hl, ra, h⟩
  have eG : Ex (hide (Hd T ρ1 σ) H1) H' := (p'.fz (T := T)).trans hide_ex
  by_cases hlt : i < ds.length
  · rw [List.drop_eq_getElem_cons hlt] at h
    obtain ⟨hz, h⟩ := h
    obtain ⟨go, st⟩ := it.step i ds[i] H' (List.getElem?_eq_getElem hlt) eG
    refine .inr ⟨go, fun H2 => ∃ ρ2 acc us, ρ2 = wipeD ρ2 vs ∧ RS X.K (plus T L) ρ2 (wipe σ vs) H2 ∧ Po ρ1 σ H1 ρ2 (wipe σ vs) H2 ∧ H2 L = some (.lst us) ∧ RpAll X.K (hide (Hd (plus T L) ρ2 (wipe σ vs)) H2) us acc ∧ wpLc g tt te vs QD (ds.drop (i + 1)) acc ρ2,
      fun H2 w => ⟨ds.length - (i + 1), by omega, by omega, rfl, w⟩, fun v H2 hy => ?_⟩
    obtain ⟨ex, rv⟩ := st v H2 hy
    rw [← ew] at h
    have r2 := r'.grow ex
    have pa2 := p'.trans (Po.grow (ρ := ρ') (σ := wipe σ vs) ex)
    have ra2 := ra.mono (hide_grow (O := Hd (plus T L) ρ' (wipe σ vs)) ex)
    have nL : H1 L = none := hL
    have eO : Ex (hide (Hd T ρ1 σ) H1) (hide (Hd (plus T L) ρ' (wipe σ vs)) H') := fun a o w => by
      obtain ⟨n, w⟩ := hide_some.1 w
      obtain ⟨n2, w2⟩ := hide_some.1 ((p'.fz (T := T)) a o (hide_some.2 ⟨n, w⟩))
      refine hide_some.2 ⟨?_, w2⟩
      rintro ((t | t) | t)
      · subst t; rw [nL] at w; cases w
      · exact n2 (.inl t)
      · exact n2 (.inr t)
    refine ⟨plus T L, ρ', ds[i], _, r2, rv _ (fun a => r'.hdDom) eO, h, fun ρ3 σ3 r3 p3 w3 h => ⟨by rw [w3]; exact wipe_idem σ vs, plus T L, ρ3, _, r3, h, fun b ρ4 H4 r4 p4 h => ?_⟩⟩
    -- the new list is never the block's own
    have keepL : ∀ {ρa : Env} {σa : L2.St} {Ha Hb : Hp} {ρb : Env} {σb : L2.St} {o : HO}, RS X.K (plus T L) ρa σa Ha → Po ρa σa Ha ρb σb Hb → Ha L = some o → Hb L = some o := fun ra pab hh => pab.keep L _ (ra.dis L (.inl rfl)) hh
    have l4 : H4 L = some (.lst us) := keepL r2 (p3.trans p4) (ex _ _ hl)
    have ra4 := ra2.mono (((p3.trans p4)).fz (T := plus T L))
    have back : ∀ {ρ5 : Env} {H5 : Hp}, RS X.K (plus T L) ρ5 σ3 H5 → RS X.K (plus T L) (wipeD ρ5 vs) (wipe σ vs) H5 := fun {ρ5 H5} r5 => by
      have z := r5.wiped vs
      rw [w3, wipe_idem] at z
      exact z
    have pback : ∀ {ρ5 : Env} {H5 : Hp}, Po ρ1 σ H1 ρ5 σ3 H5 → Po ρ1 σ H1 (wipeD ρ5 vs) (wipe σ vs) H5 := fun {ρ5 H5} p5 => by
      have z := p5.trans (Po.wiped (ρ := ρ5) (σ := σ3) (H := H5) vs)
      rw [w3, wipe_idem] at z
      exact z
    cases b with
    | false =>
      refine ⟨wipeD ρ4 vs, acc, us, (wipeD_idem vs).symm, back r4, pback (pa2.trans (p3.trans p4)), l4, ?_, h⟩
      have z := ra4.mono ((Po.wiped (ρ := ρ4) (σ := σ3) (H := H4) vs).fz (T := plus T L))
      rw [w3, wipe_idem] at z
      exact z
    | true =>
      rw [if_pos rfl] at h
      dsimp only
      rw [if_pos rfl]
      refine ⟨plus T L, ρ4, _, r4, h, fun y ρ5 w H5 r5 p5 v5 h => ?_⟩
      have l5 : H5 L = some (.lst us) := keepL r4 p5 l4
      have ra5 := (ra4.mono (p5.fz (T := plus T L))).append (.cons v5 .nil)
      have aL : ∀ (o : HO), Ex (hide (Hd (plus T L) ρ5 σ3) H5) (hide (Hd (plus T L) ρ5 σ3) (upd H5 L o)) := fun o a u w => by
        obtain ⟨n, w⟩ := hide_some.1 w
        exact hide_some.2 ⟨n, by rw [upd_ne (fun z => n (.inl (.inl z)))]; exact w⟩
      have r6 : RS X.K (plus T L) ρ5 σ3 (upd H5 L (.lst (us ++ [w]))) := by
        refine ⟨r5.len, fun j d z => ?_, fun j m z => ?_, r5.inj, r5.dis, fun a t => ?_, r5.tag⟩
        · obtain ⟨u, h1, h2⟩ := r5.im j d z; exact ⟨u, h1, h2.mono (aL _)⟩
        · obtain ⟨a, o, h1, h2, h3⟩ := r5.ow j m z
          have ne : a ≠ L := fun e => by subst e; exact r5.dis a (.inl rfl) ⟨j, m, z, h1⟩
          exact ⟨a, o, h1, by rw [upd_ne ne]; exact h2, h3.mono (aL _)⟩
        · by_cases e : a = L
          · subst e; exact Lv.at fun _ z => nomatch z
          · exact (r5.dom a t).upd e
      have p6 : Po ρ1 σ H1 ρ5 σ3 (upd H5 L (.lst (us ++ [w]))) := by
        have z := (pa2.trans (p3.trans p4)).trans p5
        refine ⟨fun a o n hh => ?_, z.own, fun a hh => ?_⟩
        · rw [upd_ne (fun e => by subst e; rw [nL] at hh; cases hh)]; exact z.keep a o n hh
        · by_cases e : a = L
          · subst e; rw [upd_same]; simp
          · rw [upd_ne e]; exact z.dom a hh
      refine ⟨us, l5, by rw [ra.length]; exact hz, wipeD ρ5 vs, acc ++ [y], us ++ [w], (wipeD_idem vs).symm, back r6, pback p6, upd_same, ?_, h⟩
      have z := (ra5.mono (aL (.lst (us ++ [w])))).mono ((Po.wiped (ρ := ρ5) (σ := σ3) (H := upd H5 L (.lst (us ++ [w]))) vs).fz (T := plus T L))
      rw [w3, wipe_idem] at z
      exact z
  · have e : i = ds.length := by omega
    subst e
    rw [List.drop_length] at h
    refine .inl ⟨it.stop H' eG, ?_⟩
    rw [ew] at r' p' ra h
    refine q acc (wipeD ρ' vs) L us H' (none_back p1 hL) hl r'.unwipe (ra.mono ?_) ?_ h
    · exact hide_sub fun a w => w.elim .inl fun w => .inr (own_unwipe w)
    · exact p1.trans ⟨p'.keep, fun a w => p'.own a (own_unwipe w), p'.dom⟩
theorem jl_lc {elt tg iter : Expr} {ifs : List Expr} {scope : Scope} {own : List (Str × Nat)} {fi : DL} {g : DG} {tt : DT} {te : DE} (hc : X.calm = true) (hN : X.N.Nodup) (hi : JI X tg iter fi) (ok : BlkOk X.N X.env.scope scope own)
    (hg : ∀ (s : Shared) (H : Hp) (C : Addr) (cl : List (Str × Addr)) (fp : List Addr), JG (X.blk s H scope (compEnvC scope cl C X.env) fp) tg (own.map (·.2)) g) (ht : ∀ (s : Shared) (H : Hp) (C : Addr) (cl : List (Str × Addr)) (fp : List Addr), JTs (X.blk s H scope (compEnvC scope cl C X.env) fp) ifs tt)
    (he : ∀ (s : Shared) (H : Hp) (C : Addr) (cl : List (Str × Addr)) (fp : List Addr), JE (X.blk s H scope (compEnvC scope cl C X.env) fp) elt te) (hs : ∀ x, foldedSetIterable iter X.env x = pure x := by intro _; rfl) :
    JL X (.ListComp elt [⟨tg, iter, ifs, 0⟩] scope pos) (lLc fi g tt te (own.map (·.2))) := by
  obtain ⟨wi, pi, k⟩ := lc_read (vs := own.map (·.2)) (g := g) (tt := tt) (te := te) hi
  exact ⟨_, pe_lc (wi := wi) (g := tgOf X.K (own.map (·.2)) g) (tt := ttOf X.K tt) (te := teOf X.K te) hc hN pi ok (fun s H C cl fp => (hg s H C cl fp).pg) (fun s H C cl fp => (ht s H C cl fp).pts) (fun s H C cl fp => (he s H C cl fp).pe) hs, k⟩
theorem js_lcO {i : Nat} {py spos : Pos} {elt tg iter : Expr} {ifs : List Expr} {scope : Scope} {own : List (Str × Nat)} {fi : DL} {g : DG} {tt : DT} {te : DE} (hc : X.calm = true) (hN : X.N.Nodup) (hy : X.N[i]? = some y) (hyl : X.env.scope.names.lookup y = some .local)
    (hsw : swapsWith (.ListComp elt [⟨tg, iter, ifs, 0⟩] scope pos) (some (.Name y py)) spos.line X.env = pure true) (hi : JI X tg iter fi) (ok : BlkOk X.N X.env.scope scope own)
    (hg : ∀ (s : Shared) (H : Hp) (C : Addr) (cl : List (Str × Addr)) (fp : List Addr), JG (X.blk s H scope (compEnvC scope cl C X.env) fp) tg (own.map (·.2)) g) (ht : ∀ (s : Shared) (H : Hp) (C : Addr) (cl : List (Str × Addr)) (fp : List Addr), JTs (X.blk s H scope (compEnvC scope cl C X.env) fp) ifs tt)
    (he : ∀ (s : Shared) (H : Hp) (C : Addr) (cl : List (Str × Addr)) (fp : List Addr), JE (X.blk s H scope (compEnvC scope cl C X.env) fp) elt te) (hs : ∀ x, foldedSetIterable iter X.env x = pure x := by intro _; rfl) :
    JS X (.Assign [.Name y py] (.ListComp elt [⟨tg, iter, ifs, 0⟩] scope pos) spos) (sSet i (xOw (lLc fi g tt te (own.map (·.2))))) := by
  obtain ⟨wi, pi, k⟩ := lc_read (vs := own.map (·.2)) (g := g) (tt := tt) (te := te) hi
  refine ⟨_, ps_setLc (wi := wi) (g := tgOf X.K (own.map (·.2)) g) (tt := ttOf X.K tt) (te := teOf X.K te) hc hN hy hyl hsw pi ok (fun s H C cl fp => (hg s H C cl fp).pg) (fun s H C cl fp => (ht s H C cl fp).pts) (fun s H C cl fp => (he s H C cl fp).pe) hs, fun T ρ σ H E D r h q => ?_⟩
  refine k T ρ σ H _ _ r h fun ds ρ1 l vs H1 n sl r1 v1 p1 h => ?_
  obtain ⟨r2, q2⟩ := fits_set (i := i) (sv := .ow (.lst ds)) r p1 ⟨l, .lst vs, rfl, n, sl, r1, v1, fun _ _ z => nomatch z⟩
  exact q.nx _ _ _ r2 q2 h
theorem js_lcF {i : Nat} {py spos : Pos} {elt tg iter : Expr} {ifs : List Expr} {scope : Scope} {own : List (Str × Nat)} {fi : DL} {g : DG} {tt : DT} {te : DE} (hc : X.calm = true) (hN : X.N.Nodup) (hy : X.N[i]? = some y) (hyl : X.env.scope.names.lookup y = some .local)
    (hsw : swapsWith (.ListComp elt [⟨tg, iter, ifs, 0⟩] scope pos) (some (.Name y py)) spos.line X.env = pure true) (hi : JI X tg iter fi) (ok : BlkOk X.N X.env.scope scope own)
    (hg : ∀ (s : Shared) (H : Hp) (C : Addr) (cl : List (Str × Addr)) (fp : List Addr), JG (X.blk s H scope (compEnvC scope cl C X.env) fp) tg (own.map (·.2)) g) (ht : ∀ (s : Shared) (H : Hp) (C : Addr) (cl : List (Str × Addr)) (fp : List Addr), JTs (X.blk s H scope (compEnvC scope cl C X.env) fp) ifs tt)
    (he : ∀ (s : Shared) (H : Hp) (C : Addr) (cl : List (Str × Addr)) (fp : List Addr), JE (X.blk s H scope (compEnvC scope cl C X.env) fp) elt te) (hs : ∀ x, foldedSetIterable iter X.env x = pure x := by intro _; rfl) :
    JS X (.Assign [.Name y py] (.ListComp elt [⟨tg, iter, ifs, 0⟩] scope pos) spos) (sSet i (xIm (dOfL (lLc fi g tt te (own.map (·.2)))))) := by
  obtain ⟨wi, pi, k⟩ := lc_read (vs := own.map (·.2)) (g := g) (tt := tt) (te := te) hi
  refine ⟨_, ps_setLc (wi := wi) (g := tgOf X.K (own.map (·.2)) g) (tt := ttOf X.K tt) (te := teOf X.K te) hc hN hy hyl hsw pi ok (fun s H C cl fp => (hg s H C cl fp).pg) (fun s H C cl fp => (ht s H C cl fp).pts) (fun s H C cl fp => (he s H C cl fp).pe) hs, fun T ρ σ H E D r h q => ?_⟩
  refine k T ρ σ H _ _ r h fun ds ρ1 l vs H1 n sl r1 v1 p1 h => ?_
  have rl : Rp X.K (hide (Hd T ρ1 σ) H1) (.ref l) (.list ds) := .lst (hide_some.2 ⟨fun w => by
    rcases w with w | w
    · exact (r.dom l w).1 n
    · exact r1.dis l (.inl rfl) w, sl⟩) (v1.mono hd_unplus)
  exact q.nx _ _ _ (r1.unplus.setIm rl) (p1.trans .setIm) h
end
end Dn
set_option Elab.async false
set_option linter.all false
set_option maxRecDepth 100000
set_option autoImplicit false
set_option maxHeartbeats 4000000
namespace PySem
open Sem (wp)
open AutoSeq1 (wpAny_loadPart')
theorem own_enum_new (tp : Addr) (its : Array Value) (nn : Nat) (dd : Option Addr) (ss : Array (Option Value)) :
    Meets (Builtin.«enumerate.__new__» ⟨[.type "enumerate", .ref tp], []⟩) (fun _ R st =>
      st.heap.get? tp = some { cls := .type "tuple", dict := dd, data := .seq its nn, slots := ss } ∧
      R (.ok (.ret (.ref (st.heap.push { cls := .type "tuple_iterator", data := .fields #[.ref tp, .int 0 0] }).objs.size)))
        { st with heap := (st.heap.push { cls := .type "tuple_iterator", data := .fields #[.ref tp, .int 0 0] }).push { cls := .type "enumerate", data := .fields #[.none, .bool false, .ref st.heap.objs.size, rawInt 0, .none, .none] } }) :=
  .of_wp fun prog w A R st h => by
    obtain ⟨hp, gg, dr, tk, oo⟩ := st
    obtain ⟨at_, h⟩ := h
    have isSub := sub_enumerate
    have isT : Heap.IsTuple (Shared.heap ⟨hp, gg, dr, tk, oo⟩) tp its := ⟨_, at_, rfl, nn, rfl⟩
    wp_walk using wpAny_loadPart' at_
    refine wpAny_stack_any fun _ => wpAny_pure ?_
    split
    · rename_i c _ _ _ _ _
      cases (c == Value.type "enumerate") <;>
      · wp_walk using wpAny_loadPart' at_, wpAny_pyIter_tuple isT
        exact ⟨_, rfl, h⟩
    · wp_walk using wpAny_loadPart' at_, wpAny_pyIter_tuple isT
      exact ⟨_, rfl, h⟩
theorem own_enum_call {prog : Program} {w : World} {A : Around} {E : Value → Shared → Prop} {st : Shared} {tp : Addr} {its : Array Value} {Q : Value → Shared → Prop} (isT : st.heap.IsTuple tp its)
    (h : ∀ hp : Heap, IsEnum hp (st.heap.objs.size + 1) st.heap.objs.size 0 .none → hp.IsTupleIter st.heap.objs.size tp 0 →
      (∀ b o, st.heap.get? b = some o → hp.get? b = some o) → Q (.ref (st.heap.objs.size + 1)) { st with heap := hp }) :
    wpAny (model prog w) A (call (.type "enumerate") [.ref tp]) Q E st := by
  obtain ⟨⟨cc, dd, dt, ss⟩, at_, hc, nn, hd⟩ := isT
  replace hc : cc = .type "tuple" := hc
  replace hd : dt = .seq its nn := hd
  subst hc hd
  refine callType_new F.called_enumerate (by decide) (F.typeCall_enumerate_1 _) (F.newCall_enumerate_1 _) (fun ob => F.args_object_init_2 ob _) F.entry_enumerate_new (own_enum_new tp its nn dd ss) ⟨at_, ?_⟩
  generalize hI : ({ cls := .type "tuple_iterator", data := .fields #[.ref tp, .int 0 0] } : Obj) = oI
  generalize hE : ({ cls := .type "enumerate", data := .fields #[.none, .bool false, .ref st.heap.objs.size, rawInt 0, .none, .none] } : Obj) = oE
  have sz : (st.heap.push oI).objs.size = st.heap.objs.size + 1 := Heap.size_push ..
  have nf : oE.isFreed = false := by subst hE; rfl
  have nI : oI.isFreed = false := by subst hI; rfl
  have gE : ((st.heap.push oI).push oE).get? (st.heap.objs.size + 1) = some oE := by
    have z := Heap.get?_push_size (st.heap.push oI) (o := oE) nf
    rwa [sz] at z
  have gI : ((st.heap.push oI).push oE).get? st.heap.objs.size = some oI := Heap.get?_push_of_some _ (Heap.get?_push_size _ nI)
  show _ ∧ _
  rw [sz]
  subst hE hI
  exact ⟨⟨_, gE, rfl⟩, h _ gE ⟨{ cls := .type "tuple_iterator", data := .fields #[.ref tp, .int 0 0] }, gI, rfl, rfl⟩ fun b o x => Heap.get?_push_of_some _ (Heap.get?_push_of_some _ x)⟩
end PySem
namespace Dn
open PySem L2 Evl PySem.Spec PyProof.Rows
def IteT (K : PySem.W.Frag) (a : Addr) : It where
  go := fun i H => ∃ (xs : List V) (x : V), SqT K H a xs ∧ xs[i]? = some x
  yld := fun i H v H' => ∃ l x, v = .ref l ∧ H l = none ∧ H' = upd H l (.tup [.int (i : Nat), x]) ∧ ∀ xs, SqT K H a xs → xs[i]? = some x
  stop := fun i H => ∃ xs : List V, SqT K H a xs ∧ xs.length ≤ i
theorem turn_enT {P : Program} {w : World} {K : PySem.W.Frag} {elts : List Expr} {kk : Nat} {tpos : Pos} (a e it : Addr) :
    Turn P w K (.Tuple elts kk tpos) (IteT K a) [e, it] e (fun i h => (∃ old, IsEnum h e it ((i : Nat) : Int) old) ∧ h.IsTupleIter it a i ∧ e ≠ it) where
  mem := by simp
  obj := fun i h st b hb => by
    obtain ⟨⟨old, he⟩, ⟨o, ho, hc, hd⟩, _⟩ := st
    rcases (show b = e ∨ b = it by simpa using hb) with rfl | rfl
    · exact ⟨_, he, fun v q => nomatch q⟩
    · exact ⟨o, ho, fun v q => by rw [hd] at q; cases q⟩
  keep := fun i h h' ⟨⟨old, he⟩, hi, hne⟩ k => ⟨⟨old, k e (by simp) _ he⟩, hi.at fun o q => k it (by simp) o q, hne⟩
  item := by
    intro X hP hw hK hc i pins s σ H E I hf st hg
    subst hP hw hK
    obtain ⟨⟨old, he⟩, hit, hne⟩ := st
    obtain ⟨xs, x, hq, hx⟩ := hg
    obtain ⟨its, rv, isT, hz⟩ := I.tuple hq
    obtain ⟨u, hu, ru⟩ := rv.get hx
    have isT' : s.heap.IsTuple a its.toArray := isT
    have hil : it < s.heap.objs.size := by obtain ⟨_, q, _⟩ := hit; exact Heap.lt_size q
    have hel : e < s.heap.objs.size := Heap.lt_size he
    have ai : a ≠ it := fun z => by
      subst z
      obtain ⟨o1, q1, c1, _⟩ := isT'
      obtain ⟨o2, q2, c2, _⟩ := hit
      rw [q1] at q2; cases q2
      have z : Value.type "tuple" = Value.type "tuple_iterator" := (show _ = o1.cls from Eq.symm c1).trans c2
      injection z with z
      exact absurd z (by decide)
    have ae : e ≠ a := fun z => by
      subst z
      obtain ⟨o1, q1, c1, _⟩ := isT'
      rw [show s.heap.get? e = some _ from he] at q1; cases q1
      have z : Value.type "enumerate" = Value.type "tuple" := c1
      injection z with z
      exact absurd z (by decide)
    have lt : i < its.toArray.size := by
      have := (List.getElem?_eq_some_iff.mp hu).1
      simpa using this
    refine wpAny_pyNext_enum_itemD (Draws.tuple (A := X.A.in1) (show X.A.in1.handled = none from I.ok.hd hc) it a ai its.toArray) he ⟨hit, isT'⟩ lt hne (by simp [hne, ae]) fun y h' tk hy ho st' hT hsz hk => ?_
    have yu : y = u := by
      have z : its.toArray[i]? = some u := by simpa using hu
      rw [hy] at z; cases z; rfl
    subst yu
    refine ⟨_, rfl, wpAny_letOwnedTupleGo_enum (s := { s with heap := h', toks := tk + 1 }) ho fun h2 he2 sb => ?_⟩
    have hT2 : h2.get? s.heap.objs.size = some { cls := .type "tuple", data := .seq #[.int i tk, y] } := (sb.2 _ (Nat.ne_of_gt hel)).trans hT
    have kp : ∀ b ob, b ∉ [e, it] → s.heap.get? b = some ob → h2.get? b = some ob := fun b ob hb q => by
      have b1 : b ≠ e := fun z => hb (by simp [z])
      have b2 : b ≠ it := fun z => hb (by simp [z])
      exact (sb.2 b b1).trans (hk b ob b1 b2 q)
    have okT : ObjOk X.prog X.w (upd H s.heap.objs.size (.tup [.int (i : Nat), x])) h2 s.heap.objs.size (.tup [.int (i : Nat), x]) :=
      ⟨by show 2 ≤ sizeLine; decide, [.int i tk, y], .cons ⟨_, rfl⟩ (.cons ru .nil), ⟨_, hT2, rfl, _, rfl⟩⟩
    have I2 : Inv X pins σ (upd H s.heap.objs.size (.tup [.int (i : Nat), x])) { s with heap := h2, toks := tk + 1 } := I.turnedNew (ch := [e, it]) kp hf (Nat.le_refl _) okT
    refine ⟨.ref s.heap.objs.size, _, I2, rfl, ⟨_, x, rfl, I.hok.fresh (Nat.le_refl _), rfl, fun ys hys => by rw [I.tuple_inj hys hq]; exact hx⟩, ⟨⟨y, ?_⟩, st'.1.at fun o q => (sb.2 it (Ne.symm hne)).trans q, hne⟩, fun b hb => ?_⟩
    · have e1 : ((i + 1 : Nat) : Int) = (i : Int) + 1 := by omega
      rw [e1]; exact he2
    · have bl : b < s.heap.objs.size := by
        rcases (show b = e ∨ b = it by simpa using hb) with rfl | rfl
        · exact hel
        · exact hil
      rw [upd_ne (Nat.ne_of_lt bl)]
      exact (hf b hb).1
  done := by
    intro X hP hw hK hc i pins s σ H E I hf st hg
    subst hP hw hK
    obtain ⟨⟨old, he⟩, hit, hne⟩ := st
    obtain ⟨xs, hq, hx⟩ := hg
    obtain ⟨its, rv, isT, hz⟩ := I.tuple hq
    have isT' : s.heap.IsTuple a its.toArray := isT
    obtain ⟨f0, f1, f2, f3, f4, f5⟩ := hf it (by simp)
    have hl := rv.length
    have nx : its.toArray[i]? = none := by simp; omega
    have hT : s.TypeIs (.ref e) "enumerate" := ⟨_, he, rfl⟩
    show wpAny _ _ (pyNext (.ref e)) _ _ _
    unfold pyNext
    refine wpAny_bind (wpAny_attempt (wpAny_callSpecial?_slot (name := Str.ofString "__next__") hT F.slot_enumerate_next (wpAny_call_entry F.slot_enumerate_next hT F.entry_enumerate_next ?_ (F.args_enumerate_next_1 _))))
    show wpAny _ _ (field (.ref e) 2 >>= _) _ _ _
    refine wpAny_bind (wpAny_field he rfl (x := .ref it) rfl ?_)
    refine wpAny_bind (wpAny_nextOf_tuple_end (show X.A.in1.handled = none from I.ok.hd hc) hit isT' nx fun h' ex hs' hx' => ?_)
    obtain ⟨o, ho, hcl⟩ := hx'
    refine wpAny_bind (wpAny_isInstance (T := "StopIteration") (b := true) ⟨o, ho, hcl⟩ isSubtype_stop ?_)
    exact wpAny_pure ⟨rfl, I.turned (t' := s.toks) (fun b o hb q => hs' b o hb q) f0 f1 f3 f4 f5⟩
  self := fun A i s Q E st h => let ⟨⟨_, he⟩, _⟩ := st; wpAny_pyIter_enum he h
section
variable {X : Cx} {a : Expr} {fa : DE} {pos p : Pos}
end
end Dn
set_option Elab.async false
set_option linter.all false
set_option maxRecDepth 100000
set_option autoImplicit false
set_option maxHeartbeats 4000000
namespace Dn
open PySem L2 Evl PySem.Spec
section
variable {X : Cx} {a b c e : Expr} {fa fb fc : DE} {pos p : Pos} {es : List Expr} {x y : Str}
def MO.getL : MO → Option (List D)
  | .lst ds => some ds
  | .par _ m => m.getL
  | _ => none
def MO.putL : MO → List D → MO
  | .par p _, ds => .par p (.lst ds)
  | _, ds => .lst ds
theorem getL_rp {K : PySem.W.Frag} {G : Hp} : ∀ {m : MO} {o : HO} {ds : List D}, RpO K G m o → m.getL = some ds → ∃ vs, o = .lst vs ∧ RpAll K G vs ds
  | .lst ds, o, es, h, e => by
    cases e
    cases o <;> first | exact False.elim h | exact ⟨_, rfl, h⟩
  | .par _ m, o, es, h, e => getL_rp (m := m) (by unfold RpO at h; exact h) e
  | .dct _, o, es, h, e => by cases e
  | .rng _, o, es, h, e => by cases e
  | .dtu _, o, es, h, e => by cases e
  | .obj _ _, o, es, h, e => by cases e
theorem putL_rp {K : PySem.W.Frag} {G : Hp} {m : MO} {vs : List V} {ds : List D} (h : RpAll K G vs ds) : RpO K G (m.putL ds) (.lst vs) := by
  cases m <;> first | exact h | (unfold MO.putL RpO; exact h)
theorem putL_tag {K : PySem.W.Frag} {T : Addr → Prop} {ρ : Env} {σ : L2.St} {H : Hp} {i : Nat} {m : MO} {ds : List D} {p : Addr} (r : RS K T ρ σ H) (hm : ρ[i]? = some (some (SV.ow m))) (hp : σ[i]? = some (some (V.ref p))) : ∀ q m1, m.putL ds = .par q m1 → p = q := fun q m1 h => by
  cases m with
  | par q' m' => cases h; exact r.tag i _ _ p hm hp
  | _ => cases h
def atO (ρ : Env) (i : Nat) : Option (List D) := match ρ[i]? with
  | some (some (.ow m)) => m.getL
  | _ => none
def setO (ρ : Env) (i : Nat) (ds : List D) : Env := match ρ[i]? with
  | some (some (.ow m)) => ρ.set i (some (.ow (m.putL ds)))
  | _ => ρ
theorem atO_some {ρ : Env} {i : Nat} {ds : List D} (h : atO ρ i = some ds) : ∃ m, ρ[i]? = some (some (SV.ow m)) ∧ m.getL = some ds := by
  unfold atO at h
  split at h
  · exact ⟨_, by assumption, h⟩
  · cases h
theorem RS.atO {K : PySem.W.Frag} {T : Addr → Prop} {ρ : Env} {σ : L2.St} {H : Hp} {i : Nat} {ds : List D} (r : RS K T ρ σ H) (h : Dn.atO ρ i = some ds) : ∃ m q vs, ρ[i]? = some (some (SV.ow m)) ∧ σ[i]? = some (some (V.ref q)) ∧ H q = some (.lst vs) ∧ RpAll K (hide (Hd T ρ σ) H) vs ds := by
  obtain ⟨m, hm, hg⟩ := atO_some h
  obtain ⟨q, o, h1, h2, h3⟩ := r.ow i m hm
  obtain ⟨vs, rfl, h4⟩ := getL_rp h3 hg
  exact ⟨m, q, vs, hm, h1, h2, h4⟩
theorem RS.setO {K : PySem.W.Frag} {T : Addr → Prop} {ρ : Env} {σ : L2.St} {H : Hp} {i : Nat} {m : MO} {q : Addr} {vs : List V} {ds : List D} (r : RS K T ρ σ H) (hm : ρ[i]? = some (some (SV.ow m))) (hq : σ[i]? = some (some (V.ref q))) (h : RpAll K (hide (Hd T ρ σ) H) vs ds) :
    RS K T (Dn.setO ρ i ds) σ (upd H q (.lst vs)) ∧ Po ρ σ H (Dn.setO ρ i ds) σ (upd H q (.lst vs)) := by
  unfold Dn.setO
  rw [hm]
  exact ⟨r.write hm hq (putL_rp h) (putL_tag r hm hq), .write hm hq⟩
def dIxP (i : Nat) (fb : DE) : DE := fun ρ Q => (atO ρ i).isSome = true ∧ fb ρ fun y ρ1 => ∃ ds j d, atO ρ1 i = some ds ∧ y = .int j ∧ atI ds j = some d ∧ Q d ρ1
theorem je_ixP {i : Nat} {px : Pos} (hN : X.N[i]? = some x) (hv : Vis X.env.scope x) (hb : JE X b fb) (hs : PlainIx b := by exact fun _ _ => rfl) (hd : (x == ("__debug__" : Str)) = false := by decide) (hcd : (x == ("__classdict__" : Str)) = false := by decide) :
    JE X (.Subscript (.Name x px) b pos) (dIxP i fb) := by
  obtain ⟨tb, pb, kb⟩ := hb.ex
  refine ⟨_, pe_ix ix_list (pe_var hN hv hd hcd) pb hs, fun T ρ σ H QD Q r h q => ?_⟩
  obtain ⟨h0, h⟩ := h
  obtain ⟨ds0, h0⟩ := Option.isSome_iff_exists.mp h0
  obtain ⟨m, l, vs, _, hl, _, _⟩ := r.atO h0
  refine ⟨_, hl, kb T ρ σ H _ _ r h fun y ρ1 v H1 r1 p1 v1 h => ?_⟩
  obtain ⟨ds, j, d, h1, rfl, h2, h3⟩ := h
  obtain ⟨m', l', vs', _, hl', ho', hr'⟩ := r1.atO h1
  rw [hl] at hl'; cases hl'
  obtain ⟨u, h4, h5⟩ := atI_rp hr' h2
  cases v1
  exact ⟨_, _, _, _, rfl, rfl, .inl (.inl ho'), h4, q _ _ _ _ r1 p1 h5 h3⟩
def sSub (i : Nat) (fi fe : DE) : DS := fun E ρ => fe ρ fun d ρ1 => (atO ρ1 i).isSome = true ∧ fi ρ1 fun k ρ2 => ∃ ds j m, atO ρ2 i = some ds ∧ k = .int j ∧ ixN ds.length j = some m ∧ E.nx (setO ρ2 i (ds.set m d))
theorem js_sub {i : Nat} {px ps : Pos} {f1 f2 : DE} (hN : X.N[i]? = some x) (hv : Vis X.env.scope x) (hi : JE X b f1) (he : JE X e f2) (hd : (x == ("__debug__" : Str)) = false := by decide) (hcd : (x == ("__classdict__" : Str)) = false := by decide)
    (ha : ∀ v, assign (.Subscript (.Name x px) b ps) X.env v = (do
      let ov ← holding [v] (eval (.Name x px) X.env); let iv ← holding [v, ov] (eval b X.env); standAt ps; holding [v, ov, iv] (setItem ov iv v); release [v, ov, iv] []) := by intro _; rfl)
    (hs : swapsWithSole [.Subscript (.Name x px) b ps] e pos.line X.env = pure false := by rfl) (hw : swappedStores [.Subscript (.Name x px) b ps] e X.env = pure none := by rfl) (h1 : (assignEach [.Subscript (.Name x px) b ps] X.env).map (·.2) = [assign (.Subscript (.Name x px) b ps) X.env] := by rfl) :
    JS X (.Assign [.Subscript (.Name x px) b ps] e pos) (sSub i f1 f2) := by
  obtain ⟨t1, p1, k1⟩ := hi.ex
  obtain ⟨t2, p2, k2⟩ := he.ex
  refine ⟨_, ps_asg p2 (pg_sub (pe_var hN hv hd hcd) p1 set_list ha) hs hw h1, fun T ρ σ H E D r h k => k2 T ρ σ H _ _ r h fun d ρ1 v H1 r1 q1 v1 h => ?_⟩
  obtain ⟨h0, h⟩ := h
  obtain ⟨ds0, h0⟩ := Option.isSome_iff_exists.mp h0
  obtain ⟨m, l, vs, _, hl, _, _⟩ := r1.atO h0
  refine ⟨_, hl, k1 T ρ1 σ H1 _ _ r1 h fun kk ρ2 w H2 r2 q2 v2 h => ?_⟩
  obtain ⟨ds, j, n, h2, rfl, h3, h4⟩ := h
  obtain ⟨m', l', vs', hm', hl', ho', hr'⟩ := r2.atO h2
  rw [hl] at hl'; cases hl'
  cases v2
  obtain ⟨r3, q3⟩ := r2.setO hm' hl (hr'.set n (v1.mono q2.fz))
  exact ⟨l, vs', j, n, rfl, rfl, ho', by rw [hr'.length]; exact h3, k.nx _ _ _ r3 ((q1.trans q2).trans q3) h4⟩
def dApp (i : Nat) (f : DE) : DE := fun ρ Q => (atO ρ i).isSome = true ∧ f ρ fun d ρ1 => ∃ ds, atO ρ1 i = some ds ∧ ds.length < 16777216 ∧ Q .none (setO ρ1 i (ds ++ [d]))
theorem je_app {i : Nat} {px pa pc : Pos} (hN : X.N[i]? = some x) (hv : Vis X.env.scope x) (he : JE X e fa) (hd : (x == ("__debug__" : Str)) = false := by decide) (hcd : (x == ("__classdict__" : Str)) = false := by decide)
    (hbase : attributeBase (.Name x px) "append" X.env (eval (.Name x px) X.env) = eval (.Name x px) X.env := by rfl)
    (hfew : ((backTo pc (starEach [e] X.env)).all (fun x => !x.1) && (backToKw pc (keywordEach [] X.env)).all (fun x => x.1.isSome) && decide ([e].length + ([] : List Keyword).length + (if ([] : List Keyword).isEmpty then 0 else 1) < 30)) = true := by rfl)
    (hline : (pa.endLine == pc.line) = true := by rfl) (hs : starEach [e] X.env = (false, eval e X.env) :: starEach [] X.env := by rfl) : JE X (.Call (.Attribute (.Name x px) "append" pa) [e] [] pc) (dApp i fa) := by
  obtain ⟨t, pt, kt⟩ := he.ex
  refine ⟨_, pe_bm PySem.F.plainAttrs_list PySem.F.slot_list_append PySem.F.type_list_append mt_append (pe_var hN hv hd hcd) (pa_cons pt pa_nil hs) hbase hfew hline hs, fun T ρ σ H QD Q r h q => ?_⟩
  obtain ⟨h0, h⟩ := h
  obtain ⟨ds0, h0⟩ := Option.isSome_iff_exists.mp h0
  obtain ⟨m, l, vs, _, hl, ho, _⟩ := r.atO h0
  refine ⟨_, hl, .inl ⟨rfl, _, .inl (.inl ho)⟩, kt T ρ σ H _ _ r h fun d ρ1 v H1 r1 p1 v1 h => ?_⟩
  obtain ⟨ds, h1, hz, h2⟩ := h
  obtain ⟨m', l', vs', hm', hl', ho', hr'⟩ := r1.atO h1
  rw [hl] at hl'; cases hl'
  obtain ⟨r3, q3⟩ := r1.setO hm' hl (hr'.append (.cons v1 .nil))
  exact ⟨l, vs', v, rfl, rfl, ho', by rw [hr'.length]; exact hz, q _ _ _ _ r3 (p1.trans q3) .non h2⟩
def dExt (i : Nat) (f : DE) : DE := fun ρ Q => (atO ρ i).isSome = true ∧ f ρ fun d ρ1 => ∃ ds es, atO ρ1 i = some ds ∧ d = .list es ∧ ds.length + es.length ≤ 16777216 ∧ Q .none (setO ρ1 i (ds ++ es))
theorem je_ext {i : Nat} {px pa pc : Pos} (hN : X.N[i]? = some x) (hv : Vis X.env.scope x) (he : JE X e fa) (hd : (x == ("__debug__" : Str)) = false := by decide) (hcd : (x == ("__classdict__" : Str)) = false := by decide)
    (hbase : attributeBase (.Name x px) "extend" X.env (eval (.Name x px) X.env) = eval (.Name x px) X.env := by rfl)
    (hfew : ((backTo pc (starEach [e] X.env)).all (fun x => !x.1) && (backToKw pc (keywordEach [] X.env)).all (fun x => x.1.isSome) && decide ([e].length + ([] : List Keyword).length + (if ([] : List Keyword).isEmpty then 0 else 1) < 30)) = true := by rfl)
    (hline : (pa.endLine == pc.line) = true := by rfl) (hs : starEach [e] X.env = (false, eval e X.env) :: starEach [] X.env := by rfl) : JE X (.Call (.Attribute (.Name x px) "extend" pa) [e] [] pc) (dExt i fa) := by
  obtain ⟨t, pt, kt⟩ := he.ex
  refine ⟨_, pe_bm PySem.F.plainAttrs_list PySem.F.slot_list_extend PySem.F.type_list_extend mt_extend (pe_var hN hv hd hcd) (pa_cons pt pa_nil hs) hbase hfew hline hs, fun T ρ σ H QD Q r h q => ?_⟩
  obtain ⟨h0, h⟩ := h
  obtain ⟨ds0, h0⟩ := Option.isSome_iff_exists.mp h0
  obtain ⟨m, l, vs, _, hl, ho, _⟩ := r.atO h0
  refine ⟨_, hl, .inl ⟨rfl, _, .inl (.inl ho)⟩, kt T ρ σ H _ _ r h fun d ρ1 v H1 r1 p1 v1 h => ?_⟩
  obtain ⟨ds, es, h1, rfl, hz, h2⟩ := h
  obtain ⟨m', l', vs', hm', hl', ho', hr'⟩ := r1.atO h1
  rw [hl] at hl'; cases hl'
  cases v1 with
  | lst hp rr =>
    obtain ⟨r3, q3⟩ := r1.setO hm' hl (hr'.append rr)
    exact ⟨l, _, vs', _, rfl, rfl, ho', at_of hp, by rw [hr'.length, rr.length]; exact hz, q _ _ _ _ r3 (p1.trans q3) .non h2⟩
def dPopAt (i : Nat) (f : DE) : DE := fun ρ Q => (atO ρ i).isSome = true ∧ f ρ fun k ρ1 => ∃ ds j n d, atO ρ1 i = some ds ∧ k = .int j ∧ 0 ≤ j ∧ j < ds.length ∧ n = j.toNat ∧ ds[n]? = some d ∧ ds.length ≤ 1000000 ∧ Q d (setO ρ1 i (ds.eraseIdx n))
theorem je_popAt {i : Nat} {px pa pc : Pos} (hN : X.N[i]? = some x) (hv : Vis X.env.scope x) (he : JE X e fa) (hd : (x == ("__debug__" : Str)) = false := by decide) (hcd : (x == ("__classdict__" : Str)) = false := by decide)
    (hbase : attributeBase (.Name x px) "pop" X.env (eval (.Name x px) X.env) = eval (.Name x px) X.env := by rfl)
    (hfew : ((backTo pc (starEach [e] X.env)).all (fun x => !x.1) && (backToKw pc (keywordEach [] X.env)).all (fun x => x.1.isSome) && decide ([e].length + ([] : List Keyword).length + (if ([] : List Keyword).isEmpty then 0 else 1) < 30)) = true := by rfl)
    (hline : (pa.endLine == pc.line) = true := by rfl) (hs : starEach [e] X.env = (false, eval e X.env) :: starEach [] X.env := by rfl) : JE X (.Call (.Attribute (.Name x px) "pop" pa) [e] [] pc) (dPopAt i fa) := by
  obtain ⟨t, pt, kt⟩ := he.ex
  refine ⟨_, pe_bm PySem.F.plainAttrs_list PySem.F.slot_list_pop PySem.F.type_list_pop mt_popAt (pe_var hN hv hd hcd) (pa_cons pt pa_nil hs) hbase hfew hline hs, fun T ρ σ H QD Q r h q => ?_⟩
  obtain ⟨h0, h⟩ := h
  obtain ⟨ds0, h0⟩ := Option.isSome_iff_exists.mp h0
  obtain ⟨m, l, vs, _, hl, ho, _⟩ := r.atO h0
  refine ⟨_, hl, .inl ⟨rfl, _, .inl (.inl ho)⟩, kt T ρ σ H _ _ r h fun d ρ1 v H1 r1 p1 v1 h => ?_⟩
  obtain ⟨ds, j, n, z, h1, rfl, j0, jl, hn, hz, hlen, h2⟩ := h
  obtain ⟨m', l', vs', hm', hl', ho', hr'⟩ := r1.atO h1
  rw [hl] at hl'; cases hl'
  cases v1
  obtain ⟨u, hu, ru⟩ := hr'.get hz
  obtain ⟨r3, q3⟩ := r1.setO hm' hl (hr'.erase n)
  have ix : seqIndex? j vs'.length = some n := by
    have hx : ixN vs'.length j = some n := by
      unfold ixN
      rw [if_pos j0, if_pos (by rw [hr'.length]; exact jl), hn]
    exact (ixN_seq hx).1
  exact ⟨l, vs', j, n, u, rfl, rfl, ho', by omega, by omega, ix, hu, q _ _ _ _ r3 (p1.trans q3) (ru.mono q3.fz) h2⟩
def dVarF (i : Nat) : DE := fun ρ Q => match ρ[i]? with
  | some (some (.ow (.lst ds))) => Q (.list ds) (ρ.set i (some (.im (.list ds))))
  | _ => False
def dIn (neg : Bool) : D → D → (D → Prop) → Prop := fun x y Q => ∃ ds, seqD y = some ds ∧ isSc x = true ∧ ds.all isSc = true ∧ Q (.bool (if neg then !(ds.any fun z => PyData.eqv z x) else ds.any fun z => PyData.eqv z x))
theorem flat_sc {K : PySem.W.Frag} {G : Hp} {v : V} {d : D} (r : Rp K G v d) (h : isSc d = true) : flatV v = true := by cases r <;> first | rfl | (simp [isSc] at h; done)
theorem flat_all {K : PySem.W.Frag} {G : Hp} : ∀ {vs : List V} {ds : List D}, RpAll K G vs ds → ds.all isSc = true → vs.all flatV = true
  | _, _, .nil, _ => rfl
  | _, _, .cons h r, c => by
    rw [List.all_cons, Bool.and_eq_true] at c ⊢
    exact ⟨flat_sc h c.1, flat_all r c.2⟩
theorem eqV_rp {K : PySem.W.Frag} {G G' : Hp} {v u : V} {d e : D} (r : Rp K G v d) (s : Rp K G' u e) (h1 : isSc d = true) (h2 : isSc e = true) : eqV v u = PyData.eqv d e := by
  cases r <;> first | (simp [isSc] at h1; done) | skip
  all_goals cases s <;> first | (simp [isSc] at h2; done) | simp [eqV, PyData.eqv]
theorem inV_rp {K : PySem.W.Frag} {G G' : Hp} {x : V} {d : D} (s : Rp K G' x d) (h1 : isSc d = true) : ∀ {vs : List V} {ds : List D}, RpAll K G vs ds → ds.all isSc = true → inV x vs = ds.any fun z => PyData.eqv z d
  | _, _, .nil, _ => rfl
  | _, _, .cons h r, c => by
    rw [List.all_cons, Bool.and_eq_true] at c
    show (eqV _ _ || inV _ _) = (_ || _)
    rw [eqV_rp h s c.1 h1, inV_rp s h1 r c.2]
theorem opd_notin : OpD X (compareOp .NotIn) (dIn true) := by
  refine ⟨_, op_notIn_seq, fun O H x y d e QD Q hO rx ry h k => ?_⟩
  obtain ⟨ds, h1, h2, h3, h4⟩ := h
  obtain ⟨q, xs, rfl, hs, rr⟩ := seq_rp ry h1
  exact ⟨_, _, rfl, hs, flat_sc rx h2, flat_all rr h3, k _ _ H (.refl H) (.bl _) (by rw [inV_rp rx h2 rr h3]; exact h4)⟩
end
end Dn
set_option Elab.async false
set_option linter.all false
set_option maxRecDepth 100000
set_option autoImplicit false
set_option maxHeartbeats 4000000
namespace Dn
open PySem L2 Evl PySem.Spec PyProof.Rows
def spD (K : PySem.W.Frag) (n : Nat) (S : List D → (D → Prop) → Prop) : Sp := fun vs H Q _ => vs.length = n ∧ ∃ (T : Addr → Prop) (ds : List D) (QD : D → Prop), (∀ a, T a → Lv H a) ∧ RpAll K (hide T H) vs ds ∧ S ds QD ∧
  ∀ v d H', QD d → Ex H H' → Rp K (hide T H') v d → Q v H'
def spM (K : PySem.W.Frag) (n : Nat) (S : List D → List D → (D → List D → Prop) → Prop) : Sp := fun vs H Q _ => vs.length = n ∧ ∃ (T : Addr → Prop) (l : Addr) (us : List V) (ws : List V) (ms : List D) (ds : List D) (QD : D → List D → Prop),
  vs = .ref l :: us ∧ (∀ a, T a → Lv H a) ∧ ¬ T l ∧ H l = some (.lst ws) ∧ RpAll K (hide (plus T l) H) ws ms ∧ RpAll K (hide (plus T l) H) us ds ∧ S ms ds QD ∧
  ∀ v d ms' ws' H', QD d ms' → (∀ a o, a ≠ l → H a = some o → H' a = some o) → H' l = some (.lst ws') → RpAll K (hide (plus T l) H') ws' ms' → Rp K (hide (plus T l) H') v d → Q v H'
section
variable {X : Cx} {a b c e : Expr} {fa fb fc : DE} {pos p : Pos} {es : List Expr} {x y : Str} {k : Nat} {f : Addr} {fd : FuncData} {ps : List Str} {n : Nat}
def dCallF (n : Nat) (S : List D → (D → Prop) → Prop) (g : DA) : DE := fun ρ Q => g ρ fun ds ρ1 => ds.length = n ∧ S ds fun z => Q z ρ1
theorem spD_of {K : PySem.W.Frag} {T : Addr → Prop} {ρ0 ρ : Env} {σ : L2.St} {H0 H : Hp} {vs : List V} {ds : List D} {S : List D → (D → Prop) → Prop} {QD : D → Env → Prop} {Q : VK} {E : XK} (r : RS K T ρ σ H) (q : Po ρ0 σ H0 ρ σ H) (rv : RpAll K (hide (Hd T ρ σ) H) vs ds) (hn : ds.length = n) (h : S ds fun z => QD z ρ)
    (k : ∀ d ρ' v H', RS K T ρ' σ H' → Po ρ0 σ H0 ρ' σ H' → Rp K (hide (Hd T ρ' σ) H') v d → QD d ρ' → Q v H') : spD K n S vs H Q E :=
  ⟨by rw [rv.length, hn], Hd T ρ σ, ds, _, fun a => r.hdLv, rv, h, fun v d H' hq e r2 => k d ρ v H' (r.grow e) (q.trans (.grow e)) r2 hq⟩
theorem je_call {S : List D → (D → Prop) → Prop} {g : DA} (F : FnOk X.prog X.w X.K X.mg X.base L2.CX0 k f fd ps (spD X.K n S)) (hr : Room k X.A) (hm : X.mg x = some (.ref f)) (hk : PySem.W.keepIn X.K (.ref f) = true) (hb : Binds X.K fd ps []) (ha : JA X (e :: es) g) (hg : Gl X x := by rfl)
    (hdb : (x == ("__debug__" : Str)) = false := by decide) (he : starEach (e :: es) X.env = (false, eval e X.env) :: starEach es X.env := by rfl) (hpl : (backTo pos (starEach es X.env)).any (·.1) = false := by rfl) : JE X (.Call (.Name x p) (e :: es) [] pos) (dCallF n S g) := by
  obtain ⟨t, pa, ka⟩ := ha.ex
  refine ⟨_, pe_call F hr hg hm hk hb .nil (E := fun _ _ _ => False) (fun _ _ _ _ _ _ _ h => h.elim) pa hdb he hpl, fun T ρ σ H QD Q r h q => ka T ρ σ H _ _ r h fun ds ρ1 vs H1 r1 p1 v1 h => ?_⟩
  rw [List.append_nil]
  exact spD_of r1 p1 v1 h.1 h.2 q
def dCallM (i n : Nat) (S : List D → List D → (D → List D → Prop) → Prop) (g : DA) : DE := fun ρ Q => (atO ρ i).isSome = true ∧ g ρ fun ds ρ1 => ds.length + 1 = n ∧ ∃ ms, atO ρ1 i = some ms ∧ S ms ds fun d ms' => Q d (setO ρ1 i ms')
theorem plus_hd {T : Addr → Prop} {ρ : Env} {σ : L2.St} {l a : Addr} {i : Nat} {m : MO} (hm : ρ[i]? = some (some (SV.ow m))) (hl : σ[i]? = some (some (V.ref l))) (h : plus (fun a => Hd T ρ σ a ∧ a ≠ l) l a) : Hd T ρ σ a := by
  rcases h with h | h
  · subst h; exact .inr ⟨i, m, hm, hl⟩
  · exact h.1
theorem hd_plus {T : Addr → Prop} {ρ : Env} {σ : L2.St} {l a : Addr} (h : Hd T ρ σ a) : plus (fun a => Hd T ρ σ a ∧ a ≠ l) l a := by
  by_cases e : a = l
  · exact .inl e
  · exact .inr ⟨h, e⟩
theorem je_callM {i : Nat} {px : Pos} {S : List D → List D → (D → List D → Prop) → Prop} {g : DA} (F : FnOk X.prog X.w X.K X.mg X.base L2.CX0 k f fd ps (spM X.K n S)) (hr : Room k X.A) (hm : X.mg x = some (.ref f)) (hk : PySem.W.keepIn X.K (.ref f) = true) (hb : Binds X.K fd ps [])
    (hN : X.N[i]? = some y) (hv : Vis X.env.scope y) (ha : JA X es g) (hg : Gl X x := by rfl) (hd : (y == ("__debug__" : Str)) = false := by decide) (hcd : (y == ("__classdict__" : Str)) = false := by decide)
    (hdb : (x == ("__debug__" : Str)) = false := by decide) (he : starEach (Expr.Name y px :: es) X.env = (false, eval (Expr.Name y px) X.env) :: starEach es X.env := by rfl) (hpl : (backTo pos (starEach es X.env)).any (·.1) = false := by rfl) : JE X (.Call (.Name x p) (.Name y px :: es) [] pos) (dCallM i n S g) := by
  obtain ⟨t, pa, ka⟩ := ha.ex
  refine ⟨_, pe_call F hr hg hm hk hb .nil (E := fun _ _ _ => False) (fun _ _ _ _ _ _ _ h => h.elim) (pa_cons (pe_var hN hv hd hcd) pa he) hdb he hpl, fun T ρ σ H QD Q r h q => ?_⟩
  obtain ⟨h0, h⟩ := h
  obtain ⟨ds0, h0⟩ := Option.isSome_iff_exists.mp h0
  obtain ⟨m, l, vs, _, hl, _, _⟩ := r.atO h0
  refine ⟨_, hl, ka T ρ σ H _ _ r h fun ds ρ1 us H1 r1 p1 v1 h => ?_⟩
  obtain ⟨hn, ms, h1, h⟩ := h
  obtain ⟨m', l', ws, hm', hl', ho', hr'⟩ := r1.atO h1
  rw [hl] at hl'; cases hl'
  rw [List.append_nil]
  have e1 : Ex (hide (Hd T ρ1 σ) H1) (hide (plus (fun a => Hd T ρ1 σ a ∧ a ≠ l) l) H1) := hide_sub fun a w => plus_hd hm' hl w
  refine ⟨by simp [v1.length, hn], fun a => Hd T ρ1 σ a ∧ a ≠ l, l, us, ws, ms, ds, _, rfl, fun a w => r1.hdLv w.1, fun w => w.2 rfl, ho', hr'.mono e1, v1.mono e1, h, fun v d ms' ws' H' hq kp hl2 rm rv => ?_⟩
  -- the heap behind the call, as if the list had been written at once
  have e2 : Ex (hide (plus (fun a => Hd T ρ1 σ a ∧ a ≠ l) l) H') (hide (Hd T ρ1 σ) (upd H' l (.lst ws'))) := fun a o w => by
    obtain ⟨w1, w2⟩ := hide_some.1 w
    exact hide_some.2 ⟨fun z => w1 (hd_plus z), by rw [upd_ne (fun z => w1 (.inl z))]; exact w2⟩
  have back : upd H' l (.lst ws') = H' := by
    funext a
    by_cases z : a = l
    · subst z; rw [upd_same, hl2]
    · rw [upd_ne z]
  -- first the rest of the heap grows, then the list is written
  let Hm : Hp := fun a => if a = l then some (.lst ws) else H' a
  have eM : Ex H1 Hm := fun a o w => by
    show (if a = l then _ else _) = _
    by_cases z : a = l
    · subst z; rw [if_pos rfl, ← ho', w]
    · rw [if_neg z]; exact kp a o z w
  have rM := r1.grow eM
  have uM : upd Hm l (.lst ws') = H' := by
    funext a
    by_cases z : a = l
    · subst z; rw [upd_same, hl2]
    · rw [upd_ne z]; show (if a = l then _ else _) = _; rw [if_neg z]
  have e3 : Ex (hide (plus (fun a => Hd T ρ1 σ a ∧ a ≠ l) l) H') (hide (Hd T ρ1 σ) Hm) := fun a o w => by
    obtain ⟨w1, w2⟩ := hide_some.1 w
    refine hide_some.2 ⟨fun z => w1 (hd_plus z), ?_⟩
    show (if a = l then _ else _) = _
    rw [if_neg (fun z => w1 (.inl z))]; exact w2
  obtain ⟨r3, q3⟩ := rM.setO hm' hl (rm.mono e3)
  rw [uM] at r3 q3
  have pM : Po ρ σ H ρ1 σ Hm := p1.trans (.grow eM)
  exact q d _ v H' r3 (pM.trans q3) ((rv.mono e3).mono q3.fz) hq
def envD (ds : List D) (m : Nat) : Env := ds.map (fun d => some (SV.im d)) ++ List.replicate m none
theorem envD_get {ds : List D} {m i : Nat} {sv : SV} (h : (envD ds m)[i]? = some (some sv)) : ∃ d, ds[i]? = some d ∧ sv = .im d := by
  unfold envD at h
  rw [List.getElem?_append] at h
  split at h
  · rw [List.getElem?_map] at h
    obtain ⟨d, h1, h2⟩ := Option.map_eq_some_iff.mp h
    cases h2
    exact ⟨d, h1, rfl⟩
  · rw [List.getElem?_replicate] at h
    split at h <;> cases h
theorem envD_len {ds : List D} {m : Nat} : (envD ds m).length = ds.length + m := by unfold envD; simp
theorem start_get {N : List Str} {vs : List V} {i : Nat} {v : V} (h : vs[i]? = some v) : (L2.start N vs)[i]? = some (some v) := by
  unfold L2.start
  have hi := (List.getElem?_eq_some_iff.mp h).1
  rw [List.getElem?_append_left (by simp; exact hi), List.getElem?_map, h]
  rfl
theorem fn_D {P : Program} {w : World} {K : PySem.W.Frag} {mg : Str → Option Value} {base : Heap} {name qual : Str} {params : Arguments} {body : List Stmt} {scope : Scope} {N : List Str} {S : List D → (D → Prop) → Prop} {g : DS} (F : FunD K name qual params body scope [] [] f fd) (Sc : FnScope N ps scope)
    (hb : ∀ (cdv : Value) (A : Around) (outer : List PySem.Env) (s : Shared) (H : Hp) (E : XK), Room k (A.deeper (envOfC qual scope s.heap.objs.size f cdv)) → JSs (cxOf L2.CX0 P w K mg base N qual scope f cdv A outer s H E).nox body g)
    (hS : ∀ (ds : List D) (Q : D → Prop), ds.length = ps.length → S ds Q → g { nx := fun _ => Q .none, rt := fun d _ => Q d } (envD ds (N.length - ps.length))) : FnOk P w K mg base L2.CX0 (k + 1) f fd ps (spD K ps.length S) := by
  refine F.ok Sc (fun vs H Q E h => h.1) (fun cdv A outer s H vs Q E hr h => ?_)
  obtain ⟨t, pt, kt⟩ := (hb cdv A outer s H E hr).ex
  refine ⟨t, PSs.nox pt, ?_⟩
  obtain ⟨hl, T, ds, QD, hT, rv, hs, hq⟩ := h
  have hl2 : ds.length = ps.length := by rw [← rv.length, hl]
  have no : ∀ a, ¬ Own (envD ds (N.length - ps.length)) (L2.start N vs) a := fun a ⟨i, m, h1, _⟩ => by
    obtain ⟨d, _, z⟩ := envD_get h1
    cases z
  have e0 : Ex (hide T H) (hide (Hd T (envD ds (N.length - ps.length)) (L2.start N vs)) H) := hide_sub fun a w => w.elim id fun w => (no a w).elim
  have r0 : RS K T (envD ds (N.length - ps.length)) (L2.start N vs) H := by
    refine ⟨?_, fun i d h => ?_, fun i m h => ?_, fun i j m m' a h1 _ _ _ => ?_, fun a _ => no a, hT, fun i q m a h1 _ => ?_⟩
    · rw [envD_len]; unfold L2.start; simp [hl, hl2]
    · obtain ⟨d', h1, z⟩ := envD_get h
      cases z
      obtain ⟨v, h2, h3⟩ := rv.get h1
      exact ⟨v, start_get h2, h3.mono e0⟩
    · obtain ⟨d, _, z⟩ := envD_get h; cases z
    · obtain ⟨d, _, z⟩ := envD_get h1; cases z
    · obtain ⟨d, _, z⟩ := envD_get h1; cases z
  have kp : ∀ {ρ' : Env} {σ' : L2.St} {H' : Hp}, Po (envD ds (N.length - ps.length)) (L2.start N vs) H ρ' σ' H' → Ex H H' := fun q a o h => q.keep a o (no a) h
  refine kt T _ _ H _ _ r0 (hS ds QD hl2 hs) ⟨fun ρ' σ' H' r q h => hq .non .none H' h (kp q) .non, fun d ρ' σ' v H' r q rv h => hq v d H' h (kp q) (rv.mono (hide_sub fun a w => .inl w)), fun _ _ _ _ _ h => h.elim, fun _ _ _ _ _ h => h.elim, fun _ _ _ _ _ _ _ h => h.elim⟩
theorem fn_M {P : Program} {w : World} {K : PySem.W.Frag} {mg : Str → Option Value} {base : Heap} {name qual : Str} {params : Arguments} {body : List Stmt} {scope : Scope} {N : List Str} {S : List D → List D → (D → List D → Prop) → Prop} {g : DS} (F : FunD K name qual params body scope [] [] f fd) (Sc : FnScope N ps scope)
    (hb : ∀ (cdv : Value) (A : Around) (outer : List PySem.Env) (s : Shared) (H : Hp) (E : XK), Room k (A.deeper (envOfC qual scope s.heap.objs.size f cdv)) → JSs (cxOf L2.CX0 P w K mg base N qual scope f cdv A outer s H E).nox body g)
    (hS : ∀ (l : Addr) (ms ds : List D) (Q : D → List D → Prop), ds.length + 1 = ps.length → S ms ds Q → g { nx := fun ρ => ∃ ms', ρ[0]? = some (some (.ow (.par l (.lst ms')))) ∧ Q .none ms', rt := fun d ρ => ∃ ms', ρ[0]? = some (some (.ow (.par l (.lst ms')))) ∧ Q d ms' } (some (.ow (.par l (.lst ms))) :: envD ds (N.length - ps.length))) :
    FnOk P w K mg base L2.CX0 (k + 1) f fd ps (spM K ps.length S) := by
  refine F.ok Sc (fun vs H Q E h => h.1) (fun cdv A outer s H vs Q E hr h => ?_)
  obtain ⟨t, pt, kt⟩ := (hb cdv A outer s H E hr).ex
  refine ⟨t, PSs.nox pt, ?_⟩
  obtain ⟨hl, T, l, us, ws, ms, ds, QD, rfl, hT, nT, ho, rm, rv, hs, hq⟩ := h
  have hl1 : us.length + 1 = ps.length := by simpa using hl
  have hl2 : ds.length + 1 = ps.length := by rw [← rv.length, hl1]
  generalize hρ : (some (SV.ow (.par l (.lst ms))) :: envD ds (N.length - ps.length) : Env) = ρ0
  have g0 : ∀ (i : Nat) (sv : SV), ρ0[i]? = some (some sv) → (i = 0 ∧ sv = .ow (.par l (.lst ms))) ∨ ∃ j d, i = j + 1 ∧ ds[j]? = some d ∧ sv = .im d := fun i sv h => by
    subst hρ
    cases i with
    | zero => simp at h; exact .inl ⟨rfl, h.symm⟩
    | succ j =>
      obtain ⟨d, h1, h2⟩ := envD_get (show (envD ds (N.length - ps.length))[j]? = _ by simpa using h)
      exact .inr ⟨j, d, rfl, h1, h2⟩
  have s0 : (L2.start N (.ref l :: us))[0]? = some (some (V.ref l)) := start_get rfl
  have own : ∀ a, Own ρ0 (L2.start N (.ref l :: us)) a → a = l := fun a ⟨i, m, h1, h2⟩ => by
    rcases g0 i _ h1 with ⟨rfl, _⟩ | ⟨_, _, _, _, z⟩
    · rw [s0] at h2; cases h2; rfl
    · cases z
  have e0 : Ex (hide (plus T l) H) (hide (Hd T ρ0 (L2.start N (.ref l :: us))) H) := hide_sub fun a w => w.elim .inr fun w => .inl (own a w)
  have r0 : RS K T ρ0 (L2.start N (.ref l :: us)) H := by
    refine ⟨?_, fun i d h => ?_, fun i m h => ?_, fun i j m m' a h1 h2 _ _ => ?_, fun a t w => ?_, hT, fun i q m a h1 h2 => ?_⟩
    · rw [← hρ]; unfold L2.start; simp [envD_len, ← hl2, rv.length]
    · rcases g0 i _ h with ⟨_, z⟩ | ⟨j, d', rfl, h1, z⟩
      · cases z
      · cases z
        obtain ⟨v, h2, h3⟩ := rv.get h1
        exact ⟨v, start_get (by simpa using h2), h3.mono e0⟩
    · rcases g0 i _ h with ⟨rfl, z⟩ | ⟨_, _, _, _, z⟩
      · cases z
        exact ⟨l, _, s0, ho, by unfold RpO; exact RpAll.mono e0 rm⟩
      · cases z
    · rcases g0 i _ h1 with ⟨rfl, _⟩ | ⟨_, _, _, _, z⟩
      · rcases g0 j _ h2 with ⟨rfl, _⟩ | ⟨_, _, _, _, z⟩
        · rfl
        · cases z
      · cases z
    · rw [own a w] at t; exact nT t
    · rcases g0 i _ h1 with ⟨rfl, z⟩ | ⟨_, _, _, _, z⟩
      · cases z; rw [s0] at h2; cases h2; rfl
      · cases z
  have kp : ∀ {ρ' : Env} {σ' : L2.St} {H' : Hp}, Po ρ0 (L2.start N (.ref l :: us)) H ρ' σ' H' → ∀ a o, a ≠ l → H a = some o → H' a = some o := fun q a o ne h => q.keep a o (fun w => ne (own a w)) h
  have fin : ∀ {ρ' : Env} {σ' : L2.St} {H' : Hp} {ms' : List D}, RS K T ρ' σ' H' → ρ'[0]? = some (some (SV.ow (.par l (.lst ms')))) → ∃ ws', H' l = some (.lst ws') ∧ RpAll K (hide (plus T l) H') ws' ms' ∧ Ex (hide (Hd T ρ' σ') H') (hide (plus T l) H') := fun {ρ' σ' H' ms'} r h => by
    obtain ⟨a, o, h1, h2, h3⟩ := r.ow 0 _ h
    obtain rfl := r.tag 0 _ _ a h h1
    obtain ⟨ws', rfl, h4⟩ := getL_rp (ds := ms') h3 rfl
    have e : Ex (hide (Hd T ρ' σ') H') (hide (plus T a) H') := hide_sub fun b w => w.elim (fun z => .inr ⟨0, _, h, by rw [z]; exact h1⟩) .inl
    exact ⟨ws', h2, h4.mono e, e⟩
  rw [← hρ] at *
  refine kt T _ _ H _ _ r0 (hS l ms ds QD hl2 hs) ⟨fun ρ' σ' H' r q h => ?_, fun d ρ' σ' v H' r q rv h => ?_, fun _ _ _ _ _ h => h.elim, fun _ _ _ _ _ h => h.elim, fun _ _ _ _ _ _ _ h => h.elim⟩
  · obtain ⟨ms', h1, h2⟩ := h
    obtain ⟨ws', a1, a2, _⟩ := fin r h1
    exact hq .non .none ms' ws' H' h2 (kp q) a1 a2 .non
  · obtain ⟨ms', h1, h2⟩ := h
    obtain ⟨ws', a1, a2, a3⟩ := fin r h1
    exact hq v d ms' ws' H' h2 (kp q) a1 a2 (rv.mono a3)
end
end Dn
set_option Elab.async false
set_option linter.all false
set_option maxRecDepth 100000
set_option autoImplicit false
set_option maxHeartbeats 4000000
namespace Dn
open PySem L2 Evl PySem.Spec PyProof.Rows
section
variable {X : Cx} {a b c e : Expr} {fa fb fc : DE} {pos p : Pos} {es : List Expr} {x y : Str} {k : Nat} {f : Addr} {fd : FuncData} {ps : List Str} {n : Nat}
def iSq0 (K : PySem.W.Frag) (tl : TE) : TI := fun σ H R => tl σ H fun x H1 => ∃ a, x = .ref a ∧ (((∃ xs, SqL K H1 a xs) ∧ R (Itl K a) H1) ∨ ((∃ xs, SqT K H1 a xs) ∧ R (Itt K a) H1))
theorem pi_sq {tg l : Expr} {tl : TE} (hl : PE X l tl) : PI X tg l (iSq0 X.K tl) := by
  refine ⟨fun pins s σ H R I h => ?_⟩
  refine thn (hl.run pins s σ H _ I h) fun v s1 ⟨x, H1, I1, r1, q1⟩ => ?_
  obtain ⟨q, rfl, h⟩ := q1
  cases r1
  have fp : ∀ (o : Obj), ∀ bb ∈ [s1.heap.objs.size], FpOk X pins H1 bb := fun o bb hb => by
    have : bb = s1.heap.objs.size := by simpa using hb
    subst this
    exact I1.fpOk (Nat.le_refl _) (I1.hok.fresh (Nat.le_refl _))
  rcases h with ⟨⟨xs, hq⟩, h⟩ | ⟨⟨xs, hq⟩, h⟩
  · obtain ⟨its, rv, isL, hz⟩ := I1.list hq
    refine wpAny_pyIter_list isL.isList ?_
    exact ⟨s1.heap.objs.size, [s1.heap.objs.size], _, _, H1, rfl, I1.kept (t' := s1.toks) fun b o e => Heap.get?_push_of_some _ e, turn_list q _, ⟨_, Heap.get?_push_size _ rfl, rfl, rfl⟩, fp default, h⟩
  · obtain ⟨its, rv, isT, hz⟩ := I1.tuple hq
    refine wpAny_pyIter_tuple (show s1.heap.IsTuple q its.toArray from isT) ?_
    exact ⟨s1.heap.objs.size, [s1.heap.objs.size], _, _, H1, rfl, I1.kept (t' := s1.toks) fun b o e => Heap.get?_push_of_some _ e, turn_tuple q _, ⟨_, Heap.get?_push_size _ rfl, rfl, rfl⟩, fp default, h⟩
def iSq (f : DE) : DL := fun ρ Q => f ρ fun d ρ1 => ∃ ds, seqD d = some ds ∧ Q ds ρ1
theorem ji_sq {tg : Expr} (ha : JE X a fa) : JI X tg a (iSq fa) := by
  obtain ⟨t, pt, kt⟩ := ha.ex
  refine ⟨_, pi_sq pt, fun T ρ σ H QD R r h q => kt T ρ σ H _ _ r h fun d ρ1 v H1 r1 p1 v1 h => ?_⟩
  obtain ⟨ds, e, h⟩ := h
  cases v1
  case dct h1 h2 h3 => rw [h3, seq_dk] at e; cases e
  case ins h1 h2 h3 h4 => subst h4; simp [seqD, obL] at e
  all_goals simp only [seqD, Option.some.injEq, reduceCtorEq] at e
  · subst e
    rename_i hp rr
    exact ⟨_, rfl, .inl ⟨⟨_, .inl (.inl (at_of hp))⟩, q _ _ _ _ r1 p1 (it_list (.inl (.inl hp)) rr) h⟩⟩
  · subst e
    rename_i hp rr
    exact ⟨_, rfl, .inr ⟨⟨_, sqt_of hp⟩, q _ _ _ _ r1 p1 (it_tup (lt_of hp) rr) h⟩⟩
  · subst e
    rename_i hp rr
    exact ⟨_, rfl, .inl ⟨⟨_, sql_of hp⟩, q _ _ _ _ r1 p1 (it_list hp rr) h⟩⟩
def spL (K : PySem.W.Frag) (n : Nat) (S : List D → (List D → Prop) → Prop) : Sp := fun vs H Q _ => vs.length = n ∧ ∃ (T : Addr → Prop) (ds : List D) (QD : List D → Prop), (∀ a, T a → Lv H a) ∧ RpAll K (hide T H) vs ds ∧ S ds QD ∧
  ∀ l us es H', H l = none → H' l = some (.lst us) → QD es → Ex H H' → RpAll K (hide (plus T l) H') us es → Q (.ref l) H'
def lCall (n : Nat) (S : List D → (List D → Prop) → Prop) (g : DA) : DL := fun ρ Q => g ρ fun ds ρ1 => ds.length = n ∧ S ds fun es => Q es ρ1
theorem jl_call {S : List D → (List D → Prop) → Prop} {g : DA} (F : FnOk X.prog X.w X.K X.mg X.base L2.CX0 k f fd ps (spL X.K n S)) (hr : Room k X.A) (hm : X.mg x = some (.ref f)) (hk : PySem.W.keepIn X.K (.ref f) = true) (hb : Binds X.K fd ps []) (ha : JA X (e :: es) g) (hg : Gl X x := by rfl)
    (hdb : (x == ("__debug__" : Str)) = false := by decide) (he : starEach (e :: es) X.env = (false, eval e X.env) :: starEach es X.env := by rfl) (hpl : (backTo pos (starEach es X.env)).any (·.1) = false := by rfl) : JL X (.Call (.Name x p) (e :: es) [] pos) (lCall n S g) := by
  obtain ⟨t, pa, ka⟩ := ha.ex
  refine ⟨_, pe_call F hr hg hm hk hb .nil (E := fun _ _ _ => False) (fun _ _ _ _ _ _ _ h => h.elim) pa hdb he hpl, fun T ρ σ H QD Q r h q => ka T ρ σ H _ _ r h fun ds ρ1 vs H1 r1 p1 v1 h => ?_⟩
  rw [List.append_nil]
  refine ⟨by rw [v1.length, h.1], Hd T ρ1 σ, ds, _, fun a => r1.hdLv, v1, h.2, fun l us es H' hl hl' hq e rr => ?_⟩
  have r2 : RS X.K (plus T l) ρ1 σ H' := by
    have r3 := (r1.laid (o := .lst us) hl)
    refine r3.grow fun a o w => ?_
    by_cases z : a = l
    · subst z; rw [upd_same] at w; rw [hl', w]
    · rw [upd_ne z] at w; exact e a o w
  refine q es ρ1 l us H' (none_back p1 hl) hl' r2 (rr.mono (hide_sub fun a w => ?_)) (p1.trans (.grow e)) hq
  rcases w with (w | w) | w
  · exact .inl w
  · exact .inr (.inl w)
  · exact .inr (.inr w)
structure JSL (X : Cx) (st : List Stmt) (f : (List D → Prop) → Env → Prop) : Prop where
  ex : ∃ t, PSs X st t ∧ ∀ (T : Addr → Prop) (ρ : Env) (σ : L2.St) (H : Hp) (QD : List D → Prop) (D : Ends), RS X.K T ρ σ H → f QD ρ →
    (∀ es ρ' σ' l us H', H l = none → H' l = some (.lst us) → RS X.K (plus T l) ρ' σ' H' → RpAll X.K (hide (Hd (plus T l) ρ' σ') H') us es → Po ρ σ H ρ' σ' H' → QD es → D.rt (.ref l) H') → t D σ H
theorem jsl_ret {g : DL} (ha : JL X e g) : JSL X [.Return (some e) pos] (fun Q ρ => g ρ fun es _ => Q es) := by
  obtain ⟨t, pt, kt⟩ := ha.ex
  refine ⟨_, pss_cons (ps_ret pt) pss_nil, fun T ρ σ H QD D r h k => kt T ρ σ H _ _ r h fun es ρ1 l us H1 n s r1 v1 p1 h => k es ρ1 σ l us H1 n s r1 v1 p1 h⟩
theorem jsl_cons {st : Stmt} {sts : List Stmt} {g : DS} {f : (List D → Prop) → Env → Prop} (h1 : JS X st g) (h2 : JSL X sts f) : JSL X (st :: sts) (fun Q ρ => g { nx := f Q, rt := fun _ _ => False } ρ) := by
  obtain ⟨t1, p1, k1⟩ := h1.ex
  obtain ⟨t2, p2, k2⟩ := h2.ex
  refine ⟨_, pss_cons p1 p2, fun T ρ σ H QD D r h k => k1 T ρ σ H _ _ r h ⟨fun ρ1 σ1 H1 r1 q1 h => k2 T ρ1 σ1 H1 _ _ r1 h fun es ρ' σ' l us H' n s r' v' p' hq => k es ρ' σ' l us H' (none_back q1 n) s r' v' (q1.trans p') hq, fun _ _ _ _ _ _ _ _ h => h.elim, fun _ _ _ _ _ h => h.elim, fun _ _ _ _ _ h => h.elim, fun _ _ _ _ _ _ _ h => h.elim⟩⟩
def Ok (P : Program) (w : World) (K : PySem.W.Frag) (mg : Str → Option Value) (base : Heap) (x : Str) (ps : List Str) (k : Nat) (sp : Sp) : Prop :=
  ∃ f fd, FnOk P w K mg base L2.CX0 k f fd ps sp ∧ mg x = some (.ref f) ∧ PySem.W.keepIn K (.ref f) = true ∧ Binds K fd ps []
theorem je_fn {S : List D → (D → Prop) → Prop} {g : DA} (O : Ok X.prog X.w X.K X.mg X.base x ps k (spD X.K n S)) (hr : Room k X.A) (ha : JA X (e :: es) g) (hg : Gl X x := by rfl)
    (hdb : (x == ("__debug__" : Str)) = false := by decide) (he : starEach (e :: es) X.env = (false, eval e X.env) :: starEach es X.env := by rfl) (hpl : (backTo pos (starEach es X.env)).any (·.1) = false := by rfl) : JE X (.Call (.Name x p) (e :: es) [] pos) (dCallF n S g) := by
  obtain ⟨f, fd, F, hm, hk, hb⟩ := O
  exact je_call F hr hm hk hb ha hg hdb he hpl
theorem jl_fn {S : List D → (List D → Prop) → Prop} {g : DA} (O : Ok X.prog X.w X.K X.mg X.base x ps k (spL X.K n S)) (hr : Room k X.A) (ha : JA X (e :: es) g) (hg : Gl X x := by rfl)
    (hdb : (x == ("__debug__" : Str)) = false := by decide) (he : starEach (e :: es) X.env = (false, eval e X.env) :: starEach es X.env := by rfl) (hpl : (backTo pos (starEach es X.env)).any (·.1) = false := by rfl) : JL X (.Call (.Name x p) (e :: es) [] pos) (lCall n S g) := by
  obtain ⟨f, fd, F, hm, hk, hb⟩ := O
  exact jl_call F hr hm hk hb ha hg hdb he hpl
theorem je_fnM {i : Nat} {px : Pos} {S : List D → List D → (D → List D → Prop) → Prop} {g : DA} (O : Ok X.prog X.w X.K X.mg X.base x ps k (spM X.K n S)) (hr : Room k X.A) (hN : X.N[i]? = some y) (hv : Vis X.env.scope y) (ha : JA X es g) (hg : Gl X x := by rfl) (hd : (y == ("__debug__" : Str)) = false := by decide) (hcd : (y == ("__classdict__" : Str)) = false := by decide)
    (hdb : (x == ("__debug__" : Str)) = false := by decide) (he : starEach (Expr.Name y px :: es) X.env = (false, eval (Expr.Name y px) X.env) :: starEach es X.env := by rfl) (hpl : (backTo pos (starEach es X.env)).any (·.1) = false := by rfl) : JE X (.Call (.Name x p) (.Name y px :: es) [] pos) (dCallM i n S g) := by
  obtain ⟨f, fd, F, hm, hk, hb⟩ := O
  exact je_callM F hr hm hk hb hN hv ha hg hd hcd hdb he hpl
def Is (K : PySem.W.Frag) (mg : Str → Option Value) (x : Str) (st : Stmt) : Prop := ∃ f fd, FunD K x x (defArgs st) (defBody st) (defScope st) [] [] f fd ∧ mg x = some (.ref f)
abbrev BindsAs (x : Str) (st : Stmt) (ps : List Str) : Prop := ∀ (kV doc pm : Value) (an : Option Addr) (cdv ct : Value) (us : List Value), us.length = ps.length → bindArgs (PySem.W.fnOf x x (defArgs st) (defBody st) (defScope st) .none kV doc pm an cdv ct) ⟨us, []⟩ = pure (ps.zip us)
abbrev BodyCx (P : Program) (w : World) (K : PySem.W.Frag) (mg : Str → Option Value) (base : Heap) (x : Str) (st : Stmt) (N : List Str) (k : Nat) (J : Cx → Prop) : Prop :=
  ∀ (f : Addr) (cdv : Value) (A : Around) (outer : List PySem.Env) (s : Shared) (H : Hp) (E : XK), Room k (A.deeper (envOfC x (defScope st) s.heap.objs.size f cdv)) → J (cxOf L2.CX0 P w K mg base N x (defScope st) f cdv A outer s H E).nox
section
variable {P : Program} {w : World} {K : PySem.W.Frag} {mg : Str → Option Value} {base : Heap} {st : Stmt} {N : List Str}
theorem ok_D {S : List D → (D → Prop) → Prop} {g : DS} (F : Is K mg x st) (Sc : FnScope N ps (defScope st)) (bs : BindsAs x st ps) (hb : BodyCx P w K mg base x st N k fun X => JSs X (defBody st) g)
    (hS : ∀ (ds : List D) (Q : D → Prop), ds.length = ps.length → S ds Q → g { nx := fun _ => Q .none, rt := fun d _ => Q d } (envD ds (N.length - ps.length))) : Ok P w K mg base x ps (k + 1) (spD K ps.length S) := by
  obtain ⟨f, fd, F, hm⟩ := F
  exact ⟨f, fd, fn_D F Sc (fun cdv A outer s H E hr => hb f cdv A outer s H E hr) hS, hm, F.kp, F.bindsN bs⟩
theorem ok_M {S : List D → List D → (D → List D → Prop) → Prop} {g : DS} (F : Is K mg x st) (Sc : FnScope N ps (defScope st)) (bs : BindsAs x st ps) (hb : BodyCx P w K mg base x st N k fun X => JSs X (defBody st) g)
    (hS : ∀ (l : Addr) (ms ds : List D) (Q : D → List D → Prop), ds.length + 1 = ps.length → S ms ds Q → g { nx := fun ρ => ∃ ms', ρ[0]? = some (some (.ow (.par l (.lst ms')))) ∧ Q .none ms', rt := fun d ρ => ∃ ms', ρ[0]? = some (some (.ow (.par l (.lst ms')))) ∧ Q d ms' } (some (.ow (.par l (.lst ms))) :: envD ds (N.length - ps.length))) :
    Ok P w K mg base x ps (k + 1) (spM K ps.length S) := by
  obtain ⟨f, fd, F, hm⟩ := F
  exact ⟨f, fd, fn_M F Sc (fun cdv A outer s H E hr => hb f cdv A outer s H E hr) hS, hm, F.kp, F.bindsN bs⟩
theorem envD_rs {T : Addr → Prop} {H : Hp} {vs : List V} {ds : List D} {m : Nat} (hl : vs.length + m = N.length) (hT : ∀ a, T a → Lv H a) (rv : RpAll K (hide T H) vs ds) : RS K T (envD ds m) (L2.start N vs) H ∧ ∀ a, ¬ Own (envD ds m) (L2.start N vs) a := by
  have no : ∀ a, ¬ Own (envD ds m) (L2.start N vs) a := fun a ⟨i, mm, h1, _⟩ => by
    obtain ⟨d, _, z⟩ := envD_get h1
    cases z
  have e0 : Ex (hide T H) (hide (Hd T (envD ds m) (L2.start N vs)) H) := hide_sub fun a w => w.elim id fun w => (no a w).elim
  refine ⟨⟨?_, fun i d h => ?_, fun i m h => ?_, fun i j m m' a h1 _ _ _ => ?_, fun a _ => no a, hT, fun i q m a h1 _ => ?_⟩, no⟩
  · rw [envD_len]; unfold L2.start; simp [rv.length] at hl ⊢; omega
  · obtain ⟨d', h1, z⟩ := envD_get h
    cases z
    obtain ⟨v, h2, h3⟩ := rv.get h1
    exact ⟨v, start_get h2, h3.mono e0⟩
  · obtain ⟨d, _, z⟩ := envD_get h; cases z
  · obtain ⟨d, _, z⟩ := envD_get h1; cases z
  · obtain ⟨d, _, z⟩ := envD_get h1; cases z
theorem ok_L {S : List D → (List D → Prop) → Prop} {g : (List D → Prop) → Env → Prop} (F : Is K mg x st) (Sc : FnScope N ps (defScope st)) (bs : BindsAs x st ps) (hb : BodyCx P w K mg base x st N k fun X => JSL X (defBody st) g)
    (hS : ∀ (ds : List D) (Q : List D → Prop), ds.length = ps.length → S ds Q → g Q (envD ds (N.length - ps.length))) : Ok P w K mg base x ps (k + 1) (spL K ps.length S) := by
  obtain ⟨f, fd, F, hm⟩ := F
  refine ⟨f, fd, ?_, hm, F.kp, F.bindsN bs⟩
  refine F.ok Sc (fun vs H Q E h => h.1) (fun cdv A outer s H vs Q E hr h => ?_)
  obtain ⟨t, pt, kt⟩ := (hb f cdv A outer s H E hr).ex
  refine ⟨t, PSs.nox pt, ?_⟩
  obtain ⟨hl, T, ds, QD, hT, rv, hs, hq⟩ := h
  have hl2 : ds.length = ps.length := by rw [← rv.length, hl]
  have hN : ps.length ≤ N.length := by have := congrArg List.length Sc.pre; rw [List.length_take] at this; omega
  obtain ⟨r0, no⟩ := envD_rs (m := N.length - ps.length) (N := N) (by omega) hT rv
  refine kt T _ _ H _ _ r0 (hS ds QD hl2 hs) fun es ρ' σ' l us H' n s r' v' p' h => ?_
  exact hq l us es H' n s h (fun a o w => p'.keep a o (no a) w) (v'.mono (hide_sub fun a w => .inl w))
end
end
end Dn
set_option Elab.async false
set_option linter.all false
set_option maxRecDepth 100000
set_option autoImplicit false
set_option maxHeartbeats 4000000
namespace Dn
open PySem L2 Evl PySem.Spec PyProof.Rows
section
variable {X : Cx} {a b c e : Expr} {fa fb fc : DE} {pos p : Pos} {es : List Expr} {x y : Str}
theorem je_v (i : Nat) (hN : X.N[i]? = some x := by rfl) (hv : Vis X.env.scope x := by first | exact Or.inl rfl | exact Or.inr (Or.inl rfl) | exact Or.inr (Or.inr rfl)) (hd : (x == ("__debug__" : Str)) = false := by decide) (hcd : (x == ("__classdict__" : Str)) = false := by decide) : JE X (.Name x pos) (dVar i) := je_var hN hv hd hcd
theorem jg_n (i : Nat) {vs : List Nat} (hN : X.N.Nodup) (hi : X.N[i]? = some x := by rfl) (hx : Loc X.env.scope x := by first | exact Or.inl rfl | exact Or.inr rfl) (hv : i ∈ vs := by decide) (hf : X.fn x = true ∨ X.env.scope.names.lookup x = some .local := by first | exact Or.inl rfl | exact Or.inr rfl) : JG X (.Name x pos) vs (gNm i) := jg_name hN hi hx hv hf
theorem jt_chain {o o' : CmpOp} {op op' : D → D → (D → Prop) → Prop} (ho : OpD X (compareOp o) op) (ho' : OpD X (compareOp o') op') (ha : JE X a fa) (hb : JE X b fb) (hc : JE X c fc) (hm : lastMarks [o, o'] [b, c] = false := by with_unfolding_all rfl) :
    JT X (.Compare a [o, o'] [b, c] pos) (dTst (dChain op op' fa fb fc)) := by
  obtain ⟨r, h1, h2⟩ := ho.ex
  obtain ⟨r', h1', h2'⟩ := ho'.ex
  obtain ⟨ta, pa, ka⟩ := ha.ex
  obtain ⟨tb, pb, kb⟩ := hb.ex
  obtain ⟨tc, pc, kc⟩ := hc.ex
  refine ⟨_, pt_chain h1 h1' pa pb pc hm, fun T ρ σ H QD Q r h k => ?_⟩
  refine ka T ρ σ H _ _ r h fun d ρ1 v H1 r1 p1 v1 h => ?_
  refine kb T ρ1 σ H1 _ _ r1 h fun e ρ2 w H2 r2 p2 v2 h => ?_
  refine h2 (Hd T ρ2 σ) H2 v w d e _ _ (fun a => r2.hdDom) (v1.mono p2.fz) v2 h fun z u H3 e3 v3 h => ?_
  have r3 := r2.grow e3
  have p3 : Po ρ2 σ H2 ρ2 σ H3 := .grow e3
  cases v3 with
  | bl q =>
    refine ⟨q, rfl, ?_⟩
    cases q with
    | false => exact ⟨false, rfl, k _ _ _ r3 ((p1.trans p2).trans p3) h⟩
    | true =>
      rw [if_pos rfl]
      refine kc T ρ2 σ H3 _ _ r3 h fun g ρ4 y H4 r4 p4 v4 h => ?_
      refine h2' (Hd T ρ4 σ) H4 w y e g _ _ (fun a => r4.hdDom) ((v2.mono p3.fz).mono p4.fz) v4 h fun z u H5 e5 v5 h => ?_
      cases v5 with
      | bl b => exact ⟨b, rfl, k b ρ4 H5 (r4.grow e5) (((p1.trans p2).trans p3).trans (p4.trans (.grow e5))) h⟩
      | _ => exact False.elim h
  | _ => exact False.elim h
def lCat (fa fb : DE) : DL := fun ρ Q => fa ρ fun d ρ1 => fb ρ1 fun e ρ2 => ∃ xs ys, d = .list xs ∧ e = .list ys ∧ xs.length + ys.length ≤ 16777216 ∧ Q (xs ++ ys) ρ2
def iEn0 (K : PySem.W.Frag) (ta : TA) : TI := fun σ H R => ta σ H fun vs H1 => ∃ a, vs = [.ref a] ∧ (((∃ xs, SqL K H1 a xs) ∧ R (Ite K a) H1) ∨ ((∃ xs, SqT K H1 a xs) ∧ R (IteT K a) H1))
theorem pi_en {ta : TA} {tpos : Pos} {elts : List Expr} {kk : Nat} (hg : Gl X "enumerate") (hm : X.mg "enumerate" = none) (ha : PA X [e] ta) (hs : starEach [e] X.env = [(false, eval e X.env)] := by rfl) :
    PI X (.Tuple elts kk tpos) (.Call (.Name "enumerate" p) [e] [] pos) (iEn0 X.K ta) := by
  refine ⟨fun pins s σ H R I h => ?_⟩
  refine Call_ (ld_blt I hg hm boot_enumerate (PyProof.Rows.callWith_type1 (thn (ha.run pos pins s σ H _ I h) fun us s1 ⟨vs, H1, I1, r1, q1⟩ => ?_) hs rfl))
  obtain ⟨a, rfl, h⟩ := q1
  obtain ⟨u, rfl, ru⟩ := vals1 r1
  cases ru
  have fp : ∀ b ∈ [s1.heap.objs.size + 1, s1.heap.objs.size], FpOk X pins H1 b := fun b hb => by
    have ge : s1.heap.objs.size ≤ b := by
      rcases (show b = s1.heap.objs.size + 1 ∨ b = s1.heap.objs.size by simpa using hb) with z | z <;> subst z
      · exact Nat.le_succ _
      · exact Nat.le_refl _
    exact I1.fpOk ge (I1.hok.fresh ge)
  rcases h with ⟨⟨xs, hq⟩, h⟩ | ⟨⟨xs, hq⟩, h⟩
  · obtain ⟨its, rv, isL, hz⟩ := I1.list hq
    refine call_enumerate_list isL.isList fun hp he hit _ hk => wpAny_pyIter_enum he ?_
    have I2 : Inv X pins σ H1 { s1 with heap := hp } := I1.kept (t' := s1.toks) hk
    exact ⟨s1.heap.objs.size + 1, [s1.heap.objs.size + 1, s1.heap.objs.size], _, _, H1, rfl, I2, turn_enum a (s1.heap.objs.size + 1) s1.heap.objs.size, ⟨⟨.none, he⟩, hit, Nat.succ_ne_self _⟩, fp, h⟩
  · obtain ⟨its, rv, isT, hz⟩ := I1.tuple hq
    refine own_enum_call (show s1.heap.IsTuple a its.toArray from isT) fun hp he hit hk => wpAny_pyIter_enum he ?_
    have I2 : Inv X pins σ H1 { s1 with heap := hp } := I1.kept (t' := s1.toks) hk
    exact ⟨s1.heap.objs.size + 1, [s1.heap.objs.size + 1, s1.heap.objs.size], _, _, H1, rfl, I2, turn_enT a (s1.heap.objs.size + 1) s1.heap.objs.size, ⟨⟨.none, he⟩, hit, Nat.succ_ne_self _⟩, fp, h⟩
theorem it_enL {K : PySem.W.Frag} {G : Hp} {a : Addr} {xs : List V} {ds : List D} (hp : SqL K G a xs) (rr : RpAll K G xs ds) : ItOk K (Ite K a) G (enD ds) :=
  ⟨fun H e => ⟨xs, ex_l e hp, by rw [enD_len, rr.length]; exact Nat.le_refl _⟩, fun i d H hd e => by
    obtain ⟨g, hg, rfl⟩ := enD_get hd
    obtain ⟨u, hu, ru⟩ := rr.get hg
    refine ⟨⟨xs, u, ex_l e hp, hu⟩, fun x H' y => ?_⟩
    obtain ⟨l, z, rfl, hl, rfl, y⟩ := y
    have := y xs (ex_l e hp)
    rw [hu] at this; cases this
    exact ⟨Ex.new hl, fun O hO eo => rp_newT hO hl (.cons (.int _) (.cons (ru.mono eo) .nil))⟩⟩
theorem it_enT {K : PySem.W.Frag} {G : Hp} {a : Addr} {xs : List V} {ds : List D} (hp : SqT K G a xs) (rr : RpAll K G xs ds) : ItOk K (IteT K a) G (enD ds) :=
  ⟨fun H e => ⟨xs, ex_t e hp, by rw [enD_len, rr.length]; exact Nat.le_refl _⟩, fun i d H hd e => by
    obtain ⟨g, hg, rfl⟩ := enD_get hd
    obtain ⟨u, hu, ru⟩ := rr.get hg
    refine ⟨⟨xs, u, ex_t e hp, hu⟩, fun x H' y => ?_⟩
    obtain ⟨l, z, rfl, hl, rfl, y⟩ := y
    have := y xs (ex_t e hp)
    rw [hu] at this; cases this
    exact ⟨Ex.new hl, fun O hO eo => rp_newT hO hl (.cons (.int _) (.cons (ru.mono eo) .nil))⟩⟩
def iEn (f : DE) : DL := fun ρ Q => f ρ fun d ρ1 => ∃ ds, seqD d = some ds ∧ Q (enD ds) ρ1
theorem ji_en {elts : List Expr} {kk : Nat} {tpos : Pos} (hm : X.mg "enumerate" = none) (ha : JE X a fa) (hg : Gl X "enumerate" := by rfl) (hs : starEach [a] X.env = [(false, eval a X.env)] := by rfl) : JI X (.Tuple elts kk tpos) (.Call (.Name "enumerate" p) [a] [] pos) (iEn fa) := by
  obtain ⟨t, pt, kt⟩ := ha.ex
  refine ⟨_, pi_en hg hm (pa_cons pt pa_nil hs) hs, fun T ρ σ H QD R r h q => kt T ρ σ H _ _ r h fun d ρ1 v H1 r1 p1 v1 h => ?_⟩
  obtain ⟨ds, e, h⟩ := h
  cases v1
  case dct h1 h2 h3 => rw [h3, seq_dk] at e; cases e
  case ins h1 h2 h3 h4 => subst h4; simp [seqD, obL] at e
  all_goals simp only [seqD, Option.some.injEq, reduceCtorEq] at e
  · subst e
    rename_i hp rr
    exact ⟨_, rfl, .inl ⟨⟨_, .inl (.inl (at_of hp))⟩, q _ _ _ _ r1 p1 (it_enL (.inl (.inl hp)) rr) h⟩⟩
  · subst e
    rename_i hp rr
    exact ⟨_, rfl, .inr ⟨⟨_, sqt_of hp⟩, q _ _ _ _ r1 p1 (it_enT (lt_of hp) rr) h⟩⟩
  · subst e
    rename_i hp rr
    exact ⟨_, rfl, .inl ⟨⟨_, sql_of hp⟩, q _ _ _ _ r1 p1 (it_enL hp rr) h⟩⟩
abbrev dMulA := dI2 (fun i j => CMul i j ∨ CMulW i j) fun i j => .int (i * j)
theorem opd_mulA : OpD X (binaryOp .Mult) dMulA := by
  refine ⟨_, .or op_mul op_mulW, fun O H x y d e QD Q hO rx ry h k => ?_⟩
  cases rx <;> cases ry <;> first | exact False.elim h | skip
  obtain ⟨h1, h2⟩ := h
  rcases h1 with h1 | h1
  · exact .inl ⟨_, _, rfl, rfl, h1, k _ _ H (.refl H) (.int _) h2⟩
  · exact .inr ⟨_, _, rfl, rfl, h1, k _ _ H (.refl H) (.int _) h2⟩
def sAugI (i : Nat) (f : DE) : DS := fun E ρ => match ρ[i]? with
  | some (some (.im (.int n))) => f ρ fun d ρ1 => match d with
    | .int k => E.nx (ρ1.set i (some (.im (.int (n + k)))))
    | _ => False
  | _ => False
end
end Dn
set_option Elab.async false
set_option linter.all false
set_option maxRecDepth 100000
set_option autoImplicit false
set_option maxHeartbeats 4000000
namespace Dn
open PySem L2 Evl PySem.Spec PyProof.Rows
def keyD : D → Option Key
  | .int i => some (.inl i)
  | .str s => some (.inr s)
  | _ => none
theorem keyD_rp {K : PySem.W.Frag} {G : Hp} {v : V} {d : D} {k : Key} (r : Rp K G v d) (h : keyD d = some k) : v = kV k := by
  cases r <;> first | (cases h; rfl) | (exact nomatch h)
def valD (kvs : List (Key × D)) (k : Key) : Option D := (kvs.find? fun kv => decide (kv.1 = k)).map (·.2)
def putD (kvs : List (Key × D)) (k : Key) (d : D) : List (Key × D) :=
  if (kvs.any fun kv => decide (kv.1 = k)) = true then kvs.map (fun kv => if kv.1 = k then (kv.1, d) else kv) else kvs ++ [(k, d)]
abbrev KvRp (K : PySem.W.Frag) (G : Hp) (kvs : List (Key × D)) (kws : List (Key × V)) : Prop := Paired (fun (p : Key × D) (q : Key × V) => p.1 = q.1 ∧ Rp K G q.2 p.2) kvs kws
theorem KvRp.mono {K : PySem.W.Frag} {G G' : Hp} (e : Ex G G') {kvs : List (Key × D)} {kws : List (Key × V)} (h : KvRp K G kvs kws) : KvRp K G' kvs kws := Paired.mapP h fun _ _ q => ⟨q.1, q.2.mono e⟩
theorem KvRp.len {K : PySem.W.Frag} {G : Hp} {kvs : List (Key × D)} {kws : List (Key × V)} (h : KvRp K G kvs kws) : kvs.length = kws.length := by
  induction h with
  | nil => rfl
  | cons _ _ ih => simp [ih]
theorem KvRp.val {K : PySem.W.Frag} {G : Hp} {kvs : List (Key × D)} {kws : List (Key × V)} (h : KvRp K G kvs kws) (k : Key) : (valD kvs k = none ∧ valV kws k = none) ∨ ∃ d v, valD kvs k = some d ∧ valV kws k = some v ∧ Rp K G v d := by
  induction h with
  | nil => exact .inl ⟨rfl, rfl⟩
  | @cons p q ps qs r t ih =>
    unfold valD valV at ih ⊢
    rw [List.find?_cons, List.find?_cons]
    by_cases z : p.1 = k
    · have z2 : q.1 = k := by rw [← r.1]; exact z
      simp only [z, z2, decide_true, Option.map_some]
      exact .inr ⟨_, _, rfl, rfl, r.2⟩
    · have z2 : ¬ q.1 = k := by rw [← r.1]; exact z
      simp only [z, z2, decide_false]
      exact ih
theorem KvRp.any {K : PySem.W.Frag} {G : Hp} {kvs : List (Key × D)} {kws : List (Key × V)} (h : KvRp K G kvs kws) (k : Key) : (kvs.any fun kv => decide (kv.1 = k)) = (kws.any fun kv => decide (kv.1 = k)) := by
  induction h with
  | nil => rfl
  | @cons p q ps qs r t ih => simp only [List.any_cons, ih, r.1]
theorem KvRp.rep {K : PySem.W.Frag} {G : Hp} {kvs : List (Key × D)} {kws : List (Key × V)} (h : KvRp K G kvs kws) (k : Key) {v : V} {d : D} (r : Rp K G v d) : KvRp K G (kvs.map fun kv => if kv.1 = k then (kv.1, d) else kv) (kws.map fun kv => if kv.1 = k then (kv.1, v) else kv) := by
  induction h with
  | nil => exact .nil
  | @cons p q ps qs s t ih =>
    rw [List.map_cons, List.map_cons]
    refine .cons ?_ ih
    by_cases z : p.1 = k
    · have z2 : q.1 = k := by rw [← s.1]; exact z
      rw [if_pos z, if_pos z2]
      exact ⟨s.1, r⟩
    · have z2 : ¬ q.1 = k := by rw [← s.1]; exact z
      rw [if_neg z, if_neg z2]
      exact s
theorem KvRp.add {K : PySem.W.Frag} {G : Hp} {kvs : List (Key × D)} {kws : List (Key × V)} (h : KvRp K G kvs kws) (k : Key) {v : V} {d : D} (r : Rp K G v d) : KvRp K G (kvs ++ [(k, d)]) (kws ++ [(k, v)]) := by
  induction h with
  | nil => exact .cons ⟨rfl, r⟩ .nil
  | cons s t ih => exact .cons s ih
theorem KvRp.put {K : PySem.W.Frag} {G : Hp} {kvs : List (Key × D)} {kws : List (Key × V)} (h : KvRp K G kvs kws) (k : Key) {v : V} {d : D} (r : Rp K G v d) : KvRp K G (putD kvs k d) (putK kws k v) := by
  unfold putD putK
  rw [h.any k]
  split
  · exact h.rep k r
  · exact h.add k r
def atK (ρ : Env) (i : Nat) : Option (List (Key × D)) := match ρ[i]? with
  | some (some (.ow (.dct kvs))) => some kvs
  | _ => none
theorem atK_some {ρ : Env} {i : Nat} {kvs : List (Key × D)} (h : atK ρ i = some kvs) : ρ[i]? = some (some (SV.ow (.dct kvs))) := by
  unfold atK at h
  split at h
  · cases h; assumption
  · cases h
theorem RS.atK {K : PySem.W.Frag} {T : Addr → Prop} {ρ : Env} {σ : L2.St} {H : Hp} {i : Nat} {kvs : List (Key × D)} (r : RS K T ρ σ H) (h : Dn.atK ρ i = some kvs) : ∃ q kws, ρ[i]? = some (some (SV.ow (.dct kvs))) ∧ σ[i]? = some (some (V.ref q)) ∧ H q = some (.dK kws) ∧ KvRp K (hide (Hd T ρ σ) H) kvs kws := by
  have hm := atK_some h
  obtain ⟨q, o, h1, h2, h3⟩ := r.ow i _ hm
  cases o with
  | dK kws => exact ⟨q, kws, hm, h1, h2, h3⟩
  | _ => exact h3.elim
section
variable {X : Cx} {a b c e : Expr} {fa fb fc : DE} {pos p : Pos} {es : List Expr} {x y : Str}
def dGetK (i : Nat) (fb : DE) : DE := fun ρ Q => (atK ρ i).isSome = true ∧ fb ρ fun y ρ1 => ∃ kvs k d, atK ρ1 i = some kvs ∧ keyD y = some k ∧ valD kvs k = some d ∧ Q d ρ1
def dInK (neg : Bool) (i : Nat) (fb : DE) : DE := fun ρ Q => fb ρ fun y ρ1 => ∃ kvs k, atK ρ1 i = some kvs ∧ keyD y = some k ∧ Q (.bool (if neg then !(valD kvs k).isSome else (valD kvs k).isSome)) ρ1
def sPutK (i : Nat) (fi fe : DE) : DS := fun E ρ => fe ρ fun d ρ1 => (atK ρ1 i).isSome = true ∧ fi ρ1 fun y ρ2 => ∃ kvs k, atK ρ2 i = some kvs ∧ keyD y = some k ∧ kvs.length < sizeLine ∧ E.nx (ρ2.set i (some (.ow (.dct (putD kvs k d)))))
def xDct : DX := fun ρ Q => Q (.ow (.dct [])) ρ
theorem hu1 {n : Nat} (h : n + 64 < cLine) : n + 1 < cLine := by omega
end
end Dn
set_option Elab.async false
set_option linter.all false
set_option maxRecDepth 100000
set_option autoImplicit false
set_option maxHeartbeats 4000000
namespace Dn
open PySem L2 Evl PySem.Spec PyProof.Rows
section
variable {X : Cx} {a b c e : Expr} {es : List Expr} {fa fb fc : DE} {pos p : Pos} {x y : Str}
def gSubW (i : Nat) (fi : DE) : DG := fun d ρ Q => (atO ρ i).isSome = true ∧ fi ρ fun k ρ2 => ∃ ds j m, atO ρ2 i = some ds ∧ k = .int j ∧ ixN ds.length j = some m ∧ Q (setO ρ2 i (ds.set m d))
end
end Dn
set_option Elab.async false
set_option linter.all false
set_option maxRecDepth 100000
set_option autoImplicit false
set_option maxHeartbeats 4000000
namespace Dn
open PySem L2 Evl PySem.Spec PyProof.Rows
theorem RpKv.kv {K : PySem.W.Frag} {G : Hp} : ∀ {kws : List (Key × V)} {kvs : List (Key × D)}, RpKv K G kws kvs → KvRp K G kvs kws
  | _, _, .nil => .nil
  | _, _, .cons h r => .cons ⟨rfl, h⟩ r.kv
theorem KvRp.rp {K : PySem.W.Frag} {G : Hp} {kvs : List (Key × D)} {kws : List (Key × V)} (h : KvRp K G kvs kws) : RpKv K G kws kvs := by
  induction h with
  | nil => exact .nil
  | @cons p q ps qs r t ih =>
    obtain ⟨k, d⟩ := p
    obtain ⟨k2, v⟩ := q
    obtain ⟨r1, r2⟩ := r
    cases r1
    exact .cons r2 ih
theorem keyB_inj {k k' : Key} (h : keyB k = keyB k') : k = k' := by
  cases k <;> cases k' <;> simp [keyB] at h <;> rw [h]
theorem dkD_inj : ∀ {kvs kvs' : List (Key × D)}, dkD kvs = dkD kvs' → kvs = kvs'
  | [], [], _ => rfl
  | [], _ :: _, h => by simp [dkD] at h
  | _ :: _, [], h => by simp [dkD] at h
  | (k, d) :: r, (k', d') :: r', h => by
    simp only [dkD, List.map_cons, List.cons.injEq, Prod.mk.injEq] at h
    obtain ⟨⟨h1, h2⟩, h3⟩ := h
    rw [keyB_inj h1, h2, dkD_inj (kvs := r) (kvs' := r') h3]
theorem dict_rp {K : PySem.W.Frag} {G : Hp} {v : V} {kvs : List (Key × D)} (r : Rp K G v (.dict (dkD kvs))) : ∃ p kws, v = .ref p ∧ G p = some (.dK kws) ∧ KvRp K G kvs kws := by
  generalize e : PyData.dict (dkD kvs) = d at r
  cases r with
  | dct h1 h2 h3 =>
    cases e
    obtain rfl := dkD_inj h3
    exact ⟨_, _, rfl, h1, h2.kv⟩
  | frz h1 h2 =>
    simp only [PyData.dict.injEq] at e
    cases kvs with
    | nil => simp [dkD] at e
    | cons p r => obtain ⟨k, d⟩ := p; cases k <;> simp [dkD, keyB] at e
  | ins h0 h1 h2 z =>
    subst z
    simp only [PyData.dict.injEq] at e
    cases kvs with
    | nil => simp [dkD, obL] at e
    | cons p r => obtain ⟨k, d⟩ := p; cases k <;> simp [dkD, keyB, obL] at e
  | typ nm o =>
    simp only [PyData.dict.injEq] at e
    cases kvs with
    | nil => simp [dkD] at e
    | cons p r => obtain ⟨k, d⟩ := p; cases k <;> simp [dkD, keyB] at e
  | _ => cases e
section
variable {K : PySem.W.Frag} {T : Addr → Prop} {ρ : Env} {σ : L2.St} {H : Hp}
end
section
variable {X : Cx} {a b c e : Expr} {fa fb fc : DE} {pos p : Pos} {es : List Expr} {x y : Str}
def sRetK (i : Nat) : DS := fun E ρ => ∃ kvs, atK ρ i = some kvs ∧ E.rt (.dict (dkD kvs)) (ρ.set i (some (.im (.dict (dkD kvs)))))
def xDct1 (fk fv : DE) : DX := fun ρ Q => fk ρ fun y ρ1 => fv ρ1 fun d ρ2 => ∃ k, keyD y = some k ∧ Q (.ow (.dct [(k, d)])) ρ2
theorem DGet.of {H : Hp} {q : Addr} {kws : List (Key × V)} {k : Key} (h : H q = some (.dK kws)) : DGet H q (kV k) (valV kws k) := DGet.k h
def dGetD (fa fb : DE) : DE := fun ρ Q => fa ρ fun z ρ1 => fb ρ1 fun y ρ2 => ∃ kvs k d, z = .dict (dkD kvs) ∧ keyD y = some k ∧ valD kvs k = some d ∧ Q d ρ2
theorem je_getD (hu : X.A.units + 1 < cLine) (ha : JE X a fa) (hb : JE X b fb) (hs : NoSl b := by exact fun _ _ => rfl) : JE X (.Subscript a b pos) (dGetD fa fb) := by
  obtain ⟨ta, pa, ka⟩ := ha.ex
  obtain ⟨tb, pb, kb⟩ := hb.ex
  refine ⟨_, pe_dget hu pa pb hs, fun T ρ σ H QD Q r h q => ka T ρ σ H _ _ r h fun z ρ1 v H1 r1 p1 v1 h => kb T ρ1 σ H1 _ _ r1 h fun y ρ2 w H2 r2 p2 v2 h => ?_⟩
  obtain ⟨kvs, k, d, rfl, hk, h2, h3⟩ := h
  obtain rfl := keyD_rp v2 hk
  obtain ⟨l, kws, rfl, hl, hr⟩ := dict_rp (v1.mono p2.fz)
  rcases hr.val k with ⟨z, _⟩ | ⟨d', u, z, z2, z3⟩
  · rw [z] at h2; cases h2
  · rw [z] at h2; cases h2
    have g := DGet.k (k := k) (at_of hl)
    rw [z2] at g
    exact ⟨_, _, rfl, g, q _ _ _ _ r2 (p1.trans p2) z3 h3⟩
def dInD (neg : Bool) (fb fa : DE) : DE := fun ρ Q => fb ρ fun y ρ1 => fa ρ1 fun z ρ2 => ∃ kvs k, z = .dict (dkD kvs) ∧ keyD y = some k ∧ Q (.bool (if neg then !(valD kvs k).isSome else (valD kvs k).isSome)) ρ2
def dGet1 (fa fb : DE) : DE := fun ρ Q => fa ρ fun z ρ1 => (∃ kvs, z = .dict (dkD kvs)) ∧ fb ρ1 fun y ρ2 => ∃ kvs k, z = .dict (dkD kvs) ∧ keyD y = some k ∧ Q ((valD kvs k).getD .none) ρ2
def lKeys (fa : DE) : DL := fun ρ Q => fa ρ fun z ρ1 => ∃ kvs, z = .dict (dkD kvs) ∧ Q (kvs.map fun p => keyB p.1) ρ1
def lSort (fa : DE) : DL := fun ρ Q => fa ρ fun z ρ1 => ∃ ns : List Int, seqD z = some (ns.map PyData.int) ∧ (∃ ds, z = .list ds) ∧ ∀ ns' : List Int, ns'.Perm ns → ns'.Pairwise (· ≤ ·) → Q (ns'.map PyData.int) ρ1
end
end Dn
set_option Elab.async false
set_option linter.all false
set_option maxRecDepth 100000
set_option autoImplicit false
set_option maxHeartbeats 4000000
namespace Dn
open PySem L2 Evl PySem.Spec PyProof.Rows
theorem erase_perm {l : List Int} {x : Int} (h : x ∈ l) : (x :: l.erase x).Perm l := (List.perm_cons_erase h).symm
theorem nodup_iff_len : ∀ (l ns : List Int), l.Nodup → (∀ k, k ∈ l ↔ k ∈ ns) → l.length ≤ ns.length ∧ (l.length = ns.length ↔ ns.Nodup)
  | [], ns, _, h => by
    cases ns with
    | nil => simp
    | cons x r => exact absurd ((h x).2 (by simp)) (by simp)
  | x :: l, ns, hd, h => by
    have hx : x ∈ ns := (h x).1 (by simp)
    have hd2 := List.nodup_cons.mp hd
    have p := erase_perm hx
    by_cases hy : x ∈ ns.erase x
    · -- x stands twice
      have h2 : ∀ k, k ∈ l ↔ k ∈ (ns.erase x).filter (fun z => decide (z ≠ x)) := fun k => by
        simp only [List.mem_filter, decide_eq_true_eq]
        constructor
        · intro hk
          have ne : k ≠ x := fun z => hd2.1 (by rw [← z]; exact hk)
          have : k ∈ x :: ns.erase x := p.mem_iff.2 ((h k).1 (by simp [hk]))
          rcases List.mem_cons.mp this with z | z
          · exact absurd z ne
          · exact ⟨z, ne⟩
        · rintro ⟨hk, ne⟩
          have : k ∈ ns := p.mem_iff.1 (by simp [hk])
          rcases List.mem_cons.mp ((h k).2 this) with z | z
          · exact absurd z ne
          · exact z
      have ih := nodup_iff_len l _ hd2.2 h2
      have lt : ((ns.erase x).filter (fun z => decide (z ≠ x))).length < (ns.erase x).length := by
        have := List.length_filter_lt_length_iff_exists (p := fun z => decide (z ≠ x)) (l := ns.erase x)
        exact this.2 ⟨x, hy, by simp⟩
      have e := p.length_eq
      simp only [List.length_cons] at e ⊢
      refine ⟨by omega, fun z => by omega, fun z => ?_⟩
      exact absurd (p.nodup_iff.2 z) (by simp [hy])
    · have h2 : ∀ k, k ∈ l ↔ k ∈ ns.erase x := fun k => by
        constructor
        · intro hk
          have ne : k ≠ x := fun z => hd2.1 (by rw [← z]; exact hk)
          have : k ∈ x :: ns.erase x := p.mem_iff.2 ((h k).1 (by simp [hk]))
          rcases List.mem_cons.mp this with z | z
          · exact absurd z ne
          · exact z
        · intro hk
          have : k ∈ ns := p.mem_iff.1 (by simp [hk])
          rcases List.mem_cons.mp ((h k).2 this) with z | z
          · rw [z] at hk; exact absurd hk hy
          · exact z
      have ih := nodup_iff_len l _ hd2.2 h2
      have e := p.length_eq
      simp only [List.length_cons] at e ⊢
      refine ⟨by omega, fun z => ?_, fun z => ?_⟩
      · exact p.nodup_iff.1 (List.nodup_cons.mpr ⟨hy, ih.2.1 (by omega)⟩)
      · have := ih.2.2 (List.nodup_cons.mp (p.nodup_iff.2 z)).2
        omega
section
variable {X : Cx} {a b c e : Expr} {fa fb fc : DE} {pos p : Pos} {es : List Expr} {x y : Str}
def tLenSetT (K : PySem.W.Frag) (ta : TE) : TE := fun σ H Q => ta σ H fun x H1 => ∃ (l : Addr) (ns : List Int), x = V.ref l ∧ SqT K H1 l (ns.map V.int) ∧ ns.length ≤ 4000 ∧ ∀ n : Nat, (n = ns.length ↔ ns.Nodup) → Q (.int n) H1
theorem pe_lenSetT {a : Expr} {ta : TE} {p p2 q pos : Pos} (hc : X.calm = true) (hg : Gl X "len") (hm : X.mg "len" = none) (hg2 : Gl X "set") (hm2 : X.mg "set" = none) (ha : PE X a ta)
    (na : starEach [a] X.env = (false, eval a X.env) :: starEach [] X.env := by rfl) : PE X (.Call (.Name "len" p) [.Call (.Name "set" p2) [a] [] q] [] pos) (tLenSetT X.K ta) := by
  refine ⟨fun pins s σ H Q I h => ?_⟩
  refine Call_ (ld_blt I hg hm PySem.boot_len ?_)
  refine PyProof.Rows.callWith_builtin1 (PyProof.Rows.args_cons ?_ rfl) rfl rfl
  refine Call_ (ld_blt I hg2 hm2 PyProof.Rows.boot_set ?_)
  refine PyProof.Rows.callWith_type1 (PyProof.Rows.args_cons (thn (ha.run pins s σ H _ I h) fun v s1 ⟨x, H1, I1, r1, q1⟩ => PyProof.Rows.args_nil ?_) na) na rfl
  obtain ⟨l, ns, rfl, hq, h1, q1⟩ := q1
  cases r1
  obtain ⟨its, r, pl, hz⟩ := I1.tuple hq
  refine call_set_tupI ns (I1.ok.hd hc) pl (by simpa using r.ints) (by unfold scanBound; omega) fun h' tk c R hc2 hk => ?_
  refine PyProof.Rows.args_nil ?_
  obtain ⟨o, es, ep, t, ho, hex, hd, _, nd, hm, hb, hf, hn, _⟩ := R
  have I2 : Inv X pins σ H1 { s1 with heap := h', toks := tk } := I1.kept fun b o e => hk b o e
  have hl := nodup_iff_len _ ns nd fun k => by rw [← hm k]; simp
  rw [List.length_map, Array.length_toList] at hl
  refine call_len_set ho hex hd hf (by omega) ⟨.int es.size, H1, I2.tok _, ⟨_, rfl⟩, q1 _ hl.2⟩
def dLenSet (fa : DE) : DE := fun ρ Q => fa ρ fun z ρ1 => ∃ ns : List Int, z = .tuple (ns.map PyData.int) ∧ ns.length ≤ 4000 ∧ ∀ n : Nat, (n = ns.length ↔ ns.Nodup) → Q (.int n) ρ1
theorem je_lenSet {p2 q : Pos} (hc : X.calm = true) (hm : X.mg "len" = none) (hm2 : X.mg "set" = none) (ha : JE X a fa) (hg : Gl X "len" := by rfl) (hg2 : Gl X "set" := by rfl)
    (na : starEach [a] X.env = (false, eval a X.env) :: starEach [] X.env := by rfl) : JE X (.Call (.Name "len" p) [.Call (.Name "set" p2) [a] [] q] [] pos) (dLenSet fa) := by
  obtain ⟨ta, pa, ka⟩ := ha.ex
  refine ⟨_, pe_lenSetT hc hg hm hg2 hm2 pa na, fun T ρ σ H QD Q r h q => ka T ρ σ H _ _ r h fun z ρ1 v H1 r1 p1 v1 h => ?_⟩
  obtain ⟨ns, rfl, h1, h2⟩ := h
  cases v1 with
  | tup hp rr =>
    obtain rfl := rr.of_ints
    exact ⟨_, ns, rfl, sqt_of hp, h1, fun n hn => q _ _ _ _ r1 p1 (.int _) (h2 n hn)⟩
def dRevT (fa : DE) : DE := fun ρ Q => fa ρ fun z ρ1 => ∃ ds, z = .tuple ds ∧ Q (.tuple ds.reverse) ρ1
def dRepT : D → D → (D → Prop) → Prop := fun x y Q => ∃ (ds : List D) (n : Int), x = .tuple ds ∧ y = .int n ∧ ds ≠ [] ∧ 2 ≤ n ∧ n ≤ 1000 ∧ ds.length ≤ 1000 ∧ Q (.tuple (List.replicate n.toNat ds).flatten)
theorem RpAll.rep {K : PySem.W.Frag} {G : Hp} {vs : List V} {ds : List D} (r : RpAll K G vs ds) : ∀ n : Nat, RpAll K G (List.replicate n vs).flatten (List.replicate n ds).flatten
  | 0 => .nil
  | n + 1 => by simpa [List.replicate_succ] using r.append (RpAll.rep r n)
end
end Dn
set_option Elab.async false
set_option linter.all false
set_option maxRecDepth 100000
set_option autoImplicit false
set_option maxHeartbeats 4000000
namespace SrL
open PySem PyProof.Rows Srt SrtO
def lx : List Int → List Int → Bool
  | [], [] => false
  | [], _ :: _ => true
  | _ :: _, [] => false
  | x :: a, y :: b => if x = y then lx a b else decide (x < y)
theorem lx_asym : ∀ {a b : List Int}, lx a b = true → lx b a = false
  | [], [], _ => rfl
  | [], _ :: _, _ => rfl
  | _ :: _, [], h => by simp [lx] at h
  | x :: a, y :: b, h => by
    unfold lx at h ⊢
    by_cases e : x = y
    · rw [if_pos e] at h; rw [if_pos e.symm]; exact lx_asym h
    · rw [if_neg e] at h; rw [if_neg (Ne.symm e)]
      have := of_decide_eq_true h
      exact decide_eq_false (by omega)
theorem lx_tr : ∀ {a b c : List Int}, lx b a = false → lx c b = false → lx c a = false
  | [], [], [], _, _ => rfl
  | [], [], _ :: _, _, h => by simp [lx] at h; rfl
  | [], _ :: _, [], _, h => by simp [lx] at h
  | [], _ :: _, _ :: _, _, _ => rfl
  | _ :: _, [], _, h, _ => by simp [lx] at h
  | _ :: _, _ :: _, [], _, h => by simp [lx] at h
  | x :: a, y :: b, z :: c, h1, h2 => by
    unfold lx at h1 h2 ⊢
    by_cases e1 : y = x
    · rw [if_pos e1] at h1
      by_cases e2 : z = y
      · rw [if_pos e2] at h2; rw [if_pos (e2.trans e1)]; exact lx_tr h1 h2
      · rw [if_neg e2] at h2; rw [if_neg (by rw [← e1]; exact e2)]; rw [← e1]; exact h2
    · rw [if_neg e1] at h1
      have k1 := of_decide_eq_false h1
      by_cases e2 : z = y
      · rw [e2, if_neg e1]; exact h1
      · rw [if_neg e2] at h2
        have k2 := of_decide_eq_false h2
        rw [if_neg (by omega)]
        exact decide_eq_false (by omega)
section
variable {prog : Program} {w : World} {A : Around} {E : Value → Shared → Prop} {s : Shared} {Q : Bool → Shared → Prop}
end
end SrL
namespace Dn
open PySem L2 Evl PySem.Spec PyProof.Rows SrL
section
variable {X : Cx}
def tI0 (ns : List Int) : D := .tuple (ns.map PyData.int)
variable {a : Expr} {fa : DE} {pos p : Pos}
def lSortT (fa : DE) : DL := fun ρ Q => fa ρ fun z ρ1 => ∃ L : List (List Int), z = .list (L.map tI0) ∧ (∀ l, l ∈ L → l ≠ []) ∧ ∀ L' : List (List Int), L'.Perm L → (L'.Pairwise fun a b => lx b a = false) → Q (L'.map tI0) ρ1
end
end Dn
set_option Elab.async false
set_option linter.all false
set_option maxRecDepth 100000
set_option autoImplicit false
set_option maxHeartbeats 4000000
namespace Dn
open PySem L2 Evl PySem.Spec PyProof.Rows
section
variable {X : Cx} {a b c e : Expr} {fa fb fc : DE} {pos p : Pos} {es : List Expr} {x y : Str}
def wpDc (g : DG) (tt : DT) (tk te : DE) (vs : List Nat) (Q : List (Key × D) → Env → Prop) : List D → List (Key × D) → Env → Prop
  | [], acc, ρ => Q acc ρ
  | d :: ds, acc, ρ => acc.length < 16777216 ∧ g d (wipeD ρ vs) fun ρ1 => tt ρ1 fun b ρ2 => if b = true then tk ρ2 fun yk ρk => te ρk fun y ρ3 => ∃ k, keyD yk = some k ∧ wpDc g tt tk te vs Q ds (putD acc k y) (wipeD ρ3 vs) else wpDc g tt tk te vs Q ds acc (wipeD ρ2 vs)
abbrev DDc := Env → (List (Key × D) → Env → Prop) → Prop
def lDc (fi : DL) (g : DG) (tt : DT) (tk te : DE) (vs : List Nat) : DDc := fun ρ Q => fi ρ fun ds ρ1 => wpDc g tt tk te vs Q ds [] (wipeD ρ1 vs)
def dOfK (f : DDc) : DE := fun ρ Q => f ρ fun kvs => Q (.dict (dkD kvs))
def xOwK (f : DDc) : DX := fun ρ Q => f ρ fun kvs => Q (.ow (.dct kvs))
theorem dc_read {tg iter : Expr} {vs : List Nat} {fi : DL} {g : DG} {tt : DT} {tk te : DE} (hi : JI X tg iter fi) : ∃ wi, PI X tg iter wi ∧ ∀ (T : Addr → Prop) (ρ : Env) (σ : L2.St) (H : Hp) (QD : List (Key × D) → Env → Prop) (Q : VK), RS X.K T ρ σ H → lDc fi g tt tk te vs ρ QD →
    (∀ ds ρ' p vs H', H p = none → H' p = some (.dK vs) → RS X.K (plus T p) ρ' σ H' → KvRp X.K (hide (Hd (plus T p) ρ' σ) H') ds vs → Po ρ σ H ρ' σ H' → QD ds ρ' → Q (.ref p) H') → tDc wi (tgOf X.K vs g) (ttOf X.K tt) (teOf X.K tk) (teOf X.K te) vs σ H Q := by
  obtain ⟨wi, pi, ki⟩ := hi.ex
  refine ⟨wi, pi, fun T ρ σ H QD Q r h q => ki T ρ σ H _ _ r h fun ds ρ1 J H1 r1 p1 it h => ?_⟩
  intro L hL
  -- kept: what was known at the start stands apart from the new list
  refine ⟨fun i m H' => i ≤ ds.length ∧ m = ds.length - i ∧ ∃ ρ' acc us, ρ' = wipeD ρ' vs ∧ RS X.K (plus T L) ρ' (wipe σ vs) H' ∧ Po ρ1 σ H1 ρ' (wipe σ vs) H' ∧ H' L = some (.dK us) ∧ KvRp X.K (hide (Hd (plus T L) ρ' (wipe σ vs)) H') acc us ∧ wpDc g tt tk te vs QD (ds.drop i) acc ρ',
    ⟨ds.length, Nat.zero_le _, rfl, wipeD ρ1 vs, [], [], (wipeD_idem vs).symm, (r1.laid hL).wiped vs, (Po.grow (Ex.new hL)).trans (.wiped vs), upd_same, (Paired.nil : KvRp X.K _ [] []), h⟩, ?_⟩
  rintro i m H' ⟨hi, rfl, ρ', acc, us, ew, r', p', hl, ra, h⟩
  have eG : Ex (hide (Hd T ρ1 σ) H1) H' := (p'.fz (T := T)).trans hide_ex
  by_cases hlt : i < ds.length
  · rw [List.drop_eq_getElem_cons hlt] at h
    obtain ⟨hz, h⟩ := h
    obtain ⟨go, st⟩ := it.step i ds[i] H' (List.getElem?_eq_getElem hlt) eG
    refine .inr ⟨go, fun H2 => ∃ ρ2 acc us, ρ2 = wipeD ρ2 vs ∧ RS X.K (plus T L) ρ2 (wipe σ vs) H2 ∧ Po ρ1 σ H1 ρ2 (wipe σ vs) H2 ∧ H2 L = some (.dK us) ∧ KvRp X.K (hide (Hd (plus T L) ρ2 (wipe σ vs)) H2) acc us ∧ wpDc g tt tk te vs QD (ds.drop (i + 1)) acc ρ2,
      fun H2 w => ⟨ds.length - (i + 1), by omega, by omega, rfl, w⟩, fun v H2 hy => ?_⟩
    obtain ⟨ex, rv⟩ := st v H2 hy
    rw [← ew] at h
    have r2 := r'.grow ex
    have pa2 := p'.trans (Po.grow (ρ := ρ') (σ := wipe σ vs) ex)
    have ra2 := ra.mono (hide_grow (O := Hd (plus T L) ρ' (wipe σ vs)) ex)
    have nL : H1 L = none := hL
    have eO : Ex (hide (Hd T ρ1 σ) H1) (hide (Hd (plus T L) ρ' (wipe σ vs)) H') := fun a o w => by
      obtain ⟨n, w⟩ := hide_some.1 w
      obtain ⟨n2, w2⟩ := hide_some.1 ((p'.fz (T := T)) a o (hide_some.2 ⟨n, w⟩))
      refine hide_some.2 ⟨?_, w2⟩
      rintro ((t | t) | t)
      · subst t; rw [nL] at w; cases w
      · exact n2 (.inl t)
      · exact n2 (.inr t)
    refine ⟨plus T L, ρ', ds[i], _, r2, rv _ (fun a => r'.hdDom) eO, h, fun ρ3 σ3 r3 p3 w3 h => ⟨by rw [w3]; exact wipe_idem σ vs, plus T L, ρ3, _, r3, h, fun b ρ4 H4 r4 p4 h => ?_⟩⟩
    -- the new list is never the block's own
    have keepL : ∀ {ρa : Env} {σa : L2.St} {Ha Hb : Hp} {ρb : Env} {σb : L2.St} {o : HO}, RS X.K (plus T L) ρa σa Ha → Po ρa σa Ha ρb σb Hb → Ha L = some o → Hb L = some o := fun ra pab hh => pab.keep L _ (ra.dis L (.inl rfl)) hh
    have l4 : H4 L = some (.dK us) := keepL r2 (p3.trans p4) (ex _ _ hl)
    have ra4 := ra2.mono (((p3.trans p4)).fz (T := plus T L))
    have back : ∀ {ρ5 : Env} {H5 : Hp}, RS X.K (plus T L) ρ5 σ3 H5 → RS X.K (plus T L) (wipeD ρ5 vs) (wipe σ vs) H5 := fun {ρ5 H5} r5 => by
      have z := r5.wiped vs
      rw [w3, wipe_idem] at z
      exact z
    have pback : ∀ {ρ5 : Env} {H5 : Hp}, Po ρ1 σ H1 ρ5 σ3 H5 → Po ρ1 σ H1 (wipeD ρ5 vs) (wipe σ vs) H5 := fun {ρ5 H5} p5 => by
      have z := p5.trans (Po.wiped (ρ := ρ5) (σ := σ3) (H := H5) vs)
      rw [w3, wipe_idem] at z
      exact z
    cases b with
    | false =>
      refine ⟨wipeD ρ4 vs, acc, us, (wipeD_idem vs).symm, back r4, pback (pa2.trans (p3.trans p4)), l4, ?_, h⟩
      have z := ra4.mono ((Po.wiped (ρ := ρ4) (σ := σ3) (H := H4) vs).fz (T := plus T L))
      rw [w3, wipe_idem] at z
      exact z
    | true =>
      rw [if_pos rfl] at h
      dsimp only
      rw [if_pos rfl]
      refine ⟨plus T L, ρ4, _, r4, h, fun yk ρk wk' Hk rk pk vk h => ?_⟩
      refine ⟨plus T L, ρk, _, rk, h, fun y ρ5 w H5 r5 p5' v5 h => ?_⟩
      obtain ⟨ky, hky, h⟩ := h
      obtain rfl := keyD_rp vk hky
      have p5 := pk.trans p5'
      have l5 : H5 L = some (.dK us) := keepL r4 p5 l4
      have ra5 := KvRp.put (ra4.mono (p5.fz (T := plus T L))) ky v5
      have aL : ∀ (o : HO), Ex (hide (Hd (plus T L) ρ5 σ3) H5) (hide (Hd (plus T L) ρ5 σ3) (upd H5 L o)) := fun o a u w => by
        obtain ⟨n, w⟩ := hide_some.1 w
        exact hide_some.2 ⟨n, by rw [upd_ne (fun z => n (.inl (.inl z)))]; exact w⟩
      have r6 : RS X.K (plus T L) ρ5 σ3 (upd H5 L (.dK (putK us ky w))) := by
        refine ⟨r5.len, fun j d z => ?_, fun j m z => ?_, r5.inj, r5.dis, fun a t => ?_, r5.tag⟩
        · obtain ⟨u, h1, h2⟩ := r5.im j d z; exact ⟨u, h1, h2.mono (aL _)⟩
        · obtain ⟨a, o, h1, h2, h3⟩ := r5.ow j m z
          have ne : a ≠ L := fun e => by subst e; exact r5.dis a (.inl rfl) ⟨j, m, z, h1⟩
          exact ⟨a, o, h1, by rw [upd_ne ne]; exact h2, h3.mono (aL _)⟩
        · by_cases e : a = L
          · subst e; exact Lv.at fun _ z => nomatch z
          · exact (r5.dom a t).upd e
      have p6 : Po ρ1 σ H1 ρ5 σ3 (upd H5 L (.dK (putK us ky w))) := by
        have z := (pa2.trans (p3.trans p4)).trans p5
        refine ⟨fun a o n hh => ?_, z.own, fun a hh => ?_⟩
        · rw [upd_ne (fun e => by subst e; rw [nL] at hh; cases hh)]; exact z.keep a o n hh
        · by_cases e : a = L
          · subst e; rw [upd_same]; simp
          · rw [upd_ne e]; exact z.dom a hh
      refine ⟨us, ky, rfl, l5, by rw [← ra.len]; exact hz, wipeD ρ5 vs, putD acc ky y, putK us ky w, (wipeD_idem vs).symm, back r6, pback p6, upd_same, ?_, h⟩
      have z := (ra5.mono (aL (.dK (putK us ky w)))).mono ((Po.wiped (ρ := ρ5) (σ := σ3) (H := upd H5 L (.dK (putK us ky w))) vs).fz (T := plus T L))
      rw [w3, wipe_idem] at z
      exact z
  · have e : i = ds.length := by omega
    subst e
    rw [List.drop_length] at h
    refine .inl ⟨it.stop H' eG, ?_⟩
    rw [ew] at r' p' ra h
    refine q acc (wipeD ρ' vs) L us H' (none_back p1 hL) hl r'.unwipe (ra.mono ?_) ?_ h
    · exact hide_sub fun a w => w.elim .inl fun w => .inr (own_unwipe w)
    · exact p1.trans ⟨p'.keep, fun a w => p'.own a (own_unwipe w), p'.dom⟩
theorem je_dc {kx vx tg iter : Expr} {ifs : List Expr} {scope : Scope} {own : List (Str × Nat)} {fi : DL} {g : DG} {tt : DT} {tk te : DE} (hc : X.calm = true) (hN : X.N.Nodup) (hi : JI X tg iter fi) (ok : BlkOk X.N X.env.scope scope own)
    (hg : ∀ (s : Shared) (H : Hp) (C : Addr) (cl : List (Str × Addr)) (fp : List Addr), JG (X.blk s H scope (compEnvC scope cl C X.env) fp) tg (own.map (·.2)) g) (ht : ∀ (s : Shared) (H : Hp) (C : Addr) (cl : List (Str × Addr)) (fp : List Addr), JTs (X.blk s H scope (compEnvC scope cl C X.env) fp) ifs tt)
    (hk : ∀ (s : Shared) (H : Hp) (C : Addr) (cl : List (Str × Addr)) (fp : List Addr), JE (X.blk s H scope (compEnvC scope cl C X.env) fp) kx tk)
    (he : ∀ (s : Shared) (H : Hp) (C : Addr) (cl : List (Str × Addr)) (fp : List Addr), JE (X.blk s H scope (compEnvC scope cl C X.env) fp) vx te) (hs : ∀ x, foldedSetIterable iter X.env x = pure x := by intro _; rfl) :
    JE X (.DictComp kx vx [⟨tg, iter, ifs, 0⟩] scope pos) (dOfK (lDc fi g tt tk te (own.map (·.2)))) := by
  obtain ⟨wi, pi, k⟩ := dc_read (vs := own.map (·.2)) (g := g) (tt := tt) (tk := tk) (te := te) hi
  refine ⟨_, pe_dc (wi := wi) (g := tgOf X.K (own.map (·.2)) g) (tt := ttOf X.K tt) (tk := teOf X.K tk) (tv := teOf X.K te) hc hN pi ok (fun s H C cl fp => (hg s H C cl fp).pg) (fun s H C cl fp => (ht s H C cl fp).pts) (fun s H C cl fp => (hk s H C cl fp).pe) (fun s H C cl fp => (he s H C cl fp).pe) hs, fun T ρ σ H QD Q r h q => ?_⟩
  refine k T ρ σ H _ _ r h fun kvs ρ' l kws H' n s r' v' p' h' => ?_
  refine q _ _ _ _ r'.unplus p' (.dct (hide_some.2 ⟨?_, s⟩) (KvRp.rp (v'.mono hd_unplus)) rfl) h'
  rintro (w | w)
  · exact (r.dom l w).1 n
  · exact r'.dis l (.inl rfl) w
def dMinL : List D → (D → Prop) → Prop := fun ds Q => ∃ ns : List Int, ds = [.list (ns.map PyData.int)] ∧ ns ≠ [] ∧ ∀ m, m ∈ ns → (∀ z, z ∈ ns → m ≤ z) → Q (.int m)
def dIndex (fa fb : DE) : DE := fun ρ Q => fa ρ fun z ρ1 => (∃ ds, z = .list ds) ∧ fb ρ1 fun y ρ2 => ∃ (ns : List Int) (n : Int) (j : Nat), z = .list (ns.map PyData.int) ∧ y = .int n ∧ ns[j]? = some n ∧ (∀ m : Nat, m < j → ns[m]? ≠ some n) ∧ Q (.int (j : Nat)) ρ2
def lRep (fa fb : DE) : DL := fun ρ Q => fa ρ fun z ρ1 => fb ρ1 fun y ρ2 => ∃ (ds : List D) (n : Int), z = .list ds ∧ y = .int n ∧ 0 ≤ n ∧ n ≤ 1000 ∧ ds.length ≤ 1000 ∧ Q (List.replicate n.toNat ds).flatten ρ2
end
end Dn
set_option Elab.async false
set_option linter.all false
set_option maxRecDepth 100000
set_option autoImplicit false
set_option maxHeartbeats 4000000
namespace Cq
open PySem L2 PySem.Spec PyProof.Rows
abbrev CpAct := Value → Env → (Unit → Sem Fin) → Sem Fin
def TurnEq (C : Expr) (k : Nat) (p : Pos) (tg : Expr) (ifs : List Expr) (act : CpAct) : Prop :=
  ∀ (src lst : Value) (ev : Env), compTurn C k src lst ev = (do
    standAt p
    match ← pyNext src with
    | none => pure (.done .next)
    | some got =>
      letOwnedTupleGo tg src got
      assign tg ev got
      let mut fits := true
      for q in ifs do
        if fits then fits ← isTrue q ev (eval q ev)
      if fits then
        act lst ev fun _ => again (.compLoop C k src lst ev)
      else again (.compLoop C k src lst ev))
def aApp (elt : Expr) : CpAct := fun lst ev kk => (do let _ ← call (.builtin "list.append") [lst, ← eval elt ev]) >>= kk
def aFor (C : Expr) (k : Nat) (i : Expr) : CpAct := fun lst ev kk => do
  let raw ← eval i ev
  standAt i.pos
  let src ← foldedSetIterable i ev raw
  let _ ← runOwn (.compStart C k (← holding [src] (pyIter src)) lst ev) ev
  kk ()
theorem turn3_0 {elt t0 i0 t1 i1 t2 i2 : Expr} {f0 f1 f2 : List Expr} {sc : Scope} {pos : Pos} : TurnEq (.ListComp elt [⟨t0, i0, f0, 0⟩, ⟨t1, i1, f1, 0⟩, ⟨t2, i2, f2, 0⟩] sc pos) 0 i0.pos t0 f0 (aFor (.ListComp elt [⟨t0, i0, f0, 0⟩, ⟨t1, i1, f1, 0⟩, ⟨t2, i2, f2, 0⟩] sc pos) 1 i1) := fun _ _ _ => by rfl
theorem turn3_1 {elt t0 i0 t1 i1 t2 i2 : Expr} {f0 f1 f2 : List Expr} {sc : Scope} {pos : Pos} : TurnEq (.ListComp elt [⟨t0, i0, f0, 0⟩, ⟨t1, i1, f1, 0⟩, ⟨t2, i2, f2, 0⟩] sc pos) 1 i1.pos t1 f1 (aFor (.ListComp elt [⟨t0, i0, f0, 0⟩, ⟨t1, i1, f1, 0⟩, ⟨t2, i2, f2, 0⟩] sc pos) 2 i2) := fun _ _ _ => by rfl
theorem turn3_2 {elt t0 i0 t1 i1 t2 i2 : Expr} {f0 f1 f2 : List Expr} {sc : Scope} {pos : Pos} : TurnEq (.ListComp elt [⟨t0, i0, f0, 0⟩, ⟨t1, i1, f1, 0⟩, ⟨t2, i2, f2, 0⟩] sc pos) 2 i2.pos t2 f2 (aApp elt) := fun _ _ _ => by rfl
structure Act (Y : Cx) (act : CpAct) (lst : Value) (vin : List Nat) (bd : L2.St → Hp → (Hp → Prop) → Prop) : Prop where
  run : ∀ (pins : List (Addr × Obj)) (s : Shared) (σ : L2.St) (H : Hp) (Nx : Hp → Prop), Inv Y pins σ H s → bd σ H Nx → ∀ (kk : Unit → Sem Fin) (Q : Fin → Shared → Prop) (E : Value → Shared → Prop),
    (∀ s' H', Inv Y pins (wipe σ vin) H' s' → Nx H' → wpAny (model Y.prog Y.w) Y.A (kk ()) Q E s') → wpAny (model Y.prog Y.w) Y.A (act lst Y.env kk) Q E s
def bApp (D : Addr) (te : TE) : L2.St → Hp → (Hp → Prop) → Prop := fun σ H Nx => te σ H fun y H' => ∃ acc, H' D = some (.lst acc) ∧ acc.length < sizeLine ∧ Nx (upd H' D (.lst (acc ++ [y])))
theorem mF {α : Type} {t : Sem α} {Q Q' : α → Shared → Prop} {M : Model} {A : Around} {E E' : Value → Shared → Prop} {s : Shared} (hx : E = fun _ _ => False) (h : wpAny M A t Q E s) (hq : ∀ a s, Q a s → Q' a s) : wpAny M A t Q' E' s := by
  subst hx
  exact thnF h hq
theorem act_app {Y : Cx} {elt : Expr} {te : TE} {D : Addr} (hx : Y.xe = fun _ _ => False) (he : PE Y elt te) : Act Y (aApp elt) (.ref D) [] (bApp D te) := by
  refine ⟨fun pins s σ H Nx I h kk Q E hk => ?_⟩
  unfold aApp
  refine wpAny_bind (wpAny_bind (mF hx (he.run pins s σ H _ I h) fun u s1 ⟨y, H1, I1, ry, acc, hD, hz, nx⟩ => wpAny_bind ?_))
  exact app_ok I1 hD hz ry fun s2 I2 => wpAny_pure (hk s2 _ I2 nx)
def bFor (wi : TI) (g : TG) (tt : TT) (bd : L2.St → Hp → (Hp → Prop) → Prop) (vs : List Nat) : L2.St → Hp → (Hp → Prop) → Prop := fun σ H Nx => wi σ H fun J H1 => ∃ W : Nat → Nat → Hp → Prop, (∃ m, W 0 m H1) ∧ ∀ i m H, W i m H →
  (J.stop i H ∧ Nx H) ∨ (J.go i H ∧ ∃ Ny : Hp → Prop, (∀ H', Ny H' → ∃ m', m' < m ∧ W (i + 1) m' H') ∧ ∀ x H', J.yld i H x H' → g x (wipe σ vs) H' fun σ2 H2 => wipe σ2 vs = wipe σ vs ∧ tt σ2 H2 fun b H3 =>
    if b = true then bd σ2 H3 Ny else Ny H3)
theorem clause_loop {Y : Cx} (hx : Y.xe = fun _ _ => False) (hc : Y.calm = true) {elt tg : Expr} {gs : List Comprehension} {sc : Scope} {ps p : Pos} {k : Nat} {ifs : List Expr} {act : CpAct} (te : TurnEq (.ListComp elt gs sc ps) k p tg ifs act)
    {J : It} {fp : List Addr} {src : Addr} {tn : Nat → Heap → Prop} (T : Turn Y.prog Y.w Y.K tg J fp src tn) {g : TG} {tt : TT} {lst : Value} {vin vs : List Nat} {bd : L2.St → Hp → (Hp → Prop) → Prop} (pg : PG Y tg g) (pt : PTs Y ifs tt) (ac : Act Y act lst vin bd) (hv : ∀ i ∈ vin, i ∈ vs)
    {pins : List (Addr × Obj)} {σ : L2.St} {W : Nat → Nat → Hp → Prop} {Done : Hp → Prop}
    (turn : ∀ i m H, W i m H → (J.stop i H ∧ Done H) ∨ (J.go i H ∧ ∃ Ny : Hp → Prop, (∀ H', Ny H' → ∃ m', m' < m ∧ W (i + 1) m' H') ∧ ∀ x H', J.yld i H x H' → g x (wipe σ vs) H' fun σ2 H2 => wipe σ2 vs = wipe σ vs ∧ tt σ2 H2 fun b H3 => if b = true then bd σ2 H3 Ny else Ny H3))
    {s : Shared} {H : Hp} {m0 : Nat} (I : Inv Y pins (wipe σ vs) H s) (st : tn 0 s.heap) (hf : ∀ b ∈ fp, FpOk Y pins H b) (w0 : W 0 m0 H) :
    codeAny (model Y.prog Y.w) Y.A (.compLoop (.ListComp elt gs sc ps) k (.ref src) lst Y.env) (fun r s' => r = .ok .next ∧ ∃ H', Inv Y pins (wipe σ vs) H' s' ∧ Done H') s := by
  have rest : ∀ {H' : Hp}, (∀ b ∈ fp, H' b = none) → ∀ b ∈ fp, FpOk Y pins H' b := fun n b hb => ⟨n b hb, (hf b hb).2⟩
  refine codeAny_loop rfl (fun m s' => ∃ i H', Inv Y pins (wipe σ vs) H' s' ∧ tn i s'.heap ∧ (∀ b ∈ fp, H' b = none) ∧ W i m H') (fun m s1 ⟨i, H1, I1, st1, n1, w1⟩ => ?_) m0 ⟨0, H, I, st, fun b hb => (hf b hb).1, w0⟩
  show wpAny _ Y.A ((compTurn (.ListComp elt gs sc ps) k (.ref src) lst Y.env).onRaise (fun z => do noteFrame z Y.env; theTreesLotGoes z)) _ _ s1
  refine wpAny_noted ?_
  rw [te]
  refine wpAny_bind (wpAny_standAt (wpAny_bind ?_))
  rcases turn i m H1 w1 with ⟨hs, hd⟩ | ⟨hg, Ny, hN, step⟩
  · refine thnF (T.done Y rfl rfl rfl hc i pins s1 _ H1 (fun _ _ => False) I1 (rest n1) st1 hs) fun r s2 ⟨hr, I2⟩ => ?_
    subst hr
    exact wpAny_pure ⟨rfl, H1, I2, hd⟩
  · refine thnF (T.item Y rfl rfl rfl hc i pins s1 _ H1 (fun _ _ => False) I1 (rest n1) st1 hg) fun r s2 ⟨u, hr, hu⟩ => ?_
    subst hr
    refine wpAny_bind (thnF hu fun _ s3 ⟨x, H3, I3, rx, yx, st3, n3⟩ => wpAny_bind ?_)
    have I3p := I3.pinned (rest n3) (T.obj _ _ st3)
    refine mF hx (pg.run _ s3 _ H3 x u _ I3p rx (step x H3 yx)) fun _ s4 ⟨σ4, H4, I4, hw, q4⟩ => wpAny_bind ?_
    have back : ∀ {σ5 : L2.St} {s5 : Shared} {H5 : Hp}, Inv Y (pins ++ pinsAt fp s3.heap) σ5 H5 s5 → σ5.length = σ4.length → (∀ (j : Nat) v, (wipe σ vs)[j]? = some (some v) → σ5[j]? = some (some v)) → Ny H5 →
        ∃ m', m' < m ∧ ∃ i H', Inv Y pins (wipe σ vs) H' s5 ∧ tn i s5.heap ∧ (∀ b ∈ fp, H' b = none) ∧ W i m' H' := fun {σ5 s5 H5} I5 hl hk ny => by
      obtain ⟨m', hm, w'⟩ := hN H5 ny
      have pinned : ∀ b ∈ fp, ∀ o, s3.heap.get? b = some o → s5.heap.get? b = some o ∧ H5 b = none := fun b hb o e => by
        have z := I5.pin (b, o) (List.mem_append_right _ (List.mem_append_right _ (mem_pinsAt hb e)))
        exact ⟨z.1, z.2.1⟩
      refine ⟨m', hm, i + 1, H5, (I5.unpinned (pins := pins)).weak ?_ hk, T.keep _ _ _ st3 fun b hb o e => (pinned b hb o e).1, fun b hb => ?_, w'⟩
      · rw [← hw, wipe_length, hl]
      · obtain ⟨o, e, _⟩ := T.obj _ _ st3 b hb
        exact (pinned b hb o e).2
    have kn : ∀ (j : Nat) v, (wipe σ vs)[j]? = some (some v) → σ4[j]? = some (some v) := fun j v e => by
      rw [← hw] at e
      exact (wipe_some e).1
    refine mF hx (pt.run _ s4 σ4 H4 _ I4 q4) fun b s5 ⟨H5, I5, q5⟩ => ?_
    cases b with
    | false => exact wpAny_pure ⟨rfl, back I5 rfl kn q5⟩
    | true =>
      refine ac.run _ s5 σ4 H5 Ny I5 q5 _ _ _ fun s6 H6 I6 ny => wpAny_pure ⟨rfl, back I6 (wipe_length _ _) (fun j v e => ?_) ny⟩
      have e0 := e
      rw [← hw] at e
      obtain ⟨e1, e2⟩ := wipe_some e
      rw [wipe_out fun z => e2 (hv j z)]
      exact e1
theorem enter_clause {prog : Program} {w : World} {A : Around} {R : Result → Shared → Prop} {s : Shared} {elt tg it : Expr} {ifs : List Expr} {gs : List Comprehension} {sc : Scope} {ps : Pos} {k : Nat} {src lst : Value} {ev : PySem.Env} (hg : gs[k]? = some ⟨tg, it, ifs, 0⟩)
    (h0 : codeAny (model prog w) A (.compLoop (.ListComp elt gs sc ps) k src lst ev) R s)
    (h1 : ∀ (Q : Value → Shared → Prop) (E : Value → Shared → Prop), Q src s → wpAny (model prog w) A (pyIter src) Q E s) :
    codeAny (model prog w) A (.compStart (.ListComp elt gs sc ps) k src lst ev) R s := by
  refine codeAny_of_tree ?_
  show wpAny _ _ ((compStart (.ListComp elt gs sc ps) k src lst ev).onRaise (fun z => do noteFrame z ev; standAt theWindowsPlace)) _ _ s
  refine wpAny_notedAt ?_
  have hcl : (clausesOf (.ListComp elt gs sc ps))[k]? = some ⟨tg, it, ifs, 0⟩ := hg
  unfold compStart
  rw [hcl]
  show wpAny _ _ (ask >>= _) _ _ s
  refine wpAny_bind (wpAny_askSetting (wpAny_ite ?_))
  split
  · first
      | exact wpAny_bind (wpAny_pure (wpAny_pure ⟨rfl, h0⟩))
      | exact wpAny_pure ⟨rfl, h0⟩
  · refine wpAny_bind (wpAny_rule ?_)
    show wpAny _ _ (standAt it.pos >>= _) _ _ s
    exact wpAny_bind (wpAny_standAt (wpAny_bind (h1 _ _ (wpAny_pure ⟨rfl, h0⟩))))
theorem act_for {Y : Cx} (hx : Y.xe = fun _ _ => False) (hc : Y.calm = true) {elt tg it : Expr} {ifs : List Expr} {gs : List Comprehension} {sc : Scope} {ps : Pos} {k : Nat} {act : CpAct} (hg : gs[k]? = some ⟨tg, it, ifs, 0⟩) (te : TurnEq (.ListComp elt gs sc ps) k it.pos tg ifs act)
    {wi : TI} {g : TG} {tt : TT} {D : Addr} {vin vs : List Nat} {bd : L2.St → Hp → (Hp → Prop) → Prop} (hi : PI Y tg it wi) (pg : PG Y tg g) (pt : PTs Y ifs tt) (ac : Act Y act (.ref D) vin bd) (hv : ∀ i ∈ vin, i ∈ vs) (hs : ∀ z, foldedSetIterable it Y.env z = pure z) :
    Act Y (aFor (.ListComp elt gs sc ps) k it) (.ref D) vs (bFor wi g tt bd vs) := by
  refine ⟨fun pins s σ H Nx I h kk Q E hk => ?_⟩
  unfold aFor
  refine wpAny_bind (mF hx (hi.run pins s σ H _ I h) fun z s1 h1 => wpAny_bind (wpAny_standAt (wpAny_bind (wpAny_of_eq (hs z) (wpAny_bind (wpAny_holding (mF hx h1 fun zi s2 h2 => ?_)))))))
  obtain ⟨src, fp, tn, J, H2, e, I2, T, st, hf, W, ⟨m0, w0⟩, turn⟩ := h2
  subst e
  refine wpAny_bind (wpAny_runOwn ?_)
  rw [Around.mark_none]
  have loop := clause_loop hx hc te T pg pt ac hv turn (I2.weak (wipe_length _ _) fun j v e => (wipe_some e).1) st hf w0
  refine codeAny_mono (enter_clause hg loop fun Q E q => T.self _ 0 _ _ _ st q) fun r s3 hr => ?_
  obtain ⟨rfl, H3, I3, nx⟩ := hr
  first
    | exact hk s3 H3 I3 nx
    | exact wpAny_pure (hk s3 H3 I3 nx)
    | exact wpAny_bind (wpAny_pure (hk s3 H3 I3 nx))
end Cq
set_option Elab.async false
set_option linter.all false
set_option maxRecDepth 100000
set_option autoImplicit false
set_option maxHeartbeats 4000000
namespace Cq
open PySem L2 PySem.Spec PyProof.Rows
def tLcN (wi : TI) (g : TG) (tt : TT) (bd : Addr → L2.St → Hp → (Hp → Prop) → Prop) (vs : List Nat) : TE := fun σ H Q => wi σ H fun J H1 => ∀ D, H1 D = none → ∃ W : Nat → Nat → Hp → Prop, (∃ m, W 0 m (upd H1 D (.lst []))) ∧ ∀ i m H, W i m H →
  (J.stop i H ∧ Q (.ref D) H) ∨ (J.go i H ∧ ∃ Ny : Hp → Prop, (∀ H', Ny H' → ∃ m', m' < m ∧ W (i + 1) m' H') ∧ ∀ x H', J.yld i H x H' → g x (wipe σ vs) H' fun σ2 H2 => wipe σ2 vs = wipe σ vs ∧ tt σ2 H2 fun b H3 =>
    if b = true then bd D σ2 H3 Ny else Ny H3)
def InBlk (X : Cx) (scope : Scope) (P : Cx → Prop) : Prop := ∀ (s : Shared) (H : Hp) (C : Addr) (cl : List (Str × Addr)) (fp : List Addr), P (X.blk s H scope (compEnvC scope cl C X.env) fp)
theorem pe_lcN {X : Cx} {elt tg iter : Expr} {ifs : List Expr} {gs : List Comprehension} {scope : Scope} {own : List (Str × Nat)} {vin : List Nat} {pos : Pos} {wi : TI} {g : TG} {tt : TT} {act : CpAct} {bd : Addr → L2.St → Hp → (Hp → Prop) → Prop} (hc : X.calm = true) (hN : X.N.Nodup)
    (te : TurnEq (.ListComp elt (⟨tg, iter, ifs, 0⟩ :: gs) scope pos) 0 iter.pos tg ifs act) (hi : PI X tg iter wi) (ok : BlkOk X.N X.env.scope scope own) (hv : ∀ i ∈ vin, i ∈ own.map (·.2))
    (hg : InBlk X scope fun Y => PG Y tg g) (ht : InBlk X scope fun Y => PTs Y ifs tt) (ha : ∀ D, InBlk X scope fun Y => Act Y act (.ref D) vin (bd D)) (hs : ∀ z, foldedSetIterable iter X.env z = pure z := by intro _; rfl) :
    PE X (.ListComp elt (⟨tg, iter, ifs, 0⟩ :: gs) scope pos) (tLcN wi g tt bd (own.map (·.2))) := by
  refine ⟨fun pins s σ H Q I h => ?_⟩
  rw [eval_ListComp]
  have cellOf : ∀ y ∈ scope.names, y.2 = .free → ∃ c, X.env.cells.lookup y.1 = some c := fun y hy e => (ok.free y hy e).elim (fun k => I.ok.has _ (.inl k)) fun k => I.ok.has _ (.inr k)
  refine wpAny_comprehension_free rfl hs (closure_ok cellOf) ok.kind (fun y hy e => by rw [ok.uniq y hy, e]) (thn (hi.run pins s σ H _ I h) fun z u1 hz => thn hz fun zi u2 h2 => ?_)
  obtain ⟨src, fp, tn, J, H2, e, I2, T, st2, f2, q⟩ := h2
  subst e
  refine wpAny_newObj_type (newEnv_comp ?_) (by show 0 ≤ sizeLine; decide)
  generalize hD : u2.heap.objs.size = D
  have fresh : H2 D = none := I2.hok.fresh (Nat.le_of_eq hD)
  obtain ⟨W, ⟨m0, w0⟩, turn⟩ := q D fresh
  generalize hu3 : ({ u2 with heap := u2.heap.push { cls := .type "list", data := .seq ([] : List Value).toArray } } : Shared) = u3
  have hp3 : u3.heap = u2.heap.push { cls := .type "list", data := .seq ([] : List Value).toArray } := by rw [← hu3]
  have I3 : Inv X pins σ (upd H2 D (.lst [])) u3 := by
    rw [← hu3]
    exact I2.laid (t' := u2.toks) (fun _ _ e => Heap.get?_push_of_some _ e) (Nat.le_of_eq hD) ⟨Nat.zero_le _, [], 0, .nil, by rw [← hD]; exact Heap.get?_push_size _ rfl⟩
  have small : ∀ b ∈ fp, b < u2.heap.objs.size := fun b hb => let ⟨_, e, _⟩ := T.obj _ _ st2 b hb; Heap.lt_size e
  have f3 : ∀ b ∈ fp, FpOk X pins (upd H2 D (.lst [])) b ∧ b < u3.heap.objs.size := fun b hb => by
    have l := small b hb
    refine ⟨⟨?_, (f2 b hb).2⟩, by rw [hp3, Heap.size_push]; exact Nat.lt_succ_of_lt l⟩
    rw [upd_ne (by rw [← hD]; exact Nat.ne_of_lt l)]
    exact (f2 b hb).1
  have st3 : tn 0 u3.heap := T.keep _ _ _ st2 fun _ _ _ e => by rw [hp3]; exact Heap.get?_push_of_some _ e
  have I4 := block_start I3 ok hN f3
  generalize hcl : cellsFrom (u3.heap.objs.size + 1) scope.names (cloFrom X.env.cells scope.names []) = cl at I4
  have pg := hg u3 (upd H2 D (.lst [])) u3.heap.objs.size cl fp
  have pt := ht u3 (upd H2 D (.lst [])) u3.heap.objs.size cl fp
  have pa := ha D u3 (upd H2 D (.lst [])) u3.heap.objs.size cl fp
  generalize hu4 : ({ u3 with heap := pushCells (u3.heap.push { cls := .type "dict", data := .dict #[] }) scope.names } : Shared) = u4 at I4
  have st4 : tn 0 u4.heap := T.keep _ _ _ st3 fun _ _ _ e => by rw [← hu4]; exact pushCells_keeps _ _ _ _ (Heap.get?_push_of_some _ e)
  have fb : ∀ b ∈ fp, FpOk (X.blk u3 (upd H2 D (.lst [])) scope (compEnvC scope cl u3.heap.objs.size X.env) fp) [] (upd H2 D (.lst [])) b := fun b hb =>
    ⟨(f3 b hb).1.1, (I4.ok.exf b hb).1, I4.ok.exfs b hb, .inl hb, fun x c e => (I4.ok.exf b hb).2 x c e, fun p hp => absurd (show p ∈ ([] : List (Addr × Obj)) ++ [] from hp) (by simp)⟩
  have loop := clause_loop (Y := X.blk u3 (upd H2 D (.lst [])) scope (compEnvC scope cl u3.heap.objs.size X.env) fp) rfl hc te T pg pt pa hv turn I4 st4 fb w0
  have loop' := codeAny_compStart_list loop (T.self X.A 0 _ _ _ st4 loop)
  subst hcl
  subst hu4
  subst hu3
  refine codeAny_mono loop' fun r u5 hr => ?_
  obtain ⟨rfl, H5, I5, q5⟩ := hr
  have I6 : Inv X pins σ H5 u5 := I3.call' (ch := fp) I5.os I5.base I5.hok I5.bare fun b hb => ⟨(f3 b hb).1.2.2.2.1, (f3 b hb).1.2.1, (f3 b hb).1.2.2.2.2.1, (f3 b hb).1.2.2.2.2.2⟩
  obtain ⟨mm, hn, _⟩ := I5.loc
  have noC := I5.free
  refine ⟨mm, hn, fun h6 sb => ?_⟩
  obtain ⟨f0, f1, f2', f3', f4, f5⟩ := I3.fpOk (Nat.le_refl _) noC
  exact ⟨.ref D, H5, I6.turned (t' := u5.toks) (fun b o hb e => (sb.2 b hb).trans e) f0 f1 f3' f4 f5, rfl, q5⟩
end Cq
set_option Elab.async false
set_option linter.all false
set_option maxRecDepth 100000
set_option autoImplicit false
set_option maxHeartbeats 4000000
namespace Cq
open PySem L2 PySem.Spec PyProof.Rows
section
variable {X : Cx} {tg : Expr}
theorem cr_range1 : CallR X (.type "range") (fun vs H Q => ∃ j, vs = [V.int j] ∧ ∀ p, H p = none → Q (.ref p) (upd H p (.rng 0 j))) := by
  intro pins s σ H vs us Q I r h
  obtain ⟨j, rfl, q⟩ := h
  obtain ⟨u, rfl, ru⟩ := vals1 r
  obtain ⟨t, rfl⟩ := ru
  refine call_range_1 ⟨.ref s.heap.objs.size, upd H s.heap.objs.size (.rng 0 j), I.laid (t' := s.toks + 1 + 1) (fun _ _ e => Heap.get?_push_of_some _ e) (Nat.le_refl _) ?_, rfl, q _ (I.hok.fresh (Nat.le_refl _))⟩
  exact ⟨s.toks, t, s.toks + 1, Heap.get?_push_size _ rfl⟩
def iRg (tl : TE) : TI := fun σ H R => tl σ H fun x H1 => ∃ a j, x = .ref a ∧ H1 a = some (.rng 0 j) ∧ 0 ≤ j ∧ j < 2 ^ 62 ∧ R (Itr 0 j.toNat) H1
theorem pi_rg {l : Expr} {tl : TE} (hl : PE X l tl) : PI X tg l (iRg tl) := by
  refine ⟨fun pins s σ H R I h => thn (hl.run pins s σ H _ I h) fun v s1 ⟨x, H1, I1, r1, a, j, e, ha, j0, j1, q⟩ => ?_⟩
  subst e
  cases r1
  obtain ⟨t, u, v, hg⟩ := I1.hok a _ ha
  refine wpAny_pyIter_range (a := 0) (b := j) (c := 1) (t := t) (u := u) (v := v) hg (small_one (by decide) (by decide) (by omega) j1) ?_
  refine ⟨_, [s1.heap.objs.size], _, _, H1, rfl, I1.kept (t' := s1.toks) fun _ _ e => Heap.get?_push_of_some _ e, turn_range _ 0 j.toNat, ?_, fun b hb => ?_, q⟩
  · have e1 : ((j.toNat : Nat) : Int) - ((0 : Nat) : Int) = Builtin.Range.rangeSize 0 j 1 := by rw [rangeSize_one]; split <;> omega
    show IsRangeIter _ _ (0 + ((0 : Nat) : Int) * 1) _ 1
    rw [e1]
    exact Heap.get?_push_size _ rfl
  · obtain rfl : b = s1.heap.objs.size := by simpa using hb
    exact I1.fpOk (Nat.le_refl _) (I1.hok.fresh (Nat.le_refl _))
end
end Cq
set_option Elab.async false
set_option linter.all false
set_option maxRecDepth 100000
set_option autoImplicit false
set_option maxHeartbeats 4000000
namespace Dn
open PySem L2 Evl PySem.Spec PyProof.Rows
def dNever : DE := fun _ _ => False
theorem je_never {X : Cx} {e : Expr} : JE X e dNever := ⟨fun _ _ _ => False, ⟨fun _ _ _ _ _ _ h => h.elim⟩, fun _ _ _ _ _ _ _ h _ => h.elim⟩
theorem wpLc_cps {g : DG} {tt : DT} {te : DE} {vs : List Nat} {Q : List D → Env → Prop} (P : List D → List D → Env → Prop) {ds : List D} {ρ0 : Env} (h0 : P [] [] ρ0)
    (hs : ∀ (done : List D) (d : D) (rest acc : List D) (ρ : Env) (K : List D → Env → Prop), ds = done ++ d :: rest → P done acc ρ → (∀ acc' ρ', P (done ++ [d]) acc' ρ' → K acc' ρ') →
      acc.length < 16777216 ∧ g d (wipeD ρ vs) fun ρ1 => tt ρ1 fun b ρ2 => if b = true then te ρ2 fun y ρ3 => K (acc ++ [y]) (wipeD ρ3 vs) else K acc (wipeD ρ2 vs))
    (he : ∀ acc ρ, P ds acc ρ → Q acc ρ) : wpLc g tt te vs Q ds [] ρ0 := by
  have aux : ∀ (rest done acc : List D) (ρ : Env), ds = done ++ rest → P done acc ρ → wpLc g tt te vs Q rest acc ρ := by
    intro rest
    induction rest with
    | nil => intro done acc ρ e p; rw [List.append_nil] at e; subst e; exact he acc ρ p
    | cons d rest ih =>
      intro done acc ρ e p
      exact hs done d rest acc ρ _ e p fun acc' ρ' p' => ih (done ++ [d]) acc' ρ' (by rw [e]; simp) p'
  exact aux ds [] [] ρ0 rfl h0
theorem wpLc_map {g : DG} {tt : DT} {te : DE} {vs : List Nat} {Q : List D → Env → Prop} (h : D → D) {ds : List D} {ρ0 : Env} (hl : ds.length < 16777216) (hw : wipeD ρ0 vs = ρ0)
    (hs : ∀ d, d ∈ ds → ∀ (K : D → Env → Prop), (∀ ρ3, wipeD ρ3 vs = ρ0 → K (h d) ρ3) → g d ρ0 fun ρ1 => tt ρ1 fun b ρ2 => if b = true then te ρ2 fun y ρ3 => K y ρ3 else False)
    (hf : ∀ d ρ1, d ∈ ds → tt ρ1 = fun K => K true ρ1) (he : Q (ds.map h) ρ0) : wpLc g tt te vs Q ds [] ρ0 := by
  refine wpLc_cps (fun done acc ρ => acc = done.map h ∧ ρ = ρ0) ⟨rfl, rfl⟩ (fun done d rest acc ρ K e p k => ?_) (fun acc ρ p => by obtain ⟨rfl, rfl⟩ := p; exact he)
  obtain ⟨rfl, rfl⟩ := p
  have hm : d ∈ ds := by rw [e]; simp
  refine ⟨by rw [List.length_map]; have := congrArg List.length e; simp at this; omega, ?_⟩
  rw [hw]
  have z := hs d hm (fun y ρ3 => K (done.map h ++ [y]) (wipeD ρ3 vs)) fun ρ3 w => by rw [w]; exact k _ _ ⟨by simp, rfl⟩
  have e2 : (fun ρ1 => tt ρ1 fun b ρ2 => if b = true then te ρ2 fun y ρ3 => K (done.map h ++ [y]) (wipeD ρ3 vs) else False) = fun ρ1 => tt ρ1 fun b ρ2 => if b = true then te ρ2 fun y ρ3 => K (done.map h ++ [y]) (wipeD ρ3 vs) else K (done.map h) (wipeD ρ2 vs) := by
    funext ρ1
    rw [hf d ρ1 hm]
    simp
  rw [← e2]
  exact z
theorem wpFor_cps {g : DG} {body : DS} {E : DEnds} (P : List D → Env → Prop) {ds : List D} {ρ0 : Env} (h0 : P [] ρ0)
    (hs : ∀ (done : List D) (d : D) (rest : List D) (ρ : Env) (K : Env → Prop), ds = done ++ d :: rest → P done ρ → (∀ ρ', P (done ++ [d]) ρ' → K ρ') → g d ρ fun ρ1 => body { nx := K, ct := K, bk := E.nx, rt := E.rt, er := E.er } ρ1)
    (he : ∀ ρ, P ds ρ → E.nx ρ) : wpFor g body E ds ρ0 := by
  have aux : ∀ (rest done : List D) (ρ : Env), ds = done ++ rest → P done ρ → wpFor g body E rest ρ := by
    intro rest
    induction rest with
    | nil => intro done ρ e p; rw [List.append_nil] at e; subst e; exact he ρ p
    | cons d rest ih =>
      intro done ρ e p
      exact hs done d rest ρ _ e p fun ρ' p' => ih (done ++ [d]) ρ' (by rw [e]; simp) p'
  exact aux ds [] ρ0 rfl h0
theorem wpFor_find {g : DG} {body : DS} {N bk ct : Env → Prop} {Q : D → Prop} {ds : List D} {ρ0 : Env} (f : D → Option D) (I : Env → Prop) (h0 : I ρ0)
    (hs : ∀ d, d ∈ ds → ∀ (ρ : Env) (K B : Env → Prop), I ρ → (∀ v, f d = some v → Q v) → (f d = none → ∀ ρ', I ρ' → K ρ') → g d ρ fun ρ1 => body { nx := K, ct := K, bk := B, rt := fun d _ => Q d } ρ1)
    (hf : ∀ v, ds.findSome? f = some v → Q v) (hn : ds.findSome? f = none → ∀ ρ, I ρ → N ρ) : wpFor g body { nx := N, rt := fun d _ => Q d, bk := bk, ct := ct } ds ρ0 := by
  induction ds generalizing ρ0 with
  | nil => exact hn rfl ρ0 h0
  | cons d ds ih =>
    refine hs d List.mem_cons_self ρ0 _ _ h0 (fun v e => hf v ?_) (fun e ρ' i => ih i (fun d hd => hs d (List.mem_cons_of_mem _ hd)) (fun v h => hf v ?_) fun h => hn ?_)
    · rw [List.findSome?_cons, e]
    · rw [List.findSome?_cons, e]; exact h
    · rw [List.findSome?_cons, e]; exact h
def tI (ns : List Int) : D := .tuple (ns.map PyData.int)
def tR (rs : List (List Int)) : D := .tuple (rs.map tI)
theorem eqvAll_int : ∀ (a b : List Int), PyData.eqvAll (a.map PyData.int) (b.map PyData.int) = decide (a = b)
  | [], [] => by simp [PyData.eqvAll]
  | [], _ :: _ => by simp [PyData.eqvAll]
  | _ :: _, [] => by simp [PyData.eqvAll]
  | x :: a, y :: b => by
    simp only [List.map_cons, PyData.eqvAll, PyData.eqv, eqvAll_int a b]
    by_cases h : x = y <;> simp [h]
theorem eqv_tI (a b : List Int) : PyData.eqv (tI a) (tI b) = decide (a = b) := by unfold tI; simp only [PyData.eqv, eqvAll_int]
theorem eqvAll_tI : ∀ (a b : List (List Int)), PyData.eqvAll (a.map tI) (b.map tI) = decide (a = b)
  | [], [] => by simp [PyData.eqvAll]
  | [], _ :: _ => by simp [PyData.eqvAll]
  | _ :: _, [] => by simp [PyData.eqvAll]
  | x :: a, y :: b => by
    simp only [List.map_cons, PyData.eqvAll, eqv_tI, eqvAll_tI a b]
    by_cases h : x = y <;> simp [h]
theorem eqv_tR (a b : List (List Int)) : PyData.eqv (tR a) (tR b) = decide (a = b) := by unfold tR; simp only [PyData.eqv, eqvAll_tI]
theorem layAll_int : ∀ (a : List Int), PyData.canLayAll0 (a.map PyData.int) = true ∧ PyData.depthAll (a.map PyData.int) = 0
  | [] => by simp [PyData.canLayAll0, PyData.depthAll]
  | x :: a => by simp [PyData.canLayAll0, PyData.canLay0, PyData.depthAll, PyData.depth, layAll_int a]
theorem lay_tI (a : List Int) : (tI a).canLay0 = true ∧ (tI a).depth = 1 := by
  unfold tI; simp [PyData.canLay0, PyData.depth, layAll_int a]
theorem shaped_tI (a : List Int) : SeqAt.shaped (tI a) = true := by
  unfold SeqAt.shaped; simp [lay_tI a]
theorem layAll_tI : ∀ (a : List (List Int)), PyData.canLayAll0 (a.map tI) = true ∧ PyData.depthAll (a.map tI) ≤ 1
  | [] => by simp [PyData.canLayAll0, PyData.depthAll]
  | x :: a => by
    have h := layAll_tI a
    have h2 := lay_tI x
    simp [PyData.canLayAll0, PyData.depthAll, h2.1, h2.2, h.1]
    omega
theorem shaped_tR (a : List (List Int)) : SeqAt.shaped (tR a) = true := by
  have h := layAll_tI a
  unfold SeqAt.shaped tR
  simp [PyData.canLay0, PyData.depth, h.1]
  omega
theorem shaped_int (i : Int) : SeqAt.shaped (.int i) = true := rfl
theorem atI_in {α : Type} {l : List α} {i : Int} {d : α} (h0 : 0 ≤ i) (h1 : i < l.length) : atI l i = some (l.getD i.toNat d) := by
  unfold atI ixN
  rw [if_pos h0, if_pos h1]
  have h2 : i.toNat < l.length := by omega
  simp [List.getD, List.getElem?_eq_getElem h2]
theorem ixI {r : List Int} {i : Int} {Q : D → Prop} (h0 : 0 ≤ i) (h1 : i < r.length) (h : Q (.int (r.getD i.toNat 0))) : dIx (tI r) (.int i) Q := by
  refine ⟨_, atI_in (d := .int 0) h0 (by simpa using h1), ?_⟩
  have h2 : i.toNat < r.length := by omega
  simp [List.getD, List.getElem?_eq_getElem h2] at h ⊢
  exact h
theorem ixR {r : List (List Int)} {i : Int} {Q : D → Prop} (h0 : 0 ≤ i) (h1 : i < r.length) (h : Q (tI (r.getD i.toNat []))) : dIx (tR r) (.int i) Q := by
  refine ⟨_, atI_in (d := tI []) h0 (by simpa using h1), ?_⟩
  have h2 : i.toNat < r.length := by omega
  simp [List.getD, List.getElem?_eq_getElem h2] at h ⊢
  exact h
theorem seq_tI (r : List Int) : seqD (tI r) = some (r.map PyData.int) := rfl
theorem seq_tR (r : List (List Int)) : seqD (tR r) = some (r.map tI) := rfl
structure Rw (rs : List (List Int)) : Prop where
  pos : 1 ≤ rs.length
  most : rs.length ≤ 24
  row : ∀ r, r ∈ rs → r.length = rs.length ∧ ∀ x, x ∈ r → 0 ≤ x ∧ x < rs.length
theorem getD_mem {α : Type} {l : List α} {i : Nat} {d : α} (h : i < l.length) : l.getD i d ∈ l := by
  simp [List.getD, List.getElem?_eq_getElem h]
theorem Rw.len {rs : List (List Int)} (h : Rw rs) {a : Int} (a0 : 0 ≤ a) (a1 : a < rs.length) : (rs.getD a.toNat []).length = rs.length := (h.row _ (getD_mem (by omega))).1
def rgI (n : Nat) : List Int := (List.range n).map fun (k : Nat) => (k : Int)
theorem rgD_rgI (n : Nat) : rgD 0 (n : Int) = (rgI n).map PyData.int := by
  unfold rgD rgI
  simp
theorem mem_rgI {n : Nat} {x : Int} : x ∈ rgI n ↔ 0 ≤ x ∧ x < n := by
  unfold rgI
  simp only [List.mem_map, List.mem_range]
  constructor
  · rintro ⟨k, h, rfl⟩; omega
  · rintro ⟨h0, h1⟩; exact ⟨x.toNat, by omega, by omega⟩
theorem rgI_len (n : Nat) : (rgI n).length = n := by unfold rgI; simp
theorem rgI_get {n k : Nat} (h : k < n) : (rgI n)[k]? = some (k : Int) := by unfold rgI; simp [h]
end Dn
set_option Elab.async false
set_option linter.all false
set_option maxRecDepth 100000
set_option autoImplicit false
set_option maxHeartbeats 4000000
namespace Dn
open PySem L2 Evl Cq PyProof.Rows
def t3 (n : Nat) : List (Int × Int × Int) := (rgI n).flatMap fun x => (rgI n).flatMap fun y => (rgI n).map fun z => (x, y, z)
def tT (t : Int × Int × Int) : D := .tuple [.int t.1, .int t.2.1, .int t.2.2]
def vT (t : Int × Int × Int) : HO := .tup [.int t.1, .int t.2.1, .int t.2.2]
theorem flat_len {α β : Type} (l : List α) (f : α → List β) (k : Nat) (h : ∀ a, a ∈ l → (f a).length = k) : (l.flatMap f).length = l.length * k := by
  induction l with
  | nil => simp
  | cons a l ih =>
    rw [List.flatMap_cons, List.length_append, h a (by simp), ih fun b hb => h b (by simp [hb]), List.length_cons, Nat.succ_mul, Nat.add_comm]
theorem rgI_succ (n : Nat) : rgI (n + 1) = rgI n ++ [(n : Int)] := by
  unfold rgI
  rw [List.range_succ, List.map_append]
  rfl
theorem mem_t3 {n : Nat} {t : Int × Int × Int} : t ∈ t3 n ↔ (0 ≤ t.1 ∧ t.1 < n) ∧ (0 ≤ t.2.1 ∧ t.2.1 < n) ∧ 0 ≤ t.2.2 ∧ t.2.2 < n := by
  unfold t3
  simp only [List.mem_flatMap, List.mem_map, mem_rgI]
  constructor
  · rintro ⟨x, hx, y, hy, z, hz, rfl⟩; exact ⟨hx, hy, hz⟩
  · rintro ⟨hx, hy, hz⟩; exact ⟨t.1, hx, t.2.1, hy, t.2.2, hz, rfl⟩
theorem pair_app {α β : Type} {R : α → β → Prop} : ∀ {a c : List α} {b d : List β}, Paired R a b → Paired R c d → Paired R (a ++ c) (b ++ d)
  | _, _, _, _, .nil, q => q
  | _, _, _, _, .cons h p, q => .cons h (pair_app p q)
def Tri (H1 H : Hp) (L : Addr) (ts : List (Int × Int × Int)) : Prop := Ex H1 H ∧ ∃ us, H L = some (.lst us) ∧ Paired (fun (t : Int × Int × Int) (u : V) => ∃ a, u = .ref a ∧ a ≠ L ∧ H1 a = none ∧ H a = some (vT t)) ts us
theorem Tri.snoc {H1 H : Hp} {L q : Addr} {ts : List (Int × Int × Int)} (h : Tri H1 H L ts) (hL : H1 L = none) (hq : H q = none) (t : Int × Int × Int) : ∃ us, upd H q (vT t) L = some (.lst us) ∧ us.length = ts.length ∧ Tri H1 (upd (upd H q (vT t)) L (.lst (us ++ [.ref q]))) L (ts ++ [t]) := by
  obtain ⟨e, us, hl, hp⟩ := h
  have qL : q ≠ L := fun z => by rw [z, hl] at hq; cases hq
  refine ⟨us, by rw [upd_ne qL.symm]; exact hl, hp.length.symm, ?_, us ++ [.ref q], upd_same, ?_⟩
  · intro a o w
    rw [upd_ne (fun z => by rw [z, hL] at w; cases w), upd_ne (fun z => by rw [← z, e a o w] at hq; cases hq)]
    exact e a o w
  · refine pair_app (Paired.mapP hp fun s u z => ?_) (.cons ⟨q, rfl, qL, ?_, by rw [upd_ne qL, upd_same]⟩ .nil)
    · obtain ⟨a, e1, e2, e3, e4⟩ := z
      exact ⟨a, e1, e2, e3, by rw [upd_ne e2, upd_ne (fun z => by rw [← z, e4] at hq; cases hq)]; exact e4⟩
    · cases w : H1 q with
      | none => rfl
      | some o => rw [e q o w] at hq; cases hq
def g3 : DS := fun E ρ => ∃ n : Nat, ρ = [some (.im (.int n)), none, none, none, none] ∧ n ≤ 60 ∧ E.rt (.list ((t3 n).map tT)) ρ
theorem tri_step {H1 H : Hp} {L : Addr} {ts : List (Int × Int × Int)} (h : Tri H1 H L ts) (hL : H1 L = none) (hl : ts.length < 16777216) {x y z : Int} {σ : L2.St} (e2 : σ[2]? = some (some (.int x))) (e3 : σ[3]? = some (some (.int y))) (e4 : σ[4]? = some (some (.int z))) {Nx : Hp → Prop} (k : ∀ H', Tri H1 H' L (ts ++ [(x, y, z)]) → Nx H') :
    bApp L (tTup (tCons (tVar 2) (tCons (tVar 3) (tCons (tVar 4) tNil)))) σ H Nx := by
  refine ⟨_, e2, _, e3, _, e4, by show 3 ≤ sizeLine; decide, fun q hq => ?_⟩
  obtain ⟨us, h1, h2, h3⟩ := h.snoc hL hq (x, y, z)
  exact ⟨us, h1, by rw [h2, sizeLine_eq]; exact hl, k _ h3⟩
theorem clause_W {i : Nat} {bd : L2.St → Hp → (Hp → Prop) → Prop} {vs : List Nat} {H1 : Hp} {L : Addr} {n : Nat} (f : Int → List (Int × Int × Int)) {ts : List (Int × Int × Int)} {σ : L2.St} {H : Hp} {Nx : Hp → Prop}
    (hw : ∀ x : V, wipe ((wipe σ vs).set i (some x)) vs = wipe σ vs)
    (hb : ∀ (x : Nat) (us : List (Int × Int × Int)) (H' : Hp) (Ny : Hp → Prop), x < n → Tri H1 H' L us → us = ts ++ (rgI x).flatMap f → (∀ H2, Tri H1 H2 L (us ++ f x) → Ny H2) → bd ((wipe σ vs).set i (some (.int x))) H' Ny)
    (h : Tri H1 H L ts) (k : ∀ H', Tri H1 H' L (ts ++ (rgI n).flatMap f) → Nx H') :
    ∃ W : Nat → Nat → Hp → Prop, (∃ m, W 0 m H) ∧ ∀ j m H, W j m H → ((Itr 0 (n : Int).toNat).stop j H ∧ Nx H) ∨ ((Itr 0 (n : Int).toNat).go j H ∧ ∃ Ny : Hp → Prop, (∀ H', Ny H' → ∃ m', m' < m ∧ W (j + 1) m' H') ∧ ∀ x H', (Itr 0 (n : Int).toNat).yld j H x H' →
      gName i x (wipe σ vs) H' fun σ2 H2 => wipe σ2 vs = wipe σ vs ∧ tYes σ2 H2 fun b H3 => if b = true then bd σ2 H3 Ny else Ny H3) := by
  refine ⟨fun j m H' => m = n - j ∧ j ≤ n ∧ Tri H1 H' L (ts ++ (rgI j).flatMap f), ⟨n, by simp, Nat.zero_le _, by simpa [rgI] using h⟩, ?_⟩
  rintro j m H' ⟨rfl, hj, t⟩
  by_cases l : j < n
  · refine .inr ⟨by show j < (n : Int).toNat; omega, fun H2 => Tri H1 H2 L (ts ++ (rgI (j + 1)).flatMap f), fun H2 q => ⟨n - (j + 1), by omega, rfl, l, q⟩, fun x H2 y => ?_⟩
    obtain ⟨rfl, rfl⟩ := y
    refine ⟨hw _, ?_⟩
    show bd _ _ _
    rw [Int.zero_add]
    refine hb j _ _ _ l t rfl fun H3 q => ?_
    rw [rgI_succ, List.flatMap_append, ← List.append_assoc]
    simpa using q
  · have e : j = n := by omega
    subst e
    exact .inl ⟨by show (j : Int).toNat ≤ j; omega, k _ t⟩
theorem clause_ok {tl : TE} {i : Nat} {bd : L2.St → Hp → (Hp → Prop) → Prop} {vs : List Nat} {H1 : Hp} {L p : Addr} {n : Nat} (f : Int → List (Int × Int × Int)) {ts : List (Int × Int × Int)} {σ : L2.St} {H : Hp} {Nx : Hp → Prop} (hp : H1 p = some (.rng 0 n)) (hn : n < 100)
    (ht : ∀ (H' : Hp) (Q : VK), Q (.ref p) H' → tl σ H' Q) (hw : ∀ x : V, wipe ((wipe σ vs).set i (some x)) vs = wipe σ vs)
    (hb : ∀ (x : Nat) (us : List (Int × Int × Int)) (H' : Hp) (Ny : Hp → Prop), x < n → Tri H1 H' L us → us = ts ++ (rgI x).flatMap f → (∀ H2, Tri H1 H2 L (us ++ f x) → Ny H2) → bd ((wipe σ vs).set i (some (.int x))) H' Ny)
    (h : Tri H1 H L ts) (k : ∀ H', Tri H1 H' L (ts ++ (rgI n).flatMap f) → Nx H') : bFor (iRg tl) (gName i) tYes bd vs σ H Nx :=
  ht H _ ⟨p, n, rfl, h.1 _ _ hp, by omega, by omega, clause_W f hw hb h k⟩
theorem flat_one {α β : Type} (l : List α) (f : α → β) : (l.flatMap fun a => [f a]) = l.map f := by
  induction l with
  | nil => rfl
  | cons a l ih => rw [List.flatMap_cons, ih]; rfl
theorem tri_rp {K : PySem.W.Frag} {O : Addr → Prop} {H1 H : Hp} {L : Addr} (hO : ∀ a, O a → H1 a ≠ none) : ∀ {ts : List (Int × Int × Int)} {us : List V}, Paired (fun (t : Int × Int × Int) (u : V) => ∃ a, u = .ref a ∧ a ≠ L ∧ H1 a = none ∧ H a = some (vT t)) ts us → RpAll K (hide O H) us (ts.map tT)
  | _, _, .nil => .nil
  | _, _, .cons ⟨a, e, _, e1, e2⟩ r => by
    subst e
    exact .cons (.tup (hide_some.2 ⟨fun w => hO a w e1, e2⟩) (.cons (.int _) (.cons (.int _) (.cons (.int _) .nil)))) (tri_rp hO r)
section
variable {X : Cx}
theorem jss_threes {sc : Scope} {q1 q2 q3 q4 q5 p2 p3 p4 p5 p6 p7 p8 p9 pa pb pc pd : Pos} {kk} (hc : X.calm = true) (hN : X.N.Nodup) (h0 : X.N = (["size", "letters", "x", "y", "z"] : List Str)) (hm : X.mg "range" = none) (hg : Gl X "range")
    (v0 : Vis X.env.scope "size") (l1 : Loc X.env.scope "letters") (f1 : X.fn "letters" = true ∨ X.env.scope.names.lookup ("letters" : Str) = some .local) (v1 : Vis X.env.scope "letters") (ok : BlkOk X.N X.env.scope sc [("x", 2), ("y", 3), ("z", 4)])
    (pi1 : InBlk X sc fun Y => PE Y (.Name "letters" p5) (tVar 1)) (pi2 : InBlk X sc fun Y => PE Y (.Name "letters" p7) (tVar 1))
    (gx : InBlk X sc fun Y => PG Y (.Name "x" p2) (gName 2)) (gy : InBlk X sc fun Y => PG Y (.Name "y" p4) (gName 3)) (gz : InBlk X sc fun Y => PG Y (.Name "z" p6) (gName 4))
    (el : InBlk X sc fun Y => PE Y (.Tuple [.Name "x" p8, .Name "y" p9, .Name "z" pa] kk pb) (tTup (tCons (tVar 2) (tCons (tVar 3) (tCons (tVar 4) tNil)))))
    (hs : swapsWith (.Call (.Name "range" q2) [.Name "size" q3] [] q4) (some (.Name "letters" q1)) q5.line X.env = pure false)
    (hst : starEach [.Name "size" q3] X.env = (false, eval (.Name "size" q3) X.env) :: starEach [] X.env) (hpl : (backTo q4 (starEach [] X.env)).any (·.1) = false) :
    JSs X [.Assign [.Name "letters" q1] (.Call (.Name "range" q2) [.Name "size" q3] [] q4) q5, .Return (some (.ListComp (.Tuple [.Name "x" p8, .Name "y" p9, .Name "z" pa] kk pb) [⟨.Name "x" p2, .Name "letters" p3, [], 0⟩, ⟨.Name "y" p4, .Name "letters" p5, [], 0⟩, ⟨.Name "z" p6, .Name "letters" p7, [], 0⟩] sc pc)) pd] g3 := by
  have n0 : X.N[0]? = some ("size" : Str) := by rw [h0]; rfl
  have n1 : X.N[1]? = some ("letters" : Str) := by rw [h0]; rfl
  have a1 : PS X (.Assign [.Name "letters" q1] (.Call (.Name "range" q2) [.Name "size" q3] [] q4) q5) _ := ps_set (i := 1) hN n1 l1 (pe_callTy cr_range1 hg hm boot_range (pa_cons (pe_var (i := 0) n0 v0) pa_nil hst) (by decide) (by decide) hst hpl) hs f1
  have acts : ∀ D, InBlk X sc fun Y => Act Y (aFor (.ListComp (.Tuple [.Name "x" p8, .Name "y" p9, .Name "z" pa] kk pb) [⟨.Name "x" p2, .Name "letters" p3, [], 0⟩, ⟨.Name "y" p4, .Name "letters" p5, [], 0⟩, ⟨.Name "z" p6, .Name "letters" p7, [], 0⟩] sc pc) 1 (.Name "letters" p5)) (.ref D) [3, 4]
      (bFor (iRg (tVar 1)) (gName 3) tYes (bFor (iRg (tVar 1)) (gName 4) tYes (bApp D (tTup (tCons (tVar 2) (tCons (tVar 3) (tCons (tVar 4) tNil))))) [4]) [3, 4]) := fun D s H C cl fp => by
    have e1 := el s H C cl fp
    have y1 := pi1 s H C cl fp
    have y2 := pi2 s H C cl fp
    have z1 := gy s H C cl fp
    have z2 := gz s H C cl fp
    generalize hY : X.blk s H sc (compEnvC sc cl C X.env) fp = Y at e1 y1 y2 z1 z2
    have x1 : Y.xe = fun _ _ => False := by rw [← hY]
    have x2 : Y.calm = true := by rw [← hY]; exact hc
    exact act_for x1 x2 rfl turn3_1 (pi_rg (tg := .Name "y" p4) y1) z1 pts_nil (act_for x1 x2 rfl turn3_2 (pi_rg (tg := .Name "z" p6) y2) z2 pts_nil (act_app x1 e1) (by intro i hi; cases hi) (fun _ => rfl)) (by intro i hi; simp at hi ⊢; exact .inr hi) (fun _ => rfl)
  have a2 := pe_lcN (X := X) (pos := pc) (own := [("x", 2), ("y", 3), ("z", 4)]) (vin := [3, 4]) (act := aFor _ 1 (.Name "letters" p5))
    (bd := fun D => bFor (iRg (tVar 1)) (gName 3) tYes (bFor (iRg (tVar 1)) (gName 4) tYes (bApp D (tTup (tCons (tVar 2) (tCons (tVar 3) (tCons (tVar 4) tNil))))) [4]) [3, 4]) (wi := iRg (tVar 1)) (g := gName 2) (tt := tYes)
    hc hN turn3_0 (pi_rg (tg := .Name "x" p2) (pe_var (i := 1) (pos := p3) n1 v1)) ok (by decide) gx (fun _ _ _ _ _ => pts_nil)
    acts (fun _ => rfl)
  refine ⟨_, pss_cons a1 (pss_one (ps_ret a2)), fun T ρ σ H E D r h k => ?_⟩
  obtain ⟨n, rfl, hn, h⟩ := h
  obtain ⟨v, s0, rv⟩ := r.im 0 _ rfl
  cases rv
  refine ⟨_, s0, _, rfl, fun p hp => ?_⟩
  have len : σ.length = 5 := by rw [← r.len]; rfl
  obtain ⟨b0, b1, b2, b3, b4, rfl⟩ : ∃ b0 b1 b2 b3 b4, σ = [b0, b1, b2, b3, b4] := by
    match σ, len with
    | [b0, b1, b2, b3, b4], _ => exact ⟨_, _, _, _, _, rfl⟩
  simp at s0
  subst s0
  have e1 := Ex.new (o := .rng 0 n) hp
  refine ⟨_, rfl, p, n, rfl, upd_same, by omega, by omega, fun L hL => ?_⟩
  have lP : upd H p (.rng 0 n) p = some (.rng 0 n) := upd_same
  refine clause_W (i := 2) (vs := [2, 3, 4]) (H1 := upd H p (.rng 0 n)) (L := L) (n := n) (σ := [some (.int n), some (.ref p), b2, b3, b4])
    (bd := bFor (iRg (tVar 1)) (gName 3) tYes (bFor (iRg (tVar 1)) (gName 4) tYes (bApp L (tTup (tCons (tVar 2) (tCons (tVar 3) (tCons (tVar 4) tNil))))) [4]) [3, 4])
    (fun x => (rgI n).flatMap fun y => (rgI n).map fun z => (x, y, z)) (ts := []) (Nx := fun H' => D.rt (.ref L) H') (fun x => rfl) (fun x us H' Ny hx t e k1 => ?_) ⟨Ex.new hL, [], upd_same, .nil⟩ (fun H' t => ?_)
  · have cap : ∀ us : List (Int × Int × Int), us.length ≤ n * (n * n) → us.length < 16777216 := fun us l => by
      have a := Nat.mul_le_mul hn (Nat.mul_le_mul hn hn)
      omega
    refine clause_ok (p := p) (n := n) (fun y => (rgI n).map fun z => ((x : Int), y, z)) lP (by omega) (fun H' Q q => ⟨_, rfl, q⟩) (fun x => rfl) (fun y us2 H2 Nz hy t2 e2 k2 => ?_) t k1
    refine clause_ok (p := p) (n := n) (fun z => [((x : Int), (y : Int), z)]) lP (by omega) (fun H' Q q => ⟨_, rfl, q⟩) (fun x => rfl) (fun z us3 H3 Nw hz t3' e3 k3 => ?_) t2 (fun H3 q => k2 H3 (by rw [← flat_one]; exact q))
    refine tri_step t3' hL (cap _ ?_) rfl rfl rfl k3
    have c1 : us.length = x * (n * n) := by
      rw [e, List.nil_append, flat_len _ _ (n * n) fun a _ => ?_, rgI_len]
      rw [flat_len _ _ n fun b _ => by rw [List.length_map, rgI_len], rgI_len]
    have c2 : us2.length = us.length + y * n := by
      rw [e2, List.length_append, flat_len _ _ n fun b _ => by rw [List.length_map, rgI_len], rgI_len]
    have c3 : us3.length = us2.length + z := by
      rw [e3, List.length_append, flat_len _ _ 1 fun b _ => rfl, rgI_len, Nat.mul_one]
    have h1 : (x + 1) * (n * n) ≤ n * (n * n) := Nat.mul_le_mul_right _ hx
    have h2 : (y + 1) * n ≤ n * n := Nat.mul_le_mul_right _ hy
    rw [Nat.succ_mul] at h1 h2
    omega
  · obtain ⟨eX, us, hl, hp3⟩ := t
    rw [List.nil_append] at hp3
    have eX' : Ex H H' := e1.trans eX
    have lN : H L = none := by
      cases w : H L with
      | none => rfl
      | some o => rw [e1 L o w] at hL; cases hL
    have r2 := (r.grow eX').congr (σ' := [some (.int n), some (.ref p), b2, b3, b4]) rfl (fun i sv w => by
      match i, w with
      | 0, _ => rfl
      | 1, w => cases w
      | 2, w => cases w
      | 3, w => cases w
      | 4, w => cases w
      | i + 5, w => simp at w)
    have noO : ∀ a, Hd T [some (.im (.int n)), none, none, none, none] [some (.int n), some (.ref p), b2, b3, b4] a → upd H p (.rng 0 n) a ≠ none := fun a w => by
      rcases w with w | ⟨i, m, w, _⟩
      · have := (r.dom a w).1
        cases q : H a with
        | none => exact absurd q this
        | some o => rw [e1 a o q]; simp
      · match i, w with
        | 0, w => cases w
        | 1, w => cases w
        | 2, w => cases w
        | 3, w => cases w
        | 4, w => cases w
        | i + 5, w => simp at w
    have po : Po [some (.im (.int n)), none, none, none, none] [some (.int n), b1, b2, b3, b4] H [some (.im (.int n)), none, none, none, none] [some (.int n), some (.ref p), b2, b3, b4] H' := ⟨fun a o _ w => eX' a o w, fun a ⟨i, m, w, _⟩ => by
      match i, w with
      | 0, w => cases w
      | 1, w => cases w
      | 2, w => cases w
      | 3, w => cases w
      | 4, w => cases w
      | i + 5, w => simp at w, fun a w => by
      cases q : H a with
      | none => exact absurd q w
      | some o => rw [eX' a o q]; simp⟩
    exact k.rt _ _ _ _ _ r2 po (.lst (hide_some.2 ⟨fun w => noO L w hL, hl⟩) (tri_rp noO hp3)) h
end
end Dn
set_option Elab.async false
set_option linter.all false
set_option maxRecDepth 100000
set_option autoImplicit false
set_option maxHeartbeats 4000000
namespace Dn
open PySem L2 Evl
inductive NL : D → Prop
  | non : NL .none
  | bl (b : Bool) : NL (.bool b)
  | int (i : Int) : NL (.int i)
  | str (x : Str) : NL (.str x)
  | tup {ds : List D} : (∀ d, d ∈ ds → NL d) → NL (.tuple ds)
inductive PL : D → Prop
  | nl {d : D} : NL d → PL d
  | lst {ds : List D} : (∀ d, d ∈ ds → PL d) → PL (.list ds)
def notL : D → Prop
  | .list _ => False
  | _ => True
inductive Ch (es : List D) : D → D → Prop
  | nl {d : D} : NL d → Ch es d d
  | repl {ds : List D} : (∀ d, d ∈ ds → notL d) → es.length = ds.length → Ch es (.list ds) (.list es)
  | lst {ds ds' : List D} : ds'.length = ds.length → (∀ (i : Nat) (d d' : D), ds[i]? = some d → ds'[i]? = some d' → Ch es d d') → Ch es (.list ds) (.list ds')
section
variable {K : PySem.W.Frag} {T B : Addr → Prop} {p : Addr} {ρ ρ1 ρ' : Env} {σ σ1 : L2.St} {H H1 H' G G' : Hp}
theorem NL.notL {d : D} (h : NL d) : notL d := by cases h <;> trivial
structure Fr (p : Addr) (ρ : Env) : Prop where
  dice : ∃ a b c : Int, ρ[0]? = some (some (.ow (.par p (.lst [.int a, .int b, .int c]))))
  rest : ∀ (i : Nat) (sv : SV), ρ[i]? = some (some sv) → i ≠ 0 → ∃ d, sv = .im d ∧ PL d
structure Qs (K : PySem.W.Frag) (T B : Addr → Prop) (p : Addr) (ρ : Env) (σ : L2.St) (H : Hp) : Prop where
  rs : RS K T ρ σ H
  fr : Fr p ρ
  lists : ∀ a xs, ¬ T a → a ≠ p → H a = some (.lst xs) → B a
  new : ∀ a, H a = none → B a
theorem Qs.at0 (q : Qs K T B p ρ σ H) : σ[0]? = some (some (.ref p)) := by
  obtain ⟨a, b, c, h⟩ := q.fr.dice
  obtain ⟨x, o, h1, _⟩ := q.rs.ow 0 _ h
  rw [h1, q.rs.tag 0 p _ x h h1]
theorem Qs.own (q : Qs K T B p ρ σ H) {a : Addr} : Own ρ σ a ↔ a = p := by
  constructor
  · rintro ⟨i, m, h1, h2⟩
    by_cases e : i = 0
    · subst e; rw [q.at0] at h2; cases h2; rfl
    · obtain ⟨d, z, _⟩ := q.fr.rest i _ h1 e
      cases z
  · rintro rfl
    obtain ⟨a, b, c, h⟩ := q.fr.dice
    exact ⟨0, _, h, q.at0⟩
theorem Qs.hd (q : Qs K T B p ρ σ H) {a : Addr} : Hd T ρ σ a ↔ T a ∨ a = p := by unfold Hd; rw [q.own]
theorem Qs.step (q : Qs K T B p ρ σ H) (r : RS K T ρ1 σ1 H1) (po : Po ρ σ H ρ1 σ1 H1) (f : Fr p ρ1) : Qs K T B p ρ1 σ1 H1 := by
  refine ⟨r, f, fun a xs t n h => ?_, fun a h => ?_⟩
  · cases w : H a with
    | none => exact q.new a w
    | some o =>
      have := po.keep a o (fun z => n (q.own.1 z)) w
      rw [h] at this; cases this
      exact q.lists a xs t n w
  · cases w : H a with
    | none => exact q.new a w
    | some o => exact absurd h (po.dom a (by rw [w]; simp))
structure Kp (B : Addr → Prop) (p : Addr) (H H' : Hp) : Prop where
  keep : ∀ a o, a ≠ p → ¬ B a → H a = some o → H' a = some o
  dom : ∀ a, H a ≠ none → H' a ≠ none
theorem Kp.refl {B : Addr → Prop} {p : Addr} : Kp B p H H := ⟨fun _ _ _ _ h => h, fun _ h => h⟩
theorem Kp.trans {B : Addr → Prop} {p : Addr} {H2 : Hp} (a : Kp B p H H1) (b : Kp B p H1 H2) : Kp B p H H2 := ⟨fun x o n m h => b.keep x o n m (a.keep x o n m h), fun x h => b.dom x (a.dom x h)⟩
theorem Qs.kp (q : Qs K T B p ρ σ H) (po : Po ρ σ H ρ1 σ1 H1) : Kp B p H H1 := ⟨fun a o n _ h => po.keep a o (fun z => n (q.own.1 z)) h, po.dom⟩
structure EndB (K : PySem.W.Frag) (T B : Addr → Prop) (p : Addr) (H : Hp) (E : DEnds) (D : Ends) : Prop where
  nx : ∀ ρ' σ' H', Qs K T B p ρ' σ' H' → Kp B p H H' → E.nx ρ' → D.nx σ' H'
  rt : ∀ d ρ' σ' v H', Qs K T B p ρ' σ' H' → Kp B p H H' → Rp K (hide (Hd T ρ' σ') H') v d → E.rt d ρ' → D.rt v H'
theorem EndB.step {E : DEnds} {D : Ends} (e : EndB K T B p H E D) (k : Kp B p H H1) : EndB K T B p H1 E D := ⟨fun a b c q k2 => e.nx a b c q (k.trans k2), fun a b c d f q k2 => e.rt a b c d f q (k.trans k2)⟩
theorem Ch.pl {es : List D} (ne : ∀ d, d ∈ es → NL d) {d d' : D} (p : PL d) (c : Ch es d d') : PL d' := by
  induction p generalizing d' with
  | nl n => cases c with
    | nl _ => exact .nl n
    | repl _ _ => cases n
    | lst _ _ => cases n
  | @lst ds _ ih => cases c with
    | nl n => cases n
    | repl _ _ => exact .lst fun d hd => .nl (ne d hd)
    | @lst _ ds' l h =>
      refine .lst fun d hd => ?_
      obtain ⟨i, hi⟩ := List.mem_iff_getElem?.mp hd
      have il : i < ds.length := by rw [← l]; exact (List.getElem?_eq_some_iff.mp hi).1
      exact ih ds[i] (List.getElem_mem il) (h i _ _ (List.getElem?_eq_getElem il) hi)
def L1 (d : D) : Prop := ∃ es, d = .list es ∧ ∀ e, e ∈ es → NL e
end
def sB (f : DS) : DS := fun E ρ => ∀ p, Fr p ρ → f { nx := fun ρ' => Fr p ρ' ∧ E.nx ρ', rt := fun d ρ' => Fr p ρ' ∧ E.rt d ρ' } ρ
section
variable {X : Cx} {V : D → Prop} {a b c e : Expr} {es : List Expr} {fa fb fc : DE} {pos ps px : Pos} {x y : Str} {st : Stmt} {sts : List Stmt} {f g : DS}
end
end Dn
set_option Elab.async false
set_option linter.all false
set_option maxRecDepth 100000
set_option autoImplicit false
set_option maxHeartbeats 4000000
namespace Dn
open PySem L2 Evl
section
variable {X : Cx} {es : List Expr} {pos : Pos}
def gTpL (n : Nat) (gs : List D → Env → (Env → Prop) → Prop) : DG := fun d ρ Q => match d with
  | .list ds => ds.length = n ∧ gs ds ρ Q
  | _ => False
end
end Dn
set_option Elab.async false
set_option linter.all false
set_option maxRecDepth 100000
set_option autoImplicit false
set_option maxHeartbeats 4000000
namespace Dn
open PySem L2 Evl
def isTupD : D → Prop
  | .tuple _ => True
  | _ => False
inductive NA : D → Prop
  | nl {d : D} : NL d → NA d
  | lst {e : D} {ds : List D} : ¬ isTupD e → NA e → (∀ d, d ∈ ds → NA d) → NA (.list (e :: ds))
section
variable {K : PySem.W.Frag} {G G' : Hp}
theorem NA.pl {d : D} (h : NA d) : PL d := by
  induction h with
  | nl n => exact .nl n
  | lst _ _ _ ih1 ih2 => exact PL.lst (fun d hd => (List.mem_cons.mp hd).elim (fun z => by rw [z]; exact ih1) (ih2 d))
end
section
variable {X : Cx} {s1 s2 : Stmt} {sts : List Stmt} {f1 f2 f : DS}
end
end Dn
set_option Elab.async false
set_option linter.all false
set_option maxRecDepth 100000
set_option autoImplicit false
set_option maxHeartbeats 4000000
namespace Dn
open PySem L2 Evl PySem.Spec PyProof.Rows
theorem dedup_nodup {acc : List Int} {x : Int} (h : acc.Nodup) : (step_dedup acc x).Nodup := by
  unfold step_dedup
  split
  · exact h
  · rename_i z
    rw [List.nodup_append]
    refine ⟨h, by simp, fun a ha b hb e => z ?_⟩
    rw [List.mem_singleton] at hb
    subst hb
    exact List.any_eq_true.mpr ⟨a, ha, by simp [e]⟩
theorem met_nodup (f : Nat → Int) : ∀ i, (firstMet f i).Nodup
  | 0 => by rw [firstMet_zero]; exact List.nodup_nil
  | i + 1 => by rw [firstMet_succ]; exact dedup_nodup (met_nodup f i)
theorem met_mem (ns : List Int) (k : Int) : k ∈ firstMet (fun i => ns.getD i 0) ns.length ↔ k ∈ ns := by
  have h := firstMet_any (fun i => ns.getD i 0) ns.length k
  have e : (List.range ns.length).map (fun i => ns.getD i 0) = ns := by
    apply List.ext_getElem
    · simp
    · intro i h1 h2
      simp [List.getD_eq_getElem?_getD, List.getElem?_eq_getElem h2]
  rw [e] at h
  have z : ∀ l : List Int, l.any (· == k) = true ↔ k ∈ l := fun l => by simp
  rw [← z, h, z]
section
variable {X : Cx} {a : Expr} {fa : DE} {pos p : Pos}
def tLenSetL (K : PySem.W.Frag) (ta : TE) : TE := fun σ H Q => ta σ H fun x H1 => ∃ (l : Addr) (ns : List Int), x = V.ref l ∧ SqL K H1 l (ns.map V.int) ∧ ns.length ≤ 4000 ∧ ∀ n : Nat, n ≤ ns.length → (n = ns.length ↔ ns.Nodup) → Q (.int n) H1
theorem pe_lenSetL {a : Expr} {ta : TE} {p p2 q pos : Pos} (hc : X.calm = true) (hg : Gl X "len") (hm : X.mg "len" = none) (hg2 : Gl X "set") (hm2 : X.mg "set" = none) (ha : PE X a ta)
    (na : starEach [a] X.env = (false, eval a X.env) :: starEach [] X.env := by rfl) : PE X (.Call (.Name "len" p) [.Call (.Name "set" p2) [a] [] q] [] pos) (tLenSetL X.K ta) := by
  refine ⟨fun pins s σ H Q I h => ?_⟩
  refine Call_ (ld_blt I hg hm PySem.boot_len ?_)
  refine PyProof.Rows.callWith_builtin1 (PyProof.Rows.args_cons ?_ rfl) rfl rfl
  refine Call_ (ld_blt I hg2 hm2 PyProof.Rows.boot_set ?_)
  refine PyProof.Rows.callWith_type1 (PyProof.Rows.args_cons (thn (ha.run pins s σ H _ I h) fun v s1 ⟨x, H1, I1, r1, q1⟩ => PyProof.Rows.args_nil ?_) na) na rfl
  obtain ⟨l, ns, rfl, hq, h1, q1⟩ := q1
  cases r1
  obtain ⟨its, r, pl, hz⟩ := I1.list hq
  have hl : its.toArray.size = ns.length := by rw [List.size_toArray, ← r.length, List.length_map]
  refine call_set_list (I1.ok.hd hc) pl.isList (ns := ns) (by simpa using r.ints) (by unfold scanBound; omega) fun h' tk hS hk => ?_
  rw [hl] at hS
  refine PyProof.Rows.args_nil ?_
  obtain ⟨o, es, ep, t, ho, hex, hd, _, _, _, hf, hn⟩ := hS
  have I2 : Inv X pins σ H1 { s1 with heap := h', toks := tk } := I1.kept fun b o e => hk b o (Heap.lt_size e) e
  have w := nodup_iff_len (firstMet (fun i => ns.getD i 0) ns.length) ns (met_nodup _ _) (met_mem ns)
  refine call_len_set ho hex hd hf (by rw [hn]; omega) ⟨.int (firstMet (fun i => ns.getD i 0) ns.length).length, H1, I2.tok _, ⟨_, by rw [hn]⟩, q1 _ w.1 w.2⟩
def dLenSetL (fa : DE) : DE := fun ρ Q => fa ρ fun z ρ1 => ∃ ns : List Int, z = .list (ns.map PyData.int) ∧ ns.length ≤ 4000 ∧ ∀ n : Nat, n ≤ ns.length → (n = ns.length ↔ ns.Nodup) → Q (.int n) ρ1
theorem je_lenSetL {p2 q : Pos} (hc : X.calm = true) (hm : X.mg "len" = none) (hm2 : X.mg "set" = none) (ha : JE X a fa) (hg : Gl X "len" := by rfl) (hg2 : Gl X "set" := by rfl)
    (na : starEach [a] X.env = (false, eval a X.env) :: starEach [] X.env := by rfl) : JE X (.Call (.Name "len" p) [.Call (.Name "set" p2) [a] [] q] [] pos) (dLenSetL fa) := by
  obtain ⟨ta, pa, ka⟩ := ha.ex
  refine ⟨_, pe_lenSetL hc hg hm hg2 hm2 pa na, fun T ρ σ H QD Q r h q => ka T ρ σ H _ _ r h fun z ρ1 v H1 r1 p1 v1 h => ?_⟩
  obtain ⟨ns, rfl, h1, h2⟩ := h
  cases v1 with
  | lst hp rr =>
    obtain rfl := rr.of_ints
    exact ⟨_, ns, rfl, .inl (.inl (at_of hp)), h1, fun n ha hn => q _ _ _ _ r1 p1 (.int _) (h2 n ha hn)⟩
end
end Dn
set_option Elab.async false
set_option linter.all false
set_option maxRecDepth 100000
set_option autoImplicit false
set_option maxHeartbeats 4000000
namespace Dn
open PySem L2 Evl Cq PyProof.Rows
section
variable {X : Cx} {e : Expr} {fe : DE} {pos : Pos}
def xRng (fe : DE) : DX := fun ρ Q => fe ρ fun d ρ1 => ∃ j : Int, d = .int j ∧ Q (.ow (.rng j)) ρ1
theorem jx_rng {q2 q4 : Pos} (hm : X.mg "range" = none) (he : JE X e fe) (hg : Gl X "range" := by rfl)
    (hst : starEach [e] X.env = (false, eval e X.env) :: starEach [] X.env := by rfl) (hpl : (backTo q4 (starEach [] X.env)).any (·.1) = false := by rfl) : JX X (.Call (.Name "range" q2) [e] [] q4) (xRng fe) := by
  obtain ⟨te, pe, ke⟩ := he.ex
  refine ⟨_, pe_callTy cr_range1 hg hm boot_range (pa_cons pe pa_nil hst) (by decide) (by decide) hst hpl, fun T ρ σ H QD Q r h q => ke T ρ σ H _ _ r h fun d ρ1 v H1 r1 p1 v1 h => ?_⟩
  obtain ⟨j, rfl, h⟩ := h
  cases v1
  refine ⟨j, rfl, fun p hp => ?_⟩
  have hp0 : H p = none := by
    cases z : H p with
    | none => rfl
    | some o => exact absurd hp (p1.dom p (by rw [z]; simp))
  exact q (SV.ow (.rng j)) ρ1 _ _ ⟨p, .rng 0 j, rfl, hp0, upd_same, r1.laid hp, ⟨rfl, rfl⟩, fun _ _ z => nomatch z⟩ (p1.trans (.grow (Ex.new hp))) h
end
end Dn
set_option Elab.async false
set_option linter.all false
set_option maxRecDepth 100000
set_option autoImplicit false
set_option maxHeartbeats 4000000
namespace Dn
open PySem L2 Evl PySem.Spec PyProof.Rows
section
variable {X : Cx} {o b : Expr} {pos ps : Pos}
def dStrI : List D → (D → Prop) → Prop
  | [.int i] => fun Q => i.natAbs.log2 < 1920 ∧ Q (.str (toString i))
  | _ => fun _ => False
end
end Dn
set_option Elab.async false
set_option linter.all false
set_option maxRecDepth 100000
set_option autoImplicit false
set_option maxHeartbeats 4000000
namespace Dn
open PySem L2 Evl PySem.Spec PyProof.Rows
def sPar3 (i j k : Nat) (f g : DE) (h : DX) : DS := fun E ρ => f ρ fun d1 ρ1 => g ρ1 fun d2 ρ2 => h ρ2 fun s3 ρ3 => E.nx (((ρ3.set i (some (.im d1))).set j (some (.im d2))).set k (some s3))
section
variable {X : Cx} {a b c : Expr} {pos : Pos} {x y z : Str}
theorem js_par3 {i j k : Nat} {f g : DE} {h : DX} {px py pz pt : Pos} {kt k2 pt2} (hc : X.calm = true) (hN : X.N.Nodup) (hi : X.N[i]? = some x) (hj : X.N[j]? = some y) (hk : X.N[k]? = some z) (hij : i ≠ j) (hik : i ≠ k) (hjk : j ≠ k)
    (hx : X.env.scope.names.lookup x = some .local) (hy : X.env.scope.names.lookup y = some .local) (hz : X.env.scope.names.lookup z = some .local)
    (ha : JE X a f) (hb : JE X b g) (hcc : JX X c h)
    (hw : swappedStores [.Tuple [.Name x px, .Name y py, .Name z pz] kt pt] (.Tuple [a, b, c] k2 pt2) X.env = pure (some [x, y, z])) (hs : swapsWithSole [.Tuple [.Name x px, .Name y py, .Name z pz] kt pt] (.Tuple [a, b, c] k2 pt2) pos.line X.env = pure false := by rfl)
    (h1 : starEach [a, b, c] X.env = (false, eval a X.env) :: starEach [b, c] X.env := by rfl) (h2 : starEach [b, c] X.env = (false, eval b X.env) :: starEach [c] X.env := by rfl) (h3 : starEach [c] X.env = (false, eval c X.env) :: starEach [] X.env := by rfl) :
    JS X (.Assign [.Tuple [.Name x px, .Name y py, .Name z pz] kt pt] (.Tuple [a, b, c] k2 pt2) pos) (sPar3 i j k f g h) := by
  obtain ⟨t1, p1, k1⟩ := ha.ex
  obtain ⟨t2, p2, k2⟩ := hb.ex
  obtain ⟨t3, p3, k3⟩ := hcc.ex
  refine ⟨_, ps_par3 hc hN hi hj hk hij hik hjk hx hy hz (pa_cons p1 (pa_cons p2 (pa_cons p3 pa_nil h3) h2) h1) hw hs, fun T ρ σ H E D r h kk => ?_⟩
  refine k1 T ρ σ H _ _ r h fun d1 ρ1 v H1 r1 q1 v1 h => k2 T ρ1 σ H1 _ _ r1 h fun d2 ρ2 w H2 r2 q2 v2 h => k3 T ρ2 σ H2 _ _ r2 h fun s3 ρ3 u H3 f3 q3 h => ⟨v, w, u, rfl, ?_⟩
  obtain ⟨r4, q4⟩ := fits_set (i := k) r2 q3 f3
  have r5 := r4.setIm (i := j) (v2.mono q4.fz)
  have e5 := q4.trans (Po.setIm (i := j) (d := d2) (v := w))
  have r6 := r5.setIm (i := i) ((v1.mono q2.fz).mono e5.fz)
  have e6 := e5.trans (Po.setIm (i := i) (d := d1) (v := v))
  rw [setc hjk.symm, setc hik.symm, setc hij.symm, setc hjk.symm, setc hik.symm, setc hij.symm] at r6 e6
  exact kk.nx _ _ _ r6 ((q1.trans q2).trans e6) h
end
end Dn
set_option Elab.async false
set_option linter.all false
set_option maxRecDepth 100000
set_option autoImplicit false
set_option maxHeartbeats 4000000
namespace Dn
open PySem L2 Evl PySem.Spec PyProof.Rows
section
variable {X : Cx} {a : Expr} {fa : DE} {pos p : Pos}
def tLenSetT2 (K : PySem.W.Frag) (ta : TE) : TE := fun σ H Q => ta σ H fun x H1 => ∃ (l : Addr) (ns : List Int), x = V.ref l ∧ SqT K H1 l (ns.map V.int) ∧ ns.length ≤ 4000 ∧ ∀ n : Nat, n ≤ ns.length → (n = ns.length ↔ ns.Nodup) → Q (.int n) H1
theorem pe_lenSetT2 {a : Expr} {ta : TE} {p p2 q pos : Pos} (hc : X.calm = true) (hg : Gl X "len") (hm : X.mg "len" = none) (hg2 : Gl X "set") (hm2 : X.mg "set" = none) (ha : PE X a ta)
    (na : starEach [a] X.env = (false, eval a X.env) :: starEach [] X.env := by rfl) : PE X (.Call (.Name "len" p) [.Call (.Name "set" p2) [a] [] q] [] pos) (tLenSetT2 X.K ta) := by
  refine ⟨fun pins s σ H Q I h => ?_⟩
  refine Call_ (ld_blt I hg hm PySem.boot_len ?_)
  refine PyProof.Rows.callWith_builtin1 (PyProof.Rows.args_cons ?_ rfl) rfl rfl
  refine Call_ (ld_blt I hg2 hm2 PyProof.Rows.boot_set ?_)
  refine PyProof.Rows.callWith_type1 (PyProof.Rows.args_cons (thn (ha.run pins s σ H _ I h) fun v s1 ⟨x, H1, I1, r1, q1⟩ => PyProof.Rows.args_nil ?_) na) na rfl
  obtain ⟨l, ns, rfl, hq, h1, q1⟩ := q1
  cases r1
  obtain ⟨its, r, pl, hz⟩ := I1.tuple hq
  refine call_set_tupI ns (I1.ok.hd hc) pl (by simpa using r.ints) (by unfold scanBound; omega) fun h' tk c R hc2 hk => ?_
  refine PyProof.Rows.args_nil ?_
  obtain ⟨o, es, ep, t, ho, hex, hd, _, nd, hm, hb, hf, hn, _⟩ := R
  have I2 : Inv X pins σ H1 { s1 with heap := h', toks := tk } := I1.kept fun b o e => hk b o e
  have hl := nodup_iff_len _ ns nd fun k => by rw [← hm k]; simp
  rw [List.length_map, Array.length_toList] at hl
  refine call_len_set ho hex hd hf (by omega) ⟨.int es.size, H1, I2.tok _, ⟨_, rfl⟩, q1 _ hl.1 hl.2⟩
def dLenSet2 (fa : DE) : DE := fun ρ Q => fa ρ fun z ρ1 => ∃ ns : List Int, z = .tuple (ns.map PyData.int) ∧ ns.length ≤ 4000 ∧ ∀ n : Nat, n ≤ ns.length → (n = ns.length ↔ ns.Nodup) → Q (.int n) ρ1
theorem je_lenSet2 {p2 q : Pos} (hc : X.calm = true) (hm : X.mg "len" = none) (hm2 : X.mg "set" = none) (ha : JE X a fa) (hg : Gl X "len" := by rfl) (hg2 : Gl X "set" := by rfl)
    (na : starEach [a] X.env = (false, eval a X.env) :: starEach [] X.env := by rfl) : JE X (.Call (.Name "len" p) [.Call (.Name "set" p2) [a] [] q] [] pos) (dLenSet2 fa) := by
  obtain ⟨ta, pa, ka⟩ := ha.ex
  refine ⟨_, pe_lenSetT2 hc hg hm hg2 hm2 pa na, fun T ρ σ H QD Q r h q => ka T ρ σ H _ _ r h fun z ρ1 v H1 r1 p1 v1 h => ?_⟩
  obtain ⟨ns, rfl, h1, h2⟩ := h
  cases v1 with
  | tup hp rr =>
    obtain rfl := rr.of_ints
    exact ⟨_, ns, rfl, sqt_of hp, h1, fun n hn0 hn => q _ _ _ _ r1 p1 (.int _) (h2 n hn0 hn)⟩
end
end Dn
set_option Elab.async false
set_option linter.all false
set_option maxRecDepth 100000
set_option autoImplicit false
set_option maxHeartbeats 4000000
namespace Dn
open PySem PySem.W PySem.Calls L2 Evl PySem.Spec PyProof.Rows SrL
section
open SrtO Srt
variable {prog : Program} {w : World} {A : Around} {E : Value → Shared → Prop} {s : Shared}
end
def ksOf (ns : List Int) : List Key := ns.map Sum.inl
theorem ks_inj : ∀ {a b : List Int}, ksOf a = ksOf b → a = b
  | [], [], _ => rfl
  | [], _ :: _, e => by simp [ksOf] at e
  | _ :: _, [], e => by simp [ksOf] at e
  | x :: a, y :: b, e => by
    simp only [ksOf, List.map_cons, List.cons.injEq, Sum.inl.injEq] at e
    rw [e.1, ks_inj (a := a) (b := b) e.2]
end Dn
set_option Elab.async false
set_option linter.all false
set_option maxRecDepth 100000
set_option autoImplicit false
set_option maxHeartbeats 4000000
namespace Dn
open PySem L2 Evl PySem.Spec PyProof.Rows SrL
def valT (kvs : List (List Int × D)) (k : List Int) : Option D := (kvs.find? fun kv => decide (kv.1 = k)).map (·.2)
def putT (kvs : List (List Int × D)) (k : List Int) (d : D) : List (List Int × D) :=
  if (kvs.any fun kv => decide (kv.1 = k)) = true then kvs.map (fun kv => if kv.1 = k then (kv.1, d) else kv) else kvs ++ [(k, d)]
abbrev KtRp (K : PySem.W.Frag) (G : Hp) (kvs : List (List Int × D)) (kws : List (List Key × V)) : Prop := Paired (fun (p : List Int × D) (q : List Key × V) => p.1.map Sum.inl = q.1 ∧ Rp K G q.2 p.2) kvs kws
theorem ks_iff {a b : List Int} {k : List Key} (h : a.map Sum.inl = k) : a = b ↔ k = ksOf b := ⟨fun e => by rw [← h, e]; rfl, fun e => ks_inj (h.trans e)⟩
theorem KtRp.len {K : PySem.W.Frag} {G : Hp} {kvs : List (List Int × D)} {kws : List (List Key × V)} (h : KtRp K G kvs kws) : kvs.length = kws.length := Paired.length h
theorem KtRp.val {K : PySem.W.Frag} {G : Hp} {kvs : List (List Int × D)} {kws : List (List Key × V)} (h : KtRp K G kvs kws) (k : List Int) : (valT kvs k = none ∧ valV kws (ksOf k) = none) ∨ ∃ d v, valT kvs k = some d ∧ valV kws (ksOf k) = some v ∧ Rp K G v d := by
  induction h with
  | nil => exact .inl ⟨rfl, rfl⟩
  | @cons p q ps qs r t ih =>
    by_cases z : p.1 = k
    · refine .inr ⟨p.2, q.2, by simp [valT, List.find?_cons, z], valV_pos ((ks_iff r.1).1 z), r.2⟩
    · have z2 : ¬ q.1 = ksOf k := fun w => z ((ks_iff r.1).2 w)
      rw [valV_neg z2]
      have : valT (p :: ps) k = valT ps k := by simp [valT, List.find?_cons, z]
      rw [this]
      exact ih
theorem KtRp.any {K : PySem.W.Frag} {G : Hp} {kvs : List (List Int × D)} {kws : List (List Key × V)} (h : KtRp K G kvs kws) (k : List Int) : (kvs.any fun kv => decide (kv.1 = k)) = (kws.any fun kv => decide (kv.1 = ksOf k)) := by
  induction h with
  | nil => rfl
  | @cons p q ps qs r t ih => simp only [List.any_cons, ih, ks_iff r.1]
theorem KtRp.rep {K : PySem.W.Frag} {G : Hp} {kvs : List (List Int × D)} {kws : List (List Key × V)} (h : KtRp K G kvs kws) (k : List Int) {v : V} {d : D} (r : Rp K G v d) : KtRp K G (kvs.map fun kv => if kv.1 = k then (kv.1, d) else kv) (kws.map fun kv => if kv.1 = ksOf k then (kv.1, v) else kv) := by
  induction h with
  | nil => exact .nil
  | @cons p q ps qs s t ih =>
    refine .cons ?_ ih
    dsimp only
    by_cases z : p.1 = k
    · rw [if_pos z, if_pos ((ks_iff s.1).1 z)]
      exact ⟨s.1, r⟩
    · rw [if_neg z, if_neg (fun w => z ((ks_iff s.1).2 w))]
      exact s
theorem KtRp.add {K : PySem.W.Frag} {G : Hp} {kvs : List (List Int × D)} {kws : List (List Key × V)} (h : KtRp K G kvs kws) (k : List Int) {v : V} {d : D} (r : Rp K G v d) : KtRp K G (kvs ++ [(k, d)]) (kws ++ [(ksOf k, v)]) := by
  induction h with
  | nil => exact .cons ⟨rfl, r⟩ .nil
  | cons s t ih => exact .cons s ih
theorem KtRp.put {K : PySem.W.Frag} {G : Hp} {kvs : List (List Int × D)} {kws : List (List Key × V)} (h : KtRp K G kvs kws) (k : List Int) {v : V} {d : D} (r : Rp K G v d) : KtRp K G (putT kvs k d) (putK kws (ksOf k) v) := by
  unfold putT putK
  rw [h.any k]
  split
  · exact h.rep k r
  · exact h.add k r
def atT (ρ : Env) (i : Nat) : Option (List (List Int × D)) := match ρ[i]? with
  | some (some (.ow (.dtu kvs))) => some kvs
  | _ => none
theorem atT_some {ρ : Env} {i : Nat} {kvs : List (List Int × D)} (h : atT ρ i = some kvs) : ρ[i]? = some (some (SV.ow (.dtu kvs))) := by
  unfold atT at h
  split at h
  · cases h; assumption
  · cases h
theorem RS.atT {K : PySem.W.Frag} {T : Addr → Prop} {ρ : Env} {σ : L2.St} {H : Hp} {i : Nat} {kvs : List (List Int × D)} (r : RS K T ρ σ H) (h : Dn.atT ρ i = some kvs) : ∃ q kws, ρ[i]? = some (some (SV.ow (.dtu kvs))) ∧ σ[i]? = some (some (V.ref q)) ∧ H q = some (.dT kws) ∧ KtRp K (hide (Hd T ρ σ) H) kvs kws := by
  have hm := atT_some h
  obtain ⟨q, o, h1, h2, h3⟩ := r.ow i _ hm
  cases o with
  | dT kws => exact ⟨q, kws, hm, h1, h2, h3⟩
  | _ => exact h3.elim
section
variable {X : Cx} {a b c e : Expr} {fa fb fc : DE} {pos p : Pos} {es : List Expr} {x y : Str}
def dInT (neg : Bool) (i : Nat) (fb : DE) : DE := fun ρ Q => fb ρ fun y ρ1 => ∃ kvs k, atT ρ1 i = some kvs ∧ y = .tuple (k.map PyData.int) ∧ Q (.bool (if neg then !(valT kvs k).isSome else (valT kvs k).isSome)) ρ1
def sPutT (i : Nat) (fi fe : DE) : DS := fun E ρ => fe ρ fun d ρ1 => (atT ρ1 i).isSome = true ∧ fi ρ1 fun y ρ2 => ∃ kvs k, atT ρ2 i = some kvs ∧ y = .tuple (k.map PyData.int) ∧ kvs.length < sizeLine ∧ E.nx (ρ2.set i (some (.ow (.dtu (putT kvs k d)))))
def lSortDT (i : Nat) : DL := fun ρ Q => ∃ kvs, atT ρ i = some kvs ∧ (2 ≤ kvs.length → ∀ p, p ∈ kvs → p.1 ≠ []) ∧ ∀ L : List (List Int), L.Perm (kvs.map (·.1)) → (L.Pairwise fun a b => lx b a = false) → Q (L.map tI0) ρ
end
end Dn
set_option Elab.async false
set_option linter.all false
set_option maxRecDepth 100000
set_option autoImplicit false
set_option maxHeartbeats 4000000
namespace Dn
open PySem L2 Evl PySem.Spec PyProof.Rows SrL SrtO
section
variable {X : Cx} {a b c e : Expr} {fa fb fc : DE} {pos p : Pos} {es : List Expr} {x y : Str}
def lSortT2 (fa : DE) : DL := fun ρ Q => fa ρ fun z ρ1 => ∃ L : List (List Int), z = .list (L.map tI0) ∧ (2 ≤ L.length → ∀ l, l ∈ L → l ≠ []) ∧ ∀ L' : List (List Int), L'.Perm L → (L'.Pairwise fun a b => lx b a = false) → Q (L'.map tI0) ρ1
def dPop (i : Nat) : DE := fun ρ Q => ∃ ds d, atO ρ i = some (ds ++ [d]) ∧ Q d (setO ρ i ds)
end
end Dn
set_option Elab.async false
set_option linter.all false
set_option maxRecDepth 100000
set_option autoImplicit false
set_option maxHeartbeats 4000000
namespace Dn
open PySem L2 Evl PySem.Spec PyProof.Rows SrL
section
variable {X : Cx} {a b c e : Expr} {fa fb fc : DE} {pos p : Pos} {es : List Expr} {x y : Str}
def xDctT1 (fk fv : DE) : DX := fun ρ Q => fk ρ fun y ρ1 => fv ρ1 fun d ρ2 => ∃ k : List Int, y = .tuple (k.map PyData.int) ∧ Q (.ow (.dtu [(k, d)])) ρ2
def pairD (q : List Int × D) : D := .tuple [.tuple (q.1.map PyData.int), q.2]
def xDctOf (f : DL) : DX := fun ρ Q => f ρ fun ds ρ1 => ∃ kvs : List (List Int × D), ds = kvs.map pairD ∧ (kvs.map (·.1)).Nodup ∧ Q (.ow (.dtu kvs)) ρ1
end
end Dn
set_option Elab.async false
set_option linter.all false
set_option maxRecDepth 100000
set_option autoImplicit false
set_option maxHeartbeats 4000000
namespace Dn
open PySem L2 Evl PySem.Spec PyProof.Rows SrL
section
variable {X : Cx} {a b c e : Expr} {fa fb fc : DE} {pos p : Pos} {es : List Expr} {x y : Str} {k : Nat} {f : Addr} {fd : FuncData} {ps : List Str} {n : Nat}
def dBinR (i : Nat) (op : D → D → (D → Prop) → Prop) (fb : DE) : DE := fun ρ Q => fb ρ fun y ρ1 => match ρ1[i]? with
  | some (some (.ow (.lst ds))) => op y (.list ds) fun z => isSc z = true ∧ Q z ρ1
  | _ => False
def dCallMO (i j : Nat) (S : List D → List D → (D → List D → Prop) → Prop) : DE := fun ρ Q => i ≠ j ∧ ∃ ms L, atO ρ i = some ms ∧ ρ[j]? = some (some (.ow (.lst L))) ∧ S ms [.list L] fun d ms' => NL d ∧ (∀ e, e ∈ ms' → NL e) ∧ Q d (setO ρ i ms')
end
end Dn
set_option Elab.async false
set_option linter.all false
set_option maxRecDepth 100000
set_option autoImplicit false
set_option maxHeartbeats 4000000
namespace Dn
open PySem L2 Evl PySem.Spec PyProof.Rows SrL
def NS : MO → Prop
  | .lst ds => ∀ d, d ∈ ds → NL d
  | .par _ m => NS m
  | .rng _ => True
  | _ => False
def NSs (ρ : Env) (i : Nat) : Prop := ∀ (j : Nat) (sv : SV), j ≠ i → ρ[j]? = some (some sv) → match sv with
  | .im d => NL d
  | .ow m => NS m
def dKeep (i : Nat) (f : DT) : DT := fun ρ Q => ∃ ds, ρ[i]? = some (some (.ow (.lst ds))) ∧ (∀ d, d ∈ ds → NL d) ∧ f (ρ.set i (some (.im (.list ds)))) fun b ρ1 => i < ρ1.length ∧ NSs ρ1 i ∧ Q b (ρ1.set i (some (.ow (.lst ds))))
end Dn
set_option Elab.async false
set_option linter.all false
set_option maxRecDepth 100000
set_option autoImplicit false
set_option maxHeartbeats 4000000
namespace Dn
open PySem L2 Evl PySem.Spec PyProof.Rows
theorem obL_inj {nm nm' : Str} {es es' : List (Str × D)} (h : obL nm es = obL nm' es') : nm = nm' ∧ es = es' := by
  unfold obL at h
  simp only [List.cons.injEq, Prod.mk.injEq, and_true, true_and, PyData.tuple.injEq, PyData.str.injEq] at h
  refine ⟨h.1, ?_⟩
  have h2 := h.2
  clear h
  induction es generalizing es' with
  | nil => cases es' with
    | nil => rfl
    | cons => simp at h2
  | cons p es ih =>
    cases es' with
    | nil => simp at h2
    | cons q es' =>
      simp only [List.map_cons, List.cons.injEq, PyData.tuple.injEq, PyData.str.injEq, and_true] at h2
      obtain ⟨⟨a, b⟩, c⟩ := h2
      rw [ih c]
      congr 1
      exact Prod.ext a b
section
variable {K : PySem.W.Frag} {G : Hp}
theorem obj_rp {v : V} {nm : Str} {es : List (Str × D)} (r : Rp K G v (obD nm es)) : ∃ a dx fs, v = .ref a ∧ ObjC K (adrOf K nm) ∧ G a = some (.ins (adrOf K nm) dx fs) ∧ RpFs K G fs es := by
  generalize e : obD nm es = d at r
  cases r with
  | ins o h r z =>
    injection e with e
    rw [z] at e
    obtain ⟨rfl, rfl⟩ := obL_inj e
    exact ⟨_, _, _, rfl, o, h, r⟩
  | dct _ _ z =>
    injection e with e
    rw [z] at e
    rename_i kvs _ _ _
    cases kvs with
    | nil => cases e
    | cons p r => obtain ⟨k, d⟩ := p; cases k <;> cases e
  | frz _ _ => cases e
  | _ => cases e
theorem RpFs.look {f : Str} {d : D} : ∀ {fs : List (Str × V)} {es : List (Str × D)}, RpFs K G fs es → es.lookup f = some d → ∃ v, fs.lookup f = some v ∧ Rp K G v d
  | _, _, .nil, h => by cases h
  | _, _, .cons (k := k) (v := v) r rs, h => by
    by_cases e : f = k
    · subst e
      rw [List.lookup_cons_self] at h ⊢
      cases h
      exact ⟨_, rfl, r⟩
    · rw [List.lookup_cons, show (f == k) = false from by simpa using e] at h ⊢
      exact RpFs.look rs h
theorem RpFs.lookN {f : Str} : ∀ {fs : List (Str × V)} {es : List (Str × D)}, RpFs K G fs es → es.lookup f = none → fs.lookup f = none
  | _, _, .nil, _ => rfl
  | _, _, .cons (k := k) (v := v) r rs, h => by
    by_cases e : f = k
    · subst e
      rw [List.lookup_cons_self] at h
      cases h
    · rw [List.lookup_cons, show (f == k) = false from by simpa using e] at h ⊢
      exact RpFs.lookN rs h
def putE (f : Str) (d : D) : List (Str × D) → List (Str × D)
  | [] => [(f, d)]
  | (g, x) :: r => if g = f then (g, d) :: r else (g, x) :: putE f d r
theorem RpFs.put {f : Str} {v : V} {d : D} (h : Rp K G v d) : ∀ {fs : List (Str × V)} {es : List (Str × D)}, RpFs K G fs es → RpFs K G (putF f v fs) (putE f d es)
  | _, _, .nil => .cons h .nil
  | _, _, .cons (k := k) r rs => by
    unfold putF putE
    by_cases e : k = f
    · rw [if_pos e, if_pos e]; exact .cons h rs
    · rw [if_neg e, if_neg e]; exact .cons r (RpFs.put h rs)
theorem RpFs.length : ∀ {fs : List (Str × V)} {es : List (Str × D)}, RpFs K G fs es → fs.length = es.length
  | _, _, .nil => rfl
  | _, _, .cons _ r => by simp [RpFs.length r]
end
section
variable {X : Cx} {a b c e o : Expr} {fa fb fc fo : DE} {pos p apos : Pos} {es : List Expr} {x y m nm : Str} {k n : Nat} {g : DA}
def dFld (nm f : Str) (fa : DE) : DE := fun ρ Q => fa ρ fun d ρ1 => ∃ es v, d = obD nm es ∧ es.lookup f = some v ∧ Q v ρ1
theorem je_fld {f : Str} (hN : NoAttr X.K (adrOf X.K nm) f) (ha : JE X a fa) (hb : attributeBase a f X.env (eval a X.env) = eval a X.env := by rfl) : JE X (.Attribute a f pos) (dFld nm f fa) := by
  obtain ⟨t, pa, ka⟩ := ha.ex
  refine ⟨_, pe_fld pa hb, fun T ρ σ H QD Q r h q => ka T ρ σ H _ _ r h fun d ρ1 v H1 r1 p1 v1 h => ?_⟩
  obtain ⟨es, d', rfl, hl, hq⟩ := h
  obtain ⟨l, dx, fs, rfl, ob, hg, rf⟩ := obj_rp v1
  obtain ⟨u, hu, ru⟩ := rf.look hl
  exact ⟨l, _, dx, fs, u, rfl, (hide_some.1 hg).2, ob.cls, hN, hu, q d' ρ1 u H1 r1 p1 ru hq⟩
def OkM (P : Program) (w : World) (K : PySem.W.Frag) (mg : Str → Option Value) (base : Heap) (C : Addr) (m : Str) (ps : List Str) (k : Nat) (sp : Sp) : Prop :=
  ∃ f fd, FnOk P w K mg base L2.CX0 k f fd ps sp ∧ Meth K C m f ∧ Binds K fd ps []
def OkP (P : Program) (w : World) (K : PySem.W.Frag) (mg : Str → Option Value) (base : Heap) (C : Addr) (m : Str) (k : Nat) (sp : Sp) : Prop :=
  ∃ p g fd, PropOf K C m p g ∧ FnOk P w K mg base L2.CX0 k g fd ["self"] sp ∧ Binds K fd ["self"] []
def dMeth (n : Nat) (nm m : Str) (S : List D → (D → Prop) → Prop) (fo : DE) (g : DA) : DE := fun ρ Q => fo ρ fun d ρ1 => ∃ es, d = obD nm es ∧ es.lookup m = none ∧ g ρ1 fun ds ρ2 => ds.length + 1 = n ∧ S (d :: ds) fun z => Q z ρ2
theorem never {CX : CXT} {X : Cx} : Passes L2.CX0 X (fun _ _ _ => False) := fun _ _ _ _ _ _ _ h => h.elim
theorem je_meth {S : List D → (D → Prop) → Prop} {ps : List Str} {pl : Sem Bool} (O : OkM X.prog X.w X.K X.mg X.base (adrOf X.K nm) m ps k (spD X.K n S)) (hc : Cls X.K (adrOf X.K nm)) (hr : Room k X.A) (ho : JE X o fo) (ha : JA X (e :: es) g)
    (hst : starEach (e :: es) X.env = (false, eval e X.env) :: starEach es X.env := by rfl) (hpl : (backTo pos (starEach es X.env)).any (·.1) = false := by rfl)
    (ht : eval (.Call (.Attribute o m apos) (e :: es) [] pos) X.env = (do
      let ov ← eval o X.env
      standAt apos.atName
      let (f, first) ← holding [ov] (getMethod ov m pl)
      callWith pos f first (backTo pos (starEach (e :: es) X.env)) (backToKw pos (keywordEach [] X.env))) := by rfl) : JE X (.Call (.Attribute o m apos) (e :: es) [] pos) (dMeth n nm m S fo g) := by
  obtain ⟨f, fd, F, M, B⟩ := O
  obtain ⟨to, po, ko⟩ := ho.ex
  obtain ⟨t, pa, ka⟩ := ha.ex
  refine ⟨_, pe_meth (E := fun _ _ _ => False) po hc M F hr B .nil (fun _ _ _ _ _ _ _ h => h.elim) pa hst hpl ht, fun T ρ σ H QD Q r h q => ko T ρ σ H _ _ r h fun d ρ1 v H1 r1 p1 v1 h => ?_⟩
  obtain ⟨es', rfl, hl, h⟩ := h
  obtain ⟨l, dx, fs, rfl, ob, hg, rf⟩ := obj_rp v1
  refine ⟨l, dx, fs, rfl, (hide_some.1 hg).2, rf.lookN hl, ka T ρ1 σ H1 _ _ r1 h fun ds ρ2 vs H2 r2 p2 v2 h => ?_⟩
  rw [List.append_nil]
  exact spD_of r2 (p1.trans p2) (.cons (v1.mono p2.fz) v2) (by simpa using h.1) h.2 q
def dProp (nm : Str) (S : List D → (D → Prop) → Prop) (fo : DE) : DE := fun ρ Q => fo ρ fun d ρ1 => (∃ es, d = obD nm es) ∧ S [d] fun z => Q z ρ1
theorem je_prop {S : List D → (D → Prop) → Prop} {f : Str} (O : OkP X.prog X.w X.K X.mg X.base (adrOf X.K nm) f k (spD X.K 1 S)) (hc : Cls X.K (adrOf X.K nm)) (hr : Room (k + 1) X.A) (ho : JE X o fo)
    (hab : attributeBase o f X.env (eval o X.env) = eval o X.env := by rfl) : JE X (.Attribute o f pos) (dProp nm S fo) := by
  obtain ⟨pp, gg, fd, M, F, B⟩ := O
  obtain ⟨to, po, ko⟩ := ho.ex
  refine ⟨_, pe_prop (E := fun _ _ _ => False) po hc M F hr B .nil (fun _ _ _ _ _ _ _ h => h.elim) hab, fun T ρ σ H QD Q r h q => ko T ρ σ H _ _ r h fun d ρ1 v H1 r1 p1 v1 h => ?_⟩
  obtain ⟨⟨es', rfl⟩, h⟩ := h
  obtain ⟨l, dx, fs, rfl, ob, hg, rf⟩ := obj_rp v1
  refine ⟨l, dx, fs, rfl, (hide_some.1 hg).2, ?_⟩
  exact spD_of (E := fun _ _ _ => False) (vs := [V.ref l]) r1 p1 (.cons v1 .nil) rfl h q
def spI (K : PySem.W.Frag) (nm : Str) (n : Nat) (S : List D → (List (Str × D) → Prop) → Prop) : Sp := fun vs H Q _ => ∃ (T : Addr → Prop) (x dx : Addr) (us : List V) (ds : List D) (QD : List (Str × D) → Prop), vs = .ref x :: us ∧ us.length + 1 = n ∧ ObjC K (adrOf K nm) ∧
  (∀ a, T a → Lv H a) ∧ ¬ T x ∧ H x = some (.ins (adrOf K nm) dx []) ∧ RpAll K (hide (plus T x) H) us ds ∧ S ds QD ∧
  ∀ es fs dx' H', QD es → (∀ a o, a ≠ x → H a = some o → H' a = some o) → H' x = some (.ins (adrOf K nm) dx' fs) → RpFs K (hide (plus T x) H') fs es → Q .non H'
def OkI (P : Program) (w : World) (K : PySem.W.Frag) (mg : Str → Option Value) (base : Heap) (nm : Str) (ps : List Str) (k : Nat) (sp : Sp) : Prop :=
  ∃ f fd, FnOk P w K mg base L2.CX0 k f fd ps sp ∧ L2.Mk K (adrOf K nm) f ∧ Binds K fd ps [] ∧ mg nm = some (.ref (adrOf K nm)) ∧ ObjC K (adrOf K nm)
def dNew (n : Nat) (nm : Str) (S : List D → (List (Str × D) → Prop) → Prop) (g : DA) : DE := fun ρ Q => g ρ fun ds ρ1 => ds.length + 1 = n ∧ S ds fun es => Q (obD nm es) ρ1
theorem je_new {S : List D → (List (Str × D) → Prop) → Prop} {ps : List Str} (O : OkI X.prog X.w X.K X.mg X.base x ps k (spI X.K x n S)) (hr : Room (k + 1) X.A) (ha : JA X (e :: es) g) (hg : Gl X x := by rfl)
    (hdb : (x == ("__debug__" : Str)) = false := by decide) (he : starEach (e :: es) X.env = (false, eval e X.env) :: starEach es X.env := by rfl) (hpl : (backTo pos (starEach es X.env)).any (·.1) = false := by rfl) : JE X (.Call (.Name x p) (e :: es) [] pos) (dNew n x S g) := by
  obtain ⟨f, fd, F, M, B, hm, oc⟩ := O
  obtain ⟨t, pa, ka⟩ := ha.ex
  refine ⟨_, pe_make (E := fun _ _ _ => False) M F hr hg hm B .nil (fun _ _ _ _ _ _ _ h => h.elim) pa hdb he hpl, fun T ρ σ H QD Q r h q => ka T ρ σ H _ _ r h fun ds ρ1 vs H1 r1 p1 v1 h => ?_⟩
  intro z dx hz hdx hne
  obtain ⟨hn, h⟩ := h
  rw [List.append_nil]
  have old : ∀ {a : Addr} {o : HO}, H1 a = some o → upd (upd H1 dx (.own z)) z (.ins (adrOf X.K x) dx []) a = some o := fun {a o} w => by
    rw [upd_ne (fun e => by rw [e, hz] at w; cases w), upd_ne (fun e => by rw [e, hdx] at w; cases w)]
    exact w
  have nz : ¬ Hd T ρ1 σ z := fun w => r1.hdDom w hz
  have e1 : Ex (hide (Hd T ρ1 σ) H1) (hide (plus (Hd T ρ1 σ) z) (upd (upd H1 dx (.own z)) z (.ins (adrOf X.K x) dx []))) := fun a o w => by
    obtain ⟨w1, w2⟩ := hide_some.1 w
    refine hide_some.2 ⟨fun u => ?_, old w2⟩
    rcases u with u | u
    · rw [u, hz] at w2; cases w2
    · exact w1 u
  refine ⟨Hd T ρ1 σ, z, dx, vs, ds, _, rfl, by rw [v1.length, hn], oc, fun a w => (r1.hdLv w).keep fun o w => old w, nz, upd_same, v1.mono e1, h, fun es' fs dx' H' hq kp hx rf => ⟨rfl, ?_⟩⟩
  have e2 : Ex H1 H' := fun a o w => kp a o (fun u => by rw [u, hz] at w; cases w) (old w)
  refine q (obD x es') ρ1 (.ref z) H' (r1.grow e2) (p1.trans (.grow e2)) (.ins oc (hide_some.2 ⟨nz, hx⟩) (rf.mono (hide_sub fun a w => .inr w)) rfl) hq
def sFldD (i : Nat) (nm f : Str) (fe : DE) : DS := fun E ρ => fe ρ fun d ρ1 => ∃ l es, ρ1[i]? = some (some (.ow (.par l (.obj nm es)))) ∧ es.length < 1000 ∧ E.nx (ρ1.set i (some (.ow (.par l (.obj nm (putE f d es))))))
theorem js_fld {i : Nat} {f : Str} {px pos' : Pos} (hN : X.N[i]? = some x) (hv : Vis X.env.scope x) (hA : NoAttr X.K (adrOf X.K nm) f) (he : JE X e fa) (hd : (x == ("__debug__" : Str)) = false := by decide) (hcd : (x == ("__classdict__" : Str)) = false := by decide)
    (hs : swapsWith e (some (.Attribute (.Name x px) f pos')) pos.line X.env = pure false := by rfl) : JS X (.Assign [.Attribute (.Name x px) f pos'] e pos) (sFldD i nm f fa) := by
  obtain ⟨t, pt, kt⟩ := he.ex
  refine ⟨_, ps_fld (pe_var hN hv hd hcd) pt hs, fun T ρ σ H E D r h k => kt T ρ σ H _ _ r h fun d ρ1 v H1 r1 p1 v1 h => ?_⟩
  obtain ⟨l, es', hi, hl, h⟩ := h
  obtain ⟨a, o, ha, ho, hr⟩ := r1.ow i _ hi
  have hr' : RpO X.K (hide (Hd T ρ1 σ) H1) (.obj nm es') o := by unfold RpO at hr; exact hr
  cases o with
  | ins C dx fs =>
    obtain ⟨rfl, ob, rf⟩ := (show C = adrOf X.K nm ∧ ObjC X.K C ∧ RpFs X.K _ fs es' from hr')
    refine ⟨_, ha, a, _, dx, fs, rfl, ho, ob.cls, hA, by rw [rf.length]; exact hl, ?_⟩
    have hp : RpO X.K (hide (Hd T ρ1 σ) H1) (.par l (.obj nm (putE f d es'))) (.ins (adrOf X.K nm) dx (putF f v fs)) := by
      unfold RpO
      exact ⟨rfl, ob, rf.put v1⟩
    have r3 := r1.write hi ha hp (fun q m1 z => by cases z; exact r1.tag i _ _ a hi ha)
    exact k.nx _ _ _ r3 (p1.trans (.write hi ha)) h
  | _ => exact False.elim hr'
end
end Dn
set_option Elab.async false
set_option linter.all false
set_option maxRecDepth 100000
set_option autoImplicit false
set_option maxHeartbeats 4000000
namespace OwnNe
open PySem PySem.W Builtin PyProof.Rows
section
variable {prog : Program} {w : World} {A : Around} {E : Value → Shared → Prop} {s : Shared} {K : Frag} {x C L f : Addr} {h₀ : Heap} {m : Str → Option Value} {ox : Obj} {od : Option Obj} {b tb : Value}
end
end OwnNe
namespace Dn
open PySem L2 Evl PySem.Spec PyProof.Rows
structure Slo (K : PySem.W.Frag) (C : Addr) (m : Str) (f : Addr) : Prop where
  at_ : PySem.W.findIn K (.ref C) m = some (some (.ref f))
  fn : PySem.W.isFn K (.ref f) = true
section
variable {X : Cx} {CX : CXT} {k : Nat} {C f : Addr} {sp : Sp} {E : XK}
def rLenOwn (C : Addr) (sp : Sp) (E : XK) : List V → Hp → VK → Prop := fun xs H Q => ∃ a dx fs, xs = [V.ref a] ∧ H a = some (.ins C dx fs) ∧ sp [.ref a] H (fun z H' => ∃ n : Nat, z = .int n ∧ n < 2 ^ 63 ∧ Q (.int n) H') E
theorem call_lenOwn (hs : Slo X.K C "__len__" f) (F : FnR X.prog X.w X.K X.mg X.base CX k f sp) (hr : Room (k + 1) X.A) (hx : Passes CX X E) : CallR X (.builtin "len") (rLenOwn C sp E) := by
  intro pins s σ H xs us Q I r h
  obtain ⟨a, dx, fs, rfl, ha, q⟩ := h
  obtain ⟨u, rfl, ru⟩ := r.one
  cases (show u = Value.ref a from ru)
  obtain ⟨mA, J, _⟩ := ins_get I.hok ha
  obtain ⟨od, J, _⟩ := J.look
  obtain ⟨m, hF⟩ := I.fr
  refine PySem.W.len_K hF I.ok.mod.kin J hs.at_ hs.fn ?_
  refine wpAny_mono (wpAny_call (SlX.run_at (us := [.ref a]) (ws := [.ref a]) F hr.in1 I.env0.in1 hx I (.cons rfl .nil) q)) (fun w s' z => ?_) fun _ _ x => x
  obtain ⟨z', H', I', rz, n, rfl, hn, qz⟩ := z
  obtain ⟨t, e⟩ := (show ∃ t, w = Value.int n t from rz)
  cases e
  refine ⟨⟨by omega, by omega⟩, .int n, H', I'.tok _, ⟨_, rfl⟩, qz⟩
end
end Dn
set_option Elab.async false
set_option linter.all false
set_option maxRecDepth 100000
set_option autoImplicit false
set_option maxHeartbeats 4000000
namespace Dn
open PySem L2 Evl PySem.Spec PyProof.Rows
def insN : D → Option Str
  | .dict [(.bool true, .tuple (.str nm :: _))] => some nm
  | _ => none
theorem insN_ob (nm : Str) (es : List (Str × D)) : insN (obD nm es) = some nm := rfl
structure IsC (K : PySem.W.Frag) (C : Addr) : Prop where
  ic : (PySem.W.clsIn K C).isSome = true
  ty : PySem.W.typeIn K (.ref C) = some (.type "type")
def Oth (K : PySem.W.Frag) (nm : Str) (oth : List Str) : Prop := ∀ n ∈ oth, PySem.W.kitOne K (.ref (adrOf K n)) (.ref (adrOf K nm)) = some false
theorem sub_bt {K : PySem.W.Frag} {C : Addr} {n : String} (h : n ∈ ["NoneType", "bool", "int", "str", "list", "tuple", "dict"]) : PySem.W.subIn K (.type n) (.ref C) = some false := by
  have e : (PySem.fastBuiltinMro n).map (fun l => l.all fun v => match v with | .type _ => true | _ => false) = some true := by
    simp only [List.mem_cons, List.not_mem_nil, or_false] at h
    rcases h with rfl | rfl | rfl | rfl | rfl | rfl | rfl <;> kernel_rfl
  unfold PySem.W.subIn
  cases q : PySem.fastBuiltinMro n with
  | none => rw [q] at e; cases e
  | some l =>
    rw [q] at e
    simp only [Option.map_some, Option.some.injEq] at e
    show (PySem.fastBuiltinMro n).map (fun l => l.contains (Value.ref C)) = some false
    rw [q]
    show some (l.contains (Value.ref C)) = some false
    congr 1
    rw [Bool.eq_false_iff]
    intro z
    rw [List.contains_iff_mem] at z
    have := List.all_eq_true.mp e _ z
    simp at this
theorem cls_bt {K : PySem.W.Frag} {C : Addr} (ic : IsC K C) {n : String} (h : n ∈ ["NoneType", "bool", "int", "str", "list", "tuple", "dict"]) : PySem.W.kitOne K (.type n) (.ref C) = some false ∧ PySem.W.notFirst K C (.type n) = true := by
  have s := sub_bt (K := K) (C := C) h
  constructor
  · unfold PySem.W.kitOne
    rw [if_neg (by simp)]
    show (if ((PySem.W.clsIn K C).isSome && PySem.W.typeIn K (.ref C) == some (.type "type")) = true then PySem.W.subIn K (.type n) (.ref C) else none) = some false
    rw [if_pos (by rw [ic.ic, ic.ty]; simp)]
    exact s
  · unfold PySem.W.notFirst
    rw [s]
    simp
theorem cls_ref {K : PySem.W.Frag} {C C' : Addr} (h : PySem.W.kitOne K (.ref C') (.ref C) = some false) : PySem.W.notFirst K C (.ref C') = true := by
  unfold PySem.W.kitOne at h
  split at h
  · cases h
  · have h : (if ((PySem.W.clsIn K C).isSome && PySem.W.typeIn K (.ref C) == some (.type "type")) = true then PySem.W.subIn K (.ref C') (.ref C) else none) = some false := h
    unfold PySem.W.notFirst
    split at h
    · rw [h]; simp
    · cases h
def isTy : D → Bool
  | .dict [(.bool false, _)] => true
  | _ => false
def clsOk (oth : List Str) (nm : Str) (d : D) : Option Bool := match insN d with
  | none => if isTy d = true then none else some false
  | some n => if n = nm then some true else if n ∈ oth then some false else none
theorem ty_cls {K : PySem.W.Frag} {O : Addr → Prop} {H : Hp} {v : V} {d : D} {nm : Str} {oth : List Str} {b : Bool} (r : Rp K (hide O H) v d) (ic : IsC K (adrOf K nm)) (ho : Oth K nm oth) (h : clsOk oth nm d = some b) :
    ∃ t, TyX K H v t ∧ PySem.W.kitOne K t (.ref (adrOf K nm)) = some b ∧ PySem.W.notFirst K (adrOf K nm) t = true := by
  have fin : ∀ n, n ∈ ["NoneType", "bool", "int", "str", "list", "tuple", "dict"] → b = false → TyX K H v (.type n) → ∃ t, TyX K H v t ∧ PySem.W.kitOne K t (.ref (adrOf K nm)) = some b ∧ PySem.W.notFirst K (adrOf K nm) t = true := fun n e hb hz => by
    subst hb
    exact ⟨.type n, hz, (cls_bt ic e).1, (cls_bt ic e).2⟩
  have nb : insN d = none → b = false := fun e => by
    unfold clsOk at h
    rw [e] at h
    dsimp only at h
    split at h
    · cases h
    · cases h; rfl
  cases r with
  | ins o hg _ z =>
    subst z
    refine ⟨_, .base (.ins (hide_some.1 hg).2 o.cls o.ha o.hn o.htk o.hm), ?_⟩
    unfold clsOk at h
    rw [insN_ob] at h
    dsimp only at h
    split at h
    · rename_i e
      subst e
      cases h
      refine ⟨?_, ?_⟩
      · unfold PySem.W.kitOne; rw [if_pos (by simp)]
      · unfold PySem.W.notFirst; simp
    · split at h
      · rename_i hm
        cases h
        exact ⟨ho _ hm, cls_ref (ho _ hm)⟩
      · cases h
  | typ nm' o => unfold clsOk at h; cases h
  | non => exact fin _ (by simp) (nb rfl) (.base .non)
  | bl b => exact fin _ (by simp) (nb rfl) (.base (.bl b))
  | int b => exact fin _ (by simp) (nb rfl) (.base (.int b))
  | str b => exact fin _ (by simp) (nb rfl) (.base (.str b))
  | lst hg _ => exact fin _ (by simp) (nb rfl) (.base (.lst (at_of hg)))
  | dct hg _ z =>
    rename_i kvs _ _
    refine fin _ (by simp) (nb ?_) (.base (.dK (at_of hg)))
    subst z
    cases kvs with
    | nil => rfl
    | cons p r => obtain ⟨k, d⟩ := p; cases k <;> rfl
  | tup hg _ =>
    rcases sqt_of hg with (hg | ⟨o, hg⟩) | ⟨o, its, n, h1, h2, _⟩
    · exact fin _ (by simp) (nb rfl) (.base (.tup hg))
    · exact fin _ (by simp) (nb rfl) (.fTuple hg)
    · exact fin _ (by simp) (nb rfl) (.kTuple h1 h2)
  | frz hg _ =>
    rcases sql_of hg with (hg | ⟨o, hg⟩) | ⟨o, its, n, h1, h2, _⟩
    · exact fin _ (by simp) (nb rfl) (.base (.lst hg))
    · exact fin _ (by simp) (nb rfl) (.base (.frz hg))
    · exact fin _ (by simp) (nb rfl) (.kList h1 h2)
section
variable {X : Cx} {a b c e o : Expr} {fa fb fc fo : DE} {pos p apos : Pos} {es : List Expr} {x y m nm : Str} {k n : Nat} {g : DA} {oth : List Str}
def dIsC (oth : List Str) (nm : Str) (fa : DE) : DE := fun ρ Q => fa ρ fun d ρ1 => ∃ b, clsOk oth nm d = some b ∧ Q (.bool b) ρ1
theorem je_isC {py : Pos} (hm : X.mg "isinstance" = none) (hmy : X.mg nm = some (.ref (adrOf X.K nm))) (ic : IsC X.K (adrOf X.K nm)) (ho : Oth X.K nm oth) (ha : JE X a fa) (hg : Gl X "isinstance" := by rfl) (hgy : Gl X nm := by rfl) (hdb : (nm == ("__debug__" : Str)) = false := by decide)
    (h1 : starEach [a, Expr.Name nm py] X.env = (false, eval a X.env) :: starEach [Expr.Name nm py] X.env := by rfl) (h2 : starEach [Expr.Name nm py] X.env = (false, eval (Expr.Name nm py) X.env) :: starEach [] X.env := by rfl) (h3 : (backTo pos (starEach [Expr.Name nm py] X.env)).any (·.1) = false := by rfl) :
    JE X (.Call (.Name "isinstance" p) [a, .Name nm py] [] pos) (dIsC oth nm fa) := by
  obtain ⟨ta, pa, ka⟩ := ha.ex
  refine ⟨_, pe_callB call_isi hg hm (by decide +kernel) (pa_cons pa (pa_cons (pe_glob (v := V.ref (adrOf X.K nm)) hgy hmy rfl hdb) pa_nil h2) h1) (by decide) (by decide) h1 h3, fun T ρ σ H QD Q r h q => ka T ρ σ H _ _ r h fun d ρ1 v H1 r1 p1 v1 h => ?_⟩
  obtain ⟨b, e, h⟩ := h
  obtain ⟨t, ht, hk, _⟩ := ty_cls v1 ic ho e
  exact ⟨v, .ref (adrOf X.K nm), t, .ref (adrOf X.K nm), b, rfl, .own _, ht, hk, q _ _ _ _ r1 p1 (.bl b) h⟩
def OkS (P : Program) (w : World) (K : PySem.W.Frag) (mg : Str → Option Value) (base : Heap) (C : Addr) (m : Str) (k : Nat) (sp : Sp) : Prop :=
  ∃ f, Slo K C m f ∧ FnR P w K mg base L2.CX0 k f sp
end
end Dn
set_option Elab.async false
set_option linter.all false
set_option maxRecDepth 100000
set_option autoImplicit false
set_option maxHeartbeats 4000000
namespace Dn
open PySem L2 Evl PySem.Spec PyProof.Rows
section
variable {X : Cx} {a b c e o : Expr} {fa fb fc fo : DE} {pos p apos : Pos} {es : List Expr} {x y m nm : Str} {k n : Nat} {g : DA} {oth : List Str}
def dEqI (oth : List Str) (nm : Str) (S : List D → (D → Prop) → Prop) (ng : Bool) (fa fb : DE) : DE := fun ρ Q => fa ρ fun d ρ1 => fb ρ1 fun e ρ2 => (∃ es, d = obD nm es) ∧ (∃ b, clsOk oth nm e = some b) ∧ S [d, e] fun z => ∃ b, z = .bool b ∧ Q (.bool (b ^^ ng)) ρ2
def dLenI (nm : Str) (S : List D → (D → Prop) → Prop) (fa : DE) : DE := fun ρ Q => fa ρ fun d ρ1 => (∃ es, d = obD nm es) ∧ S [d] fun z => ∃ n : Nat, z = .int n ∧ n < 2 ^ 63 ∧ Q (.int n) ρ1
theorem je_lenI {S : List D → (D → Prop) → Prop} (O : OkS X.prog X.w X.K X.mg X.base (adrOf X.K nm) "__len__" k (spD X.K 1 S)) (hr : Room (k + 1) X.A) (hm : X.mg "len" = none) (ha : JE X a fa) (hg : Gl X "len" := by rfl)
    (h1 : starEach [a] X.env = (false, eval a X.env) :: starEach [] X.env := by rfl) (h3 : (backTo pos (starEach [] X.env)).any (·.1) = false := by rfl) : JE X (.Call (.Name "len" p) [a] [] pos) (dLenI nm S fa) := by
  obtain ⟨f, hs, F⟩ := O
  obtain ⟨ta, pa, ka⟩ := ha.ex
  refine ⟨_, pe_callB (call_lenOwn (E := fun _ _ _ => False) hs F hr (fun _ _ _ _ _ _ _ h => h.elim)) hg hm (by decide +kernel) (pa_cons pa pa_nil h1) (by decide) (by decide) h1 h3, fun T ρ σ H QD Q r h q => ka T ρ σ H _ _ r h fun d ρ1 v H1 r1 p1 v1 h => ?_⟩
  obtain ⟨⟨es', rfl⟩, h⟩ := h
  obtain ⟨l, dx, fs, rfl, ob, hg, rf⟩ := obj_rp v1
  refine ⟨l, dx, fs, rfl, (hide_some.1 hg).2, rfl, Hd T ρ1 σ, _, _, fun a => r1.hdLv, .cons v1 .nil, h, fun v d H' hq e rv' => ?_⟩
  obtain ⟨n, rfl, hn, hq⟩ := hq
  cases rv'
  exact ⟨n, rfl, hn, q _ ρ1 _ H' (r1.grow e) (p1.trans (.grow e)) (.int _) hq⟩
def dStrO (nm : Str) (S : List D → (D → Prop) → Prop) (fa : DE) : DE := fun ρ Q => fa ρ fun d ρ1 => (∃ es, d = obD nm es) ∧ S [d] fun z => ∃ x, z = .str x ∧ Q (.str x) ρ1
def dFmt (fa : DE) : DE := fun ρ Q => fa ρ fun d ρ1 => ∃ i : Int, d = .int i ∧ i.natAbs.log2 < 1920 ∧ Q (.str (toString i)) ρ1
def dJs : List DE → Str → Env → (Str → Env → Prop) → Prop
  | [], acc, ρ, Q => Q acc ρ
  | f :: fs, acc, ρ, Q => f ρ fun d ρ1 => ∃ y : Str, d = .str y ∧ (acc ++ y).length ≤ sizeLine ∧ dJs fs (acc ++ y) ρ1 Q
def dJoin (fs : List DE) : DE := fun ρ Q => dJs fs Str.empty ρ fun y ρ1 => Q (.str y) ρ1
end
section
variable {P : Program} {w : World} {K : PySem.W.Frag} {mg : Str → Option Value} {base : Heap} {C : Addr} {st : Stmt} {N ps : List Str} {m q nm : Str} {k : Nat}
def IsM (K : PySem.W.Frag) (C : Addr) (m q : Str) (st : Stmt) : Prop := ∃ f fd, FunD K m q (defArgs st) (defBody st) (defScope st) [] [] f fd ∧ Meth K C m f
abbrev BindsM (m q : Str) (st : Stmt) (ps : List Str) : Prop := ∀ (kV doc pm : Value) (an : Option Addr) (cdv ct : Value) (us : List Value), us.length = ps.length → bindArgs (PySem.W.fnOf m q (defArgs st) (defBody st) (defScope st) .none kV doc pm an cdv ct) ⟨us, []⟩ = pure (ps.zip us)
theorem ok_mD {S : List D → (D → Prop) → Prop} {g : DS} (F : IsM K C m q st) (Sc : FnScope N ps (defScope st)) (bs : BindsM m q st ps) (hb : BodyCx P w K mg base q st N k fun X => JSs X (defBody st) g)
    (hS : ∀ (ds : List D) (Q : D → Prop), ds.length = ps.length → S ds Q → g { nx := fun _ => Q .none, rt := fun d _ => Q d } (envD ds (N.length - ps.length))) : OkM P w K mg base C m ps (k + 1) (spD K ps.length S) := by
  obtain ⟨f, fd, F, hm⟩ := F
  exact ⟨f, fd, fn_D F Sc (fun cdv A outer s H E hr => hb f cdv A outer s H E hr) hS, hm, F.bindsN bs⟩
theorem OkM.slot {sp : Sp} (h : OkM P w K mg base C m ps k sp) : OkS P w K mg base C m k sp := by
  obtain ⟨f, fd, F, M, B⟩ := h
  refine ⟨f, ⟨M.at_, M.fn⟩, ?_⟩
  have := FnOk.raw F B .nil
  exact FnR.imp this fun vs H Q E z => by simpa using z
end
end Dn
set_option Elab.async false
set_option linter.all false
set_option maxRecDepth 100000
set_option autoImplicit false
set_option maxHeartbeats 4000000
namespace Dn
open PySem L2 Evl PySem.Spec PyProof.Rows
section
variable {P : Program} {w : World} {K : PySem.W.Frag} {mg : Str → Option Value} {base : Heap} {C : Addr} {st : Stmt} {N ps : List Str} {m q nm : Str} {k : Nat} {f : Addr} {fd : FuncData}
theorem fn_I {name qual : Str} {params : Arguments} {body : List Stmt} {scope : Scope} {S : List D → (List (Str × D) → Prop) → Prop} {g : DS} (F : FunD K name qual params body scope [] [] f fd) (Sc : FnScope N ps scope)
    (hb : ∀ (cdv : Value) (A : Around) (outer : List PySem.Env) (s : Shared) (H : Hp) (E : XK), Room k (A.deeper (envOfC qual scope s.heap.objs.size f cdv)) → JSs (cxOf L2.CX0 P w K mg base N qual scope f cdv A outer s H E).nox body g)
    (hS : ∀ (l : Addr) (ds : List D) (Q : List (Str × D) → Prop), ds.length + 1 = ps.length → S ds Q → g { nx := fun ρ => ∃ es, ρ[0]? = some (some (.ow (.par l (.obj nm es)))) ∧ Q es, rt := fun _ _ => False } (some (.ow (.par l (.obj nm []))) :: envD ds (N.length - ps.length))) :
    FnOk P w K mg base L2.CX0 (k + 1) f fd ps (spI K nm ps.length S) := by
  refine F.ok Sc (fun vs H Q E h => ?_) (fun cdv A outer s H vs Q E hr h => ?_)
  · obtain ⟨T, x, dx, us, ds, QD, rfl, hn, _⟩ := h
    simpa using hn
  obtain ⟨t, pt, kt⟩ := (hb cdv A outer s H E hr).ex
  refine ⟨t, PSs.nox pt, ?_⟩
  obtain ⟨T, l, dx, us, ds, QD, rfl, hl1, ob, hT, nT, ho, rv, hs, hq⟩ := h
  have hl2 : ds.length + 1 = ps.length := by rw [← rv.length, hl1]
  generalize hρ : (some (SV.ow (.par l (.obj nm []))) :: envD ds (N.length - ps.length) : Env) = ρ0
  have g0 : ∀ (i : Nat) (sv : SV), ρ0[i]? = some (some sv) → (i = 0 ∧ sv = .ow (.par l (.obj nm []))) ∨ ∃ j d, i = j + 1 ∧ ds[j]? = some d ∧ sv = .im d := fun i sv h => by
    subst hρ
    cases i with
    | zero => simp at h; exact .inl ⟨rfl, h.symm⟩
    | succ j =>
      obtain ⟨d, h1, h2⟩ := envD_get (show (envD ds (N.length - ps.length))[j]? = _ by simpa using h)
      exact .inr ⟨j, d, rfl, h1, h2⟩
  have s0 : (L2.start N (.ref l :: us))[0]? = some (some (V.ref l)) := start_get rfl
  have own : ∀ a, Own ρ0 (L2.start N (.ref l :: us)) a → a = l := fun a ⟨i, m, h1, h2⟩ => by
    rcases g0 i _ h1 with ⟨rfl, _⟩ | ⟨_, _, _, _, z⟩
    · rw [s0] at h2; cases h2; rfl
    · cases z
  have e0 : Ex (hide (plus T l) H) (hide (Hd T ρ0 (L2.start N (.ref l :: us))) H) := hide_sub fun a w => w.elim .inr fun w => .inl (own a w)
  have r0 : RS K T ρ0 (L2.start N (.ref l :: us)) H := by
    refine ⟨?_, fun i d h => ?_, fun i m h => ?_, fun i j m m' a h1 h2 _ _ => ?_, fun a t w => ?_, hT, fun i q m a h1 h2 => ?_⟩
    · rw [← hρ]; unfold L2.start; simp [envD_len, ← hl2, rv.length]
    · rcases g0 i _ h with ⟨_, z⟩ | ⟨j, d', rfl, h1, z⟩
      · cases z
      · cases z
        obtain ⟨v, h2, h3⟩ := rv.get h1
        exact ⟨v, start_get (by simpa using h2), h3.mono e0⟩
    · rcases g0 i _ h with ⟨rfl, z⟩ | ⟨_, _, _, _, z⟩
      · cases z
        exact ⟨l, _, s0, ho, by unfold RpO; exact ⟨rfl, ob, .nil⟩⟩
      · cases z
    · rcases g0 i _ h1 with ⟨rfl, _⟩ | ⟨_, _, _, _, z⟩
      · rcases g0 j _ h2 with ⟨rfl, _⟩ | ⟨_, _, _, _, z⟩
        · rfl
        · cases z
      · cases z
    · rw [own a w] at t; exact nT t
    · rcases g0 i _ h1 with ⟨rfl, z⟩ | ⟨_, _, _, _, z⟩
      · cases z; rw [s0] at h2; cases h2; rfl
      · cases z
  have kp : ∀ {ρ' : Env} {σ' : L2.St} {H' : Hp}, Po ρ0 (L2.start N (.ref l :: us)) H ρ' σ' H' → ∀ a o, a ≠ l → H a = some o → H' a = some o := fun q a o ne h => q.keep a o (fun w => ne (own a w)) h
  rw [← hρ] at *
  refine kt T _ _ H _ _ r0 (hS l ds QD hl2 hs) ⟨fun ρ' σ' H' r q h => ?_, fun _ _ _ _ _ _ _ _ h => h.elim, fun _ _ _ _ _ h => h.elim, fun _ _ _ _ _ h => h.elim, fun _ _ _ _ _ _ _ h => h.elim⟩
  obtain ⟨es, h1, h2⟩ := h
  obtain ⟨a, o, a1, a2, a3⟩ := r.ow 0 _ h1
  obtain rfl := r.tag 0 _ _ a h1 a1
  have a3 : RpO K (hide (Hd T ρ' σ') H') (.obj nm es) o := by unfold RpO at a3; exact a3
  cases o with
  | ins C dx' fs =>
    obtain ⟨rfl, _, rf⟩ := (show C = adrOf K nm ∧ ObjC K C ∧ RpFs K _ fs es from a3)
    have e : Ex (hide (Hd T ρ' σ') H') (hide (plus T a) H') := hide_sub fun b w => w.elim (fun z => .inr ⟨0, _, h1, by rw [z]; exact a1⟩) .inl
    exact hq es fs dx' H' h2 (kp q) a2 (rf.mono e)
  | _ => exact False.elim a3
theorem ok_I {S : List D → (List (Str × D) → Prop) → Prop} {g : DS} (F : ∃ f fd, FunD K "__init__" q (defArgs st) (defBody st) (defScope st) [] [] f fd ∧ L2.Mk K (adrOf K nm) f) (hm : mg nm = some (.ref (adrOf K nm))) (ob : ObjC K (adrOf K nm)) (Sc : FnScope N ps (defScope st)) (bs : BindsM "__init__" q st ps) (hb : BodyCx P w K mg base q st N k fun X => JSs X (defBody st) g)
    (hS : ∀ (l : Addr) (ds : List D) (Q : List (Str × D) → Prop), ds.length + 1 = ps.length → S ds Q → g { nx := fun ρ => ∃ es, ρ[0]? = some (some (.ow (.par l (.obj nm es)))) ∧ Q es, rt := fun _ _ => False } (some (.ow (.par l (.obj nm []))) :: envD ds (N.length - ps.length))) :
    OkI P w K mg base nm ps (k + 1) (spI K nm ps.length S) := by
  obtain ⟨f, fd, F, M⟩ := F
  exact ⟨f, fd, fn_I F Sc (fun cdv A outer s H E hr => hb f cdv A outer s H E hr) hS, M, F.bindsN bs, hm, ob⟩
def IsP (K : PySem.W.Frag) (C : Addr) (m q : Str) (st : Stmt) : Prop := ∃ p f fd, FunD K m q (defArgs st) (defBody st) (defScope st) [] [] f fd ∧ PropOf K C m p f
theorem ok_pD {S : List D → (D → Prop) → Prop} {g : DS} (F : IsP K C m q st) (Sc : FnScope N ["self"] (defScope st)) (bs : BindsM m q st ["self"]) (hb : BodyCx P w K mg base q st N k fun X => JSs X (defBody st) g)
    (hS : ∀ (ds : List D) (Q : D → Prop), ds.length = 1 → S ds Q → g { nx := fun _ => Q .none, rt := fun d _ => Q d } (envD ds (N.length - 1))) : OkP P w K mg base C m (k + 1) (spD K 1 S) := by
  obtain ⟨p, f, fd, F, hm⟩ := F
  exact ⟨p, f, fd, hm, fn_D F Sc (fun cdv A outer s H E hr => hb f cdv A outer s H E hr) hS, F.bindsN bs⟩
end
abbrev VI (nm : Str) (g : DS) (S : List D → (List (Str × D) → Prop) → Prop) (np m : Nat) : Prop := ∀ (l : Addr) (ds : List D) (Q : List (Str × D) → Prop), ds.length + 1 = np → S ds Q → g { nx := fun ρ => ∃ es, ρ[0]? = some (some (.ow (.par l (.obj nm es)))) ∧ Q es, rt := fun _ _ => False } (some (.ow (.par l (.obj nm []))) :: envD ds m)
end Dn
set_option Elab.async false
set_option linter.all false
set_option maxRecDepth 100000
set_option autoImplicit false
set_option maxHeartbeats 4000000
namespace Dn
open PySem L2 Evl PySem.Spec PyProof.Rows
abbrev clsD (nm : Str) : D := .dict [(.bool false, .str nm)]
section
variable {K : PySem.W.Frag} {G : Hp}
end
section
variable {X : Cx} {a b c e o : Expr} {fa fb fc fo : DE} {pos p apos : Pos} {es : List Expr} {x y m nm : Str} {k n : Nat} {g : DA}
def dCM (n : Nat) (nm m : Str) (S : List D → (D → Prop) → Prop) (g : DA) : DE := fun ρ Q => g ρ fun ds ρ1 => ds.length + 1 = n ∧ S (clsD nm :: ds) fun z => Q z ρ1
def dNewV (i n : Nat) (nm : Str) (S : List D → (List (Str × D) → Prop) → Prop) (g : DA) : DE := fun ρ Q => ρ[i]? = some (some (.im (clsD nm))) ∧ g ρ fun ds ρ1 => ds.length + 1 = n ∧ S ds fun es => Q (obD nm es) ρ1
end
section
variable {P : Program} {w : World} {K : PySem.W.Frag} {mg : Str → Option Value} {base : Heap} {C : Addr} {st : Stmt} {N ps : List Str} {m q nm : Str} {k : Nat}
structure ClsF (K : PySem.W.Frag) (mg : Str → Option Value) (nm : Str) (fields : List Str) : Prop where
  mg : mg nm = some (.ref (adrOf K nm))
  cl : Cls K (adrOf K nm)
  ob : ObjC K (adrOf K nm)
  ic : IsC K (adrOf K nm)
  ne : PySem.W.findIn K (.ref (adrOf K nm)) "__ne__" = some (some (.builtin "object.__ne__"))
  na : ∀ f ∈ fields, NoAttr K (adrOf K nm) f
theorem oth0 {K : PySem.W.Frag} {nm : Str} : Oth K nm [] := fun _ h => by cases h
end
end Dn
set_option Elab.async false
set_option linter.all false
set_option maxRecDepth 100000
set_option autoImplicit false
set_option maxHeartbeats 2000000
namespace He
open PySem PySem.Spec PyProof.Rows L2 PySem.W
theorem obB_ok {K : Frag} {nm : Str} (h : obB K nm = true) (c : Cls K (ga K nm)) : Dn.adrOf K nm = ga K nm ∧ Dn.ObjC K (Dn.adrOf K nm) ∧ Dn.IsC K (Dn.adrOf K nm) ∧ findIn K (.ref (Dn.adrOf K nm)) "__ne__" = some (some (.builtin "object.__ne__")) := by
  unfold obB at h
  simp only [Bool.and_eq_true, decide_eq_true_eq] at h
  obtain ⟨h1, h2, h3, h4, h5, h6, h7, h8⟩ := h
  refine ⟨h1, ?_⟩
  rw [h1]
  obtain ⟨cd, e1, e2⟩ := Option.map_eq_some_iff.mp h5
  have mr : ∀ b : Value, mroIn K (ga K nm) b = some ([Value.ref (ga K nm), .type "object"].contains b) := fun b => by
    unfold mroIn
    rw [e1, Option.bind_some, e2]
    rfl
  refine ⟨⟨c, eqO_ok h2, eqO_ok h3, h4, ?_, h6, eqO_ok h7, fun tn b ns hk => ?_⟩, ⟨?_, h6⟩, eqO_ok h8⟩
  · rw [mr]
    simp
  · unfold kitB at hk
    rw [if_neg (by simpa using fun e => ns e.symm)] at hk
    unfold kitOne
    rw [if_neg (by simp)]
    show (if kitMeta tn = true then subIn K (.ref (ga K nm)) (.type tn) else none) = some b
    split at hk
    · rename_i hm
      rw [if_pos hm]
      show mroIn K (ga K nm) (.type tn) = some b
      rw [mr]
      rw [show PySem.fastBuiltinMro "slice" = some [.type "slice", .type "object"] by kernel_rfl] at hk
      simp only [Option.map_some, Option.some.injEq] at hk
      rw [← hk]
      congr 1
      simp only [List.contains_cons, List.contains_nil, Bool.or_false]
      have n1 : (Value.type tn == Value.type "slice") = false := by simpa using ns
      have n2 : (Value.type tn == Value.ref (ga K nm)) = false := by simp
      rw [n1, n2]
    · cases hk
  · rw [e1]; rfl
end He
set_option Elab.async false
set_option linter.all false
set_option maxRecDepth 100000
set_option autoImplicit false
set_option maxHeartbeats 4000000
namespace Dn
open PySem L2 Evl PySem.Spec PyProof.Rows
section
variable {K : PySem.W.Frag} {T : Addr → Prop} {ρ : Env} {σ : L2.St} {H H' : Hp} {l : Addr}
theorem RS.hid (r : RS K T ρ σ H) (tl : T l) (lv : Lv H' l) (kp : ∀ a o, a ≠ l → H a = some o → H' a = some o) : RS K T ρ σ H' := by
  have ex : Ex (hide (Hd T ρ σ) H) (hide (Hd T ρ σ) H') := fun a u z => by
    obtain ⟨n, z⟩ := hide_some.1 z
    exact hide_some.2 ⟨n, kp a u (fun w => n (.inl (w ▸ tl))) z⟩
  refine ⟨r.len, fun i d h => ?_, fun i m h => ?_, r.inj, r.dis, fun a t => ?_, r.tag⟩
  · obtain ⟨v, h1, h2⟩ := r.im i d h
    exact ⟨v, h1, h2.mono ex⟩
  · obtain ⟨a, o, h1, h2, h3⟩ := r.ow i m h
    exact ⟨a, o, h1, kp a o (fun w => r.dis l tl (w ▸ ⟨i, m, h, h1⟩)) h2, h3.mono ex⟩
  · by_cases z : a = l
    · subst z; exact lv
    · exact (r.dom a t).keep fun o h => kp a o z h
end
section
variable {X : Cx} {a b c e o : Expr} {fa fb fc fo : DE} {pos p apos : Pos} {es : List Expr} {x y m nm : Str} {k n : Nat} {g : DA}
def dCallML (n : Nat) (S : List D → List D → (D → List D → Prop) → Prop) (gl : DL) (g : DA) : DE := fun ρ Q => gl ρ fun ms ρ1 => g ρ1 fun ds ρ2 => ds.length + 1 = n ∧ S ms ds fun d _ => Q d ρ2
def iRgO (i : Nat) : DL := fun ρ Q => ∃ n : Int, ρ[i]? = some (some (.ow (.rng n))) ∧ 0 ≤ n ∧ n < 2 ^ 62 ∧ Q (rgD 0 n) ρ
theorem ji_rgO {tg : Expr} {i : Nat} {px : Pos} (hN : X.N[i]? = some x) (hv : Vis X.env.scope x) (hd : (x == ("__debug__" : Str)) = false := by decide) (hcd : (x == ("__classdict__" : Str)) = false := by decide) : JI X tg (.Name x px) (iRgO i) := by
  refine ⟨_, Cq.pi_rg (pe_var hN hv hd hcd), fun T ρ σ H QD R r h q => ?_⟩
  obtain ⟨n, e1, n0, n1, h⟩ := h
  obtain ⟨a, o, hv', ho, hr⟩ := r.ow i _ e1
  cases o with
  | rng lo hi =>
    obtain ⟨rfl, rfl⟩ := (show lo = 0 ∧ hi = n from hr)
    have z := q _ _ _ _ r .refl (it_range (K := X.K) 0 hi) h
    rw [show (hi - 0).toNat = hi.toNat from by congr 1; omega] at z
    exact ⟨_, hv', a, hi, rfl, ho, n0, n1, z⟩
  | _ => exact False.elim hr
def sSubI (i : Nat) (fe : DE) : DS := fun E ρ => match ρ[i]? with
  | some (some (.im (.int n))) => fe ρ fun d ρ1 => match d with
    | .int m => E.nx (ρ1.set i (some (.im (.int (n - m)))))
    | _ => False
  | _ => False
end
end Dn
set_option Elab.async false
set_option linter.all false
set_option maxRecDepth 100000
set_option autoImplicit false
set_option maxHeartbeats 4000000
namespace Dn
open PySem L2 Evl PySem.Spec PyProof.Rows
section
variable {X : Cx} {e : Expr} {es : List Expr} {f : DE} {ft : DT} {fa : DA}
noncomputable def JE.t (h : JE X e f) : TE := h.ex.choose
theorem JE.p (h : JE X e f) : PE X e h.t := h.ex.choose_spec.1
theorem JE.k (h : JE X e f) : ∀ (T : Addr → Prop) (ρ : Env) (σ : L2.St) (H : Hp) (QD : D → Env → Prop) (Q : VK), RS X.K T ρ σ H → f ρ QD →
    (∀ d ρ' v H', RS X.K T ρ' σ H' → Po ρ σ H ρ' σ H' → Rp X.K (hide (Hd T ρ' σ) H') v d → QD d ρ' → Q v H') → h.t σ H Q := h.ex.choose_spec.2
noncomputable def JT.t (h : JT X e ft) : TT := h.ex.choose
theorem JT.p (h : JT X e ft) : PT X e h.t := h.ex.choose_spec.1
theorem JT.k (h : JT X e ft) : ∀ (T : Addr → Prop) (ρ : Env) (σ : L2.St) (H : Hp) (QD : Bool → Env → Prop) (Q : Bool → Hp → Prop), RS X.K T ρ σ H → ft ρ QD →
    (∀ b ρ' H', RS X.K T ρ' σ H' → Po ρ σ H ρ' σ H' → QD b ρ' → Q b H') → h.t σ H Q := h.ex.choose_spec.2
noncomputable def JA.t (h : JA X es fa) : TA := h.ex.choose
theorem JA.p (h : JA X es fa) : PA X es h.t := h.ex.choose_spec.1
theorem JA.k (h : JA X es fa) : ∀ (T : Addr → Prop) (ρ : Env) (σ : L2.St) (H : Hp) (QD : List D → Env → Prop) (Q : List V → Hp → Prop), RS X.K T ρ σ H → fa ρ QD →
    (∀ ds ρ' vs H', RS X.K T ρ' σ H' → Po ρ σ H ρ' σ H' → RpAll X.K (hide (Hd T ρ' σ) H') vs ds → QD ds ρ' → Q vs H') → h.t σ H Q := h.ex.choose_spec.2
def Im (ρ : Env) : Prop := ∀ (i : Nat) (m : MO), ρ[i]? ≠ some (some (SV.ow m))
theorem Im.no {ρ : Env} {σ : L2.St} (h : Im ρ) (a : Addr) : ¬ Own ρ σ a := fun ⟨i, m, z, _⟩ => h i m z
theorem Im.set {ρ : Env} (h : Im ρ) (i : Nat) (d : D) : Im (ρ.set i (some (SV.im d))) := fun j m z => by
  rw [List.getElem?_set] at z
  split at z
  · split at z
    · cases z
    · cases z
  · exact h j m z
theorem Im.po {ρ ρ' : Env} {σ σ' : L2.St} {H H' : Hp} (h : Im ρ) (p : Po ρ σ H ρ' σ' H') : Ex H H' := fun a o z => p.keep a o (h.no a) z
theorem Im.hd {ρ : Env} {σ : L2.St} {T : Addr → Prop} {H : Hp} (h : Im ρ) : Ex (hide (Hd T ρ σ) H) (hide T H) := fun a o z => by
  obtain ⟨n, z⟩ := hide_some.1 z
  exact hide_some.2 ⟨fun t => n (.inl t), z⟩
end
def cm (st : Stmt) (j : Nat) : Stmt := match st with
  | .ClassDef _ _ _ body _ _ _ _ _ _ _ => body.getD j (.Pass ⟨0, 0, 0, 0⟩)
  | s => s
end Dn
set_option Elab.async false
set_option linter.all false
set_option maxRecDepth 100000
set_option autoImplicit false
set_option maxHeartbeats 4000000
namespace Dn
open PySem L2 Evl PySem.Spec PyProof.Rows
abbrev ErP := Str → Option (Str × D) → Prop
abbrev DEX := Env → (D → Env → Prop) → ErP → Prop
theorem ErrAt.mono {K : PySem.W.Frag} {G G' H : Hp} {dd : Option Addr} {fd : Option (Str × D)} (e : Ex G G') (h : ErrAt K G H dd fd) : ErrAt K G' H dd fd := by
  cases fd with
  | none => trivial
  | some fd => obtain ⟨a, pv, h1, h2, h3⟩ := h; exact ⟨a, pv, h1, h2, h3.mono e⟩
theorem Po.nil {ρ ρ' : Env} {σ σ' τ : L2.St} {H H' : Hp} (p : Po ρ σ H ρ' σ' H') : Po ρ σ H [] τ H' := ⟨p.keep, fun a ⟨i, m, w, _⟩ => by simp at w, p.dom⟩
section
variable {X : Cx} {a b c e o : Expr} {fa fb fc fo : DE} {pos p apos : Pos} {es : List Expr} {x y m nm : Str} {k n : Nat} {g : DA}
def xOf (f : DE) : DEX := fun ρ Q _ => f ρ Q
def xCall (n : Nat) (S : List D → (D → Prop) → ErP → Prop) (g : DA) : DEX := fun ρ Q E => g ρ fun ds ρ1 => ds.length = n ∧ S ds (fun z => Q z ρ1) E
def xCM (n : Nat) (nm m : Str) (S : List D → (D → Prop) → ErP → Prop) (g : DA) : DEX := fun ρ Q E => g ρ fun ds ρ1 => ds.length + 1 = n ∧ S (clsD nm :: ds) (fun z => Q z ρ1) E
def xNew (n : Nat) (nm : Str) (S : List D → (List (Str × D) → Prop) → ErP → Prop) (g : DA) : DEX := fun ρ Q E => g ρ fun ds ρ1 => ds.length + 1 = n ∧ S ds (fun es => Q (obD nm es) ρ1) E
def xNewV (i n : Nat) (nm : Str) (S : List D → (List (Str × D) → Prop) → ErP → Prop) (g : DA) : DEX := fun ρ Q E => ρ[i]? = some (some (.im (clsD nm))) ∧ g ρ fun ds ρ1 => ds.length + 1 = n ∧ S ds (fun es => Q (obD nm es) ρ1) E
def xIf (t : DT) (f g : DEX) : DEX := fun ρ Q E => t ρ fun b ρ1 => if b = true then f ρ1 Q E else g ρ1 Q E
def sRetX (f : DEX) : DS := fun E ρ => f ρ E.rt E.er
def sExX (f : DEX) : DS := fun E ρ => f ρ (fun _ ρ1 => E.nx ρ1) E.er
def sSetX (i : Nat) (f : DEX) : DS := fun E ρ => f ρ (fun d ρ1 => E.nx (ρ1.set i (some (.im d)))) E.er
def sRaise (nm f : Str) (g : DA) : DS := fun E ρ => g ρ fun ds _ => ∃ d, ds = [d] ∧ E.er nm (some (f, d))
end
def sSui (f0 : Str) (g : D → DE) : Option (Str × D) → DS := fun fd E ρ => ∃ d, fd = some (f0, d) ∧ g d ρ E.rt
def sTry (hc : Str) (n : Nat) (fb : DS) (fs : Option (Str × D) → DS) : DS := fun E ρ => fb { E with er := fun nm fd => nm = hc ∧ fs fd { nx := fun _ => False, rt := E.rt } (List.replicate n none) } ρ
section
variable {X : Cx} {e : Expr} {np pos pos' pr : Pos} {body : List Stmt} {nm n : Str} {i : Nat} {f0 : Str} {g : D → DE} {fb : DS}
end
section
variable {P : Program} {w : World} {K : PySem.W.Frag} {mg : Str → Option Value} {base : Heap} {st : Stmt} {N ps : List Str} {k : Nat} {f : Addr} {fd : FuncData} {x nm m q : Str}
end
end Dn
namespace Dn
open PySem L2 Evl PySem.Spec PyProof.Rows
abbrev dErr : D → DE := fun d ρ Q => Q d ρ
end Dn
set_option Elab.async false
set_option linter.all false
set_option maxRecDepth 100000
set_option autoImplicit false
set_option maxHeartbeats 4000000
namespace Dn
open PySem L2 Evl PySem.Spec PyProof.Rows
theorem tyN_dl (kvs : List (D × D)) : tyN (.dict kvs) = "dict" ∨ tyN (.dict kvs) = "list" ∨ tyN (.dict kvs) = "slice" ∨ tyN (.dict kvs) = "type" := by
  unfold tyN
  split <;> first | exact .inl rfl | exact .inr (.inl rfl) | exact .inr (.inr (.inl rfl)) | exact .inr (.inr (.inr rfl)) | (rename_i h; cases h; done)
theorem kit_int (d : D) : kitB (tyN d) "int" = some (match d with | .int _ => true | .bool _ => true | _ => false) := by
  cases d with
  | dict kvs => rcases tyN_dl kvs with e | e | e | e <;> (rw [e]; show _ = some false; decide +kernel)
  | _ => simp only [tyN]; decide +kernel
theorem kit_bool (d : D) : kitB (tyN d) "bool" = some (match d with | .bool _ => true | _ => false) := by
  cases d with
  | dict kvs => rcases tyN_dl kvs with e | e | e | e <;> (rw [e]; show _ = some false; decide +kernel)
  | _ => simp only [tyN]; decide +kernel
theorem kit_tuple (d : D) : kitB (tyN d) "tuple" = some (match d with | .tuple _ => true | _ => false) := by
  cases d with
  | dict kvs => rcases tyN_dl kvs with e | e | e | e <;> (rw [e]; show _ = some false; decide +kernel)
  | _ => simp only [tyN]; decide +kernel
theorem kit_str (d : D) : kitB (tyN d) "str" = some (match d with | .str _ => true | _ => false) := by
  cases d with
  | dict kvs => rcases tyN_dl kvs with e | e | e | e <;> (rw [e]; show _ = some false; decide +kernel)
  | _ => simp only [tyN]; decide +kernel
theorem bool_ways {b : Bool} {P1 P2 : Prop} (h1 : b = true → P1) (h2 : b = false → P2) : (match PyData.bool b with | .bool true => P1 | .bool false => P2 | _ => False) := by
  cases b
  · exact h2 rfl
  · exact h1 rfl
theorem ite_ways {b : Bool} {P1 P2 : Prop} (h1 : b = true → P1) (h2 : b = false → P2) : (if b = true then P1 else P2) := by
  cases b
  · exact h2 rfl
  · exact h1 rfl
end Dn
set_option Elab.async false
set_option linter.all false
set_option maxRecDepth 100000
set_option autoImplicit false
set_option maxHeartbeats 4000000
namespace Dn
open PySem L2 Evl PySem.Spec PyProof.Rows
theorem map_split {α β : Type} {f : α → β} {l : List α} {done rest : List β} {d : β} (e : l.map f = done ++ d :: rest) : ∃ l1 x l2, l = l1 ++ x :: l2 ∧ done = l1.map f ∧ d = f x ∧ rest = l2.map f := by
  obtain ⟨l1, l2, h1, h2, h3⟩ := List.map_eq_append_iff.mp e
  cases l2 with
  | nil => simp at h3
  | cons x l2 =>
    simp at h3
    exact ⟨l1, x, l2, h1, h2.symm, h3.1.symm, h3.2.symm⟩
theorem wpLc_mapL {α : Type} {g : DG} {tt : DT} {te : DE} {vs : List Nat} {Q : List D → Env → Prop} (l : List α) (f h : α → D) {ρ0 : Env} (hl : l.length < 16777216) (hw : wipeD ρ0 vs = ρ0)
    (hs : ∀ x, x ∈ l → ∀ (K : D → Env → Prop), (∀ ρ3, wipeD ρ3 vs = ρ0 → K (h x) ρ3) → g (f x) ρ0 fun ρ1 => tt ρ1 fun b ρ2 => if b = true then te ρ2 fun y ρ3 => K y ρ3 else False)
    (hf : ∀ ρ1, tt ρ1 = fun K => K true ρ1) (he : Q (l.map h) ρ0) : wpLc g tt te vs Q (l.map f) [] ρ0 := by
  refine wpLc_cps (fun done acc ρ => ∃ l1 l2, l = l1 ++ l2 ∧ done = l1.map f ∧ acc = l1.map h ∧ ρ = ρ0) ⟨[], l, rfl, rfl, rfl, rfl⟩ (fun done d rest acc ρ K e p k => ?_) (fun acc ρ p => ?_)
  · obtain ⟨l1, x, l2, rfl, rfl, rfl, rfl⟩ := map_split e
    obtain ⟨m1, m2, e1, e2, rfl, rfl⟩ := p
    have e3 : m1 = l1 := by
      have h1 := congrArg List.length e2
      simp at h1
      have h2 := congrArg (List.take m1.length) e1
      rw [List.take_left, h1.symm, List.take_left] at h2
      exact h2.symm
    subst e3
    refine ⟨by simp at hl ⊢; omega, ?_⟩
    rw [hw]
    have z := hs x (by simp) (fun y ρ3 => K (m1.map h ++ [y]) (wipeD ρ3 vs)) fun ρ3 w => by rw [w]; exact k _ _ ⟨m1 ++ [x], l2, by simp, by simp, by simp, rfl⟩
    have e2 : (fun ρ1 => tt ρ1 fun b ρ2 => if b = true then te ρ2 fun y ρ3 => K (m1.map h ++ [y]) (wipeD ρ3 vs) else False) = fun ρ1 => tt ρ1 fun b ρ2 => if b = true then te ρ2 fun y ρ3 => K (m1.map h ++ [y]) (wipeD ρ3 vs) else K (m1.map h) (wipeD ρ2 vs) := by
      funext ρ1
      rw [hf ρ1]
      simp
    rw [← e2]
    exact z
  · obtain ⟨m1, m2, rfl, e2, rfl, rfl⟩ := p
    have : m2 = [] := by
      have h1 := congrArg List.length e2
      simp at h1
      exact h1
    subst this
    simpa using he
theorem wpLc_filL {α : Type} {g : DG} {tt : DT} {te : DE} {vs : List Nat} {Q : List D → Env → Prop} (l : List α) (f h : α → D) (p : α → Bool) {ρ0 : Env} (hl : l.length < 16777216) (hw : wipeD ρ0 vs = ρ0)
    (hs : ∀ x, x ∈ l → ∀ (K : D → Env → Prop) (N : Env → Prop), (p x = true → ∀ ρ3, wipeD ρ3 vs = ρ0 → K (h x) ρ3) → (p x = false → ∀ ρ3, wipeD ρ3 vs = ρ0 → N ρ3) → g (f x) ρ0 fun ρ1 => tt ρ1 fun b ρ2 => if b = true then te ρ2 fun y ρ3 => K y ρ3 else N ρ2)
    (he : Q ((l.filter p).map h) ρ0) : wpLc g tt te vs Q (l.map f) [] ρ0 := by
  refine wpLc_cps (fun done acc ρ => ∃ l1 l2, l = l1 ++ l2 ∧ done = l1.map f ∧ acc = (l1.filter p).map h ∧ ρ = ρ0) ⟨[], l, rfl, rfl, rfl, rfl⟩ (fun done d rest acc ρ K e q k => ?_) (fun acc ρ q => ?_)
  · obtain ⟨l1, x, l2, rfl, rfl, rfl, rfl⟩ := map_split e
    obtain ⟨m1, m2, e1, e2, rfl, rfl⟩ := q
    have e3 : m1 = l1 := by
      have h1 := congrArg List.length e2
      simp at h1
      have h2 := congrArg (List.take m1.length) e1
      rw [List.take_left, h1.symm, List.take_left] at h2
      exact h2.symm
    subst e3
    refine ⟨?_, ?_⟩
    · have h1 := List.length_filter_le p m1
      simp at hl ⊢
      omega
    · rw [hw]
      refine hs x (by simp) (fun y ρ3 => K ((m1.filter p).map h ++ [y]) (wipeD ρ3 vs)) (fun ρ2 => K ((m1.filter p).map h) (wipeD ρ2 vs)) (fun hp ρ3 w => ?_) (fun hp ρ3 w => ?_)
      · rw [w]; exact k _ _ ⟨m1 ++ [x], l2, by simp, by simp, by rw [List.filter_append, List.filter_cons_of_pos hp]; simp, rfl⟩
      · rw [w]; exact k _ _ ⟨m1 ++ [x], l2, by simp, by simp, by rw [List.filter_append, List.filter_cons_of_neg (by simp [hp])]; simp, rfl⟩
  · obtain ⟨m1, m2, rfl, e2, rfl, rfl⟩ := q
    have : m2 = [] := by
      have h1 := congrArg List.length e2
      simp at h1
      exact h1
    subst this
    simpa using he
theorem wpFor_fs {α : Type} {g : DG} {body : DS} {N bk ct : Env → Prop} {Q : D → Prop} (l : List α) (it : α → D) (f : α → Option D) {ρ0 : Env} (I : Env → Prop) (h0 : I ρ0)
    (hs : ∀ x, x ∈ l → ∀ (ρ : Env) (K B : Env → Prop), I ρ → (∀ v, f x = some v → Q v) → (f x = none → ∀ ρ', I ρ' → K ρ') → g (it x) ρ fun ρ1 => body { nx := K, ct := K, bk := B, rt := fun d _ => Q d } ρ1)
    (hf : ∀ v, l.findSome? f = some v → Q v) (hn : l.findSome? f = none → ∀ ρ, I ρ → N ρ) : wpFor g body { nx := N, rt := fun d _ => Q d, bk := bk, ct := ct } (l.map it) ρ0 := by
  induction l generalizing ρ0 with
  | nil => exact hn rfl ρ0 h0
  | cons d ds ih =>
    refine hs d List.mem_cons_self ρ0 _ _ h0 (fun v e => hf v ?_) (fun e ρ' i => ih i (fun d hd => hs d (List.mem_cons_of_mem _ hd)) (fun v h => hf v ?_) fun h => hn ?_)
    · rw [List.findSome?_cons, e]
    · rw [List.findSome?_cons, e]; exact h
    · rw [List.findSome?_cons, e]; exact h
theorem dLen_tR {rs : List (List Int)} {Q : D → Prop} : dLen [tR rs] Q = Q (.int rs.length) := by show Q _ = _; simp
theorem dLen_tI {rs : List Int} {Q : D → Prop} : dLen [tI rs] Q = Q (.int rs.length) := by show Q _ = _; simp
theorem dLen_tup {xs : List D} {Q : D → Prop} : dLen [.tuple xs] Q = Q (.int xs.length) := rfl
theorem dLen_lst {xs : List D} {Q : D → Prop} : dLen [.list xs] Q = Q (.int xs.length) := rfl
theorem seq_tup {xs : List D} : seqD (.tuple xs) = some xs := rfl
theorem seq_lst {xs : List D} : seqD (.list xs) = some xs := rfl
theorem enD_map {α : Type} (l : List α) (f : α → D) (d : α) : enD (l.map f) = (rgI l.length).map fun k => .tuple [.int k, f (l.getD k.toNat d)] := by
  apply List.ext_getElem?
  intro i
  by_cases h : i < l.length
  · unfold enD
    rw [List.getElem?_zipWith, List.getElem?_map, List.getElem?_map, rgI_get h, List.length_map, List.getElem?_range h]
    simp [h, List.getD]
  · rw [List.getElem?_eq_none_iff.mpr (by rw [enD_len]; simp; omega), List.getElem?_eq_none_iff.mpr (by simp [rgI_len]; omega)]
end Dn
set_option Elab.async false
set_option linter.all false
set_option maxRecDepth 100000
set_option autoImplicit false
set_option maxHeartbeats 4000000
namespace Dn
open PySem L2 Evl PySem.Spec PyProof.Rows
abbrev VD (g : DS) (S : List D → (D → Prop) → Prop) (np m : Nat) : Prop := ∀ (ds : List D) (Q : D → Prop), ds.length = np → S ds Q → g { nx := fun _ => Q .none, rt := fun d _ => Q d } (envD ds m)
abbrev VM (g : DS) (S : List D → List D → (D → List D → Prop) → Prop) (np m : Nat) : Prop := ∀ (l : Addr) (ms ds : List D) (Q : D → List D → Prop), ds.length + 1 = np → S ms ds Q →
  g { nx := fun ρ => ∃ ms', ρ[0]? = some (some (.ow (.par l (.lst ms')))) ∧ Q .none ms', rt := fun d ρ => ∃ ms', ρ[0]? = some (some (.ow (.par l (.lst ms')))) ∧ Q d ms' } (some (.ow (.par l (.lst ms))) :: envD ds m)
abbrev VL (g : (List D → Prop) → Env → Prop) (S : List D → (List D → Prop) → Prop) (np m : Nat) : Prop := ∀ (ds : List D) (Q : List D → Prop), ds.length = np → S ds Q → g Q (envD ds m)
theorem wpFor_ap {α : Type} {g : DG} {body : DS} {E : DEnds} (l : List α) (it h : α → D) (R : List D → Env → Prop) {ρ0 : Env} (h0 : R [] ρ0)
    (hs : ∀ x, x ∈ l → ∀ (acc : List D) (ρ : Env) (K : Env → Prop), R acc ρ → acc.length < l.length → (∀ ρ', R (acc ++ [h x]) ρ' → K ρ') → g (it x) ρ fun ρ1 => body { nx := K, ct := K, bk := E.nx, rt := E.rt, er := E.er } ρ1)
    (he : ∀ ρ, R (l.map h) ρ → E.nx ρ) : wpFor g body E (l.map it) ρ0 := by
  refine wpFor_cps (fun done ρ => R ((l.take done.length).map h) ρ) (by simpa using h0) (fun done d rest ρ K e p k => ?_) (fun ρ p => he ρ (by simpa using p))
  obtain ⟨l1, x, l2, rfl, rfl, rfl, rfl⟩ := map_split e
  refine hs x (by simp) _ ρ K p (by simp) fun ρ' q => k ρ' ?_
  simp only [List.length_append, List.length_map, List.length_cons, List.length_nil] at q ⊢
  rw [show l1.length + (0 + 1) = (l1 ++ [x]).length by simp, show l1 ++ x :: l2 = (l1 ++ [x]) ++ l2 by simp, List.take_left']
  · simp at q ⊢; exact q
  · rfl
theorem wpFor_inv {g : DG} {body : DS} {E : DEnds} {ds : List D} {ρ0 : Env} (I : Env → Prop) (h0 : I ρ0)
    (hs : ∀ d, d ∈ ds → ∀ (ρ : Env) (K : Env → Prop), I ρ → (∀ ρ', I ρ' → K ρ') → g d ρ fun ρ1 => body { nx := K, ct := K, bk := E.nx, rt := E.rt, er := E.er } ρ1)
    (he : ∀ ρ, I ρ → E.nx ρ) : wpFor g body E ds ρ0 :=
  wpFor_cps (fun _ ρ => I ρ) h0 (fun done d rest ρ K e p k => hs d (by rw [e]; simp) ρ K p k) he
theorem all_map {α : Type} {f : α → D} {R : α → Prop} : ∀ {acc : List D}, (∀ y, y ∈ acc → ∃ r, y = f r ∧ R r) → ∃ C : List α, acc = C.map f ∧ ∀ r, r ∈ C → R r
  | [], _ => ⟨[], rfl, by simp⟩
  | y :: acc, h => by
    obtain ⟨r, rfl, hr⟩ := h y (by simp)
    obtain ⟨C, rfl, hC⟩ := all_map (acc := acc) fun y hy => h y (by simp [hy])
    exact ⟨r :: C, rfl, fun z hz => by rcases List.mem_cons.mp hz with rfl | hz; exact hr; exact hC z hz⟩
theorem cm_l {i j : Int} (h : -(2 ^ 64) < i ∧ i < 2 ^ 64) : CMul i j ∨ CMulW i j := .inl (.inl h)
theorem cm_r {i j : Int} (h : -(2 ^ 64) < j ∧ j < 2 ^ 64) : CMul i j ∨ CMulW i j := .inl (.inr h)
theorem cd_t {i t : Int} (h0 : 0 < t) (h1 : t ≤ 1000000000000000000000000000000000000000000000000000000000000) : CDivW i t := wide_div (b := 200) h0 (Nat.lt_of_le_of_lt (show t.natAbs ≤ 1000000000000000000000000000000000000000000000000000000000000 by omega) (by decide +kernel)) (by decide) (by decide)
theorem cm_n {i j : Int} (h0 : 0 ≤ i) (h : i ≤ 1000) : CMul i j ∨ CMulW i j := cm_l ⟨by omega, by omega⟩
theorem rgd {n : Nat} (h : n ≤ 1000) : RgD 0 (n : Int) := ⟨by omega, by omega, by omega, by omega⟩
theorem dLen_seq {d : D} {xs : List D} {Q : D → Prop} (h : seqD d = some xs) : dLen [d] Q = Q (.int xs.length) := by unfold dLen; dsimp only; rw [h]
theorem erase_permD {L : List D} {r : Nat} (h : r < L.length) : (L[r] :: L.eraseIdx r).Perm L := by
  rw [List.eraseIdx_eq_take_drop_succ]
  refine List.perm_middle.symm.trans ?_
  rw [← List.drop_eq_getElem_cons h, List.take_append_drop]
theorem valD_none_any {kvs : List (Key × D)} {k : Key} : valD kvs k = none ↔ (kvs.any fun kv => decide (kv.1 = k)) = false := by
  unfold valD
  rw [Option.map_eq_none_iff, List.find?_eq_none]
  simp
theorem putD_len {kvs : List (Key × D)} {k : Key} {d : D} : (putD kvs k d).length ≤ kvs.length + 1 := by
  unfold putD
  split <;> simp
end Dn
set_option Elab.async false
set_option linter.all false
set_option maxRecDepth 100000
set_option autoImplicit false
set_option maxHeartbeats 4000000
namespace Dn
open PySem L2 Evl PySem.Spec PyProof.Rows
def im (m : List Int) (x : Int) : Int := m.getD x.toNat 0
abbrev Wy := List (Int × List Int)
def lk (w : Wy) (x : Int) : Option (List Int) := (w.find? fun e => decide (e.1 = x)).map (·.2)
theorem lk_mem {w : Wy} {x : Int} {p : List Int} (h : lk w x = some p) : (x, p) ∈ w := by
  unfold lk at h
  obtain ⟨e, h1, h2⟩ := Option.map_eq_some_iff.mp h
  have := List.find?_some h1
  have hm := List.mem_of_find?_eq_some h1
  simp at this
  obtain ⟨a, b⟩ := e
  simp at this h2
  subst this h2
  exact hm
theorem lk_none {w : Wy} {x : Int} : lk w x = none ↔ ∀ e, e ∈ w → e.1 ≠ x := by
  unfold lk
  rw [Option.map_eq_none_iff, List.find?_eq_none]
  simp
theorem lk_some {w : Wy} {x : Int} : (lk w x).isSome = true ↔ ∃ e, e ∈ w ∧ e.1 = x := by
  cases h : lk w x with
  | none =>
    have := lk_none.1 h
    simp
    intro a b
    exact this (x, a) b rfl
  | some p => simp; exact ⟨p, lk_mem h⟩
def st1 (mk : List (List Int)) (x : Int) (p : List Int) (w : Wy) (i : Int) : Wy :=
  if (lk w (im (mk.getD i.toNat []) x)).isSome = true then w else w ++ [(im (mk.getD i.toNat []) x, p ++ [i])]
def proc (mk : List (List Int)) (x : Int) (p : List Int) (w : Wy) : Wy := (rgI mk.length).foldl (st1 mk x p) w
def run (mk : List (List Int)) : Nat → Wy → Nat → Wy
  | 0, w, _ => w
  | k + 1, w, r => match w[r]? with
    | some e => run mk k (proc mk e.1 e.2 w) (r + 1)
    | none => w
def waysOf (mk : List (List Int)) (n : Nat) (s : Int) : Wy := run mk n [(s, [])] 0
def walk (mk : List (List Int)) (s : Int) (p : List Int) : Int := p.foldl (fun h i => im (mk.getD i.toNat []) h) s
theorem walk_snoc (mk : List (List Int)) (s : Int) (p : List Int) (i : Int) : walk mk s (p ++ [i]) = im (mk.getD i.toNat []) (walk mk s p) := by unfold walk; simp
structure Mk (n : Nat) (mk : List (List Int)) : Prop where
  few : mk.length ≤ 24
  most : n ≤ 24
  move : ∀ m, m ∈ mk → List.Perm m (rgI n)
theorem Mk.len {n : Nat} {mk : List (List Int)} (h : Mk n mk) {m : List Int} (hm : m ∈ mk) : m.length = n := by rw [(h.move m hm).length_eq, rgI_len]
theorem im_in {n : Nat} {m : List Int} (h : List.Perm m (rgI n)) {x : Int} (x0 : 0 ≤ x) (x1 : x < n) : 0 ≤ im m x ∧ im m x < n := by
  have hl : m.length = n := by rw [h.length_eq, rgI_len]
  have : im m x ∈ m := getD_mem (by omega)
  exact mem_rgI.mp (h.mem_iff.1 this)
theorem Mk.at {n : Nat} {mk : List (List Int)} (h : Mk n mk) {i : Int} (hi : i ∈ rgI mk.length) : mk.getD i.toNat [] ∈ mk := getD_mem (by have := mem_rgI.mp hi; omega)
structure Wg (n : Nat) (mk : List (List Int)) (s : Int) (w : Wy) : Prop where
  nd : (w.map (·.1)).Nodup
  rng : ∀ e, e ∈ w → 0 ≤ e.1 ∧ e.1 < n
  path : ∀ (j : Nat) (e : Int × List Int), w[j]? = some e → e.2.length ≤ j ∧ (∀ i, i ∈ e.2 → i ∈ rgI mk.length) ∧ walk mk s e.2 = e.1
  head : w[0]? = some (s, [])
theorem nodup_le : ∀ {l ns : List Int}, l.Nodup → (∀ k, k ∈ l → k ∈ ns) → l.length ≤ ns.length
  | [], _, _, _ => by simp
  | x :: l, ns, hd, h => by
    have hd2 := List.nodup_cons.mp hd
    have hx : x ∈ ns := h x (by simp)
    have p := erase_perm hx
    have : l.length ≤ (ns.erase x).length := nodup_le hd2.2 fun k hk => by
      have ne : k ≠ x := fun z => hd2.1 (by rw [← z]; exact hk)
      rcases List.mem_cons.mp (p.mem_iff.2 (h k (by simp [hk]))) with z | z
      · exact absurd z ne
      · exact z
    have e := p.length_eq
    simp only [List.length_cons] at e ⊢
    omega
theorem Wg.len {n : Nat} {mk : List (List Int)} {s : Int} {w : Wy} (h : Wg n mk s w) : w.length ≤ n := by
  have := nodup_le h.nd (ns := rgI n) fun k hk => by
    obtain ⟨e, he, rfl⟩ := List.mem_map.mp hk
    exact mem_rgI.mpr (h.rng e he)
  rw [rgI_len, List.length_map] at this
  exact this
theorem Wg.one {n : Nat} {mk : List (List Int)} {s : Int} (s0 : 0 ≤ s) (s1 : s < n) : Wg n mk s [(s, [])] :=
  ⟨by simp, by simp; omega, fun j e h => by
    cases j with
    | zero => simp at h; subst h; simp [walk]
    | succ j => simp at h, rfl⟩
theorem Wg.st1 {n : Nat} {mk : List (List Int)} {s : Int} {w : Wy} (h : Wg n mk s w) (hk : Mk n mk) {r : Nat} {e : Int × List Int} (hr : w[r]? = some e) {i : Int} (hi : i ∈ rgI mk.length) : Wg n mk s (st1 mk e.1 e.2 w i) := by
  unfold Dn.st1
  split
  · exact h
  · rename_i hn
    have ie := h.rng e (List.mem_of_getElem? hr)
    have ii := im_in (hk.move _ (hk.at hi)) ie.1 ie.2
    have hp := h.path r e hr
    have rl := (List.getElem?_eq_some_iff.mp hr).1
    have hn2 : ∀ a, a ∈ w → a.1 ≠ im (mk.getD i.toNat []) e.1 := fun a ha z => hn (lk_some.2 ⟨a, ha, z⟩)
    refine ⟨?_, fun a ha => ?_, fun j a ha => ?_, ?_⟩
    · rw [List.map_append, List.nodup_append]
      refine ⟨h.nd, by simp, fun a ha b hb => ?_⟩
      obtain ⟨a', ha', rfl⟩ := List.mem_map.mp ha
      simp at hb
      rw [hb]
      exact hn2 a' ha'
    · rcases List.mem_append.mp ha with ha | ha
      · exact h.rng a ha
      · rw [List.mem_singleton.mp ha]; exact ii
    · rw [List.getElem?_append] at ha
      split at ha
      · exact h.path j a ha
      · have : j - w.length = 0 := by
          have := (List.getElem?_eq_some_iff.mp ha).1
          simp at this; omega
        rw [this] at ha
        rw [List.getElem?_cons_zero, Option.some.injEq] at ha
        subst ha
        refine ⟨by simp; omega, fun k hk => ?_, by rw [walk_snoc, hp.2.2]⟩
        rcases List.mem_append.mp hk with hk | hk
        · exact hp.2.1 k hk
        · rw [List.mem_singleton.mp hk]; exact hi
    · rw [List.getElem?_append_left (by omega)]; exact h.head
theorem st1_pre (mk : List (List Int)) (x : Int) (p : List Int) (w : Wy) (i : Int) : w <+: st1 mk x p w i := by
  unfold st1
  split
  · exact List.prefix_refl w
  · exact List.prefix_append _ _
theorem pre_at {w w' : Wy} (h : w <+: w') {r : Nat} {e : Int × List Int} (hr : w[r]? = some e) : w'[r]? = some e := by
  obtain ⟨t, rfl⟩ := h
  rw [List.getElem?_append_left (List.getElem?_eq_some_iff.mp hr).1]; exact hr
theorem st1_has (mk : List (List Int)) (x : Int) (p : List Int) (w : Wy) (i : Int) : (lk (st1 mk x p w i) (im (mk.getD i.toNat []) x)).isSome = true := by
  unfold st1
  split
  · assumption
  · exact lk_some.2 ⟨_, List.mem_append_right _ (List.mem_singleton.mpr rfl), rfl⟩
theorem lk_pre {w w' : Wy} (h : w <+: w') {x : Int} (hx : (lk w x).isSome = true) : (lk w' x).isSome = true := by
  obtain ⟨e, he, z⟩ := lk_some.1 hx
  exact lk_some.2 ⟨e, h.subset he, z⟩
theorem fold_st1 {n : Nat} {mk : List (List Int)} {s : Int} (hk : Mk n mk) {r : Nat} {e : Int × List Int} : ∀ (l : List Int) (w : Wy), Wg n mk s w → w[r]? = some e → (∀ i, i ∈ l → i ∈ rgI mk.length) →
    Wg n mk s (l.foldl (st1 mk e.1 e.2) w) ∧ w <+: l.foldl (st1 mk e.1 e.2) w ∧ ∀ i, i ∈ l → (lk (l.foldl (st1 mk e.1 e.2) w) (im (mk.getD i.toNat []) e.1)).isSome = true
  | [], w, h, _, _ => ⟨h, List.prefix_refl w, by simp⟩
  | i :: l, w, h, hr, hl => by
    have h1 := h.st1 hk hr (hl i (by simp))
    have p1 := st1_pre mk e.1 e.2 w i
    obtain ⟨a, b, c⟩ := fold_st1 hk l (st1 mk e.1 e.2 w i) h1 (pre_at p1 hr) fun j hj => hl j (by simp [hj])
    refine ⟨a, p1.trans b, fun j hj => ?_⟩
    rcases List.mem_cons.mp hj with rfl | hj
    · exact lk_pre b (st1_has mk e.1 e.2 w j)
    · exact c j hj
theorem proc_ok {n : Nat} {mk : List (List Int)} {s : Int} (hk : Mk n mk) {w : Wy} (h : Wg n mk s w) {r : Nat} {e : Int × List Int} (hr : w[r]? = some e) :
    Wg n mk s (proc mk e.1 e.2 w) ∧ w <+: proc mk e.1 e.2 w ∧ ∀ i, i ∈ rgI mk.length → (lk (proc mk e.1 e.2 w) (im (mk.getD i.toNat []) e.1)).isSome = true :=
  fold_st1 hk (rgI mk.length) w h hr fun _ h => h
def Cl (mk : List (List Int)) (w : Wy) (x : Int) : Prop := ∀ i, i ∈ rgI mk.length → (lk w (im (mk.getD i.toNat []) x)).isSome = true
theorem run_ok {n : Nat} {mk : List (List Int)} {s : Int} (hk : Mk n mk) : ∀ (k : Nat) (w : Wy) (r : Nat), Wg n mk s w → n ≤ r + k → (∀ (j : Nat) (e : Int × List Int), j < r → w[j]? = some e → Cl mk w e.1) →
    Wg n mk s (run mk k w r) ∧ w <+: run mk k w r ∧ ∀ (j : Nat) (e : Int × List Int), (run mk k w r)[j]? = some e → Cl mk (run mk k w r) e.1
  | 0, w, r, h, hr, hc => ⟨h, List.prefix_refl w, fun j e he => hc j e (by have := (List.getElem?_eq_some_iff.mp he).1; have := h.len; simp only [run] at *; omega) he⟩
  | k + 1, w, r, h, hr, hc => by
    unfold run
    split
    · rename_i e he
      obtain ⟨a, b, c⟩ := proc_ok hk h he
      obtain ⟨a2, b2, c2⟩ := run_ok hk k (proc mk e.1 e.2 w) (r + 1) a (by omega) fun j e' hj he' => by
        by_cases z : j = r
        · subst z
          rw [pre_at b he] at he'; cases he'
          exact c
        · have hj2 : j < w.length := by have := (List.getElem?_eq_some_iff.mp he).1; omega
          have e2 : w[j]? = some w[j] := List.getElem?_eq_getElem hj2
          rw [pre_at b e2] at he'; cases he'
          exact fun i hi => lk_pre b (hc j _ (by omega) e2 i hi)
      exact ⟨a2, b.trans b2, c2⟩
    · rename_i he
      exact ⟨h, List.prefix_refl w, fun j e hj => hc j e (by have := (List.getElem?_eq_some_iff.mp hj).1; have := List.getElem?_eq_none_iff.mp he; omega) hj⟩
def ky (mk : List (List Int)) (n : Nat) (s : Int) (x : Int) : Prop := (lk (waysOf mk n s) x).isSome = true
section
variable {n : Nat} {mk : List (List Int)} {s : Int}
theorem ways_ok (hk : Mk n mk) (s0 : 0 ≤ s) (s1 : s < n) : Wg n mk s (waysOf mk n s) ∧ ∀ (j : Nat) (e : Int × List Int), (waysOf mk n s)[j]? = some e → Cl mk (waysOf mk n s) e.1 := by
  obtain ⟨a, _, c⟩ := run_ok hk n [(s, [])] 0 (Wg.one s0 s1) (by omega) fun j e hj => by omega
  exact ⟨a, c⟩
theorem ky_self (hk : Mk n mk) (s0 : 0 ≤ s) (s1 : s < n) : ky mk n s s := lk_some.2 ⟨_, List.mem_of_getElem? (ways_ok hk s0 s1).1.head, rfl⟩
theorem ky_step (hk : Mk n mk) (s0 : 0 ≤ s) (s1 : s < n) {x : Int} (h : ky mk n s x) {m : List Int} (hm : m ∈ mk) : ky mk n s (im m x) := by
  obtain ⟨e, he, rfl⟩ := lk_some.1 h
  obtain ⟨j, hj, ej⟩ := List.mem_iff_getElem.mp he
  obtain ⟨i, hi, ei⟩ := List.mem_iff_getElem.mp hm
  have := (ways_ok hk s0 s1).2 j e (by rw [List.getElem?_eq_getElem hj, ej]) (i : Int) (mem_rgI.mpr ⟨by omega, by omega⟩)
  simp only [Int.toNat_natCast, List.getD, List.getElem?_eq_getElem hi, ei, Option.getD_some] at this
  exact this
theorem ky_rng (hk : Mk n mk) (s0 : 0 ≤ s) (s1 : s < n) {x : Int} (h : ky mk n s x) : 0 ≤ x ∧ x < n := by
  obtain ⟨e, he, rfl⟩ := lk_some.1 h
  exact (ways_ok hk s0 s1).1.rng e he
theorem walk_in (hk : Mk n mk) (S : Int → Prop) (hc : ∀ x m, S x → m ∈ mk → S (im m x)) : ∀ (p : List Int) (a : Int), S a → (∀ i, i ∈ p → i ∈ rgI mk.length) → S (walk mk a p)
  | [], a, h, _ => h
  | i :: p, a, h, hp => walk_in hk S hc p _ (hc a _ h (hk.at (hp i (by simp)))) fun j hj => hp j (by simp [hj])
theorem ky_least (hk : Mk n mk) (s0 : 0 ≤ s) (s1 : s < n) (S : Int → Prop) (hs : S s) (hc : ∀ x m, S x → m ∈ mk → S (im m x)) {x : Int} (h : ky mk n s x) : S x := by
  obtain ⟨e, he, rfl⟩ := lk_some.1 h
  obtain ⟨j, hj, ej⟩ := List.mem_iff_getElem.mp he
  have := (ways_ok hk s0 s1).1.path j e (by rw [List.getElem?_eq_getElem hj, ej])
  rw [← this.2.2]
  exact walk_in hk S hc _ _ hs this.2.1
theorem ky_trans (hk : Mk n mk) (s0 : 0 ≤ s) (s1 : s < n) {x y : Int} (h : ky mk n s x) (h2 : ky mk n x y) : ky mk n s y := by
  have r := ky_rng hk s0 s1 h
  exact ky_least hk r.1 r.2 (ky mk n s) h (fun a m ha hm => ky_step hk s0 s1 ha hm) h2
theorem im_inj {m : List Int} (h : List.Perm m (rgI n)) {x y : Int} (x0 : 0 ≤ x) (x1 : x < n) (y0 : 0 ≤ y) (y1 : y < n) (e : im m x = im m y) : x = y := by
  have hl : m.length = n := by rw [h.length_eq, rgI_len]
  have nd : m.Nodup := h.nodup_iff.2 (by
    unfold rgI
    refine List.Pairwise.map _ (fun a b ne => ?_) List.nodup_range
    omega)
  unfold im at e
  rw [List.getD, List.getD, List.getElem?_eq_getElem (by omega), List.getElem?_eq_getElem (by omega)] at e
  simp at e
  have := (List.getElem_inj nd).mp e
  omega
theorem nodup_onto {l l' : List Int} (nd : l'.Nodup) (hs : ∀ k, k ∈ l' → k ∈ l) (hl : l.length ≤ l'.length) {x : Int} (hx : x ∈ l) : x ∈ l' := by
  by_cases h : x ∈ l'
  · exact h
  · have p := erase_perm hx
    have : l'.length ≤ (l.erase x).length := nodup_le nd fun k hk => by
      have ne : k ≠ x := fun z => h (by rw [← z]; exact hk)
      rcases List.mem_cons.mp (p.mem_iff.2 (hs k hk)) with z | z
      · exact absurd z ne
      · exact z
    have e := p.length_eq
    simp only [List.length_cons] at e
    omega
theorem ky_back (hk : Mk n mk) (s0 : 0 ≤ s) (s1 : s < n) {x : Int} {m : List Int} (hm : m ∈ mk) (x0 : 0 ≤ x) (x1 : x < n) (h : ky mk n s (im m x)) : ky mk n s x := by
  have W := (ways_ok hk s0 s1).1
  have onto := nodup_onto (l := (waysOf mk n s).map (·.1)) (l' := (waysOf mk n s).map fun e => im m e.1) (by
      have := W.nd
      rw [List.Nodup, List.pairwise_map] at this ⊢
      refine this.imp_of_mem fun {a b} ha hb ne z => ne ?_
      have ra := W.rng a ha
      have rb := W.rng b hb
      exact im_inj (hk.move m hm) ra.1 ra.2 rb.1 rb.2 z) (fun k hk2 => by
      obtain ⟨e, he, rfl⟩ := List.mem_map.mp hk2
      obtain ⟨e2, he2, z⟩ := lk_some.1 (ky_step hk s0 s1 (lk_some.2 ⟨e, he, rfl⟩) hm)
      exact List.mem_map.mpr ⟨e2, he2, z⟩) (by simp) (x := im m x) (by
      obtain ⟨e, he, z⟩ := lk_some.1 h
      exact List.mem_map.mpr ⟨e, he, z⟩)
  obtain ⟨e, he, z⟩ := List.mem_map.mp onto
  have re := W.rng e he
  have := im_inj (hk.move m hm) re.1 re.2 x0 x1 z
  exact lk_some.2 ⟨e, he, this⟩
theorem ky_symm (hk : Mk n mk) (s0 : 0 ≤ s) (s1 : s < n) {x : Int} (h : ky mk n s x) : ky mk n x s := by
  have r := ky_rng hk s0 s1 h
  by_cases z : ky mk n x s
  · exact z
  · have : ¬ ky mk n x x := (ky_least hk s0 s1 (fun y => (0 ≤ y ∧ y < n) ∧ ¬ ky mk n x y) ⟨⟨s0, s1⟩, z⟩ (fun a m ha hm => ⟨im_in (hk.move m hm) ha.1.1 ha.1.2, fun w => ha.2 (ky_back hk r.1 r.2 hm ha.1.1 ha.1.2 w)⟩) h).2
    exact absurd (ky_self hk r.1 r.2) this
end
end Dn
set_option Elab.async false
set_option linter.all false
set_option maxRecDepth 100000
set_option autoImplicit false
set_option maxHeartbeats 4000000
namespace Dn
open PySem L2 Evl PySem.Spec PyProof.Rows
abbrev T60 : Int := 1000000000000000000000000000000000000000000000000000000000000
def isI : D → Bool
  | .int i => decide (-1000000000000000000000000000000000000000000000000000000000000 < i) && decide (i < 1000000000000000000000000000000000000000000000000000000000000)
  | _ => false
def isTh (n : Int) : D → Bool
  | .int i => (decide (-1000000000000000000000000000000000000000000000000000000000000 < i) && decide (i < 1000000000000000000000000000000000000000000000000000000000000)) && (decide (0 ≤ i) && decide (i < n))
  | _ => false
def isRow (m n : Int) : D → Bool
  | .tuple xs => decide ((xs.length : Int) = m) && xs.all (isTh n)
  | _ => false
def okW (d : D) : Prop := ∀ xs, d = .tuple xs → xs.length ≤ 100000
def intD : D → Int
  | .int i => i
  | _ => 0
def isMove : D → Bool
  | .tuple xs => decide (xs.length ≤ 24) && (xs.all (isTh xs.length) && decide ((xs.map intD).Nodup))
  | _ => false
def isMoveOf (n : Int) (d : D) : Bool := isMove d && (match d with
  | .tuple xs => decide ((xs.length : Int) = n)
  | _ => false)
theorem isTh_in {n x : Int} (h0 : 0 ≤ x) (h1 : x < n) (hn : n ≤ 24) : isTh n (.int x) = true := by
  simp only [isTh, Bool.and_eq_true, decide_eq_true_eq]
  omega
theorem isTh_int {n : Int} {d : D} (h : isTh n d = true) : ∃ i, d = .int i ∧ 0 ≤ i ∧ i < n := by
  cases d with
  | int i => simp only [isTh, Bool.and_eq_true, decide_eq_true_eq] at h; exact ⟨i, rfl, h.2.1, h.2.2⟩
  | _ => simp [isTh] at h
theorem all_ints {n : Int} : ∀ {xs : List D}, xs.all (isTh n) = true → xs = (xs.map intD).map PyData.int
  | [], _ => rfl
  | x :: xs, h => by
    rw [List.all_cons, Bool.and_eq_true] at h
    obtain ⟨i, rfl, _⟩ := isTh_int h.1
    rw [List.map_cons, List.map_cons, ← all_ints h.2]
    rfl
theorem intD_map (ns : List Int) : (ns.map PyData.int).map intD = ns := by
  induction ns with
  | nil => rfl
  | cons x ns ih => simp [intD] at ih ⊢; exact ih
theorem nodup_rgI (n : Nat) : (rgI n).Nodup := by
  unfold rgI
  refine List.Pairwise.map _ (fun a b ne => ?_) List.nodup_range
  omega
theorem move_perm {n : Nat} {m : List Int} (h : List.Perm m (rgI n)) (hn : n ≤ 24) : isMove (tI m) = true ∧ isMoveOf n (tI m) = true := by
  have hl : m.length = n := by rw [h.length_eq, rgI_len]
  have h1 : isMove (tI m) = true := by
    unfold isMove tI
    simp only [Bool.and_eq_true, decide_eq_true_eq, List.length_map, hl, List.all_map, List.all_eq_true, intD_map]
    refine ⟨hn, fun x hx => ?_, h.nodup_iff.2 (nodup_rgI n)⟩
    have := mem_rgI.mp (h.mem_iff.1 hx)
    exact isTh_in this.1 this.2 (by omega)
  refine ⟨h1, ?_⟩
  unfold isMoveOf
  rw [h1]
  simp [tI, hl]
structure Lots (n : Nat) (mk : List (List Int)) (lots : List (List Int)) : Prop where
  few : lots.length ≤ n
  each : ∀ l, l ∈ lots → l.length ≤ n ∧ ∃ a : Int, 0 ≤ a ∧ a < n ∧ ∀ x, x ∈ l ↔ ky mk n a x
  all : ∀ x : Int, 0 ≤ x → x < n → ∃ l, l ∈ lots ∧ x ∈ l
def isWay (mk : List (List Int)) (n : Nat) (s g : Int) (d : D) : Bool := match lk (waysOf mk n s) g with
  | none => false
  | some p => isRow p.length mk.length d && (match d with
    | .tuple xs => decide (walk mk s (xs.map intD) = g)
    | _ => false)
def S_is_integer (ds : List D) (Q : D → Prop) : Prop := ∃ d, ds = [d] ∧ Q (.bool (isI d))
def S_is_row (ds : List D) (Q : D → Prop) : Prop := ∃ d m n, ds = [d, .int m, .int n] ∧ okW d ∧ n ≤ 100000 ∧ Q (.bool (isRow m n d))
def S_is_move (ds : List D) (Q : D → Prop) : Prop := ∃ d, ds = [d] ∧ Q (.bool (isMove d))
def S_is_move_of (ds : List D) (Q : D → Prop) : Prop := ∃ d n, ds = [d, .int n] ∧ Q (.bool (isMoveOf n d))
def S_check_move_of (ds : List D) (Q : D → Prop) : Prop := ∃ d n, ds = [d, .int n] ∧ isMoveOf n d = true ∧ Q .none
def S_orbits (ds : List D) (Q : D → Prop) : Prop := ∃ (n : Nat) (mk : List (List Int)), ds = [.int n, tR mk] ∧ Mk n mk ∧ ∀ lots, Lots n mk lots → Q (tR lots)
def Dc (ms : List D) : Prop := ∃ a b c : Int, ms = [.int a, .int b, .int c]
def scr (s : List Int) : D := .dict [(.none, .tuple (s.map PyData.int))]
def S__law_dice (ds : List D) (Q : List D → Prop) : Prop := ∃ s i, ds = [scr s, .int i] ∧ 0 ≤ i ∧ ∀ ms, Dc ms → Q ms
def S__law_roll (ms ds : List D) (Q : D → List D → Prop) : Prop := ∃ t, ds = [.int t] ∧ 0 < t ∧ t ≤ T60 ∧ Dc ms ∧ ∀ r ms', 0 ≤ r → r < t → Dc ms' → Q (.int r) ms'
def S__law_pick (ms ds : List D) (Q : D → List D → Prop) : Prop := ∃ d xs, ds = [d] ∧ seqD d = some xs ∧ xs ≠ [] ∧ xs.length ≤ 100000 ∧ Dc ms ∧ ∀ x ms', x ∈ xs → Dc ms' → Q x ms'
def S__law_mixed (ms ds : List D) (Q : D → List D → Prop) : Prop := ∃ d xs, ds = [d] ∧ seqD d = some xs ∧ xs.length ≤ 100000 ∧ Dc ms ∧ ∀ ys ms', ys.Perm xs → Dc ms' → Q (.list ys) ms'
def S__law_drawn_move (ms ds : List D) (Q : D → List D → Prop) : Prop := ∃ n : Nat, ds = [.int n] ∧ n ≤ 1000 ∧ Dc ms ∧ ∀ m ms', List.Perm m (rgI n) → Dc ms' → Q (tI m) ms'
theorem start_scr {K : PySem.W.Frag} {H : Hp} {a : Addr} {ns : List Int} (hS : SqL K H a (ns.map V.int)) : RpAll K (hide (fun _ => False) H) [.ref a] [scr ns] := by
  have e : Ex H (hide (fun _ => False) H) := fun a o h => hide_some.2 ⟨id, h⟩
  exact .cons (.frz (ex_l e hS) (RpAll.ints ns)) .nil
end Dn
set_option Elab.async false
set_option linter.all false
set_option maxRecDepth 100000
set_option autoImplicit false
set_option maxHeartbeats 4000000
namespace Dn
open PySem L2 Evl PySem.Spec PyProof.Rows
abbrev Mv (n : Nat) (m : List Int) : Prop := List.Perm m (rgI n)
def it (m : List Int) : Nat → Int → Int
  | 0, x => x
  | k + 1, x => im m (it m k x)
def jn (a b : List Int) : List Int := b.map (im a)
def iv (m : List Int) (y : Int) : Int := ((m.findIdx fun x => decide (x = y) : Nat) : Int)
def inv (m : List Int) : List Int := (rgI m.length).map (iv m)
def per (m : List Int) (n : Nat) (x : Int) : Nat := match (List.range n).find? fun k => decide (it m (k + 1) x = x) with
  | some k => k + 1
  | none => 1
def cyc (m : List Int) (n : Nat) (x : Int) : List Int := (List.range (per m n x)).map fun k => it m k x
def lead (m : List Int) (n : Nat) (x : Int) : Bool := (cyc m n x).all fun y => decide (x ≤ y)
theorem Mv.len {n : Nat} {m : List Int} (h : Mv n m) : m.length = n := by rw [h.length_eq, rgI_len]
theorem it_add (m : List Int) (a b : Nat) (x : Int) : it m (a + b) x = it m a (it m b x) := by
  induction a with
  | zero => rw [Nat.zero_add]; rfl
  | succ a ih => rw [Nat.succ_add]; show im m (it m (a + b) x) = im m _; rw [ih]
section
variable {n : Nat} {m : List Int} (h : Mv n m)
theorem perm_of_nodup {l l' : List Int} (nd : l.Nodup) (nd' : l'.Nodup) (e : ∀ x, x ∈ l ↔ x ∈ l') : l.Perm l' := (List.perm_ext_iff_of_nodup nd nd').2 e
include h in
theorem it_rng {x : Int} (hx : 0 ≤ x ∧ x < n) (k : Nat) : 0 ≤ it m k x ∧ it m k x < n := by
  induction k with
  | zero => exact hx
  | succ k ih => exact im_in h ih.1 ih.2
include h in
theorem it_inj {x y : Int} (hx : 0 ≤ x ∧ x < n) (hy : 0 ≤ y ∧ y < n) {k : Nat} (e : it m k x = it m k y) : x = y := by
  induction k with
  | zero => exact e
  | succ k ih =>
    have a := it_rng h hx k
    have b := it_rng h hy k
    exact ih (im_inj h a.1 a.2 b.1 b.2 e)
theorem rgI_split {l1 l2 : List Int} {x : Int} (e : rgI n = l1 ++ x :: l2) : x = l1.length ∧ l1 = rgI l1.length := by
  have hl := congrArg List.length e
  rw [rgI_len] at hl
  simp at hl
  have h1 := congrArg (fun l : List Int => l[l1.length]?) e
  rw [rgI_get (by omega), List.getElem?_append_right (Nat.le_refl _)] at h1
  simp at h1
  refine ⟨h1.symm, ?_⟩
  have h2 := congrArg (List.take l1.length) e
  rw [List.take_left] at h2
  rw [← h2]
  unfold rgI
  rw [← List.map_take, List.take_range]
  congr 2
  simp
end
end Dn
set_option Elab.async false
set_option linter.all false
set_option maxRecDepth 100000
set_option autoImplicit false
set_option maxHeartbeats 4000000
namespace Dn
open PySem L2 Evl PySem.Spec PyProof.Rows SrL
section
variable {n : Nat} {m a b o : List Int}
theorem Mv.nodup (h : Mv n m) : m.Nodup := h.nodup_iff.2 (nodup_rgI n)
theorem Mv.of {l : List Int} (hl : l.length = n) (nd : l.Nodup) (hr : ∀ x, x ∈ l → 0 ≤ x ∧ x < n) : Mv n l :=
  perm_of_nodup nd (nodup_rgI n) fun x => ⟨fun hx => mem_rgI.mpr (hr x hx), fun hx => nodup_onto nd (fun k hk => mem_rgI.mpr (hr k hk)) (by rw [rgI_len, hl]; exact Nat.le_refl _) hx⟩
theorem mv_map {f : Int → Int} (hr : ∀ x : Int, 0 ≤ x → x < n → 0 ≤ f x ∧ f x < n) (hi : ∀ x y : Int, 0 ≤ x → x < n → 0 ≤ y → y < n → f x = f y → x = y) : Mv n ((rgI n).map f) := by
  refine .of (by simp [rgI_len]) ?_ fun x hx => ?_
  · rw [List.Nodup, List.pairwise_map]
    refine (nodup_rgI n).imp_of_mem fun {x y} hx hy ne z => ne ?_
    have a := mem_rgI.mp hx
    have b := mem_rgI.mp hy
    exact hi x y a.1 a.2 b.1 b.2 z
  · obtain ⟨y, hy, rfl⟩ := List.mem_map.mp hx
    have a := mem_rgI.mp hy
    exact hr y a.1 a.2
theorem im_at (h : Mv n m) {k : Nat} (hk : k < n) : m[k]? = some (im m k) := by
  unfold im
  rw [Int.toNat_natCast, List.getD, List.getElem?_eq_getElem (by rw [h.len]; exact hk)]
  rfl
theorem mv_self (h : Mv n m) : m = (rgI n).map (im m) := by
  apply List.ext_getElem?
  intro k
  by_cases hk : k < n
  · rw [im_at h hk, List.getElem?_map, rgI_get hk]; rfl
  · rw [List.getElem?_eq_none_iff.mpr (by rw [h.len]; omega), List.getElem?_eq_none_iff.mpr (by simp [rgI_len]; omega)]
theorem im_map {f : Int → Int} {x : Int} (h0 : 0 ≤ x) (h1 : x < n) : im ((rgI n).map f) x = f x := by
  unfold im
  rw [List.getD, List.getElem?_map, rgI_get (show x.toNat < n by omega)]
  show f ((x.toNat : Nat) : Int) = f x
  congr 1
  omega
theorem map_ext {f g : Int → Int} (e : ∀ x : Int, 0 ≤ x → x < n → f x = g x) : (rgI n).map f = (rgI n).map g :=
  List.map_congr_left fun x hx => by have := mem_rgI.mp hx; exact e x this.1 this.2
theorem jn_map (hb : Mv n b) : jn a b = (rgI n).map fun x => im a (im b x) := by
  unfold jn
  conv => lhs; rw [mv_self hb]
  rw [List.map_map]; rfl
theorem jn_im (hb : Mv n b) {x : Int} (h0 : 0 ≤ x) (h1 : x < n) : im (jn a b) x = im a (im b x) := by rw [jn_map hb, im_map h0 h1]
theorem jn_mv (ha : Mv n a) (hb : Mv n b) : Mv n (jn a b) := by
  rw [jn_map hb]
  refine mv_map (fun x h0 h1 => ?_) fun x y x0 x1 y0 y1 e => ?_
  · have := im_in hb h0 h1
    exact im_in ha this.1 this.2
  · have p := im_in hb x0 x1
    have q := im_in hb y0 y1
    exact im_inj hb x0 x1 y0 y1 (im_inj ha p.1 p.2 q.1 q.2 e)
theorem iv_im (h : Mv n m) {x : Int} (h0 : 0 ≤ x) (h1 : x < n) : iv m (im m x) = x := by
  unfold iv
  have hk : x.toNat < m.length := by rw [h.len]; omega
  have e : im m x = m[x.toNat] := by
    have := im_at h (show x.toNat < n by omega)
    rw [show ((x.toNat : Nat) : Int) = x by omega, List.getElem?_eq_getElem hk, Option.some.injEq] at this
    exact this.symm
  have : m.findIdx (fun z => decide (z = im m x)) = x.toNat := by
    rw [List.findIdx_eq hk]
    refine ⟨by simp [e], fun j hj => ?_⟩
    simp only [decide_eq_false_iff_not]
    intro z
    rw [e] at z
    have := (List.getElem_inj h.nodup).mp z
    omega
  rw [this]
  omega
theorem iv_rng (h : Mv n m) {y : Int} (h0 : 0 ≤ y) (h1 : y < n) : (0 ≤ iv m y ∧ iv m y < n) ∧ im m (iv m y) = y := by
  have hm : y ∈ m := h.mem_iff.2 (mem_rgI.mpr ⟨h0, h1⟩)
  obtain ⟨k, hk, e⟩ := List.mem_iff_getElem.mp hm
  have hk2 : k < n := by rw [← h.len]; exact hk
  have e2 : im m k = y := by
    have := im_at h hk2
    rw [List.getElem?_eq_getElem hk, Option.some.injEq, e] at this
    exact this.symm
  have e3 := iv_im h (x := (k : Int)) (by omega) (by omega)
  rw [e2] at e3
  rw [e3]
  exact ⟨by omega, e2⟩
theorem inv_map (h : Mv n m) : inv m = (rgI n).map (iv m) := by unfold inv; rw [h.len]
theorem inv_im (h : Mv n m) {x : Int} (h0 : 0 ≤ x) (h1 : x < n) : im (inv m) x = iv m x := by rw [inv_map h, im_map h0 h1]
theorem inv_mv (h : Mv n m) : Mv n (inv m) := by
  rw [inv_map h]
  refine mv_map (fun x h0 h1 => (iv_rng h h0 h1).1) fun x y x0 x1 y0 y1 e => ?_
  rw [← (iv_rng h x0 x1).2, e, (iv_rng h y0 y1).2]
theorem jn_assoc {c : List Int} (ha : Mv n a) (hb : Mv n b) (hc : Mv n c) : jn (jn a b) c = jn a (jn b c) := by
  rw [jn_map hc, jn_map (jn_mv hb hc)]
  refine map_ext fun x h0 h1 => ?_
  have p := im_in hc h0 h1
  rw [jn_im hb p.1 p.2, jn_im hc h0 h1]
theorem jn_inv (ha : Mv n a) : jn a (inv a) = rgI n := by
  rw [jn_map (inv_mv ha)]
  conv => rhs; rw [← List.map_id (rgI n)]
  refine map_ext fun x h0 h1 => ?_
  rw [inv_im ha h0 h1, (iv_rng ha h0 h1).2]; rfl
end
end Dn
set_option Elab.async false
set_option linter.all false
set_option maxRecDepth 100000
set_option autoImplicit false
set_option maxHeartbeats 4000000
namespace Dn.T
open PySem L2 Evl PySem.Spec PyProof.Rows
def In (n : Nat) (x : Int) : Prop := 0 ≤ x ∧ x < n
theorem In.mem {n : Nat} {x : Int} : x ∈ rgI n ↔ In n x := mem_rgI
instance (n : Nat) (x : Int) : Decidable (In n x) := by unfold In; infer_instance
def tab (n : Nat) (d : Int → Int → Int) : List (List Int) := (rgI n).map fun x => (rgI n).map fun y => d x y
def row (C : List (List Int)) (x : Int) : List Int := C.getD x.toNat []
def dot (C : List (List Int)) (x y : Int) : Int := im (row C x) y
theorem getD_map {α β : Type} {l : List α} {f : α → β} {i : Nat} {a : α} {b : β} (h : i < l.length) : (l.map f).getD i b = f (l.getD i a) := by
  simp [List.getD_eq_getElem?_getD, List.getElem?_eq_getElem h]
theorem rg_at {n : Nat} {x : Int} (h : In n x) : (rgI n).getD x.toNat 0 = x := by
  unfold In at h
  rw [List.getD_eq_getElem?_getD, rgI_get (by omega)]
  simp; omega
theorem map_at {β : Type} {n : Nat} {f : Int → β} {x : Int} {b : β} (h : In n x) : ((rgI n).map f).getD x.toNat b = f x := by
  rw [getD_map (a := 0) (by rw [rgI_len]; unfold In at h; omega), rg_at h]
theorem row_tab {n : Nat} {d : Int → Int → Int} {x : Int} (h : In n x) : row (tab n d) x = (rgI n).map (d x) := map_at h
theorem tab_len (n : Nat) (d : Int → Int → Int) : (tab n d).length = n := by unfold tab; simp [rgI_len]
theorem tab_ext {n : Nat} {d d' : Int → Int → Int} (h : ∀ x y, In n x → In n y → d x y = d' x y) : tab n d = tab n d' := by
  unfold tab
  refine List.map_congr_left fun x hx => List.map_congr_left fun y hy => h x y (In.mem.1 hx) (In.mem.1 hy)
structure Cs (n : Nat) (d : Int → Int → Int) : Prop where
  rg : ∀ x y, In n x → In n y → In n (d x y)
  inj : ∀ x y z, In n x → In n y → In n z → d x y = d x z → y = z
  cyc : ∀ x y z, In n x → In n y → In n z → d (d x y) (d x z) = d (d y x) (d y z)
  dia : ∀ x y, In n x → In n y → d x x = d y y → x = y
def Kp (n : Nat) (d : Int → Int → Int) (m : List Int) : Prop := ∀ x y, In n x → In n y → im m (d x y) = d (im m x) (im m y)
theorem mv_in {n : Nat} {m : List Int} (h : Mv n m) {x : Int} (hx : In n x) : In n (im m x) := im_in h hx.1 hx.2
theorem mv_inj {n : Nat} {m : List Int} (h : Mv n m) {x y : Int} (hx : In n x) (hy : In n y) (e : im m x = im m y) : x = y := im_inj h hx.1 hx.2 hy.1 hy.2 e
theorem inv_l {n : Nat} {m : List Int} (h : Mv n m) {x : Int} (hx : In n x) : im (inv m) (im m x) = x := by
  have := mv_in h hx
  rw [inv_im h this.1 this.2, iv_im h hx.1 hx.2]
theorem inv_r {n : Nat} {m : List Int} (h : Mv n m) {x : Int} (hx : In n x) : im m (im (inv m) x) = x := by
  rw [inv_im h hx.1 hx.2]
  exact (iv_rng h hx.1 hx.2).2
theorem id_im {n : Nat} {x : Int} (hx : In n x) : im (rgI n) x = x := by
  unfold im; exact rg_at hx
theorem Cs.ext {n : Nat} {d d' : Int → Int → Int} (h : Cs n d) (e : ∀ x y, In n x → In n y → d x y = d' x y) : Cs n d' where
  rg := fun x y hx hy => by rw [← e x y hx hy]; exact h.rg x y hx hy
  inj := fun x y z hx hy hz q => h.inj x y z hx hy hz (by rw [e x y hx hy, e x z hx hz]; exact q)
  cyc := fun x y z hx hy hz => by
    rw [← e x y hx hy, ← e x z hx hz, ← e y x hy hx, ← e y z hy hz, ← e _ _ (h.rg x y hx hy) (h.rg x z hx hz), ← e _ _ (h.rg y x hy hx) (h.rg y z hy hz)]
    exact h.cyc x y z hx hy hz
  dia := fun x y hx hy q => h.dia x y hx hy (by rw [e x x hx hx, e y y hy hy]; exact q)
theorem cs_const {n : Nat} {m : List Int} (h : Mv n m) : Cs n (fun _ y => im m y) where
  rg := fun _ y _ hy => mv_in h hy
  inj := fun _ y z _ hy hz e => mv_inj h hy hz e
  cyc := fun _ _ _ _ _ _ => rfl
  dia := fun x y hx hy e => mv_inj h hx hy e
theorem kp_id {n : Nat} {d : Int → Int → Int} (h : Cs n d) : Kp n d (rgI n) := fun x y hx hy => by rw [id_im (h.rg x y hx hy), id_im hx, id_im hy]
theorem cs_ren {n : Nat} {d : Int → Int → Int} {m : List Int} (h : Cs n d) (hm : Mv n m) : Cs n (fun i j => im (inv m) (d (im m i) (im m j))) := by
  have hi := inv_mv hm
  have r : ∀ i j, In n i → In n j → In n (d (im m i) (im m j)) := fun i j a b => h.rg _ _ (mv_in hm a) (mv_in hm b)
  refine ⟨fun i j a b => mv_in hi (r i j a b), fun x y z a b c e => ?_, fun x y z a b c => ?_, fun x y a b e => ?_⟩
  · exact mv_inj hm b c (h.inj _ _ _ (mv_in hm a) (mv_in hm b) (mv_in hm c) (mv_inj hi (r x y a b) (r x z a c) e))
  · try dsimp only
    rw [inv_r hm (r x y a b), inv_r hm (r x z a c), inv_r hm (r y x b a), inv_r hm (r y z b c), h.cyc _ _ _ (mv_in hm a) (mv_in hm b) (mv_in hm c)]
  · exact mv_inj hm a b (h.dia _ _ (mv_in hm a) (mv_in hm b) (mv_inj hi (r x x a a) (r y y b b) e))
theorem dm_in {a b : Nat} {k : Int} (h : In (a * b) k) (hb : 1 ≤ b) : In a (k / b) ∧ In b (k % b) := by
  unfold In at h ⊢
  have s0 : (0 : Int) < b := by omega
  refine ⟨⟨Int.ediv_nonneg h.1 (by omega), Int.ediv_lt_of_lt_mul s0 (by simpa using h.2)⟩, Int.emod_nonneg _ (by omega), Int.emod_lt_of_pos _ s0⟩
theorem dm_mk {a b : Nat} {p q : Int} (hp : In a p) (hq : In b q) : In (a * b) (p * b + q) ∧ (p * b + q) / b = p ∧ (p * b + q) % b = q := by
  unfold In at *
  have h1 := Int.mul_nonneg hp.1 (show (0 : Int) ≤ b by omega)
  have h2 := Int.mul_le_mul_of_nonneg_right (show p + 1 ≤ a by omega) (show (0 : Int) ≤ b by omega)
  rw [Int.add_mul] at h2
  have b0 : (b : Int) ≠ 0 := by omega
  refine ⟨⟨by omega, by simp; omega⟩, ?_, ?_⟩
  · rw [Int.add_comm, Int.add_mul_ediv_right _ _ b0, Int.ediv_eq_zero_of_lt hq.1 hq.2]; omega
  · rw [Int.add_comm, Int.add_mul_emod_self_right, Int.emod_eq_of_lt hq.1 hq.2]
theorem dm_eq {b : Nat} {k j : Int} (e1 : k / b = j / b) (e2 : k % b = j % b) : k = j := by
  have h1 := Int.mul_ediv_add_emod k b
  have h2 := Int.mul_ediv_add_emod j b
  rw [e1, e2] at h1
  omega
theorem cs_prod {a b : Nat} {d e : Int → Int → Int} (h : Cs a d) (g : Cs b e) (hb : 1 ≤ b) : Cs (a * b) (fun k j => d (k / b) (j / b) * b + e (k % b) (j % b)) := by
  have R : ∀ k j, In (a * b) k → In (a * b) j → In a (d (k / b) (j / b)) ∧ In b (e (k % b) (j % b)) := fun k j hk hj => ⟨h.rg _ _ (dm_in hk hb).1 (dm_in hj hb).1, g.rg _ _ (dm_in hk hb).2 (dm_in hj hb).2⟩
  have M := fun k j (hk : In (a * b) k) (hj : In (a * b) j) => dm_mk (R k j hk hj).1 (R k j hk hj).2
  refine ⟨fun k j hk hj => (M k j hk hj).1, fun x y z hx hy hz q => ?_, fun x y z hx hy hz => ?_, fun x y hx hy q => ?_⟩
  · try dsimp only at q
    have q1 := congrArg (fun t => t / (b : Int)) q
    have q2 := congrArg (fun t => t % (b : Int)) q
    try dsimp only at q1 q2
    rw [(M x y hx hy).2.1, (M x z hx hz).2.1] at q1
    rw [(M x y hx hy).2.2, (M x z hx hz).2.2] at q2
    exact dm_eq (h.inj _ _ _ (dm_in hx hb).1 (dm_in hy hb).1 (dm_in hz hb).1 q1) (g.inj _ _ _ (dm_in hx hb).2 (dm_in hy hb).2 (dm_in hz hb).2 q2)
  · try dsimp only
    rw [(M x y hx hy).2.1, (M x y hx hy).2.2, (M x z hx hz).2.1, (M x z hx hz).2.2, (M y x hy hx).2.1, (M y x hy hx).2.2, (M y z hy hz).2.1, (M y z hy hz).2.2,
      h.cyc _ _ _ (dm_in hx hb).1 (dm_in hy hb).1 (dm_in hz hb).1, g.cyc _ _ _ (dm_in hx hb).2 (dm_in hy hb).2 (dm_in hz hb).2]
  · try dsimp only at q
    have q1 := congrArg (fun t => t / (b : Int)) q
    have q2 := congrArg (fun t => t % (b : Int)) q
    try dsimp only at q1 q2
    rw [(M x x hx hx).2.1, (M y y hy hy).2.1] at q1
    rw [(M x x hx hx).2.2, (M y y hy hy).2.2] at q2
    exact dm_eq (h.dia _ _ (dm_in hx hb).1 (dm_in hy hb).1 q1) (g.dia _ _ (dm_in hx hb).2 (dm_in hy hb).2 q2)
def uni (a : Nat) (d e : Int → Int → Int) (f s : List Int) (x y : Int) : Int :=
  if x < a then (if y < a then d x y else a + im f (y - a)) else if y < a then im s y else a + e (x - a) (y - a)
theorem in_sub {a b : Nat} {x : Int} (h : In (a + b) x) (n : ¬ x < a) : In b (x - a) := by unfold In at h ⊢; omega
theorem in_lo {a b : Nat} {x : Int} (h : In (a + b) x) (n : x < a) : In a x := ⟨h.1, n⟩
theorem cs_uni {a b : Nat} {d e : Int → Int → Int} {f s : List Int} (h : Cs a d) (g : Cs b e) (hf : Mv b f) (hs : Mv a s) (kf : Kp b e f) (ks : Kp a d s) : Cs (a + b) (uni a d e f s) := by
  have lo : ∀ {z : Int}, In a z → z < (a : Int) := fun h => h.2
  have hi : ∀ {z : Int}, In b z → ¬ (a : Int) + z < a := fun h => by have := h.1; omega
  have sb : ∀ z : Int, (a : Int) + z - a = z := fun z => by omega
  have inl : ∀ {z : Int}, In a z → In (a + b) z := fun h => ⟨h.1, by have := h.2; push_cast; omega⟩
  have inr : ∀ {z : Int}, In b z → In (a + b) (a + z) := fun h => ⟨by have := h.1; omega, by have := h.2; push_cast; omega⟩
  have u1 : ∀ {x y : Int}, x < a → y < a → uni a d e f s x y = d x y := fun p q => by unfold uni; rw [if_pos p, if_pos q]
  have u2 : ∀ {x y : Int}, x < a → ¬ y < a → uni a d e f s x y = a + im f (y - a) := fun p q => by unfold uni; rw [if_pos p, if_neg q]
  have u3 : ∀ {x y : Int}, ¬ x < a → y < a → uni a d e f s x y = im s y := fun p q => by unfold uni; rw [if_neg p, if_pos q]
  have u4 : ∀ {x y : Int}, ¬ x < a → ¬ y < a → uni a d e f s x y = a + e (x - a) (y - a) := fun p q => by unfold uni; rw [if_neg p, if_neg q]
  refine ⟨fun x y hx hy => ?_, fun x y z hx hy hz q => ?_, fun x y z hx hy hz => ?_, fun x y hx hy q => ?_⟩
  · by_cases p : x < a <;> by_cases r : y < a
    · rw [u1 p r]; exact inl (h.rg _ _ (in_lo hx p) (in_lo hy r))
    · rw [u2 p r]; exact inr (mv_in hf (in_sub hy r))
    · rw [u3 p r]; exact inl (mv_in hs (in_lo hy r))
    · rw [u4 p r]; exact inr (g.rg _ _ (in_sub hx p) (in_sub hy r))
  · by_cases p : x < a <;> by_cases r : y < a <;> by_cases t : z < a
    · rw [u1 p r, u1 p t] at q; exact h.inj _ _ _ (in_lo hx p) (in_lo hy r) (in_lo hz t) q
    · rw [u1 p r, u2 p t] at q
      have := (h.rg _ _ (in_lo hx p) (in_lo hy r)).2
      have := (mv_in hf (in_sub hz t)).1
      omega
    · rw [u2 p r, u1 p t] at q
      have := (h.rg _ _ (in_lo hx p) (in_lo hz t)).2
      have := (mv_in hf (in_sub hy r)).1
      omega
    · rw [u2 p r, u2 p t] at q
      have := mv_inj hf (in_sub hy r) (in_sub hz t) (by omega)
      omega
    · rw [u3 p r, u3 p t] at q; exact mv_inj hs (in_lo hy r) (in_lo hz t) q
    · rw [u3 p r, u4 p t] at q
      have := (mv_in hs (in_lo hy r)).2
      have := (g.rg _ _ (in_sub hx p) (in_sub hz t)).1
      omega
    · rw [u4 p r, u3 p t] at q
      have := (mv_in hs (in_lo hz t)).2
      have := (g.rg _ _ (in_sub hx p) (in_sub hy r)).1
      omega
    · rw [u4 p r, u4 p t] at q
      have := g.inj _ _ _ (in_sub hx p) (in_sub hy r) (in_sub hz t) (by omega)
      omega
  · by_cases p : x < a <;> by_cases r : y < a <;> by_cases t : z < a
    · have A := in_lo hx p; have B := in_lo hy r; have C := in_lo hz t
      rw [u1 p r, u1 p t, u1 r p, u1 r t, u1 (lo (h.rg _ _ A B)) (lo (h.rg _ _ A C)), u1 (lo (h.rg _ _ B A)) (lo (h.rg _ _ B C)), h.cyc _ _ _ A B C]
    · have A := in_lo hx p; have B := in_lo hy r; have C := in_sub hz t
      rw [u1 p r, u2 p t, u1 r p, u2 r t, u2 (lo (h.rg _ _ A B)) (hi (mv_in hf C)), u2 (lo (h.rg _ _ B A)) (hi (mv_in hf C))]
    · have A := in_lo hx p; have B := in_sub hy r; have C := in_lo hz t
      rw [u2 p r, u1 p t, u3 r p, u3 r t, u3 (hi (mv_in hf B)) (lo (h.rg _ _ A C)), u1 (lo (mv_in hs A)) (lo (mv_in hs C)), ks _ _ A C]
    · have A := in_lo hx p; have B := in_sub hy r; have C := in_sub hz t
      rw [u2 p r, u2 p t, u3 r p, u4 r t, u4 (hi (mv_in hf B)) (hi (mv_in hf C)), u2 (lo (mv_in hs A)) (hi (g.rg _ _ B C)), sb, sb, sb, kf _ _ B C]
    · have A := in_sub hx p; have B := in_lo hy r; have C := in_lo hz t
      rw [u3 p r, u3 p t, u2 r p, u1 r t, u1 (lo (mv_in hs B)) (lo (mv_in hs C)), u3 (hi (mv_in hf A)) (lo (h.rg _ _ B C)), ks _ _ B C]
    · have A := in_sub hx p; have B := in_lo hy r; have C := in_sub hz t
      rw [u3 p r, u4 p t, u2 r p, u2 r t, u2 (lo (mv_in hs B)) (hi (g.rg _ _ A C)), u4 (hi (mv_in hf A)) (hi (mv_in hf C)), sb, sb, sb, kf _ _ A C]
    · have A := in_sub hx p; have B := in_sub hy r; have C := in_lo hz t
      rw [u4 p r, u3 p t, u4 r p, u3 r t, u3 (hi (g.rg _ _ A B)) (lo (mv_in hs C)), u3 (hi (g.rg _ _ B A)) (lo (mv_in hs C))]
    · have A := in_sub hx p; have B := in_sub hy r; have C := in_sub hz t
      rw [u4 p r, u4 p t, u4 r p, u4 r t, u4 (hi (g.rg _ _ A B)) (hi (g.rg _ _ A C)), u4 (hi (g.rg _ _ B A)) (hi (g.rg _ _ B C)), sb, sb, sb, sb, g.cyc _ _ _ A B C]
  · by_cases p : x < a <;> by_cases r : y < a
    · rw [u1 p p, u1 r r] at q; exact h.dia _ _ (in_lo hx p) (in_lo hy r) q
    · rw [u1 p p, u4 r r] at q
      have := (h.rg _ _ (in_lo hx p) (in_lo hx p)).2
      have := (g.rg _ _ (in_sub hy r) (in_sub hy r)).1
      omega
    · rw [u4 p p, u1 r r] at q
      have := (h.rg _ _ (in_lo hy r) (in_lo hy r)).2
      have := (g.rg _ _ (in_sub hx p) (in_sub hx p)).1
      omega
    · rw [u4 p p, u4 r r] at q
      have := g.dia _ _ (in_sub hx p) (in_sub hy r) (by omega)
      omega
def csB (n : Nat) (C : List (List Int)) : Bool := (rgI n).all fun x => (rgI n).all fun y => decide (In n (dot C x y)) && (rgI n).all fun z => (!decide (dot C x y = dot C x z) || decide (y = z)) && (decide (dot C (dot C x y) (dot C x z) = dot C (dot C y x) (dot C y z)) && (!decide (dot C x x = dot C y y) || decide (x = y)))
theorem cs_of {n : Nat} {C : List (List Int)} (h : csB n C = true) (hn : 1 ≤ n) : Cs n (dot C) := by
  unfold csB at h
  simp only [List.all_eq_true, Bool.and_eq_true, Bool.or_eq_true, Bool.not_eq_true', decide_eq_true_eq, decide_eq_false_iff_not] at h
  have H : ∀ x y, In n x → In n y → _ := fun x y hx hy => h x (In.mem.2 hx) y (In.mem.2 hy)
  refine ⟨fun x y hx hy => (H x y hx hy).1, fun x y z hx hy hz e => ?_, fun x y z hx hy hz => ((H x y hx hy).2 z (In.mem.2 hz)).2.1, fun x y hx hy e => ?_⟩
  · rcases ((H x y hx hy).2 z (In.mem.2 hz)).1 with q | q
    · exact absurd e q
    · exact q
  · rcases ((H x y hx hy).2 x (In.mem.2 hx)).2.2 with q | q
    · exact absurd e q
    · exact q
end Dn.T
set_option Elab.async false
set_option linter.all false
set_option maxRecDepth 100000
set_option autoImplicit false
set_option maxHeartbeats 4000000
namespace Dn.T
open PySem L2 Evl PySem.Spec PyProof.Rows
def tabP (n : Nat) (f : Int → Int → Int × Int) : List (List (Int × Int)) := (rgI n).map fun x => (rgI n).map fun y => f x y
def Pin (n : Nat) (p : Int × Int) : Prop := In n p.1 ∧ In n p.2
structure Fr (n : Nat) (f : Int → Int → Int × Int) : Prop where
  rg : ∀ x y, In n x → In n y → Pin n (f x y)
  li : ∀ x y z, In n x → In n y → In n z → (f x y).1 = (f x z).1 → y = z
  ri : ∀ x y z, In n x → In n y → In n z → (f y x).2 = (f z x).2 → y = z
  y1 : ∀ x y z, In n x → In n y → In n z → (f (f x y).1 (f (f x y).2 z).1).1 = (f x (f y z).1).1
  y2 : ∀ x y z, In n x → In n y → In n z → (f (f x y).1 (f (f x y).2 z).1).2 = (f (f x (f y z).1).2 (f y z).2).1
  y3 : ∀ x y z, In n x → In n y → In n z → (f (f x y).2 z).2 = (f (f x (f y z).1).2 (f y z).2).2
  bi : ∀ x y u v, In n x → In n y → In n u → In n v → f x y = f u v → x = u ∧ y = v
theorem Fr.ext {n : Nat} {f g : Int → Int → Int × Int} (h : Fr n f) (e : ∀ x y, In n x → In n y → f x y = g x y) : Fr n g := by
  have r := h.rg
  refine ⟨fun x y a b => by rw [← e x y a b]; exact r x y a b, fun x y z a b c q => h.li x y z a b c (by rw [e x y a b, e x z a c]; exact q), fun x y z a b c q => h.ri x y z a b c (by rw [e y x b a, e z x c a]; exact q), fun x y z a b c => ?_, fun x y z a b c => ?_, fun x y z a b c => ?_,
    fun x y u v a b c d q => h.bi x y u v a b c d (by rw [e x y a b, e u v c d]; exact q)⟩
  · rw [← e x y a b, ← e y z b c, ← e _ z (r x y a b).2 c, ← e x _ a (r y z b c).1, ← e _ _ (r x y a b).1 (r _ z (r x y a b).2 c).1]; exact h.y1 x y z a b c
  · rw [← e x y a b, ← e y z b c, ← e _ z (r x y a b).2 c, ← e x _ a (r y z b c).1, ← e _ _ (r x y a b).1 (r _ z (r x y a b).2 c).1, ← e _ _ (r x _ a (r y z b c).1).2 (r y z b c).2]; exact h.y2 x y z a b c
  · rw [← e x y a b, ← e y z b c, ← e _ z (r x y a b).2 c, ← e x _ a (r y z b c).1, ← e _ _ (r x _ a (r y z b c).1).2 (r y z b c).2]; exact h.y3 x y z a b c
theorem tabP_at {n : Nat} {f : Int → Int → Int × Int} {x : Int} (h : In n x) : (tabP n f).getD x.toNat [] = (rgI n).map (f x) := map_at h
theorem tabP_len (n : Nat) (f : Int → Int → Int × Int) : (tabP n f).length = n := by unfold tabP; simp [rgI_len]
def Qt (n : Nat) (f : Int → Int → Int × Int) : Prop := ∀ x y, In n x → In n y → f (f x y).1 (f x y).2 = (x, y)
theorem fr_ren {n : Nat} {f : Int → Int → Int × Int} {m : List Int} (h : Fr n f) (hm : Mv n m) : Fr n (fun i j => (im (inv m) (f (im m i) (im m j)).1, im (inv m) (f (im m i) (im m j)).2)) := by
  have hi := inv_mv hm
  have r : ∀ i j, In n i → In n j → Pin n (f (im m i) (im m j)) := fun i j a b => h.rg _ _ (mv_in hm a) (mv_in hm b)
  have M := fun {x : Int} (a : In n x) => mv_in hm a
  have J := fun {x y : Int} (a : In n x) (b : In n y) (e : im (inv m) x = im (inv m) y) => mv_inj hi a b e
  refine ⟨fun x y a b => ⟨mv_in hi (r x y a b).1, mv_in hi (r x y a b).2⟩, fun x y z a b c q => mv_inj hm b c (h.li _ _ _ (M a) (M b) (M c) (J (r x y a b).1 (r x z a c).1 q)), fun x y z a b c q => mv_inj hm b c (h.ri _ _ _ (M a) (M b) (M c) (J (r y x b a).2 (r z x c a).2 q)),
    fun x y z a b c => ?_, fun x y z a b c => ?_, fun x y z a b c => ?_, fun x y u v a b c d q => ?_⟩
  · have p1 := r x y a b; have p2 := h.rg _ _ p1.2 (M c); have p3 := r y z b c
    dsimp only
    simp only [inv_r hm p1.1, inv_r hm p1.2, inv_r hm p2.1, inv_r hm p3.1]
    rw [h.y1 _ _ _ (M a) (M b) (M c)]
  · have p1 := r x y a b; have p2 := h.rg _ _ p1.2 (M c); have p3 := r y z b c; have p4 := h.rg _ _ (M a) p3.1
    dsimp only
    simp only [inv_r hm p1.1, inv_r hm p1.2, inv_r hm p2.1, inv_r hm p3.1, inv_r hm p3.2, inv_r hm p4.2]
    rw [h.y2 _ _ _ (M a) (M b) (M c)]
  · have p1 := r x y a b; have p3 := r y z b c; have p4 := h.rg _ _ (M a) p3.1
    dsimp only
    simp only [inv_r hm p1.1, inv_r hm p1.2, inv_r hm p3.1, inv_r hm p3.2, inv_r hm p4.2]
    rw [h.y3 _ _ _ (M a) (M b) (M c)]
  · have q1 := J (r x y a b).1 (r u v c d).1 (congrArg Prod.fst q)
    have q2 := J (r x y a b).2 (r u v c d).2 (congrArg Prod.snd q)
    obtain ⟨e1, e2⟩ := h.bi _ _ _ _ (M a) (M b) (M c) (M d) (Prod.ext q1 q2)
    exact ⟨mv_inj hm a c e1, mv_inj hm b d e2⟩
def ofD (sg : Int → Int → Int) (d : Int → Int → Int) (x y : Int) : Int × Int := (sg x y, d (sg x y) x)
theorem fr_cs {n : Nat} {d sg : Int → Int → Int} (h : Cs n d) (s1 : ∀ x y, In n x → In n y → In n (sg x y)) (s2 : ∀ x y, In n x → In n y → d x (sg x y) = y) : Fr n (ofD sg d) ∧ Qt n (ofD sg d) := by
  have s3 : ∀ x a, In n x → In n a → sg x (d x a) = a := fun x a hx ha => h.inj x _ _ hx (s1 _ _ hx (h.rg _ _ hx ha)) ha (s2 x _ hx (h.rg _ _ hx ha))
  have q : Qt n (ofD sg d) := fun x y a b => by
    unfold ofD
    dsimp only
    rw [s3 _ _ (s1 x y a b) a, s2 x y a b]
  have Y : ∀ x y z, In n x → In n y → In n z → ∃ a b c, In n a ∧ In n b ∧ In n c ∧ sg x y = a ∧ d x a = y ∧ sg (d a x) z = b ∧ d (d a x) b = z ∧ sg a b = c ∧ d a c = b ∧ sg y z = d x c ∧ sg x (d x c) = c ∧ sg (d c x) (d (d x c) y) = d c a := fun x y z hx hy hz => by
    have ha := s1 x y hx hy
    have hax := h.rg _ _ ha hx
    have hb := s1 _ z hax hz
    have hc := s1 _ _ ha hb
    have e1 := s2 x y hx hy
    have e2 := s2 _ z hax hz
    have e3 := s2 _ _ ha hb
    refine ⟨_, _, _, ha, hb, hc, rfl, e1, rfl, e2, rfl, e3, ?_, s3 _ _ hx hc, ?_⟩
    · have t := h.cyc (sg x y) x (sg (sg x y) (sg (d (sg x y) x) z)) ha hx hc
      rw [e1, e3, e2] at t
      exact (congrArg (sg y) t).trans (s3 _ _ hy (h.rg _ _ hx hc))
    · have t := h.cyc x (sg (sg x y) (sg (d (sg x y) x) z)) (sg x y) hx hc ha
      rw [e1] at t
      rw [t, s3 _ _ (h.rg _ _ hc hx) (h.rg _ _ hc ha)]
  refine ⟨⟨fun x y a b => ⟨s1 x y a b, h.rg _ _ (s1 x y a b) a⟩, fun x y z a b c e => ?_, fun x y z a b c e => ?_, fun x y z a b c => ?_, fun x y z a b c => ?_, fun x y z a b c => ?_, fun x y u v a b c d' e => ?_⟩, q⟩
  · have e : sg x y = sg x z := e
    rw [← s2 x y a b, ← s2 x z a c, e]
  · have e : d (sg y x) y = d (sg z x) z := e
    have h1 := s1 y x b a
    have h2 := s1 z x c a
    have t1 := h.cyc (sg y x) y (sg y x) h1 b h1
    have t2 := h.cyc (sg z x) z (sg z x) h2 c h2
    rw [s2 y x b a] at t1
    rw [s2 z x c a] at t2
    have k := h.inj (d (sg y x) y) _ _ (h.rg _ _ h1 b) (h.rg _ _ h1 h1) (h.rg _ _ h2 h2) (by rw [t1, e, t2])
    have k2 := h.dia _ _ h1 h2 k
    rw [k2] at e
    exact h.inj _ _ _ h2 b c e
  · obtain ⟨A, B, C, ha, hb, hc, e1, e2, e3, e4, e5, e6, e7, e8, e9⟩ := Y x y z a b c
    unfold ofD
    dsimp only
    rw [e1, e3, e5, e7, e8]
  · obtain ⟨A, B, C, ha, hb, hc, e1, e2, e3, e4, e5, e6, e7, e8, e9⟩ := Y x y z a b c
    unfold ofD
    dsimp only
    rw [e1, e3, e5, e7, e8, e9]
  · obtain ⟨A, B, C, ha, hb, hc, e1, e2, e3, e4, e5, e6, e7, e8, e9⟩ := Y x y z a b c
    unfold ofD
    dsimp only
    rw [e1, e3, e7, e8, e9, ← e6, h.cyc _ _ _ ha hc a]
  · have t := q x y a b
    rw [e, q u v c d'] at t
    injection t with t1 t2
    exact ⟨t1.symm, t2.symm⟩
theorem fr_mv {n : Nat} {p r : List Int} (hp : Mv n p) (hr : Mv n r) (c : ∀ x, In n x → im p (im r x) = im r (im p x)) : Fr n (fun x y => (im p y, im r x)) where
  rg := fun x y a b => ⟨mv_in hp b, mv_in hr a⟩
  li := fun x y z a b c e => mv_inj hp b c e
  ri := fun x y z a b c e => mv_inj hr b c e
  y1 := fun x y z a b c => rfl
  y2 := fun x y z a b d => (c y b).symm
  y3 := fun x y z a b c => rfl
  bi := fun x y u v a b c d e => ⟨mv_inj hr a c (congrArg Prod.snd e), mv_inj hp b d (congrArg Prod.fst e)⟩
end Dn.T
set_option Elab.async false
set_option linter.all false
set_option maxRecDepth 100000
set_option autoImplicit false
set_option maxHeartbeats 4000000
namespace Dn.T
open PySem L2 Evl PySem.Spec PyProof.Rows
theorem fr_rack {n : Nat} {op : Int → Int → Int} (rg : ∀ x y, In n x → In n y → In n (op x y)) (li : ∀ x y z, In n x → In n y → In n z → op x y = op x z → y = z) (sd : ∀ x y z, In n x → In n y → In n z → op (op x y) (op x z) = op x (op y z)) : Fr n (fun x y => (op x y, x)) where
  rg := fun x y a b => ⟨rg x y a b, a⟩
  li := li
  ri := fun x y z a b c e => e
  y1 := sd
  y2 := fun x y z a b c => rfl
  y3 := fun x y z a b c => rfl
  bi := fun x y u v a b c d e => by
    have e2 : x = u := congrArg Prod.snd e
    subst e2
    exact ⟨rfl, li x y v a b d (congrArg Prod.fst e)⟩
theorem fr_rack2 {n : Nat} {op : Int → Int → Int} (rg : ∀ x y, In n x → In n y → In n (op x y)) (ri : ∀ x y z, In n x → In n y → In n z → op y x = op z x → y = z) (sd : ∀ x y z, In n x → In n y → In n z → op (op x y) z = op (op x z) (op y z)) : Fr n (fun x y => (y, op x y)) where
  rg := fun x y a b => ⟨b, rg x y a b⟩
  li := fun x y z a b c e => e
  ri := ri
  y1 := fun x y z a b c => rfl
  y2 := fun x y z a b c => rfl
  y3 := sd
  bi := fun x y u v a b c d e => by
    have e2 : y = v := congrArg Prod.fst e
    subst e2
    exact ⟨ri y x u b a c (congrArg Prod.snd e), rfl⟩
theorem em_dvd (a n : Int) : n ∣ a % n - a := ⟨-(a / n), by have := Int.mul_ediv_add_emod a n; rw [Int.mul_neg]; omega⟩
theorem em_eq {a b n : Int} (h : n ∣ a - b) : a % n = b % n := Int.emod_eq_emod_iff_emod_sub_eq_zero.mpr (Int.emod_eq_zero_of_dvd h)
theorem em_sub {a b n : Int} (h : a % n = b % n) : n ∣ a - b := Int.dvd_of_emod_eq_zero (Int.emod_eq_emod_iff_emod_sub_eq_zero.mp h)
theorem in_mod {n : Nat} (hn : 0 < n) (a : Int) : In n (a % n) := ⟨Int.emod_nonneg _ (by omega), Int.emod_lt_of_pos _ (by omega)⟩
theorem small_dvd {n : Nat} {d : Int} (h : (n : Int) ∣ d) (h1 : -(n : Int) < d) (h2 : d < n) : d = 0 := by
  obtain ⟨k, hk⟩ := h
  rcases Int.lt_trichotomy k 0 with z | z | z
  · have := Int.mul_le_mul_of_nonneg_left (show k ≤ -1 by omega) (show (0 : Int) ≤ n by omega)
    omega
  · subst z; omega
  · have := Int.mul_le_mul_of_nonneg_left (show 1 ≤ k by omega) (show (0 : Int) ≤ n by omega)
    omega
def afi (n : Nat) (t : Int) (x y : Int) : Int := (x + t * y - t * x) % (n : Int)
theorem fr_afi {n : Nat} {t : Int} (hn : 0 < n) (ht : t = -1 ∨ t = 1 ∨ (t = 2 ∧ n % 2 = 1)) : Fr n (fun x y => (afi n t x y, x)) := by
  refine fr_rack (fun x y _ _ => in_mod hn _) (fun x y z hx hy hz e => ?_) (fun x y z hx hy hz => ?_)
  · have d := em_sub e
    unfold In at hx hy hz
    rcases ht with rfl | rfl | ⟨rfl, ho⟩
    · have := small_dvd d (by omega) (by omega); omega
    · have := small_dvd d (by omega) (by omega); omega
    · obtain ⟨k, hk⟩ := d
      have : (n : Int) ∣ y - z := by
        obtain ⟨j, hj⟩ : ∃ j : Int, (n : Int) = 2 * j + 1 := ⟨(n / 2 : Nat), by omega⟩
        refine ⟨k * (j + 1) - (y - z), ?_⟩
        have e1 : (n : Int) * (k * (j + 1)) = (2 * y - 2 * z) * (j + 1) := by rw [← Int.mul_assoc, ← hk]; congr 1; omega
        rw [Int.mul_sub, e1, hj]
        simp only [Int.mul_add, Int.add_mul, Int.sub_mul, Int.mul_sub, Int.mul_one, Int.one_mul]
        have a1 : 2 * y * j = 2 * j * y := by rw [Int.mul_assoc, Int.mul_comm y j, ← Int.mul_assoc]
        have a2 : 2 * z * j = 2 * j * z := by rw [Int.mul_assoc, Int.mul_comm z j, ← Int.mul_assoc]
        rw [a1, a2]
        omega
      have := small_dvd this (by omega) (by omega)
      omega
  · unfold afi
    refine em_eq ?_
    obtain ⟨k1, h1⟩ := em_dvd (x + t * y - t * x) n
    obtain ⟨k2, h2⟩ := em_dvd (x + t * z - t * x) n
    obtain ⟨k3, h3⟩ := em_dvd (y + t * z - t * y) n
    generalize (x + t * y - t * x) % (n : Int) = e1 at *
    generalize (x + t * z - t * x) % (n : Int) = e2 at *
    generalize (y + t * z - t * y) % (n : Int) = e3 at *
    refine ⟨k1 + t * k2 - t * k1 - t * k3, ?_⟩
    simp only [Int.mul_add, Int.mul_sub]
    rcases ht with rfl | rfl | ⟨rfl, ho⟩
    · have q1 : (n : Int) * (-1 * k2) = -(n * k2) := by rw [Int.neg_one_mul, Int.mul_neg]
      have q2 : (n : Int) * (-1 * k1) = -(n * k1) := by rw [Int.neg_one_mul, Int.mul_neg]
      have q3 : (n : Int) * (-1 * k3) = -(n * k3) := by rw [Int.neg_one_mul, Int.mul_neg]
      rw [q1, q2, q3]; omega
    · simp only [Int.one_mul] at *; omega
    · have q1 : (n : Int) * (2 * k2) = 2 * (n * k2) := Int.mul_left_comm _ _ _
      have q2 : (n : Int) * (2 * k1) = 2 * (n * k1) := Int.mul_left_comm _ _ _
      have q3 : (n : Int) * (2 * k3) = 2 * (n * k3) := Int.mul_left_comm _ _ _
      rw [q1, q2, q3]; omega
theorem fr_two {n : Nat} (hn : 0 < n) : Fr n (fun x y => (y, (2 * y - x) % (n : Int))) := by
  refine fr_rack2 (op := fun x y => (2 * y - x) % (n : Int)) (fun x y _ _ => in_mod hn _) (fun x y z hx hy hz e => ?_) (fun x y z hx hy hz => ?_)
  · have d := em_sub e
    unfold In at hx hy hz
    have := small_dvd d (by omega) (by omega); omega
  · refine em_eq ?_
    obtain ⟨k1, h1⟩ := em_dvd (2 * y - x) n
    obtain ⟨k2, h2⟩ := em_dvd (2 * z - x) n
    obtain ⟨k3, h3⟩ := em_dvd (2 * z - y) n
    generalize (2 * y - x) % (n : Int) = e1 at *
    generalize (2 * z - x) % (n : Int) = e2 at *
    generalize (2 * z - y) % (n : Int) = e3 at *
    refine ⟨k2 - k1 - 2 * k3, ?_⟩
    have q3 : (n : Int) * (2 * k3) = 2 * (n * k3) := Int.mul_left_comm _ _ _
    simp only [Int.mul_sub]
    rw [q3]; omega
def ordF (n : Nat) : Nat → List (List Int)
  | 0 => [[]]
  | k + 1 => (ordF n k).flatMap fun m => ((rgI n).filter fun x => !decide (x ∈ m)).map fun x => m ++ [x]
theorem mem_ordF {n : Nat} : ∀ {k : Nat} {m : List Int}, m ∈ ordF n k ↔ m.length = k ∧ m.Nodup ∧ ∀ x, x ∈ m → In n x
  | 0, m => by
    unfold ordF
    rw [List.mem_singleton]
    constructor
    · rintro rfl; simp
    · rintro ⟨h, _⟩; exact List.length_eq_zero_iff.mp h
  | k + 1, m => by
    unfold ordF
    rw [List.mem_flatMap]
    constructor
    · rintro ⟨p, hp, hm⟩
      obtain ⟨h1, h2, h3⟩ := mem_ordF.1 hp
      obtain ⟨x, hx, rfl⟩ := List.mem_map.mp hm
      obtain ⟨hx1, hx2⟩ := List.mem_filter.mp hx
      have hx2 : x ∉ p := by simpa using hx2
      refine ⟨by simp [h1], ?_, fun y hy => ?_⟩
      · rw [List.nodup_append]
        refine ⟨h2, by simp, fun a ha b hb e => hx2 ?_⟩
        rw [List.mem_singleton.mp hb] at e; exact e ▸ ha
      · rcases List.mem_append.mp hy with hy | hy
        · exact h3 y hy
        · rw [List.mem_singleton.mp hy]; exact In.mem.1 hx1
    · rintro ⟨h1, h2, h3⟩
      have ne : m ≠ [] := fun e => by rw [e] at h1; simp at h1
      refine ⟨m.dropLast, mem_ordF.2 ⟨by simp [h1], List.Pairwise.sublist (List.dropLast_sublist m) h2, fun x hx => h3 x (List.dropLast_subset m hx)⟩, List.mem_map.mpr ⟨m.getLast ne, List.mem_filter.mpr ⟨In.mem.2 (h3 _ (List.getLast_mem ne)), ?_⟩, List.dropLast_concat_getLast ne⟩⟩
      have h2' := h2
      rw [← List.dropLast_concat_getLast ne, List.nodup_append] at h2'
      simp only [Bool.not_eq_true', decide_eq_false_iff_not]
      intro z
      exact h2'.2.2 _ z _ (by simp) rfl
theorem ordF_mv {n : Nat} {m : List Int} : m ∈ ordF n n ↔ Mv n m := by
  rw [mem_ordF]
  constructor
  · rintro ⟨h1, h2, h3⟩; exact Mv.of h1 h2 h3
  · intro h; exact ⟨h.len, h.nodup, fun x hx => In.mem.1 (h.mem_iff.mp hx)⟩
theorem ord_few : ∀ n, n ≤ 6 → ∀ k, k ≤ n → (ordF n k).length ≤ 720 := by
  have : ((List.range 7).all fun n => (List.range (n + 1)).all fun k => decide ((ordF n k).length ≤ 720)) = true := by decide +kernel
  simp only [List.all_eq_true, List.mem_range, decide_eq_true_eq] at this
  exact fun n hn k hk => this n (by omega) k (by omega)
end Dn.T
set_option Elab.async false
set_option linter.all false
set_option maxRecDepth 100000
set_option autoImplicit false
set_option maxHeartbeats 4000000
namespace Dn.T
open PySem L2 Evl PySem.Spec PyProof.Rows
abbrev F2 := Int → Int → Int × Int
def pass (f : F2) (w : List Int) (i : Nat) : List Int := (w.set i (f (w.getD i 0) (w.getD (i + 1) 0)).1).set (i + 1) (f (w.getD i 0) (w.getD (i + 1) 0)).2
def walk (f : F2) (w : List Int) (is : List Nat) : List Int := is.foldl (pass f) w
def swF : F2 := fun x y => (y, x)
abbrev swp (m : List Int) (i : Nat) : List Int := pass swF m i
theorem pass_len (f : F2) (w : List Int) (i : Nat) : (pass f w i).length = w.length := by unfold pass; simp
def Ds (m : List Int) (i : Nat) : Prop := i + 1 < m.length ∧ m.getD (i + 1) 0 < m.getD i 0
instance (m : List Int) (i : Nat) : Decidable (Ds m i) := by unfold Ds; infer_instance
inductive Pth : List Int → List Nat → List Int → Prop where
  | nil (m : List Int) : Pth m [] m
  | cons {m e : List Int} {i : Nat} {is : List Nat} (h : Ds m i) (r : Pth (swp m i) is e) : Pth m (i :: is) e
theorem Pth.app {m m' e : List Int} {is js : List Nat} (h : Pth m is m') (g : Pth m' js e) : Pth m (is ++ js) e := by
  induction h with
  | nil => exact g
  | cons d _ ih => exact .cons d (ih g)
theorem Pth.snoc {m m' : List Int} {is : List Nat} {i : Nat} (h : Pth m is m') (d : Ds m' i) : Pth m (is ++ [i]) (swp m' i) := h.app (.cons d (.nil _))
theorem Pth.end {m e : List Int} {is : List Nat} (h : Pth m is e) : e = is.foldl swp m := by
  induction h with
  | nil => rfl
  | cons d _ ih => rw [List.foldl_cons]; exact ih
theorem Pth.lt {m e : List Int} {is : List Nat} (h : Pth m is e) : ∀ i, i ∈ is → i + 1 < m.length := by
  induction h with
  | nil => simp
  | cons d _ ih =>
    intro j hj
    rcases List.mem_cons.mp hj with rfl | hj
    · exact d.1
    · have := ih j hj; rw [pass_len] at this; exact this
theorem Pth.len {m e : List Int} {is : List Nat} (h : Pth m is e) : e.length = m.length := by
  induction h with
  | nil => rfl
  | cons d _ ih => rw [ih, pass_len]
end Dn.T
set_option Elab.async false
set_option linter.all false
set_option maxRecDepth 100000
set_option autoImplicit false
set_option maxHeartbeats 4000000
namespace Dn.T
open PySem L2 Evl PySem.Spec PyProof.Rows
def od (k : Nat) (js : List Nat) : List Int := js.foldl swp (rgI k)
end Dn.T
set_option Elab.async false
set_option linter.all false
set_option maxRecDepth 100000
set_option autoImplicit false
set_option maxHeartbeats 4000000
namespace Dn
open PySem L2 Evl PySem.Spec PyProof.Rows SrL
def S_joined_moves (ds : List D) (Q : D → Prop) : Prop := ∃ (n : Nat) (a b : List Int), ds = [tI a, tI b] ∧ Mv n a ∧ Mv n b ∧ n ≤ 24 ∧ Q (tI (jn a b))
def S_joined (ds : List D) (Q : D → Prop) : Prop := ∃ (n : Nat) (a b : List Int), ds = [tI a, tI b] ∧ Mv n a ∧ Mv n b ∧ n ≤ 24 ∧ Q (tI (jn a b))
def S__law_joined (ds : List D) (Q : D → Prop) : Prop := ∃ (n : Nat) (a b : List Int), ds = [tI a, tI b] ∧ Mv n a ∧ Mv n b ∧ n ≤ 24 ∧ Q (tI (jn a b))
def S_undone_move (ds : List D) (Q : D → Prop) : Prop := ∃ (n : Nat) (m : List Int), ds = [tI m] ∧ Mv n m ∧ n ≤ 24 ∧ Q (tI (inv m))
def S_undone (ds : List D) (Q : D → Prop) : Prop := ∃ (n : Nat) (m : List Int), ds = [tI m] ∧ Mv n m ∧ n ≤ 24 ∧ Q (tI (inv m))
def S__law_undone (ds : List D) (Q : D → Prop) : Prop := ∃ (n : Nat) (m : List Int), ds = [tI m] ∧ Mv n m ∧ n ≤ 24 ∧ Q (tI (inv m))
def S__law_power (ds : List D) (Q : D → Prop) : Prop := ∃ (n : Nat) (m : List Int) (k : Nat), ds = [tI m, .int k] ∧ Mv n m ∧ n ≤ 24 ∧ k ≤ 1000 ∧ Q (tI ((rgI n).map (it m k)))
end Dn
set_option Elab.async false
set_option linter.all false
set_option maxRecDepth 100000
set_option autoImplicit false
set_option maxHeartbeats 4000000
namespace Dn
open PySem L2 Evl PySem.Spec PyProof.Rows
theorem hu65 {k : Nat} {A : Around} (r : Room k A) : A.units + 65 < cLine := by have := r.un; omega
section
variable {X : Cx} {a b : Expr} {fa fb : DE}
def dIndexD (fa fb : DE) : DE := fun ρ Q => fa ρ fun z ρ1 => (∃ ds, z = .list ds) ∧ fb ρ1 fun y ρ2 => ∃ (ds : List D) (j : Nat) (w : D), z = .list ds ∧ SeqAt.shaped z = true ∧ SeqAt.shaped y = true ∧ ds[j]? = some w ∧ PyData.eqv w y = true ∧ (∀ (m : Nat) (z' : D), m < j → ds[m]? = some z' → PyData.eqv z' y = false) ∧ Q (.int (j : Nat)) ρ2
theorem je_indexD {apos cpos : Pos} (hu : X.A.units + 65 < cLine) (ha : JE X a fa) (hb : JE X b fb)
    (hbase : attributeBase a "index" X.env (eval a X.env) = eval a X.env := by rfl)
    (hfew : ((backTo cpos (starEach [b] X.env)).all (fun x => !x.1) && (backToKw cpos (keywordEach [] X.env)).all (fun x => x.1.isSome)
      && decide (([b] : List Expr).length + ([] : List Keyword).length + (if ([] : List Keyword).isEmpty then 0 else 1) < 30)) = true := by rfl)
    (hline : (apos.endLine == cpos.line) = true := by rfl) (hs : starEach [b] X.env = (false, eval b X.env) :: starEach [] X.env := by rfl) (hplain : (backTo cpos (starEach [] X.env)).any (·.1) = false := by rfl) :
    JE X (.Call (.Attribute a "index" apos) [b] [] cpos) (dIndexD fa fb) := by
  obtain ⟨ta, pa, ka⟩ := ha.ex
  obtain ⟨tb, pb, kb⟩ := hb.ex
  refine ⟨_, pe_bm PySem.F.plainAttrs_list PySem.F.slot_list_index (by kernel_rfl) (mt_indexD hu) pa (pa_cons pb pa_nil hs) hbase hfew hline hs hplain, fun T ρ σ H QD Q r h q => ka T ρ σ H _ _ r h fun z ρ1 v H1 r1 p1 v1 h => ?_⟩
  obtain ⟨⟨ds0, e0⟩, h⟩ := h
  subst e0
  cases v1 with
  | lst hp rr =>
    refine ⟨.inl ⟨rfl, _, .inl (.inl (at_of hp))⟩, kb T ρ1 σ H1 _ _ r1 h fun y ρ2 w H2 r2 p2 v2 h => ?_⟩
    obtain ⟨ds, j, z, e, s1, s2, h1, h2, h3, h9⟩ := h
    cases e
    have hp2 := (p2.fz (T := T)) _ _ hp
    have rr2 := rr.mono (p2.fz (T := T))
    exact ⟨_, w, y, _, j, z, rfl, rfl, (Rp.lst hp2 rr2).dp (shaped_lay s1), v2.dp (shaped_lay s2), s1, s2, h1, h2, h3, q _ _ _ _ r2 (p1.trans p2) (.int _) h9⟩
end
end Dn
set_option Elab.async false
set_option linter.all false
set_option maxRecDepth 100000
set_option autoImplicit false
set_option maxHeartbeats 4000000
namespace Dn.T
open PySem L2 Evl PySem.Spec PyProof.Rows
def S__law_places_of (ds : List D) (Q : D → Prop) : Prop := ∃ c s : Nat, ds = [.int c, .int s] ∧ 1 ≤ s ∧ c * s ≤ 1000 ∧ Q (.list ((rgI (c * s)).map fun k => .tuple [.int (k / s), .int (k % s)]))
def Mw (n : Nat) (m : List Int) : Prop := m.length = n ∧ ∀ x, x ∈ m → 0 ≤ x ∧ x < n
def Dw (n : Nat) (C : List (List Int)) : Prop := C.length = n ∧ ∀ r, r ∈ C → Mw n r
def tL (C : List (List Int)) : D := .list (C.map tI)
def tP (p : Int × Int) : D := .tuple [.int p.1, .int p.2]
def tPs (r : List (Int × Int)) : D := .tuple (r.map tP)
def tRP (R : List (List (Int × Int))) : D := .tuple (R.map tPs)
def Pr (n : Nat) (p : Int × Int) : Prop := (0 ≤ p.1 ∧ p.1 < n) ∧ 0 ≤ p.2 ∧ p.2 < n
def Pw (n : Nat) (R : List (List (Int × Int))) : Prop := R.length = n ∧ ∀ r, r ∈ R → r.length = n ∧ ∀ p, p ∈ r → Pr n p
def isStr (s : Str) : D → Bool
  | .str t => t == s
  | _ => false
def isTup1 (s : Str) : D → Bool
  | .tuple [x] => isStr s x
  | _ => false
def isTold (s : Str) (m n : Int) : D → Bool
  | .tuple (x :: r) => decide ((r.length : Int) = m) && (isStr s x && isRow m n (.tuple r))
  | _ => false
def okS (d : D) : Prop := ∀ t, d = .str t → SeqAt.shaped (.str t) = true
def okV (d : D) : Prop := ∀ xs, d = .tuple xs → xs.length ≤ 100000 ∧ SeqAt.shaped (.tuple xs) = true ∧ ∀ x, x ∈ xs → SeqAt.shaped x = true
def pa (R : List (List (Int × Int))) (x y : Int) : Int × Int := (R.getD x.toNat []).getD y.toNat (0, 0)
def plf (R : List (List (Int × Int))) (x y z : Int) : List Int :=
  [(pa R (pa R x y).1 (pa R (pa R x y).2 z).1).1, (pa R (pa R x y).1 (pa R (pa R x y).2 z).1).2, (pa R (pa R x y).2 z).2]
def prf (R : List (List (Int × Int))) (x y z : Int) : List Int :=
  [(pa R x (pa R y z).1).1, (pa R (pa R x (pa R y z).1).2 (pa R y z).2).1, (pa R (pa R x (pa R y z).1).2 (pa R y z).2).2]
def brk (R : List (List (Int × Int))) (s : Str) (x y z : Int) : Bool :=
  if s = "left" then decide (y < z) && decide ((pa R x y).1 = (pa R x z).1) else if s = "right" then decide (y < z) && decide ((pa R y x).2 = (pa R z x).2) else decide (plf R x y z ≠ prf R x y z)
def dt (C : List (List Int)) (x y : Int) : Int := (C.getD x.toNat []).getD y.toNat 0
def noBrk (b : Str → Int → Int → Int → Bool) (ws : List Str) (n : Nat) : Prop := ∀ s, s ∈ ws → ∀ t, t ∈ t3 n → b s t.1 t.2.1 t.2.2 = false
instance (b : Str → Int → Int → Int → Bool) (ws : List Str) (n : Nat) : Decidable (noBrk b ws n) := by unfold noBrk; infer_instance
abbrev W3 : List Str := ["left", "right", "three"]
def fineD (s : Str) : D := .tuple [.str s]
def pp (w : Str) (t : Int × Int × Int) : D := .tuple [.str w, .int t.1, .int t.2.1, .int t.2.2]
def fstB (b : Str → Int → Int → Int → Bool) (ws : List Str) (n : Nat) : Option D := ws.findSome? fun w => (t3 n).findSome? fun t => if b w t.1 t.2.1 t.2.2 = true then some (pp w t) else none
def papF (b : Str → Int → Int → Int → Bool) (ws : List Str) (fine : Str) (n : Nat) : D := (fstB b ws n).getD (fineD fine)
abbrev fPap (R : List (List (Int × Int))) (n : Nat) : D := papF (brk R) W3 "fair" n
def S_is_same0 (ds : List D) (Q : D → Prop) : Prop := ∃ d s, ds = [d, .str s] ∧ okS d ∧ SeqAt.shaped (.str s) = true ∧ Q (.bool (isStr s d))
def S_is_same (ds : List D) (Q : D → Prop) : Prop := (∃ d s, ds = [d, .str s] ∧ okS d ∧ SeqAt.shaped (.str s) = true ∧ Q (.bool (isStr s d))) ∨ ∃ d s, ds = [d, .tuple [.str s]] ∧ okV d ∧ SeqAt.shaped (.str s) = true ∧ Q (.bool (isTup1 s d))
def S_is_told (ds : List D) (Q : D → Prop) : Prop := ∃ d s m n, ds = [d, .str s, .int m, .int n] ∧ (0 ≤ m ∧ n ≤ 100000) ∧ okV d ∧ SeqAt.shaped (.str s) = true ∧ Q (.bool (isTold s m n d))
def S__is_pairs (ds : List D) (Q : D → Prop) : Prop := ∃ (r : List (Int × Int)) (n : Nat), ds = [tPs r, .int n] ∧ r.length = n ∧ n ≤ 8 ∧ (∀ p, p ∈ r → Pr n p) ∧ Q (.bool true)
def S__is_table_rows (ds : List D) (Q : D → Prop) : Prop := ∃ R n, ds = [tRP R] ∧ Pw n R ∧ n ≤ 8 ∧ Q (.bool true)
def S__check_rows (ds : List D) (Q : D → Prop) : Prop := ∃ R n, ds = [tRP R] ∧ Pw n R ∧ n ≤ 8 ∧ Q .none
def S__threes (ds : List D) (Q : D → Prop) : Prop := ∃ n : Nat, ds = [.int n] ∧ n ≤ 8 ∧ Q (.list ((t3 n).map tT))
def S__passed_left_first (ds : List D) (Q : D → Prop) : Prop := ∃ R n x y z, ds = [tRP R, .int x, .int y, .int z] ∧ Pw n R ∧ n ≤ 8 ∧ (x, y, z) ∈ t3 n ∧ Q (tI (plf R x y z))
def S__passed_right_first (ds : List D) (Q : D → Prop) : Prop := ∃ R n x y z, ds = [tRP R, .int x, .int y, .int z] ∧ Pw n R ∧ n ≤ 8 ∧ (x, y, z) ∈ t3 n ∧ Q (tI (prf R x y z))
def S__breaks_fair (ds : List D) (Q : D → Prop) : Prop := ∃ R n s x y z, ds = [tRP R, .str s, tI [x, y, z]] ∧ Pw n R ∧ n ≤ 8 ∧ s ∈ W3 ∧ (x, y, z) ∈ t3 n ∧ Q (.bool (brk R s x y z))
def S__pass_alike (ds : List D) (Q : D → Prop) : Prop := ∃ R n x y, ds = [tRP R, tPs (R.getD x.toNat []), tPs (R.getD y.toNat []), tPs (R.getD (pa R x y).1.toNat []), tPs (R.getD (pa R x y).2.toNat [])] ∧ Pw n R ∧ n ≤ 8 ∧ (0 ≤ x ∧ x < n) ∧ (0 ≤ y ∧ y < n) ∧ Q (.bool ((rgI n).all fun z => decide (plf R x y z = prf R x y z)))
def S_are_fair_rows (ds : List D) (Q : D → Prop) : Prop := ∃ R n, ds = [tRP R] ∧ Pw n R ∧ n ≤ 8 ∧ Q (.bool (decide (noBrk (brk R) W3 n)))
def S__broken_paper (ds : List D) (Q : D → Prop) : Prop := ∃ R n, ds = [tRP R] ∧ Pw n R ∧ n ≤ 8 ∧ ¬ noBrk (brk R) W3 n ∧ Q (fPap R n)
def S_fair_paper (ds : List D) (Q : D → Prop) : Prop := ∃ R n, ds = [tRP R] ∧ Pw n R ∧ n ≤ 8 ∧ Q (fPap R n)
def Rg (n : Nat) (d : Int → Int → Int) : Prop := ∀ x y, In n x → In n y → In n (d x y)
def RgP (n : Nat) (f : Int → Int → Int × Int) : Prop := ∀ x y, In n x → In n y → Pin n (f x y)
def kpB (n : Nat) (d : Int → Int → Int) (m : List Int) : Bool := (rgI n).all fun x => (rgI n).all fun y => decide (im m (d x y) = d (im m x) (im m y))
def sgm (n : Nat) (d : Int → Int → Int) (x y : Int) : Int := iv ((rgI n).map (d x)) y
def ren (f : Int → Int → Int × Int) (m : List Int) (i j : Int) : Int × Int := (im (inv m) (f (im m i) (im m j)).1, im (inv m) (f (im m i) (im m j)).2)
def renD (d : Int → Int → Int) (m : List Int) (i j : Int) : Int := im (inv m) (d (im m i) (im m j))
def prd (b : Nat) (d e : Int → Int → Int) (k j : Int) : Int := d (k / b) (j / b) * b + e (k % b) (j % b)
def S__law_undone (ds : List D) (Q : D → Prop) : Prop := ∃ n m, (∃ A, ds = [A] ∧ seqD A = some (m.map PyData.int)) ∧ Mv n m ∧ n ≤ 24 ∧ Q (tI (inv m))
def S__law_orders (ds : List D) (Q : D → Prop) : Prop := ∃ n : Nat, ds = [.int n] ∧ n ≤ 6 ∧ Q (tL (ordF n n))
def S__law_renamed_dots (ds : List D) (Q : D → Prop) : Prop := ∃ n d m, ds = [tL (tab n d), tI m] ∧ Rg n d ∧ Mv n m ∧ n ≤ 24 ∧ Q (tL (tab n (renD d m)))
def S__law_keeps_dots (ds : List D) (Q : D → Prop) : Prop := ∃ n d m, ds = [tL (tab n d), tI m] ∧ Rg n d ∧ Mv n m ∧ n ≤ 24 ∧ Q (.bool (kpB n d m))
def S__law_dots_likenesses (ds : List D) (Q : D → Prop) : Prop := ∃ n d, ds = [tL (tab n d)] ∧ Cs n d ∧ n ≤ 4 ∧ ∀ ms, (∀ m, m ∈ ms ↔ Mv n m ∧ Kp n d m) → ms ≠ [] → ms.length ≤ 5000 → Q (tL ms)
def S__law_union_dots (ds : List D) (Q : D → Prop) : Prop := ∃ a b d e f s, ds = [tL (tab a d), tL (tab b e), tI f, tI s] ∧ Rg a d ∧ Rg b e ∧ Mv b f ∧ Mv a s ∧ a + b ≤ 24 ∧ Q (tL (tab (a + b) (uni a d e f s)))
def S__law_product_dots (ds : List D) (Q : D → Prop) : Prop := ∃ A B a b d e, ds = [A, B] ∧ seqD A = some ((tab a d).map tI) ∧ seqD B = some ((tab b e).map tI) ∧ Rg a d ∧ Rg b e ∧ 1 ≤ b ∧ a * b ≤ 24 ∧ Q (tL (tab (a * b) (prd b d e)))
def S__law_small_dots (ms ds : List D) (Q : D → List D → Prop) : Prop := ∃ most : Nat, ds = [.int most] ∧ 1 ≤ most ∧ most ≤ 24 ∧ Dc ms ∧ ∀ n d ms', Cs n d → 1 ≤ n → n ≤ most → Dc ms' → Q (tL (tab n d)) ms'
def S__law_quiet_dots (ms ds : List D) (Q : D → List D → Prop) : Prop := ∃ least most : Nat, ds = [.int least, .int most] ∧ 1 ≤ most ∧ most ≤ 8 ∧ least ≤ most ∧ Dc ms ∧ ∀ n d ms', Cs n d → 1 ≤ n → least ≤ n → n ≤ most → Dc ms' → Q (tL (tab n d)) ms'
def S__law_rows_of_dots (ds : List D) (Q : D → Prop) : Prop := ∃ n d, (ds = [tL (tab n d)] ∨ ds = [tR (tab n d)]) ∧ Cs n d ∧ n ≤ 24 ∧ Q (tRP (tabP n (ofD (sgm n d) d)))
def S__law_renamed_rows (ds : List D) (Q : D → Prop) : Prop := ∃ n f m, ds = [tRP (tabP n f), tI m] ∧ RgP n f ∧ Mv n m ∧ n ≤ 24 ∧ Q (tRP (tabP n (ren f m)))
def S__law_fair_rows (ms ds : List D) (Q : D → List D → Prop) : Prop := ∃ least most : Nat, ds = [.int least, .int most] ∧ 1 ≤ most ∧ most ≤ 8 ∧ least ≤ most ∧ least ≤ 6 ∧ Dc ms ∧ ∀ n f ms', Fr n f → least ≤ n → n ≤ most → Dc ms' → Q (tRP (tabP n f)) ms'
def qtB (n : Nat) (f : Int → Int → Int × Int) : Bool := (rgI n).all fun x => (rgI n).all fun y => decide (f (f x y).1 (f x y).2 = (x, y))
def lftT (n : Nat) (f : Int → Int → Int × Int) : List (List Int) := tab n fun x y => (f x y).1
def rgtT (n : Nat) (f : Int → Int → Int × Int) : List (List Int) := tab n fun y x => (f x y).2
def pasE (n : Nat) (f : Int → Int → Int × Int) : List (Str × D) := [("_rows", tRP (tabP n f)), ("_left", tR (lftT n f)), ("_right", tR (rgtT n f)), ("_quiet", .bool (qtB n f))]
abbrev pasD (n : Nat) (f : Int → Int → Int × Int) : D := obD "Passing" (pasE n f)
def S__passes_twice_unchanged (ds : List D) (Q : D → Prop) : Prop := ∃ n f, ds = [tRP (tabP n f)] ∧ RgP n f ∧ n ≤ 24 ∧ Q (.bool (qtB n f))
def S_Passing____init__ (ds : List D) (Q : List (Str × D) → Prop) : Prop := ∃ n f, ds = [tRP (tabP n f)] ∧ Fr n f ∧ n ≤ 8 ∧ Q (pasE n f)
def S_Passing__rows (ds : List D) (Q : D → Prop) : Prop := ∃ n f, ds = [pasD n f] ∧ Q (tRP (tabP n f))
def S_Passing__left (ds : List D) (Q : D → Prop) : Prop := ∃ n f, ds = [pasD n f] ∧ Q (tR (lftT n f))
def S_Passing__is_quiet (ds : List D) (Q : D → Prop) : Prop := ∃ n f, ds = [pasD n f] ∧ Q (.bool (qtB n f))
def S_Passing____len__ (ds : List D) (Q : D → Prop) : Prop := ∃ n f, ds = [pasD n f] ∧ Q (.int n)
def S_Passing____eq__ (ds : List D) (Q : D → Prop) : Prop := ∃ n f, ((∃ k g, ds = [pasD n f, pasD k g] ∧ Q (.bool (decide (tabP n f = tabP k g)))) ∨ ∃ v, ds = [pasD n f, v] ∧ clsOk [] "Passing" v = some false ∧ Q (.bool false))
def S_check_table (ds : List D) (Q : D → Prop) : Prop := ∃ n f, ds = [pasD n f] ∧ Q .none
end Dn.T
set_option Elab.async false
set_option linter.all false
set_option maxRecDepth 100000
set_option autoImplicit false
set_option maxHeartbeats 4000000
namespace Dn.T
open PySem L2 Evl PySem.Spec PyProof.Rows
def nI (is : List Nat) : List D := is.map fun i => .int (i : Nat)
end Dn.T
set_option Elab.async false
set_option linter.all false
set_option maxRecDepth 100000
set_option autoImplicit false
set_option maxHeartbeats 4000000
namespace Dn
open PySem L2 Evl PySem.Spec PyProof.Rows
abbrev N_is_integer : List Str := ["value"]
abbrev P_is_integer : List Str := ["value"]
def g_is_integer : DS := sSeq (sIf (dTOr (dTNot (dTst (dIsi "int" (dVar 0)))) (dTst (dIsi "bool" (dVar 0)))) (sRet (dC (.bool false))) (sNx)) (sRet (dChain dLt dLt (dNeg (dC (.int 1000000000000000000000000000000000000000000000000000000000000))) (dVar 0) (dC (.int 1000000000000000000000000000000000000000000000000000000000000))))
abbrev N_is_row : List Str := ["value", "many", "size", "thing"]
abbrev P_is_row : List Str := ["value", "many", "size"]
def g_is_row : DS := sSeq (sIf (dTOr (dTNot (dTst (dIsi "tuple" (dVar 0)))) (dTst (dBin dNe (dCall dLen (aCons (dVar 0) (aNil))) (dVar 1)))) (sRet (dC (.bool false))) (sNx)) (sSeq (sFor (iSq (dVar 0)) (gNm 3) (sIf (dTOr (dTNot (dTst (dIsi "int" (dVar 3)))) (dTOr (dTst (dIsi "bool" (dVar 3))) (dTNot (dTst (dChain dLe dLt (dC (.int 0)) (dVar 3) (dVar 2)))))) (sRet (dC (.bool false))) (sNx))) (sRet (dC (.bool true))))
abbrev N_is_move : List Str := ["value"]
abbrev P_is_move : List Str := ["value"]
def g_is_move : DS := sSeq (sIf (dTOr (dTNot (dTst (dIsi "tuple" (dVar 0)))) (dTst (dBin dGt (dCall dLen (aCons (dVar 0) (aNil))) (dC (.int 24))))) (sRet (dC (.bool false))) (sNx)) (sRet (dAnd (dCallF 3 S_is_row (aCons (dVar 0) (aCons (dCall dLen (aCons (dVar 0) (aNil))) (aCons (dCall dLen (aCons (dVar 0) (aNil))) (aNil))))) (dBin dEq (dLenSet (dVar 0)) (dCall dLen (aCons (dVar 0) (aNil))))))
abbrev N_is_move_of : List Str := ["value", "size"]
abbrev P_is_move_of : List Str := ["value", "size"]
def g_is_move_of : DS := sRet (dAnd (dCallF 1 S_is_move (aCons (dVar 0) (aNil))) (dBin dEq (dCall dLen (aCons (dVar 0) (aNil))) (dVar 1)))
abbrev N_check_move_of : List Str := ["value", "size"]
abbrev P_check_move_of : List Str := ["value", "size"]
def g_check_move_of : DS := sIf (dTNot (dTst (dCallF 2 S_is_move_of (aCons (dVar 0) (aCons (dVar 1) (aNil)))))) (sNever) (sNx)
abbrev N__law_dice : List Str := ["_law_script", "_law_spot", "_law_cell", "_law_left"]
abbrev P__law_dice : List Str := ["_law_script", "_law_spot"]
def g__law_dice : (List D → Prop) → Env → Prop := (fun Q ρ => (sSet 2 (xIm (dIfE (dTst (dBin dLt (dVar 1) (dCall dLen (aCons (dVar 0) (aNil))))) (dCall dInt (aCons (dBin dIx (dVar 0) (dVar 1)) (aNil))) (dBin dAdd (dBin dMulA (dC (.int 83)) (dVar 1)) (dC (.int 29)))))) { nx := (fun Q ρ => (sSet 3 (xIm (dBin dMod (dCall dMax2 (aCons (dC (.int 0)) (aCons (dBin dSub (dCall dAbs (aCons (dVar 2) (aNil))) (dBin dPow (dC (.int 10)) (dC (.int 16)))) (aNil)))) (dBin dMulA (dBin dPow (dC (.int 10)) (dC (.int 60))) (dBin dPow (dC (.int 10)) (dC (.int 60))))))) { nx := (fun Q ρ => (lLst (aCons (dVar 3) (aCons (dBin dAdd (dBin dAdd (dBin dAdd (dBin dMulA (dBin dMod (dCall dAbs (aCons (dVar 2) (aNil))) (dC (.int 1152921504606845527))) (dC (.int 79))) (dBin dMulA (dC (.int 877)) (dVar 1))) (dBin dMulA (dC (.int 41)) (dCall dInt (aCons (dBin dLt (dVar 2) (dC (.int 0))) (aNil))))) (dC (.int 23))) (aCons (dC (.int 0)) (aNil))))) ρ fun es _ => Q es) Q, rt := fun _ _ => False } ρ) Q, rt := fun _ _ => False } ρ)
abbrev N__law_roll : List Str := ["_law_dice_here", "_law_total", "_law_found", "_law_one", "_law_two"]
abbrev P__law_roll : List Str := ["_law_dice_here", "_law_total"]
def g__law_roll : DS := sSeq (sIf (dTst (dBin dGt (dIxP 0 (dC (.int 0))) (dC (.int 0)))) (sSeq (sSet 2 (xIm (dBin dMod (dCall dInt (aCons (dIxP 0 (dC (.int 0))) (aNil))) (dVar 1)))) (sSeq (sSub 0 (dC (.int 0)) (dBin dFdiv (dIxP 0 (dC (.int 0))) (dVar 1))) (sRet (dVar 2)))) (sNx)) (sSeq (sSub 0 (dC (.int 2)) (dBin dAdd (dIxP 0 (dC (.int 2))) (dC (.int 1)))) (sSeq (sSet 3 (xIm (dBin dMod (dCall dInt (aCons (dBin dAdd (dIxP 0 (dC (.int 1))) (dBin dMulA (dC (.int 92821957)) (dIxP 0 (dC (.int 2))))) (aNil))) (dC (.int 2305843009213691579))))) (sSeq (sSet 4 (xIm (dBin dAdd (dBin dMulA (dBin dMod (dCall dInt (aCons (dBin dAdd (dBin dMulA (dVar 3) (dVar 3)) (dBin dMulA (dC (.int 97)) (dIxP 0 (dC (.int 2))))) (aNil))) (dC (.int 2305843009213692227))) (dC (.int 5915587))) (dVar 3)))) (sRet (dBin dMod (dCall dInt (aCons (dBin dFdiv (dVar 4) (dC (.int 65536))) (aNil))) (dVar 1))))))
abbrev N__law_mixed : List Str := ["_law_dice_here", "_law_items", "_law_left", "_law_found", "_law_turn"]
abbrev P__law_mixed : List Str := ["_law_dice_here", "_law_items"]
def g__law_mixed : DS := sSeq (sPar 2 3 (xOw (lOf (dVar 1))) (xOw (lLst (aNil)))) (sSeq (sFor (iR1 (dCall dLen (aCons (dVar 1) (aNil)))) (gNm 4) (sEx (dApp 3 (dPopAt 2 (dCallM 0 2 S__law_roll (aCons (dCallO 2 dLen) (aNil))))))) (sRetO 3))
abbrev N__law_drawn_move : List Str := ["_law_dice_here", "_law_size"]
abbrev P__law_drawn_move : List Str := ["_law_dice_here", "_law_size"]
def g__law_drawn_move : DS := sRet (dCall dTupOf (aCons (dCallM 0 2 S__law_mixed (aCons (dOfL (lRg (rg1 (dVar 1)))) (aNil))) (aNil)))
end Dn
set_option Elab.async false
set_option linter.all false
set_option maxRecDepth 100000
set_option autoImplicit false
set_option maxHeartbeats 4000000
namespace Dn
open PySem L2 Evl PySem.Spec PyProof.Rows
local macro_rules | `(tactic| walk_at "dd") => `(tactic| simp only [sSeq, sIf, sSet, sRet, sRetN, sNx, sEx, sAsg, sPar, dTOr, dTAnd, dTNot, dTst, dIsi, dVar, dC, dBin, dChain, dNeg, dI2, dAnd, dOr, dNot, dIfE, dCall, dCallF, aCons, aNil, dTup, lLst, dOfL, xIm, xOw, gNm, gTp, gsCons, gsNil, dYes, envD, dLen_tR, dLen_tI, dLen_tup, dLen_lst, seq_tR, seq_tI, seq_tup, seq_lst, dIs, dIsNot, dNe, dEq, dTupOf, dSl, oNone, oSome, iSq, iEn, iR1, iR2, sFor, lLc, sNever, dTRg, rg1, rg2, lRg, wipeD, isN,
  dIxP, sSub, dApp, dPopAt, dExt, dCallM, dCallO, dBinO, dTupO, lOf, lOfO, sRetO, iOw, dVarF, lCat, lCall, dAbs, dMax2, dMin2, dInt, atO, setO, MO.getL, MO.putL, Option.isSome_some,
  dInK, dGetK, dGetD, dInD, dGet1, lKeys, lSort, dLenSet, dRevT, sPutK, xDct, xDct1, sRetK, atK, keyD, sAugI,
  kit_int, kit_bool, kit_tuple, kit_str, List.map_cons, List.map_nil, List.cons_append, List.nil_append, List.replicate, List.set_cons_zero, List.set_cons_succ, List.getElem?_cons_zero, List.getElem?_cons_succ, List.length_cons, List.length_nil, List.length_map, Nat.reduceAdd, Nat.reduceSub, Bool.not_true, Bool.not_false, Bool.false_eq_true, if_true, if_false, true_and, reduceCtorEq, Bool.true_eq_false, rgD_rgI, Option.some.injEq, exists_eq_left', and_true])
theorem v_is_integer : VD g_is_integer S_is_integer 1 0 := fun ds Q _ h => by
  obtain ⟨d, rfl, h⟩ := h
  unfold g_is_integer
  walk_at "dd"
  cases d with
  | int i =>
    simp only [isI] at h
    walk_at "dd"
    refine bool_ways (fun e => ?_) (fun e => ?_)
    · rw [e] at h; exact h
    · rw [e] at h; exact h
  | _ => first | (walk_at "dd"; exact h) | exact h
theorem v_is_row : VD g_is_row S_is_row 3 1 := fun ds Q _ h => by
  obtain ⟨d, m, n, rfl, hl, hn, h⟩ := h
  unfold g_is_row
  walk_at "dd"
  cases d with
  | tuple xs =>
    simp only [isRow] at h
    walk_at "dd"
    refine ⟨rfl, rfl, ?_⟩
    simp only [PyData.eqv]
    refine ite_ways (fun e => ?_) (fun e => ?_)
    · rw [show decide ((xs.length : Int) = m) = false from by simpa using e] at h; exact h
    · rw [show decide ((xs.length : Int) = m) = true from by simpa using e] at h
      refine wpFor_find (fun d => if isTh n d = true then none else some (.bool false)) (fun ρ => ∃ x, ρ = [some (.im (.tuple xs)), some (.im (.int m)), some (.im (.int n)), x]) ⟨_, rfl⟩ (fun d _ ρ K B hI hq hk => ?_) (fun v hv => ?_) (fun hv ρ hI => ?_)
      · obtain ⟨x, rfl⟩ := hI
        walk_at "dd"
        cases d with
        | int i =>
          walk_at "dd"
          have te : isTh n (.int i) = true ↔ 0 ≤ i ∧ i < n := by
            simp only [isTh, Bool.and_eq_true, decide_eq_true_eq]
            omega
          refine bool_ways (fun e1 => ?_) (fun e1 => ?_)
          · refine ite_ways (fun e2 => ?_) (fun e2 => ?_)
            · exact hq _ (if_neg (by rw [te]; simp at e1 e2; omega))
            · exact hk (if_pos (by rw [te]; simp at e1 e2; omega)) _ ⟨_, rfl⟩
          · exact hq _ (if_neg (by rw [te]; simp at e1; omega))
        | _ => exact hq _ rfl
      · have e2 : xs.all (isTh n) = false := by
          obtain ⟨d, hd, h2⟩ := List.exists_of_findSome?_eq_some hv
          rw [Bool.eq_false_iff]
          intro z
          have := List.all_eq_true.mp z d hd
          simp [this] at h2
        have e3 : v = .bool false := by
          obtain ⟨d, hd, h2⟩ := List.exists_of_findSome?_eq_some hv
          split at h2
          · cases h2
          · cases h2; rfl
        subst e3
        simpa [e2] using h
      · have e2 : xs.all (isTh n) = true := by
          rw [List.all_eq_true]
          intro d hd
          have := List.findSome?_eq_none_iff.mp hv d hd
          simpa using this
        obtain ⟨x, rfl⟩ := hI
        walk_at "dd"
        simpa [e2] using h
  | _ => exact h
theorem v_is_move : VD g_is_move S_is_move 1 0 := fun ds Q _ h => by
  obtain ⟨d, rfl, h⟩ := h
  unfold g_is_move
  walk_at "dd"
  cases d with
  | tuple xs =>
    simp only [isMove] at h
    walk_at "dd"
    refine ite_ways (fun e => ?_) (fun e => ?_)
    · have : ¬ xs.length ≤ 24 := by simp at e; omega
      rw [decide_eq_false this] at h
      exact h
    · have hl : xs.length ≤ 24 := by simp at e; omega
      rw [decide_eq_true hl] at h
      refine ⟨_, _, _, rfl, fun ys hy => by cases hy; omega, by omega, ?_⟩
      simp only [isRow, decide_true, Bool.true_and] at h ⊢
      refine bool_ways (fun e2 => ?_) (fun e2 => ?_)
      · rw [e2] at h
        refine ⟨xs.map intD, by rw [← all_ints e2], by simp; omega, fun n hn => ?_⟩
        refine ⟨rfl, rfl, ?_⟩
        have : decide (xs.map intD).Nodup = PyData.eqv (.int n) (.int xs.length) := by
          simp only [PyData.eqv]
          by_cases z : (xs.map intD).Nodup
          · have := hn.2 z
            simp at this
            simp [z, this]
          · have : ¬ n = (xs.map intD).length := fun w => z (hn.1 w)
            simp at this
            simp [z]
            omega
        rw [← this]
        simpa using h
      · rw [e2] at h; exact h
  | _ => exact h
theorem v_is_move_of : VD g_is_move_of S_is_move_of 2 0 := fun ds Q _ h => by
  obtain ⟨d, n, rfl, h⟩ := h
  unfold g_is_move_of
  walk_at "dd"
  refine ⟨_, rfl, ?_⟩
  unfold isMoveOf at h
  refine bool_ways (fun e => ?_) (fun e => ?_)
  · rw [e] at h
    cases d with
    | tuple xs =>
      walk_at "dd"
      refine ⟨rfl, rfl, ?_⟩
      simp only [PyData.eqv]
      rw [show ((xs.length : Int) == n) = decide ((xs.length : Int) = n) from by rw [Bool.eq_iff_iff]; simp]
      simpa using h
    | _ => simp [isMove] at e
  · rw [e] at h; exact h
theorem v_check_move_of : VD g_check_move_of S_check_move_of 2 0 := fun ds Q _ h => by
  obtain ⟨d, n, rfl, h1, h⟩ := h
  unfold g_check_move_of
  walk_at "dd"
  refine ⟨_, _, rfl, ?_⟩
  rw [h1]
  exact h
end Dn
set_option Elab.async false
set_option linter.all false
set_option maxRecDepth 100000
set_option autoImplicit false
set_option maxHeartbeats 4000000
namespace Dn
open PySem L2 Evl PySem.Spec PyProof.Rows
local macro_rules | `(tactic| walk_at "dd") => `(tactic| simp only [sSeq, sIf, sSet, sRet, sRetN, sNx, sEx, sAsg, sPar, dTOr, dTAnd, dTNot, dTst, dIsi, dVar, dC, dBin, dChain, dNeg, dI2, dAnd, dOr, dNot, dIfE, dCall, dCallF, aCons, aNil, dTup, lLst, dOfL, xIm, xOw, gNm, gTp, gsCons, gsNil, dYes, envD, dLen_tR, dLen_tI, dLen_tup, dLen_lst, seq_tR, seq_tI, seq_tup, seq_lst, dIs, dIsNot, dNe, dEq, dTupOf, dSl, oNone, oSome, iSq, iEn, iR1, iR2, sFor, lLc, sNever, dTRg, rg1, rg2, lRg, wipeD, isN,
  dIxP, sSub, dApp, dPopAt, dExt, dCallM, dCallO, dBinO, dTupO, lOf, lOfO, sRetO, iOw, dVarF, lCat, lCall, dAbs, dMax2, dMin2, dInt, atO, setO, MO.getL, MO.putL, Option.isSome_some,
  dInK, dGetK, dGetD, dInD, dGet1, lKeys, lSort, dLenSet, dRevT, sPutK, xDct, xDct1, sRetK, atK, keyD, sAugI,
  kit_int, kit_bool, kit_tuple, kit_str, List.map_cons, List.map_nil, List.cons_append, List.nil_append, List.replicate, List.set_cons_zero, List.set_cons_succ, List.getElem?_cons_zero, List.getElem?_cons_succ, List.length_cons, List.length_nil, List.length_map, Nat.reduceAdd, Nat.reduceSub, Bool.not_true, Bool.not_false, Bool.false_eq_true, if_true, if_false, true_and, reduceCtorEq, Bool.true_eq_false, rgD_rgI, Option.some.injEq, exists_eq_left', and_true])
theorem dc_ok (a b c : Int) : Dc [.int a, .int b, .int c] := ⟨a, b, c, rfl⟩
theorem v__law_dice : VL g__law_dice S__law_dice 2 2 := fun ds Q _ h => by
  obtain ⟨s, i, rfl, i0, h⟩ := h
  unfold g__law_dice
  have e16 : CPow 10 16 := by unfold CPow; decide +kernel
  have e60 : CPow 10 60 := by unfold CPow; decide +kernel
  have m60 : CMul (10 ^ Int.toNat 60) (10 ^ Int.toNat 60) ∨ CMulW (10 ^ Int.toNat 60) (10 ^ Int.toNat 60) := .inr (by unfold CMulW; decide +kernel)
  have p60 : (0 : Int) < 10 ^ Int.toNat 60 * 10 ^ Int.toNat 60 := by decide +kernel
  have s877 : CMul 877 i ∨ CMulW 877 i := cm_l ⟨by decide, by decide⟩
  have fin : ∀ z : Int, dAbs [.int z] fun z_1 => CPow 10 16 ∧ dSub z_1 (PyData.int (10 ^ Int.toNat 16)) fun z_2 => dMax2 [.int 0, z_2] fun z_3 => CPow 10 60 ∧ CPow 10 60 ∧ (CMul (10 ^ Int.toNat 60) (10 ^ Int.toNat 60) ∨ CMulW (10 ^ Int.toNat 60) (10 ^ Int.toNat 60)) ∧
      dMod z_3 (PyData.int (10 ^ Int.toNat 60 * 10 ^ Int.toNat 60)) fun z_4 => dAbs [.int z] fun z_5 => dMod z_5 (PyData.int 1152921504606845527) fun z_6 => dMulA z_6 (PyData.int 79) fun z_7 => (CMul 877 i ∨ CMulW 877 i) ∧ dAdd z_7 (PyData.int (877 * i)) fun z_8 =>
        dLt (.int z) (PyData.int 0) fun z => dInt [z] fun z => dMulA (PyData.int 41) z fun z => dAdd z_8 z fun z => dAdd z (PyData.int 23) fun z => 3 ≤ 16777216 ∧ Q [z_4, z, PyData.int 0] := fun z =>
    ⟨e16, trivial, e60, e60, m60, p60, (by show (0 : Int) < 1152921504606845527; decide), cm_r ⟨by decide, by decide⟩, s877, trivial, cm_l ⟨by decide, by decide⟩, by decide, h _ (dc_ok _ _ _)⟩
  walk_at "dd"
  refine ⟨trivial, ?_⟩
  refine ite_ways (b := decide (i < ((s.map PyData.int).length : Int))) (fun z => ?_) (fun z => ?_)
  · have z' : i < s.length := by simpa using z
    refine ⟨.int (s.getD i.toNat 0), ?_, fin _⟩
    have := atI_in (d := PyData.int 0) i0 (show i < ((s.map PyData.int).length : Int) by simpa using z')
    rw [show (s.map PyData.int).getD i.toNat (PyData.int 0) = .int (s.getD i.toNat 0) from by simp [List.getD]] at this
    exact this
  · exact ⟨cm_l ⟨by decide, by decide⟩, fin _⟩
theorem v__law_roll : VM g__law_roll S__law_roll 2 3 := fun l ms ds Q _ h => by
  obtain ⟨t, rfl, t0, t1, ⟨a, b, c, rfl⟩, h⟩ := h
  unfold g__law_roll
  walk_at "dd"
  refine ⟨_, _, _, rfl, rfl, rfl, trivial, ?_⟩
  refine ite_ways (b := decide ((0 : Int) < a)) (fun z => ?_) (fun z => ?_)
  · refine ⟨_, _, _, rfl, rfl, rfl, t0, ?_⟩
    refine ⟨_, _, _, rfl, rfl, rfl, cd_t t0 t1, ?_⟩
    exact ⟨_, _, _, rfl, rfl, rfl, _, rfl, h _ _ (Int.emod_nonneg _ (by omega)) (Int.emod_lt_of_pos _ t0) (dc_ok _ _ _)⟩
  · refine ⟨_, _, _, rfl, rfl, rfl, ?_⟩
    refine ⟨_, _, _, rfl, rfl, rfl, ?_⟩
    refine ⟨_, _, _, rfl, rfl, rfl, ?_⟩
    refine ⟨_, _, _, rfl, rfl, rfl, cm_l ⟨by decide, by decide⟩, (by show (0 : Int) < 2305843009213691579; decide), ?_⟩
    have hb : ∀ x : Int, -(2 ^ 64) < x % 2305843009213691579 ∧ x % 2305843009213691579 < 2 ^ 64 := fun x => by
      have h1 := Int.emod_nonneg x (show (2305843009213691579 : Int) ≠ 0 by decide)
      have h2 := Int.emod_lt_of_pos x (show (0 : Int) < 2305843009213691579 by decide)
      omega
    refine ⟨cm_l (hb _), ?_⟩
    refine ⟨_, _, _, rfl, rfl, rfl, cm_l ⟨by decide, by decide⟩, (by show (0 : Int) < 2305843009213692227; decide), cm_r ⟨by decide, by decide⟩, ?_⟩
    refine ⟨⟨by decide, by decide +kernel⟩, t0, _, rfl, h _ _ (Int.emod_nonneg _ (by omega)) (Int.emod_lt_of_pos _ t0) (dc_ok _ _ _)⟩
theorem v__law_mixed : VM g__law_mixed S__law_mixed 2 3 := fun l ms ds Q _ h => by
  obtain ⟨d, xs, rfl, hd, hl, hm, h⟩ := h
  unfold g__law_mixed
  walk_at "dd"
  rw [hd]
  dsimp only
  rw [dLen_seq hd]
  refine ⟨by omega, ⟨by omega, by omega, by omega, by omega⟩, ?_⟩
  rw [rgD_rgI]
  refine wpFor_cps (fun done ρ => ∃ ms L Fd x, ρ = [some (SV.ow (MO.par l (MO.lst ms))), some (SV.im d), some (SV.ow (MO.lst L)), some (SV.ow (MO.lst Fd)), x] ∧ Dc ms ∧ (Fd ++ L).Perm xs ∧ Fd.length = done.length) ⟨ms, xs, [], _, rfl, hm, by simp, rfl⟩ (fun done d' rest ρ K e p k => ?_) (fun ρ p => ?_)
  · obtain ⟨ms, L, Fd, x, rfl, hm, hp, hf⟩ := p
    have hlen := hp.length_eq
    have he := congrArg List.length e
    simp [rgI_len] at he hlen
    walk_at "dd"
    refine ⟨rfl, _, rfl, by omega, by simp only [T60]; omega, hm, fun r ms' r0 r1 hm' => ?_⟩
    have hr : r.toNat < L.length := by omega
    refine ⟨L, r, r.toNat, L[r.toNat], rfl, rfl, r0, r1, rfl, List.getElem?_eq_getElem hr, by omega, by omega, ?_⟩
    refine k _ ⟨ms', L.eraseIdx r.toNat, Fd ++ [L[r.toNat]], _, rfl, hm', ?_, by simp [hf]⟩
    refine List.Perm.trans ?_ hp
    rw [List.append_assoc]
    refine List.Perm.append_left _ ?_
    exact erase_permD hr
  · obtain ⟨ms, L, Fd, x, rfl, hm, hp, hf⟩ := p
    have hlen := hp.length_eq
    simp [rgI_len] at hf hlen
    have : L = [] := List.length_eq_zero_iff.mp (by omega)
    subst this
    exact ⟨ms, rfl, h Fd ms (by simpa using hp) hm⟩
theorem perm_ints {ys : List D} {ns : List Int} (h : ys.Perm (ns.map PyData.int)) : ∃ ms : List Int, ys = ms.map PyData.int ∧ ms.Perm ns := by
  have : ∀ (xs ys : List D), xs.Perm ys → ∀ ns : List Int, ys = ns.map PyData.int → ∃ ms : List Int, xs = ms.map PyData.int ∧ ms.Perm ns := by
    intro xs ys h
    induction h with
    | nil => intro ns e; cases ns with | nil => exact ⟨[], rfl, .nil⟩ | cons _ _ => cases e
    | cons x h ih =>
      intro ns e
      cases ns with
      | nil => cases e
      | cons n ns =>
        simp at e
        obtain ⟨ms, e1, e2⟩ := ih ns e.2
        exact ⟨n :: ms, by simp [e1, e.1], e2.cons n⟩
    | swap x y l =>
      intro ns e
      match ns, e with
      | a :: b :: ns, e =>
        simp at e
        exact ⟨b :: a :: ns, by simp [e.1, e.2.1, e.2.2], .swap a b ns⟩
    | trans h1 h2 ih1 ih2 =>
      intro ns e
      obtain ⟨ms, e1, e2⟩ := ih2 ns e
      obtain ⟨ms2, e3, e4⟩ := ih1 ms e1
      exact ⟨ms2, e3, e4.trans e2⟩
  exact this _ _ h _ rfl
theorem v__law_drawn_move : VM g__law_drawn_move S__law_drawn_move 2 0 := fun l ms ds Q _ h => by
  obtain ⟨n, rfl, hn, hm, h⟩ := h
  unfold g__law_drawn_move
  walk_at "dd"
  refine ⟨⟨by omega, by omega, by omega, by omega⟩, _, _, rfl, rfl, by simp [rgI_len]; omega, hm, fun ys ms' hp hm' => ?_⟩
  obtain ⟨m, rfl, hp2⟩ := perm_ints hp
  exact ⟨ms', rfl, h m ms' hp2 hm'⟩
end Dn
set_option Elab.async false
set_option linter.all false
set_option maxRecDepth 100000
set_option autoImplicit false
set_option maxHeartbeats 4000000
namespace Dn
open PySem L2 Evl PySem.Spec PyProof.Rows
theorem mem_rg {l : List Int} {n : Nat} (h : l.Perm (rgI n)) {x : Int} (hx : x ∈ l) : 0 ≤ x ∧ x < n := mem_rgI.mp (h.mem_iff.1 hx)
theorem ix_im {n : Nat} {m : List Int} {x : Int} {Q : D → Prop} (h : List.Perm m (rgI n)) (x0 : 0 ≤ x) (x1 : x < n) (q : Q (.int (im m x))) : dIx (tI m) (.int x) Q :=
  ixI x0 (by rw [h.length_eq, rgI_len]; exact x1) q
end Dn
set_option Elab.async false
set_option linter.all false
set_option maxRecDepth 100000
set_option autoImplicit false
set_option maxHeartbeats 4000000
namespace Dn
open PySem L2 Evl PySem.Spec PyProof.Rows
abbrev N_joined_moves : List Str := ["one", "other", "thing"]
abbrev P_joined_moves : List Str := ["one", "other"]
def g_joined_moves : DS := sRet (dCall dTupOf (aCons (dOfL (lLc (iSq (dVar 1)) (gNm 2) (dYes) (dBin dIx (dVar 0) (dVar 2)) [2])) (aNil)))
abbrev N_undone_move : List Str := ["move", "sources", "thing", "goal"]
abbrev P_undone_move : List Str := ["move"]
def g_undone_move : DS := sSeq (sSet 1 (xIm (dOfK (lDc (iEn (dVar 0)) (gTp 2 (gsCons (gNm 2) (gsCons (gNm 3) (gsNil)))) (dYes) (dVar 3) (dVar 2) [2, 3])))) (sRet (dCall dTupOf (aCons (dOfL (lLc (iR1 (dCall dLen (aCons (dVar 0) (aNil)))) (gNm 2) (dYes) (dGetD (dVar 1) (dVar 2)) [2])) (aNil))))
abbrev N__law_pick : List Str := ["_law_dice_here", "_law_items"]
abbrev P__law_pick : List Str := ["_law_dice_here", "_law_items"]
def g__law_pick : DS := sRet (dBin dIx (dVar 1) (dCallM 0 2 S__law_roll (aCons (dCall dLen (aCons (dVar 1) (aNil))) (aNil))))
abbrev N__law_joined : List Str := ["_law_one", "_law_other", "_law_thing"]
abbrev P__law_joined : List Str := ["_law_one", "_law_other"]
def g__law_joined : DS := sRet (dCall dTupOf (aCons (dOfL (lLc (iSq (dVar 1)) (gNm 2) (dYes) (dBin dIx (dVar 0) (dVar 2)) [2])) (aNil)))
abbrev N__law_undone : List Str := ["_law_move", "_law_found", "_law_thing", "_law_goal"]
abbrev P__law_undone : List Str := ["_law_move"]
def g__law_undone : DS := sSeq (sSet 1 (xOw (lLc (iSq (dVar 0)) (gNm 2) (dYes) (dC (.int 0)) [2]))) (sSeq (sFor (iEn (dVar 0)) (gTp 2 (gsCons (gNm 2) (gsCons (gNm 3) (gsNil)))) (sSub 1 (dVar 3) (dVar 2))) (sRet (dTupO 1)))
abbrev N__law_power : List Str := ["_law_move", "_law_times", "_law_found", "_law_turn"]
abbrev P__law_power : List Str := ["_law_move", "_law_times"]
def g__law_power : DS := sSeq (sSet 2 (xIm (dTRg (rg1 (dCall dLen (aCons (dVar 0) (aNil))))))) (sSeq (sFor (iR1 (dVar 1)) (gNm 3) (sSet 2 (xIm (dCallF 2 S__law_joined (aCons (dVar 0) (aCons (dVar 2) (aNil))))))) (sRet (dVar 2)))
end Dn
set_option Elab.async false
set_option linter.all false
set_option maxRecDepth 100000
set_option autoImplicit false
set_option maxHeartbeats 4000000
namespace Dn
open PySem L2 Evl PySem.Spec PyProof.Rows
local macro_rules | `(tactic| walk_at "dd") => `(tactic| simp only [sSeq, sIf, sSet, sRet, sRetN, sNx, sEx, sAsg, sPar, dTOr, dTAnd, dTNot, dTst, dIsi, dVar, dC, dBin, dChain, dNeg, dI2, dAnd, dOr, dNot, dIfE, dCall, dCallF, aCons, aNil, dTup, lLst, dOfL, xIm, xOw, gNm, gTp, gsCons, gsNil, dYes, envD, dLen_tR, dLen_tI, dLen_tup, dLen_lst, seq_tR, seq_tI, seq_tup, seq_lst, dIs, dIsNot, dNe, dEq, dTupOf, dSl, oNone, oSome, iSq, iEn, iR1, iR2, sFor, lLc, sNever, dTRg, rg1, rg2, lRg, wipeD, isN,
  dIxP, sSub, dApp, dPopAt, dExt, dCallM, dCallO, dBinO, dTupO, lOf, lOfO, sRetO, iOw, dVarF, lCat, lCall, dAbs, dMax2, dMin2, dInt, atO, setO, MO.getL, MO.putL, Option.isSome_some,
  lSortT, dOfK, xOwK, lDc, dMinL, dIndex, lRep, dInK, dGetK, dGetD, dInD, dGet1, lKeys, lSort, dLenSet, dRevT, sPutK, xDct, xDct1, sRetK, atK, keyD, sAugI,
  kit_int, kit_bool, kit_tuple, kit_str, List.map_cons, List.map_nil, List.cons_append, List.nil_append, List.replicate, List.set_cons_zero, List.set_cons_succ, List.getElem?_cons_zero, List.getElem?_cons_succ, List.length_cons, List.length_nil, List.length_map, Nat.reduceAdd, Nat.reduceSub, Bool.not_true, Bool.not_false, Bool.false_eq_true, if_true, if_false, true_and, reduceCtorEq, Bool.true_eq_false, rgD_rgI, Option.some.injEq, exists_eq_left', and_true])
theorem jn_read {n : Nat} {a b : List Int} (ha : Mv n a) (hb : Mv n b) (f : Int → D) (hf : ∀ x, f x = .int (im a x)) : PyData.tuple (b.map f) = tI (jn a b) := by
  unfold tI jn
  rw [List.map_map]
  congr 1
  exact List.map_congr_left fun x _ => hf x
theorem v_joined_moves : VD g_joined_moves S_joined_moves 2 1 := fun ds Q _ h => by
  obtain ⟨n, a, b, rfl, ha, hb, hn, h⟩ := h
  unfold g_joined_moves
  try walk_at "dd"
  refine wpLc_mapL b PyData.int (fun x => .int (im a x)) (by rw [hb.len]; omega) rfl (fun x hx K hK => ?_) (fun _ => rfl) ?_
  · have rx := mem_rg hb hx
    try walk_at "dd"
    exact ix_im ha rx.1 rx.2 (hK _ rfl)
  · try walk_at "dd"
    rw [jn_read ha hb (fun x => .int (im a x)) fun _ => rfl]
    exact h
theorem v__law_joined : VD g__law_joined S__law_joined 2 1 := fun ds Q _ h => by
  obtain ⟨n, a, b, rfl, ha, hb, hn, h⟩ := h
  unfold g__law_joined
  try walk_at "dd"
  refine wpLc_mapL b PyData.int (fun x => .int (im a x)) (by rw [hb.len]; omega) rfl (fun x hx K hK => ?_) (fun _ => rfl) ?_
  · have rx := mem_rg hb hx
    try walk_at "dd"
    exact ix_im ha rx.1 rx.2 (hK _ rfl)
  · try walk_at "dd"
    rw [jn_read ha hb (fun x => .int (im a x)) fun _ => rfl]
    exact h
theorem valD_put {kvs : List (Key × D)} {k j : Key} {d : D} : valD (putD kvs k d) j = if j = k then some d else valD kvs j := by
  unfold putD
  by_cases a : (kvs.any fun kv => decide (kv.1 = k)) = true
  · rw [if_pos a]
    induction kvs with
    | nil => simp at a
    | cons e r ih =>
      unfold valD at ih ⊢
      rw [List.map_cons, List.find?_cons, List.find?_cons]
      by_cases h : e.1 = k
      · rw [if_pos h]
        by_cases h2 : j = k
        · subst h2; simp [h]
        · have h3 : ¬ e.1 = j := fun z => h2 (by rw [← z, h])
          rw [if_neg h2]
          simp only [h3, decide_false]
          clear ih a
          induction r with
          | nil => rfl
          | cons e2 r2 ih2 =>
            rw [List.map_cons, List.find?_cons, List.find?_cons]
            by_cases h4 : e2.1 = k
            · rw [if_pos h4]
              have h5 : ¬ e2.1 = j := fun z => h2 (by rw [← z, h4])
              simp only [h5, decide_false]
              exact ih2
            · rw [if_neg h4]
              by_cases h5 : e2.1 = j
              · simp [h5]
              · simp only [h5, decide_false]
                exact ih2
      · rw [if_neg h]
        have a2 : (r.any fun kv => decide (kv.1 = k)) = true := by
          rw [List.any_cons] at a
          simpa [h] using a
        by_cases h3 : e.1 = j
        · have h2 : ¬ j = k := fun z => h (by rw [h3, z])
          rw [if_neg h2]
          simp [h3]
        · simp only [h3, decide_false]
          exact ih a2
  · rw [if_neg a]
    have hn : valD kvs k = none := valD_none_any.2 (by rw [Bool.not_eq_true] at a; exact a)
    unfold valD at hn ⊢
    rw [List.find?_append]
    by_cases h2 : j = k
    · subst h2
      rw [Option.map_eq_none_iff] at hn
      rw [hn, if_pos rfl]
      simp
    · rw [if_neg h2]
      have : ¬ k = j := fun z => h2 z.symm
      simp [this]
theorem inv_vals {n : Nat} {m : List Int} (hm : Mv n m) {kvs : List (Key × D)} (hv : ∀ x : Int, 0 ≤ x → x < n → valD kvs (.inl (im m x)) = some (.int x)) {y : Int} (y0 : 0 ≤ y) (y1 : y < n) : valD kvs (.inl y) = some (.int (iv m y)) := by
  have p := iv_rng hm y0 y1
  have := hv _ p.1.1 p.1.2
  rw [p.2] at this
  exact this
theorem wpDc_cps {g : DG} {tt : DT} {tk te : DE} {vs : List Nat} {Q : List (Key × D) → Env → Prop} (P : List D → List (Key × D) → Env → Prop) {ds : List D} {ρ0 : Env} (h0 : P [] [] ρ0)
    (hs : ∀ (done : List D) (d : D) (rest : List D) (acc : List (Key × D)) (ρ : Env) (K : List (Key × D) → Env → Prop), ds = done ++ d :: rest → P done acc ρ → (∀ acc' ρ', P (done ++ [d]) acc' ρ' → K acc' ρ') →
      acc.length < 16777216 ∧ g d (wipeD ρ vs) fun ρ1 => tt ρ1 fun b ρ2 => if b = true then tk ρ2 fun yk ρk => te ρk fun y ρ3 => ∃ k, keyD yk = some k ∧ K (putD acc k y) (wipeD ρ3 vs) else K acc (wipeD ρ2 vs))
    (he : ∀ acc ρ, P ds acc ρ → Q acc ρ) : wpDc g tt tk te vs Q ds [] ρ0 := by
  have aux : ∀ (rest done : List D) (acc : List (Key × D)) (ρ : Env), ds = done ++ rest → P done acc ρ → wpDc g tt tk te vs Q rest acc ρ := by
    intro rest
    induction rest with
    | nil => intro done acc ρ e p; rw [List.append_nil] at e; subst e; exact he acc ρ p
    | cons d rest ih =>
      intro done acc ρ e p
      exact hs done d rest acc ρ _ e p fun acc' ρ' p' => ih (done ++ [d]) acc' ρ' (by rw [e]; simp) p'
  exact aux ds [] [] ρ0 rfl h0
theorem iv_read {n : Nat} {m : List Int} (hm : Mv n m) : PyData.tuple ((rgI n).map fun y => PyData.int (iv m y)) = tI (inv m) := by
  rw [inv_map hm]; unfold tI; rw [List.map_map]; rfl
theorem v_undone_move : VD g_undone_move S_undone_move 1 3 := fun ds Q _ h => by
  obtain ⟨n, m, rfl, hm, hn, h⟩ := h
  have hl := hm.len
  unfold g_undone_move
  try walk_at "dd"
  rw [enD_map m PyData.int 0, hl]
  refine wpDc_cps (fun done acc ρ => ρ = [some (.im (tI m)), none, none, none] ∧ acc.length ≤ done.length ∧ ∀ x : Int, 0 ≤ x → x < done.length → valD acc (.inl (im m x)) = some (.int x)) ⟨rfl, by simp, fun x h0 h1 => by simp at h1; omega⟩ (fun done d rest acc ρ K e p k => ?_) (fun acc ρ p => ?_)
  · obtain ⟨rfl, al, av⟩ := p
    obtain ⟨l1, i, l2, e1, rfl, rfl, rfl⟩ := map_split e
    obtain ⟨ei, e2⟩ := rgI_split e1
    rw [List.length_map] at al av
    have lt : l1.length < n := by
      have := congrArg List.length e1
      rw [rgI_len] at this
      simp at this
      omega
    refine ⟨by omega, ?_⟩
    try walk_at "dd"
    refine k _ _ ⟨rfl, ?_, fun x x0 x1 => ?_⟩
    · have := putD_len (kvs := acc) (k := .inl (m.getD i.toNat 0)) (d := .int i)
      simp only [List.length_append, List.length_map, List.length_cons, List.length_nil]
      omega
    · rw [valD_put]
      simp only [List.length_append, List.length_map, List.length_cons, List.length_nil] at x1
      by_cases z : x = i
      · subst z
        exact if_pos rfl
      · have x2 : x < l1.length := by omega
        rw [if_neg (fun w => z (im_inj hm x0 (by omega) (by omega) (by omega) (by simpa [im] using w)))]
        exact av x x0 x2
  · obtain ⟨rfl, al, av⟩ := p
    rw [List.length_map, rgI_len] at av
    try walk_at "dd"
    refine ⟨by rw [hl]; exact rgd (by omega), ?_⟩
    rw [hl]
    refine wpLc_mapL (rgI n) PyData.int (fun y => .int (iv m y)) (by rw [rgI_len]; omega) rfl (fun y hy K hK => ?_) (fun _ => rfl) ?_
    · have ry := mem_rgI.mp hy
      try walk_at "dd"
      exact ⟨_, _, _, rfl, rfl, inv_vals hm av ry.1 ry.2, hK _ rfl⟩
    · try walk_at "dd"
      rw [iv_read hm]
      exact h
end Dn
set_option Elab.async false
set_option linter.all false
set_option maxRecDepth 100000
set_option autoImplicit false
set_option maxHeartbeats 4000000
namespace Dn.T
open PySem L2 Evl PySem.Spec PyProof.Rows
abbrev N__law_undone : List Str := ["_law_move", "_law_found", "_law_thing", "_law_goal"]
abbrev P__law_undone : List Str := ["_law_move"]
def g__law_undone : DS := sSeq (sSet 1 (xOw (lLc (iSq (dVar 0)) (gNm 2) (dYes) (dC (.int 0)) [2]))) (sSeq (sFor (iEn (dVar 0)) (gTp 2 (gsCons (gNm 2) (gsCons (gNm 3) (gsNil)))) (sSub 1 (dVar 3) (dVar 2))) (sRet (dTupO 1)))
abbrev N__law_orders : List Str := ["_law_size", "_law_found", "_law_turn", "_law_longer", "_law_one", "_law_thing"]
abbrev P__law_orders : List Str := ["_law_size"]
def g__law_orders : DS := sSeq (sSet 1 (xIm (dOfL (lLst (aCons (dTup (aNil)) (aNil)))))) (sSeq (sFor (iR1 (dVar 0)) (gNm 2) (sSeq (sSet 3 (xOw (lLst (aNil)))) (sSeq (sFor (iSq (dVar 1)) (gNm 4) (sEx (dExt 3 (dOfL (lLc (iR1 (dVar 0)) (gNm 5) (dTst (dBin (dIn true) (dVar 5) (dVar 4))) (dBin dAdd (dVar 4) (dTup (aCons (dVar 5) (aNil)))) [5]))))) (sSet 1 (xIm (dOfL (lOfO 3))))))) (sRet (dVar 1)))
abbrev N__law_keeps_dots : List Str := ["_law_dots", "_law_move", "_law_x", "_law_row", "_law_goals", "_law_y", "_law_goal"]
abbrev P__law_keeps_dots : List Str := ["_law_dots", "_law_move"]
def g__law_keeps_dots : DS := sSeq (sFor (iEn (dVar 0)) (gTp 2 (gsCons (gNm 2) (gsCons (gNm 3) (gsNil)))) (sSeq (sSet 4 (xIm (dBin dIx (dVar 0) (dBin dIx (dVar 1) (dVar 2))))) (sIf (dTNot (dTst (dCall dAll (aCons (dOfL (lLc (iEn (dVar 3)) (gTp 2 (gsCons (gNm 5) (gsCons (gNm 6) (gsNil)))) (dYes) (dBin dEq (dBin dIx (dVar 1) (dVar 6)) (dBin dIx (dVar 4) (dBin dIx (dVar 1) (dVar 5)))) [5, 6])) (aNil))))) (sRet (dC (.bool false))) (sNx)))) (sRet (dC (.bool true)))
abbrev N__law_dots_likenesses : List Str := ["_law_dots", "_law_move"]
abbrev P__law_dots_likenesses : List Str := ["_law_dots"]
def g__law_dots_likenesses : DS := sRet (dOfL (lLc (iSq (dCallF 1 S__law_orders (aCons (dCall dLen (aCons (dVar 0) (aNil))) (aNil)))) (gNm 1) (dTst (dCallF 2 S__law_keeps_dots (aCons (dVar 0) (aCons (dVar 1) (aNil))))) (dVar 1) [1]))
abbrev N__law_places_of : List Str := ["_law_count", "_law_size", "_law_at"]
abbrev P__law_places_of : List Str := ["_law_count", "_law_size"]
def g__law_places_of : DS := sRet (dOfL (lLc (iR1 (dBin dMulA (dVar 0) (dVar 1))) (gNm 2) (dYes) (dTup (aCons (dBin dFdiv (dVar 2) (dVar 1)) (aCons (dBin dMod (dVar 2) (dVar 1)) (aNil)))) [2]))
abbrev N__law_renamed_dots : List Str := ["_law_dots", "_law_order", "_law_back", "_law_x", "_law_y"]
abbrev P__law_renamed_dots : List Str := ["_law_dots", "_law_order"]
def g__law_renamed_dots : DS := sSeq (sSet 2 (xIm (dCallF 1 S__law_undone (aCons (dVar 1) (aNil))))) (sRet (dOfL (lLc (iSq (dVar 1)) (gNm 3) (dYes) (dCall dTupOf (aCons (dOfL (lLc (iSq (dVar 1)) (gNm 4) (dYes) (dBin dIx (dVar 2) (dBin dIx (dBin dIx (dVar 0) (dVar 3)) (dVar 4))) [4])) (aNil))) [3])))
abbrev N__law_union_dots : List Str := ["_law_one", "_law_other", "_law_first", "_law_second", "_law_size", "_law_found", "_law_row", "_law_goal"]
abbrev P__law_union_dots : List Str := ["_law_one", "_law_other", "_law_first", "_law_second"]
def g__law_union_dots : DS := sSeq (sPar 4 5 (xIm (dCall dLen (aCons (dVar 0) (aNil)))) (xOw (lLst (aNil)))) (sSeq (sFor (iSq (dVar 0)) (gNm 6) (sEx (dApp 5 (dCall dTupOf (aCons (dBin dAdd (dOfL (lOf (dVar 6))) (dOfL (lLc (iSq (dVar 2)) (gNm 7) (dYes) (dBin dAdd (dVar 4) (dVar 7)) [7]))) (aNil)))))) (sSeq (sFor (iSq (dVar 1)) (gNm 6) (sEx (dApp 5 (dCall dTupOf (aCons (dBin dAdd (dOfL (lOf (dVar 3))) (dOfL (lLc (iSq (dVar 6)) (gNm 7) (dYes) (dBin dAdd (dVar 4) (dVar 7)) [7]))) (aNil)))))) (sRetO 5)))
abbrev N__law_product_dots : List Str := ["_law_one", "_law_other", "_law_size", "_law_found", "_law_places", "_law_first", "_law_second", "_law_row", "_law_line", "_law_a", "_law_b"]
abbrev P__law_product_dots : List Str := ["_law_one", "_law_other"]
def g__law_product_dots : DS := sSeq (sPar 2 3 (xIm (dCall dLen (aCons (dVar 1) (aNil)))) (xOw (lLst (aNil)))) (sSeq (sSet 4 (xIm (dCallF 2 S__law_places_of (aCons (dCall dLen (aCons (dVar 0) (aNil))) (aCons (dVar 2) (aNil)))))) (sSeq (sFor (iSq (dVar 4)) (gTp 2 (gsCons (gNm 5) (gsCons (gNm 6) (gsNil)))) (sSeq (sPar 7 8 (xIm (dBin dIx (dVar 0) (dVar 5))) (xIm (dBin dIx (dVar 1) (dVar 6)))) (sEx (dApp 3 (dCall dTupOf (aCons (dOfL (lLc (iSq (dVar 4)) (gTp 2 (gsCons (gNm 9) (gsCons (gNm 10) (gsNil)))) (dYes) (dBin dAdd (dBin dMulA (dBin dIx (dVar 7) (dVar 9)) (dVar 2)) (dBin dIx (dVar 8) (dVar 10))) [9, 10])) (aNil))))))) (sRetO 3)))
abbrev N__law_small_dots : List Str := ["_law_dice_here", "_law_most", "_law_way", "_law_size", "_law_move", "_law_letter"]
abbrev P__law_small_dots : List Str := ["_law_dice_here", "_law_most"]
def g__law_small_dots : DS := sSeq (sSet 2 (xIm (dCallM 0 2 S__law_roll (aCons (dC (.int 6)) (aNil))))) (sSeq (sIf (dTAnd (dTst (dBin dEq (dVar 2) (dC (.int 0)))) (dTst (dBin dGt (dVar 1) (dC (.int 3))))) (sRet (dOfL (lLst (aCons (dTup (aCons (dC (.int 0)) (aCons (dC (.int 1)) (aCons (dC (.int 3)) (aCons (dC (.int 2)) (aNil)))))) (aCons (dTup (aCons (dC (.int 2)) (aCons (dC (.int 3)) (aCons (dC (.int 1)) (aCons (dC (.int 0)) (aNil)))))) (aCons (dTup (aCons (dC (.int 1)) (aCons (dC (.int 0)) (aCons (dC (.int 2)) (aCons (dC (.int 3)) (aNil)))))) (aCons (dTup (aCons (dC (.int 3)) (aCons (dC (.int 2)) (aCons (dC (.int 0)) (aCons (dC (.int 1)) (aNil)))))) (aNil)))))))) (sNx)) (sSeq (sIf (dTAnd (dTst (dBin dEq (dVar 2) (dC (.int 1)))) (dTst (dBin dGt (dVar 1) (dC (.int 3))))) (sRet (dOfL (lLst (aCons (dTup (aCons (dC (.int 1)) (aCons (dC (.int 0)) (aCons (dC (.int 2)) (aCons (dC (.int 3)) (aNil)))))) (aCons (dTup (aCons (dC (.int 2)) (aCons (dC (.int 3)) (aCons (dC (.int 1)) (aCons (dC (.int 0)) (aNil)))))) (aCons (dTup (aCons (dC (.int 3)) (aCons (dC (.int 2)) (aCons (dC (.int 0)) (aCons (dC (.int 1)) (aNil)))))) (aCons (dTup (aCons (dC (.int 0)) (aCons (dC (.int 1)) (aCons (dC (.int 3)) (aCons (dC (.int 2)) (aNil)))))) (aNil)))))))) (sNx)) (sSeq (sIf (dTAnd (dTst (dBin dEq (dVar 2) (dC (.int 2)))) (dTst (dBin dGt (dVar 1) (dC (.int 3))))) (sRet (dCallM 0 2 S__law_pick (aCons (dOfL (lLst (aCons (dOfL (lLst (aCons (dTup (aCons (dC (.int 1)) (aCons (dC (.int 2)) (aCons (dC (.int 3)) (aCons (dC (.int 0)) (aNil)))))) (aCons (dTup (aCons (dC (.int 3)) (aCons (dC (.int 0)) (aCons (dC (.int 1)) (aCons (dC (.int 2)) (aNil)))))) (aCons (dTup (aCons (dC (.int 1)) (aCons (dC (.int 2)) (aCons (dC (.int 3)) (aCons (dC (.int 0)) (aNil)))))) (aCons (dTup (aCons (dC (.int 3)) (aCons (dC (.int 0)) (aCons (dC (.int 1)) (aCons (dC (.int 2)) (aNil)))))) (aNil))))))) (aCons (dOfL (lLst (aCons (dTup (aCons (dC (.int 1)) (aCons (dC (.int 0)) (aCons (dC (.int 3)) (aCons (dC (.int 2)) (aNil)))))) (aCons (dTup (aCons (dC (.int 2)) (aCons (dC (.int 3)) (aCons (dC (.int 0)) (aCons (dC (.int 1)) (aNil)))))) (aCons (dTup (aCons (dC (.int 2)) (aCons (dC (.int 3)) (aCons (dC (.int 0)) (aCons (dC (.int 1)) (aNil)))))) (aCons (dTup (aCons (dC (.int 1)) (aCons (dC (.int 0)) (aCons (dC (.int 3)) (aCons (dC (.int 2)) (aNil)))))) (aNil))))))) (aNil))))) (aNil)))) (sNx)) (sSeq (sSet 3 (xIm (dBin dAdd (dC (.int 1)) (dCallM 0 2 S__law_roll (aCons (dCall dMin2 (aCons (dC (.int 4)) (aCons (dVar 1) (aNil)))) (aNil)))))) (sSeq (sSet 4 (xIm (dIfE (dTst (dBin dGt (dCallM 0 2 S__law_roll (aCons (dC (.int 4)) (aNil))) (dC (.int 0)))) (dCallM 0 2 S__law_drawn_move (aCons (dVar 3) (aNil))) (dTRg (rg1 (dVar 3)))))) (sRet (dOfL (lLc (iR1 (dVar 3)) (gNm 5) (dYes) (dVar 4) [5]))))))))
abbrev N__law_quiet_dots : List Str := ["_law_dice_here", "_law_least", "_law_most", "_law_found", "_law_turn", "_law_room", "_law_more", "_law_first", "_law_second"]
abbrev P__law_quiet_dots : List Str := ["_law_dice_here", "_law_least", "_law_most"]
def g__law_quiet_dots : DS := sSeq (sSet 3 (xIm (dCallM 0 2 S__law_small_dots (aCons (dVar 2) (aNil))))) (sSeq (sIf (dTAnd (dTst (dBin dGt (dVar 2) (dC (.int 3)))) (dTst (dBin dEq (dCallM 0 2 S__law_roll (aCons (dC (.int 4)) (aNil))) (dC (.int 0))))) (sSet 3 (xIm (dCallF 2 S__law_product_dots (aCons (dOfL (lLst (aCons (dTup (aCons (dC (.int 1)) (aCons (dC (.int 0)) (aNil)))) (aCons (dTup (aCons (dC (.int 1)) (aCons (dC (.int 0)) (aNil)))) (aNil))))) (aCons (dCallM 0 2 S__law_pick (aCons (dOfL (lLst (aCons (dOfL (lLst (aCons (dTup (aCons (dC (.int 0)) (aCons (dC (.int 1)) (aNil)))) (aCons (dTup (aCons (dC (.int 0)) (aCons (dC (.int 1)) (aNil)))) (aNil))))) (aCons (dOfL (lLst (aCons (dTup (aCons (dC (.int 1)) (aCons (dC (.int 0)) (aNil)))) (aCons (dTup (aCons (dC (.int 1)) (aCons (dC (.int 0)) (aNil)))) (aNil))))) (aCons (dOfL (lLst (aCons (dTup (aCons (dC (.int 0)) (aNil))) (aNil)))) (aNil)))))) (aNil))) (aNil)))))) (sNx)) (sSeq (sFor (iR1 (dVar 2)) (gNm 4) (sSeq (sSet 5 (xIm (dBin dSub (dVar 2) (dCall dLen (aCons (dVar 3) (aNil)))))) (sIf (dTAnd (dTst (dBin dGt (dVar 5) (dC (.int 0)))) (dTOr (dTst (dBin dLt (dCall dLen (aCons (dVar 3) (aNil))) (dVar 1))) (dTst (dBin dEq (dCallM 0 2 S__law_roll (aCons (dC (.int 2)) (aNil))) (dC (.int 0)))))) (sSeq (sSet 6 (xIm (dCallM 0 2 S__law_small_dots (aCons (dVar 5) (aNil))))) (sSeq (sSet 7 (xIm (dTRg (rg1 (dCall dLen (aCons (dVar 6) (aNil))))))) (sSeq (sSet 8 (xIm (dTRg (rg1 (dCall dLen (aCons (dVar 3) (aNil))))))) (sSeq (sIf (dTAnd (dTst (dBin dLt (dCall dLen (aCons (dVar 6) (aNil))) (dC (.int 5)))) (dTst (dBin dLt (dCall dLen (aCons (dVar 3) (aNil))) (dC (.int 5))))) (sPar 7 8 (xIm (dCallM 0 2 S__law_pick (aCons (dCallF 1 S__law_dots_likenesses (aCons (dVar 6) (aNil))) (aNil)))) (xIm (dCallM 0 2 S__law_pick (aCons (dCallF 1 S__law_dots_likenesses (aCons (dVar 3) (aNil))) (aNil))))) (sNx)) (sSet 3 (xIm (dCallF 4 S__law_union_dots (aCons (dVar 3) (aCons (dVar 6) (aCons (dVar 7) (aCons (dVar 8) (aNil)))))))))))) (sNx)))) (sRet (dCallF 2 S__law_renamed_dots (aCons (dVar 3) (aCons (dCallM 0 2 S__law_drawn_move (aCons (dCall dLen (aCons (dVar 3) (aNil))) (aNil))) (aNil)))))))
abbrev N__law_rows_of_dots : List Str := ["_law_dots", "_law_size", "_law_found", "_law_left", "_law_x", "_law_row", "_law_y"]
abbrev P__law_rows_of_dots : List Str := ["_law_dots"]
def g__law_rows_of_dots : DS := sSeq (sPar 1 2 (xIm (dCall dLen (aCons (dVar 0) (aNil)))) (xOw (lLst (aNil)))) (sSeq (sSet 3 (xIm (dOfL (lLc (iSq (dVar 0)) (gNm 5) (dYes) (dCallF 1 S__law_undone (aCons (dVar 5) (aNil))) [5])))) (sSeq (sFor (iR1 (dVar 1)) (gNm 4) (sEx (dApp 2 (dCall dTupOf (aCons (dOfL (lLc (iR1 (dVar 1)) (gNm 6) (dYes) (dTup (aCons (dBin dIx (dBin dIx (dVar 3) (dVar 4)) (dVar 6)) (aCons (dBin dIx (dBin dIx (dVar 0) (dBin dIx (dBin dIx (dVar 3) (dVar 4)) (dVar 6))) (dVar 4)) (aNil)))) [6])) (aNil)))))) (sRet (dTupO 2))))
abbrev N__law_renamed_rows : List Str := ["_law_rows", "_law_order", "_law_back", "_law_found", "_law_x", "_law_y"]
abbrev P__law_renamed_rows : List Str := ["_law_rows", "_law_order"]
def g__law_renamed_rows : DS := sSeq (sPar 2 3 (xIm (dCallF 1 S__law_undone (aCons (dVar 1) (aNil)))) (xOw (lLst (aNil)))) (sSeq (sFor (iSq (dVar 1)) (gNm 4) (sEx (dApp 3 (dCall dTupOf (aCons (dOfL (lLc (iSq (dVar 1)) (gNm 5) (dYes) (dTup (aCons (dBin dIx (dVar 2) (dBin dIx (dBin dIx (dBin dIx (dVar 0) (dVar 4)) (dVar 5)) (dC (.int 0)))) (aCons (dBin dIx (dVar 2) (dBin dIx (dBin dIx (dBin dIx (dVar 0) (dVar 4)) (dVar 5)) (dC (.int 1)))) (aNil)))) [5])) (aNil)))))) (sRet (dTupO 3)))
abbrev N__law_fair_rows : List Str := ["_law_dice_here", "_law_least", "_law_most", "_law_way", "_law_size", "_law_move", "_law_one", "_law_other", "_law_turn", "_law_rows", "_law_moves", "_law_x", "_law_goals", "_law_y", "_law_goal"]
abbrev P__law_fair_rows : List Str := ["_law_dice_here", "_law_least", "_law_most"]
def g__law_fair_rows : DS := sSeq (sPar 3 4 (xIm (dCallM 0 2 S__law_roll (aCons (dC (.int 6)) (aNil)))) (xIm (dBin dAdd (dVar 1) (dCallM 0 2 S__law_roll (aCons (dBin dAdd (dBin dSub (dVar 2) (dVar 1)) (dC (.int 1))) (aNil)))))) (sSeq (sIf (dTst (dBin dEq (dVar 3) (dC (.int 0)))) (sSeq (sSet 5 (xIm (dCallM 0 2 S__law_drawn_move (aCons (dVar 4) (aNil))))) (sSeq (sPar 6 7 (xIm (dCallF 2 S__law_power (aCons (dVar 5) (aCons (dCallM 0 2 S__law_roll (aCons (dC (.int 5)) (aNil))) (aNil))))) (xIm (dCallF 2 S__law_power (aCons (dVar 5) (aCons (dCallM 0 2 S__law_roll (aCons (dC (.int 5)) (aNil))) (aNil)))))) (sRet (dCall dTupOf (aCons (dOfL (lLc (iR1 (dVar 4)) (gNm 11) (dYes) (dCall dTupOf (aCons (dOfL (lLc (iR1 (dVar 4)) (gNm 13) (dYes) (dTup (aCons (dBin dIx (dVar 6) (dVar 13)) (aCons (dBin dIx (dVar 7) (dVar 11)) (aNil)))) [13])) (aNil))) [11])) (aNil)))))) (sNx)) (sSeq (sIf (dTst (dBin dEq (dVar 3) (dC (.int 1)))) (sSeq (sSet 8 (xIm (dCallM 0 2 S__law_pick (aCons (dOfL (lLst (aCons (dNeg (dC (.int 1))) (aCons (dNeg (dC (.int 1))) (aCons (dC (.int 2)) (aCons (dC (.int 1)) (aNil))))))) (aNil))))) (sSeq (sSet 8 (xIm (dIfE (dTOr (dTst (dBin dLt (dVar 8) (dC (.int 2)))) (dTst (dBin dEq (dBin dMod (dVar 4) (dC (.int 2))) (dC (.int 1))))) (dVar 8) (dNeg (dC (.int 1)))))) (sSeq (sSet 9 (xOw (lLc (iR1 (dVar 4)) (gNm 11) (dYes) (dCall dTupOf (aCons (dOfL (lLc (iR1 (dVar 4)) (gNm 13) (dYes) (dTup (aCons (dBin dMod (dCall dInt (aCons (dBin dSub (dBin dAdd (dVar 11) (dBin dMulA (dVar 8) (dVar 13))) (dBin dMulA (dVar 8) (dVar 11))) (aNil))) (dVar 4)) (aCons (dVar 11) (aNil)))) [13])) (aNil))) [11]))) (sRet (dCallF 2 S__law_renamed_rows (aCons (dTupO 9) (aCons (dCallM 0 2 S__law_drawn_move (aCons (dVar 4) (aNil))) (aNil)))))))) (sNx)) (sSeq (sIf (dTAnd (dTst (dBin dEq (dVar 3) (dC (.int 2)))) (dTst (dBin dGt (dVar 2) (dC (.int 5))))) (sSeq (sSet 10 (xIm (dCallF 1 S__law_orders (aCons (dC (.int 3)) (aNil))))) (sSeq (sSet 9 (xOw (lLst (aNil)))) (sSeq (sFor (iSq (dVar 10)) (gNm 11) (sSeq (sSet 12 (xIm (dOfL (lLc (iSq (dVar 10)) (gNm 13) (dYes) (dIndexD (dVar 10) (dCallF 2 S__law_joined (aCons (dCallF 2 S__law_joined (aCons (dVar 11) (aCons (dVar 13) (aNil)))) (aCons (dCallF 1 S__law_undone (aCons (dVar 11) (aNil))) (aNil))))) [13])))) (sEx (dApp 9 (dCall dTupOf (aCons (dOfL (lLc (iSq (dVar 12)) (gNm 14) (dYes) (dTup (aCons (dVar 14) (aCons (dIndexD (dVar 10) (dVar 11)) (aNil)))) [14])) (aNil))))))) (sRet (dCallF 2 S__law_renamed_rows (aCons (dTupO 9) (aCons (dCallM 0 2 S__law_drawn_move (aCons (dC (.int 6)) (aNil))) (aNil)))))))) (sNx)) (sSeq (sIf (dTAnd (dTst (dBin dEq (dVar 3) (dC (.int 3)))) (dTst (dBin dGt (dVar 4) (dC (.int 1))))) (sSeq (sSet 9 (xOw (lLc (iR1 (dVar 4)) (gNm 11) (dYes) (dCall dTupOf (aCons (dOfL (lLc (iR1 (dVar 4)) (gNm 13) (dYes) (dTup (aCons (dVar 13) (aCons (dBin dMod (dCall dInt (aCons (dBin dSub (dBin dMulA (dC (.int 2)) (dVar 13)) (dVar 11)) (aNil))) (dVar 4)) (aNil)))) [13])) (aNil))) [11]))) (sRet (dCallF 2 S__law_renamed_rows (aCons (dTupO 9) (aCons (dCallM 0 2 S__law_drawn_move (aCons (dVar 4) (aNil))) (aNil)))))) (sNx)) (sRet (dCallF 1 S__law_rows_of_dots (aCons (dCallM 0 3 S__law_quiet_dots (aCons (dVar 1) (aCons (dVar 2) (aNil)))) (aNil))))))))
abbrev N__is_pairs : List Str := ["value", "size", "pair"]
abbrev P__is_pairs : List Str := ["value", "size"]
def g__is_pairs : DS := sSeq (sIf (dTOr (dTNot (dTst (dIsi "tuple" (dVar 0)))) (dTst (dBin dNe (dCall dLen (aCons (dVar 0) (aNil))) (dVar 1)))) (sRet (dC (.bool false))) (sNx)) (sRet (dCall dAll (aCons (dOfL (lLc (iSq (dVar 0)) (gNm 2) (dYes) (dCallF 3 S_is_row (aCons (dVar 2) (aCons (dC (.int 2)) (aCons (dVar 1) (aNil))))) [2])) (aNil))))
abbrev N__is_table_rows : List Str := ["value", "row"]
abbrev P__is_table_rows : List Str := ["value"]
def g__is_table_rows : DS := sSeq (sIf (dTOr (dTNot (dTst (dIsi "tuple" (dVar 0)))) (dTst (dBin dGt (dCall dLen (aCons (dVar 0) (aNil))) (dC (.int 8))))) (sRet (dC (.bool false))) (sNx)) (sRet (dCall dAll (aCons (dOfL (lLc (iSq (dVar 0)) (gNm 1) (dYes) (dCallF 2 S__is_pairs (aCons (dVar 1) (aCons (dCall dLen (aCons (dVar 0) (aNil))) (aNil)))) [1])) (aNil))))
def g__check_rows : DS := sIf (dTNot (dTst (dCallF 1 S__is_table_rows (aCons (dVar 0) (aNil))))) (sNever) (sNx)
abbrev N__threes : List Str := ["size", "letters", "x", "y", "z"]
abbrev P__threes : List Str := ["size"]
def g__threes : DS := g3
abbrev N__passed_left_first : List Str := ["rows", "x", "y", "z", "left", "middle", "right"]
abbrev P__passed_left_first : List Str := ["rows", "x", "y", "z"]
def g__passed_left_first : DS := sSeq (sAsg (dBin dIx (dBin dIx (dVar 0) (dVar 1)) (dVar 2)) (gTp 2 (gsCons (gNm 4) (gsCons (gNm 5) (gsNil))))) (sSeq (sAsg (dBin dIx (dBin dIx (dVar 0) (dVar 5)) (dVar 3)) (gTp 2 (gsCons (gNm 5) (gsCons (gNm 6) (gsNil))))) (sSeq (sAsg (dBin dIx (dBin dIx (dVar 0) (dVar 4)) (dVar 5)) (gTp 2 (gsCons (gNm 4) (gsCons (gNm 5) (gsNil))))) (sRet (dTup (aCons (dVar 4) (aCons (dVar 5) (aCons (dVar 6) (aNil))))))))
abbrev N__passed_right_first : List Str := ["rows", "x", "y", "z", "middle", "right", "left"]
abbrev P__passed_right_first : List Str := ["rows", "x", "y", "z"]
def g__passed_right_first : DS := sSeq (sAsg (dBin dIx (dBin dIx (dVar 0) (dVar 2)) (dVar 3)) (gTp 2 (gsCons (gNm 4) (gsCons (gNm 5) (gsNil))))) (sSeq (sAsg (dBin dIx (dBin dIx (dVar 0) (dVar 1)) (dVar 4)) (gTp 2 (gsCons (gNm 6) (gsCons (gNm 4) (gsNil))))) (sSeq (sAsg (dBin dIx (dBin dIx (dVar 0) (dVar 4)) (dVar 5)) (gTp 2 (gsCons (gNm 4) (gsCons (gNm 5) (gsNil))))) (sRet (dTup (aCons (dVar 6) (aCons (dVar 4) (aCons (dVar 5) (aNil))))))))
abbrev N__breaks_fair : List Str := ["rows", "word", "letters", "x", "y", "z"]
abbrev P__breaks_fair : List Str := ["rows", "word", "letters"]
def g__breaks_fair : DS := sSeq (sAsg (dVar 2) (gTp 3 (gsCons (gNm 3) (gsCons (gNm 4) (gsCons (gNm 5) (gsNil)))))) (sSeq (sIf (dTst (dBin dEq (dVar 1) (dC (.str "left")))) (sRet (dAnd (dBin dLt (dVar 4) (dVar 5)) (dBin dEq (dBin dIx (dBin dIx (dBin dIx (dVar 0) (dVar 3)) (dVar 4)) (dC (.int 0))) (dBin dIx (dBin dIx (dBin dIx (dVar 0) (dVar 3)) (dVar 5)) (dC (.int 0)))))) (sNx)) (sSeq (sIf (dTst (dBin dEq (dVar 1) (dC (.str "right")))) (sRet (dAnd (dBin dLt (dVar 4) (dVar 5)) (dBin dEq (dBin dIx (dBin dIx (dBin dIx (dVar 0) (dVar 4)) (dVar 3)) (dC (.int 1))) (dBin dIx (dBin dIx (dBin dIx (dVar 0) (dVar 5)) (dVar 3)) (dC (.int 1)))))) (sNx)) (sRet (dBin dNe (dCallF 4 S__passed_left_first (aCons (dVar 0) (aCons (dVar 3) (aCons (dVar 4) (aCons (dVar 5) (aNil)))))) (dCallF 4 S__passed_right_first (aCons (dVar 0) (aCons (dVar 3) (aCons (dVar 4) (aCons (dVar 5) (aNil))))))))))
def g__broken_paper : DS := sSeq (sSet 1 (xIm (dCallF 1 S__threes (aCons (dCall dLen (aCons (dVar 0) (aNil))) (aNil))))) (sFor (iSq (dTup (aCons (dC (.str "left")) (aCons (dC (.str "right")) (aCons (dC (.str "three")) (aNil)))))) (gNm 2) (sFor (iSq (dVar 1)) (gNm 3) (sIf (dTst (dCallF 3 S__breaks_fair (aCons (dVar 0) (aCons (dVar 2) (aCons (dVar 3) (aNil)))))) (sRet (dBin dAdd (dTup (aCons (dVar 2) (aNil))) (dVar 3))) (sNx))))
abbrev N__pass_alike : List Str := ["rows", "row", "further", "left_row", "middle_row", "z", "middle", "right", "other_middle", "other_right", "other_left"]
abbrev P__pass_alike : List Str := ["rows", "row", "further", "left_row", "middle_row"]
def g__pass_alike : DS := sSeq (sFor (iEn (dVar 4)) (gTp 2 (gsCons (gNm 5) (gsCons (gTp 2 (gsCons (gNm 6) (gsCons (gNm 7) (gsNil)))) (gsNil)))) (sSeq (sAsg (dBin dIx (dVar 2) (dVar 5)) (gTp 2 (gsCons (gNm 8) (gsCons (gNm 9) (gsNil))))) (sSeq (sAsg (dBin dIx (dVar 1) (dVar 8)) (gTp 2 (gsCons (gNm 10) (gsCons (gNm 8) (gsNil))))) (sIf (dTst (dBin dNe (dBin dAdd (dBin dIx (dVar 3) (dVar 6)) (dTup (aCons (dVar 7) (aNil)))) (dBin dAdd (dTup (aCons (dVar 10) (aNil))) (dBin dIx (dBin dIx (dVar 0) (dVar 8)) (dVar 9))))) (sRet (dC (.bool false))) (sNx))))) (sRet (dC (.bool true)))
abbrev N_are_fair_rows : List Str := ["rows", "x", "row", "lefts", "rights", "y", "left", "middle", "pair", "other"]
abbrev P_are_fair_rows : List Str := ["rows"]
def g_are_fair_rows : DS := sSeq (sFor (iEn (dVar 0)) (gTp 2 (gsCons (gNm 1) (gsCons (gNm 2) (gsNil)))) (sSeq (sSet 3 (xIm (dOfL (lLc (iSq (dVar 2)) (gNm 8) (dYes) (dBin dIx (dVar 8) (dC (.int 0))) [8])))) (sSeq (sSet 4 (xIm (dOfL (lLc (iSq (dVar 0)) (gNm 9) (dYes) (dBin dIx (dBin dIx (dVar 9) (dVar 1)) (dC (.int 1))) [9])))) (sIf (dTOr (dTst (dBin dLt (dLenSetL (dVar 3)) (dCall dLen (aCons (dVar 0) (aNil))))) (dTst (dBin dLt (dLenSetL (dVar 4)) (dCall dLen (aCons (dVar 0) (aNil)))))) (sRet (dC (.bool false))) (sNx))))) (sSeq (sFor (iEn (dVar 0)) (gTp 2 (gsCons (gNm 1) (gsCons (gNm 2) (gsNil)))) (sFor (iEn (dVar 2)) (gTp 2 (gsCons (gNm 5) (gsCons (gTp 2 (gsCons (gNm 6) (gsCons (gNm 7) (gsNil)))) (gsNil)))) (sIf (dTNot (dTst (dCallF 5 S__pass_alike (aCons (dVar 0) (aCons (dVar 2) (aCons (dBin dIx (dVar 0) (dVar 5)) (aCons (dBin dIx (dVar 0) (dVar 6)) (aCons (dBin dIx (dVar 0) (dVar 7)) (aNil))))))))) (sRet (dC (.bool false))) (sNx)))) (sRet (dC (.bool true))))
abbrev N_fair_paper : List Str := ["rows"]
abbrev P_fair_paper : List Str := ["rows"]
def g_fair_paper : DS := sSeq (sEx (dCallF 1 S__check_rows (aCons (dVar 0) (aNil)))) (sRet (dIfE (dTst (dCallF 1 S_are_fair_rows (aCons (dVar 0) (aNil)))) (dTup (aCons (dC (.str "fair")) (aNil))) (dCallF 1 S__broken_paper (aCons (dVar 0) (aNil)))))
abbrev N__passes_twice_unchanged : List Str := ["rows", "x", "row", "y", "pair"]
abbrev P__passes_twice_unchanged : List Str := ["rows"]
def g__passes_twice_unchanged : DS := sSeq (sFor (iEn (dVar 0)) (gTp 2 (gsCons (gNm 1) (gsCons (gNm 2) (gsNil)))) (sFor (iEn (dVar 2)) (gTp 2 (gsCons (gNm 3) (gsCons (gNm 4) (gsNil)))) (sIf (dTst (dBin dNe (dBin dIx (dBin dIx (dVar 0) (dBin dIx (dVar 4) (dC (.int 0)))) (dBin dIx (dVar 4) (dC (.int 1)))) (dTup (aCons (dVar 1) (aCons (dVar 3) (aNil)))))) (sRet (dC (.bool false))) (sNx)))) (sRet (dC (.bool true)))
abbrev N_Passing____init__ : List Str := ["self", "rows", "paper", "letters", "row", "pair", "y"]
abbrev P_Passing____init__ : List Str := ["self", "rows"]
def g_Passing____init__ : DS := sSeq (sSet 2 (xIm (dCallF 1 S_fair_paper (aCons (dVar 1) (aNil))))) (sSeq (sIf (dTst (dBin dNe (dVar 2) (dTup (aCons (dC (.str "fair")) (aNil))))) (sNever) (sNx)) (sSeq (sSet 3 (xRng (dCall dLen (aCons (dVar 1) (aNil))))) (sSeq (sFldD 0 "Passing" "_rows" (dVar 1)) (sSeq (sFldD 0 "Passing" "_left" (dCall dTupOf (aCons (dOfL (lLc (iSq (dVar 1)) (gNm 4) (dYes) (dCall dTupOf (aCons (dOfL (lLc (iSq (dVar 4)) (gNm 5) (dYes) (dBin dIx (dVar 5) (dC (.int 0))) [5])) (aNil))) [4])) (aNil)))) (sSeq (sFldD 0 "Passing" "_right" (dCall dTupOf (aCons (dOfL (lLc (iRgO 3) (gNm 6) (dYes) (dCall dTupOf (aCons (dOfL (lLc (iSq (dVar 1)) (gNm 4) (dYes) (dBin dIx (dBin dIx (dVar 4) (dVar 6)) (dC (.int 1))) [4])) (aNil))) [6])) (aNil)))) (sFldD 0 "Passing" "_quiet" (dCallF 1 S__passes_twice_unchanged (aCons (dVar 1) (aNil)))))))))
abbrev N_Passing__rows : List Str := ["self"]
abbrev P_Passing__rows : List Str := ["self"]
def g_Passing__rows : DS := sRet (dFld "Passing" "_rows" (dVar 0))
abbrev N_Passing____len__ : List Str := ["self"]
abbrev P_Passing____len__ : List Str := ["self"]
def g_Passing____len__ : DS := sRet (dCall dLen (aCons (dFld "Passing" "_rows" (dVar 0)) (aNil)))
abbrev N_check_table : List Str := ["value"]
abbrev P_check_table : List Str := ["value"]
def g_check_table : DS := sIf (dTNot (dTst (dIsC [] "Passing" (dVar 0)))) (sNever) (sNx)
end Dn.T
set_option Elab.async false
set_option linter.all false
set_option maxRecDepth 100000
set_option autoImplicit false
set_option maxHeartbeats 4000000
namespace Dn
open PySem L2 Evl PySem.Spec PyProof.Rows
def part (m : List Int) (n : Nat) (l : List Int) : List (List Int) := (l.filter (lead m n)).map (cyc m n)
end Dn
set_option Elab.async false
set_option linter.all false
set_option maxRecDepth 100000
set_option autoImplicit false
set_option maxHeartbeats 4000000
namespace Dn.T
open PySem L2 Evl PySem.Spec PyProof.Rows
local macro_rules | `(tactic| walk_at "dd") => `(tactic| simp only [sSeq, sIf, sSet, sRet, sRetN, sNx, sEx, sAsg, sPar, dTOr, dTAnd, dTNot, dTst, dIsi, dVar, dC, dBin, dChain, dNeg, dI2, dAnd, dOr, dNot, dIfE, dCall, dCallF, aCons, aNil, dTup, lLst, dOfL, xIm, xOw, gNm, gTp, gsCons, gsNil, dYes, envD, dLen_tR, dLen_tI, dLen_tup, dLen_lst, seq_tR, seq_tI, seq_tup, seq_lst, dIs, dIsNot, dNe, dEq, dTupOf, dSl, oNone, oSome, iSq, iEn, iR1, iR2, sFor, lLc, sNever, dTRg, rg1, rg2, lRg, wipeD, isN,
  gTpL, dIxP, sSub, dApp, dPopAt, dExt, dCallM, dCallO, dBinO, dTupO, lOf, lOfO, sRetO, iOw, dVarF, lCat, lCall, dAbs, dMax2, dMin2, dInt, atO, setO, MO.getL, MO.putL, Option.isSome_some,
  dInK, dGetK, dGetD, dInD, dGet1, lKeys, lSort, dLenSet, dLenSetL, dLenSet2, sPar3, dRevT, sPutK, xDct, xDct1, sRetK, atK, keyD, sAugI, dFld, sFldD, xRng, iRgO, dNew, dNewV, dCM, dProp, dMeth, dLenI, dStrO, dEqI, dIsC, dJoin, dJs, dFmt, dCallML, sSubI, gSubW, sWh, lDc, dRepT, lRep, dStrI, xDctT1, xDctOf, dInT, sPutT, lSortT2, lSortDT, dPop, dBinR, dKeep, dCallMO, atT, dCallO,
  kit_int, kit_bool, kit_tuple, kit_str, List.map_cons, List.map_nil, List.cons_append, List.nil_append, List.replicate, List.set_cons_zero, List.set_cons_succ, List.getElem?_cons_zero, List.getElem?_cons_succ, List.length_cons, List.length_nil, List.length_map, Nat.reduceAdd, Nat.reduceSub, Bool.not_true, Bool.not_false, Bool.false_eq_true, if_true, if_false, true_and, reduceCtorEq, Bool.true_eq_false, rgD_rgI, Option.some.injEq, exists_eq_left', and_true])
theorem Mw.dl {n : Nat} {m : List Int} (h : Mw n m) {x : Int} (x0 : 0 ≤ x) (x1 : x < n) : 0 ≤ m.getD x.toNat 0 ∧ m.getD x.toNat 0 < n := h.2 _ (getD_mem (by rw [h.1]; omega))
theorem Dw.row {n : Nat} {C : List (List Int)} (h : Dw n C) {x : Int} (x0 : 0 ≤ x) (x1 : x < n) : Mw n (C.getD x.toNat []) := h.2 _ (getD_mem (by rw [h.1]; omega))
theorem ixL {r : List (List Int)} {i : Int} {Q : D → Prop} (h0 : 0 ≤ i) (h1 : i < r.length) (h : Q (tI (r.getD i.toNat []))) : dIx (tL r) (.int i) Q := by
  refine ⟨_, atI_in (d := tI []) h0 (by simpa using h1), ?_⟩
  have h2 : i.toNat < r.length := by omega
  simp [List.getD, List.getElem?_eq_getElem h2] at h ⊢
  exact h
theorem dLen_tL {rs : List (List Int)} {Q : D → Prop} : dLen [tL rs] Q = Q (.int rs.length) := by show Q _ = _; simp
theorem tI_map (l : List Int) (f : Int → Int) : PyData.tuple (l.map fun b => .int (f b)) = tI (l.map f) := by unfold tI; simp only [List.map_map, Function.comp_def]
theorem tL_map {α : Type} (l : List α) (f : α → List Int) : PyData.list (l.map fun b => tI (f b)) = tL (l.map f) := by unfold tL; simp only [List.map_map, Function.comp_def]
theorem atI_zero {α : Type} {x : α} {l : List α} : atI (x :: l) 0 = some x := by
  unfold atI ixN
  simp
theorem all_id {α : Type} (p : α → Bool) (l : List α) : (l.map p).all id = l.all p := by simp [List.all_map]
theorem eqv_int (i j : Int) : (PyData.int i).eqv (.int j) = decide (i = j) := by
  simp only [PyData.eqv]
  by_cases z : i = j <;> simp [z]
theorem tI_app (r : List Int) (f : List Int) (g : Int → Int) : PyData.tuple (r.map PyData.int ++ f.map fun x => .int (g x)) = tI (r ++ f.map g) := by unfold tI; simp only [List.map_append, List.map_map, Function.comp_def]
theorem tPs_map {α : Type} (l : List α) (f : α → Int × Int) : PyData.tuple (l.map fun x => tP (f x)) = tPs (l.map f) := by unfold tPs; simp only [List.map_map, Function.comp_def]
theorem tRP_map {α : Type} (l : List α) (f : α → List (Int × Int)) : PyData.tuple (l.map fun x => tPs (f x)) = tRP (l.map f) := by unfold tRP; simp only [List.map_map, Function.comp_def]
theorem ixRP {R : List (List (Int × Int))} {i : Int} {Q : D → Prop} (h0 : 0 ≤ i) (h1 : i < R.length) (h : Q (tPs (R.getD i.toNat []))) : dIx (tRP R) (.int i) Q := by
  refine ⟨_, atI_in (d := tPs []) h0 (by simpa using h1), ?_⟩
  have h2 : i.toNat < R.length := by omega
  simp [List.getD, List.getElem?_eq_getElem h2] at h ⊢
  exact h
theorem ixPs {R : List (Int × Int)} {i : Int} {Q : D → Prop} (h0 : 0 ≤ i) (h1 : i < R.length) (h : Q (tP (R.getD i.toNat (0, 0)))) : dIx (tPs R) (.int i) Q := by
  refine ⟨_, atI_in (d := tP (0, 0)) h0 (by simpa using h1), ?_⟩
  have h2 : i.toNat < R.length := by omega
  simp [List.getD, List.getElem?_eq_getElem h2] at h ⊢
  exact h
theorem any_eqv (m : List Int) (x : Int) : ((m.map PyData.int).any fun z => PyData.eqv z (.int x)) = decide (x ∈ m) := by
  rw [List.any_map]
  induction m with
  | nil => simp
  | cons y m ih =>
    rw [List.any_cons, ih]
    simp only [Function.comp, eqv_int, List.mem_cons]
    by_cases z : y = x
    · simp [z]
    · have : ¬ x = y := fun e => z e.symm
      simp [z, this]
theorem all_sc (m : List Int) : (m.map PyData.int).all isSc = true := by simp [List.all_map, isSc]
theorem v__law_places_of : VD g__law_places_of S__law_places_of 2 1 := fun ds Q _ h => by
  obtain ⟨c, s, rfl, hs, hc, h⟩ := h
  unfold g__law_places_of
  try walk_at "dd"
  have hc' : c ≤ 1000 := by
    rcases Nat.lt_or_ge 1000 c with z | z
    · have := Nat.mul_le_mul (Nat.succ_le_of_lt z) hs
      omega
    · exact z
  refine ⟨cm_n (by omega) (by omega), ?_⟩
  rw [show ((c : Int) * s) = ((c * s : Nat) : Int) from by simp, rgD_rgI]
  refine ⟨rgd hc, ?_⟩
  refine wpLc_mapL (rgI (c * s)) PyData.int (fun k => .tuple [.int (k / s), .int (k % s)]) (by rw [rgI_len]; omega) rfl (fun x hx K hK => ?_) (fun _ => rfl) ?_
  · try walk_at "dd"
    have s0 : (0 : Int) < s := by omega
    have s1 : (s : Int) ≤ 1000 := by
      rcases Nat.lt_or_ge 0 c with z | z
      · have := Nat.mul_le_mul z (Nat.le_refl s)
        omega
      · have : c = 0 := by omega
        subst this
        simp [rgI] at hx
    exact ⟨cd_t s0 (by omega), s0, by decide, hK _ rfl⟩
  · try walk_at "dd"
    exact h
theorem okS_of {d : D} (h : SeqAt.shaped d = true) : okS d := fun t e => by subst e; exact h
theorem isRow_ints {r : List Int} {n m : Nat} (hl : r.length = m) (h : ∀ x, x ∈ r → 0 ≤ x ∧ x < n) (hn : n ≤ 24) : isRow (m : Int) (n : Int) (tI r) = true := by
  unfold isRow tI
  simp only [List.length_map, Bool.and_eq_true, decide_eq_true_eq, List.all_map, List.all_eq_true]
  exact ⟨by omega, fun x hx => isTh_in (h x hx).1 (h x hx).2 (by omega)⟩
theorem v__is_pairs : VD g__is_pairs S__is_pairs 2 1 := fun ds Q _ h => by
  obtain ⟨r, n, rfl, hl, hn, hp, h⟩ := h
  unfold g__is_pairs tPs
  walk_at "dd"
  refine ⟨rfl, rfl, ?_⟩
  rw [eqv_int, show decide ((r.length : Int) = (n : Int)) = true from by simp [hl]]
  walk_at "dd"
  refine wpLc_map (fun _ => .bool true) (by simp; omega) rfl (fun d hd K hK => ?_) (fun _ _ _ => rfl) ?_
  · walk_at "dd"
    obtain ⟨p, hp1, rfl⟩ := List.mem_map.mp hd
    have pp := hp p hp1
    refine ⟨_, 2, n, rfl, fun xs e => ?_, by omega, ?_⟩
    · cases e; simp
    · rw [show isRow 2 (n : Int) (tP p) = true from isRow_ints (r := [p.1, p.2]) (m := 2) rfl (fun x hx => by simp at hx; rcases hx with rfl | rfl; exact pp.1; exact pp.2) (by omega)]
      exact hK _ rfl
  · refine ⟨(r.map tP).map fun _ => true, by simp, ?_⟩
    rw [show ((r.map tP).map fun _ => true).all id = true from by simp]
    exact h
theorem v__is_table_rows : VD g__is_table_rows S__is_table_rows 1 1 := fun ds Q _ h => by
  obtain ⟨R, n, rfl, hR, hn, h⟩ := h
  have rl := hR.1
  unfold g__is_table_rows tRP
  walk_at "dd"
  rw [show decide ((8 : Int) < (R.length : Int)) = false from by simp; omega]
  walk_at "dd"
  refine wpLc_map (fun _ => .bool true) (by simp; omega) rfl (fun d hd K hK => ?_) (fun _ _ _ => rfl) ?_
  · walk_at "dd"
    obtain ⟨r, hr1, rfl⟩ := List.mem_map.mp hd
    have rr := hR.2 r hr1
    exact ⟨r, n, by simp [rl], rr.1, hn, rr.2, hK _ rfl⟩
  · refine ⟨(R.map tPs).map fun _ => true, by simp, ?_⟩
    rw [show ((R.map tPs).map fun _ => true).all id = true from by simp]
    exact h
theorem v__check_rows : VD g__check_rows S__check_rows 1 0 := fun ds Q _ h => by
  obtain ⟨R, n, rfl, hR, hn, h⟩ := h
  unfold g__check_rows
  walk_at "dd"
  refine ⟨R, n, rfl, hR, hn, ?_⟩
  walk_at "dd"
  exact h
theorem v__threes : VD g__threes S__threes 1 4 := fun ds Q _ h => by
  obtain ⟨n, rfl, hn, h⟩ := h
  exact ⟨n, rfl, by omega, h⟩
theorem ixPa {R : List (List (Int × Int))} {n : Nat} {x y : Int} {Q : D → Prop} (h : Pw n R) (hx : 0 ≤ x ∧ x < n) (hy : 0 ≤ y ∧ y < n) (k : Q (tP (pa R x y))) : dIx (tRP R) (.int x) fun r => dIx r (.int y) Q := by
  have rl := h.1
  have m := h.2 _ (getD_mem (l := R) (i := x.toNat) (d := []) (by omega))
  exact ixRP hx.1 (by omega) (ixPs hy.1 (by rw [m.1]; exact hy.2) k)
theorem pa_lt {R : List (List (Int × Int))} {n : Nat} {x y : Int} (h : Pw n R) (hx : 0 ≤ x ∧ x < n) (hy : 0 ≤ y ∧ y < n) : Pr n (pa R x y) := by
  have rl := h.1
  have m := h.2 _ (getD_mem (l := R) (i := x.toNat) (d := []) (by omega))
  exact m.2 _ (getD_mem (by rw [m.1]; omega))
theorem ixP0 {p : Int × Int} {Q : D → Prop} (k : Q (.int p.1)) : dIx (tP p) (.int 0) Q := ⟨.int p.1, atI_zero, k⟩
theorem atI_one {α : Type} {x y : α} {l : List α} : atI (x :: y :: l) 1 = some y := by
  unfold atI ixN
  have : (1 : Int).toNat = 1 := rfl
  have l2 : (1 : Int) < (l.length : Int) + 1 + 1 := by omega
  simp [this, l2]
theorem ixP1 {p : Int × Int} {Q : D → Prop} (k : Q (.int p.2)) : dIx (tP p) (.int 1) Q := ⟨.int p.2, atI_one, k⟩
theorem v__passed_left_first : VD g__passed_left_first S__passed_left_first 4 3 := fun ds Q _ h => by
  obtain ⟨R, n, x, y, z, rfl, hR, hn, ht, h⟩ := h
  obtain ⟨hx, hy, hz⟩ : (0 ≤ x ∧ x < n) ∧ (0 ≤ y ∧ y < n) ∧ (0 ≤ z ∧ z < n) := mem_t3.1 ht
  unfold g__passed_left_first
  walk_at "dd"
  refine ixPa hR hx hy ?_
  have p1 := pa_lt hR hx hy
  simp only [tP]
  walk_at "dd"
  refine ixPa hR p1.2 hz ?_
  have p2 := pa_lt hR p1.2 hz
  simp only [tP]
  walk_at "dd"
  refine ixPa hR p1.1 p2.1 ?_
  simp only [tP]
  walk_at "dd"
  exact ⟨by decide, h⟩
theorem v__passed_right_first : VD g__passed_right_first S__passed_right_first 4 3 := fun ds Q _ h => by
  obtain ⟨R, n, x, y, z, rfl, hR, hn, ht, h⟩ := h
  obtain ⟨hx, hy, hz⟩ : (0 ≤ x ∧ x < n) ∧ (0 ≤ y ∧ y < n) ∧ (0 ≤ z ∧ z < n) := mem_t3.1 ht
  unfold g__passed_right_first
  walk_at "dd"
  refine ixPa hR hy hz ?_
  have p1 := pa_lt hR hy hz
  simp only [tP]
  walk_at "dd"
  refine ixPa hR hx p1.1 ?_
  have p2 := pa_lt hR hx p1.1
  simp only [tP]
  walk_at "dd"
  refine ixPa hR p2.2 p1.2 ?_
  simp only [tP]
  walk_at "dd"
  exact ⟨by decide, h⟩
theorem v__breaks_fair : VD g__breaks_fair S__breaks_fair 3 3 := fun ds Q _ h => by
  obtain ⟨R, n, s, x, y, z, rfl, hR, hn, hs, ht, h⟩ := h
  obtain ⟨hx, hy, hz⟩ : (0 ≤ x ∧ x < n) ∧ (0 ≤ y ∧ y < n) ∧ (0 ≤ z ∧ z < n) := mem_t3.1 ht
  unfold g__breaks_fair
  simp only [tI, List.map_cons, List.map_nil]
  walk_at "dd"
  simp only [List.mem_cons, List.not_mem_nil, or_false] at hs
  rcases hs with rfl | rfl | rfl
  · refine ⟨by decide +kernel, by decide +kernel, ?_⟩
    rw [show PyData.eqv (.str "left") (.str "left") = true from by decide +kernel]
    simp only [brk, if_true] at h
    walk_at "dd"
    refine bool_ways (fun e => ?_) (fun e => ?_)
    · rw [e] at h
      refine ixPa hR hx hy (ixP0 (ixPa hR hx hz (ixP0 ?_)))
      refine ⟨rfl, rfl, ?_⟩
      rw [eqv_int]
      simpa using h
    · rw [e] at h
      simpa using h
  · refine ⟨by decide +kernel, by decide +kernel, ?_⟩
    rw [show PyData.eqv (.str "right") (.str "left") = false from by decide +kernel]
    simp only [brk, if_neg (show ¬ (("right" : Str) = "left") from by decide), if_true] at h
    walk_at "dd"
    refine ⟨by decide +kernel, by decide +kernel, ?_⟩
    rw [show PyData.eqv (.str "right") (.str "right") = true from by decide +kernel]
    walk_at "dd"
    refine bool_ways (fun e => ?_) (fun e => ?_)
    · rw [e] at h
      refine ixPa hR hy hx (ixP1 (ixPa hR hz hx (ixP1 ?_)))
      refine ⟨rfl, rfl, ?_⟩
      rw [eqv_int]
      simpa using h
    · rw [e] at h
      simpa using h
  · refine ⟨by decide +kernel, by decide +kernel, ?_⟩
    rw [show PyData.eqv (.str "three") (.str "left") = false from by decide +kernel]
    simp only [brk, if_neg (show ¬ (("three" : Str) = "left") from by decide), if_neg (show ¬ (("three" : Str) = "right") from by decide)] at h
    walk_at "dd"
    refine ⟨by decide +kernel, by decide +kernel, ?_⟩
    rw [show PyData.eqv (.str "three") (.str "right") = false from by decide +kernel]
    walk_at "dd"
    refine ⟨R, n, x, y, z, rfl, hR, hn, ht, R, n, x, y, z, rfl, hR, hn, ht, ?_⟩
    refine ⟨shaped_tI _, shaped_tI _, ?_⟩
    rw [eqv_tI]
    simpa using h
theorem dLen_tRP {R : List (List (Int × Int))} {Q : D → Prop} : dLen [tRP R] Q = Q (.int R.length) := by show Q _ = _; simp
theorem row_pw {R : List (List (Int × Int))} {n : Nat} {x : Int} (h : Pw n R) (hx : 0 ≤ x ∧ x < n) : (R.getD x.toNat []).length = n := by
  have rl := h.1
  exact (h.2 _ (getD_mem (l := R) (i := x.toNat) (d := []) (by omega))).1
theorem ixPy {R : List (List (Int × Int))} {n : Nat} {x y : Int} {Q : D → Prop} (h : Pw n R) (hx : 0 ≤ x ∧ x < n) (hy : 0 ≤ y ∧ y < n) (k : Q (tP (pa R x y))) : dIx (tPs (R.getD x.toNat [])) (.int y) Q :=
  ixPs hy.1 (by rw [row_pw h hx]; exact hy.2) k
theorem v__pass_alike : VD g__pass_alike S__pass_alike 5 6 := fun ds Q _ h => by
  obtain ⟨R, n, x, y, rfl, hR, hn, hx, hy, h⟩ := h
  have p1 := pa_lt hR hx hy
  unfold g__pass_alike
  walk_at "dd"
  refine ⟨_, rfl, ?_⟩
  rw [enD_map (R.getD (pa R x y).2.toNat []) tP (0, 0), row_pw hR p1.2]
  refine wpFor_fs (rgI n) (fun k => .tuple [.int k, tP (pa R (pa R x y).2 k)]) (fun z => if plf R x y z = prf R x y z then none else some (.bool false)) (fun ρ => ∃ x5 x6 x7 x8 x9 x10, ρ = [some (.im (tRP R)), some (.im (tPs (R.getD x.toNat []))), some (.im (tPs (R.getD y.toNat []))), some (.im (tPs (R.getD (pa R x y).1.toNat []))), some (.im (tPs (R.getD (pa R x y).2.toNat []))), x5, x6, x7, x8, x9, x10]) ⟨_, _, _, _, _, _, rfl⟩ (fun z hz ρ K B hI hq hk => ?_) (fun v hv => ?_) (fun hv ρ hI => ?_)
  · obtain ⟨x5, x6, x7, x8, x9, x10, rfl⟩ := hI
    have hz := mem_rgI.mp hz
    have p2 := pa_lt hR p1.2 hz
    have q1 := pa_lt hR hy hz
    have q2 := pa_lt hR hx q1.1
    simp only [tP]
    walk_at "dd"
    refine ixPy hR hy hz ?_
    simp only [tP]
    walk_at "dd"
    refine ixPy hR hx q1.1 ?_
    simp only [tP]
    walk_at "dd"
    refine ixPy hR p1.1 p2.1 ?_
    simp only [tP]
    try walk_at "dd"
    simp only [dAdd]
    refine ⟨by decide, by show 2 + 1 ≤ 16777216; decide, by decide, ?_⟩
    refine ixPa hR q2.2 q1.2 ?_
    simp only [tP, dAdd]
    refine ⟨by show 1 + 2 ≤ 16777216; decide, ?_⟩
    refine ⟨shaped_tI (plf R x y z), shaped_tI (prf R x y z), ?_⟩
    show if (!PyData.eqv (tI (plf R x y z)) (tI (prf R x y z))) = true then _ else _
    rw [eqv_tI]
    refine ite_ways (fun e => ?_) (fun e => ?_)
    · exact hq _ (if_neg (by simpa using e))
    · exact hk (if_pos (by simpa using e)) _ ⟨_, _, _, _, _, _, rfl⟩
  · obtain ⟨z, hz, e⟩ := List.exists_of_findSome?_eq_some hv
    split at e
    · cases e
    · rename_i ne
      cases e
      rw [show ((rgI n).all fun z => decide (plf R x y z = prf R x y z)) = false from by
        rw [Bool.eq_false_iff]
        intro w
        exact ne (by simpa using List.all_eq_true.mp w z hz)] at h
      exact h
  · obtain ⟨x5, x6, x7, x8, x9, x10, rfl⟩ := hI
    rw [show ((rgI n).all fun z => decide (plf R x y z = prf R x y z)) = true from by
      rw [List.all_eq_true]
      intro z hz
      have := List.findSome?_eq_none_iff.mp hv z hz
      simpa using this] at h
    try walk_at "dd"
    exact h
def lf (R : List (List (Int × Int))) (x : Int) : List Int := (R.getD x.toNat []).map (·.1)
def rt (R : List (List (Int × Int))) (x : Int) : List Int := R.map fun r => (r.getD x.toNat (0, 0)).2
theorem nodup_pairs {l : List Int} : l.Nodup ↔ ∀ i j : Nat, i < j → j < l.length → l.getD i 0 ≠ l.getD j 0 := by
  constructor
  · intro h i j ij jl e
    have a := List.pairwise_iff_getElem.mp h i j (by omega) jl ij
    simp only [List.getD_eq_getElem?_getD, List.getElem?_eq_getElem jl, List.getElem?_eq_getElem (show i < l.length by omega), Option.getD_some] at e
    exact a e
  · intro h
    refine List.pairwise_iff_getElem.mpr fun i j hi hj ij e => h i j ij hj ?_
    simp only [List.getD_eq_getElem?_getD, List.getElem?_eq_getElem hj, List.getElem?_eq_getElem hi, Option.getD_some]
    exact e
theorem lf_get {R : List (List (Int × Int))} {n : Nat} {x : Int} (h : Pw n R) (hx : 0 ≤ x ∧ x < n) {i : Nat} (hi : i < n) : (lf R x).getD i 0 = (pa R x i).1 := by
  unfold lf pa
  have rl := row_pw h hx
  simp only [List.getD_eq_getElem?_getD, List.getElem?_map, Int.toNat_natCast] at rl ⊢
  rw [List.getElem?_eq_getElem (by omega)]
  rfl
theorem rt_get {R : List (List (Int × Int))} {n : Nat} {x : Int} (h : Pw n R) {i : Nat} (hi : i < n) : (rt R x).getD i 0 = (pa R i x).2 := by
  unfold rt pa
  have rl := h.1
  simp only [List.getD_eq_getElem?_getD, List.getElem?_map, Int.toNat_natCast]
  rw [List.getElem?_eq_getElem (by omega)]
  rfl
theorem lf_nodup {R : List (List (Int × Int))} {n : Nat} {x : Int} (h : Pw n R) (hx : 0 ≤ x ∧ x < n) : (lf R x).Nodup ↔ ∀ y z : Int, 0 ≤ y → y < z → z < n → (pa R x y).1 ≠ (pa R x z).1 := by
  have ll : (lf R x).length = n := by unfold lf; rw [List.length_map, row_pw h hx]
  rw [nodup_pairs]
  constructor
  · intro w y z y0 yz zn
    have := w y.toNat z.toNat (by omega) (by omega)
    rw [lf_get h hx (by omega), lf_get h hx (by omega)] at this
    rwa [Int.toNat_of_nonneg y0, Int.toNat_of_nonneg (by omega)] at this
  · intro w i j ij jl
    rw [lf_get h hx (by omega), lf_get h hx (by omega)]
    exact w i j (by omega) (by omega) (by omega)
theorem rt_nodup {R : List (List (Int × Int))} {n : Nat} {x : Int} (h : Pw n R) : (rt R x).Nodup ↔ ∀ y z : Int, 0 ≤ y → y < z → z < n → (pa R y x).2 ≠ (pa R z x).2 := by
  have ll : (rt R x).length = n := by unfold rt; rw [List.length_map, h.1]
  rw [nodup_pairs]
  constructor
  · intro w y z y0 yz zn
    have := w y.toNat z.toNat (by omega) (by omega)
    rw [rt_get h (by omega), rt_get h (by omega)] at this
    rwa [Int.toNat_of_nonneg y0, Int.toNat_of_nonneg (by omega)] at this
  · intro w i j ij jl
    rw [rt_get h (by omega), rt_get h (by omega)]
    exact w i j (by omega) (by omega) (by omega)
theorem fair_iff {R : List (List (Int × Int))} {n : Nat} (h : Pw n R) : noBrk (brk R) W3 n ↔ (∀ x, x ∈ rgI n → (lf R x).Nodup ∧ (rt R x).Nodup) ∧ ∀ x, x ∈ rgI n → ∀ y, y ∈ rgI n → ((rgI n).all fun z => decide (plf R x y z = prf R x y z)) = true := by
  have l1 : ∀ x y z, brk R "left" x y z = (decide (y < z) && decide ((pa R x y).1 = (pa R x z).1)) := fun x y z => by simp only [brk, if_true]
  have l2 : ∀ x y z, brk R "right" x y z = (decide (y < z) && decide ((pa R y x).2 = (pa R z x).2)) := fun x y z => by simp only [brk, if_neg (show ¬ (("right" : Str) = "left") from by decide), if_true]
  have l3 : ∀ x y z, brk R "three" x y z = decide (plf R x y z ≠ prf R x y z) := fun x y z => by simp only [brk, if_neg (show ¬ (("three" : Str) = "left") from by decide), if_neg (show ¬ (("three" : Str) = "right") from by decide)]
  constructor
  · intro w
    refine ⟨fun x hx => ⟨(lf_nodup h (mem_rgI.mp hx)).2 fun y z y0 yz zn e => ?_, (rt_nodup h).2 fun y z y0 yz zn e => ?_⟩, fun x hx y hy => List.all_eq_true.mpr fun z hz => ?_⟩
    · have := w "left" (by simp) (x, y, z) (mem_t3.2 ⟨mem_rgI.mp hx, by simp; omega, by simp; omega⟩)
      dsimp only at this
      rw [l1] at this
      simp [yz, e] at this
    · have := w "right" (by simp) (x, y, z) (mem_t3.2 ⟨mem_rgI.mp hx, by simp; omega, by simp; omega⟩)
      dsimp only at this
      rw [l2] at this
      simp [yz, e] at this
    · have := w "three" (by simp) (x, y, z) (mem_t3.2 ⟨mem_rgI.mp hx, mem_rgI.mp hy, mem_rgI.mp hz⟩)
      dsimp only at this
      rw [l3] at this
      simpa using this
  · rintro ⟨w1, w2⟩ s hs ⟨x, y, z⟩ ht
    obtain ⟨hx, hy, hz⟩ : (0 ≤ x ∧ x < n) ∧ (0 ≤ y ∧ y < n) ∧ (0 ≤ z ∧ z < n) := mem_t3.1 ht
    dsimp only
    simp only [List.mem_cons, List.not_mem_nil, or_false] at hs
    rcases hs with rfl | rfl | rfl
    · rw [l1]
      by_cases yz : y < z
      · have := (lf_nodup h hx).1 (w1 x (mem_rgI.mpr hx)).1 y z hy.1 yz hz.2
        simp [this]
      · simp [yz]
    · rw [l2]
      by_cases yz : y < z
      · have := (rt_nodup h).1 (w1 x (mem_rgI.mpr hx)).2 y z hy.1 yz hz.2
        simp [this]
      · simp [yz]
    · rw [l3]
      have := List.all_eq_true.mp (w2 x (mem_rgI.mpr hx) y (mem_rgI.mpr hy)) z (mem_rgI.mpr hz)
      simpa using this
theorem v_are_fair_rows : VD g_are_fair_rows S_are_fair_rows 1 9 := fun ds Q _ h => by
  obtain ⟨R, n, rfl, hR, hn, h⟩ := h
  have rl := hR.1
  unfold g_are_fair_rows
  walk_at "dd"
  refine ⟨_, rfl, ?_⟩
  rw [enD_map R tPs [], rl]
  refine wpFor_fs (rgI n) (fun k => .tuple [.int k, tPs (R.getD k.toNat [])]) (fun x => if (lf R x).Nodup ∧ (rt R x).Nodup then none else some (.bool false)) (fun ρ => ∃ x1 x2 x3 x4 x5 x6 x7 x8 x9, ρ = [some (.im (tRP R)), x1, x2, x3, x4, x5, x6, x7, x8, x9]) ⟨_, _, _, _, _, _, _, _, _, rfl⟩ (fun x hx ρ K B hI hq hk => ?_) (fun v hv => ?_) (fun hv ρ hI => ?_)
  · obtain ⟨x1, x2, x3, x4, x5, x6, x7, x8, x9, rfl⟩ := hI
    have hx := mem_rgI.mp hx
    walk_at "dd"
    refine ⟨_, rfl, ?_⟩
    refine wpLc_mapL (R.getD x.toNat []) tP (fun p => .int p.1) (by rw [row_pw hR hx]; omega) rfl (fun p _ K2 hK => ?_) (fun _ => rfl) ?_
    · walk_at "dd"
      exact ixP0 (hK _ rfl)
    walk_at "dd"
    refine ⟨_, rfl, ?_⟩
    refine wpLc_mapL R tPs (fun r => .int (r.getD x.toNat (0, 0)).2) (by omega) rfl (fun r hr K2 hK => ?_) (fun _ => rfl) ?_
    · walk_at "dd"
      refine ixPs hx.1 (by rw [(hR.2 r hr).1]; exact hx.2) (ixP1 (hK _ rfl))
    walk_at "dd"
    refine ⟨lf R x, by unfold lf; rw [List.map_map]; rfl, by unfold lf; rw [List.length_map, row_pw hR hx]; omega, fun a ha1 ha2 => ?_⟩
    try walk_at "dd"
    rw [dLen_tRP, rl]
    try walk_at "dd"
    have ll : (lf R x).length = n := by unfold lf; rw [List.length_map, row_pw hR hx]
    have rl2 : (rt R x).length = n := by unfold rt; rw [List.length_map, rl]
    rw [ll] at ha1 ha2
    refine ite_ways (fun e => ?_) (fun e => ?_)
    · refine hq _ (if_neg fun w => ?_)
      have := ha2.2 w.1
      simp at e
      omega
    · have n1 : (lf R x).Nodup := ha2.1 (by simp at e; omega)
      refine ⟨rt R x, by unfold rt; rw [List.map_map]; rfl, by omega, fun b hb1 hb2 => ?_⟩
      rw [rl2] at hb1 hb2
      rw [dLen_tRP, rl]
      try walk_at "dd"
      refine ite_ways (fun e => ?_) (fun e => ?_)
      · refine hq _ (if_neg fun w => ?_)
        have := hb2.2 w.2
        simp at e
        omega
      · have n2 : (rt R x).Nodup := hb2.1 (by simp at e; omega)
        exact hk (if_pos ⟨n1, n2⟩) _ ⟨_, _, _, _, _, _, _, _, _, rfl⟩
  · obtain ⟨x, hx, e⟩ := List.exists_of_findSome?_eq_some hv
    split at e
    · cases e
    · rename_i ne
      cases e
      rw [show decide (noBrk (brk R) W3 n) = false from decide_eq_false fun w => ne (((fair_iff hR).1 w).1 x hx)] at h
      exact h
  · have all1 : ∀ x, x ∈ rgI n → (lf R x).Nodup ∧ (rt R x).Nodup := fun x hx => by
      have := List.findSome?_eq_none_iff.mp hv x hx
      exact Classical.byContradiction fun z => by rw [if_neg z] at this; cases this
    obtain ⟨x1, x2, x3, x4, x5, x6, x7, x8, x9, rfl⟩ := hI
    walk_at "dd"
    refine ⟨_, rfl, ?_⟩
    rw [enD_map R tPs [], rl]
    refine wpFor_fs (rgI n) (fun k => .tuple [.int k, tPs (R.getD k.toNat [])]) (fun x => (rgI n).findSome? fun y => if ((rgI n).all fun z => decide (plf R x y z = prf R x y z)) = true then none else some (.bool false)) (fun ρ => ∃ x1 x2 x3 x4 x5 x6 x7 x8 x9, ρ = [some (.im (tRP R)), x1, x2, x3, x4, x5, x6, x7, x8, x9]) ⟨_, _, _, _, _, _, _, _, _, rfl⟩ (fun x hx ρ K B hI hq hk => ?_) (fun v hv => ?_) (fun hv ρ hI => ?_)
    · obtain ⟨x1, x2, x3, x4, x5, x6, x7, x8, x9, rfl⟩ := hI
      have hx := mem_rgI.mp hx
      walk_at "dd"
      refine ⟨_, rfl, ?_⟩
      rw [enD_map (R.getD x.toNat []) tP (0, 0), row_pw hR hx]
      refine wpFor_fs (rgI n) (fun k => .tuple [.int k, tP (pa R x k)]) (fun y => if ((rgI n).all fun z => decide (plf R x y z = prf R x y z)) = true then none else some (.bool false)) (fun ρ => ∃ x3 x4 x5 x6 x7 x8 x9, ρ = [some (.im (tRP R)), some (.im (.int x)), some (.im (tPs (R.getD x.toNat []))), x3, x4, x5, x6, x7, x8, x9]) ⟨_, _, _, _, _, _, _, rfl⟩ (fun y hy ρ K2 B2 hI2 hq2 hk2 => ?_) hq (fun hv ρ hI2 => ?_)
      · obtain ⟨x3, x4, x5, x6, x7, x8, x9, rfl⟩ := hI2
        have hy := mem_rgI.mp hy
        have p1 := pa_lt hR hx hy
        simp only [tP]
        walk_at "dd"
        refine ixRP hy.1 (by omega) ?_
        try walk_at "dd"
        refine ixRP p1.1.1 (by rw [rl]; exact p1.1.2) ?_
        try walk_at "dd"
        refine ixRP p1.2.1 (by rw [rl]; exact p1.2.2) ?_
        try walk_at "dd"
        refine ⟨R, n, x, y, rfl, hR, hn, hx, hy, ?_⟩
        refine ite_ways (fun e => ?_) (fun e => ?_)
        · exact hq2 _ (if_neg (by simpa using e))
        · exact hk2 (if_pos (by simpa using e)) _ ⟨_, _, _, _, _, _, _, rfl⟩
      · obtain ⟨x3, x4, x5, x6, x7, x8, x9, rfl⟩ := hI2
        exact hk hv _ ⟨_, _, _, _, _, _, _, _, _, rfl⟩
    · obtain ⟨x, hx, e⟩ := List.exists_of_findSome?_eq_some hv
      obtain ⟨y, hy, e⟩ := List.exists_of_findSome?_eq_some e
      split at e
      · cases e
      · rename_i ne
        cases e
        rw [show decide (noBrk (brk R) W3 n) = false from decide_eq_false fun w => ne (((fair_iff hR).1 w).2 x hx y hy)] at h
        exact h
    · obtain ⟨x1, x2, x3, x4, x5, x6, x7, x8, x9, rfl⟩ := hI
      rw [show decide (noBrk (brk R) W3 n) = true from decide_eq_true ((fair_iff hR).2 ⟨all1, fun x hx y hy => by
        have := List.findSome?_eq_none_iff.mp (List.findSome?_eq_none_iff.mp hv x hx) y hy
        exact Classical.byContradiction fun z => by rw [if_neg z] at this; cases this⟩)] at h
      try walk_at "dd"
      exact h
theorem fstB_none {b : Str → Int → Int → Int → Bool} {ws : List Str} {n : Nat} : fstB b ws n = none ↔ noBrk b ws n := by
  unfold fstB noBrk
  simp only [List.findSome?_eq_none_iff]
  constructor
  · intro h s hs t ht
    have := h s hs t ht
    split at this
    · cases this
    · rename_i z; simpa using z
  · intro h s hs t ht
    rw [h s hs t ht]
    rfl
theorem papF_fine {b : Str → Int → Int → Int → Bool} {ws : List Str} {fine : Str} {n : Nat} (h : noBrk b ws n) : papF b ws fine n = fineD fine := by
  unfold papF
  rw [fstB_none.2 h]
  rfl
theorem fPap_fine {R : List (List (Int × Int))} {n : Nat} (h : noBrk (brk R) W3 n) : fPap R n = fineD "fair" := papF_fine h
theorem v__broken_paper : VD g__broken_paper S__broken_paper 1 3 := fun ds Q _ h => by
  obtain ⟨R, n, rfl, hR, hn, hb, h⟩ := h
  have rl := hR.1
  unfold g__broken_paper
  walk_at "dd"
  rw [dLen_tRP, rl]
  refine ⟨n, rfl, hn, by decide, ?_⟩
  refine wpFor_fs W3 PyData.str (fun w => (t3 n).findSome? fun t => if brk R w t.1 t.2.1 t.2.2 = true then some (pp w t) else none) (fun ρ => ∃ a b, ρ = [some (.im (tRP R)), some (.im (.list ((t3 n).map tT))), a, b]) ⟨_, _, rfl⟩ (fun w hw ρ K B hI hq hk => ?_) (fun v hv => ?_) (fun hv ρ hI => ?_)
  · obtain ⟨a, b, rfl⟩ := hI
    walk_at "dd"
    refine wpFor_fs (t3 n) tT (fun t => if brk R w t.1 t.2.1 t.2.2 = true then some (pp w t) else none) (fun ρ => ∃ b, ρ = [some (.im (tRP R)), some (.im (.list ((t3 n).map tT))), some (.im (.str w)), b]) ⟨_, rfl⟩ (fun t ht ρ K2 B2 hI2 hq2 hk2 => ?_) hq (fun hv ρ hI2 => ?_)
    · obtain ⟨b, rfl⟩ := hI2
      walk_at "dd"
      refine ⟨R, n, w, t.1, t.2.1, t.2.2, rfl, hR, hn, hw, ht, ?_⟩
      refine ite_ways (fun e => ?_) (fun e => ?_)
      · simp only [tT, dAdd]
        refine ⟨by decide, by show 1 + 3 ≤ 16777216; decide, ?_⟩
        exact hq2 _ (if_pos e)
      · exact hk2 (if_neg (by rw [e]; decide)) _ ⟨_, rfl⟩
    · obtain ⟨b, rfl⟩ := hI2
      exact hk hv _ ⟨_, _, rfl⟩
  · have e : fPap R n = v := by show (fstB (brk R) W3 n).getD _ = v; unfold fstB; rw [hv]; rfl
    rw [← e]; exact h
  · exact absurd (fstB_none.1 hv) hb
theorem v_fair_paper : VD g_fair_paper S_fair_paper 1 0 := fun ds Q _ h => by
  obtain ⟨R, n, rfl, hR, hn, h⟩ := h
  unfold g_fair_paper
  walk_at "dd"
  refine ⟨R, n, rfl, hR, hn, R, n, rfl, hR, hn, ?_⟩
  by_cases e : noBrk (brk R) W3 n
  · rw [decide_eq_true e]
    try walk_at "dd"
    rw [fPap_fine e] at h
    exact ⟨by decide, h⟩
  · rw [decide_eq_false e]
    try walk_at "dd"
    exact ⟨R, n, rfl, hR, hn, e, h⟩
end Dn.T
set_option Elab.async false
set_option linter.all false
set_option maxRecDepth 100000
set_option autoImplicit false
set_option maxHeartbeats 4000000
namespace Dn.T
open PySem L2 Evl PySem.Spec PyProof.Rows
local macro_rules | `(tactic| walk_at "dd") => `(tactic| simp only [sSeq, sIf, sSet, sRet, sRetN, sNx, sEx, sAsg, sPar, dTOr, dTAnd, dTNot, dTst, dIsi, dVar, dC, dBin, dChain, dNeg, dI2, dAnd, dOr, dNot, dIfE, dCall, dCallF, aCons, aNil, dTup, lLst, dOfL, xIm, xOw, gNm, gTp, gsCons, gsNil, dYes, envD, dLen_tR, dLen_tI, dLen_tup, dLen_lst, seq_tR, seq_tI, seq_tup, seq_lst, dIs, dIsNot, dNe, dEq, dTupOf, dSl, oNone, oSome, iSq, iEn, iR1, iR2, sFor, lLc, sNever, dTRg, rg1, rg2, lRg, wipeD, isN,
  gTpL, dIxP, sSub, dApp, dPopAt, dExt, dCallM, dCallO, dBinO, dTupO, lOf, lOfO, sRetO, iOw, dVarF, lCat, lCall, dAbs, dMax2, dMin2, dInt, atO, setO, MO.getL, MO.putL, Option.isSome_some,
  dInK, dGetK, dGetD, dInD, dGet1, lKeys, lSort, dLenSet, dLenSetL, dLenSet2, sPar3, dRevT, sPutK, xDct, xDct1, sRetK, atK, keyD, sAugI, dFld, sFldD, xRng, iRgO, dNew, dNewV, dCM, dProp, dMeth, dLenI, dStrO, dEqI, dIsC, dJoin, dJs, dFmt, dCallML, sSubI, gSubW, sWh, lDc, dRepT, lRep, dStrI, xDctT1, xDctOf, dInT, sPutT, lSortT2, lSortDT, dPop, dBinR, dKeep, dCallMO, atT, dCallO,
  kit_int, kit_bool, kit_tuple, kit_str, List.map_cons, List.map_nil, List.cons_append, List.nil_append, List.replicate, List.set_cons_zero, List.set_cons_succ, List.getElem?_cons_zero, List.getElem?_cons_succ, List.length_cons, List.length_nil, List.length_map, Nat.reduceAdd, Nat.reduceSub, Bool.not_true, Bool.not_false, Bool.false_eq_true, if_true, if_false, true_and, reduceCtorEq, Bool.true_eq_false, rgD_rgI, Option.some.injEq, exists_eq_left', and_true])
theorem wpFor_pre {α : Type} {g : DG} {body : DS} {E : DEnds} (l : List α) (it : α → D) (R : List α → Env → Prop) {ρ0 : Env} (h0 : R [] ρ0)
    (hs : ∀ (l1 : List α) (x : α) (l2 : List α), l = l1 ++ x :: l2 → ∀ (ρ : Env) (K : Env → Prop), R l1 ρ → (∀ ρ', R (l1 ++ [x]) ρ' → K ρ') → g (it x) ρ fun ρ1 => body { nx := K, ct := K, bk := E.nx, rt := E.rt, er := E.er } ρ1)
    (he : ∀ ρ, R l ρ → E.nx ρ) : wpFor g body E (l.map it) ρ0 := by
  have aux : ∀ (rest done : List α) (ρ : Env), l = done ++ rest → R done ρ → wpFor g body E (rest.map it) ρ := by
    intro rest
    induction rest with
    | nil => intro done ρ e p; rw [List.append_nil] at e; subst e; exact he ρ p
    | cons d rest ih =>
      intro done ρ e p
      exact hs done d rest e ρ _ p fun ρ' p' => ih (done ++ [d]) ρ' (by rw [e]; simp) p'
  exact aux l [] ρ0 rfl h0
def stp (n : Nat) (m : List Int) : List (List Int) := ((rgI n).filter fun x => !decide (x ∈ m)).map fun x => m ++ [x]
theorem stp_len (n : Nat) (m : List Int) : (stp n m).length ≤ n := by
  unfold stp
  rw [List.length_map]
  exact Nat.le_trans (List.length_filter_le _ _) (by rw [rgI_len]; omega)
theorem flat_len (n : Nat) : ∀ l : List (List Int), (l.flatMap (stp n)).length ≤ n * l.length
  | [] => by simp
  | m :: l => by
    rw [List.flatMap_cons, List.length_append, List.length_cons, Nat.mul_succ]
    have := stp_len n m
    have := flat_len n l
    omega
theorem v__law_orders : VD g__law_orders S__law_orders 1 5 := fun ds Q _ h => by
  obtain ⟨n, rfl, hn, h⟩ := h
  unfold g__law_orders
  walk_at "dd"
  refine ⟨by decide, by decide, rgd (by omega), ?_⟩
  refine wpFor_pre (rgI n) PyData.int (fun l1 ρ => ∃ x2 x3 x4 x5, ρ = [some (.im (.int n)), some (.im (tL (ordF n l1.length))), x2, x3, x4, x5]) ⟨_, _, _, _, rfl⟩ (fun l1 x l2 e ρ K p k => ?_) (fun ρ p => ?_)
  · obtain ⟨x2, x3, x4, x5, rfl⟩ := p
    have el := congrArg List.length e
    simp [rgI_len] at el
    have h7 := ord_few n hn l1.length (by omega)
    try walk_at "dd"
    refine ⟨by decide, (ordF n l1.length).map tI, rfl, ?_⟩
    refine wpFor_pre (ordF n l1.length) tI (fun l1' ρ => ∃ x4 x5, ρ = [some (.im (.int n)), some (.im (tL (ordF n l1.length))), some (.im (.int x)), some (.ow (.lst ((l1'.flatMap (stp n)).map tI))), x4, x5]) ⟨_, _, rfl⟩ (fun l1' m l2' e' ρ K' p' k' => ?_) (fun ρ p' => ?_)
    · obtain ⟨x4, x5, rfl⟩ := p'
      have el' := congrArg List.length e'
      simp at el'
      have fl := flat_len n l1'
      have ml : m.length = l1.length := (mem_ordF.1 (by rw [e']; simp)).1
      have fl2 : n * l1'.length ≤ 6 * 720 := Nat.mul_le_mul hn (by omega)
      try walk_at "dd"
      refine ⟨rgd (by omega), ?_⟩
      refine wpLc_filL (rgI n) PyData.int (fun x => tI (m ++ [x])) (fun x => !decide (x ∈ m)) (by rw [rgI_len]; omega) rfl (fun x hxn K N hK hN => ?_) ?_
      · try walk_at "dd"
        refine ⟨m.map PyData.int, rfl, rfl, all_sc m, ?_⟩
        rw [any_eqv]
        refine ite_ways (fun z => ⟨by decide, by simp; omega, ?_⟩) (fun z => hN z _ rfl)
        show K (PyData.tuple (m.map PyData.int ++ [.int x])) _
        rw [show PyData.tuple (m.map PyData.int ++ [.int x]) = tI (m ++ [x]) from by unfold tI; simp]
        exact hK z _ rfl
      · try walk_at "dd"
        have sl := stp_len n m
        unfold stp at sl
        rw [List.length_map] at sl
        refine ⟨_, _, rfl, rfl, by simp only [List.length_map]; omega, ?_⟩
        refine k' _ ⟨some (.im (tI m)), none, ?_⟩
        rw [List.flatMap_append, List.map_append]
        simp [stp, List.map_map, Function.comp_def]
    · obtain ⟨x4, x5, rfl⟩ := p'
      try walk_at "dd"
      exact k _ ⟨_, _, _, _, by rw [List.length_append]; rfl⟩
  · obtain ⟨x2, x3, x4, x5, rfl⟩ := p
    try walk_at "dd"
    rw [rgI_len]
    exact h
theorem ixT {n : Nat} {d : Int → Int → Int} {x : Int} {Q : D → Prop} (hx : In n x) (h : Q (tI ((rgI n).map (d x)))) : dIx (tL (tab n d)) (.int x) Q := by
  refine ixL hx.1 (by rw [tab_len]; exact hx.2) ?_
  rw [show (tab n d).getD x.toNat [] = (rgI n).map (d x) from row_tab hx]
  exact h
theorem ixT' {n : Nat} {d : Int → Int → Int} {x : Int} {A : D} {Q : D → Prop} (hA : seqD A = some ((tab n d).map tI)) (hx : In n x) (h : Q (tI ((rgI n).map (d x)))) : dIx A (.int x) Q := by
  unfold dIx
  rw [hA]
  refine ⟨_, atI_in (d := tI []) hx.1 (by rw [List.length_map, tab_len]; exact hx.2), ?_⟩
  rw [getD_map (a := []) (by rw [tab_len]; have := hx.1; have := hx.2; omega), show (tab n d).getD x.toNat [] = (rgI n).map (d x) from row_tab hx]
  exact h
theorem ixY {n : Nat} {f : Int → Int} {y : Int} {Q : D → Prop} (hy : In n y) (h : Q (.int (f y))) : dIx (tI ((rgI n).map f)) (.int y) Q := by
  refine ixI hy.1 (by simp [rgI_len]; exact hy.2) ?_
  rw [map_at hy]
  exact h
theorem ixM {n : Nat} {m : List Int} (hm : Mv n m) {y : Int} {Q : D → Prop} (hy : In n y) (h : Q (.int (im m y))) : dIx (tI m) (.int y) Q := ixI hy.1 (by rw [hm.len]; exact hy.2) h
theorem v__law_renamed_dots : VD g__law_renamed_dots S__law_renamed_dots 2 3 := fun ds Q _ h => by
  obtain ⟨n, d, m, rfl, hd, hm, hn, h⟩ := h
  have ml := hm.len
  have hi := inv_mv hm
  unfold g__law_renamed_dots
  walk_at "dd"
  refine ⟨n, m, ⟨_, rfl, rfl⟩, hm, by omega, ?_⟩
  try walk_at "dd"
  have mm : ∀ x, x ∈ m → In n x := fun x hx => In.mem.1 (hm.mem_iff.mp hx)
  refine wpLc_mapL m PyData.int (fun x => tI (m.map fun y => im (inv m) (d x y))) (by omega) rfl (fun x hx K hK => ?_) (fun _ => rfl) ?_
  · try walk_at "dd"
    refine wpLc_mapL m PyData.int (fun y => .int (im (inv m) (d x y))) (by omega) rfl (fun y hy K2 hK2 => ?_) (fun _ => rfl) ?_
    · try walk_at "dd"
      exact ixT (mm x hx) (ixY (mm y hy) (ixM hi (hd _ _ (mm x hx) (mm y hy)) (hK2 _ rfl)))
    · try walk_at "dd"
      rw [tI_map]
      exact hK _ rfl
  · try walk_at "dd"
    rw [tL_map, show (m.map fun x => m.map fun y => im (inv m) (d x y)) = tab n (renD d m) from ?_]
    · exact h
    · conv => lhs; rw [mv_self hm]
      unfold tab renD
      rw [List.map_map]
      refine List.map_congr_left fun x hx => ?_
      show (((rgI n).map (im m)).map fun y => im (inv ((rgI n).map (im m))) (d (im m x) y)) = _
      rw [← mv_self hm, mv_self hm, List.map_map, ← mv_self hm]
      rfl
theorem v__law_undone : VD g__law_undone S__law_undone 1 3 := fun ds Q _ h => by
  obtain ⟨n, m, ⟨A, rfl, sA⟩, hm, hn, h⟩ := h
  have hl := hm.len
  unfold g__law_undone
  try walk_at "dd"
  refine ⟨_, sA, ?_⟩
  refine wpLc_mapL m PyData.int (fun _ => .int 0) (by omega) rfl (fun x hx K hK => ?_) (fun _ => rfl) ?_
  · try walk_at "dd"
    exact hK _ rfl
  · try walk_at "dd"
    refine ⟨_, sA, ?_⟩
    rw [enD_map m PyData.int 0, hl]
    refine wpFor_cps (fun done ρ => ∃ (u : List Int) (x y : Option SV), ρ = [some (SV.im A), some (SV.ow (MO.lst (u.map PyData.int))), x, y] ∧ u.length = n ∧ ∀ x : Nat, x < done.length → u[(im m x).toNat]? = some (x : Int)) ⟨m.map (fun _ => 0), _, _, (by rw [show (m.map fun _ => (0 : Int)).map PyData.int = m.map fun _ => PyData.int 0 from by rw [List.map_map]; rfl]), (by simp [hl]), fun x hx => by simp at hx⟩ (fun done d rest ρ K e p k => ?_) (fun ρ p => ?_)
    · obtain ⟨u, x, y, rfl, hu, hu2⟩ := p
      obtain ⟨l1, i, l2, e1, rfl, rfl, rfl⟩ := map_split e
      obtain ⟨ei, e2⟩ := rgI_split e1
      rw [List.length_map] at hu2
      have lt : l1.length < n := by
        have := congrArg List.length e1
        rw [rgI_len] at this
        simp at this
        omega
      have g := im_in hm (x := i) (by omega) (by omega)
      try walk_at "dd"
      refine ⟨_, _, (im m i).toNat, rfl, rfl, ?_, ?_⟩
      · unfold ixN
        show (if 0 ≤ im m i then _ else _) = _
        rw [if_pos g.1, if_pos (by simp [hu]; exact g.2)]
        rfl
      · refine k _ ⟨u.set (im m i).toNat i, _, _, (by rw [List.map_set]), (by simp [hu]), fun x hx => ?_⟩
        simp only [List.length_append, List.length_map, List.length_cons, List.length_nil] at hx
        by_cases z : x = l1.length
        · have : (x : Int) = i := by omega
          rw [this, List.getElem?_set_self (by omega)]
        · have gx := im_in hm (x := (x : Int)) (by omega) (by omega)
          rw [List.getElem?_set_ne (fun w => by
            have := im_inj hm (by omega) (by omega) (by omega) (by omega) (show im m x = im m i by omega)
            omega)]
          exact hu2 x (by omega)
    · obtain ⟨u, x, y, rfl, hu, hu2⟩ := p
      rw [List.length_map, rgI_len] at hu2
      try walk_at "dd"
      have : u = inv m := by
        rw [inv_map hm]
        apply List.ext_getElem?
        intro k
        by_cases hk : k < n
        · rw [List.getElem?_map, rgI_get hk]
          obtain ⟨q1, q2⟩ := iv_rng hm (y := (k : Int)) (by omega) (by omega)
          have := hu2 (iv m k).toNat (by omega)
          rw [show (((iv m k).toNat : Nat) : Int) = iv m k by omega, q2] at this
          simpa using this
        · rw [List.getElem?_eq_none_iff.mpr (by omega), List.getElem?_eq_none_iff.mpr (by simp [rgI_len]; omega)]
      subst this
      exact h
end Dn.T
set_option Elab.async false
set_option linter.all false
set_option maxRecDepth 100000
set_option autoImplicit false
set_option maxHeartbeats 4000000
namespace Dn.T
open PySem L2 Evl PySem.Spec PyProof.Rows
local macro_rules | `(tactic| walk_at "dd") => `(tactic| simp only [sSeq, sIf, sSet, sRet, sRetN, sNx, sEx, sAsg, sPar, dTOr, dTAnd, dTNot, dTst, dIsi, dVar, dC, dBin, dChain, dNeg, dI2, dAnd, dOr, dNot, dIfE, dCall, dCallF, aCons, aNil, dTup, lLst, dOfL, xIm, xOw, gNm, gTp, gsCons, gsNil, dYes, envD, dLen_tR, dLen_tI, dLen_tup, dLen_lst, seq_tR, seq_tI, seq_tup, seq_lst, dIs, dIsNot, dNe, dEq, dTupOf, dSl, oNone, oSome, iSq, iEn, iR1, iR2, sFor, lLc, sNever, dTRg, rg1, rg2, lRg, wipeD, isN,
  gTpL, dIxP, sSub, dApp, dPopAt, dExt, dCallM, dCallO, dBinO, dTupO, lOf, lOfO, sRetO, iOw, dVarF, lCat, lCall, dAbs, dMax2, dMin2, dInt, atO, setO, MO.getL, MO.putL, Option.isSome_some,
  dInK, dGetK, dGetD, dInD, dGet1, lKeys, lSort, dLenSet, dLenSetL, dLenSet2, sPar3, dRevT, sPutK, xDct, xDct1, sRetK, atK, keyD, sAugI, dFld, sFldD, xRng, iRgO, dNew, dNewV, dCM, dProp, dMeth, dLenI, dStrO, dEqI, dIsC, dJoin, dJs, dFmt, dCallML, sSubI, gSubW, sWh, lDc, dRepT, lRep, dStrI, xDctT1, xDctOf, dInT, sPutT, lSortT2, lSortDT, dPop, dBinR, dKeep, dCallMO, atT, dCallO,
  kit_int, kit_bool, kit_tuple, kit_str, List.map_cons, List.map_nil, List.cons_append, List.nil_append, List.replicate, List.set_cons_zero, List.set_cons_succ, List.getElem?_cons_zero, List.getElem?_cons_succ, List.length_cons, List.length_nil, List.length_map, Nat.reduceAdd, Nat.reduceSub, Bool.not_true, Bool.not_false, Bool.false_eq_true, if_true, if_false, true_and, reduceCtorEq, Bool.true_eq_false, rgD_rgI, Option.some.injEq, exists_eq_left', and_true])
theorem kpB_iff {n : Nat} {d : Int → Int → Int} {m : List Int} : kpB n d m = true ↔ Kp n d m := by
  unfold kpB Kp
  simp only [List.all_eq_true, decide_eq_true_eq]
  exact ⟨fun h x y hx hy => h x (In.mem.2 hx) y (In.mem.2 hy), fun h x hx y hy => h x y (In.mem.1 hx) (In.mem.1 hy)⟩
theorem enD_tab {n : Nat} {d : Int → Int → Int} : enD ((tab n d).map tI) = (rgI n).map fun k => .tuple [.int k, tI ((rgI n).map (d k))] := by
  rw [enD_map (tab n d) tI [], tab_len]
  refine List.map_congr_left fun k hk => ?_
  rw [show (tab n d).getD k.toNat [] = (rgI n).map (d k) from row_tab (In.mem.1 hk)]
theorem enD_row {n : Nat} {f : Int → Int} : enD (((rgI n).map f).map PyData.int) = (rgI n).map fun k => .tuple [.int k, .int (f k)] := by
  rw [enD_map ((rgI n).map f) PyData.int 0, List.length_map, rgI_len]
  refine List.map_congr_left fun k hk => ?_
  rw [map_at (In.mem.1 hk)]
theorem v__law_keeps_dots : VD g__law_keeps_dots S__law_keeps_dots 2 5 := fun ds Q _ h => by
  obtain ⟨n, d, m, rfl, hd, hm, hn, h⟩ := h
  unfold g__law_keeps_dots
  walk_at "dd"
  refine ⟨(tab n d).map tI, rfl, ?_⟩
  rw [enD_tab]
  refine wpFor_pre (rgI n) (fun k => .tuple [.int k, tI ((rgI n).map (d k))]) (fun l1 ρ => (∃ x1 x2 x3 x4 x5, ρ = [some (.im (tL (tab n d))), some (.im (tI m)), x1, x2, x3, x4, x5]) ∧ ∀ x, x ∈ l1 → ∀ y, In n y → im m (d x y) = d (im m x) (im m y)) ⟨⟨_, _, _, _, _, rfl⟩, by simp⟩ (fun l1 x l2 e ρ K p k => ?_) (fun ρ p => ?_)
  · obtain ⟨⟨x1, x2, x3, x4, x5, rfl⟩, ih⟩ := p
    have hx : In n x := In.mem.1 (by rw [e]; simp)
    have g1 := mv_in hm hx
    try walk_at "dd"
    refine ixM hm hx (ixT g1 ?_)
    try walk_at "dd"
    rw [enD_row]
    refine wpLc_mapL (rgI n) (fun j => .tuple [.int j, .int (d x j)]) (fun j => .bool (decide (im m (d x j) = d (im m x) (im m j)))) (by rw [rgI_len]; omega) rfl (fun j hj K hK => ?_) (fun _ => rfl) ?_
    · have hj := In.mem.1 hj
      try walk_at "dd"
      refine ixM hm (hd _ _ hx hj) (ixM hm hj (ixY (mv_in hm hj) ⟨rfl, rfl, ?_⟩))
      rw [eqv_int]
      exact hK _ rfl
    · try walk_at "dd"
      refine ⟨(rgI n).map fun j => decide (im m (d x j) = d (im m x) (im m j)), by rw [List.map_map]; rfl, ?_⟩
      dsimp only
      rw [all_id]
      refine ite_ways (fun z => ?_) (fun z => k _ ⟨⟨_, _, _, _, _, rfl⟩, fun x' hx' y hy => ?_⟩)
      · have : kpB n d m = false := by
          rw [Bool.eq_false_iff]
          intro t
          have t := kpB_iff.1 t
          rw [show ((rgI n).all fun j => decide (im m (d x j) = d (im m x) (im m j))) = true from ?_] at z
          · exact absurd z (by decide)
          · simp only [List.all_eq_true, decide_eq_true_eq]
            exact fun j hj => t x j hx (In.mem.1 hj)
        rw [this] at h
        exact h
      · rcases List.mem_append.mp hx' with hx' | hx'
        · exact ih x' hx' y hy
        · rw [List.mem_singleton.mp hx']
          have z : ((rgI n).all fun j => decide (im m (d x j) = d (im m x) (im m j))) = true := by simpa using z
          simp only [List.all_eq_true, decide_eq_true_eq] at z
          exact z y (In.mem.2 hy)
  · obtain ⟨⟨x1, x2, x3, x4, x5, rfl⟩, ih⟩ := p
    try walk_at "dd"
    rw [kpB_iff.2 (fun x y hx hy => ih x (In.mem.2 hx) y hy)] at h
    exact h
theorem v__law_dots_likenesses : VD g__law_dots_likenesses S__law_dots_likenesses 1 1 := fun ds Q _ h => by
  obtain ⟨n, d, rfl, hC, hn, h⟩ := h
  unfold g__law_dots_likenesses
  walk_at "dd"
  rw [dLen_tL, tab_len]
  refine ⟨n, rfl, by omega, ?_⟩
  try walk_at "dd"
  refine ⟨(ordF n n).map tI, rfl, ?_⟩
  have l7 := ord_few n (by omega) n (Nat.le_refl _)
  refine wpLc_filL (ordF n n) tI tI (kpB n d) (by omega) rfl (fun m hm K N hK hN => ?_) ?_
  · have hm := ordF_mv.1 hm
    try walk_at "dd"
    refine ⟨n, d, m, rfl, hC.rg, hm, by omega, ?_⟩
    cases e : kpB n d m with
    | true => try walk_at "dd"
              exact hK e _ rfl
    | false => try walk_at "dd"
               exact hN e _ rfl
  · try walk_at "dd"
    have hi : rgI n ∈ (ordF n n).filter (kpB n d) := List.mem_filter.mpr ⟨ordF_mv.2 (List.Perm.refl _), kpB_iff.2 (kp_id hC)⟩
    refine h _ (fun m => ⟨fun hm => ?_, fun hm => List.mem_filter.mpr ⟨ordF_mv.2 hm.1, kpB_iff.2 hm.2⟩⟩) (fun e => by rw [e] at hi; cases hi) (Nat.le_trans (List.length_filter_le _ _) (by omega))
    obtain ⟨h1, h2⟩ := List.mem_filter.mp hm
    exact ⟨ordF_mv.1 h1, kpB_iff.1 h2⟩
theorem rgI_add (a b : Nat) : rgI (a + b) = rgI a ++ (rgI b).map fun x => (a : Int) + x := by
  unfold rgI
  rw [List.range_add, List.map_append, List.map_map, List.map_map]
  congr 1
theorem uni_tab {a b : Nat} {d e : Int → Int → Int} {f s : List Int} (hf : Mv b f) (hs : Mv a s) : (tab a d).map (fun r => r ++ f.map fun x => (a : Int) + x) ++ (tab b e).map (fun r => s ++ r.map fun x => (a : Int) + x) = tab (a + b) (uni a d e f s) := by
  have lo : ∀ x, x ∈ rgI a → x < (a : Int) := fun x hx => (In.mem.1 hx).2
  have hi : ∀ x, x ∈ rgI b → ¬ (a : Int) + x < a := fun x hx => by have := (In.mem.1 hx).1; omega
  conv => rhs; unfold tab; rw [rgI_add]
  rw [List.map_append, List.map_map]
  unfold tab
  rw [List.map_map, List.map_map]
  congr 1
  · refine List.map_congr_left fun x hx => ?_
    show (rgI a).map (d x) ++ f.map (fun x => (a : Int) + x) = (rgI a ++ (rgI b).map fun x => (a : Int) + x).map (uni a d e f s x)
    rw [List.map_append, List.map_map]
    congr 1
    · refine List.map_congr_left fun y hy => ?_
      unfold uni; rw [if_pos (lo x hx), if_pos (lo y hy)]
    · conv => lhs; rw [mv_self hf]
      rw [List.map_map]
      refine List.map_congr_left fun y hy => ?_
      show (a : Int) + im f y = uni a d e f s x (a + y)
      unfold uni; rw [if_pos (lo x hx), if_neg (hi y hy)]
      rw [show (a : Int) + y - a = y by omega]
  · refine List.map_congr_left fun x hx => ?_
    show s ++ ((rgI b).map (e x)).map (fun x => (a : Int) + x) = (rgI a ++ (rgI b).map fun x => (a : Int) + x).map (uni a d e f s (a + x))
    rw [List.map_append, List.map_map, List.map_map]
    congr 1
    · conv => lhs; rw [mv_self hs]
      refine List.map_congr_left fun y hy => ?_
      unfold uni; rw [if_neg (hi x hx), if_pos (lo y hy)]
    · refine List.map_congr_left fun y hy => ?_
      show (a : Int) + e x y = uni a d e f s (a + x) (a + y)
      unfold uni; rw [if_neg (hi x hx), if_neg (hi y hy)]
      rw [show (a : Int) + y - a = y by omega, show (a : Int) + x - a = x by omega]
theorem v__law_union_dots : VD g__law_union_dots S__law_union_dots 4 4 := fun ds Q _ h => by
  obtain ⟨a, b, d, e, f, s, rfl, hd, he, hf, hs, hl, h⟩ := h
  have al := tab_len a d
  have bl := tab_len b e
  have fl := hf.len
  have sl := hs.len
  unfold g__law_union_dots
  walk_at "dd"
  rw [dLen_tL]
  refine ⟨by decide, ?_⟩
  rw [al]
  refine ⟨(tab a d).map tI, rfl, ?_⟩
  refine wpFor_ap (tab a d) tI (fun r => tI (r ++ f.map fun x => (a : Int) + x)) (fun acc ρ => ∃ x, ρ = [some (.im (tL (tab a d))), some (.im (tL (tab b e))), some (.im (tI f)), some (.im (tI s)), some (.im (.int a)), some (.ow (.lst acc)), x, none]) ⟨_, rfl⟩ (fun r hr acc ρ K p q k => ?_) (fun ρ p => ?_)
  · obtain ⟨x, rfl⟩ := p
    obtain ⟨z, hz, rfl⟩ := List.mem_map.mp hr
    try walk_at "dd"
    refine wpLc_mapL f PyData.int (fun x => .int ((a : Int) + x)) (by omega) rfl (fun x hx K hK => ?_) (fun _ => rfl) ?_
    · try walk_at "dd"
      exact hK _ rfl
    · try walk_at "dd"
      refine And.intro (by simp [rgI_len]; omega) ?_
      try walk_at "dd"
      refine ⟨by omega, ?_⟩
      rw [tI_app]
      exact k _ ⟨_, rfl⟩
  · obtain ⟨x, rfl⟩ := p
    try walk_at "dd"
    refine ⟨(tab b e).map tI, rfl, ?_⟩
    refine wpFor_ap (tab b e) tI (fun r => tI (s ++ r.map fun x => (a : Int) + x)) (fun acc ρ => ∃ x, ρ = [some (.im (tL (tab a d))), some (.im (tL (tab b e))), some (.im (tI f)), some (.im (tI s)), some (.im (.int a)), some (.ow (.lst ((tab a d).map (fun r => tI (r ++ f.map fun x => (a : Int) + x)) ++ acc))), x, none]) ⟨_, by simp; rfl⟩ (fun r hr acc ρ K p q k => ?_) (fun ρ p => ?_)
    · obtain ⟨x, rfl⟩ := p
      obtain ⟨z, hz, rfl⟩ := List.mem_map.mp hr
      try walk_at "dd"
      refine wpLc_mapL ((rgI b).map (e z)) PyData.int (fun x => .int ((a : Int) + x)) (by simp [rgI_len]; omega) rfl (fun x hx K hK => ?_) (fun _ => rfl) ?_
      · try walk_at "dd"
        exact hK _ rfl
      · try walk_at "dd"
        refine And.intro (by simp [rgI_len]; omega) ?_
        try walk_at "dd"
        refine ⟨by simp [al]; omega, ?_⟩
        rw [tI_app, List.append_assoc]
        exact k _ ⟨_, rfl⟩
    · obtain ⟨x, rfl⟩ := p
      try walk_at "dd"
      have q : PyData.list ((tab a d).map (fun r => tI (r ++ f.map fun x => (a : Int) + x)) ++ (tab b e).map (fun r => tI (s ++ r.map fun x => (a : Int) + x))) = tL ((tab a d).map (fun r => r ++ f.map fun x => (a : Int) + x) ++ (tab b e).map fun r => s ++ r.map fun x => (a : Int) + x) := by
        unfold tL; simp only [List.map_append, List.map_map, Function.comp_def]
      rw [q, uni_tab hf hs]
      exact h
theorem dLen_sq {A : D} {xs : List D} {Q : D → Prop} (h : seqD A = some xs) : dLen [A] Q = Q (.int xs.length) := dLen_seq h
theorem v__law_product_dots : VD g__law_product_dots S__law_product_dots 2 9 := fun ds Q _ h => by
  obtain ⟨A, B, a, b, d, e, rfl, sA, sB, hd, he, c1, hl, h⟩ := h
  have a24 : a ≤ 24 := Nat.le_trans (Nat.le_mul_of_pos_right a c1) hl
  unfold g__law_product_dots
  walk_at "dd"
  rw [dLen_sq sB, dLen_sq sA]
  refine ⟨by decide, ?_⟩
  rw [List.length_map, List.length_map, tab_len, tab_len]
  refine ⟨a, b, rfl, c1, by omega, ?_⟩
  dsimp only
  refine ⟨_, rfl, ?_⟩
  refine wpFor_ap (rgI (a * b)) (fun k => .tuple [.int (k / b), .int (k % b)]) (fun k : Int => tI ((rgI (a * b)).map fun j : Int => prd b d e k j)) (fun acc ρ => ∃ x1 x2 x3 x4 x5 x6, ρ = [some (.im A), some (.im B), some (.im (.int b)), some (.ow (.lst acc)), some (.im (.list ((rgI (a * b)).map fun k => .tuple [.int (k / b), .int (k % b)]))), x1, x2, x3, x4, x5, x6]) ⟨_, _, _, _, _, _, rfl⟩ (fun k hk acc ρ K p q r => ?_) (fun ρ p => ?_)
  · obtain ⟨x1, x2, x3, x4, x5, x6, rfl⟩ := p
    try walk_at "dd"
    obtain ⟨k1, k2⟩ := dm_in (In.mem.1 hk) c1
    rw [rgI_len] at q
    refine ixT' sA k1 (ixT' sB k2 ?_)
    refine wpLc_mapL (rgI (a * b)) (fun k => .tuple [.int (k / b), .int (k % b)]) (fun j => .int (prd b d e k j)) (by rw [rgI_len]; omega) rfl (fun j hj K hK => ?_) (fun _ => rfl) ?_
    · try walk_at "dd"
      obtain ⟨j1, j2⟩ := dm_in (In.mem.1 hj) c1
      have p1 := hd _ _ k1 j1
      refine ixY j1 ⟨cm_n p1.1 (by have := p1.2; omega), ixY j2 (hK _ rfl)⟩
    · try walk_at "dd"
      refine ⟨by omega, ?_⟩
      rw [tI_map]
      exact r _ ⟨_, _, _, _, _, _, rfl⟩
  · obtain ⟨x1, x2, x3, x4, x5, x6, rfl⟩ := p
    try walk_at "dd"
    rw [tL_map]
    exact h
end Dn.T
set_option Elab.async false
set_option linter.all false
set_option maxRecDepth 100000
set_option autoImplicit false
set_option maxHeartbeats 4000000
namespace Dn.T
open PySem L2 Evl PySem.Spec PyProof.Rows
local macro_rules | `(tactic| walk_at "dd") => `(tactic| simp only [sSeq, sIf, sSet, sRet, sRetN, sNx, sEx, sAsg, sPar, dTOr, dTAnd, dTNot, dTst, dIsi, dVar, dC, dBin, dChain, dNeg, dI2, dAnd, dOr, dNot, dIfE, dCall, dCallF, aCons, aNil, dTup, lLst, dOfL, xIm, xOw, gNm, gTp, gsCons, gsNil, dYes, envD, dLen_tR, dLen_tI, dLen_tup, dLen_lst, seq_tR, seq_tI, seq_tup, seq_lst, dIs, dIsNot, dNe, dEq, dTupOf, dSl, oNone, oSome, iSq, iEn, iR1, iR2, sFor, lLc, sNever, dTRg, rg1, rg2, lRg, wipeD, isN,
  gTpL, dIxP, sSub, dApp, dPopAt, dExt, dCallM, dCallO, dBinO, dTupO, lOf, lOfO, sRetO, iOw, dVarF, lCat, lCall, dAbs, dMax2, dMin2, dInt, atO, setO, MO.getL, MO.putL, Option.isSome_some,
  dInK, dGetK, dGetD, dInD, dGet1, lKeys, lSort, dLenSet, dLenSetL, dLenSet2, sPar3, dRevT, sPutK, xDct, xDct1, sRetK, atK, keyD, sAugI, dFld, sFldD, xRng, iRgO, dNew, dNewV, dCM, dProp, dMeth, dLenI, dStrO, dEqI, dIsC, dJoin, dJs, dFmt, dCallML, sSubI, gSubW, sWh, lDc, dRepT, lRep, dStrI, xDctT1, xDctOf, dInT, sPutT, lSortT2, lSortDT, dPop, dBinR, dKeep, dCallMO, atT, dCallO,
  kit_int, kit_bool, kit_tuple, kit_str, List.map_cons, List.map_nil, List.cons_append, List.nil_append, List.replicate, List.set_cons_zero, List.set_cons_succ, List.getElem?_cons_zero, List.getElem?_cons_succ, List.length_cons, List.length_nil, List.length_map, Nat.reduceAdd, Nat.reduceSub, Bool.not_true, Bool.not_false, Bool.false_eq_true, if_true, if_false, true_and, reduceCtorEq, Bool.true_eq_false, rgD_rgI, Option.some.injEq, exists_eq_left', and_true])
def qdTail : DS := sSeq (sFor (iR1 (dVar 2)) (gNm 4) (sSeq (sSet 5 (xIm (dBin dSub (dVar 2) (dCall dLen (aCons (dVar 3) (aNil)))))) (sIf (dTAnd (dTst (dBin dGt (dVar 5) (dC (.int 0)))) (dTOr (dTst (dBin dLt (dCall dLen (aCons (dVar 3) (aNil))) (dVar 1))) (dTst (dBin dEq (dCallM 0 2 S__law_roll (aCons (dC (.int 2)) (aNil))) (dC (.int 0)))))) (sSeq (sSet 6 (xIm (dCallM 0 2 S__law_small_dots (aCons (dVar 5) (aNil))))) (sSeq (sSet 7 (xIm (dTRg (rg1 (dCall dLen (aCons (dVar 6) (aNil))))))) (sSeq (sSet 8 (xIm (dTRg (rg1 (dCall dLen (aCons (dVar 3) (aNil))))))) (sSeq (sIf (dTAnd (dTst (dBin dLt (dCall dLen (aCons (dVar 6) (aNil))) (dC (.int 5)))) (dTst (dBin dLt (dCall dLen (aCons (dVar 3) (aNil))) (dC (.int 5))))) (sPar 7 8 (xIm (dCallM 0 2 S__law_pick (aCons (dCallF 1 S__law_dots_likenesses (aCons (dVar 6) (aNil))) (aNil)))) (xIm (dCallM 0 2 S__law_pick (aCons (dCallF 1 S__law_dots_likenesses (aCons (dVar 3) (aNil))) (aNil))))) (sNx)) (sSet 3 (xIm (dCallF 4 S__law_union_dots (aCons (dVar 3) (aCons (dVar 6) (aCons (dVar 7) (aCons (dVar 8) (aNil)))))))))))) (sNx)))) (sRet (dCallF 2 S__law_renamed_dots (aCons (dVar 3) (aCons (dCallM 0 2 S__law_drawn_move (aCons (dCall dLen (aCons (dVar 3) (aNil))) (aNil))) (aNil)))))
def sdTail : DS := sSeq (sSet 3 (xIm (dBin dAdd (dC (.int 1)) (dCallM 0 2 S__law_roll (aCons (dCall dMin2 (aCons (dC (.int 4)) (aCons (dVar 1) (aNil)))) (aNil)))))) (sSeq (sSet 4 (xIm (dIfE (dTst (dBin dGt (dCallM 0 2 S__law_roll (aCons (dC (.int 4)) (aNil))) (dC (.int 0)))) (dCallM 0 2 S__law_drawn_move (aCons (dVar 3) (aNil))) (dTRg (rg1 (dVar 3)))))) (sRet (dOfL (lLc (iR1 (dVar 3)) (gNm 5) (dYes) (dVar 4) [5]))))
theorem qd_eq : g__law_quiet_dots = sSeq (sSet 3 (xIm (dCallM 0 2 S__law_small_dots (aCons (dVar 2) (aNil))))) (sSeq (sIf (dTAnd (dTst (dBin dGt (dVar 2) (dC (.int 3)))) (dTst (dBin dEq (dCallM 0 2 S__law_roll (aCons (dC (.int 4)) (aNil))) (dC (.int 0))))) (sSet 3 (xIm (dCallF 2 S__law_product_dots (aCons (dOfL (lLst (aCons (dTup (aCons (dC (.int 1)) (aCons (dC (.int 0)) (aNil)))) (aCons (dTup (aCons (dC (.int 1)) (aCons (dC (.int 0)) (aNil)))) (aNil))))) (aCons (dCallM 0 2 S__law_pick (aCons (dOfL (lLst (aCons (dOfL (lLst (aCons (dTup (aCons (dC (.int 0)) (aCons (dC (.int 1)) (aNil)))) (aCons (dTup (aCons (dC (.int 0)) (aCons (dC (.int 1)) (aNil)))) (aNil))))) (aCons (dOfL (lLst (aCons (dTup (aCons (dC (.int 1)) (aCons (dC (.int 0)) (aNil)))) (aCons (dTup (aCons (dC (.int 1)) (aCons (dC (.int 0)) (aNil)))) (aNil))))) (aCons (dOfL (lLst (aCons (dTup (aCons (dC (.int 0)) (aNil))) (aNil)))) (aNil)))))) (aNil))) (aNil)))))) (sNx)) qdTail) := rfl
theorem sd_eq : g__law_small_dots = sSeq (sSet 2 (xIm (dCallM 0 2 S__law_roll (aCons (dC (.int 6)) (aNil))))) (sSeq (sIf (dTAnd (dTst (dBin dEq (dVar 2) (dC (.int 0)))) (dTst (dBin dGt (dVar 1) (dC (.int 3))))) (sRet (dOfL (lLst (aCons (dTup (aCons (dC (.int 0)) (aCons (dC (.int 1)) (aCons (dC (.int 3)) (aCons (dC (.int 2)) (aNil)))))) (aCons (dTup (aCons (dC (.int 2)) (aCons (dC (.int 3)) (aCons (dC (.int 1)) (aCons (dC (.int 0)) (aNil)))))) (aCons (dTup (aCons (dC (.int 1)) (aCons (dC (.int 0)) (aCons (dC (.int 2)) (aCons (dC (.int 3)) (aNil)))))) (aCons (dTup (aCons (dC (.int 3)) (aCons (dC (.int 2)) (aCons (dC (.int 0)) (aCons (dC (.int 1)) (aNil)))))) (aNil)))))))) (sNx)) (sSeq (sIf (dTAnd (dTst (dBin dEq (dVar 2) (dC (.int 1)))) (dTst (dBin dGt (dVar 1) (dC (.int 3))))) (sRet (dOfL (lLst (aCons (dTup (aCons (dC (.int 1)) (aCons (dC (.int 0)) (aCons (dC (.int 2)) (aCons (dC (.int 3)) (aNil)))))) (aCons (dTup (aCons (dC (.int 2)) (aCons (dC (.int 3)) (aCons (dC (.int 1)) (aCons (dC (.int 0)) (aNil)))))) (aCons (dTup (aCons (dC (.int 3)) (aCons (dC (.int 2)) (aCons (dC (.int 0)) (aCons (dC (.int 1)) (aNil)))))) (aCons (dTup (aCons (dC (.int 0)) (aCons (dC (.int 1)) (aCons (dC (.int 3)) (aCons (dC (.int 2)) (aNil)))))) (aNil)))))))) (sNx)) (sSeq (sIf (dTAnd (dTst (dBin dEq (dVar 2) (dC (.int 2)))) (dTst (dBin dGt (dVar 1) (dC (.int 3))))) (sRet (dCallM 0 2 S__law_pick (aCons (dOfL (lLst (aCons (dOfL (lLst (aCons (dTup (aCons (dC (.int 1)) (aCons (dC (.int 2)) (aCons (dC (.int 3)) (aCons (dC (.int 0)) (aNil)))))) (aCons (dTup (aCons (dC (.int 3)) (aCons (dC (.int 0)) (aCons (dC (.int 1)) (aCons (dC (.int 2)) (aNil)))))) (aCons (dTup (aCons (dC (.int 1)) (aCons (dC (.int 2)) (aCons (dC (.int 3)) (aCons (dC (.int 0)) (aNil)))))) (aCons (dTup (aCons (dC (.int 3)) (aCons (dC (.int 0)) (aCons (dC (.int 1)) (aCons (dC (.int 2)) (aNil)))))) (aNil))))))) (aCons (dOfL (lLst (aCons (dTup (aCons (dC (.int 1)) (aCons (dC (.int 0)) (aCons (dC (.int 3)) (aCons (dC (.int 2)) (aNil)))))) (aCons (dTup (aCons (dC (.int 2)) (aCons (dC (.int 3)) (aCons (dC (.int 0)) (aCons (dC (.int 1)) (aNil)))))) (aCons (dTup (aCons (dC (.int 2)) (aCons (dC (.int 3)) (aCons (dC (.int 0)) (aCons (dC (.int 1)) (aNil)))))) (aCons (dTup (aCons (dC (.int 1)) (aCons (dC (.int 0)) (aCons (dC (.int 3)) (aCons (dC (.int 2)) (aNil)))))) (aNil))))))) (aNil))))) (aNil)))) (sNx)) sdTail))) := rfl
theorem tab_dot {n : Nat} {C : List (List Int)} (hl : C.length = n) (hr : ∀ r, r ∈ C → r.length = n) : C = tab n (dot C) := by
  refine List.ext_getElem? fun i => ?_
  by_cases hi : i < n
  · have h1 : i < C.length := by omega
    unfold tab
    rw [List.getElem?_map, rgI_get hi, List.getElem?_eq_getElem h1, Option.map_some]
    congr 1
    refine List.ext_getElem? fun j => ?_
    have rl := hr _ (List.getElem_mem h1)
    by_cases hj : j < n
    · have h3 : j < C[i].length := by omega
      rw [List.getElem?_map, rgI_get hj, List.getElem?_eq_getElem h3, Option.map_some]
      congr 1
      unfold dot row im
      simp [List.getD_eq_getElem?_getD, List.getElem?_eq_getElem h1, List.getElem?_eq_getElem h3]
    · rw [List.getElem?_eq_none_iff.mpr (by omega), List.getElem?_eq_none_iff.mpr (by simp [rgI_len]; omega)]
  · rw [List.getElem?_eq_none_iff.mpr (by omega), List.getElem?_eq_none_iff.mpr (by rw [tab_len]; omega)]
theorem sd_tail {l : Addr} {most : Nat} {ms : List D} {x2 x3 x4 x5 : Option SV} {Q : D → List D → Prop} (m1 : 1 ≤ most) (m2 : most ≤ 24) (hm : Dc ms) (h : ∀ n d ms', Cs n d → 1 ≤ n → n ≤ most → Dc ms' → Q (tL (tab n d)) ms') :
    sdTail { nx := fun ρ => ∃ ms', ρ[0]? = some (some (.ow (.par l (.lst ms')))) ∧ Q .none ms', rt := fun d ρ => ∃ ms', ρ[0]? = some (some (.ow (.par l (.lst ms')))) ∧ Q d ms' } [some (.ow (.par l (.lst ms))), some (.im (.int most)), x2, x3, x4, x5] := by
  unfold sdTail
  walk_at "dd"
  try simp only [shaped_int, true_and]
  obtain ⟨t, ht, t1, t2, t3⟩ : ∃ t : Nat, (if (most : Int) < 4 then (most : Int) else 4) = t ∧ 1 ≤ t ∧ t ≤ most ∧ t ≤ 4 := by
    by_cases z : (most : Int) < 4
    · exact ⟨most, if_pos z, m1, Nat.le_refl _, by omega⟩
    · exact ⟨4, if_neg z, by decide, by omega, by decide⟩
  rw [ht]
  refine ⟨t, rfl, by omega, by simp only [T60]; omega, hm, fun r ms2 r0 r1 hm2 => ?_⟩
  obtain ⟨n, hn⟩ : ∃ n : Nat, 1 + r = n := ⟨(1 + r).toNat, by omega⟩
  simp only [dAdd]
  rw [hn]
  refine ⟨4, rfl, by decide, by decide, hm2, fun r2 ms3 q0 q1 hm3 => ?_⟩
  dsimp only [dGt, dI2]
  refine ⟨trivial, ?_⟩
  have fin : ∀ (m : List Int) (ms4 : List D), Mv n m → Dc ms4 → Q (tL ((rgI n).map fun _ => m)) ms4 := fun m ms4 hmv hm4 => by
    have e : ((rgI n).map fun _ => m) = tab n (fun _ y => im m y) := by
      unfold tab
      refine List.map_congr_left fun x _ => ?_
      exact mv_self hmv
    rw [e]
    exact h n _ ms4 (cs_const hmv) (by omega) (by omega) hm4
  refine ite_ways (fun z => ?_) (fun z => ?_)
  · refine ⟨n, rfl, by omega, hm3, fun m ms4 hp hm4 => ?_⟩
    refine ⟨rgd (by omega), ?_⟩
    rw [rgD_rgI]
    refine wpLc_mapL (rgI n) PyData.int (fun _ => tI m) (by rw [rgI_len]; omega) rfl (fun y hy K hK => ?_) (fun _ => rfl) ?_
    · try walk_at "dd"
      exact hK _ rfl
    · try walk_at "dd"
      rw [tL_map]
      exact ⟨_, rfl, fin m _ hp hm4⟩
  · refine ⟨rgd (by omega), rgd (by omega), ?_⟩
    rw [rgD_rgI]
    refine wpLc_mapL (rgI n) PyData.int (fun _ => tI (rgI n)) (by rw [rgI_len]; omega) rfl (fun y hy K hK => ?_) (fun _ => rfl) ?_
    · try walk_at "dd"
      exact hK _ rfl
    · try walk_at "dd"
      rw [tL_map]
      exact ⟨_, rfl, fin _ _ (List.Perm.refl _) hm3⟩
theorem small_ok {Q : D → List D → Prop} {most : Nat} {ms : List D} (C : List (List Int)) (h3 : (3 : Int) < most) (hm : Dc ms) (hl : C.length = 4) (hr : ∀ r, r ∈ C → r.length = 4) (hc : csB 4 C = true) (h : ∀ n d ms', Cs n d → 1 ≤ n → n ≤ most → Dc ms' → Q (tL (tab n d)) ms') : Q (tL C) ms := by
  rw [tab_dot hl hr]
  exact h 4 _ _ (cs_of hc (by decide)) (by decide) (by omega) hm
theorem v__law_small_dots : VM g__law_small_dots S__law_small_dots 2 4 := fun l ms ds Q _ h => by
  obtain ⟨most, rfl, m1, m2, hm, h⟩ := h
  rw [sd_eq]
  have tail := fun (ms : List D) (x2 x3 x4 x5 : Option SV) (hm : Dc ms) => sd_tail (l := l) (x2 := x2) (x3 := x3) (x4 := x4) (x5 := x5) m1 m2 hm h
  generalize sdTail = tl at tail ⊢
  walk_at "dd"
  refine ⟨6, rfl, by decide, by decide, hm, fun way ms1 w0 w1 hm1 => ?_⟩
  try walk_at "dd"
  by_cases h3 : (3 : Int) < most
  · by_cases z0 : way = 0
    · simp only [eqv_int, decide_eq_true_eq, h3, z0, if_true, shaped_int, true_and]
      exact ⟨by decide, by decide, by decide, by decide, by decide, _, rfl, small_ok [[0, 1, 3, 2], [2, 3, 1, 0], [1, 0, 2, 3], [3, 2, 0, 1]] h3 hm1 rfl (by decide) (by decide +kernel) h⟩
    · by_cases z1 : way = 1
      · simp only [eqv_int, decide_eq_true_eq, h3, z1, if_true, shaped_int, true_and, show ¬ (1 : Int) = 0 by decide, if_false]
        exact ⟨by decide, by decide, by decide, by decide, by decide, _, rfl, small_ok [[1, 0, 2, 3], [2, 3, 1, 0], [3, 2, 0, 1], [0, 1, 3, 2]] h3 hm1 rfl (by decide) (by decide +kernel) h⟩
      · by_cases z2 : way = 2
        · simp only [eqv_int, decide_eq_true_eq, h3, z2, if_true, shaped_int, true_and, show ¬ (2 : Int) = 0 by decide, show ¬ (2 : Int) = 1 by decide, if_false]
          refine ⟨by decide, by decide, by decide, by decide, by decide, by decide, by decide, by decide, by decide, by decide, by decide, _, _, rfl, rfl, by decide, by decide, hm1, fun x ms2 hx hm2 => ?_⟩
          simp only [List.mem_cons, List.not_mem_nil, or_false] at hx
          rcases hx with rfl | rfl
          · exact ⟨_, rfl, small_ok [[1, 2, 3, 0], [3, 0, 1, 2], [1, 2, 3, 0], [3, 0, 1, 2]] h3 hm2 rfl (by decide) (by decide +kernel) h⟩
          · exact ⟨_, rfl, small_ok [[1, 0, 3, 2], [2, 3, 0, 1], [2, 3, 0, 1], [1, 0, 3, 2]] h3 hm2 rfl (by decide) (by decide +kernel) h⟩
        · simp only [eqv_int, decide_eq_true_eq, h3, z0, z1, z2, if_false, shaped_int, true_and]
          exact tail _ _ _ _ _ hm1
  · simp only [eqv_int, decide_eq_true_eq, h3, if_false, shaped_int, true_and, ite_self]
    exact tail _ _ _ _ _ hm1
theorem qd_tail {l : Addr} {least most n : Nat} {d : Int → Int → Int} {ms : List D} {x4 x5 x6 x7 x8 : Option SV} {Q : D → List D → Prop} (m1 : 1 ≤ most) (m2 : most ≤ 8) (lm : least ≤ most) (hm : Dc ms) (hC : Cs n d) (n1 : 1 ≤ n) (n2 : n ≤ most) (h : ∀ n d ms', Cs n d → 1 ≤ n → least ≤ n → n ≤ most → Dc ms' → Q (tL (tab n d)) ms') :
    qdTail { nx := fun ρ => ∃ ms', ρ[0]? = some (some (.ow (.par l (.lst ms')))) ∧ Q .none ms', rt := fun d ρ => ∃ ms', ρ[0]? = some (some (.ow (.par l (.lst ms')))) ∧ Q d ms' } [some (.ow (.par l (.lst ms))), some (.im (.int least)), some (.im (.int most)), some (.im (tL (tab n d))), x4, x5, x6, x7, x8] := by
  unfold qdTail
  walk_at "dd"
  refine ⟨rgd (by omega), ?_⟩
  refine wpFor_pre (rgI most) PyData.int (fun l1 ρ => ∃ n d ms' x4 x5 x6 x7 x8, ρ = [some (.ow (.par l (.lst ms'))), some (.im (.int least)), some (.im (.int most)), some (.im (tL (tab n d))), x4, x5, x6, x7, x8] ∧ Cs n d ∧ 1 ≤ n ∧ n ≤ most ∧ (least ≤ n ∨ l1.length + 1 ≤ n) ∧ Dc ms') ⟨n, d, _, _, _, _, _, _, rfl, hC, n1, n2, .inr n1, hm⟩ (fun l1 x l2 e ρ K i k => ?_) (fun ρ i => ?_)
  · obtain ⟨n, d, ms2, x4, x5, x6, x7, x8, rfl, hC, n1, n2, n3, hm2⟩ := i
    have cl := tab_len n d
    rw [List.length_append, List.length_cons, List.length_nil] at k
    try walk_at "dd"
    simp only [dSub, dGt, dLt, dI2, dLen_tL, cl, true_and]
    by_cases hr : (0 : Int) < most - n
    · simp only [hr, decide_true, if_true]
      by_cases hl : (n : Int) < least
      · simp only [hl, decide_true, if_true]
        refine ⟨most - n, by rw [show ((most : Int) - n) = ((most - n : Nat) : Int) by omega], by omega, by omega, hm2, fun m e ms3 hD b1 b2 hm3 => ?_⟩
        have dl := tab_len m e
        simp only [dLen_tL, dl, cl, dLt, dI2, true_and]
        refine ⟨rgd (by omega), rgd (by omega), ?_⟩
        by_cases q1 : (m : Int) < 5
        · by_cases q2 : (n : Int) < 5
          · simp only [q1, q2, decide_true, if_true]
            refine ⟨m, e, rfl, hD, by omega, fun L1 hL1 ne1 l1 => ⟨_, L1.map tI, rfl, rfl, by simpa using ne1, by simp; omega, hm3, fun x ms4 hx hm4 => ?_⟩⟩
            obtain ⟨f, hf, rfl⟩ := List.mem_map.mp hx
            refine ⟨n, d, rfl, hC, by omega, fun L2 hL2 ne2 l2 => ⟨_, L2.map tI, rfl, rfl, by simpa using ne2, by simp; omega, hm4, fun x ms5 hx hm5 => ?_⟩⟩
            obtain ⟨s, hs, rfl⟩ := List.mem_map.mp hx
            exact ⟨n, m, d, e, f, s, rfl, hC.rg, hD.rg, ((hL1 f).1 hf).1, ((hL2 s).1 hs).1, by omega, k _ ⟨n + m, _, ms5, _, _, _, _, _, rfl, cs_uni hC hD ((hL1 f).1 hf).1 ((hL2 s).1 hs).1 ((hL1 f).1 hf).2 ((hL2 s).1 hs).2, by omega, by omega, by omega, hm5⟩⟩
          · simp only [q1, q2, decide_true, decide_false, if_true, if_false, Bool.false_eq_true]
            try simp only [rgD_rgI]
            exact ⟨n, m, d, e, rgI m, rgI n, rfl, hC.rg, hD.rg, List.Perm.refl _, List.Perm.refl _, by omega, k _ ⟨n + m, _, ms3, _, _, _, _, _, rfl, cs_uni hC hD (List.Perm.refl _) (List.Perm.refl _) (kp_id hD) (kp_id hC), by omega, by omega, by omega, hm3⟩⟩
        · simp only [q1, decide_false, if_false, Bool.false_eq_true]
          try simp only [rgD_rgI]
          exact ⟨n, m, d, e, rgI m, rgI n, rfl, hC.rg, hD.rg, List.Perm.refl _, List.Perm.refl _, by omega, k _ ⟨n + m, _, ms3, _, _, _, _, _, rfl, cs_uni hC hD (List.Perm.refl _) (List.Perm.refl _) (kp_id hD) (kp_id hC), by omega, by omega, by omega, hm3⟩⟩
      · simp only [hl, decide_false, if_false, Bool.false_eq_true]
        refine ⟨2, rfl, by decide, by decide, hm2, fun r ms2 r0 r1 hm2 => ?_⟩
        try walk_at "dd"
        refine ⟨rfl, rfl, ?_⟩
        rw [eqv_int]
        refine ite_ways (fun z => ?_) (fun z => k _ ⟨n, d, ms2, _, _, _, _, _, rfl, hC, n1, n2, .inl (by omega), hm2⟩)
        refine ⟨most - n, by rw [show ((most : Int) - n) = ((most - n : Nat) : Int) by omega], by omega, by omega, hm2, fun m e ms3 hD b1 b2 hm3 => ?_⟩
        have dl := tab_len m e
        simp only [dLen_tL, dl, cl, dLt, dI2, true_and]
        refine ⟨rgd (by omega), rgd (by omega), ?_⟩
        by_cases q1 : (m : Int) < 5
        · by_cases q2 : (n : Int) < 5
          · simp only [q1, q2, decide_true, if_true]
            refine ⟨m, e, rfl, hD, by omega, fun L1 hL1 ne1 l1 => ⟨_, L1.map tI, rfl, rfl, by simpa using ne1, by simp; omega, hm3, fun x ms4 hx hm4 => ?_⟩⟩
            obtain ⟨f, hf, rfl⟩ := List.mem_map.mp hx
            refine ⟨n, d, rfl, hC, by omega, fun L2 hL2 ne2 l2 => ⟨_, L2.map tI, rfl, rfl, by simpa using ne2, by simp; omega, hm4, fun x ms5 hx hm5 => ?_⟩⟩
            obtain ⟨s, hs, rfl⟩ := List.mem_map.mp hx
            exact ⟨n, m, d, e, f, s, rfl, hC.rg, hD.rg, ((hL1 f).1 hf).1, ((hL2 s).1 hs).1, by omega, k _ ⟨n + m, _, ms5, _, _, _, _, _, rfl, cs_uni hC hD ((hL1 f).1 hf).1 ((hL2 s).1 hs).1 ((hL1 f).1 hf).2 ((hL2 s).1 hs).2, by omega, by omega, by omega, hm5⟩⟩
          · simp only [q1, q2, decide_true, decide_false, if_true, if_false, Bool.false_eq_true]
            try simp only [rgD_rgI]
            exact ⟨n, m, d, e, rgI m, rgI n, rfl, hC.rg, hD.rg, List.Perm.refl _, List.Perm.refl _, by omega, k _ ⟨n + m, _, ms3, _, _, _, _, _, rfl, cs_uni hC hD (List.Perm.refl _) (List.Perm.refl _) (kp_id hD) (kp_id hC), by omega, by omega, by omega, hm3⟩⟩
        · simp only [q1, decide_false, if_false, Bool.false_eq_true]
          try simp only [rgD_rgI]
          exact ⟨n, m, d, e, rgI m, rgI n, rfl, hC.rg, hD.rg, List.Perm.refl _, List.Perm.refl _, by omega, k _ ⟨n + m, _, ms3, _, _, _, _, _, rfl, cs_uni hC hD (List.Perm.refl _) (List.Perm.refl _) (kp_id hD) (kp_id hC), by omega, by omega, by omega, hm3⟩⟩
    · simp only [hr, decide_false, if_false, Bool.false_eq_true]
      exact k _ ⟨n, d, ms2, _, _, _, _, _, rfl, hC, n1, n2, .inl (by omega), hm2⟩
  · obtain ⟨n, d, ms2, x4, x5, x6, x7, x8, rfl, hC, n1, n2, n3, hm2⟩ := i
    rw [rgI_len] at n3
    have cl := tab_len n d
    try walk_at "dd"
    rw [dLen_tL, cl]
    refine ⟨n, rfl, by omega, hm2, fun m ms3 hp hm3 => ?_⟩
    exact ⟨n, d, m, rfl, hC.rg, hp, by omega, ⟨_, rfl, h n _ _ (cs_ren hC hp) n1 (by omega) n2 hm3⟩⟩
theorem v__law_quiet_dots : VM g__law_quiet_dots S__law_quiet_dots 3 6 := fun l ms ds Q _ h => by
  obtain ⟨least, most, rfl, m1, m2, lm, hm, h⟩ := h
  rw [qd_eq]
  have tail := fun (n : Nat) (d : Int → Int → Int) (ms : List D) (x4 x5 x6 x7 x8 : Option SV) (hC : Cs n d) (n1 : 1 ≤ n) (n2 : n ≤ most) (hm : Dc ms) => qd_tail (l := l) (x4 := x4) (x5 := x5) (x6 := x6) (x7 := x7) (x8 := x8) m1 m2 lm hm hC n1 n2 h
  generalize qdTail = tl at tail ⊢
  walk_at "dd"
  refine ⟨most, rfl, m1, by omega, hm, fun n d ms1 hC n1 n2 hm1 => ?_⟩
  try walk_at "dd"
  by_cases h3 : (3 : Int) < most
  · simp only [h3, decide_true, if_true]
    refine ⟨4, rfl, by decide, by decide, hm1, fun r ms1 r0 r1 hm1 => ?_⟩
    try walk_at "dd"
    refine ⟨rfl, rfl, ?_⟩
    rw [eqv_int]
    refine ite_ways (fun z => ?_) (fun z => tail n d _ _ _ _ _ _ hC n1 n2 hm1)
    refine ⟨by decide, by decide, by decide, by decide, by decide, by decide, by decide, by decide, by decide, by decide, by decide, by decide, _, _, rfl, rfl, by decide, by decide, hm1, fun x ms2 hx hm2 => ?_⟩
    simp only [List.mem_cons, List.not_mem_nil, or_false] at hx
    have sw : Cs 2 (dot [[1, 0], [1, 0]]) := cs_of (by decide +kernel) (by decide)
    have sq : ∀ (C : List (List Int)) (m : Nat), C.length = m → (∀ r, r ∈ C → r.length = m) → seqD (.list (C.map tI)) = some ((tab m (dot C)).map tI) := fun C m h1 h2 => by rw [← tab_dot h1 h2]; rfl
    rcases hx with rfl | rfl | rfl
    · have w2 : Cs 2 (dot [[0, 1], [0, 1]]) := cs_of (by decide +kernel) (by decide)
      exact ⟨_, _, 2, 2, _, _, rfl, sq [[1, 0], [1, 0]] 2 rfl (by decide), sq [[0, 1], [0, 1]] 2 rfl (by decide), sw.rg, w2.rg, by decide, by decide, tail 4 _ _ _ _ _ _ _ (cs_prod sw w2 (by decide)) (by decide) (by omega) hm2⟩
    · exact ⟨_, _, 2, 2, _, _, rfl, sq [[1, 0], [1, 0]] 2 rfl (by decide), sq [[1, 0], [1, 0]] 2 rfl (by decide), sw.rg, sw.rg, by decide, by decide, tail 4 _ _ _ _ _ _ _ (cs_prod sw sw (by decide)) (by decide) (by omega) hm2⟩
    · have w1 : Cs 1 (dot [[0]]) := cs_of (by decide +kernel) (by decide)
      exact ⟨_, _, 2, 1, _, _, rfl, sq [[1, 0], [1, 0]] 2 rfl (by decide), sq [[0]] 1 rfl (by decide), sw.rg, w1.rg, by decide, by decide, tail 2 _ _ _ _ _ _ _ (cs_prod sw w1 (by decide)) (by decide) (by omega) hm2⟩
  · simp only [h3, decide_false, if_false, Bool.false_eq_true]
    exact tail n d _ _ _ _ _ _ hC n1 n2 hm1
end Dn.T
set_option Elab.async false
set_option linter.all false
set_option maxRecDepth 100000
set_option autoImplicit false
set_option maxHeartbeats 4000000
namespace Dn.T
open PySem L2 Evl PySem.Spec PyProof.Rows
local macro_rules | `(tactic| walk_at "dd") => `(tactic| simp only [sSeq, sIf, sSet, sRet, sRetN, sNx, sEx, sAsg, sPar, dTOr, dTAnd, dTNot, dTst, dIsi, dVar, dC, dBin, dChain, dNeg, dI2, dAnd, dOr, dNot, dIfE, dCall, dCallF, aCons, aNil, dTup, lLst, dOfL, xIm, xOw, gNm, gTp, gsCons, gsNil, dYes, envD, dLen_tR, dLen_tI, dLen_tup, dLen_lst, seq_tR, seq_tI, seq_tup, seq_lst, dIs, dIsNot, dNe, dEq, dTupOf, dSl, oNone, oSome, iSq, iEn, iR1, iR2, sFor, lLc, sNever, dTRg, rg1, rg2, lRg, wipeD, isN,
  gTpL, dIxP, sSub, dApp, dPopAt, dExt, dCallM, dCallO, dBinO, dTupO, lOf, lOfO, sRetO, iOw, dVarF, lCat, lCall, dAbs, dMax2, dMin2, dInt, atO, setO, MO.getL, MO.putL, Option.isSome_some,
  dInK, dGetK, dGetD, dInD, dGet1, lKeys, lSort, dLenSet, dLenSetL, dLenSet2, sPar3, dRevT, sPutK, xDct, xDct1, sRetK, atK, keyD, sAugI, dFld, sFldD, xRng, iRgO, dNew, dNewV, dCM, dProp, dMeth, dLenI, dStrO, dEqI, dIsC, dJoin, dJs, dFmt, dCallML, sSubI, gSubW, sWh, lDc, dRepT, lRep, dStrI, xDctT1, xDctOf, dInT, sPutT, lSortT2, lSortDT, dPop, dBinR, dKeep, dCallMO, atT, dCallO,
  kit_int, kit_bool, kit_tuple, kit_str, List.map_cons, List.map_nil, List.cons_append, List.nil_append, List.replicate, List.set_cons_zero, List.set_cons_succ, List.getElem?_cons_zero, List.getElem?_cons_succ, List.length_cons, List.length_nil, List.length_map, Nat.reduceAdd, Nat.reduceSub, Bool.not_true, Bool.not_false, Bool.false_eq_true, if_true, if_false, true_and, reduceCtorEq, Bool.true_eq_false, rgD_rgI, Option.some.injEq, exists_eq_left', and_true])
theorem ixR1 {n : Nat} {f : Int → Int → Int × Int} {x : Int} {Q : D → Prop} (hx : In n x) (h : Q (tPs ((rgI n).map (f x)))) : dIx (tRP (tabP n f)) (.int x) Q := by
  refine ixRP hx.1 (by rw [tabP_len]; exact hx.2) ?_
  rw [tabP_at hx]
  exact h
theorem ixR2 {n : Nat} {f : Int → Int × Int} {y : Int} {Q : D → Prop} (hy : In n y) (h : Q (tP (f y))) : dIx (tPs ((rgI n).map f)) (.int y) Q := by
  refine ixPs hy.1 (by simp [rgI_len]; exact hy.2) ?_
  rw [map_at hy]
  exact h
theorem pw_tab {n : Nat} {f : Int → Int → Int × Int} (h : RgP n f) : Pw n (tabP n f) := by
  refine ⟨tabP_len n f, fun r hr => ?_⟩
  obtain ⟨x, hx, rfl⟩ := List.mem_map.mp hr
  refine ⟨by simp [rgI_len], fun p hp => ?_⟩
  obtain ⟨y, hy, rfl⟩ := List.mem_map.mp hp
  exact h x y (In.mem.1 hx) (In.mem.1 hy)
theorem pa_tab {n : Nat} {f : Int → Int → Int × Int} {x y : Int} (hx : In n x) (hy : In n y) : pa (tabP n f) x y = f x y := by
  unfold pa
  rw [tabP_at hx, map_at hy]
theorem row_cs {n : Nat} {d : Int → Int → Int} (h : Cs n d) {x : Int} (hx : In n x) : Mv n ((rgI n).map (d x)) := mv_map (fun y a b => h.rg x y hx ⟨a, b⟩) fun y z a b c e q => h.inj x y z hx ⟨a, b⟩ ⟨c, e⟩ q
theorem sgm_ok {n : Nat} {d : Int → Int → Int} (h : Cs n d) : (∀ x y, In n x → In n y → In n (sgm n d x y)) ∧ ∀ x y, In n x → In n y → d x (sgm n d x y) = y := by
  refine ⟨fun x y hx hy => (iv_rng (row_cs h hx) hy.1 hy.2).1, fun x y hx hy => ?_⟩
  have r := iv_rng (row_cs h hx) hy.1 hy.2
  have e := r.2
  rw [im_map r.1.1 r.1.2] at e
  exact e
theorem fr_sgm {n : Nat} {d : Int → Int → Int} (h : Cs n d) : Fr n (ofD (sgm n d) d) ∧ Qt n (ofD (sgm n d) d) := fr_cs h (sgm_ok h).1 (sgm_ok h).2
theorem dLen_of {A : D} {l : List D} {Q : D → Prop} (h : seqD A = some l) : dLen [A] Q = Q (.int l.length) := by
  show (match seqD A with | some ds => Q (.int ds.length) | none => False) = _
  rw [h]
theorem v__law_rows_of_dots : VD g__law_rows_of_dots S__law_rows_of_dots 1 6 := fun ds Q _ h => by
  obtain ⟨n, d, hds, hC, hn, h⟩ := h
  have cl := tab_len n d
  obtain ⟨A, rfl, hA⟩ : ∃ A, ds = [A] ∧ seqD A = some ((tab n d).map tI) := by rcases hds with rfl | rfl <;> exact ⟨_, rfl, rfl⟩
  unfold g__law_rows_of_dots
  walk_at "dd"
  rw [dLen_of hA, List.length_map]
  refine ⟨by decide, ?_⟩
  refine ⟨(tab n d).map tI, hA, ?_⟩
  have tm : (tab n d).map tI = (rgI n).map fun x => tI ((rgI n).map (d x)) := by unfold tab; rw [List.map_map]; rfl
  rw [tm]
  refine wpLc_mapL (rgI n) (fun x => tI ((rgI n).map (d x))) (fun x => tI (inv ((rgI n).map (d x)))) (by rw [rgI_len]; omega) rfl (fun x hx K hK => ?_) (fun _ => rfl) ?_
  · try walk_at "dd"
    exact ⟨n, _, ⟨_, rfl, rfl⟩, row_cs hC (In.mem.1 hx), by omega, hK _ rfl⟩
  · try walk_at "dd"
    rw [cl]
    refine ⟨rgd (by omega), ?_⟩
    have hL : PyData.list ((rgI n).map fun x => tI (inv ((rgI n).map (d x)))) = tL (tab n (sgm n d)) := by
      unfold tL tab
      rw [List.map_map]
      congr 1
      refine List.map_congr_left fun x hx => ?_
      show tI (inv ((rgI n).map (d x))) = tI ((rgI n).map (sgm n d x))
      rw [inv_map (row_cs hC (In.mem.1 hx))]
      rfl
    rw [hL]
    obtain ⟨s1, s2⟩ := sgm_ok hC
    refine wpFor_ap (rgI n) PyData.int (fun x => tPs ((rgI n).map fun y => ofD (sgm n d) d x y)) (fun acc ρ => ∃ z, ρ = [some (.im A), some (.im (.int n)), some (.ow (.lst acc)), some (.im (tL (tab n (sgm n d)))), z, none, none]) ⟨_, rfl⟩ (fun x hx acc ρ K p q k => ?_) (fun ρ p => ?_)
    · obtain ⟨z, rfl⟩ := p
      have hx := In.mem.1 hx
      rw [rgI_len] at q
      try walk_at "dd"
      refine ⟨rgd (by omega), ?_⟩
      refine wpLc_mapL (rgI n) PyData.int (fun y => tP (ofD (sgm n d) d x y)) (by rw [rgI_len]; omega) rfl (fun y hy K hK => ?_) (fun _ => rfl) ?_
      · have hy := In.mem.1 hy
        have p0 := s1 x y hx hy
        try walk_at "dd"
        exact ixT hx (ixY hy (ixT hx (ixY hy (ixT' hA p0 (ixY hx ⟨by decide, hK _ rfl⟩)))))
      · try walk_at "dd"
        refine ⟨by omega, ?_⟩
        rw [tPs_map]
        exact k _ ⟨_, rfl⟩
    · obtain ⟨z, rfl⟩ := p
      try walk_at "dd"
      rw [tRP_map]
      exact h
theorem v__law_renamed_rows : VD g__law_renamed_rows S__law_renamed_rows 2 4 := fun ds Q _ h => by
  obtain ⟨n, f, m, rfl, hR, hm, hn, h⟩ := h
  have ml := hm.len
  have hi := inv_mv hm
  have mm : ∀ x, x ∈ m → In n x := fun x hx => In.mem.1 (hm.mem_iff.mp hx)
  unfold g__law_renamed_rows
  walk_at "dd"
  refine ⟨n, m, ⟨_, rfl, rfl⟩, hm, by omega, ?_⟩
  try walk_at "dd"
  refine ⟨by decide, ?_⟩
  refine wpFor_ap m PyData.int (fun x => tPs (m.map fun y => (im (inv m) (f x y).1, im (inv m) (f x y).2))) (fun acc ρ => ∃ z, ρ = [some (.im (tRP (tabP n f))), some (.im (tI m)), some (.im (tI (inv m))), some (.ow (.lst acc)), z, none]) ⟨_, rfl⟩ (fun x hx acc ρ K p q k => ?_) (fun ρ p => ?_)
  · obtain ⟨z, rfl⟩ := p
    have hx := mm x hx
    try walk_at "dd"
    refine wpLc_mapL m PyData.int (fun y => tP (im (inv m) (f x y).1, im (inv m) (f x y).2)) (by omega) rfl (fun y hy K hK => ?_) (fun _ => rfl) ?_
    · have hy := mm y hy
      have p := hR x y hx hy
      try walk_at "dd"
      exact ixR1 hx (ixR2 hy (ixP0 (ixM hi p.1 (ixR1 hx (ixR2 hy (ixP1 (ixM hi p.2 ⟨by decide, hK _ rfl⟩)))))))
    · try walk_at "dd"
      refine ⟨by omega, ?_⟩
      rw [tPs_map]
      exact k _ ⟨_, rfl⟩
  · obtain ⟨z, rfl⟩ := p
    try walk_at "dd"
    rw [tRP_map, show (m.map fun x => m.map fun y => (im (inv m) (f x y).1, im (inv m) (f x y).2)) = tabP n (ren f m) from ?_]
    · exact h
    · conv => lhs; rw [mv_self hm]
      unfold tabP ren
      rw [List.map_map]
      refine List.map_congr_left fun x hx => ?_
      show (((rgI n).map (im m)).map fun y => (im (inv ((rgI n).map (im m))) (f (im m x) y).1, im (inv ((rgI n).map (im m))) (f (im m x) y).2)) = _
      rw [← mv_self hm, mv_self hm, List.map_map, ← mv_self hm]
      rfl
theorem enD_tabP {n : Nat} {f : Int → Int → Int × Int} : enD ((tabP n f).map tPs) = (rgI n).map fun k => .tuple [.int k, tPs ((rgI n).map (f k))] := by
  rw [enD_map (tabP n f) tPs [], tabP_len]
  refine List.map_congr_left fun k hk => ?_
  rw [tabP_at (In.mem.1 hk)]
theorem enD_rowP {n : Nat} {f : Int → Int × Int} : enD (((rgI n).map f).map tP) = (rgI n).map fun k => .tuple [.int k, tP (f k)] := by
  rw [enD_map ((rgI n).map f) tP (0, 0), List.length_map, rgI_len]
  refine List.map_congr_left fun k hk => ?_
  rw [map_at (In.mem.1 hk)]
theorem qtB_iff {n : Nat} {f : Int → Int → Int × Int} : qtB n f = true ↔ Qt n f := by
  unfold qtB Qt
  simp only [List.all_eq_true, decide_eq_true_eq]
  exact ⟨fun h x y hx hy => h x (In.mem.2 hx) y (In.mem.2 hy), fun h x hx y hy => h x y (In.mem.1 hx) (In.mem.1 hy)⟩
theorem eqv_tP (p q : Int × Int) : PyData.eqv (tP p) (.tuple [.int q.1, .int q.2]) = decide (p = q) := by
  have := eqv_tI [p.1, p.2] [q.1, q.2]
  have e : PyData.eqv (tP p) (.tuple [.int q.1, .int q.2]) = decide ([p.1, p.2] = [q.1, q.2]) := this
  rw [e]
  congr 1
  simp [Prod.ext_iff]
theorem shaped_tP (p : Int × Int) : SeqAt.shaped (tP p) = true := shaped_tI [p.1, p.2]
theorem v__passes_twice_unchanged : VD g__passes_twice_unchanged S__passes_twice_unchanged 1 4 := fun ds Q _ h => by
  obtain ⟨n, f, rfl, hR, hn, h⟩ := h
  unfold g__passes_twice_unchanged
  walk_at "dd"
  refine ⟨(tabP n f).map tPs, rfl, ?_⟩
  rw [enD_tabP]
  refine wpFor_pre (rgI n) (fun k => .tuple [.int k, tPs ((rgI n).map (f k))]) (fun l1 ρ => (∃ x1 x2 x3 x4, ρ = [some (.im (tRP (tabP n f))), x1, x2, x3, x4]) ∧ ∀ x, x ∈ l1 → ∀ y, In n y → f (f x y).1 (f x y).2 = (x, y)) ⟨⟨_, _, _, _, rfl⟩, by simp⟩ (fun l1 x l2 e ρ K p k => ?_) (fun ρ p => ?_)
  · obtain ⟨⟨x1, x2, x3, x4, rfl⟩, ih⟩ := p
    have hx : In n x := In.mem.1 (by rw [e]; simp)
    try walk_at "dd"
    refine ⟨((rgI n).map (f x)).map tP, rfl, ?_⟩
    rw [enD_rowP]
    refine wpFor_pre (rgI n) (fun j => .tuple [.int j, tP (f x j)]) (fun l1 ρ => (∃ x3 x4, ρ = [some (.im (tRP (tabP n f))), some (.im (.int x)), some (.im (tPs ((rgI n).map (f x)))), x3, x4]) ∧ ∀ y, y ∈ l1 → f (f x y).1 (f x y).2 = (x, y)) ⟨⟨_, _, rfl⟩, by simp⟩ (fun l1' y l2' e' ρ K' p' k' => ?_) (fun ρ p' => ?_)
    · obtain ⟨⟨x3, x4, rfl⟩, ih'⟩ := p'
      have hy : In n y := In.mem.1 (by rw [e']; simp)
      have q := hR x y hx hy
      try walk_at "dd"
      refine ixP0 (ixR1 q.1 (ixP1 (ixR2 q.2 ⟨by decide, shaped_tP _, shaped_tP (x, y), ?_⟩)))
      rw [eqv_tP _ (x, y)]
      by_cases z : f (f x y).1 (f x y).2 = (x, y)
      · rw [decide_eq_true z]
        try walk_at "dd"
        refine k' _ ⟨⟨_, _, rfl⟩, fun y' hy' => ?_⟩
        rcases List.mem_append.mp hy' with hy' | hy'
        · exact ih' y' hy'
        · rw [List.mem_singleton.mp hy']; exact z
      · rw [decide_eq_false z]
        try walk_at "dd"
        have : qtB n f = false := by
          rw [Bool.eq_false_iff]
          intro t
          exact z (qtB_iff.1 t x y hx hy)
        rw [this] at h
        exact h
    · obtain ⟨⟨x3, x4, rfl⟩, ih'⟩ := p'
      refine k _ ⟨⟨_, _, _, _, rfl⟩, fun x' hx' y hy => ?_⟩
      rcases List.mem_append.mp hx' with hx' | hx'
      · exact ih x' hx' y hy
      · rw [List.mem_singleton.mp hx']; exact ih' y (In.mem.2 hy)
  · obtain ⟨⟨x1, x2, x3, x4, rfl⟩, ih⟩ := p
    try walk_at "dd"
    rw [qtB_iff.2 (fun x y hx hy => ih x (In.mem.2 hx) y hy)] at h
    exact h
theorem fr_noBrk {n : Nat} {f : Int → Int → Int × Int} (h : Fr n f) : noBrk (brk (tabP n f)) W3 n := by
  intro s hs t ht
  obtain ⟨x, y, z⟩ := t
  unfold t3 at ht
  simp only [List.mem_flatMap, List.mem_map, Prod.mk.injEq] at ht
  obtain ⟨x', hx, y', hy, z', hz, rfl, rfl, rfl⟩ := ht
  have hx := In.mem.1 hx
  have hy := In.mem.1 hy
  have hz := In.mem.1 hz
  dsimp only
  have r1 := h.rg _ _ hx hy
  have r2 := h.rg _ _ hy hz
  have r3 := h.rg _ _ r1.2 hz
  have r4 := h.rg _ _ hx r2.1
  unfold brk
  split
  · rw [pa_tab hx hy, pa_tab hx hz]
    rw [Bool.and_eq_false_iff]
    by_cases q : (f x' y').1 = (f x' z').1
    · left
      have := h.li _ _ _ hx hy hz q
      simp; omega
    · right; simpa using q
  · split
    · rw [pa_tab hy hx, pa_tab hz hx]
      rw [Bool.and_eq_false_iff]
      by_cases q : (f y' x').2 = (f z' x').2
      · left
        have := h.ri _ _ _ hx hy hz q
        simp; omega
      · right; simpa using q
    · unfold plf prf
      rw [pa_tab hx hy, pa_tab hy hz, pa_tab r1.2 hz, pa_tab hx r2.1, pa_tab r1.1 r3.1, pa_tab r4.2 r2.2]
      simp only [h.y1 _ _ _ hx hy hz, h.y2 _ _ _ hx hy hz, h.y3 _ _ _ hx hy hz]
      simp
theorem v_Passing____init__ : VI "Passing" g_Passing____init__ S_Passing____init__ 2 5 := fun l ds Q _ h => by
  obtain ⟨n, f, rfl, hR, hn, h⟩ := h
  have R : RgP n f := hR.rg
  unfold g_Passing____init__
  walk_at "dd"
  refine ⟨tabP n f, n, rfl, pw_tab R, hn, ?_⟩
  rw [fPap_fine (fr_noBrk hR)]
  try walk_at "dd"
  refine ⟨by decide, by decide +kernel, by decide +kernel, ?_⟩
  rw [if_neg (by decide +kernel)]
  rw [dLen_tRP, tabP_len]
  refine ⟨(n : Int), rfl, l, [], rfl, by decide, ?_⟩
  refine ⟨(tabP n f).map tPs, rfl, ?_⟩
  have tm : (tabP n f).map tPs = (rgI n).map fun x => tPs ((rgI n).map (f x)) := by unfold tabP; rw [List.map_map]; rfl
  rw [tm]
  refine wpLc_mapL (rgI n) (fun x => tPs ((rgI n).map (f x))) (fun x => tI ((rgI n).map fun y => (f x y).1)) (by rw [rgI_len]; omega) rfl (fun x hx K hK => ?_) (fun _ => rfl) ?_
  · try walk_at "dd"
    refine ⟨((rgI n).map (f x)).map tP, rfl, ?_⟩
    rw [List.map_map]
    refine wpLc_mapL (rgI n) (tP ∘ f x) (fun y => .int (f x y).1) (by rw [rgI_len]; omega) rfl (fun y hy K2 hK2 => ?_) (fun _ => rfl) ?_
    · try walk_at "dd"
      exact ixP0 (hK2 _ rfl)
    · try walk_at "dd"
      rw [tI_map]
      exact hK _ rfl
  try walk_at "dd"
  refine ⟨l, _, rfl, Nat.le_of_ble_eq_true rfl, (n : Int), rfl, by omega, by omega, ?_⟩
  rw [rgD_rgI]
  refine wpLc_mapL (rgI n) PyData.int (fun y => tI ((rgI n).map fun x => (f x y).2)) (by rw [rgI_len]; omega) rfl (fun y hy K hK => ?_) (fun _ => rfl) ?_
  · have hy := In.mem.1 hy
    try walk_at "dd"
    refine ⟨(tabP n f).map tPs, rfl, ?_⟩
    rw [tm]
    refine wpLc_mapL (rgI n) (fun x => tPs ((rgI n).map (f x))) (fun x => .int (f x y).2) (by rw [rgI_len]; omega) rfl (fun x hx K2 hK2 => ?_) (fun _ => rfl) ?_
    · try walk_at "dd"
      exact ixR2 hy (ixP1 (hK2 _ rfl))
    · try walk_at "dd"
      rw [tI_map]
      exact hK _ rfl
  try walk_at "dd"
  refine ⟨l, _, rfl, Nat.le_of_ble_eq_true rfl, ?_⟩
  refine ⟨n, f, rfl, R, by omega, l, _, rfl, Nat.le_of_ble_eq_true rfl, _, rfl, ?_⟩
  have e1 : PyData.tuple ((rgI n).map fun x => tI ((rgI n).map fun y => (f x y).1)) = tR (lftT n f) := by unfold tR lftT tab; rw [List.map_map]; rfl
  have e2 : PyData.tuple ((rgI n).map fun y => tI ((rgI n).map fun x => (f x y).2)) = tR (rgtT n f) := by unfold tR rgtT tab; rw [List.map_map]; rfl
  rw [e1, e2]
  exact h
theorem v_Passing__rows : VD g_Passing__rows S_Passing__rows 1 0 := fun ds Q _ h => by
  obtain ⟨n, f, rfl, h⟩ := h
  unfold g_Passing__rows
  walk_at "dd"
  exact ⟨_, _, rfl, rfl, h⟩
theorem v_Passing____len__ : VD g_Passing____len__ S_Passing____len__ 1 0 := fun ds Q _ h => by
  obtain ⟨n, f, rfl, h⟩ := h
  unfold g_Passing____len__
  walk_at "dd"
  refine ⟨_, _, rfl, rfl, ?_⟩
  rw [dLen_tRP, tabP_len]
  exact h
theorem v_check_table : VD g_check_table S_check_table 1 0 := fun ds Q _ h => by
  obtain ⟨n, f, rfl, h⟩ := h
  unfold g_check_table
  walk_at "dd"
  refine ⟨true, rfl, ?_⟩
  try walk_at "dd"
  exact h
end Dn.T
set_option Elab.async false
set_option linter.all false
set_option maxRecDepth 100000
set_option autoImplicit false
set_option maxHeartbeats 4000000
namespace Dn.T
open PySem L2 Evl PySem.Spec PyProof.Rows
local macro_rules | `(tactic| walk_at "dd") => `(tactic| simp only [sSeq, sIf, sSet, sRet, sRetN, sNx, sEx, sAsg, sPar, dTOr, dTAnd, dTNot, dTst, dIsi, dVar, dC, dBin, dChain, dNeg, dI2, dAnd, dOr, dNot, dIfE, dCall, dCallF, aCons, aNil, dTup, lLst, dOfL, xIm, xOw, gNm, gTp, gsCons, gsNil, dYes, envD, dLen_tR, dLen_tI, dLen_tup, dLen_lst, seq_tR, seq_tI, seq_tup, seq_lst, dIs, dIsNot, dNe, dEq, dTupOf, dSl, oNone, oSome, iSq, iEn, iR1, iR2, sFor, lLc, sNever, dTRg, rg1, rg2, lRg, wipeD, isN,
  gTpL, dIxP, sSub, dApp, dPopAt, dExt, dCallM, dCallO, dBinO, dTupO, lOf, lOfO, sRetO, iOw, dVarF, lCat, lCall, dAbs, dMax2, dMin2, dInt, atO, setO, MO.getL, MO.putL, Option.isSome_some,
  dInK, dGetK, dGetD, dInD, dGet1, lKeys, lSort, dLenSet, dLenSetL, dLenSet2, sPar3, dRevT, sPutK, xDct, xDct1, sRetK, atK, keyD, sAugI, dFld, sFldD, xRng, iRgO, dNew, dNewV, dCM, dProp, dMeth, dLenI, dStrO, dEqI, dIsC, dJoin, dJs, dFmt, dCallML, sSubI, gSubW, sWh, lDc, dRepT, lRep, dStrI, xDctT1, xDctOf, dInT, sPutT, lSortT2, lSortDT, dPop, dBinR, dKeep, dCallMO, atT, dCallO,
  kit_int, kit_bool, kit_tuple, kit_str, List.map_cons, List.map_nil, List.cons_append, List.nil_append, List.replicate, List.set_cons_zero, List.set_cons_succ, List.getElem?_cons_zero, List.getElem?_cons_succ, List.length_cons, List.length_nil, List.length_map, Nat.reduceAdd, Nat.reduceSub, Bool.not_true, Bool.not_false, Bool.false_eq_true, if_true, if_false, true_and, reduceCtorEq, Bool.true_eq_false, rgD_rgI, Option.some.injEq, exists_eq_left', and_true])
theorem shaped_tL (L : List (List Int)) : SeqAt.shaped (tL L) = true := by
  have h := layAll_tI L
  unfold SeqAt.shaped tL
  simp [PyData.canLay0, PyData.depth, h.1]
  omega
def posI (L : List (List Int)) (m : List Int) : Int := ((L.findIdx fun x => decide (x = m) : Nat) : Int)
theorem ixD_ok {L : List (List Int)} {m : List Int} (h : m ∈ L) {K : D → Prop} (k : K (.int (posI L m))) : ∃ (ds : List D) (j : Nat) (w : D), tL L = .list ds ∧ SeqAt.shaped (tL L) = true ∧ SeqAt.shaped (tI m) = true ∧ ds[j]? = some w ∧ PyData.eqv w (tI m) = true ∧ (∀ (i : Nat) (z' : D), i < j → ds[i]? = some z' → PyData.eqv z' (tI m) = false) ∧ K (.int (j : Nat)) := by
  have hl : (L.findIdx fun x => decide (x = m)) < L.length := List.findIdx_lt_length_of_exists ⟨m, h, by simp⟩
  have e : L[L.findIdx fun x => decide (x = m)] = m := by simpa using List.findIdx_getElem (w := hl)
  refine ⟨_, _, tI m, rfl, shaped_tL L, shaped_tI m, ?_, by rw [eqv_tI]; simp, fun i z hi hz => ?_, k⟩
  · rw [List.getElem?_map, List.getElem?_eq_getElem hl, e]; rfl
  · rw [List.getElem?_map] at hz
    obtain ⟨x, hx, rfl⟩ := Option.map_eq_some_iff.mp hz
    rw [eqv_tI, decide_eq_false_iff_not]
    have n := List.not_of_lt_findIdx hi
    obtain ⟨hi', ex⟩ := List.getElem?_eq_some_iff.mp hx
    rw [ex] at n
    simpa using n
def M6 : List (List Int) := ordF 3 3
def T3 : List (List Int) := M6.map fun x => M6.map fun y => posI M6 (jn (jn x y) (inv x))
theorem T3_tab : (M6.map fun x => M6.map fun y => (posI M6 (jn (jn x y) (inv x)), posI M6 x)) = tabP 6 (fun x y => (dot T3 x y, x)) := by decide +kernel
theorem fr_T3 : Fr 6 (fun x y => (dot T3 x y, x)) := by
  have h : ((rgI 6).all fun x => (rgI 6).all fun y => decide (In 6 (dot T3 x y)) && (rgI 6).all fun z => (!decide (dot T3 x y = dot T3 x z) || decide (y = z)) && decide (dot T3 (dot T3 x y) (dot T3 x z) = dot T3 x (dot T3 y z))) = true := by decide +kernel
  simp only [List.all_eq_true, Bool.and_eq_true, Bool.or_eq_true, Bool.not_eq_true', decide_eq_true_eq, decide_eq_false_iff_not] at h
  refine fr_rack (fun x y hx hy => (h x (In.mem.2 hx) y (In.mem.2 hy)).1) (fun x y z hx hy hz e => ?_) fun x y z hx hy hz => ((h x (In.mem.2 hx) y (In.mem.2 hy)).2 z (In.mem.2 hz)).2
  rcases ((h x (In.mem.2 hx) y (In.mem.2 hy)).2 z (In.mem.2 hz)).1 with q | q
  · exact absurd e q
  · exact q
theorem tRP_of (n : Nat) (f : Int → Int → Int × Int) : PyData.tuple ((rgI n).map fun x => tPs ((rgI n).map fun y => f x y)) = tRP (tabP n f) := by unfold tRP tabP; rw [List.map_map]; rfl
theorem it_in {n : Nat} {m : List Int} (h : Mv n m) (k : Nat) {x : Int} (hx : In n x) : In n (it m k x) := it_rng h ⟨hx.1, hx.2⟩ k
theorem mv_it {n : Nat} {m : List Int} (h : Mv n m) (k : Nat) : Mv n ((rgI n).map (it m k)) := mv_map (fun x a b => it_rng h ⟨a, b⟩ k) fun x y a b c d e => it_inj h ⟨a, b⟩ ⟨c, d⟩ e
def fr1Tail : DS := sSeq (sSet 9 (xOw (lLc (iR1 (dVar 4)) (gNm 11) (dYes) (dCall dTupOf (aCons (dOfL (lLc (iR1 (dVar 4)) (gNm 13) (dYes) (dTup (aCons (dBin dMod (dCall dInt (aCons (dBin dSub (dBin dAdd (dVar 11) (dBin dMulA (dVar 8) (dVar 13))) (dBin dMulA (dVar 8) (dVar 11))) (aNil))) (dVar 4)) (aCons (dVar 11) (aNil)))) [13])) (aNil))) [11]))) (sRet (dCallF 2 S__law_renamed_rows (aCons (dTupO 9) (aCons (dCallM 0 2 S__law_drawn_move (aCons (dVar 4) (aNil))) (aNil)))))
theorem fr_eq : g__law_fair_rows = sSeq (sPar 3 4 (xIm (dCallM 0 2 S__law_roll (aCons (dC (.int 6)) (aNil)))) (xIm (dBin dAdd (dVar 1) (dCallM 0 2 S__law_roll (aCons (dBin dAdd (dBin dSub (dVar 2) (dVar 1)) (dC (.int 1))) (aNil)))))) (sSeq (sIf (dTst (dBin dEq (dVar 3) (dC (.int 0)))) (sSeq (sSet 5 (xIm (dCallM 0 2 S__law_drawn_move (aCons (dVar 4) (aNil))))) (sSeq (sPar 6 7 (xIm (dCallF 2 S__law_power (aCons (dVar 5) (aCons (dCallM 0 2 S__law_roll (aCons (dC (.int 5)) (aNil))) (aNil))))) (xIm (dCallF 2 S__law_power (aCons (dVar 5) (aCons (dCallM 0 2 S__law_roll (aCons (dC (.int 5)) (aNil))) (aNil)))))) (sRet (dCall dTupOf (aCons (dOfL (lLc (iR1 (dVar 4)) (gNm 11) (dYes) (dCall dTupOf (aCons (dOfL (lLc (iR1 (dVar 4)) (gNm 13) (dYes) (dTup (aCons (dBin dIx (dVar 6) (dVar 13)) (aCons (dBin dIx (dVar 7) (dVar 11)) (aNil)))) [13])) (aNil))) [11])) (aNil)))))) (sNx)) (sSeq (sIf (dTst (dBin dEq (dVar 3) (dC (.int 1)))) (sSeq (sSet 8 (xIm (dCallM 0 2 S__law_pick (aCons (dOfL (lLst (aCons (dNeg (dC (.int 1))) (aCons (dNeg (dC (.int 1))) (aCons (dC (.int 2)) (aCons (dC (.int 1)) (aNil))))))) (aNil))))) (sSeq (sSet 8 (xIm (dIfE (dTOr (dTst (dBin dLt (dVar 8) (dC (.int 2)))) (dTst (dBin dEq (dBin dMod (dVar 4) (dC (.int 2))) (dC (.int 1))))) (dVar 8) (dNeg (dC (.int 1)))))) fr1Tail)) (sNx)) (sSeq (sIf (dTAnd (dTst (dBin dEq (dVar 3) (dC (.int 2)))) (dTst (dBin dGt (dVar 2) (dC (.int 5))))) (sSeq (sSet 10 (xIm (dCallF 1 S__law_orders (aCons (dC (.int 3)) (aNil))))) (sSeq (sSet 9 (xOw (lLst (aNil)))) (sSeq (sFor (iSq (dVar 10)) (gNm 11) (sSeq (sSet 12 (xIm (dOfL (lLc (iSq (dVar 10)) (gNm 13) (dYes) (dIndexD (dVar 10) (dCallF 2 S__law_joined (aCons (dCallF 2 S__law_joined (aCons (dVar 11) (aCons (dVar 13) (aNil)))) (aCons (dCallF 1 S__law_undone (aCons (dVar 11) (aNil))) (aNil))))) [13])))) (sEx (dApp 9 (dCall dTupOf (aCons (dOfL (lLc (iSq (dVar 12)) (gNm 14) (dYes) (dTup (aCons (dVar 14) (aCons (dIndexD (dVar 10) (dVar 11)) (aNil)))) [14])) (aNil))))))) (sRet (dCallF 2 S__law_renamed_rows (aCons (dTupO 9) (aCons (dCallM 0 2 S__law_drawn_move (aCons (dC (.int 6)) (aNil))) (aNil)))))))) (sNx)) (sSeq (sIf (dTAnd (dTst (dBin dEq (dVar 3) (dC (.int 3)))) (dTst (dBin dGt (dVar 4) (dC (.int 1))))) (sSeq (sSet 9 (xOw (lLc (iR1 (dVar 4)) (gNm 11) (dYes) (dCall dTupOf (aCons (dOfL (lLc (iR1 (dVar 4)) (gNm 13) (dYes) (dTup (aCons (dVar 13) (aCons (dBin dMod (dCall dInt (aCons (dBin dSub (dBin dMulA (dC (.int 2)) (dVar 13)) (dVar 11)) (aNil))) (dVar 4)) (aNil)))) [13])) (aNil))) [11]))) (sRet (dCallF 2 S__law_renamed_rows (aCons (dTupO 9) (aCons (dCallM 0 2 S__law_drawn_move (aCons (dVar 4) (aNil))) (aNil)))))) (sNx)) (sRet (dCallF 1 S__law_rows_of_dots (aCons (dCallM 0 3 S__law_quiet_dots (aCons (dVar 1) (aCons (dVar 2) (aNil)))) (aNil)))))))) := rfl
abbrev mE (l : Addr) (N : Env → Prop) (Q : D → List D → Prop) : DEnds := { nx := N, rt := fun d ρ => ∃ ms', ρ[0]? = some (some (.ow (.par l (.lst ms')))) ∧ Q d ms' }
theorem RgP.ren {n : Nat} {f : Int → Int → Int × Int} (h : Fr n f) : RgP n f := h.rg
theorem fr1_tail {l : Addr} {least most n : Nat} {t way : Int} {ms : List D} {x5 x6 x7 x9 x10 x12 x14 : Option SV} {N : Env → Prop} {Q : D → List D → Prop} (n8 : n ≤ 8) (hm : Dc ms) (ht : t = -1 ∨ t = 1 ∨ (t = 2 ∧ n % 2 = 1)) (h : ∀ f ms', Fr n f → Dc ms' → Q (tRP (tabP n f)) ms') :
    fr1Tail (mE l N Q) [some (.ow (.par l (.lst ms))), some (.im (.int least)), some (.im (.int most)), some (.im (.int way)), some (.im (.int n)), x5, x6, x7, some (.im (.int t)), x9, x10, none, x12, none, x14] := by
  unfold fr1Tail mE
  walk_at "dd"
  refine ⟨rgd (by omega), ?_⟩
  have F : Fr n (fun x y => (afi n t x y, x)) := by
    rcases Nat.eq_zero_or_pos n with z | z
    · subst z
      have no : ∀ x, ¬ In 0 x := fun x hx => by unfold In at hx; omega
      exact ⟨fun x y a => absurd a (no x), fun x y z a => absurd a (no x), fun x y z a => absurd a (no x), fun x y z a => absurd a (no x), fun x y z a => absurd a (no x), fun x y z a => absurd a (no x), fun x y u v a => absurd a (no x)⟩
    · exact fr_afi z ht
  refine wpLc_mapL (rgI n) PyData.int (fun x => tPs ((rgI n).map fun y => (afi n t x y, x))) (by rw [rgI_len]; omega) rfl (fun x hx K hK => ?_) (fun _ => rfl) ?_
  · have hx := In.mem.1 hx
    try walk_at "dd"
    refine ⟨rgd (by omega), ?_⟩
    refine wpLc_mapL (rgI n) PyData.int (fun y => tP (afi n t x y, x)) (by rw [rgI_len]; omega) rfl (fun y hy K2 hK2 => ?_) (fun _ => rfl) ?_
    · have hy := In.mem.1 hy
      have n0 : 0 < n := by have := hx.1; have := hx.2; omega
      try walk_at "dd"
      refine ⟨cm_l ⟨by omega, by omega⟩, cm_l ⟨by omega, by omega⟩, ?_⟩
      exact ⟨trivial, by show (0 : Int) < (n : Int); omega, by decide, hK2 _ rfl⟩
    · try walk_at "dd"
      rw [tPs_map]
      exact hK _ rfl
  · try walk_at "dd"
    refine ⟨n, rfl, by omega, hm, fun m ms3 hp hm3 => ?_⟩
    rw [tRP_of n fun x y => (afi n t x y, x)]
    exact ⟨n, _, m, rfl, F.rg, hp, by omega, _, rfl, h _ _ (fr_ren F hp) hm3⟩
theorem v__law_fair_rows : VM g__law_fair_rows S__law_fair_rows 3 12 := fun l ms ds Q _ h => by
  obtain ⟨least, most, rfl, m1, m2, lm, l6, hm, h⟩ := h
  rw [fr_eq]
  have tail1 := fun (N : Env → Prop) (n : Nat) (t way : Int) (ms : List D) (x5 x6 x7 x9 x10 x12 x14 : Option SV) (n8 : n ≤ 8) (hm : Dc ms) (ht : t = -1 ∨ t = 1 ∨ (t = 2 ∧ n % 2 = 1)) (n1 : least ≤ n) (n2 : n ≤ most) => fr1_tail (l := l) (N := N) (least := least) (most := most) (way := way) (x5 := x5) (x6 := x6) (x7 := x7) (x9 := x9) (x10 := x10) (x12 := x12) (x14 := x14) n8 hm ht (Q := Q) fun f ms' hf hm' => h n f ms' hf n1 n2 hm'
  generalize fr1Tail = tl1 at tail1 ⊢
  walk_at "dd"
  refine ⟨6, rfl, by decide, by decide, hm, fun way ms1 w0 w1 hm1 => ?_⟩
  try walk_at "dd"
  simp only [dAdd]
  refine ⟨(most : Int) - least + 1, rfl, by omega, by simp only [T60]; omega, hm1, fun r ms2 r0 r1 hm2 => ?_⟩
  obtain ⟨n, hn, n1, n2⟩ : ∃ n : Nat, (least : Int) + r = n ∧ least ≤ n ∧ n ≤ most := ⟨((least : Int) + r).toNat, by omega, by omega, by omega⟩
  simp only [hn]
  refine ⟨rfl, rfl, ?_⟩
  rw [eqv_int]
  by_cases z0 : way = 0
  · rw [decide_eq_true z0, if_pos rfl]
    refine ⟨n, rfl, by omega, hm2, fun m ms3 hp hm3 => ?_⟩
    have hp : Mv n m := hp
    refine ⟨5, rfl, by decide, by decide, hm3, fun k1 ms4 a1 b1 hm4 => ?_⟩
    obtain ⟨k1, rfl⟩ := Int.eq_ofNat_of_zero_le a1
    refine ⟨n, m, k1, rfl, hp, by omega, by omega, ?_⟩
    refine ⟨5, rfl, by decide, by decide, hm4, fun k2 ms5 a2 b2 hm5 => ?_⟩
    obtain ⟨k2, rfl⟩ := Int.eq_ofNat_of_zero_le a2
    refine ⟨n, m, k2, rfl, hp, by omega, by omega, ?_⟩
    refine ⟨rgd (by omega), ?_⟩
    rw [rgD_rgI]
    refine wpLc_mapL (rgI n) PyData.int (fun x => tPs ((rgI n).map fun y => (it m k1 y, it m k2 x))) (by rw [rgI_len]; omega) rfl (fun x hx K hK => ?_) (fun _ => rfl) ?_
    · have hx := In.mem.1 hx
      try walk_at "dd"
      refine ⟨rgd (by omega), ?_⟩
      refine wpLc_mapL (rgI n) PyData.int (fun y => tP (it m k1 y, it m k2 x)) (by rw [rgI_len]; omega) rfl (fun y hy K2 hK2 => ?_) (fun _ => rfl) ?_
      · have hy := In.mem.1 hy
        try walk_at "dd"
        exact ixY hy (ixY hx ⟨by decide, hK2 _ rfl⟩)
      · try walk_at "dd"
        rw [tPs_map]
        exact hK _ rfl
    · try walk_at "dd"
      refine ⟨_, rfl, ?_⟩
      rw [tRP_of n fun x y => (it m k1 y, it m k2 x)]
      have f1 := fr_mv (mv_it hp k1) (mv_it hp k2) fun x hx => by
        have a := it_in hp k1 hx
        have b := it_in hp k2 hx
        rw [im_map (f := it m k2) hx.1 hx.2, im_map (f := it m k1) b.1 b.2, im_map (f := it m k1) hx.1 hx.2, im_map (f := it m k2) a.1 a.2, ← it_add, ← it_add, Nat.add_comm]
      have f2 := f1.ext (g := fun x y => (it m k1 y, it m k2 x)) fun x y hx hy => by rw [im_map hy.1 hy.2, im_map hx.1 hx.2]
      exact h n _ _ f2 n1 n2 hm5
  · rw [decide_eq_false z0, if_neg (by decide)]
    refine ⟨rfl, rfl, ?_⟩
    rw [eqv_int]
    by_cases z1 : way = 1
    · rw [decide_eq_true z1, if_pos rfl]
      refine ⟨by decide, _, _, rfl, rfl, by decide, by decide, hm2, fun x ms3 hx hm3 => ?_⟩
      have tt : ∃ t : Int, x = .int t ∧ (t = -1 ∨ t = 2 ∨ t = 1) := by
        simp only [List.mem_cons, List.not_mem_nil, or_false] at hx
        rcases hx with rfl | rfl | rfl | rfl
        · exact ⟨-1, rfl, .inl rfl⟩
        · exact ⟨-1, rfl, .inl rfl⟩
        · exact ⟨2, rfl, .inr (.inl rfl)⟩
        · exact ⟨1, rfl, .inr (.inr rfl)⟩
      obtain ⟨t, rfl, ht⟩ := tt
      dsimp only [dLt, dI2]
      refine ⟨trivial, ?_⟩
      rcases ht with rfl | rfl | rfl
      · exact tail1 _ n (-1) way ms3 _ _ _ _ _ _ _ (by omega) hm3 (.inl rfl) n1 n2
      · dsimp only [dMod, dI2]
        refine ⟨by decide, ?_⟩
        refine ⟨rfl, rfl, ?_⟩
        rw [eqv_int]
        by_cases ho : (n : Int) % 2 = 1
        · rw [decide_eq_true ho, if_pos rfl]
          exact tail1 _ n 2 way ms3 _ _ _ _ _ _ _ (by omega) hm3 (.inr (.inr ⟨rfl, by omega⟩)) n1 n2
        · rw [decide_eq_false ho, if_neg (by decide)]
          exact tail1 _ n (-1) way ms3 _ _ _ _ _ _ _ (by omega) hm3 (.inl rfl) n1 n2
      · exact tail1 _ n 1 way ms3 _ _ _ _ _ _ _ (by omega) hm3 (.inr (.inl rfl)) n1 n2
    · rw [decide_eq_false z1, if_neg (by decide)]
      refine ⟨rfl, rfl, ?_⟩
      rw [eqv_int]
      have fin : ∀ ms2, Dc ms2 → S__law_quiet_dots ms2 [.int least, .int most] fun d ms' => S__law_rows_of_dots [d] fun z => ∃ ms'_1, SV.ow (MO.par l (MO.lst ms')) = SV.ow (MO.par l (MO.lst ms'_1)) ∧ Q z ms'_1 := fun ms2 hm2 => by
        refine ⟨least, most, rfl, m1, m2, lm, hm2, fun k d ms3 hC k1 k2 k3 hm3 => ?_⟩
        exact ⟨k, d, .inl rfl, hC, by omega, _, rfl, h k _ _ (fr_sgm hC).1 k2 k3 hm3⟩
      by_cases z2 : way = 2
      · rw [decide_eq_true z2, if_pos rfl]
        refine ite_ways (fun z => ?_) (fun z => ?_)
        · have m6 : 6 ≤ most := by have : (5 : Int) < most := by simpa using z
                                   omega
          refine ⟨3, rfl, by decide, by decide, (ordF 3 3).map tI, rfl, ?_⟩
          have mv : ∀ m, m ∈ M6 → Mv 3 m := fun m hm => ordF_mv.1 hm
          refine wpFor_ap (ordF 3 3) tI (fun x => tPs ((ordF 3 3).map fun y => (posI M6 (jn (jn x y) (inv x)), posI M6 x))) (fun acc ρ => ∃ x11 x12, ρ = [some (.ow (.par l (.lst ms2))), some (.im (.int least)), some (.im (.int most)), some (.im (.int way)), some (.im (.int n)), none, none, none, none, some (.ow (.lst acc)), some (.im (tL (ordF 3 3))), x11, x12, none, none]) ⟨_, _, rfl⟩ (fun x hx acc ρ K p q k => ?_) (fun ρ p => ?_)
          · obtain ⟨x11, x12, rfl⟩ := p
            have hx : x ∈ M6 := hx
            have vx := mv x hx
            have six : (ordF 3 3).length = 6 := by decide
            try walk_at "dd"
            refine ⟨(ordF 3 3).map tI, rfl, ?_⟩
            refine wpLc_mapL (ordF 3 3) tI (fun y => .int (posI M6 (jn (jn x y) (inv x)))) (by omega) rfl (fun y hy K2 hK2 => ?_) (fun _ => rfl) ?_
            · have vy := mv y hy
              have v1 := jn_mv vx vy
              have v2 := inv_mv vx
              unfold dIndexD
              try walk_at "dd"
              refine ⟨⟨_, rfl⟩, 3, x, y, rfl, vx, vy, by decide, 3, x, ⟨_, rfl, rfl⟩, vx, by decide, 3, _, _, rfl, v1, v2, by decide, ?_⟩
              exact ixD_ok (L := M6) (ordF_mv.2 (jn_mv v1 v2)) (K := fun z => K2 z _) (hK2 _ rfl)
            · try walk_at "dd"
              refine wpLc_mapL (ordF 3 3) (fun y => .int (posI M6 (jn (jn x y) (inv x)))) (fun y => tP (posI M6 (jn (jn x y) (inv x)), posI M6 x)) (by omega) rfl (fun y hy K2 hK2 => ?_) (fun _ => rfl) ?_
              · unfold dIndexD
                try walk_at "dd"
                refine ⟨⟨_, rfl⟩, ?_⟩
                exact ixD_ok (L := M6) hx (K := fun z => _ ∧ K2 (.tuple [_, z]) _) ⟨by decide, hK2 _ rfl⟩
              · try walk_at "dd"
                refine ⟨by omega, ?_⟩
                rw [tPs_map]
                exact k _ ⟨_, _, rfl⟩
          · obtain ⟨x11, x12, rfl⟩ := p
            try walk_at "dd"
            refine ⟨6, rfl, by decide, hm2, fun m ms3 hp hm3 => ?_⟩
            have hp : Mv 6 m := hp
            rw [tRP_map, show ((ordF 3 3).map fun x => (ordF 3 3).map fun y => (posI M6 (jn (jn x y) (inv x)), posI M6 x)) = tabP 6 (fun x y => (dot T3 x y, x)) from T3_tab]
            exact ⟨6, _, m, rfl, fr_T3.rg, hp, by decide, _, rfl, h 6 _ _ (fr_ren fr_T3 hp) (by omega) m6 hm3⟩
        · refine ⟨rfl, rfl, ?_⟩
          rw [eqv_int, decide_eq_false (by omega), if_neg (by decide)]
          exact fin _ hm2
      · rw [decide_eq_false z2, if_neg (by decide)]
        refine ⟨rfl, rfl, ?_⟩
        rw [eqv_int]
        by_cases z3 : way = 3
        · rw [decide_eq_true z3, if_pos rfl]
          dsimp only [dGt, dI2]
          refine ⟨trivial, ite_ways (fun z => ?_) (fun z => fin _ hm2)⟩
          have n0 : 0 < n := by have : (1 : Int) < n := by simpa using z
                                omega
          refine ⟨rgd (by omega), ?_⟩
          rw [rgD_rgI]
          refine wpLc_mapL (rgI n) PyData.int (fun x => tPs ((rgI n).map fun y => (y, (2 * y - x) % (n : Int)))) (by rw [rgI_len]; omega) rfl (fun x hx K hK => ?_) (fun _ => rfl) ?_
          · have hx := In.mem.1 hx
            try walk_at "dd"
            refine ⟨rgd (by omega), ?_⟩
            refine wpLc_mapL (rgI n) PyData.int (fun y => tP (y, (2 * y - x) % (n : Int))) (by rw [rgI_len]; omega) rfl (fun y hy K2 hK2 => ?_) (fun _ => rfl) ?_
            · try walk_at "dd"
              refine ⟨cm_l ⟨by decide, by decide⟩, ?_⟩
              exact ⟨by show (0 : Int) < (n : Int); omega, by decide, hK2 _ rfl⟩
            · try walk_at "dd"
              rw [tPs_map]
              exact hK _ rfl
          · try walk_at "dd"
            refine ⟨n, rfl, by omega, hm2, fun m ms3 hp hm3 => ?_⟩
            have hp : Mv n m := hp
            rw [tRP_of n fun x y => (y, (2 * y - x) % (n : Int))]
            exact ⟨n, _, m, rfl, (fr_two n0).rg, hp, by omega, _, rfl, h n _ _ (fr_ren (fr_two n0) hp) n1 n2 hm3⟩
        · rw [decide_eq_false z3, if_neg (by decide)]
          exact fin _ hm2
end Dn.T
set_option Elab.async false
set_option linter.all false
set_option maxRecDepth 100000
set_option autoImplicit false
set_option maxHeartbeats 4000000
namespace Dn.T
open PySem L2 Evl PySem.Spec PyProof.Rows
theorem eqv_nil {xs : List D} : PyData.eqv (.list xs) (.list []) = decide (xs = []) := by cases xs <;> simp [PyData.eqv, PyData.eqvAll]
theorem ne_same {x : List Int} {P1 P2 : Prop} (h : P2) : SeqAt.shaped (tI x) = true ∧ SeqAt.shaped (tI x) = true ∧ if (!PyData.eqv (tI x) (tI x)) = true then P1 else P2 := by
  refine ⟨shaped_tI _, shaped_tI _, ?_⟩
  rw [eqv_tI]
  simpa using h
theorem mem_rgD' {n : Int} {d : D} (h : d ∈ rgD 0 n) : ∃ k : Int, d = .int k ∧ 0 ≤ k ∧ k < n := by
  unfold rgD at h
  obtain ⟨k, hk, rfl⟩ := List.mem_map.mp h
  have := List.mem_range.mp hk
  exact ⟨_, rfl, by omega, by omega⟩
theorem dLen_scr' {s : List Int} {Q : D → Prop} : dLen [scr s] Q = Q (.int s.length) := by show Q _ = _; simp
theorem rg_cap (c n : Int) (h : 0 ≤ c) (h2 : c ≤ 1000) : RgD 0 (if (if n < c then n else c) > 1 then (if n < c then n else c) else 1) := by
  refine ⟨by decide, by decide, ?_, ?_⟩ <;> · split <;> (try split) <;> omega
end Dn.T
set_option Elab.async false
set_option linter.all false
set_option maxRecDepth 100000
set_option autoImplicit false
set_option maxHeartbeats 4000000
namespace Dn
open PySem L2 Evl PySem.Spec PyProof.Rows
section
variable {X : Cx} {a b : Expr} {fa fb : DE} {pos p : Pos}
def lSortSet (fa : DE) : DL := fun ρ Q => fa ρ fun z ρ1 => ∃ ns : List Int, z = .tuple (ns.map PyData.int) ∧ ns.length < 64 ∧ ∀ ms : List Int, ms.Pairwise (· < ·) → (∀ k : Int, k ∈ ms ↔ k ∈ ns) → Q (ms.map PyData.int) ρ1
end
end Dn
set_option Elab.async false
set_option linter.all false
set_option maxRecDepth 100000
set_option autoImplicit false
set_option maxHeartbeats 4000000
namespace Dn
open PySem L2 Evl PySem.Spec PyProof.Rows
section
variable {P : Program} {w : World} {A : Around} {E : Value → Shared → Prop} {s : Shared}
end
section
variable {X : Cx} {a : Expr} {fa : DE} {pos p : Pos}
def lSortTu (fa : DE) : DL := fun ρ Q => fa ρ fun z ρ1 => ∃ ns : List Int, z = .tuple (ns.map PyData.int) ∧ ns.length < 64 ∧ ∀ ns' : List Int, ns'.Perm ns → ns'.Pairwise (· ≤ ·) → Q (ns'.map PyData.int) ρ1
end
end Dn
set_option Elab.async false
set_option linter.all false
set_option maxRecDepth 100000
set_option autoImplicit false
set_option maxHeartbeats 4000000
namespace Dn
open PySem L2 Evl PySem.Spec PyProof.Rows SrL
def NSs2 (ρ0 ρ : Env) (i : Nat) : Prop := ∀ (j : Nat) (sv : SV), j ≠ i → ρ[j]? = some (some sv) → match sv with
  | .im d => NL d ∨ ρ0[j]? = some (some (.im d))
  | .ow m => NS m
def dKeep2 (i : Nat) (f : DT) : DT := fun ρ Q => ∃ ds, ρ[i]? = some (some (.ow (.lst ds))) ∧ (∀ d, d ∈ ds → NL d) ∧ f (ρ.set i (some (.im (.list ds)))) fun b ρ1 => i < ρ1.length ∧ NSs2 ρ ρ1 i ∧ Q b (ρ1.set i (some (.ow (.lst ds))))
end Dn
set_option Elab.async false
set_option linter.all false
set_option maxRecDepth 100000
set_option autoImplicit false
set_option maxHeartbeats 4000000
namespace Dn.T
open PySem L2 Evl PySem.Spec PyProof.Rows
def S_is_square (ds : List D) (Q : D → Prop) : Prop := ∃ C n, ds = [tR C, .int 0, .int 8] ∧ Dw n C ∧ n ≤ 8 ∧ Q (.bool true)
def qtF (n : Nat) (d : Int → Int → Int) : Int → Int → Int × Int := ofD (sgm n d) d
def S_Passing__of_dots (ds : List D) (Q : D → Prop) : Prop := ∃ n d, ds = [clsD "Passing", tR (tab n d)] ∧ Cs n d ∧ n ≤ 8 ∧ Q (pasD n (qtF n d))
def S_Passing__of_left (ds : List D) (Q : D → Prop) : Prop := ∃ n d, ds = [clsD "Passing", tR ((rgI n).map fun x => inv ((rgI n).map (d x)))] ∧ Cs n d ∧ n ≤ 8 ∧ Q (pasD n (qtF n d))
def S_Passing__unmoved (ds : List D) (Q : D → Prop) : Prop := ∃ n : Nat, ds = [clsD "Passing", .int n] ∧ n ≤ 8 ∧ Q (pasD n fun x y => (y, x))
end Dn.T
set_option Elab.async false
set_option linter.all false
set_option maxRecDepth 100000
set_option autoImplicit false
set_option maxHeartbeats 4000000
namespace Dn.T
open PySem L2 Evl PySem.Spec PyProof.Rows
abbrev N_is_square : List Str := ["value", "least", "most", "row"]
abbrev P_is_square : List Str := ["value", "least", "most"]
def g_is_square : DS := sSeq (sIf (dTOr (dTNot (dTst (dIsi "tuple" (dVar 0)))) (dTNot (dTst (dChain dLe dLe (dVar 1) (dCall dLen (aCons (dVar 0) (aNil))) (dVar 2))))) (sRet (dC (.bool false))) (sNx)) (sRet (dCall dAll (aCons (dOfL (lLc (iSq (dVar 0)) (gNm 3) (dYes) (dCallF 3 S_is_row (aCons (dVar 3) (aCons (dCall dLen (aCons (dVar 0) (aNil))) (aCons (dCall dLen (aCons (dVar 0) (aNil))) (aNil))))) [3])) (aNil))))
abbrev N_Passing__is_quiet : List Str := ["self"]
abbrev P_Passing__is_quiet : List Str := ["self"]
def g_Passing__is_quiet : DS := sRet (dFld "Passing" "_quiet" (dVar 0))
abbrev N_Passing__left : List Str := ["self"]
abbrev P_Passing__left : List Str := ["self"]
def g_Passing__left : DS := sRet (dFld "Passing" "_left" (dVar 0))
end Dn.T
set_option Elab.async false
set_option linter.all false
set_option maxRecDepth 100000
set_option autoImplicit false
set_option maxHeartbeats 4000000
namespace Dn.T
open PySem L2 Evl PySem.Spec PyProof.Rows
local macro_rules | `(tactic| walk_at "dd") => `(tactic| simp only [sSeq, sIf, sSet, sRet, sRetN, sNx, sEx, sAsg, sPar, dTOr, dTAnd, dTNot, dTst, dIsi, dVar, dC, dBin, dChain, dNeg, dI2, dAnd, dOr, dNot, dIfE, dCall, dCallF, aCons, aNil, dTup, lLst, dOfL, xIm, xOw, gNm, gTp, gsCons, gsNil, dYes, envD, dLen_tR, dLen_tI, dLen_tup, dLen_lst, seq_tR, seq_tI, seq_tup, seq_lst, dIs, dIsNot, dNe, dEq, dTupOf, dSl, oNone, oSome, iSq, iEn, iR1, iR2, sFor, lLc, sNever, dTRg, rg1, rg2, lRg, wipeD, isN,
  gTpL, dIxP, sSub, dApp, dPopAt, dExt, dCallM, dCallO, dBinO, dTupO, lOf, lOfO, sRetO, iOw, dVarF, lCat, lCall, dAbs, dMax2, dMin2, dInt, atO, setO, MO.getL, MO.putL, Option.isSome_some,
  dInK, dGetK, dGetD, dInD, dGet1, lKeys, lSort, dLenSet, dLenSetL, dLenSet2, sPar3, dRevT, sPutK, xDct, xDct1, sRetK, atK, keyD, sAugI, dFld, sFldD, xRng, iRgO, dNew, dNewV, dCM, dProp, dMeth, dLenI, dStrO, dEqI, dIsC, dJoin, dJs, dFmt, dCallML, sSubI, gSubW, sWh, lDc, dRepT, lRep, dStrI, xDctT1, xDctOf, dInT, sPutT, lSortT2, lSortDT, dPop, dBinR, dKeep, dCallMO, atT, dCallO,
  kit_int, kit_bool, kit_tuple, kit_str, List.map_cons, List.map_nil, List.cons_append, List.nil_append, List.replicate, List.set_cons_zero, List.set_cons_succ, List.getElem?_cons_zero, List.getElem?_cons_succ, List.length_cons, List.length_nil, List.length_map, Nat.reduceAdd, Nat.reduceSub, Bool.not_true, Bool.not_false, Bool.false_eq_true, if_true, if_false, true_and, reduceCtorEq, Bool.true_eq_false, rgD_rgI, Option.some.injEq, exists_eq_left', and_true])
theorem v_is_square : VD g_is_square S_is_square 3 1 := fun ds Q _ h => by
  obtain ⟨C, n, rfl, hC, hn, h⟩ := h
  have cl := hC.1
  unfold g_is_square tR
  walk_at "dd"
  rw [show decide ((0 : Int) ≤ (C.length : Int)) = true from by simp]
  walk_at "dd"
  rw [show decide ((C.length : Int) ≤ 8) = true from by simp; omega]
  walk_at "dd"
  refine wpLc_map (fun _ => .bool true) (by simp; omega) rfl (fun d hd K hK => ?_) (fun _ _ _ => rfl) ?_
  · walk_at "dd"
    obtain ⟨r, hr1, rfl⟩ := List.mem_map.mp hd
    have rr := hC.2 r hr1
    refine ⟨_, _, _, rfl, fun xs e => ?_, by first | omega | (simp; omega), ?_⟩
    · cases e; have := rr.1; simp; omega
    · rw [show isRow (C.length : Int) (C.length : Int) (tI r) = true from by rw [cl]; exact isRow_ints rr.1 rr.2 (by omega)]
      exact hK _ rfl
  · refine ⟨(C.map tI).map fun _ => true, by simp, ?_⟩
    rw [show ((C.map tI).map fun _ => true).all id = true from by simp]
    exact h
theorem tR_tab (n : Nat) (d : Int → Int → Int) : tR (tab n d) = .tuple ((rgI n).map fun x => tI ((rgI n).map (d x))) := by unfold tR tab; rw [List.map_map]; rfl
theorem dw_tab {n : Nat} {d : Int → Int → Int} (h : Rg n d) : Dw n (tab n d) := ⟨tab_len n d, fun r hr => by
  obtain ⟨x, hx, rfl⟩ := List.mem_map.mp hr
  refine ⟨by rw [List.length_map, rgI_len], fun v hv => ?_⟩
  obtain ⟨y, hy, rfl⟩ := List.mem_map.mp hv
  exact h x y (In.mem.1 hx) (In.mem.1 hy)⟩
theorem fr_swap (n : Nat) : Fr n fun x y => (y, x) :=
  ⟨fun x y hx hy => ⟨hy, hx⟩, fun x y z _ _ _ h => h, fun x y z _ _ _ h => h, fun x y z _ _ _ => rfl, fun x y z _ _ _ => rfl, fun x y z _ _ _ => rfl, fun x y u v _ _ _ _ h => by cases h; exact ⟨rfl, rfl⟩⟩
theorem v_Passing__is_quiet : VD g_Passing__is_quiet S_Passing__is_quiet 1 0 := fun ds Q _ h => by
  obtain ⟨n, f, rfl, h⟩ := h
  unfold g_Passing__is_quiet
  walk_at "dd"
  exact ⟨_, _, rfl, rfl, h⟩
theorem v_Passing__left : VD g_Passing__left S_Passing__left 1 0 := fun ds Q _ h => by
  obtain ⟨n, f, rfl, h⟩ := h
  unfold g_Passing__left
  walk_at "dd"
  exact ⟨_, _, rfl, rfl, h⟩
end Dn.T
set_option Elab.async false
set_option linter.all false
set_option maxRecDepth 100000
set_option autoImplicit false
set_option maxHeartbeats 4000000
namespace Dn.T
open PySem L2 Evl PySem.Spec PyProof.Rows
theorem nodup_len {α : Type} [DecidableEq α] : ∀ {l l' : List α}, l.Nodup → (∀ x, x ∈ l → x ∈ l') → l.length ≤ l'.length
  | [], _, _, _ => Nat.zero_le _
  | x :: l, l', nd, hs => by
    have hx := hs x (by simp)
    have nd2 := List.nodup_cons.mp nd
    have := nodup_len (l := l) (l' := l'.erase x) nd2.2 fun y hy => (List.mem_erase_of_ne (fun e => nd2.1 (by rw [← e]; exact hy))).2 (hs y (by simp [hy]))
    rw [List.length_erase_of_mem hx] at this
    have hp := List.length_pos_of_mem hx
    rw [List.length_cons]
    omega
def okU : SV → Prop
  | .im d => NL d
  | .ow m => NS m
def okT (o : Option SV) : Prop := ∀ sv, o = some sv → okU sv
end Dn.T
set_option Elab.async false
set_option linter.all false
set_option maxRecDepth 100000
set_option autoImplicit false
set_option maxHeartbeats 4000000
namespace Dn.T.K54
open PySem L2 Evl PySem.Spec PyProof.Rows
abbrev F2 := Int → Int → Int × Int
def leadF (f : F2) (ws : List Int) : Int := ws.foldl (fun h x => (f x h).1) 0
def isWay (n : Nat) (f : F2) (g : Int) : D → Bool
  | .tuple xs => decide (xs.length ≤ 200) && isRow (xs.length : Int) (n : Int) (.tuple xs) && decide (leadF f (xs.map intD) = g)
  | _ => false
def areWays (n : Nat) (f : F2) : D → Bool
  | .tuple vs => decide (vs.length = n) && (rgI n).all fun i => isWay n f i (vs.getD i.toNat .none)
  | _ => false
def lotI : D → List Int
  | .tuple xs => xs.map intD
  | _ => []
def incB : List Int → Bool
  | x :: y :: l => decide (x < y) && incB (y :: l)
  | _ => true
def isLot (n : Nat) : D → Bool
  | .tuple xs => isRow (xs.length : Int) (n : Int) (.tuple xs) && incB (xs.map intD)
  | _ => false
def closed (f : F2) (l : List Int) : Bool := l.all fun x => l.all fun y => decide ((f x y).1 ∈ l) && decide ((f x y).2 ∈ l)
def areParts (n : Nat) (f : F2) (a b : D) : Bool := isLot n a && isLot n b && decide (lotI a ≠ []) && decide (lotI b ≠ []) && decide ((lotI a ++ lotI b).Perm (rgI n)) && closed f (lotI a) && closed f (lotI b)
def fallsB (n : Nat) (f : F2) : D → Bool
  | .tuple [x, a] => isStr "ways" x && areWays n f a
  | .tuple [x, a, b] => isStr "parts" x && areParts n f a b
  | _ => false
def okL (d : D) : Prop := ∀ xs, d = .tuple xs → xs.length ≤ 30
def okWs (d : D) : Prop := ∀ xs, d = .tuple xs → xs.length ≤ 300 ∧ ∀ x, x ∈ xs → okW x
def okF (d : D) : Prop := ∀ xs, d = .tuple xs → xs.length ≤ 100 ∧ ∀ x, x ∈ xs → okS x ∧ okWs x ∧ (3 ≤ xs.length → okL x)
def S_is_same0 (ds : List D) (Q : D → Prop) : Prop := ∃ d s, ds = [d, .str s] ∧ okS d ∧ SeqAt.shaped (.str s) = true ∧ Q (.bool (isStr s d))
def S_is_same (ds : List D) (Q : D → Prop) : Prop := S_is_same0 ds Q
def S_is_falls_paper (ds : List D) (Q : D → Prop) : Prop := ∃ n f v, ds = [pasD n f, v] ∧ 1 ≤ n ∧ n ≤ 8 ∧ RgP n f ∧ qtB n f = true ∧ okF v ∧ Q (.bool (fallsB n f v))
end Dn.T.K54
set_option Elab.async false
set_option linter.all false
set_option maxRecDepth 100000
set_option autoImplicit false
set_option maxHeartbeats 4000000
namespace Dn.T.K54
open PySem L2 Evl PySem.Spec PyProof.Rows
abbrev N_is_same : List Str := ["value", "told", "index", "part"]
abbrev P_is_same : List Str := ["value", "told"]
def g_is_same : DS := sSeq (sIf (dTst (dIsi "tuple" (dVar 1))) (sSeq (sIf (dTOr (dTNot (dTst (dIsi "tuple" (dVar 0)))) (dTst (dBin dNe (dCall dLen (aCons (dVar 0) (aNil))) (dCall dLen (aCons (dVar 1) (aNil)))))) (sRet (dC (.bool false))) (sNx)) (sRet (dCall dAll (aCons (dOfL (lLc (iEn (dVar 0)) (gTp 2 (gsCons (gNm 2) (gsCons (gNm 3) (gsNil)))) (dYes) (dCallF 2 S_is_same0 (aCons (dVar 3) (aCons (dBin dIx (dVar 1) (dVar 2)) (aNil)))) [2, 3])) (aNil))))) (sNx)) (sSeq (sIf (dTst (dIsi "str" (dVar 1))) (sRet (dAnd (dIsi "str" (dVar 0)) (dBin dEq (dVar 0) (dVar 1)))) (sNx)) (sRet (dAnd (dCallF 1 S_is_integer (aCons (dVar 0) (aNil))) (dBin dEq (dVar 0) (dVar 1)))))
def g_is_same0 : DS := sSeq (sIf (dTst (dIsi "tuple" (dVar 1))) (sSeq (sIf (dTOr (dTNot (dTst (dIsi "tuple" (dVar 0)))) (dTst (dBin dNe (dCall dLen (aCons (dVar 0) (aNil))) (dCall dLen (aCons (dVar 1) (aNil)))))) (sRet (dC (.bool false))) (sNx)) (sRet (dCall dAll (aCons (dOfL (lLc (iEn (dVar 0)) (gTp 2 (gsCons (gNm 2) (gsCons (gNm 3) (gsNil)))) (dYes) (dNever) [2, 3])) (aNil))))) (sNx)) (sSeq (sIf (dTst (dIsi "str" (dVar 1))) (sRet (dAnd (dIsi "str" (dVar 0)) (dBin dEq (dVar 0) (dVar 1)))) (sNx)) (sRet (dAnd (dCallF 1 S_is_integer (aCons (dVar 0) (aNil))) (dBin dEq (dVar 0) (dVar 1)))))
end Dn.T.K54
set_option Elab.async false
set_option linter.all false
set_option maxRecDepth 100000
set_option autoImplicit false
set_option maxHeartbeats 4000000
namespace Dn.T.K54
open PySem L2 Evl PySem.Spec PyProof.Rows
local macro_rules | `(tactic| walk_at "dd") => `(tactic| simp only [sSeq, sIf, sSet, sRet, sRetN, sNx, sEx, sAsg, sPar, dTOr, dTAnd, dTNot, dTst, dIsi, dVar, dC, dBin, dChain, dNeg, dI2, dAnd, dOr, dNot, dIfE, dCall, dCallF, aCons, aNil, dTup, lLst, dOfL, xIm, xOw, gNm, gTp, gsCons, gsNil, dYes, envD, dLen_tR, dLen_tI, dLen_tup, dLen_lst, seq_tR, seq_tI, seq_tup, seq_lst, dIs, dIsNot, dNe, dEq, dTupOf, dSl, oNone, oSome, iSq, iEn, iR1, iR2, sFor, lLc, sNever, dTRg, rg1, rg2, lRg, wipeD, isN,
  gTpL, dIxP, sSub, dApp, dPopAt, dExt, dCallM, dCallO, dBinO, dTupO, lOf, lOfO, sRetO, iOw, dVarF, lCat, lCall, dAbs, dMax2, dMin2, dInt, atO, setO, MO.getL, MO.putL, Option.isSome_some,
  dInK, dGetK, dGetD, dInD, dGet1, lKeys, lSort, dLenSet, dLenSetL, dLenSet2, sPar3, dRevT, sPutK, xDct, xDct1, sRetK, atK, keyD, sAugI, dFld, sFldD, xRng, iRgO, dNew, dNewV, dCM, dProp, dMeth, dLenI, dStrO, dEqI, dIsC, dJoin, dJs, dFmt, dCallML, sSubI, gSubW, sWh, dKeep2, lSortSet, lSortTu, lDc, dRepT, lRep, dStrI, xDctT1, xDctOf, dInT, sPutT, lSortT2, lSortDT, dPop, dBinR, dKeep, dCallMO, atT, dCallO,
  kit_int, kit_bool, kit_tuple, kit_str, List.map_cons, List.map_nil, List.cons_append, List.nil_append, List.replicate, List.set_cons_zero, List.set_cons_succ, List.getElem?_cons_zero, List.getElem?_cons_succ, List.length_cons, List.length_nil, List.length_map, Nat.reduceAdd, Nat.reduceSub, Bool.not_true, Bool.not_false, Bool.false_eq_true, if_true, if_false, true_and, reduceCtorEq, Bool.true_eq_false, rgD_rgI, Option.some.injEq, exists_eq_left', and_true])
theorem v_is_same0 : VD g_is_same0 S_is_same0 2 2 := fun ds Q _ h => by
  obtain ⟨d, s, rfl, hd, hs, h⟩ := h
  unfold g_is_same0
  walk_at "dd"
  cases d with
  | str t =>
    walk_at "dd"
    exact ⟨hd t rfl, hs, by simpa only [PyData.eqv, isStr] using h⟩
  | _ => first | exact h | (walk_at "dd"; exact h)
theorem v_is_same : VD g_is_same S_is_same 2 2 := fun ds Q _ h => by
  obtain ⟨d, s, rfl, hd, hs, h⟩ := h
  unfold g_is_same
  walk_at "dd"
  cases d with
  | str t =>
    walk_at "dd"
    exact ⟨hd t rfl, hs, by simpa only [PyData.eqv, isStr] using h⟩
  | _ => first | exact h | (walk_at "dd"; exact h)
theorem incB_pw : ∀ {l : List Int}, incB l = true ↔ l.Pairwise (· < ·)
  | [] => by simp [incB]
  | [x] => by simp [incB]
  | x :: y :: l => by
    simp only [incB, Bool.and_eq_true, decide_eq_true_eq, incB_pw (l := y :: l)]
    constructor
    · rintro ⟨a, b⟩
      refine List.pairwise_cons.mpr ⟨fun z hz => ?_, b⟩
      rcases List.mem_cons.mp hz with rfl | hz
      · exact a
      · have := (List.pairwise_cons.mp b).1 z hz
        omega
    · intro h
      exact ⟨(List.pairwise_cons.mp h).1 y (by simp), (List.pairwise_cons.mp h).2⟩
theorem all_sc (ns : List Int) : (ns.map PyData.int).all isSc = true := by
  rw [List.all_map]; exact List.all_eq_true.mpr fun _ _ => rfl
end Dn.T.K54
set_option Elab.async false
set_option linter.all false
set_option maxRecDepth 100000
set_option autoImplicit false
set_option maxHeartbeats 4000000
namespace Dn
open PySem L2 Evl PySem.Spec PyProof.Rows
open PySem.AutoSeq1 (wpAny_loadPart')
section
variable {X : Cx}
def dRepU : D → D → (D → Prop) → Prop := fun x y Q => ∃ (ds : List D) (n : Int), x = .tuple ds ∧ y = .int n ∧ ds ≠ [] ∧ 1 ≤ n ∧ n ≤ 1000 ∧ ds.length ≤ 1000 ∧ Q (.tuple (List.replicate n.toNat ds).flatten)
end
end Dn
set_option Elab.async false
set_option linter.all false
set_option maxRecDepth 100000
set_option autoImplicit false
set_option maxHeartbeats 4000000
namespace Dn
open PySem L2 Evl PySem.Spec PyProof.Rows
local macro_rules | `(tactic| walk_at "dd") => `(tactic| simp only [sSeq, sIf, sSet, sRet, sRetN, sNx, sEx, sAsg, sPar, dTOr, dTAnd, dTNot, dTst, dIsi, dVar, dC, dBin, dChain, dNeg, dI2, dAnd, dOr, dNot, dIfE, dCall, dCallF, aCons, aNil, dTup, lLst, dOfL, xIm, xOw, gNm, gTp, gsCons, gsNil, dYes, envD, dLen_tR, dLen_tI, dLen_tup, dLen_lst, seq_tR, seq_tI, seq_tup, seq_lst, dIs, dIsNot, dNe, dEq, dTupOf, dSl, oNone, oSome, iSq, iEn, iR1, iR2, sFor, lLc, sNever, dTRg, rg1, rg2, lRg, wipeD, isN,
  dIxP, sSub, dApp, dPopAt, dExt, dCallM, dCallO, dBinO, dTupO, lOf, lOfO, sRetO, iOw, dVarF, lCat, lCall, dAbs, dMax2, dMin2, dInt, atO, setO, MO.getL, MO.putL, Option.isSome_some,
  lSortT, dOfK, xOwK, lDc, dMinL, dIndex, lRep, dInK, dGetK, dGetD, dInD, dGet1, lKeys, lSort, dLenSet, dRevT, sPutK, xDct, xDct1, sRetK, atK, keyD, sAugI,
  kit_int, kit_bool, kit_tuple, kit_str, List.map_cons, List.map_nil, List.cons_append, List.nil_append, List.replicate, List.set_cons_zero, List.set_cons_succ, List.getElem?_cons_zero, List.getElem?_cons_succ, List.length_cons, List.length_nil, List.length_map, Nat.reduceAdd, Nat.reduceSub, Bool.not_true, Bool.not_false, Bool.false_eq_true, if_true, if_false, true_and, reduceCtorEq, Bool.true_eq_false, rgD_rgI, Option.some.injEq, exists_eq_left', and_true])
theorem v__law_pick : VM g__law_pick S__law_pick 2 0 := fun l ms ds Q _ h => by
  obtain ⟨d, xs, rfl, hd, hn, hl, hm, h⟩ := h
  unfold g__law_pick
  walk_at "dd"
  rw [dLen_seq hd]
  have pos : 0 < xs.length := List.length_pos_iff.mpr hn
  refine ⟨_, rfl, by omega, by simp only [T60]; omega, hm, fun r ms' r0 r1 hm' => ?_⟩
  unfold dIx
  rw [hd]
  dsimp only
  refine ⟨_, atI_in (d := .none) r0 r1, _, rfl, h _ _ (getD_mem (by omega)) hm'⟩
theorem v__law_undone : VD g__law_undone S__law_undone 1 3 := fun ds Q _ h => by
  obtain ⟨n, m, rfl, hm, hn, h⟩ := h
  have hl := hm.len
  unfold g__law_undone
  try walk_at "dd"
  refine wpLc_mapL m PyData.int (fun _ => .int 0) (by omega) rfl (fun x hx K hK => ?_) (fun _ => rfl) ?_
  · try walk_at "dd"
    exact hK _ rfl
  · try walk_at "dd"
    rw [enD_map m PyData.int 0, hl]
    refine wpFor_cps (fun done ρ => ∃ (u : List Int) (x y : Option SV), ρ = [some (SV.im (tI m)), some (SV.ow (MO.lst (u.map PyData.int))), x, y] ∧ u.length = n ∧ ∀ x : Nat, x < done.length → u[(im m x).toNat]? = some (x : Int)) ⟨m.map (fun _ => 0), _, _, (by rw [show (m.map fun _ => (0 : Int)).map PyData.int = m.map fun _ => PyData.int 0 from by rw [List.map_map]; rfl]), (by simp [hl]), fun x hx => by simp at hx⟩ (fun done d rest ρ K e p k => ?_) (fun ρ p => ?_)
    · obtain ⟨u, x, y, rfl, hu, hu2⟩ := p
      obtain ⟨l1, i, l2, e1, rfl, rfl, rfl⟩ := map_split e
      obtain ⟨ei, e2⟩ := rgI_split e1
      rw [List.length_map] at hu2
      have lt : l1.length < n := by
        have := congrArg List.length e1
        rw [rgI_len] at this
        simp at this
        omega
      have g := im_in hm (x := i) (by omega) (by omega)
      try walk_at "dd"
      refine ⟨_, _, (im m i).toNat, rfl, rfl, ?_, ?_⟩
      · unfold ixN
        show (if 0 ≤ im m i then _ else _) = _
        rw [if_pos g.1, if_pos (by simp [hu]; exact g.2)]
        rfl
      · refine k _ ⟨u.set (im m i).toNat i, _, _, (by rw [List.map_set]), (by simp [hu]), fun x hx => ?_⟩
        simp only [List.length_append, List.length_map, List.length_cons, List.length_nil] at hx
        by_cases z : x = l1.length
        · have : (x : Int) = i := by omega
          rw [this, List.getElem?_set_self (by omega)]
        · have gx := im_in hm (x := (x : Int)) (by omega) (by omega)
          rw [List.getElem?_set_ne (fun w => by
            have := im_inj hm (by omega) (by omega) (by omega) (by omega) (show im m x = im m i by omega)
            omega)]
          exact hu2 x (by omega)
    · obtain ⟨u, x, y, rfl, hu, hu2⟩ := p
      rw [List.length_map, rgI_len] at hu2
      try walk_at "dd"
      have : u = inv m := by
        rw [inv_map hm]
        apply List.ext_getElem?
        intro k
        by_cases hk : k < n
        · rw [List.getElem?_map, rgI_get hk]
          obtain ⟨q1, q2⟩ := iv_rng hm (y := (k : Int)) (by omega) (by omega)
          have := hu2 (iv m k).toNat (by omega)
          rw [show (((iv m k).toNat : Nat) : Int) = iv m k by omega, q2] at this
          simpa using this
        · rw [List.getElem?_eq_none_iff.mpr (by omega), List.getElem?_eq_none_iff.mpr (by simp [rgI_len]; omega)]
      subst this
      exact h
def pw (m : List Int) (n k : Nat) : List Int := (rgI n).map (it m k)
theorem pw_mv {n : Nat} {m : List Int} (hm : Mv n m) (k : Nat) : Mv n (pw m n k) :=
  mv_map (fun x h0 h1 => it_rng hm ⟨h0, h1⟩ k) fun x y x0 x1 y0 y1 e => it_inj hm ⟨x0, x1⟩ ⟨y0, y1⟩ e
theorem pw_zero (m : List Int) (n : Nat) : pw m n 0 = rgI n := by
  unfold pw
  conv => rhs; rw [← List.map_id (rgI n)]
  exact List.map_congr_left fun x _ => rfl
theorem pw_succ {n : Nat} {m : List Int} (hm : Mv n m) (k : Nat) : jn m (pw m n k) = pw m n (k + 1) := by
  rw [jn_map (pw_mv hm k)]
  refine map_ext fun x h0 h1 => ?_
  show im m (im ((rgI n).map (it m k)) x) = it m (k + 1) x
  rw [im_map h0 h1]; rfl
theorem v__law_power : VD g__law_power S__law_power 2 2 := fun ds Q _ h => by
  obtain ⟨n, m, k, rfl, hm, hn, hk, h⟩ := h
  have hl := hm.len
  unfold g__law_power
  try walk_at "dd"
  rw [hl]
  refine ⟨rgd (by omega), ?_⟩
  try walk_at "dd"
  refine ⟨rgd hk, ?_⟩
  refine wpFor_cps (fun done ρ => ∃ x, ρ = [some (.im (tI m)), some (.im (.int k)), some (.im (tI (pw m n done.length))), x]) ⟨_, by rw [show ([] : List D).length = 0 from rfl, pw_zero]; rfl⟩ (fun done d rest ρ K e p k2 => ?_) (fun ρ p => ?_)
  · obtain ⟨x, rfl⟩ := p
    try walk_at "dd"
    refine ⟨n, m, _, rfl, hm, pw_mv hm _, hn, ?_⟩
    rw [pw_succ hm, show done.length + 1 = (done ++ [d]).length from by simp]
    exact k2 _ ⟨_, rfl⟩
  · obtain ⟨x, rfl⟩ := p
    rw [List.length_map, rgI_len]
    try walk_at "dd"
    exact h
end Dn
set_option Elab.async false
set_option linter.all false
set_option maxRecDepth 100000
set_option autoImplicit false
set_option maxHeartbeats 4000000
namespace Dn.T.K54
open PySem L2 Evl PySem.Spec PyProof.Rows
def leadD (d : Int → Int → Int) (ws : List Int) : Int := ws.foldl (fun h x => d x h) 0
def waysL (n : Nat) (d : Int → Int → Int) (W : List (List Int)) : Bool := decide (W.length = n) && (W.all fun w => decide (w.length ≤ 200)) && decide (W.map (leadD d) = rgI n)
def partsL (n : Nat) (f : F2) (a b : List Int) : Bool := decide (a ≠ []) && decide (b ≠ []) && decide ((a ++ b).Perm (rgI n)) && closed f a && closed f b
def S__law_some (ms ds : List D) (Q : D → List D → Prop) : Prop := ∃ d xs, ds = [d] ∧ seqD d = some xs ∧ xs.length ≤ 1000 ∧ Dc ms ∧ ∀ ys ms', ys.Sublist xs → Dc ms' → Q (.list ys) ms'
def S__law_dots_left (ds : List D) (Q : D → Prop) : Prop := ∃ n d, ds = [tL (tab n d)] ∧ Cs n d ∧ n ≤ 24 ∧ Q (tL (tab n (sgm n d)))
def S__law_orbit_lots (ds : List D) (Q : D → Prop) : Prop := ∃ n d, ds = [tL (tab n d), .int n] ∧ Rg n d ∧ n ≤ 8 ∧ ∀ C : List (List Int), (∀ r, r ∈ C → ∀ x, x ∈ r → In n x) → C.length ≤ 8 → Q (tL C)
def S__law_way_drawn (ms ds : List D) (Q : D → List D → Prop) : Prop := ∃ (n : Nat) (d : Int → Int → Int) (g : Int), ds = [tL (tab n d), .int g, .int n] ∧ Rg n d ∧ 1 ≤ n ∧ n ≤ 8 ∧ Dc ms ∧ ∀ ws ms', (∀ x, x ∈ ws → In n x) → ws.length ≤ 180 → Dc ms' → Q (tI ws) ms'
def S__law_are_ways (ds : List D) (Q : D → Prop) : Prop := ∃ n d W, ds = [tL (tab n d), .int n, .tuple (W.map tI)] ∧ Rg n d ∧ 1 ≤ n ∧ n ≤ 8 ∧ (∀ w, w ∈ W → (∀ x, x ∈ w → In n x) ∧ w.length ≤ 300) ∧ W.length ≤ 30 ∧ Q (.bool (waysL n d W))
def S__law_are_parts (ds : List D) (Q : D → Prop) : Prop := ∃ n f a b, ds = [tRP (tabP n f), tI a, tI b] ∧ RgP n f ∧ n ≤ 8 ∧ (∀ x, x ∈ a → In n x) ∧ (∀ x, x ∈ b → In n x) ∧ a.length ≤ 30 ∧ b.length ≤ 30 ∧ Q (.bool (partsL n f a b))
def S__law_right (ms ds : List D) (Q : D → List D → Prop) : Prop := ds = [] ∧ Dc ms ∧ ∀ ms', Q (.bool true) ms'
def S_law (ds : List D) (Q : D → Prop) : Prop := ∃ s, ds = [scr s] ∧ s.length ≤ 63 ∧ Q (.bool true)
end Dn.T.K54
set_option Elab.async false
set_option linter.all false
set_option maxRecDepth 100000
set_option autoImplicit false
set_option maxHeartbeats 4000000
namespace Dn.T.K54
open PySem L2 Evl PySem.Spec PyProof.Rows
abbrev N__law_right : List Str := ["_law_dice_here", "_law_dots", "_law_size", "_law_rows", "_law_left", "_law_table", "_law_parts", "_law_turn", "_law_some_here", "_law_one", "_law_other", "_law_ways", "_law_long", "_law_odd", "_law_letter", "_law_part", "_law_goal", "_law_value"]
abbrev P__law_right : List Str := ["_law_dice_here"]
def g__law_right : DS := sSeq (sSet 1 (xIm (dCallM 0 3 S__law_quiet_dots (aCons (dC (.int 1)) (aCons (dBin dAdd (dC (.int 1)) (dCallM 0 2 S__law_roll (aCons (dC (.int 6)) (aNil)))) (aNil)))))) (sSeq (sAsg (dTup (aCons (dCall dLen (aCons (dVar 1) (aNil))) (aCons (dCallF 1 S__law_rows_of_dots (aCons (dVar 1) (aNil))) (aCons (dCallF 1 S__law_dots_left (aCons (dVar 1) (aNil))) (aNil))))) (gTp 3 (gsCons (gNm 2) (gsCons (gNm 3) (gsCons (gNm 4) (gsNil)))))) (sSeq (sPar 5 6 (xIm (dCM 2 "Passing" "of_dots" S_Passing__of_dots (aCons (dCall dTupOf (aCons (dVar 1) (aNil))) (aNil)))) (xIm (dCallF 2 S__law_orbit_lots (aCons (dVar 4) (aCons (dVar 2) (aNil)))))) (sSeq (sFor (iR1 (dC (.int 6))) (gNm 7) (sSeq (sSet 8 (xIm (dCallM 0 2 S__law_some (aCons (dIfE (dTst (dBin dEq (dCallM 0 2 S__law_roll (aCons (dC (.int 2)) (aNil))) (dC (.int 0)))) (dVar 6) (dOfL (lLc (iR1 (dVar 2)) (gNm 14) (dYes) (dTup (aCons (dVar 14) (aNil))) [14]))) (aNil))))) (sSeq (sSet 9 (xIm (dCall dTupOf (aCons (dOfL (lSort (dOfL (lLc (iR1 (dVar 2)) (gNm 14) (dTst (dCall dAny (aCons (dOfL (lLc (iSq (dVar 8)) (gNm 15) (dYes) (dBin (dIn false) (dVar 14) (dVar 15)) [15])) (aNil)))) (dVar 14) [14])))) (aNil))))) (sSeq (sSet 10 (xIm (dCall dTupOf (aCons (dOfL (lLc (iR1 (dVar 2)) (gNm 14) (dTst (dBin (dIn true) (dVar 14) (dVar 9))) (dVar 14) [14])) (aNil))))) (sSeq (sSet 10 (xIm (dIfE (dTst (dBin dGt (dCallM 0 2 S__law_roll (aCons (dC (.int 4)) (aNil))) (dC (.int 0)))) (dVar 10) (dCall dTupOf (aCons (dCallM 0 2 S__law_some (aCons (dOfL (lRg (rg1 (dVar 2)))) (aNil))) (aNil)))))) (sSeq (sIf (dTst (dBin dNe (dCallF 2 S_is_falls_paper (aCons (dVar 5) (aCons (dTup (aCons (dC (.str "parts")) (aCons (dVar 9) (aCons (dVar 10) (aNil))))) (aNil)))) (dCallF 3 S__law_are_parts (aCons (dVar 3) (aCons (dVar 9) (aCons (dVar 10) (aNil))))))) (sRet (dC (.bool false))) (sNx)) (sSeq (sIf (dTOr (dTst (dCallF 2 S_is_falls_paper (aCons (dVar 5) (aCons (dTup (aCons (dC (.str "parts")) (aCons (dOfL (lOf (dVar 9))) (aCons (dVar 10) (aNil))))) (aNil))))) (dTst (dCallF 2 S_is_falls_paper (aCons (dVar 5) (aCons (dTup (aCons (dC (.str "parts")) (aCons (dBin dAdd (dVar 9) (dTup (aCons (dVar 2) (aNil)))) (aCons (dVar 10) (aNil))))) (aNil)))))) (sRet (dC (.bool false))) (sNx)) (sSeq (sSet 11 (xIm (dCall dTupOf (aCons (dOfL (lLc (iR1 (dVar 2)) (gNm 16) (dYes) (dCallM 0 4 S__law_way_drawn (aCons (dVar 4) (aCons (dVar 16) (aCons (dVar 2) (aNil))))) [16])) (aNil))))) (sSeq (sIf (dTst (dBin dNe (dCallF 2 S_is_falls_paper (aCons (dVar 5) (aCons (dTup (aCons (dC (.str "ways")) (aCons (dVar 11) (aNil)))) (aNil)))) (dCallF 3 S__law_are_ways (aCons (dVar 4) (aCons (dVar 2) (aCons (dVar 11) (aNil))))))) (sRet (dC (.bool false))) (sNx)) (sIf (dTOr (dTst (dCallF 2 S_is_falls_paper (aCons (dVar 5) (aCons (dTup (aCons (dC (.str "ways")) (aCons (dBin dAdd (dVar 11) (dTup (aCons (dTup (aNil)) (aNil)))) (aNil)))) (aNil))))) (dTst (dCallF 2 S_is_falls_paper (aCons (dVar 5) (aCons (dTup (aCons (dC (.str "ways")) (aCons (dSl (dVar 11) (oNone) (oSome (dNeg (dC (.int 1))))) (aNil)))) (aNil)))))) (sRet (dC (.bool false))) (sNx))))))))))) (sSeq (sSet 12 (xIm (dBin dRepU (dTup (aCons (dC (.int 0)) (aNil))) (dC (.int 201))))) (sSeq (sSet 13 (xIm (dOfL (lLst (aCons (dC .none) (aCons (dTup (aNil)) (aCons (dC (.str "ways")) (aCons (dTup (aCons (dC (.str "ways")) (aNil))) (aCons (dTup (aCons (dC (.str "parts")) (aCons (dTup (aNil)) (aNil)))) (aCons (dTup (aCons (dC (.str "ways")) (aCons (dC .none) (aNil)))) (aCons (dTup (aCons (dC (.str "ways")) (aCons (dOfL (lRep (dOfL (lLst (aCons (dTup (aNil)) (aNil)))) (dVar 2))) (aNil)))) (aCons (dTup (aCons (dC (.str "ways")) (aCons (dBin dRepU (dTup (aCons (dTup (aCons (dVar 2) (aNil))) (aNil))) (dVar 2)) (aNil)))) (aNil))))))))))))) (sSeq (sSet 13 (xIm (dBin dAdd (dVar 13) (dOfL (lLst (aCons (dTup (aCons (dC (.str "ways")) (aCons (dBin dRepU (dTup (aCons (dVar 12) (aNil))) (dVar 2)) (aNil)))) (aCons (dTup (aCons (dC (.str "ways")) (aCons (dBin dRepU (dTup (aCons (dC .none) (aNil))) (dVar 2)) (aNil)))) (aCons (dTup (aCons (dC (.str "parts")) (aCons (dC .none) (aCons (dTup (aNil)) (aNil))))) (aCons (dTup (aCons (dC (.str "way")) (aCons (dTup (aCons (dTup (aNil)) (aNil))) (aNil)))) (aCons (dOfL (lLst (aCons (dC (.str "ways")) (aCons (dTup (aCons (dTup (aNil)) (aNil))) (aNil))))) (aCons (dC (.int 5)) (aNil)))))))))))) (sSeq (sSet 13 (xIm (dBin dAdd (dVar 13) (dOfL (lLst (aCons (dTup (aCons (dC (.str "parts")) (aCons (dTup (aCons (dC (.int 0)) (aCons (dC (.int 0)) (aNil)))) (aCons (dTup (aCons (dC (.int 0)) (aNil))) (aNil))))) (aCons (dTup (aCons (dC (.str "parts")) (aCons (dTup (aCons (dC (.bool true)) (aNil))) (aCons (dTup (aCons (dC (.int 0)) (aNil))) (aNil))))) (aCons (dTup (aCons (dC (.str "ways")) (aCons (dBin dRepU (dTup (aCons (dTup (aCons (dC (.bool false)) (aNil))) (aNil))) (dVar 2)) (aNil)))) (aCons (dTup (aCons (dC (.str "ways")) (aCons (dBin dRepU (dTup (aCons (dTup (aNil)) (aNil))) (dVar 2)) (aCons (dC (.int 0)) (aNil))))) (aNil)))))))))) (sRet (dNot (dCall dAny (aCons (dOfL (lLc (iSq (dVar 13)) (gNm 17) (dYes) (dCallF 2 S_is_falls_paper (aCons (dVar 5) (aCons (dVar 17) (aNil)))) [17])) (aNil))))))))))))
abbrev N_law : List Str := ["_law_script", "_law_spot", "_law_switch", "_law_told", "_law_many"]
abbrev P_law : List Str := ["_law_script"]
def g_law : DS := sSeq (sFor (iR1 (dCall dMax2 (aCons (dC (.int 1)) (aCons (dCall dMin2 (aCons (dC (.int 5)) (aCons (dCall dLen (aCons (dVar 0) (aNil))) (aNil)))) (aNil))))) (gNm 1) (sIf (dTNot (dTst (dCallML 1 S__law_right (lCall 2 S__law_dice (aCons (dVar 0) (aCons (dVar 1) (aNil)))) (aNil)))) (sRet (dC (.bool false))) (sNx))) (sSeq (sSet 2 (xIm (dCM 2 "Passing" "of_left" S_Passing__of_left (aCons (dTup (aCons (dTup (aCons (dC (.int 1)) (aCons (dC (.int 0)) (aNil)))) (aCons (dTup (aCons (dC (.int 1)) (aCons (dC (.int 0)) (aNil)))) (aNil)))) (aNil))))) (sSeq (sSet 3 (xIm (dOfL (lLc (iSq (dTup (aCons (dC (.int 1)) (aCons (dC (.int 2)) (aCons (dC (.int 199)) (aCons (dC (.int 200)) (aCons (dC (.int 201)) (aNil)))))))) (gNm 4) (dYes) (dCallF 2 S_is_falls_paper (aCons (dVar 2) (aCons (dTup (aCons (dC (.str "ways")) (aCons (dTup (aCons (dTup (aNil)) (aCons (dBin dRepU (dTup (aCons (dC (.int 0)) (aNil))) (dVar 4)) (aNil)))) (aNil)))) (aNil)))) [4])))) (sRet (dAnd (dBin dEq (dVar 3) (dOfL (lLst (aCons (dC (.bool true)) (aCons (dC (.bool false)) (aCons (dC (.bool true)) (aCons (dC (.bool false)) (aCons (dC (.bool false)) (aNil))))))))) (dCallF 2 S_is_falls_paper (aCons (dCM 2 "Passing" "unmoved" S_Passing__unmoved (aCons (dC (.int 2)) (aNil))) (aCons (dTup (aCons (dC (.str "parts")) (aCons (dTup (aCons (dC (.int 1)) (aNil))) (aCons (dTup (aCons (dC (.int 0)) (aNil))) (aNil))))) (aNil))))))))
end Dn.T.K54
set_option Elab.async false
set_option linter.all false
set_option maxRecDepth 100000
set_option autoImplicit false
set_option maxHeartbeats 4000000
namespace Dn.T.K54
open PySem L2 Evl PySem.Spec PyProof.Rows
theorem ixL {n : Nat} {d : Int → Int → Int} {x y : Int} (hx : In n x) (hy : In n y) {Q : D → Prop} (k : Q (.int (d x y))) : dIx (tL (tab n d)) (.int x) fun r => dIx r (.int y) Q := ixT hx (ixY hy k)
structure Lt (n : Nat) (a : Int) (O W : List Int) : Prop where
  nd : O.Nodup
  one : a ∈ O
  g : ∀ f, f ∈ O → In n f
  sub : ∀ f, f ∈ W → f ∈ O
  wl : W.length ≤ O.length
theorem Lt.few {n : Nat} {a : Int} {O W : List Int} (h : Lt n a O W) : O.length ≤ n := by
  have := nodup_len h.nd (l' := rgI n) fun x hx => In.mem.2 (h.g x hx)
  rwa [rgI_len] at this
end Dn.T.K54
set_option Elab.async false
set_option linter.all false
set_option maxRecDepth 100000
set_option autoImplicit false
set_option maxHeartbeats 4000000
namespace Dn
open PySem L2 Evl PySem.Spec PyProof.Rows SrL
def gen (mk : List (List Int)) (n : Nat) (g : List Int) : Prop := ∃ w : List (List Int), (∀ m, m ∈ w → m ∈ mk) ∧ g = w.foldr jn (rgI n)
theorem mv_id (n : Nat) : Mv n (rgI n) := List.Perm.refl _
theorem im_id {n : Nat} {x : Int} (h0 : 0 ≤ x) (h1 : x < n) : im (rgI n) x = x := by
  have := im_map (n := n) (f := id) h0 h1
  simpa using this
theorem id_jn {n : Nat} {a : List Int} (ha : Mv n a) : jn (rgI n) a = a := by
  rw [jn_map ha]
  refine Eq.trans (map_ext fun x h0 h1 => ?_) (mv_self ha).symm
  have := im_in ha h0 h1
  exact im_id this.1 this.2
section
variable {n : Nat} {mk : List (List Int)} (hk : Mk n mk)
include hk
theorem word_mv : ∀ w : List (List Int), (∀ m, m ∈ w → m ∈ mk) → Mv n (w.foldr jn (rgI n))
  | [], _ => mv_id n
  | m :: w, h => jn_mv (hk.move m (h m (by simp))) (word_mv w fun x hx => h x (by simp [hx]))
theorem gen_mv {g : List Int} (h : gen mk n g) : Mv n g := by
  obtain ⟨w, hw, rfl⟩ := h
  exact word_mv hk w hw
omit hk in
theorem gen_id : gen mk n (rgI n) := ⟨[], by simp, rfl⟩
omit hk in
theorem gen_left {g m : List Int} (h : gen mk n g) (hm : m ∈ mk) : gen mk n (jn m g) := by
  obtain ⟨w, hw, rfl⟩ := h
  exact ⟨m :: w, fun x hx => by rcases List.mem_cons.mp hx with rfl | hx; exact hm; exact hw x hx, rfl⟩
theorem gen_mul {g h : List Int} (hg : gen mk n g) (hh : gen mk n h) : gen mk n (jn g h) := by
  obtain ⟨w, hw, rfl⟩ := hg
  induction w with
  | nil => simpa [id_jn (gen_mv hk hh)] using hh
  | cons m w ih =>
    have := ih fun x hx => hw x (by simp [hx])
    rw [List.foldr_cons, jn_assoc (hk.move m (hw m (by simp))) (word_mv hk w fun x hx => hw x (by simp [hx])) (gen_mv hk hh)]
    exact gen_left this (hw m (by simp))
structure Grp (mk : List (List Int)) (n : Nat) (G : List (List Int)) : Prop where
  nd : G.Nodup
  mem : ∀ g, g ∈ G ↔ gen mk n g
variable {G G' : List (List Int)}
theorem Grp.mv (h : Grp mk n G) {g : List Int} (hg : g ∈ G) : Mv n g := gen_mv hk ((h.mem g).1 hg)
theorem jn_cancel {g a b : List Int} (hg : Mv n g) (ha : Mv n a) (hb : Mv n b) (e : jn g a = jn g b) : a = b := by
  rw [mv_self ha, mv_self hb]
  refine map_ext fun x h0 h1 => ?_
  have e1 := congrArg (fun l => im l x) e
  rw [jn_im ha h0 h1, jn_im hb h0 h1] at e1
  have a1 := im_in ha h0 h1
  have b1 := im_in hb h0 h1
  exact im_inj hg a1.1 a1.2 b1.1 b1.2 e1
omit hk in
theorem nodup_len {α : Type} [DecidableEq α] : ∀ {l l' : List α}, l.Nodup → (∀ x, x ∈ l → x ∈ l') → l.length ≤ l'.length
  | [], _, _, _ => Nat.zero_le _
  | x :: l, l', nd, hs => by
    have hx := hs x (by simp)
    have nd2 := List.nodup_cons.mp nd
    have := nodup_len (l := l) (l' := l'.erase x) nd2.2 fun y hy => (List.mem_erase_of_ne (fun e => nd2.1 (by rw [← e]; exact hy))).2 (hs y (by simp [hy]))
    rw [List.length_erase_of_mem hx] at this
    have hp := List.length_pos_of_mem hx
    rw [List.length_cons]
    omega
omit hk in
theorem nodup_all {α : Type} [DecidableEq α] {l l' : List α} (nd : l.Nodup) (hs : ∀ x, x ∈ l → x ∈ l') (hl : l'.length ≤ l.length) : ∀ x, x ∈ l' → x ∈ l := by
  intro x hx
  refine Classical.byContradiction fun hn => ?_
  have := nodup_len (l := x :: l) (l' := l') (List.nodup_cons.mpr ⟨hn, nd⟩) fun y hy => by rcases List.mem_cons.mp hy with rfl | hy; exact hx; exact hs y hy
  simp at this
  omega
omit hk in
theorem nodup_map_on {α β : Type} {f : α → β} : ∀ {l : List α}, l.Nodup → (∀ a, a ∈ l → ∀ b, b ∈ l → f a = f b → a = b) → (l.map f).Nodup
  | [], _, _ => List.nodup_nil
  | x :: l, nd, hf => by
    have nd2 := List.nodup_cons.mp nd
    rw [List.map_cons, List.nodup_cons]
    refine ⟨fun h => ?_, nodup_map_on nd2.2 fun a ha b hb => hf a (by simp [ha]) b (by simp [hb])⟩
    obtain ⟨y, hy, e⟩ := List.mem_map.mp h
    have := hf y (by simp [hy]) x (by simp) e
    exact nd2.1 (this ▸ hy)
theorem Grp.mulNd (h : Grp mk n G) {g : List Int} (mg : Mv n g) {F : List (List Int)} (nd : F.Nodup) (hF : ∀ f, f ∈ F → f ∈ G) : (F.map (jn g)).Nodup :=
  nodup_map_on nd fun a ha b hb e => jn_cancel hk mg (h.mv hk (hF a ha)) (h.mv hk (hF b hb)) e
theorem Grp.inv (h : Grp mk n G) {g : List Int} (hg : g ∈ G) : inv g ∈ G := by
  have mg := h.mv hk hg
  have ge := (h.mem g).1 hg
  have hid : rgI n ∈ G := (h.mem _).2 gen_id
  have := nodup_all (h.mulNd hk mg h.nd fun f hf => hf) (l' := G) (fun x hx => by
    obtain ⟨a, ha, rfl⟩ := List.mem_map.mp hx
    exact (h.mem _).2 (gen_mul hk ge ((h.mem a).1 ha))) (by rw [List.length_map]; exact Nat.le_refl _) _ hid
  obtain ⟨a, ha, e⟩ := List.mem_map.mp this
  have ma := h.mv hk ha
  have : a = Dn.inv g := jn_cancel hk mg ma (inv_mv mg) (by rw [e, jn_inv mg])
  rw [← this]
  exact ha
def kyB (mk : List (List Int)) (n : Nat) (x y : Int) : Bool := (lk (waysOf mk n x) y).isSome
def reach (mk : List (List Int)) (n : Nat) (x : Int) : List Int := (rgI n).filter (kyB mk n x)
omit hk in
theorem mem_reach {x y : Int} : y ∈ reach mk n x ↔ (0 ≤ y ∧ y < n) ∧ ky mk n x y := by
  unfold reach
  rw [List.mem_filter, mem_rgI]
  rfl
omit hk in
theorem filter_split {α : Type} (p : α → Bool) : ∀ l : List α, (l.filter p).length + (l.filter fun x => !p x).length = l.length
  | [] => rfl
  | x :: l => by
    have := filter_split p l
    cases h : p x
    · rw [List.filter_cons_of_neg (by simp [h]), List.filter_cons_of_pos (by simp [h])]
      simp only [List.length_cons]
      omega
    · rw [List.filter_cons_of_pos h, List.filter_cons_of_neg (by simp [h])]
      simp only [List.length_cons]
      omega
omit hk in
theorem count_parts {α : Type} (φ : α → Int) : ∀ (G : List α) (O : List Int), O.Nodup → (∀ g, g ∈ G → φ g ∈ O) → (O.map fun z => (G.filter fun g => decide (φ g = z)).length).sum = G.length := by
  intro G O nd hO
  induction O generalizing G with
  | nil =>
    cases G with
    | nil => rfl
    | cons g G => exact absurd (hO g (by simp)) (by simp)
  | cons z O ih =>
    have nd2 := List.nodup_cons.mp nd
    rw [List.map_cons, List.sum_cons]
    have h1 := ih (G.filter fun g => !decide (φ g = z)) nd2.2 fun g hg => by
      obtain ⟨h1, h2⟩ := List.mem_filter.mp hg
      rcases List.mem_cons.mp (hO g h1) with e | e
      · simp [e] at h2
      · exact e
    have h2 : (O.map fun y => ((G.filter fun g => !decide (φ g = z)).filter fun g => decide (φ g = y)).length) = O.map fun y => (G.filter fun g => decide (φ g = y)).length := by
      refine List.map_congr_left fun y hy => ?_
      rw [List.filter_filter]
      congr 1
      refine List.filter_congr fun g _ => ?_
      have yz : y ≠ z := fun e => nd2.1 (e ▸ hy)
      by_cases e : φ g = y
      · simp [e, yz]
      · simp [e]
    rw [h2] at h1
    rw [h1]
    exact filter_split (fun g => decide (φ g = z)) G
end
end Dn
set_option Elab.async false
set_option linter.all false
set_option maxRecDepth 100000
set_option autoImplicit false
set_option maxHeartbeats 4000000
namespace Dn
open PySem L2 Evl PySem.Spec PyProof.Rows SrL
def ff : Nat → Nat → Nat
  | 0, _ => 1
  | k + 1, s => s * ff k (s - 1)
theorem few : ∀ (k : Nat) (S : List Int) (G : List (List Int)), S.Nodup → G.Nodup → (∀ g, g ∈ G → g.length = k ∧ g.Nodup ∧ ∀ x, x ∈ g → x ∈ S) → G.length ≤ ff k S.length
  | 0, S, G, _, nd, h => by
    have : ∀ g, g ∈ G → g = [] := fun g hg => List.eq_nil_of_length_eq_zero (h g hg).1
    have := nodup_len (l := G) (l' := [[]]) nd fun g hg => by rw [this g hg]; simp
    simpa [ff] using this
  | k + 1, S, G, sd, nd, h => by
    have hs := count_parts (fun g : List Int => g.headD 0) G S sd fun g hg => by
      obtain ⟨h1, _, h3⟩ := h g hg
      cases g with
      | nil => simp at h1
      | cons x g => exact h3 x (by simp)
    have each : ∀ z, z ∈ S → (G.filter fun g => decide (g.headD 0 = z)).length ≤ ff k (S.length - 1) := fun z hz => by
      have e := few k (S.erase z) ((G.filter fun g => decide (g.headD 0 = z)).map List.tail) (sd.erase z) (nodup_map_on (nd.filter _) fun a ha b hb e => by
        obtain ⟨a1, a2⟩ := List.mem_filter.mp ha
        obtain ⟨b1, b2⟩ := List.mem_filter.mp hb
        have la := (h a a1).1
        have lb := (h b b1).1
        cases a with
        | nil => simp at la
        | cons x a => cases b with
          | nil => simp at lb
          | cons y b =>
            simp at a2 b2 e
            rw [a2, b2, e]) fun g hg => by
        obtain ⟨a, ha, rfl⟩ := List.mem_map.mp hg
        obtain ⟨a1, a2⟩ := List.mem_filter.mp ha
        obtain ⟨h1, h2, h3⟩ := h a a1
        cases a with
        | nil => simp at h1
        | cons x a =>
          simp at a2 h1 h2
          subst a2
          refine ⟨h1, h2.2, fun y hy => (List.mem_erase_of_ne (fun e => ?_)).2 (h3 y (by simp at hy ⊢; exact .inr hy))⟩
          subst e
          exact h2.1 hy
      rw [List.length_map, List.length_erase_of_mem hz] at e
      exact e
    rw [← hs]
    have : ∀ O : List Int, (∀ z, z ∈ O → z ∈ S) → (O.map fun z => (G.filter fun g => decide (g.headD 0 = z)).length).sum ≤ O.length * ff k (S.length - 1) := by
      intro O
      induction O with
      | nil => intro _; simp
      | cons z O ih =>
        intro hO
        have a := ih fun y hy => hO y (by simp [hy])
        have b := each z (hO z (by simp))
        rw [List.map_cons, List.sum_cons, List.length_cons, Nat.succ_mul]
        omega
    exact this S fun _ h => h
def orbF (mk : List (List Int)) (n : Nat) : List (List Int) := (rgI n).foldl (fun acc x => if (acc.any fun l => l.contains x) = true then acc else acc ++ [reach mk n x]) []
section
variable {n : Nat} {mk : List (List Int)} (hk : Mk n mk)
include hk
theorem grp_few {G : List (List Int)} (h : Grp mk n G) : G.length ≤ ff n n := by
  have := few n (rgI n) G (nodup_rgI n) h.nd fun g hg => by
    have mg := h.mv hk hg
    exact ⟨mg.len, mg.nodup, fun x hx => mg.mem_iff.1 hx⟩
  rwa [rgI_len] at this
theorem list_few {G : List (List Int)} (nd : G.Nodup) (h : ∀ g, g ∈ G → Mv n g) : G.length ≤ ff n n := by
  have := few n (rgI n) G (nodup_rgI n) nd fun g hg => ⟨(h g hg).len, (h g hg).nodup, fun x hx => (h g hg).mem_iff.1 hx⟩
  rwa [rgI_len] at this
theorem reach_eq {x y : Int} (x0 : 0 ≤ x) (x1 : x < n) (h : y ∈ reach mk n x) : reach mk n y = reach mk n x := by
  obtain ⟨⟨y0, y1⟩, hy⟩ := mem_reach.1 h
  unfold reach
  refine List.filter_congr fun z hz => ?_
  have : kyB mk n y z = true ↔ kyB mk n x z = true := ⟨fun w => ky_trans hk x0 x1 hy w, fun w => ky_trans hk y0 y1 (ky_symm hk x0 x1 hy) w⟩
  cases a : kyB mk n y z <;> cases b : kyB mk n x z <;> simp [a, b] at this ⊢
structure Orb (mk : List (List Int)) (n : Nat) (done : List Int) (acc : List (List Int)) : Prop where
  each : ∀ l, l ∈ acc → ∃ x : Int, (0 ≤ x ∧ x < n) ∧ l = reach mk n x
  nd : acc.flatten.Nodup
  all : ∀ x, x ∈ done → ∃ l, l ∈ acc ∧ x ∈ l
omit hk in
theorem any_in {acc : List (List Int)} {x : Int} : (acc.any fun l => l.contains x) = true ↔ ∃ l, l ∈ acc ∧ x ∈ l := by
  simp [List.any_eq_true]
theorem Orb.step {done : List Int} {acc : List (List Int)} (h : Orb mk n done acc) {x : Int} (hx : 0 ≤ x ∧ x < n) : Orb mk n (done ++ [x]) (if (acc.any fun l => l.contains x) = true then acc else acc ++ [reach mk n x]) := by
  by_cases e : (acc.any fun l => l.contains x) = true
  · rw [if_pos e]
    refine ⟨h.each, h.nd, fun y hy => ?_⟩
    rcases List.mem_append.mp hy with hy | hy
    · exact h.all y hy
    · rw [List.mem_singleton.mp hy]; exact any_in.1 e
  · rw [if_neg e]
    have no : ∀ l, l ∈ acc → x ∉ l := fun l hl hxl => e (any_in.2 ⟨l, hl, hxl⟩)
    refine ⟨fun l hl => ?_, ?_, fun y hy => ?_⟩
    · rcases List.mem_append.mp hl with hl | hl
      · exact h.each l hl
      · rw [List.mem_singleton.mp hl]; exact ⟨x, hx, rfl⟩
    · rw [List.flatten_append, List.nodup_append]
      refine ⟨h.nd, by rw [List.flatten_cons, List.flatten_nil, List.append_nil]; exact (nodup_rgI n).filter _, fun a ha b hb => ?_⟩
      rintro rfl
      obtain ⟨l, hl, hal⟩ := List.mem_flatten.mp ha
      obtain ⟨z, hz, rfl⟩ := h.each l hl
      have hb : a ∈ reach mk n x := by simpa using hb
      have e1 := reach_eq hk hz.1 hz.2 hal
      have e2 := reach_eq hk hx.1 hx.2 hb
      have : x ∈ reach mk n z := by rw [← e1, e2]; exact mem_reach.2 ⟨hx, ky_self hk hx.1 hx.2⟩
      exact no _ hl this
    · rcases List.mem_append.mp hy with hy | hy
      · obtain ⟨l, h1, h2⟩ := h.all y hy
        exact ⟨l, by simp [h1], h2⟩
      · rw [List.mem_singleton.mp hy]
        exact ⟨_, by simp, mem_reach.2 ⟨hx, ky_self hk hx.1 hx.2⟩⟩
theorem orb_ok : Orb mk n (rgI n) (orbF mk n) := by
  have key : ∀ (rest done : List Int) (acc : List (List Int)), Orb mk n done acc → (∀ x, x ∈ rest → 0 ≤ x ∧ x < n) → Orb mk n (done ++ rest) (rest.foldl (fun acc x => if (acc.any fun l => l.contains x) = true then acc else acc ++ [reach mk n x]) acc) := by
    intro rest
    induction rest with
    | nil => intro done acc h _; simpa using h
    | cons x rest ih =>
      intro done acc h hr
      have := ih (done ++ [x]) _ (h.step hk (hr x (by simp))) fun y hy => hr y (by simp [hy])
      simpa using this
  have := key (rgI n) [] [] ⟨by simp, by simp, by simp⟩ fun x hx => mem_rgI.mp hx
  simpa [orbF] using this
theorem orb_sum : ((orbF mk n).map List.length).sum = n := by
  have h := orb_ok hk
  rw [← List.length_flatten]
  have p : (orbF mk n).flatten.Perm (rgI n) := perm_of_nodup h.nd (nodup_rgI n) fun x => by
    constructor
    · intro hx
      obtain ⟨l, hl, hxl⟩ := List.mem_flatten.mp hx
      obtain ⟨z, hz, rfl⟩ := h.each l hl
      exact mem_rgI.mpr (mem_reach.1 hxl).1
    · intro hx
      obtain ⟨l, hl, hxl⟩ := h.all x hx
      exact List.mem_flatten.mpr ⟨l, hl, hxl⟩
  rw [p.length_eq, rgI_len]
theorem orb_few : (orbF mk n).length ≤ n := by
  have h := orb_ok hk
  have hs := orb_sum hk
  have : ∀ l : List (List Int), (∀ x, x ∈ l → 1 ≤ x.length) → l.length ≤ (l.map List.length).sum := by
    intro l
    induction l with
    | nil => intro _; simp
    | cons x l ih =>
      intro hh
      have := ih fun y hy => hh y (by simp [hy])
      have := hh x (by simp)
      simp
      omega
  refine Nat.le_trans (this (orbF mk n) fun l hl => ?_) (Nat.le_of_eq hs)
  obtain ⟨z, hz, rfl⟩ := h.each l hl
  exact List.length_pos_of_mem (mem_reach.2 ⟨hz, ky_self hk hz.1 hz.2⟩)
end
def c6 : List Int := [1, 2, 3, 4, 5, 0]
def s6 : List Int := [1, 0, 2, 3, 4, 5]
def wp : Nat → Nat → List Int
  | 0, _ => rgI 6
  | f + 1, k => if k ≤ 1 then rgI 6 else jn (if k % 2 = 1 then s6 else c6) (wp f (k / 2))
theorem wp_gen : ∀ (f k : Nat), gen [c6, s6] 6 (wp f k)
  | 0, _ => gen_id
  | f + 1, k => by
    unfold wp
    split
    · exact gen_id
    · split
      · exact gen_left (wp_gen f _) (by simp)
      · exact gen_left (wp_gen f _) (by simp)
def up : List (List Int) → Bool
  | a :: b :: l => lx a b && up (b :: l)
  | _ => true
theorem up_nd : ∀ {l : List (List Int)}, up l = true → l.Pairwise (fun a b => lx a b = true)
  | [], _ => .nil
  | [_], _ => List.pairwise_singleton _ _
  | a :: b :: l, h => by
    simp only [up, Bool.and_eq_true] at h
    have ih := up_nd h.2
    refine List.pairwise_cons.mpr ⟨fun c hc => ?_, ih⟩
    rcases List.mem_cons.mp hc with rfl | hc
    · exact h.1
    · have bc := (List.pairwise_cons.mp ih).1 c hc
      have O : SrtO.Swo lx := ⟨fun _ _ h => lx_asym h, fun _ _ _ h1 h2 => lx_tr h1 h2⟩
      exact O.ltle h.1 (O.asym _ _ bc)
def codes : List Nat := [1, 144, 136, 296, 17056, 34120, 132, 292, 276, 596, 34116, 1314, 16720, 33832, 33444, 1298, 5386, 2642, 8352, 16712, 16708, 33428, 10826, 70292, 130, 290, 274, 594, 34114, 68242, 266, 586, 554, 5, 1185, 545, 33442, 5257, 1169, 529, 2385, 1105, 16706, 10569, 33418, 66858, 5193, 133777, 424, 33316, 33300, 1290, 20773, 2634, 850, 66634, 1161, 521, 2377, 1097, 4741, 2181, 2345, 1065, 21, 2217, 9541, 4421, 21029, 51346, 2117, 4677, 208, 17685, 420, 37028, 8469, 18709, 418, 10537, 842, 1697, 5161, 49802, 9509, 4389, 67914, 3401, 2085, 4645, 85, 8869, 8725, 18965, 4261, 9381, 96, 200, 196, 404, 17045, 34964, 194, 402, 394, 810, 34962, 1681, 16964, 33940, 33930, 1673, 6789, 3369, 8341, 18581, 17557, 38037, 13605, 100682, 3, 289, 273, 593, 34090, 68241, 265, 585, 553, 1193, 68233, 2629, 33441, 67665, 66889, 2597, 10773, 5285, 16682, 33425, 33417, 66857, 21653, 140585, 261, 581, 549, 1189, 21652, 136485, 533, 1173, 288, 2, 592, 272, 66885, 2628, 584, 264, 1192, 552, 10772, 5284, 66837, 33440, 2596, 66888, 849, 21138, 66601, 2581, 10386, 5269, 1701, 133269, 580, 260, 1188, 548, 2370, 1090, 1172, 532, 10, 1108, 4770, 2210, 10514, 66884, 1058, 2338, 417, 8842, 841, 74057, 4234, 9354, 837, 5268, 1685, 848, 2580, 66600, 4754, 2194, 133268, 1700, 1042, 2322, 42, 4434, 4362, 9482, 2130, 4690, 170, 401, 393, 809, 8522, 18762, 389, 805, 789, 416, 69925, 840, 10322, 67881, 21074, 836, 3394, 1684, 4170, 9290, 8778, 19018, 6802, 135828, 340, 802, 786, 1618, 17044, 37524, 778, 1610, 1157, 13, 2373, 1093, 20644, 10517, 2341, 1061, 4773, 2213, 8340, 18580, 17556, 38036, 10389, 267557, 681, 1605, 1573, 3237, 34089, 75049, 1557, 3221, 578, 6, 1186, 546, 41289, 5258, 1170, 530, 2386, 1106, 16681, 10570, 35113, 66882, 5194, 133778, 21544, 10568, 2325, 1045, 4757, 2197, 43089, 21137, 1162, 522, 2378, 1098, 1184, 544, 2346, 1066, 4, 9, 2384, 1104, 4769, 2209, 528, 1057, 9540, 4420, 21028, 3397, 2116, 4676, 19081, 8841, 42057, 1698, 4233, 9353, 2376, 1096, 4753, 2193, 520, 1041, 20, 2216, 41, 4433, 1064, 2129, 84, 8868, 8724, 1669, 4260, 3365, 169, 17737, 17449, 834, 8521, 1682, 5160, 3349, 10321, 1674, 1696, 3370, 2084, 4644, 4169, 9289, 3400, 6801, 168, 17736, 17448, 3338, 8520, 6730, 338, 35474, 3209, 1361, 6473, 3145, 9493, 4373, 6441, 3113, 53, 4629, 4168, 8853, 8338, 18578, 4245, 9365, 337, 35473, 34897, 6677, 17041, 13461, 677, 70949, 1604, 680, 3236, 1572, 4746, 2186, 3220, 1556, 26, 2314, 8337, 4426, 16677, 37157, 2122, 4682, 33362, 21140, 6421, 2725, 10388, 6293, 66725, 42281, 3210, 1362, 6474, 3146, 2372, 1092, 4745, 2185, 12, 25, 4772, 2212, 9545, 4425, 1060, 2121, 4768, 2208, 9538, 4418, 1056, 2114, 9514, 4394, 19077, 8837, 2090, 4229, 4756, 2196, 9513, 4393, 1044, 2089, 8, 18, 17, 37, 2132, 4265, 40, 4432, 82, 8866, 2128, 4258, 81, 8865, 165, 17733, 4257, 8517, 8466, 18706, 16933, 37413, 3396, 6793, 1040, 2082, 2081, 4165, 4386, 8773, 80, 8864, 164, 17732, 4256, 8516, 162, 17730, 330, 673, 8514, 17034, 16932, 12581, 33866, 1353, 5445, 12837, 213, 4164, 4162, 8330, 8772, 17546, 161, 17706, 329, 35465, 8490, 17033, 325, 13460, 661, 336, 6676, 34069, 12946, 6290, 67733, 676, 2722, 6418, 106, 8329, 8325, 16661, 6226, 12882, 16674, 8852, 33354, 1349, 4244, 9364, 33349, 17705, 66709, 674, 8489, 18729, 6472, 2709, 12945, 1354, 1360, 2721, 52, 4628, 105, 9257, 3112, 6225, 9544, 4424, 19090, 8850, 2120, 4242, 19089, 8849, 38181, 17701, 4241, 8485, 12948, 6292, 25897, 12585, 2724, 5449, 24, 50, 49, 101, 4370, 8741, 16, 36, 34, 74, 4264, 8530, 33, 73, 69, 149, 8529, 17061, 4180, 8458, 8361, 16917, 17674, 35349, 2088, 4178, 4177, 8357, 8786, 17573, 32, 72, 68, 148, 8528, 17060, 66, 146, 138, 298, 17058, 657, 8360, 16916, 16722, 649, 2693, 1321, 4176, 8356, 8354, 16714, 5413, 35146, 65, 145, 137, 297, 17057, 34121, 133, 293, 277, 160, 34117, 328, 16721, 33833, 33445, 324, 1346, 660, 8353, 16713, 16709, 33429, 2706, 67732, 212, 16658, 16650, 645, 12452, 1317, 425, 33317, 33301, 322, 24905, 658, 13352, 1301, 26705, 650, 672, 1322, 5444, 12836, 10889, 25673, 1352, 2705, 104, 9256, 210, 18514, 5397, 12450, 209, 18513, 421, 33348, 2698, 24901, 16978, 37458, 33957, 66698, 1348, 2697, 2720, 5442, 5418, 10885, 2708, 5417, 48, 100, 98, 202, 8740, 17482, 97, 201, 197, 405, 17481, 34965, 8482, 16970, 16965, 33941, 35402, 70805, 5448, 10898, 10897, 21797, 25170, 50341]
theorem codes_up : up (codes.map (wp 20)) = true := by decide +kernel
theorem six {G : List (List Int)} (h : Grp [c6, s6] 6 G) (hk : Mk 6 [c6, s6]) : G.length = 720 := by
  refine Nat.le_antisymm (Nat.le_trans (grp_few hk h) (by decide)) ?_
  have nd : (codes.map (wp 20)).Nodup := (up_nd codes_up).imp fun {a b} h e => by
    subst e
    rw [lx_asym h] at h
    cases h
  have := nodup_len nd (l' := G) fun g hg => by
    obtain ⟨k, _, rfl⟩ := List.mem_map.mp hg
    exact (h.mem _).2 (wp_gen 20 k)
  rw [List.length_map] at this
  exact Nat.le_trans (by decide +kernel) this
end Dn
set_option Elab.async false
set_option linter.all false
set_option maxRecDepth 100000
set_option autoImplicit false
set_option maxHeartbeats 4000000
namespace Dn.K01
open PySem L2 Evl PySem.Spec PyProof.Rows SrL
def srt (G : List (List Int)) : Prop := G.Pairwise fun a b => lx b a = false
def S_closure (ds : List D) (Q : D → Prop) : Prop := ∃ (n : Nat) (mk : List (List Int)), ds = [.int n, tR mk] ∧ Mk n mk ∧ n ≤ 6 ∧ ∀ G, Grp mk n G → srt G → Q (tR G)
def S_orbits (ds : List D) (Q : D → Prop) : Prop := ∃ (n : Nat) (mk : List (List Int)), ds = [.int n, tR mk] ∧ Mk n mk ∧ Q (tR (orbF mk n))
def S__law_closed_moves (ds : List D) (Q : D → Prop) : Prop := ∃ (n : Nat) (mk : List (List Int)), ds = [.int n, tR mk] ∧ Mk n mk ∧ 1 ≤ n ∧ n ≤ 6 ∧ ∀ G, Grp mk n G → srt G → Q (.list (G.map tI))
def S__law_orbits (ds : List D) (Q : D → Prop) : Prop := ∃ (n : Nat) (mk : List (List Int)), ds = [.int n, tR mk] ∧ Mk n mk ∧ n ≤ 6 ∧ Q (tR (orbF mk n))
def S__law_makers (ms ds : List D) (Q : D → List D → Prop) : Prop := ∃ n : Nat, ds = [.int n] ∧ 1 ≤ n ∧ n ≤ 6 ∧ Dc ms ∧ ∀ mk ms', Mk n mk → mk.length ≤ 3 → Dc ms' → Q (tR mk) ms'
def S__law_right (ms ds : List D) (Q : D → List D → Prop) : Prop := ∃ n : Nat, ds = [.int n] ∧ 1 ≤ n ∧ n ≤ 6 ∧ Dc ms ∧ ∀ ms', Dc ms' → Q (.bool true) ms'
def S_law (ds : List D) (Q : D → Prop) : Prop := ∃ s, ds = [scr s] ∧ s.length ≤ 63 ∧ Q (.bool true)
end Dn.K01
set_option Elab.async false
set_option linter.all false
set_option maxRecDepth 100000
set_option autoImplicit false
set_option maxHeartbeats 4000000
namespace Dn.K01
open PySem L2 Evl PySem.Spec PyProof.Rows
abbrev N__law_right : List Str := ["_law_dice_here", "_law_size", "_law_makers_here", "_law_told", "_law_due", "_law_known", "_law_turn", "_law_one", "_law_other", "_law_lots", "_law_lot", "_law_move"]
abbrev P__law_right : List Str := ["_law_dice_here", "_law_size"]
def g__law_right : DS := sSeq (sSet 2 (xIm (dCallM 0 2 S__law_makers (aCons (dVar 1) (aNil))))) (sSeq (sPar 3 4 (xIm (dCallF 2 S_closure (aCons (dVar 1) (aCons (dVar 2) (aNil))))) (xIm (dCallF 2 S__law_closed_moves (aCons (dVar 1) (aCons (dVar 2) (aNil)))))) (sSeq (sIf (dTOr (dTNot (dTst (dIsi "tuple" (dVar 3)))) (dTOr (dTst (dBin dNe (dOfL (lOf (dVar 3))) (dVar 4))) (dTst (dBin dNe (dCallF 2 S_closure (aCons (dVar 1) (aCons (dCall dTupOf (aCons (dCallM 0 2 S__law_mixed (aCons (dVar 2) (aNil))) (aNil))) (aNil)))) (dVar 3))))) (sRet (dC (.bool false))) (sNx)) (sSeq (sSet 5 (xDctOf (lLc (iSq (dVar 3)) (gNm 11) (dYes) (dTup (aCons (dVar 11) (aCons (dC (.bool true)) (aNil)))) [11]))) (sSeq (sFor (iR1 (dC (.int 5))) (gNm 6) (sSeq (sPar 7 8 (xIm (dCallM 0 2 S__law_pick (aCons (dVar 4) (aNil)))) (xIm (dCallM 0 2 S__law_pick (aCons (dVar 4) (aNil))))) (sIf (dTOr (dTst (dInT true 5 (dCallF 2 S_joined (aCons (dVar 7) (aCons (dVar 8) (aNil)))))) (dTst (dInT true 5 (dCallF 1 S_undone (aCons (dVar 7) (aNil)))))) (sRet (dC (.bool false))) (sNx)))) (sSeq (sSet 9 (xIm (dCallF 2 S_orbits (aCons (dVar 1) (aCons (dVar 2) (aNil)))))) (sSeq (sIf (dTOr (dTst (dBin dNe (dVar 9) (dCallF 2 S__law_orbits (aCons (dVar 1) (aCons (dVar 2) (aNil)))))) (dTAnd (dTst (dBin dNe (dVar 9) (dCallF 2 S_orbits (aCons (dVar 1) (aCons (dSl (dVar 3) (oNone) (oSome (dC (.int 24)))) (aNil)))))) (dTst (dBin dLe (dCall dLen (aCons (dVar 3) (aNil))) (dC (.int 24)))))) (sRet (dC (.bool false))) (sNx)) (sSeq (sFor (iSq (dVar 9)) (gNm 10) (sIf (dTst (dBin dNe (dBin dMulA (dCall dLen (aCons (dOfL (lLc (iSq (dVar 3)) (gNm 11) (dTst (dBin dEq (dBin dIx (dVar 11) (dBin dIx (dVar 10) (dC (.int 0)))) (dBin dIx (dVar 10) (dC (.int 0))))) (dVar 11) [11])) (aNil))) (dCall dLen (aCons (dVar 10) (aNil)))) (dCall dLen (aCons (dVar 3) (aNil))))) (sRet (dC (.bool false))) (sNx))) (sRet (dBin dEq (dCall dSum (aCons (dOfL (lLc (iSq (dVar 9)) (gNm 10) (dYes) (dCall dLen (aCons (dVar 10) (aNil))) [10])) (aNil))) (dVar 1))))))))))
abbrev N_law : List Str := ["_law_script", "_law_spot", "_law_dice_here"]
abbrev P_law : List Str := ["_law_script"]
def g_law : DS := sSeq (sFor (iR1 (dCall dMax2 (aCons (dC (.int 1)) (aCons (dCall dMin2 (aCons (dC (.int 4)) (aCons (dCall dLen (aCons (dVar 0) (aNil))) (aNil)))) (aNil))))) (gNm 1) (sSeq (sSet 2 (xOw (lCall 2 S__law_dice (aCons (dVar 0) (aCons (dVar 1) (aNil)))))) (sIf (dTOr (dTNot (dTst (dCallM 2 2 S__law_right (aCons (dBin dAdd (dC (.int 1)) (dCallM 2 2 S__law_roll (aCons (dC (.int 6)) (aNil)))) (aNil))))) (dTNot (dTst (dCallM 2 2 S__law_right (aCons (dBin dAdd (dC (.int 1)) (dCallM 2 2 S__law_roll (aCons (dC (.int 4)) (aNil)))) (aNil)))))) (sRet (dC (.bool false))) (sNx)))) (sSeq (sIf (dTst (dBin dNe (dOfL (lLst (aCons (dCallF 2 S_closure (aCons (dC (.int 0)) (aCons (dTup (aNil)) (aNil)))) (aCons (dCallF 2 S_closure (aCons (dC (.int 3)) (aCons (dTup (aNil)) (aNil)))) (aCons (dCallF 2 S_orbits (aCons (dC (.int 0)) (aCons (dTup (aNil)) (aNil)))) (aCons (dCallF 2 S_orbits (aCons (dC (.int 2)) (aCons (dTup (aNil)) (aNil)))) (aNil))))))) (dOfL (lLst (aCons (dTup (aCons (dTup (aNil)) (aNil))) (aCons (dTup (aCons (dTup (aCons (dC (.int 0)) (aCons (dC (.int 1)) (aCons (dC (.int 2)) (aNil))))) (aNil))) (aCons (dTup (aNil)) (aCons (dTup (aCons (dTup (aCons (dC (.int 0)) (aNil))) (aCons (dTup (aCons (dC (.int 1)) (aNil))) (aNil)))) (aNil))))))))) (sRet (dC (.bool false))) (sNx)) (sRet (dBin dEq (dCall dLen (aCons (dCallF 2 S_closure (aCons (dC (.int 6)) (aCons (dTup (aCons (dTup (aCons (dC (.int 1)) (aCons (dC (.int 2)) (aCons (dC (.int 3)) (aCons (dC (.int 4)) (aCons (dC (.int 5)) (aCons (dC (.int 0)) (aNil)))))))) (aCons (dTup (aCons (dC (.int 1)) (aCons (dC (.int 0)) (aCons (dC (.int 2)) (aCons (dC (.int 3)) (aCons (dC (.int 4)) (aCons (dC (.int 5)) (aNil)))))))) (aNil)))) (aNil)))) (aNil))) (dC (.int 720)))))
end Dn.K01
set_option Elab.async false
set_option linter.all false
set_option maxRecDepth 100000
set_option autoImplicit false
set_option maxHeartbeats 4000000
namespace Dn
open PySem L2 Evl PySem.Spec PyProof.Rows
def rs (m : List Int) (n : Nat) (k : Int) (x : Int) : Int := it m (k % (per m n x : Nat)).toNat x
end Dn
set_option Elab.async false
set_option linter.all false
set_option maxRecDepth 100000
set_option autoImplicit false
set_option maxHeartbeats 4000000
namespace Dn.K01
open PySem L2 Evl PySem.Spec PyProof.Rows SrL
structure Cw (mk : List (List Int)) (n : Nat) (F : List (List Int)) (r : Nat) : Prop where
  nd : F.Nodup
  one : rgI n ∈ F
  g : ∀ f, f ∈ F → gen mk n f
  le : r ≤ F.length
  cl : ∀ j, j < r → ∀ m, m ∈ mk → jn (F.getD j []) m ∈ F
theorem Cw.few {mk : List (List Int)} {n : Nat} {F : List (List Int)} {r : Nat} (h : Cw mk n F r) (hk : Mk n mk) (hn : n ≤ 6) : F.length ≤ 720 := by
  refine Nat.le_trans (list_few hk h.nd fun f hf => gen_mv hk (h.g f hf)) ?_
  have : ∀ n, n ≤ 6 → ff n n ≤ 720 := by decide
  exact this n hn
end Dn.K01
set_option Elab.async false
set_option linter.all false
set_option maxRecDepth 100000
set_option autoImplicit false
set_option maxHeartbeats 4000000
namespace Dn.T
open PySem L2 Evl PySem.Spec PyProof.Rows
def S__law_left_of (ds : List D) (Q : D → Prop) : Prop := ∃ n f, ds = [tRP (tabP n f)] ∧ n ≤ 24 ∧ Q (tL (lftT n f))
def S__law_right_of (ds : List D) (Q : D → Prop) : Prop := ∃ n f, ds = [tRP (tabP n f)] ∧ n ≤ 24 ∧ Q (tL (rgtT n f))
end Dn.T
set_option Elab.async false
set_option linter.all false
set_option maxRecDepth 100000
set_option autoImplicit false
set_option maxHeartbeats 4000000
namespace Dn.T
open PySem L2 Evl PySem.Spec PyProof.Rows
abbrev N_is_told : List Str := ["value", "word", "many", "size"]
abbrev P_is_told : List Str := ["value", "word", "many", "size"]
def g_is_told : DS := sSeq (sIf (dTOr (dTNot (dTst (dIsi "tuple" (dVar 0)))) (dTst (dBin dNe (dCall dLen (aCons (dVar 0) (aNil))) (dBin dAdd (dVar 2) (dC (.int 1)))))) (sRet (dC (.bool false))) (sNx)) (sRet (dAnd (dCallF 2 S_is_same (aCons (dBin dIx (dVar 0) (dC (.int 0))) (aCons (dVar 1) (aNil)))) (dCallF 3 S_is_row (aCons (dSl (dVar 0) (oSome (dC (.int 1))) (oNone)) (aCons (dVar 2) (aCons (dVar 3) (aNil)))))))
abbrev N_is_same : List Str := ["value", "told", "index", "part"]
abbrev P_is_same : List Str := ["value", "told"]
def g_is_same : DS := sSeq (sIf (dTst (dIsi "tuple" (dVar 1))) (sSeq (sIf (dTOr (dTNot (dTst (dIsi "tuple" (dVar 0)))) (dTst (dBin dNe (dCall dLen (aCons (dVar 0) (aNil))) (dCall dLen (aCons (dVar 1) (aNil)))))) (sRet (dC (.bool false))) (sNx)) (sRet (dCall dAll (aCons (dOfL (lLc (iEn (dVar 0)) (gTp 2 (gsCons (gNm 2) (gsCons (gNm 3) (gsNil)))) (dYes) (dCallF 2 S_is_same0 (aCons (dVar 3) (aCons (dBin dIx (dVar 1) (dVar 2)) (aNil)))) [2, 3])) (aNil))))) (sNx)) (sSeq (sIf (dTst (dIsi "str" (dVar 1))) (sRet (dAnd (dIsi "str" (dVar 0)) (dBin dEq (dVar 0) (dVar 1)))) (sNx)) (sRet (dAnd (dCallF 1 S_is_integer (aCons (dVar 0) (aNil))) (dBin dEq (dVar 0) (dVar 1)))))
def g_is_same0 : DS := sSeq (sIf (dTst (dIsi "tuple" (dVar 1))) (sSeq (sIf (dTOr (dTNot (dTst (dIsi "tuple" (dVar 0)))) (dTst (dBin dNe (dCall dLen (aCons (dVar 0) (aNil))) (dCall dLen (aCons (dVar 1) (aNil)))))) (sRet (dC (.bool false))) (sNx)) (sRet (dCall dAll (aCons (dOfL (lLc (iEn (dVar 0)) (gTp 2 (gsCons (gNm 2) (gsCons (gNm 3) (gsNil)))) (dYes) (dNever) [2, 3])) (aNil))))) (sNx)) (sSeq (sIf (dTst (dIsi "str" (dVar 1))) (sRet (dAnd (dIsi "str" (dVar 0)) (dBin dEq (dVar 0) (dVar 1)))) (sNx)) (sRet (dAnd (dCallF 1 S_is_integer (aCons (dVar 0) (aNil))) (dBin dEq (dVar 0) (dVar 1)))))
abbrev N__law_left_of : List Str := ["_law_rows", "_law_row", "_law_pair"]
abbrev P__law_left_of : List Str := ["_law_rows"]
def g__law_left_of : DS := sRet (dOfL (lLc (iSq (dVar 0)) (gNm 1) (dYes) (dCall dTupOf (aCons (dOfL (lLc (iSq (dVar 1)) (gNm 2) (dYes) (dBin dIx (dVar 2) (dC (.int 0))) [2])) (aNil))) [1]))
abbrev N__law_right_of : List Str := ["_law_rows", "_law_y", "_law_x"]
abbrev P__law_right_of : List Str := ["_law_rows"]
def g__law_right_of : DS := sRet (dOfL (lLc (iR1 (dCall dLen (aCons (dVar 0) (aNil)))) (gNm 1) (dYes) (dCall dTupOf (aCons (dOfL (lLc (iR1 (dCall dLen (aCons (dVar 0) (aNil)))) (gNm 2) (dYes) (dBin dIx (dBin dIx (dBin dIx (dVar 0) (dVar 2)) (dVar 1)) (dC (.int 1))) [2])) (aNil))) [1]))
end Dn.T
set_option Elab.async false
set_option linter.all false
set_option maxRecDepth 100000
set_option autoImplicit false
set_option maxHeartbeats 4000000
namespace Dn.T
open PySem L2 Evl PySem.Spec PyProof.Rows
local macro_rules | `(tactic| walk_at "dd") => `(tactic| simp only [sSeq, sIf, sSet, sRet, sRetN, sNx, sEx, sAsg, sPar, dTOr, dTAnd, dTNot, dTst, dIsi, dVar, dC, dBin, dChain, dNeg, dI2, dAnd, dOr, dNot, dIfE, dCall, dCallF, aCons, aNil, dTup, lLst, dOfL, xIm, xOw, gNm, gTp, gsCons, gsNil, dYes, envD, dLen_tR, dLen_tI, dLen_tup, dLen_lst, seq_tR, seq_tI, seq_tup, seq_lst, dIs, dIsNot, dNe, dEq, dTupOf, dSl, oNone, oSome, iSq, iEn, iR1, iR2, sFor, lLc, sNever, dTRg, rg1, rg2, lRg, wipeD, isN,
  gTpL, dIxP, sSub, dApp, dPopAt, dExt, dCallM, dCallO, dBinO, dTupO, lOf, lOfO, sRetO, iOw, dVarF, lCat, lCall, dAbs, dMax2, dMin2, dInt, atO, setO, MO.getL, MO.putL, Option.isSome_some,
  dInK, dGetK, dGetD, dInD, dGet1, lKeys, lSort, dLenSet, dLenSetL, dLenSet2, sPar3, dRevT, sPutK, xDct, xDct1, sRetK, atK, keyD, sAugI, dFld, sFldD, xRng, iRgO, dNew, dNewV, dCM, dProp, dMeth, dLenI, dStrO, dEqI, dIsC, dJoin, dJs, dFmt, dCallML, sSubI, gSubW, sWh, dRepU, dKeep2, lSortSet, lSortTu, lDc, dRepT, lRep, dStrI, xDctT1, xDctOf, dInT, sPutT, lSortT2, lSortDT, dPop, dBinR, dKeep, dCallMO, atT, dCallO,
  kit_int, kit_bool, kit_tuple, kit_str, List.map_cons, List.map_nil, List.cons_append, List.nil_append, List.replicate, List.set_cons_zero, List.set_cons_succ, List.getElem?_cons_zero, List.getElem?_cons_succ, List.length_cons, List.length_nil, List.length_map, Nat.reduceAdd, Nat.reduceSub, Bool.not_true, Bool.not_false, Bool.false_eq_true, if_true, if_false, true_and, reduceCtorEq, Bool.true_eq_false, rgD_rgI, Option.some.injEq, exists_eq_left', and_true])
theorem v_is_same0 : VD g_is_same0 S_is_same0 2 2 := fun ds Q _ h => by
  obtain ⟨d, s, rfl, hd, hs, h⟩ := h
  unfold g_is_same0
  walk_at "dd"
  cases d with
  | str t =>
    walk_at "dd"
    exact ⟨hd t rfl, hs, by simpa only [PyData.eqv, isStr] using h⟩
  | _ => first | exact h | (walk_at "dd"; exact h)
theorem v_is_same : VD g_is_same S_is_same 2 2 := fun ds Q _ h => by
  rcases h with ⟨d, s, rfl, hd, hs, h⟩ | ⟨d, s, rfl, hd, hs, h⟩
  · unfold g_is_same
    walk_at "dd"
    cases d with
    | str t =>
      walk_at "dd"
      exact ⟨hd t rfl, hs, by simpa only [PyData.eqv, isStr] using h⟩
    | _ => first | exact h | (walk_at "dd"; exact h)
  · unfold g_is_same
    walk_at "dd"
    cases d with
    | tuple xs =>
      walk_at "dd"
      refine ⟨rfl, rfl, ?_⟩
      simp only [PyData.eqv]
      match xs, hd, h with
      | [], hd, h => walk_at "dd"; exact h
      | [x], hd, h =>
        walk_at "dd"
        unfold enD
        simp only [List.length_cons, List.length_nil, Nat.reduceAdd, List.range_one, List.zipWith_cons_cons, List.zipWith_nil_right, wpLc]
        walk_at "dd"
        refine ⟨Nat.succ_pos _, .str s, rfl, x, s, rfl, okS_of ((hd _ rfl).2.2 x (by simp)), hs, [isStr s x], rfl, ?_⟩
        simpa [isTup1] using h
      | x :: y :: r, hd, h =>
        have e : ¬ ((r.length : Int) + 1 + 1 = 1) := by omega
        simp [e]
        simpa [isTup1] using h
    | _ => first | exact h | (walk_at "dd"; exact h)
theorem v_is_told : VD g_is_told S_is_told 4 0 := fun ds Q _ h => by
  obtain ⟨d, s, m, n, rfl, ⟨hm, hn⟩, hd, hs, h⟩ := h
  unfold g_is_told
  walk_at "dd"
  cases d with
  | tuple xs =>
    walk_at "dd"
    refine ⟨rfl, rfl, ?_⟩
    simp only [PyData.eqv]
    match xs, hd, h with
    | [], hd, h =>
      refine ite_ways (fun e => h) (fun e => ?_)
      simp at e
      omega
    | x :: r, hd, h =>
      simp only [isTold] at h
      refine ite_ways (fun e => ?_) (fun e => ?_)
      · have e2 : ¬ ((r.length : Int) = m) := by
          intro z; simp at e; omega
        rw [show decide ((r.length : Int) = m) = false from by simpa using e2] at h
        exact h
      · have e2 : (r.length : Int) = m := by simp at e; omega
        rw [show decide ((r.length : Int) = m) = true from by simpa using e2] at h
        refine ⟨x, atI_zero, .inl ⟨x, s, rfl, okS_of ((hd _ rfl).2.2 x (by simp)), hs, ?_⟩⟩
        refine bool_ways (fun e3 => ?_) (fun e3 => ?_)
        · rw [e3] at h
          have cut : cutD (x :: r) (some 1) none = r := by
            unfold cutD HT.sIx
            have : min (Int.toNat 1) (r.length + 1) = 1 := by omega
            simp [this]
          rw [cut]
          refine ⟨_, m, n, rfl, fun xs e => ?_, hn, ?_⟩
          · cases e; have := (hd _ rfl).1; simp at this; omega
          · simpa using h
        · rw [e3] at h; exact h
  | _ => first | exact h | (walk_at "dd"; exact h)
def Fl (d : D) : Prop := d.canLay0 = true ∧ d.depth ≤ 3
theorem Fl.shaped {d : D} (h : Fl d) : SeqAt.shaped d = true := by
  unfold SeqAt.shaped
  rw [h.1, Bool.true_and, decide_eq_true_eq]
  have := h.2
  omega
theorem roll_ok {ms : List D} {n : Nat} {k : Int} (hm : Dc ms) (h0 : 0 < k) (h1 : k ≤ 1000) {Q : D → List D → Prop} (h : ∀ r ms', 0 ≤ r → r < k → Dc ms' → Q (.int r) ms') : S__law_roll ms [.int k] Q := ⟨k, rfl, h0, by simp only [T60]; omega, hm, h⟩
end Dn.T
set_option Elab.async false
set_option linter.all false
set_option maxRecDepth 100000
set_option autoImplicit false
set_option maxHeartbeats 4000000
namespace Dn
open PySem L2 Evl PySem.Spec PyProof.Rows
section
variable {X : Cx} {a : Expr} {fa : DE} {pos p : Pos}
def dLenSetU (fa : DE) : DE := fun ρ Q => fa ρ fun z ρ1 => ∃ rs : List (List Int), z = .list (rs.map fun r => .tuple (r.map .int)) ∧ rs.length < 64 ∧ ∀ n : Nat, n ≤ rs.length → (n = rs.length ↔ rs.Nodup) → Q (.int n) ρ1
end
end Dn
set_option Elab.async false
set_option linter.all false
set_option maxRecDepth 100000
set_option autoImplicit false
set_option maxHeartbeats 4000000
namespace Dn.T
open PySem L2 Evl PySem.Spec PyProof.Rows
local macro_rules | `(tactic| walk_at "dd") => `(tactic| simp only [sSeq, sIf, sSet, sRet, sRetN, sNx, sEx, sAsg, sPar, dTOr, dTAnd, dTNot, dTst, dIsi, dVar, dC, dBin, dChain, dNeg, dI2, dAnd, dOr, dNot, dIfE, dCall, dCallF, aCons, aNil, dTup, lLst, dOfL, xIm, xOw, gNm, gTp, gsCons, gsNil, dYes, envD, dLen_tR, dLen_tI, dLen_tup, dLen_lst, seq_tR, seq_tI, seq_tup, seq_lst, dIs, dIsNot, dNe, dEq, dTupOf, dSl, oNone, oSome, iSq, iEn, iR1, iR2, sFor, lLc, sNever, dTRg, rg1, rg2, lRg, wipeD, isN,
  gTpL, dIxP, sSub, dApp, dPopAt, dExt, dCallM, dCallO, dBinO, dTupO, lOf, lOfO, sRetO, iOw, dVarF, lCat, lCall, dAbs, dMax2, dMin2, dInt, atO, setO, MO.getL, MO.putL, Option.isSome_some,
  dInK, dGetK, dGetD, dInD, dGet1, lKeys, lSort, dLenSet, dLenSetL, dLenSet2, sPar3, dRevT, sPutK, xDct, xDct1, sRetK, atK, keyD, sAugI, dFld, sFldD, xRng, iRgO, dNew, dNewV, dCM, dProp, dMeth, dLenI, dStrO, dEqI, dIsC, dJoin, dJs, dFmt, dCallML, sSubI, gSubW, sWh, dRepU, dKeep2, lSortSet, lSortTu, lDc, dRepT, lRep, dStrI, xDctT1, xDctOf, dInT, sPutT, lSortT2, lSortDT, dPop, dBinR, dKeep, dCallMO, atT, dCallO,
  kit_int, kit_bool, kit_tuple, kit_str, List.map_cons, List.map_nil, List.cons_append, List.nil_append, List.replicate, List.set_cons_zero, List.set_cons_succ, List.getElem?_cons_zero, List.getElem?_cons_succ, List.length_cons, List.length_nil, List.length_map, Nat.reduceAdd, Nat.reduceSub, Bool.not_true, Bool.not_false, Bool.false_eq_true, if_true, if_false, true_and, reduceCtorEq, Bool.true_eq_false, rgD_rgI, Option.some.injEq, exists_eq_left', and_true])
theorem tab_ix {n : Nat} {f : Int → Int → Int × Int} {x : Int} {Q : D → Prop} (hx : In n x) (k : Q (tPs ((rgI n).map (f x)))) : dIx (tRP (tabP n f)) (.int x) Q := by
  refine ixRP hx.1 (by rw [tabP_len]; exact hx.2) ?_
  rw [tabP_at hx]
  exact k
theorem row_ix {n : Nat} {g : Int → Int × Int} {y : Int} {Q : D → Prop} (hy : In n y) (k : Q (tP (g y))) : dIx (tPs ((rgI n).map g)) (.int y) Q := by
  refine ixPs hy.1 (by rw [List.length_map, rgI_len]; exact hy.2) ?_
  rw [map_at hy]
  exact k
theorem tabP_map {n : Nat} {f : Int → Int → Int × Int} : (tabP n f).map tPs = (rgI n).map fun x => tPs ((rgI n).map (f x)) := by unfold tabP; rw [List.map_map]; rfl
theorem v__law_left_of : VD g__law_left_of S__law_left_of 1 2 := fun ds Q _ h => by
  obtain ⟨n, f, rfl, hn, h⟩ := h
  unfold g__law_left_of
  walk_at "dd"
  refine ⟨(tabP n f).map tPs, rfl, ?_⟩
  rw [tabP_map]
  refine wpLc_mapL (rgI n) (fun x => tPs ((rgI n).map (f x))) (fun x => tI ((rgI n).map fun y => (f x y).1)) (by rw [rgI_len]; omega) rfl (fun x hx K hK => ?_) (fun _ => rfl) ?_
  · try walk_at "dd"
    refine ⟨((rgI n).map (f x)).map tP, rfl, ?_⟩
    rw [List.map_map]
    refine wpLc_mapL (rgI n) (tP ∘ f x) (fun y => .int (f x y).1) (by rw [rgI_len]; omega) rfl (fun y hy K2 hK2 => ?_) (fun _ => rfl) ?_
    · try walk_at "dd"
      exact ixP0 (hK2 _ rfl)
    · try walk_at "dd"
      rw [tI_map]
      exact hK _ rfl
  · rw [tL_map]
    exact h
theorem v__law_right_of : VD g__law_right_of S__law_right_of 1 2 := fun ds Q _ h => by
  obtain ⟨n, f, rfl, hn, h⟩ := h
  unfold g__law_right_of
  walk_at "dd"
  rw [dLen_tRP, tabP_len]
  refine ⟨rgd (by omega), ?_⟩
  try rw [rgD_rgI]
  refine wpLc_mapL (rgI n) PyData.int (fun y => tI ((rgI n).map fun x => (f x y).2)) (by rw [rgI_len]; omega) rfl (fun y hy K hK => ?_) (fun _ => rfl) ?_
  · have hy := In.mem.1 hy
    try walk_at "dd"
    rw [dLen_tRP, tabP_len]
    refine ⟨rgd (by omega), ?_⟩
    try rw [rgD_rgI]
    refine wpLc_mapL (rgI n) PyData.int (fun x => .int (f x y).2) (by rw [rgI_len]; omega) rfl (fun x hx K2 hK2 => ?_) (fun _ => rfl) ?_
    · have hx := In.mem.1 hx
      try walk_at "dd"
      exact tab_ix hx (row_ix hy (ixP1 (hK2 _ rfl)))
    · try walk_at "dd"
      rw [tI_map]
      exact hK _ rfl
  · rw [tL_map]
    exact h
end Dn.T
set_option Elab.async false
set_option linter.all false
set_option autoImplicit false
namespace Dn.T
open PySem L2 Evl PySem.Spec PyProof.Rows
structure Cs0 (n : Nat) (d : Int → Int → Int) : Prop where
  rg : ∀ x y, In n x → In n y → In n (d x y)
  inj : ∀ x y z, In n x → In n y → In n z → d x y = d x z → y = z
  cyc : ∀ x y z, In n x → In n y → In n z → d (d x y) (d x z) = d (d y x) (d y z)
section
variable {n : Nat} {d : Int → Int → Int}
def run (d : Int → Int → Int) : Nat → Int → Int → Int
  | 0, _, y => y
  | k + 1, x, y => run d k (d x x) (d x y)
variable (h : Cs0 n d)
include h
end
section
variable {n : Nat} {d : Int → Int → Int}
end
end Dn.T
set_option Elab.async false
set_option linter.all false
set_option maxRecDepth 100000
set_option autoImplicit false
set_option maxHeartbeats 4000000
namespace Dn.B3
open PySem L2 Evl
structure FC where
  p : Addr
  s : Option Addr
  l0 : List Int
abbrev scrD (l : List Int) : D := .dict [(.none, .tuple (l.map .int))]
abbrev FC.k (_ : FC) : Nat := 2
abbrev FC.k2 (_ : FC) : Nat := 0
section
variable {K : PySem.W.Frag} {T B : Addr → Prop} {p : FC} {ρ ρ1 ρ' : Env} {σ σ1 : L2.St} {H H1 H' G G' : Hp}
structure Fr (p : FC) (ρ : Env) : Prop where
  ne : p.k ≠ p.k2
  dice : ∃ a b c : Int, ρ[p.k]? = some (some (.ow (.par p.p (.lst [.int a, .int b, .int c]))))
  scr : (∃ s, p.s = some s ∧ ρ[0]? = some (some (.ow (.par s (.lst (p.l0.map .int)))))) ∨ (p.s = none ∧ ∃ l : List Int, l.length = p.l0.length ∧ ρ[0]? = some (some (.im (scrD l))))
  rest : ∀ (i : Nat) (sv : SV), ρ[i]? = some (some sv) → i ≠ p.k → i ≠ p.k2 → ∃ d, sv = .im d ∧ PL d
structure Qs (K : PySem.W.Frag) (T B : Addr → Prop) (p : FC) (ρ : Env) (σ : L2.St) (H : Hp) : Prop where
  rs : RS K T ρ σ H
  fr : Fr p ρ
  lists : ∀ a xs, ¬ T a → a ≠ p.p → p.s ≠ some a → H a = some (.lst xs) → B a
  new : ∀ a, H a = none → B a
theorem Qs.at0 (q : Qs K T B p ρ σ H) : σ[p.k]? = some (some (.ref p.p)) := by
  obtain ⟨a, b, c, h⟩ := q.fr.dice
  obtain ⟨x, o, h1, _⟩ := q.rs.ow _ _ h
  rw [h1, q.rs.tag _ p.p _ x h h1]
theorem Qs.at1 (q : Qs K T B p ρ σ H) {s : Addr} (e : p.s = some s) : ρ[0]? = some (some (.ow (.par s (.lst (p.l0.map .int))))) ∧ σ[0]? = some (some (.ref s)) := by
  rcases q.fr.scr with ⟨s', e', h⟩ | ⟨e', _⟩
  · rw [e] at e'; cases e'
    obtain ⟨x, o, h1, _⟩ := q.rs.ow _ _ h
    exact ⟨h, by rw [h1, q.rs.tag _ s _ x h h1]⟩
  · rw [e] at e'; cases e'
theorem Fr.im0 (q : Fr p ρ) (e : p.s = none) : ∃ l : List Int, l.length = p.l0.length ∧ ρ[0]? = some (some (.im (scrD l))) := by
  rcases q.scr with ⟨s', e', h⟩ | ⟨_, h⟩
  · rw [e] at e'; cases e'
  · exact h
theorem Qs.own (q : Qs K T B p ρ σ H) {a : Addr} : Own ρ σ a ↔ a = p.p ∨ p.s = some a := by
  constructor
  · rintro ⟨i, m, h1, h2⟩
    by_cases e : i = p.k
    · subst e; rw [q.at0] at h2; cases h2; exact .inl rfl
    · by_cases e2 : i = 0
      · subst e2
        cases w : p.s with
        | none =>
          obtain ⟨l, _, z⟩ := q.fr.im0 w
          rw [z] at h1; cases h1
        | some s => rw [(q.at1 w).2] at h2; cases h2; exact .inr rfl
      · obtain ⟨d, z, _⟩ := q.fr.rest i _ h1 e e2
        cases z
  · rintro (rfl | e)
    · obtain ⟨a, b, c, h⟩ := q.fr.dice
      exact ⟨_, _, h, q.at0⟩
    · exact ⟨0, _, (q.at1 e).1, (q.at1 e).2⟩
theorem Qs.hd (q : Qs K T B p ρ σ H) {a : Addr} : Hd T ρ σ a ↔ T a ∨ a = p.p ∨ p.s = some a := by unfold Hd; rw [q.own]
theorem Qs.step (q : Qs K T B p ρ σ H) (r : RS K T ρ1 σ1 H1) (po : Po ρ σ H ρ1 σ1 H1) (f : Fr p ρ1) : Qs K T B p ρ1 σ1 H1 := by
  refine ⟨r, f, fun a xs t n n2 h => ?_, fun a h => ?_⟩
  · cases w : H a with
    | none => exact q.new a w
    | some o =>
      have := po.keep a o (fun z => (q.own.1 z).elim n n2) w
      rw [h] at this; cases this
      exact q.lists a xs t n n2 w
  · cases w : H a with
    | none => exact q.new a w
    | some o => exact absurd h (po.dom a (by rw [w]; simp))
structure Kp (B : Addr → Prop) (p : FC) (H H' : Hp) : Prop where
  keep : ∀ a o, a ≠ p.p → p.s ≠ some a → ¬ B a → H a = some o → H' a = some o
  dom : ∀ a, H a ≠ none → H' a ≠ none
theorem Kp.refl {B : Addr → Prop} {p : FC} : Kp B p H H := ⟨fun _ _ _ _ _ h => h, fun _ h => h⟩
theorem Kp.trans {B : Addr → Prop} {p : FC} {H2 : Hp} (a : Kp B p H H1) (b : Kp B p H1 H2) : Kp B p H H2 := ⟨fun x o n n2 m h => b.keep x o n n2 m (a.keep x o n n2 m h), fun x h => b.dom x (a.dom x h)⟩
theorem Qs.kp (q : Qs K T B p ρ σ H) (po : Po ρ σ H ρ1 σ1 H1) : Kp B p H H1 := ⟨fun a o n n2 _ h => po.keep a o (fun z => (q.own.1 z).elim n n2) h, po.dom⟩
structure EndB (K : PySem.W.Frag) (T B : Addr → Prop) (p : FC) (H : Hp) (E : DEnds) (D : Ends) : Prop where
  nx : ∀ ρ' σ' H', Qs K T B p ρ' σ' H' → Kp B p H H' → E.nx ρ' → D.nx σ' H'
  rt : ∀ d ρ' σ' v H', Qs K T B p ρ' σ' H' → Kp B p H H' → Rp K (hide (Hd T ρ' σ') H') v d → E.rt d ρ' → D.rt v H'
theorem EndB.step {E : DEnds} {D : Ends} (e : EndB K T B p H E D) (k : Kp B p H H1) : EndB K T B p H1 E D := ⟨fun a b c q k2 => e.nx a b c q (k.trans k2), fun a b c d f q k2 => e.rt a b c d f q (k.trans k2)⟩
end
def sB (f : DS) : DS := fun E ρ => ∀ p, Fr p ρ → f { nx := fun ρ' => Fr p ρ' ∧ E.nx ρ', rt := fun d ρ' => Fr p ρ' ∧ E.rt d ρ' } ρ
section
variable {X : Cx} {V : D → Prop} {a b c e : Expr} {es : List Expr} {fa fb fc : DE} {pos ps px : Pos} {x y : Str} {st : Stmt} {sts : List Stmt} {f g : DS}
end
def Fgt : Env → Env → Prop
  | [], [] => True
  | x :: l, y :: m => (y = x ∨ (y = none ∧ (x = none ∨ ∃ d, x = some (.im d)))) ∧ Fgt l m
  | _, _ => False
theorem Fgt.len : ∀ {ρ ρ0 : Env}, Fgt ρ ρ0 → ρ0.length = ρ.length
  | [], [], _ => rfl
  | _ :: _, _ :: _, h => by simp [Fgt.len h.2]
  | [], _ :: _, h => h.elim
  | _ :: _, [], h => h.elim
theorem Fgt.at : ∀ {ρ ρ0 : Env}, Fgt ρ ρ0 → ∀ i : Nat, ρ0[i]? = ρ[i]? ∨ (ρ0[i]? = some none ∧ ∃ d, ρ[i]? = some (some (.im d)))
  | [], [], _, _ => .inl rfl
  | _ :: _, _ :: _, h, 0 => by
    rcases h.1 with z | ⟨z, w | ⟨d, w⟩⟩
    · exact .inl (by simp [z])
    · exact .inl (by simp [z, w])
    · exact .inr ⟨by simp [z], d, by simp [w]⟩
  | _ :: _, _ :: _, h, i + 1 => by simpa using Fgt.at h.2 i
  | [], _ :: _, h, _ => h.elim
  | _ :: _, [], h, _ => h.elim
section
variable {K : PySem.W.Frag} {T : Addr → Prop} {ρ ρ0 : Env} {σ : L2.St} {H : Hp}
theorem Fgt.own (f : Fgt ρ ρ0) (a : Addr) : Own ρ0 σ a ↔ Own ρ σ a := by
  constructor
  · rintro ⟨i, m, h1, h2⟩
    rcases f.at i with z | ⟨z, _⟩
    · exact ⟨i, m, by rw [← z]; exact h1, h2⟩
    · rw [z] at h1; cases h1
  · rintro ⟨i, m, h1, h2⟩
    rcases f.at i with z | ⟨_, d, z⟩
    · exact ⟨i, m, by rw [z]; exact h1, h2⟩
    · rw [z] at h1; cases h1
theorem Fgt.hd (f : Fgt ρ ρ0) : Hd T ρ0 σ = Hd T ρ σ := by
  funext a
  apply propext
  unfold Hd
  rw [f.own]
theorem Fgt.sm (f : Fgt ρ ρ0) {i : Nat} {sv : SV} (h : ρ0[i]? = some (some sv)) : ρ[i]? = some (some sv) := by
  rcases f.at i with z | ⟨z, _⟩
  · rw [← z]; exact h
  · rw [z] at h; cases h
theorem Fgt.rs (f : Fgt ρ ρ0) (r : RS K T ρ σ H) : RS K T ρ0 σ H := by
  refine ⟨by rw [f.len, r.len], fun i d h => ?_, fun i m h => ?_, fun i j m m' a h1 h2 => r.inj i j m m' a (f.sm h1) (f.sm h2), fun a t w => r.dis a t ((f.own a).1 w), r.dom, fun i x m a h => r.tag i x m a (f.sm h)⟩
  · rw [f.hd]; exact r.im i d (f.sm h)
  · rw [f.hd]; exact r.ow i m (f.sm h)
end
section
variable {X : Cx} {sts : List Stmt} {f : DS}
end
end Dn.B3
set_option Elab.async false
set_option linter.all false
set_option maxRecDepth 100000
set_option autoImplicit false
set_option maxHeartbeats 4000000
namespace Dn
open PySem L2 Evl PySem.Spec PyProof.Rows
def xNewV1 (i n : Nat) (nm : Str) (S : List D → (List (Str × D) → Prop) → ErP → Prop) (f : DEX) : DEX := fun ρ Q E => ρ[i]? = some (some (.im (clsD nm))) ∧ f ρ (fun d ρ1 => 2 = n ∧ S [d] (fun es => Q (obD nm es) ρ1) E) E
end Dn
set_option Elab.async false
set_option linter.all false
set_option maxRecDepth 100000
set_option autoImplicit false
set_option maxHeartbeats 4000000
namespace Dn
open PySem L2 Evl Cq PySem.Spec PyProof.Rows
def wiOf (K : PySem.W.Frag) (f : DL) : TI := fun σ H R => ∃ (T : Addr → Prop) (ρ : Env) (QD : List D → Env → Prop), RS K T ρ σ H ∧ f ρ QD ∧ ∀ ds ρ' J H', RS K T ρ' σ H' → Po ρ σ H ρ' σ H' → ItOk K J (hide (Hd T ρ' σ) H') ds → QD ds ρ' → R J H'
theorem JI.pi {X : Cx} {tg iter : Expr} {f : DL} (h : JI X tg iter f) : PI X tg iter (wiOf X.K f) := by
  obtain ⟨t, pt, k⟩ := h.ex
  exact ⟨fun pins s σ H R I ⟨T, ρ, QD, r, h, q⟩ => pt.run pins s σ H R I (k T ρ σ H QD R r h q)⟩
abbrev DB := List D → Env → (List D → Env → Prop) → Prop
def wpLcB (g : DG) (tt : DT) (B : DB) (vs : List Nat) (Q : List D → Env → Prop) : List D → List D → Env → Prop
  | [], acc, ρ => Q acc ρ
  | d :: ds, acc, ρ => g d (wipeD ρ vs) fun ρ1 => tt ρ1 fun b ρ2 => if b = true then B acc ρ2 fun acc' ρ3 => wpLcB g tt B vs Q ds acc' (wipeD ρ3 vs) else wpLcB g tt B vs Q ds acc (wipeD ρ2 vs)
def bOne (te : DE) : DB := fun acc ρ Q => acc.length < 16777216 ∧ te ρ fun y ρ3 => Q (acc ++ [y]) ρ3
def bMany (fi : DL) (g : DG) (tt : DT) (te : DE) (vs : List Nat) : DB := fun acc ρ Q => fi ρ fun es ρ3 => wpLcB g tt (bOne te) vs Q es acc (wipeD ρ3 vs)
def lLc2 (fi : DL) (g : DG) (tt : DT) (fi2 : DL) (g2 : DG) (tt2 : DT) (te : DE) (vs vs2 : List Nat) : DL := fun ρ Q => fi ρ fun ds ρ1 => wpLcB g tt (bMany fi2 g2 tt2 te vs2) vs Q ds [] (wipeD ρ1 vs)
section
variable {K : PySem.W.Frag} {T : Addr → Prop} {ρ1 : Env} {σ1 : L2.St} {H1 : Hp} {L : Addr} {G : Hp}
structure LpS (K : PySem.W.Frag) (T : Addr → Prop) (ρ1 : Env) (σ1 : L2.St) (H1 : Hp) (L : Addr) (G : Hp) (ρ : Env) (σ : L2.St) (H : Hp) (acc : List D) (us : List L2.V) : Prop where
  rs : RS K (plus T L) ρ σ H
  po : Po ρ1 σ1 H1 ρ σ H
  at_ : H L = some (.lst us)
  all : RpAll K (hide (Hd (plus T L) ρ σ) H) us acc
  ex : Ex G (hide (Hd (plus T L) ρ σ) H)
theorem LpS.wiped {ρ : Env} {σ : L2.St} {H : Hp} {acc : List D} {us : List L2.V} (s : LpS K T ρ1 σ1 H1 L G ρ σ H acc us) (vs : List Nat) : LpS K T ρ1 σ1 H1 L G (wipeD ρ vs) (wipe σ vs) H acc us :=
  ⟨s.rs.wiped vs, s.po.trans (.wiped vs), s.at_, s.all.mono ((Po.wiped vs).fz), s.ex.trans (Po.wiped vs).fz⟩
theorem LpS.step {ρ ρ' : Env} {σ σ' : L2.St} {H H' : Hp} {acc : List D} {us : List L2.V} (s : LpS K T ρ1 σ1 H1 L G ρ σ H acc us) (r : RS K (plus T L) ρ' σ' H') (p : Po ρ σ H ρ' σ' H') : LpS K T ρ1 σ1 H1 L G ρ' σ' H' acc us :=
  ⟨r, s.po.trans p, p.keep L _ (s.rs.dis L (.inl rfl)) s.at_, s.all.mono p.fz, s.ex.trans p.fz⟩
theorem LpS.push {ρ : Env} {σ : L2.St} {H : Hp} {acc : List D} {us : List L2.V} {w : L2.V} {y : D} (hL : H1 L = none) (s : LpS K T ρ1 σ1 H1 L G ρ σ H acc us) (v : Rp K (hide (Hd (plus T L) ρ σ) H) w y) : LpS K T ρ1 σ1 H1 L G ρ σ (upd H L (.lst (us ++ [w]))) (acc ++ [y]) (us ++ [w]) := by
  have aL : ∀ (o : HO), Ex (hide (Hd (plus T L) ρ σ) H) (hide (Hd (plus T L) ρ σ) (upd H L o)) := fun o a u w => by
    obtain ⟨n, w⟩ := hide_some.1 w
    exact hide_some.2 ⟨n, by rw [upd_ne (fun z => n (.inl (.inl z)))]; exact w⟩
  refine ⟨⟨s.rs.len, fun j d z => ?_, fun j m z => ?_, s.rs.inj, s.rs.dis, fun a t => ?_, s.rs.tag⟩, ⟨fun a o n hh => ?_, s.po.own, fun a hh => ?_⟩, upd_same, (s.all.append (.cons v .nil)).mono (aL _), s.ex.trans (aL _)⟩
  · obtain ⟨u, h1, h2⟩ := s.rs.im j d z; exact ⟨u, h1, h2.mono (aL _)⟩
  · obtain ⟨a, o, h1, h2, h3⟩ := s.rs.ow j m z
    have ne : a ≠ L := fun e => by subst e; exact s.rs.dis a (.inl rfl) ⟨j, m, z, h1⟩
    exact ⟨a, o, h1, by rw [upd_ne ne]; exact h2, h3.mono (aL _)⟩
  · by_cases e : a = L
    · subst e; exact Lv.at fun _ z => nomatch z
    · exact (s.rs.dom a t).upd e
  · rw [upd_ne (fun e => by subst e; rw [hL] at hh; cases hh)]; exact s.po.keep a o n hh
  · by_cases e : a = L
    · subst e; rw [upd_same]; simp
    · rw [upd_ne e]; exact s.po.dom a hh
theorem wipe_sub {vs vs2 : List Nat} (σ : L2.St) (h : ∀ i, i ∈ vs2 → i ∈ vs) : wipe (wipe σ vs2) vs = wipe σ vs := by
  apply List.ext_getElem?
  intro i
  have at1 : ∀ (ρ : L2.St) (vs : List Nat), (wipe ρ vs)[i]? = if i ∈ vs then (if i < ρ.length then some none else none) else ρ[i]? := fun ρ vs => by
    induction vs with
    | nil => simp [wipe]
    | cons v vs ih =>
      show ((wipe ρ vs).set v none)[i]? = _
      by_cases e : v = i
      · subst e
        by_cases hl : v < ρ.length
        · rw [List.getElem?_set_self (by rw [wipe_length]; exact hl)]; simp [hl]
        · rw [List.getElem?_eq_none_iff.mpr (by rw [List.length_set, wipe_length]; omega)]; simp [hl]
      · rw [List.getElem?_set_ne e, ih]
        simp only [List.mem_cons, show ¬ i = v from fun z => e z.symm, false_or]
  rw [at1, at1, at1, wipe_length]
  by_cases a : i ∈ vs
  · simp [a]
  · have b : ¬ i ∈ vs2 := fun z => a (h i z)
    simp [a, b]
theorem loop_W {g : DG} {tt : DT} {B : DB} {vs : List Nat} {bd : L2.St → Hp → (Hp → Prop) → Prop} {J : It} {ds : List D} {QD : List D → Env → Prop} {Done : Hp → Prop} (it : ItOk K J G ds) {σ : L2.St} {ρs : Env} {Hs : Hp} {acc0 : List D} {us0 : List L2.V}
    (hbd : ∀ (ρ4 : Env) (σ3 : L2.St) (H4 : Hp) (acc : List D) (us : List L2.V) (cont : List D → Env → Prop) (Ny : Hp → Prop), wipe σ3 vs = wipe σ vs → LpS K T ρ1 σ1 H1 L G ρ4 σ3 H4 acc us → B acc ρ4 cont →
      (∀ acc' ρ5 H5 us', LpS K T ρ1 σ1 H1 L G (wipeD ρ5 vs) (wipe σ vs) H5 acc' us' → cont acc' ρ5 → Ny H5) → bd σ3 H4 Ny)
    (s0 : LpS K T ρ1 σ1 H1 L G (wipeD ρs vs) (wipe σ vs) Hs acc0 us0) (h : wpLcB g tt B vs QD ds acc0 (wipeD ρs vs))
    (hd : ∀ acc ρ' H' us, LpS K T ρ1 σ1 H1 L G (wipeD ρ' vs) (wipe σ vs) H' acc us → QD acc (wipeD ρ' vs) → Done H') :
    ∃ W : Nat → Nat → Hp → Prop, (∃ m, W 0 m Hs) ∧ ∀ i m H, W i m H → (J.stop i H ∧ Done H) ∨ (J.go i H ∧ ∃ Ny : Hp → Prop, (∀ H', Ny H' → ∃ m', m' < m ∧ W (i + 1) m' H') ∧ ∀ x H', J.yld i H x H' → tgOf K vs g x (wipe σ vs) H' fun σ2 H2 => wipe σ2 vs = wipe σ vs ∧ ttOf K tt σ2 H2 fun b H3 =>
      if b = true then bd σ2 H3 Ny else Ny H3) := by
  refine ⟨fun i m H' => i ≤ ds.length ∧ m = ds.length - i ∧ ∃ ρ' acc us, LpS K T ρ1 σ1 H1 L G (wipeD ρ' vs) (wipe σ vs) H' acc us ∧ wpLcB g tt B vs QD (ds.drop i) acc (wipeD ρ' vs), ⟨ds.length, Nat.zero_le _, rfl, ρs, acc0, us0, s0, h⟩, ?_⟩
  rintro i m H' ⟨hi, rfl, ρ', acc, us, s, h⟩
  have eG : Ex G H' := s.ex.trans hide_ex
  by_cases hlt : i < ds.length
  · rw [List.drop_eq_getElem_cons hlt] at h
    obtain ⟨go, st⟩ := it.step i ds[i] H' (List.getElem?_eq_getElem hlt) eG
    refine .inr ⟨go, fun H2 => ∃ ρ2 acc us, LpS K T ρ1 σ1 H1 L G (wipeD ρ2 vs) (wipe σ vs) H2 acc us ∧ wpLcB g tt B vs QD (ds.drop (i + 1)) acc (wipeD ρ2 vs),
      fun H2 w => ⟨ds.length - (i + 1), by omega, by omega, rfl, w⟩, fun v H2 hy => ?_⟩
    obtain ⟨ex, rv⟩ := st v H2 hy
    have h : g ds[i] (wipeD (wipeD ρ' vs) vs) _ := h
    rw [wipeD_idem] at h
    have s2 := s.step (s.rs.grow ex) (.grow ex)
    refine ⟨plus T L, wipeD ρ' vs, ds[i], _, s2.rs, rv _ (fun a => s.rs.hdDom) s.ex, h, fun ρ3 σ3 r3 p3 w3 h => ⟨by rw [w3]; exact wipe_idem σ vs, plus T L, ρ3, _, r3, h, fun b ρ4 H4 r4 p4 h => ?_⟩⟩
    have w4 : wipe σ3 vs = wipe σ vs := by rw [w3]; exact wipe_idem σ vs
    have s4 := (s2.step r3 p3).step r4 p4
    cases b with
    | false =>
      have := s4.wiped vs
      rw [w4] at this
      exact ⟨ρ4, acc, us, this, h⟩
    | true =>
      rw [if_pos rfl] at h
      dsimp only
      rw [if_pos rfl]
      exact hbd ρ4 σ3 H4 acc us _ _ w4 s4 h fun acc' ρ5 H5 us' s5 h5 => ⟨ρ5, acc', us', s5, h5⟩
  · have e : i = ds.length := by omega
    subst e
    rw [List.drop_length] at h
    exact .inl ⟨it.stop H' eG, hd acc ρ' H' us s h⟩
theorem one_bd {te : DE} {vs : List Nat} {σ : L2.St} (hL : H1 L = none) (ρ4 : Env) (σ3 : L2.St) (H4 : Hp) (acc : List D) (us : List L2.V) (cont : List D → Env → Prop) (Ny : Hp → Prop) (w : wipe σ3 vs = wipe σ vs) (s : LpS K T ρ1 σ1 H1 L G ρ4 σ3 H4 acc us) (h : bOne te acc ρ4 cont)
    (k : ∀ acc' ρ5 H5 us', LpS K T ρ1 σ1 H1 L G (wipeD ρ5 vs) (wipe σ vs) H5 acc' us' → cont acc' ρ5 → Ny H5) : bApp L (teOf K te) σ3 H4 Ny := by
  obtain ⟨hz, h⟩ := h
  refine ⟨plus T L, ρ4, _, s.rs, h, fun y ρ5 w5 H5 r5 p5 v5 h => ?_⟩
  have s5 := s.step r5 p5
  refine ⟨us, s5.at_, by rw [s5.all.length]; exact hz, ?_⟩
  have := (s5.push hL v5).wiped vs
  rw [w] at this
  exact k _ _ _ _ this h
end
section
variable {X : Cx}
theorem jl_lc2 {elt tg iter tg2 iter2 : Expr} {ifs ifs2 : List Expr} {scope : Scope} {own : List (Str × Nat)} {vs2 : List Nat} {pos : Pos} {fi fi2 : DL} {g g2 : DG} {tt tt2 : DT} {te : DE} (hc : X.calm = true) (hN : X.N.Nodup) (hi : JI X tg iter fi) (ok : BlkOk X.N X.env.scope scope own) (hv : ∀ i ∈ vs2, i ∈ own.map (·.2))
    (hg : ∀ (s : Shared) (H : Hp) (C : Addr) (cl : List (Str × Addr)) (fp : List Addr), JG (X.blk s H scope (compEnvC scope cl C X.env) fp) tg (own.map (·.2)) g) (ht : ∀ (s : Shared) (H : Hp) (C : Addr) (cl : List (Str × Addr)) (fp : List Addr), JTs (X.blk s H scope (compEnvC scope cl C X.env) fp) ifs tt)
    (hi2 : ∀ (s : Shared) (H : Hp) (C : Addr) (cl : List (Str × Addr)) (fp : List Addr), JI (X.blk s H scope (compEnvC scope cl C X.env) fp) tg2 iter2 fi2)
    (hg2 : ∀ (s : Shared) (H : Hp) (C : Addr) (cl : List (Str × Addr)) (fp : List Addr), JG (X.blk s H scope (compEnvC scope cl C X.env) fp) tg2 vs2 g2) (ht2 : ∀ (s : Shared) (H : Hp) (C : Addr) (cl : List (Str × Addr)) (fp : List Addr), JTs (X.blk s H scope (compEnvC scope cl C X.env) fp) ifs2 tt2)
    (he : ∀ (s : Shared) (H : Hp) (C : Addr) (cl : List (Str × Addr)) (fp : List Addr), JE (X.blk s H scope (compEnvC scope cl C X.env) fp) elt te)
    (te0 : TurnEq (.ListComp elt [⟨tg, iter, ifs, 0⟩, ⟨tg2, iter2, ifs2, 0⟩] scope pos) 0 iter.pos tg ifs (aFor (.ListComp elt [⟨tg, iter, ifs, 0⟩, ⟨tg2, iter2, ifs2, 0⟩] scope pos) 1 iter2) := by exact fun _ _ _ => by rfl)
    (te1 : TurnEq (.ListComp elt [⟨tg, iter, ifs, 0⟩, ⟨tg2, iter2, ifs2, 0⟩] scope pos) 1 iter2.pos tg2 ifs2 (aApp elt) := by exact fun _ _ _ => by rfl)
    (hs : ∀ x, foldedSetIterable iter X.env x = pure x := by intro _; rfl) (hs2 : ∀ (s : Shared) (H : Hp) (C : Addr) (cl : List (Str × Addr)) (fp : List Addr) z, foldedSetIterable iter2 (X.blk s H scope (compEnvC scope cl C X.env) fp).env z = pure z := by intro _ _ _ _ _ _; rfl) :
    JL X (.ListComp elt [⟨tg, iter, ifs, 0⟩, ⟨tg2, iter2, ifs2, 0⟩] scope pos) (lLc2 fi g tt fi2 g2 tt2 te (own.map (·.2)) vs2) := by
  refine ⟨_, pe_lcN (wi := wiOf X.K fi) (g := tgOf X.K (own.map (·.2)) g) (tt := ttOf X.K tt) (bd := fun D => bFor (wiOf X.K fi2) (tgOf X.K vs2 g2) (ttOf X.K tt2) (bApp D (teOf X.K te)) vs2) hc hN te0 hi.pi ok hv (fun s H C cl fp => (hg s H C cl fp).pg) (fun s H C cl fp => (ht s H C cl fp).pts)
    (fun D s H C cl fp => by
      have e1 : PE (X.blk s H scope (compEnvC scope cl C X.env) fp) elt (teOf X.K te) := (he s H C cl fp).pe
      have y1 : PI (X.blk s H scope (compEnvC scope cl C X.env) fp) tg2 iter2 (wiOf X.K fi2) := (hi2 s H C cl fp).pi
      have z1 : PG (X.blk s H scope (compEnvC scope cl C X.env) fp) tg2 (tgOf X.K vs2 g2) := (hg2 s H C cl fp).pg
      have z2 : PTs (X.blk s H scope (compEnvC scope cl C X.env) fp) ifs2 (ttOf X.K tt2) := (ht2 s H C cl fp).pts
      have f1 := hs2 s H C cl fp
      generalize hY : X.blk s H scope (compEnvC scope cl C X.env) fp = Y at e1 y1 z1 z2 f1
      have x1 : Y.xe = fun _ _ => False := by rw [← hY]
      have x2 : Y.calm = true := by rw [← hY]; exact hc
      exact act_for x1 x2 rfl te1 y1 z1 z2 (act_app x1 e1) (by simp) f1) hs, fun T ρ σ H QD Q r h q => ?_⟩
  refine ⟨T, ρ, _, r, h, fun ds ρ1 J H1 r1 p1 it h => ?_⟩
  intro L hL
  have eL : Ex (hide (Hd T ρ1 σ) H1) (hide (Hd (plus T L) ρ1 σ) (upd H1 L (.lst []))) := fun a o w => by
    obtain ⟨n, w⟩ := hide_some.1 w
    refine hide_some.2 ⟨?_, by rw [upd_ne (fun z => by rw [z, hL] at w; cases w)]; exact w⟩
    rintro ((t | t) | t)
    · subst t; rw [hL] at w; cases w
    · exact n (.inl t)
    · exact n (.inr t)
  have s0 : LpS X.K T ρ1 σ H1 L (hide (Hd T ρ1 σ) H1) ρ1 σ (upd H1 L (.lst [])) [] [] := ⟨r1.laid hL, .grow (Ex.new hL), upd_same, .nil, eL⟩
  refine loop_W (T := T) (ρ1 := ρ1) (σ1 := σ) (H1 := H1) (L := L) (ρs := ρ1) (B := bMany fi2 g2 tt2 te vs2) (QD := QD) it (fun ρ4 σ3 H4 acc us cont Ny w s h k => ?_) (s0.wiped _) h fun acc ρ' H' us s h => ?_
  · refine ⟨plus T L, ρ4, _, s.rs, h, fun es ρ5 J2 H5 r5 p5 it2 h => ?_⟩
    have s5 := s.step r5 p5
    have s6 : LpS X.K T ρ1 σ H1 L (hide (Hd (plus T L) ρ5 σ3) H5) ρ5 σ3 H5 acc us := ⟨s5.rs, s5.po, s5.at_, s5.all, Ex.refl _⟩
    refine loop_W (T := T) (ρ1 := ρ1) (σ1 := σ) (H1 := H1) (L := L) (ρs := ρ5) (B := bOne te) (QD := cont) it2 (fun ρ4' σ3' H4' acc' us' cont' Ny' w' s' h' k' => one_bd hL ρ4' σ3' H4' acc' us' cont' Ny' w' s' h' k') (s6.wiped vs2) h fun acc' ρ' H' us' s' h' => ?_
    have z := s'.wiped (own.map (·.2))
    rw [wipe_sub σ3 hv, w] at z
    exact k acc' _ H' us' ⟨z.rs, z.po, z.at_, z.all, s5.ex.trans z.ex⟩ h'
  · have r' := s.rs.unwipe
    refine q acc _ L us H' (none_back p1 hL) s.at_ r' (s.all.mono ?_) ?_ h
    · exact hide_sub fun a w => w.elim .inl fun w => .inr (own_unwipe w)
    · exact p1.trans ⟨s.po.keep, fun a w => s.po.own a (own_unwipe w), s.po.dom⟩
end
end Dn
set_option Elab.async false
set_option linter.all false
set_option maxRecDepth 100000
set_option autoImplicit false
set_option maxHeartbeats 4000000
namespace Dn
open PySem L2 Evl PySem.Spec PyProof.Rows
def rMulOwn (K : PySem.W.Frag) (C : Addr) (sp : Sp) (E : XK) : R2 := fun x y H Q => ∃ a dx fs, x = .ref a ∧ H a = some (.ins C dx fs) ∧ TyX K H y (.ref C) ∧ sp [x, y] H Q E
theorem op_mulOwn {X : Cx} {C f : Addr} {k : Nat} {sp : Sp} {E : XK} (hs : Slo X.K C "__mul__" f) (hc : PySem.W.selfFirst X.K C = true) (F : FnR X.prog X.w X.K X.mg X.base L2.CX0 k f sp) (hr : Room k X.A) (hx : Passes L2.CX0 X E) : OpR X (binaryOp .Mult) (rMulOwn X.K C sp E) := by
  intro pins s σ H x y v u Q I rx ry h
  obtain ⟨a, dx, fs, rfl, ha, ty, q⟩ := h
  cases (show v = Value.ref a from rx)
  obtain ⟨mA, J, _⟩ := ins_get I.hok ha
  obtain ⟨od, J, _⟩ := J.look
  obtain ⟨P, Z, p, _⟩ := kit_of I ry ty
  obtain ⟨m, hF⟩ := I.fr
  refine PySem.W.binop_K (op := .Mult) hF I.ok.mod.kin J (Z.ty _ _ I.kIn p) hc hs.at_ hs.fn ?_
  refine wpAny_mono (wpAny_call (run_fnR (us := [.ref a, u]) (vs := [.ref a, y]) F hr hx I (.cons rfl (.cons ry .nil)) q)) (fun w s' z => ?_) fun _ _ x => x
  obtain ⟨zr, Hr, Ir, rz, qz⟩ := z
  exact SlX.cmpback rz ⟨zr, Hr, Ir, rz, qz⟩
def dMulI (nm : Str) (S : List D → (D → Prop) → Prop) (fa fb : DE) : DE := fun ρ Q => fa ρ fun d ρ1 => fb ρ1 fun e ρ2 => (∃ es, d = obD nm es) ∧ (∃ es, e = obD nm es) ∧ S [d, e] fun z => Q z ρ2
theorem je_mulI {X : Cx} {a b : Expr} {fa fb : DE} {pos : Pos} {nm : Str} {k : Nat} {fl : List Str} {S : List D → (D → Prop) → Prop} (O : OkS X.prog X.w X.K X.mg X.base (adrOf X.K nm) "__mul__" k (spD X.K 2 S)) (cf : ClsF X.K X.mg nm fl) (hc : PySem.W.selfFirst X.K (adrOf X.K nm) = true) (hr : Room k X.A) (ha : JE X a fa) (hb : JE X b fb) : JE X (.BinOp a .Mult b pos) (dMulI nm S fa fb) := by
  obtain ⟨f, hs, F⟩ := O
  obtain ⟨ta, pa, ka⟩ := ha.ex
  obtain ⟨tb, pb, kb⟩ := hb.ex
  refine ⟨_, pe_op (op_mulOwn (E := fun _ _ _ => False) hs hc F hr (fun _ _ _ _ _ _ _ h => h.elim)) pa pb, fun T ρ σ H QD Q r h k => ka T ρ σ H _ _ r h fun d ρ1 v H1 r1 p1 v1 h => kb T ρ1 σ H1 _ _ r1 h fun e ρ2 w H2 r2 p2 v2 h => ?_⟩
  obtain ⟨⟨es1, rfl⟩, ⟨es2, rfl⟩, h⟩ := h
  have v1' := v1.mono p2.fz
  obtain ⟨l1, dx1, fs1, rfl, _, hg1, _⟩ := obj_rp v1'
  obtain ⟨l2, dx2, fs2, rfl, _, hg2, _⟩ := obj_rp v2
  refine ⟨l1, dx1, fs1, rfl, (hide_some.1 hg1).2, .base (.ins (hide_some.1 hg2).2 cf.ob.cls cf.ob.ha cf.ob.hn cf.ob.htk cf.ob.hm), rfl, Hd T ρ2 σ, _, _, fun a => r2.hdLv, .cons v1' (.cons v2 .nil), h, fun v d H' hq e rv' => k _ ρ2 _ H' (r2.grow e) ((p1.trans p2).trans (.grow e)) rv' hq⟩
end Dn
set_option Elab.async false
set_option linter.all false
set_option maxRecDepth 100000
set_option autoImplicit false
set_option maxHeartbeats 4000000
namespace Dn
open PySem L2 Evl PySem.Spec PyProof.Rows
def dInL (neg : Bool) : D → D → (D → Prop) → Prop := fun x y Q => ∃ ds, y = .list ds ∧ SeqAt.shaped x = true ∧ SeqAt.shaped y = true ∧ Q (.bool (if neg then !(ds.any fun z => PyData.eqv z x) else ds.any fun z => PyData.eqv z x))
end Dn
set_option Elab.async false
set_option linter.all false
set_option maxRecDepth 100000
set_option autoImplicit false
set_option maxHeartbeats 4000000
namespace Dn.T.K54.K56
open PySem L2 Evl PySem.Spec PyProof.Rows
abbrev w1D (s : Str) : D := .tuple [.str s]
def lefD (n : Nat) (d : Int → Int → Int) : D := tR ((rgI n).map fun x => inv ((rgI n).map (d x)))
def S_renamed_table_rows (ds : List D) (Q : D → Prop) : Prop := ∃ n f m, ds = [tRP (tabP n f), tI m] ∧ RgP n f ∧ Mv n m ∧ n ≤ 24 ∧ Q (tRP (tabP n (ren f m)))
def S_Passing__renamed (ds : List D) (Q : D → Prop) : Prop := ∃ n f m, ds = [pasD n f, tI m] ∧ Fr n f ∧ Mv n m ∧ n ≤ 8 ∧ Q (pasD n (ren f m))
def S_is_kept_lot (ds : List D) (Q : D → Prop) : Prop := ∃ n f ns, ds = [pasD n f, tI ns] ∧ RgP n f ∧ n ≤ 8 ∧ (∀ x, x ∈ ns → In n x) ∧ ns.length ≤ 30 ∧ isLot n (tI ns) = true ∧ qtB n f = true ∧ Q (.bool (closed f ns))
def Sub (f : F2) (ns : List Int) (h : F2) : Prop := ∀ i j, In ns.length i → In ns.length j → Pin ns.length (h i j) ∧ f (ns.getD i.toNat 0) (ns.getD j.toNat 0) = (ns.getD (h i j).1.toNat 0, ns.getD (h i j).2.toNat 0)
def S_part_table (ds : List D) (Q : D → Prop) : Prop := ∃ n f ns h, ds = [pasD n f, tI ns] ∧ RgP n f ∧ n ≤ 8 ∧ ns.length ≤ 8 ∧ ns.Nodup ∧ (∀ x, x ∈ ns → In n x) ∧ isLot n (tI ns) = true ∧ qtB n f = true ∧ closed f ns = true ∧ Sub f ns h ∧ Fr ns.length h ∧ Q (pasD ns.length h)
def S_orbits (ds : List D) (Q : D → Prop) : Prop := Dn.K01.S_orbits ds Q
def S_letter_parts (ds : List D) (Q : D → Prop) : Prop := ∃ n f, ds = [pasD n f] ∧ Fr n f ∧ n ≤ 8 ∧ qtB n f = true ∧ Q (tR (orbF (lftT n f) n))
abbrev unF (a b : Nat) (d e : Int → Int → Int) (f s : List Int) : F2 := qtF (a + b) (uni a d e (inv f) (inv s))
def S_bent_union (ds : List D) (Q : D → Prop) : Prop := ∃ a b d e f s, ds = [pasD a (qtF a d), pasD b (qtF b e), tI f, tI s] ∧ Cs a d ∧ Cs b e ∧ Mv b f ∧ Mv a s ∧ a + b ≤ 8 ∧ Kp b e f ∧ Kp a d s ∧ Q (pasD (a + b) (unF a b d e f s))
def S__law_union_told (ds : List D) (Q : D → Prop) : Prop := ∃ a b d e f s, ds = [pasD a (qtF a d), pasD b (qtF b e), tI f, tI s] ∧ Cs a d ∧ Cs b e ∧ Mv b f ∧ Mv a s ∧ a + b ≤ 8 ∧ (Kp b e f → Kp a d s → Q (pasD (a + b) (unF a b d e f s))) ∧ (¬ Kp b e f → Q (w1D "first")) ∧ (Kp b e f → ¬ Kp a d s → Q (w1D "second"))
def S__law_union_left (ds : List D) (Q : D → Prop) : Prop := ∃ a b g k f s, ds = [tL (tab a g), tL (tab b k), tI f, tI s] ∧ Rg a g ∧ Rg b k ∧ Mv b f ∧ Mv a s ∧ a + b ≤ 8 ∧ Q (tR (tab (a + b) (uni a g k f s)))
def S__pair_rows (ds : List D) (Q : D → Prop) : Prop := ∃ a b f g, ds = [tRP (tabP a f), tRP (tabP b g)] ∧ RgP a f ∧ RgP b g ∧ 1 ≤ b ∧ a * b ≤ 8 ∧ Q (tRP (tabP (a * b) fun k j => ((f (k / b) (j / b)).1 * b + (g (k % b) (j % b)).1, (f (k / b) (j / b)).2 * b + (g (k % b) (j % b)).2)))
def prdF (b : Nat) (f g : F2) : F2 := fun k j => ((f (k / b) (j / b)).1 * b + (g (k % b) (j % b)).1, (f (k / b) (j / b)).2 * b + (g (k % b) (j % b)).2)
def S_Passing____mul__ (ds : List D) (Q : D → Prop) : Prop := ∃ a b f g, ds = [pasD a f, pasD b g] ∧ Fr a f ∧ Fr b g ∧ 1 ≤ b ∧ a * b ≤ 8 ∧ Q (pasD (a * b) (prdF b f g))
def S__law_right (ms ds : List D) (Q : D → List D → Prop) : Prop := ds = [] ∧ Dc ms ∧ ∀ ms', Dc ms' → Q (.bool true) ms'
def S_law (ds : List D) (Q : D → Prop) : Prop := ∃ s, ds = [scr s] ∧ s.length ≤ 63 ∧ Q (.bool true)
end Dn.T.K54.K56
set_option Elab.async false
set_option linter.all false
set_option maxRecDepth 100000
set_option autoImplicit false
set_option maxHeartbeats 4000000
namespace Dn.T.K54.K56
open PySem L2 Evl PySem.Spec PyProof.Rows
abbrev N_renamed_table_rows : List Str := ["rows", "order", "names", "x", "y"]
abbrev P_renamed_table_rows : List Str := ["rows", "order"]
def g_renamed_table_rows : DS := sSeq (sSet 2 (xIm (dCallF 1 S_undone_move (aCons (dVar 1) (aNil))))) (sRet (dCall dTupOf (aCons (dOfL (lLc (iSq (dVar 1)) (gNm 3) (dYes) (dCall dTupOf (aCons (dOfL (lLc (iSq (dVar 1)) (gNm 4) (dYes) (dTup (aCons (dBin dIx (dVar 2) (dBin dIx (dBin dIx (dBin dIx (dVar 0) (dVar 3)) (dVar 4)) (dC (.int 0)))) (aCons (dBin dIx (dVar 2) (dBin dIx (dBin dIx (dBin dIx (dVar 0) (dVar 3)) (dVar 4)) (dC (.int 1)))) (aNil)))) [4])) (aNil))) [3])) (aNil))))
abbrev N_Passing__renamed : List Str := ["self", "order"]
abbrev P_Passing__renamed : List Str := ["self", "order"]
def g_Passing__renamed : DS := sSeq (sEx (dCallF 2 S_check_move_of (aCons (dVar 1) (aCons (dCall dLen (aCons (dFld "Passing" "_rows" (dVar 0)) (aNil))) (aNil))))) (sRet (dNew 2 "Passing" S_Passing____init__ (aCons (dCallF 2 S_renamed_table_rows (aCons (dFld "Passing" "_rows" (dVar 0)) (aCons (dVar 1) (aNil)))) (aNil))))
abbrev N__pair_rows : List Str := ["rows", "others", "size", "row", "other_row", "pair", "other"]
abbrev P__pair_rows : List Str := ["rows", "others"]
def g__pair_rows : DS := sSeq (sSet 2 (xIm (dCall dLen (aCons (dVar 1) (aNil))))) (sRet (dCall dTupOf (aCons (dOfL (lLc2 (iSq (dVar 0)) (gNm 3) (dYes) (iSq (dVar 1)) (gNm 4) (dYes) (dCall dTupOf (aCons (dOfL (lLc2 (iSq (dVar 3)) (gNm 5) (dYes) (iSq (dVar 4)) (gNm 6) (dYes) (dTup (aCons (dBin dAdd (dBin dMulA (dBin dIx (dVar 5) (dC (.int 0))) (dVar 2)) (dBin dIx (dVar 6) (dC (.int 0)))) (aCons (dBin dAdd (dBin dMulA (dBin dIx (dVar 5) (dC (.int 1))) (dVar 2)) (dBin dIx (dVar 6) (dC (.int 1)))) (aNil)))) [5, 6] [6])) (aNil))) [3, 4] [4])) (aNil))))
abbrev N_Passing____mul__ : List Str := ["self", "other"]
abbrev P_Passing____mul__ : List Str := ["self", "other"]
def g_Passing____mul__ : DS := sSeq (sIf (dTNot (dTst (dIsC [] "Passing" (dVar 1)))) (sNever) (sNx)) (sSeq (sIf (dTst (dBin dGt (dBin dMulA (dCall dLen (aCons (dFld "Passing" "_rows" (dVar 0)) (aNil))) (dCall dLen (aCons (dFld "Passing" "_rows" (dVar 1)) (aNil)))) (dC (.int 8)))) (sNever) (sNx)) (sRet (dNew 2 "Passing" S_Passing____init__ (aCons (dCallF 2 S__pair_rows (aCons (dFld "Passing" "_rows" (dVar 0)) (aCons (dFld "Passing" "_rows" (dVar 1)) (aNil)))) (aNil)))))
abbrev N__law_right : List Str := ["_law_dice_here", "_law_one", "_law_other", "_law_kept", "_law_others", "_law_first", "_law_second", "_law_tables", "_law_told", "_law_left", "_law_near", "_law_far", "_law_part"]
abbrev P__law_right : List Str := ["_law_dice_here"]
def g__law_right : DS := sSeq (sPar 1 2 (xIm (dCallM 0 3 S__law_quiet_dots (aCons (dC (.int 1)) (aCons (dBin dAdd (dC (.int 1)) (dCallM 0 2 S__law_roll (aCons (dC (.int 4)) (aNil)))) (aNil))))) (xIm (dCallM 0 3 S__law_quiet_dots (aCons (dC (.int 1)) (aCons (dBin dAdd (dC (.int 1)) (dCallM 0 2 S__law_roll (aCons (dC (.int 4)) (aNil)))) (aNil)))))) (sSeq (sPar 3 4 (xIm (dCallF 1 S__law_dots_likenesses (aCons (dVar 2) (aNil)))) (xIm (dCallF 1 S__law_dots_likenesses (aCons (dVar 1) (aNil))))) (sSeq (sSet 5 (xIm (dIfE (dTst (dBin dGt (dCallM 0 2 S__law_roll (aCons (dC (.int 3)) (aNil))) (dC (.int 0)))) (dCallM 0 2 S__law_pick (aCons (dVar 3) (aNil))) (dCallM 0 2 S__law_drawn_move (aCons (dCall dLen (aCons (dVar 2) (aNil))) (aNil)))))) (sSeq (sSet 6 (xIm (dIfE (dTst (dBin dGt (dCallM 0 2 S__law_roll (aCons (dC (.int 3)) (aNil))) (dC (.int 0)))) (dCallM 0 2 S__law_pick (aCons (dVar 4) (aNil))) (dCallM 0 2 S__law_drawn_move (aCons (dCall dLen (aCons (dVar 1) (aNil))) (aNil)))))) (sSeq (sSet 7 (xIm (dOfL (lLst (aCons (dCM 2 "Passing" "of_dots" S_Passing__of_dots (aCons (dCall dTupOf (aCons (dVar 1) (aNil))) (aNil))) (aCons (dCM 2 "Passing" "of_dots" S_Passing__of_dots (aCons (dCall dTupOf (aCons (dVar 2) (aNil))) (aNil))) (aNil))))))) (sSeq (sSet 8 (xIm (dCallF 4 S__law_union_told (aCons (dBin dIx (dVar 7) (dC (.int 0))) (aCons (dBin dIx (dVar 7) (dC (.int 1))) (aCons (dVar 5) (aCons (dVar 6) (aNil)))))))) (sSeq (sIf (dTOr (dTst (dBin (dInL true) (dVar 5) (dVar 3))) (dTst (dBin (dInL true) (dVar 6) (dVar 4)))) (sRet (dBin dEq (dVar 8) (dIfE (dTst (dBin (dInL true) (dVar 5) (dVar 3))) (dTup (aCons (dC (.str "first")) (aNil))) (dTup (aCons (dC (.str "second")) (aNil)))))) (sNx)) (sSeq (sSet 9 (xIm (dCallF 4 S__law_union_left (aCons (dCallF 1 S__law_dots_left (aCons (dVar 1) (aNil))) (aCons (dCallF 1 S__law_dots_left (aCons (dVar 2) (aNil))) (aCons (dVar 5) (aCons (dVar 6) (aNil)))))))) (sSeq (sIf (dTOr (dTst (dBin dNe (dProp "Passing" S_Passing__left (dVar 8)) (dVar 9))) (dTOr (dTNot (dTst (dProp "Passing" S_Passing__is_quiet (dVar 8)))) (dTst (dEqI [] "Passing" S_Passing____eq__ true (dVar 8) (dCM 2 "Passing" "of_left" S_Passing__of_left (aCons (dVar 9) (aNil))))))) (sRet (dC (.bool false))) (sNx)) (sSeq (sSet 10 (xIm (dTRg (rg1 (dCall dLen (aCons (dVar 1) (aNil))))))) (sSeq (sSet 11 (xIm (dTRg (rg2 (dCall dLen (aCons (dVar 1) (aNil))) (dBin dAdd (dCall dLen (aCons (dVar 1) (aNil))) (dCall dLen (aCons (dVar 2) (aNil)))))))) (sSeq (sIf (dTOr (dTNot (dTst (dCallF 2 S_is_kept_lot (aCons (dVar 8) (aCons (dVar 10) (aNil)))))) (dTOr (dTNot (dTst (dCallF 2 S_is_kept_lot (aCons (dVar 8) (aCons (dVar 11) (aNil)))))) (dTNot (dTst (dCallF 2 S_is_falls_paper (aCons (dVar 8) (aCons (dTup (aCons (dC (.str "parts")) (aCons (dVar 11) (aCons (dVar 10) (aNil))))) (aNil)))))))) (sRet (dC (.bool false))) (sNx)) (sSeq (sIf (dTOr (dTst (dEqI [] "Passing" S_Passing____eq__ true (dCallF 2 S_part_table (aCons (dVar 8) (aCons (dVar 10) (aNil)))) (dBin dIx (dVar 7) (dC (.int 0))))) (dTst (dEqI [] "Passing" S_Passing____eq__ true (dCallF 2 S_part_table (aCons (dVar 8) (aCons (dVar 11) (aNil)))) (dBin dIx (dVar 7) (dC (.int 1)))))) (sRet (dC (.bool false))) (sNx)) (sRet (dCall dAll (aCons (dOfL (lLc (iSq (dCallF 1 S_letter_parts (aCons (dVar 8) (aNil)))) (gNm 12) (dYes) (dOr (dBin dLt (dBin dIx (dVar 12) (dNeg (dC (.int 1)))) (dCall dLen (aCons (dVar 1) (aNil)))) (dBin dGe (dBin dIx (dVar 12) (dC (.int 0))) (dCall dLen (aCons (dVar 1) (aNil))))) [12])) (aNil))))))))))))))))
abbrev N_law : List Str := ["_law_script", "_law_spot", "_law_dice_here", "_law_switch", "_law_empty"]
abbrev P_law : List Str := ["_law_script"]
def g_law : DS := sSeq (sFor (iR1 (dCall dMax2 (aCons (dC (.int 1)) (aCons (dCall dMin2 (aCons (dC (.int 4)) (aCons (dCall dLen (aCons (dVar 0) (aNil))) (aNil)))) (aNil))))) (gNm 1) (sSeq (sSet 2 (xOw (lCall 2 S__law_dice (aCons (dVar 0) (aCons (dVar 1) (aNil)))))) (sIf (dTOr (dTNot (dTst (dCallM 2 1 S__law_right (aNil)))) (dTNot (dTst (dCallM 2 1 S__law_right (aNil))))) (sRet (dC (.bool false))) (sNx)))) (sSeq (sSet 3 (xIm (dCM 2 "Passing" "of_left" S_Passing__of_left (aCons (dTup (aCons (dTup (aCons (dC (.int 1)) (aCons (dC (.int 0)) (aNil)))) (aCons (dTup (aCons (dC (.int 1)) (aCons (dC (.int 0)) (aNil)))) (aNil)))) (aNil))))) (sSeq (sIf (dTst (dBin dNe (dCallF 1 S_letter_parts (aCons (dMulI "Passing" S_Passing____mul__ (dVar 3) (dVar 3)) (aNil))) (dTup (aCons (dTup (aCons (dC (.int 0)) (aCons (dC (.int 3)) (aNil)))) (aCons (dTup (aCons (dC (.int 1)) (aCons (dC (.int 2)) (aNil)))) (aNil)))))) (sRet (dC (.bool false))) (sNx)) (sSeq (sSet 4 (xIm (dCM 2 "Passing" "unmoved" S_Passing__unmoved (aCons (dC (.int 0)) (aNil))))) (sRet (dAnd (dEqI [] "Passing" S_Passing____eq__ false (dCallF 4 S_bent_union (aCons (dVar 4) (aCons (dVar 3) (aCons (dTup (aCons (dC (.int 1)) (aCons (dC (.int 0)) (aNil)))) (aCons (dTup (aNil)) (aNil)))))) (dVar 3)) (dEqI [] "Passing" S_Passing____eq__ false (dCallF 4 S_bent_union (aCons (dVar 3) (aCons (dVar 4) (aCons (dTup (aNil)) (aCons (dTup (aCons (dC (.int 0)) (aCons (dC (.int 1)) (aNil)))) (aNil)))))) (dVar 3)))))))
end Dn.T.K54.K56
set_option Elab.async false
set_option linter.all false
set_option maxRecDepth 100000
set_option autoImplicit false
set_option maxHeartbeats 4000000
namespace Dn.T.K54.K56
open PySem L2 Evl PySem.Spec PyProof.Rows
local macro_rules | `(tactic| walk_at "dd") => `(tactic| simp only [sSeq, sIf, sSet, sRet, sRetN, sNx, sEx, sAsg, sPar, dTOr, dTAnd, dTNot, dTst, dIsi, dVar, dC, dBin, dChain, dNeg, dI2, dAnd, dOr, dNot, dIfE, dCall, dCallF, aCons, aNil, dTup, lLst, dOfL, xIm, xOw, gNm, gTp, gsCons, gsNil, dYes, envD, dLen_tR, dLen_tI, dLen_tup, dLen_lst, seq_tR, seq_tI, seq_tup, seq_lst, dIs, dIsNot, dNe, dEq, dTupOf, dSl, oNone, oSome, iSq, iEn, iR1, iR2, sFor, lLc, sNever, dTRg, rg1, rg2, lRg, wipeD, isN,
  gTpL, dIxP, sSub, dApp, dPopAt, dExt, dCallM, dCallO, dBinO, dTupO, lOf, lOfO, sRetO, iOw, dVarF, lCat, lCall, dAbs, dMax2, dMin2, dInt, atO, setO, MO.getL, MO.putL, Option.isSome_some,
  dInK, dGetK, dGetD, dInD, dGet1, lKeys, lSort, dLenSet, dLenSetL, dLenSet2, sPar3, dRevT, sPutK, xDct, xDct1, sRetK, atK, keyD, sAugI, dFld, sFldD, xRng, iRgO, dNew, dNewV, dCM, dProp, dMeth, dLenI, dStrO, dEqI, dIsC, dJoin, dJs, dFmt, dCallML, sSubI, gSubW, sWh, sRaise, xNewV1, xNew, xNewV, xCall, xCM, xIf, xOf, sTry, sSui, sRetX, sExX, sSetX, dErr, dLenSetU, dRepU, dKeep2, lSortSet, lSortTu, lDc, dRepT, lRep, dStrI, xDctT1, xDctOf, dInT, sPutT, lSortT2, lSortDT, dPop, dBinR, dKeep, dCallMO, atT, dCallO,
  kit_int, kit_bool, kit_tuple, kit_str, List.map_cons, List.map_nil, List.cons_append, List.nil_append, List.replicate, List.set_cons_zero, List.set_cons_succ, List.getElem?_cons_zero, List.getElem?_cons_succ, List.length_cons, List.length_nil, List.length_map, Nat.reduceAdd, Nat.reduceSub, Bool.not_true, Bool.not_false, Bool.false_eq_true, if_true, if_false, true_and, reduceCtorEq, Bool.true_eq_false, rgD_rgI, Option.some.injEq, exists_eq_left', and_true])
theorem v_renamed_table_rows : VD g_renamed_table_rows S_renamed_table_rows 2 3 := fun ds Q _ h => by
  obtain ⟨n, f, m, rfl, R, hm, hn, h⟩ := h
  have ml := hm.len
  have hi := inv_mv hm
  have mm : ∀ x, x ∈ m → In n x := fun x hx => In.mem.1 (hm.mem_iff.mp hx)
  unfold g_renamed_table_rows
  walk_at "dd"
  refine ⟨n, m, rfl, hm, hn, ?_⟩
  try walk_at "dd"
  refine wpLc_mapL m PyData.int (fun x => tPs (m.map fun y => (im (inv m) (f x y).1, im (inv m) (f x y).2))) (by omega) rfl (fun x hx K hK => ?_) (fun _ => rfl) ?_
  · have hx := mm x hx
    try walk_at "dd"
    refine wpLc_mapL m PyData.int (fun y => tP (im (inv m) (f x y).1, im (inv m) (f x y).2)) (by omega) rfl (fun y hy K2 hK2 => ?_) (fun _ => rfl) ?_
    · have hy := mm y hy
      have p := R x y hx hy
      try walk_at "dd"
      exact ixR1 hx (ixR2 hy (ixP0 (ixM hi p.1 (ixR1 hx (ixR2 hy (ixP1 (ixM hi p.2 ⟨by decide, hK2 _ rfl⟩)))))))
    · try walk_at "dd"
      rw [tPs_map]
      exact hK _ rfl
  · try walk_at "dd"
    rw [tRP_map, show (m.map fun x => m.map fun y => (im (inv m) (f x y).1, im (inv m) (f x y).2)) = tabP n (ren f m) from ?_]
    · exact h
    · conv => lhs; rw [mv_self hm]
      unfold tabP ren
      rw [List.map_map]
      refine List.map_congr_left fun x hx => ?_
      show (((rgI n).map (im m)).map fun y => (im (inv ((rgI n).map (im m))) (f (im m x) y).1, im (inv ((rgI n).map (im m))) (f (im m x) y).2)) = _
      rw [← mv_self hm, mv_self hm, List.map_map, ← mv_self hm]
      rfl
theorem v_Passing__renamed : VD g_Passing__renamed S_Passing__renamed 2 0 := fun ds Q _ h => by
  obtain ⟨n, f, m, rfl, hF, hm, hn, h⟩ := h
  unfold g_Passing__renamed
  walk_at "dd"
  refine ⟨_, _, rfl, rfl, ?_⟩
  rw [dLen_tRP, tabP_len]
  exact ⟨_, _, rfl, (move_perm hm (by omega)).2, _, _, rfl, rfl, n, f, m, rfl, hF.rg, hm, by omega, n, _, rfl, fr_ren hF hm, hn, h⟩
theorem okL_tI {ns : List Int} (h : ns.length ≤ 30) : okL (tI ns) := fun xs e => by
  have e : .tuple (ns.map PyData.int) = PyData.tuple xs := e
  cases e
  simpa using h
theorem row_fr {n : Nat} {f : F2} (hF : Fr n f) {x : Int} (hx : In n x) : Mv n ((rgI n).map fun y => (f x y).1) := mv_map (fun y a b => (hF.rg x y hx ⟨a, b⟩).1) fun y z a b c e q => hF.li x y z hx ⟨a, b⟩ ⟨c, e⟩ q
theorem mk_lft {n : Nat} {f : F2} (hF : Fr n f) (hn : n ≤ 8) : Mk n (lftT n f) := ⟨by unfold lftT; rw [tab_len]; omega, by omega, fun m hm => by
  obtain ⟨x, hx, rfl⟩ := List.mem_map.mp hm
  exact row_fr hF (In.mem.1 hx)⟩
end Dn.T.K54.K56
set_option Elab.async false
set_option linter.all false
set_option maxRecDepth 100000
set_option autoImplicit false
set_option maxHeartbeats 4000000
namespace Dn.T.K54.K56
open PySem L2 Evl PySem.Spec PyProof.Rows
theorem kp_inv {n : Nat} {d : Int → Int → Int} {m : List Int} (hC : Cs n d) (hm : Mv n m) (k : Kp n d m) : Kp n d (inv m) := fun x y hx hy => by
  have ix := mv_in (inv_mv hm) hx
  have iy := mv_in (inv_mv hm) hy
  have := k _ _ ix iy
  rw [inv_r hm hx, inv_r hm hy] at this
  rw [← this, inv_l hm (hC.rg _ _ ix iy)]
section
variable {a b : Nat} {d e : Int → Int → Int} {f s : List Int} (hC : Cs a d) (hE : Cs b e) (hf : Mv b f) (hs : Mv a s)
include hC hE hf hs
theorem un_v {x y : Int} (hx : In (a + b) x) (hy : In (a + b) y) : In (a + b) (uni a (sgm a d) (sgm b e) f s x y) ∧ uni a d e (inv f) (inv s) x (uni a (sgm a d) (sgm b e) f s x y) = y := by
  obtain ⟨s1, s2⟩ := sgm_ok hC
  obtain ⟨t1, t2⟩ := sgm_ok hE
  by_cases lx : x < a
  · have xa := in_lo hx lx
    by_cases ly : y < a
    · have ya := in_lo hy ly
      have g := s1 x y xa ya
      have e1 : uni a (sgm a d) (sgm b e) f s x y = sgm a d x y := by unfold uni; rw [if_pos lx, if_pos ly]
      rw [e1]
      refine ⟨⟨g.1, by have := g.2; omega⟩, ?_⟩
      unfold uni
      rw [if_pos lx, if_pos g.2, s2 x y xa ya]
    · have yb := in_sub hy ly
      have g := mv_in hf yb
      have e1 : uni a (sgm a d) (sgm b e) f s x y = a + im f (y - a) := by unfold uni; rw [if_pos lx, if_neg ly]
      rw [e1]
      have g1 := g.1
      have g2 := g.2
      refine ⟨⟨by omega, by omega⟩, ?_⟩
      unfold uni
      rw [if_pos lx, if_neg (by omega), show (a : Int) + im f (y - a) - a = im f (y - a) from by omega, inv_l hf yb]
      omega
  · have xb := in_sub hx lx
    by_cases ly : y < a
    · have ya := in_lo hy ly
      have g := mv_in hs ya
      have e1 : uni a (sgm a d) (sgm b e) f s x y = im s y := by unfold uni; rw [if_neg lx, if_pos ly]
      rw [e1]
      refine ⟨⟨g.1, by have := g.2; omega⟩, ?_⟩
      unfold uni
      rw [if_neg lx, if_pos g.2, inv_l hs ya]
    · have yb := in_sub hy ly
      have g := t1 _ _ xb yb
      have e1 : uni a (sgm a d) (sgm b e) f s x y = a + sgm b e (x - a) (y - a) := by unfold uni; rw [if_neg lx, if_neg ly]
      rw [e1]
      have g1 := g.1
      have g2 := g.2
      refine ⟨⟨by omega, by omega⟩, ?_⟩
      unfold uni
      rw [if_neg lx, if_neg (by omega), show (a : Int) + sgm b e (x - a) (y - a) - a = sgm b e (x - a) (y - a) from by omega, t2 _ _ xb yb]
      omega
variable (kf : Kp b e f) (ks : Kp a d s)
include kf ks
theorem un_cs : Cs (a + b) (uni a d e (inv f) (inv s)) := cs_uni hC hE (inv_mv hf) (inv_mv hs) (kp_inv hE hf kf) (kp_inv hC hs ks)
theorem un_sgm {x y : Int} (hx : In (a + b) x) (hy : In (a + b) y) : sgm (a + b) (uni a d e (inv f) (inv s)) x y = uni a (sgm a d) (sgm b e) f s x y := by
  have hU := un_cs hC hE hf hs kf ks
  obtain ⟨s1, s2⟩ := sgm_ok hU
  obtain ⟨v1, v2⟩ := un_v hC hE hf hs hx hy
  exact hU.inj x _ _ hx (s1 x y hx hy) v1 (by rw [s2 x y hx hy, v2])
theorem un_lft : lftT (a + b) (unF a b d e f s) = tab (a + b) (uni a (sgm a d) (sgm b e) f s) := tab_ext fun x y hx hy => un_sgm hC hE hf hs kf ks hx hy
theorem un_lef : lefD (a + b) (uni a d e (inv f) (inv s)) = tR (tab (a + b) (uni a (sgm a d) (sgm b e) f s)) := by
  rw [← un_lft hC hE hf hs kf ks]
  have hU := un_cs hC hE hf hs kf ks
  unfold lefD lftT tab
  congr 1
  refine List.map_congr_left fun x hx => ?_
  rw [inv_map (row_cs hU (In.mem.1 hx))]
  rfl
end
theorem qt_qtF {n : Nat} {d : Int → Int → Int} (hC : Cs n d) : Fr n (qtF n d) ∧ qtB n (qtF n d) = true := by
  obtain ⟨s1, s2⟩ := sgm_ok hC
  exact ⟨(fr_cs hC s1 s2).1, qtB_iff.2 (fr_cs hC s1 s2).2⟩
theorem dAdd_int (i j : Int) (Q : D → Prop) : dAdd (.int i) (.int j) Q = Q (.int (i + j)) := by simp only [dAdd]
theorem dGt_int (i j : Int) (Q : D → Prop) : dGt (.int i) (.int j) Q = Q (.bool (decide (j < i))) := by simp only [dGt, dI2, true_and]
end Dn.T.K54.K56
set_option Elab.async false
set_option linter.all false
set_option maxRecDepth 100000
set_option autoImplicit false
set_option maxHeartbeats 4000000
namespace Dn.T.K54.K56
open PySem L2 Evl PySem.Spec PyProof.Rows
local macro_rules | `(tactic| walk_at "dd") => `(tactic| simp only [sSeq, sIf, sSet, sRet, sRetN, sNx, sEx, sAsg, sPar, dTOr, dTAnd, dTNot, dTst, dIsi, dVar, dC, dBin, dChain, dNeg, dI2, dAnd, dOr, dNot, dIfE, dCall, dCallF, aCons, aNil, dTup, lLst, dOfL, xIm, xOw, gNm, gTp, gsCons, gsNil, dYes, envD, dLen_tR, dLen_tI, dLen_tup, dLen_lst, seq_tR, seq_tI, seq_tup, seq_lst, dIs, dIsNot, dNe, dEq, dTupOf, dSl, oNone, oSome, iSq, iEn, iR1, iR2, sFor, lLc, sNever, dTRg, rg1, rg2, lRg, wipeD, isN,
  gTpL, dIxP, sSub, dApp, dPopAt, dExt, dCallM, dCallO, dBinO, dTupO, lOf, lOfO, sRetO, iOw, dVarF, lCat, lCall, dAbs, dMax2, dMin2, dInt, atO, setO, MO.getL, MO.putL, Option.isSome_some,
  dInK, dGetK, dGetD, dInD, dGet1, lKeys, lSort, dLenSet, dLenSetL, dLenSet2, sPar3, dRevT, sPutK, xDct, xDct1, sRetK, atK, keyD, sAugI, dFld, sFldD, xRng, iRgO, dNew, dNewV, dCM, dProp, dMeth, dLenI, dStrO, dEqI, dIsC, dJoin, dJs, dFmt, dCallML, sSubI, gSubW, sWh, lLc2, bMany, bOne, dMulI, dOfK, sRaise, xNewV1, xNew, xNewV, xCall, xCM, xIf, xOf, sTry, sSui, sRetX, sExX, sSetX, dErr, dLenSetU, dRepU, dKeep2, lSortSet, lSortTu, lDc, dRepT, lRep, dStrI, xDctT1, xDctOf, dInT, sPutT, lSortT2, lSortDT, dPop, dBinR, dKeep, dCallMO, atT, dCallO,
  kit_int, kit_bool, kit_tuple, kit_str, List.map_cons, List.map_nil, List.cons_append, List.nil_append, List.replicate, List.set_cons_zero, List.set_cons_succ, List.getElem?_cons_zero, List.getElem?_cons_succ, List.length_cons, List.length_nil, List.length_map, Nat.reduceAdd, Nat.reduceSub, Bool.not_true, Bool.not_false, Bool.false_eq_true, if_true, if_false, true_and, reduceCtorEq, Bool.true_eq_false, rgD_rgI, Option.some.injEq, exists_eq_left', and_true])
theorem wpLcB_flat {α : Type} {g : DG} {tt : DT} {B : DB} {vs : List Nat} {Q : List D → Env → Prop} (f : α → D) (h : α → List D) {ρ0 : Env} (cap : Nat) (hw : wipeD ρ0 vs = ρ0) (hf : ∀ ρ1, tt ρ1 = fun K => K true ρ1) : ∀ (l : List α)
    (_ : ∀ x, x ∈ l → ∀ (acc : List D) (K : List D → Env → Prop), acc.length + (h x).length ≤ cap → (∀ ρ3, wipeD ρ3 vs = ρ0 → K (acc ++ h x) ρ3) → g (f x) ρ0 fun ρ1 => B acc ρ1 K) (acc : List D), acc.length + (l.flatMap h).length ≤ cap → Q (acc ++ l.flatMap h) ρ0 → wpLcB g tt B vs Q (l.map f) acc ρ0
  | [], _, acc, _, q => by
    rw [List.flatMap_nil, List.append_nil] at q
    exact q
  | x :: l, hs, acc, hc, q => by
    show g (f x) (wipeD ρ0 vs) fun ρ1 => tt ρ1 fun b ρ2 => if b = true then B acc ρ2 fun acc' ρ3 => wpLcB g tt B vs Q (l.map f) acc' (wipeD ρ3 vs) else wpLcB g tt B vs Q (l.map f) acc (wipeD ρ2 vs)
    rw [hw]
    have e : (fun ρ1 => tt ρ1 fun b ρ2 => if b = true then B acc ρ2 fun acc' ρ3 => wpLcB g tt B vs Q (l.map f) acc' (wipeD ρ3 vs) else wpLcB g tt B vs Q (l.map f) acc (wipeD ρ2 vs)) = fun ρ1 => B acc ρ1 fun acc' ρ3 => wpLcB g tt B vs Q (l.map f) acc' (wipeD ρ3 vs) := by
      funext ρ1
      rw [hf]
      simp
    rw [e]
    rw [List.flatMap_cons, List.length_append] at hc
    refine hs x (by simp) acc _ (by omega) fun ρ3 e3 => ?_
    rw [e3]
    refine wpLcB_flat f h cap hw hf l (fun y hy => hs y (by simp [hy])) _ (by simp only [List.length_append]; omega) ?_
    rw [List.flatMap_cons] at q
    rw [List.append_assoc]
    exact q
theorem flat1 {α β : Type} (l : List α) (f : α → β) : (l.flatMap fun x => [f x]) = l.map f := by
  induction l with
  | nil => rfl
  | cons x l ih => rw [List.flatMap_cons, ih]; rfl
theorem rgI_mul {β : Type} (a b : Nat) (G : Int → β) : (rgI (a * b)).map G = (rgI a).flatMap fun x => (rgI b).map fun y => G (x * b + y) := by
  induction a with
  | zero => rw [Nat.zero_mul]; rfl
  | succ a ih =>
    rw [Nat.succ_mul, rgI_add, List.map_append, ih, rgI_succ, List.flatMap_append, List.map_map]
    congr 1
    rw [List.flatMap_cons, List.flatMap_nil, List.append_nil]
    refine List.map_congr_left fun y _ => ?_
    show G (((a * b : Nat) : Int) + y) = G ((a : Int) * b + y)
    congr 2
theorem fm_congr {α β : Type} {l : List α} {f g : α → List β} (h : ∀ x, x ∈ l → f x = g x) : l.flatMap f = l.flatMap g := by
  induction l with
  | nil => rfl
  | cons x l ih => rw [List.flatMap_cons, List.flatMap_cons, h x (by simp), ih fun y hy => h y (by simp [hy])]
theorem flat_len2 (a b : Nat) {β : Type} (h : Int → Int → β) : ((rgI a).flatMap fun x => (rgI b).map fun y => h x y).length = a * b := by
  rw [Dn.flat_len _ _ b fun x _ => by rw [List.length_map, rgI_len], rgI_len]
def pairP (b : Nat) (p q : Int × Int) : Int × Int := (p.1 * b + q.1, p.2 * b + q.2)
theorem prd_tab {a b : Nat} {f g : F2} (b1 : 1 ≤ b) : tabP (a * b) (prdF b f g) = (rgI a).flatMap fun x => (rgI b).map fun y => (rgI a).flatMap fun u => (rgI b).map fun v => pairP b (f x u) (g y v) := by
  unfold tabP
  rw [rgI_mul]
  refine fm_congr fun x hx => List.map_congr_left fun y hy => ?_
  rw [rgI_mul]
  refine fm_congr fun u hu => List.map_congr_left fun v hv => ?_
  obtain ⟨_, e1, e2⟩ := dm_mk (In.mem.1 hx) (In.mem.1 hy)
  obtain ⟨_, e3, e4⟩ := dm_mk (In.mem.1 hu) (In.mem.1 hv)
  unfold prdF pairP
  rw [e1, e2, e3, e4]
theorem mulA_ok {i j : Int} {Q : D → Prop} (h : CMul i j ∨ CMulW i j) (q : Q (.int (i * j))) : dMulA (.int i) (.int j) Q := by simp only [dMulA, dI2]; exact ⟨h, q⟩
theorem v__pair_rows : VD g__pair_rows S__pair_rows 2 5 := fun ds Q _ h => by
  obtain ⟨a, b, f, g, rfl, R1, R2, b1, l8, h⟩ := h
  unfold g__pair_rows
  walk_at "dd"
  rw [dLen_tRP, tabP_len]
  refine ⟨(tabP a f).map tPs, rfl, ?_⟩
  have ta : (tabP a f).map tPs = (rgI a).map fun x => tPs ((rgI a).map (f x)) := by unfold tabP; rw [List.map_map]; rfl
  have tb : (tabP b g).map tPs = (rgI b).map fun x => tPs ((rgI b).map (g x)) := by unfold tabP; rw [List.map_map]; rfl
  rw [ta]
  refine wpLcB_flat (fun x => tPs ((rgI a).map (f x))) (fun x => (rgI b).map fun y => tPs ((rgI a).flatMap fun u => (rgI b).map fun v => pairP b (f x u) (g y v))) 100 rfl (fun _ => rfl) (rgI a) (fun x hx acc K hc hK => ?_) [] ?_ ?_
  · try walk_at "dd"
    refine ⟨(tabP b g).map tPs, rfl, ?_⟩
    rw [tb]
    rw [List.length_map, rgI_len] at hc
    refine wpLcB_flat (fun y => tPs ((rgI b).map (g y))) (fun y => [tPs ((rgI a).flatMap fun u => (rgI b).map fun v => pairP b (f x u) (g y v))]) 100 rfl (fun _ => rfl) (rgI b) (fun y hy acc2 K2 hc2 hK2 => ?_) acc ?_ ?_
    · try walk_at "dd"
      have hc3 : acc2.length + 1 ≤ 100 := by simpa using hc2
      refine ⟨by omega, ((rgI a).map (f x)).map tP, rfl, ?_⟩
      rw [List.map_map]
      refine wpLcB_flat (tP ∘ f x) (fun u => (rgI b).map fun v => tP (pairP b (f x u) (g y v))) 100 rfl (fun _ => rfl) (rgI a) (fun u hu acc3 K3 hc3 hK3 => ?_) [] ?_ ?_
      · try walk_at "dd"
        refine ⟨((rgI b).map (g y)).map tP, rfl, ?_⟩
        rw [List.map_map]
        rw [List.length_map, rgI_len] at hc3
        refine wpLcB_flat (tP ∘ g y) (fun v => [tP (pairP b (f x u) (g y v))]) 100 rfl (fun _ => rfl) (rgI b) (fun v hv acc4 K4 hc4 hK4 => ?_) acc3 ?_ ?_
        · try walk_at "dd"
          have b8 : b ≤ 8 := Nat.le_trans (Nat.le_mul_of_pos_left b (by have := (In.mem.1 hx).1; have := (In.mem.1 hx).2; omega)) l8
          have hc5 : acc4.length + 1 ≤ 100 := by simpa using hc4
          refine ⟨by omega, ?_⟩
          refine ixP0 ?_
          refine mulA_ok (cm_r ⟨by omega, by omega⟩) ?_
          refine ixP0 ?_
          rw [dAdd_int]
          refine ixP1 ?_
          refine mulA_ok (cm_r ⟨by omega, by omega⟩) ?_
          refine ixP1 ?_
          rw [dAdd_int]
          exact ⟨by decide, hK4 _ rfl⟩
        · rw [flat1, List.length_map, rgI_len]; omega
        · rw [flat1]; exact hK3 _ rfl
      · rw [flat_len2]; simp; omega
      · try walk_at "dd"
        rw [show ((rgI a).flatMap fun u => (rgI b).map fun v => tP (pairP b (f x u) (g y v))) = ((rgI a).flatMap fun u => (rgI b).map fun v => pairP b (f x u) (g y v)).map tP from by
          rw [List.map_flatMap]
          refine fm_congr fun u _ => ?_
          rw [List.map_map]; rfl]
        exact hK2 _ rfl
    · rw [flat1, List.length_map, rgI_len]; omega
    · rw [flat1]; exact hK _ rfl
  · rw [flat_len2]; simp; omega
  · try walk_at "dd"
    have e : PyData.tuple ((rgI a).flatMap fun x => (rgI b).map fun y => tPs ((rgI a).flatMap fun u => (rgI b).map fun v => pairP b (f x u) (g y v))) = tRP (tabP (a * b) (prdF b f g)) := by
      rw [prd_tab b1]
      unfold tRP
      rw [List.map_flatMap]
      congr 1
      refine fm_congr fun x _ => ?_
      rw [List.map_map]; rfl
    rw [e]
    exact h
end Dn.T.K54.K56
set_option Elab.async false
set_option linter.all false
set_option maxRecDepth 100000
set_option autoImplicit false
set_option maxHeartbeats 4000000
namespace Dn.T.K54.K56
open PySem L2 Evl PySem.Spec PyProof.Rows
local macro_rules | `(tactic| walk_at "dd") => `(tactic| simp only [sSeq, sIf, sSet, sRet, sRetN, sNx, sEx, sAsg, sPar, dTOr, dTAnd, dTNot, dTst, dIsi, dVar, dC, dBin, dChain, dNeg, dI2, dAnd, dOr, dNot, dIfE, dCall, dCallF, aCons, aNil, dTup, lLst, dOfL, xIm, xOw, gNm, gTp, gsCons, gsNil, dYes, envD, dLen_tR, dLen_tI, dLen_tup, dLen_lst, seq_tR, seq_tI, seq_tup, seq_lst, dIs, dIsNot, dNe, dEq, dTupOf, dSl, oNone, oSome, iSq, iEn, iR1, iR2, sFor, lLc, sNever, dTRg, rg1, rg2, lRg, wipeD, isN,
  gTpL, dIxP, sSub, dApp, dPopAt, dExt, dCallM, dCallO, dBinO, dTupO, lOf, lOfO, sRetO, iOw, dVarF, lCat, lCall, dAbs, dMax2, dMin2, dInt, atO, setO, MO.getL, MO.putL, Option.isSome_some,
  dInK, dGetK, dGetD, dInD, dGet1, lKeys, lSort, dLenSet, dLenSetL, dLenSet2, sPar3, dRevT, sPutK, xDct, xDct1, sRetK, atK, keyD, sAugI, dFld, sFldD, xRng, iRgO, dNew, dNewV, dCM, dProp, dMeth, dLenI, dStrO, dEqI, dIsC, dJoin, dJs, dFmt, dCallML, sSubI, gSubW, sWh, lLc2, bMany, bOne, dMulI, dOfK, sRaise, xNewV1, xNew, xNewV, xCall, xCM, xIf, xOf, sTry, sSui, sRetX, sExX, sSetX, dErr, dLenSetU, dRepU, dKeep2, lSortSet, lSortTu, lDc, dRepT, lRep, dStrI, xDctT1, xDctOf, dInT, sPutT, lSortT2, lSortDT, dPop, dBinR, dKeep, dCallMO, atT, dCallO,
  kit_int, kit_bool, kit_tuple, kit_str, List.map_cons, List.map_nil, List.cons_append, List.nil_append, List.replicate, List.set_cons_zero, List.set_cons_succ, List.getElem?_cons_zero, List.getElem?_cons_succ, List.length_cons, List.length_nil, List.length_map, Nat.reduceAdd, Nat.reduceSub, Bool.not_true, Bool.not_false, Bool.false_eq_true, if_true, if_false, true_and, reduceCtorEq, Bool.true_eq_false, rgD_rgI, Option.some.injEq, exists_eq_left', and_true])
structure PD (a b : Nat) (f g : F2) (k j : Int) : Prop where
  pin : Pin (a * b) (prdF b f g k j)
  d1 : (prdF b f g k j).1 / b = (f (k / b) (j / b)).1
  m1 : (prdF b f g k j).1 % b = (g (k % b) (j % b)).1
  d2 : (prdF b f g k j).2 / b = (f (k / b) (j / b)).2
  m2 : (prdF b f g k j).2 % b = (g (k % b) (j % b)).2
theorem pd_of {a b : Nat} {f g : F2} (hf : RgP a f) (hg : RgP b g) (b1 : 1 ≤ b) {k j : Int} (hk : In (a * b) k) (hj : In (a * b) j) : PD a b f g k j := by
  obtain ⟨k1, k2⟩ := dm_in hk b1
  obtain ⟨j1, j2⟩ := dm_in hj b1
  have p := hf _ _ k1 j1
  have q := hg _ _ k2 j2
  obtain ⟨a1, a2, a3⟩ := dm_mk p.1 q.1
  obtain ⟨c1, c2, c3⟩ := dm_mk p.2 q.2
  exact ⟨⟨a1, c1⟩, a2, a3, c2, c3⟩
theorem fr_prd {a b : Nat} {f g : F2} (hf : Fr a f) (hg : Fr b g) (b1 : 1 ≤ b) : Fr (a * b) (prdF b f g) := by
  have P : ∀ {k j : Int}, In (a * b) k → In (a * b) j → PD a b f g k j := fun hk hj => pd_of hf.rg hg.rg b1 hk hj
  refine ⟨fun x y hx hy => (P hx hy).pin, fun x y z hx hy hz e => ?_, fun x y z hx hy hz e => ?_, fun x y z hx hy hz => ?_, fun x y z hx hy hz => ?_, fun x y z hx hy hz => ?_, fun x y u v hx hy hu hv e => ?_⟩
  · obtain ⟨x1, x2⟩ := dm_in hx b1
    obtain ⟨y1, y2⟩ := dm_in hy b1
    obtain ⟨z1, z2⟩ := dm_in hz b1
    have e1 := congrArg (· / (b : Int)) e
    have e2 := congrArg (· % (b : Int)) e
    try dsimp only at e1 e2
    rw [(P hx hy).d1, (P hx hz).d1] at e1
    rw [(P hx hy).m1, (P hx hz).m1] at e2
    exact dm_eq (hf.li _ _ _ x1 y1 z1 e1) (hg.li _ _ _ x2 y2 z2 e2)
  · obtain ⟨x1, x2⟩ := dm_in hx b1
    obtain ⟨y1, y2⟩ := dm_in hy b1
    obtain ⟨z1, z2⟩ := dm_in hz b1
    have e1 := congrArg (· / (b : Int)) e
    have e2 := congrArg (· % (b : Int)) e
    try dsimp only at e1 e2
    rw [(P hy hx).d2, (P hz hx).d2] at e1
    rw [(P hy hx).m2, (P hz hx).m2] at e2
    exact dm_eq (hf.ri _ _ _ x1 y1 z1 e1) (hg.ri _ _ _ x2 y2 z2 e2)
  · obtain ⟨x1, x2⟩ := dm_in hx b1
    obtain ⟨y1, y2⟩ := dm_in hy b1
    obtain ⟨z1, z2⟩ := dm_in hz b1
    have p1 := P hx hy
    have p2 := P p1.pin.2 hz
    have p3 := P p1.pin.1 p2.pin.1
    have p4 := P hy hz
    have p5 := P hx p4.pin.1
    refine dm_eq (b := b) ?_ ?_
    · rw [p3.d1, p5.d1, p2.d1, p1.d1, p1.d2, p4.d1]; exact hf.y1 _ _ _ x1 y1 z1
    · rw [p3.m1, p5.m1, p2.m1, p1.m1, p1.m2, p4.m1]; exact hg.y1 _ _ _ x2 y2 z2
  · obtain ⟨x1, x2⟩ := dm_in hx b1
    obtain ⟨y1, y2⟩ := dm_in hy b1
    obtain ⟨z1, z2⟩ := dm_in hz b1
    have p1 := P hx hy
    have p2 := P p1.pin.2 hz
    have p3 := P p1.pin.1 p2.pin.1
    have p4 := P hy hz
    have p5 := P hx p4.pin.1
    have p6 := P p5.pin.2 p4.pin.2
    refine dm_eq (b := b) ?_ ?_
    · rw [p3.d2, p6.d1, p2.d1, p1.d1, p1.d2, p5.d2, p4.d1, p4.d2]; exact hf.y2 _ _ _ x1 y1 z1
    · rw [p3.m2, p6.m1, p2.m1, p1.m1, p1.m2, p5.m2, p4.m1, p4.m2]; exact hg.y2 _ _ _ x2 y2 z2
  · obtain ⟨x1, x2⟩ := dm_in hx b1
    obtain ⟨y1, y2⟩ := dm_in hy b1
    obtain ⟨z1, z2⟩ := dm_in hz b1
    have p1 := P hx hy
    have p2 := P p1.pin.2 hz
    have p4 := P hy hz
    have p5 := P hx p4.pin.1
    have p6 := P p5.pin.2 p4.pin.2
    refine dm_eq (b := b) ?_ ?_
    · rw [p2.d2, p6.d2, p1.d2, p5.d2, p4.d1, p4.d2]; exact hf.y3 _ _ _ x1 y1 z1
    · rw [p2.m2, p6.m2, p1.m2, p5.m2, p4.m1, p4.m2]; exact hg.y3 _ _ _ x2 y2 z2
  · obtain ⟨x1, x2⟩ := dm_in hx b1
    obtain ⟨y1, y2⟩ := dm_in hy b1
    obtain ⟨u1, u2⟩ := dm_in hu b1
    obtain ⟨v1, v2⟩ := dm_in hv b1
    have p1 := P hx hy
    have p2 := P hu hv
    have e1 : f (x / b) (y / b) = f (u / b) (v / b) := Prod.ext (by rw [← p1.d1, ← p2.d1, e]) (by rw [← p1.d2, ← p2.d2, e])
    have e2 : g (x % b) (y % b) = g (u % b) (v % b) := Prod.ext (by rw [← p1.m1, ← p2.m1, e]) (by rw [← p1.m2, ← p2.m2, e])
    obtain ⟨r1, r2⟩ := hf.bi _ _ _ _ x1 y1 u1 v1 e1
    obtain ⟨t1, t2⟩ := hg.bi _ _ _ _ x2 y2 u2 v2 e2
    exact ⟨dm_eq r1 t1, dm_eq r2 t2⟩
theorem v_Passing____mul__ : VD g_Passing____mul__ S_Passing____mul__ 2 0 := fun ds Q _ h => by
  obtain ⟨a, b, f, g, rfl, hf, hg, b1, l8, h⟩ := h
  unfold g_Passing____mul__
  walk_at "dd"
  refine ⟨true, by rfl, ?_⟩
  refine ⟨_, _, rfl, rfl, ?_⟩
  rw [dLen_tRP, tabP_len]
  refine ⟨_, _, rfl, rfl, ?_⟩
  rw [dLen_tRP, tabP_len]
  have b8 : ¬ ((8 : Int) < (a : Int) * b) := by
    have : ((a * b : Nat) : Int) ≤ 8 := by omega
    rw [Int.natCast_mul] at this
    omega
  have a8 : a < 1000 := by
    have := Nat.le_mul_of_pos_right a (show 0 < b by omega)
    omega
  refine mulA_ok (cm_l ⟨by omega, by omega⟩) ?_
  rw [dGt_int, decide_eq_false b8]
  try walk_at "dd"
  exact ⟨_, _, rfl, rfl, _, _, rfl, rfl, a, b, f, g, rfl, hf.rg, hg.rg, b1, l8, a * b, _, rfl, fr_prd hf hg b1, l8, h⟩
end Dn.T.K54.K56
set_option Elab.async false
set_option linter.all false
set_option maxRecDepth 100000
set_option autoImplicit false
set_option maxHeartbeats 4000000
namespace Dn.T.K54.K56
open PySem L2 Evl PySem.Spec PyProof.Rows
local macro_rules | `(tactic| walk_at "dd") => `(tactic| simp only [sSeq, sIf, sSet, sRet, sRetN, sNx, sEx, sAsg, sPar, dTOr, dTAnd, dTNot, dTst, dIsi, dVar, dC, dBin, dChain, dNeg, dI2, dAnd, dOr, dNot, dIfE, dCall, dCallF, aCons, aNil, dTup, lLst, dOfL, xIm, xOw, gNm, gTp, gsCons, gsNil, dYes, envD, dLen_tR, dLen_tI, dLen_tup, dLen_lst, seq_tR, seq_tI, seq_tup, seq_lst, dIs, dIsNot, dNe, dEq, dTupOf, dSl, oNone, oSome, iSq, iEn, iR1, iR2, sFor, lLc, sNever, dTRg, rg1, rg2, lRg, wipeD, isN,
  gTpL, dIxP, sSub, dApp, dPopAt, dExt, dCallM, dCallO, dBinO, dTupO, lOf, lOfO, sRetO, iOw, dVarF, lCat, lCall, dAbs, dMax2, dMin2, dInt, atO, setO, MO.getL, MO.putL, Option.isSome_some,
  dInK, dGetK, dGetD, dInD, dGet1, lKeys, lSort, dLenSet, dLenSetL, dLenSet2, sPar3, dRevT, sPutK, xDct, xDct1, sRetK, atK, keyD, sAugI, dFld, sFldD, xRng, iRgO, dNew, dNewV, dCM, dProp, dMeth, dLenI, dStrO, dEqI, dIsC, dJoin, dJs, dFmt, dCallML, sSubI, gSubW, sWh, lLc2, bMany, bOne, dMulI, dOfK, sRaise, xNewV1, xNew, xNewV, xCall, xCM, xIf, xOf, sTry, sSui, sRetX, sExX, sSetX, dErr, dLenSetU, dRepU, dKeep2, lSortSet, lSortTu, lDc, dRepT, lRep, dStrI, xDctT1, xDctOf, dInT, sPutT, lSortT2, lSortDT, dPop, dBinR, dKeep, dCallMO, atT, dCallO,
  kit_int, kit_bool, kit_tuple, kit_str, List.map_cons, List.map_nil, List.cons_append, List.nil_append, List.replicate, List.set_cons_zero, List.set_cons_succ, List.getElem?_cons_zero, List.getElem?_cons_succ, List.length_cons, List.length_nil, List.length_map, Nat.reduceAdd, Nat.reduceSub, Bool.not_true, Bool.not_false, Bool.false_eq_true, if_true, if_false, true_and, reduceCtorEq, Bool.true_eq_false, rgD_rgI, Option.some.injEq, exists_eq_left', and_true])
def rR : DS := (sSeq (sSet 7 (xIm (dOfL (lLst (aCons (dCM 2 "Passing" "of_dots" S_Passing__of_dots (aCons (dCall dTupOf (aCons (dVar 1) (aNil))) (aNil))) (aCons (dCM 2 "Passing" "of_dots" S_Passing__of_dots (aCons (dCall dTupOf (aCons (dVar 2) (aNil))) (aNil))) (aNil))))))) (sSeq (sSet 8 (xIm (dCallF 4 S__law_union_told (aCons (dBin dIx (dVar 7) (dC (.int 0))) (aCons (dBin dIx (dVar 7) (dC (.int 1))) (aCons (dVar 5) (aCons (dVar 6) (aNil)))))))) (sSeq (sIf (dTOr (dTst (dBin (dInL true) (dVar 5) (dVar 3))) (dTst (dBin (dInL true) (dVar 6) (dVar 4)))) (sRet (dBin dEq (dVar 8) (dIfE (dTst (dBin (dInL true) (dVar 5) (dVar 3))) (dTup (aCons (dC (.str "first")) (aNil))) (dTup (aCons (dC (.str "second")) (aNil)))))) (sNx)) (sSeq (sSet 9 (xIm (dCallF 4 S__law_union_left (aCons (dCallF 1 S__law_dots_left (aCons (dVar 1) (aNil))) (aCons (dCallF 1 S__law_dots_left (aCons (dVar 2) (aNil))) (aCons (dVar 5) (aCons (dVar 6) (aNil)))))))) (sSeq (sIf (dTOr (dTst (dBin dNe (dProp "Passing" S_Passing__left (dVar 8)) (dVar 9))) (dTOr (dTNot (dTst (dProp "Passing" S_Passing__is_quiet (dVar 8)))) (dTst (dEqI [] "Passing" S_Passing____eq__ true (dVar 8) (dCM 2 "Passing" "of_left" S_Passing__of_left (aCons (dVar 9) (aNil))))))) (sRet (dC (.bool false))) (sNx)) (sSeq (sSet 10 (xIm (dTRg (rg1 (dCall dLen (aCons (dVar 1) (aNil))))))) (sSeq (sSet 11 (xIm (dTRg (rg2 (dCall dLen (aCons (dVar 1) (aNil))) (dBin dAdd (dCall dLen (aCons (dVar 1) (aNil))) (dCall dLen (aCons (dVar 2) (aNil)))))))) (sSeq (sIf (dTOr (dTNot (dTst (dCallF 2 S_is_kept_lot (aCons (dVar 8) (aCons (dVar 10) (aNil)))))) (dTOr (dTNot (dTst (dCallF 2 S_is_kept_lot (aCons (dVar 8) (aCons (dVar 11) (aNil)))))) (dTNot (dTst (dCallF 2 S_is_falls_paper (aCons (dVar 8) (aCons (dTup (aCons (dC (.str "parts")) (aCons (dVar 11) (aCons (dVar 10) (aNil))))) (aNil)))))))) (sRet (dC (.bool false))) (sNx)) (sSeq (sIf (dTOr (dTst (dEqI [] "Passing" S_Passing____eq__ true (dCallF 2 S_part_table (aCons (dVar 8) (aCons (dVar 10) (aNil)))) (dBin dIx (dVar 7) (dC (.int 0))))) (dTst (dEqI [] "Passing" S_Passing____eq__ true (dCallF 2 S_part_table (aCons (dVar 8) (aCons (dVar 11) (aNil)))) (dBin dIx (dVar 7) (dC (.int 1)))))) (sRet (dC (.bool false))) (sNx)) (sRet (dCall dAll (aCons (dOfL (lLc (iSq (dCallF 1 S_letter_parts (aCons (dVar 8) (aNil)))) (gNm 12) (dYes) (dOr (dBin dLt (dBin dIx (dVar 12) (dNeg (dC (.int 1)))) (dCall dLen (aCons (dVar 1) (aNil)))) (dBin dGe (dBin dIx (dVar 12) (dC (.int 0))) (dCall dLen (aCons (dVar 1) (aNil))))) [12])) (aNil)))))))))))))
theorem right_eq : g__law_right = sSeq (sPar 1 2 (xIm (dCallM 0 3 S__law_quiet_dots (aCons (dC (.int 1)) (aCons (dBin dAdd (dC (.int 1)) (dCallM 0 2 S__law_roll (aCons (dC (.int 4)) (aNil)))) (aNil))))) (xIm (dCallM 0 3 S__law_quiet_dots (aCons (dC (.int 1)) (aCons (dBin dAdd (dC (.int 1)) (dCallM 0 2 S__law_roll (aCons (dC (.int 4)) (aNil)))) (aNil)))))) (sSeq (sPar 3 4 (xIm (dCallF 1 S__law_dots_likenesses (aCons (dVar 2) (aNil)))) (xIm (dCallF 1 S__law_dots_likenesses (aCons (dVar 1) (aNil))))) (sSeq (sSet 5 (xIm (dIfE (dTst (dBin dGt (dCallM 0 2 S__law_roll (aCons (dC (.int 3)) (aNil))) (dC (.int 0)))) (dCallM 0 2 S__law_pick (aCons (dVar 3) (aNil))) (dCallM 0 2 S__law_drawn_move (aCons (dCall dLen (aCons (dVar 2) (aNil))) (aNil)))))) (sSeq (sSet 6 (xIm (dIfE (dTst (dBin dGt (dCallM 0 2 S__law_roll (aCons (dC (.int 3)) (aNil))) (dC (.int 0)))) (dCallM 0 2 S__law_pick (aCons (dVar 4) (aNil))) (dCallM 0 2 S__law_drawn_move (aCons (dCall dLen (aCons (dVar 1) (aNil))) (aNil)))))) rR))) := rfl
theorem shaped_lT {C : List (List Int)} : SeqAt.shaped (.list (C.map tI)) = true := by
  have h := shaped_tR C
  have e : tR C = .tuple (C.map tI) := rfl
  rw [e] at h
  unfold SeqAt.shaped at h ⊢
  simpa [PyData.canLay0, PyData.depth] using h
theorem notin_tL {f : List Int} {L : List (List Int)} {Q : D → Prop} (h : Q (.bool (!decide (f ∈ L)))) : dInL true (tI f) (tL L) Q := by
  refine ⟨L.map tI, rfl, shaped_tI _, shaped_lT, ?_⟩
  have e : ((L.map tI).any fun z => PyData.eqv z (tI f)) = decide (f ∈ L) := by
    rw [Bool.eq_iff_iff]
    simp only [List.any_map, List.any_eq_true, Function.comp, eqv_tI, decide_eq_true_eq]
    constructor
    · rintro ⟨x, hx, rfl⟩; exact hx
    · intro hx; exact ⟨f, hx, rfl⟩
  rw [if_pos rfl, e]
  exact h
section
variable {a b : Nat} {d e : Int → Int → Int} {f s : List Int} (hC : Cs a d) (hE : Cs b e) (hf : Mv b f) (hs : Mv a s) (kf : Kp b e f) (ks : Kp a d s)
def farL (a b : Nat) : List Int := (rgI b).map fun i => (a : Int) + i
theorem far_eq (a b : Nat) : rgD (a : Int) ((a : Int) + b) = (farL a b).map PyData.int := by
  unfold rgD farL rgI
  rw [List.map_map, List.map_map, show ((a : Int) + b - a).toNat = b from by omega]
  rfl
theorem far_mem {x : Int} : x ∈ farL a b ↔ ∃ i, In b i ∧ x = a + i := by
  unfold farL
  rw [List.mem_map]
  constructor
  · rintro ⟨i, hi, rfl⟩; exact ⟨i, In.mem.1 hi, rfl⟩
  · rintro ⟨i, hi, rfl⟩; exact ⟨i, In.mem.2 hi, rfl⟩
theorem far_len : (farL a b).length = b := by unfold farL; rw [List.length_map, rgI_len]
theorem far_at {i : Int} (hi : In b i) : (farL a b).getD i.toNat 0 = a + i := by unfold farL; rw [map_at hi]
theorem near_at {i : Int} (hi : In a i) : (rgI a).getD i.toNat 0 = i := rg_at hi
theorem un_ll {x y : Int} (hx : In a x) (hy : In a y) (g k : Int → Int → Int) (p q : List Int) : uni a g k p q x y = g x y := by
  unfold uni; rw [if_pos hx.2, if_pos hy.2]
theorem un_hh {i j : Int} (hi : In b i) (hj : In b j) (g k : Int → Int → Int) (p q : List Int) : uni a g k p q (a + i) (a + j) = a + k i j := by
  have := hi.1
  have := hj.1
  unfold uni; rw [if_neg (by omega), if_neg (by omega), show (a : Int) + i - a = i from by omega, show (a : Int) + j - a = j from by omega]
include hC hE hf hs kf ks
theorem F_near {x y : Int} (hx : In a x) (hy : In a y) : unF a b d e f s x y = qtF a d x y := by
  obtain ⟨s1, _⟩ := sgm_ok hC
  have hx' : In (a + b) x := ⟨hx.1, by have := hx.2; omega⟩
  have hy' : In (a + b) y := ⟨hy.1, by have := hy.2; omega⟩
  show (sgm (a + b) _ x y, uni a d e (inv f) (inv s) (sgm (a + b) _ x y) x) = (sgm a d x y, d (sgm a d x y) x)
  rw [un_sgm hC hE hf hs kf ks hx' hy', un_ll hx hy, un_ll (s1 x y hx hy) hx]
theorem F_far {i j : Int} (hi : In b i) (hj : In b j) : unF a b d e f s (a + i) (a + j) = (a + (qtF b e i j).1, a + (qtF b e i j).2) := by
  obtain ⟨t1, _⟩ := sgm_ok hE
  have hx' : In (a + b) (a + i) := ⟨by have := hi.1; omega, by have := hi.2; omega⟩
  have hy' : In (a + b) (a + j) := ⟨by have := hj.1; omega, by have := hj.2; omega⟩
  show (sgm (a + b) _ (a + i) (a + j), uni a d e (inv f) (inv s) (sgm (a + b) _ (a + i) (a + j)) (a + i)) = (a + sgm b e i j, a + e (sgm b e i j) i)
  rw [un_sgm hC hE hf hs kf ks hx' hy', un_hh hi hj, un_hh (t1 i j hi hj) hi]
theorem cl_near : closed (unF a b d e f s) (rgI a) = true := by
  unfold closed
  simp only [List.all_eq_true, Bool.and_eq_true, decide_eq_true_eq]
  intro x hx y hy
  have hx := In.mem.1 hx
  have hy := In.mem.1 hy
  rw [F_near hC hE hf hs kf ks hx hy]
  have := (qt_qtF hC).1.rg x y hx hy
  exact ⟨In.mem.2 this.1, In.mem.2 this.2⟩
theorem cl_far : closed (unF a b d e f s) (farL a b) = true := by
  unfold closed
  simp only [List.all_eq_true, Bool.and_eq_true, decide_eq_true_eq]
  intro x hx y hy
  obtain ⟨i, hi, rfl⟩ := far_mem.1 hx
  obtain ⟨j, hj, rfl⟩ := far_mem.1 hy
  rw [F_far hC hE hf hs kf ks hi hj]
  have := (qt_qtF hE).1.rg i j hi hj
  exact ⟨far_mem.2 ⟨_, this.1, rfl⟩, far_mem.2 ⟨_, this.2, rfl⟩⟩
theorem sub_near : Sub (unF a b d e f s) (rgI a) (qtF a d) := by
  intro i j hi hj
  rw [rgI_len] at hi hj ⊢
  have p := (qt_qtF hC).1.rg i j hi hj
  refine ⟨p, ?_⟩
  rw [near_at hi, near_at hj, F_near hC hE hf hs kf ks hi hj, near_at p.1, near_at p.2]
theorem sub_far : Sub (unF a b d e f s) (farL a b) (qtF b e) := by
  intro i j hi hj
  rw [far_len] at hi hj ⊢
  have p := (qt_qtF hE).1.rg i j hi hj
  refine ⟨p, ?_⟩
  rw [far_at hi, far_at hj, F_far hC hE hf hs kf ks hi hj, far_at p.1, far_at p.2]
end
theorem far_pw (a b : Nat) : (farL a b).Pairwise (· < ·) := by
  unfold farL rgI
  rw [List.map_map]
  exact List.Pairwise.map _ (R := fun i j => i < j) (fun i j h => by show (a : Int) + (i : Int) < (a : Int) + (j : Int); omega) List.pairwise_lt_range
theorem rg_pw (a : Nat) : (rgI a).Pairwise (· < ·) := by
  unfold rgI
  exact List.Pairwise.map _ (R := fun i j => i < j) (fun i j h => by omega) List.pairwise_lt_range
theorem lot_of {n : Nat} {l : List Int} (hl : ∀ x, x ∈ l → In n x) (hp : l.Pairwise (· < ·)) (hn : n ≤ 24) : isLot n (tI l) = true := by
  show (isRow ((l.map PyData.int).length : Int) (n : Int) (tI l) && incB ((l.map PyData.int).map intD)) = true
  rw [List.length_map, isRow_ints rfl hl hn, List.map_map, show intD ∘ PyData.int = id from rfl, List.map_id, incB_pw.2 hp]
  rfl
theorem lotI_tI (l : List Int) : lotI (tI l) = l := by
  show (l.map PyData.int).map intD = l
  rw [List.map_map, show intD ∘ PyData.int = id from rfl, List.map_id]
theorem part_side {a b : Nat} {d e : Int → Int → Int} {f s : List Int} (hC : Cs a d) (hE : Cs b e) (hf : Mv b f) (hs : Mv a s) (kf : Kp b e f) (ks : Kp a d s) (l8 : a + b ≤ 8) {l : List Int} (hl : l ∈ orbF (lftT (a + b) (unF a b d e f s)) (a + b)) : l ≠ [] ∧ ((∀ x, x ∈ l → x < a) ∨ ∀ x, x ∈ l → (a : Int) ≤ x) := by
  have hU := un_cs hC hE hf hs kf ks
  have hk := mk_lft (qt_qtF hU).1 l8
  obtain ⟨s1, _⟩ := sgm_ok hC
  obtain ⟨t1, _⟩ := sgm_ok hE
  obtain ⟨x, hx, rfl⟩ := (orb_ok hk).each l hl
  have side : ∀ m, m ∈ lftT (a + b) (unF a b d e f s) → ∀ y, In (a + b) y → (y < a → In (a + b) (im m y) ∧ im m y < a) ∧ (¬ y < a → In (a + b) (im m y) ∧ ¬ im m y < a) := by
    intro m hm y hy
    rw [un_lft hC hE hf hs kf ks] at hm
    obtain ⟨z, hz, rfl⟩ := List.mem_map.mp hm
    have hz := In.mem.1 hz
    have v := (un_v hC hE hf hs hz hy).1
    have e1 : im ((rgI (a + b)).map (uni a (sgm a d) (sgm b e) f s z)) y = uni a (sgm a d) (sgm b e) f s z y := map_at hy
    rw [e1]
    refine ⟨fun ly => ⟨v, ?_⟩, fun ly => ⟨v, ?_⟩⟩
    · have ya := in_lo hy ly
      unfold uni
      by_cases lz : z < a
      · rw [if_pos lz, if_pos ly]; exact (s1 z y (in_lo hz lz) ya).2
      · rw [if_neg lz, if_pos ly]; exact (mv_in hs ya).2
    · have yb := in_sub hy ly
      unfold uni
      by_cases lz : z < a
      · rw [if_pos lz, if_neg ly]; have := (mv_in hf yb).1; omega
      · rw [if_neg lz, if_neg ly]; have := (t1 _ _ (in_sub hz lz) yb).1; omega
  refine ⟨fun z => ?_, ?_⟩
  · have : x ∈ reach (lftT (a + b) (unF a b d e f s)) (a + b) x := mem_reach.2 ⟨hx, ky_self hk hx.1 hx.2⟩
    rw [z] at this; cases this
  · by_cases lx : x < a
    · left
      intro y hy
      exact (ky_least hk hx.1 hx.2 (fun y => In (a + b) y ∧ y < a) ⟨hx, lx⟩ (fun y m h hm => (side m hm y h.1).1 h.2) (mem_reach.1 hy).2).2
    · right
      intro y hy
      have := (ky_least hk hx.1 hx.2 (fun y => In (a + b) y ∧ ¬ y < a) ⟨hx, lx⟩ (fun y m h hm => (side m hm y h.1).2 h.2) (mem_reach.1 hy).2).2
      omega
theorem dLt_int (i j : Int) (Q : D → Prop) : dLt (.int i) (.int j) Q = Q (.bool (decide (i < j))) := by simp only [dLt, dI2, true_and]
theorem dGe_int (i j : Int) (Q : D → Prop) : dGe (.int i) (.int j) Q = Q (.bool (decide (j ≤ i))) := by simp only [dGe, dI2, true_and]
theorem okF_parts {l m : List Int} (hl : l.length ≤ 30) (hm : m.length ≤ 30) : okF (.tuple [.str "parts", tI l, tI m]) := fun xs e => by
  cases e
  have key : ∀ {l : List Int}, l.length ≤ 30 → okS (tI l) ∧ okWs (tI l) ∧ (3 ≤ 3 → okL (tI l)) := fun {l} hl => by
    refine ⟨fun t e => ?_, fun xs e => ?_, fun _ => okL_tI hl⟩
    · have e : PyData.tuple (l.map PyData.int) = .str t := e
      cases e
    · have e : PyData.tuple (l.map PyData.int) = .tuple xs := e
      cases e
      refine ⟨by rw [List.length_map]; omega, fun x hx => ?_⟩
      obtain ⟨i, _, rfl⟩ := List.mem_map.mp hx
      exact fun ys e => by cases e
  refine ⟨by simp, fun x hx => ?_⟩
  simp only [List.mem_cons, List.not_mem_nil, or_false] at hx
  rcases hx with rfl | rfl | rfl
  · exact ⟨fun t e => (by cases e; decide +kernel), fun xs e => (by cases e), fun _ xs e => (by cases e)⟩
  · exact key hl
  · exact key hm
theorem last_mem (l : List Int) (h : l ≠ []) : l.getD (l.length - 1) 0 ∈ l := getD_mem (by have := List.length_pos_iff.mpr h; omega)
theorem ix_last (l : List Int) (h : l ≠ []) {Q : D → Prop} (q : Q (.int (l.getD (l.length - 1) 0))) : dIx (tI l) (.int (-1)) Q := by
  have hp := List.length_pos_iff.mpr h
  refine ⟨.int (l.getD (l.length - 1) 0), ?_, q⟩
  have e : ixN (l.map PyData.int).length (-1) = some (l.length - 1) := by
    unfold ixN
    rw [List.length_map, if_neg (by omega)]
    simp
    omega
  show atI (l.map PyData.int) (-1) = _
  unfold atI
  rw [e]
  have h2 : l.length - 1 < l.length := by omega
  simp [List.getD, List.getElem?_eq_getElem h2]
theorem orb_few' {n : Nat} {mk : List (List Int)} (hk : Mk n mk) : (orbF mk n).length ≤ n := orb_few hk
theorem rest_ok {l : Addr} {ms : List D} {a b : Nat} {d e : Int → Int → Int} {L1 L2 : List (List Int)} {f s : List Int} {K : Env → Prop} {rt : D → Env → Prop} (hC : Cs a d) (hE : Cs b e) (a1 : 1 ≤ a) (b1 : 1 ≤ b) (a4 : a ≤ 4) (b4 : b ≤ 4) (hL1 : ∀ m, m ∈ L1 ↔ Mv b m ∧ Kp b e m) (hL2 : ∀ m, m ∈ L2 ↔ Mv a m ∧ Kp a d m) (hf : Mv b f) (hs : Mv a s)
    (h : ∀ ρ, ρ[0]? = some (some (SV.ow (MO.par l (MO.lst ms)))) → rt (.bool true) ρ) :
    rR { nx := K, rt := rt } [some (.ow (.par l (.lst ms))), some (.im (tL (tab a d))), some (.im (tL (tab b e))), some (.im (tL L1)), some (.im (tL L2)), some (.im (tI f)), some (.im (tI s)), none, none, none, none, none, none] := by
  unfold rR
  walk_at "dd"
  refine ⟨a, d, rfl, hC, by omega, b, e, rfl, hE, by omega, ?_⟩
  refine ⟨by decide, pasD a (qtF a d), rfl, pasD b (qtF b e), rfl, ?_⟩
  refine ⟨a, b, d, e, f, s, rfl, hC, hE, hf, hs, by omega, fun kf ks => ?_, fun nf => ?_, fun kf ns => ?_⟩
  · refine notin_tL ?_
    rw [decide_eq_true ((hL1 f).2 ⟨hf, kf⟩)]
    try walk_at "dd"
    refine notin_tL ?_
    rw [decide_eq_true ((hL2 s).2 ⟨hs, ks⟩)]
    try walk_at "dd"
    obtain ⟨s1, s2⟩ := sgm_ok hC
    obtain ⟨t1, t2⟩ := sgm_ok hE
    have hU := un_cs hC hE hf hs kf ks
    obtain ⟨FU, qU⟩ := qt_qtF hU
    refine ⟨a, d, rfl, hC, by omega, b, e, rfl, hE, by omega, a, b, sgm a d, sgm b e, f, s, rfl, s1, t1, hf, hs, by omega, ?_⟩
    refine ⟨⟨_, rfl⟩, a + b, _, rfl, shaped_tR _, shaped_tR _, ?_⟩
    rw [un_lft hC hE hf hs kf ks, eqv_tR, decide_eq_true rfl]
    try walk_at "dd"
    refine ⟨⟨_, rfl⟩, a + b, _, rfl, ?_⟩
    rw [qU]
    try walk_at "dd"
    refine ⟨a + b, uni a d e (inv f) (inv s), by rw [← un_lef hC hE hf hs kf ks]; rfl, hU, by omega, ?_⟩
    refine ⟨⟨_, rfl⟩, ⟨true, by rfl⟩, a + b, _, .inl ⟨a + b, _, rfl, _, rfl, ?_⟩⟩
    rw [decide_eq_true rfl]
    try walk_at "dd"
    simp only [dLen_tL, tab_len, dAdd_int]
    refine ⟨rgd (by omega), ?_⟩
    have l8 : a + b ≤ 8 := by omega
    have farI : ∀ x, x ∈ farL a b → In (a + b) x := fun x hx => by
      obtain ⟨i, hi, rfl⟩ := far_mem.1 hx
      exact ⟨by have := hi.1; omega, by have := hi.2; omega⟩
    have nearI : ∀ x, x ∈ rgI a → In (a + b) x := fun x hx => by
      have := In.mem.1 hx
      exact ⟨this.1, by have := this.2; omega⟩
    have ln : isLot (a + b) (tI (rgI a)) = true := lot_of nearI (rg_pw a) (by omega)
    have lf : isLot (a + b) (tI (farL a b)) = true := lot_of farI (far_pw a b) (by omega)
    have cn := cl_near hC hE hf hs kf ks
    have cf := cl_far hC hE hf hs kf ks
    rw [rgD_rgI, far_eq]
    refine ⟨by unfold RgD; omega, ?_⟩
    refine ⟨a + b, _, rgI a, rfl, FU.rg, by omega, nearI, by rw [rgI_len]; omega, ln, qU, ?_⟩
    rw [cn]
    try walk_at "dd"
    refine ⟨a + b, _, farL a b, rfl, FU.rg, by omega, farI, by rw [far_len]; omega, lf, qU, ?_⟩
    rw [cf]
    try walk_at "dd"
    refine ⟨by decide, a + b, _, _, rfl, by omega, by omega, FU.rg, qU, ?_, ?_⟩
    · exact okF_parts (by rw [far_len]; omega) (by rw [rgI_len]; omega)
    have ff : fallsB (a + b) (unF a b d e f s) (.tuple [.str "parts", tI (farL a b), tI (rgI a)]) = true := by
      show (isStr "parts" (.str "parts") && areParts _ _ (tI (farL a b)) (tI (rgI a))) = true
      unfold areParts
      rw [lotI_tI, lotI_tI, ln, lf, cn, cf]
      have p : (farL a b ++ rgI a).Perm (rgI (a + b)) := by
        rw [rgI_add]
        exact List.perm_append_comm
      have n1 : farL a b ≠ [] := fun z => by have := congrArg List.length z; rw [far_len] at this; simp at this; omega
      have n2 : rgI a ≠ [] := fun z => by have := congrArg List.length z; rw [rgI_len] at this; simp at this; omega
      simp only [decide_eq_true p, decide_eq_true n1, decide_eq_true n2, Bool.and_true, Bool.and_self]
      decide +kernel
    rw [show fallsB (a + b) (qtF (a + b) (uni a d e (inv f) (inv s))) (.tuple [.str "parts", .tuple ((farL a b).map PyData.int), .tuple ((rgI a).map PyData.int)]) = true from ff]
    try walk_at "dd"
    refine ⟨a + b, _, rgI a, qtF a d, rfl, FU.rg, by omega, by rw [rgI_len]; omega, nodup_rgI a, nearI, ln, qU, cn, sub_near hC hE hf hs kf ks, by rw [rgI_len]; exact (qt_qtF hC).1, ?_⟩
    rw [rgI_len]
    refine ⟨pasD a (qtF a d), rfl, ⟨_, rfl⟩, ⟨true, by rfl⟩, a, _, .inl ⟨a, _, rfl, _, rfl, ?_⟩⟩
    rw [decide_eq_true rfl]
    try walk_at "dd"
    refine ⟨a + b, _, farL a b, qtF b e, rfl, FU.rg, by omega, by rw [far_len]; omega, (far_pw a b).imp (fun h => by omega), farI, lf, qU, cf, sub_far hC hE hf hs kf ks, by rw [far_len]; exact (qt_qtF hE).1, ?_⟩
    rw [far_len]
    refine ⟨pasD b (qtF b e), rfl, ⟨_, rfl⟩, ⟨true, by rfl⟩, b, _, .inl ⟨b, _, rfl, _, rfl, ?_⟩⟩
    rw [decide_eq_true rfl]
    try walk_at "dd"
    refine ⟨a + b, _, rfl, FU, l8, qU, ?_⟩
    refine ⟨(orbF (lftT (a + b) (unF a b d e f s)) (a + b)).map tI, rfl, ?_⟩
    have few : (orbF (lftT (a + b) (unF a b d e f s)) (a + b)).length < 16777216 := by
      have : (orbF (lftT (a + b) (unF a b d e f s)) (a + b)).length ≤ a + b := orb_few' (mk_lft FU l8)
      omega
    refine wpLc_mapL (orbF (lftT (a + b) (unF a b d e f s)) (a + b)) tI (fun _ => .bool true) few rfl (fun p hp K hK => ?_) (fun _ => rfl) ?_
    · obtain ⟨ne, sd⟩ := part_side hC hE hf hs kf ks l8 hp
      obtain ⟨x, p', rfl⟩ : ∃ x p', p = x :: p' := by cases p with | nil => exact absurd rfl ne | cons x p' => exact ⟨x, p', rfl⟩
      try walk_at "dd"
      refine ix_last (x :: p') (by simp) ?_
      simp only [dLen_tL, tab_len]
      rcases sd with sd | sd
      · rw [dLt_int, decide_eq_true (sd _ (last_mem (x :: p') (by simp)))]
        exact hK _ rfl
      · rw [dLt_int, decide_eq_false (fun z => by have := sd _ (last_mem (x :: p') (by simp)); omega)]
        try walk_at "dd"
        refine ixI (Int.le_refl 0) (by simp) ?_
        rw [show (x :: p').getD (0 : Int).toNat 0 = x from rfl, dGe_int, decide_eq_true (sd x (by simp))]
        exact hK _ rfl
    · try walk_at "dd"
      refine ⟨(orbF (lftT (a + b) (unF a b d e f s)) (a + b)).map fun _ => true, by simp, ?_⟩
      rw [show ((orbF (lftT (a + b) (unF a b d e f s)) (a + b)).map fun _ => true).all id = true from by simp]
      exact h _ rfl
  · refine notin_tL ?_
    rw [decide_eq_false (fun z => nf ((hL1 f).1 z).2)]
    try walk_at "dd"
    refine notin_tL ?_
    rw [decide_eq_false (fun z => nf ((hL1 f).1 z).2)]
    try walk_at "dd"
    exact ⟨by decide, by decide +kernel, by decide +kernel, by
      rw [show PyData.eqv (w1D "first") (.tuple [.str "first"]) = true from by decide +kernel]
      exact h _ rfl⟩
  · refine notin_tL ?_
    rw [decide_eq_true ((hL1 f).2 ⟨hf, kf⟩)]
    try walk_at "dd"
    refine notin_tL ?_
    rw [decide_eq_false (fun z => ns ((hL2 s).1 z).2)]
    try walk_at "dd"
    refine notin_tL ?_
    rw [decide_eq_true ((hL1 f).2 ⟨hf, kf⟩)]
    try walk_at "dd"
    exact ⟨by decide, by decide +kernel, by decide +kernel, by
      rw [show PyData.eqv (w1D "second") (.tuple [.str "second"]) = true from by decide +kernel]
      exact h _ rfl⟩
theorem ite_bool {c : Bool} {A B : Prop} (h1 : c = true → A) (h2 : c = false → B) : (match PyData.bool c with | .bool b => if b = true then A else B | _ => False) := by
  cases c with
  | true => exact h1 rfl
  | false => exact h2 rfl
theorem v__law_right : VM g__law_right S__law_right 1 12 := fun l ms ds Q _ h => by
  obtain ⟨rfl, hm, h⟩ := h
  rw [right_eq]
  walk_at "dd"
  refine roll_ok (n := 0) hm (by decide) (by decide) fun r ms1 r0 r1 hm1 => ?_
  rw [dAdd_int]
  obtain ⟨r, rfl⟩ : ∃ k : Nat, r = k := ⟨r.toNat, by omega⟩
  refine ⟨1, r + 1, by simp; omega, by omega, by omega, by omega, hm1, fun a d ms2 hC a1 _ ar hm2 => ?_⟩
  refine roll_ok (n := 0) hm2 (by decide) (by decide) fun q ms3 q0 q1 hm3 => ?_
  rw [dAdd_int]
  obtain ⟨q, rfl⟩ : ∃ k : Nat, q = k := ⟨q.toNat, by omega⟩
  refine ⟨1, q + 1, by simp; omega, by omega, by omega, by omega, hm3, fun b e ms4 hE b1 _ bq hm4 => ?_⟩
  refine ⟨b, e, rfl, hE, by omega, fun L1 hL1 ne1 len1 => ?_⟩
  refine ⟨a, d, rfl, hC, by omega, fun L2 hL2 ne2 len2 => ?_⟩
  have fin : ∀ (f s : List Int) (ms : List D), Mv b f → Mv a s → Dc ms → rR { nx := fun ρ => ∃ ms', ρ[0]? = some (some (SV.ow (MO.par l (MO.lst ms')))) ∧ Q PyData.none ms', rt := fun d ρ => ∃ ms', ρ[0]? = some (some (SV.ow (MO.par l (MO.lst ms')))) ∧ Q d ms' } [some (.ow (.par l (.lst ms))), some (.im (tL (tab a d))), some (.im (tL (tab b e))), some (.im (tL L1)), some (.im (tL L2)), some (.im (tI f)), some (.im (tI s)), none, none, none, none, none, none] :=
    fun f s ms hf hs hm => rest_ok hC hE a1 b1 (by omega) (by omega) hL1 hL2 hf hs fun ρ e => ⟨ms, e, h ms hm⟩
  refine roll_ok (n := 0) hm4 (by decide) (by decide) fun t ms5 t0 t1 hm5 => ?_
  have mvO : ∀ {k : Nat} {m : List Int}, List.Perm m (rgI k) → Mv k m := fun h => h
  rw [dGt_int]
  refine ite_bool (fun _ => ?_) (fun _ => ?_)
  · refine ⟨tL L1, L1.map tI, rfl, rfl, by simpa using ne1, by simp; omega, hm5, fun x ms6 hx hm6 => ?_⟩
    obtain ⟨f, hf, rfl⟩ := List.mem_map.mp hx
    refine roll_ok (n := 0) hm6 (by decide) (by decide) fun t2 ms7 _ _ hm7 => ?_
    rw [dGt_int]
    refine ite_bool (fun _ => ?_) (fun _ => ?_)
    · refine ⟨tL L2, L2.map tI, rfl, rfl, by simpa using ne2, by simp; omega, hm7, fun x ms8 hx hm8 => ?_⟩
      obtain ⟨s, hs, rfl⟩ := List.mem_map.mp hx
      exact fin f s ms8 ((hL1 f).1 hf).1 ((hL2 s).1 hs).1 hm8
    · rw [dLen_tL, tab_len]
      exact ⟨a, rfl, by omega, hm7, fun s ms8 hs hm8 => fin f s ms8 ((hL1 f).1 hf).1 hs hm8⟩
  · rw [dLen_tL, tab_len]
    refine ⟨b, rfl, by omega, hm5, fun f ms6 hf hm6 => ?_⟩
    refine roll_ok (n := 0) hm6 (by decide) (by decide) fun t2 ms7 _ _ hm7 => ?_
    rw [dGt_int]
    refine ite_bool (fun _ => ?_) (fun _ => ?_)
    · refine ⟨tL L2, L2.map tI, rfl, rfl, by simpa using ne2, by simp; omega, hm7, fun x ms8 hx hm8 => ?_⟩
      obtain ⟨s, hs, rfl⟩ := List.mem_map.mp hx
      exact fin f s ms8 hf ((hL2 s).1 hs).1 hm8
    · rw [dLen_tL, tab_len]
      exact ⟨a, rfl, by omega, hm7, fun s ms8 hs hm8 => fin f s ms8 hf hs hm8⟩
end Dn.T.K54.K56
set_option Elab.async false
set_option linter.all false
set_option maxRecDepth 100000
set_option autoImplicit false
set_option maxHeartbeats 4000000
namespace Dn.T.K54.K56
open PySem L2 Evl PySem.Spec PyProof.Rows
local macro_rules | `(tactic| walk_at "dd") => `(tactic| simp only [sSeq, sIf, sSet, sRet, sRetN, sNx, sEx, sAsg, sPar, dTOr, dTAnd, dTNot, dTst, dIsi, dVar, dC, dBin, dChain, dNeg, dI2, dAnd, dOr, dNot, dIfE, dCall, dCallF, aCons, aNil, dTup, lLst, dOfL, xIm, xOw, gNm, gTp, gsCons, gsNil, dYes, envD, dLen_tR, dLen_tI, dLen_tup, dLen_lst, seq_tR, seq_tI, seq_tup, seq_lst, dIs, dIsNot, dNe, dEq, dTupOf, dSl, oNone, oSome, iSq, iEn, iR1, iR2, sFor, lLc, sNever, dTRg, rg1, rg2, lRg, wipeD, isN,
  gTpL, dIxP, sSub, dApp, dPopAt, dExt, dCallM, dCallO, dBinO, dTupO, lOf, lOfO, sRetO, iOw, dVarF, lCat, lCall, dAbs, dMax2, dMin2, dInt, atO, setO, MO.getL, MO.putL, Option.isSome_some,
  dInK, dGetK, dGetD, dInD, dGet1, lKeys, lSort, dLenSet, dLenSetL, dLenSet2, sPar3, dRevT, sPutK, xDct, xDct1, sRetK, atK, keyD, sAugI, dFld, sFldD, xRng, iRgO, dNew, dNewV, dCM, dProp, dMeth, dLenI, dStrO, dEqI, dIsC, dJoin, dJs, dFmt, dCallML, sSubI, gSubW, sWh, lLc2, bMany, bOne, dMulI, dOfK, sRaise, xNewV1, xNew, xNewV, xCall, xCM, xIf, xOf, sTry, sSui, sRetX, sExX, sSetX, dErr, dLenSetU, dRepU, dKeep2, lSortSet, lSortTu, lDc, dRepT, lRep, dStrI, xDctT1, xDctOf, dInT, sPutT, lSortT2, lSortDT, dPop, dBinR, dKeep, dCallMO, atT, dCallO,
  kit_int, kit_bool, kit_tuple, kit_str, List.map_cons, List.map_nil, List.cons_append, List.nil_append, List.replicate, List.set_cons_zero, List.set_cons_succ, List.getElem?_cons_zero, List.getElem?_cons_succ, List.length_cons, List.length_nil, List.length_map, Nat.reduceAdd, Nat.reduceSub, Bool.not_true, Bool.not_false, Bool.false_eq_true, if_true, if_false, true_and, reduceCtorEq, Bool.true_eq_false, rgD_rgI, Option.some.injEq, exists_eq_left', and_true])
def swd : Int → Int → Int := fun _ y => 1 - y
theorem sw_cs : Cs 2 swd := ⟨fun x y hx hy => ⟨by have := hy.2; show (0 : Int) ≤ 1 - y; omega, by have := hy.1; show 1 - y < 2; omega⟩, fun x y z _ _ _ e => by have e : (1 : Int) - y = 1 - z := e; omega, fun x y z _ _ _ => rfl, fun x y _ _ e => by have e : (1 : Int) - x = 1 - y := e; omega⟩
theorem cs_zero : Cs 0 fun _ _ => 0 := ⟨fun x y hx _ => by have := hx.1; have := hx.2; omega, fun x y z hx _ _ _ => by have := hx.1; have := hx.2; omega, fun x y z hx _ _ => by have := hx.1; have := hx.2; omega, fun x y hx _ _ => by have := hx.1; have := hx.2; omega⟩
theorem v_law : VD g_law S_law 1 4 := fun ds Q _ h => by
  obtain ⟨s, rfl, hs, h⟩ := h
  unfold g_law
  walk_at "dd"
  rw [dLen_scr']
  dsimp only
  refine And.intro (rg_cap 4 _ (by decide) (by decide)) ?_
  refine wpFor_inv (fun ρ => ∃ x1 x2, ρ = [some (.im (scr s)), x1, x2, none, none]) ⟨_, _, rfl⟩ (fun d hd ρ K i k => ?_) (fun ρ i => ?_)
  · obtain ⟨x1, x2, rfl⟩ := i
    obtain ⟨spot, rfl, s0, _⟩ := mem_rgD' hd
    walk_at "dd"
    refine ⟨s, spot, rfl, s0, fun ms hm => ?_⟩
    try walk_at "dd"
    refine ⟨rfl, hm, fun ms1 hm1 => ?_⟩
    try walk_at "dd"
    refine ⟨rfl, hm1, fun ms2 hm2 => ?_⟩
    try walk_at "dd"
    exact k _ ⟨_, _, rfl⟩
  · obtain ⟨x1, x2, rfl⟩ := i
    try walk_at "dd"
    refine ⟨by decide, by decide, by decide, 2, swd, by rw [show ((rgI 2).map fun x => inv ((rgI 2).map (swd x))) = [[1, 0], [1, 0]] from by decide +kernel]; rfl, sw_cs, by decide, ?_⟩
    obtain ⟨FS, qS⟩ := qt_qtF sw_cs
    refine ⟨⟨_, rfl⟩, ⟨_, rfl⟩, 2, 2, _, _, rfl, FS, FS, by decide, by decide, ?_⟩
    refine ⟨4, _, rfl, fr_prd FS FS (by decide), by decide, by decide +kernel, ?_⟩
    rw [show orbF (lftT 4 (prdF 2 (qtF 2 swd) (qtF 2 swd))) 4 = [[0, 3], [1, 2]] from by decide +kernel]
    refine ⟨by decide, by decide, by decide, by decide +kernel, by decide +kernel, ?_⟩
    rw [if_neg (by decide +kernel)]
    refine ⟨0, rfl, by decide, by decide, by decide, ?_⟩
    have m0 : Mv 0 ([] : List Int) := (by decide +kernel : List.Perm ([] : List Int) (rgI 0))
    have m1 : Mv 2 [(1 : Int), 0] := (by decide +kernel : List.Perm [(1 : Int), 0] (rgI 2))
    have m2 : Mv 2 [(0 : Int), 1] := (by decide +kernel : List.Perm [(0 : Int), 1] (rgI 2))
    have k0 : Kp 0 (fun _ _ => 0) [] := fun x y hx _ => by have := hx.1; have := hx.2; omega
    have k1 : Kp 2 swd [1, 0] := fun x y _ hy => by
      have h0 := hy.1
      have h1 := hy.2
      obtain rfl | rfl : y = 0 ∨ y = 1 := by omega
      · show im [1, 0] (1 - 0) = 1 - im [1, 0] 0; decide
      · show im [1, 0] (1 - 1) = 1 - im [1, 0] 1; decide
    have k2 : Kp 2 swd [0, 1] := fun x y _ hy => by
      have h0 := hy.1
      have h1 := hy.2
      obtain rfl | rfl : y = 0 ∨ y = 1 := by omega
      · show im [0, 1] (1 - 0) = 1 - im [0, 1] 0; decide
      · show im [0, 1] (1 - 1) = 1 - im [0, 1] 1; decide
    refine ⟨0, 2, fun _ _ => 0, swd, [1, 0], [], rfl, cs_zero, sw_cs, m1, m0, by decide, k1, k0, ?_⟩
    refine ⟨⟨_, rfl⟩, ⟨true, by rfl⟩, _, _, .inl ⟨2, _, rfl, _, rfl, ?_⟩⟩
    rw [show decide (tabP (0 + 2) (unF 0 2 (fun _ _ => 0) swd [1, 0] []) = tabP 2 (qtF 2 swd)) = true from by decide +kernel]
    try walk_at "dd"
    refine ⟨by decide, by decide, 2, 0, swd, fun _ _ => 0, [], [0, 1], rfl, sw_cs, cs_zero, m0, m2, by decide, k0, k2, ?_⟩
    refine ⟨⟨_, rfl⟩, ⟨true, by rfl⟩, _, _, .inl ⟨2, _, rfl, _, rfl, ?_⟩⟩
    rw [show decide (tabP (2 + 0) (unF 2 0 swd (fun _ _ => 0) [] [0, 1]) = tabP 2 (qtF 2 swd)) = true from by decide +kernel]
    exact h
end Dn.T.K54.K56
set_option Elab.async false
set_option linter.all false
set_option maxRecDepth 100000
set_option autoImplicit false
set_option maxHeartbeats 4000000
namespace Dn
open PySem L2 Evl PySem.Spec PyProof.Rows
def IsA (K : PySem.W.Frag) (mg : Str → Option Value) (y x : Str) (st : Stmt) : Prop := ∃ f fd, FunD K x x (defArgs st) (defBody st) (defScope st) [] [] f fd ∧ mg y = some (.ref f)
section
variable {P : Program} {w : World} {K : PySem.W.Frag} {mg : Str → Option Value} {base : Heap} {st : Stmt} {N ps : List Str} {k : Nat} {x y : Str}
theorem ok_DA {S : List D → (D → Prop) → Prop} {g : DS} (F : IsA K mg y x st) (Sc : FnScope N ps (defScope st)) (bs : BindsAs x st ps) (hb : BodyCx P w K mg base x st N k fun X => JSs X (defBody st) g)
    (hS : ∀ (ds : List D) (Q : D → Prop), ds.length = ps.length → S ds Q → g { nx := fun _ => Q .none, rt := fun d _ => Q d } (envD ds (N.length - ps.length))) : Ok P w K mg base y ps (k + 1) (spD K ps.length S) := by
  obtain ⟨f, fd, F, hm⟩ := F
  exact ⟨f, fd, fn_D F Sc (fun cdv A outer s H E hr => hb f cdv A outer s H E hr) hS, hm, F.kp, F.bindsN bs⟩
end
end Dn
set_option Elab.async false
set_option linter.all false
set_option maxRecDepth 100000
set_option autoImplicit false
set_option maxHeartbeats 4000000
namespace Dn
open PySem L2 Evl PySem.Spec PyProof.Rows
theorem fin1 {K : PySem.W.Frag} {T : Addr → Prop} {ρ ρ1 ρ5 : Env} {σ σ5 : L2.St} {H H1 H3 : Hp} {v : V} {s1 : SV} {i : Nat} (r : RS K T ρ σ H) (f1 : Fits K T ρ1 σ H H1 v s1) (q1 : Po ρ σ H ρ1 σ H1)
    (r5 : RS K (s1.temps v T) ρ5 σ5 H3) (q5 : Po ρ1 σ H1 ρ5 σ5 H3) : RS K T (ρ5.set i (some s1)) (σ5.set i (some v)) H3 ∧ Po ρ σ H (ρ5.set i (some s1)) (σ5.set i (some v)) H3 := by
  cases s1 with
  | im d => exact ⟨r5.setIm (f1.2.mono q5.fz), (q1.trans q5).trans .setIm⟩
  | ow m =>
    obtain ⟨p, o, rfl, hn, ho, r4, rr, np⟩ := f1
    have no : ¬ Own ρ1 σ p := r4.dis p (.inl rfl)
    exact ⟨r5.setOw (q5.keep p o no ho) (rr.mono q5.fz) (fun t => (r.dom p t).1 hn) fun _ _ z => (np _ _ z).elim, (q1.trans q5).setOw hn⟩
def sPar3F (i j k : Nat) (h : DX) (f g : DE) : DS := fun E ρ => h ρ fun s1 ρ1 => f ρ1 fun d2 ρ2 => g ρ2 fun d3 ρ3 => E.nx (((ρ3.set i (some s1)).set j (some (.im d2))).set k (some (.im d3)))
section
variable {X : Cx} {a b c : Expr} {pos : Pos} {x y z : Str}
theorem js_par3F {i j k : Nat} {h : DX} {f g : DE} {px py pz pt : Pos} {kt k2 pt2} (hc : X.calm = true) (hN : X.N.Nodup) (hi : X.N[i]? = some x) (hj : X.N[j]? = some y) (hk : X.N[k]? = some z) (hij : i ≠ j) (hik : i ≠ k) (hjk : j ≠ k)
    (hx : X.env.scope.names.lookup x = some .local) (hy : X.env.scope.names.lookup y = some .local) (hz : X.env.scope.names.lookup z = some .local)
    (ha : JX X a h) (hb : JE X b f) (hcc : JE X c g)
    (hw : swappedStores [.Tuple [.Name x px, .Name y py, .Name z pz] kt pt] (.Tuple [a, b, c] k2 pt2) X.env = pure (some [x, y, z])) (hs : swapsWithSole [.Tuple [.Name x px, .Name y py, .Name z pz] kt pt] (.Tuple [a, b, c] k2 pt2) pos.line X.env = pure false := by rfl)
    (h1 : starEach [a, b, c] X.env = (false, eval a X.env) :: starEach [b, c] X.env := by rfl) (h2 : starEach [b, c] X.env = (false, eval b X.env) :: starEach [c] X.env := by rfl) (h3 : starEach [c] X.env = (false, eval c X.env) :: starEach [] X.env := by rfl) :
    JS X (.Assign [.Tuple [.Name x px, .Name y py, .Name z pz] kt pt] (.Tuple [a, b, c] k2 pt2) pos) (sPar3F i j k h f g) := by
  obtain ⟨t1, p1, k1⟩ := ha.ex
  obtain ⟨t2, p2, k2⟩ := hb.ex
  obtain ⟨t3, p3, k3⟩ := hcc.ex
  refine ⟨_, ps_par3 hc hN hi hj hk hij hik hjk hx hy hz (pa_cons p1 (pa_cons p2 (pa_cons p3 pa_nil h3) h2) h1) hw hs, fun T ρ σ H E D r h kk => ?_⟩
  refine k1 T ρ σ H _ _ r h fun s1 ρ1 v H1 f1 q1 h => k2 (s1.temps v T) ρ1 σ H1 _ _ f1.rs h fun d2 ρ2 w H2 r2 q2 v2 h => k3 (s1.temps v T) ρ2 σ H2 _ _ r2 h fun d3 ρ3 u H3 r3 q3 v3 h => ⟨v, w, u, rfl, ?_⟩
  have r4 := r3.setIm (i := k) v3
  have e4 := q3.trans (Po.setIm (i := k) (d := d3) (v := u))
  have r5 := r4.setIm (i := j) (v2.mono e4.fz)
  have e5 := (q2.trans e4).trans (Po.setIm (i := j) (d := d2) (v := w))
  obtain ⟨r6, e6⟩ := fin1 (i := i) r f1 q1 r5 e5
  rw [setc hjk.symm, setc hik.symm, setc hij.symm, setc hjk.symm, setc hik.symm, setc hij.symm] at r6 e6
  exact kk.nx _ _ _ r6 e6 h
end
end Dn
set_option Elab.async false
set_option linter.all false
set_option maxRecDepth 100000
set_option autoImplicit false
set_option maxHeartbeats 4000000
namespace Dn.T.K68
open PySem L2 Evl PySem.Spec PyProof.Rows
def lamR (n : Nat) (f : F2) (y : Int) : List Int := (rgI n).map fun z => (f y z).1
def shF (n : Nat) (f : F2) (x y : Int) : Int := (f x (f y (im (inv (lamR n f y)) x)).2).1
structure Rk (n : Nat) (d : Int → Int → Int) : Prop where
  rg : Rg n d
  inj : ∀ x y z, In n x → In n y → In n z → d x y = d x z → y = z
  dist : ∀ x y z, In n x → In n y → In n z → d x (d y z) = d (d x y) (d x z)
section
variable {n : Nat} {f : F2}
theorem lam_mv (h : Fr n f) {y : Int} (hy : In n y) : Mv n (lamR n f y) := mv_map (fun z a b => (h.rg y z hy ⟨a, b⟩).1) fun z u a b c e q => h.li y z u hy ⟨a, b⟩ ⟨c, e⟩ q
theorem lz (h : Fr n f) {x y : Int} (hx : In n x) (hy : In n y) : ∃ z, In n z ∧ (f y z).1 = x ∧ im (inv (lamR n f y)) x = z := by
  have m := lam_mv h hy
  obtain ⟨r, e⟩ := iv_rng m hx.1 hx.2
  refine ⟨iv (lamR n f y) x, r, ?_, inv_im m hx.1 hx.2⟩
  unfold lamR at e r ⊢
  rw [im_map r.1 r.2] at e
  exact e
theorem sh_at (h : Fr n f) {y z : Int} (hy : In n y) (hz : In n z) : shF n f (f y z).1 y = (f (f y z).1 (f y z).2).1 := by
  obtain ⟨z', a, b, c⟩ := lz h (h.rg y z hy hz).1 hy
  have e := h.li y z' z hy a hz b
  unfold shF
  rw [c, e]
theorem sh_rg (h : Fr n f) : Rg n (shF n f) := fun x y hx hy => by
  obtain ⟨z, a, b, c⟩ := lz h hx hy
  rw [← b, sh_at h hy a]
  have r := h.rg y z hy a
  exact (h.rg _ _ r.1 r.2).1
theorem sh_inj (h : Fr n f) (x y u : Int) (hx : In n x) (hy : In n y) (hu : In n u) (e : shF n f x y = shF n f x u) : y = u := by
  obtain ⟨z, a, b, _⟩ := lz h hx hy
  obtain ⟨w, c, d, _⟩ := lz h hx hu
  have e1 := sh_at h hy a
  have e2 := sh_at h hu c
  rw [b] at e1
  rw [d] at e2
  rw [e1, e2] at e
  have r := h.rg y z hy a
  have s := h.rg u w hu c
  have e3 := h.li x _ _ hx r.2 s.2 e
  exact (h.bi y z u w hy a hu c (Prod.ext (b.trans d.symm) e3)).1
theorem sh_aut (h : Fr n f) {x a b : Int} (hx : In n x) (ha : In n a) (hb : In n b) : (f x (shF n f a b)).1 = shF n f (f x a).1 (f x b).1 := by
  obtain ⟨z, hz, e, _⟩ := lz h ha hb
  have r := h.rg b z hb hz
  have e1 := sh_at h hb hz
  have rx := h.rg x b hx hb
  have rz := h.rg _ z rx.2 hz
  have e2 := sh_at h rx.1 rz.1
  have y1 := h.y1 x b z hx hb hz
  have y2 := h.y2 x b z hx hb hz
  rw [y1, y2, e] at e2
  rw [e] at e1
  rw [e1, e2]
  exact (h.y1 x a _ hx ha r.2).symm
theorem sh_dist (h : Fr n f) (x a b : Int) (hx : In n x) (ha : In n a) (hb : In n b) : shF n f x (shF n f a b) = shF n f (shF n f x a) (shF n f x b) := by
  obtain ⟨z, hz, ea, _⟩ := lz h ha hb
  obtain ⟨q, hq, eq, _⟩ := lz h hx hb
  obtain ⟨t, ht, et, _⟩ := lz h hq hz
  have rb := h.rg b z hb hz
  have rv := h.rg _ t rb.2 ht
  have rz := h.rg z t hz ht
  have ra := h.rg a _ ha rb.2
  have ru := h.rg _ t ra.2 ht
  have X1 := h.y1 b z t hb hz ht
  have X2 := h.y2 b z t hb hz ht
  have X3 := h.y3 b z t hb hz ht
  have Y1 := h.y1 a _ t ha rb.2 ht
  have Y2 := h.y2 a _ t ha rb.2 ht
  have e1 := sh_at h hb hz
  rw [ea] at e1 X1 X2
  have s1 := sh_at h hb rz.1
  have s2 := sh_at h ha rv.1
  have s3 := sh_at h ra.1 ru.1
  rw [et, eq] at X1
  rw [X1] at Y1
  rw [et, eq] at s1
  rw [X1] at s2
  rw [Y1] at s3
  have rt := (h.rg b q hb hq).2
  have s4 := sh_at h (y := (f b q).2) (z := (f z t).2) rt rz.2
  rw [et] at X2 X3
  rw [← X2, ← X3] at s4
  have ra2 := (h.rg a _ ha rv.1).2
  rw [e1, s3, s2, s1, Y2, ← s4, sh_aut h hx ra2 rt]
theorem sh_rk (h : Fr n f) : Rk n (shF n f) := ⟨sh_rg h, sh_inj h, sh_dist h⟩
theorem sh_plain (h : Fr n f) : (∀ x y, In n x → In n y → shF n f x y = y) ↔ Qt n f := by
  constructor
  · intro p y z hy hz
    have r := h.rg y z hy hz
    have r2 := h.rg _ _ r.1 r.2
    have e1 := sh_at h hy hz
    rw [p _ _ r.1 hy] at e1
    have e2 := sh_at h r.1 r.2
    rw [← e1] at e2
    rw [p _ _ hy r.1] at e2
    exact Prod.ext e1.symm (h.li y _ _ hy r2.2 hz e2.symm)
  · intro q x y hx hy
    obtain ⟨z, hz, e, _⟩ := lz h hx hy
    have e1 := sh_at h hy hz
    rw [e] at e1
    rw [e1]
    have := q y z hy hz
    rw [e] at this
    rw [this]
theorem sh_ren (h : Fr n f) {m : List Int} (hm : Mv n m) {i j : Int} (hi : In n i) (hj : In n j) : shF n (ren f m) i j = im (inv m) (shF n f (im m i) (im m j)) := by
  have g := fr_ren h hm
  obtain ⟨z, hz, e, _⟩ := lz (f := ren f m) g hi hj
  have e1 := sh_at (f := ren f m) g hj hz
  have r := h.rg _ _ (mv_in hm hj) (mv_in hm hz)
  have k1 : ∀ x, In n x → im m (im (inv m) x) = x := fun x hx => by
    obtain ⟨_, e⟩ := iv_rng hm hx.1 hx.2
    rw [inv_im hm hx.1 hx.2, e]
  rw [e] at e1
  have e2 : im m i = (f (im m j) (im m z)).1 := by rw [← e]; exact k1 _ r.1
  rw [e1, e2, sh_at h (mv_in hm hj) (mv_in hm hz)]
  show im (inv m) (f (im m i) (im m (im (inv m) (f (im m j) (im m z)).2))).1 = _
  rw [k1 _ r.2, e2]
end
theorem dmq {b : Nat} {q r : Int} (r0 : 0 ≤ r) (r1 : r < b) : (q * b + r) / b = q ∧ (q * b + r) % b = r := by
  have hb : (b : Int) ≠ 0 := by omega
  constructor
  · rw [Int.add_comm, Int.add_mul_ediv_right _ _ hb, Int.ediv_eq_zero_of_lt r0 r1]; omega
  · rw [Int.add_comm, Int.add_mul_emod_self_right, Int.emod_eq_of_lt r0 r1]
abbrev prdG := K54.K56.prdF
theorem sh_prd {a b : Nat} {f g : F2} (hf : Fr a f) (hg : Fr b g) (b1 : 1 ≤ b) {k j : Int} (hk : In (a * b) k) (hj : In (a * b) j) : shF (a * b) (prdG b f g) k j = shF a f (k / b) (j / b) * b + shF b g (k % b) (j % b) := by
  have fp := K54.K56.fr_prd hf hg b1
  obtain ⟨z, hz, e, _⟩ := lz (f := prdG b f g) fp hk hj
  have e1 := sh_at (f := prdG b f g) fp hj hz
  have dv : ∀ x, In (a * b) x → In a (x / b) ∧ In b (x % b) := fun x hx => by
    have hb : (0 : Int) < b := by omega
    refine ⟨⟨Int.ediv_nonneg hx.1 (by omega), ?_⟩, Int.emod_nonneg _ (by omega), Int.emod_lt_of_pos _ hb⟩
    have := hx.2
    push_cast at this
    exact Int.ediv_lt_of_lt_mul hb this
  obtain ⟨j1, j2⟩ := dv j hj
  obtain ⟨z1, z2⟩ := dv z hz
  have rf := hf.rg _ _ j1 z1
  have rg := hg.rg _ _ j2 z2
  have ek := dmq (q := (f (j / b) (z / b)).1) rg.1.1 rg.1.2
  have ew := dmq (q := (f (j / b) (z / b)).2) rg.2.1 rg.2.2
  have e' : (f (j / b) (z / b)).1 * b + (g (j % b) (z % b)).1 = k := e
  rw [e'] at ek
  rw [e] at e1
  rw [e1]
  show (f (k / b) (((f (j / b) (z / b)).2 * b + (g (j % b) (z % b)).2) / b)).1 * b + (g (k % b) (((f (j / b) (z / b)).2 * b + (g (j % b) (z % b)).2) % b)).1 = _
  rw [ew.1, ew.2, ek.1, ek.2, sh_at hf j1 z1, sh_at hg j2 z2]
end Dn.T.K68
set_option Elab.async false
set_option linter.all false
set_option maxRecDepth 100000
set_option autoImplicit false
set_option maxHeartbeats 4000000
namespace Dn.T.K68
open PySem L2 Evl PySem.Spec PyProof.Rows
abbrev N_Passing__renamed := Dn.T.K54.K56.N_Passing__renamed
abbrev P_Passing__renamed := Dn.T.K54.K56.P_Passing__renamed
abbrev g_Passing__renamed := Dn.T.K54.K56.g_Passing__renamed
abbrev S_Passing__renamed := Dn.T.K54.K56.S_Passing__renamed
abbrev N_renamed_table_rows := Dn.T.K54.K56.N_renamed_table_rows
abbrev P_renamed_table_rows := Dn.T.K54.K56.P_renamed_table_rows
abbrev g_renamed_table_rows := Dn.T.K54.K56.g_renamed_table_rows
abbrev S_renamed_table_rows := Dn.T.K54.K56.S_renamed_table_rows
abbrev N_Passing____mul__ := Dn.T.K54.K56.N_Passing____mul__
abbrev P_Passing____mul__ := Dn.T.K54.K56.P_Passing____mul__
abbrev g_Passing____mul__ := Dn.T.K54.K56.g_Passing____mul__
abbrev S_Passing____mul__ := Dn.T.K54.K56.S_Passing____mul__
abbrev N__pair_rows := Dn.T.K54.K56.N__pair_rows
abbrev P__pair_rows := Dn.T.K54.K56.P__pair_rows
abbrev g__pair_rows := Dn.T.K54.K56.g__pair_rows
abbrev S__pair_rows := Dn.T.K54.K56.S__pair_rows
theorem v_Passing__renamed : VD g_Passing__renamed S_Passing__renamed 2 0 := Dn.T.K54.K56.v_Passing__renamed
theorem v_renamed_table_rows : VD g_renamed_table_rows S_renamed_table_rows 2 3 := Dn.T.K54.K56.v_renamed_table_rows
theorem v_Passing____mul__ : VD g_Passing____mul__ S_Passing____mul__ 2 0 := Dn.T.K54.K56.v_Passing____mul__
theorem v__pair_rows : VD g__pair_rows S__pair_rows 2 5 := Dn.T.K54.K56.v__pair_rows
abbrev S_check_rows_passing := S__check_rows
abbrev S_broken_paper_passing := S__broken_paper
def plB (n : Nat) (d : Int → Int → Int) : Bool := (rgI n).all fun x => (rgI n).all fun y => decide (d x y = y)
def S_shadow_of (ds : List D) (Q : D → Prop) : Prop := ∃ n f, ds = [pasD n f] ∧ Fr n f ∧ n ≤ 8 ∧ Q (tR (tab n (shF n f)))
def S__law_shadow_rows (ds : List D) (Q : D → Prop) : Prop := ∃ n f, ds = [tRP (tabP n f)] ∧ Fr n f ∧ n ≤ 8 ∧ Q (tR (tab n (shF n f)))
def S__law_is_shadow (ds : List D) (Q : D → Prop) : Prop := ∃ n d, ds = [tR (tab n d)] ∧ Rk n d ∧ n ≤ 8 ∧ Q (.bool true)
def S__law_are_kept (ds : List D) (Q : D → Prop) : Prop := ∃ n f d, ds = [tRP (tabP n f), tR (tab n d)] ∧ RgP n f ∧ Rg n d ∧ (∀ x a b, In n x → In n a → In n b → (f x (d a b)).1 = d (f x a).1 (f x b).1) ∧ n ≤ 8 ∧ Q (.bool true)
def S__law_is_plain (ds : List D) (Q : D → Prop) : Prop := ∃ n d, ds = [tR (tab n d)] ∧ Rg n d ∧ n ≤ 8 ∧ Q (.bool (plB n d))
def S_check_rows_shadows (ds : List D) (Q : D → Prop) : Prop := ∃ n d, ds = [tR (tab n d)] ∧ Rg n d ∧ n ≤ 8 ∧ Q .none
def S__is_shadow (ds : List D) (Q : D → Prop) : Prop := ∃ n d, ds = [tR (tab n d)] ∧ Rk n d ∧ n ≤ 8 ∧ Q (.bool true)
def S_broken_paper_shadows (ds : List D) (Q : D → Prop) : Prop := False
def S__breaks_shadow (ds : List D) (Q : D → Prop) : Prop := False
def S_shadow_paper (ds : List D) (Q : D → Prop) : Prop := ∃ n d, ds = [tR (tab n d)] ∧ Rk n d ∧ n ≤ 8 ∧ Q (fineD "shadow")
def S_is_shadow_paper (ds : List D) (Q : D → Prop) : Prop := ∃ n d, ds = [tR (tab n d), fineD "shadow"] ∧ Rk n d ∧ n ≤ 8 ∧ Q (.bool true)
def S__law_right (ms ds : List D) (Q : D → List D → Prop) : Prop := ∃ n f, ds = [tRP (tabP n f)] ∧ Fr n f ∧ 1 ≤ n ∧ n ≤ 6 ∧ Dc ms ∧ ∀ ms', Dc ms' → Q (.bool true) ms'
def S__law_pairs_right (ds : List D) (Q : D → Prop) : Prop := ∃ a b f g, ds = [tRP (tabP a f), tRP (tabP b g)] ∧ Fr a f ∧ Fr b g ∧ 1 ≤ b ∧ b ≤ 8 ∧ a * b ≤ 8 ∧ Q (.bool true)
def S_law (ds : List D) (Q : D → Prop) : Prop := ∃ s, ds = [scr s] ∧ s.length ≤ 63 ∧ Q (.bool true)
end Dn.T.K68
set_option Elab.async false
set_option linter.all false
set_option maxRecDepth 100000
set_option autoImplicit false
set_option maxHeartbeats 4000000
namespace Dn.T.K68
open PySem L2 Evl PySem.Spec PyProof.Rows
abbrev N_fair_paper : List Str := ["rows"]
abbrev P_fair_paper : List Str := ["rows"]
def g_fair_paper : DS := sSeq (sEx (dCallF 1 S_check_rows_passing (aCons (dVar 0) (aNil)))) (sRet (dIfE (dTst (dCallF 1 S_are_fair_rows (aCons (dVar 0) (aNil)))) (dTup (aCons (dC (.str "fair")) (aNil))) (dCallF 1 S_broken_paper_passing (aCons (dVar 0) (aNil)))))
abbrev N_check_rows_passing : List Str := ["rows"]
abbrev P_check_rows_passing : List Str := ["rows"]
def g_check_rows_passing : DS := sIf (dTNot (dTst (dCallF 1 S__is_table_rows (aCons (dVar 0) (aNil))))) (sNever) (sNx)
abbrev N_broken_paper_passing : List Str := ["rows", "threes", "word", "letters"]
abbrev P_broken_paper_passing : List Str := ["rows"]
def g_broken_paper_passing : DS := sSeq (sSet 1 (xIm (dCallF 1 S__threes (aCons (dCall dLen (aCons (dVar 0) (aNil))) (aNil))))) (sFor (iSq (dTup (aCons (dC (.str "left")) (aCons (dC (.str "right")) (aCons (dC (.str "three")) (aNil)))))) (gNm 2) (sFor (iSq (dVar 1)) (gNm 3) (sIf (dTst (dCallF 3 S__breaks_fair (aCons (dVar 0) (aCons (dVar 2) (aCons (dVar 3) (aNil)))))) (sRet (dBin dAdd (dTup (aCons (dVar 2) (aNil))) (dVar 3))) (sNx))))
abbrev N__law_shadow_rows : List Str := ["_law_rows", "_law_left", "_law_right_here", "_law_found", "_law_x", "_law_row", "_law_y", "_law_z"]
abbrev P__law_shadow_rows : List Str := ["_law_rows"]
def g__law_shadow_rows : DS := sSeq (sPar3 1 2 3 (dCallF 1 S__law_left_of (aCons (dVar 0) (aNil))) (dCallF 1 S__law_right_of (aCons (dVar 0) (aNil))) (xOw (lLst (aNil)))) (sSeq (sFor (iR1 (dCall dLen (aCons (dVar 0) (aNil)))) (gNm 4) (sSeq (sSet 5 (xOw (lLst (aNil)))) (sSeq (sFor (iR1 (dCall dLen (aCons (dVar 0) (aNil)))) (gNm 6) (sSeq (sSet 7 (xIm (dBin dIx (dCallF 1 S__law_undone (aCons (dBin dIx (dVar 1) (dVar 6)) (aNil))) (dVar 4)))) (sEx (dApp 5 (dBin dIx (dBin dIx (dVar 1) (dVar 4)) (dBin dIx (dBin dIx (dVar 2) (dVar 7)) (dVar 6))))))) (sEx (dApp 3 (dTupO 5)))))) (sRet (dTupO 3)))
abbrev N_shadow_of : List Str := ["table", "ends", "row", "x", "v", "goals"]
abbrev P_shadow_of : List Str := ["table"]
def g_shadow_of : DS := sSeq (sEx (dCallF 1 S_check_table (aCons (dVar 0) (aNil)))) (sSeq (sSet 1 (xIm (dOfL (lLc (iSq (dProp "Passing" S_Passing__rows (dVar 0))) (gNm 2) (dYes) (dOfK (lDc (iSq (dVar 2)) (gTp 2 (gsCons (gNm 3) (gsCons (gNm 4) (gsNil)))) (dYes) (dVar 3) (dBin dIx (dBin dIx (dProp "Passing" S_Passing__left (dVar 0)) (dVar 3)) (dVar 4)) [3, 4])) [2])))) (sRet (dCall dTupOf (aCons (dOfL (lLc (iR1 (dLenI "Passing" S_Passing____len__ (dVar 0))) (gNm 3) (dYes) (dCall dTupOf (aCons (dOfL (lLc (iSq (dVar 1)) (gNm 5) (dYes) (dGetD (dVar 5) (dVar 3)) [5])) (aNil))) [3])) (aNil)))))
abbrev N__law_is_shadow : List Str := ["_law_rows", "_law_size", "_law_row", "_law_y", "_law_z"]
abbrev P__law_is_shadow : List Str := ["_law_rows"]
def g__law_is_shadow : DS := sSeq (sSet 1 (xIm (dCall dLen (aCons (dVar 0) (aNil))))) (sSeq (sIf (dTst (dBin dNe (dOfL (lLc (iSq (dVar 0)) (gNm 2) (dTst (dBin dLt (dLenSet2 (dVar 2)) (dVar 1))) (dVar 2) [2])) (dOfL (lLst (aNil))))) (sRet (dC (.bool false))) (sNx)) (sSeq (sFor (iSq (dVar 0)) (gNm 2) (sFor (iR1 (dVar 1)) (gNm 3) (sFor (iR1 (dVar 1)) (gNm 4) (sIf (dTst (dBin dNe (dBin dIx (dVar 2) (dBin dIx (dBin dIx (dVar 0) (dVar 3)) (dVar 4))) (dBin dIx (dBin dIx (dVar 0) (dBin dIx (dVar 2) (dVar 3))) (dBin dIx (dVar 2) (dVar 4))))) (sRet (dC (.bool false))) (sNx))))) (sRet (dC (.bool true)))))
abbrev N__law_are_kept : List Str := ["_law_rows", "_law_shadow", "_law_move", "_law_x", "_law_row", "_law_goal", "_law_y"]
abbrev P__law_are_kept : List Str := ["_law_rows", "_law_shadow"]
def g__law_are_kept : DS := sSeq (sFor (iSq (dCallF 1 S__law_left_of (aCons (dVar 0) (aNil)))) (gNm 2) (sFor (iR1 (dCall dLen (aCons (dVar 0) (aNil)))) (gNm 3) (sSeq (sPar 4 5 (xIm (dBin dIx (dVar 1) (dVar 3))) (xIm (dBin dIx (dVar 1) (dBin dIx (dVar 2) (dVar 3))))) (sIf (dTst (dBin dNe (dOfL (lLc (iR1 (dCall dLen (aCons (dVar 0) (aNil)))) (gNm 6) (dTst (dBin dNe (dBin dIx (dVar 2) (dBin dIx (dVar 4) (dVar 6))) (dBin dIx (dVar 5) (dBin dIx (dVar 2) (dVar 6))))) (dVar 6) [6])) (dOfL (lLst (aNil))))) (sRet (dC (.bool false))) (sNx))))) (sRet (dC (.bool true)))
abbrev N__law_is_plain : List Str := ["_law_shadow", "_law_row"]
abbrev P__law_is_plain : List Str := ["_law_shadow"]
def g__law_is_plain : DS := sRet (dBin dEq (dOfL (lLc (iSq (dVar 0)) (gNm 1) (dTst (dBin dNe (dVar 1) (dTRg (rg1 (dCall dLen (aCons (dVar 0) (aNil))))))) (dVar 1) [1])) (dOfL (lLst (aNil))))
abbrev N_shadow_paper : List Str := ["rows"]
abbrev P_shadow_paper : List Str := ["rows"]
def g_shadow_paper : DS := sSeq (sEx (dCallF 1 S_check_rows_shadows (aCons (dVar 0) (aNil)))) (sRet (dIfE (dTst (dCallF 1 S__is_shadow (aCons (dVar 0) (aNil)))) (dTup (aCons (dC (.str "shadow")) (aNil))) (dCallF 1 S_broken_paper_shadows (aCons (dVar 0) (aNil)))))
abbrev N_check_rows_shadows : List Str := ["rows"]
abbrev P_check_rows_shadows : List Str := ["rows"]
def g_check_rows_shadows : DS := sIf (dTNot (dTst (dCallF 3 S_is_square (aCons (dVar 0) (aCons (dC (.int 0)) (aCons (dC (.int 8)) (aNil))))))) (sNever) (sNx)
abbrev N__is_shadow : List Str := ["rows", "row", "y", "goal"]
abbrev P__is_shadow : List Str := ["rows"]
def g__is_shadow : DS := sSeq (sIf (dTNot (dTst (dCall dAll (aCons (dOfL (lLc (iSq (dVar 0)) (gNm 1) (dYes) (dCallF 2 S_is_move_of (aCons (dVar 1) (aCons (dCall dLen (aCons (dVar 0) (aNil))) (aNil)))) [1])) (aNil))))) (sRet (dC (.bool false))) (sNx)) (sSeq (sFor (iSq (dVar 0)) (gNm 1) (sFor (iEn (dVar 1)) (gTp 2 (gsCons (gNm 2) (gsCons (gNm 3) (gsNil)))) (sIf (dTst (dBin dNe (dCallF 2 S_joined_moves (aCons (dVar 1) (aCons (dBin dIx (dVar 0) (dVar 2)) (aNil)))) (dCallF 2 S_joined_moves (aCons (dBin dIx (dVar 0) (dVar 3)) (aCons (dVar 1) (aNil)))))) (sRet (dC (.bool false))) (sNx)))) (sRet (dC (.bool true))))
abbrev N_broken_paper_shadows : List Str := ["rows", "letters", "word", "threes", "x", "y", "z"]
abbrev P_broken_paper_shadows : List Str := ["rows"]
def g_broken_paper_shadows : DS := sNever
abbrev N_is_shadow_paper : List Str := ["rows", "value", "word"]
abbrev P_is_shadow_paper : List Str := ["rows", "value"]
def g_is_shadow_paper : DS := sSeq (sEx (dCallF 1 S_check_rows_shadows (aCons (dVar 0) (aNil)))) (sSeq (sFor (iSq (dTup (aCons (dC (.str "row")) (aCons (dC (.str "three")) (aNil))))) (gNm 2) (sIf (dTst (dCallF 4 S_is_told (aCons (dVar 1) (aCons (dVar 2) (aCons (dC (.int 3)) (aCons (dCall dLen (aCons (dVar 0) (aNil))) (aNil))))))) (sRet (dCallF 3 S__breaks_shadow (aCons (dVar 0) (aCons (dVar 2) (aCons (dSl (dVar 1) (oSome (dC (.int 1))) (oNone)) (aNil)))))) (sNx))) (sRet (dAnd (dCallF 2 S_is_same (aCons (dVar 1) (aCons (dTup (aCons (dC (.str "shadow")) (aNil))) (aNil)))) (dCallF 1 S__is_shadow (aCons (dVar 0) (aNil))))))
abbrev N__breaks_shadow : List Str := ["rows", "word", "letters", "x", "y", "z"]
abbrev P__breaks_shadow : List Str := ["rows", "word", "letters"]
def g__breaks_shadow : DS := sNever
abbrev N__law_pairs_right : List Str := ["_law_one", "_law_other", "_law_size", "_law_due", "_law_first", "_law_second", "_law_x", "_law_row", "_law_left", "_law_right_here", "_law_y"]
abbrev P__law_pairs_right : List Str := ["_law_one", "_law_other"]
def g__law_pairs_right : DS := sSeq (sPar 2 3 (xIm (dCall dLen (aCons (dVar 1) (aNil)))) (xOw (lLst (aNil)))) (sSeq (sPar 4 5 (xIm (dCallF 1 S__law_shadow_rows (aCons (dVar 0) (aNil)))) (xIm (dCallF 1 S__law_shadow_rows (aCons (dVar 1) (aNil))))) (sSeq (sFor (iR1 (dBin dMulA (dCall dLen (aCons (dVar 0) (aNil))) (dVar 2))) (gNm 6) (sSeq (sPar3F 7 8 9 (xOw (lLst (aNil))) (dBin dIx (dVar 4) (dBin dFdiv (dVar 6) (dVar 2))) (dBin dIx (dVar 5) (dBin dMod (dVar 6) (dVar 2)))) (sSeq (sFor (iR1 (dBin dMulA (dCall dLen (aCons (dVar 0) (aNil))) (dVar 2))) (gNm 10) (sEx (dApp 7 (dBin dAdd (dBin dMulA (dBin dIx (dVar 8) (dBin dFdiv (dVar 10) (dVar 2))) (dVar 2)) (dBin dIx (dVar 9) (dBin dMod (dVar 10) (dVar 2))))))) (sEx (dApp 3 (dTupO 7)))))) (sRet (dBin dEq (dCallF 1 S_shadow_of (aCons (dMulI "Passing" S_Passing____mul__ (dNew 2 "Passing" S_Passing____init__ (aCons (dVar 0) (aNil))) (dNew 2 "Passing" S_Passing____init__ (aCons (dVar 1) (aNil)))) (aNil))) (dTupO 3)))))
abbrev N__law_right : List Str := ["_law_dice_here", "_law_rows", "_law_table", "_law_due", "_law_order", "_law_back", "_law_renamed", "_law_x", "_law_y"]
abbrev P__law_right : List Str := ["_law_dice_here", "_law_rows"]
def g__law_right : DS := sSeq (sPar 2 3 (xIm (dNew 2 "Passing" S_Passing____init__ (aCons (dVar 1) (aNil)))) (xIm (dCallF 1 S__law_shadow_rows (aCons (dVar 1) (aNil))))) (sSeq (sIf (dTOr (dTst (dBin dNe (dCallF 1 S_shadow_of (aCons (dVar 2) (aNil))) (dVar 3))) (dTOr (dTNot (dTst (dCallF 1 S__law_is_shadow (aCons (dVar 3) (aNil))))) (dTNot (dTst (dCallF 2 S__law_are_kept (aCons (dVar 1) (aCons (dVar 3) (aNil)))))))) (sRet (dC (.bool false))) (sNx)) (sSeq (sIf (dTOr (dTst (dBin dNe (dProp "Passing" S_Passing__is_quiet (dVar 2)) (dCallF 1 S__law_is_plain (aCons (dVar 3) (aNil))))) (dTOr (dTst (dBin dNe (dCallF 1 S_shadow_paper (aCons (dVar 3) (aNil))) (dTup (aCons (dC (.str "shadow")) (aNil))))) (dTNot (dTst (dCallF 2 S_is_shadow_paper (aCons (dVar 3) (aCons (dTup (aCons (dC (.str "shadow")) (aNil))) (aNil)))))))) (sRet (dC (.bool false))) (sNx)) (sSeq (sSet 4 (xIm (dCallM 0 2 S__law_drawn_move (aCons (dCall dLen (aCons (dVar 1) (aNil))) (aNil))))) (sSeq (sSet 5 (xIm (dCallF 1 S__law_undone (aCons (dVar 4) (aNil))))) (sSeq (sSet 6 (xIm (dCall dTupOf (aCons (dOfL (lLc (iSq (dVar 4)) (gNm 7) (dYes) (dCall dTupOf (aCons (dOfL (lLc (iSq (dVar 4)) (gNm 8) (dYes) (dBin dIx (dVar 5) (dBin dIx (dBin dIx (dVar 3) (dVar 7)) (dVar 8))) [8])) (aNil))) [7])) (aNil))))) (sRet (dBin dEq (dCallF 1 S_shadow_of (aCons (dMeth 2 "Passing" "renamed" S_Passing__renamed (dVar 2) (aCons (dVar 4) (aNil))) (aNil))) (dVar 6))))))))
abbrev N_law : List Str := ["_law_script", "_law_spot", "_law_dice_here", "_law_turn", "_law_turns"]
abbrev P_law : List Str := ["_law_script"]
def g_law : DS := sSeq (sFor (iR1 (dCall dMax2 (aCons (dC (.int 1)) (aCons (dCall dMin2 (aCons (dC (.int 4)) (aCons (dCall dLen (aCons (dVar 0) (aNil))) (aNil)))) (aNil))))) (gNm 1) (sSeq (sSet 2 (xOw (lCall 2 S__law_dice (aCons (dVar 0) (aCons (dVar 1) (aNil)))))) (sSeq (sFor (iR1 (dC (.int 2))) (gNm 3) (sIf (dTNot (dTst (dCallM 2 2 S__law_right (aCons (dCallM 2 3 S__law_fair_rows (aCons (dC (.int 1)) (aCons (dC (.int 6)) (aNil)))) (aNil))))) (sRet (dC (.bool false))) (sNx))) (sIf (dTNot (dTst (dCallF 2 S__law_pairs_right (aCons (dCallM 2 3 S__law_fair_rows (aCons (dC (.int 1)) (aCons (dC (.int 2)) (aNil)))) (aCons (dCallM 2 3 S__law_fair_rows (aCons (dC (.int 1)) (aCons (dC (.int 4)) (aNil)))) (aNil)))))) (sRet (dC (.bool false))) (sNx))))) (sSeq (sSet 4 (xIm (dNew 2 "Passing" S_Passing____init__ (aCons (dTup (aCons (dTup (aCons (dTup (aCons (dC (.int 0)) (aCons (dC (.int 0)) (aNil)))) (aCons (dTup (aCons (dC (.int 2)) (aCons (dC (.int 0)) (aNil)))) (aCons (dTup (aCons (dC (.int 1)) (aCons (dC (.int 0)) (aNil)))) (aNil))))) (aCons (dTup (aCons (dTup (aCons (dC (.int 2)) (aCons (dC (.int 1)) (aNil)))) (aCons (dTup (aCons (dC (.int 1)) (aCons (dC (.int 1)) (aNil)))) (aCons (dTup (aCons (dC (.int 0)) (aCons (dC (.int 1)) (aNil)))) (aNil))))) (aCons (dTup (aCons (dTup (aCons (dC (.int 1)) (aCons (dC (.int 2)) (aNil)))) (aCons (dTup (aCons (dC (.int 0)) (aCons (dC (.int 2)) (aNil)))) (aCons (dTup (aCons (dC (.int 2)) (aCons (dC (.int 2)) (aNil)))) (aNil))))) (aNil))))) (aNil))))) (sRet (dAnd (dBin dEq (dCallF 1 S_shadow_of (aCons (dVar 4) (aNil))) (dTup (aCons (dTup (aCons (dC (.int 0)) (aCons (dC (.int 2)) (aCons (dC (.int 1)) (aNil))))) (aCons (dTup (aCons (dC (.int 2)) (aCons (dC (.int 1)) (aCons (dC (.int 0)) (aNil))))) (aCons (dTup (aCons (dC (.int 1)) (aCons (dC (.int 0)) (aCons (dC (.int 2)) (aNil))))) (aNil)))))) (dBin dEq (dCallF 1 S_shadow_of (aCons (dNew 2 "Passing" S_Passing____init__ (aCons (dTup (aNil)) (aNil))) (aNil))) (dTup (aNil))))))
end Dn.T.K68
set_option Elab.async false
set_option linter.all false
set_option maxRecDepth 100000
set_option autoImplicit false
set_option maxHeartbeats 4000000
namespace Dn.T.K68
open PySem L2 Evl PySem.Spec PyProof.Rows
local macro_rules | `(tactic| walk_at "dd") => `(tactic| simp only [sSeq, sIf, sSet, sRet, sRetN, sNx, sEx, sAsg, sPar, dTOr, dTAnd, dTNot, dTst, dIsi, dVar, dC, dBin, dChain, dNeg, dI2, dAnd, dOr, dNot, dIfE, dCall, dCallF, aCons, aNil, dTup, lLst, dOfL, xIm, xOw, gNm, gTp, gsCons, gsNil, dYes, envD, dLen_tR, dLen_tI, dLen_tup, dLen_lst, seq_tR, seq_tI, seq_tup, seq_lst, dIs, dIsNot, dNe, dEq, dTupOf, dSl, oNone, oSome, iSq, iEn, iR1, iR2, sFor, lLc, sNever, dTRg, rg1, rg2, lRg, wipeD, isN,
  gTpL, dIxP, sSub, dApp, dPopAt, dExt, dCallM, dCallO, dBinO, dTupO, lOf, lOfO, sRetO, iOw, dVarF, lCat, lCall, dAbs, dMax2, dMin2, dInt, atO, setO, MO.getL, MO.putL, Option.isSome_some,
  dInK, dGetK, dGetD, dInD, dGet1, lKeys, lSort, dLenSet, dLenSetL, dLenSet2, sPar3, dRevT, sPutK, xDct, xDct1, sRetK, atK, keyD, sAugI, dFld, sFldD, xRng, iRgO, dNew, dNewV, dCM, dProp, dMeth, dLenI, dStrO, dEqI, dIsC, dJoin, dJs, dFmt, dCallML, sSubI, gSubW, sWh, sPar3F, dOfK, dRepU, dKeep2, lSortSet, lSortTu, lDc, dRepT, lRep, dStrI, xDctT1, xDctOf, dInT, sPutT, lSortT2, lSortDT, dPop, dBinR, dKeep, dCallMO, atT, dCallO,
  kit_int, kit_bool, kit_tuple, kit_str, List.map_cons, List.map_nil, List.cons_append, List.nil_append, List.replicate, List.set_cons_zero, List.set_cons_succ, List.getElem?_cons_zero, List.getElem?_cons_succ, List.length_cons, List.length_nil, List.length_map, Nat.reduceAdd, Nat.reduceSub, Bool.not_true, Bool.not_false, Bool.false_eq_true, if_true, if_false, true_and, reduceCtorEq, Bool.true_eq_false, rgD_rgI, Option.some.injEq, exists_eq_left', and_true])
theorem v_check_rows_passing : VD g_check_rows_passing S_check_rows_passing 1 0 := v__check_rows
theorem v_broken_paper_passing : VD g_broken_paper_passing S_broken_paper_passing 1 3 := v__broken_paper
theorem v_fair_paper : VD g_fair_paper S_fair_paper 1 0 := Dn.T.v_fair_paper
theorem v_broken_paper_shadows : VD g_broken_paper_shadows S_broken_paper_shadows 1 6 := fun ds Q _ h => h.elim
theorem v__breaks_shadow : VD g__breaks_shadow S__breaks_shadow 3 3 := fun ds Q _ h => h.elim
theorem v_check_rows_shadows : VD g_check_rows_shadows S_check_rows_shadows 1 0 := fun ds Q _ h => by
  obtain ⟨n, d, rfl, hd, hn, h⟩ := h
  unfold g_check_rows_shadows
  walk_at "dd"
  refine ⟨tab n d, n, rfl, dw_tab hd, hn, ?_⟩
  exact h
theorem v_shadow_paper : VD g_shadow_paper S_shadow_paper 1 0 := fun ds Q _ h => by
  obtain ⟨n, d, rfl, hd, hn, h⟩ := h
  unfold g_shadow_paper
  walk_at "dd"
  refine ⟨n, d, rfl, hd.rg, hn, n, d, rfl, hd, hn, ?_⟩
  exact ⟨by decide, h⟩
theorem v_is_shadow_paper : VD g_is_shadow_paper S_is_shadow_paper 2 1 := fun ds Q _ h => by
  obtain ⟨n, d, rfl, hd, hn, h⟩ := h
  unfold g_is_shadow_paper
  walk_at "dd"
  refine ⟨n, d, rfl, hd.rg, hn, ?_⟩
  refine ⟨by decide, ?_⟩
  refine wpFor_inv (fun ρ => ∃ x, ρ = [some (.im (tR (tab n d))), some (.im (fineD "shadow")), x]) ⟨_, rfl⟩ (fun v hv ρ K p k => ?_) (fun ρ p => ?_)
  · obtain ⟨x, rfl⟩ := p
    have ok : okV (fineD "shadow") := fun xs e => by
      cases e
      exact ⟨by decide, by decide +kernel, fun y hy => by rw [List.mem_singleton.mp hy]; decide +kernel⟩
    obtain ⟨s, rfl, hs⟩ : ∃ s : Str, v = .str s ∧ SeqAt.shaped (.str s) = true := by
      simp only [List.mem_cons, List.not_mem_nil, or_false] at hv
      rcases hv with rfl | rfl
      · exact ⟨_, rfl, by decide +kernel⟩
      · exact ⟨_, rfl, by decide +kernel⟩
    try walk_at "dd"
    rw [tab_len]
    refine ⟨fineD "shadow", s, 3, n, rfl, ⟨by decide, by omega⟩, ok, hs, ?_⟩
    rw [show isTold s 3 n (fineD "shadow") = false from rfl]
    exact k _ ⟨_, rfl⟩
  · obtain ⟨x, rfl⟩ := p
    try walk_at "dd"
    refine ⟨by decide, ?_⟩
    refine .inr ⟨_, "shadow", rfl, fun xs e => by cases e; exact ⟨by decide, by decide +kernel, fun y hy => by rw [List.mem_singleton.mp hy]; decide +kernel⟩, by decide +kernel, ?_⟩
    exact ⟨n, d, rfl, hd, hn, h⟩
theorem tab_tI (n : Nat) (d : Int → Int → Int) : (tab n d).map tI = (rgI n).map fun x => tI ((rgI n).map (d x)) := by unfold tab; rw [List.map_map]; rfl
theorem tab_get {n : Nat} {d : Int → Int → Int} {x : Int} (hx : In n x) : (tab n d).getD x.toNat [] = (rgI n).map (d x) := by
  unfold tab
  rw [getD_map (a := 0) (by rw [rgI_len]; unfold In at hx; omega), rg_at hx]
theorem row_rk {n : Nat} {d : Int → Int → Int} (h : Rk n d) {x : Int} (hx : In n x) : Mv n ((rgI n).map (d x)) := mv_map (fun y a b => h.rg x y hx ⟨a, b⟩) fun y z a b c e q => h.inj x y z hx ⟨a, b⟩ ⟨c, e⟩ q
theorem ixTR {n : Nat} {d : Int → Int → Int} {x : Int} {Q : D → Prop} (hx : In n x) (h : Q (tI ((rgI n).map (d x)))) : dIx (tR (tab n d)) (.int x) Q := by
  refine ixR hx.1 (by rw [tab_len]; exact hx.2) ?_
  rw [tab_get hx]; exact h
theorem v__is_shadow : VD g__is_shadow S__is_shadow 1 3 := fun ds Q _ h => by
  obtain ⟨n, d, rfl, hd, hn, h⟩ := h
  unfold g__is_shadow
  walk_at "dd"
  rw [tab_tI]
  refine wpLc_mapL (rgI n) (fun x => tI ((rgI n).map (d x))) (fun _ => .bool true) (by rw [rgI_len]; omega) rfl (fun x hx K hK => ?_) (fun _ => rfl) ?_
  · try walk_at "dd"
    rw [tab_len]
    refine ⟨_, _, rfl, ?_⟩
    rw [(move_perm (row_rk hd (In.mem.1 hx)) (by omega)).2]
    exact hK _ rfl
  · refine ⟨(rgI n).map fun _ => true, by rw [List.map_map]; rfl, ?_⟩
    rw [show ((rgI n).map fun _ => true).all id = true from by simp]
    try walk_at "dd"
    rw [tab_tI]
    refine wpFor_inv (fun ρ => ∃ x1 x2 x3, ρ = [some (.im (tR (tab n d))), x1, x2, x3]) ⟨_, _, _, rfl⟩ (fun v hv ρ K p k => ?_) (fun ρ p => ?_)
    · obtain ⟨x1, x2, x3, rfl⟩ := p
      obtain ⟨x, hx, rfl⟩ := List.mem_map.mp hv
      have hx := In.mem.1 hx
      try walk_at "dd"
      rw [enD_map ((rgI n).map (d x)) PyData.int 0, List.length_map, rgI_len]
      refine wpFor_inv (fun ρ => ∃ x2 x3, ρ = [some (.im (tR (tab n d))), some (.im (tI ((rgI n).map (d x)))), x2, x3]) ⟨_, _, rfl⟩ (fun v2 hv2 ρ K2 p2 k2 => ?_) (fun ρ p2 => ?_)
      · obtain ⟨x2, x3, rfl⟩ := p2
        obtain ⟨y, hy, rfl⟩ := List.mem_map.mp hv2
        have hy := In.mem.1 hy
        rw [getD_map (a := 0) (by rw [rgI_len]; unfold In at hy; omega), rg_at hy]
        have hg := hd.rg x y hx hy
        try walk_at "dd"
        refine ixTR hy ⟨n, _, _, rfl, row_rk hd hx, row_rk hd hy, by omega, ?_⟩
        refine ixTR hg ⟨n, _, _, rfl, row_rk hd hg, row_rk hd hx, by omega, ?_⟩
        have e : jn ((rgI n).map (d x)) ((rgI n).map (d y)) = jn ((rgI n).map (d (d x y))) ((rgI n).map (d x)) := by
          rw [jn_map (row_rk hd hy), jn_map (row_rk hd hx)]
          refine map_ext fun z z0 z1 => ?_
          have hz : In n z := ⟨z0, z1⟩
          have a := hd.rg y z hy hz
          have b := hd.rg x z hx hz
          rw [im_map z0 z1, im_map z0 z1, im_map a.1 a.2, im_map b.1 b.2]
          exact hd.dist x y z hx hy hz
        rw [e]
        refine ne_same ?_
        exact k2 _ ⟨_, _, rfl⟩
      · obtain ⟨x2, x3, rfl⟩ := p2
        exact k _ ⟨_, _, _, rfl⟩
    · obtain ⟨x1, x2, x3, rfl⟩ := p
      try walk_at "dd"
      exact h
theorem v__law_is_shadow : VD g__law_is_shadow S__law_is_shadow 1 4 := fun ds Q _ h => by
  obtain ⟨n, d, rfl, hd, hn, h⟩ := h
  unfold g__law_is_shadow
  walk_at "dd"
  rw [tab_tI, tab_len]
  refine wpLc_filL (rgI n) (fun x => tI ((rgI n).map (d x))) (fun x => tI ((rgI n).map (d x))) (fun _ => false) (by rw [rgI_len]; omega) rfl (fun x hx K N hK hN => ?_) ?_
  · have m := row_rk hd (In.mem.1 hx)
    try walk_at "dd"
    refine ⟨_, rfl, by rw [m.len]; omega, fun z _ hz => ?_⟩
    rw [hz.2 m.nodup, m.len]
    try simp only [dLt, dI2, true_and]
    rw [if_neg (by simp)]
    exact hN rfl _ rfl
  · rw [show (rgI n).filter (fun _ => false) = [] by simp]
    try walk_at "dd"
    refine ⟨by decide, rfl, rfl, ?_⟩
    rw [eqv_nil, if_neg (by simp)]
    rw [tab_tI]
    refine wpFor_inv (fun ρ => ∃ x2 x3 x4, ρ = [some (.im (tR (tab n d))), some (.im (.int n)), x2, x3, x4]) ⟨_, _, _, rfl⟩ (fun v hv ρ K p k => ?_) (fun ρ p => ?_)
    · obtain ⟨x2, x3, x4, rfl⟩ := p
      obtain ⟨x, hx, rfl⟩ := List.mem_map.mp hv
      have hx := In.mem.1 hx
      try walk_at "dd"
      refine ⟨rgd (by omega), ?_⟩
      refine wpFor_inv (fun ρ => ∃ x3 x4, ρ = [some (.im (tR (tab n d))), some (.im (.int n)), some (.im (tI ((rgI n).map (d x)))), x3, x4]) ⟨_, _, rfl⟩ (fun v2 hv2 ρ K2 p2 k2 => ?_) (fun ρ p2 => ?_)
      · obtain ⟨x3, x4, rfl⟩ := p2
        obtain ⟨y, hy, rfl⟩ := List.mem_map.mp hv2
        have hy := In.mem.1 hy
        try walk_at "dd"
        refine ⟨rgd (by omega), ?_⟩
        refine wpFor_inv (fun ρ => ∃ x4, ρ = [some (.im (tR (tab n d))), some (.im (.int n)), some (.im (tI ((rgI n).map (d x)))), some (.im (.int y)), x4]) ⟨_, rfl⟩ (fun v3 hv3 ρ K3 p3 k3 => ?_) (fun ρ p3 => ?_)
        · obtain ⟨x4, rfl⟩ := p3
          obtain ⟨z, hz, rfl⟩ := List.mem_map.mp hv3
          have hz := In.mem.1 hz
          try walk_at "dd"
          refine ixTR hy (ixY hz (ixY (hd.rg y z hy hz) ?_))
          refine ixY hy (ixTR (hd.rg x y hx hy) (ixY hz (ixY (hd.rg x z hx hz) ?_)))
          rw [hd.dist x y z hx hy hz]
          refine ⟨rfl, rfl, ?_⟩
          rw [eqv_int, if_neg (by simp)]
          exact k3 _ ⟨_, rfl⟩
        · obtain ⟨x4, rfl⟩ := p3
          exact k2 _ ⟨_, _, rfl⟩
      · obtain ⟨x3, x4, rfl⟩ := p2
        exact k _ ⟨_, _, _, rfl⟩
    · obtain ⟨x2, x3, x4, rfl⟩ := p
      try walk_at "dd"
      exact h
theorem v__law_is_plain : VD g__law_is_plain S__law_is_plain 1 1 := fun ds Q _ h => by
  obtain ⟨n, d, rfl, hd, hn, h⟩ := h
  unfold g__law_is_plain
  walk_at "dd"
  rw [tab_tI]
  refine wpLc_filL (rgI n) (fun x => tI ((rgI n).map (d x))) (fun x => tI ((rgI n).map (d x))) (fun x => !decide ((rgI n).map (d x) = rgI n)) (by rw [rgI_len]; omega) rfl (fun x hx K N hK hN => ?_) ?_
  · try walk_at "dd"
    rw [tab_len]
    refine ⟨rgd (by omega), ?_⟩
    try rw [rgD_rgI]
    refine ⟨shaped_tI _, shaped_tI _, ?_⟩
    rw [show PyData.tuple (List.map PyData.int (rgI n)) = tI (rgI n) from rfl, eqv_tI]
    exact ite_ways (fun z => hK z _ rfl) (fun z => hN z _ rfl)
  · refine ⟨by decide, ?_, rfl, ?_⟩
    · rw [show ((rgI n).filter fun x => !decide ((rgI n).map (d x) = rgI n)).map (fun x => tI ((rgI n).map (d x))) = (((rgI n).filter fun x => !decide ((rgI n).map (d x) = rgI n)).map fun x => (rgI n).map (d x)).map tI by rw [List.map_map]; rfl]
      exact shaped_tL _
    rw [eqv_nil]
    have e : decide (((rgI n).filter fun x => !decide ((rgI n).map (d x) = rgI n)).map (fun x => tI ((rgI n).map (d x))) = []) = plB n d := by
      rw [Bool.eq_iff_iff, decide_eq_true_eq, List.map_eq_nil_iff, List.filter_eq_nil_iff]
      unfold plB
      simp only [List.all_eq_true, decide_eq_true_eq, Bool.not_eq_true', decide_eq_false_iff_not, Decidable.not_not]
      refine forall_congr' fun x => forall_congr' fun hx => ?_
      constructor
      · intro e y hy
        have hy := In.mem.1 hy
        have e2 := congrArg (fun l => im l y) e
        try dsimp only at e2
        rw [im_map hy.1 hy.2, id_im hy] at e2
        exact e2
      · intro e
        have : (rgI n).map (d x) = (rgI n).map id := List.map_congr_left fun y hy => e y hy
        rw [this, List.map_id]
    rw [e]
    exact h
theorem v__law_are_kept : VD g__law_are_kept S__law_are_kept 2 5 := fun ds Q _ h => by
  obtain ⟨n, f, d, rfl, hR, hd, ha, hn, h⟩ := h
  unfold g__law_are_kept
  walk_at "dd"
  refine ⟨n, f, rfl, by omega, ?_⟩
  refine ⟨_, rfl, ?_⟩
  unfold lftT
  rw [tab_tI]
  refine wpFor_inv (fun ρ => ∃ x2 x3 x4 x5 x6, ρ = [some (.im (tRP (tabP n f))), some (.im (tR (tab n d))), x2, x3, x4, x5, x6]) ⟨_, _, _, _, _, rfl⟩ (fun v hv ρ K p k => ?_) (fun ρ p => ?_)
  · obtain ⟨x2, x3, x4, x5, x6, rfl⟩ := p
    obtain ⟨x, hx, rfl⟩ := List.mem_map.mp hv
    have hx := In.mem.1 hx
    try walk_at "dd"
    rw [dLen_tRP, tabP_len]
    refine ⟨rgd (by omega), ?_⟩
    refine wpFor_inv (fun ρ => ∃ x3 x4 x5 x6, ρ = [some (.im (tRP (tabP n f))), some (.im (tR (tab n d))), some (.im (tI ((rgI n).map fun y => (f x y).1))), x3, x4, x5, x6]) ⟨_, _, _, _, rfl⟩ (fun v2 hv2 ρ K2 p2 k2 => ?_) (fun ρ p2 => ?_)
    · obtain ⟨x3, x4, x5, x6, rfl⟩ := p2
      obtain ⟨a, rfl, a0, a1⟩ := mem_rgD' hv2
      have hA : In n a := ⟨a0, a1⟩
      have hfa := (hR x a hx hA).1
      try walk_at "dd"
      refine ixTR hA (ixY hA (ixTR hfa ?_))
      try walk_at "dd"
      rw [dLen_tRP, tabP_len]
      refine ⟨rgd (by omega), ?_⟩
      try rw [rgD_rgI]
      refine wpLc_filL (rgI n) PyData.int PyData.int (fun _ => false) (by rw [rgI_len]; omega) rfl (fun b hb K3 N3 hK3 hN3 => ?_) ?_
      · have hb := In.mem.1 hb
        try walk_at "dd"
        refine ixY hb (ixY (hd a b hA hb) (ixY hb (ixY (hR x b hx hb).1 ?_)))
        rw [ha x a b hx hA hb]
        refine ⟨rfl, rfl, ?_⟩
        rw [eqv_int, if_neg (by simp)]
        exact hN3 rfl _ rfl
      · rw [show (rgI n).filter (fun _ => false) = [] by simp]
        try walk_at "dd"
        refine ⟨by decide, rfl, rfl, ?_⟩
        rw [eqv_nil, if_neg (by simp)]
        exact k2 _ ⟨_, _, _, _, rfl⟩
    · obtain ⟨x3, x4, x5, x6, rfl⟩ := p2
      exact k _ ⟨_, _, _, _, _, rfl⟩
  · obtain ⟨x2, x3, x4, x5, x6, rfl⟩ := p
    try walk_at "dd"
    exact h
end Dn.T.K68
set_option Elab.async false
set_option linter.all false
set_option maxRecDepth 100000
set_option autoImplicit false
set_option maxHeartbeats 4000000
namespace Dn.T.K68
open PySem L2 Evl PySem.Spec PyProof.Rows
local macro_rules | `(tactic| walk_at "dd") => `(tactic| simp only [sSeq, sIf, sSet, sRet, sRetN, sNx, sEx, sAsg, sPar, dTOr, dTAnd, dTNot, dTst, dIsi, dVar, dC, dBin, dChain, dNeg, dI2, dAnd, dOr, dNot, dIfE, dCall, dCallF, aCons, aNil, dTup, lLst, dOfL, xIm, xOw, gNm, gTp, gsCons, gsNil, dYes, envD, dLen_tR, dLen_tI, dLen_tup, dLen_lst, seq_tR, seq_tI, seq_tup, seq_lst, dIs, dIsNot, dNe, dEq, dTupOf, dSl, oNone, oSome, iSq, iEn, iR1, iR2, sFor, lLc, sNever, dTRg, rg1, rg2, lRg, wipeD, isN,
  gTpL, dIxP, sSub, dApp, dPopAt, dExt, dCallM, dCallO, dBinO, dTupO, lOf, lOfO, sRetO, iOw, dVarF, lCat, lCall, dAbs, dMax2, dMin2, dInt, atO, setO, MO.getL, MO.putL, Option.isSome_some,
  dInK, dGetK, dGetD, dInD, dGet1, lKeys, lSort, dLenSet, dLenSetL, dLenSet2, sPar3, dRevT, sPutK, xDct, xDct1, sRetK, atK, keyD, sAugI, dFld, sFldD, xRng, iRgO, dNew, dNewV, dCM, dProp, dMeth, dLenI, dStrO, dEqI, dIsC, dJoin, dJs, dFmt, dCallML, sSubI, gSubW, sWh, sPar3F, dOfK, dMulI, dRepU, dKeep2, lSortSet, lSortTu, lDc, dRepT, lRep, dStrI, xDctT1, xDctOf, dInT, sPutT, lSortT2, lSortDT, dPop, dBinR, dKeep, dCallMO, atT, dCallO,
  kit_int, kit_bool, kit_tuple, kit_str, List.map_cons, List.map_nil, List.cons_append, List.nil_append, List.replicate, List.set_cons_zero, List.set_cons_succ, List.getElem?_cons_zero, List.getElem?_cons_succ, List.length_cons, List.length_nil, List.length_map, Nat.reduceAdd, Nat.reduceSub, Bool.not_true, Bool.not_false, Bool.false_eq_true, if_true, if_false, true_and, reduceCtorEq, Bool.true_eq_false, rgD_rgI, Option.some.injEq, exists_eq_left', and_true])
def kvF (f : F2) (u : Int) : Nat → List (Key × D)
  | 0 => []
  | k + 1 => putD (kvF f u k) (.inl (f u k).1) (.int (f (f u k).1 (f u k).2).1)
theorem kv_len (f : F2) (u : Int) : ∀ k, (kvF f u k).length ≤ k
  | 0 => Nat.le_refl _
  | k + 1 => by
    have := putD_len (kvs := kvF f u k) (k := .inl (f u k).1) (d := .int (f (f u k).1 (f u k).2).1)
    have := kv_len f u k
    unfold kvF
    omega
theorem kv_at {n : Nat} {f : F2} (h : Fr n f) {u : Int} (hu : In n u) : ∀ k : Nat, k ≤ n → ∀ y : Int, 0 ≤ y → y < k → valD (kvF f u k) (.inl (f u y).1) = some (.int (f (f u y).1 (f u y).2).1)
  | 0, _, y, y0, y1 => by omega
  | k + 1, hk, y, y0, y1 => by
    unfold kvF
    rw [valD_put]
    by_cases z : y = k
    · subst z
      exact if_pos rfl
    · rw [if_neg fun w => z (h.li u y k hu ⟨y0, by omega⟩ ⟨by omega, by omega⟩ (Sum.inl.inj w))]
      exact kv_at h hu k (by omega) y y0 (by omega)
theorem kv_sh {n : Nat} {f : F2} (h : Fr n f) {u x : Int} (hu : In n u) (hx : In n x) : valD (kvF f u n) (.inl x) = some (.int (shF n f x u)) := by
  obtain ⟨z, hz, e, _⟩ := lz h hx hu
  have e1 := sh_at h hu hz
  rw [← e, e1]
  exact kv_at h hu n (Nat.le_refl _) z hz.1 hz.2
theorem v_shadow_of : VD g_shadow_of S_shadow_of 1 5 := fun ds Q _ h => by
  obtain ⟨n, f, rfl, hF, hn, h⟩ := h
  unfold g_shadow_of
  walk_at "dd"
  refine ⟨n, f, rfl, ⟨_, rfl⟩, n, f, rfl, ?_⟩
  refine ⟨(tabP n f).map tPs, rfl, ?_⟩
  rw [tabP_map]
  refine wpLc_mapL (rgI n) (fun u => tPs ((rgI n).map (f u))) (fun u => .dict (dkD (kvF f u n))) (by rw [rgI_len]; omega) rfl (fun u hu K hK => ?_) (fun _ => rfl) ?_
  · have hu := In.mem.1 hu
    unfold tPs
    try walk_at "dd"
    rw [List.map_map]
    refine wpDc_cps (fun done acc ρ => ρ = [some (.im (pasD n f)), none, some (.im (.tuple ((rgI n).map (tP ∘ f u)))), none, none, none] ∧ acc = kvF f u done.length) ⟨rfl, rfl⟩ (fun done d rest acc ρ K2 e p k => ?_) (fun acc ρ p => ?_)
    · obtain ⟨rfl, rfl⟩ := p
      obtain ⟨l1, y, l2, e1, rfl, rfl, rfl⟩ := map_split e
      obtain ⟨ey, e2⟩ := rgI_split e1
      have lt : l1.length < n := by
        have := congrArg List.length e1
        rw [rgI_len] at this
        simp at this
        omega
      rw [List.length_map]
      have hy : In n y := ⟨by omega, by omega⟩
      have kl := kv_len f u l1.length
      refine ⟨by omega, ?_⟩
      have r := hF.rg u y hu hy
      show gTp 2 _ (.tuple [.int (f u y).1, .int (f u y).2]) _ _
      try walk_at "dd"
      refine ⟨⟨_, rfl⟩, n, f, rfl, ixTR r.1 (ixY r.2 (k _ _ ⟨rfl, ?_⟩))⟩
      simp only [List.length_append, List.length_map, List.length_cons, List.length_nil, Nat.zero_add]
      show _ = putD (kvF f u l1.length) (.inl (f u (l1.length : Nat)).1) (.int (f (f u (l1.length : Nat)).1 (f u (l1.length : Nat)).2).1)
      rw [← ey]
    · obtain ⟨rfl, rfl⟩ := p
      rw [List.length_map, rgI_len]
      exact hK _ rfl
  · try walk_at "dd"
    refine ⟨⟨_, rfl⟩, n, f, rfl, n, rfl, by omega, rgd (by omega), ?_⟩
    try rw [rgD_rgI]
    refine wpLc_mapL (rgI n) PyData.int (fun x => tI ((rgI n).map (shF n f x))) (by rw [rgI_len]; omega) rfl (fun x hx K hK => ?_) (fun _ => rfl) ?_
    · have hx := In.mem.1 hx
      try walk_at "dd"
      refine wpLc_mapL (rgI n) (fun u => PyData.dict (dkD (kvF f u n))) (fun u => .int (shF n f x u)) (by rw [rgI_len]; omega) rfl (fun u hu K2 hK2 => ?_) (fun _ => rfl) ?_
      · have hu := In.mem.1 hu
        try walk_at "dd"
        exact ⟨kvF f u n, .inl x, _, rfl, rfl, kv_sh hF hu hx, hK2 _ rfl⟩
      · try walk_at "dd"
        rw [tI_map]
        exact hK _ rfl
    · rw [← tR_tab]
      exact h
theorem v__law_shadow_rows : VD g__law_shadow_rows S__law_shadow_rows 1 7 := fun ds Q _ h => by
  obtain ⟨n, f, rfl, hF, hn, h⟩ := h
  unfold g__law_shadow_rows
  walk_at "dd"
  refine ⟨n, f, rfl, by omega, n, f, rfl, by omega, ?_⟩
  refine ⟨by decide, ?_⟩
  rw [dLen_tRP, tabP_len]
  refine ⟨rgd (by omega), ?_⟩
  rw [rgD_rgI]
  refine wpFor_pre (rgI n) PyData.int (fun l1 ρ => ∃ x4 x5 x6 x7, ρ = [some (.im (tRP (tabP n f))), some (.im (tL (lftT n f))), some (.im (tL (rgtT n f))), some (.ow (.lst (l1.map fun x => tI ((rgI n).map (shF n f x))))), x4, x5, x6, x7]) ⟨_, _, _, _, rfl⟩ (fun l1 x l2 e ρ K p k => ?_) (fun ρ p => ?_)
  · obtain ⟨x4, x5, x6, x7, rfl⟩ := p
    have hx := In.mem.1 (show x ∈ rgI n by rw [e]; simp)
    have ll := congrArg List.length e
    rw [rgI_len, List.length_append, List.length_cons] at ll
    try walk_at "dd"
    refine ⟨by decide, ?_⟩
    rw [dLen_tRP, tabP_len]
    refine ⟨rgd (by omega), ?_⟩
    rw [rgD_rgI]
    refine wpFor_pre (rgI n) PyData.int (fun l1' ρ => ∃ x6 x7, ρ = [some (.im (tRP (tabP n f))), some (.im (tL (lftT n f))), some (.im (tL (rgtT n f))), some (.ow (.lst (l1.map fun x => tI ((rgI n).map (shF n f x))))), some (.im (.int x)), some (.ow (.lst (l1'.map fun y => .int (shF n f x y)))), x6, x7]) ⟨_, _, rfl⟩ (fun l1' y l2' e' ρ K' p' k' => ?_) (fun ρ p' => ?_)
    · obtain ⟨x6, x7, rfl⟩ := p'
      have hy := In.mem.1 (show y ∈ rgI n by rw [e']; simp)
      have ll' := congrArg List.length e'
      rw [rgI_len, List.length_append, List.length_cons] at ll'
      have m := lam_mv hF hy
      have mz := mv_in (inv_mv m) hx
      have rz := hF.rg y _ hy mz
      try walk_at "dd"
      refine ixT hy ⟨n, lamR n f y, ⟨_, rfl, rfl⟩, m, by omega, ?_⟩
      refine ixM (inv_mv m) hx ?_
      refine ixT hx ?_
      refine ixT mz (ixY hy (ixY rz.2 ?_))
      refine ⟨by omega, ?_⟩
      exact k' _ ⟨_, _, by rw [List.map_append]; rfl⟩
    · obtain ⟨x6, x7, rfl⟩ := p'
      try walk_at "dd"
      refine ⟨by omega, ?_⟩
      rw [tI_map]
      exact k _ ⟨_, _, _, _, by rw [List.map_append]; rfl⟩
  · obtain ⟨x4, x5, x6, x7, rfl⟩ := p
    try walk_at "dd"
    rw [← tR_tab]
    exact h
theorem v__law_pairs_right : VD g__law_pairs_right S__law_pairs_right 2 9 := fun ds Q _ h => by
  obtain ⟨a, b, f, g, rfl, hF, hG, b1, bb, hab, h⟩ := h
  unfold g__law_pairs_right
  walk_at "dd"
  rw [dLen_tRP, tabP_len]
  have aa : a ≤ 8 := Nat.le_trans (Nat.le_mul_of_pos_right a b1) hab
  refine ⟨by decide, a, f, rfl, hF, aa, b, g, rfl, hG, bb, ?_⟩
  have em : (a : Int) * (b : Int) = ((a * b : Nat) : Int) := by push_cast; rfl
  show dLen [tRP (tabP a f)] _
  rw [dLen_tRP, tabP_len]
  refine K54.K56.mulA_ok (cm_n (by omega) (by omega)) ?_
  rw [em]
  have dv : ∀ x, In (a * b) x → In a (x / b) ∧ In b (x % b) := fun x hx => by
    have hb : (0 : Int) < b := by omega
    refine ⟨⟨Int.ediv_nonneg hx.1 (by omega), ?_⟩, Int.emod_nonneg _ (by omega), Int.emod_lt_of_pos _ hb⟩
    have := hx.2
    push_cast at this
    exact Int.ediv_lt_of_lt_mul hb this
  refine ⟨rgd (by omega), ?_⟩
  rw [rgD_rgI]
  refine wpFor_pre (rgI (a * b)) PyData.int (fun l1 ρ => ∃ x6 x7 x8 x9 x10, ρ = [some (.im (tRP (tabP a f))), some (.im (tRP (tabP b g))), some (.im (.int b)), some (.ow (.lst (l1.map fun x => tI ((rgI (a * b)).map (shF (a * b) (prdG b f g) x))))), some (.im (tR (tab a (shF a f)))), some (.im (tR (tab b (shF b g)))), x6, x7, x8, x9, x10]) ⟨_, _, _, _, _, rfl⟩ (fun l1 x l2 e ρ K p k => ?_) (fun ρ p => ?_)
  · obtain ⟨x6, x7, x8, x9, x10, rfl⟩ := p
    have hx := In.mem.1 (show x ∈ rgI (a * b) by rw [e]; simp)
    obtain ⟨dx, mx⟩ := dv x hx
    have ll := congrArg List.length e
    rw [rgI_len, List.length_append, List.length_cons] at ll
    try walk_at "dd"
    have sp := fun {j : Int} (hj : In (a * b) j) => sh_prd hF hG b1 hx hj
    have hd : ∀ i : Int, In (a * b) i → CDivW i (b : Int) := fun i hi => cd_t (by omega) (by omega)
    refine ⟨by decide, hd x hx, ?_⟩
    refine ixTR dx ?_
    refine ⟨by omega, ?_⟩
    refine ixTR mx ?_
    rw [dLen_tRP, tabP_len]
    refine K54.K56.mulA_ok (cm_n (by omega) (by omega)) ?_
    rw [em]
    refine ⟨rgd (by omega), ?_⟩
    rw [rgD_rgI]
    refine wpFor_pre (rgI (a * b)) PyData.int (fun l1' ρ => ∃ x10, ρ = [some (.im (tRP (tabP a f))), some (.im (tRP (tabP b g))), some (.im (.int b)), some (.ow (.lst (l1.map fun x => tI ((rgI (a * b)).map (shF (a * b) (prdG b f g) x))))), some (.im (tR (tab a (shF a f)))), some (.im (tR (tab b (shF b g)))), some (.im (.int x)), some (.ow (.lst (l1'.map fun y => .int (shF (a * b) (prdG b f g) x y)))), some (.im (tI ((rgI a).map (shF a f (x / b))))), some (.im (tI ((rgI b).map (shF b g (x % b))))), x10]) ⟨_, rfl⟩ (fun l1' y l2' e' ρ K' p' k' => ?_) (fun ρ p' => ?_)
    · obtain ⟨x10, rfl⟩ := p'
      have hy := In.mem.1 (show y ∈ rgI (a * b) by rw [e']; simp)
      obtain ⟨dy, my⟩ := dv y hy
      have ll' := congrArg List.length e'
      rw [rgI_len, List.length_append, List.length_cons] at ll'
      try walk_at "dd"
      refine ⟨hd y hy, ixY dy ?_⟩
      have s1 := sh_rg hF _ _ dx dy
      have s2 := sh_rg hG _ _ mx my
      refine K54.K56.mulA_ok (cm_n s1.1 (by have := s1.2; omega)) ?_
      refine ⟨by omega, ixY my ?_⟩
      show dAdd (.int _) (.int _) _
      simp only [dAdd]
      refine ⟨by omega, ?_⟩
      rw [← sp hy]
      exact k' _ ⟨_, by rw [List.map_append]; rfl⟩
    · obtain ⟨x10, rfl⟩ := p'
      try walk_at "dd"
      refine ⟨by omega, ?_⟩
      rw [tI_map]
      exact k _ ⟨_, _, _, _, _, by rw [List.map_append]; rfl⟩
  · obtain ⟨x6, x7, x8, x9, x10, rfl⟩ := p
    try walk_at "dd"
    refine ⟨a, f, rfl, hF, aa, b, g, rfl, hG, bb, ⟨_, rfl⟩, ⟨_, rfl⟩, a, b, f, g, rfl, hF, hG, b1, hab, ?_⟩
    refine ⟨a * b, prdG b f g, rfl, K54.K56.fr_prd hF hG b1, hab, ?_⟩
    rw [← tR_tab]
    refine ⟨shaped_tR _, shaped_tR _, ?_⟩
    rw [eqv_tR]
    simpa using h
theorem v__law_right : VM g__law_right S__law_right 2 7 := fun l ms ds Q _ h => by
  obtain ⟨n, f, rfl, hF, n1, n6, hm, h⟩ := h
  have rk := sh_rk hF
  unfold g__law_right
  walk_at "dd"
  refine ⟨n, f, rfl, hF, by omega, n, f, rfl, hF, by omega, ?_⟩
  refine ⟨n, f, rfl, hF, by omega, ?_⟩
  refine ⟨shaped_tR _, shaped_tR _, ?_⟩
  rw [eqv_tR]
  simp only [decide_true, Bool.not_true, Bool.false_eq_true, if_false]
  try walk_at "dd"
  refine ⟨n, _, rfl, rk, by omega, ?_⟩
  try walk_at "dd"
  refine ⟨n, f, _, rfl, hF.rg, rk.rg, fun x a b hx ha hb => sh_aut hF hx ha hb, by omega, ?_⟩
  try walk_at "dd"
  refine ⟨⟨_, rfl⟩, n, f, rfl, n, _, rfl, rk.rg, by omega, rfl, rfl, ?_⟩
  have eq : qtB n f = plB n (shF n f) := by
    rw [Bool.eq_iff_iff, qtB_iff, ← sh_plain hF]
    unfold plB
    simp only [List.all_eq_true, decide_eq_true_eq]
    constructor
    · intro e x hx y hy
      exact e x y (In.mem.1 hx) (In.mem.1 hy)
    · intro e x y hx hy
      exact e x (In.mem.2 hx) y (In.mem.2 hy)
  rw [eq, show PyData.eqv (.bool (plB n (shF n f))) (.bool (plB n (shF n f))) = true by cases plB n (shF n f) <;> rfl]
  simp only [Bool.not_true, Bool.false_eq_true, if_false]
  try walk_at "dd"
  refine ⟨n, _, rfl, rk, by omega, by decide, by decide +kernel, by decide +kernel, ?_⟩
  rw [if_neg (by decide +kernel)]
  refine ⟨by decide, n, _, rfl, rk, by omega, ?_⟩
  try walk_at "dd"
  rw [dLen_tRP, tabP_len]
  refine ⟨n, rfl, by omega, hm, fun m ms1 hm1 hm2 => ?_⟩
  try walk_at "dd"
  refine ⟨n, m, ⟨_, rfl, rfl⟩, hm1, by omega, ?_⟩
  try walk_at "dd"
  have M : Mv n m := hm1
  have ml := M.len
  have mi : ∀ x, x ∈ m → In n x := fun x hx => In.mem.1 (hm1.mem_iff.1 hx)
  refine wpLc_mapL m PyData.int (fun x => tI (m.map fun y => im (inv m) (shF n f x y))) (by omega) rfl (fun x hx K hK => ?_) (fun _ => rfl) ?_
  · have hx := mi x hx
    try walk_at "dd"
    refine wpLc_mapL m PyData.int (fun y => .int (im (inv m) (shF n f x y))) (by omega) rfl (fun y hy K2 hK2 => ?_) (fun _ => rfl) ?_
    · have hy := mi y hy
      try walk_at "dd"
      exact ixTR hx (ixY hy (ixM (inv_mv M) (rk.rg x y hx hy) (hK2 _ rfl)))
    · try walk_at "dd"
      rw [tI_map]
      exact hK _ rfl
  · try walk_at "dd"
    refine ⟨_, rfl, rfl, n, f, m, rfl, hF, M, by omega, n, _, rfl, fr_ren hF M, by omega, ?_⟩
    have mm : ∀ {α : Type} (g : Int → α), m.map g = (rgI n).map fun i => g (im m i) := fun g => by
      conv => lhs; rw [mv_self M]
      rw [List.map_map]
      rfl
    have e : PyData.tuple (m.map fun x => tI (m.map fun y => im (inv m) (shF n f x y))) = tR (tab n (shF n (ren f m))) := by
      rw [tR_tab, mm]
      congr 1
      refine List.map_congr_left fun i hi => ?_
      congr 1
      rw [mm]
      exact List.map_congr_left fun j hj => (sh_ren hF M (In.mem.1 hi) (In.mem.1 hj)).symm
    rw [e]
    refine ⟨shaped_tR _, shaped_tR _, _, rfl, ?_⟩
    rw [eqv_tR, decide_eq_true rfl]
    exact h _ hm2
def fT : Int → Int → Int × Int := fun x y => ((2 * (x + y)) % 3, x)
theorem fT_fr : Fr 3 fT := by
  unfold fT
  refine ⟨fun x y hx hy => ?_, fun x y z hx hy hz h => ?_, fun x y z hx hy hz h => ?_, fun x y z hx hy hz => ?_, fun x y z hx hy hz => ?_, fun x y z hx hy hz => ?_, fun x y u v hx hy hu hv h => ?_⟩
  · unfold Pin In at *; dsimp only at *; try omega
  · unfold In at *; dsimp only at *; try omega
  · unfold In at *; dsimp only at *; try omega
  · unfold In at *; dsimp only at *; try omega
  · unfold In at *; dsimp only at *; try omega
  · unfold In at *; dsimp only at *; try omega
  · unfold In at *; simp only [Prod.mk.injEq] at h; omega
theorem fT_tab : tRP (tabP 3 fT) = .tuple [.tuple [.tuple [.int 0, .int 0], .tuple [.int 2, .int 0], .tuple [.int 1, .int 0]], .tuple [.tuple [.int 2, .int 1], .tuple [.int 1, .int 1], .tuple [.int 0, .int 1]], .tuple [.tuple [.int 1, .int 2], .tuple [.int 0, .int 2], .tuple [.int 2, .int 2]]] := rfl
def f0 : Int → Int → Int × Int := fun x y => (y, x)
theorem v_law : VD g_law S_law 1 4 := fun ds Q _ h => by
  obtain ⟨s, rfl, hs, h⟩ := h
  unfold g_law
  walk_at "dd"
  rw [dLen_scr']
  dsimp only
  refine And.intro (rg_cap 4 _ (by decide) (by decide)) ?_
  refine wpFor_inv (fun ρ => ∃ x1 x2 x3 x4, ρ = [some (.im (scr s)), x1, x2, x3, x4]) ⟨_, _, _, _, rfl⟩ (fun d hd ρ K i k => ?_) (fun ρ i => ?_)
  · obtain ⟨x1, x2, x3, x4, rfl⟩ := i
    obtain ⟨spot, rfl, s0, _⟩ := mem_rgD' hd
    walk_at "dd"
    refine ⟨s, spot, rfl, s0, fun ms hm => ?_⟩
    try walk_at "dd"
    refine ⟨rgd (n := 2) (by decide), ?_⟩
    refine wpFor_inv (fun ρ => ∃ ms' x3, ρ = [some (.im (scr s)), some (.im (.int spot)), some (.ow (.lst ms')), x3, x4] ∧ Dc ms') ⟨_, _, rfl, hm⟩ (fun d2 hd2 ρ K2 i2 k2 => ?_) (fun ρ i2 => ?_)
    · obtain ⟨ms1, x3, rfl, hm1⟩ := i2
      try walk_at "dd"
      refine ⟨1, 6, rfl, by decide, by decide, by decide, by decide, hm1, fun n f ms2 hF n1 n6 hm2 => ?_⟩
      try walk_at "dd"
      refine ⟨n, f, rfl, hF, n1, n6, hm2, fun ms3 hm3 => ?_⟩
      exact k2 _ ⟨_, _, rfl, hm3⟩
    · obtain ⟨ms1, x3, rfl, hm1⟩ := i2
      try walk_at "dd"
      refine ⟨1, 2, rfl, by decide, by decide, by decide, by decide, hm1, fun a f ms2 hF a1 a2 hm2 => ?_⟩
      try walk_at "dd"
      refine ⟨1, 4, rfl, by decide, by decide, by decide, by decide, hm2, fun b g ms3 hG b1 b4 hm3 => ?_⟩
      try walk_at "dd"
      have ab : a * b ≤ 2 * 4 := Nat.mul_le_mul a2 b4
      refine ⟨a, b, f, g, rfl, hF, hG, b1, by omega, ab, ?_⟩
      exact k _ ⟨_, _, _, _, rfl⟩
  · obtain ⟨x1, x2, x3, x4, rfl⟩ := i
    try walk_at "dd"
    repeat refine And.intro (by decide) ?_
    rw [← fT_tab]
    refine ⟨3, fT, rfl, fT_fr, by decide, ?_⟩
    refine ⟨3, fT, rfl, fT_fr, by decide, ?_⟩
    rw [show tab 3 (shF 3 fT) = [[0, 2, 1], [2, 1, 0], [1, 0, 2]] by decide +kernel]
    repeat refine And.intro (by decide) ?_
    show S_Passing____init__ _ _
    refine ⟨0, f0, rfl, fr_swap 0, by decide, 0, f0, rfl, fr_swap 0, by decide, ?_⟩
    exact ⟨by decide, by decide +kernel, by decide +kernel, h⟩
end Dn.T.K68
set_option Elab.async false
set_option linter.all false
set_option maxRecDepth 100000
set_option autoImplicit false
set_option maxHeartbeats 4000000
namespace Dn.T.K68
open PySem L2 Evl PySem.Spec PyProof.Rows
def top (i : Nat) : Stmt := PySem.Challenge.pw_truenames_k68_whole_shadows_of_tables.main.body.getD i (.Pass ⟨0, 0, 0, 0⟩)
structure Bl (mg : Str → Option Value) : Prop where
  len : mg "len" = none
  range : mg "range" = none
  tuple : mg "tuple" = none
  list : mg "list" = none
  isinstance : mg "isinstance" = none
  int : mg "int" = none
  bool : mg "bool" = none
  str : mg "str" = none
  abs : mg "abs" = none
  max : mg "max" = none
  min : mg "min" = none
  all : mg "all" = none
  any : mg "any" = none
  sum : mg "sum" = none
  sorted : mg "sorted" = none
  enumerate : mg "enumerate" = none
  repr : mg "repr" = none
  set : mg "set" = none
  dict : mg "dict" = none
  zip : mg "zip" = none
abbrev st__wall : Stmt := top 0
abbrev st_is_integer : Stmt := top 9
abbrev st_is_row : Stmt := top 10
abbrev st_is_square : Stmt := top 11
abbrev st_is_same : Stmt := top 12
abbrev st_is_told : Stmt := top 13
abbrev st_is_move : Stmt := top 16
abbrev st_is_move_of : Stmt := top 17
abbrev st_check_move_of : Stmt := top 18
abbrev st_joined_moves : Stmt := top 19
abbrev st_undone_move : Stmt := top 20
abbrev st_fair_paper : Stmt := top 23
abbrev st__broken_paper : Stmt := top 47
abbrev st__check_rows : Stmt := top 44
abbrev st__is_table_rows : Stmt := top 28
abbrev st__is_pairs : Stmt := top 29
abbrev st_are_fair_rows : Stmt := top 30
abbrev st__pass_alike : Stmt := top 31
abbrev st__threes : Stmt := top 32
abbrev st__breaks_fair : Stmt := top 33
abbrev st__passed_left_first : Stmt := top 34
abbrev st__passed_right_first : Stmt := top 35
abbrev st_check_table : Stmt := top 37
abbrev st__passes_twice_unchanged : Stmt := top 38
abbrev st_renamed_table_rows : Stmt := top 39
abbrev st__pair_rows : Stmt := top 40
abbrev st_shadow_paper : Stmt := top 42
abbrev st_is_shadow_paper : Stmt := top 43
abbrev st__is_shadow : Stmt := top 46
abbrev st__breaks_shadow : Stmt := top 49
abbrev st_shadow_of : Stmt := top 50
abbrev st__law_dice : Stmt := top 52
abbrev st__law_roll : Stmt := top 53
abbrev st__law_pick : Stmt := top 54
abbrev st__law_mixed : Stmt := top 55
abbrev st__law_orders : Stmt := top 56
abbrev st__law_joined : Stmt := top 57
abbrev st__law_undone : Stmt := top 58
abbrev st__law_drawn_move : Stmt := top 59
abbrev st__law_renamed_dots : Stmt := top 60
abbrev st__law_dots_likenesses : Stmt := top 61
abbrev st__law_keeps_dots : Stmt := top 62
abbrev st__law_union_dots : Stmt := top 63
abbrev st__law_places_of : Stmt := top 64
abbrev st__law_product_dots : Stmt := top 65
abbrev st__law_small_dots : Stmt := top 66
abbrev st__law_quiet_dots : Stmt := top 67
abbrev st__law_rows_of_dots : Stmt := top 68
abbrev st__law_left_of : Stmt := top 69
abbrev st__law_right_of : Stmt := top 70
abbrev st__law_renamed_rows : Stmt := top 71
abbrev st__law_fair_rows : Stmt := top 72
abbrev st__law_power : Stmt := top 73
abbrev st__law_shadow_rows : Stmt := top 74
abbrev st__law_is_shadow : Stmt := top 75
abbrev st__law_is_plain : Stmt := top 76
abbrev st__law_are_kept : Stmt := top 77
abbrev st__law_right : Stmt := top 78
abbrev st__law_pairs_right : Stmt := top 79
abbrev st_law : Stmt := top 80
abbrev st_broken_paper_passing : Stmt := top 24
abbrev st_check_rows_passing : Stmt := top 26
abbrev st_check_rows_shadows : Stmt := top 44
abbrev st_broken_paper_shadows : Stmt := top 47
abbrev st_Passing____init__ : Stmt := cm (top 36) 0
abbrev st_Passing__rows : Stmt := cm (top 36) 6
abbrev st_Passing____len__ : Stmt := cm (top 36) 16
abbrev st_Passing__left : Stmt := cm (top 36) 7
abbrev st_Passing__is_quiet : Stmt := cm (top 36) 9
abbrev st_Passing____mul__ : Stmt := cm (top 36) 14
abbrev st_Passing__renamed : Stmt := cm (top 36) 13
section
variable {P : Program} {w : World} {K : PySem.W.Frag} {mg : Str → Option Value} {base : Heap}
theorem sc_is_integer : FnScope N_is_integer P_is_integer (defScope st_is_integer) := ⟨rfl, rfl, rfl, by decide +kernel, rfl, by decide +kernel, by decide +kernel⟩
theorem bs_is_integer : BindsAs "is_integer" st_is_integer P_is_integer := fun _ _ _ _ _ _ us hl => match us, hl with | [_], _ => rfl
theorem j_is_integer (B : Bl mg) {t_TOO_LONG : Tok} (c_TOO_LONG : mg "TOO_LONG" = some (.int 1000000000000000000000000000000000000000000000000000000000000 t_TOO_LONG)) : BodyCx P w K mg base "is_integer" st_is_integer N_is_integer 0 fun X => JSs X (defBody st_is_integer) g_is_integer := fun f cdv A outer s H E hr => js_cons (js_if ((jw_or (jt_not (jt_val (je_isi (tn := "int") B.isinstance B.int (by decide +kernel) (je_v 0)))) (jw_or1 (jt_val (je_isi (tn := "bool") B.isinstance B.bool (by decide +kernel) (je_v 0))))).jt) (js_one (js_ret (je_bl))) (js_nil)) (js_one (js_ret (je_chain opd_lt opd_lt (je_neg (je_globI c_TOO_LONG (by rfl))) (je_v 0) (je_globI c_TOO_LONG (by rfl)))))
theorem sc_is_row : FnScope N_is_row P_is_row (defScope st_is_row) := ⟨rfl, rfl, rfl, by decide +kernel, rfl, by decide +kernel, by decide +kernel⟩
theorem bs_is_row : BindsAs "is_row" st_is_row P_is_row := fun _ _ _ _ _ _ us hl => match us, hl with | [_, _, _], _ => rfl
theorem j_is_row (B : Bl mg) : BodyCx P w K mg base "is_row" st_is_row N_is_row 0 fun X => JSs X (defBody st_is_row) g_is_row := fun f cdv A outer s H E hr => js_cons (js_if ((jw_or (jt_not (jt_val (je_isi (tn := "tuple") B.isinstance B.tuple (by decide +kernel) (je_v 0)))) (jw_or1 (jt_cmp (opd_ne hr.units) (je_callB calld_len B.len (by decide +kernel) (ja_cons (je_v 0) (ja_nil))) (je_v 1) (nomark _)))).jt) (js_one (js_ret (je_bl))) (js_nil)) (js_cons (js_for (vs := [3]) rfl (ji_sq (je_v 0)) (jg_n 3 sc_is_row.nd) (js_one (js_if ((jw_or (jt_not (jt_val (je_isi (tn := "int") B.isinstance B.int (by decide +kernel) (je_v 3)))) (jw_or (jt_val (je_isi (tn := "bool") B.isinstance B.bool (by decide +kernel) (je_v 3))) (jw_or1 (jt_not (jt_chain opd_le opd_lt (je_int) (je_v 3) (je_v 2)))))).jt) (js_one (js_ret (je_bl))) (js_nil)))) (js_one (js_ret (je_bl))))
theorem sc_is_square : FnScope N_is_square P_is_square (defScope st_is_square) := ⟨rfl, rfl, rfl, by decide +kernel, rfl, by decide +kernel, by decide +kernel⟩
theorem bs_is_square : BindsAs "is_square" st_is_square P_is_square := fun _ _ _ _ _ _ us hl => match us, hl with | [_, _, _], _ => rfl
theorem j_is_square (B : Bl mg) (O_is_row : Ok P w K mg base "is_row" P_is_row 1 (spD K 3 S_is_row)) : BodyCx P w K mg base "is_square" st_is_square N_is_square 1 fun X => JSs X (defBody st_is_square) g_is_square := fun f cdv A outer s H E hr => js_cons (js_if ((jw_or (jt_not (jt_val (je_isi (tn := "tuple") B.isinstance B.tuple (by decide +kernel) (je_v 0)))) (jw_or1 (jt_not (jt_chain opd_le opd_le (je_v 1) (je_callB calld_len B.len (by decide +kernel) (ja_cons (je_v 0) (ja_nil))) (je_v 2))))).jt) (js_one (js_ret (je_bl))) (js_nil)) (js_one (js_ret (je_callB (calld_all rfl) B.all (by decide +kernel) (ja_cons ((jl_lc (own := [("row", 3)]) rfl sc_is_square.nd (ji_sq (je_v 0)) (blkOk_by (by rfl)) (fun _ _ _ _ _ => jg_n 3 sc_is_square.nd) (fun _ _ _ _ _ => jts_nil) (fun _ _ _ _ _ => je_fn O_is_row (hr.mono (by decide)) (ja_cons (je_v 3) (ja_cons (je_callB calld_len B.len (by decide +kernel) (ja_cons (je_v 0) (ja_nil))) (ja_cons (je_callB calld_len B.len (by decide +kernel) (ja_cons (je_v 0) (ja_nil))) (ja_nil)))))).je) (ja_nil)))))
theorem sc_is_same : FnScope N_is_same P_is_same (defScope st_is_same) := ⟨rfl, rfl, rfl, by decide +kernel, rfl, by decide +kernel, by decide +kernel⟩
theorem bs_is_same : BindsAs "is_same" st_is_same P_is_same := fun _ _ _ _ _ _ us hl => match us, hl with | [_, _], _ => rfl
theorem j_is_same0 (B : Bl mg) (O_is_integer : Ok P w K mg base "is_integer" P_is_integer 1 (spD K 1 S_is_integer)) : BodyCx P w K mg base "is_same" st_is_same N_is_same 1 fun X => JSs X (defBody st_is_same) g_is_same0 := fun f cdv A outer s H E hr => js_cons (js_if (jt_val (je_isi (tn := "tuple") B.isinstance B.tuple (by decide +kernel) (je_v 1))) (js_cons (js_if ((jw_or (jt_not (jt_val (je_isi (tn := "tuple") B.isinstance B.tuple (by decide +kernel) (je_v 0)))) (jw_or1 (jt_cmp (opd_ne hr.units) (je_callB calld_len B.len (by decide +kernel) (ja_cons (je_v 0) (ja_nil))) (je_callB calld_len B.len (by decide +kernel) (ja_cons (je_v 1) (ja_nil))) (nomark _)))).jt) (js_one (js_ret (je_bl))) (js_nil)) (js_one (js_ret (je_callB (calld_all rfl) B.all (by decide +kernel) (ja_cons ((jl_lc (own := [("index", 2), ("part", 3)]) rfl sc_is_same.nd (ji_en B.enumerate (je_v 0)) (blkOk_by (by rfl)) (fun _ _ _ _ _ => jg_tup rfl (jgs_cons (jg_n 2 sc_is_same.nd) (jgs_cons (jg_n 3 sc_is_same.nd) (jgs_nil)))) (fun _ _ _ _ _ => jts_nil) (fun _ _ _ _ _ => je_never)).je) (ja_nil)))))) (js_nil)) (js_cons (js_if (jt_val (je_isi (tn := "str") B.isinstance B.str (by decide +kernel) (je_v 1))) (js_one (js_ret (je_and (je_isi (tn := "str") B.isinstance B.str (by decide +kernel) (je_v 0)) (je_one (je_cmp (opd_eq hr.units) (je_v 0) (je_v 1) (nomark _)))))) (js_nil)) (js_one (js_ret (je_and (je_fn O_is_integer (hr.mono (by decide)) (ja_cons (je_v 0) (ja_nil))) (je_one (je_cmp (opd_eq hr.units) (je_v 0) (je_v 1) (nomark _)))))))
theorem j_is_same (B : Bl mg) (O_is_integer : Ok P w K mg base "is_integer" P_is_integer 1 (spD K 1 S_is_integer)) (O_is_same0 : Ok P w K mg base "is_same" P_is_same 2 (spD K 2 S_is_same0)) : BodyCx P w K mg base "is_same" st_is_same N_is_same 2 fun X => JSs X (defBody st_is_same) g_is_same := fun f cdv A outer s H E hr => js_cons (js_if (jt_val (je_isi (tn := "tuple") B.isinstance B.tuple (by decide +kernel) (je_v 1))) (js_cons (js_if ((jw_or (jt_not (jt_val (je_isi (tn := "tuple") B.isinstance B.tuple (by decide +kernel) (je_v 0)))) (jw_or1 (jt_cmp (opd_ne hr.units) (je_callB calld_len B.len (by decide +kernel) (ja_cons (je_v 0) (ja_nil))) (je_callB calld_len B.len (by decide +kernel) (ja_cons (je_v 1) (ja_nil))) (nomark _)))).jt) (js_one (js_ret (je_bl))) (js_nil)) (js_one (js_ret (je_callB (calld_all rfl) B.all (by decide +kernel) (ja_cons ((jl_lc (own := [("index", 2), ("part", 3)]) rfl sc_is_same.nd (ji_en B.enumerate (je_v 0)) (blkOk_by (by rfl)) (fun _ _ _ _ _ => jg_tup rfl (jgs_cons (jg_n 2 sc_is_same.nd) (jgs_cons (jg_n 3 sc_is_same.nd) (jgs_nil)))) (fun _ _ _ _ _ => jts_nil) (fun _ _ _ _ _ => je_fn O_is_same0 (hr.mono (by decide)) (ja_cons (je_v 3) (ja_cons (je_ix (je_v 1) (je_v 2)) (ja_nil))))).je) (ja_nil)))))) (js_nil)) (js_cons (js_if (jt_val (je_isi (tn := "str") B.isinstance B.str (by decide +kernel) (je_v 1))) (js_one (js_ret (je_and (je_isi (tn := "str") B.isinstance B.str (by decide +kernel) (je_v 0)) (je_one (je_cmp (opd_eq hr.units) (je_v 0) (je_v 1) (nomark _)))))) (js_nil)) (js_one (js_ret (je_and (je_fn O_is_integer (hr.mono (by decide)) (ja_cons (je_v 0) (ja_nil))) (je_one (je_cmp (opd_eq hr.units) (je_v 0) (je_v 1) (nomark _)))))))
theorem sc_is_told : FnScope N_is_told P_is_told (defScope st_is_told) := ⟨rfl, rfl, rfl, by decide +kernel, rfl, by decide +kernel, by decide +kernel⟩
theorem bs_is_told : BindsAs "is_told" st_is_told P_is_told := fun _ _ _ _ _ _ us hl => match us, hl with | [_, _, _, _], _ => rfl
theorem j_is_told (B : Bl mg) (O_is_same : Ok P w K mg base "is_same" P_is_same 3 (spD K 2 S_is_same)) (O_is_row : Ok P w K mg base "is_row" P_is_row 1 (spD K 3 S_is_row)) : BodyCx P w K mg base "is_told" st_is_told N_is_told 3 fun X => JSs X (defBody st_is_told) g_is_told := fun f cdv A outer s H E hr => js_cons (js_if ((jw_or (jt_not (jt_val (je_isi (tn := "tuple") B.isinstance B.tuple (by decide +kernel) (je_v 0)))) (jw_or1 (jt_cmp (opd_ne hr.units) (je_callB calld_len B.len (by decide +kernel) (ja_cons (je_v 0) (ja_nil))) (je_bin opd_add (je_v 2) (je_int)) (nomark _)))).jt) (js_one (js_ret (je_bl))) (js_nil)) (js_one (js_ret (je_and (je_fn O_is_same (hr.mono (by decide)) (ja_cons (je_ix (je_v 0) (je_int)) (ja_cons (je_v 1) (ja_nil)))) (je_one (je_fn O_is_row (hr.mono (by decide)) (ja_cons (je_sl (je_v 0) (jo_some (je_int)) (jo_none)) (ja_cons (je_v 2) (ja_cons (je_v 3) (ja_nil)))))))))
theorem sc_is_move : FnScope N_is_move P_is_move (defScope st_is_move) := ⟨rfl, rfl, rfl, by decide +kernel, rfl, by decide +kernel, by decide +kernel⟩
theorem bs_is_move : BindsAs "is_move" st_is_move P_is_move := fun _ _ _ _ _ _ us hl => match us, hl with | [_], _ => rfl
theorem j_is_move (B : Bl mg) {t_MAX_MOVED : Tok} (c_MAX_MOVED : mg "MAX_MOVED" = some (.int 24 t_MAX_MOVED)) (O_is_row : Ok P w K mg base "is_row" P_is_row 1 (spD K 3 S_is_row)) : BodyCx P w K mg base "is_move" st_is_move N_is_move 1 fun X => JSs X (defBody st_is_move) g_is_move := fun f cdv A outer s H E hr => js_cons (js_if ((jw_or (jt_not (jt_val (je_isi (tn := "tuple") B.isinstance B.tuple (by decide +kernel) (je_v 0)))) (jw_or1 (jt_cmp opd_gt (je_callB calld_len B.len (by decide +kernel) (ja_cons (je_v 0) (ja_nil))) (je_globI c_MAX_MOVED (by rfl)) (nomark _)))).jt) (js_one (js_ret (je_bl))) (js_nil)) (js_one (js_ret (je_and (je_fn O_is_row (hr.mono (by decide)) (ja_cons (je_v 0) (ja_cons (je_callB calld_len B.len (by decide +kernel) (ja_cons (je_v 0) (ja_nil))) (ja_cons (je_callB calld_len B.len (by decide +kernel) (ja_cons (je_v 0) (ja_nil))) (ja_nil))))) (je_one (je_cmp (opd_eq hr.units) (je_lenSet rfl B.len B.set (je_v 0)) (je_callB calld_len B.len (by decide +kernel) (ja_cons (je_v 0) (ja_nil))) (nomark _))))))
theorem sc_is_move_of : FnScope N_is_move_of P_is_move_of (defScope st_is_move_of) := ⟨rfl, rfl, rfl, by decide +kernel, rfl, by decide +kernel, by decide +kernel⟩
theorem bs_is_move_of : BindsAs "is_move_of" st_is_move_of P_is_move_of := fun _ _ _ _ _ _ us hl => match us, hl with | [_, _], _ => rfl
theorem j_is_move_of (B : Bl mg) (O_is_move : Ok P w K mg base "is_move" P_is_move 2 (spD K 1 S_is_move)) : BodyCx P w K mg base "is_move_of" st_is_move_of N_is_move_of 2 fun X => JSs X (defBody st_is_move_of) g_is_move_of := fun f cdv A outer s H E hr => js_one (js_ret (je_and (je_fn O_is_move (hr.mono (by decide)) (ja_cons (je_v 0) (ja_nil))) (je_one (je_cmp (opd_eq hr.units) (je_callB calld_len B.len (by decide +kernel) (ja_cons (je_v 0) (ja_nil))) (je_v 1) (nomark _)))))
theorem sc_check_move_of : FnScope N_check_move_of P_check_move_of (defScope st_check_move_of) := ⟨rfl, rfl, rfl, by decide +kernel, rfl, by decide +kernel, by decide +kernel⟩
theorem bs_check_move_of : BindsAs "check_move_of" st_check_move_of P_check_move_of := fun _ _ _ _ _ _ us hl => match us, hl with | [_, _], _ => rfl
theorem j_check_move_of (O_is_move_of : Ok P w K mg base "is_move_of" P_is_move_of 3 (spD K 2 S_is_move_of)) : BodyCx P w K mg base "check_move_of" st_check_move_of N_check_move_of 3 fun X => JSs X (defBody st_check_move_of) g_check_move_of := fun f cdv A outer s H E hr => js_one (js_if (jt_not (jt_val (je_fn O_is_move_of (hr.mono (by decide)) (ja_cons (je_v 0) (ja_cons (je_v 1) (ja_nil)))))) (js_one (js_never)) (js_nil))
theorem sc_joined_moves : FnScope N_joined_moves P_joined_moves (defScope st_joined_moves) := ⟨rfl, rfl, rfl, by decide +kernel, rfl, by decide +kernel, by decide +kernel⟩
theorem bs_joined_moves : BindsAs "joined_moves" st_joined_moves P_joined_moves := fun _ _ _ _ _ _ us hl => match us, hl with | [_, _], _ => rfl
theorem j_joined_moves (B : Bl mg) : BodyCx P w K mg base "joined_moves" st_joined_moves N_joined_moves 0 fun X => JSs X (defBody st_joined_moves) g_joined_moves := fun f cdv A outer s H E hr => js_one (js_ret (je_callTy calld_tuple B.tuple (by decide +kernel) (ja_cons ((jl_lc (own := [("thing", 2)]) rfl sc_joined_moves.nd (ji_sq (je_v 1)) (blkOk_by (by rfl)) (fun _ _ _ _ _ => jg_n 2 sc_joined_moves.nd) (fun _ _ _ _ _ => jts_nil) (fun _ _ _ _ _ => je_ix (je_v 0) (je_v 2))).je) (ja_nil))))
theorem sc_undone_move : FnScope N_undone_move P_undone_move (defScope st_undone_move) := ⟨rfl, rfl, rfl, by decide +kernel, rfl, by decide +kernel, by decide +kernel⟩
theorem bs_undone_move : BindsAs "undone_move" st_undone_move P_undone_move := fun _ _ _ _ _ _ us hl => match us, hl with | [_], _ => rfl
theorem j_undone_move (B : Bl mg) : BodyCx P w K mg base "undone_move" st_undone_move N_undone_move 0 fun X => JSs X (defBody st_undone_move) g_undone_move := fun f cdv A outer s H E hr => js_cons (js_set (i := 1) ((je_dc (own := [("thing", 2), ("goal", 3)]) rfl sc_undone_move.nd (ji_en B.enumerate (je_v 0)) (blkOk_by (by rfl)) (fun _ _ _ _ _ => jg_tup rfl (jgs_cons (jg_n 2 sc_undone_move.nd) (jgs_cons (jg_n 3 sc_undone_move.nd) (jgs_nil)))) (fun _ _ _ _ _ => jts_nil) (fun _ _ _ _ _ => je_v 3) (fun _ _ _ _ _ => je_v 2)).jx) sc_undone_move.nd rfl (by first | exact Or.inl rfl | exact Or.inr rfl)) (js_one (js_ret (je_callTy calld_tuple B.tuple (by decide +kernel) (ja_cons ((jl_lc (own := [("thing", 2)]) rfl sc_undone_move.nd (ji_r1 B.range (je_callB calld_len B.len (by decide +kernel) (ja_cons (je_v 0) (ja_nil)))) (blkOk_by (by rfl)) (fun _ _ _ _ _ => jg_n 2 sc_undone_move.nd) (fun _ _ _ _ _ => jts_nil) (fun _ _ _ _ _ => je_getD (hu1 hr.units) (je_v 1) (je_v 2))).je) (ja_nil)))))
theorem sc__is_pairs : FnScope N__is_pairs P__is_pairs (defScope st__is_pairs) := ⟨rfl, rfl, rfl, by decide +kernel, rfl, by decide +kernel, by decide +kernel⟩
theorem bs__is_pairs : BindsAs "_is_pairs" st__is_pairs P__is_pairs := fun _ _ _ _ _ _ us hl => match us, hl with | [_, _], _ => rfl
theorem j__is_pairs (B : Bl mg) (O_is_row : Ok P w K mg base "is_row" P_is_row 1 (spD K 3 S_is_row)) : BodyCx P w K mg base "_is_pairs" st__is_pairs N__is_pairs 1 fun X => JSs X (defBody st__is_pairs) g__is_pairs := fun f cdv A outer s H E hr => js_cons (js_if ((jw_or (jt_not (jt_val (je_isi (tn := "tuple") B.isinstance B.tuple (by decide +kernel) (je_v 0)))) (jw_or1 (jt_cmp (opd_ne hr.units) (je_callB calld_len B.len (by decide +kernel) (ja_cons (je_v 0) (ja_nil))) (je_v 1) (nomark _)))).jt) (js_one (js_ret (je_bl))) (js_nil)) (js_one (js_ret (je_callB (calld_all rfl) B.all (by decide +kernel) (ja_cons ((jl_lc (own := [("pair", 2)]) rfl sc__is_pairs.nd (ji_sq (je_v 0)) (blkOk_by (by rfl)) (fun _ _ _ _ _ => jg_n 2 sc__is_pairs.nd) (fun _ _ _ _ _ => jts_nil) (fun _ _ _ _ _ => je_fn O_is_row (hr.mono (by decide)) (ja_cons (je_v 2) (ja_cons (je_int) (ja_cons (je_v 1) (ja_nil)))))).je) (ja_nil)))))
theorem sc__pass_alike : FnScope N__pass_alike P__pass_alike (defScope st__pass_alike) := ⟨rfl, rfl, rfl, by decide +kernel, rfl, by decide +kernel, by decide +kernel⟩
theorem bs__pass_alike : BindsAs "_pass_alike" st__pass_alike P__pass_alike := fun _ _ _ _ _ _ us hl => match us, hl with | [_, _, _, _, _], _ => rfl
theorem j__pass_alike (B : Bl mg) : BodyCx P w K mg base "_pass_alike" st__pass_alike N__pass_alike 0 fun X => JSs X (defBody st__pass_alike) g__pass_alike := fun f cdv A outer s H E hr => js_cons (js_for (vs := [5, 6, 7]) rfl (ji_en B.enumerate (je_v 4)) (jg_tup rfl (jgs_cons (jg_n 5 sc__pass_alike.nd) (jgs_cons (jg_tup rfl (jgs_cons (jg_n 6 sc__pass_alike.nd) (jgs_cons (jg_n 7 sc__pass_alike.nd) (jgs_nil)))) (jgs_nil)))) (js_cons (js_asg (vs := [8, 9]) (je_ix (je_v 2) (je_v 5)) (jg_tup rfl (jgs_cons (jg_n 8 sc__pass_alike.nd) (jgs_cons (jg_n 9 sc__pass_alike.nd) (jgs_nil))))) (js_cons (js_asg (vs := [10, 8]) (je_ix (je_v 1) (je_v 8)) (jg_tup rfl (jgs_cons (jg_n 10 sc__pass_alike.nd) (jgs_cons (jg_n 8 sc__pass_alike.nd) (jgs_nil))))) (js_one (js_if (jt_cmp (opd_ne hr.units) (je_bin opd_add (je_ix (je_v 3) (je_v 6)) (je_tup (ja_cons (je_v 7) (ja_nil)))) (je_bin opd_add (je_tup (ja_cons (je_v 10) (ja_nil))) (je_ix (je_ix (je_v 0) (je_v 8)) (je_v 9))) (nomark _)) (js_one (js_ret (je_bl))) (js_nil)))))) (js_one (js_ret (je_bl)))
theorem sc__threes : FnScope N__threes P__threes (defScope st__threes) := ⟨rfl, rfl, rfl, by decide +kernel, rfl, by decide +kernel, by decide +kernel⟩
theorem bs__threes : BindsAs "_threes" st__threes P__threes := fun _ _ _ _ _ _ us hl => match us, hl with | [_], _ => rfl
theorem j__threes (B : Bl mg) : BodyCx P w K mg base "_threes" st__threes N__threes 0 fun X => JSs X (defBody st__threes) g__threes := fun f cdv A outer s H E hr => jss_threes rfl sc__threes.nd rfl B.range rfl (by first | exact Or.inl rfl | exact Or.inr (Or.inl rfl) | exact Or.inr (Or.inr rfl)) (by first | exact Or.inl rfl | exact Or.inr rfl) (.inl rfl) (by first | exact Or.inl rfl | exact Or.inr (Or.inl rfl) | exact Or.inr (Or.inr rfl)) (blkOk_by (by rfl)) (fun _ _ _ _ _ => pe_var (i := 1) rfl (by first | exact Or.inl rfl | exact Or.inr (Or.inl rfl) | exact Or.inr (Or.inr rfl))) (fun _ _ _ _ _ => pe_var (i := 1) rfl (by first | exact Or.inl rfl | exact Or.inr (Or.inl rfl) | exact Or.inr (Or.inr rfl))) (fun _ _ _ _ _ => pg_name (i := 2) sc__threes.nd rfl (Or.inl rfl)) (fun _ _ _ _ _ => pg_name (i := 3) sc__threes.nd rfl (Or.inl rfl)) (fun _ _ _ _ _ => pg_name (i := 4) sc__threes.nd rfl (Or.inl rfl)) (fun _ _ _ _ _ => pe_tup (pa_cons (pe_var (i := 2) rfl (by first | exact Or.inl rfl | exact Or.inr (Or.inl rfl) | exact Or.inr (Or.inr rfl))) (pa_cons (pe_var (i := 3) rfl (by first | exact Or.inl rfl | exact Or.inr (Or.inl rfl) | exact Or.inr (Or.inr rfl))) (pa_cons (pe_var (i := 4) rfl (by first | exact Or.inl rfl | exact Or.inr (Or.inl rfl) | exact Or.inr (Or.inr rfl))) pa_nil)))) rfl rfl rfl
theorem sc__passed_left_first : FnScope N__passed_left_first P__passed_left_first (defScope st__passed_left_first) := ⟨rfl, rfl, rfl, by decide +kernel, rfl, by decide +kernel, by decide +kernel⟩
theorem bs__passed_left_first : BindsAs "_passed_left_first" st__passed_left_first P__passed_left_first := fun _ _ _ _ _ _ us hl => match us, hl with | [_, _, _, _], _ => rfl
theorem j__passed_left_first : BodyCx P w K mg base "_passed_left_first" st__passed_left_first N__passed_left_first 0 fun X => JSs X (defBody st__passed_left_first) g__passed_left_first := fun f cdv A outer s H E hr => js_cons (js_asg (vs := [4, 5]) (je_ix (je_ix (je_v 0) (je_v 1)) (je_v 2)) (jg_tup rfl (jgs_cons (jg_n 4 sc__passed_left_first.nd) (jgs_cons (jg_n 5 sc__passed_left_first.nd) (jgs_nil))))) (js_cons (js_asg (vs := [5, 6]) (je_ix (je_ix (je_v 0) (je_v 5)) (je_v 3)) (jg_tup rfl (jgs_cons (jg_n 5 sc__passed_left_first.nd) (jgs_cons (jg_n 6 sc__passed_left_first.nd) (jgs_nil))))) (js_cons (js_asg (vs := [4, 5]) (je_ix (je_ix (je_v 0) (je_v 4)) (je_v 5)) (jg_tup rfl (jgs_cons (jg_n 4 sc__passed_left_first.nd) (jgs_cons (jg_n 5 sc__passed_left_first.nd) (jgs_nil))))) (js_one (js_ret (je_tup (ja_cons (je_v 4) (ja_cons (je_v 5) (ja_cons (je_v 6) (ja_nil)))))))))
theorem sc__passed_right_first : FnScope N__passed_right_first P__passed_right_first (defScope st__passed_right_first) := ⟨rfl, rfl, rfl, by decide +kernel, rfl, by decide +kernel, by decide +kernel⟩
theorem bs__passed_right_first : BindsAs "_passed_right_first" st__passed_right_first P__passed_right_first := fun _ _ _ _ _ _ us hl => match us, hl with | [_, _, _, _], _ => rfl
theorem j__passed_right_first : BodyCx P w K mg base "_passed_right_first" st__passed_right_first N__passed_right_first 0 fun X => JSs X (defBody st__passed_right_first) g__passed_right_first := fun f cdv A outer s H E hr => js_cons (js_asg (vs := [4, 5]) (je_ix (je_ix (je_v 0) (je_v 2)) (je_v 3)) (jg_tup rfl (jgs_cons (jg_n 4 sc__passed_right_first.nd) (jgs_cons (jg_n 5 sc__passed_right_first.nd) (jgs_nil))))) (js_cons (js_asg (vs := [6, 4]) (je_ix (je_ix (je_v 0) (je_v 1)) (je_v 4)) (jg_tup rfl (jgs_cons (jg_n 6 sc__passed_right_first.nd) (jgs_cons (jg_n 4 sc__passed_right_first.nd) (jgs_nil))))) (js_cons (js_asg (vs := [4, 5]) (je_ix (je_ix (je_v 0) (je_v 4)) (je_v 5)) (jg_tup rfl (jgs_cons (jg_n 4 sc__passed_right_first.nd) (jgs_cons (jg_n 5 sc__passed_right_first.nd) (jgs_nil))))) (js_one (js_ret (je_tup (ja_cons (je_v 6) (ja_cons (je_v 4) (ja_cons (je_v 5) (ja_nil)))))))))
theorem sc_check_table : FnScope N_check_table P_check_table (defScope st_check_table) := ⟨rfl, rfl, rfl, by decide +kernel, rfl, by decide +kernel, by decide +kernel⟩
theorem bs_check_table : BindsAs "check_table" st_check_table P_check_table := fun _ _ _ _ _ _ us hl => match us, hl with | [_], _ => rfl
theorem j_check_table (B : Bl mg) (CF_Passing : ClsF K mg "Passing" ["_rows", "_left", "_right", "_quiet"]) : BodyCx P w K mg base "check_table" st_check_table N_check_table 0 fun X => JSs X (defBody st_check_table) g_check_table := fun f cdv A outer s H E hr => js_one (js_if (jt_not (jt_val (je_isC B.isinstance CF_Passing.mg CF_Passing.ic oth0 (je_v 0)))) (js_one (js_never)) (js_nil))
theorem sc__passes_twice_unchanged : FnScope N__passes_twice_unchanged P__passes_twice_unchanged (defScope st__passes_twice_unchanged) := ⟨rfl, rfl, rfl, by decide +kernel, rfl, by decide +kernel, by decide +kernel⟩
theorem bs__passes_twice_unchanged : BindsAs "_passes_twice_unchanged" st__passes_twice_unchanged P__passes_twice_unchanged := fun _ _ _ _ _ _ us hl => match us, hl with | [_], _ => rfl
theorem j__passes_twice_unchanged (B : Bl mg) : BodyCx P w K mg base "_passes_twice_unchanged" st__passes_twice_unchanged N__passes_twice_unchanged 0 fun X => JSs X (defBody st__passes_twice_unchanged) g__passes_twice_unchanged := fun f cdv A outer s H E hr => js_cons (js_for (vs := [1, 2]) rfl (ji_en B.enumerate (je_v 0)) (jg_tup rfl (jgs_cons (jg_n 1 sc__passes_twice_unchanged.nd) (jgs_cons (jg_n 2 sc__passes_twice_unchanged.nd) (jgs_nil)))) (js_one (js_for (vs := [3, 4]) rfl (ji_en B.enumerate (je_v 2)) (jg_tup rfl (jgs_cons (jg_n 3 sc__passes_twice_unchanged.nd) (jgs_cons (jg_n 4 sc__passes_twice_unchanged.nd) (jgs_nil)))) (js_one (js_if (jt_cmp (opd_ne hr.units) (je_ix (je_ix (je_v 0) (je_ix (je_v 4) (je_int))) (je_ix (je_v 4) (je_int))) (je_tup (ja_cons (je_v 1) (ja_cons (je_v 3) (ja_nil)))) (nomark _)) (js_one (js_ret (je_bl))) (js_nil)))))) (js_one (js_ret (je_bl)))
theorem sc_renamed_table_rows : FnScope N_renamed_table_rows P_renamed_table_rows (defScope st_renamed_table_rows) := ⟨rfl, rfl, rfl, by decide +kernel, rfl, by decide +kernel, by decide +kernel⟩
theorem bs_renamed_table_rows : BindsAs "renamed_table_rows" st_renamed_table_rows P_renamed_table_rows := fun _ _ _ _ _ _ us hl => match us, hl with | [_, _], _ => rfl
theorem j_renamed_table_rows (B : Bl mg) (O_undone_move : Ok P w K mg base "undone_move" P_undone_move 1 (spD K 1 S_undone_move)) : BodyCx P w K mg base "renamed_table_rows" st_renamed_table_rows N_renamed_table_rows 1 fun X => JSs X (defBody st_renamed_table_rows) g_renamed_table_rows := fun f cdv A outer s H E hr => js_cons (js_set (i := 2) ((je_fn O_undone_move (hr.mono (by decide)) (ja_cons (je_v 1) (ja_nil))).jx) sc_renamed_table_rows.nd rfl (by first | exact Or.inl rfl | exact Or.inr rfl)) (js_one (js_ret (je_callTy calld_tuple B.tuple (by decide +kernel) (ja_cons ((jl_lc (own := [("x", 3)]) rfl sc_renamed_table_rows.nd (ji_sq (je_v 1)) (blkOk_by (by rfl)) (fun _ _ _ _ _ => jg_n 3 sc_renamed_table_rows.nd) (fun _ _ _ _ _ => jts_nil) (fun _ _ _ _ _ => je_callTy calld_tuple B.tuple (by decide +kernel) (ja_cons ((jl_lc (own := [("y", 4)]) rfl sc_renamed_table_rows.nd (ji_sq (je_v 1)) (blkOk_by (by rfl)) (fun _ _ _ _ _ => jg_n 4 sc_renamed_table_rows.nd) (fun _ _ _ _ _ => jts_nil) (fun _ _ _ _ _ => je_tup (ja_cons (je_ix (je_v 2) (je_ix (je_ix (je_ix (je_v 0) (je_v 3)) (je_v 4)) (je_int))) (ja_cons (je_ix (je_v 2) (je_ix (je_ix (je_ix (je_v 0) (je_v 3)) (je_v 4)) (je_int))) (ja_nil))))).je) (ja_nil)))).je) (ja_nil)))))
theorem sc__pair_rows : FnScope N__pair_rows P__pair_rows (defScope st__pair_rows) := ⟨rfl, rfl, rfl, by decide +kernel, rfl, by decide +kernel, by decide +kernel⟩
theorem bs__pair_rows : BindsAs "_pair_rows" st__pair_rows P__pair_rows := fun _ _ _ _ _ _ us hl => match us, hl with | [_, _], _ => rfl
theorem j__pair_rows (B : Bl mg) : BodyCx P w K mg base "_pair_rows" st__pair_rows N__pair_rows 0 fun X => JSs X (defBody st__pair_rows) g__pair_rows := fun f cdv A outer s H E hr => js_cons (js_set (i := 2) ((je_callB calld_len B.len (by decide +kernel) (ja_cons (je_v 1) (ja_nil))).jx) sc__pair_rows.nd rfl (by first | exact Or.inl rfl | exact Or.inr rfl)) (js_one (js_ret (je_callTy calld_tuple B.tuple (by decide +kernel) (ja_cons ((jl_lc2 (own := [("row", 3), ("other_row", 4)]) (vs2 := [4]) rfl sc__pair_rows.nd (ji_sq (je_v 0)) (blkOk_by (by rfl)) (by decide) (fun _ _ _ _ _ => jg_n 3 sc__pair_rows.nd) (fun _ _ _ _ _ => jts_nil) (fun _ _ _ _ _ => ji_sq (je_v 1)) (fun _ _ _ _ _ => jg_n 4 sc__pair_rows.nd) (fun _ _ _ _ _ => jts_nil) (fun _ _ _ _ _ => je_callTy calld_tuple B.tuple (by decide +kernel) (ja_cons ((jl_lc2 (own := [("pair", 5), ("other", 6)]) (vs2 := [6]) rfl sc__pair_rows.nd (ji_sq (je_v 3)) (blkOk_by (by rfl)) (by decide) (fun _ _ _ _ _ => jg_n 5 sc__pair_rows.nd) (fun _ _ _ _ _ => jts_nil) (fun _ _ _ _ _ => ji_sq (je_v 4)) (fun _ _ _ _ _ => jg_n 6 sc__pair_rows.nd) (fun _ _ _ _ _ => jts_nil) (fun _ _ _ _ _ => je_tup (ja_cons (je_bin opd_add (je_bin opd_mulA (je_ix (je_v 5) (je_int)) (je_v 2)) (je_ix (je_v 6) (je_int))) (ja_cons (je_bin opd_add (je_bin opd_mulA (je_ix (je_v 5) (je_int)) (je_v 2)) (je_ix (je_v 6) (je_int))) (ja_nil))))).je) (ja_nil)))).je) (ja_nil)))))
theorem sc__is_shadow : FnScope N__is_shadow P__is_shadow (defScope st__is_shadow) := ⟨rfl, rfl, rfl, by decide +kernel, rfl, by decide +kernel, by decide +kernel⟩
theorem bs__is_shadow : BindsAs "_is_shadow" st__is_shadow P__is_shadow := fun _ _ _ _ _ _ us hl => match us, hl with | [_], _ => rfl
theorem j__is_shadow (B : Bl mg) (O_is_move_of : Ok P w K mg base "is_move_of" P_is_move_of 3 (spD K 2 S_is_move_of)) (O_joined_moves : Ok P w K mg base "joined_moves" P_joined_moves 1 (spD K 2 S_joined_moves)) : BodyCx P w K mg base "_is_shadow" st__is_shadow N__is_shadow 3 fun X => JSs X (defBody st__is_shadow) g__is_shadow := fun f cdv A outer s H E hr => js_cons (js_if (jt_not (jt_val (je_callB (calld_all rfl) B.all (by decide +kernel) (ja_cons ((jl_lc (own := [("row", 1)]) rfl sc__is_shadow.nd (ji_sq (je_v 0)) (blkOk_by (by rfl)) (fun _ _ _ _ _ => jg_n 1 sc__is_shadow.nd) (fun _ _ _ _ _ => jts_nil) (fun _ _ _ _ _ => je_fn O_is_move_of (hr.mono (by decide)) (ja_cons (je_v 1) (ja_cons (je_callB calld_len B.len (by decide +kernel) (ja_cons (je_v 0) (ja_nil))) (ja_nil))))).je) (ja_nil))))) (js_one (js_ret (je_bl))) (js_nil)) (js_cons (js_for (vs := [1]) rfl (ji_sq (je_v 0)) (jg_n 1 sc__is_shadow.nd) (js_one (js_for (vs := [2, 3]) rfl (ji_en B.enumerate (je_v 1)) (jg_tup rfl (jgs_cons (jg_n 2 sc__is_shadow.nd) (jgs_cons (jg_n 3 sc__is_shadow.nd) (jgs_nil)))) (js_one (js_if (jt_cmp (opd_ne hr.units) (je_fn O_joined_moves (hr.mono (by decide)) (ja_cons (je_v 1) (ja_cons (je_ix (je_v 0) (je_v 2)) (ja_nil)))) (je_fn O_joined_moves (hr.mono (by decide)) (ja_cons (je_ix (je_v 0) (je_v 3)) (ja_cons (je_v 1) (ja_nil)))) (nomark _)) (js_one (js_ret (je_bl))) (js_nil)))))) (js_one (js_ret (je_bl))))
theorem sc__breaks_shadow : FnScope N__breaks_shadow P__breaks_shadow (defScope st__breaks_shadow) := ⟨rfl, rfl, rfl, by decide +kernel, rfl, by decide +kernel, by decide +kernel⟩
theorem bs__breaks_shadow : BindsAs "_breaks_shadow" st__breaks_shadow P__breaks_shadow := fun _ _ _ _ _ _ us hl => match us, hl with | [_, _, _], _ => rfl
theorem j__breaks_shadow : BodyCx P w K mg base "_breaks_shadow" st__breaks_shadow N__breaks_shadow 0 fun X => JSs X (defBody st__breaks_shadow) g__breaks_shadow := fun f cdv A outer s H E hr => jss_never
theorem sc__law_dice : FnScope N__law_dice P__law_dice (defScope st__law_dice) := ⟨rfl, rfl, rfl, by decide +kernel, rfl, by decide +kernel, by decide +kernel⟩
theorem bs__law_dice : BindsAs "_law_dice" st__law_dice P__law_dice := fun _ _ _ _ _ _ us hl => match us, hl with | [_, _], _ => rfl
theorem j__law_dice (B : Bl mg) : BodyCx P w K mg base "_law_dice" st__law_dice N__law_dice 0 fun X => JSL X (defBody st__law_dice) g__law_dice := fun f cdv A outer s H E hr => jsl_cons (js_set (i := 2) ((je_if (jt_cmp opd_lt (je_v 1) (je_callB calld_len B.len (by decide +kernel) (ja_cons (je_v 0) (ja_nil))) (nomark _)) (je_callTy calld_int B.int (by decide +kernel) (ja_cons (je_ix (je_v 0) (je_v 1)) (ja_nil))) (je_bin opd_add (je_bin opd_mulA (je_int) (je_v 1)) (je_int))).jx) sc__law_dice.nd rfl (by first | exact Or.inl rfl | exact Or.inr rfl)) (jsl_cons (js_set (i := 3) ((je_bin opd_mod (je_callB (calld_max2 rfl) B.max (by decide +kernel) (ja_cons (je_int) (ja_cons (je_bin opd_sub (je_callB calld_abs B.abs (by decide +kernel) (ja_cons (je_v 2) (ja_nil))) (je_bin opd_pow (je_int) (je_int))) (ja_nil)))) (je_bin opd_mulA (je_bin opd_pow (je_int) (je_int)) (je_bin opd_pow (je_int) (je_int)))).jx) sc__law_dice.nd rfl (by first | exact Or.inl rfl | exact Or.inr rfl)) (jsl_ret (jl_lst (ja_cons (je_v 3) (ja_cons (je_bin opd_add (je_bin opd_add (je_bin opd_add (je_bin opd_mulA (je_bin opd_mod (je_callB calld_abs B.abs (by decide +kernel) (ja_cons (je_v 2) (ja_nil))) (je_int)) (je_int)) (je_bin opd_mulA (je_int) (je_v 1))) (je_bin opd_mulA (je_int) (je_callTy calld_int B.int (by decide +kernel) (ja_cons (je_cmp opd_lt (je_v 2) (je_int) (nomark _)) (ja_nil))))) (je_int)) (ja_cons (je_int) (ja_nil)))))))
theorem sc__law_roll : FnScope N__law_roll P__law_roll (defScope st__law_roll) := ⟨rfl, rfl, rfl, by decide +kernel, rfl, by decide +kernel, by decide +kernel⟩
theorem bs__law_roll : BindsAs "_law_roll" st__law_roll P__law_roll := fun _ _ _ _ _ _ us hl => match us, hl with | [_, _], _ => rfl
theorem j__law_roll (B : Bl mg) : BodyCx P w K mg base "_law_roll" st__law_roll N__law_roll 0 fun X => JSs X (defBody st__law_roll) g__law_roll := fun f cdv A outer s H E hr => js_cons (js_if (jt_cmp opd_gt (je_ixP (i := 0) rfl (by first | exact Or.inl rfl | exact Or.inr (Or.inl rfl) | exact Or.inr (Or.inr rfl)) (je_int)) (je_int) (nomark _)) (js_cons (js_set (i := 2) ((je_bin opd_mod (je_callTy calld_int B.int (by decide +kernel) (ja_cons (je_ixP (i := 0) rfl (by first | exact Or.inl rfl | exact Or.inr (Or.inl rfl) | exact Or.inr (Or.inr rfl)) (je_int)) (ja_nil))) (je_v 1)).jx) sc__law_roll.nd rfl (by first | exact Or.inl rfl | exact Or.inr rfl)) (js_cons (js_sub (i := 0) rfl (by first | exact Or.inl rfl | exact Or.inr (Or.inl rfl) | exact Or.inr (Or.inr rfl)) (je_int) (je_bin opd_fdiv (je_ixP (i := 0) rfl (by first | exact Or.inl rfl | exact Or.inr (Or.inl rfl) | exact Or.inr (Or.inr rfl)) (je_int)) (je_v 1))) (js_one (js_ret (je_v 2))))) (js_nil)) (js_cons (js_sub (i := 0) rfl (by first | exact Or.inl rfl | exact Or.inr (Or.inl rfl) | exact Or.inr (Or.inr rfl)) (je_int) (je_bin opd_add (je_ixP (i := 0) rfl (by first | exact Or.inl rfl | exact Or.inr (Or.inl rfl) | exact Or.inr (Or.inr rfl)) (je_int)) (je_int))) (js_cons (js_set (i := 3) ((je_bin opd_mod (je_callTy calld_int B.int (by decide +kernel) (ja_cons (je_bin opd_add (je_ixP (i := 0) rfl (by first | exact Or.inl rfl | exact Or.inr (Or.inl rfl) | exact Or.inr (Or.inr rfl)) (je_int)) (je_bin opd_mulA (je_int) (je_ixP (i := 0) rfl (by first | exact Or.inl rfl | exact Or.inr (Or.inl rfl) | exact Or.inr (Or.inr rfl)) (je_int)))) (ja_nil))) (je_int)).jx) sc__law_roll.nd rfl (by first | exact Or.inl rfl | exact Or.inr rfl)) (js_cons (js_set (i := 4) ((je_bin opd_add (je_bin opd_mulA (je_bin opd_mod (je_callTy calld_int B.int (by decide +kernel) (ja_cons (je_bin opd_add (je_bin opd_mulA (je_v 3) (je_v 3)) (je_bin opd_mulA (je_int) (je_ixP (i := 0) rfl (by first | exact Or.inl rfl | exact Or.inr (Or.inl rfl) | exact Or.inr (Or.inr rfl)) (je_int)))) (ja_nil))) (je_int)) (je_int)) (je_v 3)).jx) sc__law_roll.nd rfl (by first | exact Or.inl rfl | exact Or.inr rfl)) (js_one (js_ret (je_bin opd_mod (je_callTy calld_int B.int (by decide +kernel) (ja_cons (je_bin opd_fdiv (je_v 4) (je_int)) (ja_nil))) (je_v 1)))))))
theorem sc__law_pick : FnScope N__law_pick P__law_pick (defScope st__law_pick) := ⟨rfl, rfl, rfl, by decide +kernel, rfl, by decide +kernel, by decide +kernel⟩
theorem bs__law_pick : BindsAs "_law_pick" st__law_pick P__law_pick := fun _ _ _ _ _ _ us hl => match us, hl with | [_, _], _ => rfl
theorem j__law_pick (B : Bl mg) (O__law_roll : Ok P w K mg base "_law_roll" P__law_roll 1 (spM K 2 S__law_roll)) : BodyCx P w K mg base "_law_pick" st__law_pick N__law_pick 1 fun X => JSs X (defBody st__law_pick) g__law_pick := fun f cdv A outer s H E hr => js_one (js_ret (je_ix (je_v 1) (je_fnM O__law_roll (hr.mono (by decide)) (i := 0) rfl (by first | exact Or.inl rfl | exact Or.inr (Or.inl rfl) | exact Or.inr (Or.inr rfl)) (ja_cons (je_callB calld_len B.len (by decide +kernel) (ja_cons (je_v 1) (ja_nil))) (ja_nil)))))
theorem sc__law_mixed : FnScope N__law_mixed P__law_mixed (defScope st__law_mixed) := ⟨rfl, rfl, rfl, by decide +kernel, rfl, by decide +kernel, by decide +kernel⟩
theorem bs__law_mixed : BindsAs "_law_mixed" st__law_mixed P__law_mixed := fun _ _ _ _ _ _ us hl => match us, hl with | [_, _], _ => rfl
theorem j__law_mixed (B : Bl mg) (O__law_roll : Ok P w K mg base "_law_roll" P__law_roll 1 (spM K 2 S__law_roll)) : BodyCx P w K mg base "_law_mixed" st__law_mixed N__law_mixed 1 fun X => JSs X (defBody st__law_mixed) g__law_mixed := fun f cdv A outer s H E hr => js_cons (js_par (i := 2) (j := 3) rfl sc__law_mixed.nd rfl rfl (by decide) rfl rfl ((jl_list B.list (je_v 1)).jx) ((jl_lst (ja_nil)).jx) rfl) (js_cons (js_for (vs := [4]) rfl (ji_r1 B.range (je_callB calld_len B.len (by decide +kernel) (ja_cons (je_v 1) (ja_nil)))) (jg_n 4 sc__law_mixed.nd) (js_one (js_expr (je_app (i := 3) rfl (by first | exact Or.inl rfl | exact Or.inr (Or.inl rfl) | exact Or.inr (Or.inr rfl)) (je_popAt (i := 2) rfl (by first | exact Or.inl rfl | exact Or.inr (Or.inl rfl) | exact Or.inr (Or.inr rfl)) (je_fnM O__law_roll (hr.mono (by decide)) (i := 0) rfl (by first | exact Or.inl rfl | exact Or.inr (Or.inl rfl) | exact Or.inr (Or.inr rfl)) (ja_cons (je_callBO calld_len B.len (by decide +kernel) (i := 2) rfl (by first | exact Or.inl rfl | exact Or.inr (Or.inl rfl) | exact Or.inr (Or.inr rfl))) (ja_nil)))))))) (js_one (js_retO (i := 3) rfl (by first | exact Or.inl rfl | exact Or.inr (Or.inl rfl) | exact Or.inr (Or.inr rfl)))))
theorem sc__law_orders : FnScope N__law_orders P__law_orders (defScope st__law_orders) := ⟨rfl, rfl, rfl, by decide +kernel, rfl, by decide +kernel, by decide +kernel⟩
theorem bs__law_orders : BindsAs "_law_orders" st__law_orders P__law_orders := fun _ _ _ _ _ _ us hl => match us, hl with | [_], _ => rfl
theorem j__law_orders (B : Bl mg) : BodyCx P w K mg base "_law_orders" st__law_orders N__law_orders 0 fun X => JSs X (defBody st__law_orders) g__law_orders := fun f cdv A outer s H E hr => js_cons (js_set (i := 1) (((jl_lst (ja_cons (je_tup (ja_nil)) (ja_nil))).je).jx) sc__law_orders.nd rfl (by first | exact Or.inl rfl | exact Or.inr rfl)) (js_cons (js_for (vs := [2]) rfl (ji_r1 B.range (je_v 0)) (jg_n 2 sc__law_orders.nd) (js_cons (js_set (i := 3) ((jl_lst (ja_nil)).jx) sc__law_orders.nd rfl (by first | exact Or.inl rfl | exact Or.inr rfl)) (js_cons (js_for (vs := [4]) rfl (ji_sq (je_v 1)) (jg_n 4 sc__law_orders.nd) (js_one (js_expr (je_ext (i := 3) rfl (by first | exact Or.inl rfl | exact Or.inr (Or.inl rfl) | exact Or.inr (Or.inr rfl)) ((jl_lc (own := [("_law_thing", 5)]) rfl sc__law_orders.nd (ji_r1 B.range (je_v 0)) (blkOk_by (by rfl)) (fun _ _ _ _ _ => jg_n 5 sc__law_orders.nd) (fun _ _ _ _ _ => jts_one (jt_cmp opd_notin (je_v 5) (je_v 4) rfl)) (fun _ _ _ _ _ => je_bin opd_add (je_v 4) (je_tup (ja_cons (je_v 5) (ja_nil))))).je))))) (js_one (js_set (i := 1) (((jl_listO B.list (i := 3) rfl (by first | exact Or.inl rfl | exact Or.inr (Or.inl rfl) | exact Or.inr (Or.inr rfl))).je).jx) sc__law_orders.nd rfl (by first | exact Or.inl rfl | exact Or.inr rfl)))))) (js_one (js_ret (je_v 1))))
theorem sc__law_joined : FnScope N__law_joined P__law_joined (defScope st__law_joined) := ⟨rfl, rfl, rfl, by decide +kernel, rfl, by decide +kernel, by decide +kernel⟩
theorem bs__law_joined : BindsAs "_law_joined" st__law_joined P__law_joined := fun _ _ _ _ _ _ us hl => match us, hl with | [_, _], _ => rfl
theorem j__law_joined (B : Bl mg) : BodyCx P w K mg base "_law_joined" st__law_joined N__law_joined 0 fun X => JSs X (defBody st__law_joined) g__law_joined := fun f cdv A outer s H E hr => js_one (js_ret (je_callTy calld_tuple B.tuple (by decide +kernel) (ja_cons ((jl_lc (own := [("_law_thing", 2)]) rfl sc__law_joined.nd (ji_sq (je_v 1)) (blkOk_by (by rfl)) (fun _ _ _ _ _ => jg_n 2 sc__law_joined.nd) (fun _ _ _ _ _ => jts_nil) (fun _ _ _ _ _ => je_ix (je_v 0) (je_v 2))).je) (ja_nil))))
theorem sc__law_undone : FnScope N__law_undone P__law_undone (defScope st__law_undone) := ⟨rfl, rfl, rfl, by decide +kernel, rfl, by decide +kernel, by decide +kernel⟩
theorem bs__law_undone : BindsAs "_law_undone" st__law_undone P__law_undone := fun _ _ _ _ _ _ us hl => match us, hl with | [_], _ => rfl
theorem j__law_undone (B : Bl mg) : BodyCx P w K mg base "_law_undone" st__law_undone N__law_undone 0 fun X => JSs X (defBody st__law_undone) g__law_undone := fun f cdv A outer s H E hr => js_cons (js_lcO (own := [("_law_thing", 2)]) rfl sc__law_undone.nd (i := 1) rfl rfl (sw_true rfl rfl rfl (by decide +kernel)) (ji_sq (je_v 0)) (blkOk_by (by rfl)) (fun _ _ _ _ _ => jg_n 2 sc__law_undone.nd) (fun _ _ _ _ _ => jts_nil) (fun _ _ _ _ _ => je_int)) (js_cons (js_for (vs := [2, 3]) rfl (ji_en B.enumerate (je_v 0)) (jg_tup rfl (jgs_cons (jg_n 2 sc__law_undone.nd) (jgs_cons (jg_n 3 sc__law_undone.nd) (jgs_nil)))) (js_one (js_sub (i := 1) rfl (by first | exact Or.inl rfl | exact Or.inr (Or.inl rfl) | exact Or.inr (Or.inr rfl)) (je_v 3) (je_v 2)))) (js_one (js_ret (je_tupleO B.tuple (i := 1) rfl (by first | exact Or.inl rfl | exact Or.inr (Or.inl rfl) | exact Or.inr (Or.inr rfl))))))
theorem sc__law_drawn_move : FnScope N__law_drawn_move P__law_drawn_move (defScope st__law_drawn_move) := ⟨rfl, rfl, rfl, by decide +kernel, rfl, by decide +kernel, by decide +kernel⟩
theorem bs__law_drawn_move : BindsAs "_law_drawn_move" st__law_drawn_move P__law_drawn_move := fun _ _ _ _ _ _ us hl => match us, hl with | [_, _], _ => rfl
theorem j__law_drawn_move (B : Bl mg) (O__law_mixed : Ok P w K mg base "_law_mixed" P__law_mixed 2 (spM K 2 S__law_mixed)) : BodyCx P w K mg base "_law_drawn_move" st__law_drawn_move N__law_drawn_move 2 fun X => JSs X (defBody st__law_drawn_move) g__law_drawn_move := fun f cdv A outer s H E hr => js_one (js_ret (je_callTy calld_tuple B.tuple (by decide +kernel) (ja_cons (je_fnM O__law_mixed (hr.mono (by decide)) (i := 0) rfl (by first | exact Or.inl rfl | exact Or.inr (Or.inl rfl) | exact Or.inr (Or.inr rfl)) (ja_cons ((jl_rg rfl B.list (jr_1 B.range (je_v 1))).je) (ja_nil))) (ja_nil))))
theorem sc__law_renamed_dots : FnScope N__law_renamed_dots P__law_renamed_dots (defScope st__law_renamed_dots) := ⟨rfl, rfl, rfl, by decide +kernel, rfl, by decide +kernel, by decide +kernel⟩
theorem bs__law_renamed_dots : BindsAs "_law_renamed_dots" st__law_renamed_dots P__law_renamed_dots := fun _ _ _ _ _ _ us hl => match us, hl with | [_, _], _ => rfl
theorem j__law_renamed_dots (B : Bl mg) (O__law_undone : Ok P w K mg base "_law_undone" P__law_undone 1 (spD K 1 S__law_undone)) : BodyCx P w K mg base "_law_renamed_dots" st__law_renamed_dots N__law_renamed_dots 1 fun X => JSs X (defBody st__law_renamed_dots) g__law_renamed_dots := fun f cdv A outer s H E hr => js_cons (js_set (i := 2) ((je_fn O__law_undone (hr.mono (by decide)) (ja_cons (je_v 1) (ja_nil))).jx) sc__law_renamed_dots.nd rfl (by first | exact Or.inl rfl | exact Or.inr rfl)) (js_one (js_ret ((jl_lc (own := [("_law_x", 3)]) rfl sc__law_renamed_dots.nd (ji_sq (je_v 1)) (blkOk_by (by rfl)) (fun _ _ _ _ _ => jg_n 3 sc__law_renamed_dots.nd) (fun _ _ _ _ _ => jts_nil) (fun _ _ _ _ _ => je_callTy calld_tuple B.tuple (by decide +kernel) (ja_cons ((jl_lc (own := [("_law_y", 4)]) rfl sc__law_renamed_dots.nd (ji_sq (je_v 1)) (blkOk_by (by rfl)) (fun _ _ _ _ _ => jg_n 4 sc__law_renamed_dots.nd) (fun _ _ _ _ _ => jts_nil) (fun _ _ _ _ _ => je_ix (je_v 2) (je_ix (je_ix (je_v 0) (je_v 3)) (je_v 4)))).je) (ja_nil)))).je)))
theorem sc__law_keeps_dots : FnScope N__law_keeps_dots P__law_keeps_dots (defScope st__law_keeps_dots) := ⟨rfl, rfl, rfl, by decide +kernel, rfl, by decide +kernel, by decide +kernel⟩
theorem bs__law_keeps_dots : BindsAs "_law_keeps_dots" st__law_keeps_dots P__law_keeps_dots := fun _ _ _ _ _ _ us hl => match us, hl with | [_, _], _ => rfl
theorem j__law_keeps_dots (B : Bl mg) : BodyCx P w K mg base "_law_keeps_dots" st__law_keeps_dots N__law_keeps_dots 0 fun X => JSs X (defBody st__law_keeps_dots) g__law_keeps_dots := fun f cdv A outer s H E hr => js_cons (js_for (vs := [2, 3]) rfl (ji_en B.enumerate (je_v 0)) (jg_tup rfl (jgs_cons (jg_n 2 sc__law_keeps_dots.nd) (jgs_cons (jg_n 3 sc__law_keeps_dots.nd) (jgs_nil)))) (js_cons (js_set (i := 4) ((je_ix (je_v 0) (je_ix (je_v 1) (je_v 2))).jx) sc__law_keeps_dots.nd rfl (by first | exact Or.inl rfl | exact Or.inr rfl)) (js_one (js_if (jt_not (jt_val (je_callB (calld_all rfl) B.all (by decide +kernel) (ja_cons ((jl_lc (own := [("_law_y", 5), ("_law_goal", 6)]) rfl sc__law_keeps_dots.nd (ji_en B.enumerate (je_v 3)) (blkOk_by (by rfl)) (fun _ _ _ _ _ => jg_tup rfl (jgs_cons (jg_n 5 sc__law_keeps_dots.nd) (jgs_cons (jg_n 6 sc__law_keeps_dots.nd) (jgs_nil)))) (fun _ _ _ _ _ => jts_nil) (fun _ _ _ _ _ => je_cmp (opd_eq hr.units) (je_ix (je_v 1) (je_v 6)) (je_ix (je_v 4) (je_ix (je_v 1) (je_v 5))) (nomark _))).je) (ja_nil))))) (js_one (js_ret (je_bl))) (js_nil))))) (js_one (js_ret (je_bl)))
theorem sc__law_union_dots : FnScope N__law_union_dots P__law_union_dots (defScope st__law_union_dots) := ⟨rfl, rfl, rfl, by decide +kernel, rfl, by decide +kernel, by decide +kernel⟩
theorem bs__law_union_dots : BindsAs "_law_union_dots" st__law_union_dots P__law_union_dots := fun _ _ _ _ _ _ us hl => match us, hl with | [_, _, _, _], _ => rfl
theorem j__law_union_dots (B : Bl mg) : BodyCx P w K mg base "_law_union_dots" st__law_union_dots N__law_union_dots 0 fun X => JSs X (defBody st__law_union_dots) g__law_union_dots := fun f cdv A outer s H E hr => js_cons (js_parT (i := 4) (j := 5) rfl sc__law_union_dots.nd rfl rfl (by decide) (by first | exact Or.inl rfl | exact Or.inr rfl) (by first | exact Or.inl rfl | exact Or.inr rfl) ((je_callB calld_len B.len (by decide +kernel) (ja_cons (je_v 0) (ja_nil))).jx) ((jl_lst (ja_nil)).jx)) (js_cons (js_for (vs := [6]) rfl (ji_sq (je_v 0)) (jg_n 6 sc__law_union_dots.nd) (js_one (js_expr (je_app (i := 5) rfl (by first | exact Or.inl rfl | exact Or.inr (Or.inl rfl) | exact Or.inr (Or.inr rfl)) (je_callTy calld_tuple B.tuple (by decide +kernel) (ja_cons (je_bin opd_add ((jl_list B.list (je_v 6)).je) ((jl_lc (own := [("_law_goal", 7)]) rfl sc__law_union_dots.nd (ji_sq (je_v 2)) (blkOk_by (by rfl)) (fun _ _ _ _ _ => jg_n 7 sc__law_union_dots.nd) (fun _ _ _ _ _ => jts_nil) (fun _ _ _ _ _ => je_bin opd_add (je_v 4) (je_v 7))).je)) (ja_nil))))))) (js_cons (js_for (vs := [6]) rfl (ji_sq (je_v 1)) (jg_n 6 sc__law_union_dots.nd) (js_one (js_expr (je_app (i := 5) rfl (by first | exact Or.inl rfl | exact Or.inr (Or.inl rfl) | exact Or.inr (Or.inr rfl)) (je_callTy calld_tuple B.tuple (by decide +kernel) (ja_cons (je_bin opd_add ((jl_list B.list (je_v 3)).je) ((jl_lc (own := [("_law_goal", 7)]) rfl sc__law_union_dots.nd (ji_sq (je_v 6)) (blkOk_by (by rfl)) (fun _ _ _ _ _ => jg_n 7 sc__law_union_dots.nd) (fun _ _ _ _ _ => jts_nil) (fun _ _ _ _ _ => je_bin opd_add (je_v 4) (je_v 7))).je)) (ja_nil))))))) (js_one (js_retO (i := 5) rfl (by first | exact Or.inl rfl | exact Or.inr (Or.inl rfl) | exact Or.inr (Or.inr rfl))))))
theorem sc__law_places_of : FnScope N__law_places_of P__law_places_of (defScope st__law_places_of) := ⟨rfl, rfl, rfl, by decide +kernel, rfl, by decide +kernel, by decide +kernel⟩
theorem bs__law_places_of : BindsAs "_law_places_of" st__law_places_of P__law_places_of := fun _ _ _ _ _ _ us hl => match us, hl with | [_, _], _ => rfl
theorem j__law_places_of (B : Bl mg) : BodyCx P w K mg base "_law_places_of" st__law_places_of N__law_places_of 0 fun X => JSs X (defBody st__law_places_of) g__law_places_of := fun f cdv A outer s H E hr => js_one (js_ret ((jl_lc (own := [("_law_at", 2)]) rfl sc__law_places_of.nd (ji_r1 B.range (je_bin opd_mulA (je_v 0) (je_v 1))) (blkOk_by (by rfl)) (fun _ _ _ _ _ => jg_n 2 sc__law_places_of.nd) (fun _ _ _ _ _ => jts_nil) (fun _ _ _ _ _ => je_tup (ja_cons (je_bin opd_fdiv (je_v 2) (je_v 1)) (ja_cons (je_bin opd_mod (je_v 2) (je_v 1)) (ja_nil))))).je))
theorem sc__law_product_dots : FnScope N__law_product_dots P__law_product_dots (defScope st__law_product_dots) := ⟨rfl, rfl, rfl, by decide +kernel, rfl, by decide +kernel, by decide +kernel⟩
theorem bs__law_product_dots : BindsAs "_law_product_dots" st__law_product_dots P__law_product_dots := fun _ _ _ _ _ _ us hl => match us, hl with | [_, _], _ => rfl
theorem j__law_product_dots (B : Bl mg) (O__law_places_of : Ok P w K mg base "_law_places_of" P__law_places_of 1 (spD K 2 S__law_places_of)) : BodyCx P w K mg base "_law_product_dots" st__law_product_dots N__law_product_dots 1 fun X => JSs X (defBody st__law_product_dots) g__law_product_dots := fun f cdv A outer s H E hr => js_cons (js_parT (i := 2) (j := 3) rfl sc__law_product_dots.nd rfl rfl (by decide) (by first | exact Or.inl rfl | exact Or.inr rfl) (by first | exact Or.inl rfl | exact Or.inr rfl) ((je_callB calld_len B.len (by decide +kernel) (ja_cons (je_v 1) (ja_nil))).jx) ((jl_lst (ja_nil)).jx)) (js_cons (js_set (i := 4) ((je_fn O__law_places_of (hr.mono (by decide)) (ja_cons (je_callB calld_len B.len (by decide +kernel) (ja_cons (je_v 0) (ja_nil))) (ja_cons (je_v 2) (ja_nil)))).jx) sc__law_product_dots.nd rfl (by first | exact Or.inl rfl | exact Or.inr rfl)) (js_cons (js_for (vs := [5, 6]) rfl (ji_sq (je_v 4)) (jg_tup rfl (jgs_cons (jg_n 5 sc__law_product_dots.nd) (jgs_cons (jg_n 6 sc__law_product_dots.nd) (jgs_nil)))) (js_cons (js_parT (i := 7) (j := 8) rfl sc__law_product_dots.nd rfl rfl (by decide) (by first | exact Or.inl rfl | exact Or.inr rfl) (by first | exact Or.inl rfl | exact Or.inr rfl) ((je_ix (je_v 0) (je_v 5)).jx) ((je_ix (je_v 1) (je_v 6)).jx)) (js_one (js_expr (je_app (i := 3) rfl (by first | exact Or.inl rfl | exact Or.inr (Or.inl rfl) | exact Or.inr (Or.inr rfl)) (je_callTy calld_tuple B.tuple (by decide +kernel) (ja_cons ((jl_lc (own := [("_law_a", 9), ("_law_b", 10)]) rfl sc__law_product_dots.nd (ji_sq (je_v 4)) (blkOk_by (by rfl)) (fun _ _ _ _ _ => jg_tup rfl (jgs_cons (jg_n 9 sc__law_product_dots.nd) (jgs_cons (jg_n 10 sc__law_product_dots.nd) (jgs_nil)))) (fun _ _ _ _ _ => jts_nil) (fun _ _ _ _ _ => je_bin opd_add (je_bin opd_mulA (je_ix (je_v 7) (je_v 9)) (je_v 2)) (je_ix (je_v 8) (je_v 10)))).je) (ja_nil)))))))) (js_one (js_retO (i := 3) rfl (by first | exact Or.inl rfl | exact Or.inr (Or.inl rfl) | exact Or.inr (Or.inr rfl))))))
theorem sc__law_small_dots : FnScope N__law_small_dots P__law_small_dots (defScope st__law_small_dots) := ⟨rfl, rfl, rfl, by decide +kernel, rfl, by decide +kernel, by decide +kernel⟩
theorem bs__law_small_dots : BindsAs "_law_small_dots" st__law_small_dots P__law_small_dots := fun _ _ _ _ _ _ us hl => match us, hl with | [_, _], _ => rfl
theorem j__law_small_dots (B : Bl mg) (O__law_roll : Ok P w K mg base "_law_roll" P__law_roll 1 (spM K 2 S__law_roll)) (O__law_pick : Ok P w K mg base "_law_pick" P__law_pick 2 (spM K 2 S__law_pick)) (O__law_drawn_move : Ok P w K mg base "_law_drawn_move" P__law_drawn_move 3 (spM K 2 S__law_drawn_move)) : BodyCx P w K mg base "_law_small_dots" st__law_small_dots N__law_small_dots 3 fun X => JSs X (defBody st__law_small_dots) g__law_small_dots := fun f cdv A outer s H E hr => js_cons (js_set (i := 2) ((je_fnM O__law_roll (hr.mono (by decide)) (i := 0) rfl (by first | exact Or.inl rfl | exact Or.inr (Or.inl rfl) | exact Or.inr (Or.inr rfl)) (ja_cons (je_int) (ja_nil))).jx) sc__law_small_dots.nd rfl (by first | exact Or.inl rfl | exact Or.inr rfl)) (js_cons (js_if ((jw_and (jt_cmp (opd_eq hr.units) (je_v 2) (je_int) (nomark _)) (jw_and1 (jt_cmp opd_gt (je_v 1) (je_int) (nomark _)))).jt) (js_one (js_ret ((jl_lst (ja_cons (je_tup (ja_cons (je_int) (ja_cons (je_int) (ja_cons (je_int) (ja_cons (je_int) (ja_nil)))))) (ja_cons (je_tup (ja_cons (je_int) (ja_cons (je_int) (ja_cons (je_int) (ja_cons (je_int) (ja_nil)))))) (ja_cons (je_tup (ja_cons (je_int) (ja_cons (je_int) (ja_cons (je_int) (ja_cons (je_int) (ja_nil)))))) (ja_cons (je_tup (ja_cons (je_int) (ja_cons (je_int) (ja_cons (je_int) (ja_cons (je_int) (ja_nil)))))) (ja_nil)))))).je))) (js_nil)) (js_cons (js_if ((jw_and (jt_cmp (opd_eq hr.units) (je_v 2) (je_int) (nomark _)) (jw_and1 (jt_cmp opd_gt (je_v 1) (je_int) (nomark _)))).jt) (js_one (js_ret ((jl_lst (ja_cons (je_tup (ja_cons (je_int) (ja_cons (je_int) (ja_cons (je_int) (ja_cons (je_int) (ja_nil)))))) (ja_cons (je_tup (ja_cons (je_int) (ja_cons (je_int) (ja_cons (je_int) (ja_cons (je_int) (ja_nil)))))) (ja_cons (je_tup (ja_cons (je_int) (ja_cons (je_int) (ja_cons (je_int) (ja_cons (je_int) (ja_nil)))))) (ja_cons (je_tup (ja_cons (je_int) (ja_cons (je_int) (ja_cons (je_int) (ja_cons (je_int) (ja_nil)))))) (ja_nil)))))).je))) (js_nil)) (js_cons (js_if ((jw_and (jt_cmp (opd_eq hr.units) (je_v 2) (je_int) (nomark _)) (jw_and1 (jt_cmp opd_gt (je_v 1) (je_int) (nomark _)))).jt) (js_one (js_ret (je_fnM O__law_pick (hr.mono (by decide)) (i := 0) rfl (by first | exact Or.inl rfl | exact Or.inr (Or.inl rfl) | exact Or.inr (Or.inr rfl)) (ja_cons ((jl_lst (ja_cons ((jl_lst (ja_cons (je_tup (ja_cons (je_int) (ja_cons (je_int) (ja_cons (je_int) (ja_cons (je_int) (ja_nil)))))) (ja_cons (je_tup (ja_cons (je_int) (ja_cons (je_int) (ja_cons (je_int) (ja_cons (je_int) (ja_nil)))))) (ja_cons (je_tup (ja_cons (je_int) (ja_cons (je_int) (ja_cons (je_int) (ja_cons (je_int) (ja_nil)))))) (ja_cons (je_tup (ja_cons (je_int) (ja_cons (je_int) (ja_cons (je_int) (ja_cons (je_int) (ja_nil)))))) (ja_nil)))))).je) (ja_cons ((jl_lst (ja_cons (je_tup (ja_cons (je_int) (ja_cons (je_int) (ja_cons (je_int) (ja_cons (je_int) (ja_nil)))))) (ja_cons (je_tup (ja_cons (je_int) (ja_cons (je_int) (ja_cons (je_int) (ja_cons (je_int) (ja_nil)))))) (ja_cons (je_tup (ja_cons (je_int) (ja_cons (je_int) (ja_cons (je_int) (ja_cons (je_int) (ja_nil)))))) (ja_cons (je_tup (ja_cons (je_int) (ja_cons (je_int) (ja_cons (je_int) (ja_cons (je_int) (ja_nil)))))) (ja_nil)))))).je) (ja_nil)))).je) (ja_nil))))) (js_nil)) (js_cons (js_set (i := 3) ((je_bin opd_add (je_int) (je_fnM O__law_roll (hr.mono (by decide)) (i := 0) rfl (by first | exact Or.inl rfl | exact Or.inr (Or.inl rfl) | exact Or.inr (Or.inr rfl)) (ja_cons (je_callB (calld_min2 rfl) B.min (by decide +kernel) (ja_cons (je_int) (ja_cons (je_v 1) (ja_nil)))) (ja_nil)))).jx) sc__law_small_dots.nd rfl (by first | exact Or.inl rfl | exact Or.inr rfl)) (js_cons (js_set (i := 4) ((je_if (jt_cmp opd_gt (je_fnM O__law_roll (hr.mono (by decide)) (i := 0) rfl (by first | exact Or.inl rfl | exact Or.inr (Or.inl rfl) | exact Or.inr (Or.inr rfl)) (ja_cons (je_int) (ja_nil))) (je_int) (nomark _)) (je_fnM O__law_drawn_move (hr.mono (by decide)) (i := 0) rfl (by first | exact Or.inl rfl | exact Or.inr (Or.inl rfl) | exact Or.inr (Or.inr rfl)) (ja_cons (je_v 3) (ja_nil))) (je_tupRg rfl B.tuple (jr_1 B.range (je_v 3)))).jx) sc__law_small_dots.nd rfl (by first | exact Or.inl rfl | exact Or.inr rfl)) (js_one (js_ret ((jl_lc (own := [("_law_letter", 5)]) rfl sc__law_small_dots.nd (ji_r1 B.range (je_v 3)) (blkOk_by (by rfl)) (fun _ _ _ _ _ => jg_n 5 sc__law_small_dots.nd) (fun _ _ _ _ _ => jts_nil) (fun _ _ _ _ _ => je_v 4)).je))))))))
theorem sc__law_rows_of_dots : FnScope N__law_rows_of_dots P__law_rows_of_dots (defScope st__law_rows_of_dots) := ⟨rfl, rfl, rfl, by decide +kernel, rfl, by decide +kernel, by decide +kernel⟩
theorem bs__law_rows_of_dots : BindsAs "_law_rows_of_dots" st__law_rows_of_dots P__law_rows_of_dots := fun _ _ _ _ _ _ us hl => match us, hl with | [_], _ => rfl
theorem j__law_rows_of_dots (B : Bl mg) (O__law_undone : Ok P w K mg base "_law_undone" P__law_undone 1 (spD K 1 S__law_undone)) : BodyCx P w K mg base "_law_rows_of_dots" st__law_rows_of_dots N__law_rows_of_dots 1 fun X => JSs X (defBody st__law_rows_of_dots) g__law_rows_of_dots := fun f cdv A outer s H E hr => js_cons (js_par (i := 1) (j := 2) rfl sc__law_rows_of_dots.nd rfl rfl (by decide) rfl rfl ((je_callB calld_len B.len (by decide +kernel) (ja_cons (je_v 0) (ja_nil))).jx) ((jl_lst (ja_nil)).jx) rfl) (js_cons (js_set (i := 3) (((jl_lc (own := [("_law_row", 5)]) rfl sc__law_rows_of_dots.nd (ji_sq (je_v 0)) (blkOk_by (by rfl)) (fun _ _ _ _ _ => jg_n 5 sc__law_rows_of_dots.nd) (fun _ _ _ _ _ => jts_nil) (fun _ _ _ _ _ => je_fn O__law_undone (hr.mono (by decide)) (ja_cons (je_v 5) (ja_nil)))).je).jx) sc__law_rows_of_dots.nd rfl (by first | exact Or.inl rfl | exact Or.inr rfl)) (js_cons (js_for (vs := [4]) rfl (ji_r1 B.range (je_v 1)) (jg_n 4 sc__law_rows_of_dots.nd) (js_one (js_expr (je_app (i := 2) rfl (by first | exact Or.inl rfl | exact Or.inr (Or.inl rfl) | exact Or.inr (Or.inr rfl)) (je_callTy calld_tuple B.tuple (by decide +kernel) (ja_cons ((jl_lc (own := [("_law_y", 6)]) rfl sc__law_rows_of_dots.nd (ji_r1 B.range (je_v 1)) (blkOk_by (by rfl)) (fun _ _ _ _ _ => jg_n 6 sc__law_rows_of_dots.nd) (fun _ _ _ _ _ => jts_nil) (fun _ _ _ _ _ => je_tup (ja_cons (je_ix (je_ix (je_v 3) (je_v 4)) (je_v 6)) (ja_cons (je_ix (je_ix (je_v 0) (je_ix (je_ix (je_v 3) (je_v 4)) (je_v 6))) (je_v 4)) (ja_nil))))).je) (ja_nil))))))) (js_one (js_ret (je_tupleO B.tuple (i := 2) rfl (by first | exact Or.inl rfl | exact Or.inr (Or.inl rfl) | exact Or.inr (Or.inr rfl)))))))
theorem sc__law_left_of : FnScope N__law_left_of P__law_left_of (defScope st__law_left_of) := ⟨rfl, rfl, rfl, by decide +kernel, rfl, by decide +kernel, by decide +kernel⟩
theorem bs__law_left_of : BindsAs "_law_left_of" st__law_left_of P__law_left_of := fun _ _ _ _ _ _ us hl => match us, hl with | [_], _ => rfl
theorem j__law_left_of (B : Bl mg) : BodyCx P w K mg base "_law_left_of" st__law_left_of N__law_left_of 0 fun X => JSs X (defBody st__law_left_of) g__law_left_of := fun f cdv A outer s H E hr => js_one (js_ret ((jl_lc (own := [("_law_row", 1)]) rfl sc__law_left_of.nd (ji_sq (je_v 0)) (blkOk_by (by rfl)) (fun _ _ _ _ _ => jg_n 1 sc__law_left_of.nd) (fun _ _ _ _ _ => jts_nil) (fun _ _ _ _ _ => je_callTy calld_tuple B.tuple (by decide +kernel) (ja_cons ((jl_lc (own := [("_law_pair", 2)]) rfl sc__law_left_of.nd (ji_sq (je_v 1)) (blkOk_by (by rfl)) (fun _ _ _ _ _ => jg_n 2 sc__law_left_of.nd) (fun _ _ _ _ _ => jts_nil) (fun _ _ _ _ _ => je_ix (je_v 2) (je_int))).je) (ja_nil)))).je))
theorem sc__law_right_of : FnScope N__law_right_of P__law_right_of (defScope st__law_right_of) := ⟨rfl, rfl, rfl, by decide +kernel, rfl, by decide +kernel, by decide +kernel⟩
theorem bs__law_right_of : BindsAs "_law_right_of" st__law_right_of P__law_right_of := fun _ _ _ _ _ _ us hl => match us, hl with | [_], _ => rfl
theorem j__law_right_of (B : Bl mg) : BodyCx P w K mg base "_law_right_of" st__law_right_of N__law_right_of 0 fun X => JSs X (defBody st__law_right_of) g__law_right_of := fun f cdv A outer s H E hr => js_one (js_ret ((jl_lc (own := [("_law_y", 1)]) rfl sc__law_right_of.nd (ji_r1 B.range (je_callB calld_len B.len (by decide +kernel) (ja_cons (je_v 0) (ja_nil)))) (blkOk_by (by rfl)) (fun _ _ _ _ _ => jg_n 1 sc__law_right_of.nd) (fun _ _ _ _ _ => jts_nil) (fun _ _ _ _ _ => je_callTy calld_tuple B.tuple (by decide +kernel) (ja_cons ((jl_lc (own := [("_law_x", 2)]) rfl sc__law_right_of.nd (ji_r1 B.range (je_callB calld_len B.len (by decide +kernel) (ja_cons (je_v 0) (ja_nil)))) (blkOk_by (by rfl)) (fun _ _ _ _ _ => jg_n 2 sc__law_right_of.nd) (fun _ _ _ _ _ => jts_nil) (fun _ _ _ _ _ => je_ix (je_ix (je_ix (je_v 0) (je_v 2)) (je_v 1)) (je_int))).je) (ja_nil)))).je))
theorem sc__law_renamed_rows : FnScope N__law_renamed_rows P__law_renamed_rows (defScope st__law_renamed_rows) := ⟨rfl, rfl, rfl, by decide +kernel, rfl, by decide +kernel, by decide +kernel⟩
theorem bs__law_renamed_rows : BindsAs "_law_renamed_rows" st__law_renamed_rows P__law_renamed_rows := fun _ _ _ _ _ _ us hl => match us, hl with | [_, _], _ => rfl
theorem j__law_renamed_rows (B : Bl mg) (O__law_undone : Ok P w K mg base "_law_undone" P__law_undone 1 (spD K 1 S__law_undone)) : BodyCx P w K mg base "_law_renamed_rows" st__law_renamed_rows N__law_renamed_rows 1 fun X => JSs X (defBody st__law_renamed_rows) g__law_renamed_rows := fun f cdv A outer s H E hr => js_cons (js_parT (i := 2) (j := 3) rfl sc__law_renamed_rows.nd rfl rfl (by decide) (by first | exact Or.inl rfl | exact Or.inr rfl) (by first | exact Or.inl rfl | exact Or.inr rfl) ((je_fn O__law_undone (hr.mono (by decide)) (ja_cons (je_v 1) (ja_nil))).jx) ((jl_lst (ja_nil)).jx)) (js_cons (js_for (vs := [4]) rfl (ji_sq (je_v 1)) (jg_n 4 sc__law_renamed_rows.nd) (js_one (js_expr (je_app (i := 3) rfl (by first | exact Or.inl rfl | exact Or.inr (Or.inl rfl) | exact Or.inr (Or.inr rfl)) (je_callTy calld_tuple B.tuple (by decide +kernel) (ja_cons ((jl_lc (own := [("_law_y", 5)]) rfl sc__law_renamed_rows.nd (ji_sq (je_v 1)) (blkOk_by (by rfl)) (fun _ _ _ _ _ => jg_n 5 sc__law_renamed_rows.nd) (fun _ _ _ _ _ => jts_nil) (fun _ _ _ _ _ => je_tup (ja_cons (je_ix (je_v 2) (je_ix (je_ix (je_ix (je_v 0) (je_v 4)) (je_v 5)) (je_int))) (ja_cons (je_ix (je_v 2) (je_ix (je_ix (je_ix (je_v 0) (je_v 4)) (je_v 5)) (je_int))) (ja_nil))))).je) (ja_nil))))))) (js_one (js_ret (je_tupleO B.tuple (i := 3) rfl (by first | exact Or.inl rfl | exact Or.inr (Or.inl rfl) | exact Or.inr (Or.inr rfl))))))
theorem sc__law_power : FnScope N__law_power P__law_power (defScope st__law_power) := ⟨rfl, rfl, rfl, by decide +kernel, rfl, by decide +kernel, by decide +kernel⟩
theorem bs__law_power : BindsAs "_law_power" st__law_power P__law_power := fun _ _ _ _ _ _ us hl => match us, hl with | [_, _], _ => rfl
theorem j__law_power (B : Bl mg) (O__law_joined : Ok P w K mg base "_law_joined" P__law_joined 1 (spD K 2 S__law_joined)) : BodyCx P w K mg base "_law_power" st__law_power N__law_power 1 fun X => JSs X (defBody st__law_power) g__law_power := fun f cdv A outer s H E hr => js_cons (js_set (i := 2) ((je_tupRg rfl B.tuple (jr_1 B.range (je_callB calld_len B.len (by decide +kernel) (ja_cons (je_v 0) (ja_nil))))).jx) sc__law_power.nd rfl (by first | exact Or.inl rfl | exact Or.inr rfl)) (js_cons (js_for (vs := [3]) rfl (ji_r1 B.range (je_v 1)) (jg_n 3 sc__law_power.nd) (js_one (js_set (i := 2) ((je_fn O__law_joined (hr.mono (by decide)) (ja_cons (je_v 0) (ja_cons (je_v 2) (ja_nil)))).jx) sc__law_power.nd rfl (by first | exact Or.inl rfl | exact Or.inr rfl)))) (js_one (js_ret (je_v 2))))
theorem sc__law_shadow_rows : FnScope N__law_shadow_rows P__law_shadow_rows (defScope st__law_shadow_rows) := ⟨rfl, rfl, rfl, by decide +kernel, rfl, by decide +kernel, by decide +kernel⟩
theorem bs__law_shadow_rows : BindsAs "_law_shadow_rows" st__law_shadow_rows P__law_shadow_rows := fun _ _ _ _ _ _ us hl => match us, hl with | [_], _ => rfl
theorem j__law_shadow_rows (B : Bl mg) (O__law_left_of : Ok P w K mg base "_law_left_of" P__law_left_of 1 (spD K 1 S__law_left_of)) (O__law_right_of : Ok P w K mg base "_law_right_of" P__law_right_of 1 (spD K 1 S__law_right_of)) (O__law_undone : Ok P w K mg base "_law_undone" P__law_undone 1 (spD K 1 S__law_undone)) : BodyCx P w K mg base "_law_shadow_rows" st__law_shadow_rows N__law_shadow_rows 1 fun X => JSs X (defBody st__law_shadow_rows) g__law_shadow_rows := fun f cdv A outer s H E hr => js_cons (js_par3 (i := 1) (j := 2) (k := 3) rfl sc__law_shadow_rows.nd rfl rfl rfl (by decide) (by decide) (by decide) rfl rfl rfl (je_fn O__law_left_of (hr.mono (by decide)) (ja_cons (je_v 0) (ja_nil))) (je_fn O__law_right_of (hr.mono (by decide)) (ja_cons (je_v 0) (ja_nil))) ((jl_lst (ja_nil)).jx) rfl) (js_cons (js_for (vs := [4]) rfl (ji_r1 B.range (je_callB calld_len B.len (by decide +kernel) (ja_cons (je_v 0) (ja_nil)))) (jg_n 4 sc__law_shadow_rows.nd) (js_cons (js_set (i := 5) ((jl_lst (ja_nil)).jx) sc__law_shadow_rows.nd rfl (by first | exact Or.inl rfl | exact Or.inr rfl)) (js_cons (js_for (vs := [6]) rfl (ji_r1 B.range (je_callB calld_len B.len (by decide +kernel) (ja_cons (je_v 0) (ja_nil)))) (jg_n 6 sc__law_shadow_rows.nd) (js_cons (js_set (i := 7) ((je_ix (je_fn O__law_undone (hr.mono (by decide)) (ja_cons (je_ix (je_v 1) (je_v 6)) (ja_nil))) (je_v 4)).jx) sc__law_shadow_rows.nd rfl (by first | exact Or.inl rfl | exact Or.inr rfl)) (js_one (js_expr (je_app (i := 5) rfl (by first | exact Or.inl rfl | exact Or.inr (Or.inl rfl) | exact Or.inr (Or.inr rfl)) (je_ix (je_ix (je_v 1) (je_v 4)) (je_ix (je_ix (je_v 2) (je_v 7)) (je_v 6)))))))) (js_one (js_expr (je_app (i := 3) rfl (by first | exact Or.inl rfl | exact Or.inr (Or.inl rfl) | exact Or.inr (Or.inr rfl)) (je_tupleO B.tuple (i := 5) rfl (by first | exact Or.inl rfl | exact Or.inr (Or.inl rfl) | exact Or.inr (Or.inr rfl))))))))) (js_one (js_ret (je_tupleO B.tuple (i := 3) rfl (by first | exact Or.inl rfl | exact Or.inr (Or.inl rfl) | exact Or.inr (Or.inr rfl))))))
theorem sc__law_is_shadow : FnScope N__law_is_shadow P__law_is_shadow (defScope st__law_is_shadow) := ⟨rfl, rfl, rfl, by decide +kernel, rfl, by decide +kernel, by decide +kernel⟩
theorem bs__law_is_shadow : BindsAs "_law_is_shadow" st__law_is_shadow P__law_is_shadow := fun _ _ _ _ _ _ us hl => match us, hl with | [_], _ => rfl
theorem j__law_is_shadow (B : Bl mg) : BodyCx P w K mg base "_law_is_shadow" st__law_is_shadow N__law_is_shadow 0 fun X => JSs X (defBody st__law_is_shadow) g__law_is_shadow := fun f cdv A outer s H E hr => js_cons (js_set (i := 1) ((je_callB calld_len B.len (by decide +kernel) (ja_cons (je_v 0) (ja_nil))).jx) sc__law_is_shadow.nd rfl (by first | exact Or.inl rfl | exact Or.inr rfl)) (js_cons (js_if (jt_cmp (opd_ne hr.units) ((jl_lc (own := [("_law_row", 2)]) rfl sc__law_is_shadow.nd (ji_sq (je_v 0)) (blkOk_by (by rfl)) (fun _ _ _ _ _ => jg_n 2 sc__law_is_shadow.nd) (fun _ _ _ _ _ => jts_one (jt_cmp opd_lt (je_lenSet2 rfl B.len B.set (je_v 2)) (je_v 1) (nomark _))) (fun _ _ _ _ _ => je_v 2)).je) ((jl_lst (ja_nil)).je) (nomark _)) (js_one (js_ret (je_bl))) (js_nil)) (js_cons (js_for (vs := [2]) rfl (ji_sq (je_v 0)) (jg_n 2 sc__law_is_shadow.nd) (js_one (js_for (vs := [3]) rfl (ji_r1 B.range (je_v 1)) (jg_n 3 sc__law_is_shadow.nd) (js_one (js_for (vs := [4]) rfl (ji_r1 B.range (je_v 1)) (jg_n 4 sc__law_is_shadow.nd) (js_one (js_if (jt_cmp (opd_ne hr.units) (je_ix (je_v 2) (je_ix (je_ix (je_v 0) (je_v 3)) (je_v 4))) (je_ix (je_ix (je_v 0) (je_ix (je_v 2) (je_v 3))) (je_ix (je_v 2) (je_v 4))) (nomark _)) (js_one (js_ret (je_bl))) (js_nil)))))))) (js_one (js_ret (je_bl)))))
theorem sc__law_is_plain : FnScope N__law_is_plain P__law_is_plain (defScope st__law_is_plain) := ⟨rfl, rfl, rfl, by decide +kernel, rfl, by decide +kernel, by decide +kernel⟩
theorem bs__law_is_plain : BindsAs "_law_is_plain" st__law_is_plain P__law_is_plain := fun _ _ _ _ _ _ us hl => match us, hl with | [_], _ => rfl
theorem j__law_is_plain (B : Bl mg) : BodyCx P w K mg base "_law_is_plain" st__law_is_plain N__law_is_plain 0 fun X => JSs X (defBody st__law_is_plain) g__law_is_plain := fun f cdv A outer s H E hr => js_one (js_ret (je_cmp (opd_eq hr.units) ((jl_lc (own := [("_law_row", 1)]) rfl sc__law_is_plain.nd (ji_sq (je_v 0)) (blkOk_by (by rfl)) (fun _ _ _ _ _ => jg_n 1 sc__law_is_plain.nd) (fun _ _ _ _ _ => jts_one (jt_cmp (opd_ne hr.units) (je_v 1) (je_tupRg rfl B.tuple (jr_1 B.range (je_callB calld_len B.len (by decide +kernel) (ja_cons (je_v 0) (ja_nil))))) (nomark _))) (fun _ _ _ _ _ => je_v 1)).je) ((jl_lst (ja_nil)).je) (nomark _)))
theorem sc__law_are_kept : FnScope N__law_are_kept P__law_are_kept (defScope st__law_are_kept) := ⟨rfl, rfl, rfl, by decide +kernel, rfl, by decide +kernel, by decide +kernel⟩
theorem bs__law_are_kept : BindsAs "_law_are_kept" st__law_are_kept P__law_are_kept := fun _ _ _ _ _ _ us hl => match us, hl with | [_, _], _ => rfl
theorem j__law_are_kept (B : Bl mg) (O__law_left_of : Ok P w K mg base "_law_left_of" P__law_left_of 1 (spD K 1 S__law_left_of)) : BodyCx P w K mg base "_law_are_kept" st__law_are_kept N__law_are_kept 1 fun X => JSs X (defBody st__law_are_kept) g__law_are_kept := fun f cdv A outer s H E hr => js_cons (js_for (vs := [2]) rfl (ji_sq (je_fn O__law_left_of (hr.mono (by decide)) (ja_cons (je_v 0) (ja_nil)))) (jg_n 2 sc__law_are_kept.nd) (js_one (js_for (vs := [3]) rfl (ji_r1 B.range (je_callB calld_len B.len (by decide +kernel) (ja_cons (je_v 0) (ja_nil)))) (jg_n 3 sc__law_are_kept.nd) (js_cons (js_parT (i := 4) (j := 5) rfl sc__law_are_kept.nd rfl rfl (by decide) (by first | exact Or.inl rfl | exact Or.inr rfl) (by first | exact Or.inl rfl | exact Or.inr rfl) ((je_ix (je_v 1) (je_v 3)).jx) ((je_ix (je_v 1) (je_ix (je_v 2) (je_v 3))).jx)) (js_one (js_if (jt_cmp (opd_ne hr.units) ((jl_lc (own := [("_law_y", 6)]) rfl sc__law_are_kept.nd (ji_r1 B.range (je_callB calld_len B.len (by decide +kernel) (ja_cons (je_v 0) (ja_nil)))) (blkOk_by (by rfl)) (fun _ _ _ _ _ => jg_n 6 sc__law_are_kept.nd) (fun _ _ _ _ _ => jts_one (jt_cmp (opd_ne hr.units) (je_ix (je_v 2) (je_ix (je_v 4) (je_v 6))) (je_ix (je_v 5) (je_ix (je_v 2) (je_v 6))) (nomark _))) (fun _ _ _ _ _ => je_v 6)).je) ((jl_lst (ja_nil)).je) (nomark _)) (js_one (js_ret (je_bl))) (js_nil))))))) (js_one (js_ret (je_bl)))
theorem sc_check_rows_shadows : FnScope N_check_rows_shadows P_check_rows_shadows (defScope st_check_rows_shadows) := ⟨rfl, rfl, rfl, by decide +kernel, rfl, by decide +kernel, by decide +kernel⟩
theorem bs_check_rows_shadows : BindsAs "_check_rows" st_check_rows_shadows P_check_rows_shadows := fun _ _ _ _ _ _ us hl => match us, hl with | [_], _ => rfl
theorem j_check_rows_shadows {t_MAX_LETTERS : Tok} (c_MAX_LETTERS : mg "MAX_LETTERS" = some (.int 8 t_MAX_LETTERS)) (O_is_square : Ok P w K mg base "is_square" P_is_square 2 (spD K 3 S_is_square)) : BodyCx P w K mg base "_check_rows" st_check_rows_shadows N_check_rows_shadows 2 fun X => JSs X (defBody st_check_rows_shadows) g_check_rows_shadows := fun f cdv A outer s H E hr => js_one (js_if (jt_not (jt_val (je_fn O_is_square (hr.mono (by decide)) (ja_cons (je_v 0) (ja_cons (je_int) (ja_cons (je_globI c_MAX_LETTERS (by rfl)) (ja_nil))))))) (js_one (js_never)) (js_nil))
theorem sc_broken_paper_shadows : FnScope N_broken_paper_shadows P_broken_paper_shadows (defScope st_broken_paper_shadows) := ⟨rfl, rfl, rfl, by decide +kernel, rfl, by decide +kernel, by decide +kernel⟩
theorem bs_broken_paper_shadows : BindsAs "_broken_paper" st_broken_paper_shadows P_broken_paper_shadows := fun _ _ _ _ _ _ us hl => match us, hl with | [_], _ => rfl
theorem j_broken_paper_shadows : BodyCx P w K mg base "_broken_paper" st_broken_paper_shadows N_broken_paper_shadows 0 fun X => JSs X (defBody st_broken_paper_shadows) g_broken_paper_shadows := fun f cdv A outer s H E hr => jss_never
theorem sc_Passing__rows : FnScope N_Passing__rows P_Passing__rows (defScope st_Passing__rows) := ⟨rfl, rfl, rfl, by decide +kernel, rfl, by decide +kernel, by decide +kernel⟩
theorem bs_Passing__rows : BindsM "rows" "Passing.rows" st_Passing__rows P_Passing__rows := fun _ _ _ _ _ _ us hl => match us, hl with | [_], _ => rfl
theorem j_Passing__rows (CF_Passing : ClsF K mg "Passing" ["_rows", "_left", "_right", "_quiet"]) : BodyCx P w K mg base "Passing.rows" st_Passing__rows N_Passing__rows 0 fun X => JSs X (defBody st_Passing__rows) g_Passing__rows := fun f cdv A outer s H E hr => js_one (js_ret (je_fld (CF_Passing.na "_rows" (by simp)) (je_v 0)))
theorem sc_Passing____len__ : FnScope N_Passing____len__ P_Passing____len__ (defScope st_Passing____len__) := ⟨rfl, rfl, rfl, by decide +kernel, rfl, by decide +kernel, by decide +kernel⟩
theorem bs_Passing____len__ : BindsM "__len__" "Passing.__len__" st_Passing____len__ P_Passing____len__ := fun _ _ _ _ _ _ us hl => match us, hl with | [_], _ => rfl
theorem j_Passing____len__ (B : Bl mg) (CF_Passing : ClsF K mg "Passing" ["_rows", "_left", "_right", "_quiet"]) : BodyCx P w K mg base "Passing.__len__" st_Passing____len__ N_Passing____len__ 0 fun X => JSs X (defBody st_Passing____len__) g_Passing____len__ := fun f cdv A outer s H E hr => js_one (js_ret (je_callB calld_len B.len (by decide +kernel) (ja_cons (je_fld (CF_Passing.na "_rows" (by simp)) (je_v 0)) (ja_nil))))
theorem sc_Passing__left : FnScope N_Passing__left P_Passing__left (defScope st_Passing__left) := ⟨rfl, rfl, rfl, by decide +kernel, rfl, by decide +kernel, by decide +kernel⟩
theorem bs_Passing__left : BindsM "left" "Passing.left" st_Passing__left P_Passing__left := fun _ _ _ _ _ _ us hl => match us, hl with | [_], _ => rfl
theorem j_Passing__left (CF_Passing : ClsF K mg "Passing" ["_rows", "_left", "_right", "_quiet"]) : BodyCx P w K mg base "Passing.left" st_Passing__left N_Passing__left 0 fun X => JSs X (defBody st_Passing__left) g_Passing__left := fun f cdv A outer s H E hr => js_one (js_ret (je_fld (CF_Passing.na "_left" (by simp)) (je_v 0)))
theorem sc_Passing__is_quiet : FnScope N_Passing__is_quiet P_Passing__is_quiet (defScope st_Passing__is_quiet) := ⟨rfl, rfl, rfl, by decide +kernel, rfl, by decide +kernel, by decide +kernel⟩
theorem bs_Passing__is_quiet : BindsM "is_quiet" "Passing.is_quiet" st_Passing__is_quiet P_Passing__is_quiet := fun _ _ _ _ _ _ us hl => match us, hl with | [_], _ => rfl
theorem j_Passing__is_quiet (CF_Passing : ClsF K mg "Passing" ["_rows", "_left", "_right", "_quiet"]) : BodyCx P w K mg base "Passing.is_quiet" st_Passing__is_quiet N_Passing__is_quiet 0 fun X => JSs X (defBody st_Passing__is_quiet) g_Passing__is_quiet := fun f cdv A outer s H E hr => js_one (js_ret (je_fld (CF_Passing.na "_quiet" (by simp)) (je_v 0)))
theorem sc__is_table_rows : FnScope N__is_table_rows P__is_table_rows (defScope st__is_table_rows) := ⟨rfl, rfl, rfl, by decide +kernel, rfl, by decide +kernel, by decide +kernel⟩
theorem bs__is_table_rows : BindsAs "_is_table_rows" st__is_table_rows P__is_table_rows := fun _ _ _ _ _ _ us hl => match us, hl with | [_], _ => rfl
theorem j__is_table_rows (B : Bl mg) {t_MAX_LETTERS : Tok} (c_MAX_LETTERS : mg "MAX_LETTERS" = some (.int 8 t_MAX_LETTERS)) (O__is_pairs : Ok P w K mg base "_is_pairs" P__is_pairs 2 (spD K 2 S__is_pairs)) : BodyCx P w K mg base "_is_table_rows" st__is_table_rows N__is_table_rows 2 fun X => JSs X (defBody st__is_table_rows) g__is_table_rows := fun f cdv A outer s H E hr => js_cons (js_if ((jw_or (jt_not (jt_val (je_isi (tn := "tuple") B.isinstance B.tuple (by decide +kernel) (je_v 0)))) (jw_or1 (jt_cmp opd_gt (je_callB calld_len B.len (by decide +kernel) (ja_cons (je_v 0) (ja_nil))) (je_globI c_MAX_LETTERS (by rfl)) (nomark _)))).jt) (js_one (js_ret (je_bl))) (js_nil)) (js_one (js_ret (je_callB (calld_all rfl) B.all (by decide +kernel) (ja_cons ((jl_lc (own := [("row", 1)]) rfl sc__is_table_rows.nd (ji_sq (je_v 0)) (blkOk_by (by rfl)) (fun _ _ _ _ _ => jg_n 1 sc__is_table_rows.nd) (fun _ _ _ _ _ => jts_nil) (fun _ _ _ _ _ => je_fn O__is_pairs (hr.mono (by decide)) (ja_cons (je_v 1) (ja_cons (je_callB calld_len B.len (by decide +kernel) (ja_cons (je_v 0) (ja_nil))) (ja_nil))))).je) (ja_nil)))))
theorem sc_are_fair_rows : FnScope N_are_fair_rows P_are_fair_rows (defScope st_are_fair_rows) := ⟨rfl, rfl, rfl, by decide +kernel, rfl, by decide +kernel, by decide +kernel⟩
theorem bs_are_fair_rows : BindsAs "are_fair_rows" st_are_fair_rows P_are_fair_rows := fun _ _ _ _ _ _ us hl => match us, hl with | [_], _ => rfl
theorem j_are_fair_rows (B : Bl mg) (O__pass_alike : Ok P w K mg base "_pass_alike" P__pass_alike 1 (spD K 5 S__pass_alike)) : BodyCx P w K mg base "are_fair_rows" st_are_fair_rows N_are_fair_rows 1 fun X => JSs X (defBody st_are_fair_rows) g_are_fair_rows := fun f cdv A outer s H E hr => js_cons (js_for (vs := [1, 2]) rfl (ji_en B.enumerate (je_v 0)) (jg_tup rfl (jgs_cons (jg_n 1 sc_are_fair_rows.nd) (jgs_cons (jg_n 2 sc_are_fair_rows.nd) (jgs_nil)))) (js_cons (js_lcF (own := [("pair", 8)]) rfl sc_are_fair_rows.nd (i := 3) rfl rfl (sw_true rfl rfl rfl (by decide +kernel)) (ji_sq (je_v 2)) (blkOk_by (by rfl)) (fun _ _ _ _ _ => jg_n 8 sc_are_fair_rows.nd) (fun _ _ _ _ _ => jts_nil) (fun _ _ _ _ _ => je_ix (je_v 8) (je_int))) (js_cons (js_lcF (own := [("other", 9)]) rfl sc_are_fair_rows.nd (i := 4) rfl rfl (sw_true rfl rfl rfl (by decide +kernel)) (ji_sq (je_v 0)) (blkOk_by (by rfl)) (fun _ _ _ _ _ => jg_n 9 sc_are_fair_rows.nd) (fun _ _ _ _ _ => jts_nil) (fun _ _ _ _ _ => je_ix (je_ix (je_v 9) (je_v 1)) (je_int))) (js_one (js_if ((jw_or (jt_cmp opd_lt (je_lenSetL rfl B.len B.set (je_v 3)) (je_callB calld_len B.len (by decide +kernel) (ja_cons (je_v 0) (ja_nil))) (nomark _)) (jw_or1 (jt_cmp opd_lt (je_lenSetL rfl B.len B.set (je_v 4)) (je_callB calld_len B.len (by decide +kernel) (ja_cons (je_v 0) (ja_nil))) (nomark _)))).jt) (js_one (js_ret (je_bl))) (js_nil)))))) (js_cons (js_for (vs := [1, 2]) rfl (ji_en B.enumerate (je_v 0)) (jg_tup rfl (jgs_cons (jg_n 1 sc_are_fair_rows.nd) (jgs_cons (jg_n 2 sc_are_fair_rows.nd) (jgs_nil)))) (js_one (js_for (vs := [5, 6, 7]) rfl (ji_en B.enumerate (je_v 2)) (jg_tup rfl (jgs_cons (jg_n 5 sc_are_fair_rows.nd) (jgs_cons (jg_tup rfl (jgs_cons (jg_n 6 sc_are_fair_rows.nd) (jgs_cons (jg_n 7 sc_are_fair_rows.nd) (jgs_nil)))) (jgs_nil)))) (js_one (js_if (jt_not (jt_val (je_fn O__pass_alike (hr.mono (by decide)) (ja_cons (je_v 0) (ja_cons (je_v 2) (ja_cons (je_ix (je_v 0) (je_v 5)) (ja_cons (je_ix (je_v 0) (je_v 6)) (ja_cons (je_ix (je_v 0) (je_v 7)) (ja_nil))))))))) (js_one (js_ret (je_bl))) (js_nil)))))) (js_one (js_ret (je_bl))))
theorem sc__breaks_fair : FnScope N__breaks_fair P__breaks_fair (defScope st__breaks_fair) := ⟨rfl, rfl, rfl, by decide +kernel, rfl, by decide +kernel, by decide +kernel⟩
theorem bs__breaks_fair : BindsAs "_breaks_fair" st__breaks_fair P__breaks_fair := fun _ _ _ _ _ _ us hl => match us, hl with | [_, _, _], _ => rfl
theorem j__breaks_fair (O__passed_right_first : Ok P w K mg base "_passed_right_first" P__passed_right_first 1 (spD K 4 S__passed_right_first)) (O__passed_left_first : Ok P w K mg base "_passed_left_first" P__passed_left_first 1 (spD K 4 S__passed_left_first)) : BodyCx P w K mg base "_breaks_fair" st__breaks_fair N__breaks_fair 1 fun X => JSs X (defBody st__breaks_fair) g__breaks_fair := fun f cdv A outer s H E hr => js_cons (js_asg (vs := [3, 4, 5]) (je_v 2) (jg_tup rfl (jgs_cons (jg_n 3 sc__breaks_fair.nd) (jgs_cons (jg_n 4 sc__breaks_fair.nd) (jgs_cons (jg_n 5 sc__breaks_fair.nd) (jgs_nil)))))) (js_cons (js_if (jt_cmp (opd_eq hr.units) (je_v 1) (je_str) (nomark _)) (js_one (js_ret (je_and (je_cmp opd_lt (je_v 4) (je_v 5) (nomark _)) (je_one (je_cmp (opd_eq hr.units) (je_ix (je_ix (je_ix (je_v 0) (je_v 3)) (je_v 4)) (je_int)) (je_ix (je_ix (je_ix (je_v 0) (je_v 3)) (je_v 5)) (je_int)) (nomark _)))))) (js_nil)) (js_cons (js_if (jt_cmp (opd_eq hr.units) (je_v 1) (je_str) (nomark _)) (js_one (js_ret (je_and (je_cmp opd_lt (je_v 4) (je_v 5) (nomark _)) (je_one (je_cmp (opd_eq hr.units) (je_ix (je_ix (je_ix (je_v 0) (je_v 4)) (je_v 3)) (je_int)) (je_ix (je_ix (je_ix (je_v 0) (je_v 5)) (je_v 3)) (je_int)) (nomark _)))))) (js_nil)) (js_one (js_ret (je_cmp (opd_ne hr.units) (je_fn O__passed_left_first (hr.mono (by decide)) (ja_cons (je_v 0) (ja_cons (je_v 3) (ja_cons (je_v 4) (ja_cons (je_v 5) (ja_nil)))))) (je_fn O__passed_right_first (hr.mono (by decide)) (ja_cons (je_v 0) (ja_cons (je_v 3) (ja_cons (je_v 4) (ja_cons (je_v 5) (ja_nil)))))) (nomark _))))))
theorem sc_shadow_paper : FnScope N_shadow_paper P_shadow_paper (defScope st_shadow_paper) := ⟨rfl, rfl, rfl, by decide +kernel, rfl, by decide +kernel, by decide +kernel⟩
theorem bs_shadow_paper : BindsAs "shadow_paper" st_shadow_paper P_shadow_paper := fun _ _ _ _ _ _ us hl => match us, hl with | [_], _ => rfl
theorem j_shadow_paper (O_check_rows_shadows : Ok P w K mg base "check_rows_shadows" P_check_rows_shadows 3 (spD K 1 S_check_rows_shadows)) (O__is_shadow : Ok P w K mg base "_is_shadow" P__is_shadow 4 (spD K 1 S__is_shadow)) (O_broken_paper_shadows : Ok P w K mg base "broken_paper_shadows" P_broken_paper_shadows 1 (spD K 1 S_broken_paper_shadows)) : BodyCx P w K mg base "shadow_paper" st_shadow_paper N_shadow_paper 4 fun X => JSs X (defBody st_shadow_paper) g_shadow_paper := fun f cdv A outer s H E hr => js_cons (js_expr (je_fn O_check_rows_shadows (hr.mono (by decide)) (ja_cons (je_v 0) (ja_nil)))) (js_one (js_ret (je_if (jt_val (je_fn O__is_shadow (hr.mono (by decide)) (ja_cons (je_v 0) (ja_nil)))) (je_tup (ja_cons (je_str) (ja_nil))) (je_fn O_broken_paper_shadows (hr.mono (by decide)) (ja_cons (je_v 0) (ja_nil))))))
theorem sc_is_shadow_paper : FnScope N_is_shadow_paper P_is_shadow_paper (defScope st_is_shadow_paper) := ⟨rfl, rfl, rfl, by decide +kernel, rfl, by decide +kernel, by decide +kernel⟩
theorem bs_is_shadow_paper : BindsAs "is_shadow_paper" st_is_shadow_paper P_is_shadow_paper := fun _ _ _ _ _ _ us hl => match us, hl with | [_, _], _ => rfl
theorem j_is_shadow_paper (B : Bl mg) (O_check_rows_shadows : Ok P w K mg base "check_rows_shadows" P_check_rows_shadows 3 (spD K 1 S_check_rows_shadows)) (O_is_told : Ok P w K mg base "is_told" P_is_told 4 (spD K 4 S_is_told)) (O__breaks_shadow : Ok P w K mg base "_breaks_shadow" P__breaks_shadow 1 (spD K 3 S__breaks_shadow)) (O_is_same : Ok P w K mg base "is_same" P_is_same 3 (spD K 2 S_is_same)) (O__is_shadow : Ok P w K mg base "_is_shadow" P__is_shadow 4 (spD K 1 S__is_shadow)) : BodyCx P w K mg base "is_shadow_paper" st_is_shadow_paper N_is_shadow_paper 4 fun X => JSs X (defBody st_is_shadow_paper) g_is_shadow_paper := fun f cdv A outer s H E hr => js_cons (js_expr (je_fn O_check_rows_shadows (hr.mono (by decide)) (ja_cons (je_v 0) (ja_nil)))) (js_cons (js_for (vs := [2]) rfl (ji_sq (je_tup (ja_cons (je_str) (ja_cons (je_str) (ja_nil))))) (jg_n 2 sc_is_shadow_paper.nd) (js_one (js_if (jt_val (je_fn O_is_told (hr.mono (by decide)) (ja_cons (je_v 1) (ja_cons (je_v 2) (ja_cons (je_int) (ja_cons (je_callB calld_len B.len (by decide +kernel) (ja_cons (je_v 0) (ja_nil))) (ja_nil))))))) (js_one (js_ret (je_fn O__breaks_shadow (hr.mono (by decide)) (ja_cons (je_v 0) (ja_cons (je_v 2) (ja_cons (je_sl (je_v 1) (jo_some (je_int)) (jo_none)) (ja_nil))))))) (js_nil)))) (js_one (js_ret (je_and (je_fn O_is_same (hr.mono (by decide)) (ja_cons (je_v 1) (ja_cons (je_tup (ja_cons (je_str) (ja_nil))) (ja_nil)))) (je_one (je_fn O__is_shadow (hr.mono (by decide)) (ja_cons (je_v 0) (ja_nil))))))))
theorem sc_shadow_of : FnScope N_shadow_of P_shadow_of (defScope st_shadow_of) := ⟨rfl, rfl, rfl, by decide +kernel, rfl, by decide +kernel, by decide +kernel⟩
theorem bs_shadow_of : BindsAs "shadow_of" st_shadow_of P_shadow_of := fun _ _ _ _ _ _ us hl => match us, hl with | [_], _ => rfl
theorem j_shadow_of (B : Bl mg) (CF_Passing : ClsF K mg "Passing" ["_rows", "_left", "_right", "_quiet"]) (O_check_table : Ok P w K mg base "check_table" P_check_table 1 (spD K 1 S_check_table)) (O_Passing__rows : OkP P w K mg base (adrOf K "Passing") "rows" 1 (spD K 1 S_Passing__rows)) (O_Passing__left : OkP P w K mg base (adrOf K "Passing") "left" 1 (spD K 1 S_Passing__left)) (O_Passing____len__ : OkM P w K mg base (adrOf K "Passing") "__len__" P_Passing____len__ 1 (spD K 1 S_Passing____len__)) : BodyCx P w K mg base "shadow_of" st_shadow_of N_shadow_of 3 fun X => JSs X (defBody st_shadow_of) g_shadow_of := fun f cdv A outer s H E hr => js_cons (js_expr (je_fn O_check_table (hr.mono (by decide)) (ja_cons (je_v 0) (ja_nil)))) (js_cons (js_set (i := 1) (((jl_lc (own := [("row", 2)]) rfl sc_shadow_of.nd (ji_sq (je_prop O_Passing__rows CF_Passing.cl (hr.mono (by decide)) (je_v 0))) (blkOk_by (by rfl)) (fun _ _ _ _ _ => jg_n 2 sc_shadow_of.nd) (fun _ _ _ _ _ => jts_nil) (fun _ _ _ _ _ => je_dc (own := [("x", 3), ("v", 4)]) rfl sc_shadow_of.nd (ji_sq (je_v 2)) (blkOk_by (by rfl)) (fun _ _ _ _ _ => jg_tup rfl (jgs_cons (jg_n 3 sc_shadow_of.nd) (jgs_cons (jg_n 4 sc_shadow_of.nd) (jgs_nil)))) (fun _ _ _ _ _ => jts_nil) (fun _ _ _ _ _ => je_v 3) (fun _ _ _ _ _ => je_ix (je_ix (je_prop O_Passing__left CF_Passing.cl (hr.mono (by decide)) (je_v 0)) (je_v 3)) (je_v 4)))).je).jx) sc_shadow_of.nd rfl (by first | exact Or.inl rfl | exact Or.inr rfl)) (js_one (js_ret (je_callTy calld_tuple B.tuple (by decide +kernel) (ja_cons ((jl_lc (own := [("x", 3)]) rfl sc_shadow_of.nd (ji_r1 B.range (je_lenI O_Passing____len__.slot (hr.mono (by decide)) B.len (je_v 0))) (blkOk_by (by rfl)) (fun _ _ _ _ _ => jg_n 3 sc_shadow_of.nd) (fun _ _ _ _ _ => jts_nil) (fun _ _ _ _ _ => je_callTy calld_tuple B.tuple (by decide +kernel) (ja_cons ((jl_lc (own := [("goals", 5)]) rfl sc_shadow_of.nd (ji_sq (je_v 1)) (blkOk_by (by rfl)) (fun _ _ _ _ _ => jg_n 5 sc_shadow_of.nd) (fun _ _ _ _ _ => jts_nil) (fun _ _ _ _ _ => je_getD (hu1 hr.units) (je_v 5) (je_v 3))).je) (ja_nil)))).je) (ja_nil))))))
theorem sc__law_dots_likenesses : FnScope N__law_dots_likenesses P__law_dots_likenesses (defScope st__law_dots_likenesses) := ⟨rfl, rfl, rfl, by decide +kernel, rfl, by decide +kernel, by decide +kernel⟩
theorem bs__law_dots_likenesses : BindsAs "_law_dots_likenesses" st__law_dots_likenesses P__law_dots_likenesses := fun _ _ _ _ _ _ us hl => match us, hl with | [_], _ => rfl
theorem j__law_dots_likenesses (B : Bl mg) (O__law_orders : Ok P w K mg base "_law_orders" P__law_orders 1 (spD K 1 S__law_orders)) (O__law_keeps_dots : Ok P w K mg base "_law_keeps_dots" P__law_keeps_dots 1 (spD K 2 S__law_keeps_dots)) : BodyCx P w K mg base "_law_dots_likenesses" st__law_dots_likenesses N__law_dots_likenesses 1 fun X => JSs X (defBody st__law_dots_likenesses) g__law_dots_likenesses := fun f cdv A outer s H E hr => js_one (js_ret ((jl_lc (own := [("_law_move", 1)]) rfl sc__law_dots_likenesses.nd (ji_sq (je_fn O__law_orders (hr.mono (by decide)) (ja_cons (je_callB calld_len B.len (by decide +kernel) (ja_cons (je_v 0) (ja_nil))) (ja_nil)))) (blkOk_by (by rfl)) (fun _ _ _ _ _ => jg_n 1 sc__law_dots_likenesses.nd) (fun _ _ _ _ _ => jts_one (jt_val (je_fn O__law_keeps_dots (hr.mono (by decide)) (ja_cons (je_v 0) (ja_cons (je_v 1) (ja_nil)))))) (fun _ _ _ _ _ => je_v 1)).je))
theorem sc__law_quiet_dots : FnScope N__law_quiet_dots P__law_quiet_dots (defScope st__law_quiet_dots) := ⟨rfl, rfl, rfl, by decide +kernel, rfl, by decide +kernel, by decide +kernel⟩
theorem bs__law_quiet_dots : BindsAs "_law_quiet_dots" st__law_quiet_dots P__law_quiet_dots := fun _ _ _ _ _ _ us hl => match us, hl with | [_, _, _], _ => rfl
theorem j__law_quiet_dots (B : Bl mg) (O__law_small_dots : Ok P w K mg base "_law_small_dots" P__law_small_dots 4 (spM K 2 S__law_small_dots)) (O__law_roll : Ok P w K mg base "_law_roll" P__law_roll 1 (spM K 2 S__law_roll)) (O__law_product_dots : Ok P w K mg base "_law_product_dots" P__law_product_dots 2 (spD K 2 S__law_product_dots)) (O__law_pick : Ok P w K mg base "_law_pick" P__law_pick 2 (spM K 2 S__law_pick)) (O__law_dots_likenesses : Ok P w K mg base "_law_dots_likenesses" P__law_dots_likenesses 2 (spD K 1 S__law_dots_likenesses)) (O__law_union_dots : Ok P w K mg base "_law_union_dots" P__law_union_dots 1 (spD K 4 S__law_union_dots)) (O__law_renamed_dots : Ok P w K mg base "_law_renamed_dots" P__law_renamed_dots 2 (spD K 2 S__law_renamed_dots)) (O__law_drawn_move : Ok P w K mg base "_law_drawn_move" P__law_drawn_move 3 (spM K 2 S__law_drawn_move)) : BodyCx P w K mg base "_law_quiet_dots" st__law_quiet_dots N__law_quiet_dots 4 fun X => JSs X (defBody st__law_quiet_dots) g__law_quiet_dots := fun f cdv A outer s H E hr => js_cons (js_set (i := 3) ((je_fnM O__law_small_dots (hr.mono (by decide)) (i := 0) rfl (by first | exact Or.inl rfl | exact Or.inr (Or.inl rfl) | exact Or.inr (Or.inr rfl)) (ja_cons (je_v 2) (ja_nil))).jx) sc__law_quiet_dots.nd rfl (by first | exact Or.inl rfl | exact Or.inr rfl)) (js_cons (js_if ((jw_and (jt_cmp opd_gt (je_v 2) (je_int) (nomark _)) (jw_and1 (jt_cmp (opd_eq hr.units) (je_fnM O__law_roll (hr.mono (by decide)) (i := 0) rfl (by first | exact Or.inl rfl | exact Or.inr (Or.inl rfl) | exact Or.inr (Or.inr rfl)) (ja_cons (je_int) (ja_nil))) (je_int) (nomark _)))).jt) (js_one (js_set (i := 3) ((je_fn O__law_product_dots (hr.mono (by decide)) (ja_cons ((jl_lst (ja_cons (je_tup (ja_cons (je_int) (ja_cons (je_int) (ja_nil)))) (ja_cons (je_tup (ja_cons (je_int) (ja_cons (je_int) (ja_nil)))) (ja_nil)))).je) (ja_cons (je_fnM O__law_pick (hr.mono (by decide)) (i := 0) rfl (by first | exact Or.inl rfl | exact Or.inr (Or.inl rfl) | exact Or.inr (Or.inr rfl)) (ja_cons ((jl_lst (ja_cons ((jl_lst (ja_cons (je_tup (ja_cons (je_int) (ja_cons (je_int) (ja_nil)))) (ja_cons (je_tup (ja_cons (je_int) (ja_cons (je_int) (ja_nil)))) (ja_nil)))).je) (ja_cons ((jl_lst (ja_cons (je_tup (ja_cons (je_int) (ja_cons (je_int) (ja_nil)))) (ja_cons (je_tup (ja_cons (je_int) (ja_cons (je_int) (ja_nil)))) (ja_nil)))).je) (ja_cons ((jl_lst (ja_cons (je_tup (ja_cons (je_int) (ja_nil))) (ja_nil))).je) (ja_nil))))).je) (ja_nil))) (ja_nil)))).jx) sc__law_quiet_dots.nd rfl (by first | exact Or.inl rfl | exact Or.inr rfl))) (js_nil)) (js_cons (js_for (vs := [4]) rfl (ji_r1 B.range (je_v 2)) (jg_n 4 sc__law_quiet_dots.nd) (js_cons (js_set (i := 5) ((je_bin opd_sub (je_v 2) (je_callB calld_len B.len (by decide +kernel) (ja_cons (je_v 3) (ja_nil)))).jx) sc__law_quiet_dots.nd rfl (by first | exact Or.inl rfl | exact Or.inr rfl)) (js_one (js_if ((jw_and (jt_cmp opd_gt (je_v 5) (je_int) (nomark _)) (jw_and1 ((jw_or (jt_cmp opd_lt (je_callB calld_len B.len (by decide +kernel) (ja_cons (je_v 3) (ja_nil))) (je_v 1) (nomark _)) (jw_or1 (jt_cmp (opd_eq hr.units) (je_fnM O__law_roll (hr.mono (by decide)) (i := 0) rfl (by first | exact Or.inl rfl | exact Or.inr (Or.inl rfl) | exact Or.inr (Or.inr rfl)) (ja_cons (je_int) (ja_nil))) (je_int) (nomark _)))).jt))).jt) (js_cons (js_set (i := 6) ((je_fnM O__law_small_dots (hr.mono (by decide)) (i := 0) rfl (by first | exact Or.inl rfl | exact Or.inr (Or.inl rfl) | exact Or.inr (Or.inr rfl)) (ja_cons (je_v 5) (ja_nil))).jx) sc__law_quiet_dots.nd rfl (by first | exact Or.inl rfl | exact Or.inr rfl)) (js_cons (js_set (i := 7) ((je_tupRg rfl B.tuple (jr_1 B.range (je_callB calld_len B.len (by decide +kernel) (ja_cons (je_v 6) (ja_nil))))).jx) sc__law_quiet_dots.nd rfl (by first | exact Or.inl rfl | exact Or.inr rfl)) (js_cons (js_set (i := 8) ((je_tupRg rfl B.tuple (jr_1 B.range (je_callB calld_len B.len (by decide +kernel) (ja_cons (je_v 3) (ja_nil))))).jx) sc__law_quiet_dots.nd rfl (by first | exact Or.inl rfl | exact Or.inr rfl)) (js_cons (js_if ((jw_and (jt_cmp opd_lt (je_callB calld_len B.len (by decide +kernel) (ja_cons (je_v 6) (ja_nil))) (je_int) (nomark _)) (jw_and1 (jt_cmp opd_lt (je_callB calld_len B.len (by decide +kernel) (ja_cons (je_v 3) (ja_nil))) (je_int) (nomark _)))).jt) (js_one (js_par (i := 7) (j := 8) rfl sc__law_quiet_dots.nd rfl rfl (by decide) rfl rfl ((je_fnM O__law_pick (hr.mono (by decide)) (i := 0) rfl (by first | exact Or.inl rfl | exact Or.inr (Or.inl rfl) | exact Or.inr (Or.inr rfl)) (ja_cons (je_fn O__law_dots_likenesses (hr.mono (by decide)) (ja_cons (je_v 6) (ja_nil))) (ja_nil))).jx) ((je_fnM O__law_pick (hr.mono (by decide)) (i := 0) rfl (by first | exact Or.inl rfl | exact Or.inr (Or.inl rfl) | exact Or.inr (Or.inr rfl)) (ja_cons (je_fn O__law_dots_likenesses (hr.mono (by decide)) (ja_cons (je_v 3) (ja_nil))) (ja_nil))).jx) rfl)) (js_nil)) (js_one (js_set (i := 3) ((je_fn O__law_union_dots (hr.mono (by decide)) (ja_cons (je_v 3) (ja_cons (je_v 6) (ja_cons (je_v 7) (ja_cons (je_v 8) (ja_nil)))))).jx) sc__law_quiet_dots.nd rfl (by first | exact Or.inl rfl | exact Or.inr rfl))))))) (js_nil))))) (js_one (js_ret (je_fn O__law_renamed_dots (hr.mono (by decide)) (ja_cons (je_v 3) (ja_cons (je_fnM O__law_drawn_move (hr.mono (by decide)) (i := 0) rfl (by first | exact Or.inl rfl | exact Or.inr (Or.inl rfl) | exact Or.inr (Or.inr rfl)) (ja_cons (je_callB calld_len B.len (by decide +kernel) (ja_cons (je_v 3) (ja_nil))) (ja_nil))) (ja_nil))))))))
theorem sc__law_fair_rows : FnScope N__law_fair_rows P__law_fair_rows (defScope st__law_fair_rows) := ⟨rfl, rfl, rfl, by decide +kernel, rfl, by decide +kernel, by decide +kernel⟩
theorem bs__law_fair_rows : BindsAs "_law_fair_rows" st__law_fair_rows P__law_fair_rows := fun _ _ _ _ _ _ us hl => match us, hl with | [_, _, _], _ => rfl
theorem j__law_fair_rows (B : Bl mg) (O__law_roll : Ok P w K mg base "_law_roll" P__law_roll 1 (spM K 2 S__law_roll)) (O__law_drawn_move : Ok P w K mg base "_law_drawn_move" P__law_drawn_move 3 (spM K 2 S__law_drawn_move)) (O__law_power : Ok P w K mg base "_law_power" P__law_power 2 (spD K 2 S__law_power)) (O__law_pick : Ok P w K mg base "_law_pick" P__law_pick 2 (spM K 2 S__law_pick)) (O__law_renamed_rows : Ok P w K mg base "_law_renamed_rows" P__law_renamed_rows 2 (spD K 2 S__law_renamed_rows)) (O__law_orders : Ok P w K mg base "_law_orders" P__law_orders 1 (spD K 1 S__law_orders)) (O__law_joined : Ok P w K mg base "_law_joined" P__law_joined 1 (spD K 2 S__law_joined)) (O__law_undone : Ok P w K mg base "_law_undone" P__law_undone 1 (spD K 1 S__law_undone)) (O__law_rows_of_dots : Ok P w K mg base "_law_rows_of_dots" P__law_rows_of_dots 2 (spD K 1 S__law_rows_of_dots)) (O__law_quiet_dots : Ok P w K mg base "_law_quiet_dots" P__law_quiet_dots 5 (spM K 3 S__law_quiet_dots)) : BodyCx P w K mg base "_law_fair_rows" st__law_fair_rows N__law_fair_rows 5 fun X => JSs X (defBody st__law_fair_rows) g__law_fair_rows := fun f cdv A outer s H E hr => js_cons (js_parT (i := 3) (j := 4) rfl sc__law_fair_rows.nd rfl rfl (by decide) (by first | exact Or.inl rfl | exact Or.inr rfl) (by first | exact Or.inl rfl | exact Or.inr rfl) ((je_fnM O__law_roll (hr.mono (by decide)) (i := 0) rfl (by first | exact Or.inl rfl | exact Or.inr (Or.inl rfl) | exact Or.inr (Or.inr rfl)) (ja_cons (je_int) (ja_nil))).jx) ((je_bin opd_add (je_v 1) (je_fnM O__law_roll (hr.mono (by decide)) (i := 0) rfl (by first | exact Or.inl rfl | exact Or.inr (Or.inl rfl) | exact Or.inr (Or.inr rfl)) (ja_cons (je_bin opd_add (je_bin opd_sub (je_v 2) (je_v 1)) (je_int)) (ja_nil)))).jx)) (js_cons (js_if (jt_cmp (opd_eq hr.units) (je_v 3) (je_int) (nomark _)) (js_cons (js_set (i := 5) ((je_fnM O__law_drawn_move (hr.mono (by decide)) (i := 0) rfl (by first | exact Or.inl rfl | exact Or.inr (Or.inl rfl) | exact Or.inr (Or.inr rfl)) (ja_cons (je_v 4) (ja_nil))).jx) sc__law_fair_rows.nd rfl (by first | exact Or.inl rfl | exact Or.inr rfl)) (js_cons (js_parT (i := 6) (j := 7) rfl sc__law_fair_rows.nd rfl rfl (by decide) (by first | exact Or.inl rfl | exact Or.inr rfl) (by first | exact Or.inl rfl | exact Or.inr rfl) ((je_fn O__law_power (hr.mono (by decide)) (ja_cons (je_v 5) (ja_cons (je_fnM O__law_roll (hr.mono (by decide)) (i := 0) rfl (by first | exact Or.inl rfl | exact Or.inr (Or.inl rfl) | exact Or.inr (Or.inr rfl)) (ja_cons (je_int) (ja_nil))) (ja_nil)))).jx) ((je_fn O__law_power (hr.mono (by decide)) (ja_cons (je_v 5) (ja_cons (je_fnM O__law_roll (hr.mono (by decide)) (i := 0) rfl (by first | exact Or.inl rfl | exact Or.inr (Or.inl rfl) | exact Or.inr (Or.inr rfl)) (ja_cons (je_int) (ja_nil))) (ja_nil)))).jx)) (js_one (js_ret (je_callTy calld_tuple B.tuple (by decide +kernel) (ja_cons ((jl_lc (own := [("_law_x", 11)]) rfl sc__law_fair_rows.nd (ji_r1 B.range (je_v 4)) (blkOk_by (by rfl)) (fun _ _ _ _ _ => jg_n 11 sc__law_fair_rows.nd) (fun _ _ _ _ _ => jts_nil) (fun _ _ _ _ _ => je_callTy calld_tuple B.tuple (by decide +kernel) (ja_cons ((jl_lc (own := [("_law_y", 13)]) rfl sc__law_fair_rows.nd (ji_r1 B.range (je_v 4)) (blkOk_by (by rfl)) (fun _ _ _ _ _ => jg_n 13 sc__law_fair_rows.nd) (fun _ _ _ _ _ => jts_nil) (fun _ _ _ _ _ => je_tup (ja_cons (je_ix (je_v 6) (je_v 13)) (ja_cons (je_ix (je_v 7) (je_v 11)) (ja_nil))))).je) (ja_nil)))).je) (ja_nil))))))) (js_nil)) (js_cons (js_if (jt_cmp (opd_eq hr.units) (je_v 3) (je_int) (nomark _)) (js_cons (js_set (i := 8) ((je_fnM O__law_pick (hr.mono (by decide)) (i := 0) rfl (by first | exact Or.inl rfl | exact Or.inr (Or.inl rfl) | exact Or.inr (Or.inr rfl)) (ja_cons ((jl_lst (ja_cons (je_neg (je_int)) (ja_cons (je_neg (je_int)) (ja_cons (je_int) (ja_cons (je_int) (ja_nil)))))).je) (ja_nil))).jx) sc__law_fair_rows.nd rfl (by first | exact Or.inl rfl | exact Or.inr rfl)) (js_cons (js_set (i := 8) ((je_if ((jw_or (jt_cmp opd_lt (je_v 8) (je_int) (nomark _)) (jw_or1 (jt_cmp (opd_eq hr.units) (je_bin opd_mod (je_v 4) (je_int)) (je_int) (nomark _)))).jt) (je_v 8) (je_neg (je_int))).jx) sc__law_fair_rows.nd rfl (by first | exact Or.inl rfl | exact Or.inr rfl)) (js_cons (js_lcO (own := [("_law_x", 11)]) rfl sc__law_fair_rows.nd (i := 9) rfl rfl (sw_true rfl rfl rfl (by decide +kernel)) (ji_r1 B.range (je_v 4)) (blkOk_by (by rfl)) (fun _ _ _ _ _ => jg_n 11 sc__law_fair_rows.nd) (fun _ _ _ _ _ => jts_nil) (fun _ _ _ _ _ => je_callTy calld_tuple B.tuple (by decide +kernel) (ja_cons ((jl_lc (own := [("_law_y", 13)]) rfl sc__law_fair_rows.nd (ji_r1 B.range (je_v 4)) (blkOk_by (by rfl)) (fun _ _ _ _ _ => jg_n 13 sc__law_fair_rows.nd) (fun _ _ _ _ _ => jts_nil) (fun _ _ _ _ _ => je_tup (ja_cons (je_bin opd_mod (je_callTy calld_int B.int (by decide +kernel) (ja_cons (je_bin opd_sub (je_bin opd_add (je_v 11) (je_bin opd_mulA (je_v 8) (je_v 13))) (je_bin opd_mulA (je_v 8) (je_v 11))) (ja_nil))) (je_v 4)) (ja_cons (je_v 11) (ja_nil))))).je) (ja_nil)))) (js_one (js_ret (je_fn O__law_renamed_rows (hr.mono (by decide)) (ja_cons (je_tupleO B.tuple (i := 9) rfl (by first | exact Or.inl rfl | exact Or.inr (Or.inl rfl) | exact Or.inr (Or.inr rfl))) (ja_cons (je_fnM O__law_drawn_move (hr.mono (by decide)) (i := 0) rfl (by first | exact Or.inl rfl | exact Or.inr (Or.inl rfl) | exact Or.inr (Or.inr rfl)) (ja_cons (je_v 4) (ja_nil))) (ja_nil))))))))) (js_nil)) (js_cons (js_if ((jw_and (jt_cmp (opd_eq hr.units) (je_v 3) (je_int) (nomark _)) (jw_and1 (jt_cmp opd_gt (je_v 2) (je_int) (nomark _)))).jt) (js_cons (js_set (i := 10) ((je_fn O__law_orders (hr.mono (by decide)) (ja_cons (je_int) (ja_nil))).jx) sc__law_fair_rows.nd rfl (by first | exact Or.inl rfl | exact Or.inr rfl)) (js_cons (js_set (i := 9) ((jl_lst (ja_nil)).jx) sc__law_fair_rows.nd rfl (by first | exact Or.inl rfl | exact Or.inr rfl)) (js_cons (js_for (vs := [11]) rfl (ji_sq (je_v 10)) (jg_n 11 sc__law_fair_rows.nd) (js_cons (js_lcF (own := [("_law_y", 13)]) rfl sc__law_fair_rows.nd (i := 12) rfl rfl (sw_true rfl rfl rfl (by decide +kernel)) (ji_sq (je_v 10)) (blkOk_by (by rfl)) (fun _ _ _ _ _ => jg_n 13 sc__law_fair_rows.nd) (fun _ _ _ _ _ => jts_nil) (fun _ _ _ _ _ => je_indexD (hu65 hr) (je_v 10) (je_fn O__law_joined (hr.mono (by decide)) (ja_cons (je_fn O__law_joined (hr.mono (by decide)) (ja_cons (je_v 11) (ja_cons (je_v 13) (ja_nil)))) (ja_cons (je_fn O__law_undone (hr.mono (by decide)) (ja_cons (je_v 11) (ja_nil))) (ja_nil)))))) (js_one (js_expr (je_app (i := 9) rfl (by first | exact Or.inl rfl | exact Or.inr (Or.inl rfl) | exact Or.inr (Or.inr rfl)) (je_callTy calld_tuple B.tuple (by decide +kernel) (ja_cons ((jl_lc (own := [("_law_goal", 14)]) rfl sc__law_fair_rows.nd (ji_sq (je_v 12)) (blkOk_by (by rfl)) (fun _ _ _ _ _ => jg_n 14 sc__law_fair_rows.nd) (fun _ _ _ _ _ => jts_nil) (fun _ _ _ _ _ => je_tup (ja_cons (je_v 14) (ja_cons (je_indexD (hu65 hr) (je_v 10) (je_v 11)) (ja_nil))))).je) (ja_nil)))))))) (js_one (js_ret (je_fn O__law_renamed_rows (hr.mono (by decide)) (ja_cons (je_tupleO B.tuple (i := 9) rfl (by first | exact Or.inl rfl | exact Or.inr (Or.inl rfl) | exact Or.inr (Or.inr rfl))) (ja_cons (je_fnM O__law_drawn_move (hr.mono (by decide)) (i := 0) rfl (by first | exact Or.inl rfl | exact Or.inr (Or.inl rfl) | exact Or.inr (Or.inr rfl)) (ja_cons (je_int) (ja_nil))) (ja_nil))))))))) (js_nil)) (js_cons (js_if ((jw_and (jt_cmp (opd_eq hr.units) (je_v 3) (je_int) (nomark _)) (jw_and1 (jt_cmp opd_gt (je_v 4) (je_int) (nomark _)))).jt) (js_cons (js_lcO (own := [("_law_x", 11)]) rfl sc__law_fair_rows.nd (i := 9) rfl rfl (sw_true rfl rfl rfl (by decide +kernel)) (ji_r1 B.range (je_v 4)) (blkOk_by (by rfl)) (fun _ _ _ _ _ => jg_n 11 sc__law_fair_rows.nd) (fun _ _ _ _ _ => jts_nil) (fun _ _ _ _ _ => je_callTy calld_tuple B.tuple (by decide +kernel) (ja_cons ((jl_lc (own := [("_law_y", 13)]) rfl sc__law_fair_rows.nd (ji_r1 B.range (je_v 4)) (blkOk_by (by rfl)) (fun _ _ _ _ _ => jg_n 13 sc__law_fair_rows.nd) (fun _ _ _ _ _ => jts_nil) (fun _ _ _ _ _ => je_tup (ja_cons (je_v 13) (ja_cons (je_bin opd_mod (je_callTy calld_int B.int (by decide +kernel) (ja_cons (je_bin opd_sub (je_bin opd_mulA (je_int) (je_v 13)) (je_v 11)) (ja_nil))) (je_v 4)) (ja_nil))))).je) (ja_nil)))) (js_one (js_ret (je_fn O__law_renamed_rows (hr.mono (by decide)) (ja_cons (je_tupleO B.tuple (i := 9) rfl (by first | exact Or.inl rfl | exact Or.inr (Or.inl rfl) | exact Or.inr (Or.inr rfl))) (ja_cons (je_fnM O__law_drawn_move (hr.mono (by decide)) (i := 0) rfl (by first | exact Or.inl rfl | exact Or.inr (Or.inl rfl) | exact Or.inr (Or.inr rfl)) (ja_cons (je_v 4) (ja_nil))) (ja_nil))))))) (js_nil)) (js_one (js_ret (je_fn O__law_rows_of_dots (hr.mono (by decide)) (ja_cons (je_fnM O__law_quiet_dots (hr.mono (by decide)) (i := 0) rfl (by first | exact Or.inl rfl | exact Or.inr (Or.inl rfl) | exact Or.inr (Or.inr rfl)) (ja_cons (je_v 1) (ja_cons (je_v 2) (ja_nil)))) (ja_nil)))))))))
theorem sc_broken_paper_passing : FnScope N_broken_paper_passing P_broken_paper_passing (defScope st_broken_paper_passing) := ⟨rfl, rfl, rfl, by decide +kernel, rfl, by decide +kernel, by decide +kernel⟩
theorem bs_broken_paper_passing : BindsAs "_broken_paper" st_broken_paper_passing P_broken_paper_passing := fun _ _ _ _ _ _ us hl => match us, hl with | [_], _ => rfl
theorem j_broken_paper_passing (B : Bl mg) (O__threes : Ok P w K mg base "_threes" P__threes 1 (spD K 1 S__threes)) (O__breaks_fair : Ok P w K mg base "_breaks_fair" P__breaks_fair 2 (spD K 3 S__breaks_fair)) : BodyCx P w K mg base "_broken_paper" st_broken_paper_passing N_broken_paper_passing 2 fun X => JSs X (defBody st_broken_paper_passing) g_broken_paper_passing := fun f cdv A outer s H E hr => js_cons (js_set (i := 1) ((je_fn O__threes (hr.mono (by decide)) (ja_cons (je_callB calld_len B.len (by decide +kernel) (ja_cons (je_v 0) (ja_nil))) (ja_nil))).jx) sc_broken_paper_passing.nd rfl (by first | exact Or.inl rfl | exact Or.inr rfl)) (js_one (js_for (vs := [2]) rfl (ji_sq (je_tup (ja_cons (je_str) (ja_cons (je_str) (ja_cons (je_str) (ja_nil)))))) (jg_n 2 sc_broken_paper_passing.nd) (js_one (js_for (vs := [3]) rfl (ji_sq (je_v 1)) (jg_n 3 sc_broken_paper_passing.nd) (js_one (js_if (jt_val (je_fn O__breaks_fair (hr.mono (by decide)) (ja_cons (je_v 0) (ja_cons (je_v 2) (ja_cons (je_v 3) (ja_nil)))))) (js_one (js_ret (je_bin opd_add (je_tup (ja_cons (je_v 2) (ja_nil))) (je_v 3)))) (js_nil)))))))
theorem sc_check_rows_passing : FnScope N_check_rows_passing P_check_rows_passing (defScope st_check_rows_passing) := ⟨rfl, rfl, rfl, by decide +kernel, rfl, by decide +kernel, by decide +kernel⟩
theorem bs_check_rows_passing : BindsAs "_check_rows" st_check_rows_passing P_check_rows_passing := fun _ _ _ _ _ _ us hl => match us, hl with | [_], _ => rfl
theorem j_check_rows_passing (O__is_table_rows : Ok P w K mg base "_is_table_rows" P__is_table_rows 3 (spD K 1 S__is_table_rows)) : BodyCx P w K mg base "_check_rows" st_check_rows_passing N_check_rows_passing 3 fun X => JSs X (defBody st_check_rows_passing) g_check_rows_passing := fun f cdv A outer s H E hr => js_one (js_if (jt_not (jt_val (je_fn O__is_table_rows (hr.mono (by decide)) (ja_cons (je_v 0) (ja_nil))))) (js_one (js_never)) (js_nil))
theorem sc_fair_paper : FnScope N_fair_paper P_fair_paper (defScope st_fair_paper) := ⟨rfl, rfl, rfl, by decide +kernel, rfl, by decide +kernel, by decide +kernel⟩
theorem bs_fair_paper : BindsAs "fair_paper" st_fair_paper P_fair_paper := fun _ _ _ _ _ _ us hl => match us, hl with | [_], _ => rfl
theorem j_fair_paper (O_check_rows_passing : Ok P w K mg base "check_rows_passing" P_check_rows_passing 4 (spD K 1 S_check_rows_passing)) (O_are_fair_rows : Ok P w K mg base "are_fair_rows" P_are_fair_rows 2 (spD K 1 S_are_fair_rows)) (O_broken_paper_passing : Ok P w K mg base "broken_paper_passing" P_broken_paper_passing 3 (spD K 1 S_broken_paper_passing)) : BodyCx P w K mg base "fair_paper" st_fair_paper N_fair_paper 4 fun X => JSs X (defBody st_fair_paper) g_fair_paper := fun f cdv A outer s H E hr => js_cons (js_expr (je_fn O_check_rows_passing (hr.mono (by decide)) (ja_cons (je_v 0) (ja_nil)))) (js_one (js_ret (je_if (jt_val (je_fn O_are_fair_rows (hr.mono (by decide)) (ja_cons (je_v 0) (ja_nil)))) (je_tup (ja_cons (je_str) (ja_nil))) (je_fn O_broken_paper_passing (hr.mono (by decide)) (ja_cons (je_v 0) (ja_nil))))))
theorem sc_Passing____init__ : FnScope N_Passing____init__ P_Passing____init__ (defScope st_Passing____init__) := ⟨rfl, rfl, rfl, by decide +kernel, rfl, by decide +kernel, by decide +kernel⟩
theorem bs_Passing____init__ : BindsM "__init__" "Passing.__init__" st_Passing____init__ P_Passing____init__ := fun _ _ _ _ _ _ us hl => match us, hl with | [_, _], _ => rfl
theorem j_Passing____init__ (B : Bl mg) (CF_Passing : ClsF K mg "Passing" ["_rows", "_left", "_right", "_quiet"]) (O_fair_paper : Ok P w K mg base "fair_paper" P_fair_paper 5 (spD K 1 S_fair_paper)) (O__passes_twice_unchanged : Ok P w K mg base "_passes_twice_unchanged" P__passes_twice_unchanged 1 (spD K 1 S__passes_twice_unchanged)) : BodyCx P w K mg base "Passing.__init__" st_Passing____init__ N_Passing____init__ 5 fun X => JSs X (defBody st_Passing____init__) g_Passing____init__ := fun f cdv A outer s H E hr => js_cons (js_set (i := 2) ((je_fn O_fair_paper (hr.mono (by decide)) (ja_cons (je_v 1) (ja_nil))).jx) sc_Passing____init__.nd rfl (by first | exact Or.inl rfl | exact Or.inr rfl)) (js_cons (js_if (jt_cmp (opd_ne hr.units) (je_v 2) (je_tup (ja_cons (je_str) (ja_nil))) (nomark _)) (js_one (js_never)) (js_nil)) (js_cons (js_set (i := 3) (jx_rng B.range (je_callB calld_len B.len (by decide +kernel) (ja_cons (je_v 1) (ja_nil)))) sc_Passing____init__.nd rfl (by first | exact Or.inl rfl | exact Or.inr rfl)) (js_cons (js_fld (i := 0) rfl (by first | exact Or.inl rfl | exact Or.inr (Or.inl rfl) | exact Or.inr (Or.inr rfl)) (CF_Passing.na "_rows" (by simp)) (je_v 1)) (js_cons (js_fld (i := 0) rfl (by first | exact Or.inl rfl | exact Or.inr (Or.inl rfl) | exact Or.inr (Or.inr rfl)) (CF_Passing.na "_left" (by simp)) (je_callTy calld_tuple B.tuple (by decide +kernel) (ja_cons ((jl_lc (own := [("row", 4)]) rfl sc_Passing____init__.nd (ji_sq (je_v 1)) (blkOk_by (by rfl)) (fun _ _ _ _ _ => jg_n 4 sc_Passing____init__.nd) (fun _ _ _ _ _ => jts_nil) (fun _ _ _ _ _ => je_callTy calld_tuple B.tuple (by decide +kernel) (ja_cons ((jl_lc (own := [("pair", 5)]) rfl sc_Passing____init__.nd (ji_sq (je_v 4)) (blkOk_by (by rfl)) (fun _ _ _ _ _ => jg_n 5 sc_Passing____init__.nd) (fun _ _ _ _ _ => jts_nil) (fun _ _ _ _ _ => je_ix (je_v 5) (je_int))).je) (ja_nil)))).je) (ja_nil)))) (js_cons (js_fld (i := 0) rfl (by first | exact Or.inl rfl | exact Or.inr (Or.inl rfl) | exact Or.inr (Or.inr rfl)) (CF_Passing.na "_right" (by simp)) (je_callTy calld_tuple B.tuple (by decide +kernel) (ja_cons ((jl_lc (own := [("y", 6)]) rfl sc_Passing____init__.nd (ji_rgO (i := 3) rfl (by first | exact Or.inl rfl | exact Or.inr (Or.inl rfl) | exact Or.inr (Or.inr rfl))) (blkOk_by (by rfl)) (fun _ _ _ _ _ => jg_n 6 sc_Passing____init__.nd) (fun _ _ _ _ _ => jts_nil) (fun _ _ _ _ _ => je_callTy calld_tuple B.tuple (by decide +kernel) (ja_cons ((jl_lc (own := [("row", 4)]) rfl sc_Passing____init__.nd (ji_sq (je_v 1)) (blkOk_by (by rfl)) (fun _ _ _ _ _ => jg_n 4 sc_Passing____init__.nd) (fun _ _ _ _ _ => jts_nil) (fun _ _ _ _ _ => je_ix (je_ix (je_v 4) (je_v 6)) (je_int))).je) (ja_nil)))).je) (ja_nil)))) (js_one (js_fld (i := 0) rfl (by first | exact Or.inl rfl | exact Or.inr (Or.inl rfl) | exact Or.inr (Or.inr rfl)) (CF_Passing.na "_quiet" (by simp)) (je_fn O__passes_twice_unchanged (hr.mono (by decide)) (ja_cons (je_v 1) (ja_nil))))))))))
theorem sc_Passing____mul__ : FnScope N_Passing____mul__ P_Passing____mul__ (defScope st_Passing____mul__) := ⟨rfl, rfl, rfl, by decide +kernel, rfl, by decide +kernel, by decide +kernel⟩
theorem bs_Passing____mul__ : BindsM "__mul__" "Passing.__mul__" st_Passing____mul__ P_Passing____mul__ := fun _ _ _ _ _ _ us hl => match us, hl with | [_, _], _ => rfl
theorem j_Passing____mul__ (B : Bl mg) (CF_Passing : ClsF K mg "Passing" ["_rows", "_left", "_right", "_quiet"]) {t_MAX_LETTERS : Tok} (c_MAX_LETTERS : mg "MAX_LETTERS" = some (.int 8 t_MAX_LETTERS)) (O_Passing____init__ : OkI P w K mg base "Passing" P_Passing____init__ 6 (spI K "Passing" 2 S_Passing____init__)) (O__pair_rows : Ok P w K mg base "_pair_rows" P__pair_rows 1 (spD K 2 S__pair_rows)) : BodyCx P w K mg base "Passing.__mul__" st_Passing____mul__ N_Passing____mul__ 8 fun X => JSs X (defBody st_Passing____mul__) g_Passing____mul__ := fun f cdv A outer s H E hr => js_cons (js_if (jt_not (jt_val (je_isC B.isinstance CF_Passing.mg CF_Passing.ic oth0 (je_v 1)))) (jss_never) (js_nil)) (js_cons (js_if (jt_cmp opd_gt (je_bin opd_mulA (je_callB calld_len B.len (by decide +kernel) (ja_cons (je_fld (CF_Passing.na "_rows" (by simp)) (je_v 0)) (ja_nil))) (je_callB calld_len B.len (by decide +kernel) (ja_cons (je_fld (CF_Passing.na "_rows" (by simp)) (je_v 1)) (ja_nil)))) (je_globI c_MAX_LETTERS (by rfl)) (nomark _)) (js_one (js_never)) (js_nil)) (js_one (js_ret (je_new O_Passing____init__ (hr.mono (by decide)) (ja_cons (je_fn O__pair_rows (hr.mono (by decide)) (ja_cons (je_fld (CF_Passing.na "_rows" (by simp)) (je_v 0)) (ja_cons (je_fld (CF_Passing.na "_rows" (by simp)) (je_v 1)) (ja_nil)))) (ja_nil))))))
theorem sc_Passing__renamed : FnScope N_Passing__renamed P_Passing__renamed (defScope st_Passing__renamed) := ⟨rfl, rfl, rfl, by decide +kernel, rfl, by decide +kernel, by decide +kernel⟩
theorem bs_Passing__renamed : BindsM "renamed" "Passing.renamed" st_Passing__renamed P_Passing__renamed := fun _ _ _ _ _ _ us hl => match us, hl with | [_, _], _ => rfl
theorem j_Passing__renamed (B : Bl mg) (CF_Passing : ClsF K mg "Passing" ["_rows", "_left", "_right", "_quiet"]) (O_check_move_of : Ok P w K mg base "check_move_of" P_check_move_of 4 (spD K 2 S_check_move_of)) (O_Passing____init__ : OkI P w K mg base "Passing" P_Passing____init__ 6 (spI K "Passing" 2 S_Passing____init__)) (O_renamed_table_rows : Ok P w K mg base "renamed_table_rows" P_renamed_table_rows 2 (spD K 2 S_renamed_table_rows)) : BodyCx P w K mg base "Passing.renamed" st_Passing__renamed N_Passing__renamed 8 fun X => JSs X (defBody st_Passing__renamed) g_Passing__renamed := fun f cdv A outer s H E hr => js_cons (js_expr (je_fn O_check_move_of (hr.mono (by decide)) (ja_cons (je_v 1) (ja_cons (je_callB calld_len B.len (by decide +kernel) (ja_cons (je_fld (CF_Passing.na "_rows" (by simp)) (je_v 0)) (ja_nil))) (ja_nil))))) (js_one (js_ret (je_new O_Passing____init__ (hr.mono (by decide)) (ja_cons (je_fn O_renamed_table_rows (hr.mono (by decide)) (ja_cons (je_fld (CF_Passing.na "_rows" (by simp)) (je_v 0)) (ja_cons (je_v 1) (ja_nil)))) (ja_nil)))))
theorem sc__law_right : FnScope N__law_right P__law_right (defScope st__law_right) := ⟨rfl, rfl, rfl, by decide +kernel, rfl, by decide +kernel, by decide +kernel⟩
theorem bs__law_right : BindsAs "_law_right" st__law_right P__law_right := fun _ _ _ _ _ _ us hl => match us, hl with | [_, _], _ => rfl
theorem j__law_right (B : Bl mg) (CF_Passing : ClsF K mg "Passing" ["_rows", "_left", "_right", "_quiet"]) (O_Passing____init__ : OkI P w K mg base "Passing" P_Passing____init__ 6 (spI K "Passing" 2 S_Passing____init__)) (O__law_shadow_rows : Ok P w K mg base "_law_shadow_rows" P__law_shadow_rows 2 (spD K 1 S__law_shadow_rows)) (O_shadow_of : Ok P w K mg base "shadow_of" P_shadow_of 4 (spD K 1 S_shadow_of)) (O__law_is_shadow : Ok P w K mg base "_law_is_shadow" P__law_is_shadow 1 (spD K 1 S__law_is_shadow)) (O__law_are_kept : Ok P w K mg base "_law_are_kept" P__law_are_kept 2 (spD K 2 S__law_are_kept)) (O__law_is_plain : Ok P w K mg base "_law_is_plain" P__law_is_plain 1 (spD K 1 S__law_is_plain)) (O_Passing__is_quiet : OkP P w K mg base (adrOf K "Passing") "is_quiet" 1 (spD K 1 S_Passing__is_quiet)) (O_shadow_paper : Ok P w K mg base "shadow_paper" P_shadow_paper 5 (spD K 1 S_shadow_paper)) (O_is_shadow_paper : Ok P w K mg base "is_shadow_paper" P_is_shadow_paper 5 (spD K 2 S_is_shadow_paper)) (O__law_drawn_move : Ok P w K mg base "_law_drawn_move" P__law_drawn_move 3 (spM K 2 S__law_drawn_move)) (O__law_undone : Ok P w K mg base "_law_undone" P__law_undone 1 (spD K 1 S__law_undone)) (O_Passing__renamed : OkM P w K mg base (adrOf K "Passing") "renamed" P_Passing__renamed 9 (spD K 2 S_Passing__renamed)) : BodyCx P w K mg base "_law_right" st__law_right N__law_right 11 fun X => JSs X (defBody st__law_right) g__law_right := fun f cdv A outer s H E hr => js_cons (js_parT (i := 2) (j := 3) rfl sc__law_right.nd rfl rfl (by decide) (by first | exact Or.inl rfl | exact Or.inr rfl) (by first | exact Or.inl rfl | exact Or.inr rfl) ((je_new O_Passing____init__ (hr.mono (by decide)) (ja_cons (je_v 1) (ja_nil))).jx) ((je_fn O__law_shadow_rows (hr.mono (by decide)) (ja_cons (je_v 1) (ja_nil))).jx)) (js_cons (js_if ((jw_or (jt_cmp (opd_ne hr.units) (je_fn O_shadow_of (hr.mono (by decide)) (ja_cons (je_v 2) (ja_nil))) (je_v 3) (nomark _)) (jw_or (jt_not (jt_val (je_fn O__law_is_shadow (hr.mono (by decide)) (ja_cons (je_v 3) (ja_nil))))) (jw_or1 (jt_not (jt_val (je_fn O__law_are_kept (hr.mono (by decide)) (ja_cons (je_v 1) (ja_cons (je_v 3) (ja_nil))))))))).jt) (js_one (js_ret (je_bl))) (js_nil)) (js_cons (js_if ((jw_or (jt_cmp (opd_ne hr.units) (je_prop O_Passing__is_quiet CF_Passing.cl (hr.mono (by decide)) (je_v 2)) (je_fn O__law_is_plain (hr.mono (by decide)) (ja_cons (je_v 3) (ja_nil))) (nomark _)) (jw_or (jt_cmp (opd_ne hr.units) (je_fn O_shadow_paper (hr.mono (by decide)) (ja_cons (je_v 3) (ja_nil))) (je_tup (ja_cons (je_str) (ja_nil))) (nomark _)) (jw_or1 (jt_not (jt_val (je_fn O_is_shadow_paper (hr.mono (by decide)) (ja_cons (je_v 3) (ja_cons (je_tup (ja_cons (je_str) (ja_nil))) (ja_nil))))))))).jt) (js_one (js_ret (je_bl))) (js_nil)) (js_cons (js_set (i := 4) ((je_fnM O__law_drawn_move (hr.mono (by decide)) (i := 0) rfl (by first | exact Or.inl rfl | exact Or.inr (Or.inl rfl) | exact Or.inr (Or.inr rfl)) (ja_cons (je_callB calld_len B.len (by decide +kernel) (ja_cons (je_v 1) (ja_nil))) (ja_nil))).jx) sc__law_right.nd rfl (by first | exact Or.inl rfl | exact Or.inr rfl)) (js_cons (js_set (i := 5) ((je_fn O__law_undone (hr.mono (by decide)) (ja_cons (je_v 4) (ja_nil))).jx) sc__law_right.nd rfl (by first | exact Or.inl rfl | exact Or.inr rfl)) (js_cons (js_set (i := 6) ((je_callTy calld_tuple B.tuple (by decide +kernel) (ja_cons ((jl_lc (own := [("_law_x", 7)]) rfl sc__law_right.nd (ji_sq (je_v 4)) (blkOk_by (by rfl)) (fun _ _ _ _ _ => jg_n 7 sc__law_right.nd) (fun _ _ _ _ _ => jts_nil) (fun _ _ _ _ _ => je_callTy calld_tuple B.tuple (by decide +kernel) (ja_cons ((jl_lc (own := [("_law_y", 8)]) rfl sc__law_right.nd (ji_sq (je_v 4)) (blkOk_by (by rfl)) (fun _ _ _ _ _ => jg_n 8 sc__law_right.nd) (fun _ _ _ _ _ => jts_nil) (fun _ _ _ _ _ => je_ix (je_v 5) (je_ix (je_ix (je_v 3) (je_v 7)) (je_v 8)))).je) (ja_nil)))).je) (ja_nil))).jx) sc__law_right.nd rfl (by first | exact Or.inl rfl | exact Or.inr rfl)) (js_one (js_ret (je_cmp (opd_eq hr.units) (je_fn O_shadow_of (hr.mono (by decide)) (ja_cons (je_meth O_Passing__renamed CF_Passing.cl (hr.mono (by decide)) (je_v 2) (ja_cons (je_v 4) (ja_nil))) (ja_nil))) (je_v 6) (nomark _)))))))))
theorem sc__law_pairs_right : FnScope N__law_pairs_right P__law_pairs_right (defScope st__law_pairs_right) := ⟨rfl, rfl, rfl, by decide +kernel, rfl, by decide +kernel, by decide +kernel⟩
theorem bs__law_pairs_right : BindsAs "_law_pairs_right" st__law_pairs_right P__law_pairs_right := fun _ _ _ _ _ _ us hl => match us, hl with | [_, _], _ => rfl
theorem j__law_pairs_right (B : Bl mg) (CF_Passing : ClsF K mg "Passing" ["_rows", "_left", "_right", "_quiet"]) (O__law_shadow_rows : Ok P w K mg base "_law_shadow_rows" P__law_shadow_rows 2 (spD K 1 S__law_shadow_rows)) (O_shadow_of : Ok P w K mg base "shadow_of" P_shadow_of 4 (spD K 1 S_shadow_of)) (O_Passing____mul__ : OkM P w K mg base (adrOf K "Passing") "__mul__" P_Passing____mul__ 9 (spD K 2 S_Passing____mul__)) (O_Passing____init__ : OkI P w K mg base "Passing" P_Passing____init__ 6 (spI K "Passing" 2 S_Passing____init__)) (SF_Passing : PySem.W.selfFirst K (adrOf K "Passing") = true) : BodyCx P w K mg base "_law_pairs_right" st__law_pairs_right N__law_pairs_right 11 fun X => JSs X (defBody st__law_pairs_right) g__law_pairs_right := fun f cdv A outer s H E hr => js_cons (js_par (i := 2) (j := 3) rfl sc__law_pairs_right.nd rfl rfl (by decide) rfl rfl ((je_callB calld_len B.len (by decide +kernel) (ja_cons (je_v 1) (ja_nil))).jx) ((jl_lst (ja_nil)).jx) rfl) (js_cons (js_par (i := 4) (j := 5) rfl sc__law_pairs_right.nd rfl rfl (by decide) rfl rfl ((je_fn O__law_shadow_rows (hr.mono (by decide)) (ja_cons (je_v 0) (ja_nil))).jx) ((je_fn O__law_shadow_rows (hr.mono (by decide)) (ja_cons (je_v 1) (ja_nil))).jx) rfl) (js_cons (js_for (vs := [6]) rfl (ji_r1 B.range (je_bin opd_mulA (je_callB calld_len B.len (by decide +kernel) (ja_cons (je_v 0) (ja_nil))) (je_v 2))) (jg_n 6 sc__law_pairs_right.nd) (js_cons (js_par3F (i := 7) (j := 8) (k := 9) rfl sc__law_pairs_right.nd rfl rfl rfl (by decide) (by decide) (by decide) rfl rfl rfl ((jl_lst (ja_nil)).jx) (je_ix (je_v 4) (je_bin opd_fdiv (je_v 6) (je_v 2))) (je_ix (je_v 5) (je_bin opd_mod (je_v 6) (je_v 2))) rfl) (js_cons (js_for (vs := [10]) rfl (ji_r1 B.range (je_bin opd_mulA (je_callB calld_len B.len (by decide +kernel) (ja_cons (je_v 0) (ja_nil))) (je_v 2))) (jg_n 10 sc__law_pairs_right.nd) (js_one (js_expr (je_app (i := 7) rfl (by first | exact Or.inl rfl | exact Or.inr (Or.inl rfl) | exact Or.inr (Or.inr rfl)) (je_bin opd_add (je_bin opd_mulA (je_ix (je_v 8) (je_bin opd_fdiv (je_v 10) (je_v 2))) (je_v 2)) (je_ix (je_v 9) (je_bin opd_mod (je_v 10) (je_v 2)))))))) (js_one (js_expr (je_app (i := 3) rfl (by first | exact Or.inl rfl | exact Or.inr (Or.inl rfl) | exact Or.inr (Or.inr rfl)) (je_tupleO B.tuple (i := 7) rfl (by first | exact Or.inl rfl | exact Or.inr (Or.inl rfl) | exact Or.inr (Or.inr rfl))))))))) (js_one (js_ret (je_cmp (opd_eq hr.units) (je_fn O_shadow_of (hr.mono (by decide)) (ja_cons (je_mulI O_Passing____mul__.slot CF_Passing SF_Passing (hr.mono (by decide)) (je_new O_Passing____init__ (hr.mono (by decide)) (ja_cons (je_v 0) (ja_nil))) (je_new O_Passing____init__ (hr.mono (by decide)) (ja_cons (je_v 1) (ja_nil)))) (ja_nil))) (je_tupleO B.tuple (i := 3) rfl (by first | exact Or.inl rfl | exact Or.inr (Or.inl rfl) | exact Or.inr (Or.inr rfl))) (nomark _))))))
theorem sc_law : FnScope N_law P_law (defScope st_law) := ⟨rfl, rfl, rfl, by decide +kernel, rfl, by decide +kernel, by decide +kernel⟩
theorem j_law (B : Bl mg) (O__law_dice : Ok P w K mg base "_law_dice" P__law_dice 1 (spL K 2 S__law_dice)) (O__law_right : Ok P w K mg base "_law_right" P__law_right 12 (spM K 2 S__law_right)) (O__law_fair_rows : Ok P w K mg base "_law_fair_rows" P__law_fair_rows 6 (spM K 3 S__law_fair_rows)) (O__law_pairs_right : Ok P w K mg base "_law_pairs_right" P__law_pairs_right 12 (spD K 2 S__law_pairs_right)) (O_Passing____init__ : OkI P w K mg base "Passing" P_Passing____init__ 6 (spI K "Passing" 2 S_Passing____init__)) (O_shadow_of : Ok P w K mg base "shadow_of" P_shadow_of 4 (spD K 1 S_shadow_of)) : BodyCx P w K mg base "law" st_law N_law 12 fun X => JSs X (defBody st_law) g_law := fun f cdv A outer s H E hr => js_cons (js_for (vs := [1]) rfl (ji_r1 B.range (je_callB (calld_max2 rfl) B.max (by decide +kernel) (ja_cons (je_int) (ja_cons (je_callB (calld_min2 rfl) B.min (by decide +kernel) (ja_cons (je_int) (ja_cons (je_callB calld_len B.len (by decide +kernel) (ja_cons (je_v 0) (ja_nil))) (ja_nil)))) (ja_nil))))) (jg_n 1 sc_law.nd) (js_cons (js_set (i := 2) ((jl_fn O__law_dice (hr.mono (by decide)) (ja_cons (je_v 0) (ja_cons (je_v 1) (ja_nil)))).jx) sc_law.nd rfl (by first | exact Or.inl rfl | exact Or.inr rfl)) (js_cons (js_for (vs := [3]) rfl (ji_r1 B.range (je_int)) (jg_n 3 sc_law.nd) (js_one (js_if (jt_not (jt_val (je_fnM O__law_right (hr.mono (by decide)) (i := 2) rfl (by first | exact Or.inl rfl | exact Or.inr (Or.inl rfl) | exact Or.inr (Or.inr rfl)) (ja_cons (je_fnM O__law_fair_rows (hr.mono (by decide)) (i := 2) rfl (by first | exact Or.inl rfl | exact Or.inr (Or.inl rfl) | exact Or.inr (Or.inr rfl)) (ja_cons (je_int) (ja_cons (je_int) (ja_nil)))) (ja_nil))))) (js_one (js_ret (je_bl))) (js_nil)))) (js_one (js_if (jt_not (jt_val (je_fn O__law_pairs_right (hr.mono (by decide)) (ja_cons (je_fnM O__law_fair_rows (hr.mono (by decide)) (i := 2) rfl (by first | exact Or.inl rfl | exact Or.inr (Or.inl rfl) | exact Or.inr (Or.inr rfl)) (ja_cons (je_int) (ja_cons (je_int) (ja_nil)))) (ja_cons (je_fnM O__law_fair_rows (hr.mono (by decide)) (i := 2) rfl (by first | exact Or.inl rfl | exact Or.inr (Or.inl rfl) | exact Or.inr (Or.inr rfl)) (ja_cons (je_int) (ja_cons (je_int) (ja_nil)))) (ja_nil)))))) (js_one (js_ret (je_bl))) (js_nil)))))) (js_cons (js_set (i := 4) ((je_new O_Passing____init__ (hr.mono (by decide)) (ja_cons (je_tup (ja_cons (je_tup (ja_cons (je_tup (ja_cons (je_int) (ja_cons (je_int) (ja_nil)))) (ja_cons (je_tup (ja_cons (je_int) (ja_cons (je_int) (ja_nil)))) (ja_cons (je_tup (ja_cons (je_int) (ja_cons (je_int) (ja_nil)))) (ja_nil))))) (ja_cons (je_tup (ja_cons (je_tup (ja_cons (je_int) (ja_cons (je_int) (ja_nil)))) (ja_cons (je_tup (ja_cons (je_int) (ja_cons (je_int) (ja_nil)))) (ja_cons (je_tup (ja_cons (je_int) (ja_cons (je_int) (ja_nil)))) (ja_nil))))) (ja_cons (je_tup (ja_cons (je_tup (ja_cons (je_int) (ja_cons (je_int) (ja_nil)))) (ja_cons (je_tup (ja_cons (je_int) (ja_cons (je_int) (ja_nil)))) (ja_cons (je_tup (ja_cons (je_int) (ja_cons (je_int) (ja_nil)))) (ja_nil))))) (ja_nil))))) (ja_nil))).jx) sc_law.nd rfl (by first | exact Or.inl rfl | exact Or.inr rfl)) (js_one (js_ret (je_and (je_cmp (opd_eq hr.units) (je_fn O_shadow_of (hr.mono (by decide)) (ja_cons (je_v 4) (ja_nil))) (je_tup (ja_cons (je_tup (ja_cons (je_int) (ja_cons (je_int) (ja_cons (je_int) (ja_nil))))) (ja_cons (je_tup (ja_cons (je_int) (ja_cons (je_int) (ja_cons (je_int) (ja_nil))))) (ja_cons (je_tup (ja_cons (je_int) (ja_cons (je_int) (ja_cons (je_int) (ja_nil))))) (ja_nil))))) (nomark _)) (je_one (je_cmp (opd_eq hr.units) (je_fn O_shadow_of (hr.mono (by decide)) (ja_cons (je_new O_Passing____init__ (hr.mono (by decide)) (ja_cons (je_tup (ja_nil)) (ja_nil))) (ja_nil))) (je_tup (ja_nil)) (nomark _)))))))
end
end Dn.T.K68
set_option Elab.async false
set_option linter.all false
set_option maxRecDepth 100000
set_option autoImplicit false
set_option maxHeartbeats 4000000
namespace Dn.T.K68
open PySem PySem.Spec PyProof.Rows L2 Evl
theorem start_law {K : PySem.W.Frag} {H : Hp} {a : Addr} {ns : List Int} (hl : ns.length ≤ 63) (hS : SqL K H a (ns.map V.int)) : spD K 1 S_law [.ref a] H (fun v _ => v = .bl true) fun _ _ _ => False := by
  refine ⟨rfl, fun _ => False, [scr ns], fun d => d = .bool true, fun _ h => h.elim, start_scr hS, ⟨ns, rfl, hl, rfl⟩, fun v d H' q _ r => ?_⟩
  subst q
  cases r
  rfl
theorem facts {P : Program} {w : World} {K : PySem.W.Frag} {h : Heap} {mg : Str → Option Value} {f : Addr} (X : K.In h) (G : h.Ns mainGlobals mg) (hfa : mg ("law" : Str) = some (.ref f)) (cx : He.SaysX Hd.bf Hd.fa Hd.fn Hd.xb Hd.xf Hd.vals K) :
    ∃ fd : FuncData, (∀ (s : Shared) (v : Value), BindsTo s fd ⟨[v], []⟩ [("_law_script", v)]) ∧ ∀ base : Heap, K.In base → base.Ns mainGlobals mg → FnOk P w K mg base L2.CX0 13 f fd ["_law_script"] (spD K 1 S_law) := by
  have cb := cx.b
  have c := cb.d
  have hx := cx.x
  unfold Hd.xb at hx
  simp only [Bool.and_eq_true] at hx
  obtain ⟨x0, x1, x2, x3, x4, x5, x6, x7⟩ := hx
  have hv := cx.f
  unfold Hd.xf Hd.vals at hv
  simp only [List.cons.injEq, and_true] at hv
  obtain ⟨v0, v1, v2⟩ := hv
  have cl_Passing := He.cls_ok (c.fact 88 (f := .cls "Passing") rfl)
  obtain ⟨ad_Passing, ob_Passing, ic_Passing, ne_Passing⟩ := He.obB_ok x0 cl_Passing
  have CF_Passing : ClsF K mg "Passing" ["_rows", "_left", "_right", "_quiet"] := by
    refine ⟨?_, ?_, ob_Passing, ic_Passing, ne_Passing, fun f hf => ?_⟩
    · rw [ad_Passing]; exact He.glo_ok X G (c.fact 87 (f := .glo "Passing") rfl)
    · rw [ad_Passing]; exact cl_Passing
    · simp only [List.mem_cons, List.not_mem_nil, or_false] at hf
      rw [ad_Passing]
      rcases hf with rfl | rfl | rfl | rfl
      · exact He.noat_ok (c.fact 90 (f := .noat "Passing" "_rows") rfl)
      · exact He.noat_ok (c.fact 91 (f := .noat "Passing" "_left") rfl)
      · exact He.noat_ok (c.fact 92 (f := .noat "Passing" "_right") rfl)
      · exact He.noat_ok (c.fact 93 (f := .noat "Passing" "_quiet") rfl)
  have F_is_integer : Is K mg "is_integer" st_is_integer := by
    obtain ⟨fd, F⟩ := c.def_ 1 (d := Hd.dd_is_integer) rfl
    exact ⟨_, fd, F, He.glo_ok X G (c.fact 1 (f := .glo "is_integer") rfl)⟩
  have F_is_row : Is K mg "is_row" st_is_row := by
    obtain ⟨fd, F⟩ := c.def_ 2 (d := Hd.dd_is_row) rfl
    exact ⟨_, fd, F, He.glo_ok X G (c.fact 2 (f := .glo "is_row") rfl)⟩
  have F_is_square : Is K mg "is_square" st_is_square := by
    obtain ⟨fd, F⟩ := c.def_ 3 (d := Hd.dd_is_square) rfl
    exact ⟨_, fd, F, He.glo_ok X G (c.fact 3 (f := .glo "is_square") rfl)⟩
  have F_is_same : Is K mg "is_same" st_is_same := by
    obtain ⟨fd, F⟩ := c.def_ 4 (d := Hd.dd_is_same) rfl
    exact ⟨_, fd, F, He.glo_ok X G (c.fact 4 (f := .glo "is_same") rfl)⟩
  have F_is_told : Is K mg "is_told" st_is_told := by
    obtain ⟨fd, F⟩ := c.def_ 5 (d := Hd.dd_is_told) rfl
    exact ⟨_, fd, F, He.glo_ok X G (c.fact 5 (f := .glo "is_told") rfl)⟩
  have F_is_move : Is K mg "is_move" st_is_move := by
    obtain ⟨fd, F⟩ := c.def_ 6 (d := Hd.dd_is_move) rfl
    exact ⟨_, fd, F, He.glo_ok X G (c.fact 6 (f := .glo "is_move") rfl)⟩
  have F_is_move_of : Is K mg "is_move_of" st_is_move_of := by
    obtain ⟨fd, F⟩ := c.def_ 7 (d := Hd.dd_is_move_of) rfl
    exact ⟨_, fd, F, He.glo_ok X G (c.fact 7 (f := .glo "is_move_of") rfl)⟩
  have F_check_move_of : Is K mg "check_move_of" st_check_move_of := by
    obtain ⟨fd, F⟩ := c.def_ 8 (d := Hd.dd_check_move_of) rfl
    exact ⟨_, fd, F, He.glo_ok X G (c.fact 8 (f := .glo "check_move_of") rfl)⟩
  have F_joined_moves : Is K mg "joined_moves" st_joined_moves := by
    obtain ⟨fd, F⟩ := c.def_ 9 (d := Hd.dd_joined_moves) rfl
    exact ⟨_, fd, F, He.glo_ok X G (c.fact 9 (f := .glo "joined_moves") rfl)⟩
  have F_undone_move : Is K mg "undone_move" st_undone_move := by
    obtain ⟨fd, F⟩ := c.def_ 10 (d := Hd.dd_undone_move) rfl
    exact ⟨_, fd, F, He.glo_ok X G (c.fact 10 (f := .glo "undone_move") rfl)⟩
  have F__is_pairs : Is K mg "_is_pairs" st__is_pairs := by
    obtain ⟨fd, F⟩ := c.def_ 15 (d := Hd.dd__is_pairs) rfl
    exact ⟨_, fd, F, He.glo_ok X G (c.fact 15 (f := .glo "_is_pairs") rfl)⟩
  have F__pass_alike : Is K mg "_pass_alike" st__pass_alike := by
    obtain ⟨fd, F⟩ := c.def_ 17 (d := Hd.dd__pass_alike) rfl
    exact ⟨_, fd, F, He.glo_ok X G (c.fact 17 (f := .glo "_pass_alike") rfl)⟩
  have F__threes : Is K mg "_threes" st__threes := by
    obtain ⟨fd, F⟩ := c.def_ 18 (d := Hd.dd__threes) rfl
    exact ⟨_, fd, F, He.glo_ok X G (c.fact 18 (f := .glo "_threes") rfl)⟩
  have F__passed_left_first : Is K mg "_passed_left_first" st__passed_left_first := by
    obtain ⟨fd, F⟩ := c.def_ 20 (d := Hd.dd__passed_left_first) rfl
    exact ⟨_, fd, F, He.glo_ok X G (c.fact 20 (f := .glo "_passed_left_first") rfl)⟩
  have F__passed_right_first : Is K mg "_passed_right_first" st__passed_right_first := by
    obtain ⟨fd, F⟩ := c.def_ 21 (d := Hd.dd__passed_right_first) rfl
    exact ⟨_, fd, F, He.glo_ok X G (c.fact 21 (f := .glo "_passed_right_first") rfl)⟩
  have F_check_table : Is K mg "check_table" st_check_table := by
    obtain ⟨fd, F⟩ := c.def_ 22 (d := Hd.dd_check_table) rfl
    exact ⟨_, fd, F, He.glo_ok X G (c.fact 22 (f := .glo "check_table") rfl)⟩
  have F__passes_twice_unchanged : Is K mg "_passes_twice_unchanged" st__passes_twice_unchanged := by
    obtain ⟨fd, F⟩ := c.def_ 23 (d := Hd.dd__passes_twice_unchanged) rfl
    exact ⟨_, fd, F, He.glo_ok X G (c.fact 23 (f := .glo "_passes_twice_unchanged") rfl)⟩
  have F_renamed_table_rows : Is K mg "renamed_table_rows" st_renamed_table_rows := by
    obtain ⟨fd, F⟩ := c.def_ 24 (d := Hd.dd_renamed_table_rows) rfl
    exact ⟨_, fd, F, He.glo_ok X G (c.fact 24 (f := .glo "renamed_table_rows") rfl)⟩
  have F__pair_rows : Is K mg "_pair_rows" st__pair_rows := by
    obtain ⟨fd, F⟩ := c.def_ 25 (d := Hd.dd__pair_rows) rfl
    exact ⟨_, fd, F, He.glo_ok X G (c.fact 25 (f := .glo "_pair_rows") rfl)⟩
  have F__is_shadow : Is K mg "_is_shadow" st__is_shadow := by
    obtain ⟨fd, F⟩ := c.def_ 28 (d := Hd.dd__is_shadow) rfl
    exact ⟨_, fd, F, He.glo_ok X G (c.fact 28 (f := .glo "_is_shadow") rfl)⟩
  have F__breaks_shadow : Is K mg "_breaks_shadow" st__breaks_shadow := by
    obtain ⟨fd, F⟩ := c.def_ 29 (d := Hd.dd__breaks_shadow) rfl
    exact ⟨_, fd, F, He.glo_ok X G (c.fact 29 (f := .glo "_breaks_shadow") rfl)⟩
  have F__law_dice : Is K mg "_law_dice" st__law_dice := by
    obtain ⟨fd, F⟩ := c.def_ 31 (d := Hd.dd__law_dice) rfl
    exact ⟨_, fd, F, He.glo_ok X G (c.fact 31 (f := .glo "_law_dice") rfl)⟩
  have F__law_roll : Is K mg "_law_roll" st__law_roll := by
    obtain ⟨fd, F⟩ := c.def_ 32 (d := Hd.dd__law_roll) rfl
    exact ⟨_, fd, F, He.glo_ok X G (c.fact 32 (f := .glo "_law_roll") rfl)⟩
  have F__law_pick : Is K mg "_law_pick" st__law_pick := by
    obtain ⟨fd, F⟩ := c.def_ 33 (d := Hd.dd__law_pick) rfl
    exact ⟨_, fd, F, He.glo_ok X G (c.fact 33 (f := .glo "_law_pick") rfl)⟩
  have F__law_mixed : Is K mg "_law_mixed" st__law_mixed := by
    obtain ⟨fd, F⟩ := c.def_ 34 (d := Hd.dd__law_mixed) rfl
    exact ⟨_, fd, F, He.glo_ok X G (c.fact 34 (f := .glo "_law_mixed") rfl)⟩
  have F__law_orders : Is K mg "_law_orders" st__law_orders := by
    obtain ⟨fd, F⟩ := c.def_ 35 (d := Hd.dd__law_orders) rfl
    exact ⟨_, fd, F, He.glo_ok X G (c.fact 35 (f := .glo "_law_orders") rfl)⟩
  have F__law_joined : Is K mg "_law_joined" st__law_joined := by
    obtain ⟨fd, F⟩ := c.def_ 36 (d := Hd.dd__law_joined) rfl
    exact ⟨_, fd, F, He.glo_ok X G (c.fact 36 (f := .glo "_law_joined") rfl)⟩
  have F__law_undone : Is K mg "_law_undone" st__law_undone := by
    obtain ⟨fd, F⟩ := c.def_ 37 (d := Hd.dd__law_undone) rfl
    exact ⟨_, fd, F, He.glo_ok X G (c.fact 37 (f := .glo "_law_undone") rfl)⟩
  have F__law_drawn_move : Is K mg "_law_drawn_move" st__law_drawn_move := by
    obtain ⟨fd, F⟩ := c.def_ 38 (d := Hd.dd__law_drawn_move) rfl
    exact ⟨_, fd, F, He.glo_ok X G (c.fact 38 (f := .glo "_law_drawn_move") rfl)⟩
  have F__law_renamed_dots : Is K mg "_law_renamed_dots" st__law_renamed_dots := by
    obtain ⟨fd, F⟩ := c.def_ 39 (d := Hd.dd__law_renamed_dots) rfl
    exact ⟨_, fd, F, He.glo_ok X G (c.fact 39 (f := .glo "_law_renamed_dots") rfl)⟩
  have F__law_keeps_dots : Is K mg "_law_keeps_dots" st__law_keeps_dots := by
    obtain ⟨fd, F⟩ := c.def_ 41 (d := Hd.dd__law_keeps_dots) rfl
    exact ⟨_, fd, F, He.glo_ok X G (c.fact 41 (f := .glo "_law_keeps_dots") rfl)⟩
  have F__law_union_dots : Is K mg "_law_union_dots" st__law_union_dots := by
    obtain ⟨fd, F⟩ := c.def_ 42 (d := Hd.dd__law_union_dots) rfl
    exact ⟨_, fd, F, He.glo_ok X G (c.fact 42 (f := .glo "_law_union_dots") rfl)⟩
  have F__law_places_of : Is K mg "_law_places_of" st__law_places_of := by
    obtain ⟨fd, F⟩ := c.def_ 43 (d := Hd.dd__law_places_of) rfl
    exact ⟨_, fd, F, He.glo_ok X G (c.fact 43 (f := .glo "_law_places_of") rfl)⟩
  have F__law_product_dots : Is K mg "_law_product_dots" st__law_product_dots := by
    obtain ⟨fd, F⟩ := c.def_ 44 (d := Hd.dd__law_product_dots) rfl
    exact ⟨_, fd, F, He.glo_ok X G (c.fact 44 (f := .glo "_law_product_dots") rfl)⟩
  have F__law_small_dots : Is K mg "_law_small_dots" st__law_small_dots := by
    obtain ⟨fd, F⟩ := c.def_ 45 (d := Hd.dd__law_small_dots) rfl
    exact ⟨_, fd, F, He.glo_ok X G (c.fact 45 (f := .glo "_law_small_dots") rfl)⟩
  have F__law_rows_of_dots : Is K mg "_law_rows_of_dots" st__law_rows_of_dots := by
    obtain ⟨fd, F⟩ := c.def_ 47 (d := Hd.dd__law_rows_of_dots) rfl
    exact ⟨_, fd, F, He.glo_ok X G (c.fact 47 (f := .glo "_law_rows_of_dots") rfl)⟩
  have F__law_left_of : Is K mg "_law_left_of" st__law_left_of := by
    obtain ⟨fd, F⟩ := c.def_ 48 (d := Hd.dd__law_left_of) rfl
    exact ⟨_, fd, F, He.glo_ok X G (c.fact 48 (f := .glo "_law_left_of") rfl)⟩
  have F__law_right_of : Is K mg "_law_right_of" st__law_right_of := by
    obtain ⟨fd, F⟩ := c.def_ 49 (d := Hd.dd__law_right_of) rfl
    exact ⟨_, fd, F, He.glo_ok X G (c.fact 49 (f := .glo "_law_right_of") rfl)⟩
  have F__law_renamed_rows : Is K mg "_law_renamed_rows" st__law_renamed_rows := by
    obtain ⟨fd, F⟩ := c.def_ 50 (d := Hd.dd__law_renamed_rows) rfl
    exact ⟨_, fd, F, He.glo_ok X G (c.fact 50 (f := .glo "_law_renamed_rows") rfl)⟩
  have F__law_power : Is K mg "_law_power" st__law_power := by
    obtain ⟨fd, F⟩ := c.def_ 52 (d := Hd.dd__law_power) rfl
    exact ⟨_, fd, F, He.glo_ok X G (c.fact 52 (f := .glo "_law_power") rfl)⟩
  have F__law_shadow_rows : Is K mg "_law_shadow_rows" st__law_shadow_rows := by
    obtain ⟨fd, F⟩ := c.def_ 53 (d := Hd.dd__law_shadow_rows) rfl
    exact ⟨_, fd, F, He.glo_ok X G (c.fact 53 (f := .glo "_law_shadow_rows") rfl)⟩
  have F__law_is_shadow : Is K mg "_law_is_shadow" st__law_is_shadow := by
    obtain ⟨fd, F⟩ := c.def_ 54 (d := Hd.dd__law_is_shadow) rfl
    exact ⟨_, fd, F, He.glo_ok X G (c.fact 54 (f := .glo "_law_is_shadow") rfl)⟩
  have F__law_is_plain : Is K mg "_law_is_plain" st__law_is_plain := by
    obtain ⟨fd, F⟩ := c.def_ 55 (d := Hd.dd__law_is_plain) rfl
    exact ⟨_, fd, F, He.glo_ok X G (c.fact 55 (f := .glo "_law_is_plain") rfl)⟩
  have F__law_are_kept : Is K mg "_law_are_kept" st__law_are_kept := by
    obtain ⟨fd, F⟩ := c.def_ 56 (d := Hd.dd__law_are_kept) rfl
    exact ⟨_, fd, F, He.glo_ok X G (c.fact 56 (f := .glo "_law_are_kept") rfl)⟩
  have F_check_rows_shadows : IsA K mg "check_rows_shadows" "_check_rows" st_check_rows_shadows := by
    obtain ⟨fd, F⟩ := c.def_ 62 (d := Hd.dd_check_rows_shadows) rfl
    exact ⟨_, fd, F, He.glo_ok X G (c.fact 62 (f := .glo "check_rows_shadows") rfl)⟩
  have F_broken_paper_shadows : IsA K mg "broken_paper_shadows" "_broken_paper" st_broken_paper_shadows := by
    obtain ⟨fd, F⟩ := c.def_ 63 (d := Hd.dd_broken_paper_shadows) rfl
    exact ⟨_, fd, F, He.glo_ok X G (c.fact 63 (f := .glo "broken_paper_shadows") rfl)⟩
  have F_Passing__rows : IsP K (adrOf K "Passing") "rows" "Passing.rows" st_Passing__rows := by
    obtain ⟨fd, F⟩ := He.gfB_ok v0 x2
    rw [ad_Passing]
    exact ⟨_, _, fd, F, He.prB_ok x1⟩
  have F_Passing____len__ : IsM K (adrOf K "Passing") "__len__" "Passing.__len__" st_Passing____len__ := by
    obtain ⟨fd, F⟩ := c.def_ 65 (d := Hd.dd_Passing____len__) rfl
    rw [ad_Passing]
    exact ⟨_, fd, F, He.meth_ok (c.fact 94 (f := .meth "Passing" "__len__") rfl)⟩
  have F_Passing__left : IsP K (adrOf K "Passing") "left" "Passing.left" st_Passing__left := by
    obtain ⟨fd, F⟩ := He.gfB_ok v1 x4
    rw [ad_Passing]
    exact ⟨_, _, fd, F, He.prB_ok x3⟩
  have F_Passing__is_quiet : IsP K (adrOf K "Passing") "is_quiet" "Passing.is_quiet" st_Passing__is_quiet := by
    obtain ⟨fd, F⟩ := He.gfB_ok v2 x6
    rw [ad_Passing]
    exact ⟨_, _, fd, F, He.prB_ok x5⟩
  have F__is_table_rows : Is K mg "_is_table_rows" st__is_table_rows := by
    obtain ⟨fd, F⟩ := c.def_ 14 (d := Hd.dd__is_table_rows) rfl
    exact ⟨_, fd, F, He.glo_ok X G (c.fact 14 (f := .glo "_is_table_rows") rfl)⟩
  have F_are_fair_rows : Is K mg "are_fair_rows" st_are_fair_rows := by
    obtain ⟨fd, F⟩ := c.def_ 16 (d := Hd.dd_are_fair_rows) rfl
    exact ⟨_, fd, F, He.glo_ok X G (c.fact 16 (f := .glo "are_fair_rows") rfl)⟩
  have F__breaks_fair : Is K mg "_breaks_fair" st__breaks_fair := by
    obtain ⟨fd, F⟩ := c.def_ 19 (d := Hd.dd__breaks_fair) rfl
    exact ⟨_, fd, F, He.glo_ok X G (c.fact 19 (f := .glo "_breaks_fair") rfl)⟩
  have F_shadow_paper : Is K mg "shadow_paper" st_shadow_paper := by
    obtain ⟨fd, F⟩ := c.def_ 26 (d := Hd.dd_shadow_paper) rfl
    exact ⟨_, fd, F, He.glo_ok X G (c.fact 26 (f := .glo "shadow_paper") rfl)⟩
  have F_is_shadow_paper : Is K mg "is_shadow_paper" st_is_shadow_paper := by
    obtain ⟨fd, F⟩ := c.def_ 27 (d := Hd.dd_is_shadow_paper) rfl
    exact ⟨_, fd, F, He.glo_ok X G (c.fact 27 (f := .glo "is_shadow_paper") rfl)⟩
  have F_shadow_of : Is K mg "shadow_of" st_shadow_of := by
    obtain ⟨fd, F⟩ := c.def_ 30 (d := Hd.dd_shadow_of) rfl
    exact ⟨_, fd, F, He.glo_ok X G (c.fact 30 (f := .glo "shadow_of") rfl)⟩
  have F__law_dots_likenesses : Is K mg "_law_dots_likenesses" st__law_dots_likenesses := by
    obtain ⟨fd, F⟩ := c.def_ 40 (d := Hd.dd__law_dots_likenesses) rfl
    exact ⟨_, fd, F, He.glo_ok X G (c.fact 40 (f := .glo "_law_dots_likenesses") rfl)⟩
  have F__law_quiet_dots : Is K mg "_law_quiet_dots" st__law_quiet_dots := by
    obtain ⟨fd, F⟩ := c.def_ 46 (d := Hd.dd__law_quiet_dots) rfl
    exact ⟨_, fd, F, He.glo_ok X G (c.fact 46 (f := .glo "_law_quiet_dots") rfl)⟩
  have F__law_fair_rows : Is K mg "_law_fair_rows" st__law_fair_rows := by
    obtain ⟨fd, F⟩ := c.def_ 51 (d := Hd.dd__law_fair_rows) rfl
    exact ⟨_, fd, F, He.glo_ok X G (c.fact 51 (f := .glo "_law_fair_rows") rfl)⟩
  have F_broken_paper_passing : IsA K mg "broken_paper_passing" "_broken_paper" st_broken_paper_passing := by
    obtain ⟨fd, F⟩ := c.def_ 60 (d := Hd.dd_broken_paper_passing) rfl
    exact ⟨_, fd, F, He.glo_ok X G (c.fact 60 (f := .glo "broken_paper_passing") rfl)⟩
  have F_check_rows_passing : IsA K mg "check_rows_passing" "_check_rows" st_check_rows_passing := by
    obtain ⟨fd, F⟩ := c.def_ 61 (d := Hd.dd_check_rows_passing) rfl
    exact ⟨_, fd, F, He.glo_ok X G (c.fact 61 (f := .glo "check_rows_passing") rfl)⟩
  have F_fair_paper : Is K mg "fair_paper" st_fair_paper := by
    obtain ⟨fd, F⟩ := c.def_ 11 (d := Hd.dd_fair_paper) rfl
    exact ⟨_, fd, F, He.glo_ok X G (c.fact 11 (f := .glo "fair_paper") rfl)⟩
  have F_Passing____init__ : ∃ f fd, FunD K "__init__" "Passing.__init__" (defArgs st_Passing____init__) (defBody st_Passing____init__) (defScope st_Passing____init__) [] [] f fd ∧ L2.Mk K (adrOf K "Passing") f := by
    obtain ⟨fd, F⟩ := c.def_ 64 (d := Hd.dd_Passing____init__) rfl
    rw [ad_Passing]
    exact ⟨_, fd, F, He.mkr_ok (c.fact 89 (f := .mkr "Passing") rfl)⟩
  have F_Passing____mul__ : IsM K (adrOf K "Passing") "__mul__" "Passing.__mul__" st_Passing____mul__ := by
    obtain ⟨fd, F⟩ := c.def_ 66 (d := Hd.dd_Passing____mul__) rfl
    rw [ad_Passing]
    exact ⟨_, fd, F, He.meth_ok (c.fact 95 (f := .meth "Passing" "__mul__") rfl)⟩
  have F_Passing__renamed : IsM K (adrOf K "Passing") "renamed" "Passing.renamed" st_Passing__renamed := by
    obtain ⟨fd, F⟩ := c.def_ 67 (d := Hd.dd_Passing__renamed) rfl
    rw [ad_Passing]
    exact ⟨_, fd, F, He.meth_ok (c.fact 96 (f := .meth "Passing" "renamed") rfl)⟩
  have F__law_right : Is K mg "_law_right" st__law_right := by
    obtain ⟨fd, F⟩ := c.def_ 57 (d := Hd.dd__law_right) rfl
    exact ⟨_, fd, F, He.glo_ok X G (c.fact 57 (f := .glo "_law_right") rfl)⟩
  have F__law_pairs_right : Is K mg "_law_pairs_right" st__law_pairs_right := by
    obtain ⟨fd, F⟩ := c.def_ 58 (d := Hd.dd__law_pairs_right) rfl
    exact ⟨_, fd, F, He.glo_ok X G (c.fact 58 (f := .glo "_law_pairs_right") rfl)⟩
  have SF_Passing : PySem.W.selfFirst K (adrOf K "Passing") = true := by rw [ad_Passing]; exact x7
  have B : Bl mg := ⟨He.free_ok X G (c.fact 64 (f := .free "len") rfl), He.free_ok X G (c.fact 65 (f := .free "range") rfl), He.free_ok X G (c.fact 66 (f := .free "tuple") rfl), He.free_ok X G (c.fact 67 (f := .free "list") rfl), He.free_ok X G (c.fact 68 (f := .free "isinstance") rfl), He.free_ok X G (c.fact 69 (f := .free "int") rfl), He.free_ok X G (c.fact 70 (f := .free "bool") rfl), He.free_ok X G (c.fact 71 (f := .free "str") rfl), He.free_ok X G (c.fact 72 (f := .free "abs") rfl), He.free_ok X G (c.fact 73 (f := .free "max") rfl), He.free_ok X G (c.fact 74 (f := .free "min") rfl), He.free_ok X G (c.fact 75 (f := .free "all") rfl), He.free_ok X G (c.fact 76 (f := .free "any") rfl), He.free_ok X G (c.fact 77 (f := .free "sum") rfl), He.free_ok X G (c.fact 78 (f := .free "sorted") rfl), He.free_ok X G (c.fact 79 (f := .free "enumerate") rfl), He.free_ok X G (c.fact 80 (f := .free "repr") rfl), He.free_ok X G (c.fact 81 (f := .free "set") rfl), He.free_ok X G (c.fact 82 (f := .free "dict") rfl), He.free_ok X G (c.fact 83 (f := .free "zip") rfl)⟩
  obtain ⟨t_TOO_LONG, c_TOO_LONG⟩ := He.int_ok X G (c.fact 84 (f := .int "TOO_LONG" 1000000000000000000000000000000000000000000000000000000000000) rfl)
  obtain ⟨t_MAX_MOVED, c_MAX_MOVED⟩ := He.int_ok X G (c.fact 85 (f := .int "MAX_MOVED" 24) rfl)
  obtain ⟨t_MAX_LETTERS, c_MAX_LETTERS⟩ := He.int_ok X G (c.fact 86 (f := .int "MAX_LETTERS" 8) rfl)
  obtain ⟨fd, F⟩ := c.def_ 59 (d := Hd.dd_law) rfl
  have e := hfa.symm.trans (He.glo_ok X G (c.fact 59 (f := .glo "law") rfl))
  cases e
  have b := FunD.bindsA (ps := ["_law_script"]) F fun _ _ _ _ _ _ us hl => match us, hl with | [_], _ => rfl
  refine ⟨fd, fun s v => b s [v] rfl, fun base _ _ => ?_⟩
  have O_is_integer : Ok P w K mg base "is_integer" P_is_integer 1 (spD K 1 S_is_integer) := ok_D F_is_integer sc_is_integer bs_is_integer (j_is_integer B c_TOO_LONG) v_is_integer
  have O_is_row : Ok P w K mg base "is_row" P_is_row 1 (spD K 3 S_is_row) := ok_D F_is_row sc_is_row bs_is_row (j_is_row B) v_is_row
  have O_is_square : Ok P w K mg base "is_square" P_is_square 2 (spD K 3 S_is_square) := ok_D F_is_square sc_is_square bs_is_square (j_is_square B O_is_row) v_is_square
  have O_is_same0 : Ok P w K mg base "is_same" P_is_same 2 (spD K 2 S_is_same0) := ok_D F_is_same sc_is_same bs_is_same (j_is_same0 B O_is_integer) v_is_same0
  have O_is_same : Ok P w K mg base "is_same" P_is_same 3 (spD K 2 S_is_same) := ok_D F_is_same sc_is_same bs_is_same (j_is_same B O_is_integer O_is_same0) v_is_same
  have O_is_told : Ok P w K mg base "is_told" P_is_told 4 (spD K 4 S_is_told) := ok_D F_is_told sc_is_told bs_is_told (j_is_told B O_is_same O_is_row) v_is_told
  have O_is_move : Ok P w K mg base "is_move" P_is_move 2 (spD K 1 S_is_move) := ok_D F_is_move sc_is_move bs_is_move (j_is_move B c_MAX_MOVED O_is_row) v_is_move
  have O_is_move_of : Ok P w K mg base "is_move_of" P_is_move_of 3 (spD K 2 S_is_move_of) := ok_D F_is_move_of sc_is_move_of bs_is_move_of (j_is_move_of B O_is_move) v_is_move_of
  have O_check_move_of : Ok P w K mg base "check_move_of" P_check_move_of 4 (spD K 2 S_check_move_of) := ok_D F_check_move_of sc_check_move_of bs_check_move_of (j_check_move_of O_is_move_of) v_check_move_of
  have O_joined_moves : Ok P w K mg base "joined_moves" P_joined_moves 1 (spD K 2 S_joined_moves) := ok_D F_joined_moves sc_joined_moves bs_joined_moves (j_joined_moves B) v_joined_moves
  have O_undone_move : Ok P w K mg base "undone_move" P_undone_move 1 (spD K 1 S_undone_move) := ok_D F_undone_move sc_undone_move bs_undone_move (j_undone_move B) v_undone_move
  have O__is_pairs : Ok P w K mg base "_is_pairs" P__is_pairs 2 (spD K 2 S__is_pairs) := ok_D F__is_pairs sc__is_pairs bs__is_pairs (j__is_pairs B O_is_row) v__is_pairs
  have O__pass_alike : Ok P w K mg base "_pass_alike" P__pass_alike 1 (spD K 5 S__pass_alike) := ok_D F__pass_alike sc__pass_alike bs__pass_alike (j__pass_alike B) v__pass_alike
  have O__threes : Ok P w K mg base "_threes" P__threes 1 (spD K 1 S__threes) := ok_D F__threes sc__threes bs__threes (j__threes B) v__threes
  have O__passed_left_first : Ok P w K mg base "_passed_left_first" P__passed_left_first 1 (spD K 4 S__passed_left_first) := ok_D F__passed_left_first sc__passed_left_first bs__passed_left_first (j__passed_left_first) v__passed_left_first
  have O__passed_right_first : Ok P w K mg base "_passed_right_first" P__passed_right_first 1 (spD K 4 S__passed_right_first) := ok_D F__passed_right_first sc__passed_right_first bs__passed_right_first (j__passed_right_first) v__passed_right_first
  have O_check_table : Ok P w K mg base "check_table" P_check_table 1 (spD K 1 S_check_table) := ok_D F_check_table sc_check_table bs_check_table (j_check_table B CF_Passing) v_check_table
  have O__passes_twice_unchanged : Ok P w K mg base "_passes_twice_unchanged" P__passes_twice_unchanged 1 (spD K 1 S__passes_twice_unchanged) := ok_D F__passes_twice_unchanged sc__passes_twice_unchanged bs__passes_twice_unchanged (j__passes_twice_unchanged B) v__passes_twice_unchanged
  have O_renamed_table_rows : Ok P w K mg base "renamed_table_rows" P_renamed_table_rows 2 (spD K 2 S_renamed_table_rows) := ok_D F_renamed_table_rows sc_renamed_table_rows bs_renamed_table_rows (j_renamed_table_rows B O_undone_move) v_renamed_table_rows
  have O__pair_rows : Ok P w K mg base "_pair_rows" P__pair_rows 1 (spD K 2 S__pair_rows) := ok_D F__pair_rows sc__pair_rows bs__pair_rows (j__pair_rows B) v__pair_rows
  have O__is_shadow : Ok P w K mg base "_is_shadow" P__is_shadow 4 (spD K 1 S__is_shadow) := ok_D F__is_shadow sc__is_shadow bs__is_shadow (j__is_shadow B O_is_move_of O_joined_moves) v__is_shadow
  have O__breaks_shadow : Ok P w K mg base "_breaks_shadow" P__breaks_shadow 1 (spD K 3 S__breaks_shadow) := ok_D F__breaks_shadow sc__breaks_shadow bs__breaks_shadow (j__breaks_shadow) v__breaks_shadow
  have O__law_dice : Ok P w K mg base "_law_dice" P__law_dice 1 (spL K 2 S__law_dice) := ok_L F__law_dice sc__law_dice bs__law_dice (j__law_dice B) v__law_dice
  have O__law_roll : Ok P w K mg base "_law_roll" P__law_roll 1 (spM K 2 S__law_roll) := ok_M F__law_roll sc__law_roll bs__law_roll (j__law_roll B) v__law_roll
  have O__law_pick : Ok P w K mg base "_law_pick" P__law_pick 2 (spM K 2 S__law_pick) := ok_M F__law_pick sc__law_pick bs__law_pick (j__law_pick B O__law_roll) v__law_pick
  have O__law_mixed : Ok P w K mg base "_law_mixed" P__law_mixed 2 (spM K 2 S__law_mixed) := ok_M F__law_mixed sc__law_mixed bs__law_mixed (j__law_mixed B O__law_roll) v__law_mixed
  have O__law_orders : Ok P w K mg base "_law_orders" P__law_orders 1 (spD K 1 S__law_orders) := ok_D F__law_orders sc__law_orders bs__law_orders (j__law_orders B) v__law_orders
  have O__law_joined : Ok P w K mg base "_law_joined" P__law_joined 1 (spD K 2 S__law_joined) := ok_D F__law_joined sc__law_joined bs__law_joined (j__law_joined B) v__law_joined
  have O__law_undone : Ok P w K mg base "_law_undone" P__law_undone 1 (spD K 1 S__law_undone) := ok_D F__law_undone sc__law_undone bs__law_undone (j__law_undone B) v__law_undone
  have O__law_drawn_move : Ok P w K mg base "_law_drawn_move" P__law_drawn_move 3 (spM K 2 S__law_drawn_move) := ok_M F__law_drawn_move sc__law_drawn_move bs__law_drawn_move (j__law_drawn_move B O__law_mixed) v__law_drawn_move
  have O__law_renamed_dots : Ok P w K mg base "_law_renamed_dots" P__law_renamed_dots 2 (spD K 2 S__law_renamed_dots) := ok_D F__law_renamed_dots sc__law_renamed_dots bs__law_renamed_dots (j__law_renamed_dots B O__law_undone) v__law_renamed_dots
  have O__law_keeps_dots : Ok P w K mg base "_law_keeps_dots" P__law_keeps_dots 1 (spD K 2 S__law_keeps_dots) := ok_D F__law_keeps_dots sc__law_keeps_dots bs__law_keeps_dots (j__law_keeps_dots B) v__law_keeps_dots
  have O__law_union_dots : Ok P w K mg base "_law_union_dots" P__law_union_dots 1 (spD K 4 S__law_union_dots) := ok_D F__law_union_dots sc__law_union_dots bs__law_union_dots (j__law_union_dots B) v__law_union_dots
  have O__law_places_of : Ok P w K mg base "_law_places_of" P__law_places_of 1 (spD K 2 S__law_places_of) := ok_D F__law_places_of sc__law_places_of bs__law_places_of (j__law_places_of B) v__law_places_of
  have O__law_product_dots : Ok P w K mg base "_law_product_dots" P__law_product_dots 2 (spD K 2 S__law_product_dots) := ok_D F__law_product_dots sc__law_product_dots bs__law_product_dots (j__law_product_dots B O__law_places_of) v__law_product_dots
  have O__law_small_dots : Ok P w K mg base "_law_small_dots" P__law_small_dots 4 (spM K 2 S__law_small_dots) := ok_M F__law_small_dots sc__law_small_dots bs__law_small_dots (j__law_small_dots B O__law_roll O__law_pick O__law_drawn_move) v__law_small_dots
  have O__law_rows_of_dots : Ok P w K mg base "_law_rows_of_dots" P__law_rows_of_dots 2 (spD K 1 S__law_rows_of_dots) := ok_D F__law_rows_of_dots sc__law_rows_of_dots bs__law_rows_of_dots (j__law_rows_of_dots B O__law_undone) v__law_rows_of_dots
  have O__law_left_of : Ok P w K mg base "_law_left_of" P__law_left_of 1 (spD K 1 S__law_left_of) := ok_D F__law_left_of sc__law_left_of bs__law_left_of (j__law_left_of B) v__law_left_of
  have O__law_right_of : Ok P w K mg base "_law_right_of" P__law_right_of 1 (spD K 1 S__law_right_of) := ok_D F__law_right_of sc__law_right_of bs__law_right_of (j__law_right_of B) v__law_right_of
  have O__law_renamed_rows : Ok P w K mg base "_law_renamed_rows" P__law_renamed_rows 2 (spD K 2 S__law_renamed_rows) := ok_D F__law_renamed_rows sc__law_renamed_rows bs__law_renamed_rows (j__law_renamed_rows B O__law_undone) v__law_renamed_rows
  have O__law_power : Ok P w K mg base "_law_power" P__law_power 2 (spD K 2 S__law_power) := ok_D F__law_power sc__law_power bs__law_power (j__law_power B O__law_joined) v__law_power
  have O__law_shadow_rows : Ok P w K mg base "_law_shadow_rows" P__law_shadow_rows 2 (spD K 1 S__law_shadow_rows) := ok_D F__law_shadow_rows sc__law_shadow_rows bs__law_shadow_rows (j__law_shadow_rows B O__law_left_of O__law_right_of O__law_undone) v__law_shadow_rows
  have O__law_is_shadow : Ok P w K mg base "_law_is_shadow" P__law_is_shadow 1 (spD K 1 S__law_is_shadow) := ok_D F__law_is_shadow sc__law_is_shadow bs__law_is_shadow (j__law_is_shadow B) v__law_is_shadow
  have O__law_is_plain : Ok P w K mg base "_law_is_plain" P__law_is_plain 1 (spD K 1 S__law_is_plain) := ok_D F__law_is_plain sc__law_is_plain bs__law_is_plain (j__law_is_plain B) v__law_is_plain
  have O__law_are_kept : Ok P w K mg base "_law_are_kept" P__law_are_kept 2 (spD K 2 S__law_are_kept) := ok_D F__law_are_kept sc__law_are_kept bs__law_are_kept (j__law_are_kept B O__law_left_of) v__law_are_kept
  have O_check_rows_shadows : Ok P w K mg base "check_rows_shadows" P_check_rows_shadows 3 (spD K 1 S_check_rows_shadows) := ok_DA F_check_rows_shadows sc_check_rows_shadows bs_check_rows_shadows (j_check_rows_shadows c_MAX_LETTERS O_is_square) v_check_rows_shadows
  have O_broken_paper_shadows : Ok P w K mg base "broken_paper_shadows" P_broken_paper_shadows 1 (spD K 1 S_broken_paper_shadows) := ok_DA F_broken_paper_shadows sc_broken_paper_shadows bs_broken_paper_shadows (j_broken_paper_shadows) v_broken_paper_shadows
  have O_Passing__rows : OkP P w K mg base (adrOf K "Passing") "rows" 1 (spD K 1 S_Passing__rows) := ok_pD F_Passing__rows sc_Passing__rows bs_Passing__rows (j_Passing__rows CF_Passing) v_Passing__rows
  have O_Passing____len__ : OkM P w K mg base (adrOf K "Passing") "__len__" P_Passing____len__ 1 (spD K 1 S_Passing____len__) := ok_mD F_Passing____len__ sc_Passing____len__ bs_Passing____len__ (j_Passing____len__ B CF_Passing) v_Passing____len__
  have O_Passing__left : OkP P w K mg base (adrOf K "Passing") "left" 1 (spD K 1 S_Passing__left) := ok_pD F_Passing__left sc_Passing__left bs_Passing__left (j_Passing__left CF_Passing) v_Passing__left
  have O_Passing__is_quiet : OkP P w K mg base (adrOf K "Passing") "is_quiet" 1 (spD K 1 S_Passing__is_quiet) := ok_pD F_Passing__is_quiet sc_Passing__is_quiet bs_Passing__is_quiet (j_Passing__is_quiet CF_Passing) v_Passing__is_quiet
  have O__is_table_rows : Ok P w K mg base "_is_table_rows" P__is_table_rows 3 (spD K 1 S__is_table_rows) := ok_D F__is_table_rows sc__is_table_rows bs__is_table_rows (j__is_table_rows B c_MAX_LETTERS O__is_pairs) v__is_table_rows
  have O_are_fair_rows : Ok P w K mg base "are_fair_rows" P_are_fair_rows 2 (spD K 1 S_are_fair_rows) := ok_D F_are_fair_rows sc_are_fair_rows bs_are_fair_rows (j_are_fair_rows B O__pass_alike) v_are_fair_rows
  have O__breaks_fair : Ok P w K mg base "_breaks_fair" P__breaks_fair 2 (spD K 3 S__breaks_fair) := ok_D F__breaks_fair sc__breaks_fair bs__breaks_fair (j__breaks_fair O__passed_right_first O__passed_left_first) v__breaks_fair
  have O_shadow_paper : Ok P w K mg base "shadow_paper" P_shadow_paper 5 (spD K 1 S_shadow_paper) := ok_D F_shadow_paper sc_shadow_paper bs_shadow_paper (j_shadow_paper O_check_rows_shadows O__is_shadow O_broken_paper_shadows) v_shadow_paper
  have O_is_shadow_paper : Ok P w K mg base "is_shadow_paper" P_is_shadow_paper 5 (spD K 2 S_is_shadow_paper) := ok_D F_is_shadow_paper sc_is_shadow_paper bs_is_shadow_paper (j_is_shadow_paper B O_check_rows_shadows O_is_told O__breaks_shadow O_is_same O__is_shadow) v_is_shadow_paper
  have O_shadow_of : Ok P w K mg base "shadow_of" P_shadow_of 4 (spD K 1 S_shadow_of) := ok_D F_shadow_of sc_shadow_of bs_shadow_of (j_shadow_of B CF_Passing O_check_table O_Passing__rows O_Passing__left O_Passing____len__) v_shadow_of
  have O__law_dots_likenesses : Ok P w K mg base "_law_dots_likenesses" P__law_dots_likenesses 2 (spD K 1 S__law_dots_likenesses) := ok_D F__law_dots_likenesses sc__law_dots_likenesses bs__law_dots_likenesses (j__law_dots_likenesses B O__law_orders O__law_keeps_dots) v__law_dots_likenesses
  have O__law_quiet_dots : Ok P w K mg base "_law_quiet_dots" P__law_quiet_dots 5 (spM K 3 S__law_quiet_dots) := ok_M F__law_quiet_dots sc__law_quiet_dots bs__law_quiet_dots (j__law_quiet_dots B O__law_small_dots O__law_roll O__law_product_dots O__law_pick O__law_dots_likenesses O__law_union_dots O__law_renamed_dots O__law_drawn_move) v__law_quiet_dots
  have O__law_fair_rows : Ok P w K mg base "_law_fair_rows" P__law_fair_rows 6 (spM K 3 S__law_fair_rows) := ok_M F__law_fair_rows sc__law_fair_rows bs__law_fair_rows (j__law_fair_rows B O__law_roll O__law_drawn_move O__law_power O__law_pick O__law_renamed_rows O__law_orders O__law_joined O__law_undone O__law_rows_of_dots O__law_quiet_dots) v__law_fair_rows
  have O_broken_paper_passing : Ok P w K mg base "broken_paper_passing" P_broken_paper_passing 3 (spD K 1 S_broken_paper_passing) := ok_DA F_broken_paper_passing sc_broken_paper_passing bs_broken_paper_passing (j_broken_paper_passing B O__threes O__breaks_fair) v_broken_paper_passing
  have O_check_rows_passing : Ok P w K mg base "check_rows_passing" P_check_rows_passing 4 (spD K 1 S_check_rows_passing) := ok_DA F_check_rows_passing sc_check_rows_passing bs_check_rows_passing (j_check_rows_passing O__is_table_rows) v_check_rows_passing
  have O_fair_paper : Ok P w K mg base "fair_paper" P_fair_paper 5 (spD K 1 S_fair_paper) := ok_D F_fair_paper sc_fair_paper bs_fair_paper (j_fair_paper O_check_rows_passing O_are_fair_rows O_broken_paper_passing) v_fair_paper
  have O_Passing____init__ : OkI P w K mg base "Passing" P_Passing____init__ 6 (spI K "Passing" 2 S_Passing____init__) := ok_I F_Passing____init__ CF_Passing.mg CF_Passing.ob sc_Passing____init__ bs_Passing____init__ (j_Passing____init__ B CF_Passing O_fair_paper O__passes_twice_unchanged) v_Passing____init__
  have O_Passing____mul__ : OkM P w K mg base (adrOf K "Passing") "__mul__" P_Passing____mul__ 9 (spD K 2 S_Passing____mul__) := ok_mD F_Passing____mul__ sc_Passing____mul__ bs_Passing____mul__ (j_Passing____mul__ B CF_Passing c_MAX_LETTERS O_Passing____init__ O__pair_rows) v_Passing____mul__
  have O_Passing__renamed : OkM P w K mg base (adrOf K "Passing") "renamed" P_Passing__renamed 9 (spD K 2 S_Passing__renamed) := ok_mD F_Passing__renamed sc_Passing__renamed bs_Passing__renamed (j_Passing__renamed B CF_Passing O_check_move_of O_Passing____init__ O_renamed_table_rows) v_Passing__renamed
  have O__law_right : Ok P w K mg base "_law_right" P__law_right 12 (spM K 2 S__law_right) := ok_M F__law_right sc__law_right bs__law_right (j__law_right B CF_Passing O_Passing____init__ O__law_shadow_rows O_shadow_of O__law_is_shadow O__law_are_kept O__law_is_plain O_Passing__is_quiet O_shadow_paper O_is_shadow_paper O__law_drawn_move O__law_undone O_Passing__renamed) v__law_right
  have O__law_pairs_right : Ok P w K mg base "_law_pairs_right" P__law_pairs_right 12 (spD K 2 S__law_pairs_right) := ok_D F__law_pairs_right sc__law_pairs_right bs__law_pairs_right (j__law_pairs_right B CF_Passing O__law_shadow_rows O_shadow_of O_Passing____mul__ O_Passing____init__ SF_Passing) v__law_pairs_right
  exact fn_D F sc_law (fun cdv A outer s H E hr => j_law B O__law_dice O__law_right O__law_fair_rows O__law_pairs_right O_Passing____init__ O_shadow_of _ cdv A outer s H E hr) v_law
end Dn.T.K68
open PySem PySem.W PySem.Calls PyProof.Rows
theorem PySem.Challenge.cw_truenames_k68_whole_shadows_of_tables_holds : PySem.Challenge.rw_truenames_k68_whole_shadows_of_tables.Holds := by
  w_on; o_law
  refine HandSHeadRun.head_any (r := OpenLaw.row PySem.Challenge.rw_truenames_k68_whole_shadows_of_tables) (q := view (OpenLaw.row PySem.Challenge.rw_truenames_k68_whole_shadows_of_tables).prog [80]) (H := Hd.hk) (ob := Hd.ob) (M := 6000) (loose := Hd.loose) (d := HandSHeadRun.topDef (OpenLaw.row PySem.Challenge.rw_truenames_k68_whole_shadows_of_tables).prog 80) (kwd := []) Hd.ob_eq
    (by kernel_rfl) (fun s => by kernel_rfl) Hd.run (by kernel_rfl) (by kernel_rfl) (by kernel_rfl) (by rfl) (by first | assumption | decide +kernel) (by decide +kernel) ⟨rfl, rfl, rfl, rfl, rfl, by decide +kernel⟩ ?hw ?hc
  case hw => w_witness2
  case hc =>
    refine L2.walk_ofE (l := PySem.Challenge.rw_truenames_k68_whole_shadows_of_tables) (n := 63) (k := 13) (x := "_law_script") (CX := L2.CX0) rfl (by decide) (by kernel_rfl) ⟨rfl, by decide, by decide⟩ ?F (fun _ _ _ _ z => z)
    intro w mg fa h Y G hmg0
    obtain ⟨K, KX, c⟩ := Y
    have hmg : mg ("law" : PySem.Str) = some (.ref fa) := by
      have e : (HandSHeadRun.topDef (OpenLaw.row PySem.Challenge.rw_truenames_k68_whole_shadows_of_tables).prog 80).name = ("law" : PySem.Str) := by kernel_rfl
      rw [← e]
      exact hmg0
    obtain ⟨fd, hb, hF⟩ := Dn.T.K68.facts (P := (PySem.Challenge.rw_truenames_k68_whole_shadows_of_tables).prog) (w := w) KX G hmg c
    refine ⟨K, fd, Dn.spD K 1 Dn.T.K68.S_law, KX, hb, fun H a ns hl _ hS => ?_, hF⟩
    exact Dn.T.K68.start_law hl hS
