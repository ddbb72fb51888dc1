import PyProof.Rows.All
import Wide.All
import OpenK.AllK
import Wide.FinOn
import KE.KStateDown
import HandS.Base
import HandS.Call
import HandS.Ends
import HandS.More
import HandS.Words
import HandS.WordsExc
import HandS.Defaults
import HandS.Head0
import HandS.Head1
import HandS.Head2
import HandS.HeadEnd
import HandS.HeadHook1
import HandS.HeadHook2
import HandS.Head3
import HandS.Exc
import HandS.ExcSuper
import HandS.ExcInit
import HandS.ExcField
import KE.KExcSuper
import KE.KExcInit
import KE.RegKSuper
import HandS.Evl
import HandS.Property
import HandS.ForMost
import HandS.IsInst
import HandS.Deep
import HandS.DeepEq
import HandS.TupAny
import HandS.Conv
import HandS.Style
import HandS.Wide
import KE.GoesEnum
import HandS.ClsMeth
import OpenK.KDescr
import HandS.Lambda
import HandS.TupMul
import HandS.SortInts
import HandS.Dict
import HandS.SetFor
import KE.KMathGC
import HandS.TupSets
import HandS.DictComp
import HandS.Gcd
import HandS.TryOnly
import HandS.DictTup
import KE.KDictSum
import HandS.ExcValue
import HandS.ExcOwn
import KE.KDictPairs
import HandS.SlotsOwn
import HandS.FStr
import KE.KCallOwn
import PyProof.InstNe
import PyProof.TupleOfSeq
import KE.DataFind
import HandS.Strs
import HandS.WideBits
import KE.KOpsOwn
import HandS.TryMany
import HandS.EndTab
import HandS.HeadWalk
import HandS.Walk
import HandS.Zip
import KE.GoesNew
import PySem.Challenge.RW_truenames_k84_papers_about_acts_judged
namespace ClT
end ClT
namespace Cq
end Cq
namespace Dn
end Dn
namespace Dn.B3
end Dn.B3
namespace Dn.T
end Dn.T
namespace Dn.T.G
end Dn.T.G
namespace Dn.T.G.B
end Dn.T.G.B
namespace Dn.T.G.B.K37
end Dn.T.G.B.K37
namespace Dn.T.G.B.K37.K84
end Dn.T.G.B.K37.K84
namespace Dn.T.G.B.K66
end Dn.T.G.B.K66
namespace Dn.T.V
end Dn.T.V
namespace Hd
end Hd
namespace He
end He
namespace L2
end L2
namespace OwnNe
end OwnNe
namespace PySem
end PySem
namespace SrL
end SrL
namespace XiX
end XiX
set_option Elab.async false
set_option linter.all false
set_option maxRecDepth 100000
set_option autoImplicit false
set_option maxHeartbeats 2000000
namespace He
open PySem PySem.Spec PyProof.Rows L2
def bfB (K : PySem.W.Frag) (q : Str × String) : Bool := match PySem.W.nsIn K mainGlobals q.1 with
  | some (some (.builtin n)) => decide (n = q.2)
  | _ => false
def obsB (bf : List (Str × String)) (fa : List Fa) (fn : List DefD) (K : PySem.W.Frag) : AlD := (bf.all (bfB K) && (obsD fa fn K).1, (obsD fa fn K).2)
def SaysB (bf : List (Str × String)) (fa : List Fa) (fn : List DefD) (K : PySem.W.Frag) : Prop := obsB bf fa fn K = valD fn
theorem SaysB.d {bf : List (Str × String)} {fa : List Fa} {fn : List DefD} {K : PySem.W.Frag} (c : SaysB bf fa fn K) : SaysD fa fn K := by
  have h1 := (ba (show (bf.all (bfB K) && (obsD fa fn K).1) = true from congrArg (fun z : AlD => z.1) c)).2
  have h0 : (obsB bf fa fn K).2 = (valD fn).2 := by
    rw [show obsB bf fa fn K = valD fn from c]
  have h2 : (obsD fa fn K).2 = (valD fn).2 := h0
  exact Prod.ext h1 h2
theorem SaysB.bf {bf : List (Str × String)} {fa : List Fa} {fn : List DefD} {K : PySem.W.Frag} (c : SaysB bf fa fn K) {h : Heap} {mg : Str → Option Value} (X : K.In h) (G : h.Ns mainGlobals mg) (i : Nat) {q : Str × String} (hi : bf[i]? = some q := by rfl) : mg q.1 = some (.builtin q.2) := by
  have h1 := (ba (show (bf.all (bfB K) && (obsD fa fn K).1) = true from congrArg (fun z : AlD => z.1) c)).1
  have h2 := List.all_eq_true.mp h1 q (List.mem_of_getElem? hi)
  unfold bfB at h2
  cases e : PySem.W.nsIn K mainGlobals q.1 with
  | none =>
    rw [e] at h2
    cases h2
  | some o =>
    rw [e] at h2
    cases o with
    | none => cases h2
    | some v =>
      cases v with
      | builtin n =>
        have e2 : n = q.2 := of_decide_eq_true h2
        subst e2
        exact PySem.W.mg_of X G e
      | _ => cases h2
end He
set_option Elab.async false
set_option linter.all false
set_option maxRecDepth 100000
set_option autoImplicit false
set_option maxHeartbeats 2000000
namespace He
open PySem PySem.Spec PyProof.Rows L2 PySem.W
abbrev FnB : Type := Option (Str × Str × Arguments × FuncBody × Scope × Addr × Addr)
def fnB (K : Frag) (a : Addr) : FnB := match List.lookup a K with
  | some ⟨_, _, .func fd, _⟩ => some (fd.name, fd.qualname, fd.params, fd.body, fd.scope, fd.globals, fd.builtins)
  | _ => none
def prA (K : Frag) (C : Addr) (f : Str) : Addr := match findIn K (.ref C) f with
  | some (some (.ref p)) => p
  | _ => 0
def gtA (K : Frag) (C : Addr) (f : Str) : Addr := match recIn K (prA K C f) "property" with
  | some (.ref g :: _) => g
  | _ => 0
def prB (K : Frag) (C : Addr) (f : Str) : Bool := eqO (findIn K (.ref C) f) (some (some (.ref (prA K C f)))) && (eqO (specialIn K (.ref (prA K C f)) "__get__") (some (some (.builtin "property.__get__"))) && (decide (takesIn K (.ref (prA K C f)) = some true) && (match recIn K (prA K C f) "property" with
  | some (.ref _ :: _) => true
  | _ => false)))
theorem prB_ok {K : Frag} {C : Addr} {f : Str} (h : prB K C f = true) : PropOf K C f (prA K C f) (gtA K C f) := by
  unfold prB at h
  simp only [Bool.and_eq_true, decide_eq_true_eq] at h
  obtain ⟨h1, h2, h3, h4⟩ := h
  refine ⟨eqO_ok h1, eqO_ok h2, h3, ?_⟩
  unfold gtA
  split at h4
  · rename_i g r e
    rw [e]
    exact ⟨r, rfl⟩
  · cases h4
def obsX (bf : List (Str × String)) (fa : List Fa) (fn : List DefD) (xb : Frag → Bool) (xf : Frag → List FnB) (K : Frag) : AlD × List FnB := ((xb K && (obsB bf fa fn K).1, (obsB bf fa fn K).2), xf K)
def SaysX (bf : List (Str × String)) (fa : List Fa) (fn : List DefD) (xb : Frag → Bool) (xf : Frag → List FnB) (vals : List FnB) (K : Frag) : Prop := obsX bf fa fn xb xf K = (valD fn, vals)
section
variable {bf : List (Str × String)} {fa : List Fa} {fn : List DefD} {xb : Frag → Bool} {xf : Frag → List FnB} {vals : List FnB} {K : Frag}
theorem SaysX.x (c : SaysX bf fa fn xb xf vals K) : xb K = true := (ba (show (xb K && (obsB bf fa fn K).1) = true from congrArg (fun z : AlD × List FnB => z.1.1) c)).1
theorem SaysX.b (c : SaysX bf fa fn xb xf vals K) : SaysB bf fa fn K := by
  have h1 := (ba (show (xb K && (obsB bf fa fn K).1) = true from congrArg (fun z : AlD × List FnB => z.1.1) c)).2
  have h2 : (obsB bf fa fn K).2 = (valD fn).2 := congrArg (fun z : AlD × List FnB => z.1.2) c
  exact Prod.ext h1 h2
theorem SaysX.f (c : SaysX bf fa fn xb xf vals K) : xf K = vals := congrArg (fun z : AlD × List FnB => z.2) c
end
def dN : Value → Bool
  | .none => true
  | _ => false
def gfB (K : Frag) (a : Addr) : Bool := match List.lookup a K with
  | some ⟨_, _, .func fd, _⟩ => fd.closure.isEmpty && (codeIn K fd.code fd.qualname && (dN fd.defaults && keepIn K (.ref a)))
  | _ => false
theorem gfB_ok {K : Frag} {a : Addr} {name qual : Str} {params : Arguments} {body : List Stmt} {scope : Scope} (e : fnB K a = some (name, qual, params, .stmts body, scope, mainGlobals, builtinsNs)) (c : gfB K a = true) : ∃ fd, FunD K name qual params body scope [] [] a fd := by
  unfold fnB at e
  unfold gfB at c
  split at e
  · rename_i oc od fd osl hl
    rw [hl] at c
    dsimp only at c
    obtain ⟨nm, ql, prm, bd, scp, gl, clo, dv, kv, doc, pm, an, cdv, ct, bl⟩ := fd
    simp only [Option.some.injEq, Prod.mk.injEq] at e
    obtain ⟨rfl, rfl, rfl, rfl, rfl, rfl, rfl⟩ := e
    dsimp only at c
    simp only [Bool.and_eq_true, List.isEmpty_iff] at c
    obtain ⟨c1, c2, c3, c4⟩ := c
    subst c1
    have hd : dv = .none := by
      unfold dN at c3
      split at c3
      · rfl
      · cases c3
    subst hd
    exact ⟨_, ⟨oc, od, .none, kv, doc, pm, an, cdv, ct, osl, rfl, hl, c2, .inl ⟨rfl, rfl⟩, .inl rfl⟩, c4⟩
  · cases e
end He
set_option Elab.async false
set_option linter.all false
set_option maxRecDepth 100000
set_option autoImplicit false
set_option maxHeartbeats 4000000
namespace ClT
open PySem PySem.W PySem.Calls PyProof.Rows Builtin Builtin.ObjectAttr Builtin.Getset_descriptor
section
variable {prog : Program} {w : World} {A : Around} {s : Shared} {K : Frag} {C : Addr} {R : Result → Shared → Prop} {E : Value → Shared → Prop}
theorem type_obj : isSubtype (.type "type") (.type "object") = pure true := by rw [isSubtype_type]; kernel_rfl
theorem cls_get {tp : Value} (X : K.In s.heap) (ht : typeIn K (.ref C) = some (.type "type"))
    (h : R (.ok (.ret (.type "type"))) s) : codeAny (model prog w) A (.call (.builtin "getset_descriptor.__get__") ⟨[.builtin "object.__class__", .ref C, tp], []⟩) R s := by
  obtain ⟨hh, g, dr, t, os⟩ := s
  have L0 := looks_typeIn (M := model prog w) X ht
  have L1 : Looks (model prog w) hh (isSubtype (.type "type") (.type "object")) true := Looks.of_pure type_obj
  refine codeAny_call_builtin KF.slot_gs.plain KF.entry_gs (KF.slot_gs.check _ _ _ _ _ _ _ _ KF.type_class (KF.args_gs _ _ _) ?_)
  unfold Builtin.«getset_descriptor.__get__» descrGet
  rw [dga_obj]
  refine wpAny_bind (wpAny_pure ?_)
  unfold descrGetter descrCheckInstance descrNameAndClass isInstance
  simp only [KF.owner_class]
  repeat lk
  refine ⟨Code.quiet_builtin _ (by decide +kernel), codeAny_builtin KF.entry_class ?_⟩
  unfold Builtin.«object.__class__» shownTypeOf
  repeat lk
  exact h
theorem find_class : findIn K (.type "type") "__class__" = some (some (.builtin "object.__class__")) := by kernel_rfl
theorem sp_class : specialIn K (.builtin "object.__class__") "__get__" = some (some (.builtin "getset_descriptor.__get__")) := by kernel_rfl
theorem tk_class : takesIn K (.builtin "object.__class__") = some true := by kernel_rfl
theorem find_ga : findIn K (.type "type") "__getattribute__" = some (some (.builtin "type.__getattribute__")) := by kernel_rfl
theorem findCls_class : findCls K (.ref C) (.type "type") "__class__" = some (.get (.builtin "getset_descriptor.__get__") (.builtin "object.__class__") (.ref C) (.type "type")) := by
  unfold findCls
  rw [find_class, Option.bind_some]
  dsimp only
  rw [sp_class, Option.bind_some]
  dsimp only
  rw [tk_class, Option.bind_some]
theorem cls_openQ {r : CFound} {name : Str} {Q : Option Value → Shared → Prop} (X : K.In s.heap) (ht : typeIn K (.ref C) = some (.type "type")) (ho : nsIn K cStatics "thirdparty.any" = some none) (e : findCls K (.ref C) (.type "type") name = some r)
    (h : wpAny (model prog w) A.in1 r.run (fun fin s' => match fin with | .done (.ret v) => wpAny (model prog w) A (handedOut v) (fun v s'' => Q (some v) s'') (fun _ _ => False) s' | _ => False) (fun _ _ => False) { s with toks := s.toks + 1 }) :
    wpAny (model prog w) A (getAttr? (.ref C) name) Q E s := by
  have lt := looks_typeIn (M := model prog w) X ht
  unfold getAttr? getAttrBy? getAttrBy
  refine wpAny_bind (wpAny_mkText (wpAny_bind (wpAny_attempt (wpAny_holding (wpAny_bind (lt _ _ _ _ (fun _ _ e => e) (wpAny_bind (looks_findIn X find_ga _ _ _ _ (fun _ _ e => e) ?_))))))))
  dsimp only
  rw [show (onTheHeap (.type "type") && Value.builtin "type.__getattribute__" == Value.builtin "object.__getattribute__") = false from by decide +kernel, if_neg (by decide)]
  have hb : Looks (model prog w) s.heap (hookBefore (.type "type")) none := looks_hook X (by rfl)
  refine wpAny_bind (hb _ _ _ _ (fun _ _ e => e) (wpAny_bind (wpAny_attempt (wpAny_holding ?_))))
  unfold callGetattribute
  rw [show (false && onTheHeap (Value.builtin "type.__getattribute__")) = false from rfl, if_neg (by decide)]
  unfold boundAndCalled
  rw [KF.slot_tga.bind]
  refine wpAny_bind (wpAny_pure ?_)
  show wpAny _ _ (call (.builtin "type.__getattribute__") [.ref C, .str name s.toks]) _ _ _
  refine wpAny_call ?_
  refine codeAny_call_builtin KF.slot_tga.plain KF.entry_tga ?_
  refine @check_slot (model prog w) _ _ { s with toks := s.toks + 1 } "type.__getattribute__" "type" "__getattribute__" (.ref C) [.str name s.toks] [] _ (by decide +kernel) (by decide +kernel) (lt.andThen (Looks.of_pure (by rw [isSubtype_type]; kernel_rfl))) (KF.args_tga (.ref C) (.str name s.toks)) ?_
  refine tga_run (s := { s with toks := s.toks + 1 }) X (looks_opaque X ho) lt e (wpAny_mono h (fun fin s' z => ?_) fun _ _ z => z.elim)
  rcases fin with (_ | _ | _ | _) | _ <;> first | exact wpAny_mono z (fun v s'' hv => wpAny_pure hv) (fun _ _ z => z.elim) | exact z.elim
theorem cls_class {Q : Option Value → Shared → Prop} (X : K.In s.heap) (ht : typeIn K (.ref C) = some (.type "type")) (ho : nsIn K cStatics "thirdparty.any" = some none) (h : Q (some (.type "type")) { s with toks := s.toks + 1 }) : wpAny (model prog w) A (getAttr? (.ref C) "__class__") Q E s := by
  refine cls_openQ X ht ho findCls_class ?_
  refine wpAny_bind (wpAny_holding (wpAny_mono (wpAny_call (cls_get (s := { s with toks := s.toks + 1 }) X ht ?_)) (fun _ _ z => wpAny_pure z) fun _ _ z => z))
  exact handed_on rfl h
theorem kitx_cls (ht : typeIn K (.ref C) = some (.type "type")) (ho : nsIn K cStatics "thirdparty.any" = some none) : KitX K (.ref C) (.type "type") (fun _ => True) where
  ty := fun _ _ X _ => looks_typeIn X ht
  it := fun _ _ _ _ => Looks.of_pure rfl
  ne := fun _ _ _ _ _ _ _ _ => rfl
  ca := fun X _ k => cls_class X ht ho k
end
end ClT
set_option Elab.async false
set_option linter.all false
set_option maxRecDepth 100000
set_option autoImplicit false
set_option maxHeartbeats 4000000
namespace Dn
open PySem L2 Evl PySem.Spec PyProof.Rows
def TbO : HO → Prop
  | .tbl _ => True
  | _ => False
structure Exw (H H' : Hp) : Prop where
  k : ∀ a o, H a = some o → (nt : ¬ TbO o := by first | assumption | exact id) → H' a = some o
  d : ∀ a, H a ≠ none → H' a ≠ none
theorem Exw.refl (H : Hp) : Exw H H := ⟨fun _ _ h _ => h, fun _ h => h⟩
theorem Exw.trans {H H1 H2 : Hp} (a : Exw H H1) (b : Exw H1 H2) : Exw H H2 := ⟨fun x o h nt => b.k x o (a.k x o h nt) nt, fun x h => b.d x (a.d x h)⟩
theorem Exw.of {H H' : Hp} (e : Ex H H') : Exw H H' := ⟨fun a o h _ => e a o h, fun a h => by
  cases q : H a with
  | none => exact absurd q h
  | some o => rw [e a o q]; simp⟩
instance {H H' : Hp} : Coe (Ex H H') (Exw H H') := ⟨Exw.of⟩
theorem Exw.rd {H H' : Hp} {a : Addr} {u : HO} (e : Exw H H') (h : Rd H a u) (nt : ¬ TbO u := by first | assumption | exact id) : Rd H' a u := by
  rcases h with h | ⟨o, h⟩
  · exact Or.inl (e.k a _ h nt)
  · exact Or.inr ⟨o, e.k a _ h id⟩
theorem Exw.l {K : PySem.W.Frag} {H H' : Hp} {a : Addr} {xs : List V} (e : Exw H H') (h : SqL K H a xs) : SqL K H' a xs := by
  rcases h with h | h
  · exact Or.inl (e.rd h)
  · exact Or.inr h
theorem Exw.t {K : PySem.W.Frag} {H H' : Hp} {a : Addr} {xs : List V} (e : Exw H H') (h : SqT K H a xs) : SqT K H' a xs := by
  rcases h with h | h
  · exact Or.inl (e.rd h)
  · exact Or.inr h
def lamK (K : PySem.W.Frag) : PySem.W.Frag := match K with
  | [] => []
  | p :: r => (r.dropWhile fun q => q.1 != p.1).drop 1
def tabOf (o : Obj) : Option (Addr × Str) := match o.data with
  | .fields vs => (match (vs[11]? : Option Value), (vs[1]? : Option Value) with
    | some (Value.ref P), some (Value.str q _) => some (P, q ++ ".<locals>." ++ "<lambda>")
    | _, _ => none)
  | _ => none
def tabsK (K : PySem.W.Frag) : List (Addr × Str) := (lamK K).filterMap fun p => tabOf p.2
def TbOk (K : PySem.W.Frag) (H : Hp) : Prop := LamX.Tabs (tabsK K) H
theorem TbOk.ext {K : PySem.W.Frag} {H H' : Hp} (t : TbOk K H) (e : Ex H H') : TbOk K H' := LamX.Tabs.ext t e
def TbX : HO → Prop
  | .tbl _ => True
  | .ext _ => True
  | _ => False
theorem TbOk.keep {K : PySem.W.Frag} {H H' : Hp} (t : TbOk K H) (e : ∀ b o, TbX o → H b = some o → H' b = some o) : TbOk K H' := fun p hp => by
  obtain ⟨ps, h1, h2, h3⟩ := t p hp
  refine ⟨ps, e _ _ trivial h1, h2, fun pos cv hc => ?_⟩
  obtain ⟨c, e1, e2⟩ := h3 pos cv hc
  exact ⟨c, e1, e _ _ trivial e2⟩
structure ExG (K : PySem.W.Frag) (H H' : Hp) : Prop where
  w : Exw H H'
  t : TbOk K H → TbOk K H'
theorem ExG.refl {K : PySem.W.Frag} (H : Hp) : ExG K H H := ⟨Exw.refl H, id⟩
theorem ExG.trans {K : PySem.W.Frag} {H H1 H2 : Hp} (a : ExG K H H1) (b : ExG K H1 H2) : ExG K H H2 := ⟨a.w.trans b.w, fun h => b.t (a.t h)⟩
theorem ExG.of {K : PySem.W.Frag} {H H' : Hp} (e : Ex H H') : ExG K H H' := ⟨.of e, fun t => t.ext e⟩
instance {K : PySem.W.Frag} {H H' : Hp} : Coe (Ex H H') (ExG K H H') := ⟨ExG.of⟩
instance {K : PySem.W.Frag} {H H' : Hp} : CoeOut (ExG K H H') (Exw H H') := ⟨ExG.w⟩
structure ExL (K : PySem.W.Frag) (l : Addr) (H H' : Hp) : Prop where
  k : ∀ a o, a ≠ l → H a = some o → (nt : ¬ TbO o := by first | assumption | exact id) → H' a = some o
  d : ∀ a, H a ≠ none → H' a ≠ none
  t : TbOk K H → TbOk K H'
def KT (K : PySem.W.Frag) : Prop := (List.lookup (1 : Addr) K).isSome = true
def TO (K : PySem.W.Frag) (o : HO) (xs : List V) : Prop := (¬ KT K ∧ o = .tup xs) ∨ (KT K ∧ ∃ ob : Obj, o = .frz ob (.tup xs) ∧ ob.cls = .type "tuple" ∧ ob.dict = none)
@[simp] def TuO : HO → Prop
  | .tup _ => True
  | .frz _ (.tup _) => True
  | _ => False
theorem TO.tu {K : PySem.W.Frag} {o : HO} {xs : List V} (t : TO K o xs) : TuO o := by
  rcases t with ⟨_, rfl⟩ | ⟨_, ob, rfl, _⟩ <;> exact True.intro
theorem TO.kt {K : PySem.W.Frag} {o : HO} {xs : List V} (h : KT K) (t : TO K o xs) : ∃ ob : Obj, o = .frz ob (.tup xs) ∧ ob.cls = .type "tuple" ∧ ob.dict = none := by
  rcases t with ⟨k, _⟩ | ⟨_, e⟩
  · exact absurd h k
  · exact e
theorem TO.sq {K : PySem.W.Frag} {H : Hp} {a : Addr} {o : HO} {xs : List V} (t : TO K o xs) (h : H a = some o) : SqT K H a xs := by
  rcases t with ⟨_, rfl⟩ | ⟨_, ob, rfl, _⟩
  · exact .inl (.inl h)
  · exact .inl (.inr ⟨ob, h⟩)
theorem to_ok {P : Program} {w : World} {h : Heap} {a : Addr} {ob : Obj} {its : List Value} {n : Nat} {xs : List V} (K : PySem.W.Frag) (g : h.get? a = some ob) (hc : ob.cls = .type "tuple") (hd : ob.dict = none) (hs : ob.data = .seq its.toArray n)
    (hz : xs.length ≤ sizeLine) (r : Vals xs its) : ∃ o, TO K o xs ∧ ∀ H : Hp, ObjOk P w H h a o := by
  have base : ∀ H : Hp, ObjOk P w H h a (.tup xs) := fun H => ⟨hz, its, r, ob, g, hc, n, hs⟩
  by_cases k : KT K
  · exact ⟨.frz ob (.tup xs), .inr ⟨k, ob, rfl, hc, hd⟩, fun H => ⟨g, base H⟩⟩
  · exact ⟨.tup xs, .inl ⟨k, rfl⟩, base⟩
section
variable {X : Cx} {pins : List (Addr × Obj)} {σ : L2.St} {H : Hp} {s : Shared}
theorem lay_tup {Q : VK} {hp : Heap} {tk : Nat} {xs : List V} {its : List Value} (I : L2.Inv X pins σ H { s with heap := hp, toks := tk }) (hz : xs.length ≤ sizeLine) (r : Vals xs its)
    (q : ∀ p o, H p = none → TO X.K o xs → Q (.ref p) (upd H p o)) : EP X pins σ Q (.ref hp.objs.size) { s with heap := hp.push { cls := .type "tuple", data := .seq its.toArray }, toks := tk } := by
  obtain ⟨o, t, ok⟩ := to_ok (P := X.prog) (w := X.w) X.K (Heap.get?_push_size hp (o := ({ cls := .type "tuple", data := .seq its.toArray } : Obj)) rfl) rfl rfl rfl hz r
  have I2 := I.laid (t' := tk) (o := o) (a := hp.objs.size) (h' := hp.push { cls := .type "tuple", data := .seq its.toArray }) (fun b ob e => Heap.get?_push_of_some _ e) (Nat.le_refl _) (ok _)
  exact ⟨.ref hp.objs.size, _, I2, rfl, q _ o (I.hok.fresh (Nat.le_refl _)) t⟩
end
section
variable {X : Cx} {e : Expr} {es : List Expr} {t : TA} {te : TE} {pos : Pos}
def tTupK (K : PySem.W.Frag) (t : TA) : TE := fun σ H Q => t σ H fun xs H1 => xs.length ≤ sizeLine ∧ ∀ p o, H1 p = none → TO K o xs → Q (.ref p) (upd H1 p o)
theorem pe_tupK {k : Nat} (h : PA X es t) : PE X (.Tuple es k pos) (tTupK X.K t) := by
  refine ⟨fun pins s σ H Q I hq => wpAny_Tuple_spliced ?_⟩
  refine thn (h.run pos pins s σ H _ I hq) fun us s1 ⟨xs, H1, I1, r, z, q⟩ => ⟨by rw [← r.length]; exact z, ?_⟩
  exact lay_tup (tk := s1.toks) I1 z r q
theorem call_tupleK : CallR X (.type "tuple") (fun vs H Q => ∃ p ys, vs = [.ref p] ∧ ((SqL X.K H p ys ∧ ∀ l o, H l = none → TO X.K o ys → Q (.ref l) (upd H l o)) ∨ (SqT X.K H p ys ∧ Q (.ref p) H))) := by
  intro pins s σ H vs us Q I r h
  obtain ⟨p, ys, rfl, h⟩ := h
  obtain ⟨u, rfl, rx⟩ := vals1 r
  cases rx
  rcases h with ⟨hq, q⟩ | ⟨hq, q⟩
  · obtain ⟨its, rv, pl, hz⟩ := I.list hq
    have ln := rv.length
    refine call_tuple_list pl.isList (fun hp kp => ?_) (by simp only [List.size_toArray]; omega)
    exact lay_tup (I.kept (t' := s.toks) kp) hz rv q
  · obtain ⟨its, rv, pl, _⟩ := I.tuple hq
    exact call_tuple_same pl ⟨.ref p, H, I, rfl, q⟩
def rCatK (K : PySem.W.Frag) : R2 := fun x y H Q => ∃ a b xs ys, x = .ref a ∧ y = .ref b ∧ SqT K H a xs ∧ SqT K H b ys ∧ xs.length + ys.length ≤ sizeLine ∧
  (xs = [] → Q (.ref b) H) ∧ (xs ≠ [] → ys = [] → Q (.ref a) H) ∧ (xs ≠ [] → ys ≠ [] → ∀ p o, H p = none → TO K o (xs ++ ys) → Q (.ref p) (upd H p o))
theorem op_catK : OpR X (binaryOp .Add) (rCatK X.K) := by
  intro pins s σ H x y v u Q I rx ry h
  obtain ⟨a, b, xs, ys, rfl, rfl, ha, hb, hz, q0, q1, q2⟩ := h
  cases rx
  cases ry
  obtain ⟨i1, r1, p1, _⟩ := I.tuple ha
  obtain ⟨i2, r2, p2, _⟩ := I.tuple hb
  by_cases hx : xs = []
  · subst hx
    cases r1
    exact cat_tup0 p1 p2 ⟨.ref b, H, I, rfl, q0 rfl⟩
  · refine HT.cat_tup p1 p2 (fun z => hx (r1.nil_iff.mp z)) (fun z => ⟨.ref a, H, I, rfl, q1 hx (r2.nil_iff.mp z)⟩) (fun z => ?_) (by rw [← r1.length, ← r2.length]; exact hz)
    exact lay_tup (tk := s.toks) I (by rw [List.length_append]; exact hz) (r1.append r2) (q2 hx fun w => z (r2.nil_iff.mpr w))
def rSlK (K : PySem.W.Frag) : V → Option Int → Option Int → Hp → VK → Prop := fun x lo hi H Q => ∃ a xs, x = .ref a ∧ SqT K H a xs ∧
  (HT.sIx xs.length 0 lo = 0 ∧ HT.sIx xs.length xs.length hi = xs.length → Q (.ref a) H) ∧ (¬ (HT.sIx xs.length 0 lo = 0 ∧ HT.sIx xs.length xs.length hi = xs.length) → ∀ p o, H p = none → TO K o (cutV xs lo hi) → Q (.ref p) (upd H p o))
theorem sl_tupK : SlR X (rSlK X.K) := by
  intro pins s σ H x v vl vu lo hi sl Q I rx hs pl pu h
  obtain ⟨a, xs, rfl, hx, q1, q2⟩ := h
  cases rx
  obtain ⟨its, r, ht, hz⟩ := I.tuple hx
  have ln : its.toArray.size = xs.length := by rw [List.size_toArray]; exact r.length.symm
  refine ⟨"tuple", _, PyProof.Rows.slot_tuple_getitem.lookup, ht.typeIs, ?_⟩
  by_cases hw : HT.sIx xs.length 0 lo = 0 ∧ HT.sIx xs.length xs.length hi = xs.length
  · exact getItem_tuple_whole ht hs pl pu (by rw [ln]; exact hw) ⟨.ref a, H, I, rfl, q1 hw⟩
  · refine HT.getItem_tuple_cut ht hs pl pu (by rw [ln]; exact hw) ?_ (by rw [ln]; exact hz)
    rw [ln]
    exact lay_tup (tk := s.toks) I (Nat.le_trans (cutV_length xs lo hi) hz) ((r.drop (HT.sIx xs.length 0 lo)).take (HT.sIx xs.length xs.length hi - HT.sIx xs.length 0 lo)) (q2 hw)
def tTupRgK (K : PySem.W.Frag) (te : L2.St → Hp → (Int → Int → Hp → Prop) → Prop) : TE := fun σ H Q => te σ H fun a b H1 => RgOk a b ∧ ∀ q o, H1 q = none → TO K o (rgV a b) → Q (.ref q) (upd H1 q o)
theorem pe_tupRgK {te : L2.St → Hp → (Int → Int → Hp → Prop) → Prop} {p : Pos} (hc : X.calm = true) (hg : Gl X "tuple") (hm : X.mg "tuple" = none) (he : PRg X e te) (na : starEach [e] X.env = (false, eval e X.env) :: starEach [] X.env := by rfl) :
    PE X (.Call (.Name "tuple" p) [e] [] pos) (tTupRgK X.K te) := by
  refine ⟨fun pins s σ H Q I h => Call_ (ld_blt I hg hm boot_tuple ?_)⟩
  refine PyProof.Rows.callWith_type1 (args_cons (thn (he pins s σ H _ I h) fun x s1 ⟨r, a, b, t, u, v, H1, ex, hr, I1, ok, q⟩ => args_nil ?_) na) na
  subst ex
  obtain ⟨b1, b2, b3, b4, b5⟩ := ok
  refine call_tuple_range (n := (b - a).toNat) (I1.ok.hd hc) hr (small_one b1 b2 b3 b4) (rangeSize_nat a b) b5 fun hp tk acc hk hi => ?_
  have z := lay_tup (tk := tk) (I1.kept hk) (by rw [rgV_length, sizeLine_eq]; omega) (vals_rg hi) q
  rwa [Array.toArray_toList] at z
end
def IteK (K : PySem.W.Frag) (a : Addr) : It where
  go := fun i H => ∃ (xs : List V) (x : V), SqL K H a xs ∧ xs[i]? = some x
  yld := fun i H v H' => ∃ l o x, v = .ref l ∧ H l = none ∧ TO K o [.int (i : Nat), x] ∧ H' = upd H l o ∧ ∀ xs, SqL K H a xs → xs[i]? = some x
  stop := fun i H => ∃ xs : List V, SqL K H a xs ∧ xs.length ≤ i
theorem turn_enK {P : Program} {w : World} {K : PySem.W.Frag} {elts : List Expr} {kk : Nat} {tpos : Pos} (a e it : Addr) :
    Turn P w K (.Tuple elts kk tpos) (IteK K a) [e, it] e (fun i h => (∃ old, IsEnum h e it ((i : Nat) : Int) old) ∧ h.IsListIter it a i ∧ e ≠ it) where
  mem := by simp
  obj := fun i h st b hb => by
    obtain ⟨⟨old, he⟩, ⟨o, ho, hc, hd⟩, _⟩ := st
    rcases (show b = e ∨ b = it by simpa using hb) with rfl | rfl
    · exact ⟨_, he, fun v q => nomatch q⟩
    · exact ⟨o, ho, fun v q => by rw [hd] at q; cases q⟩
  keep := fun i h h' ⟨⟨old, he⟩, hi, hne⟩ k => ⟨⟨old, k e (by simp) _ he⟩, hi.at fun o q => k it (by simp) o q, hne⟩
  item := by
    intro X hP hw hK hc i pins s σ H E I hf st hg
    subst hP hw hK
    obtain ⟨⟨old, he⟩, hit, hne⟩ := st
    obtain ⟨xs, x, hq, hx⟩ := hg
    obtain ⟨its, rv, p, hz⟩ := I.list hq
    obtain ⟨u, hu, ru⟩ := rv.get hx
    have hel : e < s.heap.objs.size := Heap.lt_size he
    have hil : it < s.heap.objs.size := by obtain ⟨_, q, _⟩ := hit; exact Heap.lt_size q
    refine wpAny_pyNext_enum_item he hit p.isList (x := u) (by simpa using hu) hne fun h1 ho hi2 hT hsz hk => ?_
    refine ⟨_, rfl, wpAny_letOwnedTupleGo_enum (s := { s with heap := h1, toks := s.toks + 1 }) ho fun h2 he2 sb => ?_⟩
    have hT2 : h2.get? s.heap.objs.size = some { cls := .type "tuple", data := .seq #[.int i s.toks, u] } := (sb.2 _ (Nat.ne_of_gt hel)).trans hT
    obtain ⟨o, t, ok⟩ := to_ok (P := X.prog) (w := X.w) (xs := [.int (i : Nat), x]) (its := [.int i s.toks, u]) X.K hT2 rfl rfl rfl (by show 2 ≤ sizeLine; decide) (.cons ⟨_, rfl⟩ (.cons ru .nil))
    have I2 : L2.Inv X pins σ (upd H s.heap.objs.size o) { s with heap := h2, toks := s.toks + 1 } :=
      I.turnedNew (ch := [e, it]) (fun b ob hb q => (sb.2 b (fun z => hb (by simp [z]))).trans (hk b ob (fun z => hb (by simp [z])) (fun z => hb (by simp [z])) q)) hf (Nat.le_refl _) (ok _)
    refine ⟨.ref s.heap.objs.size, _, I2, rfl, ⟨_, o, x, rfl, I.hok.fresh (Nat.le_refl _), t, rfl, fun ys hy => by rw [I.list_inj hy hq]; exact hx⟩, ⟨⟨u, ?_⟩, hi2.at fun o q => (sb.2 it (Ne.symm hne)).trans q, hne⟩, fun b hb => ?_⟩
    · have e1 : ((i + 1 : Nat) : Int) = (i : Int) + 1 := by omega
      rw [e1]
      exact he2
    · have bl : b < s.heap.objs.size := by
        rcases (show b = e ∨ b = it by simpa using hb) with rfl | rfl
        · exact hel
        · exact hil
      rw [upd_ne (Nat.ne_of_lt bl)]
      exact (hf b hb).1
  done := by
    intro X hP hw hK hc i pins s σ H E I hf st hg
    subst hP hw hK
    obtain ⟨⟨old, he⟩, hit, hne⟩ := st
    obtain ⟨xs, hq, hx⟩ := hg
    obtain ⟨its, rv, p, hz⟩ := I.list hq
    obtain ⟨f0, f1, f2, f3, f4, f5⟩ := hf it (by simp)
    have ln := rv.length
    exact wpAny_pyNext_enum_end (I.ok.hd hc) he hit p.isList (by simp; omega) fun h2 eb => ⟨rfl, I.turned (t' := s.toks) (fun b o hb q => eb b o hb q) f0 f1 f3 f4 f5⟩
  self := fun A i s Q E st h => let ⟨⟨_, he⟩, _⟩ := st; wpAny_pyIter_enum he h
end Dn
set_option Elab.async false
set_option linter.all false
set_option maxRecDepth 100000
set_option autoImplicit false
set_option maxHeartbeats 4000000
namespace Dn
open PySem L2 Evl PySem.Spec PyProof.Rows
theorem rep_fits {its : List Value} {k : Int} (h0 : its ≠ []) (h1 : 2 ≤ k) (h2 : k ≤ 1000) (h3 : its.length ≤ 1000) :
    (decide (k < -(2 ^ 63)) || decide (k ≥ 2 ^ 63)) = false ∧ (its.toArray.isEmpty || k == 1) = false ∧ (decide (k ≤ 0) || its.toArray.isEmpty) = false ∧
    ¬ ((its.toArray.size : Nat) : Int) * k > (2 ^ 63 - 1) / 8 ∧ Builtin.Tuple.tupleTooMany (((its.toArray.size : Nat) : Int) * k) = false ∧ (List.replicate k.toNat its).flatten.length ≤ sizeLine := by
  have e : its.toArray.isEmpty = false := by
    match its, h0 with
    | _ :: _, _ => rfl
  have s : its.toArray.size = its.length := by simp
  have m : ((its.length : Nat) : Int) * k ≤ 1000000 := by
    have := Int.mul_le_mul_of_nonneg_right (show ((its.length : Nat) : Int) ≤ 1000 by omega) (show 0 ≤ k by omega)
    omega
  rw [e, s, Bool.false_or, Bool.or_false]
  refine ⟨?_, beq_eq_false_iff_ne.mpr (by omega), decide_eq_false (by omega), by omega, ?_, ?_⟩
  · rw [Bool.or_eq_false_iff]
    exact ⟨decide_eq_false (by omega), decide_eq_false (by omega)⟩
  · show decide _ = false
    rw [sizeLine_eq]
    exact decide_eq_false (by omega)
  · rw [lm_len_rep_flat, sizeLine_eq]
    have := Nat.mul_le_mul (show k.toNat ≤ 1000 by omega) h3
    omega
def rRepK (K : PySem.W.Frag) : R2 := fun x y H Q => ∃ l k xs, x = .ref l ∧ y = .int k ∧ SqT K H l xs ∧ xs ≠ [] ∧ 2 ≤ k ∧ k ≤ 1000 ∧ xs.length ≤ 1000 ∧
  ∀ p o, H p = none → TO K o (List.replicate k.toNat xs).flatten → Q (.ref p) (upd H p o)
theorem op_repK {X : Cx} : OpR X (binaryOp .Mult) (rRepK X.K) := by
  intro pins s σ H x y v u Q I rx ry h
  obtain ⟨l, k, xs, rfl, rfl, hT, hne, h1, h2, hz, q⟩ := h
  obtain ⟨t, rfl⟩ := ry
  cases rx
  obtain ⟨its, r, ⟨⟨cls, dd, data, sl⟩, ho, hc, n, hd⟩, _⟩ := I.tuple hT
  simp only at hc hd
  subst hc hd
  have le : its.length = xs.length := r.length.symm
  obtain ⟨c0, c1, c2, c3, c4, c5⟩ := rep_fits (its := its) (k := k) (fun e => hne (List.eq_nil_of_length_eq_zero (by rw [← le, e]; rfl))) h1 h2 (by omega)
  have c6 : (List.replicate k.toNat xs).flatten.length ≤ sizeLine := by
    rw [lm_len_rep_flat, ← le, ← lm_len_rep_flat]
    exact c5
  refine wpAny_binaryOp_repeat_ref (T := "tuple") (U := "int") (by decide) ⟨_, ho, rfl⟩ (fun s' => typeIs_int s' k t) noFill_tuple_mul F.fills_int_mul F.slot_int_rmul repeat_tuple F.slot_int_index.lookup ?_
  refine call_meets F.slot_int_rmul (typeIs_int s k t) F.entry_int_rmul (F.args_int_rmul_2 _ _) (int_rmul_tuple k t l its.toArray n dd sl) ⟨ho, rfl, ⟨_, ho, rfl⟩, ?_⟩
  refine call_meets F.slot_tuple_mul ⟨_, ho, rfl⟩ F.entry_tuple_mul (F.args_tuple_mul_2 _ _) (tuple_mulW l its.toArray n dd sl k t c0 c1 c2 c3 c4 (by rw [size_rep, List.size_toArray]; exact c5)) ⟨ho, ?_⟩
  rw [size_rep]
  exact lay_tup (tk := s.toks) I c6 (r.rep k.toNat) q
end Dn
set_option Elab.async false
set_option linter.all false
set_option maxRecDepth 100000
set_option autoImplicit false
set_option maxHeartbeats 4000000
namespace Dn
open PySem L2
abbrev D := PyData
def keyB : Key → D
  | .inl i => .int i
  | .inr x => .str x
def dkD (kvs : List (Key × D)) : List (D × D) := kvs.map fun p => (keyB p.1, p.2)
def adrOf (K : PySem.W.Frag) (nm : Str) : Addr := match K.find? (fun p => match p.2.data with
    | .cls cd => decide (cd.name = nm)
    | _ => false) with
  | some p => p.1
  | none => 0
def obL (nm : Str) (es : List (Str × D)) : List (D × D) := [(.bool true, .tuple (.str nm :: es.map fun p => .tuple [.str p.1, p.2]))]
abbrev obD (nm : Str) (es : List (Str × D)) : D := .dict (obL nm es)
structure ObjC (K : PySem.W.Frag) (C : Addr) : Prop where
  cls : Cls K C
  ha : PySem.W.findIn K (.ref C) "__class__" = some (some (.builtin "object.__class__"))
  hn : PySem.W.specialIn K (.builtin "object.__class__") "__get__" = some (some (.builtin "getset_descriptor.__get__"))
  htk : PySem.W.takesIn K (.builtin "object.__class__") = some true
  hm : PySem.W.mroIn K C (.type "object") = some true
  ty : PySem.W.typeIn K (.ref C) = some (.type "type")
  tp : PySem.W.nsIn K PySem.cStatics "thirdparty.any" = some none
  own : ∀ (tn : String) (b : Bool), tn ≠ "slice" → kitB "slice" tn = some b → PySem.W.kitOne K (.ref C) (.type tn) = some b
def TAt (K : PySem.W.Frag) (G : Hp) (a : Addr) (xs : List V) : Prop := ∃ o, G a = some o ∧ TO K o xs
theorem TO.ntb {K : PySem.W.Frag} {o : HO} {xs : List V} (t : TO K o xs) : ¬ TbO o := by
  rcases t with ⟨_, rfl⟩ | ⟨_, ob, rfl, _⟩ <;> exact id
theorem TAt.monoW {K : PySem.W.Frag} {G G' : Hp} {a : Addr} {xs : List V} (e : Exw G G') (h : TAt K G a xs) : TAt K G' a xs := by
  obtain ⟨o, h, t⟩ := h
  exact ⟨o, e.k _ _ h t.ntb, t⟩
theorem TAt.mono {K : PySem.W.Frag} {G G' : Hp} {a : Addr} {xs : List V} (e : Evl.Ex G G') (h : TAt K G a xs) : TAt K G' a xs := h.monoW e
theorem TAt.keep {K : PySem.W.Frag} {G G' : Hp} {a : Addr} {xs : List V} (h : TAt K G a xs) (k : ∀ o, TuO o → G a = some o → G' a = some o) : TAt K G' a xs := by
  obtain ⟨o, h, t⟩ := h
  exact ⟨o, k o t.tu h, t⟩
theorem TAt.nl {K : PySem.W.Frag} {G : Hp} {a : Addr} {xs : List V} {o : HO} (h : TAt K G a xs) (q : G a = some o) (n : ¬ TuO o) : False := by
  obtain ⟨u, h, t⟩ := h
  rw [h] at q; cases q
  exact n t.tu
mutual
inductive Rp (K : PySem.W.Frag) (G : Hp) : V → D → Prop
  | non : Rp K G .non .none
  | bl (b : Bool) : Rp K G (.bl b) (.bool b)
  | int (i : Int) : Rp K G (.int i) (.int i)
  | str (x : Str) : Rp K G (.str x) (.str x)
  | lst {a : Addr} {xs : List V} {ds : List D} : G a = some (.lst xs) → RpAll K G xs ds → Rp K G (.ref a) (.list ds)
  | tup {a : Addr} {xs : List V} {ds : List D} : TAt K G a xs → RpAll K G xs ds → Rp K G (.ref a) (.tuple ds)
  | dct {a : Addr} {kws : List (Key × V)} {kvs : List (Key × D)} {dd : List (D × D)} : G a = some (.dK kws) → RpKv K G kws kvs → dd = dkD kvs → Rp K G (.ref a) (.dict dd)
  | frz {a : Addr} {xs : List V} {ds : List D} : SqL K G a xs → RpAll K G xs ds → Rp K G (.ref a) (.dict [(.none, .tuple ds)])
  | ins {a dx : Addr} {nm : Str} {fs : List (Str × V)} {es : List (Str × D)} {dd : List (D × D)} : ObjC K (adrOf K nm) → G a = some (.ins (adrOf K nm) dx fs) → RpFs K G fs es → dd = obL nm es → Rp K G (.ref a) (.dict dd)
  | typ (nm : Str) : ObjC K (adrOf K nm) → Rp K G (.ref (adrOf K nm)) (.dict [(.bool false, .str nm)])
inductive RpAll (K : PySem.W.Frag) (G : Hp) : List V → List D → Prop
  | nil : RpAll K G [] []
  | cons {v : V} {vs : List V} {d : D} {ds : List D} : Rp K G v d → RpAll K G vs ds → RpAll K G (v :: vs) (d :: ds)
inductive RpKv (K : PySem.W.Frag) (G : Hp) : List (Key × V) → List (Key × D) → Prop
  | nil : RpKv K G [] []
  | cons {k : Key} {v : V} {d : D} {kws : List (Key × V)} {kvs : List (Key × D)} : Rp K G v d → RpKv K G kws kvs → RpKv K G ((k, v) :: kws) ((k, d) :: kvs)
inductive RpFs (K : PySem.W.Frag) (G : Hp) : List (Str × V) → List (Str × D) → Prop
  | nil : RpFs K G [] []
  | cons {k : Str} {v : V} {d : D} {fs : List (Str × V)} {es : List (Str × D)} : Rp K G v d → RpFs K G fs es → RpFs K G ((k, v) :: fs) ((k, d) :: es)
end
open Evl
mutual
theorem Rp.monoW {K : PySem.W.Frag} {G G' : Hp} (e : Exw G G') : ∀ {v : V} {d : D}, Rp K G v d → Rp K G' v d
  | _, _, .non => .non
  | _, _, .bl b => .bl b
  | _, _, .int b => .int b
  | _, _, .str b => .str b
  | _, _, .lst h r => .lst (e.k _ _ h) (RpAll.monoW e r)
  | _, _, .tup h r => .tup (h.monoW e) (RpAll.monoW e r)
  | _, _, .dct h r z => .dct (e.k _ _ h) (RpKv.monoW e r) z
  | _, _, .frz h r => .frz (e.l h) (RpAll.monoW e r)
  | _, _, .ins o h r z => .ins o (e.k _ _ h) (RpFs.monoW e r) z
  | _, _, .typ nm o => .typ nm o
theorem RpAll.monoW {K : PySem.W.Frag} {G G' : Hp} (e : Exw G G') : ∀ {v : List V} {d : List D}, RpAll K G v d → RpAll K G' v d
  | _, _, .nil => .nil
  | _, _, .cons h r => .cons (Rp.monoW e h) (RpAll.monoW e r)
theorem RpKv.monoW {K : PySem.W.Frag} {G G' : Hp} (e : Exw G G') : ∀ {v : List (Key × V)} {d : List (Key × D)}, RpKv K G v d → RpKv K G' v d
  | _, _, .nil => .nil
  | _, _, .cons h r => .cons (Rp.monoW e h) (RpKv.monoW e r)
theorem RpFs.monoW {K : PySem.W.Frag} {G G' : Hp} (e : Exw G G') : ∀ {v : List (Str × V)} {d : List (Str × D)}, RpFs K G v d → RpFs K G' v d
  | _, _, .nil => .nil
  | _, _, .cons h r => .cons (Rp.monoW e h) (RpFs.monoW e r)
end
theorem Rp.mono {K : PySem.W.Frag} {G G' : Hp} (e : Ex G G') {v : V} {d : D} (h : Rp K G v d) : Rp K G' v d := h.monoW e
theorem RpAll.mono {K : PySem.W.Frag} {G G' : Hp} (e : Ex G G') {v : List V} {d : List D} (h : RpAll K G v d) : RpAll K G' v d := h.monoW e
theorem RpKv.mono {K : PySem.W.Frag} {G G' : Hp} (e : Ex G G') {v : List (Key × V)} {d : List (Key × D)} (h : RpKv K G v d) : RpKv K G' v d := h.monoW e
theorem RpFs.mono {K : PySem.W.Frag} {G G' : Hp} (e : Ex G G') {v : List (Str × V)} {d : List (Str × D)} (h : RpFs K G v d) : RpFs K G' v d := h.monoW e
section
variable {K : PySem.W.Frag} {G : Hp}
theorem RpAll.length : ∀ {vs : List V} {ds : List D}, RpAll K G vs ds → vs.length = ds.length
  | _, _, .nil => rfl
  | _, _, .cons _ r => by simp [RpAll.length r]
theorem RpAll.get : ∀ {vs : List V} {ds : List D} {i : Nat} {d : D}, RpAll K G vs ds → ds[i]? = some d → ∃ v, vs[i]? = some v ∧ Rp K G v d
  | _, _, _, _, .nil, e => by simp at e
  | _, _, 0, _, .cons h _, e => by simp at e; subst e; exact ⟨_, rfl, h⟩
  | _, _, i + 1, _, .cons _ r, e => by simpa using RpAll.get r (by simpa using e)
theorem RpAll.get' : ∀ {vs : List V} {ds : List D} {i : Nat} {v : V}, RpAll K G vs ds → vs[i]? = some v → ∃ d, ds[i]? = some d ∧ Rp K G v d
  | _, _, _, _, .nil, e => by simp at e
  | _, _, 0, _, .cons h _, e => by simp at e; subst e; exact ⟨_, rfl, h⟩
  | _, _, i + 1, _, .cons _ r, e => by simpa using RpAll.get' r (by simpa using e)
theorem RpAll.append : ∀ {vs ws : List V} {ds es : List D}, RpAll K G vs ds → RpAll K G ws es → RpAll K G (vs ++ ws) (ds ++ es)
  | _, _, _, _, .nil, s => s
  | _, _, _, _, .cons h r, s => .cons h (RpAll.append r s)
theorem RpAll.set : ∀ {vs : List V} {ds : List D} {v : V} {d : D} (i : Nat), RpAll K G vs ds → Rp K G v d → RpAll K G (vs.set i v) (ds.set i d)
  | _, _, _, _, _, .nil, _ => .nil
  | _, _, _, _, 0, .cons _ r, s => .cons s r
  | _, _, _, _, i + 1, .cons h r, s => .cons h (RpAll.set i r s)
theorem RpAll.take : ∀ {vs : List V} {ds : List D} (i : Nat), RpAll K G vs ds → RpAll K G (vs.take i) (ds.take i)
  | _, _, 0, _ => by simp; exact .nil
  | _, _, _ + 1, .nil => .nil
  | _, _, i + 1, .cons h r => .cons h (RpAll.take i r)
theorem RpAll.drop : ∀ {vs : List V} {ds : List D} (i : Nat), RpAll K G vs ds → RpAll K G (vs.drop i) (ds.drop i)
  | _, _, 0, r => r
  | _, _, _ + 1, .nil => .nil
  | _, _, i + 1, .cons _ r => RpAll.drop i r
theorem RpAll.erase : ∀ {vs : List V} {ds : List D} (i : Nat), RpAll K G vs ds → RpAll K G (vs.eraseIdx i) (ds.eraseIdx i)
  | _, _, _, .nil => .nil
  | _, _, 0, .cons _ r => r
  | _, _, i + 1, .cons h r => .cons h (RpAll.erase i r)
theorem RpAll.dropLast {vs : List V} {ds : List D} (r : RpAll K G vs ds) : RpAll K G vs.dropLast ds.dropLast := by
  rw [List.dropLast_eq_take, List.dropLast_eq_take, r.length]; exact r.take _
theorem RpAll.reverse : ∀ {vs : List V} {ds : List D}, RpAll K G vs ds → RpAll K G vs.reverse ds.reverse
  | _, _, .nil => .nil
  | _, _, .cons h r => by simpa using r.reverse.append (.cons h .nil)
theorem RpAll.ints : ∀ (ns : List Int), RpAll K G (ns.map V.int) (ns.map PyData.int)
  | [] => .nil
  | n :: ns => .cons (.int n) (RpAll.ints ns)
theorem RpAll.of_ints : ∀ {ns : List Int} {vs : List V}, RpAll K G vs (ns.map PyData.int) → vs = ns.map V.int
  | [], _, .nil => rfl
  | n :: ns, _, .cons (.int _) r => by rw [RpAll.of_ints r]; rfl
theorem RpAll.of_bls : ∀ {ns : List Bool} {vs : List V}, RpAll K G vs (ns.map PyData.bool) → vs = ns.map V.bl
  | [], _, .nil => rfl
  | n :: ns, _, .cons (.bl _) r => by rw [RpAll.of_bls r]; rfl
end
inductive MO where
  | lst (ds : List D)
  | dct (kvs : List (Key × D))
  | par (p : Addr) (m : MO)
  /-- a kept range 0, 1, .. -/
  | rng (j : Int)
  /-- a dict whose keys are tuples of ints -/
  | dtu (kvs : List (List Int × D))
  /-- an instance that is being made -/
  | obj (nm : Str) (es : List (Str × D))
def RpO (K : PySem.W.Frag) (G : Hp) : MO → HO → Prop
  | .lst ds, .lst vs => RpAll K G vs ds
  | .dct kvs, .dK kws => Paired (fun (p : Key × D) (q : Key × V) => p.1 = q.1 ∧ Rp K G q.2 p.2) kvs kws
  | .par _ m, o => RpO K G m o
  | .rng j, .rng lo hi => lo = 0 ∧ hi = j
  | .dtu kvs, .dT kws => Paired (fun (p : List Int × D) (q : List Key × V) => p.1.map Sum.inl = q.1 ∧ Rp K G q.2 p.2) kvs kws
  | .obj nm es, .ins C _ fs => C = adrOf K nm ∧ ObjC K C ∧ RpFs K G fs es
  | _, _ => False
theorem RpO.monoW {K : PySem.W.Frag} {G G' : Hp} (e : Exw G G') : ∀ {m : MO} {o : HO}, RpO K G m o → RpO K G' m o
  | .par _ m, o, h => by unfold RpO at h ⊢; exact RpO.monoW (m := m) e h
  | .lst ds, o, h => by cases o <;> first | exact RpAll.monoW e h | exact False.elim h
  | .dct ds, o, h => by cases o <;> first | exact False.elim h | exact Paired.mapP h fun p q z => ⟨z.1, z.2.monoW e⟩
  | .rng j, o, h => by cases o <;> first | exact False.elim h | exact h
  | .dtu ds, o, h => by cases o <;> first | exact False.elim h | exact Paired.mapP h fun p q z => ⟨z.1, z.2.monoW e⟩
  | .obj _ es, o, h => by cases o <;> first | exact False.elim h | exact ⟨h.1, h.2.1, h.2.2.monoW e⟩
theorem RpO.mono {K : PySem.W.Frag} {G G' : Hp} (e : Ex G G') {m : MO} {o : HO} (h : RpO K G m o) : RpO K G' m o := h.monoW e
inductive SV where
  | im (d : D)
  | ow (m : MO)
abbrev Env := List (Option SV)
def Own (ρ : Env) (σ : L2.St) (a : Addr) : Prop := ∃ (i : Nat) (m : MO), ρ[i]? = some (some (SV.ow m)) ∧ σ[i]? = some (some (V.ref a))
open Classical in
noncomputable def hide (O : Addr → Prop) (H : Hp) : Hp := fun a => if O a then none else H a
theorem hide_some {O : Addr → Prop} {H : Hp} {a : Addr} {o : HO} : hide O H a = some o ↔ ¬ O a ∧ H a = some o := by
  unfold hide; by_cases h : O a <;> simp [h]
theorem hide_ex {O : Addr → Prop} {H : Hp} : Ex (hide O H) H := fun _ _ h => (hide_some.1 h).2
def Hd (T : Addr → Prop) (ρ : Env) (σ : L2.St) (a : Addr) : Prop := T a ∨ Own ρ σ a
def Lv (H : Hp) (a : Addr) : Prop := H a ≠ none ∧ ∀ o, H a = some o → ¬ TuO o ∧ ¬ TbX o
theorem Lv.upd {H : Hp} {a p : Addr} {o : HO} (ne : a ≠ p) (h : Lv H a) : Lv (upd H p o) a := by
  unfold Lv
  rw [upd_ne ne]
  exact h
theorem Lv.at {H : Hp} {p : Addr} {o : HO} (h : ¬ TuO o) (nt : ¬ TbX o := by first | assumption | exact id) : Lv (L2.upd H p o) p := by
  unfold Lv
  rw [upd_same]
  exact ⟨by simp, fun u z => by cases z; exact ⟨h, nt⟩⟩
theorem tbx_of {o : HO} (h : ¬ TbX o) : ¬ TbO o := fun t => h (by cases o <;> first | trivial | exact t.elim)
theorem Lv.keepT {H H' : Hp} {a : Addr} (h : Lv H a) (k : ∀ o, H a = some o → ¬ TbX o → H' a = some o) : Lv H' a := by
  obtain ⟨h1, h2⟩ := h
  cases e : H a with
  | none => exact absurd e h1
  | some o =>
    have kk := k o e (h2 o e).2
    refine ⟨by rw [kk]; simp, fun u z => h2 u ?_⟩
    rw [kk] at z
    rw [e, z]
theorem Lv.keep {H H' : Hp} {a : Addr} (h : Lv H a) (k : ∀ o, H a = some o → H' a = some o) : Lv H' a := h.keepT fun o e _ => k o e
theorem Lv.grow {H H' : Hp} {a : Addr} (h : Lv H a) (e : Exw H H') : Lv H' a := h.keepT fun o q nt => e.k a o q (tbx_of nt)
structure RS (K : PySem.W.Frag) (T : Addr → Prop) (ρ : Env) (σ : L2.St) (H : Hp) : Prop where
  len : ρ.length = σ.length
  im : ∀ (i : Nat) (d : D), ρ[i]? = some (some (SV.im d)) → ∃ v, σ[i]? = some (some v) ∧ Rp K (hide (Hd T ρ σ) H) v d
  ow : ∀ (i : Nat) (m : MO), ρ[i]? = some (some (SV.ow m)) → ∃ a o, σ[i]? = some (some (V.ref a)) ∧ H a = some o ∧ RpO K (hide (Hd T ρ σ) H) m o
  inj : ∀ (i j : Nat) (m m' : MO) (a : Addr), ρ[i]? = some (some (SV.ow m)) → ρ[j]? = some (some (SV.ow m')) → σ[i]? = some (some (V.ref a)) → σ[j]? = some (some (V.ref a)) → i = j
  dis : ∀ a, T a → ¬ Own ρ σ a
  dom : ∀ a, T a → Lv H a
  tag : ∀ (i : Nat) (p : Addr) (m : MO) (a : Addr), ρ[i]? = some (some (SV.ow (.par p m))) → σ[i]? = some (some (V.ref a)) → a = p
  tb : TbOk K H
structure Po (ρ : Env) (σ : L2.St) (H : Hp) (ρ' : Env) (σ' : L2.St) (H' : Hp) : Prop where
  keep : ∀ a o, ¬ Own ρ σ a → H a = some o → (nt : ¬ TbO o := by first | assumption | exact id) → H' a = some o
  own : ∀ a, Own ρ' σ' a → Own ρ σ a ∨ H a = none
  dom : ∀ a, H a ≠ none → H' a ≠ none
section
variable {K : PySem.W.Frag} {T : Addr → Prop} {ρ ρ1 ρ2 : Env} {σ σ1 σ2 : L2.St} {H H1 H2 : Hp}
theorem Po.refl : Po ρ σ H ρ σ H := ⟨fun _ _ _ h _ => h, fun _ h => .inl h, fun _ h => h⟩
theorem Po.trans (p : Po ρ σ H ρ1 σ1 H1) (q : Po ρ1 σ1 H1 ρ2 σ2 H2) : Po ρ σ H ρ2 σ2 H2 where
  keep := fun a o n h nt => q.keep a o (fun w => by
    rcases p.own a w with w | w
    · exact n w
    · rw [w] at h; cases h) (p.keep a o n h nt) nt
  own := fun a w => by
    rcases q.own a w with w | w
    · exact p.own a w
    · by_cases h : H a = none
      · exact .inr h
      · exact absurd w (p.dom a h)
  dom := fun a h => q.dom a (p.dom a h)
theorem hide_dom {O : Addr → Prop} {H : Hp} {a : Addr} : hide O H a ≠ none ↔ ¬ O a ∧ H a ≠ none := by
  unfold hide; by_cases h : O a <;> simp [h]
theorem Po.fz (p : Po ρ σ H ρ1 σ1 H1) : Exw (hide (Hd T ρ σ) H) (hide (Hd T ρ1 σ1) H1) := by
  have nh : ∀ {a}, ¬ Hd T ρ σ a → H a ≠ none → ¬ Hd T ρ1 σ1 a := fun {a} n h => by
    rintro (t | w)
    · exact n (.inl t)
    · rcases p.own a w with w | w
      · exact n (.inr w)
      · exact h w
  refine ⟨fun a o h nt => ?_, fun a h => ?_⟩
  · obtain ⟨n, h⟩ := hide_some.1 h
    exact hide_some.2 ⟨nh n (by rw [h]; simp), p.keep a o (fun w => n (.inr w)) h nt⟩
  · obtain ⟨n, h⟩ := hide_dom.1 h
    exact hide_dom.2 ⟨nh n h, p.dom a h⟩
theorem RS.ownDom (r : RS K T ρ σ H) {a : Addr} (h : Own ρ σ a) : H a ≠ none := by
  obtain ⟨i, m, h1, h2⟩ := h
  obtain ⟨b, o, e1, e2, _⟩ := r.ow i m h1
  rw [h2] at e1; cases e1; rw [e2]; simp
theorem rpo_tb {G : Hp} {o : HO} : ∀ {m : MO}, RpO K G m o → ¬ TbO o
  | .par _ m, h => rpo_tb (m := m) h
  | .lst _, h => by cases o <;> first | exact id | exact h.elim
  | .dct _, h => by cases o <;> first | exact id | exact h.elim
  | .rng _, h => by cases o <;> first | exact id | exact h.elim
  | .dtu _, h => by cases o <;> first | exact id | exact h.elim
  | .obj _ _, h => by cases o <;> first | exact id | exact h.elim
theorem rpo_tbx {G : Hp} {o : HO} : ∀ {m : MO}, RpO K G m o → ¬ TbX o
  | .par _ m, h => rpo_tbx (m := m) h
  | .lst _, h => by cases o <;> first | exact id | exact h.elim
  | .dct _, h => by cases o <;> first | exact id | exact h.elim
  | .rng _, h => by cases o <;> first | exact id | exact h.elim
  | .dtu _, h => by cases o <;> first | exact id | exact h.elim
  | .obj _ _, h => by cases o <;> first | exact id | exact h.elim
theorem RS.ownTb (r : RS K T ρ σ H) {a : Addr} (h : Own ρ σ a) {o : HO} (e : H a = some o) : ¬ TbX o := by
  obtain ⟨i, m, h1, h2⟩ := h
  obtain ⟨b, u, e1, e2, e3⟩ := r.ow i m h1
  rw [h2] at e1; cases e1
  rw [e] at e2; cases e2
  exact rpo_tbx e3
theorem TbOk.wr {p : Addr} {o o' : HO} (t : TbOk K H) (h : H p = some o) (nt : ¬ TbX o := by first | assumption | exact id) : TbOk K (L2.upd H p o') := t.keep fun b u x e => by
  have ne : b ≠ p := fun z => by
    subst z
    rw [h] at e
    cases e
    exact nt x
  rw [upd_ne ne]
  exact e
theorem RS.tbW (r : RS K T ρ σ H) {p : Addr} (h : Own ρ σ p) {o' : HO} : TbOk K (L2.upd H p o') := r.tb.keep fun b o x e => by
  have ne : b ≠ p := fun z => by
    subst z
    exact r.ownTb h e x
  rw [upd_ne ne]
  exact e
theorem RS.hdDom (r : RS K T ρ σ H) {a : Addr} (h : Hd T ρ σ a) : H a ≠ none := h.elim (fun t => (r.dom a t).1) r.ownDom
theorem rpo_tup {G : Hp} {o : HO} (t : TuO o) : ∀ {m : MO}, ¬ RpO K G m o
  | .par _ m, h => rpo_tup t (m := m) h
  | .lst _, h => by cases o <;> first | exact t | exact h
  | .dct _, h => by cases o <;> first | exact t | exact h
  | .rng _, h => by cases o <;> first | exact t | exact h
  | .dtu _, h => by cases o <;> first | exact t | exact h
  | .obj _ _, h => by cases o <;> first | exact t | exact h
theorem RS.hdLv (r : RS K T ρ σ H) {a : Addr} (h : Hd T ρ σ a) : Lv H a := h.elim (r.dom a) fun w => by
  refine ⟨r.ownDom w, fun u e => ?_⟩
  obtain ⟨i, m, h1, h2⟩ := w
  obtain ⟨b, o, e1, e2, e3⟩ := r.ow i m h1
  rw [h2] at e1; cases e1
  rw [e] at e2; cases e2
  exact ⟨fun t => rpo_tup t e3, rpo_tbx e3⟩
theorem hide_growW {O : Addr → Prop} (e : Exw H H1) : Exw (hide O H) (hide O H1) :=
  ⟨fun a o h nt => hide_some.2 ⟨(hide_some.1 h).1, e.k _ _ (hide_some.1 h).2 nt⟩, fun a h => hide_dom.2 ⟨(hide_dom.1 h).1, e.d a (hide_dom.1 h).2⟩⟩
theorem RS.growT (r : RS K T ρ σ H) (e : Exw H H1) (tb : TbOk K H1) : RS K T ρ σ H1 := by
  have ez : Exw (hide (Hd T ρ σ) H) (hide (Hd T ρ σ) H1) := hide_growW e
  refine ⟨r.len, fun i d h => ?_, fun i m h => ?_, r.inj, r.dis, fun a t => ?_, r.tag, tb⟩
  · obtain ⟨v, h1, h2⟩ := r.im i d h; exact ⟨v, h1, h2.monoW ez⟩
  · obtain ⟨a, o, h1, h2, h3⟩ := r.ow i m h; exact ⟨a, o, h1, e.k _ _ h2 (rpo_tb h3), h3.monoW ez⟩
  · exact (r.dom a t).grow e
theorem RS.grow (r : RS K T ρ σ H) (e : Ex H H1) : RS K T ρ σ H1 := r.growT e (r.tb.ext e)
theorem RS.growE (r : RS K T ρ σ H) (e : ExG K H H1) : RS K T ρ σ H1 := r.growT e.w (e.t r.tb)
theorem Po.growT (e : Exw H H1) : Po ρ σ H ρ σ H1 := ⟨fun a o _ h nt => e.k a o h nt, fun _ h => .inl h, e.d⟩
theorem Po.grow (e : Ex H H1) : Po ρ σ H ρ σ H1 := .growT e
theorem Po.growE (e : ExG K H H1) : Po ρ σ H ρ σ H1 := .growT e.w
theorem hide_new {O : Addr → Prop} {p : Addr} {o : HO} (hO : ∀ a, O a → H a ≠ none) (h : H p = none) : hide O (upd H p o) p = some o := hide_some.2 ⟨fun w => hO p w h, upd_same⟩
theorem hide_grow {O : Addr → Prop} (e : Ex H H1) : Ex (hide O H) (hide O H1) := fun a o h => hide_some.2 ⟨(hide_some.1 h).1, e _ _ (hide_some.1 h).2⟩
end
abbrev DE := Env → (D → Env → Prop) → Prop
abbrev DT := Env → (Bool → Env → Prop) → Prop
abbrev DA := Env → (List D → Env → Prop) → Prop
structure DEnds where
  nx : Env → Prop
  rt : D → Env → Prop
  bk : Env → Prop := fun _ => False
  ct : Env → Prop := fun _ => False
  /-- an error of an own class, with the field that it keeps -/
  er : Str → Option (Str × D) → Prop := fun _ _ => False
def ErrA (K : PySem.W.Frag) (G H : Hp) (dd : Option Addr) : Option (Str × D) → Prop
  | some fd => ∃ a pv, dd = some a ∧ H a = some (.xd [(fd.1, pv)]) ∧ Rp K G pv fd.2
  | none => True
def ErrAt (K : PySem.W.Frag) (G H : Hp) (dd : Option Addr) (fd : Option (Str × D)) : Prop := TbOk K H ∧ ErrA K G H dd fd
def Wx (X : Cx) : L2.WX := fun cls d σ H => ∀ u s', L2.XE X (fun c e τ G => c = cls ∧ e = d ∧ τ = σ ∧ G = H) u s' → X.xe u s'
abbrev DS := DEnds → Env → Prop
abbrev DG := D → Env → (Env → Prop) → Prop
structure JE (X : Cx) (e : Expr) (f : DE) : Prop where
  ex : ∃ t, PE X e t ∧ ∀ (T : Addr → Prop) (ρ : Env) (σ : L2.St) (H : Hp) (QD : D → Env → Prop) (Q : VK), RS X.K T ρ σ H → f ρ QD →
    (∀ d ρ' v H', RS X.K T ρ' σ H' → Po ρ σ H ρ' σ H' → Rp X.K (hide (Hd T ρ' σ) H') v d → QD d ρ' → Q v H') → t σ H Q
structure JT (X : Cx) (e : Expr) (f : DT) : Prop where
  ex : ∃ t, PT X e t ∧ ∀ (T : Addr → Prop) (ρ : Env) (σ : L2.St) (H : Hp) (QD : Bool → Env → Prop) (Q : Bool → Hp → Prop), RS X.K T ρ σ H → f ρ QD →
    (∀ b ρ' H', RS X.K T ρ' σ H' → Po ρ σ H ρ' σ H' → QD b ρ' → Q b H') → t σ H Q
structure JA (X : Cx) (es : List Expr) (f : DA) : Prop where
  ex : ∃ t, PA X es t ∧ ∀ (T : Addr → Prop) (ρ : Env) (σ : L2.St) (H : Hp) (QD : List D → Env → Prop) (Q : List V → Hp → Prop), RS X.K T ρ σ H → f ρ QD →
    (∀ ds ρ' vs H', RS X.K T ρ' σ H' → Po ρ σ H ρ' σ H' → RpAll X.K (hide (Hd T ρ' σ) H') vs ds → QD ds ρ' → Q vs H') → t σ H Q
structure EndOk (K : PySem.W.Frag) (W : L2.WX) (T : Addr → Prop) (ρ : Env) (σ : L2.St) (H : Hp) (E : DEnds) (D : Ends) : Prop where
  nx : ∀ ρ' σ' H', RS K T ρ' σ' H' → Po ρ σ H ρ' σ' H' → E.nx ρ' → D.nx σ' H'
  rt : ∀ d ρ' σ' v H', RS K T ρ' σ' H' → Po ρ σ H ρ' σ' H' → Rp K (hide (Hd T ρ' σ') H') v d → E.rt d ρ' → D.rt v H'
  bk : ∀ ρ' σ' H', RS K T ρ' σ' H' → Po ρ σ H ρ' σ' H' → E.bk ρ' → D.bk σ' H'
  ct : ∀ ρ' σ' H', RS K T ρ' σ' H' → Po ρ σ H ρ' σ' H' → E.ct ρ' → D.ct σ' H'
  er : ∀ nm fd σ' dd H', Po ρ σ H [] σ' H' → ErrAt K (hide T H') H' dd fd → E.er nm fd → W (.ref (adrOf K nm)) dd σ' H'
structure JS (X : Cx) (st : Stmt) (f : DS) : Prop where
  ex : ∃ t, PS X st t ∧ ∀ (T : Addr → Prop) (ρ : Env) (σ : L2.St) (H : Hp) (E : DEnds) (D : Ends), RS X.K T ρ σ H → f E ρ → EndOk X.K (Wx X) T ρ σ H E D → t D σ H
structure JSs (X : Cx) (st : List Stmt) (f : DS) : Prop where
  ex : ∃ t, PSs X st t ∧ ∀ (T : Addr → Prop) (ρ : Env) (σ : L2.St) (H : Hp) (E : DEnds) (D : Ends), RS X.K T ρ σ H → f E ρ → EndOk X.K (Wx X) T ρ σ H E D → t D σ H
theorem EndOk.step {K : PySem.W.Frag} {W : L2.WX} {T : Addr → Prop} {ρ ρ1 : Env} {σ σ1 : L2.St} {H H1 : Hp} {E : DEnds} {D : Ends} (e : EndOk K W T ρ σ H E D) (p : Po ρ σ H ρ1 σ1 H1) : EndOk K W T ρ1 σ1 H1 E D :=
  ⟨fun a b c r q => e.nx a b c r (p.trans q), fun a b c d f r q => e.rt a b c d f r (p.trans q), fun a b c r q => e.bk a b c r (p.trans q), fun a b c r q => e.ct a b c r (p.trans q), fun a b c d f q => e.er a b c d f (p.trans q)⟩
section
variable {X : Cx} {a b c : Expr} {fa fb fc : DE} {pos : Pos}
def dVar (i : Nat) : DE := fun ρ Q => match ρ[i]? with
  | some (some (SV.im d)) => Q d ρ
  | _ => False
theorem je_var {i : Nat} {x : Str} (hN : X.N[i]? = some x) (hv : Vis X.env.scope x) (hd : (x == ("__debug__" : Str)) = false := by decide) (hcd : (x == ("__classdict__" : Str)) = false := by decide) : JE X (.Name x pos) (dVar i) := by
  refine ⟨tVar i, pe_var hN hv hd hcd, fun T ρ σ H QD Q r h k => ?_⟩
  unfold dVar at h
  split at h
  · rename_i d e
    obtain ⟨v, e1, e2⟩ := r.im i d e
    exact ⟨v, e1, k d ρ v H r .refl e2 h⟩
  · exact False.elim h
def dC (d : D) : DE := fun ρ Q => Q d ρ
theorem je_of {e : Expr} {v : V} {d : D} (h : PE X e (tC v)) (hr : ∀ G, Rp X.K G v d) : JE X e (dC d) := ⟨tC v, h, fun T ρ σ H QD Q r h k => k d ρ v H r .refl (hr _) h⟩
theorem je_int {i : Int} {j} : JE X (.Constant (.int i) j pos) (dC (.int i)) := je_of pe_int fun _ => .int i
theorem je_bl {i : Bool} {j} : JE X (.Constant (.bool i) j pos) (dC (.bool i)) := je_of pe_bl fun _ => .bl i
theorem je_non {j} : JE X (.Constant .none j pos) (dC .none) := je_of pe_non fun _ => .non
theorem je_str {x : Str} {j} : JE X (.Constant (.str x) j pos) (dC (.str x)) := je_of pe_str fun _ => .str x
theorem je_globI {x : Str} {i : Int} {t : Tok} (hm : X.mg x = some (.int i t)) (hg : Gl X x) (hd : (x == ("__debug__" : Str)) = false := by decide) : JE X (.Name x pos) (dC (.int i)) := je_of (pe_glob (v := V.int i) hg hm ⟨t, rfl⟩ hd) fun _ => .int i
structure OpD (X : Cx) (f : Value → Value → Sem Value) (op : D → D → (D → Prop) → Prop) : Prop where
  ex : ∃ r : R2, OpR X f r ∧ ∀ (O : Addr → Prop) (H : Hp) (x y : V) (d e : D) (QD : D → Prop) (Q : VK), (∀ a, O a → H a ≠ none) → Rp X.K (hide O H) x d → Rp X.K (hide O H) y e → op d e QD →
    (∀ z v H', Ex H H' → Rp X.K (hide O H') v z → QD z → Q v H') → r x y H Q
def dBin (op : D → D → (D → Prop) → Prop) (fa fb : DE) : DE := fun ρ Q => fa ρ fun x ρ1 => fb ρ1 fun y ρ2 => op x y fun z => Q z ρ2
theorem je_two {e : Expr} {op : D → D → (D → Prop) → Prop} {r : R2} (hr : ∀ (O : Addr → Prop) (H : Hp) (x y : V) (d e : D) (QD : D → Prop) (Q : VK), (∀ a, O a → H a ≠ none) → Rp X.K (hide O H) x d → Rp X.K (hide O H) y e → op d e QD →
    (∀ z v H', Ex H H' → Rp X.K (hide O H') v z → QD z → Q v H') → r x y H Q) (ha : JE X a fa) (hb : JE X b fb) (he : ∀ ta tb, PE X a ta → PE X b tb → PE X e (tOp r ta tb)) : JE X e (dBin op fa fb) := by
  obtain ⟨ta, pa, ka⟩ := ha.ex
  obtain ⟨tb, pb, kb⟩ := hb.ex
  refine ⟨_, he ta tb pa pb, fun T ρ σ H QD Q r h k => ?_⟩
  refine ka T ρ σ H _ _ r h fun d ρ1 v H1 r1 p1 v1 h1 => ?_
  refine kb T ρ1 σ H1 _ _ r1 h1 fun e ρ2 w H2 r2 p2 v2 h2 => ?_
  refine hr (Hd T ρ2 σ) H2 v w d e _ _ (fun a => r2.hdDom) (v1.monoW p2.fz) v2 h2 fun z u H3 e3 v3 h3 => ?_
  exact k z ρ2 u H3 (r2.grow e3) ((p1.trans p2).trans (.grow e3)) v3 h3
theorem je_bin {o : Operator} {op : D → D → (D → Prop) → Prop} (ho : OpD X (binaryOp o) op) (ha : JE X a fa) (hb : JE X b fb) : JE X (.BinOp a o b pos) (dBin op fa fb) := by
  obtain ⟨r, h1, h2⟩ := ho.ex
  exact je_two h2 ha hb fun _ _ => pe_op h1
theorem je_cmp {o : CmpOp} {op : D → D → (D → Prop) → Prop} (ho : OpD X (compareOp o) op) (ha : JE X a fa) (hb : JE X b fb) (hm : behindInMarks o b = false) : JE X (.Compare a [o] [b] pos) (dBin op fa fb) := by
  obtain ⟨r, h1, h2⟩ := ho.ex
  exact je_two h2 ha hb fun _ _ pa pb => pe_cmpR h1 pa pb hm
end
end Dn
set_option Elab.async false
set_option linter.all false
set_option maxRecDepth 100000
set_option autoImplicit false
set_option maxHeartbeats 2000000
namespace He
open PySem PySem.Spec PyProof.Rows L2 PySem.W
def obB (K : Frag) (nm : Str) : Bool := decide (Dn.adrOf K nm = ga K nm) && (eqO (findIn K (.ref (ga K nm)) "__class__") (some (some (.builtin "object.__class__"))) && (eqO (specialIn K (.builtin "object.__class__") "__get__") (some (some (.builtin "getset_descriptor.__get__"))) && (decide (takesIn K (.builtin "object.__class__") = some true) &&
  (decide ((clsIn K (ga K nm)).map (·.mro) = some [.ref (ga K nm), .type "object"]) && (decide (typeIn K (.ref (ga K nm)) = some (.type "type")) && (eqO (nsIn K cStatics "thirdparty.any") (some none) && eqO (findIn K (.ref (ga K nm)) "__ne__") (some (some (.builtin "object.__ne__")))))))))
def crA (K : Frag) (C : Addr) (m : Str) : Addr := match findCls K (.ref C) (.type "type") m with
  | some (.get _ (.ref p) _ _) => p
  | _ => 0
def cgA (K : Frag) (C : Addr) (m : Str) : Addr := match recIn K (crA K C m) "classmethod" with
  | some (.ref g :: _) => g
  | _ => 0
def isGet (C p : Addr) : Option CFound → Bool
  | some (.get (.builtin g) (.ref q) .none (.ref D)) => decide (g = "classmethod.__get__") && (decide (q = p) && decide (D = C))
  | _ => false
def cmB (K : Frag) (C : Addr) (m : Str) : Bool := readsIn K C (.type "type") && (eqO (specialIn K (.ref C) "__getattribute__") (some (some (.builtin "type.__getattribute__"))) && (isGet C (crA K C m) (findCls K (.ref C) (.type "type") m) && (fnIn K (cgA K C m) && (match recIn K (crA K C m) "classmethod" with
  | some (.ref _ :: _) => true
  | _ => false))))
end He
set_option Elab.async false
set_option linter.all false
set_option maxRecDepth 100000
set_option autoImplicit false
set_option maxHeartbeats 2000000
namespace He
open PySem PySem.Spec PyProof.Rows L2 PySem.W
def obsLG (as : List Addr) (bf : List (Str × String)) (fa : List Fa) (fn : List DefD) (xb : Frag → Bool) (xf : Frag → List FnB) (g : Addr → Option Obj) : AlD × List FnB := obsX bf fa fn xb xf (frG g as)
def hookL (as : List Addr) (bf : List (Str × String)) (fa : List Fa) (fn : List DefD) (xb : Frag → Bool) (xf : Frag → List FnB) (vals : List FnB) : Hook where
  α := AlD × List FnB
  obs := fun s => obsLG as bf fa fn xb xf s.heap.get?
  val := fun _ => (valD fn, vals)
  says := fun _ h => ∃ K : Frag, K.In h ∧ SaysX bf fa fn xb xf vals K
  of := fun _ _ e => ⟨_, frG_in, e⟩
  keeps := fun _ _ _ ⟨K, hK, c⟩ k => ⟨K, Frag.In.keeps hK k, c⟩
theorem obsLG_eq {as : List Addr} {bf : List (Str × String)} {fa : List Fa} {fn : List DefD} {xb : Frag → Bool} {xf : Frag → List FnB} {vals : List FnB} {g : Addr → Option Obj} {s : Shared} (h : ∀ a, g a = s.heap.get? a) : obsLG as bf fa fn xb xf g = (hookL as bf fa fn xb xf vals).obs s := by
  have e : g = s.heap.get? := funext h
  rw [e] <;> rfl
end He
set_option Elab.async false
set_option linter.all false
set_option maxRecDepth 100000
set_option autoImplicit false
set_option maxHeartbeats 4000000
namespace Dn
open PySem L2 Evl
section
variable {X : Cx} {a b c : Expr} {fa fb fc : DE} {pos : Pos}
theorem ex_new {O : Addr → Prop} {H : Hp} {p : Addr} {o : HO} (h : H p = none) : Ex (hide O H) (hide O (upd H p o)) := hide_grow (Ex.new h)
theorem rp_newL {K : PySem.W.Frag} {O : Addr → Prop} {H : Hp} {p : Addr} {vs : List V} {ds : List D} (hO : ∀ a, O a → H a ≠ none) (h : H p = none) (r : RpAll K (hide O H) vs ds) : Rp K (hide O (upd H p (.lst vs))) (.ref p) (.list ds) := .lst (hide_new hO h) (r.mono (ex_new h))
theorem rp_newT {K : PySem.W.Frag} {O : Addr → Prop} {H : Hp} {p : Addr} {o : HO} {vs : List V} {ds : List D} (hO : ∀ a, O a → H a ≠ none) (h : H p = none) (t : TO K o vs) (r : RpAll K (hide O H) vs ds) : Rp K (hide O (upd H p o)) (.ref p) (.tuple ds) := .tup ⟨o, hide_new hO h, t⟩ (r.mono (ex_new h))
theorem lt_of {K : PySem.W.Frag} {H : Hp} {a : Addr} {xs : List V} (h : TAt K H a xs) : SqT K H a xs := by
  obtain ⟨o, h, t⟩ := h
  exact t.sq h
theorem sqt_of {K : PySem.W.Frag} {O : Addr → Prop} {H : Hp} {a : Addr} {xs : List V} (h : TAt K (hide O H) a xs) : SqT K H a xs := lt_of (h.mono hide_ex)
theorem sql_of {K : PySem.W.Frag} {O : Addr → Prop} {H : Hp} {a : Addr} {xs : List V} (h : SqL K (hide O H) a xs) : SqL K H a xs := ex_l hide_ex h
theorem at_of {O : Addr → Prop} {H : Hp} {a : Addr} {o : HO} (h : hide O H a = some o) : H a = some o := (hide_some.1 h).2
def dAdd : D → D → (D → Prop) → Prop
  | .int i, .int j => fun Q => Q (.int (i + j))
  | .tuple xs, .tuple ys => fun Q => xs.length + ys.length ≤ 16777216 ∧ Q (.tuple (xs ++ ys))
  | .list xs, .list ys => fun Q => xs.length + ys.length ≤ 16777216 ∧ Q (.list (xs ++ ys))
  | .str x, .str y => fun Q => x.length + y.length ≤ 16777216 ∧ Q (.str (x ++ y))
  | _, _ => fun _ => False
theorem opd_add : OpD X (binaryOp .Add) dAdd := by
  refine ⟨_, .or op_add (.or op_catK (.or op_cat op_add_str)), fun O H x y d e QD Q hO rx ry h k => ?_⟩
  cases rx <;> cases ry <;> first | exact False.elim h | skip
  · exact .inl ⟨_, _, rfl, rfl, k _ _ H (.refl H) (.int _) h⟩
  · obtain ⟨hz, h⟩ := h
    exact .inr (.inr (.inr ⟨_, _, rfl, rfl, hz, k _ _ H (.refl H) (.str _) h⟩))
  · rename_i p xs ds hp rp q ys es hq rq
    obtain ⟨hz, h⟩ := h
    refine .inr (.inr (.inl ⟨_, _, _, _, rfl, rfl, at_of hp, at_of hq, by rw [rp.length, rq.length]; exact hz, fun l hl => k _ _ _ (Ex.new hl) (rp_newL hO hl (rp.append rq)) h⟩))
  · rename_i p xs ds hp rp q ys es hq rq
    obtain ⟨hz, h⟩ := h
    refine .inr (.inl ⟨_, _, _, _, rfl, rfl, sqt_of hp, sqt_of hq, by rw [rp.length, rq.length]; exact hz, fun e => ?_, fun _ e => ?_, fun _ _ l o hl t => k _ _ _ (Ex.new hl) (rp_newT hO hl t (rp.append rq)) h⟩)
    · subst e; cases rp; exact k _ _ H (.refl H) (.tup hq rq) h
    · subst e; cases rq; exact k _ _ H (.refl H) (.tup hp rp) (by simpa using h)
def dI2 (C : Int → Int → Prop) (g : Int → Int → D) : D → D → (D → Prop) → Prop
  | .int i, .int j => fun Q => C i j ∧ Q (g i j)
  | _, _ => fun _ => False
theorem opd_i2 {f : Value → Value → Sem Value} {C : Int → Int → Prop} {g : Int → Int → D} {gv : Int → Int → V} (ho : OpR X f (rI C gv)) (hg : ∀ i j G, Rp X.K G (gv i j) (g i j)) : OpD X f (dI2 C g) := by
  refine ⟨_, ho, fun O H x y d e QD Q hO rx ry h k => ?_⟩
  cases rx <;> cases ry <;> first | exact False.elim h | skip
  exact ⟨_, _, rfl, rfl, h.1, k _ _ H (.refl H) (hg _ _ _) h.2⟩
theorem opd_i2' {f : Value → Value → Sem Value} {g : Int → Int → D} {gv : Int → Int → V} (ho : OpR X f (rI0 gv)) (hg : ∀ i j G, Rp X.K G (gv i j) (g i j)) : OpD X f (dI2 (fun _ _ => True) g) := by
  refine ⟨_, ho, fun O H x y d e QD Q hO rx ry h k => ?_⟩
  cases rx <;> cases ry <;> first | exact False.elim h | skip
  exact ⟨_, _, rfl, rfl, k _ _ H (.refl H) (hg _ _ _) h.2⟩
abbrev dSub := dI2 (fun _ _ => True) fun i j => .int (i - j)
abbrev dFdiv := dI2 CDivW fun i j => .int (i / j)
abbrev dMod := dI2 (fun _ j => 0 < j) fun i j => .int (i % j)
abbrev dPow := dI2 CPow fun i j => .int (i ^ j.toNat)
abbrev dLt := dI2 (fun _ _ => True) fun i j => .bool (decide (i < j))
abbrev dLe := dI2 (fun _ _ => True) fun i j => .bool (decide (i ≤ j))
abbrev dGt := dI2 (fun _ _ => True) fun i j => .bool (decide (j < i))
theorem opd_sub : OpD X (binaryOp .Sub) dSub := opd_i2' op_sub fun _ _ _ => .int _
theorem opd_fdiv : OpD X (binaryOp .FloorDiv) dFdiv := opd_i2 op_fdivW fun _ _ _ => .int _
theorem opd_mod : OpD X (binaryOp .Mod) dMod := opd_i2 op_mod fun _ _ _ => .int _
theorem opd_pow : OpD X (binaryOp .Pow) dPow := opd_i2 op_pow fun _ _ _ => .int _
theorem opd_lt : OpD X (compareOp .Lt) dLt := opd_i2' op_lt fun _ _ _ => .bl _
theorem opd_le : OpD X (compareOp .LtE) dLe := opd_i2' op_le fun _ _ _ => .bl _
theorem opd_gt : OpD X (compareOp .Gt) dGt := opd_i2' op_gt fun _ _ _ => .bl _
mutual
theorem Rp.dp {K : PySem.W.Frag} {O : Addr → Prop} {H : Hp} : ∀ {v : V} {d : D}, Rp K (hide O H) v d → d.canLay0 = true → Dp K H v d
  | _, _, .non, _ => .non
  | _, _, .bl _, _ => .bl _
  | _, _, .int _, _ => .int _
  | _, _, .str _, _ => .str _
  | _, _, .lst h r, c => .lst (.inl (.inl (at_of h))) (RpAll.dp r (by simpa only [PyData.canLay0] using c))
  | _, _, .tup h r, c => .tup (sqt_of h) (RpAll.dp r (by simpa only [PyData.canLay0] using c))
  | _, _, .dct _ _ _, c => by simp [PyData.canLay0] at c
  | _, _, .frz _ _, c => by simp [PyData.canLay0] at c
  | _, _, .ins _ _ _ z, c => by subst z; simp [PyData.canLay0] at c
theorem RpAll.dp {K : PySem.W.Frag} {O : Addr → Prop} {H : Hp} : ∀ {v : List V} {d : List D}, RpAll K (hide O H) v d → PyData.canLayAll0 d = true → DpAll K H v d
  | _, _, .nil, _ => .nil
  | _, _, .cons h r, c => by
    simp only [PyData.canLayAll0, Bool.and_eq_true] at c
    exact .cons (Rp.dp h c.1) (RpAll.dp r c.2)
end
theorem shaped_lay {d : D} (h : SeqAt.shaped d = true) : d.canLay0 = true := by
  unfold SeqAt.shaped at h; rw [Bool.and_eq_true] at h; exact h.1
def dEq : D → D → (D → Prop) → Prop := fun x y Q => SeqAt.shaped x = true ∧ SeqAt.shaped y = true ∧ Q (.bool (PyData.eqv x y))
def dNe : D → D → (D → Prop) → Prop := fun x y Q => SeqAt.shaped x = true ∧ SeqAt.shaped y = true ∧ Q (.bool (!PyData.eqv x y))
theorem opd_eq (hu : X.A.units + 64 < cLine) : OpD X (compareOp .Eq) dEq := by
  refine ⟨_, op_eqD hu, fun O H x y d e QD Q hO rx ry h k => ?_⟩
  exact ⟨d, e, rx.dp (shaped_lay h.1), ry.dp (shaped_lay h.2.1), h.1, h.2.1, k _ _ H (.refl H) (.bl _) h.2.2⟩
theorem opd_ne (hu : X.A.units + 64 < cLine) : OpD X (compareOp .NotEq) dNe := by
  refine ⟨_, op_neD hu, fun O H x y d e QD Q hO rx ry h k => ?_⟩
  exact ⟨d, e, rx.dp (shaped_lay h.1), ry.dp (shaped_lay h.2.1), h.1, h.2.1, k _ _ H (.refl H) (.bl _) h.2.2⟩
def isN : D → Bool
  | .none => true
  | _ => false
theorem isN_rp {K : PySem.W.Frag} {G : Hp} {v : V} {d : D} (r : Rp K G v d) : decide (v = .non) = isN d := by cases r <;> simp [isN]
def dIs : D → D → (D → Prop) → Prop
  | x, .none => fun Q => Q (.bool (isN x))
  | .bool x, .bool y => fun Q => Q (.bool (decide (x = y)))
  | _, _ => fun _ => False
def dIsNot : D → D → (D → Prop) → Prop
  | x, .none => fun Q => Q (.bool (!isN x))
  | .bool x, .bool y => fun Q => Q (.bool (!decide (x = y)))
  | _, _ => fun _ => False
theorem opd_is : OpD X (compareOp .Is) dIs := by
  refine ⟨_, .or op_isN op_isBl, fun O H x y d e QD Q hO rx ry h k => ?_⟩
  cases ry with
  | non => refine .inl ⟨rfl, k _ _ H (.refl H) (.bl _) ?_⟩; rw [isN_rp rx]; cases d <;> exact h
  | bl y => cases rx <;> first | exact False.elim h | exact .inr ⟨_, _, rfl, rfl, k _ _ H (.refl H) (.bl _) h⟩
  | _ => cases rx <;> exact False.elim h
theorem opd_isnot : OpD X (compareOp .IsNot) dIsNot := by
  refine ⟨_, .or op_notN op_notBl, fun O H x y d e QD Q hO rx ry h k => ?_⟩
  cases ry with
  | non => refine .inl ⟨rfl, k _ _ H (.refl H) (.bl _) ?_⟩; rw [isN_rp rx]; cases d <;> exact h
  | bl y => cases rx <;> first | exact False.elim h | exact .inr ⟨_, _, rfl, rfl, k _ _ H (.refl H) (.bl _) h⟩
  | _ => cases rx <;> exact False.elim h
def dChain (op op' : D → D → (D → Prop) → Prop) (fa fb fc : DE) : DE := fun ρ Q => fa ρ fun x ρ1 => fb ρ1 fun y ρ2 => op x y fun z => match z with
  | .bool true => fc ρ2 fun w ρ3 => op' y w fun z => Q z ρ3
  | .bool false => Q (.bool false) ρ2
  | _ => False
theorem je_chain {o o' : CmpOp} {op op' : D → D → (D → Prop) → Prop} (ho : OpD X (compareOp o) op) (ho' : OpD X (compareOp o') op') (ha : JE X a fa) (hb : JE X b fb) (hc : JE X c fc) (hm : lastMarks [o, o'] [b, c] = false := by with_unfolding_all rfl) :
    JE X (.Compare a [o, o'] [b, c] pos) (dChain op op' fa fb fc) := by
  obtain ⟨r, h1, h2⟩ := ho.ex
  obtain ⟨r', h1', h2'⟩ := ho'.ex
  obtain ⟨ta, pa, ka⟩ := ha.ex
  obtain ⟨tb, pb, kb⟩ := hb.ex
  obtain ⟨tc, pc, kc⟩ := hc.ex
  refine ⟨_, pe_chain h1 h1' pa pb pc hm, fun T ρ σ H QD Q r h k => ?_⟩
  refine ka T ρ σ H _ _ r h fun d ρ1 v H1 r1 p1 v1 h => ?_
  refine kb T ρ1 σ H1 _ _ r1 h fun e ρ2 w H2 r2 p2 v2 h => ?_
  refine h2 (Hd T ρ2 σ) H2 v w d e _ _ (fun a => r2.hdDom) (v1.monoW p2.fz) v2 h fun z u H3 e3 v3 h => ?_
  have r3 := r2.grow e3
  have p3 : Po ρ2 σ H2 ρ2 σ H3 := .grow e3
  cases v3 with
  | bl q =>
    refine ⟨q, rfl, ?_⟩
    cases q with
    | false => exact k _ _ _ _ r3 ((p1.trans p2).trans p3) (.bl _) h
    | true =>
      rw [if_pos rfl]
      refine kc T ρ2 σ H3 _ _ r3 h fun g ρ4 y H4 r4 p4 v4 h => ?_
      refine h2' (Hd T ρ4 σ) H4 w y e g _ _ (fun a => r4.hdDom) ((v2.monoW p3.fz).monoW p4.fz) v4 h fun z u H5 e5 v5 h => ?_
      exact k z ρ4 u H5 (r4.grow e5) (((p1.trans p2).trans p3).trans (p4.trans (.grow e5))) v5 h
  | _ => exact False.elim h
def dAnd (fa fb : DE) : DE := fun ρ Q => fa ρ fun x ρ1 => match x with
  | .bool true => fb ρ1 Q
  | .bool false => Q (.bool false) ρ1
  | _ => False
def dOr (fa fb : DE) : DE := fun ρ Q => fa ρ fun x ρ1 => match x with
  | .bool true => Q (.bool true) ρ1
  | .bool false => fb ρ1 Q
  | _ => False
def dNot (fa : DE) : DE := fun ρ Q => fa ρ fun x ρ1 => match x with
  | .bool b => Q (.bool (!b)) ρ1
  | _ => False
variable {rest : List Expr}
theorem je_one {op} (ha : JE X a fa) : JE X (.BoolOp op [a] pos) fa := let ⟨t, p, k⟩ := ha.ex; ⟨t, pe_one p, k⟩
theorem je_and (ha : JE X a fa) (hb : JE X (.BoolOp .And (b :: rest) pos) fb) : JE X (.BoolOp .And (a :: b :: rest) pos) (dAnd fa fb) := by
  obtain ⟨ta, pa, ka⟩ := ha.ex
  obtain ⟨tb, pb, kb⟩ := hb.ex
  refine ⟨_, pe_and pa pb, fun T ρ σ H QD Q r h k => ?_⟩
  refine ka T ρ σ H _ _ r h fun d ρ1 v H1 r1 p1 v1 h => ?_
  cases v1 with
  | bl q =>
    refine ⟨q, rfl, ?_⟩
    cases q with
    | false => exact k _ _ _ _ r1 p1 (.bl _) h
    | true => exact kb T ρ1 σ H1 _ _ r1 h fun e ρ2 w H2 r2 p2 v2 h => k _ _ _ _ r2 (p1.trans p2) v2 h
  | _ => exact False.elim h
theorem je_or (ha : JE X a fa) (hb : JE X (.BoolOp .Or (b :: rest) pos) fb) : JE X (.BoolOp .Or (a :: b :: rest) pos) (dOr fa fb) := by
  obtain ⟨ta, pa, ka⟩ := ha.ex
  obtain ⟨tb, pb, kb⟩ := hb.ex
  refine ⟨_, pe_or pa pb, fun T ρ σ H QD Q r h k => ?_⟩
  refine ka T ρ σ H _ _ r h fun d ρ1 v H1 r1 p1 v1 h => ?_
  cases v1 with
  | bl q =>
    refine ⟨q, rfl, ?_⟩
    cases q with
    | true => exact k _ _ _ _ r1 p1 (.bl _) h
    | false => exact kb T ρ1 σ H1 _ _ r1 h fun e ρ2 w H2 r2 p2 v2 h => k _ _ _ _ r2 (p1.trans p2) v2 h
  | _ => exact False.elim h
theorem je_not (ha : JE X a fa) : JE X (.UnaryOp .Not a pos) (dNot fa) := by
  obtain ⟨ta, pa, ka⟩ := ha.ex
  refine ⟨_, pe_not pa, fun T ρ σ H QD Q r h k => ?_⟩
  refine ka T ρ σ H _ _ r h fun d ρ1 v H1 r1 p1 v1 h => ?_
  cases v1 with
  | bl q => exact ⟨q, rfl, k _ _ _ _ r1 p1 (.bl _) h⟩
  | _ => exact False.elim h
def dNeg (fa : DE) : DE := fun ρ Q => fa ρ fun x ρ1 => match x with
  | .int i => Q (.int (-i)) ρ1
  | _ => False
theorem je_neg (ha : JE X a fa) : JE X (.UnaryOp .USub a pos) (dNeg fa) := by
  obtain ⟨ta, pa, ka⟩ := ha.ex
  refine ⟨_, pe_un un_neg pa, fun T ρ σ H QD Q r h k => ?_⟩
  refine ka T ρ σ H _ _ r h fun d ρ1 v H1 r1 p1 v1 h => ?_
  cases v1 with
  | int q => exact ⟨q, rfl, k _ _ _ _ r1 p1 (.int _) h⟩
  | _ => exact False.elim h
def dTst (fa : DE) : DT := fun ρ Q => fa ρ fun x ρ1 => match x with
  | .bool b => Q b ρ1
  | _ => False
theorem jt_val (ha : JE X a fa) (he : ∀ whole, isTrue a X.env whole = (do let v ← whole; standAt a.pos; holding [v] (truthy v)) := by intro _; rfl) : JT X a (dTst fa) := by
  obtain ⟨ta, pa, ka⟩ := ha.ex
  refine ⟨_, pt_val pa he, fun T ρ σ H QD Q r h k => ?_⟩
  refine ka T ρ σ H _ _ r h fun d ρ1 v H1 r1 p1 v1 h => ?_
  cases v1 with
  | bl q => exact ⟨q, rfl, k _ _ _ r1 p1 h⟩
  | _ => exact False.elim h
theorem jt_cmp {o : CmpOp} {op : D → D → (D → Prop) → Prop} (ho : OpD X (compareOp o) op) (ha : JE X a fa) (hb : JE X b fb) (hm : behindInMarks o b = false) : JT X (.Compare a [o] [b] pos) (dTst (dBin op fa fb)) := by
  obtain ⟨r, h1, h2⟩ := ho.ex
  obtain ⟨ta, pa, ka⟩ := ha.ex
  obtain ⟨tb, pb, kb⟩ := hb.ex
  refine ⟨_, pt_cmpR h1 pa pb hm, fun T ρ σ H QD Q r h k => ?_⟩
  refine ka T ρ σ H _ _ r h fun d ρ1 v H1 r1 p1 v1 h => ?_
  refine kb T ρ1 σ H1 _ _ r1 h fun e ρ2 w H2 r2 p2 v2 h => ?_
  refine h2 (Hd T ρ2 σ) H2 v w d e _ _ (fun a => r2.hdDom) (v1.monoW p2.fz) v2 h fun z u H3 e3 v3 h => ?_
  cases v3 with
  | bl q => exact ⟨q, rfl, k _ _ _ (r2.grow e3) ((p1.trans p2).trans (.grow e3)) h⟩
  | _ => exact False.elim h
def dTNot (f : DT) : DT := fun ρ Q => f ρ fun b ρ1 => Q (!b) ρ1
variable {gA gB : DT}
theorem jt_not (ha : JT X a gA) : JT X (.UnaryOp .Not a pos) (dTNot gA) := by
  obtain ⟨ta, pa, ka⟩ := ha.ex
  refine ⟨_, pt_not pa, fun T ρ σ H QD Q r h k => ?_⟩
  exact ka T ρ σ H _ _ r h fun d ρ1 H1 r1 p1 h => k _ _ _ r1 p1 h
def dTAnd (f g : DT) : DT := fun ρ Q => f ρ fun b ρ1 => if b = true then g ρ1 Q else Q false ρ1
def dTOr (f g : DT) : DT := fun ρ Q => f ρ fun b ρ1 => if b = true then Q true ρ1 else g ρ1 Q
structure JW (X : Cx) (e : Expr) (f : DT) : Prop where
  ex : ∃ t, PW X e t ∧ ∀ (T : Addr → Prop) (ρ : Env) (σ : L2.St) (H : Hp) (QD : Bool → Env → Prop) (Q : Bool → Hp → Prop), RS X.K T ρ σ H → f ρ QD →
    (∀ b ρ' H', RS X.K T ρ' σ H' → Po ρ σ H ρ' σ H' → QD b ρ' → Q b H') → t σ H Q
theorem JW.jt (h : JW X a gA) : JT X a gA := let ⟨t, p, k⟩ := h.ex; ⟨t, p.pt, k⟩
theorem jw_and1 (ha : JT X a gA) : JW X (.BoolOp .And [a] pos) gA := let ⟨t, p, k⟩ := ha.ex; ⟨t, pw_and1 p, k⟩
theorem jw_or1 (ha : JT X a gA) : JW X (.BoolOp .Or [a] pos) gA := let ⟨t, p, k⟩ := ha.ex; ⟨t, pw_or1 p, k⟩
theorem jw_and (ha : JT X a gA) (hb : JW X (.BoolOp .And (b :: rest) pos) gB) : JW X (.BoolOp .And (a :: b :: rest) pos) (dTAnd gA gB) := by
  obtain ⟨ta, pa, ka⟩ := ha.ex
  obtain ⟨tb, pb, kb⟩ := hb.ex
  refine ⟨_, pw_and pa pb, fun T ρ σ H QD Q r h k => ?_⟩
  refine ka T ρ σ H _ _ r h fun b ρ1 H1 r1 p1 h => ?_
  cases b with
  | true => exact kb T ρ1 σ H1 _ _ r1 h fun e ρ2 H2 r2 p2 h => k _ _ _ r2 (p1.trans p2) h
  | false => exact k _ _ _ r1 p1 h
theorem jw_or (ha : JT X a gA) (hb : JW X (.BoolOp .Or (b :: rest) pos) gB) : JW X (.BoolOp .Or (a :: b :: rest) pos) (dTOr gA gB) := by
  obtain ⟨ta, pa, ka⟩ := ha.ex
  obtain ⟨tb, pb, kb⟩ := hb.ex
  refine ⟨_, pw_or pa pb, fun T ρ σ H QD Q r h k => ?_⟩
  refine ka T ρ σ H _ _ r h fun b ρ1 H1 r1 p1 h => ?_
  cases b with
  | true => exact k _ _ _ r1 p1 h
  | false => exact kb T ρ1 σ H1 _ _ r1 h fun e ρ2 H2 r2 p2 h => k _ _ _ r2 (p1.trans p2) h
def dIfE (g : DT) (fa fb : DE) : DE := fun ρ Q => g ρ fun b ρ1 => if b = true then fa ρ1 Q else fb ρ1 Q
theorem je_if (hc : JT X c gA) (ha : JE X a fa) (hb : JE X b fb) : JE X (.IfExp c a b pos) (dIfE gA fa fb) := by
  obtain ⟨tc, pc, kc⟩ := hc.ex
  obtain ⟨ta, pa, ka⟩ := ha.ex
  obtain ⟨tb, pb, kb⟩ := hb.ex
  refine ⟨_, pe_ifExp pc pa pb, fun T ρ σ H QD Q r h k => ?_⟩
  refine kc T ρ σ H _ _ r h fun b ρ1 H1 r1 p1 h => ?_
  cases b with
  | true => exact ka T ρ1 σ H1 _ _ r1 h fun e ρ2 w H2 r2 p2 v2 h => k _ _ _ _ r2 (p1.trans p2) v2 h
  | false => exact kb T ρ1 σ H1 _ _ r1 h fun e ρ2 w H2 r2 p2 v2 h => k _ _ _ _ r2 (p1.trans p2) v2 h
end
end Dn
set_option Elab.async false
set_option linter.all false
set_option maxRecDepth 100000
set_option autoImplicit false
set_option maxHeartbeats 4000000
namespace Dn
open PySem L2 Evl
section
variable {K : PySem.W.Frag} {T T' : Addr → Prop} {ρ ρ' ρ1 : Env} {σ σ' σ1 : L2.St} {H H' H1 : Hp}
def plus (T : Addr → Prop) (p : Addr) : Addr → Prop := fun a => a = p ∨ T a
theorem hide_sub {O O' : Addr → Prop} (h : ∀ a, O' a → O a) : Ex (hide O H) (hide O' H) := fun a o e => hide_some.2 ⟨fun w => (hide_some.1 e).1 (h a w), (hide_some.1 e).2⟩
theorem RS.sub (r : RS K T ρ σ H) (h : ∀ a, T' a → T a) : RS K T' ρ σ H := by
  have e : Ex (hide (Hd T ρ σ) H) (hide (Hd T' ρ σ) H) := hide_sub fun a w => w.elim (fun t => .inl (h a t)) .inr
  refine ⟨r.len, fun i d q => ?_, fun i m q => ?_, r.inj, fun a t => r.dis a (h a t), fun a t => r.dom a (h a t), r.tag, r.tb⟩
  · obtain ⟨v, h1, h2⟩ := r.im i d q; exact ⟨v, h1, h2.mono e⟩
  · obtain ⟨a, o, h1, h2, h3⟩ := r.ow i m q; exact ⟨a, o, h1, h2, h3.mono e⟩
theorem RS.unplus {p : Addr} (r : RS K (plus T p) ρ σ H) : RS K T ρ σ H := r.sub fun _ t => .inr t
theorem hd_unplus {p : Addr} : Ex (hide (Hd (plus T p) ρ σ) H) (hide (Hd T ρ σ) H) := hide_sub fun a w => w.elim (fun t => .inl (.inr t)) .inr
theorem RS.laid {p : Addr} {o : HO} (r : RS K T ρ σ H) (h : H p = none) (hnt : ¬ TuO o := by exact id) (hnb : ¬ TbX o := by exact id) : RS K (plus T p) ρ σ (upd H p o) := by
  have r1 := r.grow (Ex.new (o := o) h)
  have e : Ex (hide (Hd T ρ σ) H) (hide (Hd (plus T p) ρ σ) (upd H p o)) := fun a u w => by
    obtain ⟨n, w⟩ := hide_some.1 w
    refine hide_some.2 ⟨?_, by rw [upd_ne (ne_of_none w h)]; exact w⟩
    rintro ((t | t) | t)
    · subst t; rw [h] at w; cases w
    · exact n (.inl t)
    · exact n (.inr t)
  refine ⟨r.len, fun i d q => ?_, fun i m q => ?_, r.inj, fun a t => ?_, fun a t => ?_, r.tag, r1.tb⟩
  · obtain ⟨v, h1, h2⟩ := r.im i d q; exact ⟨v, h1, h2.mono e⟩
  · obtain ⟨a, u, h1, h2, h3⟩ := r.ow i m q; exact ⟨a, u, h1, by rw [upd_ne (ne_of_none h2 h)]; exact h2, h3.mono e⟩
  · rcases t with t | t
    · subst t; intro w; exact r.ownDom w h
    · exact r.dis a t
  · rcases t with t | t
    · subst t; exact Lv.at hnt hnb
    · exact r1.dom a t
theorem hd_laid {p : Addr} {o : HO} (h : H p = none) : Ex (hide (Hd T ρ σ) H) (hide (Hd (plus T p) ρ σ) (upd H p o)) := fun a u w => by
  obtain ⟨n, w⟩ := hide_some.1 w
  refine hide_some.2 ⟨?_, by rw [upd_ne (ne_of_none w h)]; exact w⟩
  rintro ((t | t) | t)
  · subst t; rw [h] at w; cases w
  · exact n (.inl t)
  · exact n (.inr t)
theorem getset {α : Type} {l : List (Option α)} {i j : Nat} {x y : Option α} (h : (l.set i x)[j]? = some y) : (i = j ∧ i < l.length ∧ y = x) ∨ (i ≠ j ∧ l[j]? = some y) := by
  by_cases e : i = j
  · subst e
    by_cases l1 : i < l.length
    · rw [List.getElem?_set_self l1] at h; cases h; exact .inl ⟨rfl, l1, rfl⟩
    · rw [List.getElem?_eq_none_iff.mpr (by rw [List.length_set]; omega)] at h; cases h
  · rw [List.getElem?_set_ne e] at h; exact .inr ⟨e, h⟩
theorem own_setIm {i : Nat} {d : D} {v : Option V} {a : Addr} (w : Own (ρ.set i (some (SV.im d))) (σ.set i v) a) : Own ρ σ a := by
  obtain ⟨j, m, h1, h2⟩ := w
  rcases getset h1 with ⟨_, _, h⟩ | ⟨ne, h⟩
  · cases h
  · rw [List.getElem?_set_ne ne] at h2; exact ⟨j, m, h, h2⟩
theorem RS.setIm {i : Nat} {v : V} {d : D} (r : RS K T ρ σ H) (h : Rp K (hide (Hd T ρ σ) H) v d) : RS K T (ρ.set i (some (SV.im d))) (σ.set i (some v)) H := by
  have e : Ex (hide (Hd T ρ σ) H) (hide (Hd T (ρ.set i (some (SV.im d))) (σ.set i (some v))) H) := hide_sub fun a w => w.elim .inl fun w => .inr (own_setIm w)
  refine ⟨by simp [r.len], fun j d' q => ?_, fun j m q => ?_, fun j k m m' a q1 q2 q3 q4 => ?_, fun a t w => r.dis a t (own_setIm w), r.dom, fun j p m a q1 q2 => ?_, r.tb⟩
  · rcases getset q with ⟨e1, l, h1⟩ | ⟨ne, h1⟩
    · cases h1; subst e1
      exact ⟨v, List.getElem?_set_self (by rw [← r.len]; exact l), h.mono e⟩
    · obtain ⟨u, h2, h3⟩ := r.im j d' h1
      exact ⟨u, by rw [List.getElem?_set_ne ne]; exact h2, h3.mono e⟩
  · rcases getset q with ⟨_, _, h1⟩ | ⟨ne, h1⟩
    · cases h1
    · obtain ⟨a, o, h2, h3, h4⟩ := r.ow j m h1
      exact ⟨a, o, by rw [List.getElem?_set_ne ne]; exact h2, h3, h4.mono e⟩
  · rcases getset q1 with ⟨_, _, h1⟩ | ⟨n1, h1⟩
    · cases h1
    · rcases getset q2 with ⟨_, _, h2⟩ | ⟨n2, h2⟩
      · cases h2
      · rw [List.getElem?_set_ne n1] at q3; rw [List.getElem?_set_ne n2] at q4
        exact r.inj j k m m' a h1 h2 q3 q4
  · rcases getset q1 with ⟨_, _, h1⟩ | ⟨n1, h1⟩
    · cases h1
    · rw [List.getElem?_set_ne n1] at q2; exact r.tag j p m a h1 q2
theorem Po.setIm {i : Nat} {v : V} {d : D} : Po ρ σ H (ρ.set i (some (SV.im d))) (σ.set i (some v)) H := ⟨fun _ _ _ h _ => h, fun a w => .inl (own_setIm w), fun _ h => h⟩
theorem own_setOw {i : Nat} {m : MO} {p a : Addr} (w : Own (ρ.set i (some (SV.ow m))) (σ.set i (some (V.ref p))) a) : a = p ∨ Own ρ σ a := by
  obtain ⟨j, m', h1, h2⟩ := w
  rcases getset h1 with ⟨e, _, h⟩ | ⟨ne, h⟩
  · subst e
    rcases getset h2 with ⟨_, _, h⟩ | ⟨ne, _⟩
    · cases h; exact .inl rfl
    · exact absurd rfl ne
  · rw [List.getElem?_set_ne ne] at h2; exact .inr ⟨j, m', h, h2⟩
theorem RS.setOw {i : Nat} {p : Addr} {m : MO} {o : HO} (r : RS K (plus T p) ρ σ H) (ho : H p = some o) (h : RpO K (hide (Hd (plus T p) ρ σ) H) m o) (hT : ¬ T p) (hm : ∀ q m', m = .par q m' → p = q) : RS K T (ρ.set i (some (SV.ow m))) (σ.set i (some (V.ref p))) H := by
  have hp : ¬ Own ρ σ p := r.dis p (.inl rfl)
  have e : Ex (hide (Hd (plus T p) ρ σ) H) (hide (Hd T (ρ.set i (some (SV.ow m))) (σ.set i (some (V.ref p)))) H) := hide_sub fun a w => w.elim (fun t => .inl (.inr t)) fun w => (own_setOw w).elim (fun q => .inl (.inl q)) .inr
  refine ⟨by simp [r.len], fun j d' q => ?_, fun j m' q => ?_, fun j k m1 m2 a q1 q2 q3 q4 => ?_, fun a t w => ?_, fun a t => r.dom a (.inr t), fun j q m1 a q1 q2 => ?_, r.tb⟩
  · rcases getset q with ⟨_, _, h1⟩ | ⟨ne, h1⟩
    · cases h1
    · obtain ⟨u, h2, h3⟩ := r.im j d' h1
      exact ⟨u, by rw [List.getElem?_set_ne ne]; exact h2, h3.mono e⟩
  · rcases getset q with ⟨e1, l, h1⟩ | ⟨ne, h1⟩
    · cases h1; subst e1
      exact ⟨p, o, List.getElem?_set_self (by rw [← r.len]; exact l), ho, h.mono e⟩
    · obtain ⟨a, u, h2, h3, h4⟩ := r.ow j m' h1
      exact ⟨a, u, by rw [List.getElem?_set_ne ne]; exact h2, h3, h4.mono e⟩
  · rcases getset q1 with ⟨e1, l1, h1⟩ | ⟨n1, h1⟩
    · rcases getset q2 with ⟨e2, _, h2⟩ | ⟨n2, h2⟩
      · exact e1.symm.trans e2
      · subst e1
        rcases getset q3 with ⟨_, _, z⟩ | ⟨z, _⟩
        · cases z; rw [List.getElem?_set_ne n2] at q4; exact absurd ⟨k, m2, h2, q4⟩ hp
        · exact absurd rfl z
    · rcases getset q2 with ⟨e2, _, h2⟩ | ⟨n2, h2⟩
      · subst e2
        rcases getset q4 with ⟨_, _, z⟩ | ⟨z, _⟩
        · cases z; rw [List.getElem?_set_ne n1] at q3; exact absurd ⟨j, m1, h1, q3⟩ hp
        · exact absurd rfl z
      · rw [List.getElem?_set_ne n1] at q3; rw [List.getElem?_set_ne n2] at q4
        exact r.inj j k m1 m2 a h1 h2 q3 q4
  · rcases own_setOw w with w | w
    · subst w; exact hT t
    · exact r.dis a (.inr t) w
  · rcases getset q1 with ⟨e1, _, h1⟩ | ⟨n1, h1⟩
    · cases h1; subst e1
      rcases getset q2 with ⟨_, _, h2⟩ | ⟨z, _⟩
      · cases h2; exact hm _ _ rfl
      · exact absurd rfl z
    · rw [List.getElem?_set_ne n1] at q2; exact r.tag j q m1 a h1 q2
theorem Po.setOw {i : Nat} {p : Addr} {m : MO} (q : Po ρ σ H ρ1 σ1 H1) (hp : H p = none) : Po ρ σ H (ρ1.set i (some (SV.ow m))) (σ1.set i (some (V.ref p))) H1 :=
  ⟨fun a o n h nt => q.keep a o n h nt, fun a w => (own_setOw w).elim (fun e => by subst e; exact .inr hp) (q.own a), q.dom⟩
theorem RS.write {i : Nat} {p : Addr} {m m' : MO} {o' : HO} (r : RS K T ρ σ H) (hm : ρ[i]? = some (some (SV.ow m))) (hp : σ[i]? = some (some (V.ref p))) (h : RpO K (hide (Hd T ρ σ) H) m' o') (ht : ∀ q m1, m' = .par q m1 → p = q) : RS K T (ρ.set i (some (SV.ow m'))) σ (upd H p o') := by
  have hO : Own ρ σ p := ⟨i, m, hm, hp⟩
  have hw : ∀ a, Own (ρ.set i (some (SV.ow m'))) σ a → Own ρ σ a := fun a ⟨j, m1, h1, h2⟩ => by
    rcases getset h1 with ⟨e, _, _⟩ | ⟨_, h1⟩
    · subst e; rw [hp] at h2; cases h2; exact hO
    · exact ⟨j, m1, h1, h2⟩
  have e : Ex (hide (Hd T ρ σ) H) (hide (Hd T (ρ.set i (some (SV.ow m'))) σ) (upd H p o')) := fun a u w => by
    obtain ⟨n, w⟩ := hide_some.1 w
    have ne : a ≠ p := fun z => n (.inr (z ▸ hO))
    refine hide_some.2 ⟨fun z => n (z.elim .inl fun z => .inr (hw a z)), by rw [upd_ne ne]; exact w⟩
  have il : i < ρ.length := (List.getElem?_eq_some_iff.mp hm).1
  refine ⟨by simp [r.len], fun j d' q => ?_, fun j m1 q => ?_, fun j k m1 m2 a q1 q2 q3 q4 => ?_, fun a t w => r.dis a t (hw a w), fun a t => ?_, fun j q m1 a q1 q2 => ?_, r.tbW hO⟩
  · rcases getset q with ⟨_, _, h1⟩ | ⟨ne, h1⟩
    · cases h1
    · obtain ⟨u, h2, h3⟩ := r.im j d' h1
      exact ⟨u, h2, h3.mono e⟩
  · rcases getset q with ⟨e1, l, h1⟩ | ⟨ne, h1⟩
    · cases h1; subst e1
      exact ⟨p, o', hp, upd_same, h.mono e⟩
    · obtain ⟨a, u, h2, h3, h4⟩ := r.ow j m1 h1
      have ne' : a ≠ p := fun z => by subst z; exact ne (r.inj i j m m1 a hm h1 hp h2)
      exact ⟨a, u, h2, by rw [upd_ne ne']; exact h3, h4.mono e⟩
  · have back : ∀ (j : Nat) (m1 : MO), (ρ.set i (some (SV.ow m')))[j]? = some (some (SV.ow m1)) → ∃ m2 : MO, ρ[j]? = some (some (SV.ow m2)) := fun j m1 q => by
      rcases getset q with ⟨e, _, _⟩ | ⟨_, h⟩
      · subst e; exact ⟨m, hm⟩
      · exact ⟨m1, h⟩
    obtain ⟨_, h1⟩ := back j m1 q1
    obtain ⟨_, h2⟩ := back k m2 q2
    exact r.inj j k _ _ a h1 h2 q3 q4
  · have ne : a ≠ p := fun z => by subst z; exact r.dis a t hO
    exact (r.dom a t).upd ne
  · rcases getset q1 with ⟨e1, _, h1⟩ | ⟨_, h1⟩
    · cases h1; subst e1; rw [hp] at q2; cases q2; exact ht _ _ rfl
    · exact r.tag j q m1 a h1 q2
theorem Po.write {i : Nat} {p : Addr} {m m' : MO} {o' : HO} (hm : ρ[i]? = some (some (SV.ow m))) (hp : σ[i]? = some (some (V.ref p))) : Po ρ σ H (ρ.set i (some (SV.ow m'))) σ (upd H p o') := by
  have hO : Own ρ σ p := ⟨i, m, hm, hp⟩
  refine ⟨fun a o n h _ => by rw [upd_ne (fun z => n (by subst z; exact hO))]; exact h, fun a ⟨j, m1, h1, h2⟩ => ?_, fun a h => ?_⟩
  · rcases getset h1 with ⟨e, _, _⟩ | ⟨_, h1⟩
    · subst e; rw [hp] at h2; cases h2; exact .inl hO
    · exact .inl ⟨j, m1, h1, h2⟩
  · by_cases e : a = p
    · subst e; rw [upd_same]; simp
    · rw [upd_ne e]; exact h
theorem own_freeze {i : Nat} {d : D} {a : Addr} (w : Own (ρ.set i (some (SV.im d))) σ a) : Own ρ σ a := by
  obtain ⟨j, m, h1, h2⟩ := w
  rcases getset h1 with ⟨_, _, h⟩ | ⟨ne, h⟩
  · cases h
  · exact ⟨j, m, h, h2⟩
theorem RS.freeze {i : Nat} {ds : List D} (r : RS K T ρ σ H) (hm : ρ[i]? = some (some (SV.ow (.lst ds)))) : RS K T (ρ.set i (some (SV.im (.list ds)))) σ H := by
  obtain ⟨p, o, hp, ho, hr⟩ := r.ow i _ hm
  have hO : Own ρ σ p := ⟨i, _, hm, hp⟩
  have e : Ex (hide (Hd T ρ σ) H) (hide (Hd T (ρ.set i (some (SV.im (.list ds)))) σ) H) := hide_sub fun a w => w.elim .inl fun w => .inr (own_freeze w)
  have vis : hide (Hd T (ρ.set i (some (SV.im (.list ds)))) σ) H p = some o := hide_some.2 ⟨fun w => by
    rcases w with w | ⟨j, m, h1, h2⟩
    · exact r.dis p w hO
    · rcases getset h1 with ⟨_, _, h⟩ | ⟨ne, h⟩
      · cases h
      · exact ne (r.inj i j _ m p hm h hp h2), ho⟩
  refine ⟨by simp [r.len], fun j d' q => ?_, fun j m1 q => ?_, fun j k m1 m2 a q1 q2 q3 q4 => ?_, fun a t w => r.dis a t (own_freeze w), r.dom, fun j q m1 a q1 q2 => ?_, r.tb⟩
  · rcases getset q with ⟨e1, l, h1⟩ | ⟨ne, h1⟩
    · cases h1; subst e1
      cases o with
      | lst vs => exact ⟨.ref p, hp, .lst vis (RpAll.mono e hr)⟩
      | _ => exact False.elim hr
    · obtain ⟨u, h2, h3⟩ := r.im j d' h1
      exact ⟨u, h2, h3.mono e⟩
  · rcases getset q with ⟨_, _, h1⟩ | ⟨ne, h1⟩
    · cases h1
    · obtain ⟨a, u, h2, h3, h4⟩ := r.ow j m1 h1
      exact ⟨a, u, h2, h3, h4.mono e⟩
  · rcases getset q1 with ⟨_, _, h1⟩ | ⟨_, h1⟩
    · cases h1
    · rcases getset q2 with ⟨_, _, h2⟩ | ⟨_, h2⟩
      · cases h2
      · exact r.inj j k m1 m2 a h1 h2 q3 q4
  · rcases getset q1 with ⟨_, _, h1⟩ | ⟨_, h1⟩
    · cases h1
    · exact r.tag j q m1 a h1 q2
theorem Po.freeze {i : Nat} {d : D} : Po ρ σ H (ρ.set i (some (SV.im d))) σ H := ⟨fun _ _ _ h _ => h, fun a w => .inl (own_freeze w), fun _ h => h⟩
end
end Dn
set_option Elab.async false
set_option linter.all false
set_option maxRecDepth 100000
set_option autoImplicit false
set_option maxHeartbeats 4000000
namespace Dn
open PySem L2 Evl
def Fits (K : PySem.W.Frag) (T : Addr → Prop) (ρ : Env) (σ : L2.St) (H0 H : Hp) (v : V) : SV → Prop
  | .im d => RS K T ρ σ H ∧ Rp K (hide (Hd T ρ σ) H) v d
  | .ow m => ∃ p o, v = .ref p ∧ H0 p = none ∧ H p = some o ∧ RS K (plus T p) ρ σ H ∧ RpO K (hide (Hd (plus T p) ρ σ) H) m o ∧ ∀ q m', m = .par q m' → False
abbrev DX := Env → (SV → Env → Prop) → Prop
structure JX (X : Cx) (e : Expr) (f : DX) : Prop where
  ex : ∃ t, PE X e t ∧ ∀ (T : Addr → Prop) (ρ : Env) (σ : L2.St) (H : Hp) (QD : SV → Env → Prop) (Q : VK), RS X.K T ρ σ H → f ρ QD →
    (∀ d ρ' v H', Fits X.K T ρ' σ H H' v d → Po ρ σ H ρ' σ H' → QD d ρ' → Q v H') → t σ H Q
abbrev DL := Env → (List D → Env → Prop) → Prop
structure JL (X : Cx) (e : Expr) (f : DL) : Prop where
  ex : ∃ t, PE X e t ∧ ∀ (T : Addr → Prop) (ρ : Env) (σ : L2.St) (H : Hp) (QD : List D → Env → Prop) (Q : VK), RS X.K T ρ σ H → f ρ QD →
    (∀ ds ρ' p vs H', H p = none → H' p = some (.lst vs) → RS X.K (plus T p) ρ' σ H' → RpAll X.K (hide (Hd (plus T p) ρ' σ) H') vs ds → Po ρ σ H ρ' σ H' → QD ds ρ' → Q (.ref p) H') → t σ H Q
section
variable {X : Cx} {a b c e : Expr} {fa fb fc : DE} {pos : Pos} {es : List Expr}
def xIm (f : DE) : DX := fun ρ Q => f ρ fun d => Q (.im d)
def xOw (f : DL) : DX := fun ρ Q => f ρ fun ds => Q (.ow (.lst ds))
def dOfL (f : DL) : DE := fun ρ Q => f ρ fun ds => Q (.list ds)
theorem JE.jx (h : JE X e fa) : JX X e (xIm fa) := let ⟨t, p, k⟩ := h.ex; ⟨t, p, fun T ρ σ H QD Q r h q => k T ρ σ H _ _ r h fun d ρ' v H' r' p' v' h' => q (SV.im d) ρ' v H' ⟨r', v'⟩ p' h'⟩
theorem JL.jx {f : DL} (h : JL X e f) : JX X e (xOw f) := let ⟨t, p, k⟩ := h.ex; ⟨t, p, fun T ρ σ H QD Q r h q => k T ρ σ H _ _ r h fun ds ρ' p vs H' n s r' v' p' h' => q (SV.ow (.lst ds)) ρ' (.ref p) H' ⟨p, .lst vs, rfl, n, s, r', v', fun _ _ z => nomatch z⟩ p' h'⟩
theorem JL.je {f : DL} (h : JL X e f) : JE X e (dOfL f) := by
  obtain ⟨t, p, k⟩ := h.ex
  refine ⟨t, p, fun T ρ σ H QD Q r h q => k T ρ σ H _ _ r h fun ds ρ' p vs H' n s r' v' p' h' => ?_⟩
  refine q _ _ _ _ r'.unplus p' (.lst (hide_some.2 ⟨?_, s⟩) (v'.mono hd_unplus)) h'
  rintro (w | w)
  · exact (r.dom p w).1 n
  · exact r'.dis p (.inl rfl) w
def aNil : DA := fun ρ Q => Q [] ρ
def aCons (f : DE) (g : DA) : DA := fun ρ Q => f ρ fun d ρ1 => g ρ1 fun ds ρ2 => Q (d :: ds) ρ2
theorem ja_nil : JA X [] aNil := ⟨tNil, pa_nil, fun T ρ σ H QD Q r h q => q _ _ _ _ r .refl .nil h⟩
theorem ja_cons {g : DA} (ha : JE X e fa) (hr : JA X es g) (hs : starEach (e :: es) X.env = (false, eval e X.env) :: starEach es X.env := by rfl) : JA X (e :: es) (aCons fa g) := by
  obtain ⟨ta, pa, ka⟩ := ha.ex
  obtain ⟨tr, pr, kr⟩ := hr.ex
  refine ⟨_, pa_cons pa pr hs, fun T ρ σ H QD Q r h q => ?_⟩
  refine ka T ρ σ H _ _ r h fun d ρ1 v H1 r1 p1 v1 h => kr T ρ1 σ H1 _ _ r1 h fun ds ρ2 vs H2 r2 p2 v2 h => ?_
  exact q _ _ _ _ r2 (p1.trans p2) (.cons (v1.monoW p2.fz) v2) h
def dTup (g : DA) : DE := fun ρ Q => g ρ fun ds ρ1 => ds.length ≤ 16777216 ∧ Q (.tuple ds) ρ1
def lLst (g : DA) : DL := fun ρ Q => g ρ fun ds ρ1 => ds.length ≤ 16777216 ∧ Q ds ρ1
theorem je_tup {g : DA} {x1} (h : JA X es g) : JE X (.Tuple es x1 pos) (dTup g) := by
  obtain ⟨t, p, k⟩ := h.ex
  refine ⟨_, pe_tupK p, fun T ρ σ H QD Q r h q => k T ρ σ H _ _ r h fun ds ρ' vs H' r' p' v' h' => ⟨by rw [v'.length]; exact h'.1, fun l o hl t => ?_⟩⟩
  exact q _ _ _ _ (r'.grow (Ex.new hl)) (p'.trans (.grow (Ex.new hl))) (rp_newT (fun a => r'.hdDom) hl t v') h'.2
theorem jl_lst {g : DA} (h : JA X es g) : JL X (.List es pos) (lLst g) := by
  obtain ⟨t, p, k⟩ := h.ex
  refine ⟨_, pe_lst p, fun T ρ σ H QD Q r h q => k T ρ σ H _ _ r h fun ds ρ' vs H' r' p' v' h' => ⟨by rw [v'.length]; exact h'.1, fun l hl => ?_⟩⟩
  refine q _ _ _ _ _ ?_ upd_same (r'.laid hl) (v'.mono (hd_laid hl)) (p'.trans (.grow (Ex.new hl))) h'.2
  cases z : H l with
  | none => rfl
  | some o => exact absurd hl (p'.dom l (by rw [z]; simp))
def seqD : D → Option (List D)
  | .list ds => some ds
  | .tuple ds => some ds
  | .dict [(.none, .tuple ds)] => some ds
  | _ => none
theorem seq_dk (kvs : List (Key × D)) : seqD (.dict (dkD kvs)) = none := by
  cases kvs with
  | nil => rfl
  | cons p r => obtain ⟨k, d⟩ := p; cases k <;> rfl
theorem seq_rp {K : PySem.W.Frag} {O : Addr → Prop} {H : Hp} {v : V} {d : D} {ds : List D} (r : Rp K (hide O H) v d) (h : seqD d = some ds) : ∃ p xs, v = .ref p ∧ (SqL K H p xs ∨ SqT K H p xs) ∧ RpAll K (hide O H) xs ds := by
  cases r
  case ins h1 h2 h3 h4 =>
    subst h4
    simp [seqD, obL] at h
  case dct kws kvs dd h1 h2 h3 =>
    subst h3
    cases kvs with
    | nil => simp [seqD, dkD] at h
    | cons p r => obtain ⟨k, d⟩ := p; cases k <;> simp [seqD, dkD, keyB] at h
  all_goals simp only [seqD, Option.some.injEq, reduceCtorEq] at h
  · subst h; exact ⟨_, _, rfl, .inl (.inl (.inl (at_of (by assumption)))), by assumption⟩
  · subst h; exact ⟨_, _, rfl, .inr (sqt_of (by assumption)), by assumption⟩
  · subst h; exact ⟨_, _, rfl, .inl (sql_of (by assumption)), by assumption⟩
theorem atI_rp {K : PySem.W.Frag} {G : Hp} {vs : List V} {ds : List D} {i : Int} {d : D} (r : RpAll K G vs ds) (h : atI ds i = some d) : ∃ v, atI vs i = some v ∧ Rp K G v d := by
  unfold atI at h ⊢
  rw [r.length]
  cases e : ixN ds.length i with
  | none => rw [e] at h; cases h
  | some j =>
    rw [e] at h
    exact r.get (show ds[j]? = some d from h)
def dIx : D → D → (D → Prop) → Prop := fun x y Q => match seqD x, y with
  | some ds, .int i => ∃ d, atI ds i = some d ∧ Q d
  | _, _ => False
theorem ix_two {O : Addr → Prop} {H : Hp} {x y : V} {d e : D} {QD : D → Prop} {Q : VK} (rx : Rp X.K (hide O H) x d) (ry : Rp X.K (hide O H) y e) (h : dIx d e QD)
    (k : ∀ z v H', Ex H H' → Rp X.K (hide O H') v z → QD z → Q v H') : rIxL X.K x y H Q ∨ rIxT X.K x y H Q := by
  unfold dIx at h
  split at h
  · rename_i ds i e1
    obtain ⟨z, h1, h2⟩ := h
    obtain ⟨p, xs, rfl, hs, r⟩ := seq_rp rx e1
    obtain ⟨v, h3, h4⟩ := atI_rp r h1
    cases ry
    rcases hs with hs | hs
    · exact .inl ⟨_, _, _, _, rfl, rfl, hs, h3, k _ _ H (.refl H) h4 h2⟩
    · exact .inr ⟨_, _, _, _, rfl, rfl, hs, h3, k _ _ H (.refl H) h4 h2⟩
  · exact False.elim h
theorem je_ix (ha : JE X a fa) (hb : JE X b fb) (hs : PlainIx b := by exact fun _ _ => rfl) : JE X (.Subscript a b pos) (dBin dIx fa fb) :=
  je_two (fun O H x y d e QD Q hO rx ry h k => ix_two rx ry h k) ha hb fun _ _ pa pb => pe_ix (.or ix_list ix_tup) pa pb hs
def cutD (xs : List D) (lo hi : Option Int) : List D := (xs.drop (HT.sIx xs.length 0 lo)).take (HT.sIx xs.length xs.length hi - HT.sIx xs.length 0 lo)
theorem cut_rp {K : PySem.W.Frag} {G : Hp} {vs : List V} {ds : List D} (r : RpAll K G vs ds) (lo hi : Option Int) : RpAll K G (cutV vs lo hi) (cutD ds lo hi) := by
  unfold cutV cutD; rw [r.length]; exact (r.drop _).take _
abbrev DO := Env → (Option Int → Env → Prop) → Prop
structure JO (X : Cx) (e : Option Expr) (f : DO) : Prop where
  ex : ∃ t, PO X e t ∧ ∀ (T : Addr → Prop) (ρ : Env) (σ : L2.St) (H : Hp) (QD : Option Int → Env → Prop) (Q : Option Int → Hp → Prop), RS X.K T ρ σ H → f ρ QD →
    (∀ d ρ' H', RS X.K T ρ' σ H' → Po ρ σ H ρ' σ H' → QD d ρ' → Q d H') → t σ H Q
def oNone : DO := fun ρ Q => Q none ρ
def oSome (f : DE) : DO := fun ρ Q => f ρ fun d ρ1 => match d with
  | .int i => Q (some i) ρ1
  | _ => False
theorem jo_none : JO X none oNone := ⟨tNoPart, po_none, fun T ρ σ H QD Q r h q => q _ _ _ r .refl h⟩
theorem jo_some (ha : JE X a fa) : JO X (some a) (oSome fa) := by
  obtain ⟨ta, pa, ka⟩ := ha.ex
  refine ⟨_, po_some pa, fun T ρ σ H QD Q r h q => ka T ρ σ H _ _ r h fun d ρ1 v H1 r1 p1 v1 h => ?_⟩
  cases v1 with
  | int i => exact ⟨i, rfl, q _ _ _ r1 p1 h⟩
  | _ => exact False.elim h
def dSl (fa : DE) (lo hi : DO) : DE := fun ρ Q => fa ρ fun x ρ1 => lo ρ1 fun l ρ2 => hi ρ2 fun u ρ3 => match x with
  | .list ds => Q (.list (cutD ds l u)) ρ3
  | .tuple ds => Q (.tuple (cutD ds l u)) ρ3
  | _ => False
theorem sl_or {r r' : V → Option Int → Option Int → Hp → VK → Prop} (h : SlR X r) (h' : SlR X r') : SlR X (fun x lo hi H Q => r x lo hi H Q ∨ r' x lo hi H Q) := by
  intro pins s σ H x v vl vu lo hi sl Q I rx hs pl pu q
  rcases q with q | q
  · exact h pins s σ H x v vl vu lo hi sl Q I rx hs pl pu q
  · exact h' pins s σ H x v vl vu lo hi sl Q I rx hs pl pu q
theorem cut_whole {xs : List D} {lo hi : Option Int} (h : HT.sIx xs.length 0 lo = 0 ∧ HT.sIx xs.length xs.length hi = xs.length) : cutD xs lo hi = xs := by
  unfold cutD; rw [h.1, h.2]; simp
theorem je_sl {lo hi : Option Expr} {fl fh : DO} {p2 : Pos} (ha : JE X a fa) (hl : JO X lo fl) (hh : JO X hi fh) : JE X (.Subscript a (.Slice lo hi none p2) pos) (dSl fa fl fh) := by
  obtain ⟨ta, pa, ka⟩ := ha.ex
  obtain ⟨tl, pl, kl⟩ := hl.ex
  obtain ⟨th, ph, kh⟩ := hh.ex
  refine ⟨_, pe_slice (sl_or sl_list sl_tupK) pa pl ph, fun T ρ σ H QD Q r h q => ka T ρ σ H _ _ r h fun d ρ1 v H1 r1 p1 v1 h => kl T ρ1 σ H1 _ _ r1 h fun l ρ2 H2 r2 p2 h => kh T ρ2 σ H2 _ _ r2 h fun u ρ3 H3 r3 p3 h => ?_⟩
  have v3 := (v1.monoW p2.fz).monoW p3.fz
  have p := (p1.trans p2).trans p3
  cases v3 with
  | lst hp rr =>
    exact .inl ⟨_, _, rfl, .inl (.inl (at_of hp)), fun n hn => q _ _ _ _ (r3.grow (Ex.new hn)) (p.trans (.grow (Ex.new hn))) (rp_newL (fun a => r3.hdDom) hn (cut_rp rr l u)) h⟩
  | tup hp rr =>
    refine .inr ⟨_, _, rfl, sqt_of hp, fun w => ?_, fun w n o hn t => q _ _ _ _ (r3.grow (Ex.new hn)) (p.trans (.grow (Ex.new hn))) (rp_newT (fun a => r3.hdDom) hn t (cut_rp rr l u)) h⟩
    rw [rr.length] at w
    dsimp only at h; rw [cut_whole w] at h
    exact q _ _ _ _ r3 p (.tup hp rr) h
  | _ => exact False.elim h
end
end Dn
set_option Elab.async false
set_option linter.all false
set_option maxRecDepth 100000
set_option autoImplicit false
set_option maxHeartbeats 4000000
namespace Dn
open PySem L2 Evl
section
variable {X : Cx} {a b c e : Expr} {fa fb fc : DE} {pos p : Pos} {es : List Expr} {x : Str}
structure CallD (X : Cx) (f : Value) (op : List D → (D → Prop) → Prop) : Prop where
  ex : ∃ r, CallR X f r ∧ ∀ (O : Addr → Prop) (H : Hp) (vs : List V) (ds : List D) (QD : D → Prop) (Q : VK), (∀ a, O a → H a ≠ none) → RpAll X.K (hide O H) vs ds → op ds QD →
    (∀ z v H', Ex H H' → Rp X.K (hide O H') v z → QD z → Q v H') → r vs H Q
def dCall (op : List D → (D → Prop) → Prop) (g : DA) : DE := fun ρ Q => g ρ fun ds ρ1 => op ds fun z => Q z ρ1
theorem je_callB {id : String} {op : List D → (D → Prop) → Prop} {g : DA} (hc : CallD X (.builtin id) op) (hm : X.mg x = none) (hv : bootBuiltins x = some (.builtin id)) (ha : JA X (e :: es) g) (hg : Gl X x := by rfl) (hn : x ≠ "__name__" := by decide) (hdb : (x == ("__debug__" : Str)) = false := by decide)
    (he : starEach (e :: es) X.env = (false, eval e X.env) :: starEach es X.env := by rfl) (hpl : (backTo pos (starEach es X.env)).any (·.1) = false := by rfl) : JE X (.Call (.Name x p) (e :: es) [] pos) (dCall op g) := by
  obtain ⟨r, h1, h2⟩ := hc.ex
  obtain ⟨t, pa, ka⟩ := ha.ex
  refine ⟨_, pe_callB h1 hg hm hv pa hn hdb he hpl, fun T ρ σ H QD Q r h q => ka T ρ σ H _ _ r h fun ds ρ1 vs H1 r1 p1 v1 h => ?_⟩
  exact h2 (Hd T ρ1 σ) H1 vs ds _ _ (fun a => r1.hdDom) v1 h fun z v H' e v2 h => q _ _ _ _ (r1.grow e) (p1.trans (.grow e)) v2 h
theorem je_callTy {id : String} {op : List D → (D → Prop) → Prop} {g : DA} (hc : CallD X (.type id) op) (hm : X.mg x = none) (hv : bootBuiltins x = some (.type id)) (ha : JA X (e :: es) g) (hg : Gl X x := by rfl) (hn : x ≠ "__name__" := by decide) (hdb : (x == ("__debug__" : Str)) = false := by decide)
    (he : starEach (e :: es) X.env = (false, eval e X.env) :: starEach es X.env := by rfl) (hpl : (backTo pos (starEach es X.env)).any (·.1) = false := by rfl) : JE X (.Call (.Name x p) (e :: es) [] pos) (dCall op g) := by
  obtain ⟨r, h1, h2⟩ := hc.ex
  obtain ⟨t, pa, ka⟩ := ha.ex
  refine ⟨_, pe_callTy h1 hg hm hv pa hn hdb he hpl, fun T ρ σ H QD Q r h q => ka T ρ σ H _ _ r h fun ds ρ1 vs H1 r1 p1 v1 h => ?_⟩
  exact h2 (Hd T ρ1 σ) H1 vs ds _ _ (fun a => r1.hdDom) v1 h fun z v H' e v2 h => q _ _ _ _ (r1.grow e) (p1.trans (.grow e)) v2 h
def isSc : D → Bool
  | .list _ => false
  | .tuple _ => false
  | .dict _ => false
  | _ => true
theorem sc_rp {K : PySem.W.Frag} {G G' : Hp} {v : V} {d : D} (h : isSc d = true) (r : Rp K G v d) : Rp K G' v d := by
  cases r <;> first | (simp [isSc] at h; done) | constructor
def dCallO (i : Nat) (op : List D → (D → Prop) → Prop) : DE := fun ρ Q => match ρ[i]? with
  | some (some (.ow (.lst ds))) => op [.list ds] fun z => isSc z = true ∧ Q z ρ
  | _ => False
theorem je_callBO {i : Nat} {y : Str} {py : Pos} {id : String} {op : List D → (D → Prop) → Prop} (hc : CallD X (.builtin id) op) (hm : X.mg x = none) (hv : bootBuiltins x = some (.builtin id)) (hN : X.N[i]? = some y) (hy : Vis X.env.scope y) (hg : Gl X x := by rfl) (hn : x ≠ "__name__" := by decide) (hdb : (x == ("__debug__" : Str)) = false := by decide)
    (hd : (y == ("__debug__" : Str)) = false := by decide) (hcd : (y == ("__classdict__" : Str)) = false := by decide)
    (he : starEach [Expr.Name y py] X.env = (false, eval (Expr.Name y py) X.env) :: starEach [] X.env := by rfl) : JE X (.Call (.Name x p) [.Name y py] [] pos) (dCallO i op) := by
  obtain ⟨r, h1, h2⟩ := hc.ex
  refine ⟨_, pe_callB h1 hg hm hv (pa_cons (pe_var hN hy hd hcd) pa_nil he) hn hdb he, fun T ρ σ H QD Q r h q => ?_⟩
  unfold dCallO at h
  split at h
  · rename_i ds e1
    obtain ⟨a, o, ha, ho, hr⟩ := r.ow i _ e1
    have rf := r.freeze e1
    obtain ⟨v, hv, rv⟩ := rf.im i (.list ds) (List.getElem?_set_self (List.getElem?_eq_some_iff.mp e1).1)
    rw [ha] at hv; cases hv
    refine ⟨_, ha, h2 _ H _ _ _ _ (fun a => rf.hdDom) (.cons rv .nil) h fun z v H' e v2 h => ?_⟩
    exact q _ _ _ _ (r.grow e) (.grow e) (sc_rp h.1 v2) h.2
  · exact False.elim h
def dBinO (i : Nat) (op : D → D → (D → Prop) → Prop) (fb : DE) : DE := fun ρ Q => (∃ m, ρ[i]? = some (some (SV.ow m))) ∧ fb ρ fun y ρ1 => match ρ1[i]? with
  | some (some (.ow (.lst ds))) => op (.list ds) y fun z => isSc z = true ∧ Q z ρ1
  | _ => False
theorem hd_freeze {T : Addr → Prop} {ρ : Env} {σ : L2.St} {H : Hp} {i : Nat} {d : D} : Ex (hide (Hd T ρ σ) H) (hide (Hd T (ρ.set i (some (SV.im d))) σ) H) := hide_sub fun a w => w.elim .inl fun w => .inr (own_freeze w)
def dLen : List D → (D → Prop) → Prop
  | [d] => fun Q => match seqD d with
    | some ds => Q (.int ds.length)
    | none => False
  | _ => fun _ => False
theorem calld_len : CallD X (.builtin "len") dLen := by
  refine ⟨_, call_len_seq, fun O H vs ds QD Q hO r h k => ?_⟩
  cases r with
  | nil => exact False.elim h
  | cons r rr =>
    cases rr with
    | cons _ _ => exact False.elim h
    | nil =>
      unfold dLen at h; dsimp only at h
      split at h
      · rename_i ds e
        obtain ⟨p, xs, rfl, hs, rx⟩ := seq_rp r e
        exact ⟨_, _, rfl, hs, k _ _ H (.refl H) (.int _) (by rw [rx.length]; exact h)⟩
      · exact False.elim h
def dAbs : List D → (D → Prop) → Prop
  | [.int i] => fun Q => Q (.int (if i < 0 then -i else i))
  | _ => fun _ => False
theorem rp1 {K : PySem.W.Frag} {G : Hp} {vs : List V} {d : D} (r : RpAll K G vs [d]) : ∃ v, vs = [v] ∧ Rp K G v d := by
  cases r with
  | cons r rr => cases rr; exact ⟨_, rfl, r⟩
theorem rp2 {K : PySem.W.Frag} {G : Hp} {vs : List V} {d e : D} (r : RpAll K G vs [d, e]) : ∃ v u, vs = [v, u] ∧ Rp K G v d ∧ Rp K G u e := by
  cases r with
  | cons r rr => obtain ⟨u, rfl, h⟩ := rp1 rr; exact ⟨_, _, rfl, r, h⟩
theorem calld_abs : CallD X (.builtin "abs") dAbs := by
  refine ⟨_, call_abs, fun O H vs ds QD Q hO r h k => ?_⟩
  unfold dAbs at h
  split at h
  · obtain ⟨v, rfl, w1⟩ := rp1 r
    cases w1
    exact ⟨_, rfl, k _ _ H (.refl H) (.int _) h⟩
  · exact False.elim h
def dMax2 : List D → (D → Prop) → Prop
  | [.int i, .int j] => fun Q => Q (.int (if j > i then j else i))
  | _ => fun _ => False
theorem calld_max2 (hc : X.calm = true) : CallD X (.builtin "max") dMax2 := by
  refine ⟨_, call_max2 hc, fun O H vs ds QD Q hO r h k => ?_⟩
  unfold dMax2 at h
  split at h
  · obtain ⟨v, u, rfl, r1, r2⟩ := rp2 r
    cases r1; cases r2
    exact ⟨_, _, rfl, k _ _ H (.refl H) (.int _) h⟩
  · exact False.elim h
def dMin2 : List D → (D → Prop) → Prop
  | [.int i, .int j] => fun Q => Q (.int (if j < i then j else i))
  | _ => fun _ => False
theorem calld_min2 (hc : X.calm = true) : CallD X (.builtin "min") dMin2 := by
  refine ⟨_, call_min2 hc, fun O H vs ds QD Q hO r h k => ?_⟩
  unfold dMin2 at h
  split at h
  · obtain ⟨v, u, rfl, r1, r2⟩ := rp2 r
    cases r1; cases r2
    exact ⟨_, _, rfl, k _ _ H (.refl H) (.int _) h⟩
  · exact False.elim h
def dInt : List D → (D → Prop) → Prop
  | [.int i] => fun Q => Q (.int i)
  | [.bool b] => fun Q => Q (.int (if b then 1 else 0))
  | _ => fun _ => False
theorem calld_int : CallD X (.type "int") dInt := by
  refine ⟨_, call_int1, fun O H vs ds QD Q hO r h k => ?_⟩
  unfold dInt at h
  split at h
  · obtain ⟨v, rfl, w1⟩ := rp1 r
    cases w1
    exact .inl ⟨_, rfl, k _ _ H (.refl H) (.int _) h⟩
  · obtain ⟨v, rfl, w1⟩ := rp1 r
    cases w1
    exact .inr ⟨_, rfl, k _ _ H (.refl H) (.int _) h⟩
  · exact False.elim h
def dAll (ds : List D) (Q : D → Prop) : Prop := ∃ bs : List Bool, ds = [.list (bs.map PyData.bool)] ∧ Q (.bool (bs.all id))
def dAny (ds : List D) (Q : D → Prop) : Prop := ∃ bs : List Bool, ds = [.list (bs.map PyData.bool)] ∧ Q (.bool (bs.any id))
theorem calld_all (hc : X.calm = true) : CallD X (.builtin "all") dAll := by
  refine ⟨_, cr_all hc, fun O H vs ds QD Q hO r h k => ?_⟩
  obtain ⟨bs, rfl, h⟩ := h
  obtain ⟨v, rfl, w1⟩ := rp1 r
  cases w1 with
  | lst hp rr =>
    obtain rfl := rr.of_bls
    exact ⟨_, bs, rfl, .inl (.inl (at_of hp)), k _ _ H (.refl H) (.bl _) h⟩
theorem calld_any (hc : X.calm = true) : CallD X (.builtin "any") dAny := by
  refine ⟨_, cr_any hc, fun O H vs ds QD Q hO r h k => ?_⟩
  obtain ⟨bs, rfl, h⟩ := h
  obtain ⟨v, rfl, w1⟩ := rp1 r
  cases w1 with
  | lst hp rr =>
    obtain rfl := rr.of_bls
    exact ⟨_, bs, rfl, .inl (.inl (at_of hp)), k _ _ H (.refl H) (.bl _) h⟩
def dTupOf : List D → (D → Prop) → Prop
  | [.list ds] => fun Q => Q (.tuple ds)
  | [.tuple ds] => fun Q => Q (.tuple ds)
  | _ => fun _ => False
theorem calld_tuple : CallD X (.type "tuple") dTupOf := by
  refine ⟨_, call_tupleK, fun O H vs ds QD Q hO r h k => ?_⟩
  unfold dTupOf at h
  split at h
  · obtain ⟨v, rfl, w1⟩ := rp1 r
    cases w1 with
    | lst hp rr => exact ⟨_, _, rfl, .inl ⟨.inl (.inl (at_of hp)), fun l o hl t => k _ _ _ (Ex.new hl) (rp_newT hO hl t rr) h⟩⟩
  · obtain ⟨v, rfl, w1⟩ := rp1 r
    cases w1 with
    | tup hp rr => exact ⟨_, _, rfl, .inr ⟨sqt_of hp, k _ _ H (.refl H) (.tup hp rr) h⟩⟩
  · exact False.elim h
def tyN : D → String
  | .none => "NoneType"
  | .bool _ => "bool"
  | .int _ => "int"
  | .str _ => "str"
  | .list _ => "list"
  | .tuple _ => "tuple"
  | .dict ((.none, _) :: _) => "list"
  | .dict ((.bool true, _) :: _) => "slice"
  | .dict ((.bool false, _) :: _) => "type"
  | .dict _ => "dict"
theorem tyN_dk (kvs : List (Key × D)) : tyN (.dict (dkD kvs)) = "dict" := by
  cases kvs with
  | nil => rfl
  | cons p r => obtain ⟨k, d⟩ := p; cases k <;> rfl
def TyC (K : PySem.W.Frag) (H : Hp) (v : V) (t : Value) : Prop := TyX K H v t ∨ ∃ C, v = .ref C ∧ t = .type "type" ∧ PySem.W.typeIn K (.ref C) = some (.type "type") ∧ PySem.W.nsIn K PySem.cStatics "thirdparty.any" = some none
def rIsiC (K : PySem.W.Frag) : List V → Hp → VK → Prop := fun xs H Q => ∃ (x c : V) (t u : Value) (b : Bool), xs = [x, c] ∧ ClsV c u ∧ TyC K H x t ∧ PySem.W.kitOne K t u = some b ∧ Q (.bl b) H
theorem call_isiC {X : Cx} : CallR X (.builtin "isinstance") (rIsiC X.K) := by
  intro pins s σ H xs us Q I r h
  obtain ⟨x, c, t, u, b, rfl, k, ty, e, q⟩ := h
  rcases ty with ty | ⟨C, rfl, rfl, ht, hn⟩
  · exact call_isi pins s σ H _ us Q I r ⟨x, c, t, u, b, rfl, k, ty, e, q⟩
  · obtain ⟨u1, u2, rfl, r1, r2⟩ := vals2 r
    have e2 := k.eq r2
    subst e2
    cases (show u1 = Value.ref C from r1)
    exact PySem.W.kia_one (ClT.kitx_cls ht hn) I.kIn trivial e (fun z => nomatch z) fun tk => ⟨.bl b, H, I.tok tk, rfl, q⟩
theorem ty_rp {K : PySem.W.Frag} {O : Addr → Prop} {H : Hp} {v : V} {d : D} (r : Rp K (hide O H) v d) {tn : String} {b : Bool} (hk : kitB (tyN d) tn = some b) (ns : tn ≠ "slice") : ∃ t, TyC K H v t ∧ PySem.W.kitOne K t (.type tn) = some b := by
  have fin : ∀ n, n = tyN d → TyX K H v (.type n) → ∃ t, TyC K H v t ∧ PySem.W.kitOne K t (.type tn) = some b := fun n e h => ⟨_, .inl h, kit_ty (by rw [e]; exact hk)⟩
  cases r with
  | ins o h _ z =>
    subst z
    exact ⟨_, .inl (.base (.ins (hide_some.1 h).2 o.cls o.ha o.hn o.htk o.hm)), o.own tn b ns hk⟩
  | typ nm o => exact ⟨_, .inr ⟨_, rfl, rfl, o.ty, o.tp⟩, kit_ty hk⟩
  | non => exact fin _ rfl (.base .non)
  | bl b => exact fin _ rfl (.base (.bl b))
  | int b => exact fin _ rfl (.base (.int b))
  | str b => exact fin _ rfl (.base (.str b))
  | lst h _ => exact fin _ rfl (.base (.lst (at_of h)))
  | dct h _ z => subst z; exact fin _ (tyN_dk _).symm (.base (.dK (at_of h)))
  | tup h _ =>
    rcases sqt_of h with (h | ⟨o, h⟩) | ⟨o, its, n, h1, h2, _⟩
    · exact fin _ rfl (.base (.tup h))
    · exact fin _ rfl (.fTuple h)
    · exact fin _ rfl (.kTuple h1 h2)
  | frz h _ =>
    rcases sql_of h with (h | ⟨o, h⟩) | ⟨o, its, n, h1, h2, _⟩
    · exact fin _ rfl (.base (.lst h))
    · exact fin _ rfl (.base (.frz h))
    · exact fin _ rfl (.kList h1 h2)
def dIsi (tn : String) (fa : DE) : DE := fun ρ Q => fa ρ fun d ρ1 => match kitB (tyN d) tn with
  | some b => Q (.bool b) ρ1
  | none => False
theorem je_isi {tn : String} {y : Str} {py : Pos} (hm : X.mg "isinstance" = none) (hmy : X.mg y = none) (hvy : bootBuiltins y = some (.type tn)) (ha : JE X a fa) (hg : Gl X "isinstance" := by rfl) (hgy : Gl X y := by rfl) (hny : y ≠ "__name__" := by decide) (hdb : (y == ("__debug__" : Str)) = false := by decide)
    (h1 : starEach [a, Expr.Name y py] X.env = (false, eval a X.env) :: starEach [Expr.Name y py] X.env := by rfl) (h2 : starEach [Expr.Name y py] X.env = (false, eval (Expr.Name y py) X.env) :: starEach [] X.env := by rfl) (h3 : (backTo pos (starEach [Expr.Name y py] X.env)).any (·.1) = false := by rfl) (hsl : tn ≠ "slice" := by decide) :
    JE X (.Call (.Name "isinstance" p) [a, .Name y py] [] pos) (dIsi tn fa) := by
  obtain ⟨ta, pa, ka⟩ := ha.ex
  refine ⟨_, pe_callB call_isiC hg hm (by decide +kernel) (pa_cons pa (pa_cons (pe_bltn (v := .ty tn) hgy hmy hvy rfl hny hdb) pa_nil h2) h1) (by decide) (by decide) h1 h3, fun T ρ σ H QD Q r h q => ka T ρ σ H _ _ r h fun d ρ1 v H1 r1 p1 v1 h => ?_⟩
  split at h
  · rename_i b e
    obtain ⟨t, ht, hk⟩ := ty_rp v1 e hsl
    exact ⟨v, .ty tn, t, .type tn, b, rfl, .ty tn, ht, hk, q _ _ _ _ r1 p1 (.bl b) h⟩
  · exact False.elim h
def lOf (f : DE) : DL := fun ρ Q => f ρ fun d ρ1 => match seqD d with
  | some ds => Q ds ρ1
  | none => False
theorem none_back {ρ ρ' : Env} {σ σ' : L2.St} {H H' : Hp} {l : Addr} (q : Po ρ σ H ρ' σ' H') (h : H' l = none) : H l = none := by
  cases z : H l with
  | none => rfl
  | some o => exact absurd h (q.dom l (by rw [z]; simp))
theorem jl_list (hm : X.mg "list" = none) (ha : JE X a fa) (hg : Gl X "list" := by rfl) (he : starEach [a] X.env = (false, eval a X.env) :: starEach [] X.env := by rfl) : JL X (.Call (.Name "list" p) [a] [] pos) (lOf fa) := by
  obtain ⟨ta, pa, ka⟩ := ha.ex
  refine ⟨_, pe_callTy call_list_of hg hm (by decide +kernel) (pa_cons pa pa_nil he) (by decide) (by decide) he, fun T ρ σ H QD Q r h q => ka T ρ σ H _ _ r h fun d ρ1 v H1 r1 p1 v1 h => ?_⟩
  split at h
  · rename_i ds e
    obtain ⟨p, xs, rfl, hs, rx⟩ := seq_rp v1 e
    exact ⟨_, _, rfl, hs, fun l hl => q _ _ _ _ _ (none_back p1 hl) upd_same (r1.laid hl) (rx.mono (hd_laid hl)) (p1.trans (.grow (Ex.new hl))) h⟩
  · exact False.elim h
def lOfO (i : Nat) : DL := fun ρ Q => match ρ[i]? with
  | some (some (.ow (.lst ds))) => Q ds ρ
  | _ => False
theorem jl_listO {i : Nat} {y : Str} {py : Pos} (hm : X.mg "list" = none) (hN : X.N[i]? = some y) (hy : Vis X.env.scope y) (hg : Gl X "list" := by rfl) (hd : (y == ("__debug__" : Str)) = false := by decide) (hcd : (y == ("__classdict__" : Str)) = false := by decide)
    (he : starEach [Expr.Name y py] X.env = (false, eval (Expr.Name y py) X.env) :: starEach [] X.env := by rfl) : JL X (.Call (.Name "list" p) [.Name y py] [] pos) (lOfO i) := by
  refine ⟨_, pe_callTy call_list_of hg hm (by decide +kernel) (pa_cons (pe_var hN hy hd hcd) pa_nil he) (by decide) (by decide) he, fun T ρ σ H QD Q r h q => ?_⟩
  unfold lOfO at h
  split at h
  · rename_i ds e
    obtain ⟨a, o, ha, ho, hr⟩ := r.ow i _ e
    cases o with
    | lst vs => exact ⟨_, ha, _, _, rfl, .inl (.inl (.inl ho)), fun l hl => q _ _ _ _ _ hl upd_same (r.laid hl) (RpAll.mono (hd_laid hl) hr) (.grow (Ex.new hl)) h⟩
    | _ => exact False.elim hr
  · exact False.elim h
def dTupO (i : Nat) : DE := fun ρ Q => match ρ[i]? with
  | some (some (.ow (.lst ds))) => Q (.tuple ds) ρ
  | _ => False
theorem je_tupleO {i : Nat} {y : Str} {py : Pos} (hm : X.mg "tuple" = none) (hN : X.N[i]? = some y) (hy : Vis X.env.scope y) (hg : Gl X "tuple" := by rfl) (hd : (y == ("__debug__" : Str)) = false := by decide) (hcd : (y == ("__classdict__" : Str)) = false := by decide)
    (he : starEach [Expr.Name y py] X.env = (false, eval (Expr.Name y py) X.env) :: starEach [] X.env := by rfl) : JE X (.Call (.Name "tuple" p) [.Name y py] [] pos) (dTupO i) := by
  refine ⟨_, pe_callTy call_tupleK hg hm (by decide +kernel) (pa_cons (pe_var hN hy hd hcd) pa_nil he) (by decide) (by decide) he, fun T ρ σ H QD Q r h q => ?_⟩
  unfold dTupO at h
  split at h
  · rename_i ds e
    obtain ⟨a, o, ha, ho, hr⟩ := r.ow i _ e
    cases o with
    | lst vs => exact ⟨_, ha, _, _, rfl, .inl ⟨.inl (.inl ho), fun l o hl t => q _ _ _ _ (r.grow (Ex.new hl)) (.grow (Ex.new hl)) (rp_newT (fun a => r.hdDom) hl t hr) h⟩⟩
    | _ => exact False.elim hr
  · exact False.elim h
def rgD (i j : Int) : List D := (List.range (j - i).toNat).map fun k => PyData.int (i + (k : Nat))
def RgD (i j : Int) : Prop := -1000000 ≤ i ∧ i ≤ 1000000 ∧ -1000000 ≤ j ∧ j ≤ 1000000
theorem rg_ok {i j : Int} (h : RgD i j) : RgOk i j := by unfold RgD at h; exact ⟨by omega, by omega, by omega, by omega, by omega⟩
theorem rg_rp {K : PySem.W.Frag} {G : Hp} (i j : Int) : RpAll K G (rgV i j) (rgD i j) := by
  have : rgV i j = ((List.range (j - i).toNat).map fun k => i + (k : Nat)).map V.int := by unfold rgV; simp
  rw [this, show rgD i j = ((List.range (j - i).toNat).map fun k => i + (k : Nat)).map PyData.int from by unfold rgD; simp]
  exact RpAll.ints _
abbrev DR := Env → (Int → Int → Env → Prop) → Prop
structure JR (X : Cx) (e : Expr) (f : DR) : Prop where
  ex : ∃ t, PRg X e t ∧ ∀ (T : Addr → Prop) (ρ : Env) (σ : L2.St) (H : Hp) (QD : Int → Int → Env → Prop) (Q : Int → Int → Hp → Prop), RS X.K T ρ σ H → f ρ QD →
    (∀ i j ρ' H', RS X.K T ρ' σ H' → Po ρ σ H ρ' σ H' → QD i j ρ' → Q i j H') → t σ H Q
def rg1 (fa : DE) : DR := fun ρ Q => fa ρ fun d ρ1 => match d with
  | .int n => Q 0 n ρ1
  | _ => False
def rg2 (fa fb : DE) : DR := fun ρ Q => fa ρ fun d ρ1 => fb ρ1 fun e ρ2 => match d, e with
  | .int n, .int m => Q n m ρ2
  | _, _ => False
theorem jr_1 (hm : X.mg "range" = none) (ha : JE X a fa) (hg : Gl X "range" := by rfl) (na : starEach [a] X.env = (false, eval a X.env) :: starEach [] X.env := by rfl) : JR X (.Call (.Name "range" p) [a] [] pos) (rg1 fa) := by
  obtain ⟨ta, pa, ka⟩ := ha.ex
  refine ⟨_, prg_1 hg hm pa na, fun T ρ σ H QD Q r h q => ka T ρ σ H _ _ r h fun d ρ1 v H1 r1 p1 v1 h => ?_⟩
  cases v1 with
  | int n => exact ⟨n, rfl, q _ _ _ _ r1 p1 h⟩
  | _ => exact False.elim h
def lRg (f : DR) : DL := fun ρ Q => f ρ fun i j ρ1 => RgD i j ∧ Q (rgD i j) ρ1
def dTRg (f : DR) : DE := fun ρ Q => f ρ fun i j ρ1 => RgD i j ∧ Q (.tuple (rgD i j)) ρ1
theorem jl_rg {f : DR} (hc : X.calm = true) (hm : X.mg "list" = none) (ha : JR X a f) (hg : Gl X "list" := by rfl) (na : starEach [a] X.env = (false, eval a X.env) :: starEach [] X.env := by rfl) : JL X (.Call (.Name "list" p) [a] [] pos) (lRg f) := by
  obtain ⟨ta, pa, ka⟩ := ha.ex
  refine ⟨_, pe_listRg hc hg hm pa na, fun T ρ σ H QD Q r h q => ka T ρ σ H _ _ r h fun i j ρ1 H1 r1 p1 h => ⟨rg_ok h.1, fun l hl => ?_⟩⟩
  exact q _ _ _ _ _ (none_back p1 hl) upd_same (r1.laid hl) (rg_rp i j) (p1.trans (.grow (Ex.new hl))) h.2
theorem je_tupRg {f : DR} (hc : X.calm = true) (hm : X.mg "tuple" = none) (ha : JR X a f) (hg : Gl X "tuple" := by rfl) (na : starEach [a] X.env = (false, eval a X.env) :: starEach [] X.env := by rfl) : JE X (.Call (.Name "tuple" p) [a] [] pos) (dTRg f) := by
  obtain ⟨ta, pa, ka⟩ := ha.ex
  refine ⟨_, pe_tupRgK hc hg hm pa na, fun T ρ σ H QD Q r h q => ka T ρ σ H _ _ r h fun i j ρ1 H1 r1 p1 h => ⟨rg_ok h.1, fun l o hl t => ?_⟩⟩
  exact q _ _ _ _ (r1.grow (Ex.new hl)) (p1.trans (.grow (Ex.new hl))) (rp_newT (fun a => r1.hdDom) hl t (rg_rp i j)) h.2
end
end Dn
set_option Elab.async false
set_option linter.all false
set_option maxRecDepth 100000
set_option autoImplicit false
set_option maxHeartbeats 4000000
namespace Dn
open PySem L2 Evl
structure JG (X : Cx) (tg : Expr) (vs : List Nat) (g : DG) : Prop where
  ex : ∃ t, PG X tg t ∧ ∀ (T : Addr → Prop) (ρ : Env) (σ : L2.St) (H : Hp) (v : V) (d : D) (QD : Env → Prop) (Q : L2.St → Hp → Prop), RS X.K T ρ σ H → Rp X.K (hide (Hd T ρ σ) H) v d → g d ρ QD →
    (∀ ρ' σ', RS X.K T ρ' σ' H → Po ρ σ H ρ' σ' H → wipe σ' vs = wipe σ vs → QD ρ' → Q σ' H) → t v σ H Q
structure JGs (X : Cx) (tgs : List Expr) (vs : List Nat) (g : List D → Env → (Env → Prop) → Prop) : Prop where
  ex : ∃ t, PGs X tgs t ∧ ∀ (T : Addr → Prop) (ρ : Env) (σ : L2.St) (H : Hp) (us : List V) (ds : List D) (QD : Env → Prop) (Q : L2.St → Hp → Prop), RS X.K T ρ σ H → RpAll X.K (hide (Hd T ρ σ) H) us ds → g ds ρ QD →
    (∀ ρ' σ', RS X.K T ρ' σ' H → Po ρ σ H ρ' σ' H → wipe σ' vs = wipe σ vs → QD ρ' → Q σ' H) → t us σ H Q
theorem wipe_set (σ : L2.St) (v : Option V) : ∀ (vs : List Nat) (i : Nat), i ∈ vs → wipe (σ.set i v) vs = wipe σ vs
  | [], i, h => by cases h
  | j :: vs, i, h => by
    show (wipe (σ.set i v) vs).set j none = (wipe σ vs).set j none
    by_cases e : i ∈ vs
    · rw [wipe_set σ v vs i e]
    · have : i = j := by rcases List.mem_cons.mp h with h | h; exact h; exact absurd h e
      subst this
      have aux : ∀ (ws : List Nat), i ∉ ws → wipe (σ.set i v) ws = (wipe σ ws).set i v := by
        intro ws
        induction ws with
        | nil => intro _; rfl
        | cons k ws ih =>
          intro hn
          show (wipe (σ.set i v) ws).set k none = ((wipe σ ws).set k none).set i v
          rw [ih (fun z => hn (List.mem_cons_of_mem _ z)), List.set_comm _ _ (fun z => hn (by rw [z]; exact List.mem_cons_self))]
      rw [aux vs e, List.set_set]
section
variable {X : Cx} {a b c e : Expr} {fa fb fc : DE} {pos p : Pos} {es : List Expr} {x : Str}
def gNm (i : Nat) : DG := fun d ρ Q => Q (ρ.set i (some (.im d)))
theorem jg_name {i : Nat} {vs : List Nat} (hN : X.N.Nodup) (hi : X.N[i]? = some x) (hx : Loc X.env.scope x) (hv : i ∈ vs := by decide) (hf : X.fn x = true ∨ X.env.scope.names.lookup x = some .local := by first | exact .inl rfl | exact .inr rfl | assumption) : JG X (.Name x pos) vs (gNm i) :=
  ⟨gName i, pg_name hN hi hx hf, fun T ρ σ H v d QD Q r rv h q => q _ _ (r.setIm rv) .setIm (wipe_set σ _ vs i hv) h⟩
def gsNil : List D → Env → (Env → Prop) → Prop := fun ds ρ Q => ds = [] ∧ Q ρ
def gsCons (g : DG) (gs : List D → Env → (Env → Prop) → Prop) : List D → Env → (Env → Prop) → Prop := fun ds ρ Q => match ds with
  | d :: ds => g d ρ fun ρ1 => gs ds ρ1 Q
  | [] => False
theorem jgs_nil {vs : List Nat} : JGs X [] vs gsNil := ⟨gNil, pgs_nil, fun T ρ σ H us ds QD Q r rv h q => by
  obtain ⟨rfl, h⟩ := h
  cases rv
  exact ⟨rfl, q _ _ r .refl rfl h⟩⟩
theorem jgs_cons {g : DG} {gs : List D → Env → (Env → Prop) → Prop} {vs : List Nat} (h1 : JG X e vs g) (h2 : JGs X es vs gs) (hs : (assignEach (e :: es) X.env).map (·.2) = assign e X.env :: (assignEach es X.env).map (·.2) := by rfl) : JGs X (e :: es) vs (gsCons g gs) := by
  obtain ⟨t1, p1, k1⟩ := h1.ex
  obtain ⟨t2, p2, k2⟩ := h2.ex
  refine ⟨_, pgs_cons p1 p2 hs, fun T ρ σ H us ds QD Q r rv h q => ?_⟩
  cases rv with
  | nil => exact False.elim h
  | cons rv rr => exact ⟨_, _, rfl, k1 T ρ σ H _ _ _ _ r rv h fun ρ1 σ1 r1 q1 w1 h => k2 T ρ1 σ1 H _ _ _ _ r1 (rr.monoW q1.fz) h fun ρ2 σ2 r2 q2 w2 h => q _ _ r2 (q1.trans q2) (w2.trans w1) h⟩
def gTp (n : Nat) (gs : List D → Env → (Env → Prop) → Prop) : DG := fun d ρ Q => match d with
  | .tuple ds => ds.length = n ∧ gs ds ρ Q
  | _ => False
theorem jg_tup {k n : Nat} {gs : List D → Env → (Env → Prop) → Prop} {vs : List Nat} (hc : X.calm = true) (h : JGs X es vs gs) (hn : (assignEach es X.env).length = n := by rfl) (hst : (assignEach es X.env).findIdx? (·.1) = none := by rfl) : JG X (.Tuple es k pos) vs (gTp n gs) := by
  obtain ⟨t, pt, kt⟩ := h.ex
  refine ⟨_, pg_tup hc pt hn hst, fun T ρ σ H v d QD Q r rv h q => ?_⟩
  cases rv with
  | tup hp rr => exact ⟨_, _, rfl, sqt_of hp, by rw [rr.length]; exact h.1, kt T ρ σ H _ _ _ _ r rr h.2 q⟩
  | _ => exact False.elim h
def sNx : DS := fun E ρ => E.nx ρ
def sSeq (f g : DS) : DS := fun E ρ => f { E with nx := g E } ρ
theorem js_nil : JSs X [] sNx := ⟨tNext, pss_nil, fun T ρ σ H E D r h k => k.nx _ _ _ r .refl h⟩
theorem js_cons {st : Stmt} {sts : List Stmt} {f g : DS} (h1 : JS X st f) (h2 : JSs X sts g) : JSs X (st :: sts) (sSeq f g) := by
  obtain ⟨t1, p1, k1⟩ := h1.ex
  obtain ⟨t2, p2, k2⟩ := h2.ex
  refine ⟨_, pss_cons p1 p2, fun T ρ σ H E D r h k => ?_⟩
  exact k1 T ρ σ H _ _ r h ⟨fun ρ1 σ1 H1 r1 q1 h1 => k2 T ρ1 σ1 H1 E D r1 h1 (k.step q1), k.rt, k.bk, k.ct, k.er⟩
theorem js_one {st : Stmt} {f : DS} (h1 : JS X st f) : JSs X [st] f := by
  obtain ⟨t1, p1, k1⟩ := h1.ex
  refine ⟨_, pss_cons p1 pss_nil, fun T ρ σ H E D r h k => ?_⟩
  exact k1 T ρ σ H E _ r h ⟨k.nx, k.rt, k.bk, k.ct, k.er⟩
def sNever : DS := fun _ _ => False
theorem js_never {st : Stmt} : JS X st sNever := ⟨_, ps_never, fun T ρ σ H E D r h k => h.elim⟩
def sEx (f : DE) : DS := fun E ρ => f ρ fun _ ρ1 => E.nx ρ1
theorem js_expr (ha : JE X e fa) (hs : swapsWith e none pos.line X.env = pure false := by rfl) : JS X (.Expr e pos) (sEx fa) := by
  obtain ⟨t, pt, kt⟩ := ha.ex
  exact ⟨_, ps_expr pt hs, fun T ρ σ H E D r h k => kt T ρ σ H _ _ r h fun d ρ1 v H1 r1 p1 v1 h => k.nx _ _ _ r1 p1 h⟩
def sRet (f : DE) : DS := fun E ρ => f ρ E.rt
theorem js_ret (ha : JE X e fa) : JS X (.Return (some e) pos) (sRet fa) := by
  obtain ⟨t, pt, kt⟩ := ha.ex
  exact ⟨_, ps_ret pt, fun T ρ σ H E D r h k => kt T ρ σ H _ _ r h fun d ρ1 v H1 r1 p1 v1 h => k.rt _ _ _ _ _ r1 p1 v1 h⟩
def sRetN : DS := fun E ρ => E.rt .none ρ
def sRetO (i : Nat) : DS := fun E ρ => match ρ[i]? with
  | some (some (.ow (.lst ds))) => E.rt (.list ds) (ρ.set i (some (.im (.list ds))))
  | _ => False
theorem js_retO {i : Nat} {px : Pos} (hN : X.N[i]? = some x) (hv : Vis X.env.scope x) (hd : (x == ("__debug__" : Str)) = false := by decide) (hcd : (x == ("__classdict__" : Str)) = false := by decide) : JS X (.Return (some (.Name x px)) pos) (sRetO i) := by
  refine ⟨_, ps_ret (pe_var hN hv hd hcd), fun T ρ σ H E D r h k => ?_⟩
  unfold sRetO at h
  split at h
  · rename_i ds e1
    have rf := r.freeze e1
    obtain ⟨v, hv, rv⟩ := rf.im i (.list ds) (List.getElem?_set_self (List.getElem?_eq_some_iff.mp e1).1)
    exact ⟨v, hv, k.rt _ _ _ _ _ rf .freeze rv h⟩
  · exact False.elim h
def sIf (c : DT) (f g : DS) : DS := fun E ρ => c ρ fun b ρ1 => if b = true then f E ρ1 else g E ρ1
theorem js_if {g : DT} {sa sb : List Stmt} {f1 f2 : DS} (hc : JT X c g) (h1 : JSs X sa f1) (h2 : JSs X sb f2) : JS X (.If c sa sb pos) (sIf g f1 f2) := by
  obtain ⟨tc, pc, kc⟩ := hc.ex
  obtain ⟨t1, p1, k1⟩ := h1.ex
  obtain ⟨t2, p2, k2⟩ := h2.ex
  refine ⟨_, ps_if pc p1 p2, fun T ρ σ H E D r h k => kc T ρ σ H _ _ r h fun b ρ1 H1 r1 q1 h => ?_⟩
  cases b with
  | true => exact k1 T ρ1 σ H1 E D r1 h (k.step q1)
  | false => exact k2 T ρ1 σ H1 E D r1 h (k.step q1)
def sSet (i : Nat) (f : DX) : DS := fun E ρ => f ρ fun sv ρ1 => E.nx (ρ1.set i (some sv))
theorem fits_set {K : PySem.W.Frag} {T : Addr → Prop} {ρ ρ0 : Env} {σ : L2.St} {H0 H : Hp} {v : V} {sv : SV} {i : Nat} (r0 : RS K T ρ0 σ H0) (q : Po ρ0 σ H0 ρ σ H) (h : Fits K T ρ σ H0 H v sv) : RS K T (ρ.set i (some sv)) (σ.set i (some v)) H ∧ Po ρ0 σ H0 (ρ.set i (some sv)) (σ.set i (some v)) H := by
  cases sv with
  | im d => exact ⟨h.1.setIm h.2, q.trans .setIm⟩
  | ow m =>
    obtain ⟨p, o, rfl, hn, ho, r, rr, np⟩ := h
    exact ⟨r.setOw ho rr (fun t => (r0.dom p t).1 hn) fun _ _ z => (np _ _ z).elim, q.setOw hn⟩
theorem js_set {i : Nat} {f : DX} {px : Pos} (he : JX X e f) (hN : X.N.Nodup) (hi : X.N[i]? = some x) (hx : Loc X.env.scope x) (hs : swapsWith e (some (.Name x px)) pos.line X.env = pure false := by rfl) (hf : X.fn x = true ∨ X.env.scope.names.lookup x = some .local := by first | exact .inl rfl | exact .inr rfl | assumption) : JS X (.Assign [.Name x px] e pos) (sSet i f) := by
  obtain ⟨t, pt, kt⟩ := he.ex
  refine ⟨_, ps_set hN hi hx pt hs hf, fun T ρ σ H E D r h k => kt T ρ σ H _ _ r h fun sv ρ1 v H1 fi q1 h => ?_⟩
  obtain ⟨r2, q2⟩ := fits_set (i := i) r q1 fi
  exact k.nx _ _ _ r2 q2 h
def sAsg (f : DE) (g : DG) : DS := fun E ρ => f ρ fun d ρ1 => g d ρ1 E.nx
theorem js_asg {tg : Expr} {g : DG} {vs : List Nat} (ha : JE X e fa) (hg : JG X tg vs g) (hs : swapsWithSole [tg] e pos.line X.env = pure false := by rfl) (hw : swappedStores [tg] e X.env = pure none := by rfl) (h1 : (assignEach [tg] X.env).map (·.2) = [assign tg X.env] := by rfl) : JS X (.Assign [tg] e pos) (sAsg fa g) := by
  obtain ⟨t, pt, kt⟩ := ha.ex
  obtain ⟨t2, p2, k2⟩ := hg.ex
  refine ⟨_, ps_asg pt p2 hs hw h1, fun T ρ σ H E D r h k => kt T ρ σ H _ _ r h fun d ρ1 v H1 r1 q1 v1 h => k2 T ρ1 σ H1 _ _ _ _ r1 v1 h fun ρ2 σ2 r2 q2 _ h => k.nx _ _ _ r2 (q1.trans q2) h⟩
def sPar (i j : Nat) (f g : DX) : DS := fun E ρ => f ρ fun s1 ρ1 => g ρ1 fun s2 ρ2 => E.nx ((ρ2.set i (some s1)).set j (some s2))
end
end Dn
set_option Elab.async false
set_option linter.all false
set_option maxRecDepth 100000
set_option autoImplicit false
set_option maxHeartbeats 4000000
namespace Dn
open PySem L2 Evl
section
variable {X : Cx} {a b c e : Expr} {fa fb fc : DE} {pos p : Pos} {es : List Expr} {x y : Str}
theorem setc {α : Type} {l : List α} {i j : Nat} {u v : α} (h : i ≠ j) : (l.set i u).set j v = (l.set j v).set i u := List.set_comm u v h
theorem Fits.grow {K : PySem.W.Frag} {T : Addr → Prop} {ρ : Env} {σ : L2.St} {H0 H H' : Hp} {v : V} {sv : SV} (h : Fits K T ρ σ H0 H v sv) (e : Ex H H') : Fits K T ρ σ H0 H' v sv := by
  cases sv with
  | im d => exact ⟨h.1.grow e, h.2.mono (hide_grow e)⟩
  | ow m => obtain ⟨q, o, h1, h2, h3, h4, h5, h6⟩ := h; exact ⟨q, o, h1, h2, e _ _ h3, h4.grow e, h5.mono (hide_grow e), h6⟩
def SV.temps (v : V) (sv : SV) (T : Addr → Prop) : Addr → Prop := match sv, v with
  | .ow _, .ref p => plus T p
  | _, _ => T
theorem Fits.rs {K : PySem.W.Frag} {T : Addr → Prop} {ρ : Env} {σ : L2.St} {H0 H : Hp} {v : V} {sv : SV} (h : Fits K T ρ σ H0 H v sv) : RS K (sv.temps v T) ρ σ H := by
  cases sv with
  | im d => exact h.1
  | ow m => obtain ⟨q, o, rfl, h2, h3, h4, h5, _⟩ := h; exact h4
theorem par_fin {K : PySem.W.Frag} {T : Addr → Prop} {ρ ρ1 ρ2 : Env} {σ : L2.St} {H H1 H2 : Hp} {v w : V} {s1 s2 : SV} {i j : Nat} (hij : i ≠ j) (r : RS K T ρ σ H) (f1 : Fits K T ρ1 σ H H1 v s1) (q1 : Po ρ σ H ρ1 σ H1)
    (f2 : Fits K (s1.temps v T) ρ2 σ H1 H2 w s2) (q2 : Po ρ1 σ H1 ρ2 σ H2) : RS K T ((ρ2.set i (some s1)).set j (some s2)) ((σ.set i (some v)).set j (some w)) H2 ∧ Po ρ σ H ((ρ2.set i (some s1)).set j (some s2)) ((σ.set i (some v)).set j (some w)) H2 := by
  rw [setc hij, setc hij]
  obtain ⟨r3, q3⟩ := fits_set (i := j) f1.rs q2 f2
  cases s1 with
  | im d => exact ⟨r3.setIm (f1.2.monoW q3.fz), (q1.trans q3).trans .setIm⟩
  | ow m =>
    obtain ⟨p, o, rfl, hn, ho, r4, rr, np⟩ := f1
    have no : ¬ Own ρ1 σ p := r4.dis p (.inl rfl)
    exact ⟨r3.setOw (q3.keep p o no ho (rpo_tb rr)) (rr.monoW q3.fz) (fun t => (r.dom p t).1 hn) fun _ _ z => (np _ _ z).elim, (q1.trans q3).setOw hn⟩
theorem js_par {i j : Nat} {f g : DX} {px py pt : Pos} {kt k2 pt2} (hc : X.calm = true) (hN : X.N.Nodup) (hi : X.N[i]? = some x) (hj : X.N[j]? = some y) (hij : i ≠ j) (hx : X.env.scope.names.lookup x = some .local) (hy : X.env.scope.names.lookup y = some .local)
    (ha : JX X a f) (hb : JX X b g) (hw : swappedStores [.Tuple [.Name x px, .Name y py] kt pt] (.Tuple [a, b] k2 pt2) X.env = pure (some [x, y])) (hs : swapsWithSole [.Tuple [.Name x px, .Name y py] kt pt] (.Tuple [a, b] k2 pt2) pos.line X.env = pure false := by rfl)
    (h1 : starEach [a, b] X.env = (false, eval a X.env) :: starEach [b] X.env := by rfl) (h2 : starEach [b] X.env = (false, eval b X.env) :: starEach [] X.env := by rfl) :
    JS X (.Assign [.Tuple [.Name x px, .Name y py] kt pt] (.Tuple [a, b] k2 pt2) pos) (sPar i j f g) := by
  obtain ⟨t1, p1, k1⟩ := ha.ex
  obtain ⟨t2, p2, k2⟩ := hb.ex
  refine ⟨_, ps_par hc hN hi hj hij hx hy (pa_cons p1 (pa_cons p2 pa_nil h2) h1) hw hs, fun T ρ σ H E D r h k => ?_⟩
  refine k1 T ρ σ H _ _ r h fun s1 ρ1 v H1 f1 q1 h => k2 (s1.temps v T) ρ1 σ H1 _ _ f1.rs h fun s2 ρ2 w H2 f2 q2 h => ⟨v, w, rfl, ?_⟩
  obtain ⟨r3, q3⟩ := par_fin hij r f1 q1 f2 q2
  exact k.nx _ _ _ r3 q3 h
theorem js_parT {i j : Nat} {f g : DX} {px py pt : Pos} {kt k2 pt2} (hc : X.calm = true) (hN : X.N.Nodup) (hi : X.N[i]? = some x) (hj : X.N[j]? = some y) (hij : i ≠ j) (hx : Loc X.env.scope x) (hy : Loc X.env.scope y)
    (ha : JX X a f) (hb : JX X b g) (hfx : X.fn x = true ∨ X.env.scope.names.lookup x = some .local := by first | exact .inl rfl | exact .inr rfl | assumption) (hfy : X.fn y = true ∨ X.env.scope.names.lookup y = some .local := by first | exact .inl rfl | exact .inr rfl | assumption)
    (hw : swappedStores [.Tuple [.Name x px, .Name y py] kt pt] (.Tuple [a, b] k2 pt2) X.env = pure none := by rfl) (hs : swapsWithSole [.Tuple [.Name x px, .Name y py] kt pt] (.Tuple [a, b] k2 pt2) pos.line X.env = pure false := by rfl)
    (h1 : starEach [a, b] X.env = (false, eval a X.env) :: starEach [b] X.env := by rfl) (h2 : starEach [b] X.env = (false, eval b X.env) :: starEach [] X.env := by rfl)
    (h3 : (assignEach [.Tuple [.Name x px, .Name y py] kt pt] X.env).map (·.2) = [assign (.Tuple [.Name x px, .Name y py] kt pt) X.env] := by rfl) (h4 : (assignEach [.Name x px, .Name y py] X.env).length = 2 := by rfl) (h5 : (assignEach [.Name x px, .Name y py] X.env).findIdx? (·.1) = none := by rfl)
    (h6 : (assignEach [.Name x px, .Name y py] X.env).map (·.2) = assign (.Name x px) X.env :: (assignEach [.Name y py] X.env).map (·.2) := by rfl) (h7 : (assignEach [.Name y py] X.env).map (·.2) = assign (.Name y py) X.env :: (assignEach [] X.env).map (·.2) := by rfl) :
    JS X (.Assign [.Tuple [.Name x px, .Name y py] kt pt] (.Tuple [a, b] k2 pt2) pos) (sPar i j f g) := by
  obtain ⟨t1, p1, k1⟩ := ha.ex
  obtain ⟨t2, p2, k2⟩ := hb.ex
  refine ⟨_, ps_asg (pe_tup (pa_cons p1 (pa_cons p2 pa_nil h2) h1)) (pg_tup hc (pgs_cons (pg_name hN hi hx hfx) (pgs_cons (pg_name hN hj hy hfy) pgs_nil h7) h6) h4 h5) hs hw h3, fun T ρ σ H E D r h k => ?_⟩
  refine k1 T ρ σ H _ _ r h fun s1 ρ1 v H1 f1 q1 h => k2 (s1.temps v T) ρ1 σ H1 _ _ f1.rs h fun s2 ρ2 w H2 f2 q2 h => ⟨by show 2 ≤ sizeLine; decide, fun l hl => ?_⟩
  obtain ⟨r3, q3⟩ := par_fin hij r f1 q1 (f2.grow (Ex.new hl)) (q2.trans (.grow (Ex.new hl)))
  exact ⟨l, [v, w], rfl, .inl (.inl upd_same), rfl, _, _, rfl, _, _, rfl, rfl, k.nx _ _ _ r3 q3 h⟩
structure ItOk (K : PySem.W.Frag) (J : It) (G : Hp) (ds : List D) : Prop where
  stop : ∀ H, Exw G H → J.stop ds.length H
  step : ∀ (i : Nat) (d : D) (H : Hp), ds[i]? = some d → Exw G H → J.go i H ∧ ∀ x H', J.yld i H x H' → Ex H H' ∧ ∀ O : Addr → Prop, (∀ a, O a → H a ≠ none) → Exw G (hide O H) → Rp K (hide O H') x d
structure JI (X : Cx) (tg iter : Expr) (f : DL) : Prop where
  ex : ∃ wi, PI X tg iter wi ∧ ∀ (T : Addr → Prop) (ρ : Env) (σ : L2.St) (H : Hp) (QD : List D → Env → Prop) (R : It → Hp → Prop), RS X.K T ρ σ H → f ρ QD →
    (∀ ds ρ' J H', RS X.K T ρ' σ H' → Po ρ σ H ρ' σ H' → ItOk X.K J (hide (Hd T ρ' σ) H') ds → QD ds ρ' → R J H') → wi σ H R
theorem it_list {K : PySem.W.Frag} {G : Hp} {a : Addr} {xs : List V} {ds : List D} (h : SqL K G a xs) (r : RpAll K G xs ds) : ItOk K (Itl K a) G ds :=
  ⟨fun H e => ⟨xs, e.l h, by rw [r.length]; exact Nat.le_refl _⟩, fun i d H hd e => by
    obtain ⟨v, h1, h2⟩ := r.get hd
    refine ⟨⟨xs, v, e.l h, h1⟩, fun x H' y => ?_⟩
    obtain ⟨rfl, y⟩ := y
    have := y xs (e.l h)
    rw [h1] at this; cases this
    exact ⟨Ex.refl _, fun O _ eo => h2.monoW eo⟩⟩
theorem it_tup {K : PySem.W.Frag} {G : Hp} {a : Addr} {xs : List V} {ds : List D} (h : SqT K G a xs) (r : RpAll K G xs ds) : ItOk K (Itt K a) G ds :=
  ⟨fun H e => ⟨xs, e.t h, by rw [r.length]; exact Nat.le_refl _⟩, fun i d H hd e => by
    obtain ⟨v, h1, h2⟩ := r.get hd
    refine ⟨⟨xs, v, e.t h, h1⟩, fun x H' y => ?_⟩
    obtain ⟨rfl, y⟩ := y
    have := y xs (e.t h)
    rw [h1] at this; cases this
    exact ⟨Ex.refl _, fun O _ eo => h2.monoW eo⟩⟩
theorem it_range {K : PySem.W.Frag} {G : Hp} (i j : Int) : ItOk K (Itr i (j - i).toNat) G (rgD i j) :=
  ⟨fun H e => by show (j - i).toNat ≤ (rgD i j).length; unfold rgD; simp, fun k d H hd e => by
    unfold rgD at hd
    rw [List.getElem?_map] at hd
    obtain ⟨m, hm, rfl⟩ := Option.map_eq_some_iff.mp hd
    obtain ⟨hk, hm⟩ := List.getElem?_eq_some_iff.mp hm
    simp at hk hm
    subst hm
    refine ⟨by show k < (j - i).toNat; omega, fun x H' y => ?_⟩
    obtain ⟨rfl, rfl⟩ := y
    exact ⟨Ex.refl _, fun O _ eo => .int _⟩⟩
variable {tg : Expr}
def iOw (i : Nat) : DL := fun ρ Q => match ρ[i]? with
  | some (some (.ow (.lst ds))) => Q ds (ρ.set i (some (.im (.list ds))))
  | _ => False
def iR1 (f : DE) : DL := fun ρ Q => f ρ fun d ρ1 => match d with
  | .int n => RgD 0 n ∧ Q (rgD 0 n) ρ1
  | _ => False
def iR2 (f g : DE) : DL := fun ρ Q => f ρ fun d ρ1 => g ρ1 fun e ρ2 => match d, e with
  | .int i, .int j => RgD i j ∧ Q (rgD i j) ρ2
  | _, _ => False
theorem ji_r1 (hm : X.mg "range" = none) (ha : JE X a fa) (hg : Gl X "range" := by rfl) (hs : starEach [a] X.env = [(false, eval a X.env)] := by rfl) : JI X tg (.Call (.Name "range" p) [a] [] pos) (iR1 fa) := by
  obtain ⟨t, pt, kt⟩ := ha.ex
  refine ⟨_, pi_range1 hg hm (pa_cons pt pa_nil hs) hs, fun T ρ σ H QD R r h q => kt T ρ σ H _ _ r h fun d ρ1 v H1 r1 p1 v1 h => ?_⟩
  cases v1 with
  | int n =>
    obtain ⟨⟨_, _, h1, h2⟩, h⟩ := h
    have z := q _ _ _ _ r1 p1 (it_range (K := X.K) 0 n) h
    rw [show (n - 0).toNat = n.toNat from by congr 1; omega] at z
    exact ⟨n, rfl, by omega, by omega, z⟩
  | _ => exact False.elim h
theorem ji_r2 (hm : X.mg "range" = none) (ha : JE X a fa) (hb : JE X b fb) (hg : Gl X "range" := by rfl) (hs : starEach [a, b] X.env = [(false, eval a X.env), (false, eval b X.env)] := by rfl) (hs2 : starEach [b] X.env = [(false, eval b X.env)] := by rfl) : JI X tg (.Call (.Name "range" p) [a, b] [] pos) (iR2 fa fb) := by
  obtain ⟨t, pt, kt⟩ := ha.ex
  obtain ⟨t2, pt2, kt2⟩ := hb.ex
  refine ⟨_, pi_range2 hg hm (pa_cons pt (pa_cons pt2 pa_nil hs2) (by rw [hs, hs2])) hs hs2, fun T ρ σ H QD R r h q => kt T ρ σ H _ _ r h fun d ρ1 v H1 r1 p1 v1 h => kt2 T ρ1 σ H1 _ _ r1 h fun d ρ2 w H2 r2 p2 v2 h => ?_⟩
  cases v1 <;> cases v2 <;> first | exact False.elim h | skip
  obtain ⟨⟨h1, h2, h3, h4⟩, h⟩ := h
  exact ⟨_, _, rfl, ⟨by omega, by omega, by omega, by omega⟩, q _ _ _ _ r2 (p1.trans p2) (it_range (K := X.K) _ _) h⟩
def enD (ds : List D) : List D := (List.range ds.length).zipWith (fun k d => .tuple [.int (k : Nat), d]) ds
theorem enD_get {ds : List D} {i : Nat} {d : D} (h : (enD ds)[i]? = some d) : ∃ e, ds[i]? = some e ∧ d = .tuple [.int (i : Nat), e] := by
  unfold enD at h
  rw [List.getElem?_zipWith] at h
  by_cases hi : i < ds.length
  · rw [List.getElem?_range hi, List.getElem?_eq_getElem hi] at h
    simp at h
    exact ⟨_, List.getElem?_eq_getElem hi, h.symm⟩
  · rw [List.getElem?_eq_none_iff.mpr (show ds.length ≤ i by omega)] at h
    cases hr : (List.range ds.length)[i]? <;> rw [hr] at h <;> cases h
theorem enD_len {ds : List D} : (enD ds).length = ds.length := by unfold enD; simp
end
end Dn
set_option Elab.async false
set_option linter.all false
set_option maxRecDepth 100000
set_option autoImplicit false
set_option maxHeartbeats 4000000
namespace Dn
open PySem L2 Evl
def wpFor (g : DG) (body : DS) (E : DEnds) : List D → Env → Prop
  | [], ρ => E.nx ρ
  | d :: ds, ρ => g d ρ fun ρ1 => body { nx := fun ρ2 => wpFor g body E ds ρ2, ct := fun ρ2 => wpFor g body E ds ρ2, bk := E.nx, rt := E.rt, er := E.er } ρ1
def sFor (fi : DL) (g : DG) (body : DS) : DS := fun E ρ => fi ρ fun ds ρ1 => wpFor g body E ds ρ1
def wpWh (c : DT) (body : DS) (E : DEnds) : Nat → Env → Prop
  | 0, _ => False
  | n + 1, ρ => c ρ fun b ρ1 => if b = true then body { nx := wpWh c body E n, ct := wpWh c body E n, bk := E.nx, rt := E.rt, er := E.er } ρ1 else E.nx ρ1
def sWh (c : DT) (body : DS) : DS := fun E ρ => ∃ n, wpWh c body E n ρ
section
variable {X : Cx} {a b c e : Expr} {fa fb fc : DE} {pos p : Pos} {es : List Expr} {x y : Str}
theorem js_for {tg iter : Expr} {body : List Stmt} {fi : DL} {g : DG} {vs : List Nat} {f : DS} (hc : X.calm = true) (hi : JI X tg iter fi) (hg : JG X tg vs g) (hb : JSs X body f) (hp : PassesOwn (model X.prog X.w) X.A X.env X.xe := by first | exact PassesOwn.never | exact passes_of rfl | assumption)
    (hs : ∀ x, foldedSetIterable iter X.env x = pure x := by intro _; rfl) : JS X (.For tg iter body [] pos) (sFor fi g f) := by
  obtain ⟨wi, pi, ki⟩ := hi.ex
  obtain ⟨tg', pg, kg⟩ := hg.ex
  obtain ⟨tb, pb, kb⟩ := hb.ex
  refine ⟨_, ps_for hp hc pi pg pb hs, fun T ρ σ H E D r h k => ki T ρ σ H _ _ r h fun ds ρ1 J H1 r1 p1 it h => ?_⟩
  refine ⟨fun i m σ' H' => i ≤ ds.length ∧ m = ds.length - i ∧ ∃ ρ', RS X.K T ρ' σ' H' ∧ Po ρ1 σ H1 ρ' σ' H' ∧ wpFor g f E (ds.drop i) ρ', ⟨ds.length, Nat.zero_le _, rfl, ρ1, r1, .refl, h⟩, ?_⟩
  rintro i m σ' H' ⟨hi, rfl, ρ', r', p', h⟩
  have eG : Exw (hide (Hd T ρ1 σ) H1) H' := (p'.fz (T := T)).trans (Exw.of hide_ex)
  by_cases hl : i < ds.length
  · rw [List.drop_eq_getElem_cons hl] at h
    obtain ⟨go, st⟩ := it.step i ds[i] H' (List.getElem?_eq_getElem hl) eG
    refine .inr ⟨go, fun σ2 H2 => ∃ ρ2, RS X.K T ρ2 σ2 H2 ∧ Po ρ1 σ H1 ρ2 σ2 H2 ∧ wpFor g f E (ds.drop (i + 1)) ρ2, fun σ2 H2 ⟨ρ2, a1, a2, a3⟩ => ⟨ds.length - (i + 1), by omega, by omega, rfl, ρ2, a1, a2, a3⟩, fun v H2 hy => ?_⟩
    obtain ⟨ex, rv⟩ := st v H2 hy
    have r2 := r'.grow ex
    have p2 := p'.trans (Po.grow (ρ := ρ') (σ := σ') ex)
    refine kg T ρ' σ' H2 v _ _ _ r2 (rv _ (fun a => r'.hdDom) (p'.fz (T := T))) h fun ρ3 σ3 r3 p3 _ h => ?_
    refine kb T ρ3 σ3 H2 _ _ r3 h ⟨fun ρ4 σ4 H4 r4 p4 h => ⟨ρ4, r4, (p2.trans p3).trans p4, h⟩, fun d ρ4 σ4 v4 H4 r4 p4 v5 h => k.rt d ρ4 σ4 v4 H4 r4 ((p1.trans (p2.trans p3)).trans p4) v5 h, fun ρ4 σ4 H4 r4 p4 h => k.nx ρ4 σ4 H4 r4 ((p1.trans (p2.trans p3)).trans p4) h, fun ρ4 σ4 H4 r4 p4 h => ⟨ρ4, r4, (p2.trans p3).trans p4, h⟩, fun a b σ4 d H4 p4 v5 h => k.er a b σ4 d H4 ((p1.trans (p2.trans p3)).trans p4) v5 h⟩
  · have e : i = ds.length := by omega
    subst e
    rw [List.drop_length] at h
    exact .inl ⟨it.stop H' eG, k.nx _ _ _ r' (p1.trans p') h⟩
theorem js_while {body : List Stmt} {g : DT} {f : DS} (hc : JT X c g) (hb : JSs X body f) (hp : PassesOwn (model X.prog X.w) X.A X.env X.xe := by first | exact PassesOwn.never | exact passes_of rfl | assumption) : JS X (.While c body [] pos) (sWh g f) := by
  obtain ⟨tc, pc, kc⟩ := hc.ex
  obtain ⟨tb, pb, kb⟩ := hb.ex
  refine ⟨_, ps_while hp pc pb, fun T ρ σ H E D r h k => ?_⟩
  obtain ⟨n, h⟩ := h
  refine ⟨fun m σ' H' => ∃ ρ', RS X.K T ρ' σ' H' ∧ Po ρ σ H ρ' σ' H' ∧ wpWh g f E m ρ', ⟨n, ρ, r, .refl, h⟩, ?_⟩
  rintro m σ' H' ⟨ρ', r', p', h⟩
  cases m with
  | zero => exact False.elim h
  | succ m =>
    refine kc T ρ' σ' H' _ _ r' h fun b ρ1 H1 r1 p1 h => ?_
    cases b with
    | false => exact k.nx _ _ _ r1 (p'.trans p1) h
    | true =>
      rw [if_pos rfl] at h ⊢
      refine ⟨fun σ2 H2 => ∃ ρ2, RS X.K T ρ2 σ2 H2 ∧ Po ρ σ H ρ2 σ2 H2 ∧ wpWh g f E m ρ2, fun σ2 H2 ⟨ρ2, a1, a2, a3⟩ => ⟨m, Nat.lt_succ_self m, ρ2, a1, a2, a3⟩, ?_⟩
      have q := p'.trans p1
      exact kb T ρ1 σ' H1 _ _ r1 h ⟨fun ρ4 σ4 H4 r4 p4 h => ⟨ρ4, r4, q.trans p4, h⟩, fun d ρ4 σ4 v4 H4 r4 p4 v5 h => k.rt d ρ4 σ4 v4 H4 r4 (q.trans p4) v5 h, fun ρ4 σ4 H4 r4 p4 h => k.nx ρ4 σ4 H4 r4 (q.trans p4) h, fun ρ4 σ4 H4 r4 p4 h => ⟨ρ4, r4, q.trans p4, h⟩, fun a b σ4 d H4 p4 v5 h => k.er a b σ4 d H4 (q.trans p4) v5 h⟩
def wipeD (ρ : Env) : List Nat → Env
  | [] => ρ
  | v :: vs => (wipeD ρ vs).set v none
section
variable {K : PySem.W.Frag} {T : Addr → Prop} {ρ ρ' : Env} {σ σ' : L2.St} {H H' : Hp}
theorem own_congr (hs : ∀ (i : Nat) (sv : SV), ρ[i]? = some (some sv) → σ'[i]? = σ[i]?) {a : Addr} (w : Own ρ σ' a) : Own ρ σ a := by
  obtain ⟨i, m, h1, h2⟩ := w
  exact ⟨i, m, h1, by rw [← hs i _ h1]; exact h2⟩
theorem RS.congr (r : RS K T ρ σ H) (hl : σ'.length = σ.length) (hs : ∀ (i : Nat) (sv : SV), ρ[i]? = some (some sv) → σ'[i]? = σ[i]?) : RS K T ρ σ' H := by
  have e : Ex (hide (Hd T ρ σ) H) (hide (Hd T ρ σ') H) := hide_sub fun a w => w.elim .inl fun w => .inr (own_congr hs w)
  refine ⟨by rw [r.len, hl], fun i d h => ?_, fun i m h => ?_, fun i j m m' a h1 h2 h3 h4 => ?_, fun a t w => r.dis a t (own_congr hs w), r.dom, fun i p m a h1 h2 => by rw [hs i _ h1] at h2; exact r.tag i p m a h1 h2, r.tb⟩
  · obtain ⟨v, h1, h2⟩ := r.im i d h; exact ⟨v, by rw [hs i _ h]; exact h1, h2.mono e⟩
  · obtain ⟨a, o, h1, h2, h3⟩ := r.ow i m h; exact ⟨a, o, by rw [hs i _ h]; exact h1, h2, h3.mono e⟩
  · rw [hs i _ h1] at h3; rw [hs j _ h2] at h4; exact r.inj i j m m' a h1 h2 h3 h4
theorem own_drop {i : Nat} {a : Addr} (w : Own (ρ.set i none) σ a) : Own ρ σ a := by
  obtain ⟨j, m, h1, h2⟩ := w
  rcases getset h1 with ⟨_, _, h⟩ | ⟨_, h⟩
  · cases h
  · exact ⟨j, m, h, h2⟩
theorem RS.drop {i : Nat} (r : RS K T ρ σ H) : RS K T (ρ.set i none) σ H := by
  have e : Ex (hide (Hd T ρ σ) H) (hide (Hd T (ρ.set i none) σ) H) := hide_sub fun a w => w.elim .inl fun w => .inr (own_drop w)
  refine ⟨by simp [r.len], fun j d h => ?_, fun j m h => ?_, fun j k m m' a h1 h2 h3 h4 => ?_, fun a t w => r.dis a t (own_drop w), r.dom, fun j p m a h1 h2 => ?_, r.tb⟩
  · rcases getset h with ⟨_, _, h⟩ | ⟨_, h⟩
    · cases h
    · obtain ⟨v, h1, h2⟩ := r.im j d h; exact ⟨v, h1, h2.mono e⟩
  · rcases getset h with ⟨_, _, h⟩ | ⟨_, h⟩
    · cases h
    · obtain ⟨a, o, h1, h2, h3⟩ := r.ow j m h; exact ⟨a, o, h1, h2, h3.mono e⟩
  · rcases getset h1 with ⟨_, _, h1⟩ | ⟨_, h1⟩
    · cases h1
    · rcases getset h2 with ⟨_, _, h2⟩ | ⟨_, h2⟩
      · cases h2
      · exact r.inj j k m m' a h1 h2 h3 h4
  · rcases getset h1 with ⟨_, _, h1⟩ | ⟨_, h1⟩
    · cases h1
    · exact r.tag j p m a h1 h2
theorem Po.drop {i : Nat} : Po ρ σ H (ρ.set i none) σ H := ⟨fun _ _ _ h _ => h, fun a w => .inl (own_drop w), fun _ h => h⟩
theorem RS.dropAll (r : RS K T ρ σ H) : ∀ vs : List Nat, RS K T (wipeD ρ vs) σ H
  | [] => r
  | v :: vs => (RS.dropAll r vs).drop
theorem Po.dropAll : ∀ vs : List Nat, Po ρ σ H (wipeD ρ vs) σ H
  | [] => .refl
  | v :: vs => (Po.dropAll vs).trans .drop
theorem wipeD_none : ∀ (vs : List Nat) (i : Nat) (sv : SV), (wipeD ρ vs)[i]? = some (some sv) → i ∉ vs
  | [], _, _, _ => by simp
  | v :: vs, i, sv, h => by
    rcases getset (show ((wipeD ρ vs).set v none)[i]? = _ from h) with ⟨_, _, h⟩ | ⟨ne, h⟩
    · cases h
    · intro z
      rcases List.mem_cons.mp z with z | z
      · exact ne z.symm
      · exact wipeD_none vs i sv h z
theorem wipe_ne : ∀ (vs : List Nat) (i : Nat), i ∉ vs → (wipe σ vs)[i]? = σ[i]?
  | [], _, _ => rfl
  | v :: vs, i, h => by
    show ((wipe σ vs).set v none)[i]? = _
    rw [List.getElem?_set_ne (fun z => h (by rw [z]; exact List.mem_cons_self)), wipe_ne vs i fun z => h (List.mem_cons_of_mem _ z)]
theorem RS.wiped (r : RS K T ρ σ H) (vs : List Nat) : RS K T (wipeD ρ vs) (wipe σ vs) H := (r.dropAll vs).congr (wipe_length σ vs) fun i sv h => wipe_ne vs i (wipeD_none vs i sv h)
theorem own_wipe {vs : List Nat} {a : Addr} (w : Own (wipeD ρ vs) (wipe σ vs) a) : Own ρ σ a := by
  have w' : Own (wipeD ρ vs) σ a := own_congr (fun i sv h => wipe_ne vs i (wipeD_none vs i sv h)) w
  rcases (Po.dropAll (ρ := ρ) (σ := σ) (H := fun _ => some (.tup [])) vs).own a w' with h | h
  · exact h
  · cases h
theorem Po.wiped (vs : List Nat) : Po ρ σ H (wipeD ρ vs) (wipe σ vs) H := ⟨fun _ _ _ h _ => h, fun a w => .inl (own_wipe w), fun _ h => h⟩
theorem RS.unwipe {vs : List Nat} (r : RS K T (wipeD ρ vs) (wipe σ vs) H) : RS K T (wipeD ρ vs) σ H := r.congr (wipe_length σ vs).symm fun i sv h => (wipe_ne vs i (wipeD_none vs i sv h)).symm
theorem own_unwipe {vs : List Nat} {a : Addr} (w : Own (wipeD ρ vs) σ a) : Own (wipeD ρ vs) (wipe σ vs) a := own_congr (fun i sv h => (wipe_ne vs i (wipeD_none vs i sv h)).symm) w
end
structure JTs (X : Cx) (ifs : List Expr) (f : DT) : Prop where
  ex : ∃ t, PTs X ifs t ∧ ∀ (T : Addr → Prop) (ρ : Env) (σ : L2.St) (H : Hp) (QD : Bool → Env → Prop) (Q : Bool → Hp → Prop), RS X.K T ρ σ H → f ρ QD →
    (∀ b ρ' H', RS X.K T ρ' σ H' → Po ρ σ H ρ' σ H' → QD b ρ' → Q b H') → t σ H Q
def dYes : DT := fun ρ Q => Q true ρ
theorem jts_nil : JTs X [] dYes := ⟨tYes, pts_nil, fun T ρ σ H QD Q r h q => q _ _ _ r .refl h⟩
theorem jts_one {g : DT} (h : JT X c g) : JTs X [c] g := let ⟨t, pt, k⟩ := h.ex; ⟨t, pts_one pt, k⟩
def teOf (K : PySem.W.Frag) (f : DE) : TE := fun σ H Q => ∃ (T : Addr → Prop) (ρ : Env) (QD : D → Env → Prop), RS K T ρ σ H ∧ f ρ QD ∧ ∀ d ρ' v H', RS K T ρ' σ H' → Po ρ σ H ρ' σ H' → Rp K (hide (Hd T ρ' σ) H') v d → QD d ρ' → Q v H'
def ttOf (K : PySem.W.Frag) (f : DT) : TT := fun σ H Q => ∃ (T : Addr → Prop) (ρ : Env) (QD : Bool → Env → Prop), RS K T ρ σ H ∧ f ρ QD ∧ ∀ d ρ' H', RS K T ρ' σ H' → Po ρ σ H ρ' σ H' → QD d ρ' → Q d H'
def tgOf (K : PySem.W.Frag) (vs : List Nat) (g : DG) : TG := fun v σ H Q => ∃ (T : Addr → Prop) (ρ : Env) (d : D) (QD : Env → Prop), RS K T ρ σ H ∧ Rp K (hide (Hd T ρ σ) H) v d ∧ g d ρ QD ∧ ∀ ρ' σ', RS K T ρ' σ' H → Po ρ σ H ρ' σ' H → wipe σ' vs = wipe σ vs → QD ρ' → Q σ' H
theorem JE.pe (h : JE X e fa) : PE X e (teOf X.K fa) := by
  obtain ⟨t, pt, k⟩ := h.ex
  exact ⟨fun pins s σ H Q I ⟨T, ρ, QD, r, h, q⟩ => pt.run pins s σ H Q I (k T ρ σ H QD Q r h q)⟩
theorem JTs.pts {ifs : List Expr} {g : DT} (h : JTs X ifs g) : PTs X ifs (ttOf X.K g) := by
  obtain ⟨t, pt, k⟩ := h.ex
  exact ⟨fun pins s σ H Q I ⟨T, ρ, QD, r, h, q⟩ => pt.run pins s σ H Q I (k T ρ σ H QD Q r h q)⟩
theorem JG.pg {tg : Expr} {vs : List Nat} {g : DG} (h : JG X tg vs g) : PG X tg (tgOf X.K vs g) := by
  obtain ⟨t, pt, k⟩ := h.ex
  exact ⟨fun pins s σ H v u Q I rv ⟨T, ρ, d, QD, r, r2, h, q⟩ => pt.run pins s σ H v u Q I rv (k T ρ σ H v d QD Q r r2 h q)⟩
def wpLc (g : DG) (tt : DT) (te : DE) (vs : List Nat) (Q : List D → Env → Prop) : List D → List D → Env → Prop
  | [], acc, ρ => Q acc ρ
  | d :: ds, acc, ρ => acc.length < 16777216 ∧ g d (wipeD ρ vs) fun ρ1 => tt ρ1 fun b ρ2 => if b = true then te ρ2 fun y ρ3 => wpLc g tt te vs Q ds (acc ++ [y]) (wipeD ρ3 vs) else wpLc g tt te vs Q ds acc (wipeD ρ2 vs)
def lLc (fi : DL) (g : DG) (tt : DT) (te : DE) (vs : List Nat) : DL := fun ρ Q => fi ρ fun ds ρ1 => wpLc g tt te vs Q ds [] (wipeD ρ1 vs)
theorem wipeD_idem {ρ : Env} : ∀ vs : List Nat, wipeD (wipeD ρ vs) vs = wipeD ρ vs := by
  intro vs
  apply List.ext_getElem?
  intro i
  have len : ∀ (ρ : Env) (vs : List Nat), (wipeD ρ vs).length = ρ.length := fun ρ vs => by
    induction vs with
    | nil => rfl
    | cons v vs ih => show ((wipeD ρ vs).set v none).length = _; rw [List.length_set, ih]
  have at1 : ∀ (ρ : Env) (vs : List Nat), (wipeD ρ vs)[i]? = if i ∈ vs then (if i < ρ.length then some none else none) else ρ[i]? := fun ρ vs => by
    induction vs with
    | nil => simp [wipeD]
    | cons v vs ih =>
      show ((wipeD ρ vs).set v none)[i]? = _
      by_cases e : v = i
      · subst e
        by_cases hl : v < ρ.length
        · rw [List.getElem?_set_self (by rw [len]; exact hl)]; simp [hl]
        · rw [List.getElem?_eq_none_iff.mpr (by rw [List.length_set, len]; omega)]; simp [hl]
      · rw [List.getElem?_set_ne e, ih]
        simp only [List.mem_cons, show ¬ i = v from fun z => e z.symm, false_or]
  rw [at1, at1, len]
  by_cases h : i ∈ vs <;> simp [h]
theorem wipe_idem (ρ : L2.St) : ∀ vs : List Nat, wipe (wipe ρ vs) vs = wipe ρ vs := by
  intro vs
  apply List.ext_getElem?
  intro i
  have len : ∀ (ρ : L2.St) (vs : List Nat), (wipe ρ vs).length = ρ.length := fun ρ vs => by
    induction vs with
    | nil => rfl
    | cons v vs ih => show ((wipe ρ vs).set v none).length = _; rw [List.length_set, ih]
  have at1 : ∀ (ρ : L2.St) (vs : List Nat), (wipe ρ vs)[i]? = if i ∈ vs then (if i < ρ.length then some none else none) else ρ[i]? := fun ρ vs => by
    induction vs with
    | nil => simp [wipe]
    | cons v vs ih =>
      show ((wipe ρ vs).set v none)[i]? = _
      by_cases e : v = i
      · subst e
        by_cases hl : v < ρ.length
        · rw [List.getElem?_set_self (by rw [len]; exact hl)]; simp [hl]
        · rw [List.getElem?_eq_none_iff.mpr (by rw [List.length_set, len]; omega)]; simp [hl]
      · rw [List.getElem?_set_ne e, ih]
        simp only [List.mem_cons, show ¬ i = v from fun z => e z.symm, false_or]
  rw [at1, at1, len]
  by_cases h : i ∈ vs <;> simp [h]
theorem lc_read {tg iter : Expr} {vs : List Nat} {fi : DL} {g : DG} {tt : DT} {te : DE} (hi : JI X tg iter fi) : ∃ wi, PI X tg iter wi ∧ ∀ (T : Addr → Prop) (ρ : Env) (σ : L2.St) (H : Hp) (QD : List D → Env → Prop) (Q : VK), RS X.K T ρ σ H → lLc fi g tt te vs ρ QD →
    (∀ ds ρ' p vs H', H p = none → H' p = some (.lst vs) → RS X.K (plus T p) ρ' σ H' → RpAll X.K (hide (Hd (plus T p) ρ' σ) H') vs ds → Po ρ σ H ρ' σ H' → QD ds ρ' → Q (.ref p) H') → tLc wi (tgOf X.K vs g) (ttOf X.K tt) (teOf X.K te) vs σ H Q := by
  obtain ⟨wi, pi, ki⟩ := hi.ex
  refine ⟨wi, pi, fun T ρ σ H QD Q r h q => ki T ρ σ H _ _ r h fun ds ρ1 J H1 r1 p1 it h => ?_⟩
  intro L hL
  -- kept: what was known at the start stands apart from the new list
  refine ⟨fun i m H' => i ≤ ds.length ∧ m = ds.length - i ∧ ∃ ρ' acc us, ρ' = wipeD ρ' vs ∧ RS X.K (plus T L) ρ' (wipe σ vs) H' ∧ Po ρ1 σ H1 ρ' (wipe σ vs) H' ∧ H' L = some (.lst us) ∧ RpAll X.K (hide (Hd (plus T L) ρ' (wipe σ vs)) H') us acc ∧ wpLc g tt te vs QD (ds.drop i) acc ρ',
    ⟨ds.length, Nat.zero_le _, rfl, wipeD ρ1 vs, [], [], (wipeD_idem vs).symm, (r1.laid hL).wiped vs, (Po.grow (Ex.new hL)).trans (.wiped vs), upd_same, .nil, h⟩, ?_⟩
  rintro i m H' ⟨hi, rfl, ρ', acc, us, ew, r', p', hl, ra, h⟩
  have eG : Exw (hide (Hd T ρ1 σ) H1) H' := (p'.fz (T := T)).trans (Exw.of hide_ex)
  by_cases hlt : i < ds.length
  · rw [List.drop_eq_getElem_cons hlt] at h
    obtain ⟨hz, h⟩ := h
    obtain ⟨go, st⟩ := it.step i ds[i] H' (List.getElem?_eq_getElem hlt) eG
    refine .inr ⟨go, fun H2 => ∃ ρ2 acc us, ρ2 = wipeD ρ2 vs ∧ RS X.K (plus T L) ρ2 (wipe σ vs) H2 ∧ Po ρ1 σ H1 ρ2 (wipe σ vs) H2 ∧ H2 L = some (.lst us) ∧ RpAll X.K (hide (Hd (plus T L) ρ2 (wipe σ vs)) H2) us acc ∧ wpLc g tt te vs QD (ds.drop (i + 1)) acc ρ2,
      fun H2 w => ⟨ds.length - (i + 1), by omega, by omega, rfl, w⟩, fun v H2 hy => ?_⟩
    obtain ⟨ex, rv⟩ := st v H2 hy
    rw [← ew] at h
    have r2 := r'.grow ex
    have pa2 := p'.trans (Po.grow (ρ := ρ') (σ := wipe σ vs) ex)
    have ra2 := ra.mono (hide_grow (O := Hd (plus T L) ρ' (wipe σ vs)) ex)
    have nL : H1 L = none := hL
    have eO : Exw (hide (Hd T ρ1 σ) H1) (hide (Hd (plus T L) ρ' (wipe σ vs)) H') := ⟨fun a o w nt => by
      obtain ⟨n, w⟩ := hide_some.1 w
      obtain ⟨n2, w2⟩ := hide_some.1 ((p'.fz (T := T)).k a o (hide_some.2 ⟨n, w⟩) nt)
      refine hide_some.2 ⟨?_, w2⟩
      rintro ((t | t) | t)
      · subst t; rw [nL] at w; cases w
      · exact n2 (.inl t)
      · exact n2 (.inr t), fun a w => by
      obtain ⟨n, w⟩ := hide_dom.1 w
      obtain ⟨n2, w2⟩ := hide_dom.1 ((p'.fz (T := T)).d a (hide_dom.2 ⟨n, w⟩))
      refine hide_dom.2 ⟨?_, w2⟩
      rintro ((t | t) | t)
      · subst t; exact w nL
      · exact n2 (.inl t)
      · exact n2 (.inr t)⟩
    refine ⟨plus T L, ρ', ds[i], _, r2, rv _ (fun a => r'.hdDom) eO, h, fun ρ3 σ3 r3 p3 w3 h => ⟨by rw [w3]; exact wipe_idem σ vs, plus T L, ρ3, _, r3, h, fun b ρ4 H4 r4 p4 h => ?_⟩⟩
    -- the new list is never the block's own
    have keepL : ∀ {ρa : Env} {σa : L2.St} {Ha Hb : Hp} {ρb : Env} {σb : L2.St} {o : HO}, RS X.K (plus T L) ρa σa Ha → Po ρa σa Ha ρb σb Hb → Ha L = some o → (nt : ¬ TbO o := by first | assumption | exact id) → Hb L = some o := fun ra pab hh nt => pab.keep L _ (ra.dis L (.inl rfl)) hh nt
    have l4 : H4 L = some (.lst us) := keepL r2 (p3.trans p4) (ex _ _ hl)
    have ra4 := ra2.monoW (((p3.trans p4)).fz (T := plus T L))
    have back : ∀ {ρ5 : Env} {H5 : Hp}, RS X.K (plus T L) ρ5 σ3 H5 → RS X.K (plus T L) (wipeD ρ5 vs) (wipe σ vs) H5 := fun {ρ5 H5} r5 => by
      have z := r5.wiped vs
      rw [w3, wipe_idem] at z
      exact z
    have pback : ∀ {ρ5 : Env} {H5 : Hp}, Po ρ1 σ H1 ρ5 σ3 H5 → Po ρ1 σ H1 (wipeD ρ5 vs) (wipe σ vs) H5 := fun {ρ5 H5} p5 => by
      have z := p5.trans (Po.wiped (ρ := ρ5) (σ := σ3) (H := H5) vs)
      rw [w3, wipe_idem] at z
      exact z
    cases b with
    | false =>
      refine ⟨wipeD ρ4 vs, acc, us, (wipeD_idem vs).symm, back r4, pback (pa2.trans (p3.trans p4)), l4, ?_, h⟩
      have z := ra4.monoW ((Po.wiped (ρ := ρ4) (σ := σ3) (H := H4) vs).fz (T := plus T L))
      rw [w3, wipe_idem] at z
      exact z
    | true =>
      rw [if_pos rfl] at h
      dsimp only
      rw [if_pos rfl]
      refine ⟨plus T L, ρ4, _, r4, h, fun y ρ5 w H5 r5 p5 v5 h => ?_⟩
      have l5 : H5 L = some (.lst us) := keepL r4 p5 l4
      have ra5 := (ra4.monoW (p5.fz (T := plus T L))).append (.cons v5 .nil)
      have aL : ∀ (o : HO), Ex (hide (Hd (plus T L) ρ5 σ3) H5) (hide (Hd (plus T L) ρ5 σ3) (upd H5 L o)) := fun o a u w => by
        obtain ⟨n, w⟩ := hide_some.1 w
        exact hide_some.2 ⟨n, by rw [upd_ne (fun z => n (.inl (.inl z)))]; exact w⟩
      have r6 : RS X.K (plus T L) ρ5 σ3 (upd H5 L (.lst (us ++ [w]))) := by
        refine ⟨r5.len, fun j d z => ?_, fun j m z => ?_, r5.inj, r5.dis, fun a t => ?_, r5.tag, r5.tb.wr l5⟩
        · obtain ⟨u, h1, h2⟩ := r5.im j d z; exact ⟨u, h1, h2.mono (aL _)⟩
        · obtain ⟨a, o, h1, h2, h3⟩ := r5.ow j m z
          have ne : a ≠ L := fun e => by subst e; exact r5.dis a (.inl rfl) ⟨j, m, z, h1⟩
          exact ⟨a, o, h1, by rw [upd_ne ne]; exact h2, h3.mono (aL _)⟩
        · by_cases e : a = L
          · subst e; exact Lv.at id
          · exact (r5.dom a t).upd e
      have p6 : Po ρ1 σ H1 ρ5 σ3 (upd H5 L (.lst (us ++ [w]))) := by
        have z := (pa2.trans (p3.trans p4)).trans p5
        refine ⟨fun a o n hh nt => ?_, z.own, fun a hh => ?_⟩
        · rw [upd_ne (fun e => by subst e; rw [nL] at hh; cases hh)]; exact z.keep a o n hh nt
        · by_cases e : a = L
          · subst e; rw [upd_same]; simp
          · rw [upd_ne e]; exact z.dom a hh
      refine ⟨us, l5, by rw [ra.length]; exact hz, wipeD ρ5 vs, acc ++ [y], us ++ [w], (wipeD_idem vs).symm, back r6, pback p6, upd_same, ?_, h⟩
      have z := (ra5.mono (aL (.lst (us ++ [w])))).monoW ((Po.wiped (ρ := ρ5) (σ := σ3) (H := upd H5 L (.lst (us ++ [w]))) vs).fz (T := plus T L))
      rw [w3, wipe_idem] at z
      exact z
  · have e : i = ds.length := by omega
    subst e
    rw [List.drop_length] at h
    refine .inl ⟨it.stop H' eG, ?_⟩
    rw [ew] at r' p' ra h
    refine q acc (wipeD ρ' vs) L us H' (none_back p1 hL) hl r'.unwipe (ra.mono ?_) ?_ h
    · exact hide_sub fun a w => w.elim .inl fun w => .inr (own_unwipe w)
    · exact p1.trans ⟨fun a o n h nt => p'.keep a o n h nt, fun a w => p'.own a (own_unwipe w), p'.dom⟩
theorem jl_lc {elt tg iter : Expr} {ifs : List Expr} {scope : Scope} {own : List (Str × Nat)} {fi : DL} {g : DG} {tt : DT} {te : DE} (hc : X.calm = true) (hN : X.N.Nodup) (hi : JI X tg iter fi) (ok : BlkOk X.N X.env.scope scope own)
    (hg : ∀ (s : Shared) (H : Hp) (C : Addr) (cl : List (Str × Addr)) (fp : List Addr), JG (X.blk s H scope (compEnvC scope cl C X.env) fp) tg (own.map (·.2)) g) (ht : ∀ (s : Shared) (H : Hp) (C : Addr) (cl : List (Str × Addr)) (fp : List Addr), JTs (X.blk s H scope (compEnvC scope cl C X.env) fp) ifs tt)
    (he : ∀ (s : Shared) (H : Hp) (C : Addr) (cl : List (Str × Addr)) (fp : List Addr), JE (X.blk s H scope (compEnvC scope cl C X.env) fp) elt te) (hs : ∀ x, foldedSetIterable iter X.env x = pure x := by intro _; rfl) :
    JL X (.ListComp elt [⟨tg, iter, ifs, 0⟩] scope pos) (lLc fi g tt te (own.map (·.2))) := by
  obtain ⟨wi, pi, k⟩ := lc_read (vs := own.map (·.2)) (g := g) (tt := tt) (te := te) hi
  exact ⟨_, pe_lc (wi := wi) (g := tgOf X.K (own.map (·.2)) g) (tt := ttOf X.K tt) (te := teOf X.K te) hc hN pi ok (fun s H C cl fp => (hg s H C cl fp).pg) (fun s H C cl fp => (ht s H C cl fp).pts) (fun s H C cl fp => (he s H C cl fp).pe) hs, k⟩
theorem js_lcO {i : Nat} {py spos : Pos} {elt tg iter : Expr} {ifs : List Expr} {scope : Scope} {own : List (Str × Nat)} {fi : DL} {g : DG} {tt : DT} {te : DE} (hc : X.calm = true) (hN : X.N.Nodup) (hy : X.N[i]? = some y) (hyl : X.env.scope.names.lookup y = some .local)
    (hsw : swapsWith (.ListComp elt [⟨tg, iter, ifs, 0⟩] scope pos) (some (.Name y py)) spos.line X.env = pure true) (hi : JI X tg iter fi) (ok : BlkOk X.N X.env.scope scope own)
    (hg : ∀ (s : Shared) (H : Hp) (C : Addr) (cl : List (Str × Addr)) (fp : List Addr), JG (X.blk s H scope (compEnvC scope cl C X.env) fp) tg (own.map (·.2)) g) (ht : ∀ (s : Shared) (H : Hp) (C : Addr) (cl : List (Str × Addr)) (fp : List Addr), JTs (X.blk s H scope (compEnvC scope cl C X.env) fp) ifs tt)
    (he : ∀ (s : Shared) (H : Hp) (C : Addr) (cl : List (Str × Addr)) (fp : List Addr), JE (X.blk s H scope (compEnvC scope cl C X.env) fp) elt te) (hs : ∀ x, foldedSetIterable iter X.env x = pure x := by intro _; rfl) :
    JS X (.Assign [.Name y py] (.ListComp elt [⟨tg, iter, ifs, 0⟩] scope pos) spos) (sSet i (xOw (lLc fi g tt te (own.map (·.2))))) := by
  obtain ⟨wi, pi, k⟩ := lc_read (vs := own.map (·.2)) (g := g) (tt := tt) (te := te) hi
  refine ⟨_, ps_setLc (wi := wi) (g := tgOf X.K (own.map (·.2)) g) (tt := ttOf X.K tt) (te := teOf X.K te) hc hN hy hyl hsw pi ok (fun s H C cl fp => (hg s H C cl fp).pg) (fun s H C cl fp => (ht s H C cl fp).pts) (fun s H C cl fp => (he s H C cl fp).pe) hs, fun T ρ σ H E D r h q => ?_⟩
  refine k T ρ σ H _ _ r h fun ds ρ1 l vs H1 n sl r1 v1 p1 h => ?_
  obtain ⟨r2, q2⟩ := fits_set (i := i) (sv := .ow (.lst ds)) r p1 ⟨l, .lst vs, rfl, n, sl, r1, v1, fun _ _ z => nomatch z⟩
  exact q.nx _ _ _ r2 q2 h
theorem js_lcF {i : Nat} {py spos : Pos} {elt tg iter : Expr} {ifs : List Expr} {scope : Scope} {own : List (Str × Nat)} {fi : DL} {g : DG} {tt : DT} {te : DE} (hc : X.calm = true) (hN : X.N.Nodup) (hy : X.N[i]? = some y) (hyl : X.env.scope.names.lookup y = some .local)
    (hsw : swapsWith (.ListComp elt [⟨tg, iter, ifs, 0⟩] scope pos) (some (.Name y py)) spos.line X.env = pure true) (hi : JI X tg iter fi) (ok : BlkOk X.N X.env.scope scope own)
    (hg : ∀ (s : Shared) (H : Hp) (C : Addr) (cl : List (Str × Addr)) (fp : List Addr), JG (X.blk s H scope (compEnvC scope cl C X.env) fp) tg (own.map (·.2)) g) (ht : ∀ (s : Shared) (H : Hp) (C : Addr) (cl : List (Str × Addr)) (fp : List Addr), JTs (X.blk s H scope (compEnvC scope cl C X.env) fp) ifs tt)
    (he : ∀ (s : Shared) (H : Hp) (C : Addr) (cl : List (Str × Addr)) (fp : List Addr), JE (X.blk s H scope (compEnvC scope cl C X.env) fp) elt te) (hs : ∀ x, foldedSetIterable iter X.env x = pure x := by intro _; rfl) :
    JS X (.Assign [.Name y py] (.ListComp elt [⟨tg, iter, ifs, 0⟩] scope pos) spos) (sSet i (xIm (dOfL (lLc fi g tt te (own.map (·.2)))))) := by
  obtain ⟨wi, pi, k⟩ := lc_read (vs := own.map (·.2)) (g := g) (tt := tt) (te := te) hi
  refine ⟨_, ps_setLc (wi := wi) (g := tgOf X.K (own.map (·.2)) g) (tt := ttOf X.K tt) (te := teOf X.K te) hc hN hy hyl hsw pi ok (fun s H C cl fp => (hg s H C cl fp).pg) (fun s H C cl fp => (ht s H C cl fp).pts) (fun s H C cl fp => (he s H C cl fp).pe) hs, fun T ρ σ H E D r h q => ?_⟩
  refine k T ρ σ H _ _ r h fun ds ρ1 l vs H1 n sl r1 v1 p1 h => ?_
  have rl : Rp X.K (hide (Hd T ρ1 σ) H1) (.ref l) (.list ds) := .lst (hide_some.2 ⟨fun w => by
    rcases w with w | w
    · exact (r.dom l w).1 n
    · exact r1.dis l (.inl rfl) w, sl⟩) (v1.mono hd_unplus)
  exact q.nx _ _ _ (r1.unplus.setIm rl) (p1.trans .setIm) h
end
end Dn
set_option Elab.async false
set_option linter.all false
set_option maxRecDepth 100000
set_option autoImplicit false
set_option maxHeartbeats 4000000
namespace PySem
open Sem (wp)
open AutoSeq1 (wpAny_loadPart')
theorem own_enum_new (tp : Addr) (its : Array Value) (nn : Nat) (dd : Option Addr) (ss : Array (Option Value)) :
    Meets (Builtin.«enumerate.__new__» ⟨[.type "enumerate", .ref tp], []⟩) (fun _ R st =>
      st.heap.get? tp = some { cls := .type "tuple", dict := dd, data := .seq its nn, slots := ss } ∧
      R (.ok (.ret (.ref (st.heap.push { cls := .type "tuple_iterator", data := .fields #[.ref tp, .int 0 0] }).objs.size)))
        { st with heap := (st.heap.push { cls := .type "tuple_iterator", data := .fields #[.ref tp, .int 0 0] }).push { cls := .type "enumerate", data := .fields #[.none, .bool false, .ref st.heap.objs.size, rawInt 0, .none, .none] } }) :=
  .of_wp fun prog w A R st h => by
    obtain ⟨hp, gg, dr, tk, oo⟩ := st
    obtain ⟨at_, h⟩ := h
    have isSub := sub_enumerate
    have isT : Heap.IsTuple (Shared.heap ⟨hp, gg, dr, tk, oo⟩) tp its := ⟨_, at_, rfl, nn, rfl⟩
    wp_walk using wpAny_loadPart' at_
    refine wpAny_stack_any fun _ => wpAny_pure ?_
    split
    · rename_i c _ _ _ _ _
      cases (c == Value.type "enumerate") <;>
      · wp_walk using wpAny_loadPart' at_, wpAny_pyIter_tuple isT
        exact ⟨_, rfl, h⟩
    · wp_walk using wpAny_loadPart' at_, wpAny_pyIter_tuple isT
      exact ⟨_, rfl, h⟩
theorem own_enum_call {prog : Program} {w : World} {A : Around} {E : Value → Shared → Prop} {st : Shared} {tp : Addr} {its : Array Value} {Q : Value → Shared → Prop} (isT : st.heap.IsTuple tp its)
    (h : ∀ hp : Heap, IsEnum hp (st.heap.objs.size + 1) st.heap.objs.size 0 .none → hp.IsTupleIter st.heap.objs.size tp 0 →
      (∀ b o, st.heap.get? b = some o → hp.get? b = some o) → Q (.ref (st.heap.objs.size + 1)) { st with heap := hp }) :
    wpAny (model prog w) A (call (.type "enumerate") [.ref tp]) Q E st := by
  obtain ⟨⟨cc, dd, dt, ss⟩, at_, hc, nn, hd⟩ := isT
  replace hc : cc = .type "tuple" := hc
  replace hd : dt = .seq its nn := hd
  subst hc hd
  refine callType_new F.called_enumerate (by decide) (F.typeCall_enumerate_1 _) (F.newCall_enumerate_1 _) (fun ob => F.args_object_init_2 ob _) F.entry_enumerate_new (own_enum_new tp its nn dd ss) ⟨at_, ?_⟩
  generalize hI : ({ cls := .type "tuple_iterator", data := .fields #[.ref tp, .int 0 0] } : Obj) = oI
  generalize hE : ({ cls := .type "enumerate", data := .fields #[.none, .bool false, .ref st.heap.objs.size, rawInt 0, .none, .none] } : Obj) = oE
  have sz : (st.heap.push oI).objs.size = st.heap.objs.size + 1 := Heap.size_push ..
  have nf : oE.isFreed = false := by subst hE; rfl
  have nI : oI.isFreed = false := by subst hI; rfl
  have gE : ((st.heap.push oI).push oE).get? (st.heap.objs.size + 1) = some oE := by
    have z := Heap.get?_push_size (st.heap.push oI) (o := oE) nf
    rwa [sz] at z
  have gI : ((st.heap.push oI).push oE).get? st.heap.objs.size = some oI := Heap.get?_push_of_some _ (Heap.get?_push_size _ nI)
  show _ ∧ _
  rw [sz]
  subst hE hI
  exact ⟨⟨_, gE, rfl⟩, h _ gE ⟨{ cls := .type "tuple_iterator", data := .fields #[.ref tp, .int 0 0] }, gI, rfl, rfl⟩ fun b o x => Heap.get?_push_of_some _ (Heap.get?_push_of_some _ x)⟩
end PySem
namespace Dn
open PySem L2 Evl PySem.Spec PyProof.Rows
def IteT (K : PySem.W.Frag) (a : Addr) : It where
  go := fun i H => ∃ (xs : List V) (x : V), SqT K H a xs ∧ xs[i]? = some x
  yld := fun i H v H' => ∃ l o x, v = .ref l ∧ H l = none ∧ TO K o [.int (i : Nat), x] ∧ H' = upd H l o ∧ ∀ xs, SqT K H a xs → xs[i]? = some x
  stop := fun i H => ∃ xs : List V, SqT K H a xs ∧ xs.length ≤ i
theorem turn_enT {P : Program} {w : World} {K : PySem.W.Frag} {elts : List Expr} {kk : Nat} {tpos : Pos} (a e it : Addr) :
    Turn P w K (.Tuple elts kk tpos) (IteT K a) [e, it] e (fun i h => (∃ old, IsEnum h e it ((i : Nat) : Int) old) ∧ h.IsTupleIter it a i ∧ e ≠ it) where
  mem := by simp
  obj := fun i h st b hb => by
    obtain ⟨⟨old, he⟩, ⟨o, ho, hc, hd⟩, _⟩ := st
    rcases (show b = e ∨ b = it by simpa using hb) with rfl | rfl
    · exact ⟨_, he, fun v q => nomatch q⟩
    · exact ⟨o, ho, fun v q => by rw [hd] at q; cases q⟩
  keep := fun i h h' ⟨⟨old, he⟩, hi, hne⟩ k => ⟨⟨old, k e (by simp) _ he⟩, hi.at fun o q => k it (by simp) o q, hne⟩
  item := by
    intro X hP hw hK hc i pins s σ H E I hf st hg
    subst hP hw hK
    obtain ⟨⟨old, he⟩, hit, hne⟩ := st
    obtain ⟨xs, x, hq, hx⟩ := hg
    obtain ⟨its, rv, isT, hz⟩ := I.tuple hq
    obtain ⟨u, hu, ru⟩ := rv.get hx
    have isT' : s.heap.IsTuple a its.toArray := isT
    have hil : it < s.heap.objs.size := by obtain ⟨_, q, _⟩ := hit; exact Heap.lt_size q
    have hel : e < s.heap.objs.size := Heap.lt_size he
    have ai : a ≠ it := fun z => by
      subst z
      obtain ⟨o1, q1, c1, _⟩ := isT'
      obtain ⟨o2, q2, c2, _⟩ := hit
      rw [q1] at q2; cases q2
      have z : Value.type "tuple" = Value.type "tuple_iterator" := (show _ = o1.cls from Eq.symm c1).trans c2
      injection z with z
      exact absurd z (by decide)
    have ae : e ≠ a := fun z => by
      subst z
      obtain ⟨o1, q1, c1, _⟩ := isT'
      rw [show s.heap.get? e = some _ from he] at q1; cases q1
      have z : Value.type "enumerate" = Value.type "tuple" := c1
      injection z with z
      exact absurd z (by decide)
    have lt : i < its.toArray.size := by
      have := (List.getElem?_eq_some_iff.mp hu).1
      simpa using this
    refine wpAny_pyNext_enum_itemD (Draws.tuple (A := X.A.in1) (show X.A.in1.handled = none from I.ok.hd hc) it a ai its.toArray) he ⟨hit, isT'⟩ lt hne (by simp [hne, ae]) fun y h' tk hy ho st' hT hsz hk => ?_
    have yu : y = u := by
      have z : its.toArray[i]? = some u := by simpa using hu
      rw [hy] at z; cases z; rfl
    subst yu
    refine ⟨_, rfl, wpAny_letOwnedTupleGo_enum (s := { s with heap := h', toks := tk + 1 }) ho fun h2 he2 sb => ?_⟩
    have hT2 : h2.get? s.heap.objs.size = some { cls := .type "tuple", data := .seq #[.int i tk, y] } := (sb.2 _ (Nat.ne_of_gt hel)).trans hT
    have kp : ∀ b ob, b ∉ [e, it] → s.heap.get? b = some ob → h2.get? b = some ob := fun b ob hb q => by
      have b1 : b ≠ e := fun z => hb (by simp [z])
      have b2 : b ≠ it := fun z => hb (by simp [z])
      exact (sb.2 b b1).trans (hk b ob b1 b2 q)
    obtain ⟨o, t, ok⟩ := to_ok (P := X.prog) (w := X.w) (xs := [.int (i : Nat), x]) (its := [.int i tk, y]) X.K hT2 rfl rfl rfl (by show 2 ≤ sizeLine; decide) (.cons ⟨_, rfl⟩ (.cons ru .nil))
    have I2 : Inv X pins σ (upd H s.heap.objs.size o) { s with heap := h2, toks := tk + 1 } := I.turnedNew (ch := [e, it]) kp hf (Nat.le_refl _) (ok _)
    refine ⟨.ref s.heap.objs.size, _, I2, rfl, ⟨_, o, x, rfl, I.hok.fresh (Nat.le_refl _), t, rfl, fun ys hys => by rw [I.tuple_inj hys hq]; exact hx⟩, ⟨⟨y, ?_⟩, st'.1.at fun o q => (sb.2 it (Ne.symm hne)).trans q, hne⟩, fun b hb => ?_⟩
    · have e1 : ((i + 1 : Nat) : Int) = (i : Int) + 1 := by omega
      rw [e1]; exact he2
    · have bl : b < s.heap.objs.size := by
        rcases (show b = e ∨ b = it by simpa using hb) with rfl | rfl
        · exact hel
        · exact hil
      rw [upd_ne (Nat.ne_of_lt bl)]
      exact (hf b hb).1
  done := by
    intro X hP hw hK hc i pins s σ H E I hf st hg
    subst hP hw hK
    obtain ⟨⟨old, he⟩, hit, hne⟩ := st
    obtain ⟨xs, hq, hx⟩ := hg
    obtain ⟨its, rv, isT, hz⟩ := I.tuple hq
    have isT' : s.heap.IsTuple a its.toArray := isT
    obtain ⟨f0, f1, f2, f3, f4, f5⟩ := hf it (by simp)
    have hl := rv.length
    have nx : its.toArray[i]? = none := by simp; omega
    have hT : s.TypeIs (.ref e) "enumerate" := ⟨_, he, rfl⟩
    show wpAny _ _ (pyNext (.ref e)) _ _ _
    unfold pyNext
    refine wpAny_bind (wpAny_attempt (wpAny_callSpecial?_slot (name := Str.ofString "__next__") hT F.slot_enumerate_next (wpAny_call_entry F.slot_enumerate_next hT F.entry_enumerate_next ?_ (F.args_enumerate_next_1 _))))
    show wpAny _ _ (field (.ref e) 2 >>= _) _ _ _
    refine wpAny_bind (wpAny_field he rfl (x := .ref it) rfl ?_)
    refine wpAny_bind (wpAny_nextOf_tuple_end (show X.A.in1.handled = none from I.ok.hd hc) hit isT' nx fun h' ex hs' hx' => ?_)
    obtain ⟨o, ho, hcl⟩ := hx'
    refine wpAny_bind (wpAny_isInstance (T := "StopIteration") (b := true) ⟨o, ho, hcl⟩ isSubtype_stop ?_)
    exact wpAny_pure ⟨rfl, I.turned (t' := s.toks) (fun b o hb q => hs' b o hb q) f0 f1 f3 f4 f5⟩
  self := fun A i s Q E st h => let ⟨⟨_, he⟩, _⟩ := st; wpAny_pyIter_enum he h
section
variable {X : Cx} {a : Expr} {fa : DE} {pos p : Pos}
end
end Dn
set_option Elab.async false
set_option linter.all false
set_option maxRecDepth 100000
set_option autoImplicit false
set_option maxHeartbeats 4000000
namespace Dn
open PySem L2 Evl PySem.Spec
section
variable {X : Cx} {a b c e : Expr} {fa fb fc : DE} {pos p : Pos} {es : List Expr} {x y : Str}
def MO.getL : MO → Option (List D)
  | .lst ds => some ds
  | .par _ m => m.getL
  | _ => none
def MO.putL : MO → List D → MO
  | .par p _, ds => .par p (.lst ds)
  | _, ds => .lst ds
theorem getL_rp {K : PySem.W.Frag} {G : Hp} : ∀ {m : MO} {o : HO} {ds : List D}, RpO K G m o → m.getL = some ds → ∃ vs, o = .lst vs ∧ RpAll K G vs ds
  | .lst ds, o, es, h, e => by
    cases e
    cases o <;> first | exact False.elim h | exact ⟨_, rfl, h⟩
  | .par _ m, o, es, h, e => getL_rp (m := m) (by unfold RpO at h; exact h) e
  | .dct _, o, es, h, e => by cases e
  | .rng _, o, es, h, e => by cases e
  | .dtu _, o, es, h, e => by cases e
  | .obj _ _, o, es, h, e => by cases e
theorem putL_rp {K : PySem.W.Frag} {G : Hp} {m : MO} {vs : List V} {ds : List D} (h : RpAll K G vs ds) : RpO K G (m.putL ds) (.lst vs) := by
  cases m <;> first | exact h | (unfold MO.putL RpO; exact h)
theorem putL_tag {K : PySem.W.Frag} {T : Addr → Prop} {ρ : Env} {σ : L2.St} {H : Hp} {i : Nat} {m : MO} {ds : List D} {p : Addr} (r : RS K T ρ σ H) (hm : ρ[i]? = some (some (SV.ow m))) (hp : σ[i]? = some (some (V.ref p))) : ∀ q m1, m.putL ds = .par q m1 → p = q := fun q m1 h => by
  cases m with
  | par q' m' => cases h; exact r.tag i _ _ p hm hp
  | _ => cases h
def atO (ρ : Env) (i : Nat) : Option (List D) := match ρ[i]? with
  | some (some (.ow m)) => m.getL
  | _ => none
def setO (ρ : Env) (i : Nat) (ds : List D) : Env := match ρ[i]? with
  | some (some (.ow m)) => ρ.set i (some (.ow (m.putL ds)))
  | _ => ρ
theorem atO_some {ρ : Env} {i : Nat} {ds : List D} (h : atO ρ i = some ds) : ∃ m, ρ[i]? = some (some (SV.ow m)) ∧ m.getL = some ds := by
  unfold atO at h
  split at h
  · exact ⟨_, by assumption, h⟩
  · cases h
theorem RS.atO {K : PySem.W.Frag} {T : Addr → Prop} {ρ : Env} {σ : L2.St} {H : Hp} {i : Nat} {ds : List D} (r : RS K T ρ σ H) (h : Dn.atO ρ i = some ds) : ∃ m q vs, ρ[i]? = some (some (SV.ow m)) ∧ σ[i]? = some (some (V.ref q)) ∧ H q = some (.lst vs) ∧ RpAll K (hide (Hd T ρ σ) H) vs ds := by
  obtain ⟨m, hm, hg⟩ := atO_some h
  obtain ⟨q, o, h1, h2, h3⟩ := r.ow i m hm
  obtain ⟨vs, rfl, h4⟩ := getL_rp h3 hg
  exact ⟨m, q, vs, hm, h1, h2, h4⟩
theorem RS.setO {K : PySem.W.Frag} {T : Addr → Prop} {ρ : Env} {σ : L2.St} {H : Hp} {i : Nat} {m : MO} {q : Addr} {vs : List V} {ds : List D} (r : RS K T ρ σ H) (hm : ρ[i]? = some (some (SV.ow m))) (hq : σ[i]? = some (some (V.ref q))) (h : RpAll K (hide (Hd T ρ σ) H) vs ds) :
    RS K T (Dn.setO ρ i ds) σ (upd H q (.lst vs)) ∧ Po ρ σ H (Dn.setO ρ i ds) σ (upd H q (.lst vs)) := by
  unfold Dn.setO
  rw [hm]
  exact ⟨r.write hm hq (putL_rp h) (putL_tag r hm hq), .write hm hq⟩
def dIxP (i : Nat) (fb : DE) : DE := fun ρ Q => (atO ρ i).isSome = true ∧ fb ρ fun y ρ1 => ∃ ds j d, atO ρ1 i = some ds ∧ y = .int j ∧ atI ds j = some d ∧ Q d ρ1
theorem je_ixP {i : Nat} {px : Pos} (hN : X.N[i]? = some x) (hv : Vis X.env.scope x) (hb : JE X b fb) (hs : PlainIx b := by exact fun _ _ => rfl) (hd : (x == ("__debug__" : Str)) = false := by decide) (hcd : (x == ("__classdict__" : Str)) = false := by decide) :
    JE X (.Subscript (.Name x px) b pos) (dIxP i fb) := by
  obtain ⟨tb, pb, kb⟩ := hb.ex
  refine ⟨_, pe_ix ix_list (pe_var hN hv hd hcd) pb hs, fun T ρ σ H QD Q r h q => ?_⟩
  obtain ⟨h0, h⟩ := h
  obtain ⟨ds0, h0⟩ := Option.isSome_iff_exists.mp h0
  obtain ⟨m, l, vs, _, hl, _, _⟩ := r.atO h0
  refine ⟨_, hl, kb T ρ σ H _ _ r h fun y ρ1 v H1 r1 p1 v1 h => ?_⟩
  obtain ⟨ds, j, d, h1, rfl, h2, h3⟩ := h
  obtain ⟨m', l', vs', _, hl', ho', hr'⟩ := r1.atO h1
  rw [hl] at hl'; cases hl'
  obtain ⟨u, h4, h5⟩ := atI_rp hr' h2
  cases v1
  exact ⟨_, _, _, _, rfl, rfl, .inl (.inl ho'), h4, q _ _ _ _ r1 p1 h5 h3⟩
def sSub (i : Nat) (fi fe : DE) : DS := fun E ρ => fe ρ fun d ρ1 => (atO ρ1 i).isSome = true ∧ fi ρ1 fun k ρ2 => ∃ ds j m, atO ρ2 i = some ds ∧ k = .int j ∧ ixN ds.length j = some m ∧ E.nx (setO ρ2 i (ds.set m d))
theorem js_sub {i : Nat} {px ps : Pos} {f1 f2 : DE} (hN : X.N[i]? = some x) (hv : Vis X.env.scope x) (hi : JE X b f1) (he : JE X e f2) (hd : (x == ("__debug__" : Str)) = false := by decide) (hcd : (x == ("__classdict__" : Str)) = false := by decide)
    (ha : ∀ v, assign (.Subscript (.Name x px) b ps) X.env v = (do
      let ov ← holding [v] (eval (.Name x px) X.env); let iv ← holding [v, ov] (eval b X.env); standAt ps; holding [v, ov, iv] (setItem ov iv v); release [v, ov, iv] []) := by intro _; rfl)
    (hs : swapsWithSole [.Subscript (.Name x px) b ps] e pos.line X.env = pure false := by rfl) (hw : swappedStores [.Subscript (.Name x px) b ps] e X.env = pure none := by rfl) (h1 : (assignEach [.Subscript (.Name x px) b ps] X.env).map (·.2) = [assign (.Subscript (.Name x px) b ps) X.env] := by rfl) :
    JS X (.Assign [.Subscript (.Name x px) b ps] e pos) (sSub i f1 f2) := by
  obtain ⟨t1, p1, k1⟩ := hi.ex
  obtain ⟨t2, p2, k2⟩ := he.ex
  refine ⟨_, ps_asg p2 (pg_sub (pe_var hN hv hd hcd) p1 set_list ha) hs hw h1, fun T ρ σ H E D r h k => k2 T ρ σ H _ _ r h fun d ρ1 v H1 r1 q1 v1 h => ?_⟩
  obtain ⟨h0, h⟩ := h
  obtain ⟨ds0, h0⟩ := Option.isSome_iff_exists.mp h0
  obtain ⟨m, l, vs, _, hl, _, _⟩ := r1.atO h0
  refine ⟨_, hl, k1 T ρ1 σ H1 _ _ r1 h fun kk ρ2 w H2 r2 q2 v2 h => ?_⟩
  obtain ⟨ds, j, n, h2, rfl, h3, h4⟩ := h
  obtain ⟨m', l', vs', hm', hl', ho', hr'⟩ := r2.atO h2
  rw [hl] at hl'; cases hl'
  cases v2
  obtain ⟨r3, q3⟩ := r2.setO hm' hl (hr'.set n (v1.monoW q2.fz))
  exact ⟨l, vs', j, n, rfl, rfl, ho', by rw [hr'.length]; exact h3, k.nx _ _ _ r3 ((q1.trans q2).trans q3) h4⟩
def dApp (i : Nat) (f : DE) : DE := fun ρ Q => (atO ρ i).isSome = true ∧ f ρ fun d ρ1 => ∃ ds, atO ρ1 i = some ds ∧ ds.length < 16777216 ∧ Q .none (setO ρ1 i (ds ++ [d]))
theorem je_app {i : Nat} {px pa pc : Pos} (hN : X.N[i]? = some x) (hv : Vis X.env.scope x) (he : JE X e fa) (hd : (x == ("__debug__" : Str)) = false := by decide) (hcd : (x == ("__classdict__" : Str)) = false := by decide)
    (hbase : attributeBase (.Name x px) "append" X.env (eval (.Name x px) X.env) = eval (.Name x px) X.env := by rfl)
    (hfew : ((backTo pc (starEach [e] X.env)).all (fun x => !x.1) && (backToKw pc (keywordEach [] X.env)).all (fun x => x.1.isSome) && decide ([e].length + ([] : List Keyword).length + (if ([] : List Keyword).isEmpty then 0 else 1) < 30)) = true := by rfl)
    (hline : (pa.endLine == pc.line) = true := by rfl) (hs : starEach [e] X.env = (false, eval e X.env) :: starEach [] X.env := by rfl) : JE X (.Call (.Attribute (.Name x px) "append" pa) [e] [] pc) (dApp i fa) := by
  obtain ⟨t, pt, kt⟩ := he.ex
  refine ⟨_, pe_bm PySem.F.plainAttrs_list PySem.F.slot_list_append PySem.F.type_list_append mt_append (pe_var hN hv hd hcd) (pa_cons pt pa_nil hs) hbase hfew hline hs, fun T ρ σ H QD Q r h q => ?_⟩
  obtain ⟨h0, h⟩ := h
  obtain ⟨ds0, h0⟩ := Option.isSome_iff_exists.mp h0
  obtain ⟨m, l, vs, _, hl, ho, _⟩ := r.atO h0
  refine ⟨_, hl, .inl ⟨rfl, _, .inl (.inl ho)⟩, kt T ρ σ H _ _ r h fun d ρ1 v H1 r1 p1 v1 h => ?_⟩
  obtain ⟨ds, h1, hz, h2⟩ := h
  obtain ⟨m', l', vs', hm', hl', ho', hr'⟩ := r1.atO h1
  rw [hl] at hl'; cases hl'
  obtain ⟨r3, q3⟩ := r1.setO hm' hl (hr'.append (.cons v1 .nil))
  exact ⟨l, vs', v, rfl, rfl, ho', by rw [hr'.length]; exact hz, q _ _ _ _ r3 (p1.trans q3) .non h2⟩
def dExt (i : Nat) (f : DE) : DE := fun ρ Q => (atO ρ i).isSome = true ∧ f ρ fun d ρ1 => ∃ ds es, atO ρ1 i = some ds ∧ d = .list es ∧ ds.length + es.length ≤ 16777216 ∧ Q .none (setO ρ1 i (ds ++ es))
theorem je_ext {i : Nat} {px pa pc : Pos} (hN : X.N[i]? = some x) (hv : Vis X.env.scope x) (he : JE X e fa) (hd : (x == ("__debug__" : Str)) = false := by decide) (hcd : (x == ("__classdict__" : Str)) = false := by decide)
    (hbase : attributeBase (.Name x px) "extend" X.env (eval (.Name x px) X.env) = eval (.Name x px) X.env := by rfl)
    (hfew : ((backTo pc (starEach [e] X.env)).all (fun x => !x.1) && (backToKw pc (keywordEach [] X.env)).all (fun x => x.1.isSome) && decide ([e].length + ([] : List Keyword).length + (if ([] : List Keyword).isEmpty then 0 else 1) < 30)) = true := by rfl)
    (hline : (pa.endLine == pc.line) = true := by rfl) (hs : starEach [e] X.env = (false, eval e X.env) :: starEach [] X.env := by rfl) : JE X (.Call (.Attribute (.Name x px) "extend" pa) [e] [] pc) (dExt i fa) := by
  obtain ⟨t, pt, kt⟩ := he.ex
  refine ⟨_, pe_bm PySem.F.plainAttrs_list PySem.F.slot_list_extend PySem.F.type_list_extend mt_extend (pe_var hN hv hd hcd) (pa_cons pt pa_nil hs) hbase hfew hline hs, fun T ρ σ H QD Q r h q => ?_⟩
  obtain ⟨h0, h⟩ := h
  obtain ⟨ds0, h0⟩ := Option.isSome_iff_exists.mp h0
  obtain ⟨m, l, vs, _, hl, ho, _⟩ := r.atO h0
  refine ⟨_, hl, .inl ⟨rfl, _, .inl (.inl ho)⟩, kt T ρ σ H _ _ r h fun d ρ1 v H1 r1 p1 v1 h => ?_⟩
  obtain ⟨ds, es, h1, rfl, hz, h2⟩ := h
  obtain ⟨m', l', vs', hm', hl', ho', hr'⟩ := r1.atO h1
  rw [hl] at hl'; cases hl'
  cases v1 with
  | lst hp rr =>
    obtain ⟨r3, q3⟩ := r1.setO hm' hl (hr'.append rr)
    exact ⟨l, _, vs', _, rfl, rfl, ho', at_of hp, by rw [hr'.length, rr.length]; exact hz, q _ _ _ _ r3 (p1.trans q3) .non h2⟩
def dPopAt (i : Nat) (f : DE) : DE := fun ρ Q => (atO ρ i).isSome = true ∧ f ρ fun k ρ1 => ∃ ds j n d, atO ρ1 i = some ds ∧ k = .int j ∧ 0 ≤ j ∧ j < ds.length ∧ n = j.toNat ∧ ds[n]? = some d ∧ ds.length ≤ 1000000 ∧ Q d (setO ρ1 i (ds.eraseIdx n))
theorem je_popAt {i : Nat} {px pa pc : Pos} (hN : X.N[i]? = some x) (hv : Vis X.env.scope x) (he : JE X e fa) (hd : (x == ("__debug__" : Str)) = false := by decide) (hcd : (x == ("__classdict__" : Str)) = false := by decide)
    (hbase : attributeBase (.Name x px) "pop" X.env (eval (.Name x px) X.env) = eval (.Name x px) X.env := by rfl)
    (hfew : ((backTo pc (starEach [e] X.env)).all (fun x => !x.1) && (backToKw pc (keywordEach [] X.env)).all (fun x => x.1.isSome) && decide ([e].length + ([] : List Keyword).length + (if ([] : List Keyword).isEmpty then 0 else 1) < 30)) = true := by rfl)
    (hline : (pa.endLine == pc.line) = true := by rfl) (hs : starEach [e] X.env = (false, eval e X.env) :: starEach [] X.env := by rfl) : JE X (.Call (.Attribute (.Name x px) "pop" pa) [e] [] pc) (dPopAt i fa) := by
  obtain ⟨t, pt, kt⟩ := he.ex
  refine ⟨_, pe_bm PySem.F.plainAttrs_list PySem.F.slot_list_pop PySem.F.type_list_pop mt_popAt (pe_var hN hv hd hcd) (pa_cons pt pa_nil hs) hbase hfew hline hs, fun T ρ σ H QD Q r h q => ?_⟩
  obtain ⟨h0, h⟩ := h
  obtain ⟨ds0, h0⟩ := Option.isSome_iff_exists.mp h0
  obtain ⟨m, l, vs, _, hl, ho, _⟩ := r.atO h0
  refine ⟨_, hl, .inl ⟨rfl, _, .inl (.inl ho)⟩, kt T ρ σ H _ _ r h fun d ρ1 v H1 r1 p1 v1 h => ?_⟩
  obtain ⟨ds, j, n, z, h1, rfl, j0, jl, hn, hz, hlen, h2⟩ := h
  obtain ⟨m', l', vs', hm', hl', ho', hr'⟩ := r1.atO h1
  rw [hl] at hl'; cases hl'
  cases v1
  obtain ⟨u, hu, ru⟩ := hr'.get hz
  obtain ⟨r3, q3⟩ := r1.setO hm' hl (hr'.erase n)
  have ix : seqIndex? j vs'.length = some n := by
    have hx : ixN vs'.length j = some n := by
      unfold ixN
      rw [if_pos j0, if_pos (by rw [hr'.length]; exact jl), hn]
    exact (ixN_seq hx).1
  exact ⟨l, vs', j, n, u, rfl, rfl, ho', by omega, by omega, ix, hu, q _ _ _ _ r3 (p1.trans q3) (ru.monoW q3.fz) h2⟩
def dVarF (i : Nat) : DE := fun ρ Q => match ρ[i]? with
  | some (some (.ow (.lst ds))) => Q (.list ds) (ρ.set i (some (.im (.list ds))))
  | _ => False
theorem je_varF {i : Nat} (hN : X.N[i]? = some x) (hv : Vis X.env.scope x) (hd : (x == ("__debug__" : Str)) = false := by decide) (hcd : (x == ("__classdict__" : Str)) = false := by decide) : JE X (.Name x pos) (dVarF i) := by
  refine ⟨_, pe_var hN hv hd hcd, fun T ρ σ H QD Q r h q => ?_⟩
  unfold dVarF at h
  split at h
  · rename_i ds e1
    have rf := r.freeze e1
    obtain ⟨v, hv, rv⟩ := rf.im i (.list ds) (List.getElem?_set_self (List.getElem?_eq_some_iff.mp e1).1)
    exact ⟨v, hv, q _ _ _ _ rf .freeze rv h⟩
  · exact False.elim h
def dIn (neg : Bool) : D → D → (D → Prop) → Prop := fun x y Q => ∃ ds, seqD y = some ds ∧ isSc x = true ∧ ds.all isSc = true ∧ Q (.bool (if neg then !(ds.any fun z => PyData.eqv z x) else ds.any fun z => PyData.eqv z x))
theorem flat_sc {K : PySem.W.Frag} {G : Hp} {v : V} {d : D} (r : Rp K G v d) (h : isSc d = true) : flatV v = true := by cases r <;> first | rfl | (simp [isSc] at h; done)
theorem flat_all {K : PySem.W.Frag} {G : Hp} : ∀ {vs : List V} {ds : List D}, RpAll K G vs ds → ds.all isSc = true → vs.all flatV = true
  | _, _, .nil, _ => rfl
  | _, _, .cons h r, c => by
    rw [List.all_cons, Bool.and_eq_true] at c ⊢
    exact ⟨flat_sc h c.1, flat_all r c.2⟩
theorem eqV_rp {K : PySem.W.Frag} {G G' : Hp} {v u : V} {d e : D} (r : Rp K G v d) (s : Rp K G' u e) (h1 : isSc d = true) (h2 : isSc e = true) : eqV v u = PyData.eqv d e := by
  cases r <;> first | (simp [isSc] at h1; done) | skip
  all_goals cases s <;> first | (simp [isSc] at h2; done) | simp [eqV, PyData.eqv]
theorem inV_rp {K : PySem.W.Frag} {G G' : Hp} {x : V} {d : D} (s : Rp K G' x d) (h1 : isSc d = true) : ∀ {vs : List V} {ds : List D}, RpAll K G vs ds → ds.all isSc = true → inV x vs = ds.any fun z => PyData.eqv z d
  | _, _, .nil, _ => rfl
  | _, _, .cons h r, c => by
    rw [List.all_cons, Bool.and_eq_true] at c
    show (eqV _ _ || inV _ _) = (_ || _)
    rw [eqV_rp h s c.1 h1, inV_rp s h1 r c.2]
theorem opd_notin : OpD X (compareOp .NotIn) (dIn true) := by
  refine ⟨_, op_notIn_seq, fun O H x y d e QD Q hO rx ry h k => ?_⟩
  obtain ⟨ds, h1, h2, h3, h4⟩ := h
  obtain ⟨q, xs, rfl, hs, rr⟩ := seq_rp ry h1
  exact ⟨_, _, rfl, hs, flat_sc rx h2, flat_all rr h3, k _ _ H (.refl H) (.bl _) (by rw [inV_rp rx h2 rr h3]; exact h4)⟩
theorem je_dict0 : JE X (.Dict [] [] pos) (dC (.dict [])) := by
  refine ⟨_, pe_dnewK, fun T ρ σ H QD Q r h q => ?_⟩
  intro l hl
  exact q _ _ _ _ (r.grow (Ex.new hl)) (.grow (Ex.new hl)) (.dct (hide_new (fun a => r.hdDom) hl) .nil rfl) h
end
end Dn
set_option Elab.async false
set_option linter.all false
set_option maxRecDepth 100000
set_option autoImplicit false
set_option maxHeartbeats 4000000
namespace Dn
open PySem L2 Evl PySem.Spec PyProof.Rows
def spD (K : PySem.W.Frag) (n : Nat) (S : List D → (D → Prop) → Prop) : Sp := fun vs H Q _ => vs.length = n ∧ ∃ (T : Addr → Prop) (ds : List D) (QD : D → Prop), (∀ a, T a → Lv H a) ∧ RpAll K (hide T H) vs ds ∧ TbOk K H ∧ S ds QD ∧
  ∀ v d H', QD d → ExG K H H' → Rp K (hide T H') v d → Q v H'
def spM (K : PySem.W.Frag) (n : Nat) (S : List D → List D → (D → List D → Prop) → Prop) : Sp := fun vs H Q _ => vs.length = n ∧ ∃ (T : Addr → Prop) (l : Addr) (us : List V) (ws : List V) (ms : List D) (ds : List D) (QD : D → List D → Prop),
  vs = .ref l :: us ∧ (∀ a, T a → Lv H a) ∧ ¬ T l ∧ H l = some (.lst ws) ∧ RpAll K (hide (plus T l) H) ws ms ∧ RpAll K (hide (plus T l) H) us ds ∧ TbOk K H ∧ S ms ds QD ∧
  ∀ v d ms' ws' H', QD d ms' → ExL K l H H' → H' l = some (.lst ws') → RpAll K (hide (plus T l) H') ws' ms' → Rp K (hide (plus T l) H') v d → Q v H'
section
variable {X : Cx} {a b c e : Expr} {fa fb fc : DE} {pos p : Pos} {es : List Expr} {x y : Str} {k : Nat} {f : Addr} {fd : FuncData} {ps : List Str} {n : Nat}
def dCallF (n : Nat) (S : List D → (D → Prop) → Prop) (g : DA) : DE := fun ρ Q => g ρ fun ds ρ1 => ds.length = n ∧ S ds fun z => Q z ρ1
theorem spD_of {K : PySem.W.Frag} {T : Addr → Prop} {ρ0 ρ : Env} {σ : L2.St} {H0 H : Hp} {vs : List V} {ds : List D} {S : List D → (D → Prop) → Prop} {QD : D → Env → Prop} {Q : VK} {E : XK} (r : RS K T ρ σ H) (q : Po ρ0 σ H0 ρ σ H) (rv : RpAll K (hide (Hd T ρ σ) H) vs ds) (hn : ds.length = n) (h : S ds fun z => QD z ρ)
    (k : ∀ d ρ' v H', RS K T ρ' σ H' → Po ρ0 σ H0 ρ' σ H' → Rp K (hide (Hd T ρ' σ) H') v d → QD d ρ' → Q v H') : spD K n S vs H Q E :=
  ⟨by rw [rv.length, hn], Hd T ρ σ, ds, _, fun a => r.hdLv, rv, r.tb, h, fun v d H' hq e r2 => k d ρ v H' (r.growE e) (q.trans (.growE e)) r2 hq⟩
theorem je_call {S : List D → (D → Prop) → Prop} {g : DA} (F : FnOk X.prog X.w X.K X.mg X.base L2.CX0 k f fd ps (spD X.K n S)) (hr : Room k X.A) (hm : X.mg x = some (.ref f)) (hk : PySem.W.keepIn X.K (.ref f) = true) (hb : Binds X.K fd ps []) (ha : JA X (e :: es) g) (hg : Gl X x := by rfl)
    (hdb : (x == ("__debug__" : Str)) = false := by decide) (he : starEach (e :: es) X.env = (false, eval e X.env) :: starEach es X.env := by rfl) (hpl : (backTo pos (starEach es X.env)).any (·.1) = false := by rfl) : JE X (.Call (.Name x p) (e :: es) [] pos) (dCallF n S g) := by
  obtain ⟨t, pa, ka⟩ := ha.ex
  refine ⟨_, pe_call F hr hg hm hk hb .nil (E := fun _ _ _ => False) (fun _ _ _ _ _ _ _ h => h.elim) pa hdb he hpl, fun T ρ σ H QD Q r h q => ka T ρ σ H _ _ r h fun ds ρ1 vs H1 r1 p1 v1 h => ?_⟩
  rw [List.append_nil]
  exact spD_of r1 p1 v1 h.1 h.2 q
theorem je_call0 {S : List D → (D → Prop) → Prop} (F : FnOk X.prog X.w X.K X.mg X.base L2.CX0 k f fd ps (spD X.K n S)) (hr : Room k X.A) (hm : X.mg x = some (.ref f)) (hk : PySem.W.keepIn X.K (.ref f) = true) (hb : Binds X.K fd ps []) (hg : Gl X x := by rfl)
    (hdb : (x == ("__debug__" : Str)) = false := by decide) : JE X (.Call (.Name x p) [] [] pos) (dCallF n S aNil) := by
  refine ⟨_, pe_call0 F hr hg hm hk hb .nil (E := fun _ _ _ => False) (fun _ _ _ _ _ _ _ h => h.elim) hdb, fun T ρ σ H QD Q r h q => ?_⟩
  exact spD_of (E := fun _ _ _ => False) r .refl .nil h.1 h.2 q
def dCallM (i n : Nat) (S : List D → List D → (D → List D → Prop) → Prop) (g : DA) : DE := fun ρ Q => (atO ρ i).isSome = true ∧ g ρ fun ds ρ1 => ds.length + 1 = n ∧ ∃ ms, atO ρ1 i = some ms ∧ S ms ds fun d ms' => Q d (setO ρ1 i ms')
theorem plus_hd {T : Addr → Prop} {ρ : Env} {σ : L2.St} {l a : Addr} {i : Nat} {m : MO} (hm : ρ[i]? = some (some (SV.ow m))) (hl : σ[i]? = some (some (V.ref l))) (h : plus (fun a => Hd T ρ σ a ∧ a ≠ l) l a) : Hd T ρ σ a := by
  rcases h with h | h
  · subst h; exact .inr ⟨i, m, hm, hl⟩
  · exact h.1
theorem hd_plus {T : Addr → Prop} {ρ : Env} {σ : L2.St} {l a : Addr} (h : Hd T ρ σ a) : plus (fun a => Hd T ρ σ a ∧ a ≠ l) l a := by
  by_cases e : a = l
  · exact .inl e
  · exact .inr ⟨h, e⟩
theorem je_callM {i : Nat} {px : Pos} {S : List D → List D → (D → List D → Prop) → Prop} {g : DA} (F : FnOk X.prog X.w X.K X.mg X.base L2.CX0 k f fd ps (spM X.K n S)) (hr : Room k X.A) (hm : X.mg x = some (.ref f)) (hk : PySem.W.keepIn X.K (.ref f) = true) (hb : Binds X.K fd ps [])
    (hN : X.N[i]? = some y) (hv : Vis X.env.scope y) (ha : JA X es g) (hg : Gl X x := by rfl) (hd : (y == ("__debug__" : Str)) = false := by decide) (hcd : (y == ("__classdict__" : Str)) = false := by decide)
    (hdb : (x == ("__debug__" : Str)) = false := by decide) (he : starEach (Expr.Name y px :: es) X.env = (false, eval (Expr.Name y px) X.env) :: starEach es X.env := by rfl) (hpl : (backTo pos (starEach es X.env)).any (·.1) = false := by rfl) : JE X (.Call (.Name x p) (.Name y px :: es) [] pos) (dCallM i n S g) := by
  obtain ⟨t, pa, ka⟩ := ha.ex
  refine ⟨_, pe_call F hr hg hm hk hb .nil (E := fun _ _ _ => False) (fun _ _ _ _ _ _ _ h => h.elim) (pa_cons (pe_var hN hv hd hcd) pa he) hdb he hpl, fun T ρ σ H QD Q r h q => ?_⟩
  obtain ⟨h0, h⟩ := h
  obtain ⟨ds0, h0⟩ := Option.isSome_iff_exists.mp h0
  obtain ⟨m, l, vs, _, hl, _, _⟩ := r.atO h0
  refine ⟨_, hl, ka T ρ σ H _ _ r h fun ds ρ1 us H1 r1 p1 v1 h => ?_⟩
  obtain ⟨hn, ms, h1, h⟩ := h
  obtain ⟨m', l', ws, hm', hl', ho', hr'⟩ := r1.atO h1
  rw [hl] at hl'; cases hl'
  rw [List.append_nil]
  have e1 : Ex (hide (Hd T ρ1 σ) H1) (hide (plus (fun a => Hd T ρ1 σ a ∧ a ≠ l) l) H1) := hide_sub fun a w => plus_hd hm' hl w
  refine ⟨by simp [v1.length, hn], fun a => Hd T ρ1 σ a ∧ a ≠ l, l, us, ws, ms, ds, _, rfl, fun a w => r1.hdLv w.1, fun w => w.2 rfl, ho', hr'.mono e1, v1.mono e1, r1.tb, h, fun v d ms' ws' H' hq kp hl2 rm rv => ?_⟩
  -- the heap behind the call, as if the list had been written at once
  have e2 : Ex (hide (plus (fun a => Hd T ρ1 σ a ∧ a ≠ l) l) H') (hide (Hd T ρ1 σ) (upd H' l (.lst ws'))) := fun a o w => by
    obtain ⟨w1, w2⟩ := hide_some.1 w
    exact hide_some.2 ⟨fun z => w1 (hd_plus z), by rw [upd_ne (fun z => w1 (.inl z))]; exact w2⟩
  have back : upd H' l (.lst ws') = H' := by
    funext a
    by_cases z : a = l
    · subst z; rw [upd_same, hl2]
    · rw [upd_ne z]
  -- first the rest of the heap grows, then the list is written
  let Hm : Hp := fun a => if a = l then some (.lst ws) else H' a
  have eM : ExG X.K H1 Hm := ⟨⟨fun a o w nt => by
    show (if a = l then _ else _) = _
    by_cases z : a = l
    · subst z; rw [if_pos rfl, ← ho', w]
    · rw [if_neg z]; exact kp.k a o z w nt, fun a w => by
    show (if a = l then _ else _) ≠ _
    by_cases z : a = l
    · subst z; rw [if_pos rfl]; simp
    · rw [if_neg z]; exact kp.d a w⟩, fun tb => (kp.t tb).keep fun b o x w => by
    show (if b = l then _ else _) = _
    by_cases z : b = l
    · subst z; rw [hl2] at w; cases w; exact x.elim
    · rw [if_neg z]; exact w⟩
  have rM := r1.growE eM
  have uM : upd Hm l (.lst ws') = H' := by
    funext a
    by_cases z : a = l
    · subst z; rw [upd_same, hl2]
    · rw [upd_ne z]; show (if a = l then _ else _) = _; rw [if_neg z]
  have e3 : Ex (hide (plus (fun a => Hd T ρ1 σ a ∧ a ≠ l) l) H') (hide (Hd T ρ1 σ) Hm) := fun a o w => by
    obtain ⟨w1, w2⟩ := hide_some.1 w
    refine hide_some.2 ⟨fun z => w1 (hd_plus z), ?_⟩
    show (if a = l then _ else _) = _
    rw [if_neg (fun z => w1 (.inl z))]; exact w2
  obtain ⟨r3, q3⟩ := rM.setO hm' hl (rm.mono e3)
  rw [uM] at r3 q3
  have pM : Po ρ σ H ρ1 σ Hm := p1.trans (.growE eM)
  exact q d _ v H' r3 (pM.trans q3) ((rv.mono e3).monoW q3.fz) hq
def envD (ds : List D) (m : Nat) : Env := ds.map (fun d => some (SV.im d)) ++ List.replicate m none
theorem envD_get {ds : List D} {m i : Nat} {sv : SV} (h : (envD ds m)[i]? = some (some sv)) : ∃ d, ds[i]? = some d ∧ sv = .im d := by
  unfold envD at h
  rw [List.getElem?_append] at h
  split at h
  · rw [List.getElem?_map] at h
    obtain ⟨d, h1, h2⟩ := Option.map_eq_some_iff.mp h
    cases h2
    exact ⟨d, h1, rfl⟩
  · rw [List.getElem?_replicate] at h
    split at h <;> cases h
theorem envD_len {ds : List D} {m : Nat} : (envD ds m).length = ds.length + m := by unfold envD; simp
theorem start_get {N : List Str} {vs : List V} {i : Nat} {v : V} (h : vs[i]? = some v) : (L2.start N vs)[i]? = some (some v) := by
  unfold L2.start
  have hi := (List.getElem?_eq_some_iff.mp h).1
  rw [List.getElem?_append_left (by simp; exact hi), List.getElem?_map, h]
  rfl
theorem fn_D {P : Program} {w : World} {K : PySem.W.Frag} {mg : Str → Option Value} {base : Heap} {name qual : Str} {params : Arguments} {body : List Stmt} {scope : Scope} {N : List Str} {S : List D → (D → Prop) → Prop} {g : DS} (F : FunD K name qual params body scope [] [] f fd) (Sc : FnScope N ps scope)
    (hb : ∀ (cdv : Value) (A : Around) (outer : List PySem.Env) (s : Shared) (H : Hp) (E : XK), Room k (A.deeper (envOfC qual scope s.heap.objs.size f cdv)) → JSs (cxOf L2.CX0 P w K mg base N qual scope f cdv A outer s H E).nox body g)
    (hS : ∀ (ds : List D) (Q : D → Prop), ds.length = ps.length → S ds Q → g { nx := fun _ => Q .none, rt := fun d _ => Q d } (envD ds (N.length - ps.length))) : FnOk P w K mg base L2.CX0 (k + 1) f fd ps (spD K ps.length S) := by
  refine F.ok Sc (fun vs H Q E h => h.1) (fun cdv A outer s H vs Q E hr h => ?_)
  obtain ⟨t, pt, kt⟩ := (hb cdv A outer s H E hr).ex
  refine ⟨t, PSs.nox pt, ?_⟩
  obtain ⟨hl, T, ds, QD, hT, rv, tb, hs, hq⟩ := h
  have hl2 : ds.length = ps.length := by rw [← rv.length, hl]
  have no : ∀ a, ¬ Own (envD ds (N.length - ps.length)) (L2.start N vs) a := fun a ⟨i, m, h1, _⟩ => by
    obtain ⟨d, _, z⟩ := envD_get h1
    cases z
  have e0 : Ex (hide T H) (hide (Hd T (envD ds (N.length - ps.length)) (L2.start N vs)) H) := hide_sub fun a w => w.elim id fun w => (no a w).elim
  have r0 : RS K T (envD ds (N.length - ps.length)) (L2.start N vs) H := by
    refine ⟨?_, fun i d h => ?_, fun i m h => ?_, fun i j m m' a h1 _ _ _ => ?_, fun a _ => no a, hT, fun i q m a h1 _ => ?_, tb⟩
    · rw [envD_len]; unfold L2.start; simp [hl, hl2]
    · obtain ⟨d', h1, z⟩ := envD_get h
      cases z
      obtain ⟨v, h2, h3⟩ := rv.get h1
      exact ⟨v, start_get h2, h3.mono e0⟩
    · obtain ⟨d, _, z⟩ := envD_get h; cases z
    · obtain ⟨d, _, z⟩ := envD_get h1; cases z
    · obtain ⟨d, _, z⟩ := envD_get h1; cases z
  have kp : ∀ {ρ' : Env} {σ' : L2.St} {H' : Hp}, Po (envD ds (N.length - ps.length)) (L2.start N vs) H ρ' σ' H' → Exw H H' := fun q => ⟨fun a o h nt => q.keep a o (no a) h nt, q.dom⟩
  refine kt T _ _ H _ _ r0 (hS ds QD hl2 hs) ⟨fun ρ' σ' H' r q h => hq .non .none H' h ⟨kp q, fun _ => r.tb⟩ .non, fun d ρ' σ' v H' r q rv h => hq v d H' h ⟨kp q, fun _ => r.tb⟩ (rv.mono (hide_sub fun a w => .inl w)), fun _ _ _ _ _ h => h.elim, fun _ _ _ _ _ h => h.elim, fun _ _ _ _ _ _ _ h => h.elim⟩
theorem fn_M {P : Program} {w : World} {K : PySem.W.Frag} {mg : Str → Option Value} {base : Heap} {name qual : Str} {params : Arguments} {body : List Stmt} {scope : Scope} {N : List Str} {S : List D → List D → (D → List D → Prop) → Prop} {g : DS} (F : FunD K name qual params body scope [] [] f fd) (Sc : FnScope N ps scope)
    (hb : ∀ (cdv : Value) (A : Around) (outer : List PySem.Env) (s : Shared) (H : Hp) (E : XK), Room k (A.deeper (envOfC qual scope s.heap.objs.size f cdv)) → JSs (cxOf L2.CX0 P w K mg base N qual scope f cdv A outer s H E).nox body g)
    (hS : ∀ (l : Addr) (ms ds : List D) (Q : D → List D → Prop), ds.length + 1 = ps.length → S ms ds Q → g { nx := fun ρ => ∃ ms', ρ[0]? = some (some (.ow (.par l (.lst ms')))) ∧ Q .none ms', rt := fun d ρ => ∃ ms', ρ[0]? = some (some (.ow (.par l (.lst ms')))) ∧ Q d ms' } (some (.ow (.par l (.lst ms))) :: envD ds (N.length - ps.length))) :
    FnOk P w K mg base L2.CX0 (k + 1) f fd ps (spM K ps.length S) := by
  refine F.ok Sc (fun vs H Q E h => h.1) (fun cdv A outer s H vs Q E hr h => ?_)
  obtain ⟨t, pt, kt⟩ := (hb cdv A outer s H E hr).ex
  refine ⟨t, PSs.nox pt, ?_⟩
  obtain ⟨hl, T, l, us, ws, ms, ds, QD, rfl, hT, nT, ho, rm, rv, tb, hs, hq⟩ := h
  have hl1 : us.length + 1 = ps.length := by simpa using hl
  have hl2 : ds.length + 1 = ps.length := by rw [← rv.length, hl1]
  generalize hρ : (some (SV.ow (.par l (.lst ms))) :: envD ds (N.length - ps.length) : Env) = ρ0
  have g0 : ∀ (i : Nat) (sv : SV), ρ0[i]? = some (some sv) → (i = 0 ∧ sv = .ow (.par l (.lst ms))) ∨ ∃ j d, i = j + 1 ∧ ds[j]? = some d ∧ sv = .im d := fun i sv h => by
    subst hρ
    cases i with
    | zero => simp at h; exact .inl ⟨rfl, h.symm⟩
    | succ j =>
      obtain ⟨d, h1, h2⟩ := envD_get (show (envD ds (N.length - ps.length))[j]? = _ by simpa using h)
      exact .inr ⟨j, d, rfl, h1, h2⟩
  have s0 : (L2.start N (.ref l :: us))[0]? = some (some (V.ref l)) := start_get rfl
  have own : ∀ a, Own ρ0 (L2.start N (.ref l :: us)) a → a = l := fun a ⟨i, m, h1, h2⟩ => by
    rcases g0 i _ h1 with ⟨rfl, _⟩ | ⟨_, _, _, _, z⟩
    · rw [s0] at h2; cases h2; rfl
    · cases z
  have e0 : Ex (hide (plus T l) H) (hide (Hd T ρ0 (L2.start N (.ref l :: us))) H) := hide_sub fun a w => w.elim .inr fun w => .inl (own a w)
  have r0 : RS K T ρ0 (L2.start N (.ref l :: us)) H := by
    refine ⟨?_, fun i d h => ?_, fun i m h => ?_, fun i j m m' a h1 h2 _ _ => ?_, fun a t w => ?_, hT, fun i q m a h1 h2 => ?_, tb⟩
    · rw [← hρ]; unfold L2.start; simp [envD_len, ← hl2, rv.length]
    · rcases g0 i _ h with ⟨_, z⟩ | ⟨j, d', rfl, h1, z⟩
      · cases z
      · cases z
        obtain ⟨v, h2, h3⟩ := rv.get h1
        exact ⟨v, start_get (by simpa using h2), h3.mono e0⟩
    · rcases g0 i _ h with ⟨rfl, z⟩ | ⟨_, _, _, _, z⟩
      · cases z
        exact ⟨l, _, s0, ho, by unfold RpO; exact RpAll.mono e0 rm⟩
      · cases z
    · rcases g0 i _ h1 with ⟨rfl, _⟩ | ⟨_, _, _, _, z⟩
      · rcases g0 j _ h2 with ⟨rfl, _⟩ | ⟨_, _, _, _, z⟩
        · rfl
        · cases z
      · cases z
    · rw [own a w] at t; exact nT t
    · rcases g0 i _ h1 with ⟨rfl, z⟩ | ⟨_, _, _, _, z⟩
      · cases z; rw [s0] at h2; cases h2; rfl
      · cases z
  have kp : ∀ {ρ' : Env} {σ' : L2.St} {H' : Hp}, RS K T ρ' σ' H' → Po ρ0 (L2.start N (.ref l :: us)) H ρ' σ' H' → ExL K l H H' := fun r q => ⟨fun a o ne h nt => q.keep a o (fun w => ne (own a w)) h nt, q.dom, fun _ => r.tb⟩
  have fin : ∀ {ρ' : Env} {σ' : L2.St} {H' : Hp} {ms' : List D}, RS K T ρ' σ' H' → ρ'[0]? = some (some (SV.ow (.par l (.lst ms')))) → ∃ ws', H' l = some (.lst ws') ∧ RpAll K (hide (plus T l) H') ws' ms' ∧ Ex (hide (Hd T ρ' σ') H') (hide (plus T l) H') := fun {ρ' σ' H' ms'} r h => by
    obtain ⟨a, o, h1, h2, h3⟩ := r.ow 0 _ h
    obtain rfl := r.tag 0 _ _ a h h1
    obtain ⟨ws', rfl, h4⟩ := getL_rp (ds := ms') h3 rfl
    have e : Ex (hide (Hd T ρ' σ') H') (hide (plus T a) H') := hide_sub fun b w => w.elim (fun z => .inr ⟨0, _, h, by rw [z]; exact h1⟩) .inl
    exact ⟨ws', h2, h4.mono e, e⟩
  rw [← hρ] at *
  refine kt T _ _ H _ _ r0 (hS l ms ds QD hl2 hs) ⟨fun ρ' σ' H' r q h => ?_, fun d ρ' σ' v H' r q rv h => ?_, fun _ _ _ _ _ h => h.elim, fun _ _ _ _ _ h => h.elim, fun _ _ _ _ _ _ _ h => h.elim⟩
  · obtain ⟨ms', h1, h2⟩ := h
    obtain ⟨ws', a1, a2, _⟩ := fin r h1
    exact hq .non .none ms' ws' H' h2 (kp r q) a1 a2 .non
  · obtain ⟨ms', h1, h2⟩ := h
    obtain ⟨ws', a1, a2, a3⟩ := fin r h1
    exact hq v d ms' ws' H' h2 (kp r q) a1 a2 (rv.mono a3)
end
end Dn
set_option Elab.async false
set_option linter.all false
set_option maxRecDepth 100000
set_option autoImplicit false
set_option maxHeartbeats 4000000
namespace Dn
open PySem L2 Evl PySem.Spec PyProof.Rows
section
variable {X : Cx} {a b c e : Expr} {fa fb fc : DE} {pos p : Pos} {es : List Expr} {x y : Str} {k : Nat} {f : Addr} {fd : FuncData} {ps : List Str} {n : Nat}
def iSq0 (K : PySem.W.Frag) (tl : TE) : TI := fun σ H R => tl σ H fun x H1 => ∃ a, x = .ref a ∧ (((∃ xs, SqL K H1 a xs) ∧ R (Itl K a) H1) ∨ ((∃ xs, SqT K H1 a xs) ∧ R (Itt K a) H1))
theorem pi_sq {tg l : Expr} {tl : TE} (hl : PE X l tl) : PI X tg l (iSq0 X.K tl) := by
  refine ⟨fun pins s σ H R I h => ?_⟩
  refine thn (hl.run pins s σ H _ I h) fun v s1 ⟨x, H1, I1, r1, q1⟩ => ?_
  obtain ⟨q, rfl, h⟩ := q1
  cases r1
  have fp : ∀ (o : Obj), ∀ bb ∈ [s1.heap.objs.size], FpOk X pins H1 bb := fun o bb hb => by
    have : bb = s1.heap.objs.size := by simpa using hb
    subst this
    exact I1.fpOk (Nat.le_refl _) (I1.hok.fresh (Nat.le_refl _))
  rcases h with ⟨⟨xs, hq⟩, h⟩ | ⟨⟨xs, hq⟩, h⟩
  · obtain ⟨its, rv, isL, hz⟩ := I1.list hq
    refine wpAny_pyIter_list isL.isList ?_
    exact ⟨s1.heap.objs.size, [s1.heap.objs.size], _, _, H1, rfl, I1.kept (t' := s1.toks) fun b o e => Heap.get?_push_of_some _ e, turn_list q _, ⟨_, Heap.get?_push_size _ rfl, rfl, rfl⟩, fp default, h⟩
  · obtain ⟨its, rv, isT, hz⟩ := I1.tuple hq
    refine wpAny_pyIter_tuple (show s1.heap.IsTuple q its.toArray from isT) ?_
    exact ⟨s1.heap.objs.size, [s1.heap.objs.size], _, _, H1, rfl, I1.kept (t' := s1.toks) fun b o e => Heap.get?_push_of_some _ e, turn_tuple q _, ⟨_, Heap.get?_push_size _ rfl, rfl, rfl⟩, fp default, h⟩
def iSq (f : DE) : DL := fun ρ Q => f ρ fun d ρ1 => ∃ ds, seqD d = some ds ∧ Q ds ρ1
theorem ji_sq {tg : Expr} (ha : JE X a fa) : JI X tg a (iSq fa) := by
  obtain ⟨t, pt, kt⟩ := ha.ex
  refine ⟨_, pi_sq pt, fun T ρ σ H QD R r h q => kt T ρ σ H _ _ r h fun d ρ1 v H1 r1 p1 v1 h => ?_⟩
  obtain ⟨ds, e, h⟩ := h
  cases v1
  case dct h1 h2 h3 => rw [h3, seq_dk] at e; cases e
  case ins h1 h2 h3 h4 => subst h4; simp [seqD, obL] at e
  all_goals simp only [seqD, Option.some.injEq, reduceCtorEq] at e
  · subst e
    rename_i hp rr
    exact ⟨_, rfl, .inl ⟨⟨_, .inl (.inl (at_of hp))⟩, q _ _ _ _ r1 p1 (it_list (.inl (.inl hp)) rr) h⟩⟩
  · subst e
    rename_i hp rr
    exact ⟨_, rfl, .inr ⟨⟨_, sqt_of hp⟩, q _ _ _ _ r1 p1 (it_tup (lt_of hp) rr) h⟩⟩
  · subst e
    rename_i hp rr
    exact ⟨_, rfl, .inl ⟨⟨_, sql_of hp⟩, q _ _ _ _ r1 p1 (it_list hp rr) h⟩⟩
def spL (K : PySem.W.Frag) (n : Nat) (S : List D → (List D → Prop) → Prop) : Sp := fun vs H Q _ => vs.length = n ∧ ∃ (T : Addr → Prop) (ds : List D) (QD : List D → Prop), (∀ a, T a → Lv H a) ∧ RpAll K (hide T H) vs ds ∧ TbOk K H ∧ S ds QD ∧
  ∀ l us es H', H l = none → H' l = some (.lst us) → QD es → ExG K H H' → RpAll K (hide (plus T l) H') us es → Q (.ref l) H'
def lCall (n : Nat) (S : List D → (List D → Prop) → Prop) (g : DA) : DL := fun ρ Q => g ρ fun ds ρ1 => ds.length = n ∧ S ds fun es => Q es ρ1
theorem jl_call {S : List D → (List D → Prop) → Prop} {g : DA} (F : FnOk X.prog X.w X.K X.mg X.base L2.CX0 k f fd ps (spL X.K n S)) (hr : Room k X.A) (hm : X.mg x = some (.ref f)) (hk : PySem.W.keepIn X.K (.ref f) = true) (hb : Binds X.K fd ps []) (ha : JA X (e :: es) g) (hg : Gl X x := by rfl)
    (hdb : (x == ("__debug__" : Str)) = false := by decide) (he : starEach (e :: es) X.env = (false, eval e X.env) :: starEach es X.env := by rfl) (hpl : (backTo pos (starEach es X.env)).any (·.1) = false := by rfl) : JL X (.Call (.Name x p) (e :: es) [] pos) (lCall n S g) := by
  obtain ⟨t, pa, ka⟩ := ha.ex
  refine ⟨_, pe_call F hr hg hm hk hb .nil (E := fun _ _ _ => False) (fun _ _ _ _ _ _ _ h => h.elim) pa hdb he hpl, fun T ρ σ H QD Q r h q => ka T ρ σ H _ _ r h fun ds ρ1 vs H1 r1 p1 v1 h => ?_⟩
  rw [List.append_nil]
  refine ⟨by rw [v1.length, h.1], Hd T ρ1 σ, ds, _, fun a => r1.hdLv, v1, r1.tb, h.2, fun l us es H' hl hl' hq e rr => ?_⟩
  have r2 : RS X.K (plus T l) ρ1 σ H' := by
    have r3 := (r1.laid (o := .lst us) hl)
    refine r3.growE ⟨⟨fun a o w nt => ?_, fun a w => ?_⟩, fun _ => e.t r1.tb⟩
    · by_cases z : a = l
      · subst z; rw [upd_same] at w; rw [hl', w]
      · rw [upd_ne z] at w; exact e.w.k a o w nt
    · by_cases z : a = l
      · subst z; rw [hl']; simp
      · rw [upd_ne z] at w; exact e.w.d a w
  refine q es ρ1 l us H' (none_back p1 hl) hl' r2 (rr.mono (hide_sub fun a w => ?_)) (p1.trans (.growE e)) hq
  rcases w with (w | w) | w
  · exact .inl w
  · exact .inr (.inl w)
  · exact .inr (.inr w)
structure JSL (X : Cx) (st : List Stmt) (f : (List D → Prop) → Env → Prop) : Prop where
  ex : ∃ t, PSs X st t ∧ ∀ (T : Addr → Prop) (ρ : Env) (σ : L2.St) (H : Hp) (QD : List D → Prop) (D : Ends), RS X.K T ρ σ H → f QD ρ →
    (∀ es ρ' σ' l us H', H l = none → H' l = some (.lst us) → RS X.K (plus T l) ρ' σ' H' → RpAll X.K (hide (Hd (plus T l) ρ' σ') H') us es → Po ρ σ H ρ' σ' H' → QD es → D.rt (.ref l) H') → t D σ H
theorem jsl_ret {g : DL} (ha : JL X e g) : JSL X [.Return (some e) pos] (fun Q ρ => g ρ fun es _ => Q es) := by
  obtain ⟨t, pt, kt⟩ := ha.ex
  refine ⟨_, pss_cons (ps_ret pt) pss_nil, fun T ρ σ H QD D r h k => kt T ρ σ H _ _ r h fun es ρ1 l us H1 n s r1 v1 p1 h => k es ρ1 σ l us H1 n s r1 v1 p1 h⟩
theorem jsl_cons {st : Stmt} {sts : List Stmt} {g : DS} {f : (List D → Prop) → Env → Prop} (h1 : JS X st g) (h2 : JSL X sts f) : JSL X (st :: sts) (fun Q ρ => g { nx := f Q, rt := fun _ _ => False } ρ) := by
  obtain ⟨t1, p1, k1⟩ := h1.ex
  obtain ⟨t2, p2, k2⟩ := h2.ex
  refine ⟨_, pss_cons p1 p2, fun T ρ σ H QD D r h k => k1 T ρ σ H _ _ r h ⟨fun ρ1 σ1 H1 r1 q1 h => k2 T ρ1 σ1 H1 _ _ r1 h fun es ρ' σ' l us H' n s r' v' p' hq => k es ρ' σ' l us H' (none_back q1 n) s r' v' (q1.trans p') hq, fun _ _ _ _ _ _ _ _ h => h.elim, fun _ _ _ _ _ h => h.elim, fun _ _ _ _ _ h => h.elim, fun _ _ _ _ _ _ _ h => h.elim⟩⟩
def Ok (P : Program) (w : World) (K : PySem.W.Frag) (mg : Str → Option Value) (base : Heap) (x : Str) (ps : List Str) (k : Nat) (sp : Sp) : Prop :=
  ∃ f fd, FnOk P w K mg base L2.CX0 k f fd ps sp ∧ mg x = some (.ref f) ∧ PySem.W.keepIn K (.ref f) = true ∧ Binds K fd ps []
theorem je_fn {S : List D → (D → Prop) → Prop} {g : DA} (O : Ok X.prog X.w X.K X.mg X.base x ps k (spD X.K n S)) (hr : Room k X.A) (ha : JA X (e :: es) g) (hg : Gl X x := by rfl)
    (hdb : (x == ("__debug__" : Str)) = false := by decide) (he : starEach (e :: es) X.env = (false, eval e X.env) :: starEach es X.env := by rfl) (hpl : (backTo pos (starEach es X.env)).any (·.1) = false := by rfl) : JE X (.Call (.Name x p) (e :: es) [] pos) (dCallF n S g) := by
  obtain ⟨f, fd, F, hm, hk, hb⟩ := O
  exact je_call F hr hm hk hb ha hg hdb he hpl
theorem je_fn0 {S : List D → (D → Prop) → Prop} (O : Ok X.prog X.w X.K X.mg X.base x ps k (spD X.K n S)) (hr : Room k X.A) (hg : Gl X x := by rfl) (hdb : (x == ("__debug__" : Str)) = false := by decide) : JE X (.Call (.Name x p) [] [] pos) (dCallF n S aNil) := by
  obtain ⟨f, fd, F, hm, hk, hb⟩ := O
  exact je_call0 F hr hm hk hb hg hdb
theorem jl_fn {S : List D → (List D → Prop) → Prop} {g : DA} (O : Ok X.prog X.w X.K X.mg X.base x ps k (spL X.K n S)) (hr : Room k X.A) (ha : JA X (e :: es) g) (hg : Gl X x := by rfl)
    (hdb : (x == ("__debug__" : Str)) = false := by decide) (he : starEach (e :: es) X.env = (false, eval e X.env) :: starEach es X.env := by rfl) (hpl : (backTo pos (starEach es X.env)).any (·.1) = false := by rfl) : JL X (.Call (.Name x p) (e :: es) [] pos) (lCall n S g) := by
  obtain ⟨f, fd, F, hm, hk, hb⟩ := O
  exact jl_call F hr hm hk hb ha hg hdb he hpl
theorem je_fnM {i : Nat} {px : Pos} {S : List D → List D → (D → List D → Prop) → Prop} {g : DA} (O : Ok X.prog X.w X.K X.mg X.base x ps k (spM X.K n S)) (hr : Room k X.A) (hN : X.N[i]? = some y) (hv : Vis X.env.scope y) (ha : JA X es g) (hg : Gl X x := by rfl) (hd : (y == ("__debug__" : Str)) = false := by decide) (hcd : (y == ("__classdict__" : Str)) = false := by decide)
    (hdb : (x == ("__debug__" : Str)) = false := by decide) (he : starEach (Expr.Name y px :: es) X.env = (false, eval (Expr.Name y px) X.env) :: starEach es X.env := by rfl) (hpl : (backTo pos (starEach es X.env)).any (·.1) = false := by rfl) : JE X (.Call (.Name x p) (.Name y px :: es) [] pos) (dCallM i n S g) := by
  obtain ⟨f, fd, F, hm, hk, hb⟩ := O
  exact je_callM F hr hm hk hb hN hv ha hg hd hcd hdb he hpl
def Is (K : PySem.W.Frag) (mg : Str → Option Value) (x : Str) (st : Stmt) : Prop := ∃ f fd, FunD K x x (defArgs st) (defBody st) (defScope st) [] [] f fd ∧ mg x = some (.ref f)
abbrev BindsAs (x : Str) (st : Stmt) (ps : List Str) : Prop := ∀ (kV doc pm : Value) (an : Option Addr) (cdv ct : Value) (us : List Value), us.length = ps.length → bindArgs (PySem.W.fnOf x x (defArgs st) (defBody st) (defScope st) .none kV doc pm an cdv ct) ⟨us, []⟩ = pure (ps.zip us)
abbrev BodyCx (P : Program) (w : World) (K : PySem.W.Frag) (mg : Str → Option Value) (base : Heap) (x : Str) (st : Stmt) (N : List Str) (k : Nat) (J : Cx → Prop) : Prop :=
  ∀ (f : Addr) (cdv : Value) (A : Around) (outer : List PySem.Env) (s : Shared) (H : Hp) (E : XK), Room k (A.deeper (envOfC x (defScope st) s.heap.objs.size f cdv)) → J (cxOf L2.CX0 P w K mg base N x (defScope st) f cdv A outer s H E).nox
section
variable {P : Program} {w : World} {K : PySem.W.Frag} {mg : Str → Option Value} {base : Heap} {st : Stmt} {N : List Str}
theorem ok_D {S : List D → (D → Prop) → Prop} {g : DS} (F : Is K mg x st) (Sc : FnScope N ps (defScope st)) (bs : BindsAs x st ps) (hb : BodyCx P w K mg base x st N k fun X => JSs X (defBody st) g)
    (hS : ∀ (ds : List D) (Q : D → Prop), ds.length = ps.length → S ds Q → g { nx := fun _ => Q .none, rt := fun d _ => Q d } (envD ds (N.length - ps.length))) : Ok P w K mg base x ps (k + 1) (spD K ps.length S) := by
  obtain ⟨f, fd, F, hm⟩ := F
  exact ⟨f, fd, fn_D F Sc (fun cdv A outer s H E hr => hb f cdv A outer s H E hr) hS, hm, F.kp, F.bindsN bs⟩
theorem ok_M {S : List D → List D → (D → List D → Prop) → Prop} {g : DS} (F : Is K mg x st) (Sc : FnScope N ps (defScope st)) (bs : BindsAs x st ps) (hb : BodyCx P w K mg base x st N k fun X => JSs X (defBody st) g)
    (hS : ∀ (l : Addr) (ms ds : List D) (Q : D → List D → Prop), ds.length + 1 = ps.length → S ms ds Q → g { nx := fun ρ => ∃ ms', ρ[0]? = some (some (.ow (.par l (.lst ms')))) ∧ Q .none ms', rt := fun d ρ => ∃ ms', ρ[0]? = some (some (.ow (.par l (.lst ms')))) ∧ Q d ms' } (some (.ow (.par l (.lst ms))) :: envD ds (N.length - ps.length))) :
    Ok P w K mg base x ps (k + 1) (spM K ps.length S) := by
  obtain ⟨f, fd, F, hm⟩ := F
  exact ⟨f, fd, fn_M F Sc (fun cdv A outer s H E hr => hb f cdv A outer s H E hr) hS, hm, F.kp, F.bindsN bs⟩
theorem envD_rs {T : Addr → Prop} {H : Hp} {vs : List V} {ds : List D} {m : Nat} (hl : vs.length + m = N.length) (hT : ∀ a, T a → Lv H a) (rv : RpAll K (hide T H) vs ds) (tb : TbOk K H) : RS K T (envD ds m) (L2.start N vs) H ∧ ∀ a, ¬ Own (envD ds m) (L2.start N vs) a := by
  have no : ∀ a, ¬ Own (envD ds m) (L2.start N vs) a := fun a ⟨i, mm, h1, _⟩ => by
    obtain ⟨d, _, z⟩ := envD_get h1
    cases z
  have e0 : Ex (hide T H) (hide (Hd T (envD ds m) (L2.start N vs)) H) := hide_sub fun a w => w.elim id fun w => (no a w).elim
  refine ⟨⟨?_, fun i d h => ?_, fun i m h => ?_, fun i j m m' a h1 _ _ _ => ?_, fun a _ => no a, hT, fun i q m a h1 _ => ?_, tb⟩, no⟩
  · rw [envD_len]; unfold L2.start; simp [rv.length] at hl ⊢; omega
  · obtain ⟨d', h1, z⟩ := envD_get h
    cases z
    obtain ⟨v, h2, h3⟩ := rv.get h1
    exact ⟨v, start_get h2, h3.mono e0⟩
  · obtain ⟨d, _, z⟩ := envD_get h; cases z
  · obtain ⟨d, _, z⟩ := envD_get h1; cases z
  · obtain ⟨d, _, z⟩ := envD_get h1; cases z
theorem ok_L {S : List D → (List D → Prop) → Prop} {g : (List D → Prop) → Env → Prop} (F : Is K mg x st) (Sc : FnScope N ps (defScope st)) (bs : BindsAs x st ps) (hb : BodyCx P w K mg base x st N k fun X => JSL X (defBody st) g)
    (hS : ∀ (ds : List D) (Q : List D → Prop), ds.length = ps.length → S ds Q → g Q (envD ds (N.length - ps.length))) : Ok P w K mg base x ps (k + 1) (spL K ps.length S) := by
  obtain ⟨f, fd, F, hm⟩ := F
  refine ⟨f, fd, ?_, hm, F.kp, F.bindsN bs⟩
  refine F.ok Sc (fun vs H Q E h => h.1) (fun cdv A outer s H vs Q E hr h => ?_)
  obtain ⟨t, pt, kt⟩ := (hb f cdv A outer s H E hr).ex
  refine ⟨t, PSs.nox pt, ?_⟩
  obtain ⟨hl, T, ds, QD, hT, rv, tb, hs, hq⟩ := h
  have hl2 : ds.length = ps.length := by rw [← rv.length, hl]
  have hN : ps.length ≤ N.length := by have := congrArg List.length Sc.pre; rw [List.length_take] at this; omega
  obtain ⟨r0, no⟩ := envD_rs (m := N.length - ps.length) (N := N) (by omega) hT rv tb
  refine kt T _ _ H _ _ r0 (hS ds QD hl2 hs) fun es ρ' σ' l us H' n s r' v' p' h => ?_
  exact hq l us es H' n s h ⟨⟨fun a o w nt => p'.keep a o (no a) w nt, p'.dom⟩, fun _ => (r'.tb)⟩ (v'.mono (hide_sub fun a w => .inl w))
end
end
end Dn
set_option Elab.async false
set_option linter.all false
set_option maxRecDepth 100000
set_option autoImplicit false
set_option maxHeartbeats 4000000
namespace Dn
open PySem L2 Evl PySem.Spec PyProof.Rows
section
variable {X : Cx} {a b c e : Expr} {fa fb fc : DE} {pos p : Pos} {es : List Expr} {x y : Str}
theorem je_v (i : Nat) (hN : X.N[i]? = some x := by rfl) (hv : Vis X.env.scope x := by first | exact Or.inl rfl | exact Or.inr (Or.inl rfl) | exact Or.inr (Or.inr rfl)) (hd : (x == ("__debug__" : Str)) = false := by decide) (hcd : (x == ("__classdict__" : Str)) = false := by decide) : JE X (.Name x pos) (dVar i) := je_var hN hv hd hcd
theorem je_vF (i : Nat) (hN : X.N[i]? = some x := by rfl) (hv : Vis X.env.scope x := by first | exact Or.inl rfl | exact Or.inr (Or.inl rfl) | exact Or.inr (Or.inr rfl)) (hd : (x == ("__debug__" : Str)) = false := by decide) (hcd : (x == ("__classdict__" : Str)) = false := by decide) : JE X (.Name x pos) (dVarF i) := je_varF hN hv hd hcd
theorem jg_n (i : Nat) {vs : List Nat} (hN : X.N.Nodup) (hi : X.N[i]? = some x := by rfl) (hx : Loc X.env.scope x := by first | exact Or.inl rfl | exact Or.inr rfl) (hv : i ∈ vs := by decide) (hf : X.fn x = true ∨ X.env.scope.names.lookup x = some .local := by first | exact Or.inl rfl | exact Or.inr rfl) : JG X (.Name x pos) vs (gNm i) := jg_name hN hi hx hv hf
theorem jt_cmpO {op : D → D → (D → Prop) → Prop} {i : Nat} {py : Pos} {o : CmpOp} (ho : OpD X (compareOp o) op) (hN : X.N[i]? = some y) (hy : Vis X.env.scope y) (hb : JE X b fb) (hm : behindInMarks o b = false)
    (hd : (y == ("__debug__" : Str)) = false := by decide) (hcd : (y == ("__classdict__" : Str)) = false := by decide) : JT X (.Compare (.Name y py) [o] [b] pos) (dTst (dBinO i op fb)) := by
  obtain ⟨r, h1, h2⟩ := ho.ex
  obtain ⟨tb, pb, kb⟩ := hb.ex
  refine ⟨_, pt_cmpR h1 (pe_var hN hy hd hcd) pb hm, fun T ρ σ H QD Q r h q => ?_⟩
  obtain ⟨⟨m, hm⟩, h⟩ := h
  obtain ⟨a, o, ha, _, _⟩ := r.ow i m hm
  refine ⟨_, ha, kb T ρ σ H _ _ r h fun y ρ1 v H1 r1 p1 v1 h => ?_⟩
  split at h
  · rename_i ds e1
    have rf := r1.freeze e1
    obtain ⟨u, hu, ru⟩ := rf.im i (.list ds) (List.getElem?_set_self (List.getElem?_eq_some_iff.mp e1).1)
    rw [ha] at hu; cases hu
    refine h2 _ H1 _ _ _ _ _ _ (fun a => rf.hdDom) ru (v1.mono hd_freeze) h fun z w H' e v2 h => ?_
    cases v2 with
    | bl b => exact ⟨b, rfl, q _ _ _ (r1.grow e) (p1.trans (.grow e)) h.2⟩
    | _ => exact False.elim h.2
  · exact False.elim h
theorem jt_chain {o o' : CmpOp} {op op' : D → D → (D → Prop) → Prop} (ho : OpD X (compareOp o) op) (ho' : OpD X (compareOp o') op') (ha : JE X a fa) (hb : JE X b fb) (hc : JE X c fc) (hm : lastMarks [o, o'] [b, c] = false := by with_unfolding_all rfl) :
    JT X (.Compare a [o, o'] [b, c] pos) (dTst (dChain op op' fa fb fc)) := by
  obtain ⟨r, h1, h2⟩ := ho.ex
  obtain ⟨r', h1', h2'⟩ := ho'.ex
  obtain ⟨ta, pa, ka⟩ := ha.ex
  obtain ⟨tb, pb, kb⟩ := hb.ex
  obtain ⟨tc, pc, kc⟩ := hc.ex
  refine ⟨_, pt_chain h1 h1' pa pb pc hm, fun T ρ σ H QD Q r h k => ?_⟩
  refine ka T ρ σ H _ _ r h fun d ρ1 v H1 r1 p1 v1 h => ?_
  refine kb T ρ1 σ H1 _ _ r1 h fun e ρ2 w H2 r2 p2 v2 h => ?_
  refine h2 (Hd T ρ2 σ) H2 v w d e _ _ (fun a => r2.hdDom) (v1.monoW p2.fz) v2 h fun z u H3 e3 v3 h => ?_
  have r3 := r2.grow e3
  have p3 : Po ρ2 σ H2 ρ2 σ H3 := .grow e3
  cases v3 with
  | bl q =>
    refine ⟨q, rfl, ?_⟩
    cases q with
    | false => exact ⟨false, rfl, k _ _ _ r3 ((p1.trans p2).trans p3) h⟩
    | true =>
      rw [if_pos rfl]
      refine kc T ρ2 σ H3 _ _ r3 h fun g ρ4 y H4 r4 p4 v4 h => ?_
      refine h2' (Hd T ρ4 σ) H4 w y e g _ _ (fun a => r4.hdDom) ((v2.monoW p3.fz).monoW p4.fz) v4 h fun z u H5 e5 v5 h => ?_
      cases v5 with
      | bl b => exact ⟨b, rfl, k b ρ4 H5 (r4.grow e5) (((p1.trans p2).trans p3).trans (p4.trans (.grow e5))) h⟩
      | _ => exact False.elim h
  | _ => exact False.elim h
def lCat (fa fb : DE) : DL := fun ρ Q => fa ρ fun d ρ1 => fb ρ1 fun e ρ2 => ∃ xs ys, d = .list xs ∧ e = .list ys ∧ xs.length + ys.length ≤ 16777216 ∧ Q (xs ++ ys) ρ2
def iEn0 (K : PySem.W.Frag) (ta : TA) : TI := fun σ H R => ta σ H fun vs H1 => ∃ a, vs = [.ref a] ∧ (((∃ xs, SqL K H1 a xs) ∧ R (IteK K a) H1) ∨ ((∃ xs, SqT K H1 a xs) ∧ R (IteT K a) H1))
theorem pi_en {ta : TA} {tpos : Pos} {elts : List Expr} {kk : Nat} (hg : Gl X "enumerate") (hm : X.mg "enumerate" = none) (ha : PA X [e] ta) (hs : starEach [e] X.env = [(false, eval e X.env)] := by rfl) :
    PI X (.Tuple elts kk tpos) (.Call (.Name "enumerate" p) [e] [] pos) (iEn0 X.K ta) := by
  refine ⟨fun pins s σ H R I h => ?_⟩
  refine Call_ (ld_blt I hg hm boot_enumerate (PyProof.Rows.callWith_type1 (thn (ha.run pos pins s σ H _ I h) fun us s1 ⟨vs, H1, I1, r1, q1⟩ => ?_) hs rfl))
  obtain ⟨a, rfl, h⟩ := q1
  obtain ⟨u, rfl, ru⟩ := vals1 r1
  cases ru
  have fp : ∀ b ∈ [s1.heap.objs.size + 1, s1.heap.objs.size], FpOk X pins H1 b := fun b hb => by
    have ge : s1.heap.objs.size ≤ b := by
      rcases (show b = s1.heap.objs.size + 1 ∨ b = s1.heap.objs.size by simpa using hb) with z | z <;> subst z
      · exact Nat.le_succ _
      · exact Nat.le_refl _
    exact I1.fpOk ge (I1.hok.fresh ge)
  rcases h with ⟨⟨xs, hq⟩, h⟩ | ⟨⟨xs, hq⟩, h⟩
  · obtain ⟨its, rv, isL, hz⟩ := I1.list hq
    refine call_enumerate_list isL.isList fun hp he hit _ hk => wpAny_pyIter_enum he ?_
    have I2 : Inv X pins σ H1 { s1 with heap := hp } := I1.kept (t' := s1.toks) hk
    exact ⟨s1.heap.objs.size + 1, [s1.heap.objs.size + 1, s1.heap.objs.size], _, _, H1, rfl, I2, turn_enK a (s1.heap.objs.size + 1) s1.heap.objs.size, ⟨⟨.none, he⟩, hit, Nat.succ_ne_self _⟩, fp, h⟩
  · obtain ⟨its, rv, isT, hz⟩ := I1.tuple hq
    refine own_enum_call (show s1.heap.IsTuple a its.toArray from isT) fun hp he hit hk => wpAny_pyIter_enum he ?_
    have I2 : Inv X pins σ H1 { s1 with heap := hp } := I1.kept (t' := s1.toks) hk
    exact ⟨s1.heap.objs.size + 1, [s1.heap.objs.size + 1, s1.heap.objs.size], _, _, H1, rfl, I2, turn_enT a (s1.heap.objs.size + 1) s1.heap.objs.size, ⟨⟨.none, he⟩, hit, Nat.succ_ne_self _⟩, fp, h⟩
theorem it_enL {K : PySem.W.Frag} {G : Hp} {a : Addr} {xs : List V} {ds : List D} (hp : SqL K G a xs) (rr : RpAll K G xs ds) : ItOk K (IteK K a) G (enD ds) :=
  ⟨fun H e => ⟨xs, e.l hp, by rw [enD_len, rr.length]; exact Nat.le_refl _⟩, fun i d H hd e => by
    obtain ⟨g, hg, rfl⟩ := enD_get hd
    obtain ⟨u, hu, ru⟩ := rr.get hg
    refine ⟨⟨xs, u, e.l hp, hu⟩, fun x H' y => ?_⟩
    obtain ⟨l, o, z, rfl, hl, t, rfl, y⟩ := y
    have := y xs (e.l hp)
    rw [hu] at this; cases this
    exact ⟨Ex.new hl, fun O hO eo => rp_newT hO hl t (.cons (.int _) (.cons (ru.monoW eo) .nil))⟩⟩
theorem it_enT {K : PySem.W.Frag} {G : Hp} {a : Addr} {xs : List V} {ds : List D} (hp : SqT K G a xs) (rr : RpAll K G xs ds) : ItOk K (IteT K a) G (enD ds) :=
  ⟨fun H e => ⟨xs, e.t hp, by rw [enD_len, rr.length]; exact Nat.le_refl _⟩, fun i d H hd e => by
    obtain ⟨g, hg, rfl⟩ := enD_get hd
    obtain ⟨u, hu, ru⟩ := rr.get hg
    refine ⟨⟨xs, u, e.t hp, hu⟩, fun x H' y => ?_⟩
    obtain ⟨l, o, z, rfl, hl, t, rfl, y⟩ := y
    have := y xs (e.t hp)
    rw [hu] at this; cases this
    exact ⟨Ex.new hl, fun O hO eo => rp_newT hO hl t (.cons (.int _) (.cons (ru.monoW eo) .nil))⟩⟩
def iEn (f : DE) : DL := fun ρ Q => f ρ fun d ρ1 => ∃ ds, seqD d = some ds ∧ Q (enD ds) ρ1
theorem ji_en {elts : List Expr} {kk : Nat} {tpos : Pos} (hm : X.mg "enumerate" = none) (ha : JE X a fa) (hg : Gl X "enumerate" := by rfl) (hs : starEach [a] X.env = [(false, eval a X.env)] := by rfl) : JI X (.Tuple elts kk tpos) (.Call (.Name "enumerate" p) [a] [] pos) (iEn fa) := by
  obtain ⟨t, pt, kt⟩ := ha.ex
  refine ⟨_, pi_en hg hm (pa_cons pt pa_nil hs) hs, fun T ρ σ H QD R r h q => kt T ρ σ H _ _ r h fun d ρ1 v H1 r1 p1 v1 h => ?_⟩
  obtain ⟨ds, e, h⟩ := h
  cases v1
  case dct h1 h2 h3 => rw [h3, seq_dk] at e; cases e
  case ins h1 h2 h3 h4 => subst h4; simp [seqD, obL] at e
  all_goals simp only [seqD, Option.some.injEq, reduceCtorEq] at e
  · subst e
    rename_i hp rr
    exact ⟨_, rfl, .inl ⟨⟨_, .inl (.inl (at_of hp))⟩, q _ _ _ _ r1 p1 (it_enL (.inl (.inl hp)) rr) h⟩⟩
  · subst e
    rename_i hp rr
    exact ⟨_, rfl, .inr ⟨⟨_, sqt_of hp⟩, q _ _ _ _ r1 p1 (it_enT (lt_of hp) rr) h⟩⟩
  · subst e
    rename_i hp rr
    exact ⟨_, rfl, .inl ⟨⟨_, sql_of hp⟩, q _ _ _ _ r1 p1 (it_enL hp rr) h⟩⟩
abbrev dMulA := dI2 (fun i j => CMul i j ∨ CMulW i j) fun i j => .int (i * j)
theorem opd_mulA : OpD X (binaryOp .Mult) dMulA := by
  refine ⟨_, .or op_mul op_mulW, fun O H x y d e QD Q hO rx ry h k => ?_⟩
  cases rx <;> cases ry <;> first | exact False.elim h | skip
  obtain ⟨h1, h2⟩ := h
  rcases h1 with h1 | h1
  · exact .inl ⟨_, _, rfl, rfl, h1, k _ _ H (.refl H) (.int _) h2⟩
  · exact .inr ⟨_, _, rfl, rfl, h1, k _ _ H (.refl H) (.int _) h2⟩
def sAugI (i : Nat) (f : DE) : DS := fun E ρ => match ρ[i]? with
  | some (some (.im (.int n))) => f ρ fun d ρ1 => match d with
    | .int k => E.nx (ρ1.set i (some (.im (.int (n + k)))))
    | _ => False
  | _ => False
end
end Dn
set_option Elab.async false
set_option linter.all false
set_option maxRecDepth 100000
set_option autoImplicit false
set_option maxHeartbeats 4000000
namespace Dn
open PySem L2 Evl PySem.Spec PyProof.Rows
def keyD : D → Option Key
  | .int i => some (.inl i)
  | .str s => some (.inr s)
  | _ => none
theorem keyD_rp {K : PySem.W.Frag} {G : Hp} {v : V} {d : D} {k : Key} (r : Rp K G v d) (h : keyD d = some k) : v = kV k := by
  cases r <;> first | (cases h; rfl) | (exact nomatch h)
def valD (kvs : List (Key × D)) (k : Key) : Option D := (kvs.find? fun kv => decide (kv.1 = k)).map (·.2)
def putD (kvs : List (Key × D)) (k : Key) (d : D) : List (Key × D) :=
  if (kvs.any fun kv => decide (kv.1 = k)) = true then kvs.map (fun kv => if kv.1 = k then (kv.1, d) else kv) else kvs ++ [(k, d)]
abbrev KvRp (K : PySem.W.Frag) (G : Hp) (kvs : List (Key × D)) (kws : List (Key × V)) : Prop := Paired (fun (p : Key × D) (q : Key × V) => p.1 = q.1 ∧ Rp K G q.2 p.2) kvs kws
theorem KvRp.mono {K : PySem.W.Frag} {G G' : Hp} (e : Ex G G') {kvs : List (Key × D)} {kws : List (Key × V)} (h : KvRp K G kvs kws) : KvRp K G' kvs kws := Paired.mapP h fun _ _ q => ⟨q.1, q.2.mono e⟩
theorem KvRp.monoW {K : PySem.W.Frag} {G G' : Hp} (e : Exw G G') {kvs : List (Key × D)} {kws : List (Key × V)} (h : KvRp K G kvs kws) : KvRp K G' kvs kws := Paired.mapP h fun _ _ q => ⟨q.1, q.2.monoW e⟩
theorem KvRp.len {K : PySem.W.Frag} {G : Hp} {kvs : List (Key × D)} {kws : List (Key × V)} (h : KvRp K G kvs kws) : kvs.length = kws.length := by
  induction h with
  | nil => rfl
  | cons _ _ ih => simp [ih]
theorem KvRp.val {K : PySem.W.Frag} {G : Hp} {kvs : List (Key × D)} {kws : List (Key × V)} (h : KvRp K G kvs kws) (k : Key) : (valD kvs k = none ∧ valV kws k = none) ∨ ∃ d v, valD kvs k = some d ∧ valV kws k = some v ∧ Rp K G v d := by
  induction h with
  | nil => exact .inl ⟨rfl, rfl⟩
  | @cons p q ps qs r t ih =>
    unfold valD valV at ih ⊢
    rw [List.find?_cons, List.find?_cons]
    by_cases z : p.1 = k
    · have z2 : q.1 = k := by rw [← r.1]; exact z
      simp only [z, z2, decide_true, Option.map_some]
      exact .inr ⟨_, _, rfl, rfl, r.2⟩
    · have z2 : ¬ q.1 = k := by rw [← r.1]; exact z
      simp only [z, z2, decide_false]
      exact ih
theorem KvRp.any {K : PySem.W.Frag} {G : Hp} {kvs : List (Key × D)} {kws : List (Key × V)} (h : KvRp K G kvs kws) (k : Key) : (kvs.any fun kv => decide (kv.1 = k)) = (kws.any fun kv => decide (kv.1 = k)) := by
  induction h with
  | nil => rfl
  | @cons p q ps qs r t ih => simp only [List.any_cons, ih, r.1]
theorem KvRp.rep {K : PySem.W.Frag} {G : Hp} {kvs : List (Key × D)} {kws : List (Key × V)} (h : KvRp K G kvs kws) (k : Key) {v : V} {d : D} (r : Rp K G v d) : KvRp K G (kvs.map fun kv => if kv.1 = k then (kv.1, d) else kv) (kws.map fun kv => if kv.1 = k then (kv.1, v) else kv) := by
  induction h with
  | nil => exact .nil
  | @cons p q ps qs s t ih =>
    rw [List.map_cons, List.map_cons]
    refine .cons ?_ ih
    by_cases z : p.1 = k
    · have z2 : q.1 = k := by rw [← s.1]; exact z
      rw [if_pos z, if_pos z2]
      exact ⟨s.1, r⟩
    · have z2 : ¬ q.1 = k := by rw [← s.1]; exact z
      rw [if_neg z, if_neg z2]
      exact s
theorem KvRp.add {K : PySem.W.Frag} {G : Hp} {kvs : List (Key × D)} {kws : List (Key × V)} (h : KvRp K G kvs kws) (k : Key) {v : V} {d : D} (r : Rp K G v d) : KvRp K G (kvs ++ [(k, d)]) (kws ++ [(k, v)]) := by
  induction h with
  | nil => exact .cons ⟨rfl, r⟩ .nil
  | cons s t ih => exact .cons s ih
theorem KvRp.put {K : PySem.W.Frag} {G : Hp} {kvs : List (Key × D)} {kws : List (Key × V)} (h : KvRp K G kvs kws) (k : Key) {v : V} {d : D} (r : Rp K G v d) : KvRp K G (putD kvs k d) (putK kws k v) := by
  unfold putD putK
  rw [h.any k]
  split
  · exact h.rep k r
  · exact h.add k r
def atK (ρ : Env) (i : Nat) : Option (List (Key × D)) := match ρ[i]? with
  | some (some (.ow (.dct kvs))) => some kvs
  | _ => none
theorem atK_some {ρ : Env} {i : Nat} {kvs : List (Key × D)} (h : atK ρ i = some kvs) : ρ[i]? = some (some (SV.ow (.dct kvs))) := by
  unfold atK at h
  split at h
  · cases h; assumption
  · cases h
theorem RS.atK {K : PySem.W.Frag} {T : Addr → Prop} {ρ : Env} {σ : L2.St} {H : Hp} {i : Nat} {kvs : List (Key × D)} (r : RS K T ρ σ H) (h : Dn.atK ρ i = some kvs) : ∃ q kws, ρ[i]? = some (some (SV.ow (.dct kvs))) ∧ σ[i]? = some (some (V.ref q)) ∧ H q = some (.dK kws) ∧ KvRp K (hide (Hd T ρ σ) H) kvs kws := by
  have hm := atK_some h
  obtain ⟨q, o, h1, h2, h3⟩ := r.ow i _ hm
  cases o with
  | dK kws => exact ⟨q, kws, hm, h1, h2, h3⟩
  | _ => exact h3.elim
section
variable {X : Cx} {a b c e : Expr} {fa fb fc : DE} {pos p : Pos} {es : List Expr} {x y : Str}
def dGetK (i : Nat) (fb : DE) : DE := fun ρ Q => (atK ρ i).isSome = true ∧ fb ρ fun y ρ1 => ∃ kvs k d, atK ρ1 i = some kvs ∧ keyD y = some k ∧ valD kvs k = some d ∧ Q d ρ1
theorem je_getK {i : Nat} {px : Pos} (hu : X.A.units + 1 < cLine) (hN : X.N[i]? = some x) (hv : Vis X.env.scope x) (hb : JE X b fb) (hs : NoSl b := by exact fun _ _ => rfl) (hd : (x == ("__debug__" : Str)) = false := by decide) (hcd : (x == ("__classdict__" : Str)) = false := by decide) :
    JE X (.Subscript (.Name x px) b pos) (dGetK i fb) := by
  obtain ⟨tb, pb, kb⟩ := hb.ex
  refine ⟨_, pe_dget hu (pe_var hN hv hd hcd) pb hs, fun T ρ σ H QD Q r h q => ?_⟩
  obtain ⟨h0, h⟩ := h
  obtain ⟨ds0, h0⟩ := Option.isSome_iff_exists.mp h0
  obtain ⟨l, kws, _, hl, _, _⟩ := r.atK h0
  refine ⟨_, hl, kb T ρ σ H _ _ r h fun y ρ1 v H1 r1 p1 v1 h => ?_⟩
  obtain ⟨kvs, k, d, h1, hk, h2, h3⟩ := h
  obtain ⟨l', kws', _, hl', ho', hr'⟩ := r1.atK h1
  rw [hl] at hl'; cases hl'
  obtain rfl := keyD_rp v1 hk
  rcases hr'.val k with ⟨z, _⟩ | ⟨d', u, z, z2, z3⟩
  · rw [z] at h2; cases h2
  · rw [z] at h2; cases h2
    have g := DGet.k (k := k) ho'
    rw [z2] at g
    exact ⟨_, _, rfl, g, q _ _ _ _ r1 p1 z3 h3⟩
def dInK (neg : Bool) (i : Nat) (fb : DE) : DE := fun ρ Q => fb ρ fun y ρ1 => ∃ kvs k, atK ρ1 i = some kvs ∧ keyD y = some k ∧ Q (.bool (if neg then !(valD kvs k).isSome else (valD kvs k).isSome)) ρ1
def sPutK (i : Nat) (fi fe : DE) : DS := fun E ρ => fe ρ fun d ρ1 => (atK ρ1 i).isSome = true ∧ fi ρ1 fun y ρ2 => ∃ kvs k, atK ρ2 i = some kvs ∧ keyD y = some k ∧ kvs.length < sizeLine ∧ E.nx (ρ2.set i (some (.ow (.dct (putD kvs k d)))))
theorem js_putK {i : Nat} {px ps : Pos} {f1 f2 : DE} (hu : X.A.units + 1 < cLine) (hN : X.N[i]? = some x) (hv : Vis X.env.scope x) (hi : JE X b f1) (he : JE X e f2) (hd : (x == ("__debug__" : Str)) = false := by decide) (hcd : (x == ("__classdict__" : Str)) = false := by decide)
    (hs : swapsWith e (some (.Subscript (.Name x px) b ps)) pos.line X.env = pure false := by rfl) :
    JS X (.Assign [.Subscript (.Name x px) b ps] e pos) (sPutK i f1 f2) := by
  obtain ⟨t1, p1, k1⟩ := hi.ex
  obtain ⟨t2, p2, k2⟩ := he.ex
  refine ⟨_, ps_dput hu (pe_var hN hv hd hcd) p1 p2 hs, fun T ρ σ H E D r h k => k2 T ρ σ H _ _ r h fun d ρ1 v H1 r1 q1 v1 h => ?_⟩
  obtain ⟨h0, h⟩ := h
  obtain ⟨ds0, h0⟩ := Option.isSome_iff_exists.mp h0
  obtain ⟨l, kws, _, hl, _, _⟩ := r1.atK h0
  refine ⟨_, hl, k1 T ρ1 σ H1 _ _ r1 h fun kk ρ2 w H2 r2 q2 v2 h => ?_⟩
  obtain ⟨kvs, ky, h2, hk, h3, h4⟩ := h
  obtain ⟨l', kws', hm', hl', ho', hr'⟩ := r2.atK h2
  rw [hl] at hl'; cases hl'
  obtain rfl := keyD_rp v2 hk
  have hp : RpO X.K (hide (Hd T ρ2 σ) H2) (.dct (putD kvs ky d)) (.dK (putK kws' ky v)) := hr'.put ky (v1.monoW q2.fz)
  have r3 := r2.write hm' hl hp (fun _ _ z => nomatch z)
  exact ⟨l, _, rfl, DPut.k ho' (by rw [← hr'.len]; exact h3), k.nx _ _ _ r3 ((q1.trans q2).trans (.write hm' hl)) h4⟩
def xDct : DX := fun ρ Q => Q (.ow (.dct [])) ρ
theorem hu1 {n : Nat} (h : n + 64 < cLine) : n + 1 < cLine := by omega
theorem jt_notinK {i : Nat} {px : Pos} (hu : X.A.units + 1 < cLine) (hN : X.N[i]? = some x) (hv : Vis X.env.scope x) (hb : JE X b fb) (hm : behindInMarks .NotIn (.Name x px) = false) (hd : (x == ("__debug__" : Str)) = false := by decide) (hcd : (x == ("__classdict__" : Str)) = false := by decide) :
    JT X (.Compare b [.NotIn] [.Name x px] pos) (dTst (dInK true i fb)) := by
  obtain ⟨tb, pb, kb⟩ := hb.ex
  refine ⟨_, pt_cmp (pc_dnotin hu pb (pe_var hN hv hd hcd)) hm, fun T ρ σ H QD Q r h q => kb T ρ σ H _ _ r h fun y ρ1 v H1 r1 p1 v1 h => ?_⟩
  obtain ⟨kvs, k, h1, hk, h3⟩ := h
  obtain ⟨l', kws', _, hl', ho', hr'⟩ := r1.atK h1
  obtain rfl := keyD_rp v1 hk
  refine ⟨_, hl', l', _, rfl, DGet.k (k := k) ho', ?_⟩
  refine ⟨_, rfl, q _ _ _ r1 p1 ?_⟩
  rcases hr'.val k with ⟨z, z2⟩ | ⟨d', u, z, z2, z3⟩
  · rw [z2]; rw [z] at h3; exact h3
  · rw [z2]; rw [z] at h3; exact h3
end
end Dn
set_option Elab.async false
set_option linter.all false
set_option maxRecDepth 100000
set_option autoImplicit false
set_option maxHeartbeats 4000000
namespace Dn
open PySem L2 Evl PySem.Spec PyProof.Rows
section
variable {X : Cx} {a b c e : Expr} {es : List Expr} {fa fb fc : DE} {pos p : Pos} {x y : Str}
def gSubW (i : Nat) (fi : DE) : DG := fun d ρ Q => (atO ρ i).isSome = true ∧ fi ρ fun k ρ2 => ∃ ds j m, atO ρ2 i = some ds ∧ k = .int j ∧ ixN ds.length j = some m ∧ Q (setO ρ2 i (ds.set m d))
end
end Dn
set_option Elab.async false
set_option linter.all false
set_option maxRecDepth 100000
set_option autoImplicit false
set_option maxHeartbeats 4000000
namespace Dn
open PySem L2 Evl PySem.Spec PyProof.Rows
theorem RpKv.kv {K : PySem.W.Frag} {G : Hp} : ∀ {kws : List (Key × V)} {kvs : List (Key × D)}, RpKv K G kws kvs → KvRp K G kvs kws
  | _, _, .nil => .nil
  | _, _, .cons h r => .cons ⟨rfl, h⟩ r.kv
theorem KvRp.rp {K : PySem.W.Frag} {G : Hp} {kvs : List (Key × D)} {kws : List (Key × V)} (h : KvRp K G kvs kws) : RpKv K G kws kvs := by
  induction h with
  | nil => exact .nil
  | @cons p q ps qs r t ih =>
    obtain ⟨k, d⟩ := p
    obtain ⟨k2, v⟩ := q
    obtain ⟨r1, r2⟩ := r
    cases r1
    exact .cons r2 ih
section
variable {K : PySem.W.Frag} {T : Addr → Prop} {ρ : Env} {σ : L2.St} {H : Hp}
end
section
variable {X : Cx} {a b c e : Expr} {fa fb fc : DE} {pos p : Pos} {es : List Expr} {x y : Str}
def sRetK (i : Nat) : DS := fun E ρ => ∃ kvs, atK ρ i = some kvs ∧ E.rt (.dict (dkD kvs)) (ρ.set i (some (.im (.dict (dkD kvs)))))
def xDct1 (fk fv : DE) : DX := fun ρ Q => fk ρ fun y ρ1 => fv ρ1 fun d ρ2 => ∃ k, keyD y = some k ∧ Q (.ow (.dct [(k, d)])) ρ2
theorem jx_dct1 {k v : Expr} {fk fv : DE} (hk : JE X k fk) (hv : JE X v fv) : JX X (.Dict [some k] [v] pos) (xDct1 fk fv) := by
  obtain ⟨tk, pk, kk⟩ := hk.ex
  obtain ⟨tv, pv, kv⟩ := hv.ex
  refine ⟨_, pe_disp (pps_cons pk pv pps_nil) rfl rfl (by simp) (by simp), fun T ρ σ H QD Q r h q p hp => ?_⟩
  have r0 := r.laid (o := .dK []) hp
  refine kk (plus T p) ρ σ _ _ _ r0 h fun y ρ1 vk H1 r1 p1 v1 h => kv (plus T p) ρ1 σ H1 _ _ r1 h fun d ρ2 vv H2 r2 p2 v2 h => ?_
  obtain ⟨k, hk, h⟩ := h
  obtain rfl := keyD_rp v1 hk
  have q0 : (upd H p (.dK [])) p = some (.dK []) := upd_same
  have n0 : ¬ Own ρ σ p := r0.dis p (.inl rfl)
  have n1 : ¬ Own ρ1 σ p := r1.dis p (.inl rfl)
  have n2 : ¬ Own ρ2 σ p := r2.dis p (.inl rfl)
  have a2 : H2 p = some (.dK []) := p2.keep p _ n1 (p1.keep p _ n0 q0)
  refine ⟨a2, [(k, vv)], rfl, by simp, ?_⟩
  have hmk : mergeK [] [(k, vv)] = [(k, vv)] := rfl
  rw [hmk]
  -- the heap behind it
  have e2 : Ex (hide (Hd (plus T p) ρ2 σ) H2) (hide (Hd (plus T p) ρ2 σ) (upd H2 p (.dK [(k, vv)]))) := fun a o w => by
    obtain ⟨w1, w2⟩ := hide_some.1 w
    exact hide_some.2 ⟨w1, by rw [upd_ne (fun z => w1 (.inl (.inl z)))]; exact w2⟩
  have r3 : RS X.K (plus T p) ρ2 σ (upd H2 p (.dK [(k, vv)])) := by
    refine ⟨r2.len, fun i d q => ?_, fun i m q => ?_, r2.inj, r2.dis, fun a t => ?_, r2.tag, r2.tb.wr a2⟩
    · obtain ⟨v, h1, h2⟩ := r2.im i d q; exact ⟨v, h1, h2.mono e2⟩
    · obtain ⟨a, u, h1, h2, h3⟩ := r2.ow i m q
      exact ⟨a, u, h1, by rw [upd_ne (fun z => n2 (by rw [← z]; exact ⟨i, m, q, h1⟩))]; exact h2, h3.mono e2⟩
    · by_cases z : a = p
      · subst z; exact Lv.at id
      · exact (r2.dom a t).upd z
  have pz : Po ρ σ H ρ2 σ (upd H2 p (.dK [(k, vv)])) := by
    have pt := p1.trans p2
    refine ⟨fun a o n w nt => ?_, fun a w => ?_, fun a w => ?_⟩
    · have ne : a ≠ p := fun z => by subst z; rw [hp] at w; cases w
      rw [upd_ne ne]
      exact pt.keep a o n (by rw [upd_ne ne]; exact w) nt
    · rcases pt.own a w with z | z
      · exact .inl z
      · refine .inr ?_
        by_cases ne : a = p
        · subst ne; exact hp
        · rw [upd_ne ne] at z; exact z
    · by_cases ne : a = p
      · subst ne; rw [upd_same]; simp
      · rw [upd_ne ne]
        exact pt.dom a (by rw [upd_ne ne]; exact w)
  refine q (SV.ow (.dct [(k, d)])) ρ2 _ _ ⟨p, _, rfl, hp, upd_same, r3, ?_, fun _ _ z => nomatch z⟩ pz h
  exact (Paired.cons ⟨rfl, v2.mono e2⟩ Paired.nil : KvRp X.K _ [(k, d)] [(k, vv)])
theorem DGet.of {H : Hp} {q : Addr} {kws : List (Key × V)} {k : Key} (h : H q = some (.dK kws)) : DGet H q (kV k) (valV kws k) := DGet.k h
def dGetD (fa fb : DE) : DE := fun ρ Q => fa ρ fun z ρ1 => fb ρ1 fun y ρ2 => ∃ kvs k d, z = .dict (dkD kvs) ∧ keyD y = some k ∧ valD kvs k = some d ∧ Q d ρ2
def dInD (neg : Bool) (fb fa : DE) : DE := fun ρ Q => fb ρ fun y ρ1 => fa ρ1 fun z ρ2 => ∃ kvs k, z = .dict (dkD kvs) ∧ keyD y = some k ∧ Q (.bool (if neg then !(valD kvs k).isSome else (valD kvs k).isSome)) ρ2
def dGet1 (fa fb : DE) : DE := fun ρ Q => fa ρ fun z ρ1 => (∃ kvs, z = .dict (dkD kvs)) ∧ fb ρ1 fun y ρ2 => ∃ kvs k, z = .dict (dkD kvs) ∧ keyD y = some k ∧ Q ((valD kvs k).getD .none) ρ2
def lKeys (fa : DE) : DL := fun ρ Q => fa ρ fun z ρ1 => ∃ kvs, z = .dict (dkD kvs) ∧ Q (kvs.map fun p => keyB p.1) ρ1
def lSort (fa : DE) : DL := fun ρ Q => fa ρ fun z ρ1 => ∃ ns : List Int, seqD z = some (ns.map PyData.int) ∧ (∃ ds, z = .list ds) ∧ ∀ ns' : List Int, ns'.Perm ns → ns'.Pairwise (· ≤ ·) → Q (ns'.map PyData.int) ρ1
end
end Dn
set_option Elab.async false
set_option linter.all false
set_option maxRecDepth 100000
set_option autoImplicit false
set_option maxHeartbeats 4000000
namespace Dn
open PySem L2 Evl PySem.Spec PyProof.Rows
theorem erase_perm {l : List Int} {x : Int} (h : x ∈ l) : (x :: l.erase x).Perm l := (List.perm_cons_erase h).symm
theorem nodup_iff_len : ∀ (l ns : List Int), l.Nodup → (∀ k, k ∈ l ↔ k ∈ ns) → l.length ≤ ns.length ∧ (l.length = ns.length ↔ ns.Nodup)
  | [], ns, _, h => by
    cases ns with
    | nil => simp
    | cons x r => exact absurd ((h x).2 (by simp)) (by simp)
  | x :: l, ns, hd, h => by
    have hx : x ∈ ns := (h x).1 (by simp)
    have hd2 := List.nodup_cons.mp hd
    have p := erase_perm hx
    by_cases hy : x ∈ ns.erase x
    · -- x stands twice
      have h2 : ∀ k, k ∈ l ↔ k ∈ (ns.erase x).filter (fun z => decide (z ≠ x)) := fun k => by
        simp only [List.mem_filter, decide_eq_true_eq]
        constructor
        · intro hk
          have ne : k ≠ x := fun z => hd2.1 (by rw [← z]; exact hk)
          have : k ∈ x :: ns.erase x := p.mem_iff.2 ((h k).1 (by simp [hk]))
          rcases List.mem_cons.mp this with z | z
          · exact absurd z ne
          · exact ⟨z, ne⟩
        · rintro ⟨hk, ne⟩
          have : k ∈ ns := p.mem_iff.1 (by simp [hk])
          rcases List.mem_cons.mp ((h k).2 this) with z | z
          · exact absurd z ne
          · exact z
      have ih := nodup_iff_len l _ hd2.2 h2
      have lt : ((ns.erase x).filter (fun z => decide (z ≠ x))).length < (ns.erase x).length := by
        have := List.length_filter_lt_length_iff_exists (p := fun z => decide (z ≠ x)) (l := ns.erase x)
        exact this.2 ⟨x, hy, by simp⟩
      have e := p.length_eq
      simp only [List.length_cons] at e ⊢
      refine ⟨by omega, fun z => by omega, fun z => ?_⟩
      exact absurd (p.nodup_iff.2 z) (by simp [hy])
    · have h2 : ∀ k, k ∈ l ↔ k ∈ ns.erase x := fun k => by
        constructor
        · intro hk
          have ne : k ≠ x := fun z => hd2.1 (by rw [← z]; exact hk)
          have : k ∈ x :: ns.erase x := p.mem_iff.2 ((h k).1 (by simp [hk]))
          rcases List.mem_cons.mp this with z | z
          · exact absurd z ne
          · exact z
        · intro hk
          have : k ∈ ns := p.mem_iff.1 (by simp [hk])
          rcases List.mem_cons.mp ((h k).2 this) with z | z
          · rw [z] at hk; exact absurd hk hy
          · exact z
      have ih := nodup_iff_len l _ hd2.2 h2
      have e := p.length_eq
      simp only [List.length_cons] at e ⊢
      refine ⟨by omega, fun z => ?_, fun z => ?_⟩
      · exact p.nodup_iff.1 (List.nodup_cons.mpr ⟨hy, ih.2.1 (by omega)⟩)
      · have := ih.2.2 (List.nodup_cons.mp (p.nodup_iff.2 z)).2
        omega
section
variable {X : Cx} {a b c e : Expr} {fa fb fc : DE} {pos p : Pos} {es : List Expr} {x y : Str}
def tLenSetT (K : PySem.W.Frag) (ta : TE) : TE := fun σ H Q => ta σ H fun x H1 => ∃ (l : Addr) (ns : List Int), x = V.ref l ∧ SqT K H1 l (ns.map V.int) ∧ ns.length ≤ 4000 ∧ ∀ n : Nat, (n = ns.length ↔ ns.Nodup) → Q (.int n) H1
theorem pe_lenSetT {a : Expr} {ta : TE} {p p2 q pos : Pos} (hc : X.calm = true) (hg : Gl X "len") (hm : X.mg "len" = none) (hg2 : Gl X "set") (hm2 : X.mg "set" = none) (ha : PE X a ta)
    (na : starEach [a] X.env = (false, eval a X.env) :: starEach [] X.env := by rfl) : PE X (.Call (.Name "len" p) [.Call (.Name "set" p2) [a] [] q] [] pos) (tLenSetT X.K ta) := by
  refine ⟨fun pins s σ H Q I h => ?_⟩
  refine Call_ (ld_blt I hg hm PySem.boot_len ?_)
  refine PyProof.Rows.callWith_builtin1 (PyProof.Rows.args_cons ?_ rfl) rfl rfl
  refine Call_ (ld_blt I hg2 hm2 PyProof.Rows.boot_set ?_)
  refine PyProof.Rows.callWith_type1 (PyProof.Rows.args_cons (thn (ha.run pins s σ H _ I h) fun v s1 ⟨x, H1, I1, r1, q1⟩ => PyProof.Rows.args_nil ?_) na) na rfl
  obtain ⟨l, ns, rfl, hq, h1, q1⟩ := q1
  cases r1
  obtain ⟨its, r, pl, hz⟩ := I1.tuple hq
  refine call_set_tupI ns (I1.ok.hd hc) pl (by simpa using r.ints) (by unfold scanBound; omega) fun h' tk c R hc2 hk => ?_
  refine PyProof.Rows.args_nil ?_
  obtain ⟨o, es, ep, t, ho, hex, hd, _, nd, hm, hb, hf, hn, _⟩ := R
  have I2 : Inv X pins σ H1 { s1 with heap := h', toks := tk } := I1.kept fun b o e => hk b o e
  have hl := nodup_iff_len _ ns nd fun k => by rw [← hm k]; simp
  rw [List.length_map, Array.length_toList] at hl
  refine call_len_set ho hex hd hf (by omega) ⟨.int es.size, H1, I2.tok _, ⟨_, rfl⟩, q1 _ hl.2⟩
def dLenSet (fa : DE) : DE := fun ρ Q => fa ρ fun z ρ1 => ∃ ns : List Int, z = .tuple (ns.map PyData.int) ∧ ns.length ≤ 4000 ∧ ∀ n : Nat, (n = ns.length ↔ ns.Nodup) → Q (.int n) ρ1
theorem je_lenSet {p2 q : Pos} (hc : X.calm = true) (hm : X.mg "len" = none) (hm2 : X.mg "set" = none) (ha : JE X a fa) (hg : Gl X "len" := by rfl) (hg2 : Gl X "set" := by rfl)
    (na : starEach [a] X.env = (false, eval a X.env) :: starEach [] X.env := by rfl) : JE X (.Call (.Name "len" p) [.Call (.Name "set" p2) [a] [] q] [] pos) (dLenSet fa) := by
  obtain ⟨ta, pa, ka⟩ := ha.ex
  refine ⟨_, pe_lenSetT hc hg hm hg2 hm2 pa na, fun T ρ σ H QD Q r h q => ka T ρ σ H _ _ r h fun z ρ1 v H1 r1 p1 v1 h => ?_⟩
  obtain ⟨ns, rfl, h1, h2⟩ := h
  cases v1 with
  | tup hp rr =>
    obtain rfl := rr.of_ints
    exact ⟨_, ns, rfl, sqt_of hp, h1, fun n hn => q _ _ _ _ r1 p1 (.int _) (h2 n hn)⟩
def dRevT (fa : DE) : DE := fun ρ Q => fa ρ fun z ρ1 => ∃ ds, z = .tuple ds ∧ Q (.tuple ds.reverse) ρ1
def dRepT : D → D → (D → Prop) → Prop := fun x y Q => ∃ (ds : List D) (n : Int), x = .tuple ds ∧ y = .int n ∧ ds ≠ [] ∧ 2 ≤ n ∧ n ≤ 1000 ∧ ds.length ≤ 1000 ∧ Q (.tuple (List.replicate n.toNat ds).flatten)
theorem RpAll.rep {K : PySem.W.Frag} {G : Hp} {vs : List V} {ds : List D} (r : RpAll K G vs ds) : ∀ n : Nat, RpAll K G (List.replicate n vs).flatten (List.replicate n ds).flatten
  | 0 => .nil
  | n + 1 => by simpa [List.replicate_succ] using r.append (RpAll.rep r n)
end
end Dn
set_option Elab.async false
set_option linter.all false
set_option maxRecDepth 100000
set_option autoImplicit false
set_option maxHeartbeats 4000000
namespace SrL
open PySem PyProof.Rows Srt SrtO
def lx : List Int → List Int → Bool
  | [], [] => false
  | [], _ :: _ => true
  | _ :: _, [] => false
  | x :: a, y :: b => if x = y then lx a b else decide (x < y)
theorem lx_asym : ∀ {a b : List Int}, lx a b = true → lx b a = false
  | [], [], _ => rfl
  | [], _ :: _, _ => rfl
  | _ :: _, [], h => by simp [lx] at h
  | x :: a, y :: b, h => by
    unfold lx at h ⊢
    by_cases e : x = y
    · rw [if_pos e] at h; rw [if_pos e.symm]; exact lx_asym h
    · rw [if_neg e] at h; rw [if_neg (Ne.symm e)]
      have := of_decide_eq_true h
      exact decide_eq_false (by omega)
theorem lx_tr : ∀ {a b c : List Int}, lx b a = false → lx c b = false → lx c a = false
  | [], [], [], _, _ => rfl
  | [], [], _ :: _, _, h => by simp [lx] at h; rfl
  | [], _ :: _, [], _, h => by simp [lx] at h
  | [], _ :: _, _ :: _, _, _ => rfl
  | _ :: _, [], _, h, _ => by simp [lx] at h
  | _ :: _, _ :: _, [], _, h => by simp [lx] at h
  | x :: a, y :: b, z :: c, h1, h2 => by
    unfold lx at h1 h2 ⊢
    by_cases e1 : y = x
    · rw [if_pos e1] at h1
      by_cases e2 : z = y
      · rw [if_pos e2] at h2; rw [if_pos (e2.trans e1)]; exact lx_tr h1 h2
      · rw [if_neg e2] at h2; rw [if_neg (by rw [← e1]; exact e2)]; rw [← e1]; exact h2
    · rw [if_neg e1] at h1
      have k1 := of_decide_eq_false h1
      by_cases e2 : z = y
      · rw [e2, if_neg e1]; exact h1
      · rw [if_neg e2] at h2
        have k2 := of_decide_eq_false h2
        rw [if_neg (by omega)]
        exact decide_eq_false (by omega)
theorem swo_lx (k : Value → List Int) : Swo fun v u => lx (k v) (k u) := ⟨fun _ _ h => lx_asym h, fun _ _ _ h1 h2 => lx_tr h1 h2⟩
section
variable {prog : Program} {w : World} {A : Around} {E : Value → Shared → Prop} {s : Shared} {Q : Bool → Shared → Prop}
theorem lex_any {b fin : Bool} {xs ys : List Value} {ns ms : List Int} (i : Nat) (hx : IntsAre xs ns) (hy : IntsAre ys ms) (hf : fin = decide (ns.length < ms.length)) (h : Q (lx ns ms) s) : PySem.W.KatLex prog w A b fin Q (xs.zip ys) i s := by
  induction hx generalizing ys ms i with
  | nil =>
    cases hy with
    | nil => simp at hf; subst hf; exact PySem.W.kat_nil h
    | cons q u hy => simp at hf; subst hf; exact PySem.W.kat_nil h
  | @cons p t xs ns hx ih =>
    cases hy with
    | nil => simp at hf; subst hf; exact PySem.W.kat_nil h
    | @cons q u ys ms hy =>
      have hf' : fin = decide (ns.length < ms.length) := by simpa using hf
      show PySem.W.KatLex prog w A b fin Q ((Value.int p t, Value.int q u) :: xs.zip ys) i s
      refine PySem.W.kat_cons (wpAny_eqBool_int ?_)
      by_cases e : p = q
      · subst e
        rw [beq_self_eq_true]
        have d : lx (p :: ns) (p :: ms) = lx ns ms := by rw [lx, if_pos rfl]
        rw [d] at h
        refine PySem.W.kat_yes ?_
        first
          | exact ih (i + 1) hy hf' h
          | exact ih _ _ (i + 1) hy hf' h
      · rw [show (p == q) = false from beq_eq_false_iff_ne.mpr e]
        refine PySem.W.kat_no (TS.oneLt_ints _ ?_)
        have d : lx (p :: ns) (q :: ms) = decide (p < q) := by rw [lx, if_neg e]
        rw [d] at h
        exact h
theorem tup_cmp {vs : List Value} {k : Value → List Int} (hp : ∀ v ∈ vs, TS.TupInts s.heap v (k v)) : Cmp prog w A s (tuples' true) (fun p => p.1 ∈ vs) (lt2 fun v u => lx (k v) (k u)) := by
  intro p q hm hm'
  have h1 := hp _ hm
  have h2 := hp _ hm'
  show wpAny (model prog w) A (keyLt' (tuples' true) p.1 q.1) (fun r s' => s' = s ∧ r = lx (k p.1) (k q.1)) (fun _ _ => False) s
  generalize k p.1 = x at h1 ⊢
  generalize k q.1 = y at h2 ⊢
  obtain ⟨a, xs, e, ⟨o, ho, hc, n, hd⟩, i1⟩ := h1
  obtain ⟨a', xs', e', ⟨o', ho', hc', n', hd'⟩, i2⟩ := h2
  rw [e, e']
  refine PySem.W.kat_lt ho hd ho' hd' (lex_any 0 i1 i2 ?_ ⟨rfl, rfl⟩)
  rw [← i1.length, ← i2.length, Array.length_toList, Array.length_toList]
theorem firsts {h : Heap} {k : Value → List Int} : ∀ vs : List Value, (∀ v ∈ vs, TS.TupInts h v (k v)) → (∀ v ∈ vs, k v ≠ []) → ∃ fs, PySem.W.KatTups h vs fs ∧ fs.length = vs.length ∧ ∀ f, f ∈ fs → ∃ n t, f = Value.int n t
  | [], _, _ => ⟨[], PySem.W.KatTups.nil, rfl, fun f hf => by simp at hf⟩
  | v :: vs, x, hne => by
    obtain ⟨fs, kt, hl, hi⟩ := firsts vs (fun u hu => x u (List.mem_cons_of_mem _ hu)) fun u hu => hne u (List.mem_cons_of_mem _ hu)
    have hv := hne v (List.mem_cons_self ..)
    obtain ⟨a, xs, rfl, ⟨o, ho, hc, n, hdt⟩, i⟩ := x v (List.mem_cons_self ..)
    obtain ⟨y, ys, e⟩ : ∃ y ys, xs.toList = y :: ys := by
      cases q : xs.toList with
      | nil =>
        rw [q] at i
        have l := i.length
        rw [List.length_nil] at l
        exact absurd (List.length_eq_zero_iff.mp l.symm) hv
      | cons y ys => exact ⟨y, ys, rfl⟩
    obtain ⟨m, t, hy⟩ := i.all y (by rw [e]; exact List.mem_cons_self ..)
    refine ⟨y :: fs, PySem.W.KatTups.cons ho hc hdt ?_ kt, by simp [hl], ?_⟩
    · have z := congrArg (fun l : List Value => l[0]?) e
      simpa using z
    · intro f hf
      rcases List.mem_cons.mp hf with rfl | hf
      · exact ⟨m, t, hy⟩
      · exact hi f hf
theorem tups_sortableO {a : Addr} {vs : List Value} {k : Value → List Int} (h0 : 0 < vs.length) (hp : ∀ v ∈ vs, TS.TupInts s.heap v (k v)) (hne : ∀ v ∈ vs, k v ≠ []) (ha : ∀ o, s.heap.get? a = some o → o.cls ≠ .type "tuple") : SortableO prog w A s a vs fun v u => lx (k v) (k u) := by
  intro h' keep
  have hp' : ∀ v ∈ vs, TS.TupInts h' v (k v) := fun v hm => (hp v hm).keeps fun b o e c => keep b o (fun z => by subst z; exact ha o e c) e
  obtain ⟨fs, h1, h2, h3⟩ := firsts vs hp' hne
  refine ⟨tuples' true, fun Q E hq => ?_, tup_cmp hp'⟩
  refine PySem.W.kat_kind (T := .type "int") h1 (by omega) (fun f hm => ?_) (by rfl) ?_
  · obtain ⟨x, t, rfl⟩ := h3 f hm
    exact PySem.W.Looks.of_pure rfl
  · have e : (Value.type "int" != Value.type "tuple") = true := by first | decide +kernel | rfl | decide
    rw [e]
    exact hq
end
end SrL
namespace Dn
open PySem L2 Evl PySem.Spec PyProof.Rows SrL
section
variable {X : Cx}
def rSortL (K : PySem.W.Frag) : List V → Hp → VK → Prop := fun vs H Q => ∃ (a : Addr) (xs : List V), vs = [V.ref a] ∧ SqL K H a xs ∧ (∀ x ∈ xs, ∃ ns, TupI K H x ns ∧ ns ≠ []) ∧
  ∀ (ys : List V) (p : Addr), ys.Perm xs → ys.Pairwise (fun x y => ∀ n m, TupI K H x n → TupI K H y m → lx m n = false) → H p = none → Q (.ref p) (upd H p (.lst ys))
theorem cr_sortL : CallR X (.builtin "sorted") (rSortL X.K) := by
  intro pins s σ H vs us Q I r h
  obtain ⟨a, xs, rfl, hs, hx, q⟩ := h
  obtain ⟨its, rv, hl, hz⟩ := I.list hs
  rw [Vals.ref1 r]
  obtain ⟨e1, e2⟩ := bkV_refs rv fun x m => by
    obtain ⟨ns, ⟨t, e, _⟩, _⟩ := hx x m
    exact ⟨t, e⟩
  have tup : ∀ v, v ∈ its → TS.TupInts s.heap v (TS.intsOf s.heap v) ∧ TS.intsOf s.heap v ≠ [] := fun v hv => by
    obtain ⟨t, rfl⟩ := e2 v hv
    have hm : V.ref t ∈ xs := by
      rw [e1]
      exact List.mem_map.mpr ⟨_, hv, rfl⟩
    obtain ⟨ns, ⟨t', e, ht⟩, hn⟩ := hx _ hm
    cases e
    have ti := tupI_raw I ht
    rw [ti.ints]
    exact ⟨ti, hn⟩
  refine SrtO.sorted_ord (swo_lx (TS.intsOf s.heap)) hl.isList (by rw [← rv.length]; exact hz) (fun h2 h₁ a' ha kk => ?_) fun out hs2 hb => ?_
  · refine tups_sortableO (s := { s with heap := h₁ }) (by omega) (fun v hm => (tup v hm).1.keeps fun b o e _ => (kk b o e).2) (fun v hm => (tup v hm).2) fun o e => ?_
    have e' : some o = some (seqObj "list" its.toArray 0) := e.symm.trans ha
    cases e'
    intro c
    exact absurd (Value.type.inj c) (by decide)
  · obtain ⟨ep, he'⟩ := PyProof.Rows.sortedAll_at s.heap its out.toArray
    have h3 : ∀ u ∈ out, ∃ a, u = Value.ref a := fun u hu => e2 u (hb.perm.mem_iff.mp hu)
    have hp : (out.map bkV).Perm xs := by
      rw [e1]
      exact hb.perm.map bkV
    have hlen : (out.map bkV).length ≤ sizeLine := by
      rw [hp.length_eq]
      exact hz
    refine ⟨.ref _, upd H (s.heap.objs.size + 1) (.lst (out.map bkV)), I.laid (t' := s.toks) (fun _ _ => PyProof.Rows.sortedAll_old) (Nat.le_succ _) ⟨hlen, out, ep, bkV_vals h3, he'⟩, rfl, q _ _ hp ?_ (I.hok.fresh (Nat.le_succ _))⟩
    rw [List.pairwise_map]
    refine List.Pairwise.imp (fun {u v} huv n m hn hm => ?_) hs2
    obtain ⟨t, et, ht⟩ := hn
    obtain ⟨t', et', ht'⟩ := hm
    have eu := bkV_ref et
    have ev := bkV_ref et'
    have i1 : TS.intsOf s.heap u = n := by
      rw [eu]
      exact (tupI_raw I ht).ints
    have i2 : TS.intsOf s.heap v = m := by
      rw [ev]
      exact (tupI_raw I ht').ints
    rw [← i1, ← i2]
    exact huv
theorem RpAll.perm {K : PySem.W.Frag} {G : Hp} {ys xs : List V} (h : ys.Perm xs) : ∀ {ds : List D}, RpAll K G xs ds → ∃ ds', ds'.Perm ds ∧ RpAll K G ys ds' := by
  induction h with
  | nil => intro ds r; exact ⟨ds, .refl _, r⟩
  | cons x h ih =>
    intro ds r
    cases r with
    | cons r rr =>
      obtain ⟨ds', p, r2⟩ := ih rr
      exact ⟨_, p.cons _, .cons r r2⟩
  | swap x y l =>
    intro ds r
    cases r with
    | cons r rr =>
      cases rr with
      | cons r2 rr => exact ⟨_, .swap _ _ _, .cons r2 (.cons r rr)⟩
  | trans h1 h2 ih1 ih2 =>
    intro ds r
    obtain ⟨ds2, p2, r2⟩ := ih2 r
    obtain ⟨ds1, p1, r1⟩ := ih1 r2
    exact ⟨ds1, p1.trans p2, r1⟩
theorem perm_map {α : Type} {f : α → D} : ∀ {ys zs : List D}, ys.Perm zs → ∀ {l : List α}, zs = l.map f → ∃ l' : List α, ys = l'.map f ∧ l'.Perm l := by
  intro ys zs h
  induction h with
  | nil =>
    intro l e
    cases l with
    | nil => exact ⟨[], rfl, .nil⟩
    | cons _ _ => cases e
  | cons x h ih =>
    intro l e
    cases l with
    | nil => cases e
    | cons n ns =>
      simp at e
      obtain ⟨ms, e1, e2⟩ := ih e.2
      exact ⟨n :: ms, by simp [e1, e.1], e2.cons n⟩
  | swap x y l =>
    intro ns e
    match ns, e with
    | a :: b :: ns, e =>
      simp at e
      exact ⟨b :: a :: ns, by simp [e.1, e.2.1, e.2.2], .swap a b ns⟩
  | trans h1 h2 ih1 ih2 =>
    intro ns e
    obtain ⟨ms, e1, e2⟩ := ih2 e
    obtain ⟨ms2, e3, e4⟩ := ih1 e1
    exact ⟨ms2, e3, e4.trans e2⟩
def tI0 (ns : List Int) : D := .tuple (ns.map PyData.int)
theorem tupI_rp {K : PySem.W.Frag} {O : Addr → Prop} {H : Hp} {v : V} {ns : List Int} (r : Rp K (hide O H) v (tI0 ns)) : TupI K H v ns := by
  unfold tI0 at r
  cases r with
  | tup h rr =>
    obtain rfl := rr.of_ints
    exact ⟨_, rfl, sqt_of h⟩
theorem pw_rp {K : PySem.W.Frag} {O : Addr → Prop} {H : Hp} : ∀ {ys : List V} {L : List (List Int)}, RpAll K (hide O H) ys (L.map tI0) → ys.Pairwise (fun x y => ∀ n m, TupI K H x n → TupI K H y m → lx m n = false) → L.Pairwise fun a b => lx b a = false
  | _, [], _, _ => .nil
  | y :: ys, l :: L, .cons r rr, .cons h p => by
    refine .cons (fun b hb => ?_) (pw_rp rr p)
    obtain ⟨i, hi, e⟩ := List.mem_iff_getElem.mp hb
    have e2 : (L.map tI0)[i]? = some (tI0 b) := by rw [List.getElem?_map, List.getElem?_eq_getElem hi, e]; rfl
    obtain ⟨v, h1, h2⟩ := rr.get e2
    exact h v (List.mem_of_getElem? h1) l b (tupI_rp r) (tupI_rp h2)
variable {a : Expr} {fa : DE} {pos p : Pos}
def lSortT (fa : DE) : DL := fun ρ Q => fa ρ fun z ρ1 => ∃ L : List (List Int), z = .list (L.map tI0) ∧ (∀ l, l ∈ L → l ≠ []) ∧ ∀ L' : List (List Int), L'.Perm L → (L'.Pairwise fun a b => lx b a = false) → Q (L'.map tI0) ρ1
theorem jl_sortT (hm : X.mg "sorted" = none) (ha : JE X a fa) (hg : Gl X "sorted" := by rfl) (he : starEach [a] X.env = (false, eval a X.env) :: starEach [] X.env := by rfl) : JL X (.Call (.Name "sorted" p) [a] [] pos) (lSortT fa) := by
  obtain ⟨ta, pa, ka⟩ := ha.ex
  refine ⟨_, pe_callB cr_sortL hg hm (by decide +kernel) (pa_cons pa pa_nil he) (by decide) (by decide) he (by rfl), fun T ρ σ H QD Q r h q => ka T ρ σ H _ _ r h fun d ρ1 v H1 r1 p1 v1 h => ?_⟩
  obtain ⟨L, rfl, hne, h⟩ := h
  cases v1 with
  | lst hp rr =>
    refine ⟨_, _, rfl, .inl (.inl (at_of hp)), fun x hx => ?_, fun ys l h1 h2 hl => ?_⟩
    · obtain ⟨i, hi, e⟩ := List.mem_iff_getElem.mp hx
      obtain ⟨d, e2, r2⟩ := rr.get' (by rw [List.getElem?_eq_getElem hi, e])
      rw [List.getElem?_map] at e2
      obtain ⟨b, e3, rfl⟩ := Option.map_eq_some_iff.mp e2
      exact ⟨b, tupI_rp r2, hne b (List.mem_of_getElem? e3)⟩
    · obtain ⟨ds', pm, r2⟩ := RpAll.perm h1 rr
      obtain ⟨L', rfl, pm2⟩ := perm_map pm rfl
      exact q _ _ _ _ _ (none_back p1 hl) upd_same (r1.laid hl) (r2.mono (hd_laid hl)) (p1.trans (.grow (Ex.new hl))) (h L' pm2 (pw_rp r2 h2))
end
end Dn
set_option Elab.async false
set_option linter.all false
set_option maxRecDepth 100000
set_option autoImplicit false
set_option maxHeartbeats 4000000
namespace Dn
open PySem L2 Evl PySem.Spec PyProof.Rows
section
variable {X : Cx} {a b c e : Expr} {fa fb fc : DE} {pos p : Pos} {es : List Expr} {x y : Str}
def wpDc (g : DG) (tt : DT) (tk te : DE) (vs : List Nat) (Q : List (Key × D) → Env → Prop) : List D → List (Key × D) → Env → Prop
  | [], acc, ρ => Q acc ρ
  | d :: ds, acc, ρ => acc.length < 16777216 ∧ g d (wipeD ρ vs) fun ρ1 => tt ρ1 fun b ρ2 => if b = true then tk ρ2 fun yk ρk => te ρk fun y ρ3 => ∃ k, keyD yk = some k ∧ wpDc g tt tk te vs Q ds (putD acc k y) (wipeD ρ3 vs) else wpDc g tt tk te vs Q ds acc (wipeD ρ2 vs)
abbrev DDc := Env → (List (Key × D) → Env → Prop) → Prop
def lDc (fi : DL) (g : DG) (tt : DT) (tk te : DE) (vs : List Nat) : DDc := fun ρ Q => fi ρ fun ds ρ1 => wpDc g tt tk te vs Q ds [] (wipeD ρ1 vs)
def dOfK (f : DDc) : DE := fun ρ Q => f ρ fun kvs => Q (.dict (dkD kvs))
def xOwK (f : DDc) : DX := fun ρ Q => f ρ fun kvs => Q (.ow (.dct kvs))
def dMinL : List D → (D → Prop) → Prop := fun ds Q => ∃ ns : List Int, ds = [.list (ns.map PyData.int)] ∧ ns ≠ [] ∧ ∀ m, m ∈ ns → (∀ z, z ∈ ns → m ≤ z) → Q (.int m)
def dIndex (fa fb : DE) : DE := fun ρ Q => fa ρ fun z ρ1 => (∃ ds, z = .list ds) ∧ fb ρ1 fun y ρ2 => ∃ (ns : List Int) (n : Int) (j : Nat), z = .list (ns.map PyData.int) ∧ y = .int n ∧ ns[j]? = some n ∧ (∀ m : Nat, m < j → ns[m]? ≠ some n) ∧ Q (.int (j : Nat)) ρ2
def lRep (fa fb : DE) : DL := fun ρ Q => fa ρ fun z ρ1 => fb ρ1 fun y ρ2 => ∃ (ds : List D) (n : Int), z = .list ds ∧ y = .int n ∧ 0 ≤ n ∧ n ≤ 1000 ∧ ds.length ≤ 1000 ∧ Q (List.replicate n.toNat ds).flatten ρ2
theorem jl_rep (ha : JE X a fa) (hb : JE X b fb) : JL X (.BinOp a .Mult b pos) (lRep fa fb) := by
  obtain ⟨ta, pa, ka⟩ := ha.ex
  obtain ⟨tb, pb, kb⟩ := hb.ex
  refine ⟨_, pe_op op_rep pa pb, fun T ρ σ H QD Q r h q => ka T ρ σ H _ _ r h fun z ρ1 v H1 r1 p1 v1 h => kb T ρ1 σ H1 _ _ r1 h fun y ρ2 w H2 r2 p2 v2 h => ?_⟩
  obtain ⟨ds, n, rfl, rfl, h1, h2, h3, h⟩ := h
  cases v2
  have v1' := v1.monoW p2.fz
  cases v1' with
  | lst hp rr =>
    refine ⟨_, _, _, rfl, rfl, at_of hp, by omega, by omega, ?_, fun l hl => q _ _ _ _ _ (none_back (p1.trans p2) hl) upd_same (r2.laid hl) ((rr.rep _).mono (hd_laid hl)) ((p1.trans p2).trans (.grow (Ex.new hl))) h⟩
    rw [rr.length]
    have : ds.length * n.toNat ≤ 1000 * 1000 := Nat.mul_le_mul h3 (by omega)
    rw [sizeLine_eq]
    omega
end
end Dn
set_option Elab.async false
set_option linter.all false
set_option maxRecDepth 100000
set_option autoImplicit false
set_option maxHeartbeats 4000000
namespace Dn
open PySem L2 Evl PySem.Spec PyProof.Rows
def dNever : DE := fun _ _ => False
theorem je_never {X : Cx} {e : Expr} : JE X e dNever := ⟨fun _ _ _ => False, ⟨fun _ _ _ _ _ _ h => h.elim⟩, fun _ _ _ _ _ _ _ h _ => h.elim⟩
theorem wpLc_cps {g : DG} {tt : DT} {te : DE} {vs : List Nat} {Q : List D → Env → Prop} (P : List D → List D → Env → Prop) {ds : List D} {ρ0 : Env} (h0 : P [] [] ρ0)
    (hs : ∀ (done : List D) (d : D) (rest acc : List D) (ρ : Env) (K : List D → Env → Prop), ds = done ++ d :: rest → P done acc ρ → (∀ acc' ρ', P (done ++ [d]) acc' ρ' → K acc' ρ') →
      acc.length < 16777216 ∧ g d (wipeD ρ vs) fun ρ1 => tt ρ1 fun b ρ2 => if b = true then te ρ2 fun y ρ3 => K (acc ++ [y]) (wipeD ρ3 vs) else K acc (wipeD ρ2 vs))
    (he : ∀ acc ρ, P ds acc ρ → Q acc ρ) : wpLc g tt te vs Q ds [] ρ0 := by
  have aux : ∀ (rest done acc : List D) (ρ : Env), ds = done ++ rest → P done acc ρ → wpLc g tt te vs Q rest acc ρ := by
    intro rest
    induction rest with
    | nil => intro done acc ρ e p; rw [List.append_nil] at e; subst e; exact he acc ρ p
    | cons d rest ih =>
      intro done acc ρ e p
      exact hs done d rest acc ρ _ e p fun acc' ρ' p' => ih (done ++ [d]) acc' ρ' (by rw [e]; simp) p'
  exact aux ds [] [] ρ0 rfl h0
theorem wpLc_map {g : DG} {tt : DT} {te : DE} {vs : List Nat} {Q : List D → Env → Prop} (h : D → D) {ds : List D} {ρ0 : Env} (hl : ds.length < 16777216) (hw : wipeD ρ0 vs = ρ0)
    (hs : ∀ d, d ∈ ds → ∀ (K : D → Env → Prop), (∀ ρ3, wipeD ρ3 vs = ρ0 → K (h d) ρ3) → g d ρ0 fun ρ1 => tt ρ1 fun b ρ2 => if b = true then te ρ2 fun y ρ3 => K y ρ3 else False)
    (hf : ∀ d ρ1, d ∈ ds → tt ρ1 = fun K => K true ρ1) (he : Q (ds.map h) ρ0) : wpLc g tt te vs Q ds [] ρ0 := by
  refine wpLc_cps (fun done acc ρ => acc = done.map h ∧ ρ = ρ0) ⟨rfl, rfl⟩ (fun done d rest acc ρ K e p k => ?_) (fun acc ρ p => by obtain ⟨rfl, rfl⟩ := p; exact he)
  obtain ⟨rfl, rfl⟩ := p
  have hm : d ∈ ds := by rw [e]; simp
  refine ⟨by rw [List.length_map]; have := congrArg List.length e; simp at this; omega, ?_⟩
  rw [hw]
  have z := hs d hm (fun y ρ3 => K (done.map h ++ [y]) (wipeD ρ3 vs)) fun ρ3 w => by rw [w]; exact k _ _ ⟨by simp, rfl⟩
  have e2 : (fun ρ1 => tt ρ1 fun b ρ2 => if b = true then te ρ2 fun y ρ3 => K (done.map h ++ [y]) (wipeD ρ3 vs) else False) = fun ρ1 => tt ρ1 fun b ρ2 => if b = true then te ρ2 fun y ρ3 => K (done.map h ++ [y]) (wipeD ρ3 vs) else K (done.map h) (wipeD ρ2 vs) := by
    funext ρ1
    rw [hf d ρ1 hm]
    simp
  rw [← e2]
  exact z
theorem wpFor_cps {g : DG} {body : DS} {E : DEnds} (P : List D → Env → Prop) {ds : List D} {ρ0 : Env} (h0 : P [] ρ0)
    (hs : ∀ (done : List D) (d : D) (rest : List D) (ρ : Env) (K : Env → Prop), ds = done ++ d :: rest → P done ρ → (∀ ρ', P (done ++ [d]) ρ' → K ρ') → g d ρ fun ρ1 => body { nx := K, ct := K, bk := E.nx, rt := E.rt, er := E.er } ρ1)
    (he : ∀ ρ, P ds ρ → E.nx ρ) : wpFor g body E ds ρ0 := by
  have aux : ∀ (rest done : List D) (ρ : Env), ds = done ++ rest → P done ρ → wpFor g body E rest ρ := by
    intro rest
    induction rest with
    | nil => intro done ρ e p; rw [List.append_nil] at e; subst e; exact he ρ p
    | cons d rest ih =>
      intro done ρ e p
      exact hs done d rest ρ _ e p fun ρ' p' => ih (done ++ [d]) ρ' (by rw [e]; simp) p'
  exact aux ds [] ρ0 rfl h0
theorem wpFor_find {g : DG} {body : DS} {N bk ct : Env → Prop} {Q : D → Prop} {ds : List D} {ρ0 : Env} (f : D → Option D) (I : Env → Prop) (h0 : I ρ0)
    (hs : ∀ d, d ∈ ds → ∀ (ρ : Env) (K B : Env → Prop), I ρ → (∀ v, f d = some v → Q v) → (f d = none → ∀ ρ', I ρ' → K ρ') → g d ρ fun ρ1 => body { nx := K, ct := K, bk := B, rt := fun d _ => Q d } ρ1)
    (hf : ∀ v, ds.findSome? f = some v → Q v) (hn : ds.findSome? f = none → ∀ ρ, I ρ → N ρ) : wpFor g body { nx := N, rt := fun d _ => Q d, bk := bk, ct := ct } ds ρ0 := by
  induction ds generalizing ρ0 with
  | nil => exact hn rfl ρ0 h0
  | cons d ds ih =>
    refine hs d List.mem_cons_self ρ0 _ _ h0 (fun v e => hf v ?_) (fun e ρ' i => ih i (fun d hd => hs d (List.mem_cons_of_mem _ hd)) (fun v h => hf v ?_) fun h => hn ?_)
    · rw [List.findSome?_cons, e]
    · rw [List.findSome?_cons, e]; exact h
    · rw [List.findSome?_cons, e]; exact h
def tI (ns : List Int) : D := .tuple (ns.map PyData.int)
def tR (rs : List (List Int)) : D := .tuple (rs.map tI)
theorem eqvAll_int : ∀ (a b : List Int), PyData.eqvAll (a.map PyData.int) (b.map PyData.int) = decide (a = b)
  | [], [] => by simp [PyData.eqvAll]
  | [], _ :: _ => by simp [PyData.eqvAll]
  | _ :: _, [] => by simp [PyData.eqvAll]
  | x :: a, y :: b => by
    simp only [List.map_cons, PyData.eqvAll, PyData.eqv, eqvAll_int a b]
    by_cases h : x = y <;> simp [h]
theorem eqv_tI (a b : List Int) : PyData.eqv (tI a) (tI b) = decide (a = b) := by unfold tI; simp only [PyData.eqv, eqvAll_int]
theorem eqvAll_tI : ∀ (a b : List (List Int)), PyData.eqvAll (a.map tI) (b.map tI) = decide (a = b)
  | [], [] => by simp [PyData.eqvAll]
  | [], _ :: _ => by simp [PyData.eqvAll]
  | _ :: _, [] => by simp [PyData.eqvAll]
  | x :: a, y :: b => by
    simp only [List.map_cons, PyData.eqvAll, eqv_tI, eqvAll_tI a b]
    by_cases h : x = y <;> simp [h]
theorem layAll_int : ∀ (a : List Int), PyData.canLayAll0 (a.map PyData.int) = true ∧ PyData.depthAll (a.map PyData.int) = 0
  | [] => by simp [PyData.canLayAll0, PyData.depthAll]
  | x :: a => by simp [PyData.canLayAll0, PyData.canLay0, PyData.depthAll, PyData.depth, layAll_int a]
theorem lay_tI (a : List Int) : (tI a).canLay0 = true ∧ (tI a).depth = 1 := by
  unfold tI; simp [PyData.canLay0, PyData.depth, layAll_int a]
theorem shaped_tI (a : List Int) : SeqAt.shaped (tI a) = true := by
  unfold SeqAt.shaped; simp [lay_tI a]
theorem layAll_tI : ∀ (a : List (List Int)), PyData.canLayAll0 (a.map tI) = true ∧ PyData.depthAll (a.map tI) ≤ 1
  | [] => by simp [PyData.canLayAll0, PyData.depthAll]
  | x :: a => by
    have h := layAll_tI a
    have h2 := lay_tI x
    simp [PyData.canLayAll0, PyData.depthAll, h2.1, h2.2, h.1]
    omega
theorem atI_in {α : Type} {l : List α} {i : Int} {d : α} (h0 : 0 ≤ i) (h1 : i < l.length) : atI l i = some (l.getD i.toNat d) := by
  unfold atI ixN
  rw [if_pos h0, if_pos h1]
  have h2 : i.toNat < l.length := by omega
  simp [List.getD, List.getElem?_eq_getElem h2]
theorem ixI {r : List Int} {i : Int} {Q : D → Prop} (h0 : 0 ≤ i) (h1 : i < r.length) (h : Q (.int (r.getD i.toNat 0))) : dIx (tI r) (.int i) Q := by
  refine ⟨_, atI_in (d := .int 0) h0 (by simpa using h1), ?_⟩
  have h2 : i.toNat < r.length := by omega
  simp [List.getD, List.getElem?_eq_getElem h2] at h ⊢
  exact h
theorem ixR {r : List (List Int)} {i : Int} {Q : D → Prop} (h0 : 0 ≤ i) (h1 : i < r.length) (h : Q (tI (r.getD i.toNat []))) : dIx (tR r) (.int i) Q := by
  refine ⟨_, atI_in (d := tI []) h0 (by simpa using h1), ?_⟩
  have h2 : i.toNat < r.length := by omega
  simp [List.getD, List.getElem?_eq_getElem h2] at h ⊢
  exact h
theorem seq_tI (r : List Int) : seqD (tI r) = some (r.map PyData.int) := rfl
theorem seq_tR (r : List (List Int)) : seqD (tR r) = some (r.map tI) := rfl
structure Rw (rs : List (List Int)) : Prop where
  pos : 1 ≤ rs.length
  most : rs.length ≤ 24
  row : ∀ r, r ∈ rs → r.length = rs.length ∧ ∀ x, x ∈ r → 0 ≤ x ∧ x < rs.length
def rc (rs : List (List Int)) (a b : Int) : Int := (rs.getD a.toNat []).getD b.toNat 0
theorem getD_mem {α : Type} {l : List α} {i : Nat} {d : α} (h : i < l.length) : l.getD i d ∈ l := by
  simp [List.getD, List.getElem?_eq_getElem h]
theorem Rw.len {rs : List (List Int)} (h : Rw rs) {a : Int} (a0 : 0 ≤ a) (a1 : a < rs.length) : (rs.getD a.toNat []).length = rs.length := (h.row _ (getD_mem (by omega))).1
theorem Rw.rc {rs : List (List Int)} (h : Rw rs) {a b : Int} (a0 : 0 ≤ a) (a1 : a < rs.length) (b0 : 0 ≤ b) (b1 : b < rs.length) : 0 ≤ rc rs a b ∧ rc rs a b < rs.length := by
  refine (h.row _ (getD_mem (d := []) (show a.toNat < rs.length by omega))).2 _ (getD_mem ?_)
  rw [h.len a0 a1]; omega
theorem ixRC {rs : List (List Int)} {a b : Int} {Q : D → Prop} (h : Rw rs) (a0 : 0 ≤ a) (a1 : a < rs.length) (b0 : 0 ≤ b) (b1 : b < rs.length) (q : Q (.int (rc rs a b))) : dIx (tR rs) (.int a) fun d => dIx d (.int b) Q :=
  ixR a0 a1 (ixI b0 (by rw [h.len a0 a1]; exact b1) q)
def rgI (n : Nat) : List Int := (List.range n).map fun (k : Nat) => (k : Int)
theorem rgD_rgI (n : Nat) : rgD 0 (n : Int) = (rgI n).map PyData.int := by
  unfold rgD rgI
  simp
theorem mem_rgI {n : Nat} {x : Int} : x ∈ rgI n ↔ 0 ≤ x ∧ x < n := by
  unfold rgI
  simp only [List.mem_map, List.mem_range]
  constructor
  · rintro ⟨k, h, rfl⟩; omega
  · rintro ⟨h0, h1⟩; exact ⟨x.toNat, by omega, by omega⟩
theorem rgI_len (n : Nat) : (rgI n).length = n := by unfold rgI; simp
theorem rgI_get {n k : Nat} (h : k < n) : (rgI n)[k]? = some (k : Int) := by unfold rgI; simp [h]
end Dn
set_option Elab.async false
set_option linter.all false
set_option maxRecDepth 100000
set_option autoImplicit false
set_option maxHeartbeats 4000000
namespace Dn
open PySem L2 Evl Cq PyProof.Rows
def t3 (n : Nat) : List (Int × Int × Int) := (rgI n).flatMap fun x => (rgI n).flatMap fun y => (rgI n).map fun z => (x, y, z)
section
variable {X : Cx}
end
end Dn
set_option Elab.async false
set_option linter.all false
set_option maxRecDepth 100000
set_option autoImplicit false
set_option maxHeartbeats 4000000
namespace Dn
open PySem L2 Evl
inductive NL : D → Prop
  | non : NL .none
  | bl (b : Bool) : NL (.bool b)
  | int (i : Int) : NL (.int i)
  | str (x : Str) : NL (.str x)
  | tup {ds : List D} : (∀ d, d ∈ ds → NL d) → NL (.tuple ds)
inductive PL : D → Prop
  | nl {d : D} : NL d → PL d
  | lst {ds : List D} : (∀ d, d ∈ ds → PL d) → PL (.list ds)
def notL : D → Prop
  | .list _ => False
  | _ => True
inductive Ch (es : List D) : D → D → Prop
  | nl {d : D} : NL d → Ch es d d
  | repl {ds : List D} : (∀ d, d ∈ ds → notL d) → es.length = ds.length → Ch es (.list ds) (.list es)
  | lst {ds ds' : List D} : ds'.length = ds.length → (∀ (i : Nat) (d d' : D), ds[i]? = some d → ds'[i]? = some d' → Ch es d d') → Ch es (.list ds) (.list ds')
section
variable {K : PySem.W.Frag} {T B : Addr → Prop} {p : Addr} {ρ ρ1 ρ' : Env} {σ σ1 : L2.St} {H H1 H' G G' : Hp}
theorem NL.notL {d : D} (h : NL d) : notL d := by cases h <;> trivial
structure Fr (p : Addr) (ρ : Env) : Prop where
  dice : ∃ a b c : Int, ρ[0]? = some (some (.ow (.par p (.lst [.int a, .int b, .int c]))))
  rest : ∀ (i : Nat) (sv : SV), ρ[i]? = some (some sv) → i ≠ 0 → ∃ d, sv = .im d ∧ PL d
structure Qs (K : PySem.W.Frag) (T B : Addr → Prop) (p : Addr) (ρ : Env) (σ : L2.St) (H : Hp) : Prop where
  rs : RS K T ρ σ H
  fr : Fr p ρ
  lists : ∀ a xs, ¬ T a → a ≠ p → H a = some (.lst xs) → B a
  new : ∀ a, H a = none → B a
  tbs : ∀ a o, H a = some o → TbO o → B a
theorem Qs.at0 (q : Qs K T B p ρ σ H) : σ[0]? = some (some (.ref p)) := by
  obtain ⟨a, b, c, h⟩ := q.fr.dice
  obtain ⟨x, o, h1, _⟩ := q.rs.ow 0 _ h
  rw [h1, q.rs.tag 0 p _ x h h1]
theorem Qs.own (q : Qs K T B p ρ σ H) {a : Addr} : Own ρ σ a ↔ a = p := by
  constructor
  · rintro ⟨i, m, h1, h2⟩
    by_cases e : i = 0
    · subst e; rw [q.at0] at h2; cases h2; rfl
    · obtain ⟨d, z, _⟩ := q.fr.rest i _ h1 e
      cases z
  · rintro rfl
    obtain ⟨a, b, c, h⟩ := q.fr.dice
    exact ⟨0, _, h, q.at0⟩
theorem Qs.hd (q : Qs K T B p ρ σ H) {a : Addr} : Hd T ρ σ a ↔ T a ∨ a = p := by unfold Hd; rw [q.own]
theorem Qs.step (q : Qs K T B p ρ σ H) (r : RS K T ρ1 σ1 H1) (po : Po ρ σ H ρ1 σ1 H1) (f : Fr p ρ1) : Qs K T B p ρ1 σ1 H1 := by
  refine ⟨r, f, fun a xs t n h => ?_, fun a h => ?_, fun a o h to => ?_⟩
  · cases w : H a with
    | none => exact q.new a w
    | some o =>
      by_cases to : TbO o
      · exact q.tbs a o w to
      have := po.keep a o (fun z => n (q.own.1 z)) w to
      rw [h] at this; cases this
      exact q.lists a xs t n w
  · cases w : H a with
    | none => exact q.new a w
    | some o => exact absurd h (po.dom a (by rw [w]; simp))
  · cases w : H a with
    | none => exact q.new a w
    | some o2 =>
      by_cases t2 : TbO o2
      · exact q.tbs a o2 w t2
      by_cases n : Own ρ σ a
      · rw [q.own] at n
        subst n
        obtain ⟨x, y, z, w2⟩ := f.dice
        obtain ⟨b, o3, b1, b2, b3⟩ := r.ow 0 _ w2
        rw [r.tag 0 a _ b w2 b1] at b2
        rw [h] at b2; cases b2
        exact absurd to (rpo_tb b3)
      · have := po.keep a o2 n w t2
        rw [h] at this; cases this
        exact absurd to t2
structure Kp (B : Addr → Prop) (p : Addr) (H H' : Hp) : Prop where
  keep : ∀ a o, a ≠ p → ¬ B a → H a = some o → H' a = some o
  dom : ∀ a, H a ≠ none → H' a ≠ none
theorem Kp.refl {B : Addr → Prop} {p : Addr} : Kp B p H H := ⟨fun _ _ _ _ h => h, fun _ h => h⟩
theorem Kp.trans {B : Addr → Prop} {p : Addr} {H2 : Hp} (a : Kp B p H H1) (b : Kp B p H1 H2) : Kp B p H H2 := ⟨fun x o n m h => b.keep x o n m (a.keep x o n m h), fun x h => b.dom x (a.dom x h)⟩
theorem Qs.kp (q : Qs K T B p ρ σ H) (po : Po ρ σ H ρ1 σ1 H1) : Kp B p H H1 := ⟨fun a o n m h => po.keep a o (fun z => n (q.own.1 z)) h (fun t => m (q.tbs a o h t)), po.dom⟩
structure EndB (K : PySem.W.Frag) (T B : Addr → Prop) (p : Addr) (H : Hp) (E : DEnds) (D : Ends) : Prop where
  nx : ∀ ρ' σ' H', Qs K T B p ρ' σ' H' → Kp B p H H' → E.nx ρ' → D.nx σ' H'
  rt : ∀ d ρ' σ' v H', Qs K T B p ρ' σ' H' → Kp B p H H' → Rp K (hide (Hd T ρ' σ') H') v d → E.rt d ρ' → D.rt v H'
theorem EndB.step {E : DEnds} {D : Ends} (e : EndB K T B p H E D) (k : Kp B p H H1) : EndB K T B p H1 E D := ⟨fun a b c q k2 => e.nx a b c q (k.trans k2), fun a b c d f q k2 => e.rt a b c d f q (k.trans k2)⟩
theorem Ch.pl {es : List D} (ne : ∀ d, d ∈ es → NL d) {d d' : D} (p : PL d) (c : Ch es d d') : PL d' := by
  induction p generalizing d' with
  | nl n => cases c with
    | nl _ => exact .nl n
    | repl _ _ => cases n
    | lst _ _ => cases n
  | @lst ds _ ih => cases c with
    | nl n => cases n
    | repl _ _ => exact .lst fun d hd => .nl (ne d hd)
    | @lst _ ds' l h =>
      refine .lst fun d hd => ?_
      obtain ⟨i, hi⟩ := List.mem_iff_getElem?.mp hd
      have il : i < ds.length := by rw [← l]; exact (List.getElem?_eq_some_iff.mp hi).1
      exact ih ds[i] (List.getElem_mem il) (h i _ _ (List.getElem?_eq_getElem il) hi)
def L1 (d : D) : Prop := ∃ es, d = .list es ∧ ∀ e, e ∈ es → NL e
end
def sB (f : DS) : DS := fun E ρ => ∀ p, Fr p ρ → f { nx := fun ρ' => Fr p ρ' ∧ E.nx ρ', rt := fun d ρ' => Fr p ρ' ∧ E.rt d ρ' } ρ
section
variable {X : Cx} {V : D → Prop} {a b c e : Expr} {es : List Expr} {fa fb fc : DE} {pos ps px : Pos} {x y : Str} {st : Stmt} {sts : List Stmt} {f g : DS}
end
end Dn
set_option Elab.async false
set_option linter.all false
set_option maxRecDepth 100000
set_option autoImplicit false
set_option maxHeartbeats 4000000
namespace Dn
open PySem L2 Evl
section
variable {X : Cx} {es : List Expr} {pos : Pos}
def gTpL (n : Nat) (gs : List D → Env → (Env → Prop) → Prop) : DG := fun d ρ Q => match d with
  | .list ds => ds.length = n ∧ gs ds ρ Q
  | _ => False
end
end Dn
set_option Elab.async false
set_option linter.all false
set_option maxRecDepth 100000
set_option autoImplicit false
set_option maxHeartbeats 4000000
namespace Dn
open PySem L2 Evl
def isTupD : D → Prop
  | .tuple _ => True
  | _ => False
inductive NA : D → Prop
  | nl {d : D} : NL d → NA d
  | lst {e : D} {ds : List D} : ¬ isTupD e → NA e → (∀ d, d ∈ ds → NA d) → NA (.list (e :: ds))
section
variable {K : PySem.W.Frag} {G G' : Hp}
theorem NA.pl {d : D} (h : NA d) : PL d := by
  induction h with
  | nl n => exact .nl n
  | lst _ _ _ ih1 ih2 => exact PL.lst (fun d hd => (List.mem_cons.mp hd).elim (fun z => by rw [z]; exact ih1) (ih2 d))
end
section
variable {X : Cx} {s1 s2 : Stmt} {sts : List Stmt} {f1 f2 f : DS}
end
end Dn
set_option Elab.async false
set_option linter.all false
set_option maxRecDepth 100000
set_option autoImplicit false
set_option maxHeartbeats 4000000
namespace Dn
open PySem L2 Evl PySem.Spec PyProof.Rows
section
variable {X : Cx} {a : Expr} {fa : DE} {pos p : Pos}
def dLenSetL (fa : DE) : DE := fun ρ Q => fa ρ fun z ρ1 => ∃ ns : List Int, z = .list (ns.map PyData.int) ∧ ns.length ≤ 4000 ∧ ∀ n : Nat, n ≤ ns.length → (n = ns.length ↔ ns.Nodup) → Q (.int n) ρ1
end
end Dn
set_option Elab.async false
set_option linter.all false
set_option maxRecDepth 100000
set_option autoImplicit false
set_option maxHeartbeats 4000000
namespace Dn
open PySem L2 Evl Cq PyProof.Rows
section
variable {X : Cx} {e : Expr} {fe : DE} {pos : Pos}
def xRng (fe : DE) : DX := fun ρ Q => fe ρ fun d ρ1 => ∃ j : Int, d = .int j ∧ Q (.ow (.rng j)) ρ1
end
end Dn
set_option Elab.async false
set_option linter.all false
set_option maxRecDepth 100000
set_option autoImplicit false
set_option maxHeartbeats 4000000
namespace Dn
open PySem L2 Evl PySem.Spec PyProof.Rows
section
variable {X : Cx} {o b : Expr} {pos ps : Pos}
def dStrI : List D → (D → Prop) → Prop
  | [.int i] => fun Q => i.natAbs.log2 < 1920 ∧ Q (.str (toString i))
  | _ => fun _ => False
end
end Dn
set_option Elab.async false
set_option linter.all false
set_option maxRecDepth 100000
set_option autoImplicit false
set_option maxHeartbeats 4000000
namespace Dn
open PySem L2 Evl PySem.Spec PyProof.Rows
def sPar3 (i j k : Nat) (f g : DE) (h : DX) : DS := fun E ρ => f ρ fun d1 ρ1 => g ρ1 fun d2 ρ2 => h ρ2 fun s3 ρ3 => E.nx (((ρ3.set i (some (.im d1))).set j (some (.im d2))).set k (some s3))
section
variable {X : Cx} {a b c : Expr} {pos : Pos} {x y z : Str}
theorem js_par3 {i j k : Nat} {f g : DE} {h : DX} {px py pz pt : Pos} {kt k2 pt2} (hc : X.calm = true) (hN : X.N.Nodup) (hi : X.N[i]? = some x) (hj : X.N[j]? = some y) (hk : X.N[k]? = some z) (hij : i ≠ j) (hik : i ≠ k) (hjk : j ≠ k)
    (hx : X.env.scope.names.lookup x = some .local) (hy : X.env.scope.names.lookup y = some .local) (hz : X.env.scope.names.lookup z = some .local)
    (ha : JE X a f) (hb : JE X b g) (hcc : JX X c h)
    (hw : swappedStores [.Tuple [.Name x px, .Name y py, .Name z pz] kt pt] (.Tuple [a, b, c] k2 pt2) X.env = pure (some [x, y, z])) (hs : swapsWithSole [.Tuple [.Name x px, .Name y py, .Name z pz] kt pt] (.Tuple [a, b, c] k2 pt2) pos.line X.env = pure false := by rfl)
    (h1 : starEach [a, b, c] X.env = (false, eval a X.env) :: starEach [b, c] X.env := by rfl) (h2 : starEach [b, c] X.env = (false, eval b X.env) :: starEach [c] X.env := by rfl) (h3 : starEach [c] X.env = (false, eval c X.env) :: starEach [] X.env := by rfl) :
    JS X (.Assign [.Tuple [.Name x px, .Name y py, .Name z pz] kt pt] (.Tuple [a, b, c] k2 pt2) pos) (sPar3 i j k f g h) := by
  obtain ⟨t1, p1, k1⟩ := ha.ex
  obtain ⟨t2, p2, k2⟩ := hb.ex
  obtain ⟨t3, p3, k3⟩ := hcc.ex
  refine ⟨_, ps_par3 hc hN hi hj hk hij hik hjk hx hy hz (pa_cons p1 (pa_cons p2 (pa_cons p3 pa_nil h3) h2) h1) hw hs, fun T ρ σ H E D r h kk => ?_⟩
  refine k1 T ρ σ H _ _ r h fun d1 ρ1 v H1 r1 q1 v1 h => k2 T ρ1 σ H1 _ _ r1 h fun d2 ρ2 w H2 r2 q2 v2 h => k3 T ρ2 σ H2 _ _ r2 h fun s3 ρ3 u H3 f3 q3 h => ⟨v, w, u, rfl, ?_⟩
  obtain ⟨r4, q4⟩ := fits_set (i := k) r2 q3 f3
  have r5 := r4.setIm (i := j) (v2.monoW q4.fz)
  have e5 := q4.trans (Po.setIm (i := j) (d := d2) (v := w))
  have r6 := r5.setIm (i := i) ((v1.monoW q2.fz).monoW e5.fz)
  have e6 := e5.trans (Po.setIm (i := i) (d := d1) (v := v))
  rw [setc hjk.symm, setc hik.symm, setc hij.symm, setc hjk.symm, setc hik.symm, setc hij.symm] at r6 e6
  exact kk.nx _ _ _ r6 ((q1.trans q2).trans e6) h
end
end Dn
set_option Elab.async false
set_option linter.all false
set_option maxRecDepth 100000
set_option autoImplicit false
set_option maxHeartbeats 4000000
namespace Dn
open PySem L2 Evl PySem.Spec PyProof.Rows
section
variable {X : Cx} {a : Expr} {fa : DE} {pos p : Pos}
def dLenSet2 (fa : DE) : DE := fun ρ Q => fa ρ fun z ρ1 => ∃ ns : List Int, z = .tuple (ns.map PyData.int) ∧ ns.length ≤ 4000 ∧ ∀ n : Nat, n ≤ ns.length → (n = ns.length ↔ ns.Nodup) → Q (.int n) ρ1
end
end Dn
set_option Elab.async false
set_option linter.all false
set_option maxRecDepth 100000
set_option autoImplicit false
set_option maxHeartbeats 4000000
namespace Dn
open PySem PySem.W PySem.Calls L2 Evl PySem.Spec PyProof.Rows SrL
section
open SrtO Srt
variable {prog : Program} {w : World} {A : Around} {E : Value → Shared → Prop} {s : Shared}
end
def ksOf (ns : List Int) : List Key := ns.map Sum.inl
theorem ks_inj : ∀ {a b : List Int}, ksOf a = ksOf b → a = b
  | [], [], _ => rfl
  | [], _ :: _, e => by simp [ksOf] at e
  | _ :: _, [], e => by simp [ksOf] at e
  | x :: a, y :: b, e => by
    simp only [ksOf, List.map_cons, List.cons.injEq, Sum.inl.injEq] at e
    rw [e.1, ks_inj (a := a) (b := b) e.2]
end Dn
set_option Elab.async false
set_option linter.all false
set_option maxRecDepth 100000
set_option autoImplicit false
set_option maxHeartbeats 4000000
namespace Dn
open PySem L2 Evl PySem.Spec PyProof.Rows SrL
def valT (kvs : List (List Int × D)) (k : List Int) : Option D := (kvs.find? fun kv => decide (kv.1 = k)).map (·.2)
def putT (kvs : List (List Int × D)) (k : List Int) (d : D) : List (List Int × D) :=
  if (kvs.any fun kv => decide (kv.1 = k)) = true then kvs.map (fun kv => if kv.1 = k then (kv.1, d) else kv) else kvs ++ [(k, d)]
abbrev KtRp (K : PySem.W.Frag) (G : Hp) (kvs : List (List Int × D)) (kws : List (List Key × V)) : Prop := Paired (fun (p : List Int × D) (q : List Key × V) => p.1.map Sum.inl = q.1 ∧ Rp K G q.2 p.2) kvs kws
theorem ks_iff {a b : List Int} {k : List Key} (h : a.map Sum.inl = k) : a = b ↔ k = ksOf b := ⟨fun e => by rw [← h, e]; rfl, fun e => ks_inj (h.trans e)⟩
theorem KtRp.len {K : PySem.W.Frag} {G : Hp} {kvs : List (List Int × D)} {kws : List (List Key × V)} (h : KtRp K G kvs kws) : kvs.length = kws.length := Paired.length h
theorem KtRp.val {K : PySem.W.Frag} {G : Hp} {kvs : List (List Int × D)} {kws : List (List Key × V)} (h : KtRp K G kvs kws) (k : List Int) : (valT kvs k = none ∧ valV kws (ksOf k) = none) ∨ ∃ d v, valT kvs k = some d ∧ valV kws (ksOf k) = some v ∧ Rp K G v d := by
  induction h with
  | nil => exact .inl ⟨rfl, rfl⟩
  | @cons p q ps qs r t ih =>
    by_cases z : p.1 = k
    · refine .inr ⟨p.2, q.2, by simp [valT, List.find?_cons, z], valV_pos ((ks_iff r.1).1 z), r.2⟩
    · have z2 : ¬ q.1 = ksOf k := fun w => z ((ks_iff r.1).2 w)
      rw [valV_neg z2]
      have : valT (p :: ps) k = valT ps k := by simp [valT, List.find?_cons, z]
      rw [this]
      exact ih
theorem KtRp.any {K : PySem.W.Frag} {G : Hp} {kvs : List (List Int × D)} {kws : List (List Key × V)} (h : KtRp K G kvs kws) (k : List Int) : (kvs.any fun kv => decide (kv.1 = k)) = (kws.any fun kv => decide (kv.1 = ksOf k)) := by
  induction h with
  | nil => rfl
  | @cons p q ps qs r t ih => simp only [List.any_cons, ih, ks_iff r.1]
theorem KtRp.rep {K : PySem.W.Frag} {G : Hp} {kvs : List (List Int × D)} {kws : List (List Key × V)} (h : KtRp K G kvs kws) (k : List Int) {v : V} {d : D} (r : Rp K G v d) : KtRp K G (kvs.map fun kv => if kv.1 = k then (kv.1, d) else kv) (kws.map fun kv => if kv.1 = ksOf k then (kv.1, v) else kv) := by
  induction h with
  | nil => exact .nil
  | @cons p q ps qs s t ih =>
    refine .cons ?_ ih
    dsimp only
    by_cases z : p.1 = k
    · rw [if_pos z, if_pos ((ks_iff s.1).1 z)]
      exact ⟨s.1, r⟩
    · rw [if_neg z, if_neg (fun w => z ((ks_iff s.1).2 w))]
      exact s
theorem KtRp.add {K : PySem.W.Frag} {G : Hp} {kvs : List (List Int × D)} {kws : List (List Key × V)} (h : KtRp K G kvs kws) (k : List Int) {v : V} {d : D} (r : Rp K G v d) : KtRp K G (kvs ++ [(k, d)]) (kws ++ [(ksOf k, v)]) := by
  induction h with
  | nil => exact .cons ⟨rfl, r⟩ .nil
  | cons s t ih => exact .cons s ih
theorem KtRp.put {K : PySem.W.Frag} {G : Hp} {kvs : List (List Int × D)} {kws : List (List Key × V)} (h : KtRp K G kvs kws) (k : List Int) {v : V} {d : D} (r : Rp K G v d) : KtRp K G (putT kvs k d) (putK kws (ksOf k) v) := by
  unfold putT putK
  rw [h.any k]
  split
  · exact h.rep k r
  · exact h.add k r
def atT (ρ : Env) (i : Nat) : Option (List (List Int × D)) := match ρ[i]? with
  | some (some (.ow (.dtu kvs))) => some kvs
  | _ => none
theorem atT_some {ρ : Env} {i : Nat} {kvs : List (List Int × D)} (h : atT ρ i = some kvs) : ρ[i]? = some (some (SV.ow (.dtu kvs))) := by
  unfold atT at h
  split at h
  · cases h; assumption
  · cases h
theorem RS.atT {K : PySem.W.Frag} {T : Addr → Prop} {ρ : Env} {σ : L2.St} {H : Hp} {i : Nat} {kvs : List (List Int × D)} (r : RS K T ρ σ H) (h : Dn.atT ρ i = some kvs) : ∃ q kws, ρ[i]? = some (some (SV.ow (.dtu kvs))) ∧ σ[i]? = some (some (V.ref q)) ∧ H q = some (.dT kws) ∧ KtRp K (hide (Hd T ρ σ) H) kvs kws := by
  have hm := atT_some h
  obtain ⟨q, o, h1, h2, h3⟩ := r.ow i _ hm
  cases o with
  | dT kws => exact ⟨q, kws, hm, h1, h2, h3⟩
  | _ => exact h3.elim
section
variable {X : Cx} {a b c e : Expr} {fa fb fc : DE} {pos p : Pos} {es : List Expr} {x y : Str}
def dInT (neg : Bool) (i : Nat) (fb : DE) : DE := fun ρ Q => fb ρ fun y ρ1 => ∃ kvs k, atT ρ1 i = some kvs ∧ y = .tuple (k.map PyData.int) ∧ Q (.bool (if neg then !(valT kvs k).isSome else (valT kvs k).isSome)) ρ1
def sPutT (i : Nat) (fi fe : DE) : DS := fun E ρ => fe ρ fun d ρ1 => (atT ρ1 i).isSome = true ∧ fi ρ1 fun y ρ2 => ∃ kvs k, atT ρ2 i = some kvs ∧ y = .tuple (k.map PyData.int) ∧ kvs.length < sizeLine ∧ E.nx (ρ2.set i (some (.ow (.dtu (putT kvs k d)))))
def lSortDT (i : Nat) : DL := fun ρ Q => ∃ kvs, atT ρ i = some kvs ∧ (2 ≤ kvs.length → ∀ p, p ∈ kvs → p.1 ≠ []) ∧ ∀ L : List (List Int), L.Perm (kvs.map (·.1)) → (L.Pairwise fun a b => lx b a = false) → Q (L.map tI0) ρ
end
end Dn
set_option Elab.async false
set_option linter.all false
set_option maxRecDepth 100000
set_option autoImplicit false
set_option maxHeartbeats 4000000
namespace Dn
open PySem L2 Evl PySem.Spec PyProof.Rows SrL SrtO
section
variable {X : Cx} {a b c e : Expr} {fa fb fc : DE} {pos p : Pos} {es : List Expr} {x y : Str}
def lSortT2 (fa : DE) : DL := fun ρ Q => fa ρ fun z ρ1 => ∃ L : List (List Int), z = .list (L.map tI0) ∧ (2 ≤ L.length → ∀ l, l ∈ L → l ≠ []) ∧ ∀ L' : List (List Int), L'.Perm L → (L'.Pairwise fun a b => lx b a = false) → Q (L'.map tI0) ρ1
def dPop (i : Nat) : DE := fun ρ Q => ∃ ds d, atO ρ i = some (ds ++ [d]) ∧ Q d (setO ρ i ds)
theorem je_pop {i : Nat} {px pa pc : Pos} (hN : X.N[i]? = some x) (hv : Vis X.env.scope x) (hd : (x == ("__debug__" : Str)) = false := by decide) (hcd : (x == ("__classdict__" : Str)) = false := by decide)
    (hbase : attributeBase (.Name x px) "pop" X.env (eval (.Name x px) X.env) = eval (.Name x px) X.env := by rfl) (hline : (pa.endLine == pc.line) = true := by rfl) : JE X (.Call (.Attribute (.Name x px) "pop" pa) [] [] pc) (dPop i) := by
  refine ⟨_, pe_bm0 PySem.F.plainAttrs_list PySem.F.slot_list_pop PySem.F.type_list_pop mt_pop (pe_var hN hv hd hcd) hbase hline, fun T ρ σ H QD Q r h q => ?_⟩
  obtain ⟨ds, d, h0, h⟩ := h
  obtain ⟨m, l, vs, hm, hl, ho, hr⟩ := r.atO h0
  obtain ⟨u, hu, ru⟩ := hr.get (i := ds.length) (d := d) (by simp)
  have hlen := hr.length
  rw [List.length_append] at hlen
  have hr2 : RpAll X.K (hide (Hd T ρ σ) H) vs.dropLast ds := by
    have := hr.dropLast
    simpa using this
  obtain ⟨r3, q3⟩ := r.setO hm hl hr2
  refine ⟨_, hl, .inl ⟨rfl, _, .inl (.inl ho)⟩, l, vs, u, rfl, rfl, ho, ?_, q _ _ _ _ r3 q3 (ru.monoW q3.fz) h⟩
  rw [show vs.length - 1 = ds.length by simp at hlen; omega]
  exact hu
end
end Dn
set_option Elab.async false
set_option linter.all false
set_option maxRecDepth 100000
set_option autoImplicit false
set_option maxHeartbeats 4000000
namespace Dn
open PySem L2 Evl PySem.Spec PyProof.Rows SrL
section
variable {X : Cx} {a b c e : Expr} {fa fb fc : DE} {pos p : Pos} {es : List Expr} {x y : Str}
def xDctT1 (fk fv : DE) : DX := fun ρ Q => fk ρ fun y ρ1 => fv ρ1 fun d ρ2 => ∃ k : List Int, y = .tuple (k.map PyData.int) ∧ Q (.ow (.dtu [(k, d)])) ρ2
def pairD (q : List Int × D) : D := .tuple [.tuple (q.1.map PyData.int), q.2]
def xDctOf (f : DL) : DX := fun ρ Q => f ρ fun ds ρ1 => ∃ kvs : List (List Int × D), ds = kvs.map pairD ∧ (kvs.map (·.1)).Nodup ∧ Q (.ow (.dtu kvs)) ρ1
end
end Dn
set_option Elab.async false
set_option linter.all false
set_option maxRecDepth 100000
set_option autoImplicit false
set_option maxHeartbeats 4000000
namespace Dn
open PySem L2 Evl PySem.Spec PyProof.Rows SrL
section
variable {X : Cx} {a b c e : Expr} {fa fb fc : DE} {pos p : Pos} {es : List Expr} {x y : Str} {k : Nat} {f : Addr} {fd : FuncData} {ps : List Str} {n : Nat}
def dBinR (i : Nat) (op : D → D → (D → Prop) → Prop) (fb : DE) : DE := fun ρ Q => fb ρ fun y ρ1 => match ρ1[i]? with
  | some (some (.ow (.lst ds))) => op y (.list ds) fun z => isSc z = true ∧ Q z ρ1
  | _ => False
theorem jt_cmpR {op : D → D → (D → Prop) → Prop} {i : Nat} {y : Str} {py : Pos} {o : CmpOp} (ho : OpD X (compareOp o) op) (hN : X.N[i]? = some y) (hy : Vis X.env.scope y) (hb : JE X b fb) (hm : behindInMarks o (.Name y py) = false)
    (hd : (y == ("__debug__" : Str)) = false := by decide) (hcd : (y == ("__classdict__" : Str)) = false := by decide) : JT X (.Compare b [o] [.Name y py] pos) (dTst (dBinR i op fb)) := by
  obtain ⟨r, h1, h2⟩ := ho.ex
  obtain ⟨tb, pb, kb⟩ := hb.ex
  refine ⟨_, pt_cmpR h1 pb (pe_var hN hy hd hcd) hm, fun T ρ σ H QD Q r h q => kb T ρ σ H _ _ r h fun d ρ1 v H1 r1 p1 v1 h => ?_⟩
  split at h
  · rename_i ds e1
    have rf := r1.freeze e1
    obtain ⟨u, hu, ru⟩ := rf.im i (.list ds) (List.getElem?_set_self (List.getElem?_eq_some_iff.mp e1).1)
    refine ⟨u, hu, h2 _ H1 _ _ _ _ _ _ (fun a => rf.hdDom) (v1.mono hd_freeze) ru h fun z w H' e v2 h => ?_⟩
    cases v2 with
    | bl b => exact ⟨b, rfl, q _ _ _ (r1.grow e) (p1.trans (.grow e)) h.2⟩
    | _ => exact False.elim h.2
  · exact False.elim h
mutual
theorem nl_any {K : PySem.W.Frag} {G G' : Hp} (ht : ∀ a o, TuO o → G a = some o → G' a = some o) : ∀ {v : V} {d : D}, NL d → Rp K G v d → Rp K G' v d
  | _, _, .non, .non => .non
  | _, _, .bl _, .bl _ => .bl _
  | _, _, .int _, .int _ => .int _
  | _, _, .str _, .str _ => .str _
  | _, _, .tup hn, .tup hp rr => .tup (hp.keep (ht _)) (nl_anys ht hn rr)
theorem nl_anys {K : PySem.W.Frag} {G G' : Hp} (ht : ∀ a o, TuO o → G a = some o → G' a = some o) : ∀ {vs : List V} {ds : List D}, (∀ d, d ∈ ds → NL d) → RpAll K G vs ds → RpAll K G' vs ds
  | _, _, _, .nil => .nil
  | _, _, hn, .cons r rr => .cons (nl_any ht (hn _ (by simp)) r) (nl_anys ht (fun d hd => hn d (by simp [hd])) rr)
end
def dCallMO (i j : Nat) (S : List D → List D → (D → List D → Prop) → Prop) : DE := fun ρ Q => i ≠ j ∧ ∃ ms L, atO ρ i = some ms ∧ ρ[j]? = some (some (.ow (.lst L))) ∧ S ms [.list L] fun d ms' => NL d ∧ (∀ e, e ∈ ms' → NL e) ∧ Q d (setO ρ i ms')
end
end Dn
set_option Elab.async false
set_option linter.all false
set_option maxRecDepth 100000
set_option autoImplicit false
set_option maxHeartbeats 4000000
namespace Dn
open PySem L2 Evl PySem.Spec PyProof.Rows SrL
def NS : MO → Prop
  | .lst ds => ∀ d, d ∈ ds → NL d
  | .par _ m => NS m
  | .rng _ => True
  | _ => False
theorem ns_rpo {K : PySem.W.Frag} {G G' : Hp} (ht : ∀ a o, TuO o → G a = some o → G' a = some o) : ∀ {m : MO} {o : HO}, NS m → RpO K G m o → RpO K G' m o
  | .lst ds, o, n, h => by
    cases o with
    | lst vs => exact (nl_anys ht n h : RpAll K G' vs ds)
    | _ => exact False.elim h
  | .par _ m, o, n, h => ns_rpo (m := m) ht n h
  | .rng _, o, n, h => by cases o <;> first | exact False.elim h | exact h
  | .dct _, _, n, _ => n.elim
  | .dtu _, _, n, _ => n.elim
  | .obj _ _, _, n, _ => n.elim
def NSs (ρ : Env) (i : Nat) : Prop := ∀ (j : Nat) (sv : SV), j ≠ i → ρ[j]? = some (some sv) → match sv with
  | .im d => NL d
  | .ow m => NS m
def dKeep (i : Nat) (f : DT) : DT := fun ρ Q => ∃ ds, ρ[i]? = some (some (.ow (.lst ds))) ∧ (∀ d, d ∈ ds → NL d) ∧ f (ρ.set i (some (.im (.list ds)))) fun b ρ1 => i < ρ1.length ∧ NSs ρ1 i ∧ Q b (ρ1.set i (some (.ow (.lst ds))))
end Dn
set_option Elab.async false
set_option linter.all false
set_option maxRecDepth 100000
set_option autoImplicit false
set_option maxHeartbeats 4000000
namespace Dn
open PySem L2 Evl PySem.Spec PyProof.Rows
theorem obL_inj {nm nm' : Str} {es es' : List (Str × D)} (h : obL nm es = obL nm' es') : nm = nm' ∧ es = es' := by
  unfold obL at h
  simp only [List.cons.injEq, Prod.mk.injEq, and_true, true_and, PyData.tuple.injEq, PyData.str.injEq] at h
  refine ⟨h.1, ?_⟩
  have h2 := h.2
  clear h
  induction es generalizing es' with
  | nil => cases es' with
    | nil => rfl
    | cons => simp at h2
  | cons p es ih =>
    cases es' with
    | nil => simp at h2
    | cons q es' =>
      simp only [List.map_cons, List.cons.injEq, PyData.tuple.injEq, PyData.str.injEq, and_true] at h2
      obtain ⟨⟨a, b⟩, c⟩ := h2
      rw [ih c]
      congr 1
      exact Prod.ext a b
section
variable {K : PySem.W.Frag} {G : Hp}
theorem obj_rp {v : V} {nm : Str} {es : List (Str × D)} (r : Rp K G v (obD nm es)) : ∃ a dx fs, v = .ref a ∧ ObjC K (adrOf K nm) ∧ G a = some (.ins (adrOf K nm) dx fs) ∧ RpFs K G fs es := by
  generalize e : obD nm es = d at r
  cases r with
  | ins o h r z =>
    injection e with e
    rw [z] at e
    obtain ⟨rfl, rfl⟩ := obL_inj e
    exact ⟨_, _, _, rfl, o, h, r⟩
  | dct _ _ z =>
    injection e with e
    rw [z] at e
    rename_i kvs _ _ _
    cases kvs with
    | nil => cases e
    | cons p r => obtain ⟨k, d⟩ := p; cases k <;> cases e
  | frz _ _ => cases e
  | _ => cases e
theorem RpFs.look {f : Str} {d : D} : ∀ {fs : List (Str × V)} {es : List (Str × D)}, RpFs K G fs es → es.lookup f = some d → ∃ v, fs.lookup f = some v ∧ Rp K G v d
  | _, _, .nil, h => by cases h
  | _, _, .cons (k := k) (v := v) r rs, h => by
    by_cases e : f = k
    · subst e
      rw [List.lookup_cons_self] at h ⊢
      cases h
      exact ⟨_, rfl, r⟩
    · rw [List.lookup_cons, show (f == k) = false from by simpa using e] at h ⊢
      exact RpFs.look rs h
def putE (f : Str) (d : D) : List (Str × D) → List (Str × D)
  | [] => [(f, d)]
  | (g, x) :: r => if g = f then (g, d) :: r else (g, x) :: putE f d r
theorem RpFs.put {f : Str} {v : V} {d : D} (h : Rp K G v d) : ∀ {fs : List (Str × V)} {es : List (Str × D)}, RpFs K G fs es → RpFs K G (putF f v fs) (putE f d es)
  | _, _, .nil => .cons h .nil
  | _, _, .cons (k := k) r rs => by
    unfold putF putE
    by_cases e : k = f
    · rw [if_pos e, if_pos e]; exact .cons h rs
    · rw [if_neg e, if_neg e]; exact .cons r (RpFs.put h rs)
theorem RpFs.length : ∀ {fs : List (Str × V)} {es : List (Str × D)}, RpFs K G fs es → fs.length = es.length
  | _, _, .nil => rfl
  | _, _, .cons _ r => by simp [RpFs.length r]
end
section
variable {X : Cx} {a b c e o : Expr} {fa fb fc fo : DE} {pos p apos : Pos} {es : List Expr} {x y m nm : Str} {k n : Nat} {g : DA}
def dFld (nm f : Str) (fa : DE) : DE := fun ρ Q => fa ρ fun d ρ1 => ∃ es v, d = obD nm es ∧ es.lookup f = some v ∧ Q v ρ1
theorem je_fld {f : Str} (hN : NoAttr X.K (adrOf X.K nm) f) (ha : JE X a fa) (hb : attributeBase a f X.env (eval a X.env) = eval a X.env := by rfl) : JE X (.Attribute a f pos) (dFld nm f fa) := by
  obtain ⟨t, pa, ka⟩ := ha.ex
  refine ⟨_, pe_fld pa hb, fun T ρ σ H QD Q r h q => ka T ρ σ H _ _ r h fun d ρ1 v H1 r1 p1 v1 h => ?_⟩
  obtain ⟨es, d', rfl, hl, hq⟩ := h
  obtain ⟨l, dx, fs, rfl, ob, hg, rf⟩ := obj_rp v1
  obtain ⟨u, hu, ru⟩ := rf.look hl
  exact ⟨l, _, dx, fs, u, rfl, (hide_some.1 hg).2, ob.cls, hN, hu, q d' ρ1 u H1 r1 p1 ru hq⟩
def OkM (P : Program) (w : World) (K : PySem.W.Frag) (mg : Str → Option Value) (base : Heap) (C : Addr) (m : Str) (ps : List Str) (k : Nat) (sp : Sp) : Prop :=
  ∃ f fd, FnOk P w K mg base L2.CX0 k f fd ps sp ∧ Meth K C m f ∧ Binds K fd ps []
def OkP (P : Program) (w : World) (K : PySem.W.Frag) (mg : Str → Option Value) (base : Heap) (C : Addr) (m : Str) (k : Nat) (sp : Sp) : Prop :=
  ∃ p g fd, PropOf K C m p g ∧ FnOk P w K mg base L2.CX0 k g fd ["self"] sp ∧ Binds K fd ["self"] []
def dMeth (n : Nat) (nm m : Str) (S : List D → (D → Prop) → Prop) (fo : DE) (g : DA) : DE := fun ρ Q => fo ρ fun d ρ1 => ∃ es, d = obD nm es ∧ es.lookup m = none ∧ g ρ1 fun ds ρ2 => ds.length + 1 = n ∧ S (d :: ds) fun z => Q z ρ2
theorem never {CX : CXT} {X : Cx} : Passes L2.CX0 X (fun _ _ _ => False) := fun _ _ _ _ _ _ _ h => h.elim
def dProp (nm : Str) (S : List D → (D → Prop) → Prop) (fo : DE) : DE := fun ρ Q => fo ρ fun d ρ1 => (∃ es, d = obD nm es) ∧ S [d] fun z => Q z ρ1
theorem je_prop {S : List D → (D → Prop) → Prop} {f : Str} (O : OkP X.prog X.w X.K X.mg X.base (adrOf X.K nm) f k (spD X.K 1 S)) (hc : Cls X.K (adrOf X.K nm)) (hr : Room (k + 1) X.A) (ho : JE X o fo)
    (hab : attributeBase o f X.env (eval o X.env) = eval o X.env := by rfl) : JE X (.Attribute o f pos) (dProp nm S fo) := by
  obtain ⟨pp, gg, fd, M, F, B⟩ := O
  obtain ⟨to, po, ko⟩ := ho.ex
  refine ⟨_, pe_prop (E := fun _ _ _ => False) po hc M F hr B .nil (fun _ _ _ _ _ _ _ h => h.elim) hab, fun T ρ σ H QD Q r h q => ko T ρ σ H _ _ r h fun d ρ1 v H1 r1 p1 v1 h => ?_⟩
  obtain ⟨⟨es', rfl⟩, h⟩ := h
  obtain ⟨l, dx, fs, rfl, ob, hg, rf⟩ := obj_rp v1
  refine ⟨l, dx, fs, rfl, (hide_some.1 hg).2, ?_⟩
  exact spD_of (E := fun _ _ _ => False) (vs := [V.ref l]) r1 p1 (.cons v1 .nil) rfl h q
def spI (K : PySem.W.Frag) (nm : Str) (n : Nat) (S : List D → (List (Str × D) → Prop) → Prop) : Sp := fun vs H Q _ => ∃ (T : Addr → Prop) (x dx : Addr) (us : List V) (ds : List D) (QD : List (Str × D) → Prop), vs = .ref x :: us ∧ us.length + 1 = n ∧ ObjC K (adrOf K nm) ∧
  (∀ a, T a → Lv H a) ∧ ¬ T x ∧ H x = some (.ins (adrOf K nm) dx []) ∧ RpAll K (hide (plus T x) H) us ds ∧ TbOk K H ∧ S ds QD ∧
  ∀ es fs dx' H', QD es → ExL K x H H' → H' x = some (.ins (adrOf K nm) dx' fs) → RpFs K (hide (plus T x) H') fs es → Q .non H'
def OkI (P : Program) (w : World) (K : PySem.W.Frag) (mg : Str → Option Value) (base : Heap) (nm : Str) (ps : List Str) (k : Nat) (sp : Sp) : Prop :=
  ∃ f fd, FnOk P w K mg base L2.CX0 k f fd ps sp ∧ L2.Mk K (adrOf K nm) f ∧ Binds K fd ps [] ∧ mg nm = some (.ref (adrOf K nm)) ∧ ObjC K (adrOf K nm)
theorem newE {K : PySem.W.Frag} {H H1 H' : Hp} {z : Addr} (kp : ExL K z H H') (hz : H1 z = none) (old : ∀ {a : Addr} {o : HO}, H1 a = some o → H a = some o) (tb : TbOk K H) : ExG K H1 H' :=
  ⟨⟨fun a o w nt => kp.k a o (fun u => by rw [u, hz] at w; cases w) (old w) nt, fun a w => by
    cases e : H1 a with
    | none => exact absurd e w
    | some o => exact kp.d a (by rw [old e]; simp)⟩, fun _ => kp.t tb⟩
def dNew (n : Nat) (nm : Str) (S : List D → (List (Str × D) → Prop) → Prop) (g : DA) : DE := fun ρ Q => g ρ fun ds ρ1 => ds.length + 1 = n ∧ S ds fun es => Q (obD nm es) ρ1
theorem je_new {S : List D → (List (Str × D) → Prop) → Prop} {ps : List Str} (O : OkI X.prog X.w X.K X.mg X.base x ps k (spI X.K x n S)) (hr : Room (k + 1) X.A) (ha : JA X (e :: es) g) (hg : Gl X x := by rfl)
    (hdb : (x == ("__debug__" : Str)) = false := by decide) (he : starEach (e :: es) X.env = (false, eval e X.env) :: starEach es X.env := by rfl) (hpl : (backTo pos (starEach es X.env)).any (·.1) = false := by rfl) : JE X (.Call (.Name x p) (e :: es) [] pos) (dNew n x S g) := by
  obtain ⟨f, fd, F, M, B, hm, oc⟩ := O
  obtain ⟨t, pa, ka⟩ := ha.ex
  refine ⟨_, pe_make (E := fun _ _ _ => False) M F hr hg hm B .nil (fun _ _ _ _ _ _ _ h => h.elim) pa hdb he hpl, fun T ρ σ H QD Q r h q => ka T ρ σ H _ _ r h fun ds ρ1 vs H1 r1 p1 v1 h => ?_⟩
  intro z dx hz hdx hne
  obtain ⟨hn, h⟩ := h
  rw [List.append_nil]
  have old : ∀ {a : Addr} {o : HO}, H1 a = some o → upd (upd H1 dx (.own z)) z (.ins (adrOf X.K x) dx []) a = some o := fun {a o} w => by
    rw [upd_ne (fun e => by rw [e, hz] at w; cases w), upd_ne (fun e => by rw [e, hdx] at w; cases w)]
    exact w
  have nz : ¬ Hd T ρ1 σ z := fun w => r1.hdDom w hz
  have tb0 : TbOk X.K (upd (upd H1 dx (.own z)) z (.ins (adrOf X.K x) dx [])) := r1.tb.keep fun b o _ w => old w
  have e1 : Ex (hide (Hd T ρ1 σ) H1) (hide (plus (Hd T ρ1 σ) z) (upd (upd H1 dx (.own z)) z (.ins (adrOf X.K x) dx []))) := fun a o w => by
    obtain ⟨w1, w2⟩ := hide_some.1 w
    refine hide_some.2 ⟨fun u => ?_, old w2⟩
    rcases u with u | u
    · rw [u, hz] at w2; cases w2
    · exact w1 u
  refine ⟨Hd T ρ1 σ, z, dx, vs, ds, _, rfl, by rw [v1.length, hn], oc, fun a w => (r1.hdLv w).keep fun o w => old w, nz, upd_same, v1.mono e1, tb0, h, fun es' fs dx' H' hq kp hx rf => ⟨rfl, ?_⟩⟩
  have e2 : ExG X.K H1 H' := newE kp hz (fun w => old w) tb0
  refine q (obD x es') ρ1 (.ref z) H' (r1.growE e2) (p1.trans (.growE e2)) (.ins oc (hide_some.2 ⟨nz, hx⟩) (rf.mono (hide_sub fun a w => .inr w)) rfl) hq
def sFldD (i : Nat) (nm f : Str) (fe : DE) : DS := fun E ρ => fe ρ fun d ρ1 => ∃ l es, ρ1[i]? = some (some (.ow (.par l (.obj nm es)))) ∧ es.length < 1000 ∧ E.nx (ρ1.set i (some (.ow (.par l (.obj nm (putE f d es))))))
theorem js_fld {i : Nat} {f : Str} {px pos' : Pos} (hN : X.N[i]? = some x) (hv : Vis X.env.scope x) (hA : NoAttr X.K (adrOf X.K nm) f) (he : JE X e fa) (hd : (x == ("__debug__" : Str)) = false := by decide) (hcd : (x == ("__classdict__" : Str)) = false := by decide)
    (hs : swapsWith e (some (.Attribute (.Name x px) f pos')) pos.line X.env = pure false := by rfl) : JS X (.Assign [.Attribute (.Name x px) f pos'] e pos) (sFldD i nm f fa) := by
  obtain ⟨t, pt, kt⟩ := he.ex
  refine ⟨_, ps_fld (pe_var hN hv hd hcd) pt hs, fun T ρ σ H E D r h k => kt T ρ σ H _ _ r h fun d ρ1 v H1 r1 p1 v1 h => ?_⟩
  obtain ⟨l, es', hi, hl, h⟩ := h
  obtain ⟨a, o, ha, ho, hr⟩ := r1.ow i _ hi
  have hr' : RpO X.K (hide (Hd T ρ1 σ) H1) (.obj nm es') o := by unfold RpO at hr; exact hr
  cases o with
  | ins C dx fs =>
    obtain ⟨rfl, ob, rf⟩ := (show C = adrOf X.K nm ∧ ObjC X.K C ∧ RpFs X.K _ fs es' from hr')
    refine ⟨_, ha, a, _, dx, fs, rfl, ho, ob.cls, hA, by rw [rf.length]; exact hl, ?_⟩
    have hp : RpO X.K (hide (Hd T ρ1 σ) H1) (.par l (.obj nm (putE f d es'))) (.ins (adrOf X.K nm) dx (putF f v fs)) := by
      unfold RpO
      exact ⟨rfl, ob, rf.put v1⟩
    have r3 := r1.write hi ha hp (fun q m1 z => by cases z; exact r1.tag i _ _ a hi ha)
    exact k.nx _ _ _ r3 (p1.trans (.write hi ha)) h
  | _ => exact False.elim hr'
end
end Dn
set_option Elab.async false
set_option linter.all false
set_option maxRecDepth 100000
set_option autoImplicit false
set_option maxHeartbeats 4000000
namespace OwnNe
open PySem PySem.W Builtin PyProof.Rows
section
variable {prog : Program} {w : World} {A : Around} {E : Value → Shared → Prop} {s : Shared} {K : Frag} {x C L f : Addr} {h₀ : Heap} {m : Str → Option Value} {ox : Obj} {od : Option Obj} {b tb : Value}
end
end OwnNe
namespace Dn
open PySem L2 Evl PySem.Spec PyProof.Rows
structure Slo (K : PySem.W.Frag) (C : Addr) (m : Str) (f : Addr) : Prop where
  at_ : PySem.W.findIn K (.ref C) m = some (some (.ref f))
  fn : PySem.W.isFn K (.ref f) = true
section
variable {X : Cx} {CX : CXT} {k : Nat} {C f : Addr} {sp : Sp} {E : XK}
def rLenOwn (C : Addr) (sp : Sp) (E : XK) : List V → Hp → VK → Prop := fun xs H Q => ∃ a dx fs, xs = [V.ref a] ∧ H a = some (.ins C dx fs) ∧ sp [.ref a] H (fun z H' => ∃ n : Nat, z = .int n ∧ n < 2 ^ 63 ∧ Q (.int n) H') E
theorem call_lenOwn (hs : Slo X.K C "__len__" f) (F : FnR X.prog X.w X.K X.mg X.base CX k f sp) (hr : Room (k + 1) X.A) (hx : Passes CX X E) : CallR X (.builtin "len") (rLenOwn C sp E) := by
  intro pins s σ H xs us Q I r h
  obtain ⟨a, dx, fs, rfl, ha, q⟩ := h
  obtain ⟨u, rfl, ru⟩ := r.one
  cases (show u = Value.ref a from ru)
  obtain ⟨mA, J, _⟩ := ins_get I.hok ha
  obtain ⟨od, J, _⟩ := J.look
  obtain ⟨m, hF⟩ := I.fr
  refine PySem.W.len_K hF I.ok.mod.kin J hs.at_ hs.fn ?_
  refine wpAny_mono (wpAny_call (SlX.run_at (us := [.ref a]) (ws := [.ref a]) F hr.in1 I.env0.in1 hx I (.cons rfl .nil) q)) (fun w s' z => ?_) fun _ _ x => x
  obtain ⟨z', H', I', rz, n, rfl, hn, qz⟩ := z
  obtain ⟨t, e⟩ := (show ∃ t, w = Value.int n t from rz)
  cases e
  refine ⟨⟨by omega, by omega⟩, .int n, H', I'.tok _, ⟨_, rfl⟩, qz⟩
end
end Dn
set_option Elab.async false
set_option linter.all false
set_option maxRecDepth 100000
set_option autoImplicit false
set_option maxHeartbeats 4000000
namespace Dn
open PySem L2 Evl PySem.Spec PyProof.Rows
def insN : D → Option Str
  | .dict [(.bool true, .tuple (.str nm :: _))] => some nm
  | _ => none
theorem insN_ob (nm : Str) (es : List (Str × D)) : insN (obD nm es) = some nm := rfl
structure IsC (K : PySem.W.Frag) (C : Addr) : Prop where
  ic : (PySem.W.clsIn K C).isSome = true
  ty : PySem.W.typeIn K (.ref C) = some (.type "type")
def Oth (K : PySem.W.Frag) (nm : Str) (oth : List Str) : Prop := ∀ n ∈ oth, PySem.W.kitOne K (.ref (adrOf K n)) (.ref (adrOf K nm)) = some false
theorem sub_bt {K : PySem.W.Frag} {C : Addr} {n : String} (h : n ∈ ["NoneType", "bool", "int", "str", "list", "tuple", "dict"]) : PySem.W.subIn K (.type n) (.ref C) = some false := by
  have e : (PySem.fastBuiltinMro n).map (fun l => l.all fun v => match v with | .type _ => true | _ => false) = some true := by
    simp only [List.mem_cons, List.not_mem_nil, or_false] at h
    rcases h with rfl | rfl | rfl | rfl | rfl | rfl | rfl <;> kernel_rfl
  unfold PySem.W.subIn
  cases q : PySem.fastBuiltinMro n with
  | none => rw [q] at e; cases e
  | some l =>
    rw [q] at e
    simp only [Option.map_some, Option.some.injEq] at e
    show (PySem.fastBuiltinMro n).map (fun l => l.contains (Value.ref C)) = some false
    rw [q]
    show some (l.contains (Value.ref C)) = some false
    congr 1
    rw [Bool.eq_false_iff]
    intro z
    rw [List.contains_iff_mem] at z
    have := List.all_eq_true.mp e _ z
    simp at this
theorem cls_bt {K : PySem.W.Frag} {C : Addr} (ic : IsC K C) {n : String} (h : n ∈ ["NoneType", "bool", "int", "str", "list", "tuple", "dict"]) : PySem.W.kitOne K (.type n) (.ref C) = some false ∧ PySem.W.notFirst K C (.type n) = true := by
  have s := sub_bt (K := K) (C := C) h
  constructor
  · unfold PySem.W.kitOne
    rw [if_neg (by simp)]
    show (if ((PySem.W.clsIn K C).isSome && PySem.W.typeIn K (.ref C) == some (.type "type")) = true then PySem.W.subIn K (.type n) (.ref C) else none) = some false
    rw [if_pos (by rw [ic.ic, ic.ty]; simp)]
    exact s
  · unfold PySem.W.notFirst
    rw [s]
    simp
theorem cls_ref {K : PySem.W.Frag} {C C' : Addr} (h : PySem.W.kitOne K (.ref C') (.ref C) = some false) : PySem.W.notFirst K C (.ref C') = true := by
  unfold PySem.W.kitOne at h
  split at h
  · cases h
  · have h : (if ((PySem.W.clsIn K C).isSome && PySem.W.typeIn K (.ref C) == some (.type "type")) = true then PySem.W.subIn K (.ref C') (.ref C) else none) = some false := h
    unfold PySem.W.notFirst
    split at h
    · rw [h]; simp
    · cases h
def isTy : D → Bool
  | .dict [(.bool false, _)] => true
  | _ => false
def clsOk (oth : List Str) (nm : Str) (d : D) : Option Bool := match insN d with
  | none => if isTy d = true then none else some false
  | some n => if n = nm then some true else if n ∈ oth then some false else none
theorem ty_cls {K : PySem.W.Frag} {O : Addr → Prop} {H : Hp} {v : V} {d : D} {nm : Str} {oth : List Str} {b : Bool} (r : Rp K (hide O H) v d) (ic : IsC K (adrOf K nm)) (ho : Oth K nm oth) (h : clsOk oth nm d = some b) :
    ∃ t, TyX K H v t ∧ PySem.W.kitOne K t (.ref (adrOf K nm)) = some b ∧ PySem.W.notFirst K (adrOf K nm) t = true := by
  have fin : ∀ n, n ∈ ["NoneType", "bool", "int", "str", "list", "tuple", "dict"] → b = false → TyX K H v (.type n) → ∃ t, TyX K H v t ∧ PySem.W.kitOne K t (.ref (adrOf K nm)) = some b ∧ PySem.W.notFirst K (adrOf K nm) t = true := fun n e hb hz => by
    subst hb
    exact ⟨.type n, hz, (cls_bt ic e).1, (cls_bt ic e).2⟩
  have nb : insN d = none → b = false := fun e => by
    unfold clsOk at h
    rw [e] at h
    dsimp only at h
    split at h
    · cases h
    · cases h; rfl
  cases r with
  | ins o hg _ z =>
    subst z
    refine ⟨_, .base (.ins (hide_some.1 hg).2 o.cls o.ha o.hn o.htk o.hm), ?_⟩
    unfold clsOk at h
    rw [insN_ob] at h
    dsimp only at h
    split at h
    · rename_i e
      subst e
      cases h
      refine ⟨?_, ?_⟩
      · unfold PySem.W.kitOne; rw [if_pos (by simp)]
      · unfold PySem.W.notFirst; simp
    · split at h
      · rename_i hm
        cases h
        exact ⟨ho _ hm, cls_ref (ho _ hm)⟩
      · cases h
  | typ nm' o => unfold clsOk at h; cases h
  | non => exact fin _ (by simp) (nb rfl) (.base .non)
  | bl b => exact fin _ (by simp) (nb rfl) (.base (.bl b))
  | int b => exact fin _ (by simp) (nb rfl) (.base (.int b))
  | str b => exact fin _ (by simp) (nb rfl) (.base (.str b))
  | lst hg _ => exact fin _ (by simp) (nb rfl) (.base (.lst (at_of hg)))
  | dct hg _ z =>
    rename_i kvs _ _
    refine fin _ (by simp) (nb ?_) (.base (.dK (at_of hg)))
    subst z
    cases kvs with
    | nil => rfl
    | cons p r => obtain ⟨k, d⟩ := p; cases k <;> rfl
  | tup hg _ =>
    rcases sqt_of hg with (hg | ⟨o, hg⟩) | ⟨o, its, n, h1, h2, _⟩
    · exact fin _ (by simp) (nb rfl) (.base (.tup hg))
    · exact fin _ (by simp) (nb rfl) (.fTuple hg)
    · exact fin _ (by simp) (nb rfl) (.kTuple h1 h2)
  | frz hg _ =>
    rcases sql_of hg with (hg | ⟨o, hg⟩) | ⟨o, its, n, h1, h2, _⟩
    · exact fin _ (by simp) (nb rfl) (.base (.lst hg))
    · exact fin _ (by simp) (nb rfl) (.base (.frz hg))
    · exact fin _ (by simp) (nb rfl) (.kList h1 h2)
section
variable {X : Cx} {a b c e o : Expr} {fa fb fc fo : DE} {pos p apos : Pos} {es : List Expr} {x y m nm : Str} {k n : Nat} {g : DA} {oth : List Str}
def dIsC (oth : List Str) (nm : Str) (fa : DE) : DE := fun ρ Q => fa ρ fun d ρ1 => ∃ b, clsOk oth nm d = some b ∧ Q (.bool b) ρ1
theorem je_isC {py : Pos} (hm : X.mg "isinstance" = none) (hmy : X.mg nm = some (.ref (adrOf X.K nm))) (ic : IsC X.K (adrOf X.K nm)) (ho : Oth X.K nm oth) (ha : JE X a fa) (hg : Gl X "isinstance" := by rfl) (hgy : Gl X nm := by rfl) (hdb : (nm == ("__debug__" : Str)) = false := by decide)
    (h1 : starEach [a, Expr.Name nm py] X.env = (false, eval a X.env) :: starEach [Expr.Name nm py] X.env := by rfl) (h2 : starEach [Expr.Name nm py] X.env = (false, eval (Expr.Name nm py) X.env) :: starEach [] X.env := by rfl) (h3 : (backTo pos (starEach [Expr.Name nm py] X.env)).any (·.1) = false := by rfl) :
    JE X (.Call (.Name "isinstance" p) [a, .Name nm py] [] pos) (dIsC oth nm fa) := by
  obtain ⟨ta, pa, ka⟩ := ha.ex
  refine ⟨_, pe_callB call_isi hg hm (by decide +kernel) (pa_cons pa (pa_cons (pe_glob (v := V.ref (adrOf X.K nm)) hgy hmy rfl hdb) pa_nil h2) h1) (by decide) (by decide) h1 h3, fun T ρ σ H QD Q r h q => ka T ρ σ H _ _ r h fun d ρ1 v H1 r1 p1 v1 h => ?_⟩
  obtain ⟨b, e, h⟩ := h
  obtain ⟨t, ht, hk, _⟩ := ty_cls v1 ic ho e
  exact ⟨v, .ref (adrOf X.K nm), t, .ref (adrOf X.K nm), b, rfl, .own _, ht, hk, q _ _ _ _ r1 p1 (.bl b) h⟩
def OkS (P : Program) (w : World) (K : PySem.W.Frag) (mg : Str → Option Value) (base : Heap) (C : Addr) (m : Str) (k : Nat) (sp : Sp) : Prop :=
  ∃ f, Slo K C m f ∧ FnR P w K mg base L2.CX0 k f sp
end
end Dn
set_option Elab.async false
set_option linter.all false
set_option maxRecDepth 100000
set_option autoImplicit false
set_option maxHeartbeats 4000000
namespace Dn
open PySem L2 Evl PySem.Spec PyProof.Rows
section
variable {X : Cx} {a b c e o : Expr} {fa fb fc fo : DE} {pos p apos : Pos} {es : List Expr} {x y m nm : Str} {k n : Nat} {g : DA} {oth : List Str}
def dEqI (oth : List Str) (nm : Str) (S : List D → (D → Prop) → Prop) (ng : Bool) (fa fb : DE) : DE := fun ρ Q => fa ρ fun d ρ1 => fb ρ1 fun e ρ2 => (∃ es, d = obD nm es) ∧ (∃ b, clsOk oth nm e = some b) ∧ S [d, e] fun z => ∃ b, z = .bool b ∧ Q (.bool (b ^^ ng)) ρ2
def dLenI (nm : Str) (S : List D → (D → Prop) → Prop) (fa : DE) : DE := fun ρ Q => fa ρ fun d ρ1 => (∃ es, d = obD nm es) ∧ S [d] fun z => ∃ n : Nat, z = .int n ∧ n < 2 ^ 63 ∧ Q (.int n) ρ1
theorem je_lenI {S : List D → (D → Prop) → Prop} (O : OkS X.prog X.w X.K X.mg X.base (adrOf X.K nm) "__len__" k (spD X.K 1 S)) (hr : Room (k + 1) X.A) (hm : X.mg "len" = none) (ha : JE X a fa) (hg : Gl X "len" := by rfl)
    (h1 : starEach [a] X.env = (false, eval a X.env) :: starEach [] X.env := by rfl) (h3 : (backTo pos (starEach [] X.env)).any (·.1) = false := by rfl) : JE X (.Call (.Name "len" p) [a] [] pos) (dLenI nm S fa) := by
  obtain ⟨f, hs, F⟩ := O
  obtain ⟨ta, pa, ka⟩ := ha.ex
  refine ⟨_, pe_callB (call_lenOwn (E := fun _ _ _ => False) hs F hr (fun _ _ _ _ _ _ _ h => h.elim)) hg hm (by decide +kernel) (pa_cons pa pa_nil h1) (by decide) (by decide) h1 h3, fun T ρ σ H QD Q r h q => ka T ρ σ H _ _ r h fun d ρ1 v H1 r1 p1 v1 h => ?_⟩
  obtain ⟨⟨es', rfl⟩, h⟩ := h
  obtain ⟨l, dx, fs, rfl, ob, hg, rf⟩ := obj_rp v1
  refine ⟨l, dx, fs, rfl, (hide_some.1 hg).2, rfl, Hd T ρ1 σ, _, _, fun a => r1.hdLv, .cons v1 .nil, r1.tb, h, fun v d H' hq e rv' => ?_⟩
  obtain ⟨n, rfl, hn, hq⟩ := hq
  cases rv'
  exact ⟨n, rfl, hn, q _ ρ1 _ H' (r1.growE e) (p1.trans (.growE e)) (.int _) hq⟩
def dStrO (nm : Str) (S : List D → (D → Prop) → Prop) (fa : DE) : DE := fun ρ Q => fa ρ fun d ρ1 => (∃ es, d = obD nm es) ∧ S [d] fun z => ∃ x, z = .str x ∧ Q (.str x) ρ1
def dFmt (fa : DE) : DE := fun ρ Q => fa ρ fun d ρ1 => ∃ i : Int, d = .int i ∧ i.natAbs.log2 < 1920 ∧ Q (.str (toString i)) ρ1
def dJs : List DE → Str → Env → (Str → Env → Prop) → Prop
  | [], acc, ρ, Q => Q acc ρ
  | f :: fs, acc, ρ, Q => f ρ fun d ρ1 => ∃ y : Str, d = .str y ∧ (acc ++ y).length ≤ sizeLine ∧ dJs fs (acc ++ y) ρ1 Q
def dJoin (fs : List DE) : DE := fun ρ Q => dJs fs Str.empty ρ fun y ρ1 => Q (.str y) ρ1
end
section
variable {P : Program} {w : World} {K : PySem.W.Frag} {mg : Str → Option Value} {base : Heap} {C : Addr} {st : Stmt} {N ps : List Str} {m q nm : Str} {k : Nat}
def IsM (K : PySem.W.Frag) (C : Addr) (m q : Str) (st : Stmt) : Prop := ∃ f fd, FunD K m q (defArgs st) (defBody st) (defScope st) [] [] f fd ∧ Meth K C m f
abbrev BindsM (m q : Str) (st : Stmt) (ps : List Str) : Prop := ∀ (kV doc pm : Value) (an : Option Addr) (cdv ct : Value) (us : List Value), us.length = ps.length → bindArgs (PySem.W.fnOf m q (defArgs st) (defBody st) (defScope st) .none kV doc pm an cdv ct) ⟨us, []⟩ = pure (ps.zip us)
theorem ok_mD {S : List D → (D → Prop) → Prop} {g : DS} (F : IsM K C m q st) (Sc : FnScope N ps (defScope st)) (bs : BindsM m q st ps) (hb : BodyCx P w K mg base q st N k fun X => JSs X (defBody st) g)
    (hS : ∀ (ds : List D) (Q : D → Prop), ds.length = ps.length → S ds Q → g { nx := fun _ => Q .none, rt := fun d _ => Q d } (envD ds (N.length - ps.length))) : OkM P w K mg base C m ps (k + 1) (spD K ps.length S) := by
  obtain ⟨f, fd, F, hm⟩ := F
  exact ⟨f, fd, fn_D F Sc (fun cdv A outer s H E hr => hb f cdv A outer s H E hr) hS, hm, F.bindsN bs⟩
theorem OkM.slot {sp : Sp} (h : OkM P w K mg base C m ps k sp) : OkS P w K mg base C m k sp := by
  obtain ⟨f, fd, F, M, B⟩ := h
  refine ⟨f, ⟨M.at_, M.fn⟩, ?_⟩
  have := FnOk.raw F B .nil
  exact FnR.imp this fun vs H Q E z => by simpa using z
end
end Dn
set_option Elab.async false
set_option linter.all false
set_option maxRecDepth 100000
set_option autoImplicit false
set_option maxHeartbeats 4000000
namespace Dn
open PySem L2 Evl PySem.Spec PyProof.Rows
section
variable {P : Program} {w : World} {K : PySem.W.Frag} {mg : Str → Option Value} {base : Heap} {C : Addr} {st : Stmt} {N ps : List Str} {m q nm : Str} {k : Nat} {f : Addr} {fd : FuncData}
theorem fn_I {name qual : Str} {params : Arguments} {body : List Stmt} {scope : Scope} {S : List D → (List (Str × D) → Prop) → Prop} {g : DS} (F : FunD K name qual params body scope [] [] f fd) (Sc : FnScope N ps scope)
    (hb : ∀ (cdv : Value) (A : Around) (outer : List PySem.Env) (s : Shared) (H : Hp) (E : XK), Room k (A.deeper (envOfC qual scope s.heap.objs.size f cdv)) → JSs (cxOf L2.CX0 P w K mg base N qual scope f cdv A outer s H E).nox body g)
    (hS : ∀ (l : Addr) (ds : List D) (Q : List (Str × D) → Prop), ds.length + 1 = ps.length → S ds Q → g { nx := fun ρ => ∃ es, ρ[0]? = some (some (.ow (.par l (.obj nm es)))) ∧ Q es, rt := fun _ _ => False } (some (.ow (.par l (.obj nm []))) :: envD ds (N.length - ps.length))) :
    FnOk P w K mg base L2.CX0 (k + 1) f fd ps (spI K nm ps.length S) := by
  refine F.ok Sc (fun vs H Q E h => ?_) (fun cdv A outer s H vs Q E hr h => ?_)
  · obtain ⟨T, x, dx, us, ds, QD, rfl, hn, _⟩ := h
    simpa using hn
  obtain ⟨t, pt, kt⟩ := (hb cdv A outer s H E hr).ex
  refine ⟨t, PSs.nox pt, ?_⟩
  obtain ⟨T, l, dx, us, ds, QD, rfl, hl1, ob, hT, nT, ho, rv, tb, hs, hq⟩ := h
  have hl2 : ds.length + 1 = ps.length := by rw [← rv.length, hl1]
  generalize hρ : (some (SV.ow (.par l (.obj nm []))) :: envD ds (N.length - ps.length) : Env) = ρ0
  have g0 : ∀ (i : Nat) (sv : SV), ρ0[i]? = some (some sv) → (i = 0 ∧ sv = .ow (.par l (.obj nm []))) ∨ ∃ j d, i = j + 1 ∧ ds[j]? = some d ∧ sv = .im d := fun i sv h => by
    subst hρ
    cases i with
    | zero => simp at h; exact .inl ⟨rfl, h.symm⟩
    | succ j =>
      obtain ⟨d, h1, h2⟩ := envD_get (show (envD ds (N.length - ps.length))[j]? = _ by simpa using h)
      exact .inr ⟨j, d, rfl, h1, h2⟩
  have s0 : (L2.start N (.ref l :: us))[0]? = some (some (V.ref l)) := start_get rfl
  have own : ∀ a, Own ρ0 (L2.start N (.ref l :: us)) a → a = l := fun a ⟨i, m, h1, h2⟩ => by
    rcases g0 i _ h1 with ⟨rfl, _⟩ | ⟨_, _, _, _, z⟩
    · rw [s0] at h2; cases h2; rfl
    · cases z
  have e0 : Ex (hide (plus T l) H) (hide (Hd T ρ0 (L2.start N (.ref l :: us))) H) := hide_sub fun a w => w.elim .inr fun w => .inl (own a w)
  have r0 : RS K T ρ0 (L2.start N (.ref l :: us)) H := by
    refine ⟨?_, fun i d h => ?_, fun i m h => ?_, fun i j m m' a h1 h2 _ _ => ?_, fun a t w => ?_, hT, fun i q m a h1 h2 => ?_, tb⟩
    · rw [← hρ]; unfold L2.start; simp [envD_len, ← hl2, rv.length]
    · rcases g0 i _ h with ⟨_, z⟩ | ⟨j, d', rfl, h1, z⟩
      · cases z
      · cases z
        obtain ⟨v, h2, h3⟩ := rv.get h1
        exact ⟨v, start_get (by simpa using h2), h3.mono e0⟩
    · rcases g0 i _ h with ⟨rfl, z⟩ | ⟨_, _, _, _, z⟩
      · cases z
        exact ⟨l, _, s0, ho, by unfold RpO; exact ⟨rfl, ob, .nil⟩⟩
      · cases z
    · rcases g0 i _ h1 with ⟨rfl, _⟩ | ⟨_, _, _, _, z⟩
      · rcases g0 j _ h2 with ⟨rfl, _⟩ | ⟨_, _, _, _, z⟩
        · rfl
        · cases z
      · cases z
    · rw [own a w] at t; exact nT t
    · rcases g0 i _ h1 with ⟨rfl, z⟩ | ⟨_, _, _, _, z⟩
      · cases z; rw [s0] at h2; cases h2; rfl
      · cases z
  have kp : ∀ {ρ' : Env} {σ' : L2.St} {H' : Hp}, Po ρ0 (L2.start N (.ref l :: us)) H ρ' σ' H' → TbOk K H' → ExL K l H H' := fun q tb => ⟨fun a o ne h nt => q.keep a o (fun w => ne (own a w)) h nt, q.dom, fun _ => tb⟩
  rw [← hρ] at *
  refine kt T _ _ H _ _ r0 (hS l ds QD hl2 hs) ⟨fun ρ' σ' H' r q h => ?_, fun _ _ _ _ _ _ _ _ h => h.elim, fun _ _ _ _ _ h => h.elim, fun _ _ _ _ _ h => h.elim, fun _ _ _ _ _ _ _ h => h.elim⟩
  obtain ⟨es, h1, h2⟩ := h
  obtain ⟨a, o, a1, a2, a3⟩ := r.ow 0 _ h1
  obtain rfl := r.tag 0 _ _ a h1 a1
  have a3 : RpO K (hide (Hd T ρ' σ') H') (.obj nm es) o := by unfold RpO at a3; exact a3
  cases o with
  | ins C dx' fs =>
    obtain ⟨rfl, _, rf⟩ := (show C = adrOf K nm ∧ ObjC K C ∧ RpFs K _ fs es from a3)
    have e : Ex (hide (Hd T ρ' σ') H') (hide (plus T a) H') := hide_sub fun b w => w.elim (fun z => .inr ⟨0, _, h1, by rw [z]; exact a1⟩) .inl
    exact hq es fs dx' H' h2 (kp q r.tb) a2 (rf.mono e)
  | _ => exact False.elim a3
theorem ok_I {S : List D → (List (Str × D) → Prop) → Prop} {g : DS} (F : ∃ f fd, FunD K "__init__" q (defArgs st) (defBody st) (defScope st) [] [] f fd ∧ L2.Mk K (adrOf K nm) f) (hm : mg nm = some (.ref (adrOf K nm))) (ob : ObjC K (adrOf K nm)) (Sc : FnScope N ps (defScope st)) (bs : BindsM "__init__" q st ps) (hb : BodyCx P w K mg base q st N k fun X => JSs X (defBody st) g)
    (hS : ∀ (l : Addr) (ds : List D) (Q : List (Str × D) → Prop), ds.length + 1 = ps.length → S ds Q → g { nx := fun ρ => ∃ es, ρ[0]? = some (some (.ow (.par l (.obj nm es)))) ∧ Q es, rt := fun _ _ => False } (some (.ow (.par l (.obj nm []))) :: envD ds (N.length - ps.length))) :
    OkI P w K mg base nm ps (k + 1) (spI K nm ps.length S) := by
  obtain ⟨f, fd, F, M⟩ := F
  exact ⟨f, fd, fn_I F Sc (fun cdv A outer s H E hr => hb f cdv A outer s H E hr) hS, M, F.bindsN bs, hm, ob⟩
def IsP (K : PySem.W.Frag) (C : Addr) (m q : Str) (st : Stmt) : Prop := ∃ p f fd, FunD K m q (defArgs st) (defBody st) (defScope st) [] [] f fd ∧ PropOf K C m p f
theorem ok_pD {S : List D → (D → Prop) → Prop} {g : DS} (F : IsP K C m q st) (Sc : FnScope N ["self"] (defScope st)) (bs : BindsM m q st ["self"]) (hb : BodyCx P w K mg base q st N k fun X => JSs X (defBody st) g)
    (hS : ∀ (ds : List D) (Q : D → Prop), ds.length = 1 → S ds Q → g { nx := fun _ => Q .none, rt := fun d _ => Q d } (envD ds (N.length - 1))) : OkP P w K mg base C m (k + 1) (spD K 1 S) := by
  obtain ⟨p, f, fd, F, hm⟩ := F
  exact ⟨p, f, fd, hm, fn_D F Sc (fun cdv A outer s H E hr => hb f cdv A outer s H E hr) hS, F.bindsN bs⟩
end
abbrev VI (nm : Str) (g : DS) (S : List D → (List (Str × D) → Prop) → Prop) (np m : Nat) : Prop := ∀ (l : Addr) (ds : List D) (Q : List (Str × D) → Prop), ds.length + 1 = np → S ds Q → g { nx := fun ρ => ∃ es, ρ[0]? = some (some (.ow (.par l (.obj nm es)))) ∧ Q es, rt := fun _ _ => False } (some (.ow (.par l (.obj nm []))) :: envD ds m)
end Dn
set_option Elab.async false
set_option linter.all false
set_option maxRecDepth 100000
set_option autoImplicit false
set_option maxHeartbeats 4000000
namespace Dn
open PySem L2 Evl PySem.Spec PyProof.Rows
abbrev clsD (nm : Str) : D := .dict [(.bool false, .str nm)]
section
variable {K : PySem.W.Frag} {G : Hp}
theorem cls_rp {v : V} {nm : Str} (r : Rp K G v (clsD nm)) : v = .ref (adrOf K nm) ∧ ObjC K (adrOf K nm) := by
  generalize e : clsD nm = d at r
  cases r with
  | typ nm' o =>
    injection e with e
    simp only [List.cons.injEq, Prod.mk.injEq, and_true, true_and, PyData.str.injEq] at e
    subst e
    exact ⟨rfl, o⟩
  | dct _ _ z =>
    injection e with e
    rw [z] at e
    rename_i kvs _ _ _
    cases kvs with
    | nil => cases e
    | cons p r => obtain ⟨k, d⟩ := p; cases k <;> cases e
  | frz _ _ => cases e
  | ins _ _ _ z =>
    injection e with e
    rw [z] at e
    cases e
  | _ => cases e
end
section
variable {X : Cx} {a b c e o : Expr} {fa fb fc fo : DE} {pos p apos : Pos} {es : List Expr} {x y m nm : Str} {k n : Nat} {g : DA}
def OkC (P : Program) (w : World) (K : PySem.W.Frag) (mg : Str → Option Value) (base : Heap) (C : Addr) (m : Str) (k : Nat) (sp : Sp) : Prop :=
  ∃ p g mc, ClX.CRead K C mc ∧ ClX.CMet K C mc m p g ∧ FnR P w K mg base L2.CX0 k g sp
def dCM (n : Nat) (nm m : Str) (S : List D → (D → Prop) → Prop) (g : DA) : DE := fun ρ Q => g ρ fun ds ρ1 => ds.length + 1 = n ∧ S (clsD nm :: ds) fun z => Q z ρ1
theorem je_cm {S : List D → (D → Prop) → Prop} {pl : Sem Bool} (O : OkC X.prog X.w X.K X.mg X.base (adrOf X.K nm) m k (spD X.K n S)) (hm : X.mg nm = some (.ref (adrOf X.K nm))) (ob : ObjC X.K (adrOf X.K nm)) (hr : Room k X.A) (ha : JA X (e :: es) g) (hg : Gl X nm := by rfl) (hd : (nm == ("__debug__" : Str)) = false := by decide)
    (hst : starEach (e :: es) X.env = (false, eval e X.env) :: starEach es X.env := by rfl) (hpl : (backTo pos (starEach es X.env)).any (·.1) = false := by rfl)
    (ht : eval (.Call (.Attribute (.Name nm p) m apos) (e :: es) [] pos) X.env = (do
      let ov ← eval (.Name nm p) X.env
      standAt apos.atName
      let (f, first) ← holding [ov] (getMethod ov m pl)
      callWith pos f first (backTo pos (starEach (e :: es) X.env)) (backToKw pos (keywordEach [] X.env))) := by rfl) : JE X (.Call (.Attribute (.Name nm p) m apos) (e :: es) [] pos) (dCM n nm m S g) := by
  obtain ⟨pp, gg, mc, R, M, F⟩ := O
  obtain ⟨t, pa, ka⟩ := ha.ex
  refine ⟨_, ClX.pe_cmeth (E := fun _ _ _ => False) (pe_glob (v := V.ref (adrOf X.K nm)) hg hm rfl hd) R M F hr (fun _ _ _ _ _ _ _ h => h.elim) pa hst hpl ht, fun T ρ σ H QD Q r h q => ?_⟩
  refine ⟨rfl, ka T ρ σ H _ _ r h fun ds ρ2 vs H2 r2 p2 v2 h => ?_⟩
  exact spD_of r2 p2 (.cons (.typ nm ob) v2) (by simpa using h.1) h.2 q
def dNewV (i n : Nat) (nm : Str) (S : List D → (List (Str × D) → Prop) → Prop) (g : DA) : DE := fun ρ Q => ρ[i]? = some (some (.im (clsD nm))) ∧ g ρ fun ds ρ1 => ds.length + 1 = n ∧ S ds fun es => Q (obD nm es) ρ1
theorem pe_makeV {CX : CXT} {C f : Addr} {fd : FuncData} {ps : List Str} {sp : Sp} {dvs : List V} {ds : List Value} {E : XK} {i : Nat} {t : TA} (M : L2.Mk X.K C f) (F : FnOk X.prog X.w X.K X.mg X.base CX k f fd ps sp) (hr : Room (k + 1) X.A) (hN : X.N[i]? = some x) (hv : Vis X.env.scope x) (hb : Binds X.K fd ps ds) (hd : Vals dvs ds) (hx : Passes CX X E)
    (ha : PA X (e :: es) t) (hdb : (x == ("__debug__" : Str)) = false := by decide) (hcd : (x == ("__classdict__" : Str)) = false := by decide) (he : starEach (e :: es) X.env = (false, eval e X.env) :: starEach es X.env := by rfl) (hpl : (backTo pos (starEach es X.env)).any (·.1) = false := by rfl) :
    PE X (.Call (.Name x p) (e :: es) [] pos) (fun σ H Q => σ[i]? = some (some (.ref C)) ∧ tMake C sp dvs E t σ H Q) := by
  refine ⟨fun pins s σ H Q I h => ?_⟩
  obtain ⟨hs, ht⟩ := h
  refine wpAny_Call_Name_kw (thn ((pe_var (pos := p) hN hv hdb hcd).run pins s σ H (fun v H1 => v = .ref C ∧ H1 = H) I ⟨.ref C, hs, rfl, rfl⟩) fun u s1 ⟨v, H1, I1, r1, q1⟩ => ?_)
  obtain ⟨rfl, rfl⟩ := q1
  cases r1
  refine PySem.W.callWith_K (h₀ := X.base) I.ok.mod.kin M.kp (thn (ha.run pos pins s1 σ _ _ I1 ht) fun us s1 ⟨vs, H1, I1, r, q⟩ => ⟨I1.kIn, ?_⟩) he hpl
  exact run_make M F hr hb hd hx I1 r q
theorem je_newV {S : List D → (List (Str × D) → Prop) → Prop} {ps : List Str} {i : Nat} (O : OkI X.prog X.w X.K X.mg X.base nm ps k (spI X.K nm n S)) (hr : Room (k + 1) X.A) (hN : X.N[i]? = some x) (hv : Vis X.env.scope x) (ha : JA X (e :: es) g)
    (hdb : (x == ("__debug__" : Str)) = false := by decide) (hcd : (x == ("__classdict__" : Str)) = false := by decide) (he : starEach (e :: es) X.env = (false, eval e X.env) :: starEach es X.env := by rfl) (hpl : (backTo pos (starEach es X.env)).any (·.1) = false := by rfl) : JE X (.Call (.Name x p) (e :: es) [] pos) (dNewV i n nm S g) := by
  obtain ⟨f, fd, F, M, B, hm, oc⟩ := O
  obtain ⟨t, pa, ka⟩ := ha.ex
  refine ⟨_, pe_makeV (E := fun _ _ _ => False) M F hr hN hv B .nil (fun _ _ _ _ _ _ _ h => h.elim) pa hdb hcd he hpl, fun T ρ σ H QD Q r h q => ?_⟩
  obtain ⟨h0, h⟩ := h
  obtain ⟨v0, hv0, rv0⟩ := r.im i _ h0
  obtain ⟨rfl, _⟩ := cls_rp rv0
  refine ⟨hv0, ka T ρ σ H _ _ r h fun ds ρ1 vs H1 r1 p1 v1 h => ?_⟩
  intro z dx hz hdx hne
  obtain ⟨hn, h⟩ := h
  rw [List.append_nil]
  have old : ∀ {a : Addr} {o : HO}, H1 a = some o → upd (upd H1 dx (.own z)) z (.ins (adrOf X.K nm) dx []) a = some o := fun {a o} w => by
    rw [upd_ne (fun e => by rw [e, hz] at w; cases w), upd_ne (fun e => by rw [e, hdx] at w; cases w)]
    exact w
  have nz : ¬ Hd T ρ1 σ z := fun w => r1.hdDom w hz
  have tb0 : TbOk X.K (upd (upd H1 dx (.own z)) z (.ins (adrOf X.K nm) dx [])) := r1.tb.keep fun b o _ w => old w
  have e1 : Ex (hide (Hd T ρ1 σ) H1) (hide (plus (Hd T ρ1 σ) z) (upd (upd H1 dx (.own z)) z (.ins (adrOf X.K nm) dx []))) := fun a o w => by
    obtain ⟨w1, w2⟩ := hide_some.1 w
    refine hide_some.2 ⟨fun u => ?_, old w2⟩
    rcases u with u | u
    · rw [u, hz] at w2; cases w2
    · exact w1 u
  refine ⟨Hd T ρ1 σ, z, dx, vs, ds, _, rfl, by rw [v1.length, hn], oc, fun a w => (r1.hdLv w).keep fun o w => old w, nz, upd_same, v1.mono e1, tb0, h, fun es' fs dx' H' hq kp hx rf => ⟨rfl, ?_⟩⟩
  have e2 : ExG X.K H1 H' := newE kp hz (fun w => old w) tb0
  refine q (obD nm es') ρ1 (.ref z) H' (r1.growE e2) (p1.trans (.growE e2)) (.ins oc (hide_some.2 ⟨nz, hx⟩) (rf.mono (hide_sub fun a w => .inr w)) rfl) hq
end
section
variable {P : Program} {w : World} {K : PySem.W.Frag} {mg : Str → Option Value} {base : Heap} {C : Addr} {st : Stmt} {N ps : List Str} {m q nm : Str} {k : Nat}
def IsCM (K : PySem.W.Frag) (C : Addr) (m q : Str) (st : Stmt) : Prop := ∃ p f fd mc, FunD K m q (defArgs st) (defBody st) (defScope st) [] [] f fd ∧ ClX.CRead K C mc ∧ ClX.CMet K C mc m p f
theorem ok_cD {S : List D → (D → Prop) → Prop} {g : DS} (F : IsCM K C m q st) (Sc : FnScope N ps (defScope st)) (bs : BindsM m q st ps) (hb : BodyCx P w K mg base q st N k fun X => JSs X (defBody st) g)
    (hS : ∀ (ds : List D) (Q : D → Prop), ds.length = ps.length → S ds Q → g { nx := fun _ => Q .none, rt := fun d _ => Q d } (envD ds (N.length - ps.length))) : OkC P w K mg base C m (k + 1) (spD K ps.length S) := by
  obtain ⟨p, f, fd, mc, F, hr, hm⟩ := F
  refine ⟨p, f, mc, hr, hm, ?_⟩
  have := FnOk.raw (fn_D F Sc (fun cdv A outer s H E hr => hb f cdv A outer s H E hr) hS) (F.bindsN bs) .nil
  exact FnR.imp this fun vs H Q E z => by simpa using z
structure ClsF (K : PySem.W.Frag) (mg : Str → Option Value) (nm : Str) (fields : List Str) : Prop where
  mg : mg nm = some (.ref (adrOf K nm))
  cl : Cls K (adrOf K nm)
  ob : ObjC K (adrOf K nm)
  ic : IsC K (adrOf K nm)
  ne : PySem.W.findIn K (.ref (adrOf K nm)) "__ne__" = some (some (.builtin "object.__ne__"))
  na : ∀ f ∈ fields, NoAttr K (adrOf K nm) f
theorem oth0 {K : PySem.W.Frag} {nm : Str} : Oth K nm [] := fun _ h => by cases h
end
end Dn
set_option Elab.async false
set_option linter.all false
set_option maxRecDepth 100000
set_option autoImplicit false
set_option maxHeartbeats 4000000
namespace Dn
open PySem L2 Evl PySem.Spec PyProof.Rows
section
variable {K : PySem.W.Frag} {T : Addr → Prop} {ρ : Env} {σ : L2.St} {H H' : Hp} {l : Addr}
theorem RS.hid (r : RS K T ρ σ H) (tl : T l) (lv : Lv H' l) (kp : ExL K l H H') : RS K T ρ σ H' := by
  have ex : Exw (hide (Hd T ρ σ) H) (hide (Hd T ρ σ) H') := ⟨fun a u z nt => by
    obtain ⟨n, z⟩ := hide_some.1 z
    exact hide_some.2 ⟨n, kp.k a u (fun w => n (.inl (w ▸ tl))) z nt⟩, fun a z => by
    obtain ⟨n, z⟩ := hide_dom.1 z
    exact hide_dom.2 ⟨n, kp.d a z⟩⟩
  refine ⟨r.len, fun i d h => ?_, fun i m h => ?_, r.inj, r.dis, fun a t => ?_, r.tag, kp.t r.tb⟩
  · obtain ⟨v, h1, h2⟩ := r.im i d h
    exact ⟨v, h1, h2.monoW ex⟩
  · obtain ⟨a, o, h1, h2, h3⟩ := r.ow i m h
    exact ⟨a, o, h1, kp.k a o (fun w => r.dis l tl (w ▸ ⟨i, m, h, h1⟩)) h2 (rpo_tb h3), h3.monoW ex⟩
  · by_cases z : a = l
    · subst z; exact lv
    · exact (r.dom a t).keepT fun o h nt => kp.k a o z h (tbx_of nt)
end
section
variable {X : Cx} {a b c e o : Expr} {fa fb fc fo : DE} {pos p apos : Pos} {es : List Expr} {x y m nm : Str} {k n : Nat} {g : DA}
def dCallML (n : Nat) (S : List D → List D → (D → List D → Prop) → Prop) (gl : DL) (g : DA) : DE := fun ρ Q => gl ρ fun ms ρ1 => g ρ1 fun ds ρ2 => ds.length + 1 = n ∧ S ms ds fun d _ => Q d ρ2
theorem je_fnML {S : List D → List D → (D → List D → Prop) → Prop} {ps : List Str} {gl : DL} (O : Ok X.prog X.w X.K X.mg X.base x ps k (spM X.K n S)) (hr : Room k X.A) (hl : JL X e gl) (ha : JA X es g) (hg : Gl X x := by rfl)
    (hdb : (x == ("__debug__" : Str)) = false := by decide) (he : starEach (e :: es) X.env = (false, eval e X.env) :: starEach es X.env := by rfl) (hpl : (backTo pos (starEach es X.env)).any (·.1) = false := by rfl) : JE X (.Call (.Name x p) (e :: es) [] pos) (dCallML n S gl g) := by
  obtain ⟨f, fd, F, hm, hk, hb⟩ := O
  obtain ⟨tl, pl, kl⟩ := hl.ex
  obtain ⟨t, pa, ka⟩ := ha.ex
  refine ⟨_, pe_call F hr hg hm hk hb .nil (E := fun _ _ _ => False) (fun _ _ _ _ _ _ _ h => h.elim) (pa_cons pl pa he) hdb he hpl, fun T ρ σ H QD Q r h q => ?_⟩
  refine kl T ρ σ H _ _ r h fun ms ρ1 l ws H1 hn hl1 r1 rm p1 h => ?_
  refine ka (plus T l) ρ1 σ H1 _ _ r1 h fun ds ρ2 us H2 r2 p2 v2 h => ?_
  obtain ⟨hn2, h⟩ := h
  rw [List.append_nil]
  have tl' : plus T l l := .inl rfl
  have hl2 : H2 l = some (.lst ws) := p2.keep l _ (r1.dis l tl') hl1
  have e1 : Ex (hide (Hd (plus T l) ρ2 σ) H2) (hide (plus (fun a => Hd (plus T l) ρ2 σ a ∧ a ≠ l) l) H2) := hide_sub fun a w => by
    rcases w with w | w
    · exact .inl (.inl w)
    · exact w.1
  refine ⟨by simp [v2.length, hn2], fun a => Hd (plus T l) ρ2 σ a ∧ a ≠ l, l, us, ws, ms, ds, _, rfl, fun a w => r2.hdLv w.1, fun w => w.2 rfl, hl2, (rm.monoW p2.fz).mono e1, v2.mono e1, r2.tb, h, fun v d ms' ws' H' hq kp hl' rm' rv => ?_⟩
  have r3 : RS X.K (plus T l) ρ2 σ H' := r2.hid tl' (by unfold Lv; rw [hl']; exact ⟨by simp, fun u z => by cases z; exact ⟨id, id⟩⟩) kp
  have r4 : RS X.K T ρ2 σ H' := r3.unplus
  have old : ∀ a o, ¬ Own ρ σ a → H a = some o → ¬ TbO o → H' a = some o := fun a o n0 w nt => by
    have ne : a ≠ l := fun z => by rw [z, hn] at w; cases w
    have w1 := p1.keep a o n0 w nt
    have n1 : ¬ Own ρ1 σ a := fun z => by
      rcases p1.own a z with z | z
      · exact n0 z
      · rw [w] at z; cases z
    exact kp.k a o ne (p2.keep a o n1 w1 nt) nt
  have dm : ∀ a, H a ≠ none → H' a ≠ none := fun a w => by
    by_cases ne : a = l
    · rw [ne, hl']; simp
    · have w2 := p2.dom a (p1.dom a w)
      exact kp.d a w2
  have p4 : Po ρ σ H ρ2 σ H' := ⟨fun a o n0 w nt => old a o n0 w nt, fun a w => by
    rcases p2.own a w with w | w
    · exact p1.own a w
    · by_cases z : H a = none
      · exact .inr z
      · exact absurd w (p1.dom a z), dm⟩
  refine q d ρ2 v H' r4 p4 (rv.mono (hide_sub fun a w => ?_)) hq
  by_cases z : a = l
  · exact .inl z
  · refine .inr ⟨?_, z⟩
    rcases w with w | w
    · exact .inl (.inr w)
    · exact .inr w
def iRgO (i : Nat) : DL := fun ρ Q => ∃ n : Int, ρ[i]? = some (some (.ow (.rng n))) ∧ 0 ≤ n ∧ n < 2 ^ 62 ∧ Q (rgD 0 n) ρ
def sSubI (i : Nat) (fe : DE) : DS := fun E ρ => match ρ[i]? with
  | some (some (.im (.int n))) => fe ρ fun d ρ1 => match d with
    | .int m => E.nx (ρ1.set i (some (.im (.int (n - m)))))
    | _ => False
  | _ => False
end
end Dn
set_option Elab.async false
set_option linter.all false
set_option maxRecDepth 100000
set_option autoImplicit false
set_option maxHeartbeats 4000000
namespace Dn
open PySem L2 Evl PySem.Spec PyProof.Rows
theorem hu65 {k : Nat} {A : Around} (r : Room k A) : A.units + 65 < cLine := by have := r.un; omega
section
variable {X : Cx} {a b : Expr} {fa fb : DE}
end
end Dn
set_option Elab.async false
set_option linter.all false
set_option maxRecDepth 100000
set_option autoImplicit false
set_option maxHeartbeats 4000000
namespace Dn
open PySem L2 Evl PySem.Spec PyProof.Rows
section
variable {X : Cx} {a b : Expr} {fa fb : DE} {pos p : Pos}
def lSortSet (fa : DE) : DL := fun ρ Q => fa ρ fun z ρ1 => ∃ ns : List Int, z = .tuple (ns.map PyData.int) ∧ ns.length < 64 ∧ ∀ ms : List Int, ms.Pairwise (· < ·) → (∀ k : Int, k ∈ ms ↔ k ∈ ns) → Q (ms.map PyData.int) ρ1
end
end Dn
set_option Elab.async false
set_option linter.all false
set_option maxRecDepth 100000
set_option autoImplicit false
set_option maxHeartbeats 4000000
namespace Dn
open PySem L2 Evl PySem.Spec PyProof.Rows
section
variable {P : Program} {w : World} {A : Around} {E : Value → Shared → Prop} {s : Shared}
end
section
variable {X : Cx} {a : Expr} {fa : DE} {pos p : Pos}
def lSortTu (fa : DE) : DL := fun ρ Q => fa ρ fun z ρ1 => ∃ ns : List Int, z = .tuple (ns.map PyData.int) ∧ ns.length < 64 ∧ ∀ ns' : List Int, ns'.Perm ns → ns'.Pairwise (· ≤ ·) → Q (ns'.map PyData.int) ρ1
end
end Dn
set_option Elab.async false
set_option linter.all false
set_option maxRecDepth 100000
set_option autoImplicit false
set_option maxHeartbeats 4000000
namespace Dn
open PySem L2 Evl PySem.Spec PyProof.Rows SrL
def NSs2 (ρ0 ρ : Env) (i : Nat) : Prop := ∀ (j : Nat) (sv : SV), j ≠ i → ρ[j]? = some (some sv) → match sv with
  | .im d => NL d ∨ ρ0[j]? = some (some (.im d))
  | .ow m => NS m
def dKeep2 (i : Nat) (f : DT) : DT := fun ρ Q => ∃ ds, ρ[i]? = some (some (.ow (.lst ds))) ∧ (∀ d, d ∈ ds → NL d) ∧ f (ρ.set i (some (.im (.list ds)))) fun b ρ1 => i < ρ1.length ∧ NSs2 ρ ρ1 i ∧ Q b (ρ1.set i (some (.ow (.lst ds))))
end Dn
set_option Elab.async false
set_option linter.all false
set_option maxRecDepth 100000
set_option autoImplicit false
set_option maxHeartbeats 4000000
namespace Dn
open PySem L2 Evl PySem.Spec PyProof.Rows
open PySem.AutoSeq1 (wpAny_loadPart')
theorem tuple_mul1 (l : Addr) (items : Array Value) (n : Nat) (dd : Option Addr) (sl : Array (Option Value)) (u : Tok) :
    Meets (Builtin.«tuple.__mul__» ⟨[.ref l, .int 1 u], []⟩) (fun _ R s => s.heap.get? l = some { cls := .type "tuple", dict := dd, data := .seq items n, slots := sl } ∧ R (.ok (.ret (.ref l))) s) :=
  .of_wp fun prog w A R s h => by
    obtain ⟨hp, g, d, tk, os⟩ := s
    obtain ⟨hl, h⟩ := h
    have f1 := AutoSeq1.idx_int
    wp_walk using wpAny_loadPart' hl
    exact ⟨_, rfl, h⟩
def rRepT1 (K : PySem.W.Frag) : R2 := fun x y H Q => ∃ l xs, x = .ref l ∧ y = .int 1 ∧ SqT K H l xs ∧ Q (.ref l) H
section
variable {X : Cx}
theorem op_repT1 : OpR X (binaryOp .Mult) (rRepT1 X.K) := by
  intro pins s σ H x y v u Q I rx ry h
  obtain ⟨l, xs, rfl, rfl, hT, q⟩ := h
  cases rx
  obtain ⟨t, rfl⟩ := ry
  obtain ⟨its, r, ⟨⟨cls, dd, data, sl⟩, ho, hc, n, hd⟩, hs⟩ := I.tuple hT
  simp only at hc hd
  subst hc hd
  exact wpAny_binaryOp_repeat_ref (T := "tuple") (U := "int") (by decide) ⟨_, ho, rfl⟩ (fun s' => typeIs_int s' 1 t) noFill_tuple_mul F.fills_int_mul F.slot_int_rmul repeat_tuple F.slot_int_index.lookup
    (call_meets F.slot_int_rmul (typeIs_int s 1 t) F.entry_int_rmul (F.args_int_rmul_2 _ _) (int_rmul_tuple 1 t l its.toArray n dd sl)
      ⟨ho, rfl, ⟨_, ho, rfl⟩, call_meets F.slot_tuple_mul ⟨_, ho, rfl⟩ F.entry_tuple_mul (F.args_tuple_mul_2 _ _) (tuple_mul1 l its.toArray n dd sl t) ⟨ho, ⟨.ref l, H, I, rfl, q⟩⟩⟩)
def dRepU : D → D → (D → Prop) → Prop := fun x y Q => ∃ (ds : List D) (n : Int), x = .tuple ds ∧ y = .int n ∧ ds ≠ [] ∧ 1 ≤ n ∧ n ≤ 1000 ∧ ds.length ≤ 1000 ∧ Q (.tuple (List.replicate n.toNat ds).flatten)
theorem opd_repU : OpD X (binaryOp .Mult) dRepU := by
  refine ⟨_, .or op_repK op_repT1, fun O H x y d e QD Q hO rx ry h k => ?_⟩
  obtain ⟨ds, n, rfl, rfl, h0, h1, h2, h3, h⟩ := h
  cases ry
  cases rx with
  | tup hp rr =>
    by_cases e : n = 1
    · subst e
      refine .inr ⟨_, _, rfl, rfl, sqt_of hp, k _ _ H (.refl H) (.tup hp rr) ?_⟩
      simpa using h
    · refine .inl ⟨_, _, _, rfl, rfl, sqt_of hp, ?_, by omega, h2, by rw [rr.length]; exact h3, fun l o hl t => k _ _ _ (Ex.new hl) (rp_newT hO hl t (rr.rep _)) h⟩
      intro z; subst z; cases rr; exact h0 rfl
end
end Dn
set_option Elab.async false
set_option linter.all false
set_option maxRecDepth 100000
set_option autoImplicit false
set_option maxHeartbeats 4000000
namespace Dn.B3
open PySem L2 Evl
structure FC where
  p : Addr
  s : Option Addr
  l0 : List Int
abbrev scrD (l : List Int) : D := .dict [(.none, .tuple (l.map .int))]
abbrev FC.k (_ : FC) : Nat := 2
abbrev FC.k2 (_ : FC) : Nat := 0
section
variable {K : PySem.W.Frag} {T B : Addr → Prop} {p : FC} {ρ ρ1 ρ' : Env} {σ σ1 : L2.St} {H H1 H' G G' : Hp}
structure Fr (p : FC) (ρ : Env) : Prop where
  ne : p.k ≠ p.k2
  dice : ∃ a b c : Int, ρ[p.k]? = some (some (.ow (.par p.p (.lst [.int a, .int b, .int c]))))
  scr : (∃ s, p.s = some s ∧ ρ[0]? = some (some (.ow (.par s (.lst (p.l0.map .int)))))) ∨ (p.s = none ∧ ∃ l : List Int, l.length = p.l0.length ∧ ρ[0]? = some (some (.im (scrD l))))
  rest : ∀ (i : Nat) (sv : SV), ρ[i]? = some (some sv) → i ≠ p.k → i ≠ p.k2 → ∃ d, sv = .im d ∧ PL d
structure Qs (K : PySem.W.Frag) (T B : Addr → Prop) (p : FC) (ρ : Env) (σ : L2.St) (H : Hp) : Prop where
  rs : RS K T ρ σ H
  fr : Fr p ρ
  lists : ∀ a xs, ¬ T a → a ≠ p.p → p.s ≠ some a → H a = some (.lst xs) → B a
  new : ∀ a, H a = none → B a
  tbs : ∀ a o, H a = some o → TbO o → B a
theorem Qs.at0 (q : Qs K T B p ρ σ H) : σ[p.k]? = some (some (.ref p.p)) := by
  obtain ⟨a, b, c, h⟩ := q.fr.dice
  obtain ⟨x, o, h1, _⟩ := q.rs.ow _ _ h
  rw [h1, q.rs.tag _ p.p _ x h h1]
theorem Qs.at1 (q : Qs K T B p ρ σ H) {s : Addr} (e : p.s = some s) : ρ[0]? = some (some (.ow (.par s (.lst (p.l0.map .int))))) ∧ σ[0]? = some (some (.ref s)) := by
  rcases q.fr.scr with ⟨s', e', h⟩ | ⟨e', _⟩
  · rw [e] at e'; cases e'
    obtain ⟨x, o, h1, _⟩ := q.rs.ow _ _ h
    exact ⟨h, by rw [h1, q.rs.tag _ s _ x h h1]⟩
  · rw [e] at e'; cases e'
theorem Fr.im0 (q : Fr p ρ) (e : p.s = none) : ∃ l : List Int, l.length = p.l0.length ∧ ρ[0]? = some (some (.im (scrD l))) := by
  rcases q.scr with ⟨s', e', h⟩ | ⟨_, h⟩
  · rw [e] at e'; cases e'
  · exact h
theorem Qs.own (q : Qs K T B p ρ σ H) {a : Addr} : Own ρ σ a ↔ a = p.p ∨ p.s = some a := by
  constructor
  · rintro ⟨i, m, h1, h2⟩
    by_cases e : i = p.k
    · subst e; rw [q.at0] at h2; cases h2; exact .inl rfl
    · by_cases e2 : i = 0
      · subst e2
        cases w : p.s with
        | none =>
          obtain ⟨l, _, z⟩ := q.fr.im0 w
          rw [z] at h1; cases h1
        | some s => rw [(q.at1 w).2] at h2; cases h2; exact .inr rfl
      · obtain ⟨d, z, _⟩ := q.fr.rest i _ h1 e e2
        cases z
  · rintro (rfl | e)
    · obtain ⟨a, b, c, h⟩ := q.fr.dice
      exact ⟨_, _, h, q.at0⟩
    · exact ⟨0, _, (q.at1 e).1, (q.at1 e).2⟩
theorem Qs.hd (q : Qs K T B p ρ σ H) {a : Addr} : Hd T ρ σ a ↔ T a ∨ a = p.p ∨ p.s = some a := by unfold Hd; rw [q.own]
theorem Qs.step (q : Qs K T B p ρ σ H) (r : RS K T ρ1 σ1 H1) (po : Po ρ σ H ρ1 σ1 H1) (f : Fr p ρ1) : Qs K T B p ρ1 σ1 H1 := by
  refine ⟨r, f, fun a xs t n n2 h => ?_, fun a h => ?_, fun a o h to => ?_⟩
  · cases w : H a with
    | none => exact q.new a w
    | some o =>
      by_cases to : TbO o
      · exact q.tbs a o w to
      have := po.keep a o (fun z => (q.own.1 z).elim n n2) w to
      rw [h] at this; cases this
      exact q.lists a xs t n n2 w
  · cases w : H a with
    | none => exact q.new a w
    | some o => exact absurd h (po.dom a (by rw [w]; simp))
  · cases w : H a with
    | none => exact q.new a w
    | some o2 =>
      by_cases t2 : TbO o2
      · exact q.tbs a o2 w t2
      exfalso
      have no : ∀ (i : Nat) (m : MO), ρ1[i]? = some (some (.ow (.par a m))) → False := fun i m w2 => by
        obtain ⟨b, o3, b1, b2, b3⟩ := r.ow i _ w2
        rw [r.tag i a m b w2 b1] at b2
        rw [h] at b2; cases b2
        exact rpo_tb b3 to
      by_cases n : Own ρ σ a
      · rcases q.own.1 n with n | n
        · subst n
          obtain ⟨x, y, z, w2⟩ := f.dice
          exact no _ _ w2
        · rcases f.scr with ⟨s', e', w2⟩ | ⟨e', _⟩
          · rw [n] at e'; cases e'; exact no _ _ w2
          · rw [n] at e'; cases e'
      · have := po.keep a o2 n w t2
        rw [h] at this; cases this
        exact t2 to
structure Kp (B : Addr → Prop) (p : FC) (H H' : Hp) : Prop where
  keep : ∀ a o, a ≠ p.p → p.s ≠ some a → ¬ B a → H a = some o → H' a = some o
  dom : ∀ a, H a ≠ none → H' a ≠ none
theorem Kp.refl {B : Addr → Prop} {p : FC} : Kp B p H H := ⟨fun _ _ _ _ _ h => h, fun _ h => h⟩
theorem Kp.trans {B : Addr → Prop} {p : FC} {H2 : Hp} (a : Kp B p H H1) (b : Kp B p H1 H2) : Kp B p H H2 := ⟨fun x o n n2 m h => b.keep x o n n2 m (a.keep x o n n2 m h), fun x h => b.dom x (a.dom x h)⟩
theorem Qs.kp (q : Qs K T B p ρ σ H) (po : Po ρ σ H ρ1 σ1 H1) : Kp B p H H1 := ⟨fun a o n n2 m h => po.keep a o (fun z => (q.own.1 z).elim n n2) h (fun t => m (q.tbs a o h t)), po.dom⟩
structure EndB (K : PySem.W.Frag) (T B : Addr → Prop) (p : FC) (H : Hp) (E : DEnds) (D : Ends) : Prop where
  nx : ∀ ρ' σ' H', Qs K T B p ρ' σ' H' → Kp B p H H' → E.nx ρ' → D.nx σ' H'
  rt : ∀ d ρ' σ' v H', Qs K T B p ρ' σ' H' → Kp B p H H' → Rp K (hide (Hd T ρ' σ') H') v d → E.rt d ρ' → D.rt v H'
theorem EndB.step {E : DEnds} {D : Ends} (e : EndB K T B p H E D) (k : Kp B p H H1) : EndB K T B p H1 E D := ⟨fun a b c q k2 => e.nx a b c q (k.trans k2), fun a b c d f q k2 => e.rt a b c d f q (k.trans k2)⟩
end
def sB (f : DS) : DS := fun E ρ => ∀ p, Fr p ρ → f { nx := fun ρ' => Fr p ρ' ∧ E.nx ρ', rt := fun d ρ' => Fr p ρ' ∧ E.rt d ρ' } ρ
section
variable {X : Cx} {V : D → Prop} {a b c e : Expr} {es : List Expr} {fa fb fc : DE} {pos ps px : Pos} {x y : Str} {st : Stmt} {sts : List Stmt} {f g : DS}
end
def Fgt : Env → Env → Prop
  | [], [] => True
  | x :: l, y :: m => (y = x ∨ (y = none ∧ (x = none ∨ ∃ d, x = some (.im d)))) ∧ Fgt l m
  | _, _ => False
theorem Fgt.len : ∀ {ρ ρ0 : Env}, Fgt ρ ρ0 → ρ0.length = ρ.length
  | [], [], _ => rfl
  | _ :: _, _ :: _, h => by simp [Fgt.len h.2]
  | [], _ :: _, h => h.elim
  | _ :: _, [], h => h.elim
theorem Fgt.at : ∀ {ρ ρ0 : Env}, Fgt ρ ρ0 → ∀ i : Nat, ρ0[i]? = ρ[i]? ∨ (ρ0[i]? = some none ∧ ∃ d, ρ[i]? = some (some (.im d)))
  | [], [], _, _ => .inl rfl
  | _ :: _, _ :: _, h, 0 => by
    rcases h.1 with z | ⟨z, w | ⟨d, w⟩⟩
    · exact .inl (by simp [z])
    · exact .inl (by simp [z, w])
    · exact .inr ⟨by simp [z], d, by simp [w]⟩
  | _ :: _, _ :: _, h, i + 1 => by simpa using Fgt.at h.2 i
  | [], _ :: _, h, _ => h.elim
  | _ :: _, [], h, _ => h.elim
section
variable {K : PySem.W.Frag} {T : Addr → Prop} {ρ ρ0 : Env} {σ : L2.St} {H : Hp}
theorem Fgt.own (f : Fgt ρ ρ0) (a : Addr) : Own ρ0 σ a ↔ Own ρ σ a := by
  constructor
  · rintro ⟨i, m, h1, h2⟩
    rcases f.at i with z | ⟨z, _⟩
    · exact ⟨i, m, by rw [← z]; exact h1, h2⟩
    · rw [z] at h1; cases h1
  · rintro ⟨i, m, h1, h2⟩
    rcases f.at i with z | ⟨_, d, z⟩
    · exact ⟨i, m, by rw [z]; exact h1, h2⟩
    · rw [z] at h1; cases h1
theorem Fgt.hd (f : Fgt ρ ρ0) : Hd T ρ0 σ = Hd T ρ σ := by
  funext a
  apply propext
  unfold Hd
  rw [f.own]
theorem Fgt.sm (f : Fgt ρ ρ0) {i : Nat} {sv : SV} (h : ρ0[i]? = some (some sv)) : ρ[i]? = some (some sv) := by
  rcases f.at i with z | ⟨z, _⟩
  · rw [← z]; exact h
  · rw [z] at h; cases h
theorem Fgt.rs (f : Fgt ρ ρ0) (r : RS K T ρ σ H) : RS K T ρ0 σ H := by
  refine ⟨by rw [f.len, r.len], fun i d h => ?_, fun i m h => ?_, fun i j m m' a h1 h2 => r.inj i j m m' a (f.sm h1) (f.sm h2), fun a t w => r.dis a t ((f.own a).1 w), r.dom, fun i x m a h => r.tag i x m a (f.sm h), r.tb⟩
  · rw [f.hd]; exact r.im i d (f.sm h)
  · rw [f.hd]; exact r.ow i m (f.sm h)
end
section
variable {X : Cx} {sts : List Stmt} {f : DS}
end
end Dn.B3
set_option Elab.async false
set_option linter.all false
set_option maxRecDepth 100000
set_option autoImplicit false
set_option maxHeartbeats 4000000
namespace Dn
open PySem L2 Evl PySem.Spec PyProof.Rows
section
variable {X : Cx} {e : Expr} {es : List Expr} {f : DE} {ft : DT} {fa : DA}
noncomputable def JE.t (h : JE X e f) : TE := h.ex.choose
theorem JE.p (h : JE X e f) : PE X e h.t := h.ex.choose_spec.1
theorem JE.k (h : JE X e f) : ∀ (T : Addr → Prop) (ρ : Env) (σ : L2.St) (H : Hp) (QD : D → Env → Prop) (Q : VK), RS X.K T ρ σ H → f ρ QD →
    (∀ d ρ' v H', RS X.K T ρ' σ H' → Po ρ σ H ρ' σ H' → Rp X.K (hide (Hd T ρ' σ) H') v d → QD d ρ' → Q v H') → h.t σ H Q := h.ex.choose_spec.2
noncomputable def JT.t (h : JT X e ft) : TT := h.ex.choose
theorem JT.p (h : JT X e ft) : PT X e h.t := h.ex.choose_spec.1
theorem JT.k (h : JT X e ft) : ∀ (T : Addr → Prop) (ρ : Env) (σ : L2.St) (H : Hp) (QD : Bool → Env → Prop) (Q : Bool → Hp → Prop), RS X.K T ρ σ H → ft ρ QD →
    (∀ b ρ' H', RS X.K T ρ' σ H' → Po ρ σ H ρ' σ H' → QD b ρ' → Q b H') → h.t σ H Q := h.ex.choose_spec.2
noncomputable def JA.t (h : JA X es fa) : TA := h.ex.choose
theorem JA.p (h : JA X es fa) : PA X es h.t := h.ex.choose_spec.1
theorem JA.k (h : JA X es fa) : ∀ (T : Addr → Prop) (ρ : Env) (σ : L2.St) (H : Hp) (QD : List D → Env → Prop) (Q : List V → Hp → Prop), RS X.K T ρ σ H → fa ρ QD →
    (∀ ds ρ' vs H', RS X.K T ρ' σ H' → Po ρ σ H ρ' σ H' → RpAll X.K (hide (Hd T ρ' σ) H') vs ds → QD ds ρ' → Q vs H') → h.t σ H Q := h.ex.choose_spec.2
def Im (ρ : Env) : Prop := ∀ (i : Nat) (m : MO), ρ[i]? ≠ some (some (SV.ow m))
theorem Im.no {ρ : Env} {σ : L2.St} (h : Im ρ) (a : Addr) : ¬ Own ρ σ a := fun ⟨i, m, z, _⟩ => h i m z
theorem Im.set {ρ : Env} (h : Im ρ) (i : Nat) (d : D) : Im (ρ.set i (some (SV.im d))) := fun j m z => by
  rw [List.getElem?_set] at z
  split at z
  · split at z
    · cases z
    · cases z
  · exact h j m z
theorem Im.po {ρ ρ' : Env} {σ σ' : L2.St} {H H' : Hp} (h : Im ρ) (p : Po ρ σ H ρ' σ' H') : Exw H H' := ⟨fun a o z nt => p.keep a o (h.no a) z nt, p.dom⟩
theorem Im.hd {ρ : Env} {σ : L2.St} {T : Addr → Prop} {H : Hp} (h : Im ρ) : Ex (hide (Hd T ρ σ) H) (hide T H) := fun a o z => by
  obtain ⟨n, z⟩ := hide_some.1 z
  exact hide_some.2 ⟨fun t => n (.inl t), z⟩
theorem Im.hd' {ρ : Env} {σ : L2.St} {T : Addr → Prop} {H : Hp} (h : Im ρ) : Ex (hide T H) (hide (Hd T ρ σ) H) := fun a o z => by
  obtain ⟨n, z⟩ := hide_some.1 z
  exact hide_some.2 ⟨fun t => t.elim n (h.no a), z⟩
end
def cm (st : Stmt) (j : Nat) : Stmt := match st with
  | .ClassDef _ _ _ body _ _ _ _ _ _ _ => body.getD j (.Pass ⟨0, 0, 0, 0⟩)
  | s => s
end Dn
set_option Elab.async false
set_option linter.all false
set_option maxRecDepth 100000
set_option autoImplicit false
set_option maxHeartbeats 4000000
namespace Dn
open PySem L2 Evl PySem.Spec PyProof.Rows
abbrev ErP := Str → Option (Str × D) → Prop
abbrev DEX := Env → (D → Env → Prop) → ErP → Prop
theorem ErrAt.mono {K : PySem.W.Frag} {G G' H : Hp} {dd : Option Addr} {fd : Option (Str × D)} (e : Ex G G') (h : ErrAt K G H dd fd) : ErrAt K G' H dd fd := by
  obtain ⟨tb, h⟩ := h
  refine ⟨tb, ?_⟩
  cases fd with
  | none => trivial
  | some fd => obtain ⟨a, pv, h1, h2, h3⟩ := h; exact ⟨a, pv, h1, h2, h3.mono e⟩
theorem Po.nil {ρ ρ' : Env} {σ σ' τ : L2.St} {H H' : Hp} (p : Po ρ σ H ρ' σ' H') : Po ρ σ H [] τ H' := ⟨fun a o n h nt => p.keep a o n h nt, fun a ⟨i, m, w, _⟩ => by simp at w, p.dom⟩
section
variable {X : Cx} {a b c e o : Expr} {fa fb fc fo : DE} {pos p apos : Pos} {es : List Expr} {x y m nm : Str} {k n : Nat} {g : DA}
def sRetX (f : DEX) : DS := fun E ρ => f ρ E.rt E.er
def sRaise (nm f : Str) (g : DA) : DS := fun E ρ => g ρ fun ds _ => ∃ d, ds = [d] ∧ E.er nm (some (f, d))
structure JZE (X : Cx) (a dd : Addr) (i : Nat) (f0 : Str) (e : Expr) (g : D → DE) : Prop where
  ex : ∃ t, PE X e t ∧ ∀ (T : Addr → Prop) (ρ : Env) (σ : L2.St) (H : Hp) (QD : D → Env → Prop) (Q : VK) (d : D) (pv : V), RS X.K T ρ σ H → σ[i]? = some (some (.ref a)) → H dd = some (.xd [(f0, pv)]) → Rp X.K (hide (Hd T ρ σ) H) pv d → g d ρ QD →
    (∀ d ρ' v H', RS X.K T ρ' σ H' → Po ρ σ H ρ' σ H' → Rp X.K (hide (Hd T ρ' σ) H') v d → QD d ρ' → Q v H') → t σ H Q
end
def sSui (f0 : Str) (g : D → DE) : Option (Str × D) → DS := fun fd E ρ => ∃ d, fd = some (f0, d) ∧ g d ρ E.rt
def sTry (hc : Str) (n : Nat) (fb : DS) (fs : Option (Str × D) → DS) : DS := fun E ρ => fb { E with er := fun nm fd => nm = hc ∧ fs fd { nx := fun _ => False, rt := E.rt } (List.replicate n none) } ρ
section
variable {X : Cx} {e : Expr} {np pos pos' pr : Pos} {body : List Stmt} {nm n : Str} {i : Nat} {f0 : Str} {g : D → DE} {fb : DS}
end
section
variable {P : Program} {w : World} {K : PySem.W.Frag} {mg : Str → Option Value} {base : Heap} {st : Stmt} {N ps : List Str} {k : Nat} {f : Addr} {fd : FuncData} {x nm m q : Str}
end
end Dn
namespace Dn
open PySem L2 Evl PySem.Spec PyProof.Rows
abbrev dErr : D → DE := fun d ρ Q => Q d ρ
end Dn
set_option Elab.async false
set_option linter.all false
set_option maxRecDepth 100000
set_option autoImplicit false
set_option maxHeartbeats 4000000
namespace Dn
open PySem L2 Evl PySem.Spec PyProof.Rows
def tyT (K : PySem.W.Frag) (x : V) (H : Hp) : Prop := ∃ p o xs, x = .ref p ∧ H p = some o ∧ TO K o xs
section
variable {X : Cx}
theorem tyT_is {pins : List (Addr × Obj)} {σ : L2.St} {H : Hp} {s : Shared} {x : V} {v : Value} (kt : KT X.K) (I : L2.Inv X pins σ H s) (r : RelV x v) (ty : tyT X.K x H) :
    s.TypeIs v "tuple" ∧ ∀ a, v = .ref a → ∃ ob, s.heap.get? a = some ob ∧ ob.dict = none := by
  obtain ⟨p, o, xs, rfl, hp, t⟩ := ty
  obtain ⟨ob, rfl, hc, hd⟩ := t.kt kt
  have g := (I.hok p _ hp).1
  cases r
  refine ⟨⟨ob, g, hc⟩, fun a e => ?_⟩
  cases e
  exact ⟨ob, g, hd⟩
variable {o e : Expr} {es : List Expr} {to : TE} {t : TA} {name : Str} {apos cpos : Pos} {id : String} {r : V → List V → Hp → VK → Prop}
def tBMT (K : PySem.W.Frag) (r : V → List V → Hp → VK → Prop) (to : TE) (t : TA) : TE := fun σ H Q => to σ H fun x H1 => tyT K x H1 ∧ t σ H1 fun xs H2 => r x xs H2 Q
theorem pe_bmT (kt : KT X.K) (slot : Slot "tuple" name id) (hty : typeOf (.builtin id) = pure (.type "method_descriptor")) (hm : MtR X id r) (ho : PE X o to) (ha : PA X (e :: es) t)
    (hbase : attributeBase o name X.env (eval o X.env) = eval o X.env := by rfl)
    (hfew : ((backTo cpos (starEach (e :: es) X.env)).all (fun x => !x.1) && (backToKw cpos (keywordEach [] X.env)).all (fun x => x.1.isSome)
      && decide ((e :: es).length + ([] : List Keyword).length + (if ([] : List Keyword).isEmpty then 0 else 1) < 30)) = true := by rfl)
    (hline : (apos.endLine == cpos.line) = true := by rfl) (hs : starEach (e :: es) X.env = (false, eval e X.env) :: starEach es X.env := by rfl) (hplain : (backTo cpos (starEach es X.env)).any (·.1) = false := by rfl) :
    PE X (.Call (.Attribute o name apos) (e :: es) [] cpos) (tBMT X.K r to t) := by
  refine ⟨fun pins s σ H Q I h => ?_⟩
  refine wpAny_Call_method_late hbase hfew hline rfl (thn (ho.run pins s σ H _ I h) fun v s1 ⟨x, H1, I1, r1, ty, q1⟩ => ?_)
  obtain ⟨h1, h2⟩ := tyT_is kt I1 r1 ty
  refine ⟨"tuple", id, PySem.F.plainAttrs_tuple, slot, hty, h1, h2, ?_⟩
  have hA := ha.run cpos pins s1 σ H1 _ I1 q1
  rw [hs] at hA ⊢
  refine Calls.callWith_builtin (by show (false || (backTo cpos (starEach es X.env)).any (·.1)) = false; rw [hplain] <;> rfl) (Calls.evalArgs_plain ?_)
  exact thn hA fun us s2 ⟨vs, H2, I2, r2, q2⟩ => hm pins s2 σ H2 x vs v us Q I2 r1 r2 q2
def rTF (K : PySem.W.Frag) (f : List D → D → (V → Prop) → Prop) : V → List V → Hp → VK → Prop := fun x xs H Q => ∃ p ys y ds d, x = .ref p ∧ xs = [y] ∧ SqT K H p ys ∧ DpAll K H ys ds ∧ Dp K H y d ∧ PyData.canLayAll0 ds = true ∧ d.canLay0 = true ∧ d.depth ≤ 60 ∧ f ds d fun v => Q v H
def fIx : List D → D → (V → Prop) → Prop := fun ds d Q => ∃ j : Nat, SeqAt.dataPlace ds d = some j ∧ Q (.int j)
theorem mt_tIx (hu : X.A.units + 64 < cLine) : MtR X "tuple.index" (rTF X.K fIx) := by
  intro pins s σ H x xs v us Q I rx rs h
  obtain ⟨p, ys, y, ds, d, rfl, rfl, hq, ha, hy, pl, pd, dd, j, hj, q⟩ := h
  cases rx
  obtain ⟨u, rfl, ru⟩ := vals1 rs
  replace pl := PyData.plainAll_of_canLay0 _ pl
  replace pd := PyData.plain_of_canLay0 _ pd
  obtain ⟨its, rv, ⟨⟨cls, di, dt, sl⟩, ho, hc, n, hd⟩, hz⟩ := I.tuple hq
  simp only at hc hd
  subst hc hd
  obtain ⟨as, r1⟩ := Dp.readsAll I ds ys its ha rv
  obtain ⟨bs, r2⟩ := Dp.reads I d y u hy ru
  have r1' : ReadsAll s.heap its.toArray.toList ds as := by simpa using r1
  obtain ⟨h1, h2, h3⟩ := SeqAt.hit_at r1' pl hj
  exact call_meets PySem.F.slot_tuple_index ⟨_, ho, rfl⟩ PySem.F.entry_tuple_index (PySem.F.args_tuple_index_2 _ _) (_root_.TI.tuple_indexAt p its.toArray n di sl u (fun w => PyData.eqv (SeqAt.readOf s.heap w) d) j h1 h2 h3)
    ⟨ho, SeqAt.items_plain (A := X.A) r1' r2 pl pd (by omega), ⟨.int (j : Nat), H, I.tok _, ⟨_, rfl⟩, q⟩⟩
variable {a b : Expr} {fa fb : DE} {pos pa : Pos}
def dTF (f : List D → D → (D → Prop) → Prop) (fa fb : DE) : DE := fun ρ Q => fa ρ fun z ρ1 => ∃ ds, z = .tuple ds ∧ fb ρ1 fun d ρ2 => PyData.canLayAll0 ds = true ∧ d.canLay0 = true ∧ d.depth ≤ 60 ∧ f ds d fun e => Q e ρ2
def gIx : List D → D → (D → Prop) → Prop := fun ds d Q => ∃ j : Nat, SeqAt.dataPlace ds d = some j ∧ Q (.int j)
theorem je_tF {nm id : String} {f : List D → D → (V → Prop) → Prop} {g : List D → D → (D → Prop) → Prop} (kt : KT X.K) (slot : Slot "tuple" name id) (hty : typeOf (.builtin id) = pure (.type "method_descriptor")) (hm : MtR X id (rTF X.K f))
    (hfg : ∀ (ds : List D) (d : D) (Q : V → Prop) (R : D → Prop), g ds d R → (∀ n : Int, R (.int n) → Q (.int n)) → f ds d Q) (hg : ∀ (ds : List D) (d : D) (Q : V → Prop) (R : D → Prop), g ds d R → True)
    (ha : JE X a fa) (hb : JE X b fb)
    (hbase : attributeBase a name X.env (eval a X.env) = eval a X.env := by rfl)
    (hfew : ((backTo pos (starEach [b] X.env)).all (fun x => !x.1) && (backToKw pos (keywordEach [] X.env)).all (fun x => x.1.isSome)
      && decide ([b].length + ([] : List Keyword).length + (if ([] : List Keyword).isEmpty then 0 else 1) < 30)) = true := by rfl)
    (hline : (pa.endLine == pos.line) = true := by rfl) (hs : starEach [b] X.env = (false, eval b X.env) :: starEach [] X.env := by rfl) :
    JE X (.Call (.Attribute a name pa) [b] [] pos) (dTF g fa fb) := by
  obtain ⟨ta, qa, ka⟩ := ha.ex
  obtain ⟨tb, qb, kb⟩ := hb.ex
  refine ⟨_, pe_bmT kt slot hty hm qa (pa_cons qb pa_nil hs) hbase hfew hline hs (by rfl), fun T ρ σ H QD Q r h q => ka T ρ σ H _ _ r h fun z ρ1 v H1 r1 p1 v1 h => ?_⟩
  obtain ⟨ds, rfl, h⟩ := h
  cases v1 with
  | @tup a xs _ hp rr =>
    obtain ⟨o, hp0, t⟩ := hp
    refine ⟨⟨_, o, xs, rfl, at_of hp0, t⟩, kb T ρ1 σ H1 _ _ r1 h fun d ρ2 w H2 r2 p2 v2 h => ?_⟩
    obtain ⟨c1, c2, c5, h⟩ := h
    have e2 : Rp X.K (hide (Hd T ρ2 σ) H2) (.ref a) (.tuple ds) := (Rp.tup ⟨o, hp0, t⟩ rr).monoW p2.fz
    cases e2 with
    | @tup _ xs' _ hp' rr' =>
      exact ⟨_, xs', w, ds, d, rfl, rfl, sqt_of hp', rr'.dp c1, v2.dp c2, c1, c2, c5, hfg ds d _ _ h fun n hn => q _ _ _ _ r2 (p1.trans p2) (.int n) hn⟩
theorem je_tIx (kt : KT X.K) (hu : X.A.units + 65 < cLine) (ha : JE X a fa) (hb : JE X b fb)
    (hbase : attributeBase a "index" X.env (eval a X.env) = eval a X.env := by rfl)
    (hfew : ((backTo pos (starEach [b] X.env)).all (fun x => !x.1) && (backToKw pos (keywordEach [] X.env)).all (fun x => x.1.isSome)
      && decide ([b].length + ([] : List Keyword).length + (if ([] : List Keyword).isEmpty then 0 else 1) < 30)) = true := by rfl)
    (hline : (pa.endLine == pos.line) = true := by rfl) (hs : starEach [b] X.env = (false, eval b X.env) :: starEach [] X.env := by rfl) :
    JE X (.Call (.Attribute a "index" pa) [b] [] pos) (dTF gIx fa fb) :=
  je_tF (nm := "") kt PySem.F.slot_tuple_index PySem.F.type_tuple_index (mt_tIx (by omega)) (fun ds d Q R ⟨j, h1, h2⟩ k => ⟨j, h1, k _ h2⟩) (fun _ _ _ _ _ => trivial) ha hb hbase hfew hline hs
end
theorem place_map {α : Type} [DecidableEq α] {f : α → D} (hf : ∀ a b, PyData.eqv (f a) (f b) = decide (a = b)) {l : List α} {a : α} (h : a ∈ l) : SeqAt.dataPlace (l.map f) (f a) = some (l.idxOf a) := by
  unfold SeqAt.dataPlace
  rw [List.findIdx?_map]
  have : ((fun y => PyData.eqv y (f a)) ∘ f) = fun b => b == a := by
    funext b
    show PyData.eqv (f b) (f a) = _
    rw [hf]
    rfl
  rw [this, List.findIdx?_eq_some_iff_findIdx_eq]
  exact ⟨List.idxOf_lt_length_iff.mpr h, rfl⟩
end Dn
set_option Elab.async false
set_option linter.all false
set_option maxRecDepth 100000
set_option autoImplicit false
set_option maxHeartbeats 4000000
namespace Dn
open PySem L2 Evl PySem.Spec PyProof.Rows
def xProp (nm : Str) (S : List D → (D → Prop) → Prop) (fo : DEX) : DEX := fun ρ Q E => fo ρ (fun d ρ1 => (∃ es, d = obD nm es) ∧ S [d] fun z => Q z ρ1) E
end Dn
set_option Elab.async false
set_option linter.all false
set_option maxRecDepth 100000
set_option autoImplicit false
set_option maxHeartbeats 4000000
namespace Dn
open PySem L2 Evl PySem.Spec PyProof.Rows PySem.SeqAt
end Dn
namespace Dn
open PySem L2 Evl PySem.Spec PyProof.Rows PySem.SeqAt
section
variable {X : Cx}
def isDct : D → Bool
  | .dict [] => true
  | _ => false
def isTup : D → Bool
  | .tuple _ => true
  | _ => false
def dEqX : D → D → (D → Prop) → Prop := fun x y Q => if isDct x = true then isTup y = true ∧ Q (.bool false) else dEq x y Q
variable {X : Cx} {a b : Expr} {fa fb : DE} {pos : Pos}
end
end Dn
set_option Elab.async false
set_option linter.all false
set_option maxRecDepth 100000
set_option autoImplicit false
set_option maxHeartbeats 4000000
namespace Dn
open PySem L2 Evl Cq PySem.Spec PyProof.Rows
def wiOf (K : PySem.W.Frag) (f : DL) : TI := fun σ H R => ∃ (T : Addr → Prop) (ρ : Env) (QD : List D → Env → Prop), RS K T ρ σ H ∧ f ρ QD ∧ ∀ ds ρ' J H', RS K T ρ' σ H' → Po ρ σ H ρ' σ H' → ItOk K J (hide (Hd T ρ' σ) H') ds → QD ds ρ' → R J H'
theorem JI.pi {X : Cx} {tg iter : Expr} {f : DL} (h : JI X tg iter f) : PI X tg iter (wiOf X.K f) := by
  obtain ⟨t, pt, k⟩ := h.ex
  exact ⟨fun pins s σ H R I ⟨T, ρ, QD, r, h, q⟩ => pt.run pins s σ H R I (k T ρ σ H QD R r h q)⟩
abbrev DB := List D → Env → (List D → Env → Prop) → Prop
def wpLcB (g : DG) (tt : DT) (B : DB) (vs : List Nat) (Q : List D → Env → Prop) : List D → List D → Env → Prop
  | [], acc, ρ => Q acc ρ
  | d :: ds, acc, ρ => g d (wipeD ρ vs) fun ρ1 => tt ρ1 fun b ρ2 => if b = true then B acc ρ2 fun acc' ρ3 => wpLcB g tt B vs Q ds acc' (wipeD ρ3 vs) else wpLcB g tt B vs Q ds acc (wipeD ρ2 vs)
def bOne (te : DE) : DB := fun acc ρ Q => acc.length < 16777216 ∧ te ρ fun y ρ3 => Q (acc ++ [y]) ρ3
def bMany (fi : DL) (g : DG) (tt : DT) (te : DE) (vs : List Nat) : DB := fun acc ρ Q => fi ρ fun es ρ3 => wpLcB g tt (bOne te) vs Q es acc (wipeD ρ3 vs)
def lLc2 (fi : DL) (g : DG) (tt : DT) (fi2 : DL) (g2 : DG) (tt2 : DT) (te : DE) (vs vs2 : List Nat) : DL := fun ρ Q => fi ρ fun ds ρ1 => wpLcB g tt (bMany fi2 g2 tt2 te vs2) vs Q ds [] (wipeD ρ1 vs)
section
variable {K : PySem.W.Frag} {T : Addr → Prop} {ρ1 : Env} {σ1 : L2.St} {H1 : Hp} {L : Addr} {G : Hp}
structure LpS (K : PySem.W.Frag) (T : Addr → Prop) (ρ1 : Env) (σ1 : L2.St) (H1 : Hp) (L : Addr) (G : Hp) (ρ : Env) (σ : L2.St) (H : Hp) (acc : List D) (us : List L2.V) : Prop where
  rs : RS K (plus T L) ρ σ H
  po : Po ρ1 σ1 H1 ρ σ H
  at_ : H L = some (.lst us)
  all : RpAll K (hide (Hd (plus T L) ρ σ) H) us acc
  ex : Exw G (hide (Hd (plus T L) ρ σ) H)
theorem LpS.wiped {ρ : Env} {σ : L2.St} {H : Hp} {acc : List D} {us : List L2.V} (s : LpS K T ρ1 σ1 H1 L G ρ σ H acc us) (vs : List Nat) : LpS K T ρ1 σ1 H1 L G (wipeD ρ vs) (wipe σ vs) H acc us :=
  ⟨s.rs.wiped vs, s.po.trans (.wiped vs), s.at_, s.all.monoW ((Po.wiped vs).fz), s.ex.trans (Po.wiped vs).fz⟩
theorem LpS.step {ρ ρ' : Env} {σ σ' : L2.St} {H H' : Hp} {acc : List D} {us : List L2.V} (s : LpS K T ρ1 σ1 H1 L G ρ σ H acc us) (r : RS K (plus T L) ρ' σ' H') (p : Po ρ σ H ρ' σ' H') : LpS K T ρ1 σ1 H1 L G ρ' σ' H' acc us :=
  ⟨r, s.po.trans p, p.keep L _ (s.rs.dis L (.inl rfl)) s.at_, s.all.monoW p.fz, s.ex.trans p.fz⟩
theorem LpS.push {ρ : Env} {σ : L2.St} {H : Hp} {acc : List D} {us : List L2.V} {w : L2.V} {y : D} (hL : H1 L = none) (s : LpS K T ρ1 σ1 H1 L G ρ σ H acc us) (v : Rp K (hide (Hd (plus T L) ρ σ) H) w y) : LpS K T ρ1 σ1 H1 L G ρ σ (upd H L (.lst (us ++ [w]))) (acc ++ [y]) (us ++ [w]) := by
  have aL : ∀ (o : HO), Ex (hide (Hd (plus T L) ρ σ) H) (hide (Hd (plus T L) ρ σ) (upd H L o)) := fun o a u w => by
    obtain ⟨n, w⟩ := hide_some.1 w
    exact hide_some.2 ⟨n, by rw [upd_ne (fun z => n (.inl (.inl z)))]; exact w⟩
  refine ⟨⟨s.rs.len, fun j d z => ?_, fun j m z => ?_, s.rs.inj, s.rs.dis, fun a t => ?_, s.rs.tag, s.rs.tb.wr s.at_⟩, ⟨fun a o n hh nt => ?_, s.po.own, fun a hh => ?_⟩, upd_same, (s.all.append (.cons v .nil)).mono (aL _), s.ex.trans (Exw.of (aL _))⟩
  · obtain ⟨u, h1, h2⟩ := s.rs.im j d z; exact ⟨u, h1, h2.mono (aL _)⟩
  · obtain ⟨a, o, h1, h2, h3⟩ := s.rs.ow j m z
    have ne : a ≠ L := fun e => by subst e; exact s.rs.dis a (.inl rfl) ⟨j, m, z, h1⟩
    exact ⟨a, o, h1, by rw [upd_ne ne]; exact h2, h3.mono (aL _)⟩
  · by_cases e : a = L
    · subst e; exact Lv.at id
    · exact (s.rs.dom a t).upd e
  · rw [upd_ne (fun e => by subst e; rw [hL] at hh; cases hh)]; exact s.po.keep a o n hh nt
  · by_cases e : a = L
    · subst e; rw [upd_same]; simp
    · rw [upd_ne e]; exact s.po.dom a hh
end
section
variable {X : Cx}
end
end Dn
set_option Elab.async false
set_option linter.all false
set_option maxRecDepth 100000
set_option autoImplicit false
set_option maxHeartbeats 4000000
namespace Dn
open PySem L2 Evl PySem.Spec PyProof.Rows
def dMulI (nm : Str) (S : List D → (D → Prop) → Prop) (fa fb : DE) : DE := fun ρ Q => fa ρ fun d ρ1 => fb ρ1 fun e ρ2 => (∃ es, d = obD nm es) ∧ (∃ es, e = obD nm es) ∧ S [d, e] fun z => Q z ρ2
end Dn
set_option Elab.async false
set_option linter.all false
set_option maxRecDepth 100000
set_option autoImplicit false
set_option maxHeartbeats 4000000
namespace Dn
open PySem L2 Evl PySem.Spec PyProof.Rows
def dInvI (nm : Str) (S : List D → (D → Prop) → Prop) (fa : DE) : DE := fun ρ Q => fa ρ fun d ρ1 => (∃ es, d = obD nm es) ∧ S [d] fun z => Q z ρ1
def OkMX (P : Program) (w : World) (K : PySem.W.Frag) (mg : Str → Option Value) (base : Heap) (C : Addr) (m : Str) (ps : List Str) (k : Nat) (sp : Sp) : Prop :=
  ∃ f fd, FnOk P w K mg base (L2.CX P w) k f fd ps sp ∧ Meth K C m f ∧ Binds K fd ps []
section
variable {P : Program} {w : World} {K : PySem.W.Frag} {mg : Str → Option Value} {base : Heap} {N ps : List Str} {k : Nat} {m q : Str} {st : Stmt}
def OkSX (P : Program) (w : World) (K : PySem.W.Frag) (mg : Str → Option Value) (base : Heap) (C : Addr) (m : Str) (k : Nat) (sp : Sp) : Prop :=
  ∃ f, Slo K C m f ∧ FnR P w K mg base (L2.CX P w) k f sp
theorem OkMX.slot {C : Addr} {sp : Sp} (h : OkMX P w K mg base C m ps k sp) : OkSX P w K mg base C m k sp := by
  obtain ⟨f, fd, F, M, B⟩ := h
  refine ⟨f, ⟨M.at_, M.fn⟩, ?_⟩
  have := FnOk.raw F B .nil
  exact FnR.imp this fun vs H Q E z => by simpa using z
end
def xMulI (nm : Str) (S : List D → (D → Prop) → ErP → Prop) (fa fb : DE) : DEX := fun ρ Q E => fa ρ fun d ρ1 => fb ρ1 fun e ρ2 => (∃ es, d = obD nm es) ∧ (∃ es, e = obD nm es) ∧ S [d, e] (fun z => Q z ρ2) E
section
variable {X : Cx} {a b c e o : Expr} {fa fb fc fo : DE} {pos p apos : Pos} {es : List Expr} {x y m nm : Str} {k n : Nat} {g : DA}
def dNeM (oth : List Str) (nm : Str) (S : List D → (D → Prop) → Prop) (fa fb : DE) : DE := fun ρ Q => fa ρ fun d ρ1 => fb ρ1 fun e ρ2 => (dNe d e fun z => Q z ρ2) ∨ ((∃ es, d = obD nm es) ∧ (∃ b, clsOk oth nm e = some b) ∧ S [d, e] fun z => ∃ b, z = .bool b ∧ Q (.bool (b ^^ true)) ρ2)
end
end Dn
set_option Elab.async false
set_option linter.all false
set_option maxRecDepth 100000
set_option autoImplicit false
set_option maxHeartbeats 4000000
namespace Dn
open PySem L2 Evl PySem.Spec PyProof.Rows LamX
section
variable {X : Cx} {pins : List (Addr × Obj)} {σ : L2.St} {H : Hp} {s : Shared}
end
abbrev EDP := Str → Option (Str × D) → Env → Prop
abbrev DLX := Env → (D → Env → Prop) → EDP → Prop
section
variable {X : Cx} {a b c e o : Expr} {fa fb fc fo : DE} {pos p apos : Pos} {es : List Expr} {x y m nm : Str} {k n : Nat} {g : DA}
end
def tC (K : PySem.W.Frag) (f : DLX) (E : XK) : TE := fun σ H Q => ∃ (T : Addr → Prop) (ρ : Env) (QD : D → Env → Prop) (ED : EDP), RS K T ρ σ H ∧ f ρ QD ED ∧
  (∀ d ρ' v H', RS K T ρ' σ H' → Po ρ σ H ρ' σ H' → Rp K (hide (Hd T ρ' σ) H') v d → QD d ρ' → Q v H') ∧
  ∀ nm fd ρ' dd H', RS K T ρ' σ H' → Po ρ σ H ρ' σ H' → ErrAt K (hide (Hd T ρ' σ) H') H' dd fd → ED nm fd ρ' → E (.ref (adrOf K nm)) dd H'
end Dn
set_option Elab.async false
set_option linter.all false
set_option maxRecDepth 100000
set_option autoImplicit false
set_option maxHeartbeats 4000000
namespace Dn
open PySem L2 Evl PySem.Spec PyProof.Rows LamX
abbrev Cla := Value × Option Nat × (Addr → Value → Option Addr → TS)
inductive ClOk (X : Cx) : List ExceptHandler → List Cla → Prop
  | nil : ClOk X [] []
  | bare {x : Str} {c : Value} {ts : Addr → Value → Option Addr → TS} {b₀ : Stmt} {suite : List Stmt} {np pos' : Pos} {hds : List ExceptHandler} {l : List Cla} (hc : Names X x c)
      (hsu : ∀ (a : Addr) (oe : Obj) (cls : Value) (d : Option Addr) (pn : List (Addr × Obj)), Zc cls d oe → (∃ vs, oe.data = .fields vs) → PSs (X.suite a ((a, oe) :: pn)) (b₀ :: suite) (ts a cls d)) (r : ClOk X hds l) :
      ClOk X (.ExceptHandler (some (.Name x np)) none (b₀ :: suite) pos' :: hds) ((c, none, ts) :: l)
  | as {x n : Str} {i : Nat} {c : Value} {ts : Addr → Value → Option Addr → TS} {b₀ : Stmt} {suite : List Stmt} {np pos' : Pos} {hds : List ExceptHandler} {l : List Cla} (hc : Names X x c) (hi : X.N[i]? = some n) (hln : X.env.kindOf n = some .local)
      (hsu : ∀ (a : Addr) (oe : Obj) (cls : Value) (d : Option Addr) (pn : List (Addr × Obj)), Zc cls d oe → (∃ vs, oe.data = .fields vs) → PSs (X.suite a ((a, oe) :: pn)) (b₀ :: suite) (ts a cls d)) (r : ClOk X hds l) :
      ClOk X (.ExceptHandler (some (.Name x np)) (some n) (b₀ :: suite) pos' :: hds) ((c, some i, ts) :: l)
section
variable {X : Cx} {body : List Stmt} {h₀ : ExceptHandler} {hds : List ExceptHandler} {l : List Cla} {pos : Pos} {tb : WX → TS} {Wout : WX}
end
end Dn
set_option Elab.async false
set_option linter.all false
set_option maxRecDepth 100000
set_option autoImplicit false
set_option maxHeartbeats 4000000
namespace Dn
open PySem L2 Evl PySem.Spec PyProof.Rows LamX
structure HC where
  cl : Str
  nm : Option (Nat × Str)
  g : D → DE
def tsB (K : PySem.W.Frag) (g : D → DE) : Addr → Value → Option Addr → TS := fun _ _ _ F σ H => ∃ (T : Addr → Prop) (ρ : Env) (QD : D → Env → Prop), RS K T ρ σ H ∧ g .none ρ QD ∧ ∀ d ρ' v H', RS K T ρ' σ H' → Po ρ σ H ρ' σ H' → Rp K (hide (Hd T ρ' σ) H') v d → QD d ρ' → F.rt v H'
def tsA (K : PySem.W.Frag) (cl f0 : Str) (i : Nat) (g : D → DE) : Addr → Value → Option Addr → TS := fun a cls d F σ H => cls = .ref (adrOf K cl) ∧ ∃ (T : Addr → Prop) (ρ : Env) (pv : V) (d0 : D) (dd : Addr) (QD : D → Env → Prop), d = some dd ∧ RS K T ρ σ H ∧ σ[i]? = some (some (.ref a)) ∧ H dd = some (.xd [(f0, pv)]) ∧ Rp K (hide (Hd T ρ σ) H) pv d0 ∧ g d0 ρ QD ∧
  ∀ d ρ' v H', RS K T ρ' σ H' → Po ρ σ H ρ' σ H' → Rp K (hide (Hd T ρ' σ) H') v d → QD d ρ' → F.rt v H'
def HC.cla (K : PySem.W.Frag) : HC → Cla
  | ⟨cl, none, g⟩ => (.ref (adrOf K cl), none, tsB K g)
  | ⟨cl, some (i, f0), g⟩ => (.ref (adrOf K cl), some i, tsA K cl f0 i g)
section
variable {P : Program} {w : World} {K : PySem.W.Frag} {mg : Str → Option Value} {base : Heap} {st : Stmt} {N : List Str} {x a nm n f0 : Str} {i k : Nat} {e : Expr} {rest : List Stmt} {gr : DS} {p1 p2 p3 np pr pos' pos : Pos}
inductive HdR (P : Program) (w : World) (K : PySem.W.Frag) (mg : Str → Option Value) (base : Heap) (x : Str) (st : Stmt) (N : List Str) (k : Nat) : List ExceptHandler → List HC → Prop
  | nil : HdR P w K mg base x st N k [] []
  | bare {nm : Str} {e : Expr} {g : D → DE} {np pr pos' : Pos} {hds : List ExceptHandler} {cs : List HC} (hg : (defScope st).names.lookup nm = some .globalImplicit) (hdb : (nm == ("__debug__" : Str)) = false) (hm : mg nm = some (.ref (adrOf K nm)))
      (hsu : ∀ (f : Addr) (cdv : Value) (A : Around) (outer : List PySem.Env) (s : Shared) (H : Hp) (E : XK) (a : Addr) (oe : Obj) (pn : List (Addr × Obj)), Room k (A.deeper (envOfC x (defScope st) s.heap.objs.size f cdv)) → JE ((cxOf L2.CX0 P w K mg base N x (defScope st) f cdv A outer s H E).nox.suite a ((a, oe) :: pn)) e (g .none))
      (r : HdR P w K mg base x st N k hds cs) : HdR P w K mg base x st N k (.ExceptHandler (some (.Name nm np)) none [.Return (some e) pr] pos' :: hds) (⟨nm, none, g⟩ :: cs)
  | as {nm n f0 : Str} {i : Nat} {e : Expr} {g : D → DE} {np pr pos' : Pos} {hds : List ExceptHandler} {cs : List HC} (hi : N[i]? = some n) (hln : (defScope st).names.lookup n = some .local) (hg : (defScope st).names.lookup nm = some .globalImplicit) (hdb : (nm == ("__debug__" : Str)) = false) (hm : mg nm = some (.ref (adrOf K nm)))
      (hsu : ∀ (f : Addr) (cdv : Value) (A : Around) (outer : List PySem.Env) (s : Shared) (H : Hp) (E : XK) (a dd : Addr) (oe : Obj) (pn : List (Addr × Obj)), Room k (A.deeper (envOfC x (defScope st) s.heap.objs.size f cdv)) → Zc (.ref (adrOf K nm)) (some dd) oe → (∃ vs, oe.data = .fields vs) → JZE ((cxOf L2.CX0 P w K mg base N x (defScope st) f cdv A outer s H E).nox.suite a ((a, oe) :: pn)) a dd i f0 e g)
      (r : HdR P w K mg base x st N k hds cs) : HdR P w K mg base x st N k (.ExceptHandler (some (.Name nm np)) (some n) [.Return (some e) pr] pos' :: hds) (⟨nm, some (i, f0), g⟩ :: cs)
theorem HdR.slots {hds : List ExceptHandler} {cs : List HC} (h : HdR P w K mg base x st N k hds cs) : ∀ c, c ∈ cs → ∀ q, c.nm = some q → q.1 < N.length := by
  induction h with
  | nil => intro c hc; simp at hc
  | bare _ _ _ _ _ ih =>
    intro c hc q e
    rcases List.mem_cons.mp hc with rfl | hc
    · cases e
    · exact ih c hc q e
  | as hi _ _ _ _ _ _ ih =>
    intro c hc q e
    rcases List.mem_cons.mp hc with rfl | hc
    · cases e; exact (List.getElem?_eq_some_iff.mp hi).1
    · exact ih c hc q e
theorem HdR.ok {hds : List ExceptHandler} {cs : List HC} (h : HdR P w K mg base x st N k hds cs) {f : Addr} {cdv : Value} {A : Around} {outer : List PySem.Env} {s : Shared} {H : Hp} {E : XK} (hr : Room k (A.deeper (envOfC x (defScope st) s.heap.objs.size f cdv))) :
    ClOk (cxOf L2.CX0 P w K mg base N x (defScope st) f cdv A outer s H E).nox hds (cs.map (HC.cla K)) := by
  induction h with
  | nil => exact .nil
  | bare hg hdb hm hsu _ ih =>
    refine .bare ⟨hg, hdb, .inl hm⟩ (fun a oe cls d pn hz hf => ⟨fun pins s' σ H' D I h => ?_⟩) ih
    obtain ⟨T, ρ, QD, r, h, q⟩ := h
    obtain ⟨t, pt, kt⟩ := (hsu f cdv A outer s H E a oe pn hr).ex
    exact (pss_one (ps_ret pt)).run pins s' σ H' D I (kt T ρ σ H' QD _ r h q)
  | as hi hln hg hdb hm hsu _ ih =>
    refine .as ⟨hg, hdb, .inl hm⟩ hi hln (fun a oe cls d pn hz hf => ⟨fun pins s' σ H' D I h => ?_⟩) ih
    obtain ⟨rfl, T, ρ, pv, d0, dd, QD, rfl, r, h1, h2, h3, h4, q⟩ := h
    obtain ⟨t, pt, kt⟩ := (hsu f cdv A outer s H E a dd oe pn hr hz hf).ex
    exact (pss_one (ps_ret pt)).run pins s' σ H' D I (kt T ρ σ H' QD _ d0 pv r h1 h2 h3 h4 q)
end
end Dn
set_option Elab.async false
set_option linter.all false
set_option maxRecDepth 100000
set_option autoImplicit false
set_option maxHeartbeats 2000000
namespace He
open PySem PySem.Spec PyProof.Rows L2 PySem.W HandSHeadRun
def dumH {α : Type} (va : α) : Hook := ⟨α, fun _ => va, fun _ => va, fun _ _ => True, fun _ _ _ => trivial, fun _ _ _ _ _ => trivial⟩
theorem runEq_two {r : OpenRow} {q : Program} {H : Hook} {M : Nat} {loose : List PySem.Str} {w : World} {α β : Type} {ob : SharedT → H.α} {oa : SharedT → α} {obb : SharedT → β} {va : α} {vb : β} {c : α → β → H.α} (hob : ∀ s, ob s = c (oa s) (obb s)) (hv : c va vb = H.val w)
    (A : RunEq r q (dumH va) oa M loose w) (B : ∀ os : OsState, (endF (stepQ (denQ tabQ) r.prog w) M r.prog w os).map obb = some vb) : RunEq r q H ob M loose w := fun os => by
  have a := A os
  have b := B os
  cases e : endF (stepQ (denQ tabQ) r.prog w) M r.prog w os with
  | none =>
    rw [e] at b
    exact absurd b (by simp)
  | some s =>
    rw [e] at a b
    have a0 := Option.some.inj a
    have a1 := congrArg (fun x => x.1) a0
    have a2 := congrArg (fun x => x.2.1) a0
    have a3 : oa s = va := congrArg (fun x => x.2.2) a0
    have b0 : obb s = vb := Option.some.inj b
    have h3 : ob s = H.val w := by rw [hob, a3, b0, hv]
    exact congrArg some (Prod.ext a1 (Prod.ext a2 h3))
end He
set_option Elab.async false
set_option linter.all false
set_option maxRecDepth 100000
set_option maxHeartbeats 0
namespace Hd
open PySem PySem.Spec PyProof.Rows L2
def top (i : Nat) : Stmt := PySem.Challenge.pw_truenames_k84_papers_about_acts_judged.main.body.getD i (.Pass ⟨0, 0, 0, 0⟩)
def cm (st : Stmt) (j : Nat) : Stmt := match st with
  | .ClassDef _ _ _ body _ _ _ _ _ _ _ => body.getD j (.Pass ⟨0, 0, 0, 0⟩)
  | s => s
abbrev st__wall : Stmt := top 0
abbrev st_is_integer : Stmt := top 11
abbrev st_is_within : Stmt := top 12
abbrev st_is_thing : Stmt := top 13
abbrev st_is_row : Stmt := top 14
abbrev st_is_square : Stmt := top 15
abbrev st_is_same : Stmt := top 16
abbrev st_is_told : Stmt := top 17
abbrev st_check_within : Stmt := top 18
abbrev st_check_thing : Stmt := top 19
abbrev st_is_move : Stmt := top 22
abbrev st_is_move_of : Stmt := top 23
abbrev st_joined_moves : Stmt := top 24
abbrev st_unit_of : Stmt := top 26
abbrev st_back_of : Stmt := top 27
abbrev st_backs_of : Stmt := top 28
abbrev st_broken_three : Stmt := top 29
abbrev st_centre_of : Stmt := top 30
abbrev st_cyclic_rows : Stmt := top 31
abbrev st_pair_rows : Stmt := top 32
abbrev st_group_paper : Stmt := top 35
abbrev st__check_rows : Stmt := top 36
abbrev st_check_group : Stmt := top 38
abbrev st_double_paper : Stmt := top 41
abbrev st__check_groups : Stmt := top 42
abbrev st__broken_rule : Stmt := top 43
abbrev st__breaks_rule : Stmt := top 44
abbrev st__rows_from_behind : Stmt := top 46
abbrev st_check_double : Stmt := top 47
abbrev st_join_paper : Stmt := top 49
abbrev st_is_join_paper : Stmt := top 50
abbrev st__check_acts : Stmt := top 51
abbrev st__broken_likeness : Stmt := top 52
abbrev st__breaks_likeness : Stmt := top 53
abbrev st__breaks_joined : Stmt := top 54
abbrev st__law_dice : Stmt := top 56
abbrev st__law_roll : Stmt := top 57
abbrev st__law_pick : Stmt := top 58
abbrev st__law_mixed : Stmt := top 59
abbrev st__law_joined : Stmt := top 60
abbrev st__law_undone : Stmt := top 61
abbrev st__law_drawn_move : Stmt := top 62
abbrev st__law_places_of : Stmt := top 63
abbrev st__law_product_dots : Stmt := top 64
abbrev st__law_cyclic : Stmt := top 65
abbrev st__law_direct : Stmt := top 66
abbrev st__law_turned_pairs : Stmt := top 67
abbrev st__law_quaternion_rows : Stmt := top 68
abbrev st__law_renamed_group : Stmt := top 69
abbrev st__law_unit : Stmt := top 70
abbrev st__law_inverse : Stmt := top 71
abbrev st__law_circle : Stmt := top 72
abbrev st__law_double_product : Stmt := top 73
abbrev st__law_double_renamed : Stmt := top 74
abbrev st__law_plain_double : Stmt := top 75
abbrev st__law_about_double : Stmt := top 76
abbrev st__law_ring_double : Stmt := top 77
abbrev st__law_mirror_double : Stmt := top 78
abbrev st__law_small_double : Stmt := top 79
abbrev st__law_double : Stmt := top 80
abbrev st__law_idle : Stmt := top 81
abbrev st__law_circle_of : Stmt := top 82
abbrev st__law_keeps_double : Stmt := top 83
abbrev st__law_likenesses_to : Stmt := top 84
abbrev st__law_plus_makers : Stmt := top 85
abbrev st__law_made_part : Stmt := top 86
abbrev st__law_goal_rows : Stmt := top 87
abbrev st__law_spread_goals : Stmt := top 88
abbrev st__law_says : Stmt := top 89
abbrev st__law_drawn_paper : Stmt := top 90
abbrev st__law_right : Stmt := top 91
abbrev st_law : Stmt := top 92
abbrev st_Group____init__ : Stmt := cm (top 37) 0
abbrev st_Group__rows : Stmt := cm (top 37) 5
abbrev st_Group__unit : Stmt := cm (top 37) 7
abbrev st_Group____len__ : Stmt := cm (top 37) 20
abbrev st_Group__cyclic : Stmt := cm (top 37) 1
abbrev st_Double____init__ : Stmt := cm (top 45) 0
abbrev st_Double__plus : Stmt := cm (top 45) 4
abbrev st_Double__circle : Stmt := cm (top 45) 5
abbrev st_Double____len__ : Stmt := cm (top 45) 15
abbrev st_Double__both : Stmt := cm (top 45) 2
def dd__wall : He.DefD := ⟨("_wall", none), "_wall", "_wall", defArgs st__wall, defBody st__wall, defScope st__wall, [], []⟩
def dd_is_integer : He.DefD := ⟨("is_integer", none), "is_integer", "is_integer", defArgs st_is_integer, defBody st_is_integer, defScope st_is_integer, [], []⟩
def dd_is_within : He.DefD := ⟨("is_within", none), "is_within", "is_within", defArgs st_is_within, defBody st_is_within, defScope st_is_within, [], []⟩
def dd_is_thing : He.DefD := ⟨("is_thing", none), "is_thing", "is_thing", defArgs st_is_thing, defBody st_is_thing, defScope st_is_thing, [], []⟩
def dd_is_row : He.DefD := ⟨("is_row", none), "is_row", "is_row", defArgs st_is_row, defBody st_is_row, defScope st_is_row, [], []⟩
def dd_is_square : He.DefD := ⟨("is_square", none), "is_square", "is_square", defArgs st_is_square, defBody st_is_square, defScope st_is_square, [], []⟩
def dd_is_same : He.DefD := ⟨("is_same", none), "is_same", "is_same", defArgs st_is_same, defBody st_is_same, defScope st_is_same, [], []⟩
def dd_is_told : He.DefD := ⟨("is_told", none), "is_told", "is_told", defArgs st_is_told, defBody st_is_told, defScope st_is_told, [], []⟩
def dd_check_within : He.DefD := ⟨("check_within", none), "check_within", "check_within", defArgs st_check_within, defBody st_check_within, defScope st_check_within, [], []⟩
def dd_check_thing : He.DefD := ⟨("check_thing", none), "check_thing", "check_thing", defArgs st_check_thing, defBody st_check_thing, defScope st_check_thing, [], []⟩
def dd_is_move : He.DefD := ⟨("is_move", none), "is_move", "is_move", defArgs st_is_move, defBody st_is_move, defScope st_is_move, [], []⟩
def dd_is_move_of : He.DefD := ⟨("is_move_of", none), "is_move_of", "is_move_of", defArgs st_is_move_of, defBody st_is_move_of, defScope st_is_move_of, [], []⟩
def dd_joined_moves : He.DefD := ⟨("joined_moves", none), "joined_moves", "joined_moves", defArgs st_joined_moves, defBody st_joined_moves, defScope st_joined_moves, [], []⟩
def dd_unit_of : He.DefD := ⟨("unit_of", none), "unit_of", "unit_of", defArgs st_unit_of, defBody st_unit_of, defScope st_unit_of, [], []⟩
def dd_back_of : He.DefD := ⟨("back_of", none), "back_of", "back_of", defArgs st_back_of, defBody st_back_of, defScope st_back_of, [], []⟩
def dd_backs_of : He.DefD := ⟨("backs_of", none), "backs_of", "backs_of", defArgs st_backs_of, defBody st_backs_of, defScope st_backs_of, [], []⟩
def dd_broken_three : He.DefD := ⟨("broken_three", none), "broken_three", "broken_three", defArgs st_broken_three, defBody st_broken_three, defScope st_broken_three, [], []⟩
def dd_centre_of : He.DefD := ⟨("centre_of", none), "centre_of", "centre_of", defArgs st_centre_of, defBody st_centre_of, defScope st_centre_of, [], []⟩
def dd_cyclic_rows : He.DefD := ⟨("cyclic_rows", none), "cyclic_rows", "cyclic_rows", defArgs st_cyclic_rows, defBody st_cyclic_rows, defScope st_cyclic_rows, [], []⟩
def dd_pair_rows : He.DefD := ⟨("pair_rows", none), "pair_rows", "pair_rows", defArgs st_pair_rows, defBody st_pair_rows, defScope st_pair_rows, [], []⟩
def dd_group_paper : He.DefD := ⟨("group_paper", none), "group_paper", "group_paper", defArgs st_group_paper, defBody st_group_paper, defScope st_group_paper, [], []⟩
def dd__check_rows : He.DefD := ⟨("_check_rows", none), "_check_rows", "_check_rows", defArgs st__check_rows, defBody st__check_rows, defScope st__check_rows, [], []⟩
def dd_check_group : He.DefD := ⟨("check_group", none), "check_group", "check_group", defArgs st_check_group, defBody st_check_group, defScope st_check_group, [], []⟩
def dd_double_paper : He.DefD := ⟨("double_paper", none), "double_paper", "double_paper", defArgs st_double_paper, defBody st_double_paper, defScope st_double_paper, [], []⟩
def dd__check_groups : He.DefD := ⟨("_check_groups", none), "_check_groups", "_check_groups", defArgs st__check_groups, defBody st__check_groups, defScope st__check_groups, [], []⟩
def dd__broken_rule : He.DefD := ⟨("_broken_rule", none), "_broken_rule", "_broken_rule", defArgs st__broken_rule, defBody st__broken_rule, defScope st__broken_rule, [], []⟩
def dd__breaks_rule : He.DefD := ⟨("_breaks_rule", none), "_breaks_rule", "_breaks_rule", defArgs st__breaks_rule, defBody st__breaks_rule, defScope st__breaks_rule, [], []⟩
def dd__rows_from_behind : He.DefD := ⟨("_rows_from_behind", none), "_rows_from_behind", "_rows_from_behind", defArgs st__rows_from_behind, defBody st__rows_from_behind, defScope st__rows_from_behind, [], []⟩
def dd_check_double : He.DefD := ⟨("check_double", none), "check_double", "check_double", defArgs st_check_double, defBody st_check_double, defScope st_check_double, [], []⟩
def dd_join_paper : He.DefD := ⟨("join_paper", none), "join_paper", "join_paper", defArgs st_join_paper, defBody st_join_paper, defScope st_join_paper, [], []⟩
def dd_is_join_paper : He.DefD := ⟨("is_join_paper", none), "is_join_paper", "is_join_paper", defArgs st_is_join_paper, defBody st_is_join_paper, defScope st_is_join_paper, [], []⟩
def dd__check_acts : He.DefD := ⟨("_check_acts", none), "_check_acts", "_check_acts", defArgs st__check_acts, defBody st__check_acts, defScope st__check_acts, [], []⟩
def dd__broken_likeness : He.DefD := ⟨("_broken_likeness", none), "_broken_likeness", "_broken_likeness", defArgs st__broken_likeness, defBody st__broken_likeness, defScope st__broken_likeness, [], []⟩
def dd__breaks_likeness : He.DefD := ⟨("_breaks_likeness", none), "_breaks_likeness", "_breaks_likeness", defArgs st__breaks_likeness, defBody st__breaks_likeness, defScope st__breaks_likeness, [], []⟩
def dd__breaks_joined : He.DefD := ⟨("_breaks_joined", none), "_breaks_joined", "_breaks_joined", defArgs st__breaks_joined, defBody st__breaks_joined, defScope st__breaks_joined, [], []⟩
def dd__law_dice : He.DefD := ⟨("_law_dice", none), "_law_dice", "_law_dice", defArgs st__law_dice, defBody st__law_dice, defScope st__law_dice, [], []⟩
def dd__law_roll : He.DefD := ⟨("_law_roll", none), "_law_roll", "_law_roll", defArgs st__law_roll, defBody st__law_roll, defScope st__law_roll, [], []⟩
def dd__law_pick : He.DefD := ⟨("_law_pick", none), "_law_pick", "_law_pick", defArgs st__law_pick, defBody st__law_pick, defScope st__law_pick, [], []⟩
def dd__law_mixed : He.DefD := ⟨("_law_mixed", none), "_law_mixed", "_law_mixed", defArgs st__law_mixed, defBody st__law_mixed, defScope st__law_mixed, [], []⟩
def dd__law_joined : He.DefD := ⟨("_law_joined", none), "_law_joined", "_law_joined", defArgs st__law_joined, defBody st__law_joined, defScope st__law_joined, [], []⟩
def dd__law_undone : He.DefD := ⟨("_law_undone", none), "_law_undone", "_law_undone", defArgs st__law_undone, defBody st__law_undone, defScope st__law_undone, [], []⟩
def dd__law_drawn_move : He.DefD := ⟨("_law_drawn_move", none), "_law_drawn_move", "_law_drawn_move", defArgs st__law_drawn_move, defBody st__law_drawn_move, defScope st__law_drawn_move, [], []⟩
def dd__law_places_of : He.DefD := ⟨("_law_places_of", none), "_law_places_of", "_law_places_of", defArgs st__law_places_of, defBody st__law_places_of, defScope st__law_places_of, [], []⟩
def dd__law_product_dots : He.DefD := ⟨("_law_product_dots", none), "_law_product_dots", "_law_product_dots", defArgs st__law_product_dots, defBody st__law_product_dots, defScope st__law_product_dots, [], []⟩
def dd__law_cyclic : He.DefD := ⟨("_law_cyclic", none), "_law_cyclic", "_law_cyclic", defArgs st__law_cyclic, defBody st__law_cyclic, defScope st__law_cyclic, [], []⟩
def dd__law_direct : He.DefD := ⟨("_law_direct", none), "_law_direct", "_law_direct", defArgs st__law_direct, defBody st__law_direct, defScope st__law_direct, [], []⟩
def dd__law_turned_pairs : He.DefD := ⟨("_law_turned_pairs", none), "_law_turned_pairs", "_law_turned_pairs", defArgs st__law_turned_pairs, defBody st__law_turned_pairs, defScope st__law_turned_pairs, [], []⟩
def dd__law_quaternion_rows : He.DefD := ⟨("_law_quaternion_rows", none), "_law_quaternion_rows", "_law_quaternion_rows", defArgs st__law_quaternion_rows, defBody st__law_quaternion_rows, defScope st__law_quaternion_rows, [], []⟩
def dd__law_renamed_group : He.DefD := ⟨("_law_renamed_group", none), "_law_renamed_group", "_law_renamed_group", defArgs st__law_renamed_group, defBody st__law_renamed_group, defScope st__law_renamed_group, [], []⟩
def dd__law_unit : He.DefD := ⟨("_law_unit", none), "_law_unit", "_law_unit", defArgs st__law_unit, defBody st__law_unit, defScope st__law_unit, [], []⟩
def dd__law_inverse : He.DefD := ⟨("_law_inverse", none), "_law_inverse", "_law_inverse", defArgs st__law_inverse, defBody st__law_inverse, defScope st__law_inverse, [], []⟩
def dd__law_circle : He.DefD := ⟨("_law_circle", none), "_law_circle", "_law_circle", defArgs st__law_circle, defBody st__law_circle, defScope st__law_circle, [], []⟩
def dd__law_double_product : He.DefD := ⟨("_law_double_product", none), "_law_double_product", "_law_double_product", defArgs st__law_double_product, defBody st__law_double_product, defScope st__law_double_product, [], []⟩
def dd__law_double_renamed : He.DefD := ⟨("_law_double_renamed", none), "_law_double_renamed", "_law_double_renamed", defArgs st__law_double_renamed, defBody st__law_double_renamed, defScope st__law_double_renamed, [], []⟩
def dd__law_plain_double : He.DefD := ⟨("_law_plain_double", none), "_law_plain_double", "_law_plain_double", defArgs st__law_plain_double, defBody st__law_plain_double, defScope st__law_plain_double, [], []⟩
def dd__law_about_double : He.DefD := ⟨("_law_about_double", none), "_law_about_double", "_law_about_double", defArgs st__law_about_double, defBody st__law_about_double, defScope st__law_about_double, [], []⟩
def dd__law_ring_double : He.DefD := ⟨("_law_ring_double", none), "_law_ring_double", "_law_ring_double", defArgs st__law_ring_double, defBody st__law_ring_double, defScope st__law_ring_double, [], []⟩
def dd__law_mirror_double : He.DefD := ⟨("_law_mirror_double", none), "_law_mirror_double", "_law_mirror_double", defArgs st__law_mirror_double, defBody st__law_mirror_double, defScope st__law_mirror_double, [], []⟩
def dd__law_small_double : He.DefD := ⟨("_law_small_double", none), "_law_small_double", "_law_small_double", defArgs st__law_small_double, defBody st__law_small_double, defScope st__law_small_double, [], []⟩
def dd__law_double : He.DefD := ⟨("_law_double", none), "_law_double", "_law_double", defArgs st__law_double, defBody st__law_double, defScope st__law_double, [], []⟩
def dd__law_idle : He.DefD := ⟨("_law_idle", none), "_law_idle", "_law_idle", defArgs st__law_idle, defBody st__law_idle, defScope st__law_idle, [], []⟩
def dd__law_circle_of : He.DefD := ⟨("_law_circle_of", none), "_law_circle_of", "_law_circle_of", defArgs st__law_circle_of, defBody st__law_circle_of, defScope st__law_circle_of, [], []⟩
def dd__law_keeps_double : He.DefD := ⟨("_law_keeps_double", none), "_law_keeps_double", "_law_keeps_double", defArgs st__law_keeps_double, defBody st__law_keeps_double, defScope st__law_keeps_double, [], []⟩
def dd__law_likenesses_to : He.DefD := ⟨("_law_likenesses_to", none), "_law_likenesses_to", "_law_likenesses_to", defArgs st__law_likenesses_to, defBody st__law_likenesses_to, defScope st__law_likenesses_to, [], []⟩
def dd__law_plus_makers : He.DefD := ⟨("_law_plus_makers", none), "_law_plus_makers", "_law_plus_makers", defArgs st__law_plus_makers, defBody st__law_plus_makers, defScope st__law_plus_makers, [], []⟩
def dd__law_made_part : He.DefD := ⟨("_law_made_part", none), "_law_made_part", "_law_made_part", defArgs st__law_made_part, defBody st__law_made_part, defScope st__law_made_part, [], []⟩
def dd__law_goal_rows : He.DefD := ⟨("_law_goal_rows", none), "_law_goal_rows", "_law_goal_rows", defArgs st__law_goal_rows, defBody st__law_goal_rows, defScope st__law_goal_rows, [], []⟩
def dd__law_spread_goals : He.DefD := ⟨("_law_spread_goals", none), "_law_spread_goals", "_law_spread_goals", defArgs st__law_spread_goals, defBody st__law_spread_goals, defScope st__law_spread_goals, [], []⟩
def dd__law_says : He.DefD := ⟨("_law_says", none), "_law_says", "_law_says", defArgs st__law_says, defBody st__law_says, defScope st__law_says, [], []⟩
def dd__law_drawn_paper : He.DefD := ⟨("_law_drawn_paper", none), "_law_drawn_paper", "_law_drawn_paper", defArgs st__law_drawn_paper, defBody st__law_drawn_paper, defScope st__law_drawn_paper, [], []⟩
def dd__law_right : He.DefD := ⟨("_law_right", none), "_law_right", "_law_right", defArgs st__law_right, defBody st__law_right, defScope st__law_right, [], []⟩
def dd_law : He.DefD := ⟨("law", none), "law", "law", defArgs st_law, defBody st_law, defScope st_law, [], []⟩
def dd_Group____init__ : He.DefD := ⟨("Group", some "__init__"), "__init__", "Group.__init__", defArgs st_Group____init__, defBody st_Group____init__, defScope st_Group____init__, [], []⟩
def dd_Group____len__ : He.DefD := ⟨("Group", some "__len__"), "__len__", "Group.__len__", defArgs st_Group____len__, defBody st_Group____len__, defScope st_Group____len__, [], []⟩
def dd_Double____init__ : He.DefD := ⟨("Double", some "__init__"), "__init__", "Double.__init__", defArgs st_Double____init__, defBody st_Double____init__, defScope st_Double____init__, [], []⟩
def dd_Double____len__ : He.DefD := ⟨("Double", some "__len__"), "__len__", "Double.__len__", defArgs st_Double____len__, defBody st_Double____len__, defScope st_Double____len__, [], []⟩
def fn : List He.DefD := [dd__wall, dd_is_integer, dd_is_within, dd_is_thing, dd_is_row, dd_is_square, dd_is_same, dd_is_told, dd_check_within, dd_check_thing, dd_is_move, dd_is_move_of, dd_joined_moves, dd_unit_of, dd_back_of, dd_backs_of, dd_broken_three, dd_centre_of, dd_cyclic_rows, dd_pair_rows, dd_group_paper, dd__check_rows, dd_check_group, dd_double_paper, dd__check_groups, dd__broken_rule, dd__breaks_rule, dd__rows_from_behind, dd_check_double, dd_join_paper, dd_is_join_paper, dd__check_acts, dd__broken_likeness, dd__breaks_likeness, dd__breaks_joined, dd__law_dice, dd__law_roll, dd__law_pick, dd__law_mixed, dd__law_joined, dd__law_undone, dd__law_drawn_move, dd__law_places_of, dd__law_product_dots, dd__law_cyclic, dd__law_direct, dd__law_turned_pairs, dd__law_quaternion_rows, dd__law_renamed_group, dd__law_unit, dd__law_inverse, dd__law_circle, dd__law_double_product, dd__law_double_renamed, dd__law_plain_double, dd__law_about_double, dd__law_ring_double, dd__law_mirror_double, dd__law_small_double, dd__law_double, dd__law_idle, dd__law_circle_of, dd__law_keeps_double, dd__law_likenesses_to, dd__law_plus_makers, dd__law_made_part, dd__law_goal_rows, dd__law_spread_goals, dd__law_says, dd__law_drawn_paper, dd__law_right, dd_law, dd_Group____init__, dd_Group____len__, dd_Double____init__, dd_Double____len__]
def fa : List He.Fa := [.glo "_wall", .glo "is_integer", .glo "is_within", .glo "is_thing", .glo "is_row", .glo "is_square", .glo "is_same", .glo "is_told", .glo "check_within", .glo "check_thing", .glo "is_move", .glo "is_move_of", .glo "joined_moves", .glo "unit_of", .glo "back_of", .glo "backs_of", .glo "broken_three", .glo "centre_of", .glo "cyclic_rows", .glo "pair_rows", .glo "group_paper", .glo "_check_rows", .glo "check_group", .glo "double_paper", .glo "_check_groups", .glo "_broken_rule", .glo "_breaks_rule", .glo "_rows_from_behind", .glo "check_double", .glo "join_paper", .glo "is_join_paper", .glo "_check_acts", .glo "_broken_likeness", .glo "_breaks_likeness", .glo "_breaks_joined", .glo "_law_dice", .glo "_law_roll", .glo "_law_pick", .glo "_law_mixed", .glo "_law_joined", .glo "_law_undone", .glo "_law_drawn_move", .glo "_law_places_of", .glo "_law_product_dots", .glo "_law_cyclic", .glo "_law_direct", .glo "_law_turned_pairs", .glo "_law_quaternion_rows", .glo "_law_renamed_group", .glo "_law_unit", .glo "_law_inverse", .glo "_law_circle", .glo "_law_double_product", .glo "_law_double_renamed", .glo "_law_plain_double", .glo "_law_about_double", .glo "_law_ring_double", .glo "_law_mirror_double", .glo "_law_small_double", .glo "_law_double", .glo "_law_idle", .glo "_law_circle_of", .glo "_law_keeps_double", .glo "_law_likenesses_to", .glo "_law_plus_makers", .glo "_law_made_part", .glo "_law_goal_rows", .glo "_law_spread_goals", .glo "_law_says", .glo "_law_drawn_paper", .glo "_law_right", .glo "law", .free "len", .free "range", .free "tuple", .free "list", .free "isinstance", .free "int", .free "bool", .free "str", .free "abs", .free "max", .free "min", .free "all", .free "any", .free "sum", .free "sorted", .free "enumerate", .free "repr", .free "set", .free "dict", .free "zip", .free "divmod", .int "TOO_LONG" 1000000000000000000000000000000000000000000000000000000000000, .int "MAX_MOVED" 24, .int "MAX_GROUP" 24, .int "MAX_DOUBLE" 24, .glo "Double", .cls "Double", .mkr "Double", .noat "Double" "_plus", .noat "Double" "_circle", .noat "Double" "_backs", .noat "Double" "_turns", .glo "Group", .cls "Group", .mkr "Group", .noat "Group" "_rows", .noat "Group" "_unit", .noat "Group" "_backs", .noat "Group" "_centre", .meth "Group" "__len__", .meth "Double" "__len__"]
def lo0 : List PySem.Str := ["_wall", "NamesError", "InvalidMove", "InvalidGroup", "InvalidDouble", "InvalidNumber", "TooMany", "Refused", "TOO_LONG", "is_integer", "is_within", "is_thing", "is_row", "is_square", "is_same", "is_told", "check_within", "check_thing", "MAX_MOVED", "is_move", "is_move_of", "joined_moves", "unit_of", "back_of", "backs_of", "broken_three", "centre_of", "cyclic_rows", "pair_rows", "MAX_GROUP"]
def lo1 : List PySem.Str := ["group_paper", "_check_rows", "Group", "check_group", "MAX_DOUBLE", "double_paper", "_check_groups", "_broken_rule", "_breaks_rule", "Double", "_rows_from_behind", "check_double", "join_paper", "is_join_paper", "_check_acts", "_broken_likeness", "_breaks_likeness", "_breaks_joined", "_law_dice", "_law_roll", "_law_pick", "_law_mixed", "_law_joined", "_law_undone", "_law_drawn_move", "_law_places_of", "_law_product_dots", "_law_cyclic", "_law_direct", "_law_turned_pairs"]
def lo2 : List PySem.Str := ["_law_quaternion_rows", "_law_renamed_group", "_law_unit", "_law_inverse", "_law_circle", "_law_double_product", "_law_double_renamed", "_law_plain_double", "_law_about_double", "_law_ring_double", "_law_mirror_double", "_law_small_double", "_law_double", "_law_idle", "_law_circle_of", "_law_keeps_double", "_law_likenesses_to", "_law_plus_makers", "_law_made_part", "_law_goal_rows", "_law_spread_goals", "_law_says", "_law_drawn_paper", "_law_right"]
def loose : List PySem.Str := lo0 ++ lo1 ++ lo2
abbrev R : PySem.W.OpenRow := PySem.W.OpenLaw.row PySem.Challenge.rw_truenames_k84_papers_about_acts_judged
def bf : List (PySem.Str × String) := []
def xb (K : PySem.W.Frag) : Bool := (Dn.lamK K).isEmpty && ((List.lookup 1 K).isSome && (He.obB K "Double" && (He.obB K "Group" && (He.prB K (He.ga K "Group") "rows" && (He.gfB K (He.gtA K (He.ga K "Group") "rows") && (He.prB K (He.ga K "Group") "unit" && (He.gfB K (He.gtA K (He.ga K "Group") "unit") && (He.prB K (He.ga K "Double") "plus" && (He.gfB K (He.gtA K (He.ga K "Double") "plus") && (He.prB K (He.ga K "Double") "circle" && (He.gfB K (He.gtA K (He.ga K "Double") "circle") && (He.cmB K (He.ga K "Group") "cyclic" && (He.gfB K (He.cgA K (He.ga K "Group") "cyclic") && (He.cmB K (He.ga K "Double") "both" && (He.gfB K (He.cgA K (He.ga K "Double") "both") && (decide (PySem.W.kitOne K (.ref (He.ga K "Group")) (.ref (He.ga K "Double")) = some false)))))))))))))))))
def xf (K : PySem.W.Frag) : List He.FnB := [He.fnB K (He.gtA K (He.ga K "Group") "rows"), He.fnB K (He.gtA K (He.ga K "Group") "unit"), He.fnB K (He.gtA K (He.ga K "Double") "plus"), He.fnB K (He.gtA K (He.ga K "Double") "circle"), He.fnB K (He.cgA K (He.ga K "Group") "cyclic"), He.fnB K (He.cgA K (He.ga K "Double") "both")]
def vl (q : PySem.Str) (n : PySem.Str) (st : Stmt) : He.FnB := some (n, q, defArgs st, FuncBody.stmts (defBody st), defScope st, mainGlobals, builtinsNs)
def vals : List He.FnB := [vl "Group.rows" "rows" st_Group__rows, vl "Group.unit" "unit" st_Group__unit, vl "Double.plus" "plus" st_Double__plus, vl "Double.circle" "circle" st_Double__circle, vl "Group.cyclic" "cyclic" st_Group__cyclic, vl "Double.both" "both" st_Double__both]
def as0 : List PySem.Addr := [2, 1, 3, 6, 4, 21, 31, 44, 56, 68, 89, 111, 133, 143, 150, 157, 164, 169, 174, 181, 188, 195, 202, 209, 214, 219, 226, 231, 238, 243, 248, 253, 260, 267, 448, 459, 466, 473, 480, 487, 629, 638, 645, 652, 659, 664, 671, 678, 685, 692, 699, 706, 713, 718, 723, 730, 735, 740, 745, 752]
def as1 : List PySem.Addr := [759, 766, 771, 776, 783, 788, 795, 800, 805, 810, 815, 820, 825, 832, 839, 846, 853, 860, 867, 874, 879, 884, 891, 898, 903, 908, 0, 20, 30, 43, 55, 67, 88, 110, 132, 142, 149, 156, 163, 168, 173, 180, 187, 194, 201, 208, 213, 218, 225, 230, 237, 242, 247, 252, 259, 266, 447, 458, 465, 472]
def as2 : List PySem.Addr := [479, 486, 628, 637, 644, 651, 658, 663, 670, 677, 684, 691, 698, 705, 712, 717, 722, 729, 734, 739, 744, 751, 758, 765, 770, 775, 782, 787, 794, 799, 804, 809, 814, 819, 824, 831, 838, 845, 852, 859, 866, 873, 878, 883, 890, 897, 902, 907, 15, 16, 17, 18, 19, 29, 32, 42, 54, 66, 86, 87]
def as3 : List PySem.Addr := [90, 108, 109, 112, 130, 131, 134, 137, 138, 139, 140, 141, 144, 145, 146, 147, 148, 151, 152, 153, 154, 155, 158, 159, 160, 161, 162, 165, 166, 167, 170, 171, 172, 175, 176, 177, 178, 179, 182, 183, 184, 185, 186, 189, 190, 191, 192, 193, 196, 197, 198, 199, 200, 203, 204, 205, 206, 207, 210, 211]
def as4 : List PySem.Addr := [212, 215, 216, 217, 220, 221, 222, 223, 224, 227, 228, 229, 232, 233, 234, 235, 236, 239, 240, 241, 244, 245, 246, 249, 250, 251, 254, 255, 256, 257, 258, 261, 262, 263, 264, 265, 281, 290, 300, 310, 320, 329, 337, 345, 353, 361, 368, 375, 382, 389, 396, 403, 410, 417, 424, 431, 438, 445, 446, 449]
def as5 : List PySem.Addr := [450, 453, 454, 455, 456, 457, 460, 461, 462, 463, 464, 467, 468, 469, 470, 471, 474, 475, 476, 477, 478, 481, 482, 483, 484, 485, 499, 508, 518, 528, 537, 545, 553, 561, 569, 577, 584, 591, 598, 605, 612, 619, 626, 627, 630, 631, 634, 635, 636, 639, 640, 641, 642, 643, 646, 647, 648, 649, 650, 653]
def as6 : List PySem.Addr := [654, 655, 656, 657, 660, 661, 662, 665, 666, 667, 668, 669, 672, 673, 674, 675, 676, 679, 680, 681, 682, 683, 686, 687, 688, 689, 690, 693, 694, 695, 696, 697, 700, 701, 702, 703, 704, 707, 708, 709, 710, 711, 714, 715, 716, 719, 720, 721, 724, 725, 726, 727, 728, 731, 732, 733, 736, 737, 738, 741]
def as7 : List PySem.Addr := [742, 743, 746, 747, 748, 749, 750, 753, 754, 755, 756, 757, 760, 761, 762, 763, 764, 767, 768, 769, 772, 773, 774, 777, 778, 779, 780, 781, 784, 785, 786, 789, 790, 791, 792, 793, 796, 797, 798, 801, 802, 803, 806, 807, 808, 811, 812, 813, 816, 817, 818, 821, 822, 823, 826, 827, 828, 829, 830, 833]
def as8 : List PySem.Addr := [834, 835, 836, 837, 840, 841, 842, 843, 844, 847, 848, 849, 850, 851, 854, 855, 856, 857, 858, 861, 862, 863, 864, 865, 868, 869, 870, 871, 872, 875, 876, 877, 880, 881, 882, 885, 886, 887, 888, 889, 892, 893, 894, 895, 896, 899, 900, 901, 904, 905, 906, 85, 74, 107, 96, 129, 118, 280, 288, 289]
def as9 : List PySem.Addr := [298, 299, 308, 309, 318, 319, 328, 336, 344, 352, 360, 367, 374, 381, 388, 395, 402, 409, 416, 423, 430, 437, 444, 498, 506, 507, 516, 517, 526, 527, 536, 544, 552, 560, 568, 576, 583, 590, 597, 604, 611, 618, 625, 80, 81, 82, 83, 84, 102, 103, 104, 105, 106, 124, 125, 126, 127, 128, 275, 276]
def as10 : List PySem.Addr := [277, 278, 279, 287, 291, 297, 301, 307, 311, 317, 321, 327, 335, 343, 351, 359, 362, 363, 364, 365, 366, 369, 370, 371, 372, 373, 376, 377, 378, 379, 380, 383, 384, 385, 386, 387, 390, 391, 392, 393, 394, 397, 398, 399, 400, 401, 404, 405, 406, 407, 408, 411, 412, 413, 414, 415, 418, 419, 420, 421]
def as11 : List PySem.Addr := [422, 425, 426, 427, 428, 429, 432, 433, 434, 435, 436, 439, 440, 441, 442, 443, 495, 496, 497, 505, 509, 515, 519, 525, 529, 535, 543, 551, 559, 567, 575, 578, 579, 580, 581, 582, 585, 586, 587, 588, 589, 592, 593, 594, 595, 596, 599, 600, 601, 602, 603, 606, 607, 608, 609, 610, 613, 614, 615, 616]
def as12 : List PySem.Addr := [617, 620, 621, 622, 623, 624]
def asL : List PySem.Addr := as0 ++ as1 ++ as2 ++ as3 ++ as4 ++ as5 ++ as6 ++ as7 ++ as8 ++ as9 ++ as10 ++ as11 ++ as12
abbrev hk : PySem.W.Hook := He.hookL asL bf fa fn xb xf vals
def ob (s : PySem.W.SharedT) : He.AlD × List He.FnB := He.obsLG asL bf fa fn xb xf (HandSHeadRun.getT s)
theorem ob_eq (s : PySem.W.SharedT) : ob s = hk.obs s.abs := He.obsLG_eq (HandSHeadRun.getT_eq s)
def oa (s : PySem.W.SharedT) : He.AlD := He.obsB bf fa fn (He.frG (HandSHeadRun.getT s) asL)
def ob2 (s : PySem.W.SharedT) : Bool × List He.FnB := (xb (He.frG (HandSHeadRun.getT s) asL), xf (He.frG (HandSHeadRun.getT s) asL))
theorem runA0 (w : World) : HandSHeadRun.RunEq R (PySem.W.view R.prog [92]) (He.dumH ()) (fun _ => ()) 10000 loose w := by
  intro os
  kernel_rfl
theorem runA1 (w : World) (os : OsState) : (HandSHeadRun.endF (HandSHeadRun.stepQ (HandSHeadRun.denQ HandSHeadRun.tabQ) R.prog w) 10000 R.prog w os).map oa = some (He.valD fn) := by
  kernel_rfl
theorem runA (w : World) : HandSHeadRun.RunEq R (PySem.W.view R.prog [92]) (He.dumH (He.valD fn)) oa 10000 loose w :=
  He.runEq_two (H := He.dumH (He.valD fn)) (ob := oa) (oa := fun _ => ()) (obb := oa) (va := ()) (vb := He.valD fn) (c := fun _ b => b) (fun _ => rfl) rfl (runA0 w) (runA1 w)
theorem runB (w : World) (os : OsState) : (HandSHeadRun.endF (HandSHeadRun.stepQ (HandSHeadRun.denQ HandSHeadRun.tabQ) R.prog w) 10000 R.prog w os).map ob2 = some ((true, vals)) := by
  kernel_rfl
theorem run (w : World) : HandSHeadRun.RunEq R (PySem.W.view R.prog [92]) hk ob 10000 loose w :=
  He.runEq_two (oa := oa) (obb := ob2) (c := fun a b => ((b.1 && a.1, a.2), b.2)) (fun _ => rfl) rfl (runA w) (runB w)
end Hd
set_option Elab.async false
set_option linter.all false
set_option maxRecDepth 100000
set_option autoImplicit false
set_option maxHeartbeats 2000000
namespace He
open PySem PySem.Spec PyProof.Rows L2 PySem.W
theorem obB_ok {K : Frag} {nm : Str} (h : obB K nm = true) (c : Cls K (ga K nm)) : Dn.adrOf K nm = ga K nm ∧ Dn.ObjC K (Dn.adrOf K nm) ∧ Dn.IsC K (Dn.adrOf K nm) ∧ findIn K (.ref (Dn.adrOf K nm)) "__ne__" = some (some (.builtin "object.__ne__")) := by
  unfold obB at h
  simp only [Bool.and_eq_true, decide_eq_true_eq] at h
  obtain ⟨h1, h2, h3, h4, h5, h6, h7, h8⟩ := h
  refine ⟨h1, ?_⟩
  rw [h1]
  obtain ⟨cd, e1, e2⟩ := Option.map_eq_some_iff.mp h5
  have mr : ∀ b : Value, mroIn K (ga K nm) b = some ([Value.ref (ga K nm), .type "object"].contains b) := fun b => by
    unfold mroIn
    rw [e1, Option.bind_some, e2]
    rfl
  refine ⟨⟨c, eqO_ok h2, eqO_ok h3, h4, ?_, h6, eqO_ok h7, fun tn b ns hk => ?_⟩, ⟨?_, h6⟩, eqO_ok h8⟩
  · rw [mr]
    simp
  · unfold kitB at hk
    rw [if_neg (by simpa using fun e => ns e.symm)] at hk
    unfold kitOne
    rw [if_neg (by simp)]
    show (if kitMeta tn = true then subIn K (.ref (ga K nm)) (.type tn) else none) = some b
    split at hk
    · rename_i hm
      rw [if_pos hm]
      show mroIn K (ga K nm) (.type tn) = some b
      rw [mr]
      rw [show PySem.fastBuiltinMro "slice" = some [.type "slice", .type "object"] by kernel_rfl] at hk
      simp only [Option.map_some, Option.some.injEq] at hk
      rw [← hk]
      congr 1
      simp only [List.contains_cons, List.contains_nil, Bool.or_false]
      have n1 : (Value.type tn == Value.type "slice") = false := by simpa using ns
      have n2 : (Value.type tn == Value.ref (ga K nm)) = false := by simp
      rw [n1, n2]
    · cases hk
  · rw [e1]; rfl
theorem isGet_ok {C p : Addr} {f : Option CFound} (h : isGet C p f = true) : f = some (.get (.builtin "classmethod.__get__") (.ref p) .none (.ref C)) := by
  unfold isGet at h
  split at h
  · simp only [Bool.and_eq_true, decide_eq_true_eq] at h
    obtain ⟨rfl, rfl, rfl⟩ := h
    rfl
  · cases h
theorem cmB_ok {K : Frag} {C : Addr} {m : Str} (h : cmB K C m = true) : ClX.CRead K C (.type "type") ∧ ClX.CMet K C (.type "type") m (crA K C m) (cgA K C m) := by
  unfold cmB at h
  simp only [Bool.and_eq_true] at h
  obtain ⟨h1, h2, h3, h4, h5⟩ := h
  refine ⟨⟨h1, eqO_ok h2⟩, isGet_ok h3, ?_, h4⟩
  unfold cgA
  split at h5
  · rename_i g r e
    rw [e]
    exact ⟨r, rfl⟩
  · cases h5
end He
set_option Elab.async false
set_option linter.all false
set_option maxRecDepth 100000
set_option autoImplicit false
set_option maxHeartbeats 4000000
namespace Dn
open PySem L2 Evl PySem.Spec PyProof.Rows
theorem tyN_dl (kvs : List (D × D)) : tyN (.dict kvs) = "dict" ∨ tyN (.dict kvs) = "list" ∨ tyN (.dict kvs) = "slice" ∨ tyN (.dict kvs) = "type" := by
  unfold tyN
  split <;> first | exact .inl rfl | exact .inr (.inl rfl) | exact .inr (.inr (.inl rfl)) | exact .inr (.inr (.inr rfl)) | (rename_i h; cases h; done)
theorem kit_int (d : D) : kitB (tyN d) "int" = some (match d with | .int _ => true | .bool _ => true | _ => false) := by
  cases d with
  | dict kvs => rcases tyN_dl kvs with e | e | e | e <;> (rw [e]; show _ = some false; decide +kernel)
  | _ => simp only [tyN]; decide +kernel
theorem kit_bool (d : D) : kitB (tyN d) "bool" = some (match d with | .bool _ => true | _ => false) := by
  cases d with
  | dict kvs => rcases tyN_dl kvs with e | e | e | e <;> (rw [e]; show _ = some false; decide +kernel)
  | _ => simp only [tyN]; decide +kernel
theorem kit_tuple (d : D) : kitB (tyN d) "tuple" = some (match d with | .tuple _ => true | _ => false) := by
  cases d with
  | dict kvs => rcases tyN_dl kvs with e | e | e | e <;> (rw [e]; show _ = some false; decide +kernel)
  | _ => simp only [tyN]; decide +kernel
theorem kit_str (d : D) : kitB (tyN d) "str" = some (match d with | .str _ => true | _ => false) := by
  cases d with
  | dict kvs => rcases tyN_dl kvs with e | e | e | e <;> (rw [e]; show _ = some false; decide +kernel)
  | _ => simp only [tyN]; decide +kernel
theorem bool_ways {b : Bool} {P1 P2 : Prop} (h1 : b = true → P1) (h2 : b = false → P2) : (match PyData.bool b with | .bool true => P1 | .bool false => P2 | _ => False) := by
  cases b
  · exact h2 rfl
  · exact h1 rfl
theorem ite_ways {b : Bool} {P1 P2 : Prop} (h1 : b = true → P1) (h2 : b = false → P2) : (if b = true then P1 else P2) := by
  cases b
  · exact h2 rfl
  · exact h1 rfl
end Dn
set_option Elab.async false
set_option linter.all false
set_option maxRecDepth 100000
set_option autoImplicit false
set_option maxHeartbeats 4000000
namespace Dn
open PySem L2 Evl PySem.Spec PyProof.Rows
theorem map_split {α β : Type} {f : α → β} {l : List α} {done rest : List β} {d : β} (e : l.map f = done ++ d :: rest) : ∃ l1 x l2, l = l1 ++ x :: l2 ∧ done = l1.map f ∧ d = f x ∧ rest = l2.map f := by
  obtain ⟨l1, l2, h1, h2, h3⟩ := List.map_eq_append_iff.mp e
  cases l2 with
  | nil => simp at h3
  | cons x l2 =>
    simp at h3
    exact ⟨l1, x, l2, h1, h2.symm, h3.1.symm, h3.2.symm⟩
theorem wpLc_mapL {α : Type} {g : DG} {tt : DT} {te : DE} {vs : List Nat} {Q : List D → Env → Prop} (l : List α) (f h : α → D) {ρ0 : Env} (hl : l.length < 16777216) (hw : wipeD ρ0 vs = ρ0)
    (hs : ∀ x, x ∈ l → ∀ (K : D → Env → Prop), (∀ ρ3, wipeD ρ3 vs = ρ0 → K (h x) ρ3) → g (f x) ρ0 fun ρ1 => tt ρ1 fun b ρ2 => if b = true then te ρ2 fun y ρ3 => K y ρ3 else False)
    (hf : ∀ ρ1, tt ρ1 = fun K => K true ρ1) (he : Q (l.map h) ρ0) : wpLc g tt te vs Q (l.map f) [] ρ0 := by
  refine wpLc_cps (fun done acc ρ => ∃ l1 l2, l = l1 ++ l2 ∧ done = l1.map f ∧ acc = l1.map h ∧ ρ = ρ0) ⟨[], l, rfl, rfl, rfl, rfl⟩ (fun done d rest acc ρ K e p k => ?_) (fun acc ρ p => ?_)
  · obtain ⟨l1, x, l2, rfl, rfl, rfl, rfl⟩ := map_split e
    obtain ⟨m1, m2, e1, e2, rfl, rfl⟩ := p
    have e3 : m1 = l1 := by
      have h1 := congrArg List.length e2
      simp at h1
      have h2 := congrArg (List.take m1.length) e1
      rw [List.take_left, h1.symm, List.take_left] at h2
      exact h2.symm
    subst e3
    refine ⟨by simp at hl ⊢; omega, ?_⟩
    rw [hw]
    have z := hs x (by simp) (fun y ρ3 => K (m1.map h ++ [y]) (wipeD ρ3 vs)) fun ρ3 w => by rw [w]; exact k _ _ ⟨m1 ++ [x], l2, by simp, by simp, by simp, rfl⟩
    have e2 : (fun ρ1 => tt ρ1 fun b ρ2 => if b = true then te ρ2 fun y ρ3 => K (m1.map h ++ [y]) (wipeD ρ3 vs) else False) = fun ρ1 => tt ρ1 fun b ρ2 => if b = true then te ρ2 fun y ρ3 => K (m1.map h ++ [y]) (wipeD ρ3 vs) else K (m1.map h) (wipeD ρ2 vs) := by
      funext ρ1
      rw [hf ρ1]
      simp
    rw [← e2]
    exact z
  · obtain ⟨m1, m2, rfl, e2, rfl, rfl⟩ := p
    have : m2 = [] := by
      have h1 := congrArg List.length e2
      simp at h1
      exact h1
    subst this
    simpa using he
theorem wpLc_filL {α : Type} {g : DG} {tt : DT} {te : DE} {vs : List Nat} {Q : List D → Env → Prop} (l : List α) (f h : α → D) (p : α → Bool) {ρ0 : Env} (hl : l.length < 16777216) (hw : wipeD ρ0 vs = ρ0)
    (hs : ∀ x, x ∈ l → ∀ (K : D → Env → Prop) (N : Env → Prop), (p x = true → ∀ ρ3, wipeD ρ3 vs = ρ0 → K (h x) ρ3) → (p x = false → ∀ ρ3, wipeD ρ3 vs = ρ0 → N ρ3) → g (f x) ρ0 fun ρ1 => tt ρ1 fun b ρ2 => if b = true then te ρ2 fun y ρ3 => K y ρ3 else N ρ2)
    (he : Q ((l.filter p).map h) ρ0) : wpLc g tt te vs Q (l.map f) [] ρ0 := by
  refine wpLc_cps (fun done acc ρ => ∃ l1 l2, l = l1 ++ l2 ∧ done = l1.map f ∧ acc = (l1.filter p).map h ∧ ρ = ρ0) ⟨[], l, rfl, rfl, rfl, rfl⟩ (fun done d rest acc ρ K e q k => ?_) (fun acc ρ q => ?_)
  · obtain ⟨l1, x, l2, rfl, rfl, rfl, rfl⟩ := map_split e
    obtain ⟨m1, m2, e1, e2, rfl, rfl⟩ := q
    have e3 : m1 = l1 := by
      have h1 := congrArg List.length e2
      simp at h1
      have h2 := congrArg (List.take m1.length) e1
      rw [List.take_left, h1.symm, List.take_left] at h2
      exact h2.symm
    subst e3
    refine ⟨?_, ?_⟩
    · have h1 := List.length_filter_le p m1
      simp at hl ⊢
      omega
    · rw [hw]
      refine hs x (by simp) (fun y ρ3 => K ((m1.filter p).map h ++ [y]) (wipeD ρ3 vs)) (fun ρ2 => K ((m1.filter p).map h) (wipeD ρ2 vs)) (fun hp ρ3 w => ?_) (fun hp ρ3 w => ?_)
      · rw [w]; exact k _ _ ⟨m1 ++ [x], l2, by simp, by simp, by rw [List.filter_append, List.filter_cons_of_pos hp]; simp, rfl⟩
      · rw [w]; exact k _ _ ⟨m1 ++ [x], l2, by simp, by simp, by rw [List.filter_append, List.filter_cons_of_neg (by simp [hp])]; simp, rfl⟩
  · obtain ⟨m1, m2, rfl, e2, rfl, rfl⟩ := q
    have : m2 = [] := by
      have h1 := congrArg List.length e2
      simp at h1
      exact h1
    subst this
    simpa using he
theorem wpFor_fs {α : Type} {g : DG} {body : DS} {N bk ct : Env → Prop} {Q : D → Prop} (l : List α) (it : α → D) (f : α → Option D) {ρ0 : Env} (I : Env → Prop) (h0 : I ρ0)
    (hs : ∀ x, x ∈ l → ∀ (ρ : Env) (K B : Env → Prop), I ρ → (∀ v, f x = some v → Q v) → (f x = none → ∀ ρ', I ρ' → K ρ') → g (it x) ρ fun ρ1 => body { nx := K, ct := K, bk := B, rt := fun d _ => Q d } ρ1)
    (hf : ∀ v, l.findSome? f = some v → Q v) (hn : l.findSome? f = none → ∀ ρ, I ρ → N ρ) : wpFor g body { nx := N, rt := fun d _ => Q d, bk := bk, ct := ct } (l.map it) ρ0 := by
  induction l generalizing ρ0 with
  | nil => exact hn rfl ρ0 h0
  | cons d ds ih =>
    refine hs d List.mem_cons_self ρ0 _ _ h0 (fun v e => hf v ?_) (fun e ρ' i => ih i (fun d hd => hs d (List.mem_cons_of_mem _ hd)) (fun v h => hf v ?_) fun h => hn ?_)
    · rw [List.findSome?_cons, e]
    · rw [List.findSome?_cons, e]; exact h
    · rw [List.findSome?_cons, e]; exact h
theorem fs_find {α β : Type} (p : α → Bool) (r : α → β) : ∀ l : List α, l.findSome? (fun x => if p x = true then some (r x) else none) = (l.find? p).map r
  | [] => rfl
  | x :: l => by
    rw [List.findSome?_cons, List.find?_cons]
    cases h : p x
    · simp [fs_find p r l]
    · simp
theorem dLen_tR {rs : List (List Int)} {Q : D → Prop} : dLen [tR rs] Q = Q (.int rs.length) := by show Q _ = _; simp
theorem dLen_tI {rs : List Int} {Q : D → Prop} : dLen [tI rs] Q = Q (.int rs.length) := by show Q _ = _; simp
theorem dLen_tup {xs : List D} {Q : D → Prop} : dLen [.tuple xs] Q = Q (.int xs.length) := rfl
theorem dLen_lst {xs : List D} {Q : D → Prop} : dLen [.list xs] Q = Q (.int xs.length) := rfl
theorem seq_tup {xs : List D} : seqD (.tuple xs) = some xs := rfl
theorem seq_lst {xs : List D} : seqD (.list xs) = some xs := rfl
theorem tI_def (xs : List Int) : (PyData.tuple (xs.map PyData.int)) = tI xs := rfl
theorem enD_map {α : Type} (l : List α) (f : α → D) (d : α) : enD (l.map f) = (rgI l.length).map fun k => .tuple [.int k, f (l.getD k.toNat d)] := by
  apply List.ext_getElem?
  intro i
  by_cases h : i < l.length
  · unfold enD
    rw [List.getElem?_zipWith, List.getElem?_map, List.getElem?_map, rgI_get h, List.length_map, List.getElem?_range h]
    simp [h, List.getD]
  · rw [List.getElem?_eq_none_iff.mpr (by rw [enD_len]; simp; omega), List.getElem?_eq_none_iff.mpr (by simp [rgI_len]; omega)]
end Dn
set_option Elab.async false
set_option linter.all false
set_option maxRecDepth 100000
set_option autoImplicit false
set_option maxHeartbeats 4000000
namespace Dn
open PySem L2 Evl PySem.Spec PyProof.Rows
abbrev VD (g : DS) (S : List D → (D → Prop) → Prop) (np m : Nat) : Prop := ∀ (ds : List D) (Q : D → Prop), ds.length = np → S ds Q → g { nx := fun _ => Q .none, rt := fun d _ => Q d } (envD ds m)
abbrev VM (g : DS) (S : List D → List D → (D → List D → Prop) → Prop) (np m : Nat) : Prop := ∀ (l : Addr) (ms ds : List D) (Q : D → List D → Prop), ds.length + 1 = np → S ms ds Q →
  g { nx := fun ρ => ∃ ms', ρ[0]? = some (some (.ow (.par l (.lst ms')))) ∧ Q .none ms', rt := fun d ρ => ∃ ms', ρ[0]? = some (some (.ow (.par l (.lst ms')))) ∧ Q d ms' } (some (.ow (.par l (.lst ms))) :: envD ds m)
abbrev VL (g : (List D → Prop) → Env → Prop) (S : List D → (List D → Prop) → Prop) (np m : Nat) : Prop := ∀ (ds : List D) (Q : List D → Prop), ds.length = np → S ds Q → g Q (envD ds m)
theorem wpWh_lt {β : Type} {c : DT} {body : DS} {E : DEnds} (R : β → Env → Prop) (μ : β → Nat)
    (hs : ∀ (b : β) (ρ : Env) (K : Env → Prop), R b ρ → (∀ b' ρ', μ b' < μ b → R b' ρ' → K ρ') → c ρ fun t ρ1 => if t = true then body { nx := K, ct := K, bk := E.nx, rt := E.rt, er := E.er } ρ1 else E.nx ρ1)
    {b : β} {ρ : Env} (h : R b ρ) : ∃ n, wpWh c body E n ρ := by
  have aux : ∀ (n : Nat) (b : β) (ρ : Env), μ b < n → R b ρ → wpWh c body E n ρ := by
    intro n
    induction n with
    | zero => intro b ρ h; omega
    | succ n ih => intro b ρ h r; exact hs b ρ _ r fun b' ρ' lt r' => ih b' ρ' (by omega) r'
  exact ⟨μ b + 1, aux _ b ρ (by omega) h⟩
theorem wpFor_ap {α : Type} {g : DG} {body : DS} {E : DEnds} (l : List α) (it h : α → D) (R : List D → Env → Prop) {ρ0 : Env} (h0 : R [] ρ0)
    (hs : ∀ x, x ∈ l → ∀ (acc : List D) (ρ : Env) (K : Env → Prop), R acc ρ → acc.length < l.length → (∀ ρ', R (acc ++ [h x]) ρ' → K ρ') → g (it x) ρ fun ρ1 => body { nx := K, ct := K, bk := E.nx, rt := E.rt, er := E.er } ρ1)
    (he : ∀ ρ, R (l.map h) ρ → E.nx ρ) : wpFor g body E (l.map it) ρ0 := by
  refine wpFor_cps (fun done ρ => R ((l.take done.length).map h) ρ) (by simpa using h0) (fun done d rest ρ K e p k => ?_) (fun ρ p => he ρ (by simpa using p))
  obtain ⟨l1, x, l2, rfl, rfl, rfl, rfl⟩ := map_split e
  refine hs x (by simp) _ ρ K p (by simp) fun ρ' q => k ρ' ?_
  simp only [List.length_append, List.length_map, List.length_cons, List.length_nil] at q ⊢
  rw [show l1.length + (0 + 1) = (l1 ++ [x]).length by simp, show l1 ++ x :: l2 = (l1 ++ [x]) ++ l2 by simp, List.take_left']
  · simp at q ⊢; exact q
  · rfl
theorem wpLc_all {g : DG} {tt : DT} {te : DE} {vs : List Nat} {Q : List D → Env → Prop} {ds : List D} {ρ0 : Env} (Good : D → Prop) (I : Env → Prop) (h0 : I ρ0) (hl : ds.length < 16777216)
    (hs : ∀ d, d ∈ ds → ∀ (ρ : Env) (K : D → Env → Prop), I ρ → (∀ y ρ3, Good y → I (wipeD ρ3 vs) → K y ρ3) → g d (wipeD ρ vs) fun ρ1 => te ρ1 fun y ρ3 => K y ρ3)
    (hf : ∀ ρ1, tt ρ1 = fun K => K true ρ1) (he : ∀ acc ρ, acc.length = ds.length → (∀ y, y ∈ acc → Good y) → I ρ → Q acc ρ) : wpLc g tt te vs Q ds [] ρ0 := by
  refine wpLc_cps (fun done acc ρ => acc.length = done.length ∧ (∀ y, y ∈ acc → Good y) ∧ I ρ) ⟨rfl, by simp, h0⟩ (fun done d rest acc ρ K e p k => ?_) (fun acc ρ p => he acc ρ p.1 p.2.1 p.2.2)
  have el := congrArg List.length e
  simp at el
  refine ⟨by omega, ?_⟩
  simp only [hf, if_true]
  refine hs d (by rw [e]; simp) ρ _ p.2.2 fun y ρ3 gy i => k _ _ ⟨by simp [p.1], fun z hz => ?_, i⟩
  rcases List.mem_append.mp hz with hz | hz
  · exact p.2.1 z hz
  · rw [List.mem_singleton.mp hz]; exact gy
theorem wpFor_inv {g : DG} {body : DS} {E : DEnds} {ds : List D} {ρ0 : Env} (I : Env → Prop) (h0 : I ρ0)
    (hs : ∀ d, d ∈ ds → ∀ (ρ : Env) (K : Env → Prop), I ρ → (∀ ρ', I ρ' → K ρ') → g d ρ fun ρ1 => body { nx := K, ct := K, bk := E.nx, rt := E.rt, er := E.er } ρ1)
    (he : ∀ ρ, I ρ → E.nx ρ) : wpFor g body E ds ρ0 :=
  wpFor_cps (fun _ ρ => I ρ) h0 (fun done d rest ρ K e p k => hs d (by rw [e]; simp) ρ K p k) he
theorem all_map {α : Type} {f : α → D} {R : α → Prop} : ∀ {acc : List D}, (∀ y, y ∈ acc → ∃ r, y = f r ∧ R r) → ∃ C : List α, acc = C.map f ∧ ∀ r, r ∈ C → R r
  | [], _ => ⟨[], rfl, by simp⟩
  | y :: acc, h => by
    obtain ⟨r, rfl, hr⟩ := h y (by simp)
    obtain ⟨C, rfl, hC⟩ := all_map (acc := acc) fun y hy => h y (by simp [hy])
    exact ⟨r :: C, rfl, fun z hz => by rcases List.mem_cons.mp hz with rfl | hz; exact hr; exact hC z hz⟩
theorem mem_rgD {i j : Int} {d : D} (h : d ∈ rgD i j) : ∃ k : Int, d = .int k ∧ i ≤ k ∧ k < j := by
  unfold rgD at h
  obtain ⟨k, hk, rfl⟩ := List.mem_map.mp h
  have := List.mem_range.mp hk
  exact ⟨_, rfl, by omega, by omega⟩
theorem rgD_len {i j : Int} : (rgD i j).length = (j - i).toNat := by unfold rgD; simp
theorem cm_l {i j : Int} (h : -(2 ^ 64) < i ∧ i < 2 ^ 64) : CMul i j ∨ CMulW i j := .inl (.inl h)
theorem cm_r {i j : Int} (h : -(2 ^ 64) < j ∧ j < 2 ^ 64) : CMul i j ∨ CMulW i j := .inl (.inr h)
theorem cd_t {i t : Int} (h0 : 0 < t) (h1 : t ≤ 1000000000000000000000000000000000000000000000000000000000000) : CDivW i t := wide_div (b := 200) h0 (Nat.lt_of_le_of_lt (show t.natAbs ≤ 1000000000000000000000000000000000000000000000000000000000000 by omega) (by decide +kernel)) (by decide) (by decide)
theorem cm_n {i j : Int} (h0 : 0 ≤ i) (h : i ≤ 1000) : CMul i j ∨ CMulW i j := cm_l ⟨by omega, by omega⟩
theorem rgd {n : Nat} (h : n ≤ 1000) : RgD 0 (n : Int) := ⟨by omega, by omega, by omega, by omega⟩
theorem dLen_seq {d : D} {xs : List D} {Q : D → Prop} (h : seqD d = some xs) : dLen [d] Q = Q (.int xs.length) := by unfold dLen; dsimp only; rw [h]
theorem erase_permD {L : List D} {r : Nat} (h : r < L.length) : (L[r] :: L.eraseIdx r).Perm L := by
  rw [List.eraseIdx_eq_take_drop_succ]
  refine List.perm_middle.symm.trans ?_
  rw [← List.drop_eq_getElem_cons h, List.take_append_drop]
theorem valD_none_any {kvs : List (Key × D)} {k : Key} : valD kvs k = none ↔ (kvs.any fun kv => decide (kv.1 = k)) = false := by
  unfold valD
  rw [Option.map_eq_none_iff, List.find?_eq_none]
  simp
theorem putD_new {kvs : List (Key × D)} {k : Key} (d : D) (h : valD kvs k = none) : putD kvs k d = kvs ++ [(k, d)] := by
  unfold putD
  rw [valD_none_any.1 h]
  simp
end Dn
set_option Elab.async false
set_option linter.all false
set_option maxRecDepth 100000
set_option autoImplicit false
set_option maxHeartbeats 4000000
namespace Dn
open PySem L2 Evl PySem.Spec PyProof.Rows
def im (m : List Int) (x : Int) : Int := m.getD x.toNat 0
abbrev Wy := List (Int × List Int)
def lk (w : Wy) (x : Int) : Option (List Int) := (w.find? fun e => decide (e.1 = x)).map (·.2)
theorem lk_mem {w : Wy} {x : Int} {p : List Int} (h : lk w x = some p) : (x, p) ∈ w := by
  unfold lk at h
  obtain ⟨e, h1, h2⟩ := Option.map_eq_some_iff.mp h
  have := List.find?_some h1
  have hm := List.mem_of_find?_eq_some h1
  simp at this
  obtain ⟨a, b⟩ := e
  simp at this h2
  subst this h2
  exact hm
theorem lk_none {w : Wy} {x : Int} : lk w x = none ↔ ∀ e, e ∈ w → e.1 ≠ x := by
  unfold lk
  rw [Option.map_eq_none_iff, List.find?_eq_none]
  simp
theorem lk_some {w : Wy} {x : Int} : (lk w x).isSome = true ↔ ∃ e, e ∈ w ∧ e.1 = x := by
  cases h : lk w x with
  | none =>
    have := lk_none.1 h
    simp
    intro a b
    exact this (x, a) b rfl
  | some p => simp; exact ⟨p, lk_mem h⟩
def st1 (mk : List (List Int)) (x : Int) (p : List Int) (w : Wy) (i : Int) : Wy :=
  if (lk w (im (mk.getD i.toNat []) x)).isSome = true then w else w ++ [(im (mk.getD i.toNat []) x, p ++ [i])]
def proc (mk : List (List Int)) (x : Int) (p : List Int) (w : Wy) : Wy := (rgI mk.length).foldl (st1 mk x p) w
def run (mk : List (List Int)) : Nat → Wy → Nat → Wy
  | 0, w, _ => w
  | k + 1, w, r => match w[r]? with
    | some e => run mk k (proc mk e.1 e.2 w) (r + 1)
    | none => w
def waysOf (mk : List (List Int)) (n : Nat) (s : Int) : Wy := run mk n [(s, [])] 0
def walk (mk : List (List Int)) (s : Int) (p : List Int) : Int := p.foldl (fun h i => im (mk.getD i.toNat []) h) s
theorem walk_snoc (mk : List (List Int)) (s : Int) (p : List Int) (i : Int) : walk mk s (p ++ [i]) = im (mk.getD i.toNat []) (walk mk s p) := by unfold walk; simp
structure Mk (n : Nat) (mk : List (List Int)) : Prop where
  few : mk.length ≤ 24
  most : n ≤ 24
  move : ∀ m, m ∈ mk → List.Perm m (rgI n)
theorem Mk.len {n : Nat} {mk : List (List Int)} (h : Mk n mk) {m : List Int} (hm : m ∈ mk) : m.length = n := by rw [(h.move m hm).length_eq, rgI_len]
theorem im_in {n : Nat} {m : List Int} (h : List.Perm m (rgI n)) {x : Int} (x0 : 0 ≤ x) (x1 : x < n) : 0 ≤ im m x ∧ im m x < n := by
  have hl : m.length = n := by rw [h.length_eq, rgI_len]
  have : im m x ∈ m := getD_mem (by omega)
  exact mem_rgI.mp (h.mem_iff.1 this)
theorem Mk.at {n : Nat} {mk : List (List Int)} (h : Mk n mk) {i : Int} (hi : i ∈ rgI mk.length) : mk.getD i.toNat [] ∈ mk := getD_mem (by have := mem_rgI.mp hi; omega)
structure Wg (n : Nat) (mk : List (List Int)) (s : Int) (w : Wy) : Prop where
  nd : (w.map (·.1)).Nodup
  rng : ∀ e, e ∈ w → 0 ≤ e.1 ∧ e.1 < n
  path : ∀ (j : Nat) (e : Int × List Int), w[j]? = some e → e.2.length ≤ j ∧ (∀ i, i ∈ e.2 → i ∈ rgI mk.length) ∧ walk mk s e.2 = e.1
  head : w[0]? = some (s, [])
theorem nodup_le : ∀ {l ns : List Int}, l.Nodup → (∀ k, k ∈ l → k ∈ ns) → l.length ≤ ns.length
  | [], _, _, _ => by simp
  | x :: l, ns, hd, h => by
    have hd2 := List.nodup_cons.mp hd
    have hx : x ∈ ns := h x (by simp)
    have p := erase_perm hx
    have : l.length ≤ (ns.erase x).length := nodup_le hd2.2 fun k hk => by
      have ne : k ≠ x := fun z => hd2.1 (by rw [← z]; exact hk)
      rcases List.mem_cons.mp (p.mem_iff.2 (h k (by simp [hk]))) with z | z
      · exact absurd z ne
      · exact z
    have e := p.length_eq
    simp only [List.length_cons] at e ⊢
    omega
theorem Wg.len {n : Nat} {mk : List (List Int)} {s : Int} {w : Wy} (h : Wg n mk s w) : w.length ≤ n := by
  have := nodup_le h.nd (ns := rgI n) fun k hk => by
    obtain ⟨e, he, rfl⟩ := List.mem_map.mp hk
    exact mem_rgI.mpr (h.rng e he)
  rw [rgI_len, List.length_map] at this
  exact this
theorem Wg.one {n : Nat} {mk : List (List Int)} {s : Int} (s0 : 0 ≤ s) (s1 : s < n) : Wg n mk s [(s, [])] :=
  ⟨by simp, by simp; omega, fun j e h => by
    cases j with
    | zero => simp at h; subst h; simp [walk]
    | succ j => simp at h, rfl⟩
theorem Wg.st1 {n : Nat} {mk : List (List Int)} {s : Int} {w : Wy} (h : Wg n mk s w) (hk : Mk n mk) {r : Nat} {e : Int × List Int} (hr : w[r]? = some e) {i : Int} (hi : i ∈ rgI mk.length) : Wg n mk s (st1 mk e.1 e.2 w i) := by
  unfold Dn.st1
  split
  · exact h
  · rename_i hn
    have ie := h.rng e (List.mem_of_getElem? hr)
    have ii := im_in (hk.move _ (hk.at hi)) ie.1 ie.2
    have hp := h.path r e hr
    have rl := (List.getElem?_eq_some_iff.mp hr).1
    have hn2 : ∀ a, a ∈ w → a.1 ≠ im (mk.getD i.toNat []) e.1 := fun a ha z => hn (lk_some.2 ⟨a, ha, z⟩)
    refine ⟨?_, fun a ha => ?_, fun j a ha => ?_, ?_⟩
    · rw [List.map_append, List.nodup_append]
      refine ⟨h.nd, by simp, fun a ha b hb => ?_⟩
      obtain ⟨a', ha', rfl⟩ := List.mem_map.mp ha
      simp at hb
      rw [hb]
      exact hn2 a' ha'
    · rcases List.mem_append.mp ha with ha | ha
      · exact h.rng a ha
      · rw [List.mem_singleton.mp ha]; exact ii
    · rw [List.getElem?_append] at ha
      split at ha
      · exact h.path j a ha
      · have : j - w.length = 0 := by
          have := (List.getElem?_eq_some_iff.mp ha).1
          simp at this; omega
        rw [this] at ha
        rw [List.getElem?_cons_zero, Option.some.injEq] at ha
        subst ha
        refine ⟨by simp; omega, fun k hk => ?_, by rw [walk_snoc, hp.2.2]⟩
        rcases List.mem_append.mp hk with hk | hk
        · exact hp.2.1 k hk
        · rw [List.mem_singleton.mp hk]; exact hi
    · rw [List.getElem?_append_left (by omega)]; exact h.head
def ky (mk : List (List Int)) (n : Nat) (s : Int) (x : Int) : Prop := (lk (waysOf mk n s) x).isSome = true
section
variable {n : Nat} {mk : List (List Int)} {s : Int}
theorem im_inj {m : List Int} (h : List.Perm m (rgI n)) {x y : Int} (x0 : 0 ≤ x) (x1 : x < n) (y0 : 0 ≤ y) (y1 : y < n) (e : im m x = im m y) : x = y := by
  have hl : m.length = n := by rw [h.length_eq, rgI_len]
  have nd : m.Nodup := h.nodup_iff.2 (by
    unfold rgI
    refine List.Pairwise.map _ (fun a b ne => ?_) List.nodup_range
    omega)
  unfold im at e
  rw [List.getD, List.getD, List.getElem?_eq_getElem (by omega), List.getElem?_eq_getElem (by omega)] at e
  simp at e
  have := (List.getElem_inj nd).mp e
  omega
theorem nodup_onto {l l' : List Int} (nd : l'.Nodup) (hs : ∀ k, k ∈ l' → k ∈ l) (hl : l.length ≤ l'.length) {x : Int} (hx : x ∈ l) : x ∈ l' := by
  by_cases h : x ∈ l'
  · exact h
  · have p := erase_perm hx
    have : l'.length ≤ (l.erase x).length := nodup_le nd fun k hk => by
      have ne : k ≠ x := fun z => h (by rw [← z]; exact hk)
      rcases List.mem_cons.mp (p.mem_iff.2 (hs k hk)) with z | z
      · exact absurd z ne
      · exact z
    have e := p.length_eq
    simp only [List.length_cons] at e
    omega
end
end Dn
set_option Elab.async false
set_option linter.all false
set_option maxRecDepth 100000
set_option autoImplicit false
set_option maxHeartbeats 4000000
namespace Dn
open PySem L2 Evl PySem.Spec PyProof.Rows
abbrev T60 : Int := 1000000000000000000000000000000000000000000000000000000000000
def isI : D → Bool
  | .int i => decide (-1000000000000000000000000000000000000000000000000000000000000 < i) && decide (i < 1000000000000000000000000000000000000000000000000000000000000)
  | _ => false
def isTh (n : Int) : D → Bool
  | .int i => (decide (-1000000000000000000000000000000000000000000000000000000000000 < i) && decide (i < 1000000000000000000000000000000000000000000000000000000000000)) && (decide (0 ≤ i) && decide (i < n))
  | _ => false
def isRow (m n : Int) : D → Bool
  | .tuple xs => decide ((xs.length : Int) = m) && xs.all (isTh n)
  | _ => false
def okW (d : D) : Prop := ∀ xs, d = .tuple xs → xs.length ≤ 100000
def intD : D → Int
  | .int i => i
  | _ => 0
def isMove : D → Bool
  | .tuple xs => decide (xs.length ≤ 24) && (xs.all (isTh xs.length) && decide ((xs.map intD).Nodup))
  | _ => false
def isMoveOf (n : Int) (d : D) : Bool := isMove d && (match d with
  | .tuple xs => decide ((xs.length : Int) = n)
  | _ => false)
theorem isTh_in {n x : Int} (h0 : 0 ≤ x) (h1 : x < n) (hn : n ≤ 24) : isTh n (.int x) = true := by
  simp only [isTh, Bool.and_eq_true, decide_eq_true_eq]
  omega
theorem isTh_int {n : Int} {d : D} (h : isTh n d = true) : ∃ i, d = .int i ∧ 0 ≤ i ∧ i < n := by
  cases d with
  | int i => simp only [isTh, Bool.and_eq_true, decide_eq_true_eq] at h; exact ⟨i, rfl, h.2.1, h.2.2⟩
  | _ => simp [isTh] at h
theorem all_ints {n : Int} : ∀ {xs : List D}, xs.all (isTh n) = true → xs = (xs.map intD).map PyData.int
  | [], _ => rfl
  | x :: xs, h => by
    rw [List.all_cons, Bool.and_eq_true] at h
    obtain ⟨i, rfl, _⟩ := isTh_int h.1
    rw [List.map_cons, List.map_cons, ← all_ints h.2]
    rfl
theorem intD_map (ns : List Int) : (ns.map PyData.int).map intD = ns := by
  induction ns with
  | nil => rfl
  | cons x ns ih => simp [intD] at ih ⊢; exact ih
theorem nodup_rgI (n : Nat) : (rgI n).Nodup := by
  unfold rgI
  refine List.Pairwise.map _ (fun a b ne => ?_) List.nodup_range
  omega
theorem move_perm {n : Nat} {m : List Int} (h : List.Perm m (rgI n)) (hn : n ≤ 24) : isMove (tI m) = true ∧ isMoveOf n (tI m) = true := by
  have hl : m.length = n := by rw [h.length_eq, rgI_len]
  have h1 : isMove (tI m) = true := by
    unfold isMove tI
    simp only [Bool.and_eq_true, decide_eq_true_eq, List.length_map, hl, List.all_map, List.all_eq_true, intD_map]
    refine ⟨hn, fun x hx => ?_, h.nodup_iff.2 (nodup_rgI n)⟩
    have := mem_rgI.mp (h.mem_iff.1 hx)
    exact isTh_in this.1 this.2 (by omega)
  refine ⟨h1, ?_⟩
  unfold isMoveOf
  rw [h1]
  simp [tI, hl]
def S_is_integer (ds : List D) (Q : D → Prop) : Prop := ∃ d, ds = [d] ∧ Q (.bool (isI d))
def S_is_within (ds : List D) (Q : D → Prop) : Prop := ∃ i a b, ds = [.int i, .int a, .int b] ∧ Q (.bool (isI (.int i) && (decide (a ≤ i) && decide (i ≤ b))))
def S_is_thing (ds : List D) (Q : D → Prop) : Prop := ∃ d n, ds = [d, .int n] ∧ Q (.bool (isTh n d))
def S_is_row (ds : List D) (Q : D → Prop) : Prop := ∃ d m n, ds = [d, .int m, .int n] ∧ okW d ∧ n ≤ 100000 ∧ Q (.bool (isRow m n d))
def S_check_within (ds : List D) (Q : D → Prop) : Prop := ∃ i a b, ds = [.int i, .int a, .int b] ∧ isI (.int i) = true ∧ a ≤ i ∧ i ≤ b ∧ Q .none
def S_is_move (ds : List D) (Q : D → Prop) : Prop := ∃ d, ds = [d] ∧ Q (.bool (isMove d))
def S_is_move_of (ds : List D) (Q : D → Prop) : Prop := ∃ d n, ds = [d, .int n] ∧ Q (.bool (isMoveOf n d))
def Dc (ms : List D) : Prop := ∃ a b c : Int, ms = [.int a, .int b, .int c]
def scr (s : List Int) : D := .dict [(.none, .tuple (s.map PyData.int))]
def S__law_dice (ds : List D) (Q : List D → Prop) : Prop := ∃ s i, ds = [scr s, .int i] ∧ 0 ≤ i ∧ ∀ ms, Dc ms → Q ms
def S__law_roll (ms ds : List D) (Q : D → List D → Prop) : Prop := ∃ t, ds = [.int t] ∧ 0 < t ∧ t ≤ T60 ∧ Dc ms ∧ ∀ r ms', 0 ≤ r → r < t → Dc ms' → Q (.int r) ms'
def S__law_pick (ms ds : List D) (Q : D → List D → Prop) : Prop := ∃ d xs, ds = [d] ∧ seqD d = some xs ∧ xs ≠ [] ∧ xs.length ≤ 100000 ∧ Dc ms ∧ ∀ x ms', x ∈ xs → Dc ms' → Q x ms'
def S__law_mixed (ms ds : List D) (Q : D → List D → Prop) : Prop := ∃ d xs, ds = [d] ∧ seqD d = some xs ∧ xs.length ≤ 100000 ∧ Dc ms ∧ ∀ ys ms', ys.Perm xs → Dc ms' → Q (.list ys) ms'
def S__law_drawn_move (ms ds : List D) (Q : D → List D → Prop) : Prop := ∃ n : Nat, ds = [.int n] ∧ n ≤ 1000 ∧ Dc ms ∧ ∀ m ms', List.Perm m (rgI n) → Dc ms' → Q (tI m) ms'
theorem start_scr {K : PySem.W.Frag} {H : Hp} {a : Addr} {ns : List Int} (hS : SqL K H a (ns.map V.int)) : RpAll K (hide (fun _ => False) H) [.ref a] [scr ns] := by
  have e : Ex H (hide (fun _ => False) H) := fun a o h => hide_some.2 ⟨id, h⟩
  exact .cons (.frz (ex_l e hS) (RpAll.ints ns)) .nil
end Dn
set_option Elab.async false
set_option linter.all false
set_option maxRecDepth 100000
set_option autoImplicit false
set_option maxHeartbeats 4000000
namespace Dn
open PySem L2 Evl PySem.Spec PyProof.Rows
abbrev Mv (n : Nat) (m : List Int) : Prop := List.Perm m (rgI n)
def it (m : List Int) : Nat → Int → Int
  | 0, x => x
  | k + 1, x => im m (it m k x)
def jn (a b : List Int) : List Int := b.map (im a)
def iv (m : List Int) (y : Int) : Int := ((m.findIdx fun x => decide (x = y) : Nat) : Int)
def inv (m : List Int) : List Int := (rgI m.length).map (iv m)
def per (m : List Int) (n : Nat) (x : Int) : Nat := match (List.range n).find? fun k => decide (it m (k + 1) x = x) with
  | some k => k + 1
  | none => 1
def cyc (m : List Int) (n : Nat) (x : Int) : List Int := (List.range (per m n x)).map fun k => it m k x
def lead (m : List Int) (n : Nat) (x : Int) : Bool := (cyc m n x).all fun y => decide (x ≤ y)
def leads (m : List Int) (n : Nat) : List Int := (rgI n).filter (lead m n)
def cs (m : List Int) (n : Nat) : List (List Int) := (leads m n).map (cyc m n)
theorem Mv.len {n : Nat} {m : List Int} (h : Mv n m) : m.length = n := by rw [h.length_eq, rgI_len]
section
variable {n : Nat} {m : List Int} (h : Mv n m)
theorem perm_of_nodup {l l' : List Int} (nd : l.Nodup) (nd' : l'.Nodup) (e : ∀ x, x ∈ l ↔ x ∈ l') : l.Perm l' := (List.perm_ext_iff_of_nodup nd nd').2 e
theorem rgI_split {l1 l2 : List Int} {x : Int} (e : rgI n = l1 ++ x :: l2) : x = l1.length ∧ l1 = rgI l1.length := by
  have hl := congrArg List.length e
  rw [rgI_len] at hl
  simp at hl
  have h1 := congrArg (fun l : List Int => l[l1.length]?) e
  rw [rgI_get (by omega), List.getElem?_append_right (Nat.le_refl _)] at h1
  simp at h1
  refine ⟨h1.symm, ?_⟩
  have h2 := congrArg (List.take l1.length) e
  rw [List.take_left] at h2
  rw [← h2]
  unfold rgI
  rw [← List.map_take, List.take_range]
  congr 2
  simp
end
end Dn
set_option Elab.async false
set_option linter.all false
set_option maxRecDepth 100000
set_option autoImplicit false
set_option maxHeartbeats 4000000
namespace Dn
open PySem L2 Evl PySem.Spec PyProof.Rows SrL
section
variable {n : Nat} {m a b o : List Int}
theorem Mv.nodup (h : Mv n m) : m.Nodup := h.nodup_iff.2 (nodup_rgI n)
theorem Mv.of {l : List Int} (hl : l.length = n) (nd : l.Nodup) (hr : ∀ x, x ∈ l → 0 ≤ x ∧ x < n) : Mv n l :=
  perm_of_nodup nd (nodup_rgI n) fun x => ⟨fun hx => mem_rgI.mpr (hr x hx), fun hx => nodup_onto nd (fun k hk => mem_rgI.mpr (hr k hk)) (by rw [rgI_len, hl]; exact Nat.le_refl _) hx⟩
theorem mv_map {f : Int → Int} (hr : ∀ x : Int, 0 ≤ x → x < n → 0 ≤ f x ∧ f x < n) (hi : ∀ x y : Int, 0 ≤ x → x < n → 0 ≤ y → y < n → f x = f y → x = y) : Mv n ((rgI n).map f) := by
  refine .of (by simp [rgI_len]) ?_ fun x hx => ?_
  · rw [List.Nodup, List.pairwise_map]
    refine (nodup_rgI n).imp_of_mem fun {x y} hx hy ne z => ne ?_
    have a := mem_rgI.mp hx
    have b := mem_rgI.mp hy
    exact hi x y a.1 a.2 b.1 b.2 z
  · obtain ⟨y, hy, rfl⟩ := List.mem_map.mp hx
    have a := mem_rgI.mp hy
    exact hr y a.1 a.2
theorem im_at (h : Mv n m) {k : Nat} (hk : k < n) : m[k]? = some (im m k) := by
  unfold im
  rw [Int.toNat_natCast, List.getD, List.getElem?_eq_getElem (by rw [h.len]; exact hk)]
  rfl
theorem mv_self (h : Mv n m) : m = (rgI n).map (im m) := by
  apply List.ext_getElem?
  intro k
  by_cases hk : k < n
  · rw [im_at h hk, List.getElem?_map, rgI_get hk]; rfl
  · rw [List.getElem?_eq_none_iff.mpr (by rw [h.len]; omega), List.getElem?_eq_none_iff.mpr (by simp [rgI_len]; omega)]
theorem im_map {f : Int → Int} {x : Int} (h0 : 0 ≤ x) (h1 : x < n) : im ((rgI n).map f) x = f x := by
  unfold im
  rw [List.getD, List.getElem?_map, rgI_get (show x.toNat < n by omega)]
  show f ((x.toNat : Nat) : Int) = f x
  congr 1
  omega
theorem jn_map (hb : Mv n b) : jn a b = (rgI n).map fun x => im a (im b x) := by
  unfold jn
  conv => lhs; rw [mv_self hb]
  rw [List.map_map]; rfl
theorem jn_im (hb : Mv n b) {x : Int} (h0 : 0 ≤ x) (h1 : x < n) : im (jn a b) x = im a (im b x) := by rw [jn_map hb, im_map h0 h1]
theorem jn_mv (ha : Mv n a) (hb : Mv n b) : Mv n (jn a b) := by
  rw [jn_map hb]
  refine mv_map (fun x h0 h1 => ?_) fun x y x0 x1 y0 y1 e => ?_
  · have := im_in hb h0 h1
    exact im_in ha this.1 this.2
  · have p := im_in hb x0 x1
    have q := im_in hb y0 y1
    exact im_inj hb x0 x1 y0 y1 (im_inj ha p.1 p.2 q.1 q.2 e)
theorem iv_im (h : Mv n m) {x : Int} (h0 : 0 ≤ x) (h1 : x < n) : iv m (im m x) = x := by
  unfold iv
  have hk : x.toNat < m.length := by rw [h.len]; omega
  have e : im m x = m[x.toNat] := by
    have := im_at h (show x.toNat < n by omega)
    rw [show ((x.toNat : Nat) : Int) = x by omega, List.getElem?_eq_getElem hk, Option.some.injEq] at this
    exact this.symm
  have : m.findIdx (fun z => decide (z = im m x)) = x.toNat := by
    rw [List.findIdx_eq hk]
    refine ⟨by simp [e], fun j hj => ?_⟩
    simp only [decide_eq_false_iff_not]
    intro z
    rw [e] at z
    have := (List.getElem_inj h.nodup).mp z
    omega
  rw [this]
  omega
theorem iv_rng (h : Mv n m) {y : Int} (h0 : 0 ≤ y) (h1 : y < n) : (0 ≤ iv m y ∧ iv m y < n) ∧ im m (iv m y) = y := by
  have hm : y ∈ m := h.mem_iff.2 (mem_rgI.mpr ⟨h0, h1⟩)
  obtain ⟨k, hk, e⟩ := List.mem_iff_getElem.mp hm
  have hk2 : k < n := by rw [← h.len]; exact hk
  have e2 : im m k = y := by
    have := im_at h hk2
    rw [List.getElem?_eq_getElem hk, Option.some.injEq, e] at this
    exact this.symm
  have e3 := iv_im h (x := (k : Int)) (by omega) (by omega)
  rw [e2] at e3
  rw [e3]
  exact ⟨by omega, e2⟩
theorem inv_map (h : Mv n m) : inv m = (rgI n).map (iv m) := by unfold inv; rw [h.len]
theorem inv_im (h : Mv n m) {x : Int} (h0 : 0 ≤ x) (h1 : x < n) : im (inv m) x = iv m x := by rw [inv_map h, im_map h0 h1]
theorem inv_mv (h : Mv n m) : Mv n (inv m) := by
  rw [inv_map h]
  refine mv_map (fun x h0 h1 => (iv_rng h h0 h1).1) fun x y x0 x1 y0 y1 e => ?_
  rw [← (iv_rng h x0 x1).2, e, (iv_rng h y0 y1).2]
end
end Dn
set_option Elab.async false
set_option linter.all false
set_option maxRecDepth 100000
set_option autoImplicit false
set_option maxHeartbeats 4000000
namespace Dn.T
open PySem L2 Evl PySem.Spec PyProof.Rows
def In (n : Nat) (x : Int) : Prop := 0 ≤ x ∧ x < n
theorem In.mem {n : Nat} {x : Int} : x ∈ rgI n ↔ In n x := mem_rgI
instance (n : Nat) (x : Int) : Decidable (In n x) := by unfold In; infer_instance
def tab (n : Nat) (d : Int → Int → Int) : List (List Int) := (rgI n).map fun x => (rgI n).map fun y => d x y
def row (C : List (List Int)) (x : Int) : List Int := C.getD x.toNat []
def dot (C : List (List Int)) (x y : Int) : Int := im (row C x) y
theorem getD_map {α β : Type} {l : List α} {f : α → β} {i : Nat} {a : α} {b : β} (h : i < l.length) : (l.map f).getD i b = f (l.getD i a) := by
  simp [List.getD_eq_getElem?_getD, List.getElem?_eq_getElem h]
theorem rg_at {n : Nat} {x : Int} (h : In n x) : (rgI n).getD x.toNat 0 = x := by
  unfold In at h
  rw [List.getD_eq_getElem?_getD, rgI_get (by omega)]
  simp; omega
theorem map_at {β : Type} {n : Nat} {f : Int → β} {x : Int} {b : β} (h : In n x) : ((rgI n).map f).getD x.toNat b = f x := by
  rw [getD_map (a := 0) (by rw [rgI_len]; unfold In at h; omega), rg_at h]
theorem row_tab {n : Nat} {d : Int → Int → Int} {x : Int} (h : In n x) : row (tab n d) x = (rgI n).map (d x) := map_at h
theorem dot_tab {n : Nat} {d : Int → Int → Int} {x y : Int} (hx : In n x) (hy : In n y) : dot (tab n d) x y = d x y := by
  unfold dot
  rw [row_tab hx]
  exact map_at hy
theorem tab_len (n : Nat) (d : Int → Int → Int) : (tab n d).length = n := by unfold tab; simp [rgI_len]
theorem tab_ext {n : Nat} {d d' : Int → Int → Int} (h : ∀ x y, In n x → In n y → d x y = d' x y) : tab n d = tab n d' := by
  unfold tab
  refine List.map_congr_left fun x hx => List.map_congr_left fun y hy => h x y (In.mem.1 hx) (In.mem.1 hy)
structure Cs (n : Nat) (d : Int → Int → Int) : Prop where
  rg : ∀ x y, In n x → In n y → In n (d x y)
  inj : ∀ x y z, In n x → In n y → In n z → d x y = d x z → y = z
  cyc : ∀ x y z, In n x → In n y → In n z → d (d x y) (d x z) = d (d y x) (d y z)
  dia : ∀ x y, In n x → In n y → d x x = d y y → x = y
def Kp (n : Nat) (d : Int → Int → Int) (m : List Int) : Prop := ∀ x y, In n x → In n y → im m (d x y) = d (im m x) (im m y)
theorem mv_in {n : Nat} {m : List Int} (h : Mv n m) {x : Int} (hx : In n x) : In n (im m x) := im_in h hx.1 hx.2
theorem mv_inj {n : Nat} {m : List Int} (h : Mv n m) {x y : Int} (hx : In n x) (hy : In n y) (e : im m x = im m y) : x = y := im_inj h hx.1 hx.2 hy.1 hy.2 e
theorem inv_l {n : Nat} {m : List Int} (h : Mv n m) {x : Int} (hx : In n x) : im (inv m) (im m x) = x := by
  have := mv_in h hx
  rw [inv_im h this.1 this.2, iv_im h hx.1 hx.2]
theorem inv_r {n : Nat} {m : List Int} (h : Mv n m) {x : Int} (hx : In n x) : im m (im (inv m) x) = x := by
  rw [inv_im h hx.1 hx.2]
  exact (iv_rng h hx.1 hx.2).2
theorem Cs.ext {n : Nat} {d d' : Int → Int → Int} (h : Cs n d) (e : ∀ x y, In n x → In n y → d x y = d' x y) : Cs n d' where
  rg := fun x y hx hy => by rw [← e x y hx hy]; exact h.rg x y hx hy
  inj := fun x y z hx hy hz q => h.inj x y z hx hy hz (by rw [e x y hx hy, e x z hx hz]; exact q)
  cyc := fun x y z hx hy hz => by
    rw [← e x y hx hy, ← e x z hx hz, ← e y x hy hx, ← e y z hy hz, ← e _ _ (h.rg x y hx hy) (h.rg x z hx hz), ← e _ _ (h.rg y x hy hx) (h.rg y z hy hz)]
    exact h.cyc x y z hx hy hz
  dia := fun x y hx hy q => h.dia x y hx hy (by rw [e x x hx hx, e y y hy hy]; exact q)
theorem dm_in {a b : Nat} {k : Int} (h : In (a * b) k) (hb : 1 ≤ b) : In a (k / b) ∧ In b (k % b) := by
  unfold In at h ⊢
  have s0 : (0 : Int) < b := by omega
  refine ⟨⟨Int.ediv_nonneg h.1 (by omega), Int.ediv_lt_of_lt_mul s0 (by simpa using h.2)⟩, Int.emod_nonneg _ (by omega), Int.emod_lt_of_pos _ s0⟩
end Dn.T
set_option Elab.async false
set_option linter.all false
set_option maxRecDepth 100000
set_option autoImplicit false
set_option maxHeartbeats 400000
namespace Dn.T
open PySem L2 Evl PySem.Spec PyProof.Rows
structure Gr (n : Nat) (g : Int → Int → Int) (u : Int) : Prop where
  rg : ∀ x y, In n x → In n y → In n (g x y)
  un : In n u
  ul : ∀ x, In n x → g u x = x
  ur : ∀ x, In n x → g x u = x
  as : ∀ x y z, In n x → In n y → In n z → g (g x y) z = g x (g y z)
  iv : ∀ x, In n x → ∃ y, In n y ∧ g x y = u ∧ g y x = u
section
variable {n : Nat} {g : Int → Int → Int} {u : Int} (h : Gr n g u)
include h
theorem Gr.lc {x y z : Int} (hx : In n x) (hy : In n y) (hz : In n z) (e : g x y = g x z) : y = z := by
  obtain ⟨w, hw, _, e2⟩ := h.iv x hx
  have := congrArg (g w) e
  rw [← h.as w x y hw hx hy, ← h.as w x z hw hx hz, e2, h.ul y hy, h.ul z hz] at this
  exact this
theorem Gr.rc {x y z : Int} (hx : In n x) (hy : In n y) (hz : In n z) (e : g y x = g z x) : y = z := by
  obtain ⟨w, hw, e1, _⟩ := h.iv x hx
  have := congrArg (fun t => g t w) e
  rw [h.as y x w hy hx hw, h.as z x w hz hx hw, e1, h.ur y hy, h.ur z hz] at this
  exact this
theorem Gr.idem {x : Int} (hx : In n x) : g x x = x ↔ x = u := by
  constructor
  · intro e
    exact h.lc hx hx h.un (by rw [e, h.ur x hx])
  · rintro rfl
    exact h.ul _ hx
end
section
variable {n : Nat} {g : Int → Int → Int} {u : Int} (h : Gr n g u)
include h
end
end Dn.T
set_option Elab.async false
set_option linter.all false
set_option maxRecDepth 100000
set_option autoImplicit false
set_option maxHeartbeats 400000
namespace Dn.T
open PySem L2 Evl PySem.Spec PyProof.Rows
theorem inMod {n : Nat} (h : 1 ≤ n) (x : Int) : In n (x % n) := ⟨Int.emod_nonneg _ (by omega), Int.emod_lt_of_pos _ (by omega)⟩
theorem modIn {n : Nat} {x : Int} (h : In n x) : x % n = x := Int.emod_eq_of_lt h.1 h.2
theorem gr_cyc {n : Nat} (h : 1 ≤ n) : Gr n (fun x y => (x + y) % n) 0 := by
  refine ⟨fun x y _ _ => inMod h _, ⟨by omega, by omega⟩, fun x hx => ?_, fun x hx => ?_, fun x y z _ _ _ => ?_, fun x hx => ⟨(n - x) % n, inMod h _, ?_, ?_⟩⟩
  · rw [Int.zero_add]; exact modIn hx
  · rw [Int.add_zero]; exact modIn hx
  · show ((x + y) % n + z) % n = (x + (y + z) % n) % n
    rw [Int.emod_add_emod, Int.add_emod_emod, Int.add_assoc]
  · show (x + (n - x) % n) % n = 0
    rw [Int.add_emod_emod, show x + (n - x) = (n : Int) by omega, Int.emod_self]
  · show ((n - x) % n + x) % n = 0
    rw [Int.emod_add_emod, show (n - x) + x = (n : Int) by omega, Int.emod_self]
def pairN (b : Nat) (i j : Int) : Int := i * b + j
theorem dvPair {b : Nat} {i j : Int} (hj : In b j) : pairN b i j / b = i := by
  unfold pairN
  rw [Int.add_comm, Int.add_mul_ediv_right _ _ (by have := hj.1; have := hj.2; omega), Int.ediv_eq_zero_of_lt hj.1 hj.2, Int.zero_add]
theorem mdPair {b : Nat} {i j : Int} (hj : In b j) : pairN b i j % b = j := by
  unfold pairN
  rw [Int.add_comm, Int.add_mul_emod_self_right]
  exact modIn hj
theorem inPair {a b : Nat} {i j : Int} (hi : In a i) (hj : In b j) : In (a * b) (pairN b i j) := by
  unfold pairN
  have h0 := Int.mul_nonneg hi.1 (show (0 : Int) ≤ b by omega)
  refine ⟨by have := hj.1; omega, ?_⟩
  have h1 : (i + 1) * b ≤ a * b := Int.mul_le_mul_of_nonneg_right (by have := hi.2; omega) (by omega)
  have h2 := hj.2
  rw [Int.add_mul, Int.one_mul] at h1
  rw [Int.natCast_mul]
  omega
theorem dvIn {a b : Nat} {x : Int} (h : In (a * b) x) : In a (x / b) ∧ In b (x % b) := by
  have b1 : 1 ≤ b := by
    rcases Nat.eq_zero_or_pos b with z | z
    · subst z
      have := h.1; have := h.2
      simp at *
      omega
    · exact z
  refine ⟨⟨Int.ediv_nonneg h.1 (by omega), Int.ediv_lt_of_lt_mul (by omega) ?_⟩, inMod b1 x⟩
  have := h.2
  rw [Int.natCast_mul] at this
  exact this
theorem pairDv {b : Nat} (x : Int) : pairN b (x / b) (x % b) = x := by
  unfold pairN
  rw [Int.mul_comm]
  exact Int.mul_ediv_add_emod x b
def dirG (b : Nat) (g k : Int → Int → Int) : Int → Int → Int := fun x y => pairN b (g (x / b) (y / b)) (k (x % b) (y % b))
theorem gr_dir {a b : Nat} {g k : Int → Int → Int} {u v : Int} (hg : Gr a g u) (hk : Gr b k v) : Gr (a * b) (dirG b g k) (pairN b u v) := by
  have R : ∀ x y, In (a * b) x → In (a * b) y → In a (g (x / b) (y / b)) ∧ In b (k (x % b) (y % b)) := fun x y hx hy => ⟨hg.rg _ _ (dvIn hx).1 (dvIn hy).1, hk.rg _ _ (dvIn hx).2 (dvIn hy).2⟩
  refine ⟨fun x y hx hy => inPair (R x y hx hy).1 (R x y hx hy).2, inPair hg.un hk.un, fun x hx => ?_, fun x hx => ?_, fun x y z hx hy hz => ?_, fun x hx => ?_⟩
  · unfold dirG
    rw [dvPair hk.un, mdPair hk.un, hg.ul _ (dvIn hx).1, hk.ul _ (dvIn hx).2, pairDv]
  · unfold dirG
    rw [dvPair hk.un, mdPair hk.un, hg.ur _ (dvIn hx).1, hk.ur _ (dvIn hx).2, pairDv]
  · unfold dirG
    rw [dvPair (R x y hx hy).2, mdPair (R x y hx hy).2, dvPair (R y z hy hz).2, mdPair (R y z hy hz).2, hg.as _ _ _ (dvIn hx).1 (dvIn hy).1 (dvIn hz).1, hk.as _ _ _ (dvIn hx).2 (dvIn hy).2 (dvIn hz).2]
  · obtain ⟨i, hi, i1, i2⟩ := hg.iv _ (dvIn hx).1
    obtain ⟨j, hj, j1, j2⟩ := hk.iv _ (dvIn hx).2
    refine ⟨pairN b i j, inPair hi hj, ?_, ?_⟩
    · unfold dirG; rw [dvPair hj, mdPair hj, i1, j1]
    · unfold dirG; rw [dvPair hj, mdPair hj, i2, j2]
def renG (g : Int → Int → Int) (m : List Int) : Int → Int → Int := fun x y => im (inv m) (g (im m x) (im m y))
theorem gr_ren {n : Nat} {g : Int → Int → Int} {u : Int} {m : List Int} (h : Gr n g u) (hm : Mv n m) : Gr n (renG g m) (im (inv m) u) := by
  have I := fun x (hx : In n x) => mv_in hm hx
  have J := fun x (hx : In n x) => mv_in (inv_mv hm) hx
  have L := fun x (hx : In n x) => inv_l hm hx
  have Rr := fun x (hx : In n x) => inv_r hm hx
  refine ⟨fun x y hx hy => J _ (h.rg _ _ (I x hx) (I y hy)), J _ h.un, fun x hx => ?_, fun x hx => ?_, fun x y z hx hy hz => ?_, fun x hx => ?_⟩
  · unfold renG; rw [Rr _ h.un, h.ul _ (I x hx), L x hx]
  · unfold renG; rw [Rr _ h.un, h.ur _ (I x hx), L x hx]
  · unfold renG; rw [Rr _ (h.rg _ _ (I x hx) (I y hy)), Rr _ (h.rg _ _ (I y hy) (I z hz)), h.as _ _ _ (I x hx) (I y hy) (I z hz)]
  · obtain ⟨y, hy, e1, e2⟩ := h.iv _ (I x hx)
    refine ⟨im (inv m) y, J y hy, ?_, ?_⟩
    · unfold renG; rw [Rr y hy, e1]
    · unfold renG; rw [Rr y hy, e2]
end Dn.T
set_option Elab.async false
set_option linter.all false
set_option maxRecDepth 100000
set_option autoImplicit false
set_option maxHeartbeats 400000
namespace Dn.T
open PySem L2 Evl PySem.Spec PyProof.Rows
def trnG (n : Nat) (x y : Int) : Int := (x / 2 + (if x % 2 = 0 then y / 2 else n - y / 2)) % n * 2 + (x + y) % 2
theorem congN {n a b : Int} (q : Int) (h : a = b + n * q) : a % n = b % n := by rw [h, Int.add_mul_emod_self_left]
theorem trn_dv {n : Nat} {x y : Int} : trnG n x y / 2 = (x / 2 + (if x % 2 = 0 then y / 2 else n - y / 2)) % n ∧ trnG n x y % 2 = (x + y) % 2 := by
  unfold trnG
  generalize (x / 2 + (if x % 2 = 0 then y / 2 else n - y / 2)) % (n : Int) = a
  omega
theorem in2 {n : Nat} {x : Int} (h : In (2 * n) x) : In n (x / 2) := ⟨by have := h.1; omega, by have := h.2; omega⟩
theorem of2 {n : Nat} {a b : Int} (ha : In n a) (hb : 0 ≤ b ∧ b < 2) : In (2 * n) (a * 2 + b) := ⟨by have := ha.1; omega, by have := ha.2; omega⟩
theorem ext2 {x y : Int} (h1 : x / 2 = y / 2) (h2 : x % 2 = y % 2) : x = y := by omega
theorem gr_trn {n : Nat} (h : 1 ≤ n) : Gr (2 * n) (trnG n) 0 := by
  refine ⟨fun x y _ _ => of2 (inMod h _) (by omega), ⟨by omega, by omega⟩, fun x hx => ?_, fun x hx => ?_, fun x y z hx hy hz => ?_, fun x hx => ?_⟩
  · refine ext2 ?_ ?_
    · rw [trn_dv.1, if_pos (by omega), show (0 : Int) / 2 + x / 2 = x / 2 by omega]; exact modIn (in2 hx)
    · rw [trn_dv.2]; omega
  · refine ext2 ?_ ?_
    · rw [trn_dv.1]
      by_cases e : x % 2 = 0
      · rw [if_pos e, show x / 2 + (0 : Int) / 2 = x / 2 by omega]; exact modIn (in2 hx)
      · rw [if_neg e, show x / 2 + ((n : Int) - (0 : Int) / 2) = x / 2 + n by omega, Int.add_emod_right]; exact modIn (in2 hx)
    · rw [trn_dv.2]; omega
  · refine ext2 ?_ ?_
    · rw [trn_dv.1, trn_dv.1, trn_dv.1, trn_dv.1, trn_dv.2]
      by_cases e : x % 2 = 0 <;> by_cases e2 : y % 2 = 0
      · rw [if_pos e, if_pos e2, if_pos (by omega), if_pos e, Int.emod_add_emod, Int.add_emod_emod, Int.add_assoc]
      · rw [if_pos e, if_neg e2, if_neg (by omega), if_pos e, Int.emod_add_emod, Int.add_emod_emod, Int.add_assoc]
      · rw [if_neg e, if_pos e2, if_neg (by omega), if_neg e, Int.emod_add_emod, Int.emod_def (y / 2 + z / 2)]
        refine congN (1 - (y / 2 + z / 2) / n) ?_
        rw [Int.mul_sub, Int.mul_one]
        omega
      · rw [if_neg e, if_neg e2, if_pos (by omega), if_neg e, Int.emod_add_emod, Int.emod_def (y / 2 + (n - z / 2))]
        refine congN (1 - (y / 2 + (n - z / 2)) / n) ?_
        rw [Int.mul_sub, Int.mul_one]
        omega
    · rw [trn_dv.2, trn_dv.2, Int.add_emod, trn_dv.2, Int.add_emod x (trnG n y z), trn_dv.2]
      omega
  · by_cases e : x % 2 = 0
    · have hi := inMod h ((n : Int) - x / 2)
      refine ⟨((n : Int) - x / 2) % n * 2 + 0, of2 hi (by omega), ?_, ?_⟩
      · refine ext2 ?_ ?_
        · rw [trn_dv.1, if_pos e, show (((n : Int) - x / 2) % n * 2 + 0) / 2 = ((n : Int) - x / 2) % n by omega, Int.add_emod_emod, show x / 2 + ((n : Int) - x / 2) = n by omega, Int.emod_self]; rfl
        · rw [trn_dv.2]; omega
      · refine ext2 ?_ ?_
        · rw [trn_dv.1, if_pos (by omega), show (((n : Int) - x / 2) % n * 2 + 0) / 2 = ((n : Int) - x / 2) % n by omega, Int.emod_add_emod, show ((n : Int) - x / 2) + x / 2 = n by omega, Int.emod_self]; rfl
        · rw [trn_dv.2]; omega
    · refine ⟨x, hx, ?_, ?_⟩
      · refine ext2 ?_ ?_
        · rw [trn_dv.1, if_neg e, show x / 2 + ((n : Int) - x / 2) = n by omega, Int.emod_self]; rfl
        · rw [trn_dv.2]; omega
      · refine ext2 ?_ ?_
        · rw [trn_dv.1, if_neg e, show x / 2 + ((n : Int) - x / 2) = n by omega, Int.emod_self]; rfl
        · rw [trn_dv.2]; omega
end Dn.T
set_option Elab.async false
set_option linter.all false
set_option maxRecDepth 100000
set_option autoImplicit false
set_option maxHeartbeats 400000
namespace Dn.T
open PySem L2 Evl PySem.Spec PyProof.Rows
-- MISSING rc
def isUnit (rs : List (List Int)) (e : Int) : Bool := decide (rs.getD e.toNat [] = rgI rs.length) && decide (rs.map (fun r => r.getD e.toNat 0) = rgI rs.length)
def unitOf (rs : List (List Int)) : Option Int := (rgI rs.length).find? (isUnit rs)
def backOf (rs : List (List Int)) (u t : Int) : Option Int := (rgI rs.length).find? fun b => decide (rc rs t b = u) && decide (rc rs b t = u)
def threeOf (rs : List (List Int)) : Option D := (rgI rs.length).findSome? fun a => (rgI rs.length).findSome? fun b => (rgI rs.length).findSome? fun c =>
  if rc rs (rc rs a b) c ≠ rc rs a (rc rs b c) then some (.tuple [.int a, .int b, .int c]) else none
end Dn.T
set_option Elab.async false
set_option linter.all false
set_option maxRecDepth 100000
set_option autoImplicit false
set_option maxHeartbeats 400000
namespace Dn.T
open PySem L2 Evl PySem.Spec PyProof.Rows
section
variable {n : Nat} {g : Int → Int → Int} {u : Int} (h : Gr n g u)
theorem rc_tab {x y : Int} (hx : In n x) (hy : In n y) : rc (tab n g) x y = g x y := by
  have := dot_tab (d := g) hx hy
  exact this
theorem findOne {p : Int → Bool} {v : Int} (hv : In n v) (hp : ∀ a, In n a → (p a = true ↔ a = v)) : (rgI n).find? p = some v := by
  cases e : (rgI n).find? p with
  | none => exact absurd ((hp v hv).2 rfl) (by simpa using List.find?_eq_none.mp e v (In.mem.2 hv))
  | some w => rw [(hp w (In.mem.1 (List.mem_of_find?_eq_some e))).1 (List.find?_some e)]
theorem row_g {x : Int} (hx : In n x) : (tab n g).getD x.toNat [] = (rgI n).map (g x) := row_tab hx
theorem col_g {y : Int} (hy : In n y) : (tab n g).map (fun r => r.getD y.toNat 0) = (rgI n).map fun x => g x y := by
  unfold tab
  rw [List.map_map]
  refine List.map_congr_left fun x hx => ?_
  exact map_at hy
theorem mapSelf {f : Int → Int} : (rgI n).map f = rgI n ↔ ∀ x, In n x → f x = x := by
  constructor
  · intro e x hx
    have := List.map_inj_left.mp (e.trans (List.map_id (rgI n)).symm) x (In.mem.2 hx)
    exact this
  · intro e
    conv => rhs; rw [← List.map_id (rgI n)]
    exact List.map_congr_left fun x hx => e x (In.mem.1 hx)
include h
theorem unit_g : unitOf (tab n g) = some u := by
  unfold unitOf
  rw [tab_len]
  refine findOne h.un fun a ha => ?_
  unfold isUnit
  rw [Bool.and_eq_true, decide_eq_true_eq, decide_eq_true_eq, row_g ha, col_g ha, tab_len, mapSelf, mapSelf]
  constructor
  · rintro ⟨e, _⟩
    rw [← h.ur a ha]
    exact e u h.un
  · rintro rfl
    exact ⟨h.ul, h.ur⟩
theorem back_g {t : Int} (ht : In n t) : ∃ b, backOf (tab n g) u t = some b ∧ In n b ∧ g t b = u ∧ g b t = u := by
  obtain ⟨b, hb, e1, e2⟩ := h.iv t ht
  refine ⟨b, ?_, hb, e1, e2⟩
  unfold backOf
  rw [tab_len]
  refine findOne hb fun a ha => ?_
  rw [Bool.and_eq_true, decide_eq_true_eq, decide_eq_true_eq, rc_tab ht ha, rc_tab ha ht]
  constructor
  · rintro ⟨e, _⟩
    exact h.lc ht ha hb (e.trans e1.symm)
  · rintro rfl
    exact ⟨e1, e2⟩
theorem three_g : threeOf (tab n g) = none := by
  unfold threeOf
  rw [tab_len]
  refine List.findSome?_eq_none_iff.mpr fun a ha => List.findSome?_eq_none_iff.mpr fun b hb => List.findSome?_eq_none_iff.mpr fun c hc => ?_
  have ha := In.mem.1 ha
  have hb := In.mem.1 hb
  have hc := In.mem.1 hc
  rw [rc_tab ha hb, rc_tab hb hc, rc_tab (h.rg a b ha hb) hc, rc_tab ha (h.rg b c hb hc), h.as a b c ha hb hc]
  exact if_neg fun w => w rfl
end
end Dn.T
set_option Elab.async false
set_option linter.all false
set_option maxRecDepth 100000
set_option autoImplicit false
set_option maxHeartbeats 400000
namespace Dn.T
open PySem L2 Evl PySem.Spec PyProof.Rows
def gOf (rs : List (List Int)) (x y : Int) : Int := (rs.getD x.toNat []).getD y.toNat 0
def inB (n : Nat) (x : Int) : Bool := decide (0 ≤ x) && decide (x < n)
theorem inB_iff {n : Nat} {x : Int} : inB n x = true ↔ In n x := by
  unfold inB In
  rw [Bool.and_eq_true, decide_eq_true_eq, decide_eq_true_eq]
def grB (n : Nat) (rs : List (List Int)) (u : Int) : Bool :=
  inB n u && ((rgI n).all fun x => decide (gOf rs u x = x) && decide (gOf rs x u = x) && ((rgI n).any fun y => decide (gOf rs x y = u) && decide (gOf rs y x = u)) &&
    (rgI n).all fun y => inB n (gOf rs x y) && (rgI n).all fun z => decide (gOf rs (gOf rs x y) z = gOf rs x (gOf rs y z)))
theorem gr_of {n : Nat} {rs : List (List Int)} {u : Int} (h : grB n rs u = true) : Gr n (gOf rs) u := by
  unfold grB at h
  rw [Bool.and_eq_true, List.all_eq_true] at h
  obtain ⟨hu, h⟩ := h
  have H := fun x (hx : In n x) => h x (In.mem.2 hx)
  simp only [Bool.and_eq_true, decide_eq_true_eq, List.all_eq_true, List.any_eq_true] at H
  refine ⟨fun x y hx hy => inB_iff.1 ((H x hx).2 y (In.mem.2 hy)).1, inB_iff.1 hu, fun x hx => (H x hx).1.1.1, fun x hx => (H x hx).1.1.2, fun x y z hx hy hz => ((H x hx).2 y (In.mem.2 hy)).2 z (In.mem.2 hz), fun x hx => ?_⟩
  obtain ⟨y, hy, e⟩ := (H x hx).1.2
  exact ⟨y, In.mem.1 hy, e⟩
theorem tab_gOf {n : Nat} {rs : List (List Int)} (hl : rs.length = n) (hr : ∀ r, r ∈ rs → r.length = n) : tab n (gOf rs) = rs := by
  unfold tab
  refine List.ext_getElem (by simp [rgI_len, hl]) fun i h1 h2 => ?_
  have hi : i < n := by omega
  have e : (rgI n)[i]'(by rw [rgI_len]; exact hi) = (i : Int) := by simp [rgI]
  rw [List.getElem_map, e]
  refine List.ext_getElem (by simp [rgI_len, hr rs[i] (List.getElem_mem h2)]) fun j h3 h4 => ?_
  have hj : j < n := by rw [hr rs[i] (List.getElem_mem h2)] at h4; exact h4
  have e2 : (rgI n)[j]'(by rw [rgI_len]; exact hj) = (j : Int) := by simp [rgI]
  rw [List.getElem_map, e2]
  unfold gOf
  simp [List.getD, List.getElem?_eq_getElem h2, List.getElem?_eq_getElem h4]
def qTimes : List (List Int) := [[0, 2, 4, 6], [2, 1, 6, 5], [4, 7, 1, 2], [6, 4, 3, 1]]
def qRows : List (List Int) := (rgI 8).map fun a => (rgI 8).map fun b => gOf qTimes (a / 2) (b / 2) / 2 * 2 + (gOf qTimes (a / 2) (b / 2) + a + b) % 2
theorem gr_q : Gr 8 (gOf qRows) 0 := gr_of (by decide +kernel)
theorem tab_q : tab 8 (gOf qRows) = qRows := tab_gOf (by decide +kernel) (by decide +kernel)
end Dn.T
set_option Elab.async false
set_option linter.all false
set_option maxRecDepth 100000
set_option autoImplicit false
set_option maxHeartbeats 4000000
namespace Dn.T
open PySem L2 Evl PySem.Spec PyProof.Rows
def Pin (n : Nat) (p : Int × Int) : Prop := In n p.1 ∧ In n p.2
structure Fr (n : Nat) (f : Int → Int → Int × Int) : Prop where
  rg : ∀ x y, In n x → In n y → Pin n (f x y)
  li : ∀ x y z, In n x → In n y → In n z → (f x y).1 = (f x z).1 → y = z
  ri : ∀ x y z, In n x → In n y → In n z → (f y x).2 = (f z x).2 → y = z
  y1 : ∀ x y z, In n x → In n y → In n z → (f (f x y).1 (f (f x y).2 z).1).1 = (f x (f y z).1).1
  y2 : ∀ x y z, In n x → In n y → In n z → (f (f x y).1 (f (f x y).2 z).1).2 = (f (f x (f y z).1).2 (f y z).2).1
  y3 : ∀ x y z, In n x → In n y → In n z → (f (f x y).2 z).2 = (f (f x (f y z).1).2 (f y z).2).2
  bi : ∀ x y u v, In n x → In n y → In n u → In n v → f x y = f u v → x = u ∧ y = v
theorem Fr.ext {n : Nat} {f g : Int → Int → Int × Int} (h : Fr n f) (e : ∀ x y, In n x → In n y → f x y = g x y) : Fr n g := by
  have r := h.rg
  refine ⟨fun x y a b => by rw [← e x y a b]; exact r x y a b, fun x y z a b c q => h.li x y z a b c (by rw [e x y a b, e x z a c]; exact q), fun x y z a b c q => h.ri x y z a b c (by rw [e y x b a, e z x c a]; exact q), fun x y z a b c => ?_, fun x y z a b c => ?_, fun x y z a b c => ?_,
    fun x y u v a b c d q => h.bi x y u v a b c d (by rw [e x y a b, e u v c d]; exact q)⟩
  · rw [← e x y a b, ← e y z b c, ← e _ z (r x y a b).2 c, ← e x _ a (r y z b c).1, ← e _ _ (r x y a b).1 (r _ z (r x y a b).2 c).1]; exact h.y1 x y z a b c
  · rw [← e x y a b, ← e y z b c, ← e _ z (r x y a b).2 c, ← e x _ a (r y z b c).1, ← e _ _ (r x y a b).1 (r _ z (r x y a b).2 c).1, ← e _ _ (r x _ a (r y z b c).1).2 (r y z b c).2]; exact h.y2 x y z a b c
  · rw [← e x y a b, ← e y z b c, ← e _ z (r x y a b).2 c, ← e x _ a (r y z b c).1, ← e _ _ (r x _ a (r y z b c).1).2 (r y z b c).2]; exact h.y3 x y z a b c
end Dn.T
set_option Elab.async false
set_option linter.all false
set_option maxRecDepth 100000
set_option autoImplicit false
set_option maxHeartbeats 4000000
namespace Dn.T
open PySem L2 Evl PySem.Spec PyProof.Rows
def ordF (n : Nat) : Nat → List (List Int)
  | 0 => [[]]
  | k + 1 => (ordF n k).flatMap fun m => ((rgI n).filter fun x => !decide (x ∈ m)).map fun x => m ++ [x]
end Dn.T
set_option Elab.async false
set_option linter.all false
set_option maxRecDepth 100000
set_option autoImplicit false
set_option maxHeartbeats 4000000
namespace Dn
open PySem L2 Evl PySem.Spec PyProof.Rows SrL
def S_joined_moves (ds : List D) (Q : D → Prop) : Prop := ∃ (n : Nat) (a b : List Int), ds = [tI a, tI b] ∧ Mv n a ∧ Mv n b ∧ n ≤ 24 ∧ Q (tI (jn a b))
def S__law_joined (ds : List D) (Q : D → Prop) : Prop := ∃ (n : Nat) (a b : List Int), ds = [tI a, tI b] ∧ Mv n a ∧ Mv n b ∧ n ≤ 24 ∧ Q (tI (jn a b))
def S__law_undone (ds : List D) (Q : D → Prop) : Prop := ∃ (n : Nat) (m : List Int), ds = [tI m] ∧ Mv n m ∧ n ≤ 24 ∧ Q (tI (inv m))
end Dn
set_option Elab.async false
set_option linter.all false
set_option maxRecDepth 100000
set_option autoImplicit false
set_option maxHeartbeats 4000000
namespace Dn.T
open PySem L2 Evl PySem.Spec PyProof.Rows
def S__law_places_of (ds : List D) (Q : D → Prop) : Prop := ∃ c s : Nat, ds = [.int c, .int s] ∧ 1 ≤ s ∧ c * s ≤ 1000 ∧ Q (.list ((rgI (c * s)).map fun k => .tuple [.int (k / s), .int (k % s)]))
def Mw (n : Nat) (m : List Int) : Prop := m.length = n ∧ ∀ x, x ∈ m → 0 ≤ x ∧ x < n
def Dw (n : Nat) (C : List (List Int)) : Prop := C.length = n ∧ ∀ r, r ∈ C → Mw n r
def tL (C : List (List Int)) : D := .list (C.map tI)
def tP (p : Int × Int) : D := .tuple [.int p.1, .int p.2]
def tPs (r : List (Int × Int)) : D := .tuple (r.map tP)
def tRP (R : List (List (Int × Int))) : D := .tuple (R.map tPs)
def Pr (n : Nat) (p : Int × Int) : Prop := (0 ≤ p.1 ∧ p.1 < n) ∧ 0 ≤ p.2 ∧ p.2 < n
def Pw (n : Nat) (R : List (List (Int × Int))) : Prop := R.length = n ∧ ∀ r, r ∈ R → r.length = n ∧ ∀ p, p ∈ r → Pr n p
def isStr (s : Str) : D → Bool
  | .str t => t == s
  | _ => false
def isTup1 (s : Str) : D → Bool
  | .tuple [x] => isStr s x
  | _ => false
def isTold (s : Str) (m n : Int) : D → Bool
  | .tuple (x :: r) => decide ((r.length : Int) = m) && (isStr s x && isRow m n (.tuple r))
  | _ => false
def okS (d : D) : Prop := ∀ t, d = .str t → SeqAt.shaped (.str t) = true
def okV (d : D) : Prop := ∀ xs, d = .tuple xs → xs.length ≤ 100000 ∧ SeqAt.shaped (.tuple xs) = true ∧ ∀ x, x ∈ xs → SeqAt.shaped x = true
def pa (R : List (List (Int × Int))) (x y : Int) : Int × Int := (R.getD x.toNat []).getD y.toNat (0, 0)
def dt (C : List (List Int)) (x y : Int) : Int := (C.getD x.toNat []).getD y.toNat 0
def noBrk (b : Str → Int → Int → Int → Bool) (ws : List Str) (n : Nat) : Prop := ∀ s, s ∈ ws → ∀ t, t ∈ t3 n → b s t.1 t.2.1 t.2.2 = false
instance (b : Str → Int → Int → Int → Bool) (ws : List Str) (n : Nat) : Decidable (noBrk b ws n) := by unfold noBrk; infer_instance
abbrev W2 : List Str := ["row", "three"]
def pp (w : Str) (t : Int × Int × Int) : D := .tuple [.str w, .int t.1, .int t.2.1, .int t.2.2]
def S_is_same0 (ds : List D) (Q : D → Prop) : Prop := ∃ d s, ds = [d, .str s] ∧ okS d ∧ SeqAt.shaped (.str s) = true ∧ Q (.bool (isStr s d))
def S_is_same (ds : List D) (Q : D → Prop) : Prop := (∃ d s, ds = [d, .str s] ∧ okS d ∧ SeqAt.shaped (.str s) = true ∧ Q (.bool (isStr s d))) ∨ ∃ d s, ds = [d, .tuple [.str s]] ∧ okV d ∧ SeqAt.shaped (.str s) = true ∧ Q (.bool (isTup1 s d))
def S_is_told (ds : List D) (Q : D → Prop) : Prop := ∃ d s m n, ds = [d, .str s, .int m, .int n] ∧ (0 ≤ m ∧ n ≤ 100000) ∧ okV d ∧ SeqAt.shaped (.str s) = true ∧ Q (.bool (isTold s m n d))
def S__is_table_rows (ds : List D) (Q : D → Prop) : Prop := ∃ R n, ds = [tRP R] ∧ Pw n R ∧ n ≤ 8 ∧ Q (.bool true)
def S__check_rows (ds : List D) (Q : D → Prop) : Prop := ∃ R n, ds = [tRP R] ∧ Pw n R ∧ n ≤ 8 ∧ Q .none
def Rg (n : Nat) (d : Int → Int → Int) : Prop := ∀ x y, In n x → In n y → In n (d x y)
def sgm (n : Nat) (d : Int → Int → Int) (x y : Int) : Int := iv ((rgI n).map (d x)) y
def prd (b : Nat) (d e : Int → Int → Int) (k j : Int) : Int := d (k / b) (j / b) * b + e (k % b) (j % b)
def S__law_undone (ds : List D) (Q : D → Prop) : Prop := ∃ n m, (∃ A, ds = [A] ∧ seqD A = some (m.map PyData.int)) ∧ Mv n m ∧ n ≤ 24 ∧ Q (tI (inv m))
def S__law_product_dots (ds : List D) (Q : D → Prop) : Prop := ∃ A B a b d e, ds = [A, B] ∧ seqD A = some ((tab a d).map tI) ∧ seqD B = some ((tab b e).map tI) ∧ Rg a d ∧ Rg b e ∧ 1 ≤ b ∧ a * b ≤ 24 ∧ Q (tL (tab (a * b) (prd b d e)))
end Dn.T
set_option Elab.async false
set_option linter.all false
set_option maxRecDepth 100000
set_option autoImplicit false
set_option maxHeartbeats 4000000
namespace Dn.T
open PySem L2 Evl PySem.Spec PyProof.Rows
abbrev F2 := Int → Int → Int × Int
def pass (f : F2) (w : List Int) (i : Nat) : List Int := (w.set i (f (w.getD i 0) (w.getD (i + 1) 0)).1).set (i + 1) (f (w.getD i 0) (w.getD (i + 1) 0)).2
def walk (f : F2) (w : List Int) (is : List Nat) : List Int := is.foldl (pass f) w
def swF : F2 := fun x y => (y, x)
abbrev swp (m : List Int) (i : Nat) : List Int := pass swF m i
theorem pass_len (f : F2) (w : List Int) (i : Nat) : (pass f w i).length = w.length := by unfold pass; simp
def Ds (m : List Int) (i : Nat) : Prop := i + 1 < m.length ∧ m.getD (i + 1) 0 < m.getD i 0
instance (m : List Int) (i : Nat) : Decidable (Ds m i) := by unfold Ds; infer_instance
inductive Pth : List Int → List Nat → List Int → Prop where
  | nil (m : List Int) : Pth m [] m
  | cons {m e : List Int} {i : Nat} {is : List Nat} (h : Ds m i) (r : Pth (swp m i) is e) : Pth m (i :: is) e
theorem Pth.end {m e : List Int} {is : List Nat} (h : Pth m is e) : e = is.foldl swp m := by
  induction h with
  | nil => rfl
  | cons d _ ih => rw [List.foldl_cons]; exact ih
theorem Pth.lt {m e : List Int} {is : List Nat} (h : Pth m is e) : ∀ i, i ∈ is → i + 1 < m.length := by
  induction h with
  | nil => simp
  | cons d _ ih =>
    intro j hj
    rcases List.mem_cons.mp hj with rfl | hj
    · exact d.1
    · have := ih j hj; rw [pass_len] at this; exact this
theorem Pth.len {m e : List Int} {is : List Nat} (h : Pth m is e) : e.length = m.length := by
  induction h with
  | nil => rfl
  | cons d _ ih => rw [ih, pass_len]
end Dn.T
set_option Elab.async false
set_option linter.all false
set_option maxRecDepth 100000
set_option autoImplicit false
set_option maxHeartbeats 4000000
namespace Dn.T
open PySem L2 Evl PySem.Spec PyProof.Rows
def od (k : Nat) (js : List Nat) : List Int := js.foldl swp (rgI k)
end Dn.T
set_option Elab.async false
set_option linter.all false
set_option maxRecDepth 100000
set_option autoImplicit false
set_option maxHeartbeats 4000000
namespace Dn.T
open PySem L2 Evl PySem.Spec PyProof.Rows
def nI (is : List Nat) : List D := is.map fun i => .int (i : Nat)
end Dn.T
set_option Elab.async false
set_option linter.all false
set_option maxRecDepth 100000
set_option autoImplicit false
set_option maxHeartbeats 4000000
namespace Dn
open PySem L2 Evl PySem.Spec PyProof.Rows
abbrev N_is_integer : List Str := ["value"]
abbrev P_is_integer : List Str := ["value"]
def g_is_integer : DS := sSeq (sIf (dTOr (dTNot (dTst (dIsi "int" (dVar 0)))) (dTst (dIsi "bool" (dVar 0)))) (sRet (dC (.bool false))) (sNx)) (sRet (dChain dLt dLt (dNeg (dC (.int 1000000000000000000000000000000000000000000000000000000000000))) (dVar 0) (dC (.int 1000000000000000000000000000000000000000000000000000000000000))))
abbrev N_is_within : List Str := ["value", "least", "most"]
abbrev P_is_within : List Str := ["value", "least", "most"]
def g_is_within : DS := sRet (dAnd (dCallF 1 S_is_integer (aCons (dVar 0) (aNil))) (dChain dLe dLe (dVar 1) (dVar 0) (dVar 2)))
abbrev N_is_thing : List Str := ["value", "size"]
abbrev P_is_thing : List Str := ["value", "size"]
def g_is_thing : DS := sRet (dAnd (dCallF 1 S_is_integer (aCons (dVar 0) (aNil))) (dChain dLe dLt (dC (.int 0)) (dVar 0) (dVar 1)))
abbrev N_is_row : List Str := ["value", "many", "size", "thing"]
abbrev P_is_row : List Str := ["value", "many", "size"]
def g_is_row : DS := sSeq (sIf (dTOr (dTNot (dTst (dIsi "tuple" (dVar 0)))) (dTst (dBin dNe (dCall dLen (aCons (dVar 0) (aNil))) (dVar 1)))) (sRet (dC (.bool false))) (sNx)) (sSeq (sFor (iSq (dVar 0)) (gNm 3) (sIf (dTOr (dTNot (dTst (dIsi "int" (dVar 3)))) (dTOr (dTst (dIsi "bool" (dVar 3))) (dTNot (dTst (dChain dLe dLt (dC (.int 0)) (dVar 3) (dVar 2)))))) (sRet (dC (.bool false))) (sNx))) (sRet (dC (.bool true))))
abbrev N_check_within : List Str := ["value", "least", "most"]
abbrev P_check_within : List Str := ["value", "least", "most"]
def g_check_within : DS := sIf (dTNot (dTst (dCallF 3 S_is_within (aCons (dVar 0) (aCons (dVar 1) (aCons (dVar 2) (aNil))))))) (sNever) (sNx)
abbrev N_is_move : List Str := ["value"]
abbrev P_is_move : List Str := ["value"]
def g_is_move : DS := sSeq (sIf (dTOr (dTNot (dTst (dIsi "tuple" (dVar 0)))) (dTst (dBin dGt (dCall dLen (aCons (dVar 0) (aNil))) (dC (.int 24))))) (sRet (dC (.bool false))) (sNx)) (sRet (dAnd (dCallF 3 S_is_row (aCons (dVar 0) (aCons (dCall dLen (aCons (dVar 0) (aNil))) (aCons (dCall dLen (aCons (dVar 0) (aNil))) (aNil))))) (dBin dEq (dLenSet (dVar 0)) (dCall dLen (aCons (dVar 0) (aNil))))))
abbrev N_is_move_of : List Str := ["value", "size"]
abbrev P_is_move_of : List Str := ["value", "size"]
def g_is_move_of : DS := sRet (dAnd (dCallF 1 S_is_move (aCons (dVar 0) (aNil))) (dBin dEq (dCall dLen (aCons (dVar 0) (aNil))) (dVar 1)))
abbrev N__law_dice : List Str := ["_law_script", "_law_spot", "_law_cell", "_law_left"]
abbrev P__law_dice : List Str := ["_law_script", "_law_spot"]
def g__law_dice : (List D → Prop) → Env → Prop := (fun Q ρ => (sSet 2 (xIm (dIfE (dTst (dBin dLt (dVar 1) (dCall dLen (aCons (dVar 0) (aNil))))) (dCall dInt (aCons (dBin dIx (dVar 0) (dVar 1)) (aNil))) (dBin dAdd (dBin dMulA (dC (.int 83)) (dVar 1)) (dC (.int 29)))))) { nx := (fun Q ρ => (sSet 3 (xIm (dBin dMod (dCall dMax2 (aCons (dC (.int 0)) (aCons (dBin dSub (dCall dAbs (aCons (dVar 2) (aNil))) (dBin dPow (dC (.int 10)) (dC (.int 16)))) (aNil)))) (dBin dMulA (dBin dPow (dC (.int 10)) (dC (.int 60))) (dBin dPow (dC (.int 10)) (dC (.int 60))))))) { nx := (fun Q ρ => (lLst (aCons (dVar 3) (aCons (dBin dAdd (dBin dAdd (dBin dAdd (dBin dMulA (dBin dMod (dCall dAbs (aCons (dVar 2) (aNil))) (dC (.int 1152921504606845527))) (dC (.int 79))) (dBin dMulA (dC (.int 877)) (dVar 1))) (dBin dMulA (dC (.int 41)) (dCall dInt (aCons (dBin dLt (dVar 2) (dC (.int 0))) (aNil))))) (dC (.int 23))) (aCons (dC (.int 0)) (aNil))))) ρ fun es _ => Q es) Q, rt := fun _ _ => False } ρ) Q, rt := fun _ _ => False } ρ)
abbrev N__law_roll : List Str := ["_law_dice_here", "_law_total", "_law_found", "_law_one", "_law_two"]
abbrev P__law_roll : List Str := ["_law_dice_here", "_law_total"]
def g__law_roll : DS := sSeq (sIf (dTst (dBin dGt (dIxP 0 (dC (.int 0))) (dC (.int 0)))) (sSeq (sSet 2 (xIm (dBin dMod (dCall dInt (aCons (dIxP 0 (dC (.int 0))) (aNil))) (dVar 1)))) (sSeq (sSub 0 (dC (.int 0)) (dBin dFdiv (dIxP 0 (dC (.int 0))) (dVar 1))) (sRet (dVar 2)))) (sNx)) (sSeq (sSub 0 (dC (.int 2)) (dBin dAdd (dIxP 0 (dC (.int 2))) (dC (.int 1)))) (sSeq (sSet 3 (xIm (dBin dMod (dCall dInt (aCons (dBin dAdd (dIxP 0 (dC (.int 1))) (dBin dMulA (dC (.int 92821957)) (dIxP 0 (dC (.int 2))))) (aNil))) (dC (.int 2305843009213691579))))) (sSeq (sSet 4 (xIm (dBin dAdd (dBin dMulA (dBin dMod (dCall dInt (aCons (dBin dAdd (dBin dMulA (dVar 3) (dVar 3)) (dBin dMulA (dC (.int 97)) (dIxP 0 (dC (.int 2))))) (aNil))) (dC (.int 2305843009213692227))) (dC (.int 5915587))) (dVar 3)))) (sRet (dBin dMod (dCall dInt (aCons (dBin dFdiv (dVar 4) (dC (.int 65536))) (aNil))) (dVar 1))))))
abbrev N__law_mixed : List Str := ["_law_dice_here", "_law_items", "_law_left", "_law_found", "_law_turn"]
abbrev P__law_mixed : List Str := ["_law_dice_here", "_law_items"]
def g__law_mixed : DS := sSeq (sPar 2 3 (xOw (lOf (dVar 1))) (xOw (lLst (aNil)))) (sSeq (sFor (iR1 (dCall dLen (aCons (dVar 1) (aNil)))) (gNm 4) (sEx (dApp 3 (dPopAt 2 (dCallM 0 2 S__law_roll (aCons (dCallO 2 dLen) (aNil))))))) (sRetO 3))
abbrev N__law_drawn_move : List Str := ["_law_dice_here", "_law_size"]
abbrev P__law_drawn_move : List Str := ["_law_dice_here", "_law_size"]
def g__law_drawn_move : DS := sRet (dCall dTupOf (aCons (dCallM 0 2 S__law_mixed (aCons (dOfL (lRg (rg1 (dVar 1)))) (aNil))) (aNil)))
end Dn
set_option Elab.async false
set_option linter.all false
set_option maxRecDepth 100000
set_option autoImplicit false
set_option maxHeartbeats 4000000
namespace Dn
open PySem L2 Evl PySem.Spec PyProof.Rows
local macro_rules | `(tactic| walk_at "dd") => `(tactic| simp only [sSeq, sIf, sSet, sRet, sRetN, sNx, sEx, sAsg, sPar, dTOr, dTAnd, dTNot, dTst, dIsi, dVar, dC, dBin, dChain, dNeg, dI2, dAnd, dOr, dNot, dIfE, dCall, dCallF, aCons, aNil, dTup, lLst, dOfL, xIm, xOw, gNm, gTp, gsCons, gsNil, dYes, envD, dLen_tR, dLen_tI, dLen_tup, dLen_lst, seq_tR, seq_tI, seq_tup, seq_lst, dIs, dIsNot, dNe, dEq, dTupOf, dSl, oNone, oSome, iSq, iEn, iR1, iR2, sFor, lLc, sNever, dTRg, rg1, rg2, lRg, wipeD, isN,
  dIxP, sSub, dApp, dPopAt, dExt, dCallM, dCallO, dBinO, dTupO, lOf, lOfO, sRetO, iOw, dVarF, lCat, lCall, dAbs, dMax2, dMin2, dInt, atO, setO, MO.getL, MO.putL, Option.isSome_some,
  dInK, dGetK, dGetD, dInD, dGet1, lKeys, lSort, dLenSet, dRevT, sPutK, xDct, xDct1, sRetK, atK, keyD, sAugI,
  kit_int, kit_bool, kit_tuple, kit_str, List.map_cons, List.map_nil, List.cons_append, List.nil_append, List.replicate, List.set_cons_zero, List.set_cons_succ, List.getElem?_cons_zero, List.getElem?_cons_succ, List.length_cons, List.length_nil, List.length_map, Nat.reduceAdd, Nat.reduceSub, Bool.not_true, Bool.not_false, Bool.false_eq_true, if_true, if_false, true_and, reduceCtorEq, Bool.true_eq_false, rgD_rgI, Option.some.injEq, exists_eq_left', and_true])
theorem v_is_integer : VD g_is_integer S_is_integer 1 0 := fun ds Q _ h => by
  obtain ⟨d, rfl, h⟩ := h
  unfold g_is_integer
  walk_at "dd"
  cases d with
  | int i =>
    simp only [isI] at h
    walk_at "dd"
    refine bool_ways (fun e => ?_) (fun e => ?_)
    · rw [e] at h; exact h
    · rw [e] at h; exact h
  | _ => first | (walk_at "dd"; exact h) | exact h
theorem v_is_thing : VD g_is_thing S_is_thing 2 0 := fun ds Q _ h => by
  obtain ⟨d, n, rfl, h⟩ := h
  unfold g_is_thing
  walk_at "dd"
  refine ⟨d, rfl, ?_⟩
  cases d with
  | int i =>
    simp only [isTh] at h
    simp only [isI]
    refine bool_ways (fun e => ?_) (fun e => ?_)
    · rw [e] at h
      walk_at "dd"
      refine bool_ways (fun e2 => ?_) (fun e2 => ?_)
      · rw [e2] at h; simpa using h
      · rw [e2] at h; simpa using h
    · rw [e] at h; exact h
  | _ => exact h
theorem v_is_within : VD g_is_within S_is_within 3 0 := fun ds Q _ h => by
  obtain ⟨i, a, b, rfl, h⟩ := h
  unfold g_is_within
  walk_at "dd"
  refine ⟨_, rfl, ?_⟩
  refine bool_ways (fun e => ?_) (fun e => ?_)
  · rw [e] at h
    try walk_at "dd"
    refine bool_ways (fun e2 => ?_) (fun e2 => ?_)
    · rw [e2] at h; simpa using h
    · rw [e2] at h; simpa using h
  · rw [e] at h; exact h
theorem v_is_row : VD g_is_row S_is_row 3 1 := fun ds Q _ h => by
  obtain ⟨d, m, n, rfl, hl, hn, h⟩ := h
  unfold g_is_row
  walk_at "dd"
  cases d with
  | tuple xs =>
    simp only [isRow] at h
    walk_at "dd"
    refine ⟨rfl, rfl, ?_⟩
    simp only [PyData.eqv]
    refine ite_ways (fun e => ?_) (fun e => ?_)
    · rw [show decide ((xs.length : Int) = m) = false from by simpa using e] at h; exact h
    · rw [show decide ((xs.length : Int) = m) = true from by simpa using e] at h
      refine wpFor_find (fun d => if isTh n d = true then none else some (.bool false)) (fun ρ => ∃ x, ρ = [some (.im (.tuple xs)), some (.im (.int m)), some (.im (.int n)), x]) ⟨_, rfl⟩ (fun d _ ρ K B hI hq hk => ?_) (fun v hv => ?_) (fun hv ρ hI => ?_)
      · obtain ⟨x, rfl⟩ := hI
        walk_at "dd"
        cases d with
        | int i =>
          walk_at "dd"
          have te : isTh n (.int i) = true ↔ 0 ≤ i ∧ i < n := by
            simp only [isTh, Bool.and_eq_true, decide_eq_true_eq]
            omega
          refine bool_ways (fun e1 => ?_) (fun e1 => ?_)
          · refine ite_ways (fun e2 => ?_) (fun e2 => ?_)
            · exact hq _ (if_neg (by rw [te]; simp at e1 e2; omega))
            · exact hk (if_pos (by rw [te]; simp at e1 e2; omega)) _ ⟨_, rfl⟩
          · exact hq _ (if_neg (by rw [te]; simp at e1; omega))
        | _ => exact hq _ rfl
      · have e2 : xs.all (isTh n) = false := by
          obtain ⟨d, hd, h2⟩ := List.exists_of_findSome?_eq_some hv
          rw [Bool.eq_false_iff]
          intro z
          have := List.all_eq_true.mp z d hd
          simp [this] at h2
        have e3 : v = .bool false := by
          obtain ⟨d, hd, h2⟩ := List.exists_of_findSome?_eq_some hv
          split at h2
          · cases h2
          · cases h2; rfl
        subst e3
        simpa [e2] using h
      · have e2 : xs.all (isTh n) = true := by
          rw [List.all_eq_true]
          intro d hd
          have := List.findSome?_eq_none_iff.mp hv d hd
          simpa using this
        obtain ⟨x, rfl⟩ := hI
        walk_at "dd"
        simpa [e2] using h
  | _ => exact h
theorem v_check_within : VD g_check_within S_check_within 3 0 := fun ds Q _ h => by
  obtain ⟨i, a, b, rfl, h1, h2, h3, h⟩ := h
  unfold g_check_within
  walk_at "dd"
  refine ⟨_, _, _, rfl, ?_⟩
  rw [h1, decide_eq_true h2, decide_eq_true h3]
  exact h
theorem v_is_move : VD g_is_move S_is_move 1 0 := fun ds Q _ h => by
  obtain ⟨d, rfl, h⟩ := h
  unfold g_is_move
  walk_at "dd"
  cases d with
  | tuple xs =>
    simp only [isMove] at h
    walk_at "dd"
    refine ite_ways (fun e => ?_) (fun e => ?_)
    · have : ¬ xs.length ≤ 24 := by simp at e; omega
      rw [decide_eq_false this] at h
      exact h
    · have hl : xs.length ≤ 24 := by simp at e; omega
      rw [decide_eq_true hl] at h
      refine ⟨_, _, _, rfl, fun ys hy => by cases hy; omega, by omega, ?_⟩
      simp only [isRow, decide_true, Bool.true_and] at h ⊢
      refine bool_ways (fun e2 => ?_) (fun e2 => ?_)
      · rw [e2] at h
        refine ⟨xs.map intD, by rw [← all_ints e2], by simp; omega, fun n hn => ?_⟩
        refine ⟨rfl, rfl, ?_⟩
        have : decide (xs.map intD).Nodup = PyData.eqv (.int n) (.int xs.length) := by
          simp only [PyData.eqv]
          by_cases z : (xs.map intD).Nodup
          · have := hn.2 z
            simp at this
            simp [z, this]
          · have : ¬ n = (xs.map intD).length := fun w => z (hn.1 w)
            simp at this
            simp [z]
            omega
        rw [← this]
        simpa using h
      · rw [e2] at h; exact h
  | _ => exact h
theorem v_is_move_of : VD g_is_move_of S_is_move_of 2 0 := fun ds Q _ h => by
  obtain ⟨d, n, rfl, h⟩ := h
  unfold g_is_move_of
  walk_at "dd"
  refine ⟨_, rfl, ?_⟩
  unfold isMoveOf at h
  refine bool_ways (fun e => ?_) (fun e => ?_)
  · rw [e] at h
    cases d with
    | tuple xs =>
      walk_at "dd"
      refine ⟨rfl, rfl, ?_⟩
      simp only [PyData.eqv]
      rw [show ((xs.length : Int) == n) = decide ((xs.length : Int) = n) from by rw [Bool.eq_iff_iff]; simp]
      simpa using h
    | _ => simp [isMove] at e
  · rw [e] at h; exact h
end Dn
set_option Elab.async false
set_option linter.all false
set_option maxRecDepth 100000
set_option autoImplicit false
set_option maxHeartbeats 4000000
namespace Dn
open PySem L2 Evl PySem.Spec PyProof.Rows
local macro_rules | `(tactic| walk_at "dd") => `(tactic| simp only [sSeq, sIf, sSet, sRet, sRetN, sNx, sEx, sAsg, sPar, dTOr, dTAnd, dTNot, dTst, dIsi, dVar, dC, dBin, dChain, dNeg, dI2, dAnd, dOr, dNot, dIfE, dCall, dCallF, aCons, aNil, dTup, lLst, dOfL, xIm, xOw, gNm, gTp, gsCons, gsNil, dYes, envD, dLen_tR, dLen_tI, dLen_tup, dLen_lst, seq_tR, seq_tI, seq_tup, seq_lst, dIs, dIsNot, dNe, dEq, dTupOf, dSl, oNone, oSome, iSq, iEn, iR1, iR2, sFor, lLc, sNever, dTRg, rg1, rg2, lRg, wipeD, isN,
  dIxP, sSub, dApp, dPopAt, dExt, dCallM, dCallO, dBinO, dTupO, lOf, lOfO, sRetO, iOw, dVarF, lCat, lCall, dAbs, dMax2, dMin2, dInt, atO, setO, MO.getL, MO.putL, Option.isSome_some,
  dInK, dGetK, dGetD, dInD, dGet1, lKeys, lSort, dLenSet, dRevT, sPutK, xDct, xDct1, sRetK, atK, keyD, sAugI,
  kit_int, kit_bool, kit_tuple, kit_str, List.map_cons, List.map_nil, List.cons_append, List.nil_append, List.replicate, List.set_cons_zero, List.set_cons_succ, List.getElem?_cons_zero, List.getElem?_cons_succ, List.length_cons, List.length_nil, List.length_map, Nat.reduceAdd, Nat.reduceSub, Bool.not_true, Bool.not_false, Bool.false_eq_true, if_true, if_false, true_and, reduceCtorEq, Bool.true_eq_false, rgD_rgI, Option.some.injEq, exists_eq_left', and_true])
theorem dc_ok (a b c : Int) : Dc [.int a, .int b, .int c] := ⟨a, b, c, rfl⟩
theorem v__law_dice : VL g__law_dice S__law_dice 2 2 := fun ds Q _ h => by
  obtain ⟨s, i, rfl, i0, h⟩ := h
  unfold g__law_dice
  have e16 : CPow 10 16 := by unfold CPow; decide +kernel
  have e60 : CPow 10 60 := by unfold CPow; decide +kernel
  have m60 : CMul (10 ^ Int.toNat 60) (10 ^ Int.toNat 60) ∨ CMulW (10 ^ Int.toNat 60) (10 ^ Int.toNat 60) := .inr (by unfold CMulW; decide +kernel)
  have p60 : (0 : Int) < 10 ^ Int.toNat 60 * 10 ^ Int.toNat 60 := by decide +kernel
  have s877 : CMul 877 i ∨ CMulW 877 i := cm_l ⟨by decide, by decide⟩
  have fin : ∀ z : Int, dAbs [.int z] fun z_1 => CPow 10 16 ∧ dSub z_1 (PyData.int (10 ^ Int.toNat 16)) fun z_2 => dMax2 [.int 0, z_2] fun z_3 => CPow 10 60 ∧ CPow 10 60 ∧ (CMul (10 ^ Int.toNat 60) (10 ^ Int.toNat 60) ∨ CMulW (10 ^ Int.toNat 60) (10 ^ Int.toNat 60)) ∧
      dMod z_3 (PyData.int (10 ^ Int.toNat 60 * 10 ^ Int.toNat 60)) fun z_4 => dAbs [.int z] fun z_5 => dMod z_5 (PyData.int 1152921504606845527) fun z_6 => dMulA z_6 (PyData.int 79) fun z_7 => (CMul 877 i ∨ CMulW 877 i) ∧ dAdd z_7 (PyData.int (877 * i)) fun z_8 =>
        dLt (.int z) (PyData.int 0) fun z => dInt [z] fun z => dMulA (PyData.int 41) z fun z => dAdd z_8 z fun z => dAdd z (PyData.int 23) fun z => 3 ≤ 16777216 ∧ Q [z_4, z, PyData.int 0] := fun z =>
    ⟨e16, trivial, e60, e60, m60, p60, (by show (0 : Int) < 1152921504606845527; decide), cm_r ⟨by decide, by decide⟩, s877, trivial, cm_l ⟨by decide, by decide⟩, by decide, h _ (dc_ok _ _ _)⟩
  walk_at "dd"
  refine ⟨trivial, ?_⟩
  refine ite_ways (b := decide (i < ((s.map PyData.int).length : Int))) (fun z => ?_) (fun z => ?_)
  · have z' : i < s.length := by simpa using z
    refine ⟨.int (s.getD i.toNat 0), ?_, fin _⟩
    have := atI_in (d := PyData.int 0) i0 (show i < ((s.map PyData.int).length : Int) by simpa using z')
    rw [show (s.map PyData.int).getD i.toNat (PyData.int 0) = .int (s.getD i.toNat 0) from by simp [List.getD]] at this
    exact this
  · exact ⟨cm_l ⟨by decide, by decide⟩, fin _⟩
theorem v__law_roll : VM g__law_roll S__law_roll 2 3 := fun l ms ds Q _ h => by
  obtain ⟨t, rfl, t0, t1, ⟨a, b, c, rfl⟩, h⟩ := h
  unfold g__law_roll
  walk_at "dd"
  refine ⟨_, _, _, rfl, rfl, rfl, trivial, ?_⟩
  refine ite_ways (b := decide ((0 : Int) < a)) (fun z => ?_) (fun z => ?_)
  · refine ⟨_, _, _, rfl, rfl, rfl, t0, ?_⟩
    refine ⟨_, _, _, rfl, rfl, rfl, cd_t t0 t1, ?_⟩
    exact ⟨_, _, _, rfl, rfl, rfl, _, rfl, h _ _ (Int.emod_nonneg _ (by omega)) (Int.emod_lt_of_pos _ t0) (dc_ok _ _ _)⟩
  · refine ⟨_, _, _, rfl, rfl, rfl, ?_⟩
    refine ⟨_, _, _, rfl, rfl, rfl, ?_⟩
    refine ⟨_, _, _, rfl, rfl, rfl, ?_⟩
    refine ⟨_, _, _, rfl, rfl, rfl, cm_l ⟨by decide, by decide⟩, (by show (0 : Int) < 2305843009213691579; decide), ?_⟩
    have hb : ∀ x : Int, -(2 ^ 64) < x % 2305843009213691579 ∧ x % 2305843009213691579 < 2 ^ 64 := fun x => by
      have h1 := Int.emod_nonneg x (show (2305843009213691579 : Int) ≠ 0 by decide)
      have h2 := Int.emod_lt_of_pos x (show (0 : Int) < 2305843009213691579 by decide)
      omega
    refine ⟨cm_l (hb _), ?_⟩
    refine ⟨_, _, _, rfl, rfl, rfl, cm_l ⟨by decide, by decide⟩, (by show (0 : Int) < 2305843009213692227; decide), cm_r ⟨by decide, by decide⟩, ?_⟩
    refine ⟨⟨by decide, by decide +kernel⟩, t0, _, rfl, h _ _ (Int.emod_nonneg _ (by omega)) (Int.emod_lt_of_pos _ t0) (dc_ok _ _ _)⟩
theorem v__law_mixed : VM g__law_mixed S__law_mixed 2 3 := fun l ms ds Q _ h => by
  obtain ⟨d, xs, rfl, hd, hl, hm, h⟩ := h
  unfold g__law_mixed
  walk_at "dd"
  rw [hd]
  dsimp only
  rw [dLen_seq hd]
  refine ⟨by omega, ⟨by omega, by omega, by omega, by omega⟩, ?_⟩
  rw [rgD_rgI]
  refine wpFor_cps (fun done ρ => ∃ ms L Fd x, ρ = [some (SV.ow (MO.par l (MO.lst ms))), some (SV.im d), some (SV.ow (MO.lst L)), some (SV.ow (MO.lst Fd)), x] ∧ Dc ms ∧ (Fd ++ L).Perm xs ∧ Fd.length = done.length) ⟨ms, xs, [], _, rfl, hm, by simp, rfl⟩ (fun done d' rest ρ K e p k => ?_) (fun ρ p => ?_)
  · obtain ⟨ms, L, Fd, x, rfl, hm, hp, hf⟩ := p
    have hlen := hp.length_eq
    have he := congrArg List.length e
    simp [rgI_len] at he hlen
    walk_at "dd"
    refine ⟨rfl, _, rfl, by omega, by simp only [T60]; omega, hm, fun r ms' r0 r1 hm' => ?_⟩
    have hr : r.toNat < L.length := by omega
    refine ⟨L, r, r.toNat, L[r.toNat], rfl, rfl, r0, r1, rfl, List.getElem?_eq_getElem hr, by omega, by omega, ?_⟩
    refine k _ ⟨ms', L.eraseIdx r.toNat, Fd ++ [L[r.toNat]], _, rfl, hm', ?_, by simp [hf]⟩
    refine List.Perm.trans ?_ hp
    rw [List.append_assoc]
    refine List.Perm.append_left _ ?_
    exact erase_permD hr
  · obtain ⟨ms, L, Fd, x, rfl, hm, hp, hf⟩ := p
    have hlen := hp.length_eq
    simp [rgI_len] at hf hlen
    have : L = [] := List.length_eq_zero_iff.mp (by omega)
    subst this
    exact ⟨ms, rfl, h Fd ms (by simpa using hp) hm⟩
theorem perm_ints {ys : List D} {ns : List Int} (h : ys.Perm (ns.map PyData.int)) : ∃ ms : List Int, ys = ms.map PyData.int ∧ ms.Perm ns := by
  have : ∀ (xs ys : List D), xs.Perm ys → ∀ ns : List Int, ys = ns.map PyData.int → ∃ ms : List Int, xs = ms.map PyData.int ∧ ms.Perm ns := by
    intro xs ys h
    induction h with
    | nil => intro ns e; cases ns with | nil => exact ⟨[], rfl, .nil⟩ | cons _ _ => cases e
    | cons x h ih =>
      intro ns e
      cases ns with
      | nil => cases e
      | cons n ns =>
        simp at e
        obtain ⟨ms, e1, e2⟩ := ih ns e.2
        exact ⟨n :: ms, by simp [e1, e.1], e2.cons n⟩
    | swap x y l =>
      intro ns e
      match ns, e with
      | a :: b :: ns, e =>
        simp at e
        exact ⟨b :: a :: ns, by simp [e.1, e.2.1, e.2.2], .swap a b ns⟩
    | trans h1 h2 ih1 ih2 =>
      intro ns e
      obtain ⟨ms, e1, e2⟩ := ih2 ns e
      obtain ⟨ms2, e3, e4⟩ := ih1 ms e1
      exact ⟨ms2, e3, e4.trans e2⟩
  exact this _ _ h _ rfl
theorem v__law_drawn_move : VM g__law_drawn_move S__law_drawn_move 2 0 := fun l ms ds Q _ h => by
  obtain ⟨n, rfl, hn, hm, h⟩ := h
  unfold g__law_drawn_move
  walk_at "dd"
  refine ⟨⟨by omega, by omega, by omega, by omega⟩, _, _, rfl, rfl, by simp [rgI_len]; omega, hm, fun ys ms' hp hm' => ?_⟩
  obtain ⟨m, rfl, hp2⟩ := perm_ints hp
  exact ⟨ms', rfl, h m ms' hp2 hm'⟩
end Dn
set_option Elab.async false
set_option linter.all false
set_option maxRecDepth 100000
set_option autoImplicit false
set_option maxHeartbeats 4000000
namespace Dn
open PySem L2 Evl PySem.Spec PyProof.Rows
theorem mem_rg {l : List Int} {n : Nat} (h : l.Perm (rgI n)) {x : Int} (hx : x ∈ l) : 0 ≤ x ∧ x < n := mem_rgI.mp (h.mem_iff.1 hx)
theorem ix_im {n : Nat} {m : List Int} {x : Int} {Q : D → Prop} (h : List.Perm m (rgI n)) (x0 : 0 ≤ x) (x1 : x < n) (q : Q (.int (im m x))) : dIx (tI m) (.int x) Q :=
  ixI x0 (by rw [h.length_eq, rgI_len]; exact x1) q
end Dn
set_option Elab.async false
set_option linter.all false
set_option maxRecDepth 100000
set_option autoImplicit false
set_option maxHeartbeats 4000000
namespace Dn
open PySem L2 Evl PySem.Spec PyProof.Rows
abbrev N_joined_moves : List Str := ["one", "other", "thing"]
abbrev P_joined_moves : List Str := ["one", "other"]
def g_joined_moves : DS := sRet (dCall dTupOf (aCons (dOfL (lLc (iSq (dVar 1)) (gNm 2) (dYes) (dBin dIx (dVar 0) (dVar 2)) [2])) (aNil)))
abbrev N__law_pick : List Str := ["_law_dice_here", "_law_items"]
abbrev P__law_pick : List Str := ["_law_dice_here", "_law_items"]
def g__law_pick : DS := sRet (dBin dIx (dVar 1) (dCallM 0 2 S__law_roll (aCons (dCall dLen (aCons (dVar 1) (aNil))) (aNil))))
abbrev N__law_joined : List Str := ["_law_one", "_law_other", "_law_thing"]
abbrev P__law_joined : List Str := ["_law_one", "_law_other"]
def g__law_joined : DS := sRet (dCall dTupOf (aCons (dOfL (lLc (iSq (dVar 1)) (gNm 2) (dYes) (dBin dIx (dVar 0) (dVar 2)) [2])) (aNil)))
abbrev N__law_undone : List Str := ["_law_move", "_law_found", "_law_thing", "_law_goal"]
abbrev P__law_undone : List Str := ["_law_move"]
def g__law_undone : DS := sSeq (sSet 1 (xOw (lLc (iSq (dVar 0)) (gNm 2) (dYes) (dC (.int 0)) [2]))) (sSeq (sFor (iEn (dVar 0)) (gTp 2 (gsCons (gNm 2) (gsCons (gNm 3) (gsNil)))) (sSub 1 (dVar 3) (dVar 2))) (sRet (dTupO 1)))
end Dn
set_option Elab.async false
set_option linter.all false
set_option maxRecDepth 100000
set_option autoImplicit false
set_option maxHeartbeats 4000000
namespace Dn
open PySem L2 Evl PySem.Spec PyProof.Rows
local macro_rules | `(tactic| walk_at "dd") => `(tactic| simp only [sSeq, sIf, sSet, sRet, sRetN, sNx, sEx, sAsg, sPar, dTOr, dTAnd, dTNot, dTst, dIsi, dVar, dC, dBin, dChain, dNeg, dI2, dAnd, dOr, dNot, dIfE, dCall, dCallF, aCons, aNil, dTup, lLst, dOfL, xIm, xOw, gNm, gTp, gsCons, gsNil, dYes, envD, dLen_tR, dLen_tI, dLen_tup, dLen_lst, seq_tR, seq_tI, seq_tup, seq_lst, dIs, dIsNot, dNe, dEq, dTupOf, dSl, oNone, oSome, iSq, iEn, iR1, iR2, sFor, lLc, sNever, dTRg, rg1, rg2, lRg, wipeD, isN,
  dIxP, sSub, dApp, dPopAt, dExt, dCallM, dCallO, dBinO, dTupO, lOf, lOfO, sRetO, iOw, dVarF, lCat, lCall, dAbs, dMax2, dMin2, dInt, atO, setO, MO.getL, MO.putL, Option.isSome_some,
  lSortT, dOfK, xOwK, lDc, dMinL, dIndex, lRep, dInK, dGetK, dGetD, dInD, dGet1, lKeys, lSort, dLenSet, dRevT, sPutK, xDct, xDct1, sRetK, atK, keyD, sAugI,
  kit_int, kit_bool, kit_tuple, kit_str, List.map_cons, List.map_nil, List.cons_append, List.nil_append, List.replicate, List.set_cons_zero, List.set_cons_succ, List.getElem?_cons_zero, List.getElem?_cons_succ, List.length_cons, List.length_nil, List.length_map, Nat.reduceAdd, Nat.reduceSub, Bool.not_true, Bool.not_false, Bool.false_eq_true, if_true, if_false, true_and, reduceCtorEq, Bool.true_eq_false, rgD_rgI, Option.some.injEq, exists_eq_left', and_true])
theorem jn_read {n : Nat} {a b : List Int} (ha : Mv n a) (hb : Mv n b) (f : Int → D) (hf : ∀ x, f x = .int (im a x)) : PyData.tuple (b.map f) = tI (jn a b) := by
  unfold tI jn
  rw [List.map_map]
  congr 1
  exact List.map_congr_left fun x _ => hf x
theorem v_joined_moves : VD g_joined_moves S_joined_moves 2 1 := fun ds Q _ h => by
  obtain ⟨n, a, b, rfl, ha, hb, hn, h⟩ := h
  unfold g_joined_moves
  try walk_at "dd"
  refine wpLc_mapL b PyData.int (fun x => .int (im a x)) (by rw [hb.len]; omega) rfl (fun x hx K hK => ?_) (fun _ => rfl) ?_
  · have rx := mem_rg hb hx
    try walk_at "dd"
    exact ix_im ha rx.1 rx.2 (hK _ rfl)
  · try walk_at "dd"
    rw [jn_read ha hb (fun x => .int (im a x)) fun _ => rfl]
    exact h
theorem v__law_joined : VD g__law_joined S__law_joined 2 1 := fun ds Q _ h => by
  obtain ⟨n, a, b, rfl, ha, hb, hn, h⟩ := h
  unfold g__law_joined
  try walk_at "dd"
  refine wpLc_mapL b PyData.int (fun x => .int (im a x)) (by rw [hb.len]; omega) rfl (fun x hx K hK => ?_) (fun _ => rfl) ?_
  · have rx := mem_rg hb hx
    try walk_at "dd"
    exact ix_im ha rx.1 rx.2 (hK _ rfl)
  · try walk_at "dd"
    rw [jn_read ha hb (fun x => .int (im a x)) fun _ => rfl]
    exact h
end Dn
set_option Elab.async false
set_option linter.all false
set_option maxRecDepth 100000
set_option autoImplicit false
set_option maxHeartbeats 4000000
namespace Dn.T
open PySem L2 Evl PySem.Spec PyProof.Rows
abbrev N__law_undone : List Str := ["_law_move", "_law_found", "_law_thing", "_law_goal"]
abbrev P__law_undone : List Str := ["_law_move"]
def g__law_undone : DS := sSeq (sSet 1 (xOw (lLc (iSq (dVar 0)) (gNm 2) (dYes) (dC (.int 0)) [2]))) (sSeq (sFor (iEn (dVar 0)) (gTp 2 (gsCons (gNm 2) (gsCons (gNm 3) (gsNil)))) (sSub 1 (dVar 3) (dVar 2))) (sRet (dTupO 1)))
abbrev N__law_places_of : List Str := ["_law_count", "_law_size", "_law_at"]
abbrev P__law_places_of : List Str := ["_law_count", "_law_size"]
def g__law_places_of : DS := sRet (dOfL (lLc (iR1 (dBin dMulA (dVar 0) (dVar 1))) (gNm 2) (dYes) (dTup (aCons (dBin dFdiv (dVar 2) (dVar 1)) (aCons (dBin dMod (dVar 2) (dVar 1)) (aNil)))) [2]))
abbrev N__law_product_dots : List Str := ["_law_one", "_law_other", "_law_size", "_law_found", "_law_places", "_law_first", "_law_second", "_law_row", "_law_line", "_law_a", "_law_b"]
abbrev P__law_product_dots : List Str := ["_law_one", "_law_other"]
def g__law_product_dots : DS := sSeq (sPar 2 3 (xIm (dCall dLen (aCons (dVar 1) (aNil)))) (xOw (lLst (aNil)))) (sSeq (sSet 4 (xIm (dCallF 2 S__law_places_of (aCons (dCall dLen (aCons (dVar 0) (aNil))) (aCons (dVar 2) (aNil)))))) (sSeq (sFor (iSq (dVar 4)) (gTp 2 (gsCons (gNm 5) (gsCons (gNm 6) (gsNil)))) (sSeq (sPar 7 8 (xIm (dBin dIx (dVar 0) (dVar 5))) (xIm (dBin dIx (dVar 1) (dVar 6)))) (sEx (dApp 3 (dCall dTupOf (aCons (dOfL (lLc (iSq (dVar 4)) (gTp 2 (gsCons (gNm 9) (gsCons (gNm 10) (gsNil)))) (dYes) (dBin dAdd (dBin dMulA (dBin dIx (dVar 7) (dVar 9)) (dVar 2)) (dBin dIx (dVar 8) (dVar 10))) [9, 10])) (aNil))))))) (sRetO 3)))
abbrev N__check_rows : List Str := ["rows"]
abbrev P__check_rows : List Str := ["rows"]
def g__check_rows : DS := sIf (dTNot (dTst (dCallF 1 S__is_table_rows (aCons (dVar 0) (aNil))))) (sNever) (sNx)
end Dn.T
set_option Elab.async false
set_option linter.all false
set_option maxRecDepth 100000
set_option autoImplicit false
set_option maxHeartbeats 4000000
namespace Dn
open PySem L2 Evl PySem.Spec PyProof.Rows
def part (m : List Int) (n : Nat) (l : List Int) : List (List Int) := (l.filter (lead m n)).map (cyc m n)
end Dn
set_option Elab.async false
set_option linter.all false
set_option maxRecDepth 100000
set_option autoImplicit false
set_option maxHeartbeats 4000000
namespace Dn.T
open PySem L2 Evl PySem.Spec PyProof.Rows
local macro_rules | `(tactic| walk_at "dd") => `(tactic| simp only [sSeq, sIf, sSet, sRet, sRetN, sNx, sEx, sAsg, sPar, dTOr, dTAnd, dTNot, dTst, dIsi, dVar, dC, dBin, dChain, dNeg, dI2, dAnd, dOr, dNot, dIfE, dCall, dCallF, aCons, aNil, dTup, lLst, dOfL, xIm, xOw, gNm, gTp, gsCons, gsNil, dYes, envD, dLen_tR, dLen_tI, dLen_tup, dLen_lst, seq_tR, seq_tI, seq_tup, seq_lst, dIs, dIsNot, dNe, dEq, dTupOf, dSl, oNone, oSome, iSq, iEn, iR1, iR2, sFor, lLc, sNever, dTRg, rg1, rg2, lRg, wipeD, isN,
  gTpL, dIxP, sSub, dApp, dPopAt, dExt, dCallM, dCallO, dBinO, dTupO, lOf, lOfO, sRetO, iOw, dVarF, lCat, lCall, dAbs, dMax2, dMin2, dInt, atO, setO, MO.getL, MO.putL, Option.isSome_some,
  dInK, dGetK, dGetD, dInD, dGet1, lKeys, lSort, dLenSet, dLenSetL, dLenSet2, sPar3, dRevT, sPutK, xDct, xDct1, sRetK, atK, keyD, sAugI, dFld, sFldD, xRng, iRgO, dNew, dNewV, dCM, dProp, dMeth, dLenI, dStrO, dEqI, dIsC, dJoin, dJs, dFmt, dCallML, sSubI, gSubW, sWh, lDc, dRepT, lRep, dStrI, xDctT1, xDctOf, dInT, sPutT, lSortT2, lSortDT, dPop, dBinR, dKeep, dCallMO, atT, dCallO,
  kit_int, kit_bool, kit_tuple, kit_str, List.map_cons, List.map_nil, List.cons_append, List.nil_append, List.replicate, List.set_cons_zero, List.set_cons_succ, List.getElem?_cons_zero, List.getElem?_cons_succ, List.length_cons, List.length_nil, List.length_map, Nat.reduceAdd, Nat.reduceSub, Bool.not_true, Bool.not_false, Bool.false_eq_true, if_true, if_false, true_and, reduceCtorEq, Bool.true_eq_false, rgD_rgI, Option.some.injEq, exists_eq_left', and_true])
theorem Mw.dl {n : Nat} {m : List Int} (h : Mw n m) {x : Int} (x0 : 0 ≤ x) (x1 : x < n) : 0 ≤ m.getD x.toNat 0 ∧ m.getD x.toNat 0 < n := h.2 _ (getD_mem (by rw [h.1]; omega))
theorem Dw.row {n : Nat} {C : List (List Int)} (h : Dw n C) {x : Int} (x0 : 0 ≤ x) (x1 : x < n) : Mw n (C.getD x.toNat []) := h.2 _ (getD_mem (by rw [h.1]; omega))
theorem ixL {r : List (List Int)} {i : Int} {Q : D → Prop} (h0 : 0 ≤ i) (h1 : i < r.length) (h : Q (tI (r.getD i.toNat []))) : dIx (tL r) (.int i) Q := by
  refine ⟨_, atI_in (d := tI []) h0 (by simpa using h1), ?_⟩
  have h2 : i.toNat < r.length := by omega
  simp [List.getD, List.getElem?_eq_getElem h2] at h ⊢
  exact h
theorem tI_map (l : List Int) (f : Int → Int) : PyData.tuple (l.map fun b => .int (f b)) = tI (l.map f) := by unfold tI; simp only [List.map_map, Function.comp_def]
theorem tL_map {α : Type} (l : List α) (f : α → List Int) : PyData.list (l.map fun b => tI (f b)) = tL (l.map f) := by unfold tL; simp only [List.map_map, Function.comp_def]
theorem atI_zero {α : Type} {x : α} {l : List α} : atI (x :: l) 0 = some x := by
  unfold atI ixN
  simp
theorem eqv_int (i j : Int) : (PyData.int i).eqv (.int j) = decide (i = j) := by
  simp only [PyData.eqv]
  by_cases z : i = j <;> simp [z]
theorem v__law_places_of : VD g__law_places_of S__law_places_of 2 1 := fun ds Q _ h => by
  obtain ⟨c, s, rfl, hs, hc, h⟩ := h
  unfold g__law_places_of
  try walk_at "dd"
  have hc' : c ≤ 1000 := by
    rcases Nat.lt_or_ge 1000 c with z | z
    · have := Nat.mul_le_mul (Nat.succ_le_of_lt z) hs
      omega
    · exact z
  refine ⟨cm_n (by omega) (by omega), ?_⟩
  rw [show ((c : Int) * s) = ((c * s : Nat) : Int) from by simp, rgD_rgI]
  refine ⟨rgd hc, ?_⟩
  refine wpLc_mapL (rgI (c * s)) PyData.int (fun k => .tuple [.int (k / s), .int (k % s)]) (by rw [rgI_len]; omega) rfl (fun x hx K hK => ?_) (fun _ => rfl) ?_
  · try walk_at "dd"
    have s0 : (0 : Int) < s := by omega
    have s1 : (s : Int) ≤ 1000 := by
      rcases Nat.lt_or_ge 0 c with z | z
      · have := Nat.mul_le_mul z (Nat.le_refl s)
        omega
      · have : c = 0 := by omega
        subst this
        simp [rgI] at hx
    exact ⟨cd_t s0 (by omega), s0, by decide, hK _ rfl⟩
  · try walk_at "dd"
    exact h
theorem okS_of {d : D} (h : SeqAt.shaped d = true) : okS d := fun t e => by subst e; exact h
theorem isRow_ints {r : List Int} {n m : Nat} (hl : r.length = m) (h : ∀ x, x ∈ r → 0 ≤ x ∧ x < n) (hn : n ≤ 24) : isRow (m : Int) (n : Int) (tI r) = true := by
  unfold isRow tI
  simp only [List.length_map, Bool.and_eq_true, decide_eq_true_eq, List.all_map, List.all_eq_true]
  exact ⟨by omega, fun x hx => isTh_in (h x hx).1 (h x hx).2 (by omega)⟩
theorem v__check_rows : VD g__check_rows S__check_rows 1 0 := fun ds Q _ h => by
  obtain ⟨R, n, rfl, hR, hn, h⟩ := h
  unfold g__check_rows
  walk_at "dd"
  refine ⟨R, n, rfl, hR, hn, ?_⟩
  walk_at "dd"
  exact h
def lf (R : List (List (Int × Int))) (x : Int) : List Int := (R.getD x.toNat []).map (·.1)
def rt (R : List (List (Int × Int))) (x : Int) : List Int := R.map fun r => (r.getD x.toNat (0, 0)).2
end Dn.T
set_option Elab.async false
set_option linter.all false
set_option maxRecDepth 100000
set_option autoImplicit false
set_option maxHeartbeats 4000000
namespace Dn.T
open PySem L2 Evl PySem.Spec PyProof.Rows
local macro_rules | `(tactic| walk_at "dd") => `(tactic| simp only [sSeq, sIf, sSet, sRet, sRetN, sNx, sEx, sAsg, sPar, dTOr, dTAnd, dTNot, dTst, dIsi, dVar, dC, dBin, dChain, dNeg, dI2, dAnd, dOr, dNot, dIfE, dCall, dCallF, aCons, aNil, dTup, lLst, dOfL, xIm, xOw, gNm, gTp, gsCons, gsNil, dYes, envD, dLen_tR, dLen_tI, dLen_tup, dLen_lst, seq_tR, seq_tI, seq_tup, seq_lst, dIs, dIsNot, dNe, dEq, dTupOf, dSl, oNone, oSome, iSq, iEn, iR1, iR2, sFor, lLc, sNever, dTRg, rg1, rg2, lRg, wipeD, isN,
  gTpL, dIxP, sSub, dApp, dPopAt, dExt, dCallM, dCallO, dBinO, dTupO, lOf, lOfO, sRetO, iOw, dVarF, lCat, lCall, dAbs, dMax2, dMin2, dInt, atO, setO, MO.getL, MO.putL, Option.isSome_some,
  dInK, dGetK, dGetD, dInD, dGet1, lKeys, lSort, dLenSet, dLenSetL, dLenSet2, sPar3, dRevT, sPutK, xDct, xDct1, sRetK, atK, keyD, sAugI, dFld, sFldD, xRng, iRgO, dNew, dNewV, dCM, dProp, dMeth, dLenI, dStrO, dEqI, dIsC, dJoin, dJs, dFmt, dCallML, sSubI, gSubW, sWh, lDc, dRepT, lRep, dStrI, xDctT1, xDctOf, dInT, sPutT, lSortT2, lSortDT, dPop, dBinR, dKeep, dCallMO, atT, dCallO,
  kit_int, kit_bool, kit_tuple, kit_str, List.map_cons, List.map_nil, List.cons_append, List.nil_append, List.replicate, List.set_cons_zero, List.set_cons_succ, List.getElem?_cons_zero, List.getElem?_cons_succ, List.length_cons, List.length_nil, List.length_map, Nat.reduceAdd, Nat.reduceSub, Bool.not_true, Bool.not_false, Bool.false_eq_true, if_true, if_false, true_and, reduceCtorEq, Bool.true_eq_false, rgD_rgI, Option.some.injEq, exists_eq_left', and_true])
theorem wpFor_pre {α : Type} {g : DG} {body : DS} {E : DEnds} (l : List α) (it : α → D) (R : List α → Env → Prop) {ρ0 : Env} (h0 : R [] ρ0)
    (hs : ∀ (l1 : List α) (x : α) (l2 : List α), l = l1 ++ x :: l2 → ∀ (ρ : Env) (K : Env → Prop), R l1 ρ → (∀ ρ', R (l1 ++ [x]) ρ' → K ρ') → g (it x) ρ fun ρ1 => body { nx := K, ct := K, bk := E.nx, rt := E.rt, er := E.er } ρ1)
    (he : ∀ ρ, R l ρ → E.nx ρ) : wpFor g body E (l.map it) ρ0 := by
  have aux : ∀ (rest done : List α) (ρ : Env), l = done ++ rest → R done ρ → wpFor g body E (rest.map it) ρ := by
    intro rest
    induction rest with
    | nil => intro done ρ e p; rw [List.append_nil] at e; subst e; exact he ρ p
    | cons d rest ih =>
      intro done ρ e p
      exact hs done d rest e ρ _ p fun ρ' p' => ih (done ++ [d]) ρ' (by rw [e]; simp) p'
  exact aux l [] ρ0 rfl h0
theorem ixT {n : Nat} {d : Int → Int → Int} {x : Int} {Q : D → Prop} (hx : In n x) (h : Q (tI ((rgI n).map (d x)))) : dIx (tL (tab n d)) (.int x) Q := by
  refine ixL hx.1 (by rw [tab_len]; exact hx.2) ?_
  rw [show (tab n d).getD x.toNat [] = (rgI n).map (d x) from row_tab hx]
  exact h
theorem ixT' {n : Nat} {d : Int → Int → Int} {x : Int} {A : D} {Q : D → Prop} (hA : seqD A = some ((tab n d).map tI)) (hx : In n x) (h : Q (tI ((rgI n).map (d x)))) : dIx A (.int x) Q := by
  unfold dIx
  rw [hA]
  refine ⟨_, atI_in (d := tI []) hx.1 (by rw [List.length_map, tab_len]; exact hx.2), ?_⟩
  rw [getD_map (a := []) (by rw [tab_len]; have := hx.1; have := hx.2; omega), show (tab n d).getD x.toNat [] = (rgI n).map (d x) from row_tab hx]
  exact h
theorem ixY {n : Nat} {f : Int → Int} {y : Int} {Q : D → Prop} (hy : In n y) (h : Q (.int (f y))) : dIx (tI ((rgI n).map f)) (.int y) Q := by
  refine ixI hy.1 (by simp [rgI_len]; exact hy.2) ?_
  rw [map_at hy]
  exact h
theorem ixM {n : Nat} {m : List Int} (hm : Mv n m) {y : Int} {Q : D → Prop} (hy : In n y) (h : Q (.int (im m y))) : dIx (tI m) (.int y) Q := ixI hy.1 (by rw [hm.len]; exact hy.2) h
theorem v__law_undone : VD g__law_undone S__law_undone 1 3 := fun ds Q _ h => by
  obtain ⟨n, m, ⟨A, rfl, sA⟩, hm, hn, h⟩ := h
  have hl := hm.len
  unfold g__law_undone
  try walk_at "dd"
  refine ⟨_, sA, ?_⟩
  refine wpLc_mapL m PyData.int (fun _ => .int 0) (by omega) rfl (fun x hx K hK => ?_) (fun _ => rfl) ?_
  · try walk_at "dd"
    exact hK _ rfl
  · try walk_at "dd"
    refine ⟨_, sA, ?_⟩
    rw [enD_map m PyData.int 0, hl]
    refine wpFor_cps (fun done ρ => ∃ (u : List Int) (x y : Option SV), ρ = [some (SV.im A), some (SV.ow (MO.lst (u.map PyData.int))), x, y] ∧ u.length = n ∧ ∀ x : Nat, x < done.length → u[(im m x).toNat]? = some (x : Int)) ⟨m.map (fun _ => 0), _, _, (by rw [show (m.map fun _ => (0 : Int)).map PyData.int = m.map fun _ => PyData.int 0 from by rw [List.map_map]; rfl]), (by simp [hl]), fun x hx => by simp at hx⟩ (fun done d rest ρ K e p k => ?_) (fun ρ p => ?_)
    · obtain ⟨u, x, y, rfl, hu, hu2⟩ := p
      obtain ⟨l1, i, l2, e1, rfl, rfl, rfl⟩ := map_split e
      obtain ⟨ei, e2⟩ := rgI_split e1
      rw [List.length_map] at hu2
      have lt : l1.length < n := by
        have := congrArg List.length e1
        rw [rgI_len] at this
        simp at this
        omega
      have g := im_in hm (x := i) (by omega) (by omega)
      try walk_at "dd"
      refine ⟨_, _, (im m i).toNat, rfl, rfl, ?_, ?_⟩
      · unfold ixN
        show (if 0 ≤ im m i then _ else _) = _
        rw [if_pos g.1, if_pos (by simp [hu]; exact g.2)]
        rfl
      · refine k _ ⟨u.set (im m i).toNat i, _, _, (by rw [List.map_set]), (by simp [hu]), fun x hx => ?_⟩
        simp only [List.length_append, List.length_map, List.length_cons, List.length_nil] at hx
        by_cases z : x = l1.length
        · have : (x : Int) = i := by omega
          rw [this, List.getElem?_set_self (by omega)]
        · have gx := im_in hm (x := (x : Int)) (by omega) (by omega)
          rw [List.getElem?_set_ne (fun w => by
            have := im_inj hm (by omega) (by omega) (by omega) (by omega) (show im m x = im m i by omega)
            omega)]
          exact hu2 x (by omega)
    · obtain ⟨u, x, y, rfl, hu, hu2⟩ := p
      rw [List.length_map, rgI_len] at hu2
      try walk_at "dd"
      have : u = inv m := by
        rw [inv_map hm]
        apply List.ext_getElem?
        intro k
        by_cases hk : k < n
        · rw [List.getElem?_map, rgI_get hk]
          obtain ⟨q1, q2⟩ := iv_rng hm (y := (k : Int)) (by omega) (by omega)
          have := hu2 (iv m k).toNat (by omega)
          rw [show (((iv m k).toNat : Nat) : Int) = iv m k by omega, q2] at this
          simpa using this
        · rw [List.getElem?_eq_none_iff.mpr (by omega), List.getElem?_eq_none_iff.mpr (by simp [rgI_len]; omega)]
      subst this
      exact h
end Dn.T
set_option Elab.async false
set_option linter.all false
set_option maxRecDepth 100000
set_option autoImplicit false
set_option maxHeartbeats 4000000
namespace Dn.T
open PySem L2 Evl PySem.Spec PyProof.Rows
local macro_rules | `(tactic| walk_at "dd") => `(tactic| simp only [sSeq, sIf, sSet, sRet, sRetN, sNx, sEx, sAsg, sPar, dTOr, dTAnd, dTNot, dTst, dIsi, dVar, dC, dBin, dChain, dNeg, dI2, dAnd, dOr, dNot, dIfE, dCall, dCallF, aCons, aNil, dTup, lLst, dOfL, xIm, xOw, gNm, gTp, gsCons, gsNil, dYes, envD, dLen_tR, dLen_tI, dLen_tup, dLen_lst, seq_tR, seq_tI, seq_tup, seq_lst, dIs, dIsNot, dNe, dEq, dTupOf, dSl, oNone, oSome, iSq, iEn, iR1, iR2, sFor, lLc, sNever, dTRg, rg1, rg2, lRg, wipeD, isN,
  gTpL, dIxP, sSub, dApp, dPopAt, dExt, dCallM, dCallO, dBinO, dTupO, lOf, lOfO, sRetO, iOw, dVarF, lCat, lCall, dAbs, dMax2, dMin2, dInt, atO, setO, MO.getL, MO.putL, Option.isSome_some,
  dInK, dGetK, dGetD, dInD, dGet1, lKeys, lSort, dLenSet, dLenSetL, dLenSet2, sPar3, dRevT, sPutK, xDct, xDct1, sRetK, atK, keyD, sAugI, dFld, sFldD, xRng, iRgO, dNew, dNewV, dCM, dProp, dMeth, dLenI, dStrO, dEqI, dIsC, dJoin, dJs, dFmt, dCallML, sSubI, gSubW, sWh, lDc, dRepT, lRep, dStrI, xDctT1, xDctOf, dInT, sPutT, lSortT2, lSortDT, dPop, dBinR, dKeep, dCallMO, atT, dCallO,
  kit_int, kit_bool, kit_tuple, kit_str, List.map_cons, List.map_nil, List.cons_append, List.nil_append, List.replicate, List.set_cons_zero, List.set_cons_succ, List.getElem?_cons_zero, List.getElem?_cons_succ, List.length_cons, List.length_nil, List.length_map, Nat.reduceAdd, Nat.reduceSub, Bool.not_true, Bool.not_false, Bool.false_eq_true, if_true, if_false, true_and, reduceCtorEq, Bool.true_eq_false, rgD_rgI, Option.some.injEq, exists_eq_left', and_true])
theorem dLen_sq {A : D} {xs : List D} {Q : D → Prop} (h : seqD A = some xs) : dLen [A] Q = Q (.int xs.length) := dLen_seq h
theorem v__law_product_dots : VD g__law_product_dots S__law_product_dots 2 9 := fun ds Q _ h => by
  obtain ⟨A, B, a, b, d, e, rfl, sA, sB, hd, he, c1, hl, h⟩ := h
  have a24 : a ≤ 24 := Nat.le_trans (Nat.le_mul_of_pos_right a c1) hl
  unfold g__law_product_dots
  walk_at "dd"
  rw [dLen_sq sB, dLen_sq sA]
  refine ⟨by decide, ?_⟩
  rw [List.length_map, List.length_map, tab_len, tab_len]
  refine ⟨a, b, rfl, c1, by omega, ?_⟩
  dsimp only
  refine ⟨_, rfl, ?_⟩
  refine wpFor_ap (rgI (a * b)) (fun k => .tuple [.int (k / b), .int (k % b)]) (fun k : Int => tI ((rgI (a * b)).map fun j : Int => prd b d e k j)) (fun acc ρ => ∃ x1 x2 x3 x4 x5 x6, ρ = [some (.im A), some (.im B), some (.im (.int b)), some (.ow (.lst acc)), some (.im (.list ((rgI (a * b)).map fun k => .tuple [.int (k / b), .int (k % b)]))), x1, x2, x3, x4, x5, x6]) ⟨_, _, _, _, _, _, rfl⟩ (fun k hk acc ρ K p q r => ?_) (fun ρ p => ?_)
  · obtain ⟨x1, x2, x3, x4, x5, x6, rfl⟩ := p
    try walk_at "dd"
    obtain ⟨k1, k2⟩ := dm_in (In.mem.1 hk) c1
    rw [rgI_len] at q
    refine ixT' sA k1 (ixT' sB k2 ?_)
    refine wpLc_mapL (rgI (a * b)) (fun k => .tuple [.int (k / b), .int (k % b)]) (fun j => .int (prd b d e k j)) (by rw [rgI_len]; omega) rfl (fun j hj K hK => ?_) (fun _ => rfl) ?_
    · try walk_at "dd"
      obtain ⟨j1, j2⟩ := dm_in (In.mem.1 hj) c1
      have p1 := hd _ _ k1 j1
      refine ixY j1 ⟨cm_n p1.1 (by have := p1.2; omega), ixY j2 (hK _ rfl)⟩
    · try walk_at "dd"
      refine ⟨by omega, ?_⟩
      rw [tI_map]
      exact r _ ⟨_, _, _, _, _, _, rfl⟩
  · obtain ⟨x1, x2, x3, x4, x5, x6, rfl⟩ := p
    try walk_at "dd"
    rw [tL_map]
    exact h
end Dn.T
set_option Elab.async false
set_option linter.all false
set_option maxRecDepth 100000
set_option autoImplicit false
set_option maxHeartbeats 4000000
namespace Dn.T
open PySem L2 Evl PySem.Spec PyProof.Rows
theorem row_cs {n : Nat} {d : Int → Int → Int} (h : Cs n d) {x : Int} (hx : In n x) : Mv n ((rgI n).map (d x)) := mv_map (fun y a b => h.rg x y hx ⟨a, b⟩) fun y z a b c e q => h.inj x y z hx ⟨a, b⟩ ⟨c, e⟩ q
theorem sgm_ok {n : Nat} {d : Int → Int → Int} (h : Cs n d) : (∀ x y, In n x → In n y → In n (sgm n d x y)) ∧ ∀ x y, In n x → In n y → d x (sgm n d x y) = y := by
  refine ⟨fun x y hx hy => (iv_rng (row_cs h hx) hy.1 hy.2).1, fun x y hx hy => ?_⟩
  have r := iv_rng (row_cs h hx) hy.1 hy.2
  have e := r.2
  rw [im_map r.1.1 r.1.2] at e
  exact e
end Dn.T
set_option Elab.async false
set_option linter.all false
set_option maxRecDepth 100000
set_option autoImplicit false
set_option maxHeartbeats 4000000
namespace Dn.T
open PySem L2 Evl PySem.Spec PyProof.Rows
theorem shaped_tL (L : List (List Int)) : SeqAt.shaped (tL L) = true := by
  have h := layAll_tI L
  unfold SeqAt.shaped tL
  simp [PyData.canLay0, PyData.depth, h.1]
  omega
end Dn.T
set_option Elab.async false
set_option linter.all false
set_option maxRecDepth 100000
set_option autoImplicit false
set_option maxHeartbeats 4000000
namespace Dn.T
open PySem L2 Evl PySem.Spec PyProof.Rows
theorem eqv_nil {xs : List D} : PyData.eqv (.list xs) (.list []) = decide (xs = []) := by cases xs <;> simp [PyData.eqv, PyData.eqvAll]
theorem mem_rgD' {n : Int} {d : D} (h : d ∈ rgD 0 n) : ∃ k : Int, d = .int k ∧ 0 ≤ k ∧ k < n := by
  unfold rgD at h
  obtain ⟨k, hk, rfl⟩ := List.mem_map.mp h
  have := List.mem_range.mp hk
  exact ⟨_, rfl, by omega, by omega⟩
theorem dLen_scr' {s : List Int} {Q : D → Prop} : dLen [scr s] Q = Q (.int s.length) := by show Q _ = _; simp
theorem rg_cap (c n : Int) (h : 0 ≤ c) (h2 : c ≤ 1000) : RgD 0 (if (if n < c then n else c) > 1 then (if n < c then n else c) else 1) := by
  refine ⟨by decide, by decide, ?_, ?_⟩ <;> · split <;> (try split) <;> omega
end Dn.T
set_option Elab.async false
set_option linter.all false
set_option maxRecDepth 100000
set_option autoImplicit false
set_option maxHeartbeats 4000000
namespace Dn.T
open PySem L2 Evl PySem.Spec PyProof.Rows
def S_is_square (ds : List D) (Q : D → Prop) : Prop := ∃ C n, ds = [tR C, .int 0, .int 8] ∧ Dw n C ∧ n ≤ 8 ∧ Q (.bool true)
end Dn.T
set_option Elab.async false
set_option linter.all false
set_option maxRecDepth 100000
set_option autoImplicit false
set_option maxHeartbeats 4000000
namespace Dn.T
open PySem L2 Evl PySem.Spec PyProof.Rows
abbrev N_is_square : List Str := ["value", "least", "most", "row"]
abbrev P_is_square : List Str := ["value", "least", "most"]
def g_is_square : DS := sSeq (sIf (dTOr (dTNot (dTst (dIsi "tuple" (dVar 0)))) (dTNot (dTst (dChain dLe dLe (dVar 1) (dCall dLen (aCons (dVar 0) (aNil))) (dVar 2))))) (sRet (dC (.bool false))) (sNx)) (sRet (dCall dAll (aCons (dOfL (lLc (iSq (dVar 0)) (gNm 3) (dYes) (dCallF 3 S_is_row (aCons (dVar 3) (aCons (dCall dLen (aCons (dVar 0) (aNil))) (aCons (dCall dLen (aCons (dVar 0) (aNil))) (aNil))))) [3])) (aNil))))
end Dn.T
set_option Elab.async false
set_option linter.all false
set_option maxRecDepth 100000
set_option autoImplicit false
set_option maxHeartbeats 4000000
namespace Dn.T
open PySem L2 Evl PySem.Spec PyProof.Rows
local macro_rules | `(tactic| walk_at "dd") => `(tactic| simp only [sSeq, sIf, sSet, sRet, sRetN, sNx, sEx, sAsg, sPar, dTOr, dTAnd, dTNot, dTst, dIsi, dVar, dC, dBin, dChain, dNeg, dI2, dAnd, dOr, dNot, dIfE, dCall, dCallF, aCons, aNil, dTup, lLst, dOfL, xIm, xOw, gNm, gTp, gsCons, gsNil, dYes, envD, dLen_tR, dLen_tI, dLen_tup, dLen_lst, seq_tR, seq_tI, seq_tup, seq_lst, dIs, dIsNot, dNe, dEq, dTupOf, dSl, oNone, oSome, iSq, iEn, iR1, iR2, sFor, lLc, sNever, dTRg, rg1, rg2, lRg, wipeD, isN,
  gTpL, dIxP, sSub, dApp, dPopAt, dExt, dCallM, dCallO, dBinO, dTupO, lOf, lOfO, sRetO, iOw, dVarF, lCat, lCall, dAbs, dMax2, dMin2, dInt, atO, setO, MO.getL, MO.putL, Option.isSome_some,
  dInK, dGetK, dGetD, dInD, dGet1, lKeys, lSort, dLenSet, dLenSetL, dLenSet2, sPar3, dRevT, sPutK, xDct, xDct1, sRetK, atK, keyD, sAugI, dFld, sFldD, xRng, iRgO, dNew, dNewV, dCM, dProp, dMeth, dLenI, dStrO, dEqI, dIsC, dJoin, dJs, dFmt, dCallML, sSubI, gSubW, sWh, lDc, dRepT, lRep, dStrI, xDctT1, xDctOf, dInT, sPutT, lSortT2, lSortDT, dPop, dBinR, dKeep, dCallMO, atT, dCallO,
  kit_int, kit_bool, kit_tuple, kit_str, List.map_cons, List.map_nil, List.cons_append, List.nil_append, List.replicate, List.set_cons_zero, List.set_cons_succ, List.getElem?_cons_zero, List.getElem?_cons_succ, List.length_cons, List.length_nil, List.length_map, Nat.reduceAdd, Nat.reduceSub, Bool.not_true, Bool.not_false, Bool.false_eq_true, if_true, if_false, true_and, reduceCtorEq, Bool.true_eq_false, rgD_rgI, Option.some.injEq, exists_eq_left', and_true])
theorem v_is_square : VD g_is_square S_is_square 3 1 := fun ds Q _ h => by
  obtain ⟨C, n, rfl, hC, hn, h⟩ := h
  have cl := hC.1
  unfold g_is_square tR
  walk_at "dd"
  rw [show decide ((0 : Int) ≤ (C.length : Int)) = true from by simp]
  walk_at "dd"
  rw [show decide ((C.length : Int) ≤ 8) = true from by simp; omega]
  walk_at "dd"
  refine wpLc_map (fun _ => .bool true) (by simp; omega) rfl (fun d hd K hK => ?_) (fun _ _ _ => rfl) ?_
  · walk_at "dd"
    obtain ⟨r, hr1, rfl⟩ := List.mem_map.mp hd
    have rr := hC.2 r hr1
    refine ⟨_, _, _, rfl, fun xs e => ?_, by first | omega | (simp; omega), ?_⟩
    · cases e; have := rr.1; simp; omega
    · rw [show isRow (C.length : Int) (C.length : Int) (tI r) = true from by rw [cl]; exact isRow_ints rr.1 rr.2 (by omega)]
      exact hK _ rfl
  · refine ⟨(C.map tI).map fun _ => true, by simp, ?_⟩
    rw [show ((C.map tI).map fun _ => true).all id = true from by simp]
    exact h
end Dn.T
set_option Elab.async false
set_option linter.all false
set_option maxRecDepth 100000
set_option autoImplicit false
set_option maxHeartbeats 4000000
namespace Dn.T
open PySem L2 Evl PySem.Spec PyProof.Rows
theorem nodup_len {α : Type} [DecidableEq α] : ∀ {l l' : List α}, l.Nodup → (∀ x, x ∈ l → x ∈ l') → l.length ≤ l'.length
  | [], _, _, _ => Nat.zero_le _
  | x :: l, l', nd, hs => by
    have hx := hs x (by simp)
    have nd2 := List.nodup_cons.mp nd
    have := nodup_len (l := l) (l' := l'.erase x) nd2.2 fun y hy => (List.mem_erase_of_ne (fun e => nd2.1 (by rw [← e]; exact hy))).2 (hs y (by simp [hy]))
    rw [List.length_erase_of_mem hx] at this
    have hp := List.length_pos_of_mem hx
    rw [List.length_cons]
    omega
theorem in_con {l : List Int} {a : Int} : ((l.map PyData.int).any fun z => PyData.eqv z (.int a)) = l.contains a := by
  induction l with
  | nil => rfl
  | cons x l ih =>
    rw [List.map_cons, List.any_cons, ih, List.contains_cons]
    by_cases e : x = a
    · subst e; simp [PyData.eqv]
    · have : (a == x) = false := by simp [Ne.symm e]
      rw [this]
      simp [PyData.eqv, e]
def okU : SV → Prop
  | .im d => NL d
  | .ow m => NS m
def okT (o : Option SV) : Prop := ∀ sv, o = some sv → okU sv
theorem okT_none : okT none := fun _ h => nomatch h
theorem okT_im {d : D} (h : NL d) : okT (some (.im d)) := fun sv e => by cases e; exact h
end Dn.T
set_option Elab.async false
set_option linter.all false
set_option maxRecDepth 100000
set_option autoImplicit false
set_option maxHeartbeats 4000000
namespace Dn.T.G
open PySem L2 Evl PySem.Spec PyProof.Rows
abbrev F1 := Int → Int → Int
def bkL (n : Nat) (g : F1) (u : Int) : List Int := (rgI n).map fun t => (backOf (tab n g) u t).getD 0
def cenL (n : Nat) (g : F1) : List Int := (rgI n).filter fun c => (rgI n).all fun a => decide (g a c = g c a)
def grpF (n : Nat) (g : F1) (u : Int) : List (Str × D) := [("_rows", tR (tab n g)), ("_unit", .int u), ("_backs", tI (bkL n g u)), ("_centre", tI (cenL n g))]
def grpD (n : Nat) (g : F1) (u : Int) : D := obD "Group" (grpF n g u)
abbrev G24 (n : Nat) (g : F1) (u : Int) : Prop := Gr n g u ∧ n ≤ 24
abbrev cyG (n : Nat) : F1 := fun x y => (x + y) % n
def S_is_square (ds : List D) (Q : D → Prop) : Prop := ∃ n g, ds = [tR (tab n g), .int 1, .int 24] ∧ (∀ x y, In n x → In n y → In n (g x y)) ∧ 1 ≤ n ∧ n ≤ 24 ∧ Q (.bool true)
def S__check_rows (ds : List D) (Q : D → Prop) : Prop := ∃ n g u, ds = [tR (tab n g)] ∧ G24 n g u ∧ Q .none
def S_unit_of (ds : List D) (Q : D → Prop) : Prop := ∃ n g u, ds = [tR (tab n g)] ∧ G24 n g u ∧ Q (.int u)
def S_back_of (ds : List D) (Q : D → Prop) : Prop := ∃ n g u t, ds = [tR (tab n g), .int u, .int t] ∧ G24 n g u ∧ In n t ∧ Q (.int ((backOf (tab n g) u t).getD 0))
def S_broken_three (ds : List D) (Q : D → Prop) : Prop := ∃ n g u, ds = [tR (tab n g)] ∧ G24 n g u ∧ Q .none
def S_group_paper (ds : List D) (Q : D → Prop) : Prop := ∃ n g u, ds = [tR (tab n g)] ∧ G24 n g u ∧ Q (.tuple [.str "group"])
def S_backs_of (ds : List D) (Q : D → Prop) : Prop := ∃ n g u, ds = [tR (tab n g), .int u] ∧ G24 n g u ∧ Q (tI (bkL n g u))
def S_centre_of (ds : List D) (Q : D → Prop) : Prop := ∃ n g u, ds = [tR (tab n g)] ∧ G24 n g u ∧ Q (tI (cenL n g))
def S_Group____init__ (ds : List D) (Q : List (Str × D) → Prop) : Prop := ∃ n g u, ds = [tR (tab n g)] ∧ G24 n g u ∧ Q (grpF n g u)
def S_Group__unit (ds : List D) (Q : D → Prop) : Prop := ∃ n g u, ds = [grpD n g u] ∧ Q (.int u)
def S_Group____len__ (ds : List D) (Q : D → Prop) : Prop := ∃ n g u, ds = [grpD n g u] ∧ Q (.int n)
def S__law_cyclic (ds : List D) (Q : D → Prop) : Prop := ∃ n : Nat, ds = [.int n] ∧ 1 ≤ n ∧ n ≤ 24 ∧ Q (tR (tab n (cyG n)))
def S__law_direct (ds : List D) (Q : D → Prop) : Prop := ∃ a b g k u v, ds = [tR (tab a g), tR (tab b k)] ∧ Gr a g u ∧ Gr b k v ∧ a * b ≤ 24 ∧ Q (tR (tab (a * b) (dirG b g k)))
def S__law_turned_pairs (ds : List D) (Q : D → Prop) : Prop := ∃ n : Nat, ds = [.int n] ∧ 1 ≤ n ∧ n ≤ 12 ∧ Q (tR (tab (2 * n) (trnG n)))
def S__law_quaternion_rows (ds : List D) (Q : D → Prop) : Prop := ds = [] ∧ Q (tR qRows)
def S__law_renamed_group (ds : List D) (Q : D → Prop) : Prop := ∃ n g u m, ds = [tR (tab n g), tI m] ∧ G24 n g u ∧ Mv n m ∧ Q (tR (tab n (renG g m)))
def S__law_unit (ds : List D) (Q : D → Prop) : Prop := ∃ n g u, ds = [tR (tab n g)] ∧ G24 n g u ∧ Q (.int u)
def S__law_inverse (ds : List D) (Q : D → Prop) : Prop := ∃ n g u x, ds = [tR (tab n g), .int x] ∧ G24 n g u ∧ In n x ∧ Q (.int ((backOf (tab n g) u x).getD 0))
def S_Group__rows (ds : List D) (Q : D → Prop) : Prop := ∃ n g u, ds = [grpD n g u] ∧ Q (tR (tab n g))
end Dn.T.G
set_option Elab.async false
set_option linter.all false
set_option maxRecDepth 100000
set_option autoImplicit false
set_option maxHeartbeats 4000000
namespace Dn.T.G
open PySem L2 Evl PySem.Spec PyProof.Rows
abbrev N_is_square : List Str := ["value", "least", "most", "row"]
abbrev P_is_square : List Str := ["value", "least", "most"]
def g_is_square : DS := sSeq (sIf (dTOr (dTNot (dTst (dIsi "tuple" (dVar 0)))) (dTNot (dTst (dChain dLe dLe (dVar 1) (dCall dLen (aCons (dVar 0) (aNil))) (dVar 2))))) (sRet (dC (.bool false))) (sNx)) (sRet (dCall dAll (aCons (dOfL (lLc (iSq (dVar 0)) (gNm 3) (dYes) (dCallF 3 S_is_row (aCons (dVar 3) (aCons (dCall dLen (aCons (dVar 0) (aNil))) (aCons (dCall dLen (aCons (dVar 0) (aNil))) (aNil))))) [3])) (aNil))))
abbrev N__check_rows : List Str := ["rows"]
abbrev P__check_rows : List Str := ["rows"]
def g__check_rows : DS := sIf (dTNot (dTst (dCallF 3 S_is_square (aCons (dVar 0) (aCons (dC (.int 1)) (aCons (dC (.int 24)) (aNil))))))) (sNever) (sNx)
abbrev N_unit_of : List Str := ["rows", "things", "thing", "row"]
abbrev P_unit_of : List Str := ["rows"]
def g_unit_of : DS := sSeq (sSet 1 (xIm (dTRg (rg1 (dCall dLen (aCons (dVar 0) (aNil))))))) (sSeq (sFor (iSq (dVar 1)) (gNm 2) (sIf (dTAnd (dTst (dBin dEq (dBin dIx (dVar 0) (dVar 2)) (dVar 1))) (dTst (dBin dEq (dCall dTupOf (aCons (dOfL (lLc (iSq (dVar 0)) (gNm 3) (dYes) (dBin dIx (dVar 3) (dVar 2)) [3])) (aNil))) (dVar 1)))) (sRet (dVar 2)) (sNx))) (sRet (dC .none)))
abbrev N_back_of : List Str := ["rows", "unit", "thing", "other", "made"]
abbrev P_back_of : List Str := ["rows", "unit", "thing"]
def g_back_of : DS := sSeq (sFor (iEn (dBin dIx (dVar 0) (dVar 2))) (gTp 2 (gsCons (gNm 3) (gsCons (gNm 4) (gsNil)))) (sIf (dTAnd (dTst (dBin dEq (dVar 4) (dVar 1))) (dTst (dBin dEq (dBin dIx (dBin dIx (dVar 0) (dVar 3)) (dVar 2)) (dVar 1)))) (sRet (dVar 3)) (sNx))) (sRet (dC .none))
abbrev N_broken_three : List Str := ["rows", "a", "row", "b", "ab", "c", "bc"]
abbrev P_broken_three : List Str := ["rows"]
def g_broken_three : DS := sSeq (sFor (iEn (dVar 0)) (gTp 2 (gsCons (gNm 1) (gsCons (gNm 2) (gsNil)))) (sFor (iEn (dVar 2)) (gTp 2 (gsCons (gNm 3) (gsCons (gNm 4) (gsNil)))) (sFor (iEn (dBin dIx (dVar 0) (dVar 3))) (gTp 2 (gsCons (gNm 5) (gsCons (gNm 6) (gsNil)))) (sIf (dTst (dBin dNe (dBin dIx (dBin dIx (dVar 0) (dVar 4)) (dVar 5)) (dBin dIx (dVar 2) (dVar 6)))) (sRet (dTup (aCons (dVar 1) (aCons (dVar 3) (aCons (dVar 5) (aNil)))))) (sNx))))) (sRet (dC .none))
abbrev N_group_paper : List Str := ["rows", "unit", "thing", "things"]
abbrev P_group_paper : List Str := ["rows"]
def g_group_paper : DS := sSeq (sEx (dCallF 1 S__check_rows (aCons (dVar 0) (aNil)))) (sSeq (sSet 1 (xIm (dCallF 1 S_unit_of (aCons (dVar 0) (aNil))))) (sSeq (sIf (dTst (dBin dIs (dVar 1) (dC .none))) (sRet (dTup (aCons (dC (.str "unit")) (aNil)))) (sNx)) (sSeq (sFor (iR1 (dCall dLen (aCons (dVar 0) (aNil)))) (gNm 2) (sIf (dTst (dBin dIs (dCallF 3 S_back_of (aCons (dVar 0) (aCons (dVar 1) (aCons (dVar 2) (aNil))))) (dC .none))) (sRet (dTup (aCons (dC (.str "back")) (aCons (dVar 2) (aNil))))) (sNx))) (sSeq (sSet 3 (xIm (dCallF 1 S_broken_three (aCons (dVar 0) (aNil))))) (sSeq (sIf (dTst (dBin dIsNot (dVar 3) (dC .none))) (sRet (dBin dAdd (dTup (aCons (dC (.str "three")) (aNil))) (dVar 3))) (sNx)) (sRet (dTup (aCons (dC (.str "group")) (aNil)))))))))
abbrev N_backs_of : List Str := ["rows", "unit", "thing"]
abbrev P_backs_of : List Str := ["rows", "unit"]
def g_backs_of : DS := sRet (dCall dTupOf (aCons (dOfL (lLc (iR1 (dCall dLen (aCons (dVar 0) (aNil)))) (gNm 2) (dYes) (dCallF 3 S_back_of (aCons (dVar 0) (aCons (dVar 1) (aCons (dVar 2) (aNil))))) [2])) (aNil)))
abbrev N_centre_of : List Str := ["rows", "columns", "thing", "row"]
abbrev P_centre_of : List Str := ["rows"]
def g_centre_of : DS := sSeq (sSet 1 (xIm (dOfL (lLc (iR1 (dCall dLen (aCons (dVar 0) (aNil)))) (gNm 2) (dYes) (dCall dTupOf (aCons (dOfL (lLc (iSq (dVar 0)) (gNm 3) (dYes) (dBin dIx (dVar 3) (dVar 2)) [3])) (aNil))) [2])))) (sRet (dCall dTupOf (aCons (dOfL (lLc (iEn (dVar 0)) (gTp 2 (gsCons (gNm 2) (gsCons (gNm 3) (gsNil)))) (dTst (dBin dEq (dVar 3) (dBin dIx (dVar 1) (dVar 2)))) (dVar 2) [2, 3])) (aNil))))
abbrev N_Group____init__ : List Str := ["self", "rows", "paper", "unit"]
abbrev P_Group____init__ : List Str := ["self", "rows"]
def g_Group____init__ : DS := sSeq (sSet 2 (xIm (dCallF 1 S_group_paper (aCons (dVar 1) (aNil))))) (sSeq (sIf (dTst (dBin dNe (dVar 2) (dTup (aCons (dC (.str "group")) (aNil))))) (sNever) (sNx)) (sSeq (sSet 3 (xIm (dCallF 1 S_unit_of (aCons (dVar 1) (aNil))))) (sSeq (sFldD 0 "Group" "_rows" (dVar 1)) (sSeq (sFldD 0 "Group" "_unit" (dVar 3)) (sSeq (sFldD 0 "Group" "_backs" (dCallF 2 S_backs_of (aCons (dVar 1) (aCons (dVar 3) (aNil))))) (sFldD 0 "Group" "_centre" (dCallF 1 S_centre_of (aCons (dVar 1) (aNil)))))))))
abbrev N_Group__unit : List Str := ["self"]
abbrev P_Group__unit : List Str := ["self"]
def g_Group__unit : DS := sRet (dFld "Group" "_unit" (dVar 0))
abbrev N_Group__rows : List Str := ["self"]
abbrev P_Group__rows : List Str := ["self"]
def g_Group__rows : DS := sRet (dFld "Group" "_rows" (dVar 0))
abbrev N_Group____len__ : List Str := ["self"]
abbrev P_Group____len__ : List Str := ["self"]
def g_Group____len__ : DS := sRet (dCall dLen (aCons (dFld "Group" "_rows" (dVar 0)) (aNil)))
abbrev N__law_cyclic : List Str := ["_law_size", "_law_a", "_law_b"]
abbrev P__law_cyclic : List Str := ["_law_size"]
def g__law_cyclic : DS := sRet (dCall dTupOf (aCons (dOfL (lLc (iR1 (dVar 0)) (gNm 1) (dYes) (dCall dTupOf (aCons (dOfL (lLc (iR1 (dVar 0)) (gNm 2) (dYes) (dBin dMod (dCall dInt (aCons (dBin dAdd (dVar 1) (dVar 2)) (aNil))) (dVar 0)) [2])) (aNil))) [1])) (aNil)))
abbrev N__law_direct : List Str := ["_law_one", "_law_other"]
abbrev P__law_direct : List Str := ["_law_one", "_law_other"]
def g__law_direct : DS := sRet (dCall dTupOf (aCons (dCallF 2 S__law_product_dots (aCons (dVar 0) (aCons (dVar 1) (aNil)))) (aNil)))
abbrev N__law_turned_pairs : List Str := ["_law_size", "_law_found", "_law_a", "_law_row", "_law_b", "_law_turn"]
abbrev P__law_turned_pairs : List Str := ["_law_size"]
def g__law_turned_pairs : DS := sSeq (sSet 1 (xOw (lLst (aNil)))) (sSeq (sFor (iR1 (dBin dMulA (dC (.int 2)) (dVar 0))) (gNm 2) (sSeq (sSet 3 (xOw (lLst (aNil)))) (sSeq (sFor (iR1 (dBin dMulA (dC (.int 2)) (dVar 0))) (gNm 4) (sSeq (sSet 5 (xIm (dIfE (dTst (dBin dEq (dBin dMod (dVar 2) (dC (.int 2))) (dC (.int 0)))) (dBin dFdiv (dVar 4) (dC (.int 2))) (dBin dSub (dVar 0) (dBin dFdiv (dVar 4) (dC (.int 2))))))) (sEx (dApp 3 (dBin dAdd (dBin dMulA (dBin dMod (dCall dInt (aCons (dBin dAdd (dBin dFdiv (dVar 2) (dC (.int 2))) (dVar 5)) (aNil))) (dVar 0)) (dC (.int 2))) (dBin dMod (dCall dInt (aCons (dBin dAdd (dVar 2) (dVar 4)) (aNil))) (dC (.int 2)))))))) (sEx (dApp 1 (dTupO 3)))))) (sRet (dTupO 1)))
abbrev N__law_quaternion_rows : List Str := ["_law_times", "_law_found", "_law_a", "_law_row", "_law_b", "_law_line", "_law_goal"]
abbrev P__law_quaternion_rows : List Str := []
def g__law_quaternion_rows : DS := sSeq (sPar 0 1 (xIm (dOfL (lLst (aCons (dOfL (lLst (aCons (dC (.int 0)) (aCons (dC (.int 2)) (aCons (dC (.int 4)) (aCons (dC (.int 6)) (aNil))))))) (aCons (dOfL (lLst (aCons (dC (.int 2)) (aCons (dC (.int 1)) (aCons (dC (.int 6)) (aCons (dC (.int 5)) (aNil))))))) (aCons (dOfL (lLst (aCons (dC (.int 4)) (aCons (dC (.int 7)) (aCons (dC (.int 1)) (aCons (dC (.int 2)) (aNil))))))) (aCons (dOfL (lLst (aCons (dC (.int 6)) (aCons (dC (.int 4)) (aCons (dC (.int 3)) (aCons (dC (.int 1)) (aNil))))))) (aNil)))))))) (xOw (lLst (aNil)))) (sSeq (sFor (iR1 (dC (.int 8))) (gNm 2) (sSeq (sSet 3 (xOw (lLst (aNil)))) (sSeq (sFor (iR1 (dC (.int 8))) (gNm 4) (sSeq (sSet 5 (xIm (dBin dIx (dVar 0) (dBin dFdiv (dVar 2) (dC (.int 2)))))) (sSeq (sSet 6 (xIm (dBin dIx (dVar 5) (dBin dFdiv (dVar 4) (dC (.int 2)))))) (sEx (dApp 3 (dBin dAdd (dBin dMulA (dBin dFdiv (dVar 6) (dC (.int 2))) (dC (.int 2))) (dBin dMod (dCall dInt (aCons (dBin dAdd (dBin dAdd (dVar 6) (dVar 2)) (dVar 4)) (aNil))) (dC (.int 2))))))))) (sEx (dApp 1 (dTupO 3)))))) (sRet (dTupO 1)))
abbrev N__law_renamed_group : List Str := ["_law_rows", "_law_order", "_law_back", "_law_a", "_law_b"]
abbrev P__law_renamed_group : List Str := ["_law_rows", "_law_order"]
def g__law_renamed_group : DS := sSeq (sSet 2 (xIm (dCallF 1 S__law_undone (aCons (dVar 1) (aNil))))) (sRet (dCall dTupOf (aCons (dOfL (lLc (iSq (dVar 1)) (gNm 3) (dYes) (dCall dTupOf (aCons (dOfL (lLc (iSq (dVar 1)) (gNm 4) (dYes) (dBin dIx (dVar 2) (dBin dIx (dBin dIx (dVar 0) (dVar 3)) (dVar 4))) [4])) (aNil))) [3])) (aNil))))
abbrev N__law_unit : List Str := ["_law_rows", "_law_a"]
abbrev P__law_unit : List Str := ["_law_rows"]
def g__law_unit : DS := sRet (dBin dIx (dOfL (lLc (iR1 (dCall dLen (aCons (dVar 0) (aNil)))) (gNm 1) (dTst (dBin dEq (dBin dIx (dBin dIx (dVar 0) (dVar 1)) (dVar 1)) (dVar 1))) (dVar 1) [1])) (dC (.int 0)))
abbrev N__law_inverse : List Str := ["_law_rows", "_law_thing"]
abbrev P__law_inverse : List Str := ["_law_rows", "_law_thing"]
def g__law_inverse : DS := sRet (dTF gIx (dBin dIx (dVar 0) (dVar 1)) (dCallF 1 S__law_unit (aCons (dVar 0) (aNil))))
end Dn.T.G
set_option Elab.async false
set_option linter.all false
set_option maxRecDepth 100000
set_option autoImplicit false
set_option maxHeartbeats 4000000
namespace Dn.T
open PySem L2 Evl PySem.Spec PyProof.Rows
abbrev N_is_told : List Str := ["value", "word", "many", "size"]
abbrev P_is_told : List Str := ["value", "word", "many", "size"]
def g_is_told : DS := sSeq (sIf (dTOr (dTNot (dTst (dIsi "tuple" (dVar 0)))) (dTst (dBin dNe (dCall dLen (aCons (dVar 0) (aNil))) (dBin dAdd (dVar 2) (dC (.int 1)))))) (sRet (dC (.bool false))) (sNx)) (sRet (dAnd (dCallF 2 S_is_same (aCons (dBin dIx (dVar 0) (dC (.int 0))) (aCons (dVar 1) (aNil)))) (dCallF 3 S_is_row (aCons (dSl (dVar 0) (oSome (dC (.int 1))) (oNone)) (aCons (dVar 2) (aCons (dVar 3) (aNil)))))))
abbrev N_is_same : List Str := ["value", "told", "index", "part"]
abbrev P_is_same : List Str := ["value", "told"]
def g_is_same : DS := sSeq (sIf (dTst (dIsi "tuple" (dVar 1))) (sSeq (sIf (dTOr (dTNot (dTst (dIsi "tuple" (dVar 0)))) (dTst (dBin dNe (dCall dLen (aCons (dVar 0) (aNil))) (dCall dLen (aCons (dVar 1) (aNil)))))) (sRet (dC (.bool false))) (sNx)) (sRet (dCall dAll (aCons (dOfL (lLc (iEn (dVar 0)) (gTp 2 (gsCons (gNm 2) (gsCons (gNm 3) (gsNil)))) (dYes) (dCallF 2 S_is_same0 (aCons (dVar 3) (aCons (dBin dIx (dVar 1) (dVar 2)) (aNil)))) [2, 3])) (aNil))))) (sNx)) (sSeq (sIf (dTst (dIsi "str" (dVar 1))) (sRet (dAnd (dIsi "str" (dVar 0)) (dBin dEq (dVar 0) (dVar 1)))) (sNx)) (sRet (dAnd (dCallF 1 S_is_integer (aCons (dVar 0) (aNil))) (dBin dEq (dVar 0) (dVar 1)))))
def g_is_same0 : DS := sSeq (sIf (dTst (dIsi "tuple" (dVar 1))) (sSeq (sIf (dTOr (dTNot (dTst (dIsi "tuple" (dVar 0)))) (dTst (dBin dNe (dCall dLen (aCons (dVar 0) (aNil))) (dCall dLen (aCons (dVar 1) (aNil)))))) (sRet (dC (.bool false))) (sNx)) (sRet (dCall dAll (aCons (dOfL (lLc (iEn (dVar 0)) (gTp 2 (gsCons (gNm 2) (gsCons (gNm 3) (gsNil)))) (dYes) (dNever) [2, 3])) (aNil))))) (sNx)) (sSeq (sIf (dTst (dIsi "str" (dVar 1))) (sRet (dAnd (dIsi "str" (dVar 0)) (dBin dEq (dVar 0) (dVar 1)))) (sNx)) (sRet (dAnd (dCallF 1 S_is_integer (aCons (dVar 0) (aNil))) (dBin dEq (dVar 0) (dVar 1)))))
end Dn.T
set_option Elab.async false
set_option linter.all false
set_option maxRecDepth 100000
set_option autoImplicit false
set_option maxHeartbeats 4000000
namespace Dn.T
open PySem L2 Evl PySem.Spec PyProof.Rows
local macro_rules | `(tactic| walk_at "dd") => `(tactic| simp only [sSeq, sIf, sSet, sRet, sRetN, sNx, sEx, sAsg, sPar, dTOr, dTAnd, dTNot, dTst, dIsi, dVar, dC, dBin, dChain, dNeg, dI2, dAnd, dOr, dNot, dIfE, dCall, dCallF, aCons, aNil, dTup, lLst, dOfL, xIm, xOw, gNm, gTp, gsCons, gsNil, dYes, envD, dLen_tR, dLen_tI, dLen_tup, dLen_lst, seq_tR, seq_tI, seq_tup, seq_lst, dIs, dIsNot, dNe, dEq, dTupOf, dSl, oNone, oSome, iSq, iEn, iR1, iR2, sFor, lLc, sNever, dTRg, rg1, rg2, lRg, wipeD, isN,
  gTpL, dIxP, sSub, dApp, dPopAt, dExt, dCallM, dCallO, dBinO, dTupO, lOf, lOfO, sRetO, iOw, dVarF, lCat, lCall, dAbs, dMax2, dMin2, dInt, atO, setO, MO.getL, MO.putL, Option.isSome_some,
  dInK, dGetK, dGetD, dInD, dGet1, lKeys, lSort, dLenSet, dLenSetL, dLenSet2, sPar3, dRevT, sPutK, xDct, xDct1, sRetK, atK, keyD, sAugI, dFld, sFldD, xRng, iRgO, dNew, dNewV, dCM, dProp, dMeth, dLenI, dStrO, dEqI, dIsC, dJoin, dJs, dFmt, dCallML, sSubI, gSubW, sWh, dRepU, dKeep2, lSortSet, lSortTu, lDc, dRepT, lRep, dStrI, xDctT1, xDctOf, dInT, sPutT, lSortT2, lSortDT, dPop, dBinR, dKeep, dCallMO, atT, dCallO,
  kit_int, kit_bool, kit_tuple, kit_str, List.map_cons, List.map_nil, List.cons_append, List.nil_append, List.replicate, List.set_cons_zero, List.set_cons_succ, List.getElem?_cons_zero, List.getElem?_cons_succ, List.length_cons, List.length_nil, List.length_map, Nat.reduceAdd, Nat.reduceSub, Bool.not_true, Bool.not_false, Bool.false_eq_true, if_true, if_false, true_and, reduceCtorEq, Bool.true_eq_false, rgD_rgI, Option.some.injEq, exists_eq_left', and_true])
theorem v_is_same0 : VD g_is_same0 S_is_same0 2 2 := fun ds Q _ h => by
  obtain ⟨d, s, rfl, hd, hs, h⟩ := h
  unfold g_is_same0
  walk_at "dd"
  cases d with
  | str t =>
    walk_at "dd"
    exact ⟨hd t rfl, hs, by simpa only [PyData.eqv, isStr] using h⟩
  | _ => first | exact h | (walk_at "dd"; exact h)
theorem v_is_same : VD g_is_same S_is_same 2 2 := fun ds Q _ h => by
  rcases h with ⟨d, s, rfl, hd, hs, h⟩ | ⟨d, s, rfl, hd, hs, h⟩
  · unfold g_is_same
    walk_at "dd"
    cases d with
    | str t =>
      walk_at "dd"
      exact ⟨hd t rfl, hs, by simpa only [PyData.eqv, isStr] using h⟩
    | _ => first | exact h | (walk_at "dd"; exact h)
  · unfold g_is_same
    walk_at "dd"
    cases d with
    | tuple xs =>
      walk_at "dd"
      refine ⟨rfl, rfl, ?_⟩
      simp only [PyData.eqv]
      match xs, hd, h with
      | [], hd, h => walk_at "dd"; exact h
      | [x], hd, h =>
        walk_at "dd"
        unfold enD
        simp only [List.length_cons, List.length_nil, Nat.reduceAdd, List.range_one, List.zipWith_cons_cons, List.zipWith_nil_right, wpLc]
        walk_at "dd"
        refine ⟨Nat.succ_pos _, .str s, rfl, x, s, rfl, okS_of ((hd _ rfl).2.2 x (by simp)), hs, [isStr s x], rfl, ?_⟩
        simpa [isTup1] using h
      | x :: y :: r, hd, h =>
        have e : ¬ ((r.length : Int) + 1 + 1 = 1) := by omega
        simp [e]
        simpa [isTup1] using h
    | _ => first | exact h | (walk_at "dd"; exact h)
theorem v_is_told : VD g_is_told S_is_told 4 0 := fun ds Q _ h => by
  obtain ⟨d, s, m, n, rfl, ⟨hm, hn⟩, hd, hs, h⟩ := h
  unfold g_is_told
  walk_at "dd"
  cases d with
  | tuple xs =>
    walk_at "dd"
    refine ⟨rfl, rfl, ?_⟩
    simp only [PyData.eqv]
    match xs, hd, h with
    | [], hd, h =>
      refine ite_ways (fun e => h) (fun e => ?_)
      simp at e
      omega
    | x :: r, hd, h =>
      simp only [isTold] at h
      refine ite_ways (fun e => ?_) (fun e => ?_)
      · have e2 : ¬ ((r.length : Int) = m) := by
          intro z; simp at e; omega
        rw [show decide ((r.length : Int) = m) = false from by simpa using e2] at h
        exact h
      · have e2 : (r.length : Int) = m := by simp at e; omega
        rw [show decide ((r.length : Int) = m) = true from by simpa using e2] at h
        refine ⟨x, atI_zero, .inl ⟨x, s, rfl, okS_of ((hd _ rfl).2.2 x (by simp)), hs, ?_⟩⟩
        refine bool_ways (fun e3 => ?_) (fun e3 => ?_)
        · rw [e3] at h
          have cut : cutD (x :: r) (some 1) none = r := by
            unfold cutD HT.sIx
            have : min (Int.toNat 1) (r.length + 1) = 1 := by omega
            simp [this]
          rw [cut]
          refine ⟨_, m, n, rfl, fun xs e => ?_, hn, ?_⟩
          · cases e; have := (hd _ rfl).1; simp at this; omega
          · simpa using h
        · rw [e3] at h; exact h
  | _ => first | exact h | (walk_at "dd"; exact h)
def Fl (d : D) : Prop := d.canLay0 = true ∧ d.depth ≤ 3
theorem Fl.shaped {d : D} (h : Fl d) : SeqAt.shaped d = true := by
  unfold SeqAt.shaped
  rw [h.1, Bool.true_and, decide_eq_true_eq]
  have := h.2
  omega
end Dn.T
set_option Elab.async false
set_option linter.all false
set_option maxRecDepth 100000
set_option autoImplicit false
set_option maxHeartbeats 4000000
namespace Dn.T.G
open PySem L2 Evl PySem.Spec PyProof.Rows
local macro_rules | `(tactic| walk_at "dd") => `(tactic| simp only [sSeq, sIf, sSet, sRet, sRetN, sNx, sEx, sAsg, sPar, dTOr, dTAnd, dTNot, dTst, dIsi, dVar, dC, dBin, dChain, dNeg, dI2, dAnd, dOr, dNot, dIfE, dCall, dCallF, aCons, aNil, dTup, lLst, dOfL, xIm, xOw, gNm, gTp, gsCons, gsNil, dYes, envD, dLen_tR, dLen_tI, dLen_tup, dLen_lst, seq_tR, seq_tI, seq_tup, seq_lst, dIs, dIsNot, dNe, dEq, dTupOf, dSl, oNone, oSome, iSq, iEn, iR1, iR2, sFor, lLc, sNever, dTRg, rg1, rg2, lRg, wipeD, isN,
  gTpL, dIxP, sSub, dApp, dPopAt, dExt, dCallM, dCallO, dBinO, dTupO, lOf, lOfO, sRetO, iOw, dVarF, lCat, lCall, dAbs, dMax2, dMin2, dInt, atO, setO, MO.getL, MO.putL, Option.isSome_some,
  dInK, dGetK, dGetD, dInD, dGet1, lKeys, lSort, dLenSet, dLenSetL, dLenSet2, sPar3, dRevT, sPutK, xDct, xDct1, sRetK, atK, keyD, sAugI, dFld, sFldD, xRng, iRgO, dNew, dNewV, dCM, dProp, dMeth, dLenI, dStrO, dEqI, dIsC, dJoin, dJs, dFmt, dCallML, sSubI, gSubW, sWh, dTF, gIx, xProp, dRepU, dKeep2, lSortSet, lSortTu, lDc, dRepT, lRep, dStrI, xDctT1, xDctOf, dInT, sPutT, lSortT2, lSortDT, dPop, dBinR, dKeep, dCallMO, atT, dCallO,
  kit_int, kit_bool, kit_tuple, kit_str, List.map_cons, List.map_nil, List.cons_append, List.nil_append, List.replicate, List.set_cons_zero, List.set_cons_succ, List.getElem?_cons_zero, List.getElem?_cons_succ, List.length_cons, List.length_nil, List.length_map, Nat.reduceAdd, Nat.reduceSub, Bool.not_true, Bool.not_false, Bool.false_eq_true, if_true, if_false, true_and, reduceCtorEq, Bool.true_eq_false, rgD_rgI, Option.some.injEq, exists_eq_left', and_true])
theorem ixTR {n : Nat} {d : Int → Int → Int} {x : Int} {Q : D → Prop} (hx : In n x) (h : Q (tI ((rgI n).map (d x)))) : dIx (tR (tab n d)) (.int x) Q := by
  refine ixR hx.1 (by rw [tab_len]; exact hx.2) ?_
  rw [show (tab n d).getD x.toNat [] = (rgI n).map (d x) from row_g hx]; exact h
theorem rw_of {n : Nat} {g : F1} (h1 : 1 ≤ n) (h2 : n ≤ 24) (hr : ∀ x y, In n x → In n y → In n (g x y)) : Rw (tab n g) := by
  refine ⟨by rw [tab_len]; exact h1, by rw [tab_len]; exact h2, fun r hr' => ?_⟩
  rw [tab_len]
  unfold tab at hr'
  obtain ⟨x, hx, rfl⟩ := List.mem_map.mp hr'
  refine ⟨by simp [rgI_len], fun y hy => ?_⟩
  obtain ⟨z, hz, rfl⟩ := List.mem_map.mp hy
  exact hr x z (In.mem.1 hx) (In.mem.1 hz)
theorem g_one {n : Nat} {g : F1} {u : Int} (h : Gr n g u) : 1 ≤ n := by
  have := h.un
  unfold In at this
  omega
theorem g_rw {n : Nat} {g : F1} {u : Int} (h : G24 n g u) : Rw (tab n g) := rw_of (g_one h.1) (by have := h.2; omega) h.1.rg
theorem isRow_in {rs : List (List Int)} (h : Rw rs) {r : List Int} (hr : r ∈ rs) : isRow rs.length rs.length (tI r) = true := by
  unfold isRow tI
  obtain ⟨h1, h2⟩ := h.row r hr
  simp only [Bool.and_eq_true, decide_eq_true_eq, List.length_map, h1, List.all_map, List.all_eq_true, true_and]
  intro x hx
  exact isTh_in (h2 x hx).1 (h2 x hx).2 (by have := h.most; omega)
theorem v_is_square : VD g_is_square S_is_square 3 1 := fun ds Q _ h => by
  obtain ⟨n, g, rfl, hr, n1, n2, h⟩ := h
  have hr := rw_of n1 (by omega) hr
  generalize tab n g = rs at hr ⊢
  have h1 := hr.pos
  have h2 := hr.most
  unfold g_is_square tR
  walk_at "dd"
  rw [show decide ((1 : Int) ≤ (rs.length : Int)) = true from by simp; omega]
  walk_at "dd"
  rw [show decide ((rs.length : Int) ≤ 24) = true from by simp; omega]
  walk_at "dd"
  refine wpLc_map (fun _ => .bool true) (by simp; omega) rfl (fun d hd K hK => ?_) (fun _ _ _ => rfl) ?_
  · walk_at "dd"
    obtain ⟨r, hr1, rfl⟩ := List.mem_map.mp hd
    refine ⟨_, _, _, rfl, fun xs e => ?_, by first | omega | (simp; omega), ?_⟩
    · cases e; have := (hr.row r hr1).1; simp; omega
    · rw [show isRow (rs.length : Int) (rs.length : Int) (tI r) = true from by simpa using isRow_in hr hr1]
      exact hK _ rfl
  · refine ⟨(rs.map tI).map fun _ => true, by simp, ?_⟩
    rw [show ((rs.map tI).map fun _ => true).all id = true from by simp]
    exact h
theorem v__check_rows : VD g__check_rows S__check_rows 1 0 := fun ds Q _ h => by
  obtain ⟨n, g, u, rfl, hg, h⟩ := h
  unfold g__check_rows
  walk_at "dd"
  refine ⟨n, g, rfl, hg.1.rg, g_one hg.1, hg.2, ?_⟩
  try walk_at "dd"
  exact h
theorem v_unit_of : VD g_unit_of S_unit_of 1 3 := fun ds Q _ h => by
  obtain ⟨n, g, u, rfl, hg, h⟩ := h
  have hr := g_rw hg
  have hu := unit_g hg.1
  generalize tab n g = rs at hr hu ⊢
  have h1 := hr.pos
  have h2 := hr.most
  unfold g_unit_of
  walk_at "dd"
  refine ⟨⟨by omega, by omega, by omega, by omega⟩, ?_⟩
  simp only [tI_def]
  refine wpFor_fs (rgI rs.length) PyData.int (fun e => if isUnit rs e = true then some (.int e) else none) (fun ρ => ∃ x y, ρ = [some (.im (tR rs)), some (.im (tI (rgI rs.length))), x, y]) ⟨_, _, rfl⟩ (fun e he ρ K B hI hq hk => ?_) (fun v hv => ?_) (fun hn ρ hI => ?_)
  · obtain ⟨x, y, rfl⟩ := hI
    obtain ⟨e0, e1⟩ := mem_rgI.mp he
    walk_at "dd"
    refine ixR e0 e1 ?_
    refine ⟨shaped_tI _, shaped_tI _, ?_⟩
    rw [eqv_tI]
    refine ite_ways (fun z => ?_) (fun z => hk ?_ _ ⟨_, _, rfl⟩)
    · refine wpLc_mapL rs tI (fun r => .int (r.getD e.toNat 0)) (by omega) rfl (fun r hr' K' hK => ?_) (fun _ => rfl) ?_
      · walk_at "dd"
        exact ixI e0 (by rw [(hr.row r hr').1]; exact e1) (hK _ rfl)
      · walk_at "dd"
        rw [show (PyData.tuple (rs.map fun r => PyData.int (r.getD e.toNat 0))) = tI (rs.map fun r => r.getD e.toNat 0) from by unfold tI; simp]
        refine ⟨shaped_tI _, shaped_tI _, ?_⟩
        rw [eqv_tI]
        have iu : isUnit rs e = decide (rs.map (fun r => r.getD e.toNat 0) = rgI rs.length) := by unfold isUnit; rw [z]; simp
        refine ite_ways (fun z2 => hq _ ?_) (fun z2 => hk ?_ _ ⟨_, _, rfl⟩)
        · rw [iu, z2]; rfl
        · rw [iu, z2]; rfl
    · have iu : isUnit rs e = false := by unfold isUnit; rw [z]; rfl
      rw [iu]; rfl
  · rw [fs_find] at hv
    unfold unitOf at hu
    rw [hu] at hv; cases hv; exact h
  · rw [fs_find] at hn
    unfold unitOf at hu
    rw [hu] at hn; cases hn
theorem v_back_of : VD g_back_of S_back_of 3 2 := fun ds Q _ h => by
  obtain ⟨n, g, u, t, rfl, hg, ht, h⟩ := h
  have hr := g_rw hg
  obtain ⟨b, hb, _⟩ := back_g hg.1 ht
  rw [hb] at h
  have t0 := ht.1
  have t1 : t < (tab n g).length := by rw [tab_len]; exact ht.2
  clear ht
  generalize tab n g = rs at hr hb t1 ⊢
  unfold g_back_of
  walk_at "dd"
  refine ixR t0 t1 ?_
  walk_at "dd"
  rw [enD_map (rs.getD t.toNat []) PyData.int 0, hr.len t0 t1]
  refine wpFor_fs (rgI rs.length) (fun k => .tuple [.int k, .int (rc rs t k)]) (fun b => if (decide (rc rs t b = u) && decide (rc rs b t = u)) = true then some (.int b) else none) (fun ρ => ∃ x y, ρ = [some (.im (tR rs)), some (.im (.int u)), some (.im (.int t)), x, y]) ⟨_, _, rfl⟩ (fun b hb ρ K B hI hq hk => ?_) (fun v hv => ?_) (fun hn ρ hI => ?_)
  · obtain ⟨x, y, rfl⟩ := hI
    obtain ⟨b0, b1⟩ := mem_rgI.mp hb
    walk_at "dd"
    refine ⟨rfl, rfl, ?_⟩
    simp only [PyData.eqv]
    refine ite_ways (fun z => ?_) (fun z => hk ?_ _ ⟨_, _, rfl⟩)
    · refine ixRC hr b0 b1 t0 t1 ?_
      refine ⟨rfl, rfl, ?_⟩
      simp only [PyData.eqv]
      have z' : rc rs t b = u := by simpa using z
      refine ite_ways (fun z2 => hq _ ?_) (fun z2 => hk ?_ _ ⟨_, _, rfl⟩)
      · rw [if_pos (by simpa [z'] using z2)]
      · rw [if_neg (by simpa [z'] using z2)]
    · rw [if_neg (by intro q; simp at q z; exact z q.1)]
  · rw [fs_find] at hv
    unfold backOf at hb
    rw [hb] at hv; cases hv; exact h
  · rw [fs_find] at hn
    unfold backOf at hb
    rw [hb] at hn; cases hn
theorem v_broken_three : VD g_broken_three S_broken_three 1 6 := fun ds Q _ h => by
  obtain ⟨n, g, u, rfl, hg, h⟩ := h
  have hr := g_rw hg
  have h3 := three_g hg.1
  generalize tab n g = rs at hr h3 ⊢
  unfold g_broken_three
  walk_at "dd"
  rw [enD_map rs tI []]
  refine wpFor_fs (rgI rs.length) (fun k => .tuple [.int k, tI (rs.getD k.toNat [])]) (fun a => (rgI rs.length).findSome? fun b => (rgI rs.length).findSome? fun c => if rc rs (rc rs a b) c ≠ rc rs a (rc rs b c) then some (.tuple [.int a, .int b, .int c]) else none) (fun ρ => ∃ x1 x2 x3 x4 x5 x6, ρ = [some (.im (tR rs)), x1, x2, x3, x4, x5, x6]) ⟨_, _, _, _, _, _, rfl⟩ (fun a ha ρ K B hI hq hk => ?_) (fun v hv => ?_) (fun hn ρ hI => ?_)
  · obtain ⟨x1, x2, x3, x4, x5, x6, rfl⟩ := hI
    obtain ⟨a0, a1⟩ := mem_rgI.mp ha
    walk_at "dd"
    rw [enD_map (rs.getD a.toNat []) PyData.int 0, hr.len a0 a1]
    refine wpFor_fs (rgI rs.length) (fun k => .tuple [.int k, .int (rc rs a k)]) (fun b => (rgI rs.length).findSome? fun c => if rc rs (rc rs a b) c ≠ rc rs a (rc rs b c) then some (.tuple [.int a, .int b, .int c]) else none) (fun ρ => ∃ x3 x4 x5 x6, ρ = [some (.im (tR rs)), some (.im (.int a)), some (.im (tI (rs.getD a.toNat []))), x3, x4, x5, x6]) ⟨_, _, _, _, rfl⟩ (fun b hb ρ K B hI hq hk => ?_) (fun v hv => hq v hv) (fun hn ρ hI => ?_)
    · obtain ⟨x3, x4, x5, x6, rfl⟩ := hI
      obtain ⟨b0, b1⟩ := mem_rgI.mp hb
      walk_at "dd"
      refine ixR b0 b1 ?_
      walk_at "dd"
      rw [enD_map (rs.getD b.toNat []) PyData.int 0, hr.len b0 b1]
      refine wpFor_fs (rgI rs.length) (fun k => .tuple [.int k, .int (rc rs b k)]) (fun c => if rc rs (rc rs a b) c ≠ rc rs a (rc rs b c) then some (.tuple [.int a, .int b, .int c]) else none) (fun ρ => ∃ x5 x6, ρ = [some (.im (tR rs)), some (.im (.int a)), some (.im (tI (rs.getD a.toNat []))), some (.im (.int b)), some (.im (.int (rc rs a b))), x5, x6]) ⟨_, _, rfl⟩ (fun c hc ρ K B hI hq hk => ?_) (fun v hv => hq v hv) (fun hn ρ hI => ?_)
      · obtain ⟨x5, x6, rfl⟩ := hI
        obtain ⟨c0, c1⟩ := mem_rgI.mp hc
        walk_at "dd"
        obtain ⟨p0, p1⟩ := hr.rc a0 a1 b0 b1
        obtain ⟨q0, q1⟩ := hr.rc b0 b1 c0 c1
        refine ixRC hr p0 p1 c0 c1 ?_
        refine ixI q0 (by rw [hr.len a0 a1]; exact q1) ?_
        refine ⟨rfl, rfl, ?_⟩
        simp only [PyData.eqv]
        refine ite_ways (fun z => ⟨by decide, hq _ (if_pos (by simpa [rc] using z))⟩) (fun z => hk (if_neg (by simpa [rc] using z)) _ ⟨_, _, rfl⟩)
      · obtain ⟨x5, x6, rfl⟩ := hI
        exact hk hn _ ⟨_, _, _, _, rfl⟩
    · obtain ⟨x3, x4, x5, x6, rfl⟩ := hI
      exact hk hn _ ⟨_, _, _, _, _, _, rfl⟩
  · unfold threeOf at h3
    rw [h3] at hv; cases hv
  · exact h
theorem v_group_paper : VD g_group_paper S_group_paper 1 3 := fun ds Q _ h => by
  obtain ⟨n, g, u, rfl, hg, h⟩ := h
  have h1 := g_one hg.1
  have h2 := hg.2
  unfold g_group_paper
  walk_at "dd"
  refine ⟨n, g, u, rfl, hg, n, g, u, rfl, hg, ?_⟩
  try walk_at "dd"
  rw [tab_len]
  refine ⟨rgd (by omega), ?_⟩
  try rw [rgD_rgI]
  refine wpFor_inv (fun ρ => ∃ x y, ρ = [some (.im (tR (tab n g))), some (.im (.int u)), x, y]) ⟨_, _, rfl⟩ (fun d hd ρ K p k => ?_) (fun ρ p => ?_)
  · obtain ⟨x, y, rfl⟩ := p
    obtain ⟨a, ha, rfl⟩ := List.mem_map.mp hd
    try walk_at "dd"
    refine ⟨n, g, u, a, rfl, hg, In.mem.1 ha, ?_⟩
    try walk_at "dd"
    exact k _ ⟨_, _, rfl⟩
  · obtain ⟨x, y, rfl⟩ := p
    try walk_at "dd"
    refine ⟨n, g, u, rfl, hg, ?_⟩
    try walk_at "dd"
    exact ⟨by decide, h⟩
theorem v_backs_of : VD g_backs_of S_backs_of 2 1 := fun ds Q _ h => by
  obtain ⟨n, g, u, rfl, hg, h⟩ := h
  have h2 := hg.2
  unfold g_backs_of
  walk_at "dd"
  rw [tab_len]
  refine ⟨rgd (by omega), ?_⟩
  try rw [rgD_rgI]
  refine wpLc_mapL (rgI n) PyData.int (fun t => .int ((backOf (tab n g) u t).getD 0)) (by rw [rgI_len]; omega) rfl (fun t ht K hK => ?_) (fun _ => rfl) ?_
  · try walk_at "dd"
    exact ⟨n, g, u, t, rfl, hg, In.mem.1 ht, hK _ rfl⟩
  · try walk_at "dd"
    rw [tI_map]
    exact h
theorem cen_eq {n : Nat} {g : F1} : (rgI n).filter (fun k => decide ((tab n g).getD k.toNat [] = (tab n g).map fun r => r.getD k.toNat 0)) = cenL n g := by
  unfold cenL
  refine List.filter_congr fun k hk => ?_
  have hk := In.mem.1 hk
  rw [Bool.eq_iff_iff, decide_eq_true_eq, List.all_eq_true, row_g hk, col_g hk, List.map_inj_left]
  simp only [decide_eq_true_eq]
  exact ⟨fun h a ha => (h a ha).symm, fun h a ha => (h a ha).symm⟩
theorem v_centre_of : VD g_centre_of S_centre_of 1 3 := fun ds Q _ h => by
  obtain ⟨n, g, u, rfl, hg, h⟩ := h
  have hr := g_rw hg
  rw [← cen_eq] at h
  have nl := tab_len n g
  generalize tab n g = rs at hr h nl ⊢
  subst nl
  have r2 := hr.most
  unfold g_centre_of
  walk_at "dd"
  refine ⟨rgd (by omega), ?_⟩
  refine wpLc_mapL (rgI rs.length) PyData.int (fun t => tI (rs.map fun r => r.getD t.toNat 0)) (by rw [rgI_len]; omega) rfl (fun t ht K hK => ?_) (fun _ => rfl) ?_
  · obtain ⟨t0, t1⟩ := mem_rgI.mp ht
    try walk_at "dd"
    refine wpLc_mapL rs tI (fun r => .int (r.getD t.toNat 0)) (by omega) rfl (fun r hr' K' hK' => ?_) (fun _ => rfl) ?_
    · try walk_at "dd"
      exact ixI t0 (by rw [(hr.row r hr').1]; exact t1) (hK' _ rfl)
    · try walk_at "dd"
      rw [show (PyData.tuple (rs.map fun r => PyData.int (r.getD t.toNat 0))) = tI (rs.map fun r => r.getD t.toNat 0) from by unfold tI; simp]
      exact hK _ rfl
  · try walk_at "dd"
    rw [enD_map rs tI []]
    refine wpLc_filL (rgI rs.length) (fun k => .tuple [.int k, tI (rs.getD k.toNat [])]) PyData.int (fun k => decide (rs.getD k.toNat [] = rs.map fun r => r.getD k.toNat 0)) (by rw [rgI_len]; omega) rfl (fun k hk K N hK hN => ?_) ?_
    · obtain ⟨k0, k1⟩ := mem_rgI.mp hk
      try walk_at "dd"
      have kl : k.toNat < rs.length := by omega
      refine ⟨_, atI_in (d := .none) k0 (by simp [rgI_len]; omega), ?_⟩
      have eg : (List.map (fun t : Int => tI (List.map (fun r => r.getD t.toNat 0) rs)) (rgI rs.length)).getD k.toNat .none = tI (rs.map fun r => r.getD k.toNat 0) := by
        have kk : ((k.toNat : Nat) : Int) = k := by omega
        rw [List.getD_eq_getElem?_getD, List.getElem?_map, rgI_get kl, kk]
        rfl
      rw [eg]
      refine ⟨shaped_tI _, shaped_tI _, ?_⟩
      rw [eqv_tI]
      cases hz : decide (rs.getD k.toNat [] = rs.map fun r => r.getD k.toNat 0) with
      | true => exact hK hz _ rfl
      | false => exact hN hz _ rfl
    · try walk_at "dd"
      exact h
theorem putE_len (f : Str) (d : D) : ∀ es : List (Str × D), (putE f d es).length ≤ es.length + 1
  | [] => Nat.le_refl _
  | (g, x) :: r => by
    unfold putE
    split
    · exact Nat.le_succ _
    · exact Nat.succ_le_succ (putE_len f d r)
theorem putE_lt {f : Str} {d : D} {es : List (Str × D)} {k : Nat} (h : es.length < k) : (putE f d es).length < k + 1 := by
  have := putE_len f d es
  omega
theorem v_Group____init__ : VI "Group" g_Group____init__ S_Group____init__ 2 2 := fun l ds Q _ h => by
  obtain ⟨n, g, u, rfl, hg, h⟩ := h
  unfold g_Group____init__
  walk_at "dd"
  refine ⟨n, g, u, rfl, hg, ?_⟩
  try walk_at "dd"
  refine ⟨by decide, by decide +kernel, by decide +kernel, ?_⟩
  rw [if_neg (by decide +kernel)]
  refine ⟨n, g, u, rfl, hg, l, [], rfl, by decide, ?_⟩
  try walk_at "dd"
  refine ⟨l, _, rfl, Nat.lt_of_le_of_lt (putE_len _ _ _) (by decide), ?_⟩
  try walk_at "dd"
  refine ⟨n, g, u, rfl, hg, l, _, rfl, putE_lt (k := 999) (putE_lt (k := 998) (by decide)), ?_⟩
  try walk_at "dd"
  refine ⟨n, g, u, rfl, hg, l, _, rfl, putE_lt (k := 999) (putE_lt (k := 998) (putE_lt (k := 997) (by decide))), ?_⟩
  exact ⟨_, rfl, h⟩
theorem v_Group__unit : VD g_Group__unit S_Group__unit 1 0 := fun ds Q _ h => by
  obtain ⟨n, g, u, rfl, h⟩ := h
  unfold g_Group__unit
  walk_at "dd"
  exact ⟨_, _, rfl, rfl, h⟩
theorem v_Group____len__ : VD g_Group____len__ S_Group____len__ 1 0 := fun ds Q _ h => by
  obtain ⟨n, g, u, rfl, h⟩ := h
  unfold g_Group____len__
  walk_at "dd"
  refine ⟨_, _, rfl, rfl, ?_⟩
  rw [dLen_tR, tab_len]
  exact h
theorem tR_l {l : List Int} (f : Int → Int → Int) : PyData.tuple (l.map fun a => .tuple (l.map fun b => .int (f a b))) = tR (l.map fun a => l.map fun b => f a b) := by
  unfold tR tI
  simp only [List.map_map, Function.comp_def]
theorem v__law_cyclic : VD g__law_cyclic S__law_cyclic 1 2 := fun ds Q _ h => by
  obtain ⟨n, rfl, h1, h2, h⟩ := h
  unfold g__law_cyclic
  try walk_at "dd"
  refine ⟨rgd (by omega), ?_⟩
  refine wpLc_mapL (rgI n) PyData.int (fun a => .tuple ((rgI n).map fun b => .int ((a + b) % n))) (by rw [rgI_len]; omega) rfl (fun a ha K hK => ?_) (fun _ => rfl) ?_
  · try walk_at "dd"
    refine ⟨rgd (by omega), ?_⟩
    refine wpLc_mapL (rgI n) PyData.int (fun b => .int ((a + b) % n)) (by rw [rgI_len]; omega) rfl (fun b hb K hK => ?_) (fun _ => rfl) ?_
    · try walk_at "dd"
      exact ⟨(show (0:Int) < n by omega), hK _ rfl⟩
    · try walk_at "dd"
      exact hK _ rfl
  · try walk_at "dd"
    rw [tR_l fun a b => (a + b) % n]
    exact h
theorem v__law_direct : VD g__law_direct S__law_direct 2 0 := fun ds Q _ h => by
  obtain ⟨a, b, g, k, u, v, rfl, hg, hk, hl, h⟩ := h
  unfold g__law_direct
  try walk_at "dd"
  refine ⟨_, _, a, b, g, k, rfl, rfl, rfl, hg.rg, hk.rg, g_one hk, by omega, ?_⟩
  try walk_at "dd"
  first | exact h | exact ⟨_, rfl, h⟩
theorem v__law_turned_pairs : VD g__law_turned_pairs S__law_turned_pairs 1 5 := fun ds Q _ h => by
  obtain ⟨n, rfl, h1, h2, h⟩ := h
  unfold g__law_turned_pairs
  try walk_at "dd"
  refine ⟨by decide, cm_n (by decide) (by decide), ?_⟩
  rw [show ((2 : Int) * n) = ((2 * n : Nat) : Int) from by simp, rgD_rgI]
  refine ⟨rgd (by omega), ?_⟩
  refine wpFor_ap (rgI (2 * n)) PyData.int (fun a => tI ((rgI (2 * n)).map fun b => trnG n a b)) (fun acc ρ => ∃ x1 x2 x3 x4, ρ = [some (.im (.int n)), some (.ow (.lst acc)), x1, x2, x3, x4]) ⟨_, _, _, _, rfl⟩ (fun a ha acc ρ K p q r => ?_) (fun ρ p => ?_)
  · obtain ⟨x1, x2, x3, x4, rfl⟩ := p
    try walk_at "dd"
    refine ⟨by decide, cm_n (by decide) (by decide), ?_⟩
    rw [show ((2 : Int) * n) = ((2 * n : Nat) : Int) from by simp, rgD_rgI]
    refine ⟨rgd (by omega), ?_⟩
    refine wpFor_ap (rgI (2 * n)) PyData.int (fun b => .int (trnG n a b)) (fun acc2 ρ => ∃ x3 x4, ρ = [some (.im (.int n)), some (.ow (.lst acc)), some (.im (.int a)), some (.ow (.lst acc2)), x3, x4]) ⟨_, _, rfl⟩ (fun b hb acc2 ρ K p q2 r2 => ?_) (fun ρ p => ?_)
    · obtain ⟨x3, x4, rfl⟩ := p
      unfold trnG at r2
      try walk_at "dd"
      rw [rgI_len] at q2
      simp only [PyData.eqv, beq_iff_eq]
      refine ⟨by decide, rfl, rfl, ?_⟩
      by_cases z : a % 2 = 0
      · rw [if_pos z]
        simp only [if_pos z] at r2
        exact ⟨cd_t (by decide) (by decide), cd_t (by decide) (by decide), (show (0:Int) < n by omega), cm_r ⟨by decide, by decide⟩, (show (0:Int) < 2 by decide), by omega, r2 _ ⟨_, _, rfl⟩⟩
      · rw [if_neg z]
        simp only [if_neg z] at r2
        exact ⟨cd_t (by decide) (by decide), cd_t (by decide) (by decide), (show (0:Int) < n by omega), cm_r ⟨by decide, by decide⟩, (show (0:Int) < 2 by decide), by omega, r2 _ ⟨_, _, rfl⟩⟩
    · obtain ⟨x3, x4, rfl⟩ := p
      try walk_at "dd"
      rw [rgI_len] at q
      refine ⟨by omega, ?_⟩
      rw [tI_map]
      exact r _ ⟨_, _, _, _, rfl⟩
  · obtain ⟨x1, x2, x3, x4, rfl⟩ := p
    try walk_at "dd"
    rw [show ∀ f : Int → List Int, PyData.tuple ((rgI (2 * n)).map fun b => tI (f b)) = tR ((rgI (2 * n)).map f) from fun f => by unfold tR; simp only [List.map_map, Function.comp_def]]
    exact h
theorem atI_mapx {α : Type} (l : List α) (f : α → D) (d0 : α) {i : Int} (h0 : 0 ≤ i) (h1 : i < l.length) : atI (l.map f) i = some (f (l.getD i.toNat d0)) := by
  rw [atI_in (d := f d0) h0 (by simpa using h1)]
  have h2 : i.toNat < l.length := by omega
  simp [List.getD, List.getElem?_eq_getElem h2]
theorem qlen : ∀ a, a ∈ rgI 8 → (qTimes.getD (a / 2).toNat []).length = 4 := by decide +kernel
abbrev qD : D := .list (qTimes.map fun r => .list (r.map PyData.int))
def qe (a b : Int) : Int := gOf qTimes (a / 2) (b / 2) / 2 * 2 + (gOf qTimes (a / 2) (b / 2) + a + b) % 2
theorem qf_in : ∀ a, a ∈ rgI 8 → ∀ b, b ∈ rgI 8 → (0 ≤ gOf qTimes (a / 2) (b / 2) ∧ gOf qTimes (a / 2) (b / 2) < 8) := by decide +kernel
theorem v__law_quaternion_rows : VD g__law_quaternion_rows S__law_quaternion_rows 0 7 := fun ds Q _ h => by
  obtain ⟨rfl, h⟩ := h
  unfold g__law_quaternion_rows
  try walk_at "dd"
  refine ⟨by decide, by decide, by decide, by decide, by decide, by decide, ⟨by decide, by decide, by decide, by decide⟩, ?_⟩
  rw [show rgD 0 8 = (rgI 8).map PyData.int from rgD_rgI 8]
  refine wpFor_ap (rgI 8) PyData.int (fun a => tI ((rgI 8).map fun b => qe a b)) (fun acc ρ => ∃ x1 x2 x3 x4 x5, ρ = [some (.im qD), some (.ow (.lst acc)), x1, x2, x3, x4, x5]) ⟨_, _, _, _, _, rfl⟩ (fun a ha acc ρ K p q r => ?_) (fun ρ p => ?_)
  · obtain ⟨x1, x2, x3, x4, x5, rfl⟩ := p
    obtain ⟨a0, a1⟩ := mem_rgI.mp ha
    try walk_at "dd"
    refine ⟨by decide, ⟨by decide, by decide, by decide, by decide⟩, ?_⟩
    rw [show rgD 0 8 = (rgI 8).map PyData.int from rgD_rgI 8]
    refine wpFor_ap (rgI 8) PyData.int (fun b => .int (qe a b)) (fun acc2 ρ => ∃ x3 x4 x5, ρ = [some (.im qD), some (.ow (.lst acc)), some (.im (.int a)), some (.ow (.lst acc2)), x3, x4, x5]) ⟨_, _, _, rfl⟩ (fun b hb acc2 ρ K p q2 r2 => ?_) (fun ρ p => ?_)
    · obtain ⟨x3, x4, x5, rfl⟩ := p
      obtain ⟨b0, b1⟩ := mem_rgI.mp hb
      try walk_at "dd"
      rw [rgI_len] at q2
      have fi := qf_in a ha b hb
      have e1 : CDivW a 2 := cd_t (by decide) (by decide)
      have e2 : CDivW b 2 := cd_t (by decide) (by decide)
      refine ⟨e1, _, atI_mapx qTimes (fun r => .list (r.map PyData.int)) [] (by omega) (show a / 2 < 4 by omega), e2, _, atI_mapx (qTimes.getD (a / 2).toNat []) PyData.int 0 (by omega) (by rw [qlen a ha]; omega), ?_⟩
      rw [show (qTimes.getD (a / 2).toNat []).getD (b / 2).toNat 0 = gOf qTimes (a / 2) (b / 2) from rfl]
      generalize hv : gOf qTimes (a / 2) (b / 2) = v at fi
      have r3 := r2 _ ⟨some (.im (.int b)), some (.im (.list ((qTimes.getD (a / 2).toNat []).map PyData.int))), some (.im (.int v)), rfl⟩
      unfold qe at r3
      rw [hv] at r3
      exact ⟨cd_t (by decide) (by decide), cm_r ⟨by decide, by decide⟩, (show (0:Int) < 2 by decide), by omega, r3⟩
    · obtain ⟨x3, x4, x5, rfl⟩ := p
      try walk_at "dd"
      rw [rgI_len] at q
      refine ⟨by omega, ?_⟩
      rw [tI_map]
      exact r _ ⟨_, _, _, _, _, rfl⟩
  · obtain ⟨x1, x2, x3, x4, x5, rfl⟩ := p
    try walk_at "dd"
    rw [show ∀ f : Int → List Int, PyData.tuple ((rgI 8).map fun b => tI (f b)) = tR ((rgI 8).map f) from fun f => by unfold tR; simp only [List.map_map, Function.comp_def]]
    exact h
theorem v__law_renamed_group : VD g__law_renamed_group S__law_renamed_group 2 3 := fun ds Q _ h => by
  obtain ⟨n, g, u, m, rfl, hg, hm, h⟩ := h
  have n2 := hg.2
  have ml := hm.len
  have hi := inv_mv hm
  have mm : ∀ x, x ∈ m → In n x := fun x hx => In.mem.1 (hm.mem_iff.mp hx)
  unfold g__law_renamed_group
  walk_at "dd"
  refine ⟨n, m, ⟨_, rfl, rfl⟩, hm, by omega, ?_⟩
  try walk_at "dd"
  refine wpLc_mapL m PyData.int (fun x => tI (m.map fun y => im (inv m) (g x y))) (by omega) rfl (fun x hx K hK => ?_) (fun _ => rfl) ?_
  · try walk_at "dd"
    refine wpLc_mapL m PyData.int (fun y => .int (im (inv m) (g x y))) (by omega) rfl (fun y hy K2 hK2 => ?_) (fun _ => rfl) ?_
    · try walk_at "dd"
      exact ixTR (mm x hx) (ixY (mm y hy) (ixM hi (hg.1.rg _ _ (mm x hx) (mm y hy)) (hK2 _ rfl)))
    · try walk_at "dd"
      rw [tI_map]
      exact hK _ rfl
  · try walk_at "dd"
    rw [show ∀ f : Int → List Int, PyData.tuple (m.map fun b => tI (f b)) = tR (m.map f) from fun f => by unfold tR; simp only [List.map_map, Function.comp_def]]
    rw [show (m.map fun x => m.map fun y => im (inv m) (g x y)) = tab n (renG g m) from ?_]
    · exact h
    · conv => lhs; rw [mv_self hm]
      unfold tab renG
      rw [List.map_map]
      refine List.map_congr_left fun x hx => ?_
      show (((rgI n).map (im m)).map fun y => im (inv ((rgI n).map (im m))) (g (im m x) y)) = _
      rw [← mv_self hm, mv_self hm, List.map_map, ← mv_self hm]
      rfl
theorem v__law_unit : VD g__law_unit S__law_unit 1 1 := fun ds Q _ h => by
  obtain ⟨n, g, u, rfl, hg, h⟩ := h
  have n2 := hg.2
  unfold g__law_unit
  walk_at "dd"
  rw [tab_len]
  refine ⟨rgd (by omega), ?_⟩
  try rw [rgD_rgI]
  refine wpLc_filL (rgI n) PyData.int PyData.int (fun a => decide (g a a = a)) (by rw [rgI_len]; omega) rfl (fun a ha K N hK hN => ?_) ?_
  · have ha := In.mem.1 ha
    try walk_at "dd"
    refine ixTR ha (ixY ha ⟨rfl, rfl, ?_⟩)
    rw [eqv_int]
    cases hz : decide (g a a = a) with
    | true => exact hK hz _ rfl
    | false => exact hN hz _ rfl
  · try walk_at "dd"
    have um : u ∈ (rgI n).filter (fun a => decide (g a a = a)) := List.mem_filter.mpr ⟨In.mem.2 hg.1.un, by simpa using (hg.1.idem hg.1.un).2 rfl⟩
    cases hl : (rgI n).filter (fun a => decide (g a a = a)) with
    | nil => rw [hl] at um; cases um
    | cons x r =>
      have hx : x ∈ (rgI n).filter (fun a => decide (g a a = a)) := by rw [hl]; exact List.mem_cons_self
      obtain ⟨h1, h2⟩ := List.mem_filter.mp hx
      have e := (hg.1.idem (In.mem.1 h1)).1 (by simpa using h2)
      subst e
      exact ⟨_, atI_zero, h⟩
theorem lay_ints : ∀ ns : List Int, PyData.canLayAll0 (ns.map PyData.int) = true
  | [] => rfl
  | x :: ns => by
    simp only [List.map_cons, PyData.canLayAll0, PyData.canLay0, Bool.true_and]
    exact lay_ints ns
theorem idx_back {n : Nat} {g : F1} {u x : Int} (hg : Gr n g u) (hx : In n x) : u ∈ (rgI n).map (g x) ∧ ((((rgI n).map (g x)).idxOf u : Nat) : Int) = (backOf (tab n g) u x).getD 0 := by
  obtain ⟨b, eb, hb, e1, e2⟩ := back_g hg hx
  have m : u ∈ (rgI n).map (g x) := List.mem_map.mpr ⟨b, In.mem.2 hb, e1⟩
  refine ⟨m, ?_⟩
  rw [eb]
  have lt := List.idxOf_lt_length_of_mem m
  have e := List.getElem_idxOf lt
  have e : ((rgI n).map (g x))[((rgI n).map (g x)).idxOf u]? = some u := by rw [List.getElem?_eq_getElem lt, e]
  rw [List.length_map, rgI_len] at lt
  generalize ((rgI n).map (g x)).idxOf u = j at lt e
  have hjn : In n (j : Int) := ⟨by omega, by omega⟩
  have : g x (j : Int) = u := by
    have e3 : ((rgI n).map (g x)).getD ((j : Int)).toNat 0 = g x j := map_at hjn
    rw [Int.toNat_natCast, List.getD_eq_getElem?_getD, e] at e3
    exact e3.symm
  exact hg.lc hx hjn hb (this.trans e1.symm)
theorem v__law_inverse : VD g__law_inverse S__law_inverse 2 0 := fun ds Q _ h => by
  obtain ⟨n, g, u, x, rfl, hg, hx, h⟩ := h
  unfold g__law_inverse
  walk_at "dd"
  obtain ⟨m, e⟩ := idx_back hg.1 hx
  refine ixTR hx ?_
  refine ⟨_, rfl, n, g, u, rfl, hg, lay_ints _, rfl, by show 0 ≤ 60; decide, _, place_map eqv_int m, ?_⟩
  rw [e]
  exact h
theorem v_Group__rows : VD g_Group__rows S_Group__rows 1 0 := fun ds Q _ h => by
  obtain ⟨n, g, u, rfl, h⟩ := h
  unfold g_Group__rows
  walk_at "dd"
  exact ⟨_, _, rfl, rfl, h⟩
end Dn.T.G
set_option Elab.async false
set_option linter.all false
set_option maxRecDepth 100000
set_option autoImplicit false
set_option maxHeartbeats 400000
namespace Dn.T.G
open PySem L2 Evl PySem.Spec PyProof.Rows
structure Db (n : Nat) (p : F1) (u : Int) (t : F1) : Prop where
  gr : Gr n p u
  tin : ∀ a b, In n a → In n b → In n (t a b)
  inj : ∀ a b c, In n a → In n b → In n c → t a b = t a c → b = c
  hom : ∀ a b c, In n a → In n b → In n c → t a (p b c) = p (t a b) (t a c)
  jn : ∀ a b c, In n a → In n b → In n c → t (p a (t a b)) c = t a (t b c)
def ciF (p t : F1) : F1 := fun a b => p a (t a b)
section
variable {n : Nat} {p t : F1} {u : Int} (h : Db n p u t)
include h
theorem Db.mv {a : Int} (ha : In n a) : Mv n ((rgI n).map (t a)) := mv_map (fun y a' b => h.tin a y ha ⟨a', b⟩) fun y z a' b c e q => h.inj a y z ha ⟨a', b⟩ ⟨c, e⟩ q
theorem Db.tu {a : Int} (ha : In n a) : t a u = u := by
  have hu := h.gr.un
  refine (h.gr.idem (h.tin a u ha hu)).1 ?_
  rw [← h.hom a u u ha hu hu, h.gr.ul u hu]
theorem Db.ut {b : Int} (hb : In n b) : t u b = b := by
  have hu := h.gr.un
  have e := h.jn u u b hu hu hb
  rw [h.tu hu, h.gr.ul u hu] at e
  exact (h.inj u _ _ hu hb (h.tin u b hu hb) e).symm
theorem Db.sur {a b : Int} (ha : In n a) (hb : In n b) : ∃ c, In n c ∧ t a c = b := by
  have m := h.mv ha
  have : b ∈ (rgI n).map (t a) := m.mem_iff.mpr (In.mem.2 hb)
  obtain ⟨c, hc, e⟩ := List.mem_map.mp this
  exact ⟨c, In.mem.1 hc, e⟩
theorem Db.ci : Gr n (ciF p t) u := by
  have g := h.gr
  have hu := g.un
  have rg : ∀ x y, In n x → In n y → In n (ciF p t x y) := fun x y hx hy => g.rg _ _ hx (h.tin x y hx hy)
  have as : ∀ x y z, In n x → In n y → In n z → ciF p t (ciF p t x y) z = ciF p t x (ciF p t y z) := fun x y z hx hy hz => by
    show p (p x (t x y)) (t (p x (t x y)) z) = p x (t x (p y (t y z)))
    rw [h.jn x y z hx hy hz, h.hom x y _ hx hy (h.tin y z hy hz), g.as _ _ _ hx (h.tin x y hx hy) (h.tin x _ hx (h.tin y z hy hz))]
  have ul : ∀ x, In n x → ciF p t u x = x := fun x hx => by
    show p u (t u x) = x
    rw [h.ut hx, g.ul x hx]
  have ur : ∀ x, In n x → ciF p t x u = x := fun x hx => by
    show p x (t x u) = x
    rw [h.tu hx, g.ur x hx]
  have ri : ∀ x, In n x → ∃ y, In n y ∧ ciF p t x y = u := fun x hx => by
    obtain ⟨w, hw, e1, _⟩ := g.iv x hx
    obtain ⟨y, hy, e⟩ := h.sur hx hw
    exact ⟨y, hy, by show p x (t x y) = u; rw [e, e1]⟩
  refine ⟨rg, hu, ul, ur, as, fun x hx => ?_⟩
  obtain ⟨y, hy, e⟩ := ri x hx
  obtain ⟨z, hz, e2⟩ := ri y hy
  have : x = z := by
    have q := as x y z hx hy hz
    rw [e, e2, ul z hz, ur x hx] at q
    exact q.symm
  exact ⟨y, hy, e, by rw [this]; exact e2⟩
theorem Db.rule {a b c k : Int} (ha : In n a) (hb : In n b) (hc : In n c) (hk : In n k) (e : p k a = u) : ciF p t a (p b c) = p (p (ciF p t a b) k) (ciF p t a c) := by
  have g := h.gr
  show p a (t a (p b c)) = p (p (p a (t a b)) k) (p a (t a c))
  have h1 := h.tin a b ha hb
  have h2 := h.tin a c ha hc
  rw [h.hom a b c ha hb hc, g.as _ k _ (g.rg _ _ ha h1) hk (g.rg _ _ ha h2), ← g.as k a _ hk ha h2, e, g.ul _ h2, g.as _ _ _ ha h1 h2]
theorem Db.back {a b k : Int} (ha : In n a) (hb : In n b) (hk : In n k) (e : p k a = u) : p k (ciF p t a b) = t a b := by
  have g := h.gr
  show p k (p a (t a b)) = t a b
  rw [← g.as k a _ hk ha (h.tin a b ha hb), e, g.ul _ (h.tin a b ha hb)]
end
theorem Db.ext {n : Nat} {p p' t t' : F1} {u : Int} (h : Db n p u t) (ep : ∀ x y, In n x → In n y → p x y = p' x y) (et : ∀ x y, In n x → In n y → t x y = t' x y) : Db n p' u t' := by
  have g := h.gr
  have g' : Gr n p' u := ⟨fun x y hx hy => by rw [← ep x y hx hy]; exact g.rg x y hx hy, g.un, fun x hx => by rw [← ep u x g.un hx]; exact g.ul x hx, fun x hx => by rw [← ep x u hx g.un]; exact g.ur x hx,
    fun x y z hx hy hz => by
      rw [← ep x y hx hy, ← ep y z hy hz, ← ep _ z (g.rg x y hx hy) hz, ← ep x _ hx (g.rg y z hy hz)]
      exact g.as x y z hx hy hz, fun x hx => by
      obtain ⟨y, hy, a, b⟩ := g.iv x hx
      exact ⟨y, hy, by rw [← ep x y hx hy]; exact a, by rw [← ep y x hy hx]; exact b⟩⟩
  refine ⟨g', fun a b ha hb => by rw [← et a b ha hb]; exact h.tin a b ha hb, fun a b c ha hb hc e => h.inj a b c ha hb hc (by rw [et a b ha hb, et a c ha hc]; exact e), fun a b c ha hb hc => ?_, fun a b c ha hb hc => ?_⟩
  · rw [← ep b c hb hc, ← et a _ ha (g.rg b c hb hc), ← et a b ha hb, ← et a c ha hc, ← ep _ _ (h.tin a b ha hb) (h.tin a c ha hc)]
    exact h.hom a b c ha hb hc
  · have h1 := h.tin a b ha hb
    rw [← et a b ha hb, ← ep a _ ha h1, ← et _ c (g.rg a _ ha h1) hc, ← et b c hb hc, ← et a _ ha (h.tin b c hb hc)]
    exact h.jn a b c ha hb hc
theorem db_plain {n : Nat} {p : F1} {u : Int} (g : Gr n p u) : Db n p u (fun _ b => b) :=
  ⟨g, fun _ _ _ hb => hb, fun _ _ _ _ _ _ e => e, fun _ _ _ _ _ _ => rfl, fun _ _ _ _ _ _ => rfl⟩
theorem db_about {n : Nat} {p : F1} {u : Int} (g : Gr n p u) {k : Int → Int} (hk : ∀ a, In n a → In n (k a) ∧ p (k a) a = u ∧ p a (k a) = u) : Db n p u (fun a b => p (p (k a) b) a) := by
  have ki : ∀ {a b : Int}, In n a → In n b → k (p b a) = p (k a) (k b) := fun {a b} ha hb => by
    obtain ⟨k1, k2, _⟩ := hk _ (g.rg b a hb ha)
    obtain ⟨a1, a2, a3⟩ := hk a ha
    obtain ⟨b1, b2, b3⟩ := hk b hb
    refine g.rc (g.rg b a hb ha) k1 (g.rg _ _ a1 b1) ?_
    rw [k2, g.as _ _ _ a1 b1 (g.rg b a hb ha), ← g.as (k b) b a b1 hb ha, b2, g.ul a ha, a2]
  refine ⟨g, fun a b ha hb => g.rg _ _ (g.rg _ _ (hk a ha).1 hb) ha, fun a b c ha hb hc e => ?_, fun a b c ha hb hc => ?_, fun a b c ha hb hc => ?_⟩
  · have k1 := (hk a ha).1
    exact g.lc k1 hb hc (g.rc ha (g.rg _ _ k1 hb) (g.rg _ _ k1 hc) e)
  · obtain ⟨k1, k2, k3⟩ := hk a ha
    have r1 := g.rg _ _ k1 hb
    have r2 := g.rg _ _ k1 hc
    rw [g.as (p (k a) b) a _ r1 ha (g.rg _ _ r2 ha), ← g.as a (p (k a) c) a ha r2 ha, ← g.as a (k a) c ha k1 hc, k3, g.ul c hc, ← g.as (p (k a) b) c a r1 hc ha, g.as (k a) b c k1 hb hc]
  · obtain ⟨k1, k2, k3⟩ := hk a ha
    obtain ⟨b1, b2, b3⟩ := hk b hb
    have e : p a (p (p (k a) b) a) = p b a := by rw [← g.as a (p (k a) b) a ha (g.rg _ _ k1 hb) ha, ← g.as a (k a) b ha k1 hb, k3, g.ul b hb]
    show p (p (k (p a (p (p (k a) b) a))) c) (p a (p (p (k a) b) a)) = _
    rw [e, ki ha hb]
    have r := g.rg _ _ b1 hc
    rw [g.as (k a) (k b) c k1 b1 hc, ← g.as (p (k a) (p (k b) c)) b a (g.rg _ _ k1 r) hb ha, g.as (k a) (p (k b) c) b k1 r hb]
theorem db_dir {a b : Nat} {p k t s : F1} {u v : Int} (h : Db a p u t) (i : Db b k v s) : Db (a * b) (dirG b p k) (pairN b u v) (dirG b t s) := by
  refine ⟨gr_dir h.gr i.gr, fun x y hx hy => ?_, fun x y z hx hy hz e => ?_, fun x y z hx hy hz => ?_, fun x y z hx hy hz => ?_⟩
  · exact inPair (h.tin _ _ (dvIn hx).1 (dvIn hy).1) (i.tin _ _ (dvIn hx).2 (dvIn hy).2)
  · have e1 := congrArg (fun w => w / (b : Int)) e
    have e2 := congrArg (fun w => w % (b : Int)) e
    unfold dirG at e1 e2
    try dsimp only at e1 e2
    rw [dvPair (i.tin _ _ (dvIn hx).2 (dvIn hy).2), dvPair (i.tin _ _ (dvIn hx).2 (dvIn hz).2)] at e1
    rw [mdPair (i.tin _ _ (dvIn hx).2 (dvIn hy).2), mdPair (i.tin _ _ (dvIn hx).2 (dvIn hz).2)] at e2
    rw [← pairDv (b := b) y, ← pairDv (b := b) z, h.inj _ _ _ (dvIn hx).1 (dvIn hy).1 (dvIn hz).1 e1, i.inj _ _ _ (dvIn hx).2 (dvIn hy).2 (dvIn hz).2 e2]
  · have r1 := i.gr.rg _ _ (dvIn hy).2 (dvIn hz).2
    have s1 := i.tin _ _ (dvIn hx).2 (dvIn hy).2
    have s2 := i.tin _ _ (dvIn hx).2 (dvIn hz).2
    unfold dirG
    rw [dvPair r1, mdPair r1, dvPair s1, mdPair s1, dvPair s2, mdPair s2, h.hom _ _ _ (dvIn hx).1 (dvIn hy).1 (dvIn hz).1, i.hom _ _ _ (dvIn hx).2 (dvIn hy).2 (dvIn hz).2]
  · have s1 := i.tin _ _ (dvIn hx).2 (dvIn hy).2
    have r1 := i.gr.rg _ _ (dvIn hx).2 s1
    have s2 := i.tin _ _ (dvIn hy).2 (dvIn hz).2
    unfold dirG
    rw [dvPair s1, mdPair s1, dvPair r1, mdPair r1, dvPair s2, mdPair s2, h.jn _ _ _ (dvIn hx).1 (dvIn hy).1 (dvIn hz).1, i.jn _ _ _ (dvIn hx).2 (dvIn hy).2 (dvIn hz).2]
theorem db_ren {n : Nat} {p t : F1} {u : Int} {m : List Int} (h : Db n p u t) (hm : Mv n m) : Db n (renG p m) (im (inv m) u) (renG t m) := by
  have hi := inv_mv hm
  have M : ∀ {x}, In n x → In n (im m x) := fun hx => mv_in hm hx
  have R : ∀ {f : F1} {x y : Int}, In n (f (im m x) (im m y)) → im m (renG f m x y) = f (im m x) (im m y) := fun hf => inv_r hm hf
  refine ⟨gr_ren h.gr hm, fun x y hx hy => mv_in hi (h.tin _ _ (M hx) (M hy)), fun x y z hx hy hz e => ?_, fun x y z hx hy hz => ?_, fun x y z hx hy hz => ?_⟩
  · exact mv_inj hm hy hz (h.inj _ _ _ (M hx) (M hy) (M hz) (mv_inj hi (h.tin _ _ (M hx) (M hy)) (h.tin _ _ (M hx) (M hz)) e))
  · show im (inv m) (t (im m x) (im m (renG p m y z))) = im (inv m) (p (im m (renG t m x y)) (im m (renG t m x z)))
    rw [R (h.gr.rg _ _ (M hy) (M hz)), R (h.tin _ _ (M hx) (M hy)), R (h.tin _ _ (M hx) (M hz)), h.hom _ _ _ (M hx) (M hy) (M hz)]
  · have e1 : im m (renG p m x (renG t m x y)) = p (im m x) (t (im m x) (im m y)) := by
      rw [R (x := x) (y := renG t m x y) (by rw [R (h.tin _ _ (M hx) (M hy))]; exact h.gr.rg _ _ (M hx) (h.tin _ _ (M hx) (M hy))), R (h.tin _ _ (M hx) (M hy))]
    show im (inv m) (t (im m (renG p m x (renG t m x y))) (im m z)) = im (inv m) (t (im m x) (im m (renG t m y z)))
    rw [e1, R (h.tin _ _ (M hy) (M hz)), h.jn _ _ _ (M hx) (M hy) (M hz)]
def mirT (n : Nat) : F1 := fun a b => pairN 2 (if a % 2 = 0 then b / 2 else (0 - b / 2) % n) (b % 2)
theorem mod2 (x : Int) : In 2 (x % 2) := ⟨by omega, by show x % 2 < 2; omega⟩
theorem mir_in {n : Nat} (h : 1 ≤ n) {a x : Int} (hx : In n x) : In n (if a % 2 = 0 then x else (0 - x) % n) := by
  split
  · exact hx
  · exact inMod h _
theorem neg_neg_mod {n : Nat} (h : 1 ≤ n) {x : Int} (hx : In n x) : (0 - (0 - x) % (n : Int)) % n = x := by
  have e := Int.emod_add_mul_ediv (0 - x) n
  rw [congN (n := (n : Int)) (a := 0 - (0 - x) % (n : Int)) (b := x) ((0 - x) / (n : Int)) (by omega)]
  exact modIn hx
theorem neg_add_mod {n : Nat} (h : 1 ≤ n) {x y : Int} : (0 - (x + y) % (n : Int)) % n = ((0 - x) % n + (0 - y) % n) % n := by
  have e1 := Int.emod_add_mul_ediv (x + y) n
  have e2 := Int.emod_add_mul_ediv (0 - x) n
  have e3 := Int.emod_add_mul_ediv (0 - y) n
  refine congN ((x + y) / n + (0 - x) / n + (0 - y) / n) ?_
  rw [Int.mul_add, Int.mul_add]
  omega
theorem db_mir {n : Nat} (h : 1 ≤ n) : Db (n * 2) (dirG 2 (cyG n) (cyG 2)) (pairN 2 0 0) (mirT n) := by
  have dv : ∀ a b : Int, mirT n a b / 2 = (if a % 2 = 0 then b / 2 else (0 - b / 2) % n) := fun a b => dvPair (b := 2) (mod2 b)
  have md : ∀ a b : Int, mirT n a b % 2 = b % 2 := fun a b => by
    have := mdPair (b := 2) (i := if a % 2 = 0 then b / 2 else (0 - b / 2) % n) (mod2 b)
    exact this
  have gv : ∀ a b : Int, dirG 2 (cyG n) (cyG 2) a b / 2 = (a / 2 + b / 2) % n := fun a b => dvPair (b := 2) (inMod (n := 2) (by decide) _)
  have gm : ∀ a b : Int, dirG 2 (cyG n) (cyG 2) a b % 2 = (a % 2 + b % 2) % 2 := fun a b => mdPair (b := 2) (i := (a / 2 + b / 2) % n) (inMod (n := 2) (by decide) _)
  refine ⟨gr_dir (gr_cyc h) (gr_cyc (by decide)), fun a b ha hb => ?_, fun a b c ha hb hc e => ?_, fun a b c ha hb hc => ?_, fun a b c ha hb hc => ?_⟩
  · exact inPair (mir_in h (dvIn hb).1) (mod2 b)
  · have e1 := congrArg (fun w : Int => w / 2) e
    have e2 := congrArg (fun w : Int => w % 2) e
    simp only [dv, md] at e1 e2
    refine ext2 ?_ e2
    by_cases z : a % 2 = 0
    · simpa only [if_pos z] using e1
    · simp only [if_neg z] at e1
      have := congrArg (fun w : Int => (0 - w) % (n : Int)) e1
      have hb' : In n (b / 2) := (dvIn hb).1
      have hc' : In n (c / 2) := (dvIn hc).1
      try dsimp only at this
      rwa [neg_neg_mod h hb', neg_neg_mod h hc'] at this
  · refine ext2 ?_ ?_
    · rw [dv, gv, gv, dv, dv]
      by_cases z : a % 2 = 0
      · simp only [if_pos z]
      · simp only [if_neg z]
        exact neg_add_mod h
    · rw [md, gm, gm, md, md]
  · refine ext2 ?_ ?_
    · rw [dv, gm, dv, dv, md]
      by_cases z : a % 2 = 0
      · by_cases y : b % 2 = 0
        · rw [if_pos (show (a % 2 + b % 2) % 2 = 0 by omega), if_pos z, if_pos y]
        · rw [if_neg (show ¬ (a % 2 + b % 2) % 2 = 0 by omega), if_pos z, if_neg y]
      · by_cases y : b % 2 = 0
        · rw [if_neg (show ¬ (a % 2 + b % 2) % 2 = 0 by omega), if_neg z, if_pos y]
        · rw [if_pos (show (a % 2 + b % 2) % 2 = 0 by omega), if_neg z, if_neg y, neg_neg_mod h (show In n (c / 2) from (dvIn hc).1)]
    · rw [md, md, md]
def ringT (n s : Int) : F1 := fun a b => (b + s * a * b) % n
def dbB (n : Nat) (p t : F1) : Bool :=
  (rgI n).all fun a => (rgI n).all fun b => inB n (t a b) && (rgI n).all fun c => (!decide (t a b = t a c) || decide (b = c)) && (decide (t a (p b c) = p (t a b) (t a c)) && decide (t (p a (t a b)) c = t a (t b c)))
theorem db_of {n : Nat} {p t : F1} {u : Int} (g : Gr n p u) (h : dbB n p t = true) : Db n p u t := by
  unfold dbB at h
  simp only [List.all_eq_true, Bool.and_eq_true, Bool.or_eq_true, Bool.not_eq_true', decide_eq_true_eq, decide_eq_false_iff_not, inB_iff] at h
  refine ⟨g, fun a b ha hb => (h a (In.mem.2 ha) b (In.mem.2 hb)).1, fun a b c ha hb hc e => ?_, fun a b c ha hb hc => ((h a (In.mem.2 ha) b (In.mem.2 hb)).2 c (In.mem.2 hc)).2.1, fun a b c ha hb hc => ((h a (In.mem.2 ha) b (In.mem.2 hb)).2 c (In.mem.2 hc)).2.2⟩
  rcases ((h a (In.mem.2 ha) b (In.mem.2 hb)).2 c (In.mem.2 hc)).1 with q | q
  · exact absurd e q
  · exact q
theorem db_ring {n : Nat} {s : Int} (h : (n = 4 ∧ s = 2) ∨ (n = 8 ∧ s = 2) ∨ (n = 8 ∧ s = 4) ∨ (n = 8 ∧ s = 6) ∨ (n = 9 ∧ s = 3) ∨ (n = 9 ∧ s = 6)) : Db n (cyG n) 0 (ringT n s) := by
  rcases h with ⟨rfl, rfl⟩ | ⟨rfl, rfl⟩ | ⟨rfl, rfl⟩ | ⟨rfl, rfl⟩ | ⟨rfl, rfl⟩ | ⟨rfl, rfl⟩ <;> exact db_of (gr_cyc (by decide)) (by decide +kernel)
end Dn.T.G
set_option Elab.async false
set_option linter.all false
set_option maxRecDepth 100000
set_option autoImplicit false
set_option maxHeartbeats 4000000
namespace Dn.T.G.B
open PySem L2 Evl PySem.Spec PyProof.Rows
def dblF (n : Nat) (p : F1) (u : Int) (t : F1) : List (Str × D) := [("_plus", grpD n p u), ("_circle", grpD n (ciF p t) u), ("_backs", tI (bkL n p u)), ("_turns", tR (tab n t))]
def dblD (n : Nat) (p : F1) (u : Int) (t : F1) : D := obD "Double" (dblF n p u t)
def ldD (n : Nat) (p t : F1) : D := .list [tR (tab n p), tL (tab n t)]
abbrev D24 (n : Nat) (p : F1) (u : Int) (t : F1) : Prop := Db n p u t ∧ n ≤ 24
abbrev rw1 (n : Nat) (f : F1) (a : Int) : D := tI ((rgI n).map (f a))
def S_check_group (ds : List D) (Q : D → Prop) : Prop := ∃ n g u, ds = [grpD n g u] ∧ Q .none
def S__check_groups (ds : List D) (Q : D → Prop) : Prop := ∃ n g u k v, ds = [grpD n g u, grpD n k v] ∧ n ≤ 24 ∧ Q .none
def S__breaks_rule (ds : List D) (Q : D → Prop) : Prop := ∃ n p u t a k b c, ds = [tR (tab n p), rw1 n (ciF p t) a, .int k, .int b, .int c] ∧ D24 n p u t ∧ In n a ∧ In n k ∧ p k a = u ∧ In n b ∧ In n c ∧ Q (.bool false)
def S__broken_rule (ds : List D) (Q : D → Prop) : Prop := ∃ n p u t a k, ds = [tR (tab n p), rw1 n (ciF p t) a, .int k] ∧ D24 n p u t ∧ In n a ∧ In n k ∧ p k a = u ∧ Q .none
def S_double_paper (ds : List D) (Q : D → Prop) : Prop := ∃ n p u t, ds = [grpD n p u, grpD n (ciF p t) u] ∧ D24 n p u t ∧ Q (.tuple [.str "double"])
def S_Double____init__ (ds : List D) (Q : List (Str × D) → Prop) : Prop := ∃ n p u t, ds = [grpD n p u, grpD n (ciF p t) u] ∧ D24 n p u t ∧ Q (dblF n p u t)
def S__breaks_likeness (ds : List D) (Q : D → Prop) : Prop := ∃ n p u t a b c, ds = [tR (tab n p), rw1 n t a, .int b, .int c] ∧ D24 n p u t ∧ In n a ∧ In n b ∧ In n c ∧ Q (.bool false)
def S__broken_likeness (ds : List D) (Q : D → Prop) : Prop := ∃ n p u t a, ds = [tR (tab n p), rw1 n t a] ∧ D24 n p u t ∧ In n a ∧ Q .none
def S__breaks_joined (ds : List D) (Q : D → Prop) : Prop := ∃ n p u t a b, ds = [tR (tab n p), tR (tab n t), .int a, .int b] ∧ D24 n p u t ∧ In n a ∧ In n b ∧ Q (.bool false)
def S_Double__plus (ds : List D) (Q : D → Prop) : Prop := ∃ n p u t, ds = [dblD n p u t] ∧ Q (grpD n p u)
def S_Double__circle (ds : List D) (Q : D → Prop) : Prop := ∃ n p u t, ds = [dblD n p u t] ∧ Q (grpD n (ciF p t) u)
def S_Double____len__ (ds : List D) (Q : D → Prop) : Prop := ∃ n p u t, ds = [dblD n p u t] ∧ Q (.int n)
def S_Double__turns (ds : List D) (Q : D → Prop) : Prop := ∃ n p u t, ds = [dblD n p u t] ∧ Q (tR (tab n t))
def S_Double__is_plain (ds : List D) (Q : D → Prop) : Prop := ∃ n p u t, ds = [dblD n p u t] ∧ n ≤ 24 ∧ Q (.bool (decide (tab n p = tab n (ciF p t))))
def S_Double____eq__ (ds : List D) (Q : D → Prop) : Prop := ∃ n p u t, n ≤ 24 ∧ ((∃ k q v s, ds = [dblD n p u t, dblD k q v s] ∧ k ≤ 24 ∧ Q (.bool (decide (tab n p = tab k q) && decide (tab n (ciF p t) = tab k (ciF q s))))) ∨ (∃ d, ds = [dblD n p u t, d] ∧ clsOk ["Group"] "Double" d = some false ∧ Q (.bool false)))
def S__law_plain_double (ds : List D) (Q : D → Prop) : Prop := ∃ n p u, ds = [tR (tab n p)] ∧ G24 n p u ∧ Q (ldD n p fun _ b => b)
def S__law_mirror_double (ds : List D) (Q : D → Prop) : Prop := ∃ n : Nat, ds = [.int n] ∧ 1 ≤ n ∧ n ≤ 12 ∧ Q (ldD (n * 2) (dirG 2 (cyG n) (cyG 2)) (mirT n))
def S__law_about_double (ds : List D) (Q : D → Prop) : Prop := ∃ n p u, ds = [tR (tab n p)] ∧ G24 n p u ∧ ∀ t, Db n p u t → (t = fun a b => p (p ((backOf (tab n p) u a).getD 0) b) a) → Q (ldD n p t)
def S__law_ring_double (ds : List D) (Q : D → Prop) : Prop := ∃ (n : Nat) (s : Int), ds = [.int n, .int s] ∧ 1 ≤ n ∧ n ≤ 24 ∧ 0 ≤ s ∧ s ≤ 24 ∧ Q (ldD n (cyG n) (ringT n s))
def S__law_double_renamed (ds : List D) (Q : D → Prop) : Prop := ∃ n p u t m, ds = [ldD n p t, tI m] ∧ D24 n p u t ∧ Mv n m ∧ Q (ldD n (renG p m) (renG t m))
def S__law_double_product (ds : List D) (Q : D → Prop) : Prop := ∃ a b p k t s u v, ds = [ldD a p t, ldD b k s] ∧ Db a p u t ∧ Db b k v s ∧ a * b ≤ 24 ∧ Q (ldD (a * b) (dirG b p k) (dirG b t s))
def S__law_small_double (ms ds : List D) (Q : D → List D → Prop) : Prop := ∃ m : Nat, ds = [.int m] ∧ 1 ≤ m ∧ m ≤ 24 ∧ Dc ms ∧ ∀ n p u t ms', Db n p u t → n ≤ m → Dc ms' → Q (ldD n p t) ms'
def S__law_double (ms ds : List D) (Q : D → List D → Prop) : Prop := ∃ m : Nat, ds = [.int m] ∧ 1 ≤ m ∧ m ≤ 24 ∧ Dc ms ∧ ∀ n p u t ms', Db n p u t → n ≤ m → Dc ms' → Q (ldD n p t) ms'
def S__law_circle (ds : List D) (Q : D → Prop) : Prop := ∃ n p u t, ds = [tR (tab n p), tR (tab n t)] ∧ D24 n p u t ∧ Q (tR (tab n (ciF p t)))
end Dn.T.G.B
set_option Elab.async false
set_option linter.all false
set_option maxRecDepth 100000
set_option autoImplicit false
set_option maxHeartbeats 4000000
namespace Dn.T.G.B
open PySem L2 Evl PySem.Spec PyProof.Rows
abbrev N_check_group : List Str := ["value"]
abbrev P_check_group : List Str := ["value"]
def g_check_group : DS := sIf (dTNot (dTst (dIsC [] "Group" (dVar 0)))) (sNever) (sNx)
abbrev N__check_groups : List Str := ["plus", "circle"]
abbrev P__check_groups : List Str := ["plus", "circle"]
def g__check_groups : DS := sSeq (sEx (dCallF 1 S_check_group (aCons (dVar 0) (aNil)))) (sSeq (sEx (dCallF 1 S_check_group (aCons (dVar 1) (aNil)))) (sIf (dTst (dBin dNe (dLenI "Group" S_Group____len__ (dVar 1)) (dLenI "Group" S_Group____len__ (dVar 0)))) (sNever) (sNx)))
abbrev N__breaks_rule : List Str := ["rows", "circled", "back", "b", "c"]
abbrev P__breaks_rule : List Str := ["rows", "circled", "back", "b", "c"]
def g__breaks_rule : DS := sRet (dBin dNe (dBin dIx (dVar 1) (dBin dIx (dBin dIx (dVar 0) (dVar 3)) (dVar 4))) (dBin dIx (dBin dIx (dVar 0) (dBin dIx (dBin dIx (dVar 0) (dBin dIx (dVar 1) (dVar 3))) (dVar 2))) (dBin dIx (dVar 1) (dVar 4))))
abbrev N__broken_rule : List Str := ["rows", "circled", "back", "b", "c"]
abbrev P__broken_rule : List Str := ["rows", "circled", "back"]
def g__broken_rule : DS := sSeq (sFor (iR1 (dCall dLen (aCons (dVar 0) (aNil)))) (gNm 3) (sFor (iR1 (dCall dLen (aCons (dVar 0) (aNil)))) (gNm 4) (sIf (dTst (dCallF 5 S__breaks_rule (aCons (dVar 0) (aCons (dVar 1) (aCons (dVar 2) (aCons (dVar 3) (aCons (dVar 4) (aNil)))))))) (sRet (dTup (aCons (dVar 3) (aCons (dVar 4) (aNil))))) (sNx)))) (sRet (dC .none))
abbrev N_double_paper : List Str := ["plus", "circle", "backs", "a", "things"]
abbrev P_double_paper : List Str := ["plus", "circle"]
def g_double_paper : DS := sSeq (sEx (dCallF 2 S__check_groups (aCons (dVar 0) (aCons (dVar 1) (aNil))))) (sSeq (sSet 2 (xIm (dCallF 2 S_backs_of (aCons (dProp "Group" S_Group__rows (dVar 0)) (aCons (dProp "Group" S_Group__unit (dVar 0)) (aNil)))))) (sSeq (sFor (iR1 (dLenI "Group" S_Group____len__ (dVar 0))) (gNm 3) (sSeq (sSet 4 (xIm (dCallF 3 S__broken_rule (aCons (dProp "Group" S_Group__rows (dVar 0)) (aCons (dBin dIx (dProp "Group" S_Group__rows (dVar 1)) (dVar 3)) (aCons (dBin dIx (dVar 2) (dVar 3)) (aNil))))))) (sIf (dTst (dBin dIsNot (dVar 4) (dC .none))) (sRet (dBin dAdd (dTup (aCons (dC (.str "rule")) (aCons (dVar 3) (aNil)))) (dVar 4))) (sNx)))) (sRet (dTup (aCons (dC (.str "double")) (aNil))))))
abbrev N_Double____init__ : List Str := ["self", "plus", "circle", "paper", "backs", "a", "row", "made"]
abbrev P_Double____init__ : List Str := ["self", "plus", "circle"]
def g_Double____init__ : DS := sSeq (sSet 3 (xIm (dCallF 2 S_double_paper (aCons (dVar 1) (aCons (dVar 2) (aNil)))))) (sSeq (sIf (dTst (dBin dNe (dVar 3) (dTup (aCons (dC (.str "double")) (aNil))))) (sNever) (sNx)) (sSeq (sSet 4 (xIm (dCallF 2 S_backs_of (aCons (dProp "Group" S_Group__rows (dVar 1)) (aCons (dProp "Group" S_Group__unit (dVar 1)) (aNil)))))) (sSeq (sFldD 0 "Double" "_plus" (dVar 1)) (sSeq (sFldD 0 "Double" "_circle" (dVar 2)) (sSeq (sFldD 0 "Double" "_backs" (dVar 4)) (sFldD 0 "Double" "_turns" (dCall dTupOf (aCons (dOfL (lLc (iEn (dProp "Group" S_Group__rows (dVar 2))) (gTp 2 (gsCons (gNm 5) (gsCons (gNm 6) (gsNil)))) (dYes) (dCall dTupOf (aCons (dOfL (lLc (iSq (dVar 6)) (gNm 7) (dYes) (dBin dIx (dBin dIx (dProp "Group" S_Group__rows (dVar 1)) (dBin dIx (dVar 4) (dVar 5))) (dVar 7)) [7])) (aNil))) [5, 6])) (aNil)))))))))
abbrev N__breaks_likeness : List Str := ["rows", "turn", "b", "c"]
abbrev P__breaks_likeness : List Str := ["rows", "turn", "b", "c"]
def g__breaks_likeness : DS := sRet (dBin dNe (dBin dIx (dVar 1) (dBin dIx (dBin dIx (dVar 0) (dVar 2)) (dVar 3))) (dBin dIx (dBin dIx (dVar 0) (dBin dIx (dVar 1) (dVar 2))) (dBin dIx (dVar 1) (dVar 3))))
abbrev N__broken_likeness : List Str := ["rows", "turn", "b", "c"]
abbrev P__broken_likeness : List Str := ["rows", "turn"]
def g__broken_likeness : DS := sSeq (sFor (iR1 (dCall dLen (aCons (dVar 0) (aNil)))) (gNm 2) (sFor (iR1 (dCall dLen (aCons (dVar 0) (aNil)))) (gNm 3) (sIf (dTst (dCallF 4 S__breaks_likeness (aCons (dVar 0) (aCons (dVar 1) (aCons (dVar 2) (aCons (dVar 3) (aNil))))))) (sRet (dTup (aCons (dVar 2) (aCons (dVar 3) (aNil))))) (sNx)))) (sRet (dC .none))
abbrev N__breaks_joined : List Str := ["rows", "turns", "a", "b"]
abbrev P__breaks_joined : List Str := ["rows", "turns", "a", "b"]
def g__breaks_joined : DS := sRet (dBin dNe (dBin dIx (dVar 1) (dBin dIx (dBin dIx (dVar 0) (dVar 2)) (dBin dIx (dBin dIx (dVar 1) (dVar 2)) (dVar 3)))) (dCallF 2 S_joined_moves (aCons (dBin dIx (dVar 1) (dVar 2)) (aCons (dBin dIx (dVar 1) (dVar 3)) (aNil)))))
abbrev N_Double__plus : List Str := ["self"]
abbrev P_Double__plus : List Str := ["self"]
def g_Double__plus : DS := sRet (dFld "Double" "_plus" (dVar 0))
abbrev N_Double__circle : List Str := ["self"]
abbrev P_Double__circle : List Str := ["self"]
def g_Double__circle : DS := sRet (dFld "Double" "_circle" (dVar 0))
abbrev N_Double____len__ : List Str := ["self"]
abbrev P_Double____len__ : List Str := ["self"]
def g_Double____len__ : DS := sRet (dCall dLen (aCons (dFld "Double" "_turns" (dVar 0)) (aNil)))
abbrev N__law_plain_double : List Str := ["_law_rows", "_law_a"]
abbrev P__law_plain_double : List Str := ["_law_rows"]
def g__law_plain_double : DS := sRet (dOfL (lLst (aCons (dVar 0) (aCons (dOfL (lLc (iSq (dVar 0)) (gNm 1) (dYes) (dTRg (rg1 (dCall dLen (aCons (dVar 0) (aNil))))) [1])) (aNil)))))
abbrev N__law_mirror_double : List Str := ["_law_size", "_law_plus", "_law_turns", "_law_back", "_law_a", "_law_b"]
abbrev P__law_mirror_double : List Str := ["_law_size"]
def g__law_mirror_double : DS := sSeq (sPar 1 2 (xIm (dCallF 2 S__law_direct (aCons (dCallF 1 S__law_cyclic (aCons (dVar 0) (aNil))) (aCons (dCallF 1 S__law_cyclic (aCons (dC (.int 2)) (aNil))) (aNil))))) (xOw (lLst (aNil)))) (sSeq (sSet 3 (xIm (dCall dTupOf (aCons (dOfL (lLc (iR1 (dBin dMulA (dC (.int 2)) (dVar 0))) (gNm 5) (dYes) (dBin dAdd (dBin dMulA (dBin dMod (dCall dInt (aCons (dBin dSub (dC (.int 0)) (dBin dFdiv (dVar 5) (dC (.int 2)))) (aNil))) (dVar 0)) (dC (.int 2))) (dBin dMod (dVar 5) (dC (.int 2)))) [5])) (aNil))))) (sSeq (sFor (iR1 (dBin dMulA (dC (.int 2)) (dVar 0))) (gNm 4) (sEx (dApp 2 (dIfE (dTst (dBin dEq (dBin dMod (dVar 4) (dC (.int 2))) (dC (.int 0)))) (dTRg (rg1 (dBin dMulA (dC (.int 2)) (dVar 0)))) (dVar 3))))) (sRet (dOfL (lLst (aCons (dVar 1) (aCons (dVarF 2) (aNil))))))))
abbrev N__law_about_double : List Str := ["_law_rows", "_law_turns", "_law_a", "_law_back", "_law_b"]
abbrev P__law_about_double : List Str := ["_law_rows"]
def g__law_about_double : DS := sSeq (sSet 1 (xOw (lLst (aNil)))) (sSeq (sFor (iR1 (dCall dLen (aCons (dVar 0) (aNil)))) (gNm 2) (sSeq (sSet 3 (xIm (dCallF 2 S__law_inverse (aCons (dVar 0) (aCons (dVar 2) (aNil)))))) (sEx (dApp 1 (dCall dTupOf (aCons (dOfL (lLc (iR1 (dCall dLen (aCons (dVar 0) (aNil)))) (gNm 4) (dYes) (dBin dIx (dBin dIx (dVar 0) (dBin dIx (dBin dIx (dVar 0) (dVar 3)) (dVar 4))) (dVar 2)) [4])) (aNil))))))) (sRet (dOfL (lLst (aCons (dVar 0) (aCons (dVarF 1) (aNil)))))))
abbrev N__law_ring_double : List Str := ["_law_size", "_law_step", "_law_a", "_law_b"]
abbrev P__law_ring_double : List Str := ["_law_size", "_law_step"]
def g__law_ring_double : DS := sRet (dOfL (lLst (aCons (dCallF 1 S__law_cyclic (aCons (dVar 0) (aNil))) (aCons (dOfL (lLc (iR1 (dVar 0)) (gNm 2) (dYes) (dCall dTupOf (aCons (dOfL (lLc (iR1 (dVar 0)) (gNm 3) (dYes) (dBin dMod (dCall dInt (aCons (dBin dAdd (dVar 3) (dBin dMulA (dBin dMulA (dVar 1) (dVar 2)) (dVar 3))) (aNil))) (dVar 0)) [3])) (aNil))) [2])) (aNil)))))
abbrev N__law_double_renamed : List Str := ["_law_double_here", "_law_order", "_law_back", "_law_turns", "_law_a", "_law_b"]
abbrev P__law_double_renamed : List Str := ["_law_double_here", "_law_order"]
def g__law_double_renamed : DS := sSeq (sPar 2 3 (xIm (dCallF 1 S__law_undone (aCons (dVar 1) (aNil)))) (xOw (lLst (aNil)))) (sSeq (sFor (iSq (dVar 1)) (gNm 4) (sEx (dApp 3 (dCall dTupOf (aCons (dOfL (lLc (iSq (dVar 1)) (gNm 5) (dYes) (dBin dIx (dVar 2) (dBin dIx (dBin dIx (dBin dIx (dVar 0) (dC (.int 1))) (dVar 4)) (dVar 5))) [5])) (aNil)))))) (sRet (dOfL (lLst (aCons (dCallF 2 S__law_renamed_group (aCons (dBin dIx (dVar 0) (dC (.int 0))) (aCons (dVar 1) (aNil)))) (aCons (dVarF 3) (aNil)))))))
abbrev N__law_double_product : List Str := ["_law_one", "_law_other"]
abbrev P__law_double_product : List Str := ["_law_one", "_law_other"]
def g__law_double_product : DS := sRet (dOfL (lLst (aCons (dCallF 2 S__law_direct (aCons (dBin dIx (dVar 0) (dC (.int 0))) (aCons (dBin dIx (dVar 1) (dC (.int 0))) (aNil)))) (aCons (dCallF 2 S__law_product_dots (aCons (dBin dIx (dVar 0) (dC (.int 1))) (aCons (dBin dIx (dVar 1) (dC (.int 1))) (aNil)))) (aNil)))))
abbrev N__law_small_double : List Str := ["_law_dice_here", "_law_most", "_law_some", "_law_size", "_law_step"]
abbrev P__law_small_double : List Str := ["_law_dice_here", "_law_most"]
def g__law_small_double : DS := sSeq (sSet 2 (xIm (dOfL (lLc (iR2 (dC (.int 1)) (dBin dAdd (dVar 1) (dC (.int 1)))) (gNm 3) (dYes) (dCallF 1 S__law_plain_double (aCons (dCallF 1 S__law_cyclic (aCons (dVar 3) (aNil))) (aNil))) [3])))) (sSeq (sSet 2 (xIm (dBin dAdd (dVar 2) (dOfL (lLc (iR2 (dC (.int 3)) (dBin dAdd (dBin dFdiv (dVar 1) (dC (.int 2))) (dC (.int 1)))) (gNm 3) (dYes) (dCallF 1 S__law_mirror_double (aCons (dVar 3) (aNil))) [3]))))) (sSeq (sFor (iSq (dOfL (lLst (aCons (dTup (aCons (dC (.int 4)) (aCons (dC (.int 2)) (aNil)))) (aCons (dTup (aCons (dC (.int 8)) (aCons (dC (.int 2)) (aNil)))) (aCons (dTup (aCons (dC (.int 8)) (aCons (dC (.int 4)) (aNil)))) (aCons (dTup (aCons (dC (.int 8)) (aCons (dC (.int 6)) (aNil)))) (aCons (dTup (aCons (dC (.int 9)) (aCons (dC (.int 3)) (aNil)))) (aCons (dTup (aCons (dC (.int 9)) (aCons (dC (.int 6)) (aNil)))) (aNil)))))))))) (gTp 2 (gsCons (gNm 3) (gsCons (gNm 4) (gsNil)))) (sSet 2 (xIm (dBin dAdd (dVar 2) (dOfL (lRep (dOfL (lLst (aCons (dCallF 2 S__law_ring_double (aCons (dVar 3) (aCons (dVar 4) (aNil)))) (aNil)))) (dCall dInt (aCons (dBin dLe (dVar 3) (dVar 1)) (aNil))))))))) (sSeq (sIf (dTst (dBin dGt (dVar 1) (dC (.int 5)))) (sSet 2 (xIm (dBin dAdd (dVar 2) (dOfL (lLst (aCons (dCallF 1 S__law_plain_double (aCons (dCallF 1 S__law_turned_pairs (aCons (dC (.int 3)) (aNil))) (aNil))) (aCons (dCallF 1 S__law_about_double (aCons (dCallF 1 S__law_turned_pairs (aCons (dC (.int 3)) (aNil))) (aNil))) (aNil)))))))) (sNx)) (sSeq (sIf (dTst (dBin dGt (dVar 1) (dC (.int 7)))) (sSet 2 (xIm (dBin dAdd (dVar 2) (dOfL (lLst (aCons (dCallF 1 S__law_about_double (aCons (dCallF 1 S__law_turned_pairs (aCons (dC (.int 4)) (aNil))) (aNil))) (aCons (dCallF 1 S__law_about_double (aCons (dCallF 0 S__law_quaternion_rows aNil) (aNil))) (aNil)))))))) (sNx)) (sRet (dCallM 0 2 S__law_pick (aCons (dVar 2) (aNil))))))))
abbrev N__law_double : List Str := ["_law_dice_here", "_law_most", "_law_found"]
abbrev P__law_double : List Str := ["_law_dice_here", "_law_most"]
def g__law_double : DS := sSeq (sSet 2 (xIm (dCallM 0 2 S__law_small_double (aCons (dVar 1) (aNil))))) (sSeq (sIf (dTAnd (dTst (dBin dLe (dBin dMulA (dCall dLen (aCons (dBin dIx (dVar 2) (dC (.int 0))) (aNil))) (dC (.int 2))) (dVar 1))) (dTst (dBin dEq (dCallM 0 2 S__law_roll (aCons (dC (.int 2)) (aNil))) (dC (.int 0))))) (sSet 2 (xIm (dCallF 2 S__law_double_product (aCons (dVar 2) (aCons (dCallM 0 2 S__law_small_double (aCons (dBin dFdiv (dVar 1) (dCall dLen (aCons (dBin dIx (dVar 2) (dC (.int 0))) (aNil)))) (aNil))) (aNil)))))) (sNx)) (sRet (dCallF 2 S__law_double_renamed (aCons (dVar 2) (aCons (dCallM 0 2 S__law_drawn_move (aCons (dCall dLen (aCons (dBin dIx (dVar 2) (dC (.int 0))) (aNil))) (aNil))) (aNil))))))
abbrev N__law_circle : List Str := ["_law_plus", "_law_turns", "_law_a", "_law_b"]
abbrev P__law_circle : List Str := ["_law_plus", "_law_turns"]
def g__law_circle : DS := sRet (dCall dTupOf (aCons (dOfL (lLc (iR1 (dCall dLen (aCons (dVar 0) (aNil)))) (gNm 2) (dYes) (dCall dTupOf (aCons (dOfL (lLc (iR1 (dCall dLen (aCons (dVar 0) (aNil)))) (gNm 3) (dYes) (dBin dIx (dBin dIx (dVar 0) (dVar 2)) (dBin dIx (dBin dIx (dVar 1) (dVar 2)) (dVar 3))) [3])) (aNil))) [2])) (aNil)))
end Dn.T.G.B
set_option Elab.async false
set_option linter.all false
set_option maxRecDepth 100000
set_option autoImplicit false
set_option maxHeartbeats 400000
namespace Dn.T
open PySem L2 Evl PySem.Spec PyProof.Rows
abbrev E1 := Int → Int → Int
theorem mv_ext {n : Nat} {a b : List Int} (ha : Mv n a) (hb : Mv n b) (h : ∀ x, In n x → im a x = im b x) : a = b := by
  rw [mv_self ha, mv_self hb]
  exact List.map_congr_left fun x hx => h x (In.mem.1 hx)
theorem mv_id (n : Nat) : Mv n (rgI n) := List.Perm.refl _
theorem iv_in {n : Nat} {m : List Int} (h : Mv n m) {y : Int} (hy : In n y) : In n (iv m y) := (iv_rng h hy.1 hy.2).1
theorem imj {n : Nat} {a b : List Int} (hb : Mv n b) {x : Int} (hx : In n x) : im (jn a b) x = im a (im b x) := jn_im hb hx.1 hx.2
theorem imp {n : Nat} {f : Int → Int} {x : Int} (hx : In n x) : im ((rgI n).map f) x = f x := im_map hx.1 hx.2
def lam (n : Nat) (d : E1) (x : Int) : List Int := (rgI n).map (sgm n d x)
section
variable {n : Nat} {d : E1} (hc : Cs n d)
include hc
theorem sg_in {x y : Int} (hx : In n x) (hy : In n y) : In n (sgm n d x y) := (sgm_ok hc).1 x y hx hy
theorem d_sg {x y : Int} (hx : In n x) (hy : In n y) : d x (sgm n d x y) = y := (sgm_ok hc).2 x y hx hy
theorem lam_mvq {x : Int} (hx : In n x) : Mv n (lam n d x) := mv_map (fun y a b => sg_in hc hx ⟨a, b⟩) fun y z a b c e q => by
  have := congrArg (d x) q
  rwa [d_sg hc hx ⟨a, b⟩, d_sg hc hx ⟨c, e⟩] at this
end
def st1 (n : Nat) (d : E1) (h : List Int) (x : Int) : List Int := jn h (lam n d (iv h x))
section
variable {n : Nat} {d : E1} (hc : Cs n d)
include hc
theorem st_mv {h : List Int} (hh : Mv n h) {x : Int} (hx : In n x) : Mv n (st1 n d h x) := jn_mv hh (lam_mvq hc (iv_in hh hx))
end
def stN (n : Nat) (d : E1) (x : Int) : Nat → List Int → List Int
  | 0, h => h
  | k + 1, h => st1 n d (stN n d x k h) x
section
variable {n : Nat} {d : E1} (hc : Cs n d)
include hc
end
def per (n : Nat) (d : E1) (x : Int) : Nat := ((List.range ((ordF n n).length + 1)).find? fun k => decide (1 ≤ k) && decide (stN n d x k (rgI n) = rgI n)).getD 0
section
variable {n : Nat} {d : E1} (hc : Cs n d)
include hc
end
def Rch (n : Nat) (d : E1) (h : List Int) : Prop := ∃ l : List Int, (∀ x, x ∈ l → In n x) ∧ h = l.foldl (st1 n d) (rgI n)
section
variable {n : Nat} {d : E1} (hc : Cs n d)
include hc
theorem fold_mv : ∀ (l : List Int) {h : List Int}, Mv n h → (∀ x, x ∈ l → In n x) → Mv n (l.foldl (st1 n d) h)
  | [], _, hh, _ => hh
  | x :: l, _, hh, hl => fold_mv l (st_mv hc hh (hl x (by simp))) fun y hy => hl y (by simp [hy])
theorem Rch.mv {h : List Int} (r : Rch n d h) : Mv n h := by
  obtain ⟨l, hl, rfl⟩ := r
  exact fold_mv hc l (mv_id n) hl
def stZ (n : Nat) (d : E1) (x k : Int) (h : List Int) : List Int := stN n d x (k % (per n d x : Nat)).toNat h
def tw (n : Nat) (d : E1) (v : Int → Int) : List Int → List Int → List Int
  | [], h => h
  | x :: l, h => tw n d v l (stZ n d x (v x) h)
end
def trn (n : Nat) (d : E1) (v : List Int) : List Int := tw n d (im v) (rgI n) (rgI n)
def bk (n : Nat) (d : E1) (a : List Int) : List Int := (rgI n).map fun x => - im a (im (trn n d a) x)
section
variable {n : Nat} {d : E1} (hc : Cs n d)
include hc
theorem bk_im (a : List Int) {x : Int} (hx : In n x) : im (bk n d a) x = - im a (im (trn n d a) x) := imp hx
end
end Dn.T
set_option Elab.async false
set_option linter.all false
set_option maxRecDepth 100000
set_option autoImplicit false
set_option maxHeartbeats 4000000
namespace Dn
open PySem L2 Evl PySem.Spec PyProof.Rows RZ
theorem five {c z a1 a2 a3 a4 : Addr} (h : c ∈ [z, a1, a2, a3, a4]) : c = z ∨ c = a1 ∨ c = a2 ∨ c = a3 ∨ c = a4 := by simpa using h
section
variable {P : Program} {w : World} {K : PySem.W.Frag} {elts : List Expr} {kk : Nat} {tpos : Pos} {a b z A1 A2 i1 i2 : Addr}
end
def zpD (xs ys : List D) : List D := xs.zipWith (fun x y => .tuple [x, y]) ys
theorem zpD_get {xs ys : List D} {i : Nat} {d : D} (h : (zpD xs ys)[i]? = some d) : ∃ x y, xs[i]? = some x ∧ ys[i]? = some y ∧ d = .tuple [x, y] := by
  unfold zpD at h
  rw [List.getElem?_zipWith] at h
  cases hx : xs[i]? <;> cases hy : ys[i]? <;> rw [hx, hy] at h <;> simp at h
  exact ⟨_, _, rfl, rfl, h.symm⟩
theorem zpD_len {xs ys : List D} : (zpD xs ys).length = min xs.length ys.length := by unfold zpD; simp
theorem rp_tupS {K : PySem.W.Frag} {O : Addr → Prop} {H : Hp} {v : V} {ds : List D} (r : Rp K (hide O H) v (.tuple ds)) : ∃ a xs, v = .ref a ∧ SqT K H a xs ∧ SqT K (hide O H) a xs ∧ RpAll K (hide O H) xs ds := by
  generalize e : PyData.tuple ds = d at r
  cases r
  case dct h1 h2 h3 => subst h3; cases e
  case ins h1 h2 h3 h4 => subst h4; simp [obL] at e
  all_goals cases e
  rename_i hp rr
  exact ⟨_, _, rfl, sqt_of hp, lt_of hp, rr⟩
theorem rp_lstS {K : PySem.W.Frag} {O : Addr → Prop} {H : Hp} {v : V} {ds : List D} (r : Rp K (hide O H) v (.list ds)) : ∃ a xs, v = .ref a ∧ SqL K H a xs ∧ SqL K (hide O H) a xs ∧ RpAll K (hide O H) xs ds := by
  generalize e : PyData.list ds = d at r
  cases r
  case dct h1 h2 h3 => subst h3; cases e
  case ins h1 h2 h3 h4 => subst h4; simp [obL] at e
  all_goals cases e
  rename_i hp rr
  exact ⟨_, _, rfl, .inl (.inl (at_of hp)), .inl (.inl hp), rr⟩
section
variable {X : Cx} {a b : Expr} {fa fb : DE} {p pos : Pos}
def iZp (f g : DE) : DL := fun ρ Q => f ρ fun d ρ1 => g ρ1 fun e ρ2 => ∃ xs ys, ((d = .tuple xs ∧ e = .tuple ys) ∨ (d = .list xs ∧ e = .list ys)) ∧ Q (zpD xs ys) ρ2
end
end Dn
set_option Elab.async false
set_option linter.all false
set_option maxRecDepth 100000
set_option autoImplicit false
set_option maxHeartbeats 4000000
namespace Dn.T.V
open PySem L2 Evl PySem.Spec PyProof.Rows
abbrev sm (n : Nat) (a b : List Int) : List Int := (rgI n).map fun x => im a x + im b x
def S__law_idle (ds : List D) (Q : D → Prop) : Prop := ∃ n : Nat, ds = [.int n] ∧ n ≤ 24 ∧ Q (tI (rgI n))
end Dn.T.V
set_option Elab.async false
set_option linter.all false
set_option maxRecDepth 100000
set_option autoImplicit false
set_option maxHeartbeats 4000000
namespace Dn.T.V
open PySem L2 Evl PySem.Spec PyProof.Rows
abbrev N__law_idle : List Str := ["_law_size"]
abbrev P__law_idle : List Str := ["_law_size"]
def g__law_idle : DS := sRet (dTRg (rg1 (dVar 0)))
end Dn.T.V
set_option Elab.async false
set_option linter.all false
set_option maxRecDepth 100000
set_option autoImplicit false
set_option maxHeartbeats 4000000
namespace Dn.T.V
open PySem L2 Evl PySem.Spec PyProof.Rows
theorem ixTR {n : Nat} {d : Int → Int → Int} {x : Int} {Q : D → Prop} (hx : In n x) (h : Q (tI ((rgI n).map (d x)))) : dIx (tR (tab n d)) (.int x) Q := by
  refine ixR hx.1 (by rw [tab_len]; exact hx.2) ?_
  rw [show (tab n d).getD x.toNat [] = (rgI n).map (d x) from row_tab hx]; exact h
theorem lay_ints : ∀ ns : List Int, PyData.canLayAll0 (ns.map PyData.int) = true
  | [] => rfl
  | x :: ns => by
    simp only [List.map_cons, PyData.canLayAll0, PyData.canLay0, Bool.true_and]
    exact lay_ints ns
end Dn.T.V
set_option Elab.async false
set_option linter.all false
set_option maxRecDepth 100000
set_option autoImplicit false
set_option maxHeartbeats 4000000
namespace Dn.T.V
open PySem L2 Evl PySem.Spec PyProof.Rows
local macro_rules | `(tactic| walk_at "dd") => `(tactic| simp only [sSeq, sIf, sSet, sRet, sRetN, sNx, sEx, sAsg, sPar, dTOr, dTAnd, dTNot, dTst, dIsi, dVar, dC, dBin, dChain, dNeg, dI2, dAnd, dOr, dNot, dIfE, dCall, dCallF, aCons, aNil, dTup, lLst, dOfL, xIm, xOw, gNm, gTp, gsCons, gsNil, dYes, envD, dLen_tR, dLen_tI, dLen_tup, dLen_lst, seq_tR, seq_tI, seq_tup, seq_lst, dIs, dIsNot, dNe, dEq, dTupOf, dSl, oNone, oSome, iSq, iEn, iR1, iR2, sFor, lLc, sNever, dTRg, rg1, rg2, lRg, wipeD, isN,
  gTpL, dIxP, sSub, dApp, dPopAt, dExt, dCallM, dCallO, dBinO, dTupO, lOf, lOfO, sRetO, iOw, dVarF, lCat, lCall, dAbs, dMax2, dMin2, dInt, atO, setO, MO.getL, MO.putL, Option.isSome_some,
  dInK, dGetK, dGetD, dInD, dGet1, lKeys, lSort, dLenSet, dLenSetL, dLenSet2, sPar3, dRevT, sPutK, xDct, xDct1, sRetK, atK, keyD, sAugI, dFld, sFldD, xRng, iRgO, dNew, dNewV, dCM, dProp, dMeth, dLenI, dStrO, dEqI, dIsC, dJoin, dJs, dFmt, dCallML, sSubI, gSubW, sWh, dTF, gIx, xProp, iZp, dRepU, dKeep2, lSortSet, lSortTu, lDc, dRepT, lRep, dStrI, xDctT1, xDctOf, dInT, sPutT, lSortT2, lSortDT, dPop, dBinR, dKeep, dCallMO, atT, dCallO,
  kit_int, kit_bool, kit_tuple, kit_str, List.map_cons, List.map_nil, List.cons_append, List.nil_append, List.replicate, List.set_cons_zero, List.set_cons_succ, List.getElem?_cons_zero, List.getElem?_cons_succ, List.length_cons, List.length_nil, List.length_map, Nat.reduceAdd, Nat.reduceSub, Bool.not_true, Bool.not_false, Bool.false_eq_true, if_true, if_false, true_and, reduceCtorEq, Bool.true_eq_false, rgD_rgI, Option.some.injEq, exists_eq_left', and_true])
theorem v__law_idle : VD g__law_idle S__law_idle 1 0 := fun ds Q _ h => by
  obtain ⟨n, rfl, hn, h⟩ := h
  unfold g__law_idle
  walk_at "dd"
  refine ⟨rgd (by omega), ?_⟩
  try rw [rgD_rgI]
  exact h
end Dn.T.V
set_option Elab.async false
set_option linter.all false
set_option maxRecDepth 100000
set_option autoImplicit false
set_option maxHeartbeats 4000000
namespace Dn.T.G.B
open PySem L2 Evl PySem.Spec PyProof.Rows
local macro_rules | `(tactic| walk_at "dd") => `(tactic| simp only [sSeq, sIf, sSet, sRet, sRetN, sNx, sEx, sAsg, sPar, dTOr, dTAnd, dTNot, dTst, dIsi, dVar, dC, dBin, dChain, dNeg, dI2, dAnd, dOr, dNot, dIfE, dCall, dCallF, aCons, aNil, dTup, lLst, dOfL, xIm, xOw, gNm, gTp, gsCons, gsNil, dYes, envD, dLen_tR, dLen_tI, dLen_tup, dLen_lst, seq_tR, seq_tI, seq_tup, seq_lst, dIs, dIsNot, dNe, dEq, dTupOf, dSl, oNone, oSome, iSq, iEn, iR1, iR2, sFor, lLc, sNever, dTRg, rg1, rg2, lRg, wipeD, isN,
  gTpL, dIxP, sSub, dApp, dPopAt, dExt, dCallM, dCallO, dBinO, dTupO, lOf, lOfO, sRetO, iOw, dVarF, lCat, lCall, dAbs, dMax2, dMin2, dInt, atO, setO, MO.getL, MO.putL, Option.isSome_some,
  dInK, dGetK, dGetD, dInD, dGet1, lKeys, lSort, dLenSet, dLenSetL, dLenSet2, sPar3, dRevT, sPutK, xDct, xDct1, sRetK, atK, keyD, sAugI, dFld, sFldD, xRng, iRgO, dNew, dNewV, dCM, dProp, dMeth, dLenI, dStrO, dEqI, dIsC, dJoin, dJs, dFmt, dCallML, sSubI, gSubW, sWh, dTF, gIx, xProp, dRepU, dKeep2, lSortSet, lSortTu, lDc, dRepT, lRep, dStrI, xDctT1, xDctOf, dInT, sPutT, lSortT2, lSortDT, dPop, dBinR, dKeep, dCallMO, atT, dCallO,
  kit_int, kit_bool, kit_tuple, kit_str, List.map_cons, List.map_nil, List.cons_append, List.nil_append, List.replicate, List.set_cons_zero, List.set_cons_succ, List.getElem?_cons_zero, List.getElem?_cons_succ, List.length_cons, List.length_nil, List.length_map, Nat.reduceAdd, Nat.reduceSub, Bool.not_true, Bool.not_false, Bool.false_eq_true, if_true, if_false, true_and, reduceCtorEq, Bool.true_eq_false, rgD_rgI, Option.some.injEq, exists_eq_left', and_true])
theorem cls_grp {n : Nat} {g : F1} {u : Int} : clsOk [] "Group" (grpD n g u) = some true := by
  show clsOk [] "Group" (obD "Group" (grpF n g u)) = some true
  simp [clsOk, insN_ob]
theorem v_check_group : VD g_check_group S_check_group 1 0 := fun ds Q _ h => by
  obtain ⟨n, g, u, rfl, h⟩ := h
  unfold g_check_group
  walk_at "dd"
  refine ⟨true, cls_grp, ?_⟩
  try walk_at "dd"
  exact h
theorem v__check_groups : VD g__check_groups S__check_groups 2 0 := fun ds Q _ h => by
  obtain ⟨n, g, u, k, v, rfl, hn, h⟩ := h
  unfold g__check_groups
  walk_at "dd"
  refine ⟨n, g, u, rfl, n, k, v, rfl, ⟨_, rfl⟩, n, k, v, rfl, n, rfl, by omega, ⟨_, rfl⟩, n, g, u, rfl, n, rfl, by omega, rfl, rfl, ?_⟩
  rw [eqv_int, decide_eq_true rfl, if_neg (by decide)]
  exact h
theorem v__breaks_rule : VD g__breaks_rule S__breaks_rule 5 0 := fun ds Q _ h => by
  obtain ⟨n, p, u, t, a, k, b, c, rfl, hd, ha, hk, e, hb, hc, h⟩ := h
  have g := hd.1.gr
  have ci := hd.1.ci
  unfold g__breaks_rule
  walk_at "dd"
  refine ixTR hb (ixY hc (ixY (g.rg b c hb hc) ?_))
  refine ixY hb (ixTR (ci.rg a b ha hb) (ixY hk ?_))
  refine ixTR (g.rg _ _ (ci.rg a b ha hb) hk) (ixY hc (ixY (ci.rg a c ha hc) ?_))
  refine ⟨rfl, rfl, ?_⟩
  rw [eqv_int, decide_eq_true (hd.1.rule ha hb hc hk e)]
  exact h
theorem v__broken_rule : VD g__broken_rule S__broken_rule 3 2 := fun ds Q _ h => by
  obtain ⟨n, p, u, t, a, k, rfl, hd, ha, hk, e, h⟩ := h
  have hn := hd.2
  unfold g__broken_rule
  walk_at "dd"
  rw [tab_len]
  refine ⟨rgd (by omega), ?_⟩
  try rw [rgD_rgI]
  refine wpFor_inv (fun ρ => ∃ x3 x4, ρ = [some (.im (tR (tab n p))), some (.im (rw1 n (ciF p t) a)), some (.im (.int k)), x3, x4]) ⟨_, _, rfl⟩ (fun d1 h1 ρ K i k1 => ?_) (fun ρ i => ?_)
  · obtain ⟨x3, x4, rfl⟩ := i
    obtain ⟨b, hb, rfl⟩ := List.mem_map.mp h1
    try walk_at "dd"
    rw [tab_len]
    refine ⟨rgd (by omega), ?_⟩
    try rw [rgD_rgI]
    refine wpFor_inv (fun ρ => ∃ x4, ρ = [some (.im (tR (tab n p))), some (.im (rw1 n (ciF p t) a)), some (.im (.int k)), some (.im (.int b)), x4]) ⟨_, rfl⟩ (fun d2 h2 ρ K2 i k2 => ?_) (fun ρ i => ?_)
    · obtain ⟨x4, rfl⟩ := i
      obtain ⟨c, hc, rfl⟩ := List.mem_map.mp h2
      try walk_at "dd"
      refine ⟨n, p, u, t, a, k, b, c, rfl, hd, ha, hk, e, In.mem.1 hb, In.mem.1 hc, ?_⟩
      try walk_at "dd"
      exact k2 _ ⟨_, rfl⟩
    · obtain ⟨x4, rfl⟩ := i
      exact k1 _ ⟨_, _, rfl⟩
  · obtain ⟨x3, x4, rfl⟩ := i
    try walk_at "dd"
    exact h
theorem bk_im {n : Nat} {p : F1} {u : Int} (g : Gr n p u) {a : Int} (ha : In n a) : ∃ k, (backOf (tab n p) u a).getD 0 = k ∧ In n k ∧ p a k = u ∧ p k a = u := by
  obtain ⟨k, ek, hk, e1, e2⟩ := back_g g ha
  exact ⟨k, by rw [ek]; rfl, hk, e1, e2⟩
theorem v_double_paper : VD g_double_paper S_double_paper 2 3 := fun ds Q _ h => by
  obtain ⟨n, p, u, t, rfl, hd, h⟩ := h
  have hn := hd.2
  have g := hd.1.gr
  unfold g_double_paper
  walk_at "dd"
  refine ⟨n, p, u, _, u, rfl, hn, ⟨_, rfl⟩, n, p, u, rfl, ⟨_, rfl⟩, n, p, u, rfl, n, p, u, rfl, ⟨g, hn⟩, ?_⟩
  try walk_at "dd"
  refine ⟨⟨_, rfl⟩, n, p, u, rfl, n, rfl, by omega, rgd (by omega), ?_⟩
  try rw [rgD_rgI]
  refine wpFor_inv (fun ρ => ∃ x3 x4, ρ = [some (.im (grpD n p u)), some (.im (grpD n (ciF p t) u)), some (.im (tI (bkL n p u))), x3, x4]) ⟨_, _, rfl⟩ (fun d1 h1 ρ K i k1 => ?_) (fun ρ i => ?_)
  · obtain ⟨x3, x4, rfl⟩ := i
    obtain ⟨a, ha, rfl⟩ := List.mem_map.mp h1
    have ha := In.mem.1 ha
    obtain ⟨k, ek, hk, e1, e2⟩ := bk_im g ha
    try walk_at "dd"
    refine ⟨⟨_, rfl⟩, n, p, u, rfl, ⟨_, rfl⟩, n, _, u, rfl, ixTR ha (ixY ha ?_)⟩
    rw [ek]
    refine ⟨n, p, u, t, a, k, rfl, hd, ha, hk, e2, ?_⟩
    try walk_at "dd"
    exact k1 _ ⟨_, _, rfl⟩
  · obtain ⟨x3, x4, rfl⟩ := i
    try walk_at "dd"
    exact ⟨by decide, h⟩
theorem v_Double____init__ : VI "Double" g_Double____init__ S_Double____init__ 3 5 := fun l ds Q _ h => by
  obtain ⟨n, p, u, t, rfl, hd, h⟩ := h
  have hn := hd.2
  have g := hd.1.gr
  unfold g_Double____init__
  walk_at "dd"
  refine ⟨n, p, u, t, rfl, hd, ?_⟩
  try walk_at "dd"
  refine ⟨by decide, by decide +kernel, by decide +kernel, ?_⟩
  rw [if_neg (by decide +kernel)]
  refine ⟨⟨_, rfl⟩, n, p, u, rfl, ⟨_, rfl⟩, n, p, u, rfl, n, p, u, rfl, ⟨g, hn⟩, ?_⟩
  try walk_at "dd"
  refine ⟨l, [], rfl, by decide, l, _, rfl, putE_lt (k := 999) (by decide), l, _, rfl, putE_lt (k := 999) (putE_lt (k := 998) (by decide)), ?_⟩
  refine ⟨⟨_, rfl⟩, n, _, u, rfl, (tab n (ciF p t)).map tI, rfl, ?_⟩
  rw [show enD ((tab n (ciF p t)).map tI) = (rgI n).map fun a => PyData.tuple [.int a, rw1 n (ciF p t) a] from by
    rw [show (tab n (ciF p t)).map tI = (rgI n).map fun x => tI ((rgI n).map (ciF p t x)) from by unfold tab; rw [List.map_map]; rfl, enD_map (rgI n) (fun x => tI ((rgI n).map (ciF p t x))) 0, rgI_len]
    refine List.map_congr_left fun a ha => ?_
    rw [rg_at (In.mem.1 ha)]]
  refine wpLc_mapL (rgI n) (fun a => PyData.tuple [.int a, rw1 n (ciF p t) a]) (fun a => tI ((rgI n).map (t a))) (by rw [rgI_len]; omega) rfl (fun a ha K hK => ?_) (fun _ => rfl) ?_
  · have ha := In.mem.1 ha
    obtain ⟨k, ek, hk, e1, e2⟩ := bk_im g ha
    try walk_at "dd"
    refine wpLc_mapL ((rgI n).map (ciF p t a)) PyData.int (fun x => .int (p k x)) (by rw [List.length_map, rgI_len]; omega) rfl (fun x hx K2 hK2 => ?_) (fun _ => rfl) ?_
    · obtain ⟨b, hb, rfl⟩ := List.mem_map.mp hx
      have hb := In.mem.1 hb
      try walk_at "dd"
      refine ⟨⟨_, rfl⟩, n, p, u, rfl, ixY ha ?_⟩
      rw [ek]
      exact ixTR hk (ixY (hd.1.ci.rg a b ha hb) (hK2 _ rfl))
    · try walk_at "dd"
      rw [tI_map, List.map_map, show (rgI n).map ((fun x => p k x) ∘ ciF p t a) = (rgI n).map (t a) from List.map_congr_left fun b hb => hd.1.back ha (In.mem.1 hb) hk e2]
      exact hK _ rfl
  · try walk_at "dd"
    refine ⟨l, _, rfl, putE_lt (k := 999) (putE_lt (k := 998) (putE_lt (k := 997) (by decide))), ?_⟩
    rw [show PyData.tuple ((rgI n).map fun a => tI ((rgI n).map (t a))) = tR (tab n t) from by unfold tR tab; rw [List.map_map]; rfl]
    exact ⟨_, rfl, h⟩
theorem v__breaks_likeness : VD g__breaks_likeness S__breaks_likeness 4 0 := fun ds Q _ h => by
  obtain ⟨n, p, u, t, a, b, c, rfl, hd, ha, hb, hc, h⟩ := h
  have g := hd.1.gr
  unfold g__breaks_likeness
  walk_at "dd"
  refine ixTR hb (ixY hc (ixY (g.rg b c hb hc) ?_))
  refine ixY hb (ixTR (hd.1.tin a b ha hb) (ixY hc (ixY (hd.1.tin a c ha hc) ?_)))
  refine ⟨rfl, rfl, ?_⟩
  rw [eqv_int, decide_eq_true (hd.1.hom a b c ha hb hc)]
  exact h
theorem v__broken_likeness : VD g__broken_likeness S__broken_likeness 2 2 := fun ds Q _ h => by
  obtain ⟨n, p, u, t, a, rfl, hd, ha, h⟩ := h
  have hn := hd.2
  unfold g__broken_likeness
  walk_at "dd"
  rw [tab_len]
  refine ⟨rgd (by omega), ?_⟩
  try rw [rgD_rgI]
  refine wpFor_inv (fun ρ => ∃ x3 x4, ρ = [some (.im (tR (tab n p))), some (.im (rw1 n t a)), x3, x4]) ⟨_, _, rfl⟩ (fun d1 h1 ρ K i k1 => ?_) (fun ρ i => ?_)
  · obtain ⟨x3, x4, rfl⟩ := i
    obtain ⟨b, hb, rfl⟩ := List.mem_map.mp h1
    try walk_at "dd"
    rw [tab_len]
    refine ⟨rgd (by omega), ?_⟩
    try rw [rgD_rgI]
    refine wpFor_inv (fun ρ => ∃ x4, ρ = [some (.im (tR (tab n p))), some (.im (rw1 n t a)), some (.im (.int b)), x4]) ⟨_, rfl⟩ (fun d2 h2 ρ K2 i k2 => ?_) (fun ρ i => ?_)
    · obtain ⟨x4, rfl⟩ := i
      obtain ⟨c, hc, rfl⟩ := List.mem_map.mp h2
      try walk_at "dd"
      refine ⟨n, p, u, t, a, b, c, rfl, hd, ha, In.mem.1 hb, In.mem.1 hc, ?_⟩
      try walk_at "dd"
      exact k2 _ ⟨_, rfl⟩
    · obtain ⟨x4, rfl⟩ := i
      exact k1 _ ⟨_, _, rfl⟩
  · obtain ⟨x3, x4, rfl⟩ := i
    try walk_at "dd"
    exact h
theorem v__breaks_joined : VD g__breaks_joined S__breaks_joined 4 0 := fun ds Q _ h => by
  obtain ⟨n, p, u, t, a, b, rfl, hd, ha, hb, h⟩ := h
  have g := hd.1.gr
  have hn := hd.2
  have h1 := hd.1.tin a b ha hb
  unfold g__breaks_joined
  walk_at "dd"
  refine ixTR ha (ixTR ha (ixY hb (ixY h1 (ixTR (g.rg _ _ ha h1) ?_))))
  refine ixTR ha (ixTR hb ?_)
  refine ⟨n, _, _, rfl, hd.1.mv ha, hd.1.mv hb, by omega, shaped_tI _, shaped_tI _, ?_⟩
  rw [eqv_tI, decide_eq_true (mv_ext (hd.1.mv (g.rg _ _ ha h1)) (jn_mv (hd.1.mv ha) (hd.1.mv hb)) fun x hx => by
    rw [imj (hd.1.mv hb) hx, imp hx, imp hx, imp (hd.1.tin b x hb hx)]
    exact hd.1.jn a b x ha hb hx)]
  exact h
end Dn.T.G.B
set_option Elab.async false
set_option linter.all false
set_option maxRecDepth 100000
set_option autoImplicit false
set_option maxHeartbeats 4000000
namespace Dn.T.G.B
open PySem L2 Evl PySem.Spec PyProof.Rows
local macro_rules | `(tactic| walk_at "dd") => `(tactic| simp only [sSeq, sIf, sSet, sRet, sRetN, sNx, sEx, sAsg, sPar, dTOr, dTAnd, dTNot, dTst, dIsi, dVar, dC, dBin, dChain, dNeg, dI2, dAnd, dOr, dNot, dIfE, dCall, dCallF, aCons, aNil, dTup, lLst, dOfL, xIm, xOw, gNm, gTp, gsCons, gsNil, dYes, envD, dLen_tR, dLen_tI, dLen_tup, dLen_lst, seq_tR, seq_tI, seq_tup, seq_lst, dIs, dIsNot, dNe, dEq, dTupOf, dSl, oNone, oSome, iSq, iEn, iR1, iR2, sFor, lLc, sNever, dTRg, rg1, rg2, lRg, wipeD, isN,
  gTpL, dIxP, sSub, dApp, dPopAt, dExt, dCallM, dCallO, dBinO, dTupO, lOf, lOfO, sRetO, iOw, dVarF, lCat, lCall, dAbs, dMax2, dMin2, dInt, atO, setO, MO.getL, MO.putL, Option.isSome_some,
  dInK, dGetK, dGetD, dInD, dGet1, lKeys, lSort, dLenSet, dLenSetL, dLenSet2, sPar3, dRevT, sPutK, xDct, xDct1, sRetK, atK, keyD, sAugI, dFld, sFldD, xRng, iRgO, dNew, dNewV, dCM, dProp, dMeth, dLenI, dStrO, dEqI, dIsC, dJoin, dJs, dFmt, dCallML, sSubI, gSubW, sWh, dTF, gIx, xProp, dRepU, dKeep2, lSortSet, lSortTu, lDc, dRepT, lRep, dStrI, xDctT1, xDctOf, dInT, sPutT, lSortT2, lSortDT, dPop, dBinR, dKeep, dCallMO, atT, dCallO,
  kit_int, kit_bool, kit_tuple, kit_str, List.map_cons, List.map_nil, List.cons_append, List.nil_append, List.replicate, List.set_cons_zero, List.set_cons_succ, List.getElem?_cons_zero, List.getElem?_cons_succ, List.length_cons, List.length_nil, List.length_map, Nat.reduceAdd, Nat.reduceSub, Bool.not_true, Bool.not_false, Bool.false_eq_true, if_true, if_false, true_and, reduceCtorEq, Bool.true_eq_false, rgD_rgI, Option.some.injEq, exists_eq_left', and_true])
theorem v_Double__plus : VD g_Double__plus S_Double__plus 1 0 := fun ds Q _ h => by
  obtain ⟨n, p, u, t, rfl, h⟩ := h
  unfold g_Double__plus
  walk_at "dd"
  exact ⟨_, _, rfl, rfl, h⟩
theorem v_Double__circle : VD g_Double__circle S_Double__circle 1 0 := fun ds Q _ h => by
  obtain ⟨n, p, u, t, rfl, h⟩ := h
  unfold g_Double__circle
  walk_at "dd"
  exact ⟨_, _, rfl, rfl, h⟩
theorem v_Double____len__ : VD g_Double____len__ S_Double____len__ 1 0 := fun ds Q _ h => by
  obtain ⟨n, p, u, t, rfl, h⟩ := h
  unfold g_Double____len__
  walk_at "dd"
  refine ⟨_, _, rfl, rfl, ?_⟩
  rw [dLen_tR, tab_len]
  exact h
theorem cls_dbl {n : Nat} {p t : F1} {u : Int} : clsOk ["Group"] "Double" (dblD n p u t) = some true := by
  show clsOk ["Group"] "Double" (obD "Double" (dblF n p u t)) = some true
  simp [clsOk, insN_ob]
theorem v__law_circle : VD g__law_circle S__law_circle 2 2 := fun ds Q _ h => by
  obtain ⟨n, p, u, t, rfl, hd, h⟩ := h
  have hn := hd.2
  unfold g__law_circle
  walk_at "dd"
  rw [tab_len]
  refine ⟨rgd (by omega), ?_⟩
  try rw [rgD_rgI]
  refine wpLc_mapL (rgI n) PyData.int (fun a => tI ((rgI n).map (ciF p t a))) (by rw [rgI_len]; omega) rfl (fun a ha K hK => ?_) (fun _ => rfl) ?_
  · have ha := In.mem.1 ha
    try walk_at "dd"
    rw [tab_len]
    refine ⟨rgd (by omega), ?_⟩
    try rw [rgD_rgI]
    refine wpLc_mapL (rgI n) PyData.int (fun b => .int (ciF p t a b)) (by rw [rgI_len]; omega) rfl (fun b hb K2 hK2 => ?_) (fun _ => rfl) ?_
    · have hb := In.mem.1 hb
      try walk_at "dd"
      exact ixTR ha (ixTR ha (ixY hb (ixY (hd.1.tin a b ha hb) (hK2 _ rfl))))
    · try walk_at "dd"
      rw [tI_map]
      exact hK _ rfl
  · try walk_at "dd"
    rw [show PyData.tuple ((rgI n).map fun a => tI ((rgI n).map (ciF p t a))) = tR (tab n (ciF p t)) from by unfold tR tab; rw [List.map_map]; rfl]
    exact h
end Dn.T.G.B
set_option Elab.async false
set_option linter.all false
set_option maxRecDepth 100000
set_option autoImplicit false
set_option maxHeartbeats 4000000
namespace Dn.T.G.B
open PySem L2 Evl PySem.Spec PyProof.Rows
local macro_rules | `(tactic| walk_at "dd") => `(tactic| simp only [sSeq, sIf, sSet, sRet, sRetN, sNx, sEx, sAsg, sPar, dTOr, dTAnd, dTNot, dTst, dIsi, dVar, dC, dBin, dChain, dNeg, dI2, dAnd, dOr, dNot, dIfE, dCall, dCallF, aCons, aNil, dTup, lLst, dOfL, xIm, xOw, gNm, gTp, gsCons, gsNil, dYes, envD, dLen_tR, dLen_tI, dLen_tup, dLen_lst, seq_tR, seq_tI, seq_tup, seq_lst, dIs, dIsNot, dNe, dEq, dTupOf, dSl, oNone, oSome, iSq, iEn, iR1, iR2, sFor, lLc, sNever, dTRg, rg1, rg2, lRg, wipeD, isN,
  gTpL, dIxP, sSub, dApp, dPopAt, dExt, dCallM, dCallO, dBinO, dTupO, lOf, lOfO, sRetO, iOw, dVarF, lCat, lCall, dAbs, dMax2, dMin2, dInt, atO, setO, MO.getL, MO.putL, Option.isSome_some,
  dInK, dGetK, dGetD, dInD, dGet1, lKeys, lSort, dLenSet, dLenSetL, dLenSet2, sPar3, dRevT, sPutK, xDct, xDct1, sRetK, atK, keyD, sAugI, dFld, sFldD, xRng, iRgO, dNew, dNewV, dCM, dProp, dMeth, dLenI, dStrO, dEqI, dIsC, dJoin, dJs, dFmt, dCallML, sSubI, gSubW, sWh, dTF, gIx, xProp, dRepU, dKeep2, lSortSet, lSortTu, lDc, dRepT, lRep, dStrI, xDctT1, xDctOf, dInT, sPutT, lSortT2, lSortDT, dPop, dBinR, dKeep, dCallMO, atT, dCallO,
  kit_int, kit_bool, kit_tuple, kit_str, List.map_cons, List.map_nil, List.cons_append, List.nil_append, List.replicate, List.set_cons_zero, List.set_cons_succ, List.getElem?_cons_zero, List.getElem?_cons_succ, List.length_cons, List.length_nil, List.length_map, Nat.reduceAdd, Nat.reduceSub, Bool.not_true, Bool.not_false, Bool.false_eq_true, if_true, if_false, true_and, reduceCtorEq, Bool.true_eq_false, rgD_rgI, Option.some.injEq, exists_eq_left', and_true])
theorem atL {Q : D → Prop} {x y : D} (h : Q x) : dIx (.list [x, y]) (.int 0) Q := ⟨x, rfl, h⟩
theorem atL1 {Q : D → Prop} {x y : D} (h : Q y) : dIx (.list [x, y]) (.int 1) Q := ⟨y, rfl, h⟩
theorem ld0 {n : Nat} {p t : F1} {Q : D → Prop} (h : Q (tR (tab n p))) : dIx (ldD n p t) (.int 0) Q := atL h
theorem ld1 {n : Nat} {p t : F1} {Q : D → Prop} (h : Q (tL (tab n t))) : dIx (ldD n p t) (.int 1) Q := atL1 h
theorem tL_tab {n : Nat} {f : F1} : PyData.list ((rgI n).map fun a => tI ((rgI n).map (f a))) = tL (tab n f) := by unfold tL tab; rw [List.map_map]; rfl
theorem v__law_plain_double : VD g__law_plain_double S__law_plain_double 1 1 := fun ds Q _ h => by
  obtain ⟨n, p, u, rfl, hg, h⟩ := h
  have n2 := hg.2
  unfold g__law_plain_double
  walk_at "dd"
  rw [show (tab n p).map tI = (rgI n).map fun x => tI ((rgI n).map (p x)) from by unfold tab; rw [List.map_map]; rfl]
  refine wpLc_mapL (rgI n) (fun x => tI ((rgI n).map (p x))) (fun x => tI ((rgI n).map fun b => b)) (by rw [rgI_len]; omega) rfl (fun a ha K hK => ?_) (fun _ => rfl) ?_
  · try walk_at "dd"
    rw [tab_len]
    refine ⟨rgd (by omega), ?_⟩
    try rw [rgD_rgI]
    rw [List.map_id'] at hK
    exact hK _ rfl
  · try walk_at "dd"
    rw [tL_tab (f := fun _ b => b)]
    exact ⟨by decide, h⟩
theorem v__law_mirror_double : VD g__law_mirror_double S__law_mirror_double 1 5 := fun ds Q _ h => by
  obtain ⟨n, rfl, h1, h2, h⟩ := h
  unfold g__law_mirror_double
  walk_at "dd"
  refine ⟨n, rfl, h1, by omega, 2, rfl, by decide, by decide, n, 2, cyG n, cyG 2, 0, 0, rfl, gr_cyc h1, gr_cyc (by decide), by omega, ?_⟩
  try walk_at "dd"
  refine ⟨by decide, cm_l ⟨by decide, by decide⟩, ?_⟩
  rw [show ((2 : Int) * n) = ((n * 2 : Nat) : Int) from by push_cast; omega, rgD_rgI]
  refine ⟨rgd (by omega), ?_⟩
  refine wpLc_mapL (rgI (n * 2)) PyData.int (fun b => .int ((0 - b / 2) % (n : Int) * 2 + b % 2)) (by rw [rgI_len]; omega) rfl (fun b hb K hK => ?_) (fun _ => rfl) ?_
  · try walk_at "dd"
    first
    | exact ⟨cd_t (by decide) (by decide), (show (0:Int) < n by omega), cm_r ⟨by decide, by decide⟩, (show (0:Int) < 2 by decide), hK _ rfl⟩
    | trace_state
  · try walk_at "dd"
    rw [tI_map]
    refine ⟨cm_l ⟨by decide, by decide⟩, ?_⟩
    rw [show ((2 : Int) * n) = ((n * 2 : Nat) : Int) from by push_cast; omega, rgD_rgI]
    refine ⟨rgd (by omega), ?_⟩
    refine wpFor_ap (rgI (n * 2)) PyData.int (fun a => tI ((rgI (n * 2)).map (mirT n a))) (fun acc ρ => ∃ x4 x5, ρ = [some (.im (.int n)), some (.im (tR (tab (n * 2) (dirG 2 (cyG n) (cyG 2))))), some (.ow (.lst acc)), some (.im (tI ((rgI (n * 2)).map fun b => (0 - b / 2) % (n : Int) * 2 + b % 2))), x4, x5]) ⟨_, _, rfl⟩ (fun a ha acc ρ K p q r => ?_) (fun ρ p => ?_)
    · obtain ⟨x4, x5, rfl⟩ := p
      rw [rgI_len] at q
      try walk_at "dd"
      refine ⟨by decide, rfl, rfl, ?_⟩
      rw [eqv_int]
      by_cases z : a % 2 = 0
      · rw [decide_eq_true z, if_pos rfl]
        refine ⟨cm_l ⟨by decide, by decide⟩, ?_⟩
        rw [show ((2 : Int) * n) = ((n * 2 : Nat) : Int) from by push_cast; omega, rgD_rgI]
        refine ⟨rgd (by omega), by omega, ?_⟩
        rw [show tI ((rgI (n * 2)).map (mirT n a)) = tI (rgI (n * 2)) from by
          congr 1
          conv => rhs; rw [← List.map_id' (rgI (n * 2))]
          refine List.map_congr_left fun b hb => ?_
          unfold mirT
          rw [if_pos z]
          exact pairDv (b := 2) b] at r
        exact r _ ⟨_, _, rfl⟩
      · rw [decide_eq_false z, if_neg (by decide)]
        refine ⟨by omega, ?_⟩
        rw [show tI ((rgI (n * 2)).map (mirT n a)) = tI ((rgI (n * 2)).map fun b => (0 - b / 2) % (n : Int) * 2 + b % 2) from by
          congr 1
          refine List.map_congr_left fun b hb => ?_
          unfold mirT
          rw [if_neg z]
          rfl] at r
        exact r _ ⟨_, _, rfl⟩
    · obtain ⟨x4, x5, rfl⟩ := p
      try walk_at "dd"
      rw [tL_tab]
      exact ⟨by decide, h⟩
theorem v__law_about_double : VD g__law_about_double S__law_about_double 1 4 := fun ds Q _ h => by
  obtain ⟨n, p, u, rfl, hg, h⟩ := h
  have n2 := hg.2
  have g := hg.1
  let k : Int → Int := fun a => (backOf (tab n p) u a).getD 0
  have hk : ∀ a, In n a → In n (k a) ∧ p (k a) a = u ∧ p a (k a) = u := fun a ha => by
    obtain ⟨k', ek, h1, h2, h3⟩ := bk_im g ha
    show In n ((backOf (tab n p) u a).getD 0) ∧ _
    rw [show k a = k' from ek]
    rw [ek]
    exact ⟨h1, h3, h2⟩
  have h := h _ (db_about g hk) rfl
  unfold g__law_about_double
  walk_at "dd"
  rw [tab_len]
  refine ⟨by decide, rgd (by omega), ?_⟩
  try rw [rgD_rgI]
  refine wpFor_ap (rgI n) PyData.int (fun a => tI ((rgI n).map fun b => p (p (k a) b) a)) (fun acc ρ => ∃ x2 x3 x4, ρ = [some (.im (tR (tab n p))), some (.ow (.lst acc)), x2, x3, x4]) ⟨_, _, _, rfl⟩ (fun a ha acc ρ K i q r => ?_) (fun ρ i => ?_)
  · obtain ⟨x2, x3, x4, rfl⟩ := i
    have ha := In.mem.1 ha
    obtain ⟨k1, _, _⟩ := hk a ha
    rw [rgI_len] at q
    try walk_at "dd"
    refine ⟨n, p, u, a, rfl, hg, ha, ?_⟩
    try walk_at "dd"
    rw [tab_len]
    refine ⟨rgd (by omega), ?_⟩
    try rw [rgD_rgI]
    refine wpLc_mapL (rgI n) PyData.int (fun b => .int (p (p (k a) b) a)) (by rw [rgI_len]; omega) rfl (fun b hb K2 hK2 => ?_) (fun _ => rfl) ?_
    · have hb := In.mem.1 hb
      try walk_at "dd"
      exact ixTR k1 (ixY hb (ixTR (g.rg _ _ k1 hb) (ixY ha (hK2 _ rfl))))
    · try walk_at "dd"
      rw [tI_map]
      refine ⟨by omega, ?_⟩
      exact r _ ⟨_, _, _, rfl⟩
  · obtain ⟨x2, x3, x4, rfl⟩ := i
    try walk_at "dd"
    rw [tL_tab (f := fun a b => p (p (k a) b) a)]
    exact ⟨by decide, h⟩
theorem v__law_ring_double : VD g__law_ring_double S__law_ring_double 2 2 := fun ds Q _ h => by
  obtain ⟨n, s, rfl, h1, h2, s0, s1, h⟩ := h
  unfold g__law_ring_double
  walk_at "dd"
  refine ⟨n, rfl, h1, h2, rgd (by omega), ?_⟩
  try rw [rgD_rgI]
  refine wpLc_mapL (rgI n) PyData.int (fun a => tI ((rgI n).map (ringT n s a))) (by rw [rgI_len]; omega) rfl (fun a ha K hK => ?_) (fun _ => rfl) ?_
  · have ha := In.mem.1 ha
    try walk_at "dd"
    refine ⟨rgd (by omega), ?_⟩
    try rw [rgD_rgI]
    refine wpLc_mapL (rgI n) PyData.int (fun b => .int (ringT n s a b)) (by rw [rgI_len]; omega) rfl (fun b hb K2 hK2 => ?_) (fun _ => rfl) ?_
    · have hb := In.mem.1 hb
      try walk_at "dd"
      have a1 := ha.1
      have a2 := ha.2
      have b1 := hb.1
      have b2 := hb.2
      exact ⟨cm_l ⟨by omega, by omega⟩, cm_r ⟨by omega, by omega⟩, (show (0:Int) < n by omega), hK2 _ rfl⟩
    · try walk_at "dd"
      rw [tI_map]
      exact hK _ rfl
  · try walk_at "dd"
    rw [tL_tab]
    exact ⟨by decide, h⟩
theorem v__law_double_renamed : VD g__law_double_renamed S__law_double_renamed 2 4 := fun ds Q _ h => by
  obtain ⟨n, p, u, t, m, rfl, hd, hm, h⟩ := h
  have n2 := hd.2
  have ml := hm.len
  have hi := inv_mv hm
  have mm : ∀ x, x ∈ m → In n x := fun x hx => In.mem.1 (hm.mem_iff.mp hx)
  unfold g__law_double_renamed
  walk_at "dd"
  refine ⟨n, m, ⟨_, rfl, rfl⟩, hm, by omega, ?_⟩
  try walk_at "dd"
  refine ⟨by decide, ?_⟩
  refine wpFor_ap m PyData.int (fun a => tI (m.map fun b => im (inv m) (t a b))) (fun acc ρ => ∃ x4 x5, ρ = [some (.im (ldD n p t)), some (.im (tI m)), some (.im (tI (inv m))), some (.ow (.lst acc)), x4, x5]) ⟨_, _, rfl⟩ (fun a ha acc ρ K i q r => ?_) (fun ρ i => ?_)
  · obtain ⟨x4, x5, rfl⟩ := i
    try walk_at "dd"
    refine wpLc_mapL m PyData.int (fun b => .int (im (inv m) (t a b))) (by omega) rfl (fun b hb K2 hK2 => ?_) (fun _ => rfl) ?_
    · try walk_at "dd"
      exact ld1 (ixT (mm a ha) (ixY (mm b hb) (ixM hi (hd.1.tin _ _ (mm a ha) (mm b hb)) (hK2 _ rfl))))
    · try walk_at "dd"
      rw [tI_map]
      refine ⟨by omega, ?_⟩
      exact r _ ⟨_, _, rfl⟩
  · obtain ⟨x4, x5, rfl⟩ := i
    try walk_at "dd"
    refine ld0 ⟨n, p, u, m, rfl, ⟨hd.1.gr, n2⟩, hm, ?_⟩
    try walk_at "dd"
    rw [show PyData.list (m.map fun a => tI (m.map fun b => im (inv m) (t a b))) = tL (tab n (renG t m)) from ?_]
    · exact ⟨by decide, h⟩
    · rw [show ∀ f : Int → List Int, PyData.list (m.map fun b => tI (f b)) = tL (m.map f) from fun f => by unfold tL; simp only [List.map_map, Function.comp_def]]
      congr 1
      conv => lhs; rw [mv_self hm]
      unfold tab renG
      rw [List.map_map]
      refine List.map_congr_left fun x hx => ?_
      show (((rgI n).map (im m)).map fun y => im (inv ((rgI n).map (im m))) (t (im m x) y)) = _
      rw [← mv_self hm, mv_self hm, List.map_map, ← mv_self hm]
      rfl
theorem v__law_double_product : VD g__law_double_product S__law_double_product 2 0 := fun ds Q _ h => by
  obtain ⟨a, b, p, k, t, s, u, v, rfl, h1, h2, hl, h⟩ := h
  unfold g__law_double_product
  walk_at "dd"
  refine ld0 (ld0 ⟨a, b, p, k, u, v, rfl, h1.gr, h2.gr, hl, ?_⟩)
  refine ld1 (ld1 ⟨_, _, a, b, t, s, rfl, rfl, rfl, fun x y hx hy => h1.tin x y hx hy, fun x y hx hy => h2.tin x y hx hy, g_one h2.gr, hl, ?_⟩)
  try walk_at "dd"
  exact ⟨by decide, h⟩
end Dn.T.G.B
set_option Elab.async false
set_option linter.all false
set_option maxRecDepth 100000
set_option autoImplicit false
set_option maxHeartbeats 4000000
namespace Dn.T.G.B
open PySem L2 Evl PySem.Spec PyProof.Rows
local macro_rules | `(tactic| walk_at "dd") => `(tactic| simp only [sSeq, sIf, sSet, sRet, sRetN, sNx, sEx, sAsg, sPar, dTOr, dTAnd, dTNot, dTst, dIsi, dVar, dC, dBin, dChain, dNeg, dI2, dAnd, dOr, dNot, dIfE, dCall, dCallF, aCons, aNil, dTup, lLst, dOfL, xIm, xOw, gNm, gTp, gsCons, gsNil, dYes, envD, dLen_tR, dLen_tI, dLen_tup, dLen_lst, seq_tR, seq_tI, seq_tup, seq_lst, dIs, dIsNot, dNe, dEq, dTupOf, dSl, oNone, oSome, iSq, iEn, iR1, iR2, sFor, lLc, sNever, dTRg, rg1, rg2, lRg, wipeD, isN,
  gTpL, dIxP, sSub, dApp, dPopAt, dExt, dCallM, dCallO, dBinO, dTupO, lOf, lOfO, sRetO, iOw, dVarF, lCat, lCall, dAbs, dMax2, dMin2, dInt, atO, setO, MO.getL, MO.putL, Option.isSome_some,
  dInK, dGetK, dGetD, dInD, dGet1, lKeys, lSort, dLenSet, dLenSetL, dLenSet2, sPar3, dRevT, sPutK, xDct, xDct1, sRetK, atK, keyD, sAugI, dFld, sFldD, xRng, iRgO, dNew, dNewV, dCM, dProp, dMeth, dLenI, dStrO, dEqI, dIsC, dJoin, dJs, dFmt, dCallML, sSubI, gSubW, sWh, dTF, gIx, xProp, dRepU, dKeep2, lSortSet, lSortTu, lDc, dRepT, lRep, dStrI, xDctT1, xDctOf, dInT, sPutT, lSortT2, lSortDT, dPop, dBinR, dKeep, dCallMO, atT, dCallO,
  kit_int, kit_bool, kit_tuple, kit_str, List.map_cons, List.map_nil, List.cons_append, List.nil_append, List.replicate, List.set_cons_zero, List.set_cons_succ, List.getElem?_cons_zero, List.getElem?_cons_succ, List.length_cons, List.length_nil, List.length_map, Nat.reduceAdd, Nat.reduceSub, Bool.not_true, Bool.not_false, Bool.false_eq_true, if_true, if_false, true_and, reduceCtorEq, Bool.true_eq_false, rgD_rgI, Option.some.injEq, exists_eq_left', and_true])
def GoodD (m : Nat) (y : D) : Prop := ∃ n p u t, y = ldD n p t ∧ Db n p u t ∧ n ≤ m
theorem app_good {m : Nat} {a b : List D} (ha : ∀ y, y ∈ a → GoodD m y) (hb : ∀ y, y ∈ b → GoodD m y) : ∀ y, y ∈ a ++ b → GoodD m y := fun y hy => by
  rcases List.mem_append.mp hy with hy | hy
  · exact ha y hy
  · exact hb y hy
theorem v__law_small_double : VM g__law_small_double S__law_small_double 2 3 := fun l ms ds Q _ h => by
  obtain ⟨m, rfl, m1, m2, hm, h⟩ := h
  unfold g__law_small_double
  walk_at "dd"
  refine ⟨⟨by omega, by omega, by omega, by omega⟩, ?_⟩
  refine wpLc_all (GoodD m) (fun ρ => ρ = [some (.ow (.par l (.lst ms))), some (.im (.int m)), none, none, none]) rfl (by rw [rgD_len]; omega) (fun d hd ρ K i k => ?_) (fun _ => rfl) (fun acc ρ al ag i => ?_)
  · subst i
    obtain ⟨c, rfl, c0, c1⟩ := mem_rgD hd
    obtain ⟨c, rfl⟩ : ∃ c' : Nat, c = c' := ⟨c.toNat, by omega⟩
    try walk_at "dd"
    refine ⟨c, rfl, by omega, by omega, c, cyG c, 0, rfl, ⟨gr_cyc (by omega), by omega⟩, ?_⟩
    exact k _ _ ⟨c, _, 0, _, rfl, db_plain (gr_cyc (by omega)), by omega⟩ rfl
  subst i
  rw [rgD_len] at al
  try walk_at "dd"
  refine ⟨cd_t (by decide) (by decide), ⟨by omega, by omega, by omega, by omega⟩, ?_⟩
  refine wpLc_all (GoodD m) (fun ρ => ρ = [some (.ow (.par l (.lst ms))), some (.im (.int m)), some (.im (.list acc)), none, none]) rfl (by rw [rgD_len]; omega) (fun d hd ρ K i k => ?_) (fun _ => rfl) (fun acc2 ρ al2 ag2 i => ?_)
  · subst i
    obtain ⟨c, rfl, c0, c1⟩ := mem_rgD hd
    obtain ⟨c, rfl⟩ : ∃ c' : Nat, c = c' := ⟨c.toNat, by omega⟩
    try walk_at "dd"
    refine ⟨c, rfl, by omega, by omega, ?_⟩
    exact k _ _ ⟨c * 2, _, _, _, rfl, db_mir (by omega), by omega⟩ rfl
  subst i
  rw [rgD_len] at al2
  try walk_at "dd"
  have la : acc.length ≤ 24 := by omega
  have lb : acc2.length ≤ 12 := by omega
  refine ⟨by omega, ?_⟩
  have gA := app_good ag ag2
  have lA : (acc ++ acc2).length ≤ 36 := by rw [List.length_append]; omega
  have nA : 1 ≤ (acc ++ acc2).length := by rw [List.length_append]; omega
  generalize acc ++ acc2 = A at gA lA nA
  refine ⟨by decide, by decide, by decide, by decide, by decide, by decide, by decide, ?_⟩
  let six : List (Nat × Int) := [(4, 2), (8, 2), (8, 4), (8, 6), (9, 3), (9, 6)]
  have six_ok : ∀ q, q ∈ six → (q.1 = 4 ∧ q.2 = 2) ∨ (q.1 = 8 ∧ q.2 = 2) ∨ (q.1 = 8 ∧ q.2 = 4) ∨ (q.1 = 8 ∧ q.2 = 6) ∨ (q.1 = 9 ∧ q.2 = 3) ∨ (q.1 = 9 ∧ q.2 = 6) := by decide
  show wpFor _ _ _ (six.map fun q => PyData.tuple [.int q.1, .int q.2]) _
  refine wpFor_pre six (fun q => PyData.tuple [.int q.1, .int q.2]) (fun l1 ρ => ∃ B x3 x4, ρ = [some (.ow (.par l (.lst ms))), some (.im (.int m)), some (.im (.list B)), x3, x4] ∧ B.length ≤ 36 + l1.length ∧ (1 ≤ B.length) ∧ ∀ y, y ∈ B → GoodD m y) ⟨A, _, _, rfl, by omega, nA, gA⟩ (fun l1 q l2 e ρ K p k => ?_) (fun ρ p => ?_)
  · obtain ⟨B, x3, x4, rfl, lB, nB, gB⟩ := p
    have hq := six_ok q (by rw [e]; simp)
    have ll := congrArg List.length e
    rw [show six.length = 6 from rfl, List.length_append, List.length_cons] at ll
    have q1 : 1 ≤ q.1 ∧ q.1 ≤ 9 ∧ 0 ≤ q.2 ∧ q.2 ≤ 6 := by omega
    try walk_at "dd"
    refine ⟨q.1, q.2, rfl, by omega, by omega, by omega, by omega, ?_⟩
    try walk_at "dd"
    by_cases z : (q.1 : Int) ≤ m
    · rw [decide_eq_true z]
      refine ⟨by decide, _, 1, rfl, rfl, by decide, by decide, by simp, ?_⟩
      have e2 : (List.replicate (1 : Int).toNat [ldD q.1 (cyG q.1) (ringT q.1 q.2)]).flatten = [ldD q.1 (cyG q.1) (ringT q.1 q.2)] := rfl
      refine ⟨by rw [show (List.replicate (1 : Int).toNat [ldD q.1 (cyG q.1) (ringT q.1 q.2)]).flatten.length = 1 from rfl]; omega, ?_⟩
      refine k _ ⟨_, _, _, rfl, ?_, by rw [List.length_append]; omega, app_good gB fun y hy => ?_⟩
      · rw [List.length_append, List.length_append, show (List.replicate (1 : Int).toNat [ldD q.1 (cyG q.1) (ringT q.1 q.2)]).flatten.length = 1 from rfl]
        show B.length + 1 ≤ 36 + (l1.length + 1)
        omega
      · rw [e2] at hy
        rw [List.mem_singleton.mp hy]
        exact ⟨q.1, _, 0, _, rfl, db_ring hq, by omega⟩
    · rw [decide_eq_false z]
      refine ⟨by decide, _, 0, rfl, rfl, by decide, by decide, by simp, ?_⟩
      refine ⟨by rw [show (List.replicate (0 : Int).toNat [ldD q.1 (cyG q.1) (ringT q.1 q.2)]).flatten.length = 0 from rfl]; omega, ?_⟩
      refine k _ ⟨_, _, _, rfl, ?_, by rw [List.length_append]; omega, app_good gB fun y hy => by cases hy⟩
      rw [List.length_append, List.length_append, show (List.replicate (0 : Int).toNat [ldD q.1 (cyG q.1) (ringT q.1 q.2)]).flatten.length = 0 from rfl]
      show B.length + 0 ≤ 36 + (l1.length + 1)
      omega
  · obtain ⟨B, x3, x4, rfl, lB, nB, gB⟩ := p
    have lB : B.length ≤ 42 := lB
    have fin : ∀ (C : List D), C.length ≤ 50 → 1 ≤ C.length → (∀ y, y ∈ C → GoodD m y) → S__law_pick ms [PyData.list C] fun d ms' => ∃ ms'_1, SV.ow (MO.par l (MO.lst ms')) = SV.ow (MO.par l (MO.lst ms'_1)) ∧ Q d ms'_1 := fun C lC nC gC => by
      refine ⟨_, C, rfl, rfl, List.ne_nil_of_length_pos nC, by omega, hm, fun x ms2 hx hm2 => ?_⟩
      obtain ⟨n, p, u, t, rfl, d, hn⟩ := gC x hx
      exact ⟨_, rfl, h n p u t _ d hn hm2⟩
    have t3 := gr_trn (n := 3) (by decide)
    have t4 := gr_trn (n := 4) (by decide)
    have fin2 : ∀ (C : List D), C.length ≤ 46 → 1 ≤ C.length → (∀ y, y ∈ C → GoodD m y) → (if decide (7 < (m : Int)) = true then S__law_turned_pairs [.int 4] fun z => S__law_about_double [z] fun z => S__law_quaternion_rows [] fun z_1 => S__law_about_double [z_1] fun z_2 => 2 ≤ 16777216 ∧ C.length + [z, z_2].length ≤ 16777216 ∧ S__law_pick ms [PyData.list (C ++ [z, z_2])] fun d ms' => ∃ ms'_1, SV.ow (MO.par l (MO.lst ms')) = SV.ow (MO.par l (MO.lst ms'_1)) ∧ Q d ms'_1 else S__law_pick ms [PyData.list C] fun d ms' => ∃ ms'_1, SV.ow (MO.par l (MO.lst ms')) = SV.ow (MO.par l (MO.lst ms'_1)) ∧ Q d ms'_1) := fun C lC nC gC => by
      by_cases z : 7 < (m : Int)
      · rw [decide_eq_true z, if_pos rfl]
        refine ⟨4, rfl, by decide, by decide, 2 * 4, trnG 4, 0, rfl, ⟨t4, by decide⟩, fun tt ht _ => ⟨rfl, 8, gOf qRows, 0, by rw [tab_q], ⟨gr_q, by decide⟩, fun ss hs _ => ⟨by decide, by simp; omega, ?_⟩⟩⟩
        refine fin _ (by simp; omega) (by simp) (app_good gC fun y hy => ?_)
        simp only [List.mem_cons, List.not_mem_nil, or_false] at hy
        rcases hy with rfl | rfl
        · exact ⟨_, _, _, _, rfl, ht, by omega⟩
        · exact ⟨_, _, _, _, rfl, hs, by omega⟩
      · rw [decide_eq_false z, if_neg (by decide)]
        exact fin _ (by omega) nC gC
    try walk_at "dd"
    try dsimp only [dGt, dI2]
    by_cases z : 5 < (m : Int)
    · rw [decide_eq_true z, if_pos rfl]
      refine ⟨3, rfl, by decide, by decide, 2 * 3, trnG 3, 0, rfl, ⟨t3, by decide⟩, 3, rfl, by decide, by decide, 2 * 3, trnG 3, 0, rfl, ⟨t3, by decide⟩, fun tt ht _ => ⟨by decide, by simp; omega, ?_⟩⟩
      refine fin2 _ (by simp; omega) (by simp) (app_good gB fun y hy => ?_)
      simp only [List.mem_cons, List.not_mem_nil, or_false] at hy
      rcases hy with rfl | rfl
      · exact ⟨_, _, _, _, rfl, db_plain t3, by omega⟩
      · exact ⟨_, _, _, _, rfl, ht, by omega⟩
    · rw [decide_eq_false z, if_neg (by decide)]
      exact fin2 _ (by omega) nB gB
theorem v__law_double : VM g__law_double S__law_double 2 1 := fun l ms ds Q _ h => by
  obtain ⟨m, rfl, m1, m2, hm, h⟩ := h
  have fin : ∀ n p u t ms', Db n p u t → n ≤ m → Dc ms' → S__law_drawn_move ms' [.int n] fun d ms'' => S__law_double_renamed [ldD n p t, d] fun d => ∃ ms'_1, SV.ow (MO.par l (MO.lst ms'')) = SV.ow (MO.par l (MO.lst ms'_1)) ∧ Q d ms'_1 := fun n p u t ms' d hn hm' =>
    ⟨n, rfl, by omega, hm', fun mv ms'' hp hm2 => ⟨n, p, u, t, mv, rfl, ⟨d, by omega⟩, hp, _, rfl, h n _ _ _ _ (db_ren d hp) hn hm2⟩⟩
  have dl : ∀ (n : Nat) (p : F1) (Q : D → Prop), dLen [tR (tab n p)] Q = Q (.int n) := fun n p Q => by rw [dLen_tR, tab_len]
  unfold g__law_double
  walk_at "dd"
  refine ⟨m, rfl, m1, m2, hm, fun n p u t ms1 d hn hm1 => ?_⟩
  have n1 := g_one d.gr
  try walk_at "dd"
  refine ld0 ?_
  rw [dl]
  refine ⟨cm_r ⟨by decide, by decide⟩, ?_⟩
  dsimp only [dLe, dI2]
  refine ⟨trivial, ?_⟩
  by_cases z : (n : Int) * 2 ≤ m
  · rw [decide_eq_true z]
    try walk_at "dd"
    refine ⟨2, rfl, by decide, by decide, hm1, fun r ms2 r0 r1 hm2 => ⟨rfl, rfl, ?_⟩⟩
    rw [eqv_int]
    by_cases y : r = 0
    · rw [decide_eq_true y, if_pos rfl]
      refine ld0 ?_
      rw [dl]
      refine ⟨cd_t (by omega) (by omega), ?_⟩
      obtain ⟨c, hc⟩ : ∃ c : Nat, (m : Int) / n = c := ⟨m / n, by simp⟩
      show S__law_small_double ms2 [.int ((m : Int) / n)] _
      rw [hc]
      have hc' : m / n = c := by have : ((m / n : Nat) : Int) = c := by rw [← hc]; simp
                                 omega
      have c1 : 1 ≤ c := by
        rw [← hc']
        exact (Nat.le_div_iff_mul_le (by omega)).2 (by omega)
      have c2 : c * n ≤ m := by rw [← hc']; exact Nat.div_mul_le_self m n
      have c3 : c ≤ m := Nat.le_trans (Nat.le_mul_of_pos_right c n1) c2
      refine ⟨c, rfl, c1, by omega, hm2, fun b k v s ms3 d2 hb hm3 => ?_⟩
      have nb : n * b ≤ m := Nat.le_trans (by rw [Nat.mul_comm]; exact Nat.mul_le_mul_right n hb) c2
      refine ⟨n, b, p, k, t, s, u, v, rfl, d, d2, by omega, ?_⟩
      try walk_at "dd"
      refine ld0 ?_
      rw [dl]
      exact fin _ _ _ _ _ (db_dir d d2) nb hm3
    · rw [decide_eq_false y, if_neg (by decide)]
      refine ld0 ?_
      rw [dl]
      exact fin _ _ _ _ _ d hn hm2
  · rw [decide_eq_false z]
    try walk_at "dd"
    refine ld0 ?_
    rw [dl]
    exact fin _ _ _ _ _ d hn hm1
end Dn.T.G.B
set_option Elab.async false
set_option linter.all false
set_option maxRecDepth 100000
set_option autoImplicit false
set_option maxHeartbeats 4000000
namespace Dn.T.G
open PySem L2 Evl PySem.Spec PyProof.Rows
def S__law_group_rows (ms ds : List D) (Q : D → List D → Prop) : Prop := ∃ m : Nat, ds = [.int m] ∧ 1 ≤ m ∧ m ≤ 24 ∧ Dc ms ∧ ∀ n g u ms', Gr n g u → n ≤ m → Dc ms' → Q (tR (tab n g)) ms'
end Dn.T.G
set_option Elab.async false
set_option linter.all false
set_option maxRecDepth 100000
set_option autoImplicit false
set_option maxHeartbeats 4000000
namespace Dn.T.G.B.K37
open PySem L2 Evl PySem.Spec PyProof.Rows
def bkF (n : Nat) (p : F1) (u : Int) : Int → Int := fun a => (backOf (tab n p) u a).getD 0
abbrev opp (p : F1) : F1 := fun a b => p b a
def opT (n : Nat) (p : F1) (u : Int) (t : F1) : F1 := fun a b => p (ciF p t a b) (bkF n p u a)
def abT (n : Nat) (p : F1) (u : Int) : F1 := fun a b => p (p (bkF n p u a) b) a
def comB (n : Nat) (p : F1) : Bool := decide (tab n (opp p) = tab n p)
def RG (n : Nat) (g : F1) : Prop := ∀ x y, In n x → In n y → In n (g x y)
def S__law_circle (ds : List D) (Q : D → Prop) : Prop := ∃ n p u t, ds = [tR (tab n p), tL (tab n t)] ∧ D24 n p u t ∧ Q (tR (tab n (ciF p t)))
def S__law_behind_rows (ds : List D) (Q : D → Prop) : Prop := ∃ n g, ds = [tR (tab n g)] ∧ n ≤ 24 ∧ RG n g ∧ Q (tR (tab n (opp g)))
def S__law_is_even (ds : List D) (Q : D → Prop) : Prop := ∃ n p, ds = [tR (tab n p)] ∧ n ≤ 24 ∧ RG n p ∧ Q (.bool (comB n p))
def S__law_of (ds : List D) (Q : D → Prop) : Prop := ∃ n p u t, ds = [ldD n p t] ∧ D24 n p u t ∧ Q (dblD n p u t)
def S__law_has (ds : List D) (Q : D → Prop) : Prop := ∃ n p u t q c, ds = [dblD n p u t, tR (tab n q), tR (tab n c)] ∧ D24 n p u t ∧ tab n q = tab n p ∧ tab n c = tab n (ciF p t) ∧ Q (.bool true)
def S_Double____invert__ (ds : List D) (Q : D → Prop) : Prop := ∃ n p u t, ds = [dblD n p u t] ∧ D24 n p u t ∧ Q (dblD n (opp p) u (opT n p u t))
def S_Double____mul__ (ds : List D) (Q : D → Prop) : Prop := ∃ a b p k t s u v, ds = [dblD a p u t, dblD b k v s] ∧ Db a p u t ∧ Db b k v s ∧ a * b ≤ 24 ∧ Q (dblD (a * b) (dirG b p k) (pairN b u v) (dirG b t s))
def S__law_times (ds : List D) (Q : D → Prop) : Prop := ∃ a b p k t s u v, ds = [dblD a p u t, dblD b k v s] ∧ Db a p u t ∧ Db b k v s ∧ a ≤ 24 ∧ b ≤ 24 ∧ (a * b ≤ 24 → Q (dblD (a * b) (dirG b p k) (pairN b u v) (dirG b t s))) ∧ (24 < a * b → Q (.int 24))
def S_cyclic_rows (ds : List D) (Q : D → Prop) : Prop := ∃ n : Nat, ds = [.int n] ∧ 1 ≤ n ∧ n ≤ 24 ∧ Q (tR (tab n (cyG n)))
def S_Group__cyclic (ds : List D) (Q : D → Prop) : Prop := ∃ n : Nat, ds = [clsD "Group", .int n] ∧ 1 ≤ n ∧ n ≤ 24 ∧ Q (grpD n (cyG n) 0)
def S_Double__both (ds : List D) (Q : D → Prop) : Prop := ∃ n p u, ds = [clsD "Double", grpD n p u] ∧ G24 n p u ∧ Q (dblD n p u fun _ b => b)
def S_Double__about (ds : List D) (Q : D → Prop) : Prop := ∃ n p u, ds = [clsD "Double", grpD n p u] ∧ G24 n p u ∧ Q (dblD n p u (abT n p u))
def S__law_right (ms ds : List D) (Q : D → List D → Prop) : Prop := ds = [] ∧ Dc ms ∧ ∀ ms', Dc ms' → Q (.bool true) ms'
def S_law (ds : List D) (Q : D → Prop) : Prop := ∃ s, ds = [scr s] ∧ s.length ≤ 63 ∧ Q (.bool true)
end Dn.T.G.B.K37
set_option Elab.async false
set_option linter.all false
set_option maxRecDepth 100000
set_option autoImplicit false
set_option maxHeartbeats 4000000
namespace Dn.T.G.B.K37.K84
open PySem L2 Evl PySem.Spec PyProof.Rows
def Ac (n k : Nat) (A : List (List Int)) : Prop := A.length = k ∧ ∀ r, r ∈ A → Mv n r
def BL (p t : F1) (m : List Int) (x y : Int) : Bool := !decide (im m (p x y) = p (im m x) (im m y)) || !decide (im m (ciF p t x y) = ciF p t (im m x) (im m y))
def BJ (q s : F1) (A : List (List Int)) (a b : Int) : Bool := !decide (row A (ciF q s a b) = jn (row A a) (row A b))
def kp (n : Nat) (p t : F1) (m : List Int) : Bool := (rgI n).all fun x => (rgI n).all fun y => !BL p t m x y
def wJ (k : Nat) (q s : F1) (A : List (List Int)) : Bool := (rgI k).all fun a => (rgI k).all fun b => !BJ q s A a b
def wW (k : Nat) (q s : F1) (n : Nat) (p t : F1) (A : List (List Int)) : Bool := wJ k q s A && A.all (kp n p t)
def Rch (p : F1) (u : Int) (ms : List Int) (x : Int) : Prop := ∀ S : Int → Prop, S u → (∀ h m, S h → m ∈ ms → S (p h m)) → S x
def lkB (k n : Nat) (p t : F1) (A : List (List Int)) (a x y : D) : Bool := (isTh k a && (isTh n x && isTh n y)) && (match a, x, y with
  | .int a, .int x, .int y => BL p t (row A a) x y
  | _, _, _ => false)
def noP (k : Nat) (d : D) : Prop := okV d ∧ (∀ h x y z, d = .tuple [h, x, y, z] → isStr "likeness" h = false) ∧ isTold "joined" 2 k d = false ∧ isTup1 "join" d = false
def S_check_double (ds : List D) (Q : D → Prop) : Prop := ∃ n p u t, ds = [dblD n p u t] ∧ Q .none
def S__check_acts (ds : List D) (Q : D → Prop) : Prop := ∃ k q v s n p u t A, ds = [dblD k q v s, dblD n p u t, tR A] ∧ k ≤ 24 ∧ n ≤ 24 ∧ Ac n k A ∧ Q .none
def S__breaks_likeness (ds : List D) (Q : D → Prop) : Prop := ∃ n p u t m x y, ds = [dblD n p u t, tI m, .int x, .int y] ∧ D24 n p u t ∧ Mv n m ∧ In n x ∧ In n y ∧ Q (.bool (BL p t m x y))
def S__breaks_joined (ds : List D) (Q : D → Prop) : Prop := ∃ k q v s n A a b, ds = [dblD k q v s, tR A, .int a, .int b] ∧ D24 k q v s ∧ n ≤ 24 ∧ Ac n k A ∧ In k a ∧ In k b ∧ Q (.bool (BJ q s A a b))
def S__broken_likeness (ds : List D) (Q : D → Prop) : Prop := ∃ n p u t m, ds = [dblD n p u t, tI m] ∧ D24 n p u t ∧ Mv n m ∧ (kp n p t m = true → Q .none) ∧ (kp n p t m = false → ∀ x y : Int, Q (.tuple [.int x, .int y]))
def S_join_paper (ds : List D) (Q : D → Prop) : Prop := ∃ k q v s n p u t A, ds = [dblD k q v s, dblD n p u t, tR A] ∧ D24 k q v s ∧ D24 n p u t ∧ Ac n k A ∧ (wW k q s n p t A = true → Q (.tuple [.str "join"])) ∧
  (wW k q s n p t A = false → (∀ a x y : Int, Q (.tuple [.str "likeness", .int a, .int x, .int y])) ∧ ∀ a b : Int, Q (.tuple [.str "joined", .int a, .int b]))
def S_is_join_paper (ds : List D) (Q : D → Prop) : Prop := ∃ k q v s n p u t A d, ds = [dblD k q v s, dblD n p u t, tR A, d] ∧ D24 k q v s ∧ D24 n p u t ∧ Ac n k A ∧
  ((∃ a x y, d = .tuple [.str "likeness", a, x, y] ∧ okV d ∧ Q (.bool (lkB k n p t A a x y))) ∨ (∃ a b : Int, d = .tuple [.str "joined", .int a, .int b] ∧ In k a ∧ In k b ∧ Q (.bool (BJ q s A a b))) ∨ (d = .tuple [.str "join"] ∧ Q (.bool (wW k q s n p t A))) ∨ (noP k d ∧ Q (.bool false)))
def S__law_circle_of (ds : List D) (Q : D → Prop) : Prop := ∃ n p u t, ds = [ldD n p t] ∧ D24 n p u t ∧ Q (tR (tab n (ciF p t)))
def S__law_says (ds : List D) (Q : D → Prop) : Prop := ∃ k q v s n p u t A d, ds = [ldD k q s, ldD n p t, tR A, d] ∧ D24 k q v s ∧ D24 n p u t ∧ Ac n k A ∧
  ((∃ a x y : Int, d = .tuple [.str "likeness", .int a, .int x, .int y] ∧ In k a ∧ In n x ∧ In n y ∧ Q (.bool (BL p t (row A a) x y))) ∨ ∃ a b : Int, d = .tuple [.str "joined", .int a, .int b] ∧ In k a ∧ In k b ∧ Q (.bool (BJ q s A a b)))
def S__law_keeps_double (ds : List D) (Q : D → Prop) : Prop := ∃ n p u t m, ds = [ldD n p t, ldD n p t, tI m] ∧ D24 n p u t ∧ Mv n m ∧ Q (.bool (kp n p t m))
def S__law_goal_rows (ds : List D) (Q : D → Prop) : Prop := ∃ n m : Nat, ds = [.int n, .int m] ∧ n ≤ 4 ∧ m ≤ 4 ∧ ∀ C : List (List Int), C.length ≤ 256 → (∀ r, r ∈ C → r.length = m ∧ ∀ x, x ∈ r → In n x) → Q (tL C)
def S__law_made_part (ds : List D) (Q : List D → Prop) : Prop := ∃ n p u ms, ds = [tR (tab n p), .list (ms.map PyData.int)] ∧ G24 n p u ∧ (∀ x, x ∈ ms → In n x) ∧ ms.length ≤ 24 ∧ ∀ L : List Int, L.length ≤ n → (∀ x, x ∈ L ↔ Rch p u ms x) → Q (L.map PyData.int)
def S__law_plus_makers (ds : List D) (Q : D → Prop) : Prop := ∃ n p u, ds = [tR (tab n p)] ∧ G24 n p u ∧ ∀ ms : List Int, ms.length ≤ n → (∀ x, x ∈ ms → In n x) → (∀ x, In n x → Rch p u ms x) → Q (.list (ms.map PyData.int))
def S__law_spread_goals (ds : List D) (Q : D → Prop) : Prop := ∃ n p u ms gs, ds = [tR (tab n p), tR (tab n p), .list (ms.map PyData.int), tI gs, .int u] ∧ G24 n p u ∧ (∀ x, x ∈ ms → In n x) ∧ gs.length = ms.length ∧ (∀ x, x ∈ gs → In n x) ∧ ms.length ≤ 24 ∧ (∀ x, In n x → Rch p u ms x) ∧ Q .none ∧ ∀ m, Mv n m → Q (tI m)
def S__law_likenesses_to (ds : List D) (Q : D → Prop) : Prop := ∃ n p u t, ds = [ldD n p t, ldD n p t] ∧ Db n p u t ∧ n ≤ 4 ∧ ∀ C : List (List Int), C.length ≤ 256 → (∀ r, r ∈ C → Mv n r) → Q (tL C)
def S__law_drawn_paper (ms ds : List D) (Q : D → List D → Prop) : Prop := ∃ k q s n p t, ds = [ldD k q s, ldD n p t] ∧ 1 ≤ k ∧ 1 ≤ n ∧ k ≤ 24 ∧ n ≤ 24 ∧ Dc ms ∧ (∀ (a x y : Int) ms', In k a → In n x → In n y → Dc ms' → Q (.tuple [.str "likeness", .int a, .int x, .int y]) ms') ∧ ∀ (a b : Int) ms', In k a → In k b → Dc ms' → Q (.tuple [.str "joined", .int a, .int b]) ms'
def S__law_idle (ds : List D) (Q : D → Prop) : Prop := ∃ n : Nat, ds = [.int n] ∧ n ≤ 24 ∧ Q (tI (rgI n))
def S__law_right (ms ds : List D) (Q : D → List D → Prop) : Prop := ds = [] ∧ Dc ms ∧ ∀ ms', Dc ms' → Q (.bool true) ms'
def S_law (ds : List D) (Q : D → Prop) : Prop := ∃ s, ds = [scr s] ∧ s.length ≤ 63 ∧ Q (.bool true)
end Dn.T.G.B.K37.K84
set_option Elab.async false
set_option linter.all false
set_option maxRecDepth 100000
set_option autoImplicit false
set_option maxHeartbeats 400000
namespace Dn.T.G.B.K37
open PySem L2 Evl PySem.Spec PyProof.Rows
theorem gr_opp {n : Nat} {g : F1} {u : Int} (h : Gr n g u) : Gr n (opp g) u where
  rg := fun x y hx hy => h.rg y x hy hx
  un := h.un
  ul := h.ur
  ur := h.ul
  as := fun x y z hx hy hz => (h.as z y x hz hy hx).symm
  iv := fun x hx => by
    obtain ⟨y, hy, a, b⟩ := h.iv x hx
    exact ⟨y, hy, b, a⟩
section
variable {n : Nat} {p t : F1} {u : Int}
theorem bk_ok (g : Gr n p u) {a : Int} (ha : In n a) : In n (bkF n p u a) ∧ p a (bkF n p u a) = u ∧ p (bkF n p u a) a = u := by
  obtain ⟨k, ek, hk, e1, e2⟩ := bk_im g ha
  unfold bkF
  rw [ek]
  exact ⟨hk, e1, e2⟩
theorem bk_un (g : Gr n p u) {a b : Int} (ha : In n a) (hb : In n b) (e : p a b = u) : bkF n p u a = b := by
  obtain ⟨h1, h2, _⟩ := bk_ok g ha
  exact g.lc ha h1 hb (h2.trans e.symm)
theorem op_ci (h : Db n p u t) {a b : Int} (ha : In n a) (hb : In n b) : ciF (opp p) (opT n p u t) a b = ciF p t a b := by
  have g := h.gr
  obtain ⟨hk, e1, e2⟩ := bk_ok g ha
  have hc := h.ci.rg a b ha hb
  show p (p (ciF p t a b) (bkF n p u a)) a = _
  rw [g.as _ _ _ hc hk ha, e2, g.ur _ hc]
theorem db_opp (h : Db n p u t) : Db n (opp p) u (opT n p u t) := by
  have g := h.gr
  have gc := h.ci
  have R : ∀ {a b}, In n a → In n b → In n (ciF p t a b) := fun ha hb => gc.rg _ _ ha hb
  refine ⟨gr_opp g, fun a b ha hb => g.rg _ _ (R ha hb) (bk_ok g ha).1, fun a b c ha hb hc e => ?_, fun a b c ha hb hc => ?_, fun a b x ha hb hx => ?_⟩
  · exact gc.lc ha hb hc (g.rc (bk_ok g ha).1 (R ha hb) (R ha hc) e)
  · obtain ⟨hk, e1, e2⟩ := bk_ok g ha
    show p (ciF p t a (p c b)) (bkF n p u a) = p (p (ciF p t a c) (bkF n p u a)) (p (ciF p t a b) (bkF n p u a))
    rw [h.rule ha hc hb hk e2, g.as _ _ _ (g.rg _ _ (R ha hc) hk) (R ha hb) hk]
  · obtain ⟨hk, e1, e2⟩ := bk_ok g ha
    obtain ⟨hl, f1, f2⟩ := bk_ok g hb
    have hab := R ha hb
    have hak := R ha hl
    have e3 : p (ciF p t a b) (p (bkF n p u a) (ciF p t a (bkF n p u b))) = a := by
      have := h.rule (c := bkF n p u b) ha hb hl hk e2
      rw [f1, gc.ur a ha, g.as _ _ _ hab hk hak] at this
      exact this.symm
    have hw := g.rg _ _ hk hak
    have e4 : bkF n p u (ciF p t a b) = p (p (bkF n p u a) (ciF p t a (bkF n p u b))) (bkF n p u a) := by
      refine bk_un g hab (g.rg _ _ hw hk) ?_
      rw [← g.as _ _ _ hab hw hk, e3, e1]
    have e5 : opp p a (opT n p u t a b) = ciF p t a b := op_ci h ha hb
    rw [e5]
    show p (ciF p t (ciF p t a b) x) (bkF n p u (ciF p t a b)) = p (ciF p t a (p (ciF p t b x) (bkF n p u b))) (bkF n p u a)
    rw [e4, h.rule ha (R hb hx) hl hk e2, gc.as _ _ _ ha hb hx]
    have hz := R ha (R hb hx)
    rw [← g.as _ _ _ hz hw hk, ← g.as _ _ _ hz hk hak]
theorem ab_ci (g : Gr n p u) {a b : Int} (ha : In n a) (hb : In n b) : ciF p (abT n p u) a b = p b a := by
  obtain ⟨hk, e1, e2⟩ := bk_ok g ha
  show p a (p (p (bkF n p u a) b) a) = _
  rw [← g.as _ _ _ ha (g.rg _ _ hk hb) ha, ← g.as _ _ _ ha hk hb, e1, g.ul b hb]
theorem db_ab (g : Gr n p u) : Db n p u (abT n p u) := db_about g fun a ha => ⟨(bk_ok g ha).1, (bk_ok g ha).2.2, (bk_ok g ha).2.1⟩
end
theorem tab_inj {n : Nat} {f g : F1} (e : tab n f = tab n g) {x y : Int} (hx : In n x) (hy : In n y) : f x y = g x y := by
  have r : im ((tab n f).getD x.toNat []) y = im ((tab n g).getD x.toNat []) y := by rw [e]
  rw [show (tab n f).getD x.toNat [] = (rgI n).map (f x) from row_g hx, show (tab n g).getD x.toNat [] = (rgI n).map (g x) from row_g hx, imp hy, imp hy] at r
  exact r
theorem ci_dir {a b : Nat} {p k t s : F1} {u v : Int} (h : Db a p u t) (i : Db b k v s) {x y : Int} (hx : In (a * b) x) (hy : In (a * b) y) : ciF (dirG b p k) (dirG b t s) x y = dirG b (ciF p t) (ciF k s) x y := by
  have s1 := i.tin _ _ (dvIn hx).2 (dvIn hy).2
  show dirG b p k x (dirG b t s x y) = _
  unfold dirG
  rw [dvPair s1, mdPair s1]
  rfl
theorem dir_one (p : F1) : dirG 1 p (cyG 1) = p := by
  funext x y
  show p (x / ((1 : Nat) : Int)) (y / ((1 : Nat) : Int)) * ((1 : Nat) : Int) + (x % ((1 : Nat) : Int) + y % ((1 : Nat) : Int)) % ((1 : Nat) : Int) = p x y
  simp
theorem dir_one' (t : F1) : dirG 1 t (fun _ b => b) = t := by
  funext x y
  unfold dirG pairN
  simp
theorem pair_one (u : Int) : pairN 1 u 0 = u := by unfold pairN; simp
theorem plain_dir {a b : Nat} {p k t s : F1} {u v : Int} (h : Db a p u t) (i : Db b k v s) : decide (tab (a * b) (dirG b p k) = tab (a * b) (ciF (dirG b p k) (dirG b t s))) = (decide (tab a p = tab a (ciF p t)) && decide (tab b k = tab b (ciF k s))) := by
  rw [← Bool.decide_and]
  refine decide_eq_decide.mpr ⟨fun e => ?_, fun ⟨e1, e2⟩ => ?_⟩
  · have key : ∀ {x x' y y' : Int}, In a x → In a x' → In b y → In b y' → p x x' = ciF p t x x' ∧ k y y' = ciF k s y y' := fun {x x' y y'} hx hx' hy hy' => by
      have w := tab_inj e (inPair hx hy) (inPair hx' hy')
      rw [ci_dir h i (inPair hx hy) (inPair hx' hy')] at w
      unfold dirG at w
      simp only [dvPair hy, dvPair hy', mdPair hy, mdPair hy'] at w
      have w1 := congrArg (fun z => z / (b : Int)) w
      have w2 := congrArg (fun z => z % (b : Int)) w
      have r1 := i.gr.rg _ _ hy hy'
      have r2 := i.ci.rg _ _ hy hy'
      simp only [dvPair r1, dvPair r2] at w1
      simp only [mdPair r1, mdPair r2] at w2
      exact ⟨w1, w2⟩
    exact ⟨tab_ext fun x x' hx hx' => (key hx hx' i.gr.un i.gr.un).1, tab_ext fun y y' hy hy' => (key h.gr.un h.gr.un hy hy').2⟩
  · refine tab_ext fun x y hx hy => ?_
    rw [ci_dir h i hx hy]
    unfold dirG
    rw [tab_inj e1 (dvIn hx).1 (dvIn hy).1, tab_inj e2 (dvIn hx).2 (dvIn hy).2]
end Dn.T.G.B.K37
set_option Elab.async false
set_option linter.all false
set_option maxRecDepth 100000
set_option autoImplicit false
set_option maxHeartbeats 4000000
namespace Dn.T.G.B.K37
open PySem L2 Evl PySem.Spec PyProof.Rows
abbrev N_law : List Str := ["_law_script", "_law_spot"]
abbrev P_law : List Str := ["_law_script"]
def g_law : DS := sSeq (sFor (iR1 (dCall dMax2 (aCons (dC (.int 1)) (aCons (dCall dMin2 (aCons (dC (.int 4)) (aCons (dCall dLen (aCons (dVar 0) (aNil))) (aNil)))) (aNil))))) (gNm 1) (sIf (dTNot (dTst (dCallML 1 S__law_right (lCall 2 S__law_dice (aCons (dVar 0) (aCons (dVar 1) (aNil)))) (aNil)))) (sRet (dC (.bool false))) (sNx))) (sRet (dC (.bool true)))
abbrev N__law_right : List Str := ["_law_dice_here", "_law_drawn", "_law_plus", "_law_circle_here", "_law_one", "_law_first", "_law_second", "_law_left", "_law_right_here", "_law_due", "_law_both", "_law_rows", "_law_group", "_law_plain", "_law_about"]
abbrev P__law_right : List Str := ["_law_dice_here"]
def g__law_right : DS := sSeq (sSet 1 (xIm (dCallM 0 2 S__law_double (aCons (dC (.int 8)) (aNil))))) (sSeq (sPar 2 3 (xIm (dBin dIx (dVar 1) (dC (.int 0)))) (xIm (dCallF 2 S__law_circle (aCons (dBin dIx (dVar 1) (dC (.int 0))) (aCons (dBin dIx (dVar 1) (dC (.int 1))) (aNil)))))) (sSeq (sSet 4 (xIm (dCallF 1 S__law_of (aCons (dVar 1) (aNil))))) (sSeq (sIf (dTOr (dTNot (dTst (dCallF 3 S__law_has (aCons (dInvI "Double" S_Double____invert__ (dVar 4)) (aCons (dCallF 1 S__law_behind_rows (aCons (dVar 2) (aNil))) (aCons (dVar 3) (aNil))))))) (dTOr (dTst (dEqI ["Group"] "Double" S_Double____eq__ true (dInvI "Double" S_Double____invert__ (dInvI "Double" S_Double____invert__ (dVar 4))) (dVar 4))) (dTst (dBin dNe (dEqI ["Group"] "Double" S_Double____eq__ false (dInvI "Double" S_Double____invert__ (dVar 4)) (dVar 4)) (dCallF 1 S__law_is_even (aCons (dVar 2) (aNil))))))) (sRet (dC (.bool false))) (sNx)) (sSeq (sPar 5 6 (xIm (dCallM 0 2 S__law_double (aCons (dC (.int 6)) (aNil)))) (xIm (dCallM 0 2 S__law_double (aCons (dC (.int 4)) (aNil))))) (sSeq (sPar 7 8 (xIm (dCallF 1 S__law_of (aCons (dVar 5) (aNil)))) (xIm (dCallF 1 S__law_of (aCons (dVar 6) (aNil))))) (sSeq (sSet 9 (xIm (dCallF 2 S__law_double_product (aCons (dVar 5) (aCons (dVar 6) (aNil)))))) (sSeq (sSet 10 (xIm (dMulI "Double" S_Double____mul__ (dVar 7) (dVar 8)))) (sSeq (sIf (dTOr (dTNot (dTst (dCallF 3 S__law_has (aCons (dVar 10) (aCons (dBin dIx (dVar 9) (dC (.int 0))) (aCons (dCallF 2 S__law_circle (aCons (dBin dIx (dVar 9) (dC (.int 0))) (aCons (dBin dIx (dVar 9) (dC (.int 1))) (aNil)))) (aNil))))))) (dTst (dEqI ["Group"] "Double" S_Double____eq__ true (dInvI "Double" S_Double____invert__ (dVar 10)) (dMulI "Double" S_Double____mul__ (dInvI "Double" S_Double____invert__ (dVar 7)) (dInvI "Double" S_Double____invert__ (dVar 8)))))) (sRet (dC (.bool false))) (sNx)) (sSeq (sIf (dTst (dBin dNe (dProp "Double" S_Double__is_plain (dVar 10)) (dAnd (dProp "Double" S_Double__is_plain (dVar 7)) (dProp "Double" S_Double__is_plain (dVar 8))))) (sRet (dC (.bool false))) (sNx)) (sSeq (sIf (dTst (dNeM ["Group"] "Double" S_Double____eq__ (dCallF 2 S__law_times (aCons (dMulI "Double" S_Double____mul__ (dVar 4) (dCM 2 "Double" "both" S_Double__both (aCons (dCM 2 "Group" "cyclic" S_Group__cyclic (aCons (dC (.int 1)) (aNil))) (aNil)))) (aCons (dVar 10) (aNil)))) (dIfE (dTst (dBin dGt (dBin dMulA (dCall dLen (aCons (dVar 2) (aNil))) (dLenI "Double" S_Double____len__ (dVar 10))) (dC (.int 24)))) (dC (.int 24)) (dMulI "Double" S_Double____mul__ (dVar 4) (dVar 10))))) (sRet (dC (.bool false))) (sNx)) (sSeq (sSet 11 (xIm (dCallM 0 2 S__law_group_rows (aCons (dC (.int 12)) (aNil))))) (sSeq (sSet 12 (xIm (dNew 2 "Group" S_Group____init__ (aCons (dVar 11) (aNil))))) (sSeq (sPar 13 14 (xIm (dCM 2 "Double" "both" S_Double__both (aCons (dVar 12) (aNil)))) (xIm (dCM 2 "Double" "about" S_Double__about (aCons (dVar 12) (aNil))))) (sSeq (sIf (dTOr (dTNot (dTst (dCallF 3 S__law_has (aCons (dVar 13) (aCons (dVar 11) (aCons (dVar 11) (aNil))))))) (dTNot (dTst (dCallF 3 S__law_has (aCons (dVar 14) (aCons (dVar 11) (aCons (dCallF 1 S__law_behind_rows (aCons (dVar 11) (aNil))) (aNil)))))))) (sRet (dC (.bool false))) (sNx)) (sSeq (sIf (dTOr (dTNot (dTst (dProp "Double" S_Double__is_plain (dVar 13)))) (dTst (dBin dNe (dEqI ["Group"] "Double" S_Double____eq__ false (dVar 13) (dVar 14)) (dCallF 1 S__law_is_even (aCons (dVar 11) (aNil)))))) (sRet (dC (.bool false))) (sNx)) (sRet (dAnd (dBin dEq (dProp "Double" S_Double__is_plain (dVar 14)) (dCallF 1 S__law_is_even (aCons (dVar 11) (aNil)))) (dBin dEq (dOfL (lOf (dProp "Double" S_Double__turns (dVar 14)))) (dBin dIx (dCallF 1 S__law_about_double (aCons (dVar 11) (aNil))) (dC (.int 1)))))))))))))))))))))
abbrev N_Double__both : List Str := ["cls", "group"]
abbrev P_Double__both : List Str := ["cls", "group"]
def g_Double__both : DS := sRet (dNewV 0 3 "Double" S_Double____init__ (aCons (dVar 1) (aCons (dVar 1) (aNil))))
abbrev N_Group__cyclic : List Str := ["cls", "size"]
abbrev P_Group__cyclic : List Str := ["cls", "size"]
def g_Group__cyclic : DS := sSeq (sEx (dCallF 3 S_check_within (aCons (dVar 1) (aCons (dC (.int 1)) (aCons (dC (.int 24)) (aNil)))))) (sRet (dNewV 0 2 "Group" S_Group____init__ (aCons (dCallF 1 S_cyclic_rows (aCons (dVar 1) (aNil))) (aNil))))
abbrev N_cyclic_rows : List Str := ["size", "a", "b"]
abbrev P_cyclic_rows : List Str := ["size"]
def g_cyclic_rows : DS := sRet (dCall dTupOf (aCons (dOfL (lLc (iR1 (dVar 0)) (gNm 1) (dYes) (dCall dTupOf (aCons (dOfL (lLc (iR1 (dVar 0)) (gNm 2) (dYes) (dBin dMod (dBin dAdd (dVar 1) (dVar 2)) (dVar 0)) [2])) (aNil))) [1])) (aNil)))
abbrev N__law_quaternion_rows : List Str := ["_law_times_here", "_law_found", "_law_a", "_law_row", "_law_b", "_law_line", "_law_goal"]
abbrev P__law_quaternion_rows : List Str := []
end Dn.T.G.B.K37
set_option Elab.async false
set_option linter.all false
set_option maxRecDepth 100000
set_option autoImplicit false
set_option maxHeartbeats 4000000
namespace Dn.T.G.B.K37
open PySem L2 Evl PySem.Spec PyProof.Rows
local macro_rules | `(tactic| walk_at "dd") => `(tactic| simp only [sSeq, sIf, sSet, sRet, sRetN, sNx, sEx, sAsg, sPar, dTOr, dTAnd, dTNot, dTst, dIsi, dVar, dC, dBin, dChain, dNeg, dI2, dAnd, dOr, dNot, dIfE, dCall, dCallF, aCons, aNil, dTup, lLst, dOfL, xIm, xOw, gNm, gTp, gsCons, gsNil, dYes, envD, dLen_tR, dLen_tI, dLen_tup, dLen_lst, seq_tR, seq_tI, seq_tup, seq_lst, dIs, dIsNot, dNe, dEq, dTupOf, dSl, oNone, oSome, iSq, iEn, iR1, iR2, sFor, lLc, sNever, dTRg, rg1, rg2, lRg, wipeD, isN,
  gTpL, dIxP, sSub, dApp, dPopAt, dExt, dCallM, dCallO, dBinO, dTupO, lOf, lOfO, sRetO, iOw, dVarF, lCat, lCall, dAbs, dMax2, dMin2, dInt, atO, setO, MO.getL, MO.putL, Option.isSome_some,
  dInK, dGetK, dGetD, dInD, dGet1, lKeys, lSort, dLenSet, dLenSetL, dLenSet2, sPar3, dRevT, sPutK, xDct, xDct1, sRetK, atK, keyD, sAugI, dFld, sFldD, xRng, iRgO, dNew, dNewV, dCM, dProp, dMeth, dLenI, dStrO, dEqI, dIsC, dJoin, dJs, dFmt, dCallML, sSubI, gSubW, sWh, dTF, gIx, xProp, lLc2, bMany, bOne, dRepU, dKeep2, lSortSet, lSortTu, lDc, dRepT, lRep, dStrI, xDctT1, xDctOf, dInT, sPutT, lSortT2, lSortDT, dPop, dBinR, dKeep, dCallMO, atT, dCallO,
  kit_int, kit_bool, kit_tuple, kit_str, List.map_cons, List.map_nil, List.cons_append, List.nil_append, List.replicate, List.set_cons_zero, List.set_cons_succ, List.getElem?_cons_zero, List.getElem?_cons_succ, List.length_cons, List.length_nil, List.length_map, Nat.reduceAdd, Nat.reduceSub, Bool.not_true, Bool.not_false, Bool.false_eq_true, if_true, if_false, true_and, reduceCtorEq, Bool.true_eq_false, rgD_rgI, Option.some.injEq, exists_eq_left', and_true])
theorem v__law_circle : VD g__law_circle S__law_circle 2 2 := fun ds Q _ h => by
  obtain ⟨n, p, u, t, rfl, hd, h⟩ := h
  have g := hd.1.gr
  have hn := hd.2
  unfold g__law_circle
  walk_at "dd"
  rw [tab_len]
  refine ⟨rgd (by omega), ?_⟩
  try rw [rgD_rgI]
  refine wpLc_mapL (rgI n) PyData.int (fun a => tI ((rgI n).map (ciF p t a))) (by rw [rgI_len]; omega) rfl (fun a ha K hK => ?_) (fun _ => rfl) ?_
  · have ha := In.mem.1 ha
    try walk_at "dd"
    rw [tab_len]
    refine ⟨rgd (by omega), ?_⟩
    try rw [rgD_rgI]
    refine wpLc_mapL (rgI n) PyData.int (fun b => .int (ciF p t a b)) (by rw [rgI_len]; omega) rfl (fun b hb K2 hK2 => ?_) (fun _ => rfl) ?_
    · have hb := In.mem.1 hb
      try walk_at "dd"
      exact ixTR ha (ixT ha (ixY hb (ixY (hd.1.tin a b ha hb) (hK2 _ rfl))))
    · try walk_at "dd"
      rw [tI_map]
      exact hK _ rfl
  · try walk_at "dd"
    rw [show PyData.tuple ((rgI n).map fun a => tI ((rgI n).map (ciF p t a))) = tR (tab n (ciF p t)) from by unfold tR tab; rw [List.map_map]; rfl]
    exact h
theorem v_cyclic_rows : VD g_cyclic_rows S_cyclic_rows 1 2 := fun ds Q _ h => by
  obtain ⟨n, rfl, n1, hn, h⟩ := h
  unfold g_cyclic_rows
  walk_at "dd"
  refine ⟨rgd (by omega), ?_⟩
  try rw [rgD_rgI]
  refine wpLc_mapL (rgI n) PyData.int (fun a => tI ((rgI n).map (cyG n a))) (by rw [rgI_len]; omega) rfl (fun a ha K hK => ?_) (fun _ => rfl) ?_
  · have ha := In.mem.1 ha
    try walk_at "dd"
    refine ⟨rgd (by omega), ?_⟩
    try rw [rgD_rgI]
    refine wpLc_mapL (rgI n) PyData.int (fun b => .int (cyG n a b)) (by rw [rgI_len]; omega) rfl (fun b hb K2 hK2 => ?_) (fun _ => rfl) ?_
    · have hb := In.mem.1 hb
      try walk_at "dd"
      exact ⟨by omega, hK2 _ rfl⟩
    · try walk_at "dd"
      rw [tI_map]
      exact hK _ rfl
  · try walk_at "dd"
    rw [show PyData.tuple ((rgI n).map fun a => tI ((rgI n).map (cyG n a))) = tR (tab n (cyG n)) from by unfold tR tab; rw [List.map_map]; rfl]
    exact h
theorem v_Group__cyclic : VD g_Group__cyclic S_Group__cyclic 2 0 := fun ds Q _ h => by
  obtain ⟨n, rfl, n1, hn, h⟩ := h
  unfold g_Group__cyclic
  walk_at "dd"
  refine ⟨n, 1, 24, rfl, ?_, by omega, by omega, n, rfl, n1, hn, n, _, 0, rfl, ⟨gr_cyc n1, hn⟩, h⟩
  simp [isI]; omega
theorem v_Double__both : VD g_Double__both S_Double__both 2 0 := fun ds Q _ h => by
  obtain ⟨n, p, u, rfl, ⟨g, hn⟩, h⟩ := h
  unfold g_Double__both
  walk_at "dd"
  exact ⟨n, p, u, _, rfl, ⟨db_plain g, hn⟩, h⟩
end Dn.T.G.B.K37
set_option Elab.async false
set_option linter.all false
set_option maxRecDepth 100000
set_option autoImplicit false
set_option maxHeartbeats 4000000
namespace Dn.T.G.B.K37
open PySem L2 Evl PySem.Spec PyProof.Rows
theorem eqv_tL (a b : List (List Int)) : PyData.eqv (tL a) (tL b) = decide (a = b) := by unfold tL; simp only [PyData.eqv, eqvAll_tI]
end Dn.T.G.B.K37
set_option Elab.async false
set_option linter.all false
set_option maxRecDepth 100000
set_option autoImplicit false
set_option maxHeartbeats 4000000
namespace Dn.T.G.B.K37
open PySem L2 Evl PySem.Spec PyProof.Rows
local macro_rules | `(tactic| walk_at "dd") => `(tactic| simp only [sSeq, sIf, sSet, sRet, sRetN, sNx, sEx, sAsg, sPar, dTOr, dTAnd, dTNot, dTst, dIsi, dVar, dC, dBin, dChain, dNeg, dI2, dAnd, dOr, dNot, dIfE, dCall, dCallF, aCons, aNil, dTup, lLst, dOfL, xIm, xOw, gNm, gTp, gsCons, gsNil, dYes, envD, dLen_tR, dLen_tI, dLen_tup, dLen_lst, seq_tR, seq_tI, seq_tup, seq_lst, dIs, dIsNot, dNe, dEq, dTupOf, dSl, oNone, oSome, iSq, iEn, iR1, iR2, sFor, lLc, sNever, dTRg, rg1, rg2, lRg, wipeD, isN,
  gTpL, dIxP, sSub, dApp, dPopAt, dExt, dCallM, dCallO, dBinO, dTupO, lOf, lOfO, sRetO, iOw, dVarF, lCat, lCall, dAbs, dMax2, dMin2, dInt, atO, setO, MO.getL, MO.putL, Option.isSome_some,
  dInK, dGetK, dGetD, dInD, dGet1, lKeys, lSort, dLenSet, dLenSetL, dLenSet2, sPar3, dRevT, sPutK, xDct, xDct1, sRetK, atK, keyD, sAugI, dFld, sFldD, xRng, iRgO, dNew, dNewV, dCM, dProp, dMeth, dLenI, dStrO, dEqI, dIsC, dJoin, dJs, dFmt, dCallML, sSubI, gSubW, sWh, dTF, gIx, xProp, xMulI, dInvI, dNeM, lLc2, bMany, bOne, dMulI, sRaise, sTry, sSui, sRetX, dErr, dRepU, dKeep2, lSortSet, lSortTu, lDc, dRepT, lRep, dStrI, xDctT1, xDctOf, dInT, sPutT, lSortT2, lSortDT, dPop, dBinR, dKeep, dCallMO, atT, dCallO,
  kit_int, kit_bool, kit_tuple, kit_str, List.map_cons, List.map_nil, List.cons_append, List.nil_append, List.replicate, List.set_cons_zero, List.set_cons_succ, List.getElem?_cons_zero, List.getElem?_cons_succ, List.length_cons, List.length_nil, List.length_map, Nat.reduceAdd, Nat.reduceSub, Bool.not_true, Bool.not_false, Bool.false_eq_true, if_true, if_false, true_and, reduceCtorEq, Bool.true_eq_false, rgD_rgI, Option.some.injEq, exists_eq_left', and_true])
theorem v_law : VD g_law S_law 1 1 := fun ds Q _ h => by
  obtain ⟨s, rfl, hs, h⟩ := h
  unfold g_law
  walk_at "dd"
  rw [dLen_scr']
  dsimp only
  refine And.intro (rg_cap 4 _ (by decide) (by decide)) ?_
  refine wpFor_inv (fun ρ => ∃ x1, ρ = [some (.im (scr s)), x1]) ⟨_, rfl⟩ (fun d hd ρ K i k => ?_) (fun ρ i => ?_)
  · obtain ⟨x1, rfl⟩ := i
    obtain ⟨spot, rfl, s0, _⟩ := mem_rgD' hd
    walk_at "dd"
    refine ⟨s, spot, rfl, s0, fun ms hm => ?_⟩
    try walk_at "dd"
    exact ⟨rfl, hm, fun ms' _ => k _ ⟨_, rfl⟩⟩
  · obtain ⟨x1, rfl⟩ := i
    try walk_at "dd"
    exact h
theorem eqv_bb (a b : Bool) : PyData.eqv (.bool a) (.bool b) = decide (a = b) := by cases a <;> cases b <;> rfl
def g_rest : DS := sSeq (sSet 11 (xIm (dCallM 0 2 S__law_group_rows (aCons (dC (.int 12)) (aNil))))) (sSeq (sSet 12 (xIm (dNew 2 "Group" S_Group____init__ (aCons (dVar 11) (aNil))))) (sSeq (sPar 13 14 (xIm (dCM 2 "Double" "both" S_Double__both (aCons (dVar 12) (aNil)))) (xIm (dCM 2 "Double" "about" S_Double__about (aCons (dVar 12) (aNil))))) (sSeq (sIf (dTOr (dTNot (dTst (dCallF 3 S__law_has (aCons (dVar 13) (aCons (dVar 11) (aCons (dVar 11) (aNil))))))) (dTNot (dTst (dCallF 3 S__law_has (aCons (dVar 14) (aCons (dVar 11) (aCons (dCallF 1 S__law_behind_rows (aCons (dVar 11) (aNil))) (aNil)))))))) (sRet (dC (.bool false))) (sNx)) (sSeq (sIf (dTOr (dTNot (dTst (dProp "Double" S_Double__is_plain (dVar 13)))) (dTst (dBin dNe (dEqI ["Group"] "Double" S_Double____eq__ false (dVar 13) (dVar 14)) (dCallF 1 S__law_is_even (aCons (dVar 11) (aNil)))))) (sRet (dC (.bool false))) (sNx)) (sRet (dAnd (dBin dEq (dProp "Double" S_Double__is_plain (dVar 14)) (dCallF 1 S__law_is_even (aCons (dVar 11) (aNil)))) (dBin dEq (dOfL (lOf (dProp "Double" S_Double__turns (dVar 14)))) (dBin dIx (dCallF 1 S__law_about_double (aCons (dVar 11) (aNil))) (dC (.int 1))))))))))
theorem r_eq : g__law_right = sSeq (sSet 1 (xIm (dCallM 0 2 S__law_double (aCons (dC (.int 8)) (aNil))))) (sSeq (sPar 2 3 (xIm (dBin dIx (dVar 1) (dC (.int 0)))) (xIm (dCallF 2 S__law_circle (aCons (dBin dIx (dVar 1) (dC (.int 0))) (aCons (dBin dIx (dVar 1) (dC (.int 1))) (aNil)))))) (sSeq (sSet 4 (xIm (dCallF 1 S__law_of (aCons (dVar 1) (aNil))))) (sSeq (sIf (dTOr (dTNot (dTst (dCallF 3 S__law_has (aCons (dInvI "Double" S_Double____invert__ (dVar 4)) (aCons (dCallF 1 S__law_behind_rows (aCons (dVar 2) (aNil))) (aCons (dVar 3) (aNil))))))) (dTOr (dTst (dEqI ["Group"] "Double" S_Double____eq__ true (dInvI "Double" S_Double____invert__ (dInvI "Double" S_Double____invert__ (dVar 4))) (dVar 4))) (dTst (dBin dNe (dEqI ["Group"] "Double" S_Double____eq__ false (dInvI "Double" S_Double____invert__ (dVar 4)) (dVar 4)) (dCallF 1 S__law_is_even (aCons (dVar 2) (aNil))))))) (sRet (dC (.bool false))) (sNx)) (sSeq (sPar 5 6 (xIm (dCallM 0 2 S__law_double (aCons (dC (.int 6)) (aNil)))) (xIm (dCallM 0 2 S__law_double (aCons (dC (.int 4)) (aNil))))) (sSeq (sPar 7 8 (xIm (dCallF 1 S__law_of (aCons (dVar 5) (aNil)))) (xIm (dCallF 1 S__law_of (aCons (dVar 6) (aNil))))) (sSeq (sSet 9 (xIm (dCallF 2 S__law_double_product (aCons (dVar 5) (aCons (dVar 6) (aNil)))))) (sSeq (sSet 10 (xIm (dMulI "Double" S_Double____mul__ (dVar 7) (dVar 8)))) (sSeq (sIf (dTOr (dTNot (dTst (dCallF 3 S__law_has (aCons (dVar 10) (aCons (dBin dIx (dVar 9) (dC (.int 0))) (aCons (dCallF 2 S__law_circle (aCons (dBin dIx (dVar 9) (dC (.int 0))) (aCons (dBin dIx (dVar 9) (dC (.int 1))) (aNil)))) (aNil))))))) (dTst (dEqI ["Group"] "Double" S_Double____eq__ true (dInvI "Double" S_Double____invert__ (dVar 10)) (dMulI "Double" S_Double____mul__ (dInvI "Double" S_Double____invert__ (dVar 7)) (dInvI "Double" S_Double____invert__ (dVar 8)))))) (sRet (dC (.bool false))) (sNx)) (sSeq (sIf (dTst (dBin dNe (dProp "Double" S_Double__is_plain (dVar 10)) (dAnd (dProp "Double" S_Double__is_plain (dVar 7)) (dProp "Double" S_Double__is_plain (dVar 8))))) (sRet (dC (.bool false))) (sNx)) (sSeq (sIf (dTst (dNeM ["Group"] "Double" S_Double____eq__ (dCallF 2 S__law_times (aCons (dMulI "Double" S_Double____mul__ (dVar 4) (dCM 2 "Double" "both" S_Double__both (aCons (dCM 2 "Group" "cyclic" S_Group__cyclic (aCons (dC (.int 1)) (aNil))) (aNil)))) (aCons (dVar 10) (aNil)))) (dIfE (dTst (dBin dGt (dBin dMulA (dCall dLen (aCons (dVar 2) (aNil))) (dLenI "Double" S_Double____len__ (dVar 10))) (dC (.int 24)))) (dC (.int 24)) (dMulI "Double" S_Double____mul__ (dVar 4) (dVar 10))))) (sRet (dC (.bool false))) (sNx)) (g_rest))))))))))) := rfl
theorem v_rest {l : Addr} {ms : List D} (hm : Dc ms) {s1 s2 s3 s4 s5 s6 s7 s8 s9 s10 : Option SV} {E : DEnds}
    (hE : ∀ (ρ : Env) (ms' : List D), Dc ms' → ρ[0]? = some (some (.ow (.par l (.lst ms')))) → E.rt (.bool true) ρ) :
    g_rest E [some (.ow (.par l (.lst ms))), s1, s2, s3, s4, s5, s6, s7, s8, s9, s10, none, none, none, none] := by
  unfold g_rest
  walk_at "dd"
  refine ⟨12, rfl, by decide, by decide, hm, fun n p u ms1 g hn hm1 => ?_⟩
  have hn : n ≤ 24 := by omega
  have dp := db_plain g
  have da := db_ab g
  have hp : D24 n p u _ := ⟨dp, hn⟩
  have ha : D24 n p u _ := ⟨da, hn⟩
  have ec : tab n (opp p) = tab n (ciF p (abT n p u)) := (tab_ext fun x y hx hy => ab_ci g hx hy).symm
  try walk_at "dd"
  refine ⟨n, p, u, rfl, ⟨g, hn⟩, n, p, u, rfl, ⟨g, hn⟩, n, p, u, rfl, ⟨g, hn⟩, n, p, u, _, p, p, rfl, hp, rfl, rfl, ?_⟩
  try walk_at "dd"
  refine ⟨n, p, rfl, hn, g.rg, n, p, u, _, p, _, rfl, ha, rfl, ec, ?_⟩
  try walk_at "dd"
  refine ⟨⟨_, rfl⟩, n, p, u, _, rfl, hn, ?_⟩
  rw [decide_eq_true (show tab n p = tab n (ciF p fun _ b => b) from rfl)]
  try walk_at "dd"
  refine ⟨⟨_, rfl⟩, ⟨true, cls_dbl⟩, n, p, u, _, hn, .inl ⟨n, p, u, _, rfl, hn, _, rfl, n, p, rfl, hn, g.rg, rfl, rfl, ?_⟩⟩
  rw [decide_eq_true rfl, Bool.true_and, Bool.xor_false, ← ec, eqv_bb]
  have e1 : decide (tab n (ciF p fun _ b => b) = tab n (opp p)) = comB n p := by
    unfold comB
    exact decide_eq_decide.mpr ⟨fun e => e.symm, fun e => e.symm⟩
  rw [e1, decide_eq_true rfl, if_neg (by decide)]
  refine ⟨⟨_, rfl⟩, n, p, u, _, rfl, hn, n, p, rfl, hn, g.rg, rfl, rfl, ?_⟩
  have e2 : decide (tab n p = tab n (ciF p (abT n p u))) = comB n p := by
    unfold comB
    rw [← ec]
    exact decide_eq_decide.mpr ⟨fun e => e.symm, fun e => e.symm⟩
  rw [e2, eqv_bb, decide_eq_true rfl]
  dsimp only
  refine ⟨⟨_, rfl⟩, n, p, u, _, rfl, ?_⟩
  try walk_at "dd"
  refine ⟨n, p, u, rfl, ⟨g, hn⟩, fun t ht et => ?_⟩
  refine ld1 ⟨shaped_tL _, shaped_tL _, ?_⟩
  rw [show PyData.list (List.map tI (tab n (abT n p u))) = tL (tab n (abT n p u)) from rfl, eqv_tL, show t = abT n p u from et, decide_eq_true rfl]
  exact hE _ _ hm1 rfl
theorem v__law_right : VM g__law_right S__law_right 1 14 := fun l ms ds Q _ h => by
  obtain ⟨rfl, hm, h⟩ := h
  have hE : ∀ (ρ : Env) (ms' : List D), Dc ms' → ρ[0]? = some (some (.ow (.par l (.lst ms')))) → ∃ ms', ρ[0]? = some (some (.ow (.par l (.lst ms')))) ∧ Q (.bool true) ms' := fun ρ ms' hm' e => ⟨ms', e, h ms' hm'⟩
  rw [r_eq]
  walk_at "dd"
  refine ⟨8, rfl, by decide, by decide, hm, fun n p u t ms1 d hn hm1 => ?_⟩
  have g := d.gr
  have n1 := g_one g
  have hd : D24 n p u t := ⟨d, by omega⟩
  have dO := db_opp d
  have hdO : D24 n (opp p) u (opT n p u t) := ⟨dO, by omega⟩
  refine ld0 (ld0 (ld1 ⟨n, p, u, t, rfl, hd, n, p, u, t, rfl, hd, ?_⟩))
  refine ⟨⟨_, rfl⟩, n, p, u, t, rfl, hd, n, p, rfl, by omega, g.rg, n, _, u, _, opp p, ciF p t, rfl, hdO, rfl, (tab_ext fun x y hx hy => op_ci d hx hy).symm, ?_⟩
  try walk_at "dd"
  refine ⟨⟨_, rfl⟩, n, p, u, t, rfl, hd, ⟨_, rfl⟩, n, _, u, _, rfl, hdO, ⟨_, rfl⟩, ⟨true, cls_dbl⟩, n, _, u, _, by omega, .inl ⟨n, p, u, t, rfl, by omega, _, rfl, ?_⟩⟩
  rw [show opp (opp p) = p from rfl, decide_eq_true rfl, decide_eq_true (tab_ext fun x y hx hy => by
    show ciF (opp (opp p)) (opT n (opp p) u (opT n p u t)) x y = _
    rw [op_ci dO hx hy, op_ci d hx hy])]
  try walk_at "dd"
  refine ⟨⟨_, rfl⟩, n, p, u, t, rfl, hd, ⟨_, rfl⟩, ⟨true, cls_dbl⟩, n, _, u, _, by omega, .inl ⟨n, p, u, t, rfl, by omega, _, rfl, n, p, rfl, by omega, g.rg, rfl, rfl, ?_⟩⟩
  rw [decide_eq_true (tab_ext fun x y hx hy => op_ci d hx hy), Bool.and_true]
  rw [show comB n p = decide (tab n (opp p) = tab n p) from rfl, Bool.xor_false, eqv_bb, decide_eq_true rfl, if_neg (by decide)]
  refine ⟨6, rfl, by decide, by decide, hm1, fun a q v s ms2 da a6 hm2 => ⟨4, rfl, by decide, by decide, hm2, fun b k w r ms3 db b4 hm3 => ?_⟩⟩
  have ga := da.gr
  have gb := db.gr
  have a1 := g_one ga
  have b1 := g_one gb
  have hab : a * b ≤ 24 := by have := Nat.mul_le_mul a6 b4; omega
  have dab := db_dir da db
  have hda : D24 a q v s := ⟨da, by omega⟩
  have hdb : D24 b k w r := ⟨db, by omega⟩
  have hdab : D24 (a * b) (dirG b q k) (pairN b v w) (dirG b s r) := ⟨dab, hab⟩
  refine ⟨a, q, v, s, rfl, hda, b, k, w, r, rfl, hdb, a, b, q, k, s, r, v, w, rfl, da, db, hab, ⟨_, rfl⟩, ⟨_, rfl⟩, a, b, q, k, s, r, v, w, rfl, da, db, hab, ?_⟩
  refine ld0 (ld0 (ld1 ⟨a * b, _, pairN b v w, _, rfl, hdab, a * b, _, _, _, _, _, rfl, hdab, rfl, rfl, ?_⟩))
  try walk_at "dd"
  have dOa := db_opp da
  have dOb := db_opp db
  refine ⟨⟨_, rfl⟩, a * b, _, _, _, rfl, hdab, ⟨_, rfl⟩, a, q, v, s, rfl, hda, ⟨_, rfl⟩, b, k, w, r, rfl, hdb, ⟨_, rfl⟩, ⟨_, rfl⟩, a, b, _, _, _, _, _, _, rfl, dOa, dOb, hab, ⟨_, rfl⟩, ⟨true, cls_dbl⟩, a * b, _, _, _, hab, .inl ⟨a * b, _, _, _, rfl, hab, _, rfl, ?_⟩⟩
  rw [show opp (dirG b q k) = dirG b (opp q) (opp k) from rfl, decide_eq_true rfl, decide_eq_true (tab_ext fun x y hx hy => by
    show ciF (opp (dirG b q k)) (opT (a * b) (dirG b q k) (pairN b v w) (dirG b s r)) x y = _
    rw [op_ci dab hx hy, ci_dir da db hx hy, ci_dir dOa dOb hx hy]
    unfold dirG
    rw [op_ci da (dvIn hx).1 (dvIn hy).1, op_ci db (dvIn hx).2 (dvIn hy).2])]
  try walk_at "dd"
  refine ⟨⟨_, rfl⟩, a * b, _, _, _, rfl, hab, ⟨_, rfl⟩, a, q, v, s, rfl, by omega, ?_⟩
  try walk_at "dd"
  rw [plain_dir da db]
  have e0 : ∀ (P : D → Prop), (P (.bool (decide (tab a q = tab a (ciF q s)) && decide (tab b k = tab b (ciF k r))))) → (match PyData.bool (decide (tab a q = tab a (ciF q s))) with | .bool true => (∃ es, dblD b k w r = obD "Double" es) ∧ S_Double__is_plain [dblD b k w r] P | .bool false => P (.bool false) | _ => False) := fun P hP => by
    cases z : decide (tab a q = tab a (ciF q s)) with
    | true =>
      rw [z, Bool.true_and] at hP
      exact ⟨⟨_, rfl⟩, b, k, w, r, rfl, by omega, hP⟩
    | false =>
      rw [z, Bool.false_and] at hP
      exact hP
  refine e0 _ ⟨rfl, rfl, ?_⟩
  rw [eqv_bb, decide_eq_true rfl, if_neg (by decide)]
  refine ⟨1, rfl, by decide, by decide, 1, cyG 1, 0, rfl, ⟨gr_cyc (by decide), by decide⟩, ?_⟩
  refine ⟨⟨_, rfl⟩, ⟨_, rfl⟩, n, 1, p, cyG 1, t, (fun _ b => b), u, 0, rfl, d, db_plain (gr_cyc (by decide)), by omega, ?_⟩
  rw [dir_one, dir_one', pair_one, Nat.mul_one, tab_len]
  refine ⟨n, a * b, p, _, t, _, u, _, rfl, d, dab, by omega, hab, fun z => ?_, fun z => ?_⟩
  · refine ⟨⟨_, rfl⟩, a * b, _, _, _, rfl, _, rfl, by omega, cm_r ⟨by omega, by omega⟩, ?_⟩
    rw [← Int.natCast_mul, decide_eq_false (by omega), if_neg (by decide)]
    refine ⟨⟨_, rfl⟩, ⟨_, rfl⟩, n, a * b, p, _, t, _, u, _, rfl, d, dab, z, .inr ⟨⟨_, rfl⟩, ⟨true, cls_dbl⟩, n * (a * b), _, _, _, z, .inl ⟨n * (a * b), _, _, _, rfl, z, _, rfl, ?_⟩⟩⟩
    rw [decide_eq_true rfl, decide_eq_true rfl, if_neg (by decide)]
    exact v_rest hm3 hE
  · refine ⟨⟨_, rfl⟩, a * b, _, _, _, rfl, _, rfl, by omega, cm_r ⟨by omega, by omega⟩, ?_⟩
    rw [← Int.natCast_mul, decide_eq_true (by omega), if_pos rfl]
    refine .inl ⟨rfl, rfl, ?_⟩
    rw [eqv_int, decide_eq_true rfl, if_neg (by decide)]
    exact v_rest hm3 hE
end Dn.T.G.B.K37
set_option Elab.async false
set_option linter.all false
set_option maxRecDepth 100000
set_option autoImplicit false
set_option maxHeartbeats 4000000
namespace Dn
open PySem L2 Evl PySem.Spec PyProof.Rows LamX
structure RoomG (k : Nat) (A : Around) : Prop where
  r : Room k A
  g : A.guards = some []
theorem RoomG.mono {j k : Nat} {A : Around} (h : RoomG k A) (i : j ≤ k) : RoomG j A := ⟨h.r.mono i, h.g⟩
theorem RoomG.deeper {k : Nat} {A : Around} (h : RoomG (k + 1) A) (env : PySem.Env) : RoomG k (A.deeper env) := ⟨h.r.deeper env, h.g⟩
section
variable {X : Cx} {a b c e : Expr} {fa fb fc : DE} {pos p : Pos} {es : List Expr} {x y : Str} {k : Nat} {f : Addr} {fd : FuncData} {ps : List Str} {n : Nat}
end
section
variable {P : Program} {w : World} {K : PySem.W.Frag} {mg : Str → Option Value} {base : Heap} {st : Stmt} {N : List Str} {x : Str} {ps : List Str} {k : Nat}
end
section
variable {P : Program} {w : World} {K : PySem.W.Frag} {mg : Str → Option Value} {base : Heap} {st : Stmt} {N : List Str} {x a nm n f0 : Str} {i k : Nat} {e : Expr} {rest : List Stmt} {gr : DS} {p1 p2 p3 np pr pos' pos : Pos}
inductive HdRG (P : Program) (w : World) (K : PySem.W.Frag) (mg : Str → Option Value) (base : Heap) (x : Str) (st : Stmt) (N : List Str) (k : Nat) : List ExceptHandler → List HC → Prop
  | nil : HdRG P w K mg base x st N k [] []
  | bare {nm : Str} {e : Expr} {g : D → DE} {np pr pos' : Pos} {hds : List ExceptHandler} {cs : List HC} (hg : (defScope st).names.lookup nm = some .globalImplicit) (hdb : (nm == ("__debug__" : Str)) = false) (hm : mg nm = some (.ref (adrOf K nm)))
      (hsu : ∀ (f : Addr) (cdv : Value) (A : Around) (outer : List PySem.Env) (s : Shared) (H : Hp) (E : XK) (a : Addr) (oe : Obj) (pn : List (Addr × Obj)), RoomG k (A.deeper (envOfC x (defScope st) s.heap.objs.size f cdv)) → JE ((cxOf L2.CX0 P w K mg base N x (defScope st) f cdv A outer s H E).nox.suite a ((a, oe) :: pn)) e (g .none))
      (r : HdRG P w K mg base x st N k hds cs) : HdRG P w K mg base x st N k (.ExceptHandler (some (.Name nm np)) none [.Return (some e) pr] pos' :: hds) (⟨nm, none, g⟩ :: cs)
  | as {nm n f0 : Str} {i : Nat} {e : Expr} {g : D → DE} {np pr pos' : Pos} {hds : List ExceptHandler} {cs : List HC} (hi : N[i]? = some n) (hln : (defScope st).names.lookup n = some .local) (hg : (defScope st).names.lookup nm = some .globalImplicit) (hdb : (nm == ("__debug__" : Str)) = false) (hm : mg nm = some (.ref (adrOf K nm)))
      (hsu : ∀ (f : Addr) (cdv : Value) (A : Around) (outer : List PySem.Env) (s : Shared) (H : Hp) (E : XK) (a dd : Addr) (oe : Obj) (pn : List (Addr × Obj)), RoomG k (A.deeper (envOfC x (defScope st) s.heap.objs.size f cdv)) → Zc (.ref (adrOf K nm)) (some dd) oe → (∃ vs, oe.data = .fields vs) → JZE ((cxOf L2.CX0 P w K mg base N x (defScope st) f cdv A outer s H E).nox.suite a ((a, oe) :: pn)) a dd i f0 e g)
      (r : HdRG P w K mg base x st N k hds cs) : HdRG P w K mg base x st N k (.ExceptHandler (some (.Name nm np)) (some n) [.Return (some e) pr] pos' :: hds) (⟨nm, some (i, f0), g⟩ :: cs)
theorem HdRG.slots {hds : List ExceptHandler} {cs : List HC} (h : HdRG P w K mg base x st N k hds cs) : ∀ c, c ∈ cs → ∀ q, c.nm = some q → q.1 < N.length := by
  induction h with
  | nil => intro c hc; simp at hc
  | bare _ _ _ _ _ ih =>
    intro c hc q e
    rcases List.mem_cons.mp hc with rfl | hc
    · cases e
    · exact ih c hc q e
  | as hi _ _ _ _ _ _ ih =>
    intro c hc q e
    rcases List.mem_cons.mp hc with rfl | hc
    · cases e; exact (List.getElem?_eq_some_iff.mp hi).1
    · exact ih c hc q e
theorem HdRG.ok {hds : List ExceptHandler} {cs : List HC} (h : HdRG P w K mg base x st N k hds cs) {f : Addr} {cdv : Value} {A : Around} {outer : List PySem.Env} {s : Shared} {H : Hp} {E : XK} (hr : RoomG k (A.deeper (envOfC x (defScope st) s.heap.objs.size f cdv))) :
    ClOk (cxOf L2.CX0 P w K mg base N x (defScope st) f cdv A outer s H E).nox hds (cs.map (HC.cla K)) := by
  induction h with
  | nil => exact .nil
  | bare hg hdb hm hsu _ ih =>
    refine .bare ⟨hg, hdb, .inl hm⟩ (fun a oe cls d pn hz hf => ⟨fun pins s' σ H' D I h => ?_⟩) ih
    obtain ⟨T, ρ, QD, r, h, q⟩ := h
    obtain ⟨t, pt, kt⟩ := (hsu f cdv A outer s H E a oe pn hr).ex
    exact (pss_one (ps_ret pt)).run pins s' σ H' D I (kt T ρ σ H' QD _ r h q)
  | as hi hln hg hdb hm hsu _ ih =>
    refine .as ⟨hg, hdb, .inl hm⟩ hi hln (fun a oe cls d pn hz hf => ⟨fun pins s' σ H' D I h => ?_⟩) ih
    obtain ⟨rfl, T, ρ, pv, d0, dd, QD, rfl, r, h1, h2, h3, h4, q⟩ := h
    obtain ⟨t, pt, kt⟩ := (hsu f cdv A outer s H E a dd oe pn hr hz hf).ex
    exact (pss_one (ps_ret pt)).run pins s' σ H' D I (kt T ρ σ H' QD _ d0 pv r h1 h2 h3 h4 q)
end
section
variable {X : Cx} {e : Expr} {es : List Expr} {x y : Str} {ps : List Str} {k n : Nat} {pos p : Pos} {f : Addr} {fd : FuncData}
end
section
variable {X : Cx} {a b c e : Expr} {es : List Expr} {pos p : Pos} {u dd : Addr} {i : Nat} {f0 x : Str}
end
end Dn
set_option Elab.async false
set_option linter.all false
set_option maxRecDepth 100000
set_option autoImplicit false
set_option maxHeartbeats 4000000
namespace Dn
open PySem L2 Evl PySem.Spec PyProof.Rows
abbrev sObj (w : World) : Obj := { cls := .type "set", dict := none, data := .set #[] 0 (.fresh 0 0 (!w.params.followText "set-order")) }
abbrev hS (w : World) (h : Heap) : Heap := h.push (sObj w)
section
variable {P : Program} {w : World} {A : Around} {E : Value → Shared → Prop} {s : Shared}
end
section
variable {X : Cx} {a b : Expr} {fa fb : DE} {pos p : Pos}
end
end Dn
set_option Elab.async false
set_option linter.all false
set_option maxRecDepth 100000
set_option autoImplicit false
set_option maxHeartbeats 4000000
namespace Dn
open PySem L2 Evl PySem.Spec PyProof.Rows
def lKeep (i : Nat) (f : DL) : DL := fun ρ Q => ∃ ds, ρ[i]? = some (some (.ow (.lst ds))) ∧ (∀ d, d ∈ ds → NL d) ∧ f (ρ.set i (some (.im (.list ds)))) fun es ρ1 => i < ρ1.length ∧ NSs2 ρ ρ1 i ∧ (∀ d, d ∈ es → NL d) ∧ Q es (ρ1.set i (some (.ow (.lst ds))))
theorem jl_keep {X : Cx} {e : Expr} {f : DL} {i : Nat} (he : JL X e f) : JL X e (lKeep i f) := by
  obtain ⟨t, pt, kt⟩ := he.ex
  refine ⟨t, pt, fun T ρ σ H QD Q r h q => ?_⟩
  obtain ⟨ds, hi, nds, h⟩ := h
  obtain ⟨p, o, hp, ho, hr⟩ := r.ow i _ hi
  obtain ⟨vs, rfl⟩ : ∃ vs, o = .lst vs := by
    cases o with
    | lst vs => exact ⟨vs, rfl⟩
    | _ => exact False.elim hr
  have hr : RpAll X.K (hide (Hd T ρ σ) H) vs ds := hr
  have own0 : Own ρ σ p := ⟨i, _, hi, hp⟩
  have ownF : ∀ a, Own (ρ.set i (some (.im (.list ds)))) σ a → Own ρ σ a ∧ a ≠ p := fun a ⟨j, m, h1, h2⟩ => by
    rcases getset h1 with ⟨_, _, z⟩ | ⟨ne, z⟩
    · cases z
    · exact ⟨⟨j, m, z, h2⟩, fun w => ne (r.inj i j _ m p hi z hp (by rw [← w]; exact h2))⟩
  refine kt T _ σ H _ _ (r.freeze hi) h fun es ρ1 p2 us H1 n2 s2 r1 v1 p1 h => ?_
  obtain ⟨il, ns, nes, h⟩ := h
  have hp1 : H1 p = some (.lst vs) := p1.keep p _ (fun w => (ownF p w).2 rfl) ho
  have own1 : ∀ a, Own ρ1 σ a → Own ρ σ a ∨ H a = none := fun a w => by
    rcases p1.own a w with z | z
    · exact .inl (ownF a z).1
    · exact .inr z
  have np1 : ¬ Own ρ1 σ p := fun w => by
    rcases p1.own p w with z | z
    · exact (ownF p z).2 rfl
    · rw [ho] at z; cases z
  have ownN : ∀ a, Own (ρ1.set i (some (.ow (.lst ds)))) σ a → a = p ∨ Own ρ1 σ a := fun a ⟨j, m, h1, h2⟩ => by
    rcases getset h1 with ⟨e1, _, z⟩ | ⟨ne, z⟩
    · subst e1
      rw [hp] at h2
      cases h2
      exact .inl rfl
    · exact .inr ⟨j, m, z, h2⟩
  have tup1 : ∀ a o, TuO o → hide (Hd (plus T p2) ρ1 σ) H1 a = some o → hide (Hd (plus T p2) (ρ1.set i (some (.ow (.lst ds)))) σ) H1 a = some o := fun a o t w => by
    obtain ⟨w1, w2⟩ := hide_some.1 w
    refine hide_some.2 ⟨fun z => ?_, w2⟩
    rcases z with z | z
    · exact w1 (.inl z)
    · rcases ownN a z with z | z
      · rw [z, hp1] at w2; cases w2; exact False.elim t
      · exact w1 (.inr z)
  have tup0 : ∀ a o, TuO o → hide (Hd T ρ σ) H a = some o → hide (Hd (plus T p2) (ρ1.set i (some (.ow (.lst ds)))) σ) H1 a = some o := fun a o t w => by
    obtain ⟨w1, w2⟩ := hide_some.1 w
    have w3 : H1 a = some o := p1.keep a _ (fun z => w1 (.inr (ownF a z).1)) w2 (by cases o <;> first | exact id | exact t.elim)
    refine hide_some.2 ⟨fun z => ?_, w3⟩
    rcases z with z | z
    · rcases z with z | z
      · rw [z, n2] at w2; cases w2
      · exact w1 (.inl z)
    · rcases ownN a z with z | z
      · rw [z, hp1] at w3; cases w3; exact False.elim t
      · exact (((r1.hdLv (.inr z)).2 _ w3).1 t).elim
  have nh0 : ∀ a, ¬ Hd T ρ σ a → H a ≠ none → ¬ Hd (plus T p2) (ρ1.set i (some (.ow (.lst ds)))) σ a := fun a w1 w2 z => by
    rcases z with z | z
    · rcases z with z | z
      · exact w2 (by rw [z, n2])
      · exact w1 (.inl z)
    · rcases ownN a z with z | z
      · exact w1 (.inr (z ▸ own0))
      · rcases own1 a z with z | z
        · exact w1 (.inr z)
        · exact w2 z
  have ex0 : Exw (hide (Hd T ρ σ) H) (hide (Hd (plus T p2) (ρ1.set i (some (.ow (.lst ds)))) σ) H1) := by
    refine ⟨fun a o w nt => ?_, fun a w => ?_⟩
    · obtain ⟨w1, w2⟩ := hide_some.1 w
      exact hide_some.2 ⟨nh0 a w1 (by rw [w2]; simp), p1.keep a _ (fun z => w1 (.inr (ownF a z).1)) w2 nt⟩
    · obtain ⟨w1, w2⟩ := hide_dom.1 w
      exact hide_dom.2 ⟨nh0 a w1 w2, p1.dom a w2⟩
  have r2 : RS X.K (plus T p2) (ρ1.set i (some (.ow (.lst ds)))) σ H1 := by
    refine ⟨by simp [r1.len], fun j d w => ?_, fun j m w => ?_, fun j k m m' a w1 w2 w3 w4 => ?_, fun a t w => ?_, r1.dom, fun j q m a w1 w2 => ?_, r1.tb⟩
    · rcases getset w with ⟨_, _, z⟩ | ⟨ne, z⟩
      · cases z
      · obtain ⟨v, z1, z2⟩ := r1.im j d z
        rcases ns j _ (Ne.symm ne) z with q0 | q0
        · exact ⟨v, z1, nl_any tup1 q0 z2⟩
        · obtain ⟨v0, y1, y2⟩ := r.im j d q0
          exact ⟨v0, y1, y2.monoW ex0⟩
    · rcases getset w with ⟨e1, _, z⟩ | ⟨ne, z⟩
      · cases z
        subst e1
        exact ⟨p, _, hp, hp1, (nl_anys tup0 nds hr : RpAll X.K _ vs ds)⟩
      · obtain ⟨a, u, z1, z2, z3⟩ := r1.ow j m z
        exact ⟨a, u, z1, z2, ns_rpo tup1 (ns j _ (Ne.symm ne) z) z3⟩
    · rcases getset w1 with ⟨e1, _, z1⟩ | ⟨n1, z1⟩
      · rcases getset w2 with ⟨e2, _, z2⟩ | ⟨n2, z2⟩
        · exact e1.symm.trans e2
        · subst e1
          rw [hp] at w3
          cases w3
          exact absurd ⟨k, m', z2, w4⟩ np1
      · rcases getset w2 with ⟨e2, _, z2⟩ | ⟨n2, z2⟩
        · subst e2
          rw [hp] at w4
          cases w4
          exact absurd ⟨j, m, z1, w3⟩ np1
        · exact r1.inj j k m m' a z1 z2 w3 w4
    · rcases ownN a w with z | z
      · subst z
        rcases t with t | t
        · rw [t, n2] at ho; cases ho
        · exact r.dis a t own0
      · exact r1.dis a t z
    · rcases getset w1 with ⟨_, _, z⟩ | ⟨_, z⟩
      · cases z
      · exact r1.tag j q m a z w2
  refine q es _ p2 us H1 n2 s2 r2 (nl_anys tup1 nes v1) ⟨fun a u n w nt => p1.keep a u (fun z => n (ownF a z).1) w nt, fun a w => ?_, p1.dom⟩ h
  rcases ownN a w with z | z
  · subst z; exact .inl own0
  · exact own1 a z
structure JSO (X : Cx) (st : List Stmt) (f : (List D → Prop) → Env → Prop) : Prop where
  ex : ∃ t, PSs X st t ∧ ∀ (T : Addr → Prop) (ρ : Env) (σ : L2.St) (H : Hp) (QD : List D → Prop) (D : Ends), RS X.K T ρ σ H → f QD ρ →
    (∀ es ρ' σ' l us H', (H l = none ∨ Own ρ σ l) → H' l = some (.lst us) → TbOk X.K H' → RpAll X.K (hide (plus T l) H') us es → Po ρ σ H ρ' σ' H' → QD es → D.rt (.ref l) H') → t D σ H
def retOL (i : Nat) : (List D → Prop) → Env → Prop := fun Q ρ => match ρ[i]? with
  | some (some (.ow (.lst ds))) => Q ds
  | _ => False
section
variable {X : Cx} {pos : Pos} {x : Str}
theorem jso_retO {i : Nat} {px : Pos} (hN : X.N[i]? = some x) (hv : Vis X.env.scope x) (hd : (x == ("__debug__" : Str)) = false := by decide) (hcd : (x == ("__classdict__" : Str)) = false := by decide) : JSO X [.Return (some (.Name x px)) pos] (retOL i) := by
  refine ⟨_, pss_cons (ps_ret (pe_var hN hv hd hcd)) pss_nil, fun T ρ σ H QD D r h k => ?_⟩
  unfold retOL at h
  split at h
  · rename_i ds e1
    obtain ⟨p, o, hp, ho, hr⟩ := r.ow i _ e1
    obtain ⟨vs, rfl⟩ : ∃ vs, o = .lst vs := by
      cases o with
      | lst vs => exact ⟨vs, rfl⟩
      | _ => exact False.elim hr
    have hr : RpAll X.K (hide (Hd T ρ σ) H) vs ds := hr
    have own0 : Own ρ σ p := ⟨i, _, e1, hp⟩
    refine ⟨.ref p, hp, k ds ρ σ p vs H (.inr own0) ho r.tb (hr.mono (hide_sub fun a w => ?_)) .refl h⟩
    rcases w with w | w
    · exact .inr (by rw [w]; exact own0)
    · exact .inl w
  · exact False.elim h
theorem jso_cons {st : Stmt} {sts : List Stmt} {g : DS} {f : (List D → Prop) → Env → Prop} (h1 : JS X st g) (h2 : JSO X sts f) : JSO X (st :: sts) (fun Q ρ => g { nx := f Q, rt := fun _ _ => False } ρ) := by
  obtain ⟨t1, p1, k1⟩ := h1.ex
  obtain ⟨t2, p2, k2⟩ := h2.ex
  refine ⟨_, pss_cons p1 p2, fun T ρ σ H QD D r h k => k1 T ρ σ H _ _ r h ⟨fun ρ1 σ1 H1 r1 q1 h => k2 T ρ1 σ1 H1 _ _ r1 h fun es ρ' σ' l us H' n s tb v' p' hq => k es ρ' σ' l us H' ?_ s tb v' (q1.trans p') hq, fun _ _ _ _ _ _ _ _ h => h.elim, fun _ _ _ _ _ h => h.elim, fun _ _ _ _ _ h => h.elim, fun _ _ _ _ _ _ _ h => h.elim⟩⟩
  rcases n with n | n
  · exact .inl (none_back q1 n)
  · exact (q1.own l n).symm
end
section
variable {P : Program} {w : World} {K : PySem.W.Frag} {mg : Str → Option Value} {base : Heap} {st : Stmt} {N : List Str} {ps : List Str} {x : Str} {k : Nat}
theorem ok_LO {S : List D → (List D → Prop) → Prop} {g : (List D → Prop) → Env → Prop} (F : Is K mg x st) (Sc : FnScope N ps (defScope st)) (bs : BindsAs x st ps) (hb : BodyCx P w K mg base x st N k fun X => JSO X (defBody st) g)
    (hS : ∀ (ds : List D) (Q : List D → Prop), ds.length = ps.length → S ds Q → g Q (envD ds (N.length - ps.length))) : Ok P w K mg base x ps (k + 1) (spL K ps.length S) := by
  obtain ⟨f, fd, F, hm⟩ := F
  refine ⟨f, fd, ?_, hm, F.kp, F.bindsN bs⟩
  refine F.ok Sc (fun vs H Q E h => h.1) (fun cdv A outer s H vs Q E hr h => ?_)
  obtain ⟨t, pt, kt⟩ := (hb f cdv A outer s H E hr).ex
  refine ⟨t, PSs.nox pt, ?_⟩
  obtain ⟨hl, T, ds, QD, hT, rv, tb, hs, hq⟩ := h
  have hl2 : ds.length = ps.length := by rw [← rv.length, hl]
  have hN : ps.length ≤ N.length := by have := congrArg List.length Sc.pre; rw [List.length_take] at this; omega
  obtain ⟨r0, no⟩ := envD_rs (m := N.length - ps.length) (N := N) (by omega) hT rv tb
  refine kt T _ _ H _ _ r0 (hS ds QD hl2 hs) fun es ρ' σ' l us H' n s tb' v' p' h => ?_
  exact hq l us es H' (n.elim id fun z => (no l z).elim) s h ⟨⟨fun a o w nt => p'.keep a o (no a) w nt, p'.dom⟩, fun _ => tb'⟩ v'
end
end Dn
set_option Elab.async false
set_option linter.all false
set_option maxRecDepth 100000
set_option autoImplicit false
set_option maxHeartbeats 4000000
namespace Dn
open PySem L2 Evl PySem.Spec PyProof.Rows RZ
def IzM (K : PySem.W.Frag) (a b : Addr) : It where
  go := fun i H => ∃ (xs ys : List V) (x y : V), SqL K H a xs ∧ SqT K H b ys ∧ xs[i]? = some x ∧ ys[i]? = some y
  yld := fun i H v H' => ∃ l o x y, v = .ref l ∧ H l = none ∧ TO K o [x, y] ∧ H' = upd H l o ∧ (∀ xs, SqL K H a xs → xs[i]? = some x) ∧ ∀ ys, SqT K H b ys → ys[i]? = some y
  stop := fun i H => ∃ xs ys : List V, SqL K H a xs ∧ SqT K H b ys ∧ i ≤ xs.length ∧ i ≤ ys.length ∧ (i = xs.length ∨ i = ys.length)
section
variable {P : Program} {w : World} {K : PySem.W.Frag} {elts : List Expr} {kk : Nat} {tpos : Pos} {a b z A1 A2 i1 i2 : Addr}
theorem sep_of (D : ZipApart z A1 A2 i1 i2 a b) : ZipSep2 z A1 A2 i1 i2 [i1, a] [i2, b] where
  TIz := D.TIz
  TOz := D.TOz
  TITO := D.TITO
  TIi1 := D.TIi1
  mem1 := by simp
  zf1 := by simp [D.i1z.symm, D.l1z.symm]
  Tf1 := by simp [D.TOi1, D.l1TO.symm]
  TIi2 := D.TIi2
  mem2 := by simp
  zf2 := by simp [D.i2z.symm, D.l2z.symm]
  Tf2 := by simp [D.TOi2, D.l2TO.symm]
  sep1_2 := by simp [D.i12, D.l2i1.symm]
  sep2_1 := by simp [D.i12.symm, D.l1i2.symm]
theorem turn_zpM (D : ZipApart z A1 A2 i1 i2 a b) :
    Turn P w K (.Tuple elts kk tpos) (IzM K a b) [z, A1, A2, i1, i2] z (fun i h => IsZip h z A1 A2 .none ∧ IsTupOf2 h A1 (.ref i1) (.ref i2) ∧ (∃ x y, IsTupOf2 h A2 x y) ∧ h.IsListIter i1 a i ∧ h.IsTupleIter i2 b i) where
  mem := by simp
  obj := fun i h st c hc => by
    obtain ⟨hz, h3, ⟨x, y, h4⟩, ⟨o1, e1, _, d1⟩, ⟨o2, e2, _, d2⟩⟩ := st
    rcases five hc with rfl | rfl | rfl | rfl | rfl
    · exact ⟨_, hz, fun v q => nomatch q⟩
    · exact ⟨_, h3, fun v q => nomatch q⟩
    · exact ⟨_, h4, fun v q => nomatch q⟩
    · exact ⟨o1, e1, fun v q => by rw [d1] at q; cases q⟩
    · exact ⟨o2, e2, fun v q => by rw [d2] at q; cases q⟩
  keep := fun i h h' st k => by
    obtain ⟨hz, h3, ⟨x, y, h4⟩, h1, h2⟩ := st
    exact ⟨k z (by simp) _ hz, k A1 (by simp) _ h3, ⟨x, y, k A2 (by simp) _ h4⟩, h1.at fun o q => k i1 (by simp) o q, h2.at fun o q => k i2 (by simp) o q⟩
  item := by
    intro X hP hw hK hc i pins s σ H E I hf st hg
    subst hP hw hK
    obtain ⟨hz, h3, ⟨x0, y0, h4⟩, h1, h2⟩ := st
    obtain ⟨xs, ys, x, y, hqx, hqy, hx, hy⟩ := hg
    obtain ⟨its, rv, p, _⟩ := I.list hqx
    obtain ⟨its2, rv2, p2, _⟩ := I.tuple hqy
    obtain ⟨u, hu, ru⟩ := rv.get hx
    obtain ⟨u2, hu2, ru2⟩ := rv2.get hy
    have hzl : z < s.heap.objs.size := Heap.lt_size hz
    have hh : X.A.in1.handled = none := I.ok.hd hc
    have W1 := Draws.list (prog := X.prog) (w := X.w) hh i1 a D.l1i1 its.toArray
    have W2 := Draws.tuple (prog := X.prog) (w := X.w) hh i2 b D.l2i2 its2.toArray
    have lt1 : i < its.toArray.size := by have := (List.getElem?_eq_some_iff.mp hu).1; simpa using this
    have lt2 : i < its2.toArray.size := by have := (List.getElem?_eq_some_iff.mp hu2).1; simpa using this
    refine wpAny_pyNext_zipD2_item (sep_of D) W1 W2 hz h3 h4 ⟨h1, p.isList⟩ ⟨h2, p2⟩ lt1 lt2 fun y1 y2 h' tk g1 g2 z' n4 st1 st2 hT hsz hk => ?_
    have e1 : y1 = u := by have : its.toArray[i]? = some u := by simpa using hu
                           rw [this] at g1; exact (Option.some.inj g1).symm
    have e2 : y2 = u2 := by have : its2.toArray[i]? = some u2 := by simpa using hu2
                            rw [this] at g2; exact (Option.some.inj g2).symm
    subst e1 e2
    refine ⟨_, rfl, wpAny_letOwnedTupleGo_zip (s := { s with heap := h', toks := tk }) z' fun h'' z'' sb => ?_⟩
    have hT2 : h''.get? s.heap.objs.size = some { cls := .type "tuple", data := .seq #[y1, y2] } := (sb.2 _ (Nat.ne_of_gt hzl)).trans hT
    obtain ⟨o, t, ok⟩ := to_ok (P := X.prog) (w := X.w) (xs := [x, y]) (its := [y1, y2]) X.K hT2 rfl rfl rfl (by show 2 ≤ sizeLine; decide) (.cons ru (.cons ru2 .nil))
    have I1 : L2.Inv X pins σ (upd H s.heap.objs.size o) { s with heap := h'', toks := tk } :=
      I.turnedNew (t' := tk) (ch := [z, A1, A2, i1, i2]) (fun c ob hb q => (sb.2 c (fun q' => hb (by simp [q']))).trans (hk c ob (fun q' => hb (by simp [q'])) (fun q' => hb (by simp [q'])) (fun q' => hb (by simp [q'])) (fun q' => hb (by simp [q'])) q)) hf (Nat.le_refl _) (ok _)
    refine ⟨.ref s.heap.objs.size, _, I1, rfl, ⟨_, o, x, y, rfl, I.hok.fresh (Nat.le_refl _), t, rfl, fun l hl => by rw [I.list_inj hl hqx]; exact hx, fun l hl => by rw [I.tuple_inj hl hqy]; exact hy⟩, ⟨z'', ?_, ⟨y1, y2, ?_⟩, ?_, ?_⟩, fun c hcm => ?_⟩
    · exact (sb.2 _ D.TIz).trans (hk _ _ D.TIz D.TITO D.TIi1 D.TIi2 h3)
    · exact (sb.2 _ D.TOz).trans n4
    · exact st1.1.at fun o q => (sb.2 _ D.i1z).trans q
    · exact st2.1.at fun o q => (sb.2 _ D.i2z).trans q
    · have hlt : c < s.heap.objs.size := by
        rcases five hcm with rfl | rfl | rfl | rfl | rfl
        · exact hzl
        · exact Heap.lt_size h3
        · exact Heap.lt_size h4
        · obtain ⟨_, e1, _⟩ := h1; exact Heap.lt_size e1
        · obtain ⟨_, e2, _⟩ := h2; exact Heap.lt_size e2
      rw [upd_ne (Nat.ne_of_lt hlt)]
      exact (hf c hcm).1
  done := by
    intro X hP hw hK hc i pins s σ H E I hf st hg
    subst hP hw hK
    obtain ⟨hz, h3, ⟨x0, y0, h4⟩, h1, h2⟩ := st
    obtain ⟨xs, ys, hqx, hqy, le1, le2, hend⟩ := hg
    obtain ⟨its, rv, p, _⟩ := I.list hqx
    obtain ⟨its2, rv2, p2, _⟩ := I.tuple hqy
    have l1 := rv.length
    have l2 := rv2.length
    have hh : X.A.in1.handled = none := I.ok.hd hc
    have W1 := Draws.list (prog := X.prog) (w := X.w) hh i1 a D.l1i1 its.toArray
    have W2 := Draws.tuple (prog := X.prog) (w := X.w) hh i2 b D.l2i2 its2.toArray
    have s1 : its.toArray.size = its.length := by simp
    have s2 : its2.toArray.size = its2.length := by simp
    exact wpAny_pyNext_zipD2_end (sep_of D) W1 W2 hz h3 h4 ⟨h1, p.isList⟩ ⟨h2, p2⟩ (by omega) (by omega) (by omega) fun h' tk hk => ⟨rfl, I.turnedL (t' := tk) (ch := [z, A1, A2, i1, i2]) (fun c o hb q =>
      hk c o (fun q' => hb (by simp [q'])) (fun q' => hb (by simp [q'])) (fun q' => hb (by simp [q'])) (fun q' => hb (by simp [q'])) q) hf⟩
  self := fun A i s Q E st h => wpAny_pyIter_zip st.1 h
end
def iZpM0 (K : PySem.W.Frag) (ta : TA) : TI := fun σ H R => ta σ H fun vs H1 => ∃ a b xs ys, vs = [.ref a, .ref b] ∧ SqL K H1 a xs ∧ SqT K H1 b ys ∧ R (IzM K a b) H1
theorem pi_zpM {X : Cx} {e e2 : Expr} {ta : TA} {p pos tpos : Pos} {elts : List Expr} {kk : Nat} (hg : Gl X "zip") (hm : X.mg "zip" = none) (ha : PA X [e, e2] ta)
    (hs : starEach [e, e2] X.env = (false, eval e X.env) :: starEach [e2] X.env := by rfl) (hpl : (backTo pos (starEach [e2] X.env)).any (·.1) = false := by rfl) :
    PI X (.Tuple elts kk tpos) (.Call (.Name "zip" p) [e, e2] [] pos) (iZpM0 X.K ta) := by
  refine ⟨fun pins s σ H R I h => ?_⟩
  refine Call_ (ld_blt I hg hm PyProof.Rows.boot_zip (PyProof.Rows.callWith_type1 (thn (ha.run pos pins s σ H _ I h) fun us s1 ⟨vs, H1, I1, r1, q1⟩ => ?_) hs hpl))
  obtain ⟨a, b, xs, ys, ex, hqx, hqy, q⟩ := q1
  subst ex
  cases r1 with
  | cons r rr =>
    cases rr with
    | cons r' rr =>
      cases rr
      cases r
      cases r'
      have fresh5 : ∀ c, c ∈ [s1.heap.objs.size + 4, s1.heap.objs.size + 2, s1.heap.objs.size + 3, s1.heap.objs.size, s1.heap.objs.size + 1] → FpOk X pins H1 c := fun c hcm => by
        have hle : s1.heap.objs.size ≤ c := by
          rcases five hcm with z | z | z | z | z <;> (rw [z]; first | exact Nat.le_add_right _ _ | exact Nat.le_refl _)
        exact I1.fpOk hle (I1.hok.fresh hle)
      obtain ⟨its, rv, p1, _⟩ := I1.list hqx
      obtain ⟨its2, rv2, p2, _⟩ := I1.tuple hqy
      obtain ⟨o2, ho2, _⟩ := id p2
      refine zip_begins2 (begins_list a its.toArray) (begins_tuple b its2.toArray) p1.isList p2 fun h' hz h3 h4 h1 h2 hsz hk => wpAny_pyIter_zip hz ?_
      have I2 : L2.Inv X pins σ H1 { s1 with heap := h' } := I1.kept (t' := s1.toks) hk
      exact ⟨s1.heap.objs.size + 4, [s1.heap.objs.size + 4, s1.heap.objs.size + 2, s1.heap.objs.size + 3, s1.heap.objs.size, s1.heap.objs.size + 1], _, _, H1, rfl, I2, turn_zpM (PySem.W.ktu_apart s1.heap.objs.size a b p1.lt (Heap.lt_size ho2)), ⟨hz, h3, ⟨_, _, h4⟩, ⟨_, h1, rfl, rfl⟩, ⟨_, h2, rfl, rfl⟩⟩, fresh5, q⟩
theorem it_zpM {K : PySem.W.Frag} {G : Hp} {a b : Addr} {xs ys : List V} {ds es : List D} (hp : SqL K G a xs) (hq : SqT K G b ys) (rr : RpAll K G xs ds) (rs : RpAll K G ys es) : ItOk K (IzM K a b) G (zpD ds es) :=
  ⟨fun H e => ⟨xs, ys, e.l hp, e.t hq, by rw [zpD_len, rr.length, rs.length]; omega⟩, fun i d H hd e => by
    obtain ⟨g, g2, hg, hg2, rfl⟩ := zpD_get hd
    obtain ⟨u, hu, ru⟩ := rr.get hg
    obtain ⟨u2, hu2, ru2⟩ := rs.get hg2
    refine ⟨⟨xs, ys, u, u2, e.l hp, e.t hq, hu, hu2⟩, fun x H' y => ?_⟩
    obtain ⟨l, o, z, z2, rfl, hl, t, rfl, y1, y2⟩ := y
    have e1 := y1 xs (e.l hp)
    have e2 := y2 ys (e.t hq)
    rw [hu] at e1; cases e1
    rw [hu2] at e2; cases e2
    exact ⟨Ex.new hl, fun O hO eo => rp_newT hO hl t (.cons (ru.monoW eo) (.cons (ru2.monoW eo) .nil))⟩⟩
section
variable {X : Cx} {a b : Expr} {fa fb : DE} {p pos : Pos}
def iZpM (f g : DE) : DL := fun ρ Q => f ρ fun d ρ1 => g ρ1 fun e ρ2 => ∃ xs ys, d = .list xs ∧ e = .tuple ys ∧ Q (zpD xs ys) ρ2
theorem ji_zipM {elts : List Expr} {kk : Nat} {tpos : Pos} (hm : X.mg "zip" = none) (ha : JE X a fa) (hb : JE X b fb) (hg : Gl X "zip" := by rfl) (hs : starEach [a, b] X.env = [(false, eval a X.env), (false, eval b X.env)] := by rfl) (hs2 : starEach [b] X.env = [(false, eval b X.env)] := by rfl) : JI X (.Tuple elts kk tpos) (.Call (.Name "zip" p) [a, b] [] pos) (iZpM fa fb) := by
  obtain ⟨t, pt, kt⟩ := ha.ex
  obtain ⟨t2, pt2, kt2⟩ := hb.ex
  refine ⟨_, pi_zpM hg hm (pa_cons pt (pa_cons pt2 pa_nil hs2) (by rw [hs, hs2])) (by rw [hs, hs2]) (by rw [hs2]; rfl), fun T ρ σ H QD R r h q => kt T ρ σ H _ _ r h fun d ρ1 v H1 r1 p1 v1 h => kt2 T ρ1 σ H1 _ _ r1 h fun e ρ2 w H2 r2 p2 v2 h => ?_⟩
  obtain ⟨xs, ys, rfl, rfl, hh⟩ := h
  have v1' := v1.monoW p2.fz
  obtain ⟨a1, us, rfl, s1, g1, q1⟩ := rp_lstS v1'
  obtain ⟨a2, us2, rfl, s2, g2, q2⟩ := rp_tupS v2
  exact ⟨_, _, _, _, rfl, s1, s2, q _ _ _ _ r2 (p1.trans p2) (it_zpM g1 g2 q1 q2) hh⟩
end
end Dn
set_option Elab.async false
set_option linter.all false
set_option maxRecDepth 100000
set_option autoImplicit false
set_option maxHeartbeats 4000000
namespace Dn.T.G.B.K37.K84
open PySem L2 Evl PySem.Spec PyProof.Rows
abbrev N_law : List Str := ["_law_script", "_law_spot", "_law_two", "_law_three", "_law_acts", "_law_values", "_law_value"]
abbrev P_law : List Str := ["_law_script"]
def g_law : DS := sSeq (sFor (iR1 (dCall dMax2 (aCons (dC (.int 1)) (aCons (dCall dMin2 (aCons (dC (.int 4)) (aCons (dCall dLen (aCons (dVar 0) (aNil))) (aNil)))) (aNil))))) (gNm 1) (sIf (dTNot (dTst (dCallML 1 S__law_right (lCall 2 S__law_dice (aCons (dVar 0) (aCons (dVar 1) (aNil)))) (aNil)))) (sRet (dC (.bool false))) (sNx))) (sSeq (sPar 2 3 (xIm (dCM 2 "Double" "both" S_Double__both (aCons (dCM 2 "Group" "cyclic" S_Group__cyclic (aCons (dC (.int 2)) (aNil))) (aNil)))) (xIm (dCM 2 "Double" "both" S_Double__both (aCons (dCM 2 "Group" "cyclic" S_Group__cyclic (aCons (dC (.int 3)) (aNil))) (aNil))))) (sSeq (sSet 4 (xIm (dTup (aCons (dTup (aCons (dC (.int 1)) (aCons (dC (.int 2)) (aCons (dC (.int 0)) (aNil))))) (aCons (dTup (aCons (dC (.int 0)) (aCons (dC (.int 2)) (aCons (dC (.int 1)) (aNil))))) (aNil)))))) (sSeq (sSet 5 (xIm (dOfL (lLst (aCons (dTup (aCons (dC (.str "likeness")) (aCons (dC (.int 0)) (aCons (dC (.int 0)) (aCons (dC (.int 0)) (aNil)))))) (aCons (dTup (aCons (dC (.str "joined")) (aCons (dC (.int 0)) (aCons (dC (.int 0)) (aNil))))) (aCons (dTup (aCons (dC (.str "joined")) (aCons (dC (.int 1)) (aCons (dC (.int 1)) (aNil))))) (aCons (dTup (aCons (dC (.str "likeness")) (aCons (dC (.int 1)) (aCons (dC (.int 1)) (aCons (dC (.int 1)) (aNil)))))) (aCons (dTup (aCons (dC (.str "join")) (aNil))) (aNil)))))))))) (sRet (dBin dEq (dOfL (lLc (iSq (dVar 5)) (gNm 6) (dYes) (dCallF 4 S_is_join_paper (aCons (dVar 2) (aCons (dVar 3) (aCons (dVar 4) (aCons (dVar 6) (aNil)))))) [6])) (dOfL (lLst (aCons (dC (.bool true)) (aCons (dC (.bool true)) (aCons (dC (.bool true)) (aCons (dC (.bool false)) (aCons (dC (.bool false)) (aNil)))))))))))))
abbrev N__law_right : List Str := ["_law_dice_here", "_law_one", "_law_other", "_law_some", "_law_acts", "_law_first", "_law_second", "_law_is_whole", "_law_a", "_law_b", "_law_value", "_law_due", "_law_x", "_law_y", "_law_act", "_law_turn", "_law_size", "_law_more", "_law_wrong", "_law_thing"]
abbrev P__law_right : List Str := ["_law_dice_here"]
def g__law_right : DS := sSeq (sPar 1 2 (xIm (dCallM 0 2 S__law_double (aCons (dC (.int 6)) (aNil)))) (xIm (dCallM 0 2 S__law_double (aCons (dC (.int 4)) (aNil))))) (sSeq (sSet 3 (xIm (dBin dAdd (dBin dAdd (dCallF 2 S__law_likenesses_to (aCons (dVar 2) (aCons (dVar 2) (aNil)))) (dOfL (lRep (dOfL (lLst (aCons (dCallF 1 S__law_idle (aCons (dCall dLen (aCons (dBin dIx (dVar 2) (dC (.int 0))) (aNil))) (aNil))) (aNil)))) (dC (.int 3))))) (dOfL (lLst (aCons (dCallM 0 2 S__law_drawn_move (aCons (dCall dLen (aCons (dBin dIx (dVar 2) (dC (.int 0))) (aNil))) (aNil))) (aNil))))))) (sSeq (sSet 4 (xIm (dCall dTupOf (aCons (dOfL (lLc (iSq (dBin dIx (dVar 1) (dC (.int 0)))) (gNm 19) (dYes) (dCallM 0 2 S__law_pick (aCons (dVar 3) (aNil))) [19])) (aNil))))) (sSeq (sIf (dTst (dBin dEq (dCallM 0 2 S__law_roll (aCons (dC (.int 3)) (aNil))) (dC (.int 0)))) (sSet 4 (xIm (dBin dRepU (dTup (aCons (dCallF 1 S__law_idle (aCons (dCall dLen (aCons (dBin dIx (dVar 2) (dC (.int 0))) (aNil))) (aNil))) (aNil))) (dCall dLen (aCons (dBin dIx (dVar 1) (dC (.int 0))) (aNil)))))) (sNx)) (sSeq (sSet 5 (xIm (dNew 3 "Double" S_Double____init__ (aCons (dNew 2 "Group" S_Group____init__ (aCons (dCall dTupOf (aCons (dBin dIx (dVar 1) (dC (.int 0))) (aNil))) (aNil))) (aCons (dNew 2 "Group" S_Group____init__ (aCons (dCallF 1 S__law_circle_of (aCons (dVar 1) (aNil))) (aNil))) (aNil)))))) (sSeq (sSet 6 (xIm (dNew 3 "Double" S_Double____init__ (aCons (dNew 2 "Group" S_Group____init__ (aCons (dCall dTupOf (aCons (dBin dIx (dVar 2) (dC (.int 0))) (aNil))) (aNil))) (aCons (dNew 2 "Group" S_Group____init__ (aCons (dCallF 1 S__law_circle_of (aCons (dVar 2) (aNil))) (aNil))) (aNil)))))) (sSeq (sSet 7 (xIm (dC (.bool true)))) (sSeq (sFor (iR1 (dCall dLen (aCons (dVar 4) (aNil)))) (gNm 8) (sFor (iR1 (dCall dLen (aCons (dVar 4) (aNil)))) (gNm 9) (sSeq (sSet 10 (xIm (dTup (aCons (dC (.str "joined")) (aCons (dVar 8) (aCons (dVar 9) (aNil))))))) (sSeq (sSet 11 (xIm (dCallF 4 S__law_says (aCons (dVar 1) (aCons (dVar 2) (aCons (dVar 4) (aCons (dVar 10) (aNil)))))))) (sSeq (sSet 7 (xIm (dAnd (dVar 7) (dNot (dVar 11))))) (sIf (dTst (dBin dNe (dCallF 4 S_is_join_paper (aCons (dVar 5) (aCons (dVar 6) (aCons (dVar 4) (aCons (dVar 10) (aNil)))))) (dVar 11))) (sRet (dC (.bool false))) (sNx))))))) (sSeq (sFor (iR1 (dCall dLen (aCons (dBin dIx (dVar 2) (dC (.int 0))) (aNil)))) (gNm 12) (sFor (iR1 (dCall dLen (aCons (dBin dIx (dVar 2) (dC (.int 0))) (aNil)))) (gNm 13) (sSeq (sSet 10 (xIm (dTup (aCons (dC (.str "likeness")) (aCons (dCallM 0 2 S__law_roll (aCons (dCall dLen (aCons (dVar 4) (aNil))) (aNil))) (aCons (dVar 12) (aCons (dVar 13) (aNil)))))))) (sIf (dTst (dBin dNe (dCallF 4 S_is_join_paper (aCons (dVar 5) (aCons (dVar 6) (aCons (dVar 4) (aCons (dVar 10) (aNil)))))) (dCallF 4 S__law_says (aCons (dVar 1) (aCons (dVar 2) (aCons (dVar 4) (aCons (dVar 10) (aNil)))))))) (sRet (dC (.bool false))) (sNx))))) (sSeq (sFor (iSq (dVar 4)) (gNm 14) (sSet 7 (xIm (dAnd (dVar 7) (dCallF 3 S__law_keeps_double (aCons (dVar 2) (aCons (dVar 2) (aCons (dVar 14) (aNil))))))))) (sSeq (sIf (dTst (dBin dNe (dCallF 4 S_is_join_paper (aCons (dVar 5) (aCons (dVar 6) (aCons (dVar 4) (aCons (dTup (aCons (dC (.str "join")) (aNil))) (aNil)))))) (dVar 7))) (sRet (dC (.bool false))) (sNx)) (sSeq (sFor (iR1 (dC (.int 4))) (gNm 15) (sSeq (sSet 10 (xIm (dCallM 0 3 S__law_drawn_paper (aCons (dVar 1) (aCons (dVar 2) (aNil)))))) (sIf (dTst (dBin dNe (dCallF 4 S_is_join_paper (aCons (dVar 5) (aCons (dVar 6) (aCons (dVar 4) (aCons (dVar 10) (aNil)))))) (dCallF 4 S__law_says (aCons (dVar 1) (aCons (dVar 2) (aCons (dVar 4) (aCons (dVar 10) (aNil)))))))) (sRet (dC (.bool false))) (sNx)))) (sSeq (sPar 16 17 (xIm (dCall dLen (aCons (dBin dIx (dVar 1) (dC (.int 0))) (aNil)))) (xIm (dCall dLen (aCons (dBin dIx (dVar 2) (dC (.int 0))) (aNil))))) (sSeq (sSet 18 (xIm (dOfL (lLst (aCons (dC .none) (aCons (dTup (aNil)) (aCons (dC (.str "join")) (aCons (dOfL (lLst (aCons (dC (.str "join")) (aNil)))) (aCons (dTup (aCons (dC (.str "join")) (aCons (dC (.int 0)) (aNil)))) (aCons (dTup (aCons (dC (.str "likeness")) (aNil))) (aCons (dTup (aCons (dC (.str "likeness")) (aCons (dC (.int 0)) (aCons (dC (.int 0)) (aNil))))) (aCons (dTup (aCons (dC (.str "joined")) (aCons (dC (.int 0)) (aNil)))) (aCons (dTup (aCons (dC (.str "joined")) (aCons (dC (.int 0)) (aCons (dC (.int 0)) (aCons (dC (.int 0)) (aNil)))))) (aNil)))))))))))))) (sSeq (sSet 18 (xIm (dBin dAdd (dVar 18) (dOfL (lLst (aCons (dTup (aCons (dC (.str "joined")) (aCons (dVar 16) (aCons (dC (.int 0)) (aNil))))) (aCons (dTup (aCons (dC (.str "joined")) (aCons (dNeg (dC (.int 1))) (aCons (dC (.int 0)) (aNil))))) (aCons (dTup (aCons (dC (.str "joined")) (aCons (dC (.bool true)) (aCons (dC (.int 0)) (aNil))))) (aCons (dTup (aCons (dC (.str "likeness")) (aCons (dVar 16) (aCons (dC (.int 0)) (aCons (dC (.int 0)) (aNil)))))) (aCons (dTup (aCons (dC (.str "likeness")) (aCons (dC (.int 0)) (aCons (dVar 17) (aCons (dC (.int 0)) (aNil)))))) (aNil))))))))))) (sSeq (sSet 18 (xIm (dBin dAdd (dVar 18) (dOfL (lLst (aCons (dTup (aCons (dC (.str "likeness")) (aCons (dC (.int 0)) (aCons (dC (.int 0)) (aCons (dC (.str "0")) (aNil)))))) (aCons (dTup (aCons (dC (.str "rule")) (aCons (dC (.int 0)) (aCons (dC (.int 0)) (aNil))))) (aCons (dTup (aCons (dC .none) (aCons (dC (.int 0)) (aCons (dC (.int 0)) (aNil))))) (aCons (dTup (aCons (dC (.int 0)) (aNil))) (aCons (dTup (aCons (dC (.str "likeness")) (aCons (dTup (aCons (dC (.int 0)) (aNil))) (aCons (dC (.int 0)) (aCons (dC (.int 0)) (aNil)))))) (aCons (dC (.dict [])) (aCons (dTup (aCons (dC (.str "joined")) (aCons (dC (.int 0)) (aCons (dC .none) (aNil))))) (aNil))))))))))))) (sRet (dNot (dCall dAny (aCons (dOfL (lLc (iSq (dVar 18)) (gNm 10) (dYes) (dCallF 4 S_is_join_paper (aCons (dVar 5) (aCons (dVar 6) (aCons (dVar 4) (aCons (dVar 10) (aNil)))))) [10])) (aNil))))))))))))))))))))
abbrev N__law_likenesses_to : List Str := ["_law_one", "_law_other", "_law_size", "_law_made", "_law_unit_here", "_law_found", "_law_goals", "_law_move"]
abbrev P__law_likenesses_to : List Str := ["_law_one", "_law_other"]
def g__law_likenesses_to : DS := sSeq (sSet 2 (xIm (dCall dLen (aCons (dBin dIx (dVar 0) (dC (.int 0))) (aNil))))) (sSeq (sIf (dTst (dBin dNe (dVar 2) (dCall dLen (aCons (dBin dIx (dVar 1) (dC (.int 0))) (aNil))))) (sRet (dOfL (lLst (aNil)))) (sNx)) (sSeq (sPar 3 4 (xIm (dCallF 1 S__law_plus_makers (aCons (dBin dIx (dVar 0) (dC (.int 0))) (aNil)))) (xIm (dCallF 1 S__law_unit (aCons (dBin dIx (dVar 1) (dC (.int 0))) (aNil))))) (sSeq (sSet 5 (xOw (lLst (aNil)))) (sSeq (sFor (iSq (dCallF 2 S__law_goal_rows (aCons (dVar 2) (aCons (dCall dLen (aCons (dVar 3) (aNil))) (aNil))))) (gNm 6) (sSeq (sSet 7 (xIm (dCallF 5 S__law_spread_goals (aCons (dBin dIx (dVar 0) (dC (.int 0))) (aCons (dBin dIx (dVar 1) (dC (.int 0))) (aCons (dVar 3) (aCons (dVar 6) (aCons (dVar 4) (aNil))))))))) (sIf (dTAnd (dTst (dBin dIsNot (dVar 7) (dC .none))) (dTst (dCallF 3 S__law_keeps_double (aCons (dVar 0) (aCons (dVar 1) (aCons (dVar 7) (aNil))))))) (sEx (dApp 5 (dVar 7))) (sNx)))) (sRet (dOfL (lSortT (dVarF 5))))))))
abbrev N__law_plus_makers : List Str := ["_law_plus", "_law_made", "_law_found", "_law_thing"]
abbrev P__law_plus_makers : List Str := ["_law_plus"]
def g__law_plus_makers : DS := sSeq (sPar 1 2 (xIm (dOfL (lLst (aCons (dCallF 1 S__law_unit (aCons (dVar 0) (aNil))) (aNil))))) (xOw (lLst (aNil)))) (sSeq (sFor (iR1 (dCall dLen (aCons (dVar 0) (aNil)))) (gNm 3) (sIf (dTst (dBin (dIn true) (dVar 3) (dVar 1))) (sSeq (sEx (dApp 2 (dVar 3))) (sSet 1 (xIm (dOfL (lKeep 2 (lCall 2 S__law_made_part (aCons (dVar 0) (aCons (dVar 2) (aNil))))))))) (sNx))) (sRetO 2))
abbrev N__law_made_part : List Str := ["_law_plus", "_law_makers", "_law_found", "_law_waiting", "_law_here", "_law_maker", "_law_there"]
abbrev P__law_made_part : List Str := ["_law_plus", "_law_makers"]
def g__law_made_part : (List D → Prop) → Env → Prop := (fun Q ρ => (sPar 2 3 (xOw (lLst (aCons (dCallF 1 S__law_unit (aCons (dVar 0) (aNil))) (aNil)))) (xOw (lLst (aCons (dCallF 1 S__law_unit (aCons (dVar 0) (aNil))) (aNil))))) { nx := (fun Q ρ => (sWh (dTst (dBinO 3 dNe (dOfL (lLst (aNil))))) (sSeq (sSet 4 (xIm (dPop 3))) (sFor (iSq (dVar 1)) (gNm 5) (sSeq (sSet 6 (xIm (dBin dIx (dBin dIx (dVar 0) (dVar 4)) (dVar 5)))) (sIf (dTst (dBinR 2 (dIn true) (dVar 6))) (sSeq (sEx (dApp 2 (dVar 6))) (sEx (dApp 3 (dVar 6)))) (sNx)))))) { nx := (retOL 2) Q, rt := fun _ _ => False } ρ) Q, rt := fun _ _ => False } ρ)
abbrev N__law_goal_rows : List Str := ["_law_size", "_law_many", "_law_found", "_law_turn", "_law_longer", "_law_row", "_law_thing"]
abbrev P__law_goal_rows : List Str := ["_law_size", "_law_many"]
def g__law_goal_rows : DS := sSeq (sSet 2 (xIm (dOfL (lLst (aCons (dTup (aNil)) (aNil)))))) (sSeq (sFor (iR1 (dVar 1)) (gNm 3) (sSeq (sSet 4 (xOw (lLst (aNil)))) (sSeq (sFor (iSq (dVar 2)) (gNm 5) (sEx (dExt 4 (dOfL (lLc (iR1 (dVar 0)) (gNm 6) (dTst (dBin (dIn true) (dVar 6) (dVar 5))) (dBin dAdd (dVar 5) (dTup (aCons (dVar 6) (aNil)))) [6]))))) (sSet 2 (xIm (dOfL (lOfO 4))))))) (sRet (dVar 2)))
abbrev N__law_spread_goals : List Str := ["_law_plus", "_law_other", "_law_makers", "_law_goals", "_law_unit_here", "_law_known", "_law_waiting", "_law_here", "_law_maker", "_law_goal", "_law_there", "_law_end", "_law_move", "_law_thing"]
abbrev P__law_spread_goals : List Str := ["_law_plus", "_law_other", "_law_makers", "_law_goals", "_law_unit_here"]
def g__law_spread_goals : DS := sSeq (sPar 5 6 (xDct1 (dCallF 1 S__law_unit (aCons (dVar 0) (aNil))) (dVar 4)) (xOw (lLst (aCons (dCallF 1 S__law_unit (aCons (dVar 0) (aNil))) (aNil))))) (sSeq (sWh (dTst (dBinO 6 dNe (dOfL (lLst (aNil))))) (sSeq (sSet 7 (xIm (dPop 6))) (sFor (iZpM (dVar 2) (dVar 3)) (gTp 2 (gsCons (gNm 8) (gsCons (gNm 9) (gsNil)))) (sSeq (sPar 10 11 (xIm (dBin dIx (dBin dIx (dVar 0) (dVar 7)) (dVar 8))) (xIm (dBin dIx (dBin dIx (dVar 1) (dGetK 5 (dVar 7))) (dVar 9)))) (sIf (dTst (dInK true 5 (dVar 10))) (sSeq (sPutK 5 (dVar 10) (dVar 11)) (sEx (dApp 6 (dVar 10)))) (sIf (dTst (dBin dNe (dGetK 5 (dVar 10)) (dVar 11))) (sRet (dC .none)) (sNx))))))) (sSeq (sSet 12 (xIm (dCall dTupOf (aCons (dOfL (lLc (iR1 (dCall dLen (aCons (dVar 0) (aNil)))) (gNm 13) (dYes) (dGetK 5 (dVar 13)) [13])) (aNil))))) (sRet (dIfE (dTst (dBin dEq (dLenSet (dVar 12)) (dCall dLen (aCons (dVar 0) (aNil))))) (dVar 12) (dC .none)))))
abbrev N__law_keeps_double : List Str := ["_law_one", "_law_other", "_law_move", "_law_size", "_law_first", "_law_second", "_law_a", "_law_b"]
abbrev P__law_keeps_double : List Str := ["_law_one", "_law_other", "_law_move"]
def g__law_keeps_double : DS := sSeq (sPar3 3 4 5 (dCall dLen (aCons (dBin dIx (dVar 0) (dC (.int 0))) (aNil))) (dCallF 1 S__law_circle_of (aCons (dVar 0) (aNil))) (xIm (dCallF 1 S__law_circle_of (aCons (dVar 1) (aNil))))) (sSeq (sFor (iR1 (dVar 3)) (gNm 6) (sFor (iR1 (dVar 3)) (gNm 7) (sIf (dTOr (dTst (dBin dNe (dBin dIx (dVar 2) (dBin dIx (dBin dIx (dBin dIx (dVar 0) (dC (.int 0))) (dVar 6)) (dVar 7))) (dBin dIx (dBin dIx (dBin dIx (dVar 1) (dC (.int 0))) (dBin dIx (dVar 2) (dVar 6))) (dBin dIx (dVar 2) (dVar 7))))) (dTst (dBin dNe (dBin dIx (dVar 2) (dBin dIx (dBin dIx (dVar 4) (dVar 6)) (dVar 7))) (dBin dIx (dBin dIx (dVar 5) (dBin dIx (dVar 2) (dVar 6))) (dBin dIx (dVar 2) (dVar 7)))))) (sRet (dC (.bool false))) (sNx)))) (sRet (dC (.bool true))))
abbrev N__law_circle_of : List Str := ["_law_double_here"]
abbrev P__law_circle_of : List Str := ["_law_double_here"]
def g__law_circle_of : DS := sRet (dCallF 2 S__law_circle (aCons (dBin dIx (dVar 0) (dC (.int 0))) (aCons (dBin dIx (dVar 0) (dC (.int 1))) (aNil))))
abbrev N__law_says : List Str := ["_law_one", "_law_other", "_law_acts", "_law_value", "_law_first", "_law_circle_here", "_law_second", "_law_act", "_law_x", "_law_y"]
abbrev P__law_says : List Str := ["_law_one", "_law_other", "_law_acts", "_law_value"]
def g__law_says : DS := sSeq (sPar3 4 5 6 (dCallF 1 S__law_circle_of (aCons (dVar 0) (aNil))) (dCallF 1 S__law_circle_of (aCons (dVar 1) (aNil))) (xIm (dBin dIx (dVar 1) (dC (.int 0))))) (sSeq (sIf (dTst (dBin dEq (dBin dIx (dVar 3) (dC (.int 0))) (dC (.str "likeness")))) (sSeq (sPar3 7 8 9 (dBin dIx (dVar 2) (dBin dIx (dVar 3) (dC (.int 1)))) (dBin dIx (dVar 3) (dC (.int 2))) (xIm (dBin dIx (dVar 3) (dC (.int 3))))) (sRet (dOr (dBin dNe (dBin dIx (dVar 7) (dBin dIx (dBin dIx (dVar 6) (dVar 8)) (dVar 9))) (dBin dIx (dBin dIx (dVar 6) (dBin dIx (dVar 7) (dVar 8))) (dBin dIx (dVar 7) (dVar 9)))) (dBin dNe (dBin dIx (dVar 7) (dBin dIx (dBin dIx (dVar 5) (dVar 8)) (dVar 9))) (dBin dIx (dBin dIx (dVar 5) (dBin dIx (dVar 7) (dVar 8))) (dBin dIx (dVar 7) (dVar 9))))))) (sNx)) (sRet (dBin dNe (dBin dIx (dVar 2) (dBin dIx (dBin dIx (dVar 4) (dBin dIx (dVar 3) (dC (.int 1)))) (dBin dIx (dVar 3) (dC (.int 2))))) (dCallF 2 S__law_joined (aCons (dBin dIx (dVar 2) (dBin dIx (dVar 3) (dC (.int 1)))) (aCons (dBin dIx (dVar 2) (dBin dIx (dVar 3) (dC (.int 2)))) (aNil)))))))
abbrev N_is_join_paper : List Str := ["one", "other", "acts", "value", "_", "a", "x", "y"]
abbrev P_is_join_paper : List Str := ["one", "other", "acts", "value"]
def g_is_join_paper : DS := sSeq (sEx (dCallF 3 S__check_acts (aCons (dVar 0) (aCons (dVar 1) (aCons (dVar 2) (aNil)))))) (sSeq (sIf (dTAnd (dTst (dIsi "tuple" (dVar 3))) (dTAnd (dTst (dBin dEq (dCall dLen (aCons (dVar 3) (aNil))) (dC (.int 4)))) (dTst (dCallF 2 S_is_same (aCons (dBin dIx (dVar 3) (dC (.int 0))) (aCons (dC (.str "likeness")) (aNil))))))) (sSeq (sAsg (dVar 3) (gTp 4 (gsCons (gNm 4) (gsCons (gNm 5) (gsCons (gNm 6) (gsCons (gNm 7) (gsNil))))))) (sSeq (sIf (dTOr (dTNot (dTst (dCallF 2 S_is_thing (aCons (dVar 5) (aCons (dLenI "Double" S_Double____len__ (dVar 0)) (aNil)))))) (dTNot (dTst (dCallF 3 S_is_row (aCons (dTup (aCons (dVar 6) (aCons (dVar 7) (aNil)))) (aCons (dC (.int 2)) (aCons (dLenI "Double" S_Double____len__ (dVar 1)) (aNil)))))))) (sRet (dC (.bool false))) (sNx)) (sRet (dCallF 4 S__breaks_likeness (aCons (dVar 1) (aCons (dBin dIx (dVar 2) (dVar 5)) (aCons (dVar 6) (aCons (dVar 7) (aNil))))))))) (sNx)) (sSeq (sIf (dTst (dCallF 4 S_is_told (aCons (dVar 3) (aCons (dC (.str "joined")) (aCons (dC (.int 2)) (aCons (dLenI "Double" S_Double____len__ (dVar 0)) (aNil))))))) (sRet (dCallF 4 S__breaks_joined (aCons (dVar 0) (aCons (dVar 2) (aCons (dBin dIx (dVar 3) (dC (.int 1))) (aCons (dBin dIx (dVar 3) (dC (.int 2))) (aNil))))))) (sNx)) (sRet (dAnd (dCallF 2 S_is_same (aCons (dVar 3) (aCons (dTup (aCons (dC (.str "join")) (aNil))) (aNil)))) (dBin dEq (dCallF 3 S_join_paper (aCons (dVar 0) (aCons (dVar 1) (aCons (dVar 2) (aNil))))) (dTup (aCons (dC (.str "join")) (aNil))))))))
abbrev N__check_acts : List Str := ["one", "other", "acts", "act"]
abbrev P__check_acts : List Str := ["one", "other", "acts"]
def g__check_acts : DS := sSeq (sEx (dCallF 1 S_check_double (aCons (dVar 0) (aNil)))) (sSeq (sEx (dCallF 1 S_check_double (aCons (dVar 1) (aNil)))) (sSeq (sIf (dTOr (dTNot (dTst (dIsi "tuple" (dVar 2)))) (dTst (dBin dNe (dCall dLen (aCons (dVar 2) (aNil))) (dLenI "Double" S_Double____len__ (dVar 0))))) (sNever) (sNx)) (sIf (dTNot (dTst (dCall dAll (aCons (dOfL (lLc (iSq (dVar 2)) (gNm 3) (dYes) (dCallF 2 S_is_move_of (aCons (dVar 3) (aCons (dLenI "Double" S_Double____len__ (dVar 1)) (aNil)))) [3])) (aNil))))) (sNever) (sNx))))
abbrev N_check_double : List Str := ["value"]
abbrev P_check_double : List Str := ["value"]
def g_check_double : DS := sIf (dTNot (dTst (dIsC ["Group"] "Double" (dVar 0)))) (sNever) (sNx)
abbrev N__breaks_likeness : List Str := ["double", "act", "x", "y", "plus", "circle"]
abbrev P__breaks_likeness : List Str := ["double", "act", "x", "y"]
def g__breaks_likeness : DS := sSeq (sPar 4 5 (xIm (dProp "Group" S_Group__rows (dProp "Double" S_Double__plus (dVar 0)))) (xIm (dProp "Group" S_Group__rows (dProp "Double" S_Double__circle (dVar 0))))) (sRet (dOr (dBin dNe (dBin dIx (dVar 1) (dBin dIx (dBin dIx (dVar 4) (dVar 2)) (dVar 3))) (dBin dIx (dBin dIx (dVar 4) (dBin dIx (dVar 1) (dVar 2))) (dBin dIx (dVar 1) (dVar 3)))) (dBin dNe (dBin dIx (dVar 1) (dBin dIx (dBin dIx (dVar 5) (dVar 2)) (dVar 3))) (dBin dIx (dBin dIx (dVar 5) (dBin dIx (dVar 1) (dVar 2))) (dBin dIx (dVar 1) (dVar 3))))))
abbrev N__breaks_joined : List Str := ["double", "acts", "a", "b"]
abbrev P__breaks_joined : List Str := ["double", "acts", "a", "b"]
def g__breaks_joined : DS := sRet (dBin dNe (dBin dIx (dVar 1) (dBin dIx (dBin dIx (dProp "Group" S_Group__rows (dProp "Double" S_Double__circle (dVar 0))) (dVar 2)) (dVar 3))) (dCallF 2 S_joined_moves (aCons (dBin dIx (dVar 1) (dVar 2)) (aCons (dBin dIx (dVar 1) (dVar 3)) (aNil)))))
abbrev N_join_paper : List Str := ["one", "other", "acts", "a", "act", "things", "b"]
abbrev P_join_paper : List Str := ["one", "other", "acts"]
def g_join_paper : DS := sSeq (sEx (dCallF 3 S__check_acts (aCons (dVar 0) (aCons (dVar 1) (aCons (dVar 2) (aNil)))))) (sSeq (sFor (iEn (dVar 2)) (gTp 2 (gsCons (gNm 3) (gsCons (gNm 4) (gsNil)))) (sSeq (sSet 5 (xIm (dCallF 2 S__broken_likeness (aCons (dVar 1) (aCons (dVar 4) (aNil)))))) (sIf (dTst (dBin dIsNot (dVar 5) (dC .none))) (sRet (dBin dAdd (dTup (aCons (dC (.str "likeness")) (aCons (dVar 3) (aNil)))) (dVar 5))) (sNx)))) (sSeq (sFor (iR1 (dLenI "Double" S_Double____len__ (dVar 0))) (gNm 3) (sFor (iR1 (dLenI "Double" S_Double____len__ (dVar 0))) (gNm 6) (sIf (dTst (dCallF 4 S__breaks_joined (aCons (dVar 0) (aCons (dVar 2) (aCons (dVar 3) (aCons (dVar 6) (aNil))))))) (sRet (dTup (aCons (dC (.str "joined")) (aCons (dVar 3) (aCons (dVar 6) (aNil)))))) (sNx)))) (sRet (dTup (aCons (dC (.str "join")) (aNil))))))
abbrev N__broken_likeness : List Str := ["double", "act", "x", "y"]
abbrev P__broken_likeness : List Str := ["double", "act"]
def g__broken_likeness : DS := sSeq (sFor (iR1 (dLenI "Double" S_Double____len__ (dVar 0))) (gNm 2) (sFor (iR1 (dLenI "Double" S_Double____len__ (dVar 0))) (gNm 3) (sIf (dTst (dCallF 4 S__breaks_likeness (aCons (dVar 0) (aCons (dVar 1) (aCons (dVar 2) (aCons (dVar 3) (aNil))))))) (sRet (dTup (aCons (dVar 2) (aCons (dVar 3) (aNil))))) (sNx)))) (sRet (dC .none))
abbrev N__law_drawn_paper : List Str := ["_law_dice_here", "_law_one", "_law_other", "_law_a", "_law_b", "_law_x", "_law_y"]
abbrev P__law_drawn_paper : List Str := ["_law_dice_here", "_law_one", "_law_other"]
def g__law_drawn_paper : DS := sSeq (sPar 3 4 (xIm (dCallM 0 2 S__law_roll (aCons (dCall dLen (aCons (dBin dIx (dVar 1) (dC (.int 0))) (aNil))) (aNil)))) (xIm (dCallM 0 2 S__law_roll (aCons (dCall dLen (aCons (dBin dIx (dVar 1) (dC (.int 0))) (aNil))) (aNil))))) (sSeq (sPar 5 6 (xIm (dCallM 0 2 S__law_roll (aCons (dCall dLen (aCons (dBin dIx (dVar 2) (dC (.int 0))) (aNil))) (aNil)))) (xIm (dCallM 0 2 S__law_roll (aCons (dCall dLen (aCons (dBin dIx (dVar 2) (dC (.int 0))) (aNil))) (aNil))))) (sRet (dCallM 0 2 S__law_pick (aCons (dOfL (lLst (aCons (dTup (aCons (dC (.str "likeness")) (aCons (dVar 3) (aCons (dVar 5) (aCons (dVar 6) (aNil)))))) (aCons (dTup (aCons (dC (.str "joined")) (aCons (dVar 3) (aCons (dVar 4) (aNil))))) (aNil))))) (aNil)))))
abbrev N__law_quaternion_rows : List Str := ["_law_times", "_law_found", "_law_a", "_law_row", "_law_b", "_law_line", "_law_goal"]
abbrev P__law_quaternion_rows : List Str := []
abbrev N__law_idle : List Str := ["_law_size"]
abbrev P__law_idle : List Str := ["_law_size"]
def g__law_idle : DS := sRet (dTRg (rg1 (dVar 0)))
end Dn.T.G.B.K37.K84
set_option Elab.async false
set_option linter.all false
set_option maxRecDepth 100000
set_option autoImplicit false
set_option maxHeartbeats 4000000
namespace Dn.T.G.B.K66
open PySem L2 Evl PySem.Spec PyProof.Rows
def ck (n : Nat) (p : F1) (u : Int) (t : F1) (a : Int) : Int := (backOf (tab n (ciF p t)) u a).getD 0
def bL (n : Nat) (p t : F1) (a b : Int) : List Int := (rgI n).map fun x => p a (ciF p t b x)
def bR (n : Nat) (p : F1) (u : Int) (t : F1) (a b : Int) : List Int := (rgI n).map fun x => ciF p t (ciF p t (p a b) (ck n p u t a)) (p a x)
def df (xs ys : List Int) : List Int := (rgI xs.length).filter fun i => !decide (xs.getD i.toNat 0 = ys.getD i.toNat 0)
def apI (n : Nat) (p : F1) (u : Int) (t : F1) (a : Int) : List (Int × Int) := (rgI n).flatMap fun b => (df (bL n p t a b) (bR n p u t a b)).map fun c => (b, c)
def AP (n : Nat) (p : F1) (u : Int) (t : F1) : List (Int × Int × Int) := (rgI n).flatMap fun a => (apI n p u t a).map fun y => (a, y)
def wyD : List (Int × Int × Int) → D
  | [] => .tuple [.str "both"]
  | x :: _ => .tuple [.str "apart", .int x.1, .int x.2.1, .int x.2.2]
def S_check_double (ds : List D) (Q : D → Prop) : Prop := ∃ n p u t, ds = [dblD n p u t] ∧ Q .none
def S_both_ways_paper (ds : List D) (Q : D → Prop) : Prop := ∃ n p u t, ds = [dblD n p u t] ∧ D24 n p u t ∧ Q (wyD (AP n p u t))
def S__law_ways_fault (ds : List D) (Q : D → Prop) : Prop := ∃ n p u t, ds = [tR (tab n p), tR (tab n (ciF p t))] ∧ D24 n p u t ∧ Q (wyD (AP n p u t))
def apB (n : Nat) (p : F1) (u : Int) (t : F1) (d : D) : Bool := isTold "apart" 3 n d && (match d with | .tuple [_, .int a, .int b, .int c] => !decide (p a (ciF p t b c) = ciF p t (ciF p t (p a b) (ck n p u t a)) (p a c)) | _ => false)
def dueB (n : Nat) (p : F1) (u : Int) (t : F1) (d : D) : Bool := if isTold "apart" 3 n d = true then apB n p u t d else isTup1 "both" d && decide (AP n p u t = [])
def S_is_both_ways_paper (ds : List D) (Q : D → Prop) : Prop := ∃ n p u t d, ds = [dblD n p u t, d] ∧ D24 n p u t ∧ okV d ∧ Q (.bool (dueB n p u t d))
def Sc : D → Prop
  | .str s => PyData.strOk s = true
  | .int _ => True
  | .bool _ => True
  | _ => False
def VC (d : D) : Prop := d = .none ∨ (∃ k : Int, d = .int k) ∨ d = .str "both" ∨ d = .dict [] ∨ (∃ xs, d = .list xs ∧ (∀ x, x ∈ xs → Sc x) ∧ xs.length ≤ 8) ∨ ∃ xs, d = .tuple xs ∧ (∀ x, x ∈ xs → Sc x) ∧ xs.length ≤ 8
def S__law_is_apart (ds : List D) (Q : D → Prop) : Prop := ∃ n p u t d, ds = [tR (tab n p), tR (tab n (ciF p t)), d] ∧ D24 n p u t ∧ VC d ∧ Q (.bool (apB n p u t d))
def S__law_values (ms ds : List D) (Q : D → List D → Prop) : Prop := ∃ (n : Nat) (l : List (Int × Int × Int)), ds = [.int n, wyD l] ∧ 1 ≤ n ∧ n ≤ 24 ∧ Dc ms ∧ ∀ (L : List D) ms', L.length ≤ 100 → (∀ d, d ∈ L → VC d) → Dc ms' → Q (.list L) ms'
def S_swapped (ds : List D) (Q : D → Prop) : Prop := ∃ n p u t, ds = [dblD n p u t] ∧ D24 n p u t ∧ AP n p u t = [] ∧ ∀ q s, Db n q u s → AP n q u s = [] → (∀ x y, In n x → In n y → q x y = ciF p t x y) → (∀ x y, In n x → In n y → ciF q s x y = p x y) → Q (dblD n q u s)
def S__law_swapped (ds : List D) (Q : D → Prop) : Prop := ∃ n p u t, ds = [dblD n p u t] ∧ D24 n p u t ∧ (AP n p u t = [] → ∀ q s, Db n q u s → AP n q u s = [] → (∀ x y, In n x → In n y → q x y = ciF p t x y) → (∀ x y, In n x → In n y → ciF q s x y = p x y) → Q (dblD n q u s)) ∧ (AP n p u t ≠ [] → Q (.tuple [.str "refused", wyD (AP n p u t)]))
def st (n : Nat) (p : F1) (u : Int) (t : F1) : F1 := fun a b => p (t a b) ((backOf (tab n p) u b).getD 0)
def Comm (n : Nat) (p : F1) : Prop := ∀ a b, In n a → In n b → p a b = p b a
def Adds (n : Nat) (p s : F1) : Prop := ∀ a b c, In n a → In n b → In n c → s (p a b) c = p (s a c) (s b c)
def S_ring_paper (ds : List D) (Q : D → Prop) : Prop := ∃ n p u t, ds = [dblD n p u t] ∧ D24 n p u t ∧ (Comm n p → Adds n p (st n p u t) → Q (.tuple [.str "ring"])) ∧ ∀ (s : Str) (xs : List Int), PyData.strOk s = true → s ≠ "ring" → xs.length ≤ 8 → Q (.tuple (.str s :: xs.map PyData.int))
def trip (n : Nat) (p : F1) (u : Int) (t : F1) : Bool := (rgI n).all fun a => (rgI n).all fun b => (rgI n).all fun c => decide (st n p u t a (st n p u t b c) = u)
def S__law_triple_stars (ds : List D) (Q : D → Prop) : Prop := ∃ n p u t, ds = [tR (tab n p), tL (tab n t)] ∧ D24 n p u t ∧ Q (.bool (trip n p u t))
def S__law_circle (ds : List D) (Q : D → Prop) : Prop := ∃ n p u t, ds = [tR (tab n p), tL (tab n t)] ∧ D24 n p u t ∧ Q (tR (tab n (ciF p t)))
def S__law_right (ms ds : List D) (Q : D → List D → Prop) : Prop := ∃ m : Nat, ds = [.int m] ∧ (m = 8 ∨ m = 6) ∧ Dc ms ∧ ∀ ms', Dc ms' → Q (.bool true) ms'
def S_law (ds : List D) (Q : D → Prop) : Prop := ∃ s, ds = [scr s] ∧ s.length ≤ 63 ∧ Q (.bool true)
end Dn.T.G.B.K66
set_option Elab.async false
set_option linter.all false
set_option maxRecDepth 100000
set_option autoImplicit false
set_option maxHeartbeats 4000000
namespace Dn.T.G.B.K66
open PySem L2 Evl PySem.Spec PyProof.Rows
abbrev N_law : List Str := ["_law_script", "_law_spot", "_law_dice_here"]
abbrev P_law : List Str := ["_law_script"]
def g_law : DS := sSeq (sFor (iR1 (dCall dMax2 (aCons (dC (.int 1)) (aCons (dCall dMin2 (aCons (dC (.int 3)) (aCons (dCall dLen (aCons (dVar 0) (aNil))) (aNil)))) (aNil))))) (gNm 1) (sSeq (sSet 2 (xOw (lCall 2 S__law_dice (aCons (dVar 0) (aCons (dVar 1) (aNil)))))) (sIf (dTOr (dTNot (dTst (dCallM 2 2 S__law_right (aCons (dC (.int 8)) (aNil))))) (dTOr (dTNot (dTst (dCallM 2 2 S__law_right (aCons (dC (.int 8)) (aNil))))) (dTNot (dTst (dCallM 2 2 S__law_right (aCons (dC (.int 6)) (aNil))))))) (sRet (dC (.bool false))) (sNx)))) (sRet (dC (.bool true)))
abbrev N__law_right : List Str := ["_law_dice_here", "_law_most", "_law_plus", "_law_turns", "_law_rows", "_law_size", "_law_circle_here", "_law_double_here", "_law_due", "_law_value", "_law_told", "_law_is_paper", "_law_goes", "_law_a", "_law_b"]
abbrev P__law_right : List Str := ["_law_dice_here", "_law_most"]
def g__law_right : DS := sSeq (sAsg (dCallM 0 2 S__law_double (aCons (dVar 1) (aNil))) (gTpL 2 (gsCons (gNm 2) (gsCons (gNm 3) (gsNil))))) (sSeq (sIf (dTst (dBin dEq (dCallM 0 2 S__law_roll (aCons (dC (.int 4)) (aNil))) (dC (.int 0)))) (sSeq (sSet 4 (xIm (dCallM 0 2 S__law_group_rows (aCons (dVar 1) (aNil))))) (sAsg (dCallM 0 2 S__law_pick (aCons (dOfL (lLst (aCons (dCallF 1 S__law_plain_double (aCons (dVar 4) (aNil))) (aCons (dCallF 1 S__law_about_double (aCons (dVar 4) (aNil))) (aNil))))) (aNil))) (gTpL 2 (gsCons (gNm 2) (gsCons (gNm 3) (gsNil)))))) (sNx)) (sSeq (sPar 5 6 (xIm (dCall dLen (aCons (dVar 2) (aNil)))) (xIm (dCallF 2 S__law_circle (aCons (dVar 2) (aCons (dVar 3) (aNil)))))) (sSeq (sPar 7 8 (xIm (dNew 3 "Double" S_Double____init__ (aCons (dNew 2 "Group" S_Group____init__ (aCons (dVar 2) (aNil))) (aCons (dNew 2 "Group" S_Group____init__ (aCons (dVar 6) (aNil))) (aNil))))) (xIm (dCallF 2 S__law_ways_fault (aCons (dVar 2) (aCons (dVar 6) (aNil)))))) (sSeq (sIf (dTst (dBin dNe (dCallF 1 S_both_ways_paper (aCons (dVar 7) (aNil))) (dVar 8))) (sRet (dC (.bool false))) (sNx)) (sSeq (sFor (iSq (dCallM 0 3 S__law_values (aCons (dVar 5) (aCons (dVar 8) (aNil))))) (gNm 9) (sSeq (sSet 10 (xIm (dCallF 2 S_is_both_ways_paper (aCons (dVar 7) (aCons (dVar 9) (aNil)))))) (sSeq (sSet 11 (xIm (dIfE (dTst (dBin dEqX (dVar 9) (dTup (aCons (dC (.str "both")) (aNil))))) (dBin dEq (dVar 8) (dTup (aCons (dC (.str "both")) (aNil)))) (dCallF 3 S__law_is_apart (aCons (dVar 2) (aCons (dVar 6) (aCons (dVar 9) (aNil)))))))) (sIf (dTOr (dTNot (dTst (dIsi "bool" (dVar 10)))) (dTst (dBin dNe (dVar 10) (dVar 11)))) (sRet (dC (.bool false))) (sNx))))) (sSeq (sSet 12 (xOw (lLst (aNil)))) (sSeq (sFor (iR1 (dVar 5)) (gNm 13) (sEx (dExt 12 (dOfL (lLc (iR1 (dVar 5)) (gNm 14) (dYes) (dBin dEq (dBin dIx (dVar 3) (dBin dIx (dBin dIx (dVar 2) (dVar 13)) (dVar 14))) (dCallF 2 S__law_joined (aCons (dBin dIx (dVar 3) (dVar 14)) (aCons (dBin dIx (dVar 3) (dVar 13)) (aNil))))) [14]))))) (sSeq (sSet 10 (xIm (dCallF 1 S__law_swapped (aCons (dVar 7) (aNil))))) (sSeq (sIf (dTst (dBin dNe (dCallO 12 dAll) (dBin dEq (dVar 8) (dTup (aCons (dC (.str "both")) (aNil)))))) (sRet (dC (.bool false))) (sNx)) (sSeq (sIf (dTAnd (dTst (dBin dEq (dCallF 1 S_ring_paper (aCons (dVar 7) (aNil))) (dTup (aCons (dC (.str "ring")) (aNil))))) (dTst (dBin dNe (dCallF 2 S__law_triple_stars (aCons (dVar 2) (aCons (dVar 3) (aNil)))) (dBin dEq (dVar 8) (dTup (aCons (dC (.str "both")) (aNil))))))) (sRet (dC (.bool false))) (sNx)) (sSeq (sIf (dTst (dBin dNe (dVar 8) (dTup (aCons (dC (.str "both")) (aNil))))) (sRet (dBin dEq (dVar 10) (dTup (aCons (dC (.str "refused")) (aCons (dVar 8) (aNil)))))) (sNx)) (sRet (dAnd (dBin dEq (dProp "Group" S_Group__rows (dProp "Double" S_Double__plus (dVar 10))) (dVar 6)) (dAnd (dBin dEq (dProp "Group" S_Group__rows (dProp "Double" S_Double__circle (dVar 10))) (dVar 2)) (dEqI ["Group"] "Double" S_Double____eq__ false (dCallF 1 S_swapped (aCons (dVar 10) (aNil))) (dVar 7))))))))))))))))
abbrev N_check_double : List Str := ["value"]
abbrev P_check_double : List Str := ["value"]
def g_check_double : DS := sIf (dTNot (dTst (dIsC ["Group"] "Double" (dVar 0)))) (sNever) (sNx)
end Dn.T.G.B.K66
set_option Elab.async false
set_option linter.all false
set_option maxRecDepth 100000
set_option autoImplicit false
set_option maxHeartbeats 4000000
namespace Dn.T.G.B.K66
open PySem L2 Evl PySem.Spec PyProof.Rows
local macro_rules | `(tactic| walk_at "dd") => `(tactic| simp only [sSeq, sIf, sSet, sRet, sRetN, sNx, sEx, sAsg, sPar, dTOr, dTAnd, dTNot, dTst, dIsi, dVar, dC, dBin, dChain, dNeg, dI2, dAnd, dOr, dNot, dIfE, dCall, dCallF, aCons, aNil, dTup, lLst, dOfL, xIm, xOw, gNm, gTp, gsCons, gsNil, dYes, envD, dLen_tR, dLen_tI, dLen_tup, dLen_lst, seq_tR, seq_tI, seq_tup, seq_lst, dIs, dIsNot, dNe, dEq, dTupOf, dSl, oNone, oSome, iSq, iEn, iR1, iR2, sFor, lLc, sNever, dTRg, rg1, rg2, lRg, wipeD, isN,
  gTpL, dIxP, sSub, dApp, dPopAt, dExt, dCallM, dCallO, dBinO, dTupO, lOf, lOfO, sRetO, iOw, dVarF, lCat, lCall, dAbs, dMax2, dMin2, dInt, atO, setO, MO.getL, MO.putL, Option.isSome_some,
  dInK, dGetK, dGetD, dInD, dGet1, lKeys, lSort, dLenSet, dLenSetL, dLenSet2, sPar3, dRevT, sPutK, xDct, xDct1, sRetK, atK, keyD, sAugI, dFld, sFldD, xRng, iRgO, dNew, dNewV, dCM, dProp, dMeth, dLenI, dStrO, dEqI, dIsC, dJoin, dJs, dFmt, dCallML, sSubI, gSubW, sWh, dTF, gIx, xProp, dRepU, dKeep2, lSortSet, lSortTu, lDc, dRepT, lRep, dStrI, xDctT1, xDctOf, dInT, sPutT, lSortT2, lSortDT, dPop, dBinR, dKeep, dCallMO, atT, dCallO,
  kit_int, kit_bool, kit_tuple, kit_str, List.map_cons, List.map_nil, List.cons_append, List.nil_append, List.replicate, List.set_cons_zero, List.set_cons_succ, List.getElem?_cons_zero, List.getElem?_cons_succ, List.length_cons, List.length_nil, List.length_map, Nat.reduceAdd, Nat.reduceSub, Bool.not_true, Bool.not_false, Bool.false_eq_true, if_true, if_false, true_and, reduceCtorEq, Bool.true_eq_false, rgD_rgI, Option.some.injEq, exists_eq_left', and_true])
theorem v__law_circle : VD g__law_circle S__law_circle 2 2 := fun ds Q _ h => by
  obtain ⟨n, p, u, t, rfl, hd, h⟩ := h
  have g := hd.1.gr
  have hn := hd.2
  unfold g__law_circle
  walk_at "dd"
  rw [tab_len]
  refine ⟨rgd (by omega), ?_⟩
  try rw [rgD_rgI]
  refine wpLc_mapL (rgI n) PyData.int (fun a => tI ((rgI n).map (ciF p t a))) (by rw [rgI_len]; omega) rfl (fun a ha K hK => ?_) (fun _ => rfl) ?_
  · have ha := In.mem.1 ha
    try walk_at "dd"
    rw [tab_len]
    refine ⟨rgd (by omega), ?_⟩
    try rw [rgD_rgI]
    refine wpLc_mapL (rgI n) PyData.int (fun b => .int (ciF p t a b)) (by rw [rgI_len]; omega) rfl (fun b hb K2 hK2 => ?_) (fun _ => rfl) ?_
    · have hb := In.mem.1 hb
      try walk_at "dd"
      exact ixTR ha (ixT ha (ixY hb (ixY (hd.1.tin a b ha hb) (hK2 _ rfl))))
    · try walk_at "dd"
      rw [tI_map]
      exact hK _ rfl
  · try walk_at "dd"
    rw [show PyData.tuple ((rgI n).map fun a => tI ((rgI n).map (ciF p t a))) = tR (tab n (ciF p t)) from by unfold tR tab; rw [List.map_map]; rfl]
    exact h
theorem v_check_double : VD g_check_double S_check_double 1 0 := fun ds Q _ h => by
  obtain ⟨n, p, u, t, rfl, h⟩ := h
  unfold g_check_double
  walk_at "dd"
  exact ⟨true, cls_dbl, h⟩
end Dn.T.G.B.K66
set_option Elab.async false
set_option linter.all false
set_option maxRecDepth 100000
set_option autoImplicit false
set_option maxHeartbeats 4000000
namespace Dn.T.G.B.K66
open PySem L2 Evl PySem.Spec PyProof.Rows
theorem sc_lay {x : D} (h : Sc x) : x.canLay0 = true ∧ x.depth = 0 := by
  cases x with
  | str s => exact ⟨h, rfl⟩
  | int i => exact ⟨rfl, rfl⟩
  | bool b => exact ⟨rfl, rfl⟩
  | _ => exact h.elim
theorem sc_all : ∀ l : List D, (∀ x, x ∈ l → Sc x) → PyData.canLayAll0 l = true ∧ PyData.depthAll l = 0
  | [], _ => ⟨rfl, rfl⟩
  | y :: r, hh => by
    obtain ⟨a, b⟩ := sc_all r fun x hx => hh x (by simp [hx])
    obtain ⟨c, d⟩ := sc_lay (hh y (by simp))
    exact ⟨by rw [PyData.canLayAll0, c, a]; rfl, by rw [PyData.depthAll, d, b]; rfl⟩
theorem sc_sh1 {x : D} (h : Sc x) : SeqAt.shaped x = true := by
  obtain ⟨a, b⟩ := sc_lay h
  unfold SeqAt.shaped
  rw [a, b]
  rfl
theorem sc_sh {l : List D} (h : ∀ x, x ∈ l → Sc x) : SeqAt.shaped (.tuple l) = true := by
  obtain ⟨a, b⟩ := sc_all l h
  unfold SeqAt.shaped
  rw [PyData.canLay0, a, PyData.depth, b]
  rfl
theorem sc_shl {l : List D} (h : ∀ x, x ∈ l → Sc x) : SeqAt.shaped (.list l) = true := by
  obtain ⟨a, b⟩ := sc_all l h
  unfold SeqAt.shaped
  rw [PyData.canLay0, a, PyData.depth, b]
  rfl
theorem wpLc_mapL' {g : DG} {tt : DT} {te : DE} {vs : List Nat} {Q : List D → Env → Prop} (l : List D) (h : D → D) {ρ0 : Env} (hl : l.length < 16777216) (hw : wipeD ρ0 vs = ρ0)
    (hs : ∀ x, x ∈ l → ∀ (K : D → Env → Prop), (∀ ρ3, wipeD ρ3 vs = ρ0 → K (h x) ρ3) → g x ρ0 fun ρ1 => tt ρ1 fun b ρ2 => if b = true then te ρ2 fun y ρ3 => K y ρ3 else False)
    (hf : ∀ ρ1, tt ρ1 = fun K => K true ρ1) (he : Q (l.map h) ρ0) : wpLc g tt te vs Q l [] ρ0 := by
  have := wpLc_mapL (g := g) (tt := tt) (te := te) (vs := vs) (Q := Q) l (fun x => x) h hl hw hs hf he
  rwa [List.map_id'] at this
theorem thIn {n : Nat} {x : Int} (h : isTh n (.int x) = true) : In n x := by
  simp only [isTh, Bool.and_eq_true, decide_eq_true_eq] at h
  exact h.2
end Dn.T.G.B.K66
set_option Elab.async false
set_option linter.all false
set_option maxRecDepth 100000
set_option autoImplicit false
set_option maxHeartbeats 4000000
namespace Dn.T.G.B.K66
open PySem L2 Evl PySem.Spec PyProof.Rows
theorem scn : ∀ x, x ∈ ([] : List D) → Sc x := fun _ h => by cases h
theorem scc {x : D} {xs : List D} (h : Sc x) (hs : ∀ y, y ∈ xs → Sc y) : ∀ y, y ∈ x :: xs → Sc y := fun y hy => (List.mem_cons.mp hy).elim (fun e => by rw [e]; exact h) (hs y)
theorem sA : Sc (.str "apart") := by show PyData.strOk ("apart" : Str) = true; decide +kernel
theorem sB : Sc (.str "both") := by show PyData.strOk ("both" : Str) = true; decide +kernel
theorem s1 : Sc (.str "1") := by show PyData.strOk ("1" : Str) = true; decide +kernel
end Dn.T.G.B.K66
set_option Elab.async false
set_option linter.all false
set_option maxRecDepth 100000
set_option autoImplicit false
set_option maxHeartbeats 4000000
namespace Dn.T.G.B.K37.K84
open PySem L2 Evl PySem.Spec PyProof.Rows
local macro_rules | `(tactic| walk_at "dd") => `(tactic| simp only [sSeq, sIf, sSet, sRet, sRetN, sNx, sEx, sAsg, sPar, dTOr, dTAnd, dTNot, dTst, dIsi, dVar, dC, dBin, dChain, dNeg, dI2, dAnd, dOr, dNot, dIfE, dCall, dCallF, aCons, aNil, dTup, lLst, dOfL, xIm, xOw, gNm, gTp, gsCons, gsNil, dYes, envD, dLen_tR, dLen_tI, dLen_tup, dLen_lst, seq_tR, seq_tI, seq_tup, seq_lst, dIs, dIsNot, dNe, dEq, dTupOf, dSl, oNone, oSome, iSq, iEn, iR1, iR2, sFor, lLc, sNever, dTRg, rg1, rg2, lRg, wipeD, isN,
  gTpL, dIxP, sSub, dApp, dPopAt, dExt, dCallM, dCallO, dBinO, dTupO, lOf, lOfO, sRetO, iOw, dVarF, lCat, lCall, dAbs, dMax2, dMin2, dInt, atO, setO, MO.getL, MO.putL, Option.isSome_some,
  dInK, dGetK, dGetD, dInD, dGet1, lKeys, lSort, dLenSet, dLenSetL, dLenSet2, sPar3, dRevT, sPutK, xDct, xDct1, sRetK, atK, keyD, sAugI, dFld, sFldD, xRng, iRgO, dNew, dNewV, dCM, dProp, dMeth, dLenI, dStrO, dEqI, dIsC, dJoin, dJs, dFmt, dCallML, sSubI, gSubW, sWh, dTF, gIx, xProp, iZpM, dRepU, dKeep2, lSortSet, lSortTu, lDc, dRepT, lRep, dStrI, xDctT1, xDctOf, dInT, sPutT, lSortT2, lSortDT, dPop, dBinR, dKeep, dCallMO, atT, dCallO,
  kit_int, kit_bool, kit_tuple, kit_str, List.map_cons, List.map_nil, List.cons_append, List.nil_append, List.replicate, List.set_cons_zero, List.set_cons_succ, List.getElem?_cons_zero, List.getElem?_cons_succ, List.length_cons, List.length_nil, List.length_map, Nat.reduceAdd, Nat.reduceSub, Bool.not_true, Bool.not_false, Bool.false_eq_true, if_true, if_false, true_and, reduceCtorEq, Bool.true_eq_false, rgD_rgI, Option.some.injEq, exists_eq_left', and_true])
theorem kp_true {n : Nat} {p t : F1} {m : List Int} (h : ∀ x y, In n x → In n y → BL p t m x y = false) : kp n p t m = true := by
  unfold kp
  rw [List.all_eq_true]
  intro x hx
  rw [List.all_eq_true]
  intro y hy
  rw [h x y (In.mem.1 hx) (In.mem.1 hy)]
  rfl
theorem kp_false {n : Nat} {p t : F1} {m : List Int} {x y : Int} (hx : In n x) (hy : In n y) (h : BL p t m x y = true) : kp n p t m = false := by
  cases e : kp n p t m with
  | false => rfl
  | true =>
    unfold kp at e
    rw [List.all_eq_true] at e
    have e2 := e x (In.mem.2 hx)
    rw [List.all_eq_true] at e2
    have e3 := e2 y (In.mem.2 hy)
    rw [h] at e3
    cases e3
theorem wJ_true {k : Nat} {q s : F1} {A : List (List Int)} (h : ∀ a b, In k a → In k b → BJ q s A a b = false) : wJ k q s A = true := by
  unfold wJ
  rw [List.all_eq_true]
  intro x hx
  rw [List.all_eq_true]
  intro y hy
  rw [h x y (In.mem.1 hx) (In.mem.1 hy)]
  rfl
theorem wJ_false {k : Nat} {q s : F1} {A : List (List Int)} {a b : Int} (hx : In k a) (hy : In k b) (h : BJ q s A a b = true) : wJ k q s A = false := by
  cases e : wJ k q s A with
  | false => rfl
  | true =>
    unfold wJ at e
    rw [List.all_eq_true] at e
    have e2 := e a (In.mem.2 hx)
    rw [List.all_eq_true] at e2
    have e3 := e2 b (In.mem.2 hy)
    rw [h] at e3
    cases e3
theorem Ac.row {n k : Nat} {A : List (List Int)} (h : Ac n k A) {a : Int} (ha : In k a) : Mv n (row A a) := h.2 _ (getD_mem (by rw [h.1]; have := ha.1; have := ha.2; omega))
theorem ixA {n k : Nat} {A : List (List Int)} (h : Ac n k A) {a : Int} {Q : D → Prop} (ha : In k a) (q : Q (tI (row A a))) : dIx (tR A) (.int a) Q := ixR ha.1 (by rw [h.1]; exact ha.2) q
theorem v_check_double : VD g_check_double S_check_double 1 0 := fun ds Q _ h => by
  obtain ⟨n, p, u, t, rfl, h⟩ := h
  unfold g_check_double
  walk_at "dd"
  exact ⟨true, cls_dbl, h⟩
theorem v__law_idle : VD g__law_idle S__law_idle 1 0 := fun ds Q _ h => by
  obtain ⟨n, rfl, hn, h⟩ := h
  unfold g__law_idle
  walk_at "dd"
  refine ⟨rgd (by omega), ?_⟩
  try rw [rgD_rgI]
  exact h
theorem v__check_acts : VD g__check_acts S__check_acts 3 1 := fun ds Q _ h => by
  obtain ⟨k, q, v, s, n, p, u, t, A, rfl, hk, hn, hA, h⟩ := h
  unfold g__check_acts
  walk_at "dd"
  refine ⟨k, q, v, s, rfl, n, p, u, t, rfl, ?_⟩
  try walk_at "dd"
  show if (!true) = true then False else _
  rw [if_neg (by decide)]
  refine ⟨⟨_, rfl⟩, k, q, v, s, rfl, k, rfl, by omega, ?_⟩
  try walk_at "dd"
  refine ⟨rfl, rfl, ?_⟩
  rw [hA.1, eqv_int, decide_eq_true rfl, if_neg (by decide)]
  refine wpLc_mapL A tI (fun _ => .bool true) (by rw [hA.1]; omega) rfl (fun r hr K hK => ?_) (fun _ => rfl) ?_
  · try walk_at "dd"
    refine ⟨⟨_, rfl⟩, n, p, u, t, rfl, n, rfl, by omega, _, _, rfl, ?_⟩
    rw [(move_perm (hA.2 r hr) (by omega)).2]
    exact hK _ rfl
  · refine ⟨A.map fun _ => true, by rw [List.map_map]; rfl, ?_⟩
    rw [show (A.map fun _ => true).all id = true from by simp]
    try walk_at "dd"
    exact h
theorem v__law_circle_of : VD g__law_circle_of S__law_circle_of 1 0 := fun ds Q _ h => by
  obtain ⟨n, p, u, t, rfl, hd, h⟩ := h
  unfold g__law_circle_of
  walk_at "dd"
  refine ⟨_, rfl, _, rfl, n, p, u, t, rfl, hd, h⟩
theorem v__breaks_likeness : VD g__breaks_likeness S__breaks_likeness 4 2 := fun ds Q _ h => by
  obtain ⟨n, p, u, t, m, x, y, rfl, hd, hm, hx, hy, h⟩ := h
  have g := hd.1.gr
  have hp := g.rg _ _ hx hy
  have ht := hd.1.tin x y hx hy
  have hc := g.rg _ _ hx ht
  have mx := mv_in hm hx
  have my := mv_in hm hy
  unfold g__breaks_likeness
  walk_at "dd"
  refine ⟨⟨_, rfl⟩, n, p, u, t, rfl, ⟨_, rfl⟩, n, p, u, rfl, ⟨_, rfl⟩, n, p, u, t, rfl, ⟨_, rfl⟩, n, ciF p t, u, rfl, ?_⟩
  refine ixTR hx (ixY hy (ixM hm hp (ixM hm hx (ixTR mx (ixM hm hy (ixY my ⟨rfl, rfl, ?_⟩))))))
  unfold BL at h
  rw [eqv_int]
  by_cases e : im m (p x y) = p (im m x) (im m y)
  · rw [decide_eq_true e] at h ⊢
    rw [show (!true || !decide (im m (ciF p t x y) = ciF p t (im m x) (im m y))) = !decide (im m (ciF p t x y) = ciF p t (im m x) (im m y)) from rfl] at h
    refine ixTR hx (ixY hy (ixM hm hc (ixM hm hx (ixTR mx (ixM hm hy (ixY my ⟨rfl, rfl, ?_⟩))))))
    rw [eqv_int]
    exact h
  · rw [decide_eq_false e] at h ⊢
    exact h
theorem v__breaks_joined : VD g__breaks_joined S__breaks_joined 4 0 := fun ds Q _ h => by
  obtain ⟨k, q, v, s, n, A, a, b, rfl, hd, hn, hA, ha, hb, h⟩ := h
  have g := hd.1.gr
  have h1 := hd.1.tin a b ha hb
  unfold g__breaks_joined
  walk_at "dd"
  refine ⟨⟨_, rfl⟩, k, q, v, s, rfl, ⟨_, rfl⟩, k, ciF q s, v, rfl, ?_⟩
  refine ixTR ha (ixY hb (ixA hA (g.rg _ _ ha h1) ?_))
  refine ixA hA ha (ixA hA hb ?_)
  refine ⟨n, _, _, rfl, hA.row ha, hA.row hb, hn, shaped_tI _, shaped_tI _, ?_⟩
  rw [eqv_tI]
  exact h
theorem v__broken_likeness : VD g__broken_likeness S__broken_likeness 2 2 := fun ds Q _ h => by
  obtain ⟨n, p, u, t, m, rfl, hd, hm, h1, h2⟩ := h
  have hn := hd.2
  unfold g__broken_likeness
  walk_at "dd"
  refine ⟨⟨_, rfl⟩, n, p, u, t, rfl, n, rfl, by omega, ?_⟩
  refine ⟨rgd (by omega), ?_⟩
  try rw [rgD_rgI]
  refine wpFor_pre (rgI n) PyData.int (fun l1 ρ => ∃ x3 x4, ρ = [some (.im (dblD n p u t)), some (.im (tI m)), x3, x4] ∧ ∀ x y, x ∈ l1 → In n y → BL p t m x y = false) ⟨_, _, rfl, fun x y hx => by cases hx⟩ (fun l1 x l2 e ρ K i k1 => ?_) (fun ρ i => ?_)
  · obtain ⟨x3, x4, rfl, i⟩ := i
    have hx : In n x := In.mem.1 (by rw [e]; simp)
    try walk_at "dd"
    refine ⟨⟨_, rfl⟩, n, p, u, t, rfl, n, rfl, by omega, ?_⟩
    refine ⟨rgd (by omega), ?_⟩
    try rw [rgD_rgI]
    refine wpFor_pre (rgI n) PyData.int (fun r1 ρ => ∃ x4, ρ = [some (.im (dblD n p u t)), some (.im (tI m)), some (.im (.int x)), x4] ∧ ∀ y, y ∈ r1 → BL p t m x y = false) ⟨_, rfl, fun y hy => by cases hy⟩ (fun r1 y r2 e2 ρ K2 j k2 => ?_) (fun ρ j => ?_)
    · obtain ⟨x4, rfl, j⟩ := j
      have hy : In n y := In.mem.1 (by rw [e2]; simp)
      try walk_at "dd"
      refine ⟨n, p, u, t, m, x, y, rfl, hd, hm, hx, hy, ?_⟩
      try walk_at "dd"
      refine ite_ways (fun b => ?_) (fun b => ?_)
      · exact ⟨by decide, h2 (kp_false hx hy b) x y⟩
      · refine k2 _ ⟨_, rfl, fun z hz => ?_⟩
        rcases List.mem_append.mp hz with w | w
        · exact j z w
        · rw [List.mem_singleton.mp w]; exact b
    · obtain ⟨x4, rfl, j⟩ := j
      refine k1 _ ⟨_, _, rfl, fun x' y hx' hy => ?_⟩
      rcases List.mem_append.mp hx' with w | w
      · exact i x' y w hy
      · rw [List.mem_singleton.mp w]; exact j y (In.mem.2 hy)
  · obtain ⟨x3, x4, rfl, i⟩ := i
    try walk_at "dd"
    exact h1 (kp_true fun x y hx hy => i x y (In.mem.2 hx) hy)
end Dn.T.G.B.K37.K84
set_option Elab.async false
set_option linter.all false
set_option maxRecDepth 100000
set_option autoImplicit false
set_option maxHeartbeats 4000000
namespace Dn.T.G.B.K37.K84
open PySem L2 Evl PySem.Spec PyProof.Rows
local macro_rules | `(tactic| walk_at "dd") => `(tactic| simp only [sSeq, sIf, sSet, sRet, sRetN, sNx, sEx, sAsg, sPar, dTOr, dTAnd, dTNot, dTst, dIsi, dVar, dC, dBin, dChain, dNeg, dI2, dAnd, dOr, dNot, dIfE, dCall, dCallF, aCons, aNil, dTup, lLst, dOfL, xIm, xOw, gNm, gTp, gsCons, gsNil, dYes, envD, dLen_tR, dLen_tI, dLen_tup, dLen_lst, seq_tR, seq_tI, seq_tup, seq_lst, dIs, dIsNot, dNe, dEq, dTupOf, dSl, oNone, oSome, iSq, iEn, iR1, iR2, sFor, lLc, sNever, dTRg, rg1, rg2, lRg, wipeD, isN,
  gTpL, dIxP, sSub, dApp, dPopAt, dExt, dCallM, dCallO, dBinO, dTupO, lOf, lOfO, sRetO, iOw, dVarF, lCat, lCall, dAbs, dMax2, dMin2, dInt, atO, setO, MO.getL, MO.putL, Option.isSome_some,
  dInK, dGetK, dGetD, dInD, dGet1, lKeys, lSort, dLenSet, dLenSetL, dLenSet2, sPar3, dRevT, sPutK, xDct, xDct1, sRetK, atK, keyD, sAugI, dFld, sFldD, xRng, iRgO, dNew, dNewV, dCM, dProp, dMeth, dLenI, dStrO, dEqI, dIsC, dJoin, dJs, dFmt, dCallML, sSubI, gSubW, sWh, dTF, gIx, xProp, iZpM, dRepU, dKeep2, lSortSet, lSortTu, lDc, dRepT, lRep, dStrI, xDctT1, xDctOf, dInT, sPutT, lSortT2, lSortDT, dPop, dBinR, dKeep, dCallMO, atT, dCallO,
  kit_int, kit_bool, kit_tuple, kit_str, List.map_cons, List.map_nil, List.cons_append, List.nil_append, List.replicate, List.set_cons_zero, List.set_cons_succ, List.getElem?_cons_zero, List.getElem?_cons_succ, List.length_cons, List.length_nil, List.length_map, Nat.reduceAdd, Nat.reduceSub, Bool.not_true, Bool.not_false, Bool.false_eq_true, if_true, if_false, true_and, reduceCtorEq, Bool.true_eq_false, rgD_rgI, Option.some.injEq, exists_eq_left', and_true])
theorem ld0 {n : Nat} {p t : F1} {Q : D → Prop} (h : Q (tR (tab n p))) : dIx (ldD n p t) (.int 0) Q := ⟨_, rfl, h⟩
theorem v__law_keeps_double : VD g__law_keeps_double S__law_keeps_double 3 5 := fun ds Q _ h => by
  obtain ⟨n, p, u, t, m, rfl, hd, hm, h⟩ := h
  have hn := hd.2
  have g := hd.1.gr
  unfold g__law_keeps_double
  walk_at "dd"
  refine ld0 ?_
  try walk_at "dd"
  rw [tab_len]
  refine ⟨n, p, u, t, rfl, hd, n, p, u, t, rfl, hd, ?_⟩
  refine ⟨rgd (by omega), ?_⟩
  try rw [rgD_rgI]
  refine wpFor_pre (rgI n) PyData.int (fun l1 ρ => ∃ x3 x4, ρ = [some (.im (ldD n p t)), some (.im (ldD n p t)), some (.im (tI m)), some (.im (.int n)), some (.im (tR (tab n (ciF p t)))), some (.im (tR (tab n (ciF p t)))), x3, x4] ∧ ∀ x y, x ∈ l1 → In n y → BL p t m x y = false) ⟨_, _, rfl, fun x y hx => by cases hx⟩ (fun l1 x l2 e ρ K i k1 => ?_) (fun ρ i => ?_)
  · obtain ⟨x3, x4, rfl, i⟩ := i
    have hx : In n x := In.mem.1 (by rw [e]; simp)
    try walk_at "dd"
    refine ⟨rgd (by omega), ?_⟩
    try rw [rgD_rgI]
    refine wpFor_pre (rgI n) PyData.int (fun r1 ρ => ∃ x4, ρ = [some (.im (ldD n p t)), some (.im (ldD n p t)), some (.im (tI m)), some (.im (.int n)), some (.im (tR (tab n (ciF p t)))), some (.im (tR (tab n (ciF p t)))), some (.im (.int x)), x4] ∧ ∀ y, y ∈ r1 → BL p t m x y = false) ⟨_, rfl, fun y hy => by cases hy⟩ (fun r1 y r2 e2 ρ K2 j k2 => ?_) (fun ρ j => ?_)
    · obtain ⟨x4, rfl, j⟩ := j
      have hy : In n y := In.mem.1 (by rw [e2]; simp)
      have hp := g.rg _ _ hx hy
      have ht := hd.1.tin x y hx hy
      have hc := g.rg _ _ hx ht
      have mx := mv_in hm hx
      have my := mv_in hm hy
      try walk_at "dd"
      refine ld0 (ixTR hx (ixY hy (ixM hm hp (ld0 (ixM hm hx (ixTR mx (ixM hm hy (ixY my ⟨rfl, rfl, ?_⟩))))))))
      rw [eqv_int]
      by_cases e1 : im m (p x y) = p (im m x) (im m y)
      · rw [decide_eq_true e1]
        refine ixTR hx (ixY hy (ixM hm hc (ixM hm hx (ixTR mx (ixM hm hy (ixY my ⟨rfl, rfl, ?_⟩))))))
        rw [eqv_int]
        by_cases e2 : im m (ciF p t x y) = ciF p t (im m x) (im m y)
        · rw [decide_eq_true e2, if_neg (by decide)]
          refine k2 _ ⟨_, rfl, fun z hz => ?_⟩
          rcases List.mem_append.mp hz with w | w
          · exact j z w
          · rw [List.mem_singleton.mp w]; unfold BL; rw [decide_eq_true e1, decide_eq_true e2]; rfl
        · rw [decide_eq_false e2, if_pos (by decide)]
          rw [kp_false hx hy (by unfold BL; rw [decide_eq_false e2]; simp)] at h
          exact h
      · rw [decide_eq_false e1, if_pos (by decide)]
        rw [kp_false hx hy (by unfold BL; rw [decide_eq_false e1]; rfl)] at h
        exact h
    · obtain ⟨x4, rfl, j⟩ := j
      refine k1 _ ⟨_, _, rfl, fun x' y hx' hy => ?_⟩
      rcases List.mem_append.mp hx' with w | w
      · exact i x' y w hy
      · rw [List.mem_singleton.mp w]; exact j y (In.mem.2 hy)
  · obtain ⟨x3, x4, rfl, i⟩ := i
    try walk_at "dd"
    rw [kp_true fun x y hx hy => i x y (In.mem.2 hx) hy] at h
    exact h
theorem ix0 {x : D} {r : List D} {Q : D → Prop} (h : Q x) : dIx (.tuple (x :: r)) (.int 0) Q := ⟨x, by unfold atI ixN; simp, h⟩
theorem ix1 {x y : D} {r : List D} {Q : D → Prop} (h : Q y) : dIx (.tuple (x :: y :: r)) (.int 1) Q := ⟨y, by unfold atI ixN; simp; rw [if_pos (by omega)]; rfl, h⟩
theorem ix2 {x y z : D} {r : List D} {Q : D → Prop} (h : Q z) : dIx (.tuple (x :: y :: z :: r)) (.int 2) Q := ⟨z, by unfold atI ixN; simp; rw [if_pos (by omega)]; rfl, h⟩
theorem ix3 {x y z w : D} {r : List D} {Q : D → Prop} (h : Q w) : dIx (.tuple (x :: y :: z :: w :: r)) (.int 3) Q := ⟨w, by unfold atI ixN; simp; rw [if_pos (by omega)]; rfl, h⟩
theorem v__law_says : VD g__law_says S__law_says 4 6 := fun ds Q _ h => by
  obtain ⟨k, q, v, s, n, p, u, t, A, d, rfl, hq, hd, hA, h⟩ := h
  have hn := hd.2
  have g := hd.1.gr
  have gq := hq.1.gr
  unfold g__law_says
  walk_at "dd"
  refine ⟨k, q, v, s, rfl, hq, n, p, u, t, rfl, hd, ld0 ?_⟩
  rcases h with ⟨a, x, y, rfl, ha, hx, hy, h⟩ | ⟨a, b, rfl, ha, hb, h⟩
  · have hp := g.rg _ _ hx hy
    have ht := hd.1.tin x y hx hy
    have hc := g.rg _ _ hx ht
    have hm := hA.row ha
    have mx := mv_in hm hx
    have my := mv_in hm hy
    refine ix0 ⟨by decide +kernel, by decide +kernel, ?_⟩
    rw [if_pos (by decide)]
    refine ix1 (ixA hA ha (ix2 (ix3 ?_)))
    try walk_at "dd"
    refine ixTR hx (ixY hy (ixM hm hp (ixM hm hx (ixTR mx (ixM hm hy (ixY my ⟨rfl, rfl, ?_⟩))))))
    unfold BL at h
    rw [eqv_int]
    by_cases e : im (row A a) (p x y) = p (im (row A a) x) (im (row A a) y)
    · rw [decide_eq_true e] at h ⊢
      refine ixTR hx (ixY hy (ixM hm hc (ixM hm hx (ixTR mx (ixM hm hy (ixY my ⟨rfl, rfl, ?_⟩))))))
      rw [eqv_int]
      rw [show (!true || !decide (im (row A a) (ciF p t x y) = ciF p t (im (row A a) x) (im (row A a) y))) = !decide (im (row A a) (ciF p t x y) = ciF p t (im (row A a) x) (im (row A a) y)) from rfl] at h
      exact h
    · rw [decide_eq_false e] at h ⊢
      exact h
  · have h1 := hq.1.tin a b ha hb
    refine ix0 ⟨by decide +kernel, by decide +kernel, ?_⟩
    rw [if_neg (by decide)]
    refine ix1 (ixTR ha (ix2 (ixY hb (ixA hA (gq.rg _ _ ha h1) ?_))))
    refine ix1 (ixA hA ha (ix2 (ixA hA hb ?_)))
    refine ⟨n, _, _, rfl, hA.row ha, hA.row hb, hn, shaped_tI _, shaped_tI _, ?_⟩
    rw [eqv_tI]
    exact h
end Dn.T.G.B.K37.K84
set_option Elab.async false
set_option linter.all false
set_option maxRecDepth 100000
set_option autoImplicit false
set_option maxHeartbeats 4000000
namespace Dn.T.G.B.K37.K84
open PySem L2 Evl PySem.Spec PyProof.Rows
open Dn.T.G.B.K66 (Sc sc_sh sc_sh1 sc_shl scc scn thIn)
local macro_rules | `(tactic| walk_at "dd") => `(tactic| simp only [sSeq, sIf, sSet, sRet, sRetN, sNx, sEx, sAsg, sPar, dTOr, dTAnd, dTNot, dTst, dIsi, dVar, dC, dBin, dChain, dNeg, dI2, dAnd, dOr, dNot, dIfE, dCall, dCallF, aCons, aNil, dTup, lLst, dOfL, xIm, xOw, gNm, gTp, gsCons, gsNil, dYes, envD, dLen_tR, dLen_tI, dLen_tup, dLen_lst, seq_tR, seq_tI, seq_tup, seq_lst, dIs, dIsNot, dNe, dEq, dTupOf, dSl, oNone, oSome, iSq, iEn, iR1, iR2, sFor, lLc, sNever, dTRg, rg1, rg2, lRg, wipeD, isN,
  gTpL, dIxP, sSub, dApp, dPopAt, dExt, dCallM, dCallO, dBinO, dTupO, lOf, lOfO, sRetO, iOw, dVarF, lCat, lCall, dAbs, dMax2, dMin2, dInt, atO, setO, MO.getL, MO.putL, Option.isSome_some,
  dInK, dGetK, dGetD, dInD, dGet1, lKeys, lSort, dLenSet, dLenSetL, dLenSet2, sPar3, dRevT, sPutK, xDct, xDct1, sRetK, atK, keyD, sAugI, dFld, sFldD, xRng, iRgO, dNew, dNewV, dCM, dProp, dMeth, dLenI, dStrO, dEqI, dIsC, dJoin, dJs, dFmt, dCallML, sSubI, gSubW, sWh, dTF, gIx, xProp, iZpM, dRepU, dKeep2, lSortSet, lSortTu, lDc, dRepT, lRep, dStrI, xDctT1, xDctOf, dInT, sPutT, lSortT2, lSortDT, dPop, dBinR, dKeep, dCallMO, atT, dCallO,
  kit_int, kit_bool, kit_tuple, kit_str, List.map_cons, List.map_nil, List.cons_append, List.nil_append, List.replicate, List.set_cons_zero, List.set_cons_succ, List.getElem?_cons_zero, List.getElem?_cons_succ, List.length_cons, List.length_nil, List.length_map, Nat.reduceAdd, Nat.reduceSub, Bool.not_true, Bool.not_false, Bool.false_eq_true, if_true, if_false, true_and, reduceCtorEq, Bool.true_eq_false, rgD_rgI, Option.some.injEq, exists_eq_left', and_true])
theorem en_A {n k : Nat} {A : List (List Int)} (h : Ac n k A) : enD (A.map tI) = (rgI k).map fun a => PyData.tuple [.int a, tI (row A a)] := by
  rw [enD_map A tI [], h.1]
  rfl
theorem A_all {n k : Nat} {p t : F1} {A : List (List Int)} (hA : Ac n k A) (h : ∀ a, In k a → kp n p t (row A a) = true) : A.all (kp n p t) = true := by
  rw [List.all_eq_true]
  intro r hr
  obtain ⟨i, hi, e⟩ := List.mem_iff_getElem.mp hr
  have := h (i : Int) ⟨by omega, by rw [← hA.1]; omega⟩
  unfold row at this
  rw [Int.toNat_natCast, List.getD_eq_getElem?_getD, List.getElem?_eq_getElem hi, Option.getD_some, e] at this
  exact this
theorem A_not {n k : Nat} {p t : F1} {A : List (List Int)} (hA : Ac n k A) {a : Int} (ha : In k a) (h : kp n p t (row A a) = false) : A.all (kp n p t) = false := by
  cases e : A.all (kp n p t) with
  | false => rfl
  | true =>
    rw [List.all_eq_true] at e
    have := e (row A a) (getD_mem (by rw [hA.1]; have := ha.1; have := ha.2; omega))
    rw [h] at this
    cases this
theorem v_join_paper : VD g_join_paper S_join_paper 3 4 := fun ds Q _ h => by
  obtain ⟨k, q, v, s, n, p, u, t, A, rfl, hq, hd, hA, h1, h2⟩ := h
  have hn := hd.2
  have hk := hq.2
  unfold g_join_paper
  walk_at "dd"
  refine ⟨k, q, v, s, n, p, u, t, A, rfl, hk, hn, hA, ?_⟩
  try walk_at "dd"
  rw [en_A hA]
  refine wpFor_pre (rgI k) (fun a => PyData.tuple [.int a, tI (row A a)]) (fun l1 ρ => ∃ x3 x4 x5, ρ = [some (.im (dblD k q v s)), some (.im (dblD n p u t)), some (.im (tR A)), x3, x4, x5, none] ∧ ∀ a, a ∈ l1 → kp n p t (row A a) = true) ⟨_, _, _, rfl, fun a ha => by cases ha⟩ (fun l1 a l2 e ρ K i k1 => ?_) (fun ρ i => ?_)
  · obtain ⟨x3, x4, x5, rfl, i⟩ := i
    have ha : In k a := In.mem.1 (by rw [e]; simp)
    try walk_at "dd"
    refine ⟨n, p, u, t, _, rfl, hd, hA.row ha, fun b => ?_, fun b x y => ?_⟩
    · try walk_at "dd"
      refine k1 _ ⟨_, _, _, rfl, fun c hc => ?_⟩
      rcases List.mem_append.mp hc with w | w
      · exact i c w
      · rw [List.mem_singleton.mp w]; exact b
    · try walk_at "dd"
      exact ⟨by decide, by simp, (h2 (by unfold wW; rw [A_not hA ha b, Bool.and_false])).1 a x y⟩
  · obtain ⟨x3, x4, x5, rfl, i⟩ := i
    have al := A_all hA fun a ha => i a (In.mem.2 ha)
    have h1 := fun w : wJ k q s A = true => h1 (by unfold wW; rw [al, w]; rfl)
    have h2 := fun w : wJ k q s A = false => h2 (by unfold wW; rw [w]; rfl)
    clear i
    try walk_at "dd"
    refine ⟨⟨_, rfl⟩, k, q, v, s, rfl, k, rfl, by omega, ?_⟩
    refine ⟨rgd (by omega), ?_⟩
    try rw [rgD_rgI]
    refine wpFor_pre (rgI k) PyData.int (fun l1 ρ => ∃ x3 x6, ρ = [some (.im (dblD k q v s)), some (.im (dblD n p u t)), some (.im (tR A)), x3, x4, x5, x6] ∧ ∀ a b, a ∈ l1 → In k b → BJ q s A a b = false) ⟨_, _, rfl, fun x y hx => by cases hx⟩ (fun l1 a l2 e ρ K i k1 => ?_) (fun ρ i => ?_)
    · obtain ⟨x3, x6, rfl, i⟩ := i
      have ha : In k a := In.mem.1 (by rw [e]; simp)
      try walk_at "dd"
      refine ⟨⟨_, rfl⟩, k, q, v, s, rfl, k, rfl, by omega, ?_⟩
      refine ⟨rgd (by omega), ?_⟩
      try rw [rgD_rgI]
      refine wpFor_pre (rgI k) PyData.int (fun r1 ρ => ∃ x6, ρ = [some (.im (dblD k q v s)), some (.im (dblD n p u t)), some (.im (tR A)), some (.im (.int a)), x4, x5, x6] ∧ ∀ b, b ∈ r1 → BJ q s A a b = false) ⟨_, rfl, fun y hy => by cases hy⟩ (fun r1 b r2 e2 ρ K2 j k2 => ?_) (fun ρ j => ?_)
      · obtain ⟨x6, rfl, j⟩ := j
        have hb : In k b := In.mem.1 (by rw [e2]; simp)
        try walk_at "dd"
        refine ⟨k, q, v, s, n, A, a, b, rfl, hq, hn, hA, ha, hb, ?_⟩
        try walk_at "dd"
        refine ite_ways (fun c => ?_) (fun c => ?_)
        · exact ⟨by decide, (h2 (wJ_false ha hb c)).2 a b⟩
        · refine k2 _ ⟨_, rfl, fun z hz => ?_⟩
          rcases List.mem_append.mp hz with w | w
          · exact j z w
          · rw [List.mem_singleton.mp w]; exact c
      · obtain ⟨x6, rfl, j⟩ := j
        refine k1 _ ⟨_, _, rfl, fun x' y hx' hy => ?_⟩
        rcases List.mem_append.mp hx' with w | w
        · exact i x' y w hy
        · rw [List.mem_singleton.mp w]; exact j y (In.mem.2 hy)
    · obtain ⟨x3, x6, rfl, i⟩ := i
      try walk_at "dd"
      exact ⟨by decide, h1 (wJ_true fun x y hx hy => i x y (In.mem.2 hx) hy)⟩
theorem sJ : Sc (.str "join") := by show PyData.strOk ("join" : Str) = true; decide +kernel
theorem sJd : Sc (.str "joined") := by show PyData.strOk ("joined" : Str) = true; decide +kernel
theorem sL : Sc (.str "likeness") := by show PyData.strOk ("likeness" : Str) = true; decide +kernel
theorem isRow2 {n : Int} {x y : D} : isRow 2 n (.tuple [x, y]) = (isTh n x && isTh n y) := by
  unfold isRow
  simp
theorem th_int {n : Int} {x : D} (h : isTh n x = true) : ∃ i, x = .int i := by
  cases x with
  | int i => exact ⟨i, rfl⟩
  | _ => cases h
theorem v_is_join_paper : VD g_is_join_paper S_is_join_paper 4 4 := fun ds Q _ h => by
  obtain ⟨k, q, v, s, n, p, u, t, A, d, rfl, hq, hd, hA, h⟩ := h
  have hn := hd.2
  have hk := hq.2
  have gq := hq.1.gr
  unfold g_is_join_paper
  walk_at "dd"
  refine ⟨k, q, v, s, n, p, u, t, A, rfl, hk, hn, hA, ?_⟩
  try walk_at "dd"
  rcases h with ⟨a, x, y, rfl, hv, h⟩ | ⟨a, b, rfl, ha, hb, h⟩ | ⟨rfl, h⟩ | ⟨⟨hv, hl, hj, hw⟩, h⟩
  · rw [if_pos rfl]
    try walk_at "dd"
    refine ⟨by decide, by decide, ?_⟩
    rw [if_pos (by decide)]
    refine ix0 (.inl ⟨_, _, rfl, fun t e => by cases e; decide +kernel, by decide +kernel, ?_⟩)
    dsimp only
    rw [if_pos (by decide +kernel)]
    refine ⟨⟨_, rfl⟩, k, q, v, s, rfl, k, rfl, by omega, a, _, rfl, ?_⟩
    dsimp only
    unfold lkB at h
    cases ea : isTh k a
    · rw [ea] at h
      rw [if_pos (by decide)]
      exact h
    · rw [if_neg (by decide)]
      refine ⟨by decide, ⟨_, rfl⟩, n, p, u, t, rfl, n, rfl, by omega, _, _, _, rfl, fun xs e => by cases e; simp, by omega, ?_⟩
      rw [isRow2]
      dsimp only
      cases exy : (isTh n x && isTh n y)
      · rw [ea, exy] at h
        rw [if_pos (by decide)]
        exact h
      · rw [if_neg (by decide)]
        rw [ea, exy] at h
        obtain ⟨ex, ey⟩ := Bool.and_eq_true_iff.mp exy
        obtain ⟨a, rfl⟩ := th_int ea
        obtain ⟨x, rfl⟩ := th_int ex
        obtain ⟨y, rfl⟩ := th_int ey
        have ia := thIn ea
        exact ixA hA ia ⟨n, p, u, t, _, x, y, rfl, hd, hA.row ia, thIn ex, thIn ey, h⟩
  · rw [if_pos rfl]
    try walk_at "dd"
    refine ⟨by decide, by decide, ?_⟩
    rw [if_neg (by decide)]
    refine ⟨⟨_, rfl⟩, k, q, v, s, rfl, k, rfl, by omega, _, _, _, _, rfl, ⟨by decide, by omega⟩, fun xs e => ?_, by decide +kernel, ?_⟩
    · cases e
      have hh : ∀ x, x ∈ [PyData.str "joined", .int a, .int b] → Sc x := scc sJd (scc trivial (scc trivial scn))
      exact ⟨by simp, sc_sh hh, fun x hx => sc_sh1 (hh x hx)⟩
    · rw [show isTold "joined" 2 k (.tuple [.str "joined", .int a, .int b]) = true from by
        show (decide (([PyData.int a, PyData.int b].length : Int) = 2) && (isStr "joined" (.str "joined") && isRow 2 k (.tuple [.int a, .int b]))) = true
        rw [isRow2, isTh_in ha.1 ha.2 (by omega), isTh_in hb.1 hb.2 (by omega)]
        rfl]
      dsimp only
      rw [if_pos rfl]
      exact ix1 (ix2 ⟨k, q, v, s, n, A, a, b, rfl, hq, hn, hA, ha, hb, h⟩)
  · rw [if_pos rfl]
    try walk_at "dd"
    refine ⟨by decide, by decide, ?_⟩
    rw [if_neg (by decide)]
    have hv : okV (.tuple [.str "join"]) := fun xs e => by
      cases e
      exact ⟨by decide, sc_sh (scc sJ scn), fun x hx => sc_sh1 (scc sJ scn x hx)⟩
    refine ⟨⟨_, rfl⟩, k, q, v, s, rfl, k, rfl, by omega, _, _, _, _, rfl, ⟨by decide, by omega⟩, hv, by decide +kernel, ?_⟩
    rw [show isTold "joined" 2 k (.tuple [.str "join"]) = false from rfl]
    dsimp only
    rw [if_neg (by decide)]
    refine ⟨by decide, .inr ⟨_, _, rfl, hv, by decide +kernel, ?_⟩⟩
    rw [show isTup1 "join" (.tuple [.str "join"]) = true from by decide +kernel]
    dsimp only
    refine ⟨k, q, v, s, n, p, u, t, A, rfl, hq, hd, hA, fun w => ?_, fun w => ⟨fun a x y => ?_, fun a b => ?_⟩⟩
    · refine ⟨by decide, sc_sh (scc sJ scn), sc_sh (scc sJ scn), ?_⟩
      rw [w] at h
      rw [show PyData.eqv (.tuple [.str "join"]) (.tuple [.str "join"]) = true from by decide +kernel]
      exact h
    · refine ⟨by decide, sc_sh (scc sL (scc trivial (scc trivial (scc trivial scn)))), sc_sh (scc sJ scn), ?_⟩
      rw [w] at h
      rw [show PyData.eqv (.tuple [.str "likeness", .int a, .int x, .int y]) (.tuple [.str "join"]) = false from by simp [PyData.eqv, PyData.eqvAll]]
      exact h
    · refine ⟨by decide, sc_sh (scc sJd (scc trivial (scc trivial scn))), sc_sh (scc sJ scn), ?_⟩
      rw [w] at h
      rw [show PyData.eqv (.tuple [.str "joined", .int a, .int b]) (.tuple [.str "join"]) = false from by simp [PyData.eqv, PyData.eqvAll]]
      exact h
  · cases d with
    | tuple xs =>
      rw [if_pos rfl]
      try walk_at "dd"
      refine ⟨rfl, rfl, ?_⟩
      rw [eqv_int]
      by_cases e4 : xs.length = 4
      · rw [decide_eq_true (by omega), if_pos rfl]
        obtain ⟨h0, x, y, z, rfl⟩ : ∃ h0 x y z, xs = [h0, x, y, z] := by
          match xs, e4 with
          | [h0, x, y, z], _ => exact ⟨h0, x, y, z, rfl⟩
        refine ix0 (.inl ⟨_, _, rfl, fun t e => by rw [← e]; exact (hv _ rfl).2.2 h0 (by simp), by decide +kernel, ?_⟩)
        rw [hl _ _ _ _ rfl]
        dsimp only
        rw [if_neg (by decide)]
        refine ⟨⟨_, rfl⟩, k, q, v, s, rfl, k, rfl, by omega, _, _, _, _, rfl, ⟨by decide, by omega⟩, hv, by decide +kernel, ?_⟩
        rw [hj]
        dsimp only
        rw [if_neg (by decide)]
        refine ⟨by decide, .inr ⟨_, _, rfl, hv, by decide +kernel, ?_⟩⟩
        rw [hw]
        exact h
      · rw [decide_eq_false (by omega), if_neg (by decide)]
        refine ⟨⟨_, rfl⟩, k, q, v, s, rfl, k, rfl, by omega, _, _, _, _, rfl, ⟨by decide, by omega⟩, hv, by decide +kernel, ?_⟩
        rw [hj]
        dsimp only
        rw [if_neg (by decide)]
        refine ⟨by decide, .inr ⟨_, _, rfl, hv, by decide +kernel, ?_⟩⟩
        rw [hw]
        exact h
    | _ =>
      rw [if_neg (fun e => by cases e)]
      refine ⟨⟨_, rfl⟩, k, q, v, s, rfl, k, rfl, by omega, _, _, _, _, rfl, ⟨by decide, by omega⟩, hv, by decide +kernel, ?_⟩
      rw [hj]
      dsimp only
      rw [if_neg (by decide)]
      refine ⟨by decide, .inr ⟨_, _, rfl, hv, by decide +kernel, ?_⟩⟩
      rw [hw]
      exact h
end Dn.T.G.B.K37.K84
set_option Elab.async false
set_option linter.all false
set_option maxRecDepth 100000
set_option autoImplicit false
set_option maxHeartbeats 4000000
namespace Dn.T.G.B.K37.K84
open PySem L2 Evl PySem.Spec PyProof.Rows
open Dn.T.G.B.K66 (Sc sc_sh sc_sh1 sc_shl scc scn thIn)
local macro_rules | `(tactic| walk_at "dd") => `(tactic| simp only [sSeq, sIf, sSet, sRet, sRetN, sNx, sEx, sAsg, sPar, dTOr, dTAnd, dTNot, dTst, dIsi, dVar, dC, dBin, dChain, dNeg, dI2, dAnd, dOr, dNot, dIfE, dCall, dCallF, aCons, aNil, dTup, lLst, dOfL, xIm, xOw, gNm, gTp, gsCons, gsNil, dYes, envD, dLen_tR, dLen_tI, dLen_tup, dLen_lst, seq_tR, seq_tI, seq_tup, seq_lst, dIs, dIsNot, dNe, dEq, dTupOf, dSl, oNone, oSome, iSq, iEn, iR1, iR2, sFor, lLc, sNever, dTRg, rg1, rg2, lRg, wipeD, isN,
  gTpL, dIxP, sSub, dApp, dPopAt, dExt, dCallM, dCallO, dBinO, dTupO, lOf, lOfO, sRetO, iOw, dVarF, lCat, lCall, dAbs, dMax2, dMin2, dInt, atO, setO, MO.getL, MO.putL, Option.isSome_some,
  dInK, dGetK, dGetD, dInD, dGet1, lKeys, lSort, dLenSet, dLenSetL, dLenSet2, sPar3, dRevT, sPutK, xDct, xDct1, sRetK, atK, keyD, sAugI, dFld, sFldD, xRng, iRgO, dNew, dNewV, dCM, dProp, dMeth, dLenI, dStrO, dEqI, dIsC, dJoin, dJs, dFmt, dCallML, sSubI, gSubW, sWh, dTF, gIx, xProp, iZpM, dRepU, dKeep2, lSortSet, lSortTu, lDc, dRepT, lRep, dStrI, xDctT1, xDctOf, dInT, sPutT, lSortT2, lSortDT, dPop, dBinR, retOL, lKeep, dKeep, dCallMO, atT, dCallO,
  kit_int, kit_bool, kit_tuple, kit_str, List.map_cons, List.map_nil, List.cons_append, List.nil_append, List.replicate, List.set_cons_zero, List.set_cons_succ, List.getElem?_cons_zero, List.getElem?_cons_succ, List.length_cons, List.length_nil, List.length_map, Nat.reduceAdd, Nat.reduceSub, Bool.not_true, Bool.not_false, Bool.false_eq_true, if_true, if_false, true_and, reduceCtorEq, Bool.true_eq_false, rgD_rgI, Option.some.injEq, exists_eq_left', and_true])
def MkI (n : Nat) (p : F1) (u : Int) (ms O W : List Int) : Prop := O.Nodup ∧ u ∈ O ∧ (∀ x, x ∈ O → In n x) ∧ (∀ x, x ∈ W → x ∈ O) ∧ (∀ x, x ∈ O → Rch p u ms x) ∧ W.length ≤ O.length
theorem MkI.few {n : Nat} {p : F1} {u : Int} {ms O W : List Int} (h : MkI n p u ms O W) : O.length ≤ n := by
  have := nodup_len h.1 (l' := rgI n) fun x hx => In.mem.2 (h.2.2.1 x hx)
  rwa [rgI_len] at this
theorem MkI.new {n : Nat} {p : F1} {u : Int} {ms O W : List Int} (h : MkI n p u ms O W) {x : Int} (hx : In n x) (no : x ∉ O) (r : Rch p u ms x) : MkI n p u ms (O ++ [x]) (W ++ [x]) := by
  obtain ⟨h1, h2, h3, h4, h5, h6⟩ := h
  refine ⟨?_, List.mem_append_left _ h2, fun y hy => ?_, fun y hy => ?_, fun y hy => ?_, by simpa using h6⟩
  · rw [List.nodup_append]
    refine ⟨h1, by simp, fun a ha b hb e => no ?_⟩
    rw [List.mem_singleton.mp hb] at e
    exact e ▸ ha
  · rcases List.mem_append.mp hy with w | w
    · exact h3 y w
    · rw [List.mem_singleton.mp w]; exact hx
  · rcases List.mem_append.mp hy with w | w
    · exact List.mem_append_left _ (h4 y w)
    · exact List.mem_append_right _ w
  · rcases List.mem_append.mp hy with w | w
    · exact h5 y w
    · rw [List.mem_singleton.mp w]; exact r
theorem sh_lI {l : List Int} : SeqAt.shaped (.list (l.map PyData.int)) = true := sc_shl fun x hx => by
  obtain ⟨i, _, rfl⟩ := List.mem_map.mp hx
  trivial
theorem all_scI (m : List Int) : (m.map PyData.int).all isSc = true := by simp [List.all_map, isSc]
theorem v__law_made_part : VL g__law_made_part S__law_made_part 2 5 := fun ds Q _ h => by
  obtain ⟨n, p, u, ms, rfl, hg, hms, lms, h⟩ := h
  have g := hg.1
  have hn := hg.2
  unfold g__law_made_part
  walk_at "dd"
  refine ⟨n, p, u, rfl, hg, by decide, n, p, u, rfl, hg, by decide, ?_⟩
  refine wpWh_lt (β := List Int × List Int) (fun b ρ => ∃ x4 x5 x6, ρ = [some (.im (tR (tab n p))), some (.im (.list (ms.map PyData.int))), some (.ow (.lst (b.1.map PyData.int))), some (.ow (.lst (b.2.map PyData.int))), x4, x5, x6] ∧ MkI n p u ms b.1 b.2 ∧ (∀ f, f ∈ b.1 → f ∈ b.2 ∨ ∀ m, m ∈ ms → p f m ∈ b.1) ∧ okT x4 ∧ okT x5 ∧ okT x6) (fun b => 2 * (n - b.1.length) + b.2.length) (fun b ρ K2 j k2 => ?_) (b := ([u], [u])) ⟨_, _, _, rfl, ⟨by simp, by simp, fun y hy => by rw [List.mem_singleton.mp hy]; exact g.un, by simp, fun y hy => by rw [List.mem_singleton.mp hy]; exact fun S a _ => a, by simp⟩, fun f hf => .inl hf, okT_none, okT_none, okT_none⟩
  obtain ⟨O, W⟩ := b
  obtain ⟨x4, x5, x6, rfl, I, cl, k4, k5, k6⟩ := j
  dsimp only at I cl k2 ⊢
  have fl := I.few
  have wl := I.2.2.2.2.2
  walk_at "dd"
  refine ⟨⟨_, rfl⟩, by decide, sh_lI, by decide +kernel, ?_⟩
  rw [eqv_nil]
  refine ⟨rfl, ite_ways (fun e2 => ?_) (fun e2 => ?_)⟩
  · have wn : W ≠ [] := by
      rintro rfl
      simp at e2
    obtain ⟨W0, w, rfl⟩ : ∃ W0 w, W = W0 ++ [w] := ⟨W.dropLast, W.getLast wn, (List.dropLast_concat_getLast wn).symm⟩
    refine ⟨W0.map PyData.int, .int w, by simp, ?_⟩
    have wO : w ∈ O := I.2.2.2.1 w (by simp)
    have wr := I.2.2.1 w wO
    try walk_at "dd"
    have I0 : MkI n p u ms O W0 := ⟨I.1, I.2.1, I.2.2.1, fun f hf => I.2.2.2.1 f (by simp [hf]), I.2.2.2.2.1, by simp at wl; omega⟩
    refine wpFor_pre ms PyData.int (fun m1 ρ => ∃ (O' W' : List Int) (x5 x6 : Option SV), ρ = [some (.im (tR (tab n p))), some (.im (.list (ms.map PyData.int))), some (.ow (.lst (O'.map PyData.int))), some (.ow (.lst (W'.map PyData.int))), some (.im (.int w)), x5, x6] ∧ (MkI n p u ms O' W' ∧ (∀ f, f ∈ O' → f ∈ W' ∨ f = w ∨ ∀ m, m ∈ ms → p f m ∈ O') ∧ w ∈ O' ∧ ∀ m, m ∈ m1 → p w m ∈ O') ∧ 2 * (n - O'.length) + W'.length ≤ 2 * (n - O.length) + W0.length ∧ okT x5 ∧ okT x6) ⟨O, W0, _, _, rfl, ⟨I0, fun f hf => (cl f hf).elim (fun m => (List.mem_append.mp m).elim .inl fun m => .inr (.inl (List.mem_singleton.mp m))) fun c => .inr (.inr c), wO, fun y hy => by cases hy⟩, Nat.le_refl _, k5, k6⟩ (fun m1 m m2 em ρ K3 j k3 => ?_) (fun ρ j => ?_)
    · obtain ⟨O', W', x5, x6, rfl, ⟨I', cl', wO, dn⟩, ms', k5, k6⟩ := j
      have hm : m ∈ ms := by rw [em]; simp
      have hmi := hms m hm
      have hu := g.rg _ _ wr hmi
      have fl' := I'.few
      have wl' := I'.2.2.2.2.2
      try walk_at "dd"
      refine ixTR wr (ixY hmi ?_)
      refine ⟨O'.map PyData.int, rfl, rfl, all_scI O', rfl, ?_⟩
      dsimp only
      rw [if_pos rfl, in_con]
      refine ite_ways (fun e4 => ?_) (fun e4 => ?_)
      · have nin : p w m ∉ O' := by simpa using e4
        refine ⟨by omega, by omega, ?_⟩
        have I2 := I'.new hu nin fun S a b => b w m (I'.2.2.2.2.1 w wO S a b) hm
        refine k3 _ ⟨O' ++ [p w m], W' ++ [p w m], _, _, by rw [List.map_append, List.map_append]; rfl, ⟨I2, fun f hf => ?_, List.mem_append_left _ wO, fun y' hy' => ?_⟩, ?_, okT_im (.int _), okT_im (.int _)⟩
        · rcases List.mem_append.mp hf with hf | hf
          · rcases cl' f hf with c | c | c
            · exact .inl (List.mem_append_left _ c)
            · exact .inr (.inl c)
            · exact .inr (.inr fun y hy => List.mem_append_left _ (c y hy))
          · exact .inl (List.mem_append_right _ hf)
        · rcases List.mem_append.mp hy' with z | z
          · exact List.mem_append_left _ (dn y' z)
          · rw [List.mem_singleton.mp z]; exact List.mem_append_right _ (List.mem_singleton.mpr rfl)
        · have := I2.few
          simp at this ⊢
          omega
      · refine k3 _ ⟨O', W', _, _, rfl, ⟨I', cl', wO, fun y' hy' => ?_⟩, ms', okT_im (.int _), okT_im (.int _)⟩
        rcases List.mem_append.mp hy' with z | z
        · exact dn y' z
        · rw [List.mem_singleton.mp z]; simpa using e4
    · obtain ⟨O', W', x5, x6, rfl, ⟨I', cl', wO, dn⟩, ms', k5, k6⟩ := j
      refine k2 (O', W') _ ?_ ⟨_, _, _, rfl, I', fun f hf => (cl' f hf).elim .inl fun c => .inr (c.elim (fun e => by rw [e]; exact dn) id), okT_im (.int _), k5, k6⟩
      simp at ms' ⊢
      omega
  · have W0 : W = [] := by simpa using e2
    subst W0
    try walk_at "dd"
    refine h O fl fun x => ⟨fun m => I.2.2.2.2.1 x m, fun r => r (· ∈ O) I.2.1 fun f m hf hm => ?_⟩
    rcases cl f hf with z | z
    · cases z
    · exact z m hm
end Dn.T.G.B.K37.K84
set_option Elab.async false
set_option linter.all false
set_option maxRecDepth 100000
set_option autoImplicit false
set_option maxHeartbeats 4000000
namespace Dn.T.G.B.K37.K84
open PySem L2 Evl PySem.Spec PyProof.Rows
open Dn.T.G.B.K66 (Sc sc_sh sc_sh1 sc_shl scc scn thIn)
local macro_rules | `(tactic| walk_at "dd") => `(tactic| simp only [sSeq, sIf, sSet, sRet, sRetN, sNx, sEx, sAsg, sPar, dTOr, dTAnd, dTNot, dTst, dIsi, dVar, dC, dBin, dChain, dNeg, dI2, dAnd, dOr, dNot, dIfE, dCall, dCallF, aCons, aNil, dTup, lLst, dOfL, xIm, xOw, gNm, gTp, gsCons, gsNil, dYes, envD, dLen_tR, dLen_tI, dLen_tup, dLen_lst, seq_tR, seq_tI, seq_tup, seq_lst, dIs, dIsNot, dNe, dEq, dTupOf, dSl, oNone, oSome, iSq, iEn, iR1, iR2, sFor, lLc, sNever, dTRg, rg1, rg2, lRg, wipeD, isN,
  gTpL, dIxP, sSub, dApp, dPopAt, dExt, dCallM, dCallO, dBinO, dTupO, lOf, lOfO, sRetO, iOw, dVarF, lCat, lCall, dAbs, dMax2, dMin2, dInt, atO, setO, MO.getL, MO.putL, Option.isSome_some,
  dInK, dGetK, dGetD, dInD, dGet1, lKeys, lSort, dLenSet, dLenSetL, dLenSet2, sPar3, dRevT, sPutK, xDct, xDct1, sRetK, atK, keyD, sAugI, dFld, sFldD, xRng, iRgO, dNew, dNewV, dCM, dProp, dMeth, dLenI, dStrO, dEqI, dIsC, dJoin, dJs, dFmt, dCallML, sSubI, gSubW, sWh, dRepU, dKeep2, lSortSet, lSortTu, lDc, dRepT, lRep, dStrI, xDctT1, xDctOf, dInT, sPutT, lSortT2, lSortDT, dPop, dBinR, retOL, lKeep, dKeep, dCallMO, atT, dCallO,
  kit_int, kit_bool, kit_tuple, kit_str, List.map_cons, List.map_nil, List.cons_append, List.nil_append, List.replicate, List.set_cons_zero, List.set_cons_succ, List.getElem?_cons_zero, List.getElem?_cons_succ, List.length_cons, List.length_nil, List.length_map, Nat.reduceAdd, Nat.reduceSub, Bool.not_true, Bool.not_false, Bool.false_eq_true, if_true, if_false, true_and, reduceCtorEq, Bool.true_eq_false, rgD_rgI, Option.some.injEq, exists_eq_left', and_true])
theorem rch_mono {p : F1} {u : Int} {ms ms' : List Int} {x : Int} (h : Rch p u ms x) (sub : ∀ m, m ∈ ms → m ∈ ms') : Rch p u ms' x := fun S a b => h S a fun f m hf hm => b f m hf (sub m hm)
theorem v__law_plus_makers : VD g__law_plus_makers S__law_plus_makers 1 3 := fun ds Q _ h => by
  obtain ⟨n, p, u, rfl, hg, h⟩ := h
  have g := hg.1
  have hn := hg.2
  unfold g__law_plus_makers
  walk_at "dd"
  refine ⟨n, p, u, rfl, hg, by decide, by decide, ?_⟩
  rw [tab_len]
  refine ⟨rgd (by omega), ?_⟩
  try rw [rgD_rgI]
  refine wpFor_pre (rgI n) PyData.int (fun l1 ρ => ∃ (M F : List Int) (x3 : Option SV), ρ = [some (.im (tR (tab n p))), some (.im (.list (M.map PyData.int))), some (.ow (.lst (F.map PyData.int))), x3] ∧ okT x3 ∧ F.length ≤ l1.length ∧ (∀ x, x ∈ F → In n x) ∧ (∀ x, x ∈ M ↔ Rch p u F x) ∧ ∀ x, x ∈ l1 → Rch p u F x) ⟨[u], [], _, rfl, okT_none, by simp, (fun x hx => by cases hx), (fun x => ⟨fun hx => by rw [List.mem_singleton.mp hx]; exact fun S a _ => a, fun r => r (· ∈ [u]) (by simp) fun f m _ hm => by cases hm⟩), fun x hx => by cases hx⟩ (fun l1 x l2 e ρ K i k1 => ?_) (fun ρ i => ?_)
  · obtain ⟨M, F, x3, rfl, k3, lF, rF, hM, al⟩ := i
    have hx : In n x := In.mem.1 (by rw [e]; simp)
    have ll := congrArg List.length e
    rw [rgI_len, List.length_append, List.length_cons] at ll
    try walk_at "dd"
    refine ⟨_, rfl, rfl, all_scI M, ?_⟩
    dsimp only
    rw [if_pos rfl, in_con]
    refine ite_ways (fun e4 => ?_) (fun e4 => ?_)
    · try walk_at "dd"
      refine ⟨by omega, F.map PyData.int ++ [.int x], rfl, fun d hd => ?_, ?_⟩
      · rcases List.mem_append.mp hd with w | w
        · obtain ⟨i, _, rfl⟩ := List.mem_map.mp w
          exact .int i
        · rw [List.mem_singleton.mp w]; exact .int x
      try walk_at "dd"
      have rF' : ∀ y, y ∈ F ++ [x] → In n y := fun y hy => by
        rcases List.mem_append.mp hy with w | w
        · exact rF y w
        · rw [List.mem_singleton.mp w]; exact hx
      refine ⟨n, p, u, F ++ [x], by rw [List.map_append]; rfl, hg, rF', by simp; omega, fun L lL hL => ?_⟩
      refine ⟨by decide, fun j sv ne hj => ?_, fun d hd => ?_, ?_⟩
      · match j, ne, hj with
        | 0, _, hj => cases hj; exact .inr rfl
        | 1, _, hj => cases hj; exact .inr rfl
        | 2, ne, _ => exact (ne rfl).elim
        | 3, _, hj => cases hj; exact .inr rfl
        | j + 4, _, hj => cases hj
      · obtain ⟨i, _, rfl⟩ := List.mem_map.mp hd
        exact .int i
      · refine k1 _ ⟨L, F ++ [x], _, by rw [List.map_append]; rfl, okT_im (.int x), by simp; omega, rF', hL, fun y hy => ?_⟩
        rcases List.mem_append.mp hy with w | w
        · exact rch_mono (al y w) fun m hm => List.mem_append_left _ hm
        · rw [List.mem_singleton.mp w]
          intro S a b
          have := b u x a (by simp)
          rwa [g.ul x hx] at this
    · refine k1 _ ⟨M, F, _, rfl, okT_im (.int x), by simp; omega, rF, hM, fun y hy => ?_⟩
      rcases List.mem_append.mp hy with w | w
      · exact al y w
      · rw [List.mem_singleton.mp w]
        exact (hM x).1 (by simpa using e4)
  · obtain ⟨M, F, x3, rfl, k3, lF, rF, hM, al⟩ := i
    rw [rgI_len] at lF
    try walk_at "dd"
    exact h F lF rF fun x hx => al x (In.mem.2 hx)
def wi (KV : List (Int × Int)) : List (Key × D) := KV.map fun e => (Sum.inl e.1, PyData.int e.2)
def lkI (KV : List (Int × Int)) (x : Int) : Option Int := (KV.find? fun e => decide (e.1 = x)).map (·.2)
theorem valD_wi (KV : List (Int × Int)) (x : Int) : valD (wi KV) (.inl x) = (lkI KV x).map PyData.int := by
  unfold valD lkI wi
  induction KV with
  | nil => rfl
  | cons e w ih =>
    rw [List.map_cons, List.find?_cons, List.find?_cons]
    by_cases h : e.1 = x
    · simp [h]
    · simp only [h, decide_false, Sum.inl.injEq]
      exact ih
theorem putD_wi (KV : List (Int × Int)) (x y : Int) (h : lkI KV x = none) : putD (wi KV) (.inl x) (.int y) = wi (KV ++ [(x, y)]) := by
  rw [putD_new _ (by rw [valD_wi, h]; rfl)]
  unfold wi
  simp
theorem lkI_some {KV : List (Int × Int)} {x y : Int} (h : lkI KV x = some y) : (x, y) ∈ KV := by
  unfold lkI at h
  obtain ⟨e, h1, h2⟩ := Option.map_eq_some_iff.mp h
  have := List.find?_some h1
  have hm := List.mem_of_find?_eq_some h1
  obtain ⟨a, b⟩ := e
  simp at this h2
  subst this h2
  exact hm
theorem lkI_none {KV : List (Int × Int)} {x : Int} : lkI KV x = none ↔ x ∉ KV.map (·.1) := by
  unfold lkI
  rw [Option.map_eq_none_iff, List.find?_eq_none]
  constructor
  · intro h hm
    obtain ⟨e, he, rfl⟩ := List.mem_map.mp hm
    exact h e he (by simp)
  · intro h e he q
    exact h (List.mem_map.mpr ⟨e, he, by simpa using q⟩)
theorem lkI_has {KV : List (Int × Int)} {x : Int} (h : x ∈ KV.map (·.1)) : ∃ y, lkI KV x = some y := by
  cases e : lkI KV x with
  | none => exact (lkI_none.1 e h).elim
  | some y => exact ⟨y, rfl⟩
def Sp (n : Nat) (p : F1) (u : Int) (KV : List (Int × Int)) (W : List Int) : Prop := (KV.map (·.1)).Nodup ∧ u ∈ KV.map (·.1) ∧ (∀ e, e ∈ KV → In n e.1 ∧ In n e.2) ∧ (∀ x, x ∈ W → x ∈ KV.map (·.1)) ∧ W.length ≤ KV.length
theorem Sp.few {n : Nat} {p : F1} {u : Int} {KV : List (Int × Int)} {W : List Int} (h : Sp n p u KV W) : KV.length ≤ n := by
  have := nodup_len h.1 (l' := rgI n) fun x hx => by
    obtain ⟨e, he, rfl⟩ := List.mem_map.mp hx
    exact In.mem.2 (h.2.2.1 e he).1
  rwa [rgI_len, List.length_map] at this
theorem Sp.new {n : Nat} {p : F1} {u : Int} {KV : List (Int × Int)} {W : List Int} (h : Sp n p u KV W) {x y : Int} (hx : In n x) (hy : In n y) (no : x ∉ KV.map (·.1)) : Sp n p u (KV ++ [(x, y)]) (W ++ [x]) := by
  obtain ⟨h1, h2, h3, h4, h5⟩ := h
  refine ⟨?_, by rw [List.map_append]; exact List.mem_append_left _ h2, fun e he => ?_, fun z hz => ?_, by simpa using h5⟩
  · rw [List.map_append, List.nodup_append]
    refine ⟨h1, by simp, fun a ha b hb e => no ?_⟩
    rw [show b = x from by simpa using hb] at e
    exact e ▸ ha
  · rcases List.mem_append.mp he with w | w
    · exact h3 e w
    · rw [List.mem_singleton.mp w]; exact ⟨hx, hy⟩
  · rw [List.map_append]
    rcases List.mem_append.mp hz with w | w
    · exact List.mem_append_left _ (h4 z w)
    · exact List.mem_append_right _ (by simpa using w)
theorem zp_ints (a b : List Int) : zpD (a.map PyData.int) (b.map PyData.int) = (a.zip b).map fun e => PyData.tuple [.int e.1, .int e.2] := by
  unfold zpD
  rw [List.zipWith_map_left, List.zipWith_map_right, List.zip_eq_zipWith, List.map_zipWith]
theorem v__law_spread_goals : VD g__law_spread_goals S__law_spread_goals 5 9 := fun ds Q _ h => by
  obtain ⟨n, p, u, ms, gs, rfl, hg, hms, lg, hgs, lm, hr, h1, h2⟩ := h
  have g := hg.1
  have hn := hg.2
  unfold g__law_spread_goals
  walk_at "dd"
  refine ⟨n, p, u, rfl, hg, _, rfl, n, p, u, rfl, hg, by decide, ?_⟩
  refine wpWh_lt (β := List (Int × Int) × List Int) (fun b ρ => ∃ x7 x8 x9 x10 x11, ρ = [some (.im (tR (tab n p))), some (.im (tR (tab n p))), some (.im (.list (ms.map PyData.int))), some (.im (tI gs)), some (.im (.int u)), some (.ow (.dct (wi b.1))), some (.ow (.lst (b.2.map PyData.int))), x7, x8, x9, x10, x11, none, none] ∧ Sp n p u b.1 b.2 ∧ ∀ f, f ∈ b.1.map (·.1) → f ∈ b.2 ∨ ∀ m, m ∈ ms → p f m ∈ b.1.map (·.1)) (fun b => 2 * (n - b.1.length) + b.2.length) (fun b ρ K2 j k2 => ?_) (b := ([(u, u)], [u])) ⟨_, _, _, _, _, rfl, ⟨by simp, by simp, fun e he => by rw [List.mem_singleton.mp he]; exact ⟨g.un, g.un⟩, fun y hy => by simpa using hy, by simp⟩, fun f hf => .inl (by simpa using hf)⟩
  obtain ⟨KV, W⟩ := b
  obtain ⟨x7, x8, x9, x10, x11, rfl, I, cl⟩ := j
  dsimp only at I cl k2 ⊢
  have fl := I.few
  have wl := I.2.2.2.2
  walk_at "dd"
  refine ⟨⟨_, rfl⟩, by decide, sh_lI, by decide +kernel, ?_⟩
  rw [eqv_nil]
  refine ⟨rfl, ite_ways (fun e2 => ?_) (fun e2 => ?_)⟩
  · have wn : W ≠ [] := by
      rintro rfl
      simp at e2
    obtain ⟨W0, w, rfl⟩ : ∃ W0 w, W = W0 ++ [w] := ⟨W.dropLast, W.getLast wn, (List.dropLast_concat_getLast wn).symm⟩
    refine ⟨W0.map PyData.int, .int w, by simp, ?_⟩
    have wO := I.2.2.2.1 w (by simp)
    have I0 : Sp n p u KV W0 := ⟨I.1, I.2.1, I.2.2.1, fun f hf => I.2.2.2.1 f (by simp [hf]), by simp at wl; omega⟩
    try walk_at "dd"
    refine ⟨_, _, rfl, rfl, ?_⟩
    rw [zp_ints]
    refine wpFor_pre (ms.zip gs) (fun e => PyData.tuple [.int e.1, .int e.2]) (fun m1 ρ => ∃ (KV' : List (Int × Int)) (W' : List Int) (x8 x9 x10 x11 : Option SV), ρ = [some (.im (tR (tab n p))), some (.im (tR (tab n p))), some (.im (.list (ms.map PyData.int))), some (.im (tI gs)), some (.im (.int u)), some (.ow (.dct (wi KV'))), some (.ow (.lst (W'.map PyData.int))), some (.im (.int w)), x8, x9, x10, x11, none, none] ∧ (Sp n p u KV' W' ∧ (∀ f, f ∈ KV'.map (·.1) → f ∈ W' ∨ f = w ∨ ∀ m, m ∈ ms → p f m ∈ KV'.map (·.1)) ∧ w ∈ KV'.map (·.1) ∧ ∀ e, e ∈ m1 → p w e.1 ∈ KV'.map (·.1)) ∧ 2 * (n - KV'.length) + W'.length ≤ 2 * (n - KV.length) + W0.length) ⟨KV, W0, _, _, _, _, rfl, ⟨I0, fun f hf => (cl f hf).elim (fun m => (List.mem_append.mp m).elim .inl fun m => .inr (.inl (List.mem_singleton.mp m))) fun c => .inr (.inr c), wO, fun y hy => by cases hy⟩, Nat.le_refl _⟩ (fun m1 e m2 em ρ K3 j k3 => ?_) (fun ρ j => ?_)
    · obtain ⟨KV', W', x8, x9, x10, x11, rfl, ⟨I', cl', wO, dn⟩, ms'⟩ := j
      have he : e ∈ ms.zip gs := by rw [em]; simp
      obtain ⟨m, gl⟩ := e
      obtain ⟨hm, hgl⟩ := List.of_mem_zip he
      have hmi := hms m hm
      have hgi := hgs gl hgl
      obtain ⟨kw, hkw⟩ := lkI_has wO
      have hw := I'.2.2.1 _ (lkI_some hkw)
      have wr : In n w := hw.1
      have hkr : In n kw := hw.2
      have hu := g.rg _ _ wr hmi
      have hv := g.rg _ _ hkr hgi
      have fl' := I'.few
      try walk_at "dd"
      refine ixTR wr (ixY hmi ?_)
      refine ⟨_, _, .int kw, rfl, rfl, by rw [valD_wi, hkw]; rfl, ixTR hkr (ixY hgi ⟨_, _, rfl, rfl, ?_⟩)⟩
      rw [valD_wi]
      have mem2 : ∀ y, y ∈ m1 ++ [(m, gl)] → ∀ S : List Int, (∀ y, y ∈ m1 → p w y.1 ∈ S) → p w m ∈ S → p w y.1 ∈ S := fun y hy S a b => by
        rcases List.mem_append.mp hy with z | z
        · exact a y z
        · rw [List.mem_singleton.mp z]; exact b
      cases hk : lkI KV' (p w m) with
      | none =>
        rw [if_pos (by decide)]
        have nin := lkI_none.1 hk
        have I2 := I'.new hu hv nin
        refine ⟨_, _, rfl, rfl, Nat.lt_of_le_of_lt (Nat.le_trans (by unfold wi; rw [List.length_map]; exact fl') hn) (by decide), by have := I'.2.2.2.2; omega, ?_⟩
        rw [putD_wi _ _ _ hk]
        refine k3 _ ⟨KV' ++ [(p w m, p kw gl)], W' ++ [p w m], _, _, _, _, by rw [List.map_append]; rfl, ⟨I2, fun f hf => ?_, by rw [List.map_append]; exact List.mem_append_left _ wO, fun y hy => mem2 y hy _ (fun y hy => by rw [List.map_append]; exact List.mem_append_left _ (dn y hy)) (by simp)⟩, ?_⟩
        · rw [List.map_append] at hf ⊢
          rcases List.mem_append.mp hf with hf | hf
          · rcases cl' f hf with c | c | c
            · exact .inl (List.mem_append_left _ c)
            · exact .inr (.inl c)
            · exact .inr (.inr fun y hy => List.mem_append_left _ (c y hy))
          · exact .inl (List.mem_append_right _ (by simpa using hf))
        · have := I2.few
          simp at this ⊢
          omega
      | some y =>
        rw [if_neg (by simp)]
        refine ⟨_, _, .int y, rfl, rfl, by rw [valD_wi, hk]; rfl, rfl, rfl, ite_ways (fun _ => h1) fun _ => ?_⟩
        exact k3 _ ⟨KV', W', _, _, _, _, rfl, ⟨I', cl', wO, fun y hy => mem2 y hy _ dn (List.mem_map.mpr ⟨_, lkI_some hk, rfl⟩)⟩, ms'⟩
    · obtain ⟨KV', W', x8, x9, x10, x11, rfl, ⟨I', cl', wO, dn⟩, ms'⟩ := j
      have dn2 : ∀ m, m ∈ ms → p w m ∈ KV'.map (·.1) := fun m hm => by
        rw [← List.map_fst_zip (l₁ := ms) (l₂ := gs) (by omega)] at hm
        obtain ⟨e, he, rfl⟩ := List.mem_map.mp hm
        exact dn e he
      refine k2 (KV', W') _ ?_ ⟨_, _, _, _, _, rfl, I', fun f hf => (cl' f hf).elim .inl fun c => .inr (c.elim (fun e => by rw [e]; exact dn2) id)⟩
      simp at ms' ⊢
      omega
  · have W0 : W = [] := by simpa using e2
    subst W0
    have al : ∀ x, In n x → ∃ y, lkI KV x = some y ∧ In n y := fun x hx => by
      have hk := hr x hx (· ∈ KV.map (·.1)) I.2.1 fun f m hf hm => by
        rcases cl f hf with z | z
        · cases z
        · exact z m hm
      obtain ⟨y, hy⟩ := lkI_has hk
      exact ⟨y, hy, (I.2.2.1 _ (lkI_some hy)).2⟩
    try walk_at "dd"
    rw [tab_len]
    refine ⟨rgd (by omega), ?_⟩
    try rw [rgD_rgI]
    refine wpLc_mapL (rgI n) PyData.int (fun x => .int ((lkI KV x).getD 0)) (by rw [rgI_len]; omega) rfl (fun x hx K hK => ?_) (fun _ => rfl) ?_
    · obtain ⟨y, hy, hyr⟩ := al x (In.mem.1 hx)
      try walk_at "dd"
      refine ⟨_, _, .int y, rfl, rfl, by rw [valD_wi, hy]; rfl, ?_⟩
      rw [hy] at hK
      exact hK _ rfl
    · try walk_at "dd"
      rw [tI_map]
      refine ⟨(rgI n).map fun x => (lkI KV x).getD 0, rfl, by rw [List.length_map, rgI_len]; omega, fun k hk => ?_⟩
      refine ⟨rfl, rfl, ?_⟩
      rw [tab_len, eqv_int]
      refine ite_ways (fun e => h2 _ (Mv.of (by rw [List.length_map, rgI_len]) (hk.1 ?_) fun x hx => ?_)) fun _ => h1
      · rw [List.length_map, rgI_len]
        have := of_decide_eq_true e
        omega
      · obtain ⟨z, hz, rfl⟩ := List.mem_map.mp hx
        obtain ⟨y, hy, hyr⟩ := al z (In.mem.1 hz)
        rw [hy]
        exact hyr
theorem v__law_goal_rows : VD g__law_goal_rows S__law_goal_rows 2 5 := fun ds Q _ h => by
  obtain ⟨n, m, rfl, hn, hm, h⟩ := h
  unfold g__law_goal_rows
  walk_at "dd"
  refine ⟨by decide, by decide, rgd (by omega), ?_⟩
  refine wpFor_pre (rgI m) PyData.int (fun l1 ρ => ∃ (C : List (List Int)) (x3 x4 x5 : Option SV), ρ = [some (.im (.int n)), some (.im (.int m)), some (.im (tL C)), x3, x4, x5, none] ∧ C.length ≤ 4 ^ l1.length ∧ ∀ r, r ∈ C → r.length = l1.length ∧ ∀ x, x ∈ r → In n x) ⟨[[]], _, _, _, rfl, by simp, fun r hr => by rw [List.mem_singleton.mp hr]; exact ⟨rfl, fun x hx => by cases hx⟩⟩ (fun l1 i l2 e ρ K j k1 => ?_) (fun ρ j => ?_)
  · obtain ⟨C, x3, x4, x5, rfl, lC, hC⟩ := j
    have ll := congrArg List.length e
    rw [rgI_len, List.length_append, List.length_cons] at ll
    have p4 : 4 ^ l1.length ≤ 4 ^ 3 := Nat.pow_le_pow_right (by decide) (by omega)
    have lC2 : C.length ≤ 64 := Nat.le_trans lC p4
    try walk_at "dd"
    refine ⟨by decide, _, rfl, ?_⟩
    refine wpFor_pre C tI (fun c1 ρ => ∃ (B : List (List Int)) (x5 : Option SV), ρ = [some (.im (.int n)), some (.im (.int m)), some (.im (tL C)), some (.im (.int i)), some (.ow (.lst (B.map tI))), x5, none] ∧ B.length ≤ 4 * c1.length ∧ ∀ r, r ∈ B → r.length = l1.length + 1 ∧ ∀ x, x ∈ r → In n x) ⟨[], _, rfl, by simp, fun r hr => by cases hr⟩ (fun c1 r c2 e2 ρ K2 j k2 => ?_) (fun ρ j => ?_)
    · obtain ⟨B, x5, rfl, lB, hB⟩ := j
      have hr : r ∈ C := by rw [e2]; simp
      obtain ⟨lr, hri⟩ := hC r hr
      have ll2 := congrArg List.length e2
      rw [List.length_append, List.length_cons] at ll2
      try walk_at "dd"
      refine ⟨rgd (by omega), ?_⟩
      try rw [rgD_rgI]
      refine wpLc_filL (rgI n) PyData.int (fun x => tI (r ++ [x])) (fun x => !r.contains x) (by rw [rgI_len]; omega) rfl (fun x hx K3 N hK hN => ?_) ?_
      · have hx := In.mem.1 hx
        try walk_at "dd"
        refine ⟨r.map PyData.int, rfl, rfl, all_scI r, ?_⟩
        dsimp only
        rw [if_pos rfl, in_con]
        refine ite_ways (fun e4 => ?_) (fun e4 => ?_)
        · refine ⟨by decide, by show (r.map PyData.int).length + 1 ≤ _; rw [List.length_map]; omega, ?_⟩
          rw [show PyData.tuple (r.map PyData.int ++ [.int x]) = tI (r ++ [x]) from by unfold tI; rw [List.map_append]; rfl]
          exact hK e4 _ rfl
        · exact hN e4 _ rfl
      · have lf : ((rgI n).filter fun x => !r.contains x).length ≤ 4 := Nat.le_trans (List.length_filter_le _ _) (by rw [rgI_len]; exact hn)
        try walk_at "dd"
        refine ⟨_, _, rfl, rfl, ?_, ?_⟩
        · rw [List.length_map, List.length_map]
          omega
        · refine k2 _ ⟨B ++ ((rgI n).filter fun x => !r.contains x).map fun x => r ++ [x], _, by rw [List.map_append, List.map_map]; rfl, ?_, fun s hs => ?_⟩
          · rw [List.length_append, List.length_append, List.length_map, List.length_singleton]
            omega
          · rcases List.mem_append.mp hs with w | w
            · exact hB s w
            · obtain ⟨x, hx, rfl⟩ := List.mem_map.mp w
              have hx := In.mem.1 (List.mem_filter.mp hx).1
              refine ⟨by rw [List.length_append, lr]; rfl, fun y hy => ?_⟩
              rcases List.mem_append.mp hy with z | z
              · exact hri y z
              · rw [List.mem_singleton.mp z]; exact hx
    · obtain ⟨B, x5, rfl, lB, hB⟩ := j
      try walk_at "dd"
      refine k1 _ ⟨B, _, _, _, rfl, ?_, fun r hr => ?_⟩
      · rw [List.length_append, List.length_singleton, Nat.pow_succ]
        omega
      · rw [List.length_append]
        exact hB r hr
  · obtain ⟨C, x3, x4, x5, rfl, lC, hC⟩ := j
    rw [rgI_len] at lC hC
    try walk_at "dd"
    exact h C (Nat.le_trans lC (Nat.pow_le_pow_right (by decide) hm)) hC
theorem v__law_drawn_paper : VM g__law_drawn_paper S__law_drawn_paper 3 4 := fun l ms ds Q _ h => by
  obtain ⟨k, q, s, n, p, t, rfl, k1, n1, k2, n2, hm, h1, h2⟩ := h
  have kT : (k : Int) ≤ T60 := Int.le_trans (b := 24) (by omega) (by decide)
  have nT : (n : Int) ≤ T60 := Int.le_trans (b := 24) (by omega) (by decide)
  unfold g__law_drawn_paper
  walk_at "dd"
  refine ld0 ?_
  try walk_at "dd"
  rw [tab_len]
  refine ⟨k, rfl, by omega, kT, hm, fun a ms1 a0 a1 hm1 => ld0 ?_⟩
  try walk_at "dd"
  rw [tab_len]
  refine ⟨k, rfl, by omega, kT, hm1, fun b ms2 b0 b1 hm2 => ld0 ?_⟩
  try walk_at "dd"
  rw [tab_len]
  refine ⟨n, rfl, by omega, nT, hm2, fun x ms3 x0 x1 hm3 => ld0 ?_⟩
  try walk_at "dd"
  rw [tab_len]
  refine ⟨n, rfl, by omega, nT, hm3, fun y ms4 y0 y1 hm4 => ⟨by decide, by decide, by decide, _, _, rfl, rfl, by simp, by simp, hm4, fun d ms5 hd hm5 => ⟨ms5, rfl, ?_⟩⟩⟩
  simp only [List.mem_cons, List.not_mem_nil, or_false] at hd
  rcases hd with rfl | rfl
  · exact h1 a x y ms5 ⟨a0, a1⟩ ⟨x0, x1⟩ ⟨y0, y1⟩ hm5
  · exact h2 a b ms5 ⟨a0, a1⟩ ⟨b0, b1⟩ hm5
theorem v__law_likenesses_to : VD g__law_likenesses_to S__law_likenesses_to 2 6 := fun ds Q _ h => by
  obtain ⟨n, p, u, t, rfl, hd, n4, h⟩ := h
  have g := hd.gr
  have G24' : G24 n p u := ⟨g, by omega⟩
  unfold g__law_likenesses_to
  walk_at "dd"
  refine ld0 ?_
  try walk_at "dd"
  rw [tab_len]
  refine ld0 ?_
  try walk_at "dd"
  rw [tab_len]
  refine ⟨rfl, rfl, ?_⟩
  rw [eqv_int, decide_eq_true rfl, if_neg (by decide)]
  refine ld0 ⟨n, p, u, rfl, G24', fun ms lms rms al => ld0 ⟨n, p, u, rfl, G24', by decide, ?_⟩⟩
  try walk_at "dd"
  refine ⟨n, ms.length, rfl, n4, by omega, fun C lC hC => ⟨_, rfl, ?_⟩⟩
  refine wpFor_pre C tI (fun l1 ρ => ∃ (F : List (List Int)) (x6 x7 : Option SV), ρ = [some (.im (ldD n p t)), some (.im (ldD n p t)), some (.im (.int n)), some (.im (.list (ms.map PyData.int))), some (.im (.int u)), some (.ow (.lst (F.map tI))), x6, x7] ∧ F.length ≤ l1.length ∧ ∀ r, r ∈ F → Mv n r) ⟨[], _, _, rfl, by simp, fun r hr => by cases hr⟩ (fun l1 gs l2 e ρ K j k1 => ?_) (fun ρ j => ?_)
  · obtain ⟨F, x6, x7, rfl, lF, hF⟩ := j
    have hgs := hC gs (by rw [e]; simp)
    have ll := congrArg List.length e
    rw [List.length_append, List.length_cons] at ll
    try walk_at "dd"
    refine ld0 (ld0 ⟨n, p, u, ms, gs, rfl, G24', rms, hgs.1, hgs.2, by omega, al, ?_, fun m hm => ?_⟩)
    · try walk_at "dd"
      exact k1 _ ⟨F, _, _, rfl, by simp; omega, hF⟩
    · try walk_at "dd"
      refine ⟨n, p, u, t, m, rfl, ⟨hd, by omega⟩, hm, ?_⟩
      try walk_at "dd"
      refine ite_ways (fun _ => ?_) (fun _ => ?_)
      · refine ⟨by omega, ?_⟩
        refine k1 _ ⟨F ++ [m], _, _, by rw [List.map_append]; rfl, by simp; omega, fun r hr => ?_⟩
        rcases List.mem_append.mp hr with w | w
        · exact hF r w
        · rw [List.mem_singleton.mp w]; exact hm
      · exact k1 _ ⟨F, _, _, rfl, by simp; omega, hF⟩
  · obtain ⟨F, x6, x7, rfl, lF, hF⟩ := j
    try walk_at "dd"
    refine ⟨F, rfl, fun l hl => ?_, fun L' pm _ => ?_⟩
    · rintro rfl
      have := (hF [] hl).len
      have := g.un
      unfold In at this
      simp at *
      omega
    · exact h L' (by rw [pm.length_eq]; omega) fun r hr => hF r (pm.mem_iff.mp hr)
end Dn.T.G.B.K37.K84
set_option Elab.async false
set_option linter.all false
set_option maxRecDepth 100000
set_option autoImplicit false
set_option maxHeartbeats 4000000
namespace Dn.T.G.B.K37.K84
open PySem L2 Evl PySem.Spec PyProof.Rows
open Dn.T.G.B.K66 (Sc sc_sh sc_sh1 sc_shl scc scn thIn)
local macro_rules | `(tactic| walk_at "dd") => `(tactic| simp only [sSeq, sIf, sSet, sRet, sRetN, sNx, sEx, sAsg, sPar, dTOr, dTAnd, dTNot, dTst, dIsi, dVar, dC, dBin, dChain, dNeg, dI2, dAnd, dOr, dNot, dIfE, dCall, dCallF, aCons, aNil, dTup, lLst, dOfL, xIm, xOw, gNm, gTp, gsCons, gsNil, dYes, envD, dLen_tR, dLen_tI, dLen_tup, dLen_lst, seq_tR, seq_tI, seq_tup, seq_lst, dIs, dIsNot, dNe, dEq, dTupOf, dSl, oNone, oSome, iSq, iEn, iR1, iR2, sFor, lLc, sNever, dTRg, rg1, rg2, lRg, wipeD, isN,
  gTpL, dIxP, sSub, dApp, dPopAt, dExt, dCallM, dCallO, dBinO, dTupO, lOf, lOfO, sRetO, iOw, dVarF, lCat, lCall, dAbs, dMax2, dMin2, dInt, atO, setO, MO.getL, MO.putL, Option.isSome_some,
  dInK, dGetK, dGetD, dInD, dGet1, lKeys, lSort, dLenSet, dLenSetL, dLenSet2, sPar3, dRevT, sPutK, xDct, xDct1, sRetK, atK, keyD, sAugI, dFld, sFldD, xRng, iRgO, dNew, dNewV, dCM, dProp, dMeth, dLenI, dStrO, dEqI, dIsC, dJoin, dJs, dFmt, dCallML, sSubI, gSubW, sWh, dRepU, dKeep2, lSortSet, lSortTu, lDc, dRepT, lRep, dStrI, xDctT1, xDctOf, dInT, sPutT, lSortT2, lSortDT, dPop, dBinR, retOL, lKeep, dKeep, dCallMO, atT, dCallO,
  kit_int, kit_bool, kit_tuple, kit_str, List.map_cons, List.map_nil, List.cons_append, List.nil_append, List.replicate, List.set_cons_zero, List.set_cons_succ, List.getElem?_cons_zero, List.getElem?_cons_succ, List.length_cons, List.length_nil, List.length_map, Nat.reduceAdd, Nat.reduceSub, Bool.not_true, Bool.not_false, Bool.false_eq_true, if_true, if_false, true_and, reduceCtorEq, Bool.true_eq_false, rgD_rgI, Option.some.injEq, exists_eq_left', and_true])
def g_e : DS := sSeq (sPar 16 17 (xIm (dCall dLen (aCons (dBin dIx (dVar 1) (dC (.int 0))) (aNil)))) (xIm (dCall dLen (aCons (dBin dIx (dVar 2) (dC (.int 0))) (aNil))))) (sSeq (sSet 18 (xIm (dOfL (lLst (aCons (dC .none) (aCons (dTup (aNil)) (aCons (dC (.str "join")) (aCons (dOfL (lLst (aCons (dC (.str "join")) (aNil)))) (aCons (dTup (aCons (dC (.str "join")) (aCons (dC (.int 0)) (aNil)))) (aCons (dTup (aCons (dC (.str "likeness")) (aNil))) (aCons (dTup (aCons (dC (.str "likeness")) (aCons (dC (.int 0)) (aCons (dC (.int 0)) (aNil))))) (aCons (dTup (aCons (dC (.str "joined")) (aCons (dC (.int 0)) (aNil)))) (aCons (dTup (aCons (dC (.str "joined")) (aCons (dC (.int 0)) (aCons (dC (.int 0)) (aCons (dC (.int 0)) (aNil)))))) (aNil)))))))))))))) (sSeq (sSet 18 (xIm (dBin dAdd (dVar 18) (dOfL (lLst (aCons (dTup (aCons (dC (.str "joined")) (aCons (dVar 16) (aCons (dC (.int 0)) (aNil))))) (aCons (dTup (aCons (dC (.str "joined")) (aCons (dNeg (dC (.int 1))) (aCons (dC (.int 0)) (aNil))))) (aCons (dTup (aCons (dC (.str "joined")) (aCons (dC (.bool true)) (aCons (dC (.int 0)) (aNil))))) (aCons (dTup (aCons (dC (.str "likeness")) (aCons (dVar 16) (aCons (dC (.int 0)) (aCons (dC (.int 0)) (aNil)))))) (aCons (dTup (aCons (dC (.str "likeness")) (aCons (dC (.int 0)) (aCons (dVar 17) (aCons (dC (.int 0)) (aNil)))))) (aNil))))))))))) (sSeq (sSet 18 (xIm (dBin dAdd (dVar 18) (dOfL (lLst (aCons (dTup (aCons (dC (.str "likeness")) (aCons (dC (.int 0)) (aCons (dC (.int 0)) (aCons (dC (.str "0")) (aNil)))))) (aCons (dTup (aCons (dC (.str "rule")) (aCons (dC (.int 0)) (aCons (dC (.int 0)) (aNil))))) (aCons (dTup (aCons (dC .none) (aCons (dC (.int 0)) (aCons (dC (.int 0)) (aNil))))) (aCons (dTup (aCons (dC (.int 0)) (aNil))) (aCons (dTup (aCons (dC (.str "likeness")) (aCons (dTup (aCons (dC (.int 0)) (aNil))) (aCons (dC (.int 0)) (aCons (dC (.int 0)) (aNil)))))) (aCons (dC (.dict [])) (aCons (dTup (aCons (dC (.str "joined")) (aCons (dC (.int 0)) (aCons (dC .none) (aNil))))) (aNil))))))))))))) (sRet (dNot (dCall dAny (aCons (dOfL (lLc (iSq (dVar 18)) (gNm 10) (dYes) (dCallF 4 S_is_join_paper (aCons (dVar 5) (aCons (dVar 6) (aCons (dVar 4) (aCons (dVar 10) (aNil)))))) [10])) (aNil))))))))
def g_d : DS := sSeq (sFor (iR1 (dC (.int 4))) (gNm 15) (sSeq (sSet 10 (xIm (dCallM 0 3 S__law_drawn_paper (aCons (dVar 1) (aCons (dVar 2) (aNil)))))) (sIf (dTst (dBin dNe (dCallF 4 S_is_join_paper (aCons (dVar 5) (aCons (dVar 6) (aCons (dVar 4) (aCons (dVar 10) (aNil)))))) (dCallF 4 S__law_says (aCons (dVar 1) (aCons (dVar 2) (aCons (dVar 4) (aCons (dVar 10) (aNil)))))))) (sRet (dC (.bool false))) (sNx)))) (g_e)
def g_c : DS := sSeq (sSet 5 (xIm (dNew 3 "Double" S_Double____init__ (aCons (dNew 2 "Group" S_Group____init__ (aCons (dCall dTupOf (aCons (dBin dIx (dVar 1) (dC (.int 0))) (aNil))) (aNil))) (aCons (dNew 2 "Group" S_Group____init__ (aCons (dCallF 1 S__law_circle_of (aCons (dVar 1) (aNil))) (aNil))) (aNil)))))) (sSeq (sSet 6 (xIm (dNew 3 "Double" S_Double____init__ (aCons (dNew 2 "Group" S_Group____init__ (aCons (dCall dTupOf (aCons (dBin dIx (dVar 2) (dC (.int 0))) (aNil))) (aNil))) (aCons (dNew 2 "Group" S_Group____init__ (aCons (dCallF 1 S__law_circle_of (aCons (dVar 2) (aNil))) (aNil))) (aNil)))))) (sSeq (sSet 7 (xIm (dC (.bool true)))) (sSeq (sFor (iR1 (dCall dLen (aCons (dVar 4) (aNil)))) (gNm 8) (sFor (iR1 (dCall dLen (aCons (dVar 4) (aNil)))) (gNm 9) (sSeq (sSet 10 (xIm (dTup (aCons (dC (.str "joined")) (aCons (dVar 8) (aCons (dVar 9) (aNil))))))) (sSeq (sSet 11 (xIm (dCallF 4 S__law_says (aCons (dVar 1) (aCons (dVar 2) (aCons (dVar 4) (aCons (dVar 10) (aNil)))))))) (sSeq (sSet 7 (xIm (dAnd (dVar 7) (dNot (dVar 11))))) (sIf (dTst (dBin dNe (dCallF 4 S_is_join_paper (aCons (dVar 5) (aCons (dVar 6) (aCons (dVar 4) (aCons (dVar 10) (aNil)))))) (dVar 11))) (sRet (dC (.bool false))) (sNx))))))) (sSeq (sFor (iR1 (dCall dLen (aCons (dBin dIx (dVar 2) (dC (.int 0))) (aNil)))) (gNm 12) (sFor (iR1 (dCall dLen (aCons (dBin dIx (dVar 2) (dC (.int 0))) (aNil)))) (gNm 13) (sSeq (sSet 10 (xIm (dTup (aCons (dC (.str "likeness")) (aCons (dCallM 0 2 S__law_roll (aCons (dCall dLen (aCons (dVar 4) (aNil))) (aNil))) (aCons (dVar 12) (aCons (dVar 13) (aNil)))))))) (sIf (dTst (dBin dNe (dCallF 4 S_is_join_paper (aCons (dVar 5) (aCons (dVar 6) (aCons (dVar 4) (aCons (dVar 10) (aNil)))))) (dCallF 4 S__law_says (aCons (dVar 1) (aCons (dVar 2) (aCons (dVar 4) (aCons (dVar 10) (aNil)))))))) (sRet (dC (.bool false))) (sNx))))) (sSeq (sFor (iSq (dVar 4)) (gNm 14) (sSet 7 (xIm (dAnd (dVar 7) (dCallF 3 S__law_keeps_double (aCons (dVar 2) (aCons (dVar 2) (aCons (dVar 14) (aNil))))))))) (sSeq (sIf (dTst (dBin dNe (dCallF 4 S_is_join_paper (aCons (dVar 5) (aCons (dVar 6) (aCons (dVar 4) (aCons (dTup (aCons (dC (.str "join")) (aNil))) (aNil)))))) (dVar 7))) (sRet (dC (.bool false))) (sNx)) (g_d)))))))
theorem r_eq : g__law_right = sSeq (sPar 1 2 (xIm (dCallM 0 2 S__law_double (aCons (dC (.int 6)) (aNil)))) (xIm (dCallM 0 2 S__law_double (aCons (dC (.int 4)) (aNil))))) (sSeq (sSet 3 (xIm (dBin dAdd (dBin dAdd (dCallF 2 S__law_likenesses_to (aCons (dVar 2) (aCons (dVar 2) (aNil)))) (dOfL (lRep (dOfL (lLst (aCons (dCallF 1 S__law_idle (aCons (dCall dLen (aCons (dBin dIx (dVar 2) (dC (.int 0))) (aNil))) (aNil))) (aNil)))) (dC (.int 3))))) (dOfL (lLst (aCons (dCallM 0 2 S__law_drawn_move (aCons (dCall dLen (aCons (dBin dIx (dVar 2) (dC (.int 0))) (aNil))) (aNil))) (aNil))))))) (sSeq (sSet 4 (xIm (dCall dTupOf (aCons (dOfL (lLc (iSq (dBin dIx (dVar 1) (dC (.int 0)))) (gNm 19) (dYes) (dCallM 0 2 S__law_pick (aCons (dVar 3) (aNil))) [19])) (aNil))))) (sSeq (sIf (dTst (dBin dEq (dCallM 0 2 S__law_roll (aCons (dC (.int 3)) (aNil))) (dC (.int 0)))) (sSet 4 (xIm (dBin dRepU (dTup (aCons (dCallF 1 S__law_idle (aCons (dCall dLen (aCons (dBin dIx (dVar 2) (dC (.int 0))) (aNil))) (aNil))) (aNil))) (dCall dLen (aCons (dBin dIx (dVar 1) (dC (.int 0))) (aNil)))))) (sNx)) (g_c)))) := rfl
theorem s0 : Sc (.str "0") := by show PyData.strOk ("0" : Str) = true; decide +kernel
theorem sRu : Sc (.str "rule") := by show PyData.strOk ("rule" : Str) = true; decide +kernel
theorem noP_of {k : Nat} {d : D} (h : ∀ xs, d ≠ .tuple xs) : noP k d := by
  refine ⟨fun xs e => (h xs e).elim, fun a x y z e => (h _ e).elim, ?_, ?_⟩
  · cases d <;> first | rfl | exact (h _ rfl).elim
  · cases d <;> first | rfl | exact (h _ rfl).elim
theorem okV_of {xs : List D} (h : ∀ x, x ∈ xs → Sc x) (hl : xs.length ≤ 8) : okV (.tuple xs) := fun ys e => by
  cases e
  exact ⟨by omega, sc_sh h, fun x hx => sc_sh1 (h x hx)⟩
def EV (l : Addr) (k : Nat) (q : F1) (v : Int) (s : F1) (n : Nat) (p : F1) (u : Int) (t : F1) (A : List (List Int)) (ms : List D) (x3 x7 x8 x9 x10 x11 x12 x13 x14 x15 : Option SV) : Env := [some (.ow (.par l (.lst ms))), some (.im (ldD k q s)), some (.im (ldD n p t)), x3, some (.im (tR A)), some (.im (dblD k q v s)), some (.im (dblD n p u t)), x7, x8, x9, x10, x11, x12, x13, x14, x15, none, none, none, none]
def Wr (k n : Nat) (d : D) : Prop := (∃ a x y, d = .tuple [.str "likeness", a, x, y] ∧ okV d ∧ (isTh k a && (isTh n x && isTh n y)) = false) ∨ noP k d
theorem wr_join {k n : Nat} {q s p t : F1} {v u : Int} {A : List (List Int)} {d : D} (hq : D24 k q v s) (hd : D24 n p u t) (hA : Ac n k A) (w : Wr k n d) {Q : D → Prop} (h : Q (.bool false)) : S_is_join_paper [dblD k q v s, dblD n p u t, tR A, d] Q := by
  rcases w with ⟨a, x, y, rfl, hv, e⟩ | w
  · refine ⟨k, q, v, s, n, p, u, t, A, _, rfl, hq, hd, hA, .inl ⟨a, x, y, rfl, hv, ?_⟩⟩
    unfold lkB
    rw [e]
    exact h
  · exact ⟨k, q, v, s, n, p, u, t, A, _, rfl, hq, hd, hA, .inr (.inr (.inr ⟨w, h⟩))⟩
theorem okV_c {xs : List D} (hl : xs.length ≤ 8) (h : SeqAt.shaped (.tuple xs) = true) (h2 : xs.all SeqAt.shaped = true) : okV (.tuple xs) := fun ys e => by
  cases e
  exact ⟨by omega, h, fun x hx => List.all_eq_true.mp h2 x hx⟩
theorem wr_all (k n : Nat) : ∀ d, d ∈ [PyData.none, .tuple [], .str "join", .list [.str "join"], .tuple [.str "join", .int 0], .tuple [.str "likeness"], .tuple [.str "likeness", .int 0, .int 0], .tuple [.str "joined", .int 0], .tuple [.str "joined", .int 0, .int 0, .int 0],
    .tuple [.str "joined", .int k, .int 0], .tuple [.str "joined", .int (-1), .int 0], .tuple [.str "joined", .bool true, .int 0], .tuple [.str "likeness", .int k, .int 0, .int 0], .tuple [.str "likeness", .int 0, .int n, .int 0],
    .tuple [.str "likeness", .int 0, .int 0, .str "0"], .tuple [.str "rule", .int 0, .int 0], .tuple [.none, .int 0, .int 0], .tuple [.int 0], .tuple [.str "likeness", .tuple [.int 0], .int 0, .int 0], .dict [], .tuple [.str "joined", .int 0, .none]] → Wr k n d := by
  intro d hd
  simp only [List.mem_cons, List.not_mem_nil, or_false] at hd
  have nl : ∀ (h x y z : D) (xs : List D), xs.length ≠ 4 → PyData.tuple xs = .tuple [h, x, y, z] → isStr "likeness" h = false := fun h x y z xs a e => by cases e; exact (a rfl).elim
  rcases hd with rfl | rfl | rfl | rfl | rfl | rfl | rfl | rfl | rfl | rfl | rfl | rfl | rfl | rfl | rfl | rfl | rfl | rfl | rfl | rfl | rfl
  · exact .inr (noP_of fun xs e => by cases e)
  · exact .inr ⟨okV_of scn (by simp), fun h x y z e => nl h x y z _ (by simp) e, rfl, rfl⟩
  · exact .inr (noP_of fun xs e => by cases e)
  · exact .inr (noP_of fun xs e => by cases e)
  · exact .inr ⟨okV_of (scc sJ (scc trivial scn)) (by simp), fun h x y z e => nl h x y z _ (by simp) e, rfl, rfl⟩
  · exact .inr ⟨okV_of (scc sL scn) (by simp), fun h x y z e => nl h x y z _ (by simp) e, rfl, by decide +kernel⟩
  · exact .inr ⟨okV_of (scc sL (scc trivial (scc trivial scn))) (by simp), fun h x y z e => nl h x y z _ (by simp) e, by simp [isTold, isStr]; intro h; exact absurd h (by decide +kernel), rfl⟩
  · exact .inr ⟨okV_of (scc sJd (scc trivial scn)) (by simp), fun h x y z e => nl h x y z _ (by simp) e, rfl, rfl⟩
  · exact .inr ⟨okV_of (scc sJd (scc trivial (scc trivial (scc trivial scn)))) (by simp), fun h x y z e => by cases e; decide +kernel, rfl, rfl⟩
  · exact .inr ⟨okV_of (scc sJd (scc trivial (scc trivial scn))) (by simp), fun h x y z e => nl h x y z _ (by simp) e, by simp [isTold, isStr, isRow, isTh], rfl⟩
  · exact .inr ⟨okV_of (scc sJd (scc trivial (scc trivial scn))) (by simp), fun h x y z e => nl h x y z _ (by simp) e, by simp [isTold, isStr, isRow, isTh], rfl⟩
  · exact .inr ⟨okV_of (scc sJd (scc trivial (scc trivial scn))) (by simp), fun h x y z e => nl h x y z _ (by simp) e, by simp [isTold, isStr, isRow, isTh], rfl⟩
  · exact .inl ⟨_, _, _, rfl, okV_of (scc sL (scc trivial (scc trivial (scc trivial scn)))) (by simp), by simp [isTh]⟩
  · exact .inl ⟨_, _, _, rfl, okV_of (scc sL (scc trivial (scc trivial (scc trivial scn)))) (by simp), by simp [isTh]⟩
  · exact .inl ⟨_, _, _, rfl, okV_of (scc sL (scc trivial (scc trivial (scc s0 scn)))) (by simp), by simp [isTh]⟩
  · exact .inr ⟨okV_of (scc sRu (scc trivial (scc trivial scn))) (by simp), fun h x y z e => nl h x y z _ (by simp) e, by simp [isTold, isStr]; intro h; exact absurd h (by decide +kernel), rfl⟩
  · exact .inr ⟨okV_c (by simp) (by decide +kernel) (by decide +kernel), fun h x y z e => nl h x y z _ (by simp) e, by simp [isTold, isStr], rfl⟩
  · exact .inr ⟨okV_of (scc trivial scn) (by simp), fun h x y z e => nl h x y z _ (by simp) e, rfl, rfl⟩
  · exact .inl ⟨_, _, _, rfl, okV_c (by simp) (by decide +kernel) (by decide +kernel), by simp [isTh]⟩
  · exact .inr (noP_of fun xs e => by cases e)
  · exact .inr ⟨okV_c (by simp) (by decide +kernel) (by decide +kernel), fun h x y z e => nl h x y z _ (by simp) e, by simp [isTold, isStr, isRow, isTh], rfl⟩
theorem d_e {l : Addr} {k n : Nat} {q s p t : F1} {v u : Int} {A : List (List Int)} {ms : List D} {x3 x7 x8 x9 x10 x11 x12 x13 x14 x15 : Option SV} {Q : D → List D → Prop} (hq : D24 k q v s) (hd : D24 n p u t) (hA : Ac n k A) (hm : Dc ms) (h : Q (.bool true) ms) (E : DEnds) (hE : E.rt = fun d ρ => ∃ ms', ρ[0]? = some (some (.ow (.par l (.lst ms')))) ∧ Q d ms') :
    g_e E (EV l k q v s n p u t A ms x3 x7 x8 x9 x10 x11 x12 x13 x14 x15) := by
  unfold g_e EV
  walk_at "dd"
  refine ld0 ?_
  try walk_at "dd"
  rw [tab_len]
  refine ld0 ?_
  try walk_at "dd"
  rw [tab_len]
  repeat refine And.intro (by decide) ?_
  refine ⟨(show 9 + 5 ≤ 16777216 by decide), ?_⟩
  repeat refine And.intro (by decide) ?_
  refine ⟨(show 14 + 7 ≤ 16777216 by decide), _, rfl, ?_⟩
  refine Dn.T.G.B.K66.wpLc_mapL' _ (fun _ => .bool false) (by simp) rfl (fun d hx K hK => ?_) (fun _ => rfl) ?_
  · try walk_at "dd"
    refine wr_join hq hd hA (wr_all k n d hx) ?_
    exact hK _ rfl
  · rw [hE]
    refine ⟨List.replicate 21 false, rfl, ?_⟩
    exact ⟨_, rfl, h⟩
theorem jp_L {k n : Nat} {q s p t : F1} {v u : Int} {A : List (List Int)} {a x y : Int} (hq : D24 k q v s) (hd : D24 n p u t) (hA : Ac n k A) (ha : In k a) (hx : In n x) (hy : In n y) {Q : D → Prop} (h : Q (.bool (BL p t (row A a) x y))) : S_is_join_paper [dblD k q v s, dblD n p u t, tR A, .tuple [.str "likeness", .int a, .int x, .int y]] Q := by
  refine ⟨k, q, v, s, n, p, u, t, A, _, rfl, hq, hd, hA, .inl ⟨.int a, .int x, .int y, rfl, okV_of (scc sL (scc trivial (scc trivial (scc trivial scn)))) (by simp), ?_⟩⟩
  have h1 := hq.2
  have h2 := hd.2
  unfold lkB
  rw [isTh_in ha.1 ha.2 (by omega), isTh_in hx.1 hx.2 (by omega), isTh_in hy.1 hy.2 (by omega)]
  exact h
theorem jp_J {k n : Nat} {q s p t : F1} {v u : Int} {A : List (List Int)} {a b : Int} (hq : D24 k q v s) (hd : D24 n p u t) (hA : Ac n k A) (ha : In k a) (hb : In k b) {Q : D → Prop} (h : Q (.bool (BJ q s A a b))) : S_is_join_paper [dblD k q v s, dblD n p u t, tR A, .tuple [.str "joined", .int a, .int b]] Q :=
  ⟨k, q, v, s, n, p, u, t, A, _, rfl, hq, hd, hA, .inr (.inl ⟨a, b, rfl, ha, hb, h⟩)⟩
theorem d_d {l : Addr} {k n : Nat} {q s p t : F1} {v u : Int} {A : List (List Int)} {ms : List D} {x3 x7 x8 x9 x10 x11 x12 x13 x14 x15 : Option SV} {Q : D → List D → Prop} (hq : D24 k q v s) (hd : D24 n p u t) (hA : Ac n k A) (hm : Dc ms) (h : ∀ ms', Dc ms' → Q (.bool true) ms') (E : DEnds) (hE : E.rt = fun d ρ => ∃ ms', ρ[0]? = some (some (.ow (.par l (.lst ms')))) ∧ Q d ms') :
    g_d E (EV l k q v s n p u t A ms x3 x7 x8 x9 x10 x11 x12 x13 x14 x15) := by
  have n1 : 1 ≤ n := by have := hd.1.gr.un; unfold In at this; omega
  have k1 : 1 ≤ k := by have := hq.1.gr.un; unfold In at this; omega
  unfold g_d EV
  walk_at "dd"
  refine ⟨⟨by decide, by decide, by decide, by decide⟩, ?_⟩
  refine wpFor_inv (fun ρ => ∃ ms x10 x15, ρ = EV l k q v s n p u t A ms x3 x7 x8 x9 x10 x11 x12 x13 x14 x15 ∧ Dc ms) ⟨_, _, _, rfl, hm⟩ (fun d1 h1 ρ K i kk => ?_) (fun ρ i => ?_)
  · obtain ⟨ms, x10, x15, rfl, hm⟩ := i
    unfold EV
    try walk_at "dd"
    refine ⟨k, q, s, n, p, t, rfl, k1, n1, hq.2, hd.2, hm, fun a x y ms' ha hx hy hm' => ?_, fun a b ms' ha hb hm' => ?_⟩
    · try walk_at "dd"
      refine jp_L hq hd hA ha hx hy ⟨k, q, v, s, n, p, u, t, A, _, rfl, hq, hd, hA, .inl ⟨a, x, y, rfl, ha, hx, hy, rfl, rfl, ?_⟩⟩
      rw [show PyData.eqv (.bool (BL p t (row A a) x y)) (.bool (BL p t (row A a) x y)) = true from by cases BL p t (row A a) x y <;> rfl]
      exact kk _ ⟨_, _, _, rfl, hm'⟩
    · try walk_at "dd"
      refine jp_J hq hd hA ha hb ⟨k, q, v, s, n, p, u, t, A, _, rfl, hq, hd, hA, .inr ⟨a, b, rfl, ha, hb, rfl, rfl, ?_⟩⟩
      rw [show PyData.eqv (.bool (BJ q s A a b)) (.bool (BJ q s A a b)) = true from by cases BJ q s A a b <;> rfl]
      exact kk _ ⟨_, _, _, rfl, hm'⟩
  · obtain ⟨ms, x10, x15, rfl, hm⟩ := i
    exact d_e hq hd hA hm (h ms hm) _ hE
theorem wJ_upto {k : Nat} {q s : F1} {A : List (List Int)} {w : Bool} (h : (w = true ↔ ∀ a b, In k a → In k b → BJ q s A a b = false)) : w = wJ k q s A := by
  cases e : w with
  | true => rw [wJ_true (h.1 e)]
  | false =>
    cases f : wJ k q s A with
    | false => rfl
    | true =>
      refine absurd (h.2 fun a b ha hb => ?_) (by rw [e]; decide)
      cases g : BJ q s A a b with
      | false => rfl
      | true => rw [wJ_false ha hb g] at f; cases f
theorem d_c {l : Addr} {k n : Nat} {q s p t : F1} {v u : Int} {A : List (List Int)} {ms : List D} {x3 : Option SV} {Q : D → List D → Prop} (hq : D24 k q v s) (hd : D24 n p u t) (hA : Ac n k A) (hm : Dc ms) (h : ∀ ms', Dc ms' → Q (.bool true) ms') (E : DEnds) (hE : E.rt = fun d ρ => ∃ ms', ρ[0]? = some (some (.ow (.par l (.lst ms')))) ∧ Q d ms') :
    g_c E [some (.ow (.par l (.lst ms))), some (.im (ldD k q s)), some (.im (ldD n p t)), x3, some (.im (tR A)), none, none, none, none, none, none, none, none, none, none, none, none, none, none, none] := by
  have n1 : 1 ≤ n := by have := hd.1.gr.un; unfold In at this; omega
  have k1 : 1 ≤ k := by have := hq.1.gr.un; unfold In at this; omega
  unfold g_c
  walk_at "dd"
  refine ld0 ?_
  try walk_at "dd"
  refine ⟨k, q, v, rfl, ⟨hq.1.gr, hq.2⟩, k, q, v, s, rfl, hq, k, ciF q s, v, rfl, ⟨hq.1.ci, hq.2⟩, k, q, v, s, rfl, hq, ld0 ?_⟩
  try walk_at "dd"
  refine ⟨n, p, u, rfl, ⟨hd.1.gr, hd.2⟩, n, p, u, t, rfl, hd, n, ciF p t, u, rfl, ⟨hd.1.ci, hd.2⟩, n, p, u, t, rfl, hd, ?_⟩
  have hk := hq.2
  have hn := hd.2
  rw [hA.1]
  refine ⟨rgd (by omega), ?_⟩
  try rw [rgD_rgI]
  refine wpFor_pre (rgI k) PyData.int (fun l1 ρ => ∃ (w : Bool) (x8 x9 x10 x11 : Option SV), ρ = EV l k q v s n p u t A ms x3 (some (.im (.bool w))) x8 x9 x10 x11 none none none none ∧ (w = true ↔ ∀ a b, a ∈ l1 → In k b → BJ q s A a b = false)) ⟨true, _, _, _, _, rfl, by simp⟩ (fun l1 a l2 e ρ K j kk => ?_) (fun ρ j => ?_)
  · obtain ⟨w, x8, x9, x10, x11, rfl, hw⟩ := j
    have ha : In k a := In.mem.1 (by rw [e]; simp)
    unfold EV
    try walk_at "dd"
    rw [hA.1]
    refine ⟨rgd (by omega), ?_⟩
    try rw [rgD_rgI]
    refine wpFor_pre (rgI k) PyData.int (fun r1 ρ => ∃ (w : Bool) (x9 x10 x11 : Option SV), ρ = EV l k q v s n p u t A ms x3 (some (.im (.bool w))) (some (.im (.int a))) x9 x10 x11 none none none none ∧ (w = true ↔ (∀ a b, a ∈ l1 → In k b → BJ q s A a b = false) ∧ ∀ b, b ∈ r1 → BJ q s A a b = false)) ⟨w, _, _, _, rfl, by rw [hw]; simp⟩ (fun r1 b r2 e2 ρ K2 j k2 => ?_) (fun ρ j => ?_)
    · obtain ⟨w, x9, x10, x11, rfl, hw⟩ := j
      have hb : In k b := In.mem.1 (by rw [e2]; simp)
      unfold EV
      try walk_at "dd"
      refine ⟨by decide, k, q, v, s, n, p, u, t, A, _, rfl, hq, hd, hA, .inr ⟨a, b, rfl, ha, hb, ?_⟩⟩
      have nx : ∀ x9 x10 x11, K2 (EV l k q v s n p u t A ms x3 (some (.im (.bool (w && !BJ q s A a b)))) (some (.im (.int a))) x9 x10 x11 none none none none) := fun x9 x10 x11 => k2 _ ⟨_, _, _, _, rfl, by
        rw [Bool.and_eq_true, hw]
        constructor
        · rintro ⟨⟨z1, z2⟩, z3⟩
          refine ⟨z1, fun y hy => ?_⟩
          rcases List.mem_append.mp hy with z | z
          · exact z2 y z
          · rw [List.mem_singleton.mp z]; simpa using z3
        · rintro ⟨z1, z2⟩
          exact ⟨⟨z1, fun y hy => z2 y (List.mem_append_left _ hy)⟩, by rw [z2 b (by simp)]; rfl⟩⟩
      have fin : ∀ x9 x10, S_is_join_paper [dblD k q v s, dblD n p u t, tR A, .tuple [.str "joined", .int a, .int b]] fun z => SeqAt.shaped z = true ∧ SeqAt.shaped (.bool (BJ q s A a b)) = true ∧ if (!PyData.eqv z (.bool (BJ q s A a b))) = true then E.rt (.bool false) (EV l k q v s n p u t A ms x3 (some (.im (.bool (w && !BJ q s A a b)))) (some (.im (.int a))) x9 x10 (some (.im (.bool (BJ q s A a b)))) none none none none) else K2 (EV l k q v s n p u t A ms x3 (some (.im (.bool (w && !BJ q s A a b)))) (some (.im (.int a))) x9 x10 (some (.im (.bool (BJ q s A a b)))) none none none none) := fun x9 x10 => jp_J hq hd hA ha hb ⟨rfl, rfl, by
        rw [show PyData.eqv (.bool (BJ q s A a b)) (.bool (BJ q s A a b)) = true from by cases BJ q s A a b <;> rfl]
        exact nx _ _ _⟩
      cases w
      · exact fin _ _
      · exact fin _ _
    · obtain ⟨w, x9, x10, x11, rfl, hw⟩ := j
      refine kk _ ⟨w, _, _, _, _, rfl, ?_⟩
      rw [hw]
      constructor
      · rintro ⟨z1, z2⟩ a' b ha' hb'
        rcases List.mem_append.mp ha' with z | z
        · exact z1 a' b z hb'
        · rw [List.mem_singleton.mp z]; exact z2 b (In.mem.2 hb')
      · intro z
        exact ⟨fun a' b h1 h2 => z a' b (List.mem_append_left _ h1) h2, fun b hb' => z a b (by simp) (In.mem.1 hb')⟩
  · obtain ⟨w, x8, x9, x10, x11, rfl, hw⟩ := j
    have ew : w = wJ k q s A := wJ_upto (by rw [hw]; exact ⟨fun z a b ha hb => z a b (In.mem.2 ha) hb, fun z a b ha hb => z a b (In.mem.1 ha) hb⟩)
    subst ew
    unfold EV
    try walk_at "dd"
    refine ld0 ?_
    try walk_at "dd"
    rw [tab_len]
    refine ⟨rgd (by omega), ?_⟩
    try rw [rgD_rgI]
    have kT : (k : Int) ≤ T60 := Int.le_trans (b := 24) (by omega) (by decide)
    refine wpFor_inv (fun ρ => ∃ ms x10 x12 x13, ρ = EV l k q v s n p u t A ms x3 (some (.im (.bool (wJ k q s A)))) x8 x9 x10 x11 x12 x13 none none ∧ Dc ms) ⟨_, _, _, _, rfl, hm⟩ (fun d1 h1 ρ K i kk => ?_) (fun ρ i => ?_)
    · obtain ⟨ms, x10, x12, x13, rfl, hm⟩ := i
      obtain ⟨x, hx, rfl⟩ := List.mem_map.mp h1
      have hx := In.mem.1 hx
      unfold EV
      try walk_at "dd"
      refine ld0 ?_
      try walk_at "dd"
      rw [tab_len]
      refine ⟨rgd (by omega), ?_⟩
      try rw [rgD_rgI]
      refine wpFor_inv (fun ρ => ∃ ms x10 x13, ρ = EV l k q v s n p u t A ms x3 (some (.im (.bool (wJ k q s A)))) x8 x9 x10 x11 (some (.im (.int x))) x13 none none ∧ Dc ms) ⟨_, _, _, rfl, hm⟩ (fun d2 h2 ρ K2 i k2 => ?_) (fun ρ i => ?_)
      · obtain ⟨ms, x10, x13, rfl, hm⟩ := i
        obtain ⟨y, hy, rfl⟩ := List.mem_map.mp h2
        have hy := In.mem.1 hy
        unfold EV
        try walk_at "dd"
        rw [hA.1]
        refine ⟨k, rfl, by omega, kT, hm, fun a ms' a0 a1 hm' => ⟨by decide, jp_L hq hd hA ⟨a0, a1⟩ hx hy ⟨k, q, v, s, n, p, u, t, A, _, rfl, hq, hd, hA, .inl ⟨a, x, y, rfl, ⟨a0, a1⟩, hx, hy, rfl, rfl, ?_⟩⟩⟩⟩
        rw [show PyData.eqv (.bool (BL p t (row A a) x y)) (.bool (BL p t (row A a) x y)) = true from by cases BL p t (row A a) x y <;> rfl]
        exact k2 _ ⟨_, _, _, rfl, hm'⟩
      · obtain ⟨ms, x10, x13, rfl, hm⟩ := i
        exact kk _ ⟨_, _, _, _, rfl, hm⟩
    · obtain ⟨ms, x10, x12, x13, rfl, hm⟩ := i
      unfold EV
      try walk_at "dd"
      refine wpFor_pre A tI (fun l1 ρ => ∃ x14, ρ = EV l k q v s n p u t A ms x3 (some (.im (.bool (wJ k q s A && l1.all (kp n p t))))) x8 x9 x10 x11 x12 x13 x14 none) ⟨_, by simp; rfl⟩ (fun l1 r l2 e ρ K j kk => ?_) (fun ρ j => ?_)
      · obtain ⟨x14, rfl⟩ := j
        have hr := hA.2 r (by rw [e]; simp)
        unfold EV
        try walk_at "dd"
        have nx : ∀ b : Bool, b = (wJ k q s A && (l1 ++ [r]).all (kp n p t)) → K (EV l k q v s n p u t A ms x3 (some (.im (.bool b))) x8 x9 x10 x11 x12 x13 (some (.im (tI r))) none) := fun b eb => by subst eb; exact kk _ ⟨_, rfl⟩
        cases ew : (wJ k q s A && l1.all (kp n p t))
        · exact nx false (by rw [List.all_append, ← Bool.and_assoc, ew]; rfl)
        · refine ⟨n, p, u, t, r, rfl, hd, hr, ?_⟩
          exact nx _ (by rw [List.all_append, ← Bool.and_assoc, ew]; simp)
      · obtain ⟨x14, rfl⟩ := j
        unfold EV
        try walk_at "dd"
        refine ⟨by decide, k, q, v, s, n, p, u, t, A, _, rfl, hq, hd, hA, .inr (.inr (.inl ⟨rfl, rfl, rfl, ?_⟩))⟩
        rw [show PyData.eqv (.bool (wW k q s n p t A)) (.bool (wJ k q s A && A.all (kp n p t))) = true from by unfold wW; cases (wJ k q s A && A.all (kp n p t)) <;> rfl]
        exact d_d hq hd hA hm h _ hE
theorem all_tI {n : Nat} : ∀ acc : List D, (∀ x, x ∈ acc → ∃ r, x = tI r ∧ Mv n r) → ∃ A : List (List Int), acc = A.map tI ∧ ∀ r, r ∈ A → Mv n r
  | [], _ => ⟨[], rfl, fun r hr => by cases hr⟩
  | x :: acc, h => by
    obtain ⟨A, rfl, hA⟩ := all_tI acc fun y hy => h y (by simp [hy])
    obtain ⟨r, rfl, hr⟩ := h x (by simp)
    exact ⟨r :: A, rfl, fun r' hr' => (List.mem_cons.mp hr').elim (fun e => by rw [e]; exact hr) (hA r')⟩
theorem v__law_right : VM g__law_right S__law_right 1 19 := fun l ms ds Q _ h => by
  obtain ⟨rfl, hm, h⟩ := h
  rw [r_eq]
  walk_at "dd"
  refine ⟨6, rfl, by decide, by decide, hm, fun k q v s ms1 hq lk hm1 => ⟨4, rfl, by decide, by decide, hm1, fun n p u t ms2 hd ln hm2 => ?_⟩⟩
  have g := hd.gr
  have gq := hq.gr
  have hD : D24 n p u t := ⟨hd, by omega⟩
  have hQ : D24 k q v s := ⟨hq, by omega⟩
  have n1 : 1 ≤ n := by have := g.un; unfold In at this; omega
  have k1 : 1 ≤ k := by have := gq.un; unfold In at this; omega
  have kT : (k : Int) ≤ T60 := Int.le_trans (b := 24) (by omega) (by decide)
  have nT : (n : Int) ≤ T60 := Int.le_trans (b := 24) (by omega) (by decide)
  try walk_at "dd"
  refine ⟨n, p, u, t, rfl, hd, ln, fun C lC hC => ld0 ?_⟩
  try walk_at "dd"
  rw [tab_len]
  refine ⟨n, rfl, by omega, by decide, [tI (rgI n)], 3, rfl, rfl, by decide, by decide, by simp, ?_⟩
  refine ⟨by show (C.map tI).length + 3 ≤ _; rw [List.length_map]; omega, ld0 ?_⟩
  try walk_at "dd"
  rw [tab_len]
  refine ⟨n, rfl, by omega, hm2, fun m ms3 pm hm3 => ⟨by decide, by show (C.map tI ++ [tI (rgI n), tI (rgI n), tI (rgI n)]).length + 1 ≤ _; simp; omega, ld0 ⟨_, rfl, ?_⟩⟩⟩
  have hP : ∀ x, x ∈ C.map tI ++ [tI (rgI n), tI (rgI n), tI (rgI n)] ++ [tI m] → ∃ r, x = tI r ∧ Mv n r := fun x hx => by
    simp only [List.mem_append, List.mem_cons, List.not_mem_nil, or_false, or_self] at hx
    rcases hx with (hx | hx) | hx
    · obtain ⟨r, hr, rfl⟩ := List.mem_map.mp hx
      exact ⟨r, rfl, hC r hr⟩
    · exact ⟨_, hx, List.Perm.refl _⟩
    · exact ⟨m, hx, pm⟩
  have lP : (C.map tI ++ [tI (rgI n), tI (rgI n), tI (rgI n)] ++ [tI m]).length ≤ 100000 := by simp; omega
  refine wpLc_all (fun y => ∃ r, y = tI r ∧ Mv n r) (fun ρ => ∃ ms', ρ = [some (.ow (.par l (.lst ms'))), some (.im (ldD k q s)), some (.im (ldD n p t)), some (.im (.list (C.map tI ++ [tI (rgI n), tI (rgI n), tI (rgI n)] ++ [tI m]))), none, none, none, none, none, none, none, none, none, none, none, none, none, none, none, none] ∧ Dc ms') ⟨_, rfl, hm3⟩ (by rw [List.length_map, tab_len]; omega) (fun y hy ρ K j kk => ?_) (fun _ => rfl) (fun acc ρ al ag j => ?_)
  · obtain ⟨ms4, rfl, hm4⟩ := j
    try walk_at "dd"
    refine ⟨_, _, rfl, rfl, by simp, lP, hm4, fun x ms5 hx hm5 => ?_⟩
    exact kk _ _ (hP x hx) ⟨_, rfl, hm5⟩
  obtain ⟨ms4, rfl, hm4⟩ := j
  obtain ⟨A, rfl, hA⟩ := all_tI acc ag
  rw [List.length_map, List.length_map, tab_len] at al
  have hA : Ac n k A := ⟨al, hA⟩
  try walk_at "dd"
  refine ⟨3, rfl, by decide, by decide, hm4, fun r ms5 r0 r1 hm5 => ⟨rfl, rfl, ite_ways (fun _ => ld0 ?_) (fun _ => ?_)⟩⟩
  · try walk_at "dd"
    rw [tab_len]
    refine ⟨n, rfl, by omega, by decide, ld0 ?_⟩
    try walk_at "dd"
    rw [tab_len]
    refine ⟨[tI (rgI n)], k, rfl, rfl, by simp, by omega, by omega, (show 1 ≤ 1000 by decide), ?_⟩
    rw [Int.toNat_natCast, List.flatten_replicate_singleton, show PyData.tuple (List.replicate k (tI (rgI n))) = tR (List.replicate k (rgI n)) from by simp [tR]]
    exact d_c hQ hD ⟨by simp, fun r hr => by rw [(List.mem_replicate.mp hr).2]⟩ hm5 h _ rfl
  · exact d_c hQ hD hA hm5 h _ rfl
theorem v_law : VD g_law S_law 1 6 := fun ds Q _ h => by
  obtain ⟨s, rfl, hs, h⟩ := h
  unfold g_law
  walk_at "dd"
  rw [dLen_scr']
  dsimp only
  refine And.intro (rg_cap 4 _ (by decide) (by decide)) ?_
  refine wpFor_inv (fun ρ => ∃ x1, ρ = [some (.im (scr s)), x1, none, none, none, none, none]) ⟨_, rfl⟩ (fun d hd ρ K i k => ?_) (fun ρ i => ?_)
  · obtain ⟨x1, rfl⟩ := i
    obtain ⟨j, rfl, j0, _⟩ := mem_rgD' hd
    try walk_at "dd"
    refine ⟨s, j, rfl, j0, fun ms hm => ?_⟩
    try walk_at "dd"
    refine ⟨rfl, hm, fun ms' hm' => ?_⟩
    try walk_at "dd"
    exact k _ ⟨_, rfl⟩
  · obtain ⟨x1, rfl⟩ := i
    try walk_at "dd"
    have d2 : D24 2 (cyG 2) 0 (fun _ b => b) := ⟨db_plain (gr_cyc (by decide)), by decide⟩
    have d3 : D24 3 (cyG 3) 0 (fun _ b => b) := ⟨db_plain (gr_cyc (by decide)), by decide⟩
    have hA : Ac 3 2 [[1, 2, 0], [0, 2, 1]] := ⟨rfl, fun r hr => by
      simp only [List.mem_cons, List.not_mem_nil, or_false] at hr
      rcases hr with rfl | rfl
      · show List.Perm [1, 2, 0] (rgI 3)
        decide +kernel
      · show List.Perm [0, 2, 1] (rgI 3)
        decide +kernel⟩
    refine ⟨2, rfl, by decide, by decide, 2, cyG 2, 0, rfl, ⟨d2.1.gr, by decide⟩, 3, rfl, by decide, by decide, 3, cyG 3, 0, rfl, ⟨d3.1.gr, by decide⟩, ?_⟩
    iterate 9 refine And.intro (by decide) ?_
    show wpLc _ _ _ _ _ [_, _, _, _, _] _ _
    refine wpLc_mapL [((.tuple [.str "likeness", .int 0, .int 0, .int 0] : D), true), (.tuple [.str "joined", .int 0, .int 0], true), (.tuple [.str "joined", .int 1, .int 1], true), (.tuple [.str "likeness", .int 1, .int 1, .int 1], false), (.tuple [.str "join"], false)] Prod.fst (fun e => .bool e.2) (by simp) rfl (fun e he K hK => ?_) (fun _ => rfl) ?_
    · try walk_at "dd"
      refine ⟨2, cyG 2, 0, _, 3, cyG 3, 0, _, [[1, 2, 0], [0, 2, 1]], _, rfl, d2, d3, hA, ?_⟩
      simp only [List.mem_cons, List.not_mem_nil, or_false] at he
      rcases he with rfl | rfl | rfl | rfl | rfl
      · refine .inl ⟨_, _, _, rfl, okV_of (scc sL (scc trivial (scc trivial (scc trivial scn)))) (by simp), ?_⟩
        rw [show lkB 2 3 (cyG 3) (fun _ b => b) [[1, 2, 0], [0, 2, 1]] (.int 0) (.int 0) (.int 0) = true from by decide +kernel]
        exact hK _ rfl
      · refine .inr (.inl ⟨0, 0, rfl, by decide, by decide, ?_⟩)
        rw [show BJ (cyG 2) (fun _ b => b) [[1, 2, 0], [0, 2, 1]] 0 0 = true from by decide +kernel]
        exact hK _ rfl
      · refine .inr (.inl ⟨1, 1, rfl, by decide, by decide, ?_⟩)
        rw [show BJ (cyG 2) (fun _ b => b) [[1, 2, 0], [0, 2, 1]] 1 1 = true from by decide +kernel]
        exact hK _ rfl
      · refine .inl ⟨_, _, _, rfl, okV_of (scc sL (scc trivial (scc trivial (scc trivial scn)))) (by simp), ?_⟩
        rw [show lkB 2 3 (cyG 3) (fun _ b => b) [[1, 2, 0], [0, 2, 1]] (.int 1) (.int 1) (.int 1) = false from by decide +kernel]
        exact hK _ rfl
      · refine .inr (.inr (.inl ⟨rfl, ?_⟩))
        rw [show wW 2 (cyG 2) (fun _ b => b) 3 (cyG 3) (fun _ b => b) [[1, 2, 0], [0, 2, 1]] = false from by decide +kernel]
        exact hK _ rfl
    · exact ⟨by decide, by decide +kernel, by decide +kernel, h⟩
end Dn.T.G.B.K37.K84
set_option Elab.async false
set_option linter.all false
set_option maxRecDepth 100000
set_option autoImplicit false
set_option maxHeartbeats 4000000
namespace Dn
open PySem L2 Evl PySem.Spec PyProof.Rows
local macro_rules | `(tactic| walk_at "dd") => `(tactic| simp only [sSeq, sIf, sSet, sRet, sRetN, sNx, sEx, sAsg, sPar, dTOr, dTAnd, dTNot, dTst, dIsi, dVar, dC, dBin, dChain, dNeg, dI2, dAnd, dOr, dNot, dIfE, dCall, dCallF, aCons, aNil, dTup, lLst, dOfL, xIm, xOw, gNm, gTp, gsCons, gsNil, dYes, envD, dLen_tR, dLen_tI, dLen_tup, dLen_lst, seq_tR, seq_tI, seq_tup, seq_lst, dIs, dIsNot, dNe, dEq, dTupOf, dSl, oNone, oSome, iSq, iEn, iR1, iR2, sFor, lLc, sNever, dTRg, rg1, rg2, lRg, wipeD, isN,
  dIxP, sSub, dApp, dPopAt, dExt, dCallM, dCallO, dBinO, dTupO, lOf, lOfO, sRetO, iOw, dVarF, lCat, lCall, dAbs, dMax2, dMin2, dInt, atO, setO, MO.getL, MO.putL, Option.isSome_some,
  lSortT, dOfK, xOwK, lDc, dMinL, dIndex, lRep, dInK, dGetK, dGetD, dInD, dGet1, lKeys, lSort, dLenSet, dRevT, sPutK, xDct, xDct1, sRetK, atK, keyD, sAugI,
  kit_int, kit_bool, kit_tuple, kit_str, List.map_cons, List.map_nil, List.cons_append, List.nil_append, List.replicate, List.set_cons_zero, List.set_cons_succ, List.getElem?_cons_zero, List.getElem?_cons_succ, List.length_cons, List.length_nil, List.length_map, Nat.reduceAdd, Nat.reduceSub, Bool.not_true, Bool.not_false, Bool.false_eq_true, if_true, if_false, true_and, reduceCtorEq, Bool.true_eq_false, rgD_rgI, Option.some.injEq, exists_eq_left', and_true])
theorem v__law_pick : VM g__law_pick S__law_pick 2 0 := fun l ms ds Q _ h => by
  obtain ⟨d, xs, rfl, hd, hn, hl, hm, h⟩ := h
  unfold g__law_pick
  walk_at "dd"
  rw [dLen_seq hd]
  have pos : 0 < xs.length := List.length_pos_iff.mpr hn
  refine ⟨_, rfl, by omega, by simp only [T60]; omega, hm, fun r ms' r0 r1 hm' => ?_⟩
  unfold dIx
  rw [hd]
  dsimp only
  refine ⟨_, atI_in (d := .none) r0 r1, _, rfl, h _ _ (getD_mem (by omega)) hm'⟩
theorem v__law_undone : VD g__law_undone S__law_undone 1 3 := fun ds Q _ h => by
  obtain ⟨n, m, rfl, hm, hn, h⟩ := h
  have hl := hm.len
  unfold g__law_undone
  try walk_at "dd"
  refine wpLc_mapL m PyData.int (fun _ => .int 0) (by omega) rfl (fun x hx K hK => ?_) (fun _ => rfl) ?_
  · try walk_at "dd"
    exact hK _ rfl
  · try walk_at "dd"
    rw [enD_map m PyData.int 0, hl]
    refine wpFor_cps (fun done ρ => ∃ (u : List Int) (x y : Option SV), ρ = [some (SV.im (tI m)), some (SV.ow (MO.lst (u.map PyData.int))), x, y] ∧ u.length = n ∧ ∀ x : Nat, x < done.length → u[(im m x).toNat]? = some (x : Int)) ⟨m.map (fun _ => 0), _, _, (by rw [show (m.map fun _ => (0 : Int)).map PyData.int = m.map fun _ => PyData.int 0 from by rw [List.map_map]; rfl]), (by simp [hl]), fun x hx => by simp at hx⟩ (fun done d rest ρ K e p k => ?_) (fun ρ p => ?_)
    · obtain ⟨u, x, y, rfl, hu, hu2⟩ := p
      obtain ⟨l1, i, l2, e1, rfl, rfl, rfl⟩ := map_split e
      obtain ⟨ei, e2⟩ := rgI_split e1
      rw [List.length_map] at hu2
      have lt : l1.length < n := by
        have := congrArg List.length e1
        rw [rgI_len] at this
        simp at this
        omega
      have g := im_in hm (x := i) (by omega) (by omega)
      try walk_at "dd"
      refine ⟨_, _, (im m i).toNat, rfl, rfl, ?_, ?_⟩
      · unfold ixN
        show (if 0 ≤ im m i then _ else _) = _
        rw [if_pos g.1, if_pos (by simp [hu]; exact g.2)]
        rfl
      · refine k _ ⟨u.set (im m i).toNat i, _, _, (by rw [List.map_set]), (by simp [hu]), fun x hx => ?_⟩
        simp only [List.length_append, List.length_map, List.length_cons, List.length_nil] at hx
        by_cases z : x = l1.length
        · have : (x : Int) = i := by omega
          rw [this, List.getElem?_set_self (by omega)]
        · have gx := im_in hm (x := (x : Int)) (by omega) (by omega)
          rw [List.getElem?_set_ne (fun w => by
            have := im_inj hm (by omega) (by omega) (by omega) (by omega) (show im m x = im m i by omega)
            omega)]
          exact hu2 x (by omega)
    · obtain ⟨u, x, y, rfl, hu, hu2⟩ := p
      rw [List.length_map, rgI_len] at hu2
      try walk_at "dd"
      have : u = inv m := by
        rw [inv_map hm]
        apply List.ext_getElem?
        intro k
        by_cases hk : k < n
        · rw [List.getElem?_map, rgI_get hk]
          obtain ⟨q1, q2⟩ := iv_rng hm (y := (k : Int)) (by omega) (by omega)
          have := hu2 (iv m k).toNat (by omega)
          rw [show (((iv m k).toNat : Nat) : Int) = iv m k by omega, q2] at this
          simpa using this
        · rw [List.getElem?_eq_none_iff.mpr (by omega), List.getElem?_eq_none_iff.mpr (by simp [rgI_len]; omega)]
      subst this
      exact h
end Dn
set_option Elab.async false
set_option linter.all false
set_option maxRecDepth 100000
set_option autoImplicit false
set_option maxHeartbeats 4000000
namespace Dn.T.G.B.K37.K84
open PySem L2 Evl PySem.Spec PyProof.Rows
def top (i : Nat) : Stmt := PySem.Challenge.pw_truenames_k84_papers_about_acts_judged.main.body.getD i (.Pass ⟨0, 0, 0, 0⟩)
structure Bl (K : PySem.W.Frag) (mg : Str → Option Value) : Prop where
  kt : KT K
  len : mg "len" = none
  range : mg "range" = none
  tuple : mg "tuple" = none
  list : mg "list" = none
  isinstance : mg "isinstance" = none
  int : mg "int" = none
  bool : mg "bool" = none
  str : mg "str" = none
  abs : mg "abs" = none
  max : mg "max" = none
  min : mg "min" = none
  all : mg "all" = none
  any : mg "any" = none
  sum : mg "sum" = none
  sorted : mg "sorted" = none
  enumerate : mg "enumerate" = none
  repr : mg "repr" = none
  set : mg "set" = none
  dict : mg "dict" = none
  zip : mg "zip" = none
  divmod : mg "divmod" = none
abbrev st__wall : Stmt := top 0
abbrev st_is_integer : Stmt := top 11
abbrev st_is_within : Stmt := top 12
abbrev st_is_thing : Stmt := top 13
abbrev st_is_row : Stmt := top 14
abbrev st_is_square : Stmt := top 15
abbrev st_is_same : Stmt := top 16
abbrev st_is_told : Stmt := top 17
abbrev st_check_within : Stmt := top 18
abbrev st_check_thing : Stmt := top 19
abbrev st_is_move : Stmt := top 22
abbrev st_is_move_of : Stmt := top 23
abbrev st_joined_moves : Stmt := top 24
abbrev st_unit_of : Stmt := top 26
abbrev st_back_of : Stmt := top 27
abbrev st_backs_of : Stmt := top 28
abbrev st_broken_three : Stmt := top 29
abbrev st_centre_of : Stmt := top 30
abbrev st_cyclic_rows : Stmt := top 31
abbrev st_pair_rows : Stmt := top 32
abbrev st_group_paper : Stmt := top 35
abbrev st__check_rows : Stmt := top 36
abbrev st_check_group : Stmt := top 38
abbrev st_double_paper : Stmt := top 41
abbrev st__check_groups : Stmt := top 42
abbrev st__broken_rule : Stmt := top 43
abbrev st__breaks_rule : Stmt := top 44
abbrev st__rows_from_behind : Stmt := top 46
abbrev st_check_double : Stmt := top 47
abbrev st_join_paper : Stmt := top 49
abbrev st_is_join_paper : Stmt := top 50
abbrev st__check_acts : Stmt := top 51
abbrev st__broken_likeness : Stmt := top 52
abbrev st__breaks_likeness : Stmt := top 53
abbrev st__breaks_joined : Stmt := top 54
abbrev st__law_dice : Stmt := top 56
abbrev st__law_roll : Stmt := top 57
abbrev st__law_pick : Stmt := top 58
abbrev st__law_mixed : Stmt := top 59
abbrev st__law_joined : Stmt := top 60
abbrev st__law_undone : Stmt := top 61
abbrev st__law_drawn_move : Stmt := top 62
abbrev st__law_places_of : Stmt := top 63
abbrev st__law_product_dots : Stmt := top 64
abbrev st__law_cyclic : Stmt := top 65
abbrev st__law_direct : Stmt := top 66
abbrev st__law_turned_pairs : Stmt := top 67
abbrev st__law_quaternion_rows : Stmt := top 68
abbrev st__law_renamed_group : Stmt := top 69
abbrev st__law_unit : Stmt := top 70
abbrev st__law_inverse : Stmt := top 71
abbrev st__law_circle : Stmt := top 72
abbrev st__law_double_product : Stmt := top 73
abbrev st__law_double_renamed : Stmt := top 74
abbrev st__law_plain_double : Stmt := top 75
abbrev st__law_about_double : Stmt := top 76
abbrev st__law_ring_double : Stmt := top 77
abbrev st__law_mirror_double : Stmt := top 78
abbrev st__law_small_double : Stmt := top 79
abbrev st__law_double : Stmt := top 80
abbrev st__law_idle : Stmt := top 81
abbrev st__law_circle_of : Stmt := top 82
abbrev st__law_keeps_double : Stmt := top 83
abbrev st__law_likenesses_to : Stmt := top 84
abbrev st__law_plus_makers : Stmt := top 85
abbrev st__law_made_part : Stmt := top 86
abbrev st__law_goal_rows : Stmt := top 87
abbrev st__law_spread_goals : Stmt := top 88
abbrev st__law_says : Stmt := top 89
abbrev st__law_drawn_paper : Stmt := top 90
abbrev st__law_right : Stmt := top 91
abbrev st_law : Stmt := top 92
abbrev st_Group____init__ : Stmt := cm (top 37) 0
abbrev st_Group__rows : Stmt := cm (top 37) 5
abbrev st_Group__unit : Stmt := cm (top 37) 7
abbrev st_Group____len__ : Stmt := cm (top 37) 20
abbrev st_Group__cyclic : Stmt := cm (top 37) 1
abbrev st_Double____init__ : Stmt := cm (top 45) 0
abbrev st_Double__plus : Stmt := cm (top 45) 4
abbrev st_Double__circle : Stmt := cm (top 45) 5
abbrev st_Double____len__ : Stmt := cm (top 45) 15
abbrev st_Double__both : Stmt := cm (top 45) 2
section
variable {P : Program} {w : World} {K : PySem.W.Frag} {mg : Str → Option Value} {base : Heap}
theorem sc_is_integer : FnScope N_is_integer P_is_integer (defScope st_is_integer) := ⟨rfl, rfl, rfl, by decide +kernel, rfl, by decide +kernel, by decide +kernel⟩
theorem bs_is_integer : BindsAs "is_integer" st_is_integer P_is_integer := fun _ _ _ _ _ _ us hl => match us, hl with | [_], _ => rfl
theorem j_is_integer (B : Bl K mg) {t_TOO_LONG : Tok} (c_TOO_LONG : mg "TOO_LONG" = some (.int 1000000000000000000000000000000000000000000000000000000000000 t_TOO_LONG)) : BodyCx P w K mg base "is_integer" st_is_integer N_is_integer 0 fun X => JSs X (defBody st_is_integer) g_is_integer := fun f cdv A outer s H E hr => js_cons (js_if ((jw_or (jt_not (jt_val (je_isi (tn := "int") B.isinstance B.int (by decide +kernel) (je_v 0)))) (jw_or1 (jt_val (je_isi (tn := "bool") B.isinstance B.bool (by decide +kernel) (je_v 0))))).jt) (js_one (js_ret (je_bl))) (js_nil)) (js_one (js_ret (je_chain opd_lt opd_lt (je_neg (je_globI c_TOO_LONG (by rfl))) (je_v 0) (je_globI c_TOO_LONG (by rfl)))))
theorem sc_is_within : FnScope N_is_within P_is_within (defScope st_is_within) := ⟨rfl, rfl, rfl, by decide +kernel, rfl, by decide +kernel, by decide +kernel⟩
theorem bs_is_within : BindsAs "is_within" st_is_within P_is_within := fun _ _ _ _ _ _ us hl => match us, hl with | [_, _, _], _ => rfl
theorem j_is_within (O_is_integer : Ok P w K mg base "is_integer" P_is_integer 1 (spD K 1 S_is_integer)) : BodyCx P w K mg base "is_within" st_is_within N_is_within 1 fun X => JSs X (defBody st_is_within) g_is_within := fun f cdv A outer s H E hr => js_one (js_ret (je_and (je_fn O_is_integer (hr.mono (by decide)) (ja_cons (je_v 0) (ja_nil))) (je_one (je_chain opd_le opd_le (je_v 1) (je_v 0) (je_v 2)))))
theorem sc_is_thing : FnScope N_is_thing P_is_thing (defScope st_is_thing) := ⟨rfl, rfl, rfl, by decide +kernel, rfl, by decide +kernel, by decide +kernel⟩
theorem bs_is_thing : BindsAs "is_thing" st_is_thing P_is_thing := fun _ _ _ _ _ _ us hl => match us, hl with | [_, _], _ => rfl
theorem j_is_thing (O_is_integer : Ok P w K mg base "is_integer" P_is_integer 1 (spD K 1 S_is_integer)) : BodyCx P w K mg base "is_thing" st_is_thing N_is_thing 1 fun X => JSs X (defBody st_is_thing) g_is_thing := fun f cdv A outer s H E hr => js_one (js_ret (je_and (je_fn O_is_integer (hr.mono (by decide)) (ja_cons (je_v 0) (ja_nil))) (je_one (je_chain opd_le opd_lt (je_int) (je_v 0) (je_v 1)))))
theorem sc_is_row : FnScope N_is_row P_is_row (defScope st_is_row) := ⟨rfl, rfl, rfl, by decide +kernel, rfl, by decide +kernel, by decide +kernel⟩
theorem bs_is_row : BindsAs "is_row" st_is_row P_is_row := fun _ _ _ _ _ _ us hl => match us, hl with | [_, _, _], _ => rfl
theorem j_is_row (B : Bl K mg) : BodyCx P w K mg base "is_row" st_is_row N_is_row 0 fun X => JSs X (defBody st_is_row) g_is_row := fun f cdv A outer s H E hr => js_cons (js_if ((jw_or (jt_not (jt_val (je_isi (tn := "tuple") B.isinstance B.tuple (by decide +kernel) (je_v 0)))) (jw_or1 (jt_cmp (opd_ne hr.units) (je_callB calld_len B.len (by decide +kernel) (ja_cons (je_v 0) (ja_nil))) (je_v 1) (nomark _)))).jt) (js_one (js_ret (je_bl))) (js_nil)) (js_cons (js_for (vs := [3]) rfl (ji_sq (je_v 0)) (jg_n 3 sc_is_row.nd) (js_one (js_if ((jw_or (jt_not (jt_val (je_isi (tn := "int") B.isinstance B.int (by decide +kernel) (je_v 3)))) (jw_or (jt_val (je_isi (tn := "bool") B.isinstance B.bool (by decide +kernel) (je_v 3))) (jw_or1 (jt_not (jt_chain opd_le opd_lt (je_int) (je_v 3) (je_v 2)))))).jt) (js_one (js_ret (je_bl))) (js_nil)))) (js_one (js_ret (je_bl))))
theorem sc_is_square : FnScope N_is_square P_is_square (defScope st_is_square) := ⟨rfl, rfl, rfl, by decide +kernel, rfl, by decide +kernel, by decide +kernel⟩
theorem bs_is_square : BindsAs "is_square" st_is_square P_is_square := fun _ _ _ _ _ _ us hl => match us, hl with | [_, _, _], _ => rfl
theorem j_is_square (B : Bl K mg) (O_is_row : Ok P w K mg base "is_row" P_is_row 1 (spD K 3 S_is_row)) : BodyCx P w K mg base "is_square" st_is_square N_is_square 1 fun X => JSs X (defBody st_is_square) g_is_square := fun f cdv A outer s H E hr => js_cons (js_if ((jw_or (jt_not (jt_val (je_isi (tn := "tuple") B.isinstance B.tuple (by decide +kernel) (je_v 0)))) (jw_or1 (jt_not (jt_chain opd_le opd_le (je_v 1) (je_callB calld_len B.len (by decide +kernel) (ja_cons (je_v 0) (ja_nil))) (je_v 2))))).jt) (js_one (js_ret (je_bl))) (js_nil)) (js_one (js_ret (je_callB (calld_all rfl) B.all (by decide +kernel) (ja_cons ((jl_lc (own := [("row", 3)]) rfl sc_is_square.nd (ji_sq (je_v 0)) (blkOk_by (by rfl)) (fun _ _ _ _ _ => jg_n 3 sc_is_square.nd) (fun _ _ _ _ _ => jts_nil) (fun _ _ _ _ _ => je_fn O_is_row (hr.mono (by decide)) (ja_cons (je_v 3) (ja_cons (je_callB calld_len B.len (by decide +kernel) (ja_cons (je_v 0) (ja_nil))) (ja_cons (je_callB calld_len B.len (by decide +kernel) (ja_cons (je_v 0) (ja_nil))) (ja_nil)))))).je) (ja_nil)))))
theorem sc_is_same : FnScope N_is_same P_is_same (defScope st_is_same) := ⟨rfl, rfl, rfl, by decide +kernel, rfl, by decide +kernel, by decide +kernel⟩
theorem bs_is_same : BindsAs "is_same" st_is_same P_is_same := fun _ _ _ _ _ _ us hl => match us, hl with | [_, _], _ => rfl
theorem j_is_same0 (B : Bl K mg) (O_is_integer : Ok P w K mg base "is_integer" P_is_integer 1 (spD K 1 S_is_integer)) : BodyCx P w K mg base "is_same" st_is_same N_is_same 1 fun X => JSs X (defBody st_is_same) g_is_same0 := fun f cdv A outer s H E hr => js_cons (js_if (jt_val (je_isi (tn := "tuple") B.isinstance B.tuple (by decide +kernel) (je_v 1))) (js_cons (js_if ((jw_or (jt_not (jt_val (je_isi (tn := "tuple") B.isinstance B.tuple (by decide +kernel) (je_v 0)))) (jw_or1 (jt_cmp (opd_ne hr.units) (je_callB calld_len B.len (by decide +kernel) (ja_cons (je_v 0) (ja_nil))) (je_callB calld_len B.len (by decide +kernel) (ja_cons (je_v 1) (ja_nil))) (nomark _)))).jt) (js_one (js_ret (je_bl))) (js_nil)) (js_one (js_ret (je_callB (calld_all rfl) B.all (by decide +kernel) (ja_cons ((jl_lc (own := [("index", 2), ("part", 3)]) rfl sc_is_same.nd (ji_en B.enumerate (je_v 0)) (blkOk_by (by rfl)) (fun _ _ _ _ _ => jg_tup rfl (jgs_cons (jg_n 2 sc_is_same.nd) (jgs_cons (jg_n 3 sc_is_same.nd) (jgs_nil)))) (fun _ _ _ _ _ => jts_nil) (fun _ _ _ _ _ => je_never)).je) (ja_nil)))))) (js_nil)) (js_cons (js_if (jt_val (je_isi (tn := "str") B.isinstance B.str (by decide +kernel) (je_v 1))) (js_one (js_ret (je_and (je_isi (tn := "str") B.isinstance B.str (by decide +kernel) (je_v 0)) (je_one (je_cmp (opd_eq hr.units) (je_v 0) (je_v 1) (nomark _)))))) (js_nil)) (js_one (js_ret (je_and (je_fn O_is_integer (hr.mono (by decide)) (ja_cons (je_v 0) (ja_nil))) (je_one (je_cmp (opd_eq hr.units) (je_v 0) (je_v 1) (nomark _)))))))
theorem j_is_same (B : Bl K mg) (O_is_integer : Ok P w K mg base "is_integer" P_is_integer 1 (spD K 1 S_is_integer)) (O_is_same0 : Ok P w K mg base "is_same" P_is_same 2 (spD K 2 S_is_same0)) : BodyCx P w K mg base "is_same" st_is_same N_is_same 2 fun X => JSs X (defBody st_is_same) g_is_same := fun f cdv A outer s H E hr => js_cons (js_if (jt_val (je_isi (tn := "tuple") B.isinstance B.tuple (by decide +kernel) (je_v 1))) (js_cons (js_if ((jw_or (jt_not (jt_val (je_isi (tn := "tuple") B.isinstance B.tuple (by decide +kernel) (je_v 0)))) (jw_or1 (jt_cmp (opd_ne hr.units) (je_callB calld_len B.len (by decide +kernel) (ja_cons (je_v 0) (ja_nil))) (je_callB calld_len B.len (by decide +kernel) (ja_cons (je_v 1) (ja_nil))) (nomark _)))).jt) (js_one (js_ret (je_bl))) (js_nil)) (js_one (js_ret (je_callB (calld_all rfl) B.all (by decide +kernel) (ja_cons ((jl_lc (own := [("index", 2), ("part", 3)]) rfl sc_is_same.nd (ji_en B.enumerate (je_v 0)) (blkOk_by (by rfl)) (fun _ _ _ _ _ => jg_tup rfl (jgs_cons (jg_n 2 sc_is_same.nd) (jgs_cons (jg_n 3 sc_is_same.nd) (jgs_nil)))) (fun _ _ _ _ _ => jts_nil) (fun _ _ _ _ _ => je_fn O_is_same0 (hr.mono (by decide)) (ja_cons (je_v 3) (ja_cons (je_ix (je_v 1) (je_v 2)) (ja_nil))))).je) (ja_nil)))))) (js_nil)) (js_cons (js_if (jt_val (je_isi (tn := "str") B.isinstance B.str (by decide +kernel) (je_v 1))) (js_one (js_ret (je_and (je_isi (tn := "str") B.isinstance B.str (by decide +kernel) (je_v 0)) (je_one (je_cmp (opd_eq hr.units) (je_v 0) (je_v 1) (nomark _)))))) (js_nil)) (js_one (js_ret (je_and (je_fn O_is_integer (hr.mono (by decide)) (ja_cons (je_v 0) (ja_nil))) (je_one (je_cmp (opd_eq hr.units) (je_v 0) (je_v 1) (nomark _)))))))
theorem sc_is_told : FnScope N_is_told P_is_told (defScope st_is_told) := ⟨rfl, rfl, rfl, by decide +kernel, rfl, by decide +kernel, by decide +kernel⟩
theorem bs_is_told : BindsAs "is_told" st_is_told P_is_told := fun _ _ _ _ _ _ us hl => match us, hl with | [_, _, _, _], _ => rfl
theorem j_is_told (B : Bl K mg) (O_is_same : Ok P w K mg base "is_same" P_is_same 3 (spD K 2 S_is_same)) (O_is_row : Ok P w K mg base "is_row" P_is_row 1 (spD K 3 S_is_row)) : BodyCx P w K mg base "is_told" st_is_told N_is_told 3 fun X => JSs X (defBody st_is_told) g_is_told := fun f cdv A outer s H E hr => js_cons (js_if ((jw_or (jt_not (jt_val (je_isi (tn := "tuple") B.isinstance B.tuple (by decide +kernel) (je_v 0)))) (jw_or1 (jt_cmp (opd_ne hr.units) (je_callB calld_len B.len (by decide +kernel) (ja_cons (je_v 0) (ja_nil))) (je_bin opd_add (je_v 2) (je_int)) (nomark _)))).jt) (js_one (js_ret (je_bl))) (js_nil)) (js_one (js_ret (je_and (je_fn O_is_same (hr.mono (by decide)) (ja_cons (je_ix (je_v 0) (je_int)) (ja_cons (je_v 1) (ja_nil)))) (je_one (je_fn O_is_row (hr.mono (by decide)) (ja_cons (je_sl (je_v 0) (jo_some (je_int)) (jo_none)) (ja_cons (je_v 2) (ja_cons (je_v 3) (ja_nil)))))))))
theorem sc_check_within : FnScope N_check_within P_check_within (defScope st_check_within) := ⟨rfl, rfl, rfl, by decide +kernel, rfl, by decide +kernel, by decide +kernel⟩
theorem bs_check_within : BindsAs "check_within" st_check_within P_check_within := fun _ _ _ _ _ _ us hl => match us, hl with | [_, _, _], _ => rfl
theorem j_check_within (O_is_within : Ok P w K mg base "is_within" P_is_within 2 (spD K 3 S_is_within)) : BodyCx P w K mg base "check_within" st_check_within N_check_within 2 fun X => JSs X (defBody st_check_within) g_check_within := fun f cdv A outer s H E hr => js_one (js_if (jt_not (jt_val (je_fn O_is_within (hr.mono (by decide)) (ja_cons (je_v 0) (ja_cons (je_v 1) (ja_cons (je_v 2) (ja_nil))))))) (js_one (js_never)) (js_nil))
theorem sc_is_move : FnScope N_is_move P_is_move (defScope st_is_move) := ⟨rfl, rfl, rfl, by decide +kernel, rfl, by decide +kernel, by decide +kernel⟩
theorem bs_is_move : BindsAs "is_move" st_is_move P_is_move := fun _ _ _ _ _ _ us hl => match us, hl with | [_], _ => rfl
theorem j_is_move (B : Bl K mg) {t_MAX_MOVED : Tok} (c_MAX_MOVED : mg "MAX_MOVED" = some (.int 24 t_MAX_MOVED)) (O_is_row : Ok P w K mg base "is_row" P_is_row 1 (spD K 3 S_is_row)) : BodyCx P w K mg base "is_move" st_is_move N_is_move 1 fun X => JSs X (defBody st_is_move) g_is_move := fun f cdv A outer s H E hr => js_cons (js_if ((jw_or (jt_not (jt_val (je_isi (tn := "tuple") B.isinstance B.tuple (by decide +kernel) (je_v 0)))) (jw_or1 (jt_cmp opd_gt (je_callB calld_len B.len (by decide +kernel) (ja_cons (je_v 0) (ja_nil))) (je_globI c_MAX_MOVED (by rfl)) (nomark _)))).jt) (js_one (js_ret (je_bl))) (js_nil)) (js_one (js_ret (je_and (je_fn O_is_row (hr.mono (by decide)) (ja_cons (je_v 0) (ja_cons (je_callB calld_len B.len (by decide +kernel) (ja_cons (je_v 0) (ja_nil))) (ja_cons (je_callB calld_len B.len (by decide +kernel) (ja_cons (je_v 0) (ja_nil))) (ja_nil))))) (je_one (je_cmp (opd_eq hr.units) (je_lenSet rfl B.len B.set (je_v 0)) (je_callB calld_len B.len (by decide +kernel) (ja_cons (je_v 0) (ja_nil))) (nomark _))))))
theorem sc_is_move_of : FnScope N_is_move_of P_is_move_of (defScope st_is_move_of) := ⟨rfl, rfl, rfl, by decide +kernel, rfl, by decide +kernel, by decide +kernel⟩
theorem bs_is_move_of : BindsAs "is_move_of" st_is_move_of P_is_move_of := fun _ _ _ _ _ _ us hl => match us, hl with | [_, _], _ => rfl
theorem j_is_move_of (B : Bl K mg) (O_is_move : Ok P w K mg base "is_move" P_is_move 2 (spD K 1 S_is_move)) : BodyCx P w K mg base "is_move_of" st_is_move_of N_is_move_of 2 fun X => JSs X (defBody st_is_move_of) g_is_move_of := fun f cdv A outer s H E hr => js_one (js_ret (je_and (je_fn O_is_move (hr.mono (by decide)) (ja_cons (je_v 0) (ja_nil))) (je_one (je_cmp (opd_eq hr.units) (je_callB calld_len B.len (by decide +kernel) (ja_cons (je_v 0) (ja_nil))) (je_v 1) (nomark _)))))
theorem sc_joined_moves : FnScope N_joined_moves P_joined_moves (defScope st_joined_moves) := ⟨rfl, rfl, rfl, by decide +kernel, rfl, by decide +kernel, by decide +kernel⟩
theorem bs_joined_moves : BindsAs "joined_moves" st_joined_moves P_joined_moves := fun _ _ _ _ _ _ us hl => match us, hl with | [_, _], _ => rfl
theorem j_joined_moves (B : Bl K mg) : BodyCx P w K mg base "joined_moves" st_joined_moves N_joined_moves 0 fun X => JSs X (defBody st_joined_moves) g_joined_moves := fun f cdv A outer s H E hr => js_one (js_ret (je_callTy calld_tuple B.tuple (by decide +kernel) (ja_cons ((jl_lc (own := [("thing", 2)]) rfl sc_joined_moves.nd (ji_sq (je_v 1)) (blkOk_by (by rfl)) (fun _ _ _ _ _ => jg_n 2 sc_joined_moves.nd) (fun _ _ _ _ _ => jts_nil) (fun _ _ _ _ _ => je_ix (je_v 0) (je_v 2))).je) (ja_nil))))
theorem sc_unit_of : FnScope N_unit_of P_unit_of (defScope st_unit_of) := ⟨rfl, rfl, rfl, by decide +kernel, rfl, by decide +kernel, by decide +kernel⟩
theorem bs_unit_of : BindsAs "unit_of" st_unit_of P_unit_of := fun _ _ _ _ _ _ us hl => match us, hl with | [_], _ => rfl
theorem j_unit_of (B : Bl K mg) : BodyCx P w K mg base "unit_of" st_unit_of N_unit_of 0 fun X => JSs X (defBody st_unit_of) g_unit_of := fun f cdv A outer s H E hr => js_cons (js_set (i := 1) ((je_tupRg rfl B.tuple (jr_1 B.range (je_callB calld_len B.len (by decide +kernel) (ja_cons (je_v 0) (ja_nil))))).jx) sc_unit_of.nd rfl (by first | exact Or.inl rfl | exact Or.inr rfl)) (js_cons (js_for (vs := [2]) rfl (ji_sq (je_v 1)) (jg_n 2 sc_unit_of.nd) (js_one (js_if ((jw_and (jt_cmp (opd_eq hr.units) (je_ix (je_v 0) (je_v 2)) (je_v 1) (nomark _)) (jw_and1 (jt_cmp (opd_eq hr.units) (je_callTy calld_tuple B.tuple (by decide +kernel) (ja_cons ((jl_lc (own := [("row", 3)]) rfl sc_unit_of.nd (ji_sq (je_v 0)) (blkOk_by (by rfl)) (fun _ _ _ _ _ => jg_n 3 sc_unit_of.nd) (fun _ _ _ _ _ => jts_nil) (fun _ _ _ _ _ => je_ix (je_v 3) (je_v 2))).je) (ja_nil))) (je_v 1) (nomark _)))).jt) (js_one (js_ret (je_v 2))) (js_nil)))) (js_one (js_ret (je_non))))
theorem sc_back_of : FnScope N_back_of P_back_of (defScope st_back_of) := ⟨rfl, rfl, rfl, by decide +kernel, rfl, by decide +kernel, by decide +kernel⟩
theorem bs_back_of : BindsAs "back_of" st_back_of P_back_of := fun _ _ _ _ _ _ us hl => match us, hl with | [_, _, _], _ => rfl
theorem j_back_of (B : Bl K mg) : BodyCx P w K mg base "back_of" st_back_of N_back_of 0 fun X => JSs X (defBody st_back_of) g_back_of := fun f cdv A outer s H E hr => js_cons (js_for (vs := [3, 4]) rfl (ji_en B.enumerate (je_ix (je_v 0) (je_v 2))) (jg_tup rfl (jgs_cons (jg_n 3 sc_back_of.nd) (jgs_cons (jg_n 4 sc_back_of.nd) (jgs_nil)))) (js_one (js_if ((jw_and (jt_cmp (opd_eq hr.units) (je_v 4) (je_v 1) (nomark _)) (jw_and1 (jt_cmp (opd_eq hr.units) (je_ix (je_ix (je_v 0) (je_v 3)) (je_v 2)) (je_v 1) (nomark _)))).jt) (js_one (js_ret (je_v 3))) (js_nil)))) (js_one (js_ret (je_non)))
theorem sc_backs_of : FnScope N_backs_of P_backs_of (defScope st_backs_of) := ⟨rfl, rfl, rfl, by decide +kernel, rfl, by decide +kernel, by decide +kernel⟩
theorem bs_backs_of : BindsAs "backs_of" st_backs_of P_backs_of := fun _ _ _ _ _ _ us hl => match us, hl with | [_, _], _ => rfl
theorem j_backs_of (B : Bl K mg) (O_back_of : Ok P w K mg base "back_of" P_back_of 1 (spD K 3 S_back_of)) : BodyCx P w K mg base "backs_of" st_backs_of N_backs_of 1 fun X => JSs X (defBody st_backs_of) g_backs_of := fun f cdv A outer s H E hr => js_one (js_ret (je_callTy calld_tuple B.tuple (by decide +kernel) (ja_cons ((jl_lc (own := [("thing", 2)]) rfl sc_backs_of.nd (ji_r1 B.range (je_callB calld_len B.len (by decide +kernel) (ja_cons (je_v 0) (ja_nil)))) (blkOk_by (by rfl)) (fun _ _ _ _ _ => jg_n 2 sc_backs_of.nd) (fun _ _ _ _ _ => jts_nil) (fun _ _ _ _ _ => je_fn O_back_of (hr.mono (by decide)) (ja_cons (je_v 0) (ja_cons (je_v 1) (ja_cons (je_v 2) (ja_nil)))))).je) (ja_nil))))
theorem sc_broken_three : FnScope N_broken_three P_broken_three (defScope st_broken_three) := ⟨rfl, rfl, rfl, by decide +kernel, rfl, by decide +kernel, by decide +kernel⟩
theorem bs_broken_three : BindsAs "broken_three" st_broken_three P_broken_three := fun _ _ _ _ _ _ us hl => match us, hl with | [_], _ => rfl
theorem j_broken_three (B : Bl K mg) : BodyCx P w K mg base "broken_three" st_broken_three N_broken_three 0 fun X => JSs X (defBody st_broken_three) g_broken_three := fun f cdv A outer s H E hr => js_cons (js_for (vs := [1, 2]) rfl (ji_en B.enumerate (je_v 0)) (jg_tup rfl (jgs_cons (jg_n 1 sc_broken_three.nd) (jgs_cons (jg_n 2 sc_broken_three.nd) (jgs_nil)))) (js_one (js_for (vs := [3, 4]) rfl (ji_en B.enumerate (je_v 2)) (jg_tup rfl (jgs_cons (jg_n 3 sc_broken_three.nd) (jgs_cons (jg_n 4 sc_broken_three.nd) (jgs_nil)))) (js_one (js_for (vs := [5, 6]) rfl (ji_en B.enumerate (je_ix (je_v 0) (je_v 3))) (jg_tup rfl (jgs_cons (jg_n 5 sc_broken_three.nd) (jgs_cons (jg_n 6 sc_broken_three.nd) (jgs_nil)))) (js_one (js_if (jt_cmp (opd_ne hr.units) (je_ix (je_ix (je_v 0) (je_v 4)) (je_v 5)) (je_ix (je_v 2) (je_v 6)) (nomark _)) (js_one (js_ret (je_tup (ja_cons (je_v 1) (ja_cons (je_v 3) (ja_cons (je_v 5) (ja_nil))))))) (js_nil)))))))) (js_one (js_ret (je_non)))
theorem sc_centre_of : FnScope N_centre_of P_centre_of (defScope st_centre_of) := ⟨rfl, rfl, rfl, by decide +kernel, rfl, by decide +kernel, by decide +kernel⟩
theorem bs_centre_of : BindsAs "centre_of" st_centre_of P_centre_of := fun _ _ _ _ _ _ us hl => match us, hl with | [_], _ => rfl
theorem j_centre_of (B : Bl K mg) : BodyCx P w K mg base "centre_of" st_centre_of N_centre_of 0 fun X => JSs X (defBody st_centre_of) g_centre_of := fun f cdv A outer s H E hr => js_cons (js_set (i := 1) (((jl_lc (own := [("thing", 2)]) rfl sc_centre_of.nd (ji_r1 B.range (je_callB calld_len B.len (by decide +kernel) (ja_cons (je_v 0) (ja_nil)))) (blkOk_by (by rfl)) (fun _ _ _ _ _ => jg_n 2 sc_centre_of.nd) (fun _ _ _ _ _ => jts_nil) (fun _ _ _ _ _ => je_callTy calld_tuple B.tuple (by decide +kernel) (ja_cons ((jl_lc (own := [("row", 3)]) rfl sc_centre_of.nd (ji_sq (je_v 0)) (blkOk_by (by rfl)) (fun _ _ _ _ _ => jg_n 3 sc_centre_of.nd) (fun _ _ _ _ _ => jts_nil) (fun _ _ _ _ _ => je_ix (je_v 3) (je_v 2))).je) (ja_nil)))).je).jx) sc_centre_of.nd rfl (by first | exact Or.inl rfl | exact Or.inr rfl)) (js_one (js_ret (je_callTy calld_tuple B.tuple (by decide +kernel) (ja_cons ((jl_lc (own := [("thing", 2), ("row", 3)]) rfl sc_centre_of.nd (ji_en B.enumerate (je_v 0)) (blkOk_by (by rfl)) (fun _ _ _ _ _ => jg_tup rfl (jgs_cons (jg_n 2 sc_centre_of.nd) (jgs_cons (jg_n 3 sc_centre_of.nd) (jgs_nil)))) (fun _ _ _ _ _ => jts_one (jt_cmp (opd_eq hr.units) (je_v 3) (je_ix (je_v 1) (je_v 2)) (nomark _))) (fun _ _ _ _ _ => je_v 2)).je) (ja_nil)))))
theorem sc_cyclic_rows : FnScope N_cyclic_rows P_cyclic_rows (defScope st_cyclic_rows) := ⟨rfl, rfl, rfl, by decide +kernel, rfl, by decide +kernel, by decide +kernel⟩
theorem bs_cyclic_rows : BindsAs "cyclic_rows" st_cyclic_rows P_cyclic_rows := fun _ _ _ _ _ _ us hl => match us, hl with | [_], _ => rfl
theorem j_cyclic_rows (B : Bl K mg) : BodyCx P w K mg base "cyclic_rows" st_cyclic_rows N_cyclic_rows 0 fun X => JSs X (defBody st_cyclic_rows) g_cyclic_rows := fun f cdv A outer s H E hr => js_one (js_ret (je_callTy calld_tuple B.tuple (by decide +kernel) (ja_cons ((jl_lc (own := [("a", 1)]) rfl sc_cyclic_rows.nd (ji_r1 B.range (je_v 0)) (blkOk_by (by rfl)) (fun _ _ _ _ _ => jg_n 1 sc_cyclic_rows.nd) (fun _ _ _ _ _ => jts_nil) (fun _ _ _ _ _ => je_callTy calld_tuple B.tuple (by decide +kernel) (ja_cons ((jl_lc (own := [("b", 2)]) rfl sc_cyclic_rows.nd (ji_r1 B.range (je_v 0)) (blkOk_by (by rfl)) (fun _ _ _ _ _ => jg_n 2 sc_cyclic_rows.nd) (fun _ _ _ _ _ => jts_nil) (fun _ _ _ _ _ => je_bin opd_mod (je_bin opd_add (je_v 1) (je_v 2)) (je_v 0))).je) (ja_nil)))).je) (ja_nil))))
theorem sc__check_rows : FnScope N__check_rows P__check_rows (defScope st__check_rows) := ⟨rfl, rfl, rfl, by decide +kernel, rfl, by decide +kernel, by decide +kernel⟩
theorem bs__check_rows : BindsAs "_check_rows" st__check_rows P__check_rows := fun _ _ _ _ _ _ us hl => match us, hl with | [_], _ => rfl
theorem j__check_rows {t_MAX_GROUP : Tok} (c_MAX_GROUP : mg "MAX_GROUP" = some (.int 24 t_MAX_GROUP)) (O_is_square : Ok P w K mg base "is_square" P_is_square 2 (spD K 3 S_is_square)) : BodyCx P w K mg base "_check_rows" st__check_rows N__check_rows 2 fun X => JSs X (defBody st__check_rows) g__check_rows := fun f cdv A outer s H E hr => js_one (js_if (jt_not (jt_val (je_fn O_is_square (hr.mono (by decide)) (ja_cons (je_v 0) (ja_cons (je_int) (ja_cons (je_globI c_MAX_GROUP (by rfl)) (ja_nil))))))) (js_one (js_never)) (js_nil))
theorem sc_check_group : FnScope N_check_group P_check_group (defScope st_check_group) := ⟨rfl, rfl, rfl, by decide +kernel, rfl, by decide +kernel, by decide +kernel⟩
theorem bs_check_group : BindsAs "check_group" st_check_group P_check_group := fun _ _ _ _ _ _ us hl => match us, hl with | [_], _ => rfl
theorem j_check_group (B : Bl K mg) (CF_Group : ClsF K mg "Group" ["_rows", "_unit", "_backs", "_centre"]) : BodyCx P w K mg base "check_group" st_check_group N_check_group 0 fun X => JSs X (defBody st_check_group) g_check_group := fun f cdv A outer s H E hr => js_one (js_if (jt_not (jt_val (je_isC B.isinstance CF_Group.mg CF_Group.ic oth0 (je_v 0)))) (js_one (js_never)) (js_nil))
theorem sc__breaks_rule : FnScope N__breaks_rule P__breaks_rule (defScope st__breaks_rule) := ⟨rfl, rfl, rfl, by decide +kernel, rfl, by decide +kernel, by decide +kernel⟩
theorem bs__breaks_rule : BindsAs "_breaks_rule" st__breaks_rule P__breaks_rule := fun _ _ _ _ _ _ us hl => match us, hl with | [_, _, _, _, _], _ => rfl
theorem j__breaks_rule : BodyCx P w K mg base "_breaks_rule" st__breaks_rule N__breaks_rule 0 fun X => JSs X (defBody st__breaks_rule) g__breaks_rule := fun f cdv A outer s H E hr => js_one (js_ret (je_cmp (opd_ne hr.units) (je_ix (je_v 1) (je_ix (je_ix (je_v 0) (je_v 3)) (je_v 4))) (je_ix (je_ix (je_v 0) (je_ix (je_ix (je_v 0) (je_ix (je_v 1) (je_v 3))) (je_v 2))) (je_ix (je_v 1) (je_v 4))) (nomark _)))
theorem sc_check_double : FnScope N_check_double P_check_double (defScope st_check_double) := ⟨rfl, rfl, rfl, by decide +kernel, rfl, by decide +kernel, by decide +kernel⟩
theorem bs_check_double : BindsAs "check_double" st_check_double P_check_double := fun _ _ _ _ _ _ us hl => match us, hl with | [_], _ => rfl
theorem j_check_double (B : Bl K mg) (CF_Double : ClsF K mg "Double" ["_plus", "_circle", "_backs", "_turns"]) (OT_Double : Oth K "Double" ["Group"]) : BodyCx P w K mg base "check_double" st_check_double N_check_double 0 fun X => JSs X (defBody st_check_double) g_check_double := fun f cdv A outer s H E hr => js_one (js_if (jt_not (jt_val (je_isC B.isinstance CF_Double.mg CF_Double.ic OT_Double (je_v 0)))) (js_one (js_never)) (js_nil))
theorem sc__law_dice : FnScope N__law_dice P__law_dice (defScope st__law_dice) := ⟨rfl, rfl, rfl, by decide +kernel, rfl, by decide +kernel, by decide +kernel⟩
theorem bs__law_dice : BindsAs "_law_dice" st__law_dice P__law_dice := fun _ _ _ _ _ _ us hl => match us, hl with | [_, _], _ => rfl
theorem j__law_dice (B : Bl K mg) : BodyCx P w K mg base "_law_dice" st__law_dice N__law_dice 0 fun X => JSL X (defBody st__law_dice) g__law_dice := fun f cdv A outer s H E hr => jsl_cons (js_set (i := 2) ((je_if (jt_cmp opd_lt (je_v 1) (je_callB calld_len B.len (by decide +kernel) (ja_cons (je_v 0) (ja_nil))) (nomark _)) (je_callTy calld_int B.int (by decide +kernel) (ja_cons (je_ix (je_v 0) (je_v 1)) (ja_nil))) (je_bin opd_add (je_bin opd_mulA (je_int) (je_v 1)) (je_int))).jx) sc__law_dice.nd rfl (by first | exact Or.inl rfl | exact Or.inr rfl)) (jsl_cons (js_set (i := 3) ((je_bin opd_mod (je_callB (calld_max2 rfl) B.max (by decide +kernel) (ja_cons (je_int) (ja_cons (je_bin opd_sub (je_callB calld_abs B.abs (by decide +kernel) (ja_cons (je_v 2) (ja_nil))) (je_bin opd_pow (je_int) (je_int))) (ja_nil)))) (je_bin opd_mulA (je_bin opd_pow (je_int) (je_int)) (je_bin opd_pow (je_int) (je_int)))).jx) sc__law_dice.nd rfl (by first | exact Or.inl rfl | exact Or.inr rfl)) (jsl_ret (jl_lst (ja_cons (je_v 3) (ja_cons (je_bin opd_add (je_bin opd_add (je_bin opd_add (je_bin opd_mulA (je_bin opd_mod (je_callB calld_abs B.abs (by decide +kernel) (ja_cons (je_v 2) (ja_nil))) (je_int)) (je_int)) (je_bin opd_mulA (je_int) (je_v 1))) (je_bin opd_mulA (je_int) (je_callTy calld_int B.int (by decide +kernel) (ja_cons (je_cmp opd_lt (je_v 2) (je_int) (nomark _)) (ja_nil))))) (je_int)) (ja_cons (je_int) (ja_nil)))))))
theorem sc__law_roll : FnScope N__law_roll P__law_roll (defScope st__law_roll) := ⟨rfl, rfl, rfl, by decide +kernel, rfl, by decide +kernel, by decide +kernel⟩
theorem bs__law_roll : BindsAs "_law_roll" st__law_roll P__law_roll := fun _ _ _ _ _ _ us hl => match us, hl with | [_, _], _ => rfl
theorem j__law_roll (B : Bl K mg) : BodyCx P w K mg base "_law_roll" st__law_roll N__law_roll 0 fun X => JSs X (defBody st__law_roll) g__law_roll := fun f cdv A outer s H E hr => js_cons (js_if (jt_cmp opd_gt (je_ixP (i := 0) rfl (by first | exact Or.inl rfl | exact Or.inr (Or.inl rfl) | exact Or.inr (Or.inr rfl)) (je_int)) (je_int) (nomark _)) (js_cons (js_set (i := 2) ((je_bin opd_mod (je_callTy calld_int B.int (by decide +kernel) (ja_cons (je_ixP (i := 0) rfl (by first | exact Or.inl rfl | exact Or.inr (Or.inl rfl) | exact Or.inr (Or.inr rfl)) (je_int)) (ja_nil))) (je_v 1)).jx) sc__law_roll.nd rfl (by first | exact Or.inl rfl | exact Or.inr rfl)) (js_cons (js_sub (i := 0) rfl (by first | exact Or.inl rfl | exact Or.inr (Or.inl rfl) | exact Or.inr (Or.inr rfl)) (je_int) (je_bin opd_fdiv (je_ixP (i := 0) rfl (by first | exact Or.inl rfl | exact Or.inr (Or.inl rfl) | exact Or.inr (Or.inr rfl)) (je_int)) (je_v 1))) (js_one (js_ret (je_v 2))))) (js_nil)) (js_cons (js_sub (i := 0) rfl (by first | exact Or.inl rfl | exact Or.inr (Or.inl rfl) | exact Or.inr (Or.inr rfl)) (je_int) (je_bin opd_add (je_ixP (i := 0) rfl (by first | exact Or.inl rfl | exact Or.inr (Or.inl rfl) | exact Or.inr (Or.inr rfl)) (je_int)) (je_int))) (js_cons (js_set (i := 3) ((je_bin opd_mod (je_callTy calld_int B.int (by decide +kernel) (ja_cons (je_bin opd_add (je_ixP (i := 0) rfl (by first | exact Or.inl rfl | exact Or.inr (Or.inl rfl) | exact Or.inr (Or.inr rfl)) (je_int)) (je_bin opd_mulA (je_int) (je_ixP (i := 0) rfl (by first | exact Or.inl rfl | exact Or.inr (Or.inl rfl) | exact Or.inr (Or.inr rfl)) (je_int)))) (ja_nil))) (je_int)).jx) sc__law_roll.nd rfl (by first | exact Or.inl rfl | exact Or.inr rfl)) (js_cons (js_set (i := 4) ((je_bin opd_add (je_bin opd_mulA (je_bin opd_mod (je_callTy calld_int B.int (by decide +kernel) (ja_cons (je_bin opd_add (je_bin opd_mulA (je_v 3) (je_v 3)) (je_bin opd_mulA (je_int) (je_ixP (i := 0) rfl (by first | exact Or.inl rfl | exact Or.inr (Or.inl rfl) | exact Or.inr (Or.inr rfl)) (je_int)))) (ja_nil))) (je_int)) (je_int)) (je_v 3)).jx) sc__law_roll.nd rfl (by first | exact Or.inl rfl | exact Or.inr rfl)) (js_one (js_ret (je_bin opd_mod (je_callTy calld_int B.int (by decide +kernel) (ja_cons (je_bin opd_fdiv (je_v 4) (je_int)) (ja_nil))) (je_v 1)))))))
theorem sc__law_pick : FnScope N__law_pick P__law_pick (defScope st__law_pick) := ⟨rfl, rfl, rfl, by decide +kernel, rfl, by decide +kernel, by decide +kernel⟩
theorem bs__law_pick : BindsAs "_law_pick" st__law_pick P__law_pick := fun _ _ _ _ _ _ us hl => match us, hl with | [_, _], _ => rfl
theorem j__law_pick (B : Bl K mg) (O__law_roll : Ok P w K mg base "_law_roll" P__law_roll 1 (spM K 2 S__law_roll)) : BodyCx P w K mg base "_law_pick" st__law_pick N__law_pick 1 fun X => JSs X (defBody st__law_pick) g__law_pick := fun f cdv A outer s H E hr => js_one (js_ret (je_ix (je_v 1) (je_fnM O__law_roll (hr.mono (by decide)) (i := 0) rfl (by first | exact Or.inl rfl | exact Or.inr (Or.inl rfl) | exact Or.inr (Or.inr rfl)) (ja_cons (je_callB calld_len B.len (by decide +kernel) (ja_cons (je_v 1) (ja_nil))) (ja_nil)))))
theorem sc__law_mixed : FnScope N__law_mixed P__law_mixed (defScope st__law_mixed) := ⟨rfl, rfl, rfl, by decide +kernel, rfl, by decide +kernel, by decide +kernel⟩
theorem bs__law_mixed : BindsAs "_law_mixed" st__law_mixed P__law_mixed := fun _ _ _ _ _ _ us hl => match us, hl with | [_, _], _ => rfl
theorem j__law_mixed (B : Bl K mg) (O__law_roll : Ok P w K mg base "_law_roll" P__law_roll 1 (spM K 2 S__law_roll)) : BodyCx P w K mg base "_law_mixed" st__law_mixed N__law_mixed 1 fun X => JSs X (defBody st__law_mixed) g__law_mixed := fun f cdv A outer s H E hr => js_cons (js_par (i := 2) (j := 3) rfl sc__law_mixed.nd rfl rfl (by decide) rfl rfl ((jl_list B.list (je_v 1)).jx) ((jl_lst (ja_nil)).jx) rfl) (js_cons (js_for (vs := [4]) rfl (ji_r1 B.range (je_callB calld_len B.len (by decide +kernel) (ja_cons (je_v 1) (ja_nil)))) (jg_n 4 sc__law_mixed.nd) (js_one (js_expr (je_app (i := 3) rfl (by first | exact Or.inl rfl | exact Or.inr (Or.inl rfl) | exact Or.inr (Or.inr rfl)) (je_popAt (i := 2) rfl (by first | exact Or.inl rfl | exact Or.inr (Or.inl rfl) | exact Or.inr (Or.inr rfl)) (je_fnM O__law_roll (hr.mono (by decide)) (i := 0) rfl (by first | exact Or.inl rfl | exact Or.inr (Or.inl rfl) | exact Or.inr (Or.inr rfl)) (ja_cons (je_callBO calld_len B.len (by decide +kernel) (i := 2) rfl (by first | exact Or.inl rfl | exact Or.inr (Or.inl rfl) | exact Or.inr (Or.inr rfl))) (ja_nil)))))))) (js_one (js_retO (i := 3) rfl (by first | exact Or.inl rfl | exact Or.inr (Or.inl rfl) | exact Or.inr (Or.inr rfl)))))
theorem sc__law_joined : FnScope N__law_joined P__law_joined (defScope st__law_joined) := ⟨rfl, rfl, rfl, by decide +kernel, rfl, by decide +kernel, by decide +kernel⟩
theorem bs__law_joined : BindsAs "_law_joined" st__law_joined P__law_joined := fun _ _ _ _ _ _ us hl => match us, hl with | [_, _], _ => rfl
theorem j__law_joined (B : Bl K mg) : BodyCx P w K mg base "_law_joined" st__law_joined N__law_joined 0 fun X => JSs X (defBody st__law_joined) g__law_joined := fun f cdv A outer s H E hr => js_one (js_ret (je_callTy calld_tuple B.tuple (by decide +kernel) (ja_cons ((jl_lc (own := [("_law_thing", 2)]) rfl sc__law_joined.nd (ji_sq (je_v 1)) (blkOk_by (by rfl)) (fun _ _ _ _ _ => jg_n 2 sc__law_joined.nd) (fun _ _ _ _ _ => jts_nil) (fun _ _ _ _ _ => je_ix (je_v 0) (je_v 2))).je) (ja_nil))))
theorem sc__law_undone : FnScope N__law_undone P__law_undone (defScope st__law_undone) := ⟨rfl, rfl, rfl, by decide +kernel, rfl, by decide +kernel, by decide +kernel⟩
theorem bs__law_undone : BindsAs "_law_undone" st__law_undone P__law_undone := fun _ _ _ _ _ _ us hl => match us, hl with | [_], _ => rfl
theorem j__law_undone (B : Bl K mg) : BodyCx P w K mg base "_law_undone" st__law_undone N__law_undone 0 fun X => JSs X (defBody st__law_undone) g__law_undone := fun f cdv A outer s H E hr => js_cons (js_lcO (own := [("_law_thing", 2)]) rfl sc__law_undone.nd (i := 1) rfl rfl (sw_true rfl rfl rfl (by decide +kernel)) (ji_sq (je_v 0)) (blkOk_by (by rfl)) (fun _ _ _ _ _ => jg_n 2 sc__law_undone.nd) (fun _ _ _ _ _ => jts_nil) (fun _ _ _ _ _ => je_int)) (js_cons (js_for (vs := [2, 3]) rfl (ji_en B.enumerate (je_v 0)) (jg_tup rfl (jgs_cons (jg_n 2 sc__law_undone.nd) (jgs_cons (jg_n 3 sc__law_undone.nd) (jgs_nil)))) (js_one (js_sub (i := 1) rfl (by first | exact Or.inl rfl | exact Or.inr (Or.inl rfl) | exact Or.inr (Or.inr rfl)) (je_v 3) (je_v 2)))) (js_one (js_ret (je_tupleO B.tuple (i := 1) rfl (by first | exact Or.inl rfl | exact Or.inr (Or.inl rfl) | exact Or.inr (Or.inr rfl))))))
theorem sc__law_drawn_move : FnScope N__law_drawn_move P__law_drawn_move (defScope st__law_drawn_move) := ⟨rfl, rfl, rfl, by decide +kernel, rfl, by decide +kernel, by decide +kernel⟩
theorem bs__law_drawn_move : BindsAs "_law_drawn_move" st__law_drawn_move P__law_drawn_move := fun _ _ _ _ _ _ us hl => match us, hl with | [_, _], _ => rfl
theorem j__law_drawn_move (B : Bl K mg) (O__law_mixed : Ok P w K mg base "_law_mixed" P__law_mixed 2 (spM K 2 S__law_mixed)) : BodyCx P w K mg base "_law_drawn_move" st__law_drawn_move N__law_drawn_move 2 fun X => JSs X (defBody st__law_drawn_move) g__law_drawn_move := fun f cdv A outer s H E hr => js_one (js_ret (je_callTy calld_tuple B.tuple (by decide +kernel) (ja_cons (je_fnM O__law_mixed (hr.mono (by decide)) (i := 0) rfl (by first | exact Or.inl rfl | exact Or.inr (Or.inl rfl) | exact Or.inr (Or.inr rfl)) (ja_cons ((jl_rg rfl B.list (jr_1 B.range (je_v 1))).je) (ja_nil))) (ja_nil))))
theorem sc__law_places_of : FnScope N__law_places_of P__law_places_of (defScope st__law_places_of) := ⟨rfl, rfl, rfl, by decide +kernel, rfl, by decide +kernel, by decide +kernel⟩
theorem bs__law_places_of : BindsAs "_law_places_of" st__law_places_of P__law_places_of := fun _ _ _ _ _ _ us hl => match us, hl with | [_, _], _ => rfl
theorem j__law_places_of (B : Bl K mg) : BodyCx P w K mg base "_law_places_of" st__law_places_of N__law_places_of 0 fun X => JSs X (defBody st__law_places_of) g__law_places_of := fun f cdv A outer s H E hr => js_one (js_ret ((jl_lc (own := [("_law_at", 2)]) rfl sc__law_places_of.nd (ji_r1 B.range (je_bin opd_mulA (je_v 0) (je_v 1))) (blkOk_by (by rfl)) (fun _ _ _ _ _ => jg_n 2 sc__law_places_of.nd) (fun _ _ _ _ _ => jts_nil) (fun _ _ _ _ _ => je_tup (ja_cons (je_bin opd_fdiv (je_v 2) (je_v 1)) (ja_cons (je_bin opd_mod (je_v 2) (je_v 1)) (ja_nil))))).je))
theorem sc__law_product_dots : FnScope N__law_product_dots P__law_product_dots (defScope st__law_product_dots) := ⟨rfl, rfl, rfl, by decide +kernel, rfl, by decide +kernel, by decide +kernel⟩
theorem bs__law_product_dots : BindsAs "_law_product_dots" st__law_product_dots P__law_product_dots := fun _ _ _ _ _ _ us hl => match us, hl with | [_, _], _ => rfl
theorem j__law_product_dots (B : Bl K mg) (O__law_places_of : Ok P w K mg base "_law_places_of" P__law_places_of 1 (spD K 2 S__law_places_of)) : BodyCx P w K mg base "_law_product_dots" st__law_product_dots N__law_product_dots 1 fun X => JSs X (defBody st__law_product_dots) g__law_product_dots := fun f cdv A outer s H E hr => js_cons (js_parT (i := 2) (j := 3) rfl sc__law_product_dots.nd rfl rfl (by decide) (by first | exact Or.inl rfl | exact Or.inr rfl) (by first | exact Or.inl rfl | exact Or.inr rfl) ((je_callB calld_len B.len (by decide +kernel) (ja_cons (je_v 1) (ja_nil))).jx) ((jl_lst (ja_nil)).jx)) (js_cons (js_set (i := 4) ((je_fn O__law_places_of (hr.mono (by decide)) (ja_cons (je_callB calld_len B.len (by decide +kernel) (ja_cons (je_v 0) (ja_nil))) (ja_cons (je_v 2) (ja_nil)))).jx) sc__law_product_dots.nd rfl (by first | exact Or.inl rfl | exact Or.inr rfl)) (js_cons (js_for (vs := [5, 6]) rfl (ji_sq (je_v 4)) (jg_tup rfl (jgs_cons (jg_n 5 sc__law_product_dots.nd) (jgs_cons (jg_n 6 sc__law_product_dots.nd) (jgs_nil)))) (js_cons (js_parT (i := 7) (j := 8) rfl sc__law_product_dots.nd rfl rfl (by decide) (by first | exact Or.inl rfl | exact Or.inr rfl) (by first | exact Or.inl rfl | exact Or.inr rfl) ((je_ix (je_v 0) (je_v 5)).jx) ((je_ix (je_v 1) (je_v 6)).jx)) (js_one (js_expr (je_app (i := 3) rfl (by first | exact Or.inl rfl | exact Or.inr (Or.inl rfl) | exact Or.inr (Or.inr rfl)) (je_callTy calld_tuple B.tuple (by decide +kernel) (ja_cons ((jl_lc (own := [("_law_a", 9), ("_law_b", 10)]) rfl sc__law_product_dots.nd (ji_sq (je_v 4)) (blkOk_by (by rfl)) (fun _ _ _ _ _ => jg_tup rfl (jgs_cons (jg_n 9 sc__law_product_dots.nd) (jgs_cons (jg_n 10 sc__law_product_dots.nd) (jgs_nil)))) (fun _ _ _ _ _ => jts_nil) (fun _ _ _ _ _ => je_bin opd_add (je_bin opd_mulA (je_ix (je_v 7) (je_v 9)) (je_v 2)) (je_ix (je_v 8) (je_v 10)))).je) (ja_nil)))))))) (js_one (js_retO (i := 3) rfl (by first | exact Or.inl rfl | exact Or.inr (Or.inl rfl) | exact Or.inr (Or.inr rfl))))))
theorem sc__law_cyclic : FnScope N__law_cyclic P__law_cyclic (defScope st__law_cyclic) := ⟨rfl, rfl, rfl, by decide +kernel, rfl, by decide +kernel, by decide +kernel⟩
theorem bs__law_cyclic : BindsAs "_law_cyclic" st__law_cyclic P__law_cyclic := fun _ _ _ _ _ _ us hl => match us, hl with | [_], _ => rfl
theorem j__law_cyclic (B : Bl K mg) : BodyCx P w K mg base "_law_cyclic" st__law_cyclic N__law_cyclic 0 fun X => JSs X (defBody st__law_cyclic) g__law_cyclic := fun f cdv A outer s H E hr => js_one (js_ret (je_callTy calld_tuple B.tuple (by decide +kernel) (ja_cons ((jl_lc (own := [("_law_a", 1)]) rfl sc__law_cyclic.nd (ji_r1 B.range (je_v 0)) (blkOk_by (by rfl)) (fun _ _ _ _ _ => jg_n 1 sc__law_cyclic.nd) (fun _ _ _ _ _ => jts_nil) (fun _ _ _ _ _ => je_callTy calld_tuple B.tuple (by decide +kernel) (ja_cons ((jl_lc (own := [("_law_b", 2)]) rfl sc__law_cyclic.nd (ji_r1 B.range (je_v 0)) (blkOk_by (by rfl)) (fun _ _ _ _ _ => jg_n 2 sc__law_cyclic.nd) (fun _ _ _ _ _ => jts_nil) (fun _ _ _ _ _ => je_bin opd_mod (je_callTy calld_int B.int (by decide +kernel) (ja_cons (je_bin opd_add (je_v 1) (je_v 2)) (ja_nil))) (je_v 0))).je) (ja_nil)))).je) (ja_nil))))
theorem sc__law_direct : FnScope N__law_direct P__law_direct (defScope st__law_direct) := ⟨rfl, rfl, rfl, by decide +kernel, rfl, by decide +kernel, by decide +kernel⟩
theorem bs__law_direct : BindsAs "_law_direct" st__law_direct P__law_direct := fun _ _ _ _ _ _ us hl => match us, hl with | [_, _], _ => rfl
theorem j__law_direct (B : Bl K mg) (O__law_product_dots : Ok P w K mg base "_law_product_dots" P__law_product_dots 2 (spD K 2 S__law_product_dots)) : BodyCx P w K mg base "_law_direct" st__law_direct N__law_direct 2 fun X => JSs X (defBody st__law_direct) g__law_direct := fun f cdv A outer s H E hr => js_one (js_ret (je_callTy calld_tuple B.tuple (by decide +kernel) (ja_cons (je_fn O__law_product_dots (hr.mono (by decide)) (ja_cons (je_v 0) (ja_cons (je_v 1) (ja_nil)))) (ja_nil))))
theorem sc__law_turned_pairs : FnScope N__law_turned_pairs P__law_turned_pairs (defScope st__law_turned_pairs) := ⟨rfl, rfl, rfl, by decide +kernel, rfl, by decide +kernel, by decide +kernel⟩
theorem bs__law_turned_pairs : BindsAs "_law_turned_pairs" st__law_turned_pairs P__law_turned_pairs := fun _ _ _ _ _ _ us hl => match us, hl with | [_], _ => rfl
theorem j__law_turned_pairs (B : Bl K mg) : BodyCx P w K mg base "_law_turned_pairs" st__law_turned_pairs N__law_turned_pairs 0 fun X => JSs X (defBody st__law_turned_pairs) g__law_turned_pairs := fun f cdv A outer s H E hr => js_cons (js_set (i := 1) ((jl_lst (ja_nil)).jx) sc__law_turned_pairs.nd rfl (by first | exact Or.inl rfl | exact Or.inr rfl)) (js_cons (js_for (vs := [2]) rfl (ji_r1 B.range (je_bin opd_mulA (je_int) (je_v 0))) (jg_n 2 sc__law_turned_pairs.nd) (js_cons (js_set (i := 3) ((jl_lst (ja_nil)).jx) sc__law_turned_pairs.nd rfl (by first | exact Or.inl rfl | exact Or.inr rfl)) (js_cons (js_for (vs := [4]) rfl (ji_r1 B.range (je_bin opd_mulA (je_int) (je_v 0))) (jg_n 4 sc__law_turned_pairs.nd) (js_cons (js_set (i := 5) ((je_if (jt_cmp (opd_eq hr.units) (je_bin opd_mod (je_v 2) (je_int)) (je_int) (nomark _)) (je_bin opd_fdiv (je_v 4) (je_int)) (je_bin opd_sub (je_v 0) (je_bin opd_fdiv (je_v 4) (je_int)))).jx) sc__law_turned_pairs.nd rfl (by first | exact Or.inl rfl | exact Or.inr rfl)) (js_one (js_expr (je_app (i := 3) rfl (by first | exact Or.inl rfl | exact Or.inr (Or.inl rfl) | exact Or.inr (Or.inr rfl)) (je_bin opd_add (je_bin opd_mulA (je_bin opd_mod (je_callTy calld_int B.int (by decide +kernel) (ja_cons (je_bin opd_add (je_bin opd_fdiv (je_v 2) (je_int)) (je_v 5)) (ja_nil))) (je_v 0)) (je_int)) (je_bin opd_mod (je_callTy calld_int B.int (by decide +kernel) (ja_cons (je_bin opd_add (je_v 2) (je_v 4)) (ja_nil))) (je_int)))))))) (js_one (js_expr (je_app (i := 1) rfl (by first | exact Or.inl rfl | exact Or.inr (Or.inl rfl) | exact Or.inr (Or.inr rfl)) (je_tupleO B.tuple (i := 3) rfl (by first | exact Or.inl rfl | exact Or.inr (Or.inl rfl) | exact Or.inr (Or.inr rfl))))))))) (js_one (js_ret (je_tupleO B.tuple (i := 1) rfl (by first | exact Or.inl rfl | exact Or.inr (Or.inl rfl) | exact Or.inr (Or.inr rfl))))))
theorem sc__law_quaternion_rows : FnScope N__law_quaternion_rows P__law_quaternion_rows (defScope st__law_quaternion_rows) := ⟨rfl, rfl, rfl, by decide +kernel, rfl, by decide +kernel, by decide +kernel⟩
theorem bs__law_quaternion_rows : BindsAs "_law_quaternion_rows" st__law_quaternion_rows P__law_quaternion_rows := fun _ _ _ _ _ _ us hl => match us, hl with | [], _ => rfl
theorem j__law_quaternion_rows (B : Bl K mg) : BodyCx P w K mg base "_law_quaternion_rows" st__law_quaternion_rows N__law_quaternion_rows 0 fun X => JSs X (defBody st__law_quaternion_rows) g__law_quaternion_rows := fun f cdv A outer s H E hr => js_cons (js_par (i := 0) (j := 1) rfl sc__law_quaternion_rows.nd rfl rfl (by decide) rfl rfl (((jl_lst (ja_cons ((jl_lst (ja_cons (je_int) (ja_cons (je_int) (ja_cons (je_int) (ja_cons (je_int) (ja_nil)))))).je) (ja_cons ((jl_lst (ja_cons (je_int) (ja_cons (je_int) (ja_cons (je_int) (ja_cons (je_int) (ja_nil)))))).je) (ja_cons ((jl_lst (ja_cons (je_int) (ja_cons (je_int) (ja_cons (je_int) (ja_cons (je_int) (ja_nil)))))).je) (ja_cons ((jl_lst (ja_cons (je_int) (ja_cons (je_int) (ja_cons (je_int) (ja_cons (je_int) (ja_nil)))))).je) (ja_nil)))))).je).jx) ((jl_lst (ja_nil)).jx) rfl) (js_cons (js_for (vs := [2]) rfl (ji_r1 B.range (je_int)) (jg_n 2 sc__law_quaternion_rows.nd) (js_cons (js_set (i := 3) ((jl_lst (ja_nil)).jx) sc__law_quaternion_rows.nd rfl (by first | exact Or.inl rfl | exact Or.inr rfl)) (js_cons (js_for (vs := [4]) rfl (ji_r1 B.range (je_int)) (jg_n 4 sc__law_quaternion_rows.nd) (js_cons (js_set (i := 5) ((je_ix (je_v 0) (je_bin opd_fdiv (je_v 2) (je_int))).jx) sc__law_quaternion_rows.nd rfl (by first | exact Or.inl rfl | exact Or.inr rfl)) (js_cons (js_set (i := 6) ((je_ix (je_v 5) (je_bin opd_fdiv (je_v 4) (je_int))).jx) sc__law_quaternion_rows.nd rfl (by first | exact Or.inl rfl | exact Or.inr rfl)) (js_one (js_expr (je_app (i := 3) rfl (by first | exact Or.inl rfl | exact Or.inr (Or.inl rfl) | exact Or.inr (Or.inr rfl)) (je_bin opd_add (je_bin opd_mulA (je_bin opd_fdiv (je_v 6) (je_int)) (je_int)) (je_bin opd_mod (je_callTy calld_int B.int (by decide +kernel) (ja_cons (je_bin opd_add (je_bin opd_add (je_v 6) (je_v 2)) (je_v 4)) (ja_nil))) (je_int))))))))) (js_one (js_expr (je_app (i := 1) rfl (by first | exact Or.inl rfl | exact Or.inr (Or.inl rfl) | exact Or.inr (Or.inr rfl)) (je_tupleO B.tuple (i := 3) rfl (by first | exact Or.inl rfl | exact Or.inr (Or.inl rfl) | exact Or.inr (Or.inr rfl))))))))) (js_one (js_ret (je_tupleO B.tuple (i := 1) rfl (by first | exact Or.inl rfl | exact Or.inr (Or.inl rfl) | exact Or.inr (Or.inr rfl))))))
theorem sc__law_renamed_group : FnScope N__law_renamed_group P__law_renamed_group (defScope st__law_renamed_group) := ⟨rfl, rfl, rfl, by decide +kernel, rfl, by decide +kernel, by decide +kernel⟩
theorem bs__law_renamed_group : BindsAs "_law_renamed_group" st__law_renamed_group P__law_renamed_group := fun _ _ _ _ _ _ us hl => match us, hl with | [_, _], _ => rfl
theorem j__law_renamed_group (B : Bl K mg) (O__law_undone : Ok P w K mg base "_law_undone" P__law_undone 1 (spD K 1 S__law_undone)) : BodyCx P w K mg base "_law_renamed_group" st__law_renamed_group N__law_renamed_group 1 fun X => JSs X (defBody st__law_renamed_group) g__law_renamed_group := fun f cdv A outer s H E hr => js_cons (js_set (i := 2) ((je_fn O__law_undone (hr.mono (by decide)) (ja_cons (je_v 1) (ja_nil))).jx) sc__law_renamed_group.nd rfl (by first | exact Or.inl rfl | exact Or.inr rfl)) (js_one (js_ret (je_callTy calld_tuple B.tuple (by decide +kernel) (ja_cons ((jl_lc (own := [("_law_a", 3)]) rfl sc__law_renamed_group.nd (ji_sq (je_v 1)) (blkOk_by (by rfl)) (fun _ _ _ _ _ => jg_n 3 sc__law_renamed_group.nd) (fun _ _ _ _ _ => jts_nil) (fun _ _ _ _ _ => je_callTy calld_tuple B.tuple (by decide +kernel) (ja_cons ((jl_lc (own := [("_law_b", 4)]) rfl sc__law_renamed_group.nd (ji_sq (je_v 1)) (blkOk_by (by rfl)) (fun _ _ _ _ _ => jg_n 4 sc__law_renamed_group.nd) (fun _ _ _ _ _ => jts_nil) (fun _ _ _ _ _ => je_ix (je_v 2) (je_ix (je_ix (je_v 0) (je_v 3)) (je_v 4)))).je) (ja_nil)))).je) (ja_nil)))))
theorem sc__law_unit : FnScope N__law_unit P__law_unit (defScope st__law_unit) := ⟨rfl, rfl, rfl, by decide +kernel, rfl, by decide +kernel, by decide +kernel⟩
theorem bs__law_unit : BindsAs "_law_unit" st__law_unit P__law_unit := fun _ _ _ _ _ _ us hl => match us, hl with | [_], _ => rfl
theorem j__law_unit (B : Bl K mg) : BodyCx P w K mg base "_law_unit" st__law_unit N__law_unit 0 fun X => JSs X (defBody st__law_unit) g__law_unit := fun f cdv A outer s H E hr => js_one (js_ret (je_ix ((jl_lc (own := [("_law_a", 1)]) rfl sc__law_unit.nd (ji_r1 B.range (je_callB calld_len B.len (by decide +kernel) (ja_cons (je_v 0) (ja_nil)))) (blkOk_by (by rfl)) (fun _ _ _ _ _ => jg_n 1 sc__law_unit.nd) (fun _ _ _ _ _ => jts_one (jt_cmp (opd_eq hr.units) (je_ix (je_ix (je_v 0) (je_v 1)) (je_v 1)) (je_v 1) (nomark _))) (fun _ _ _ _ _ => je_v 1)).je) (je_int)))
theorem sc__law_inverse : FnScope N__law_inverse P__law_inverse (defScope st__law_inverse) := ⟨rfl, rfl, rfl, by decide +kernel, rfl, by decide +kernel, by decide +kernel⟩
theorem bs__law_inverse : BindsAs "_law_inverse" st__law_inverse P__law_inverse := fun _ _ _ _ _ _ us hl => match us, hl with | [_, _], _ => rfl
theorem j__law_inverse (B : Bl K mg) (O__law_unit : Ok P w K mg base "_law_unit" P__law_unit 1 (spD K 1 S__law_unit)) : BodyCx P w K mg base "_law_inverse" st__law_inverse N__law_inverse 1 fun X => JSs X (defBody st__law_inverse) g__law_inverse := fun f cdv A outer s H E hr => js_one (js_ret (je_tIx B.kt (hu65 hr) (je_ix (je_v 0) (je_v 1)) (je_fn O__law_unit (hr.mono (by decide)) (ja_cons (je_v 0) (ja_nil))) rfl rfl rfl rfl))
theorem sc__law_circle : FnScope N__law_circle P__law_circle (defScope st__law_circle) := ⟨rfl, rfl, rfl, by decide +kernel, rfl, by decide +kernel, by decide +kernel⟩
theorem bs__law_circle : BindsAs "_law_circle" st__law_circle P__law_circle := fun _ _ _ _ _ _ us hl => match us, hl with | [_, _], _ => rfl
theorem j__law_circle (B : Bl K mg) : BodyCx P w K mg base "_law_circle" st__law_circle N__law_circle 0 fun X => JSs X (defBody st__law_circle) g__law_circle := fun f cdv A outer s H E hr => js_one (js_ret (je_callTy calld_tuple B.tuple (by decide +kernel) (ja_cons ((jl_lc (own := [("_law_a", 2)]) rfl sc__law_circle.nd (ji_r1 B.range (je_callB calld_len B.len (by decide +kernel) (ja_cons (je_v 0) (ja_nil)))) (blkOk_by (by rfl)) (fun _ _ _ _ _ => jg_n 2 sc__law_circle.nd) (fun _ _ _ _ _ => jts_nil) (fun _ _ _ _ _ => je_callTy calld_tuple B.tuple (by decide +kernel) (ja_cons ((jl_lc (own := [("_law_b", 3)]) rfl sc__law_circle.nd (ji_r1 B.range (je_callB calld_len B.len (by decide +kernel) (ja_cons (je_v 0) (ja_nil)))) (blkOk_by (by rfl)) (fun _ _ _ _ _ => jg_n 3 sc__law_circle.nd) (fun _ _ _ _ _ => jts_nil) (fun _ _ _ _ _ => je_ix (je_ix (je_v 0) (je_v 2)) (je_ix (je_ix (je_v 1) (je_v 2)) (je_v 3)))).je) (ja_nil)))).je) (ja_nil))))
theorem sc__law_double_product : FnScope N__law_double_product P__law_double_product (defScope st__law_double_product) := ⟨rfl, rfl, rfl, by decide +kernel, rfl, by decide +kernel, by decide +kernel⟩
theorem bs__law_double_product : BindsAs "_law_double_product" st__law_double_product P__law_double_product := fun _ _ _ _ _ _ us hl => match us, hl with | [_, _], _ => rfl
theorem j__law_double_product (O__law_product_dots : Ok P w K mg base "_law_product_dots" P__law_product_dots 2 (spD K 2 S__law_product_dots)) (O__law_direct : Ok P w K mg base "_law_direct" P__law_direct 3 (spD K 2 S__law_direct)) : BodyCx P w K mg base "_law_double_product" st__law_double_product N__law_double_product 3 fun X => JSs X (defBody st__law_double_product) g__law_double_product := fun f cdv A outer s H E hr => js_one (js_ret ((jl_lst (ja_cons (je_fn O__law_direct (hr.mono (by decide)) (ja_cons (je_ix (je_v 0) (je_int)) (ja_cons (je_ix (je_v 1) (je_int)) (ja_nil)))) (ja_cons (je_fn O__law_product_dots (hr.mono (by decide)) (ja_cons (je_ix (je_v 0) (je_int)) (ja_cons (je_ix (je_v 1) (je_int)) (ja_nil)))) (ja_nil)))).je))
theorem sc__law_double_renamed : FnScope N__law_double_renamed P__law_double_renamed (defScope st__law_double_renamed) := ⟨rfl, rfl, rfl, by decide +kernel, rfl, by decide +kernel, by decide +kernel⟩
theorem bs__law_double_renamed : BindsAs "_law_double_renamed" st__law_double_renamed P__law_double_renamed := fun _ _ _ _ _ _ us hl => match us, hl with | [_, _], _ => rfl
theorem j__law_double_renamed (B : Bl K mg) (O__law_undone : Ok P w K mg base "_law_undone" P__law_undone 1 (spD K 1 S__law_undone)) (O__law_renamed_group : Ok P w K mg base "_law_renamed_group" P__law_renamed_group 2 (spD K 2 S__law_renamed_group)) : BodyCx P w K mg base "_law_double_renamed" st__law_double_renamed N__law_double_renamed 2 fun X => JSs X (defBody st__law_double_renamed) g__law_double_renamed := fun f cdv A outer s H E hr => js_cons (js_parT (i := 2) (j := 3) rfl sc__law_double_renamed.nd rfl rfl (by decide) (by first | exact Or.inl rfl | exact Or.inr rfl) (by first | exact Or.inl rfl | exact Or.inr rfl) ((je_fn O__law_undone (hr.mono (by decide)) (ja_cons (je_v 1) (ja_nil))).jx) ((jl_lst (ja_nil)).jx)) (js_cons (js_for (vs := [4]) rfl (ji_sq (je_v 1)) (jg_n 4 sc__law_double_renamed.nd) (js_one (js_expr (je_app (i := 3) rfl (by first | exact Or.inl rfl | exact Or.inr (Or.inl rfl) | exact Or.inr (Or.inr rfl)) (je_callTy calld_tuple B.tuple (by decide +kernel) (ja_cons ((jl_lc (own := [("_law_b", 5)]) rfl sc__law_double_renamed.nd (ji_sq (je_v 1)) (blkOk_by (by rfl)) (fun _ _ _ _ _ => jg_n 5 sc__law_double_renamed.nd) (fun _ _ _ _ _ => jts_nil) (fun _ _ _ _ _ => je_ix (je_v 2) (je_ix (je_ix (je_ix (je_v 0) (je_int)) (je_v 4)) (je_v 5)))).je) (ja_nil))))))) (js_one (js_ret ((jl_lst (ja_cons (je_fn O__law_renamed_group (hr.mono (by decide)) (ja_cons (je_ix (je_v 0) (je_int)) (ja_cons (je_v 1) (ja_nil)))) (ja_cons (je_vF 3) (ja_nil)))).je))))
theorem sc__law_plain_double : FnScope N__law_plain_double P__law_plain_double (defScope st__law_plain_double) := ⟨rfl, rfl, rfl, by decide +kernel, rfl, by decide +kernel, by decide +kernel⟩
theorem bs__law_plain_double : BindsAs "_law_plain_double" st__law_plain_double P__law_plain_double := fun _ _ _ _ _ _ us hl => match us, hl with | [_], _ => rfl
theorem j__law_plain_double (B : Bl K mg) : BodyCx P w K mg base "_law_plain_double" st__law_plain_double N__law_plain_double 0 fun X => JSs X (defBody st__law_plain_double) g__law_plain_double := fun f cdv A outer s H E hr => js_one (js_ret ((jl_lst (ja_cons (je_v 0) (ja_cons ((jl_lc (own := [("_law_a", 1)]) rfl sc__law_plain_double.nd (ji_sq (je_v 0)) (blkOk_by (by rfl)) (fun _ _ _ _ _ => jg_n 1 sc__law_plain_double.nd) (fun _ _ _ _ _ => jts_nil) (fun _ _ _ _ _ => je_tupRg rfl B.tuple (jr_1 B.range (je_callB calld_len B.len (by decide +kernel) (ja_cons (je_v 0) (ja_nil)))))).je) (ja_nil)))).je))
theorem sc__law_about_double : FnScope N__law_about_double P__law_about_double (defScope st__law_about_double) := ⟨rfl, rfl, rfl, by decide +kernel, rfl, by decide +kernel, by decide +kernel⟩
theorem bs__law_about_double : BindsAs "_law_about_double" st__law_about_double P__law_about_double := fun _ _ _ _ _ _ us hl => match us, hl with | [_], _ => rfl
theorem j__law_about_double (B : Bl K mg) (O__law_inverse : Ok P w K mg base "_law_inverse" P__law_inverse 2 (spD K 2 S__law_inverse)) : BodyCx P w K mg base "_law_about_double" st__law_about_double N__law_about_double 2 fun X => JSs X (defBody st__law_about_double) g__law_about_double := fun f cdv A outer s H E hr => js_cons (js_set (i := 1) ((jl_lst (ja_nil)).jx) sc__law_about_double.nd rfl (by first | exact Or.inl rfl | exact Or.inr rfl)) (js_cons (js_for (vs := [2]) rfl (ji_r1 B.range (je_callB calld_len B.len (by decide +kernel) (ja_cons (je_v 0) (ja_nil)))) (jg_n 2 sc__law_about_double.nd) (js_cons (js_set (i := 3) ((je_fn O__law_inverse (hr.mono (by decide)) (ja_cons (je_v 0) (ja_cons (je_v 2) (ja_nil)))).jx) sc__law_about_double.nd rfl (by first | exact Or.inl rfl | exact Or.inr rfl)) (js_one (js_expr (je_app (i := 1) rfl (by first | exact Or.inl rfl | exact Or.inr (Or.inl rfl) | exact Or.inr (Or.inr rfl)) (je_callTy calld_tuple B.tuple (by decide +kernel) (ja_cons ((jl_lc (own := [("_law_b", 4)]) rfl sc__law_about_double.nd (ji_r1 B.range (je_callB calld_len B.len (by decide +kernel) (ja_cons (je_v 0) (ja_nil)))) (blkOk_by (by rfl)) (fun _ _ _ _ _ => jg_n 4 sc__law_about_double.nd) (fun _ _ _ _ _ => jts_nil) (fun _ _ _ _ _ => je_ix (je_ix (je_v 0) (je_ix (je_ix (je_v 0) (je_v 3)) (je_v 4))) (je_v 2))).je) (ja_nil)))))))) (js_one (js_ret ((jl_lst (ja_cons (je_v 0) (ja_cons (je_vF 1) (ja_nil)))).je))))
theorem sc__law_ring_double : FnScope N__law_ring_double P__law_ring_double (defScope st__law_ring_double) := ⟨rfl, rfl, rfl, by decide +kernel, rfl, by decide +kernel, by decide +kernel⟩
theorem bs__law_ring_double : BindsAs "_law_ring_double" st__law_ring_double P__law_ring_double := fun _ _ _ _ _ _ us hl => match us, hl with | [_, _], _ => rfl
theorem j__law_ring_double (B : Bl K mg) (O__law_cyclic : Ok P w K mg base "_law_cyclic" P__law_cyclic 1 (spD K 1 S__law_cyclic)) : BodyCx P w K mg base "_law_ring_double" st__law_ring_double N__law_ring_double 1 fun X => JSs X (defBody st__law_ring_double) g__law_ring_double := fun f cdv A outer s H E hr => js_one (js_ret ((jl_lst (ja_cons (je_fn O__law_cyclic (hr.mono (by decide)) (ja_cons (je_v 0) (ja_nil))) (ja_cons ((jl_lc (own := [("_law_a", 2)]) rfl sc__law_ring_double.nd (ji_r1 B.range (je_v 0)) (blkOk_by (by rfl)) (fun _ _ _ _ _ => jg_n 2 sc__law_ring_double.nd) (fun _ _ _ _ _ => jts_nil) (fun _ _ _ _ _ => je_callTy calld_tuple B.tuple (by decide +kernel) (ja_cons ((jl_lc (own := [("_law_b", 3)]) rfl sc__law_ring_double.nd (ji_r1 B.range (je_v 0)) (blkOk_by (by rfl)) (fun _ _ _ _ _ => jg_n 3 sc__law_ring_double.nd) (fun _ _ _ _ _ => jts_nil) (fun _ _ _ _ _ => je_bin opd_mod (je_callTy calld_int B.int (by decide +kernel) (ja_cons (je_bin opd_add (je_v 3) (je_bin opd_mulA (je_bin opd_mulA (je_v 1) (je_v 2)) (je_v 3))) (ja_nil))) (je_v 0))).je) (ja_nil)))).je) (ja_nil)))).je))
theorem sc__law_mirror_double : FnScope N__law_mirror_double P__law_mirror_double (defScope st__law_mirror_double) := ⟨rfl, rfl, rfl, by decide +kernel, rfl, by decide +kernel, by decide +kernel⟩
theorem bs__law_mirror_double : BindsAs "_law_mirror_double" st__law_mirror_double P__law_mirror_double := fun _ _ _ _ _ _ us hl => match us, hl with | [_], _ => rfl
theorem j__law_mirror_double (B : Bl K mg) (O__law_direct : Ok P w K mg base "_law_direct" P__law_direct 3 (spD K 2 S__law_direct)) (O__law_cyclic : Ok P w K mg base "_law_cyclic" P__law_cyclic 1 (spD K 1 S__law_cyclic)) : BodyCx P w K mg base "_law_mirror_double" st__law_mirror_double N__law_mirror_double 3 fun X => JSs X (defBody st__law_mirror_double) g__law_mirror_double := fun f cdv A outer s H E hr => js_cons (js_par (i := 1) (j := 2) rfl sc__law_mirror_double.nd rfl rfl (by decide) rfl rfl ((je_fn O__law_direct (hr.mono (by decide)) (ja_cons (je_fn O__law_cyclic (hr.mono (by decide)) (ja_cons (je_v 0) (ja_nil))) (ja_cons (je_fn O__law_cyclic (hr.mono (by decide)) (ja_cons (je_int) (ja_nil))) (ja_nil)))).jx) ((jl_lst (ja_nil)).jx) rfl) (js_cons (js_set (i := 3) ((je_callTy calld_tuple B.tuple (by decide +kernel) (ja_cons ((jl_lc (own := [("_law_b", 5)]) rfl sc__law_mirror_double.nd (ji_r1 B.range (je_bin opd_mulA (je_int) (je_v 0))) (blkOk_by (by rfl)) (fun _ _ _ _ _ => jg_n 5 sc__law_mirror_double.nd) (fun _ _ _ _ _ => jts_nil) (fun _ _ _ _ _ => je_bin opd_add (je_bin opd_mulA (je_bin opd_mod (je_callTy calld_int B.int (by decide +kernel) (ja_cons (je_bin opd_sub (je_int) (je_bin opd_fdiv (je_v 5) (je_int))) (ja_nil))) (je_v 0)) (je_int)) (je_bin opd_mod (je_v 5) (je_int)))).je) (ja_nil))).jx) sc__law_mirror_double.nd rfl (by first | exact Or.inl rfl | exact Or.inr rfl)) (js_cons (js_for (vs := [4]) rfl (ji_r1 B.range (je_bin opd_mulA (je_int) (je_v 0))) (jg_n 4 sc__law_mirror_double.nd) (js_one (js_expr (je_app (i := 2) rfl (by first | exact Or.inl rfl | exact Or.inr (Or.inl rfl) | exact Or.inr (Or.inr rfl)) (je_if (jt_cmp (opd_eq hr.units) (je_bin opd_mod (je_v 4) (je_int)) (je_int) (nomark _)) (je_tupRg rfl B.tuple (jr_1 B.range (je_bin opd_mulA (je_int) (je_v 0)))) (je_v 3)))))) (js_one (js_ret ((jl_lst (ja_cons (je_v 1) (ja_cons (je_vF 2) (ja_nil)))).je)))))
theorem sc__law_small_double : FnScope N__law_small_double P__law_small_double (defScope st__law_small_double) := ⟨rfl, rfl, rfl, by decide +kernel, rfl, by decide +kernel, by decide +kernel⟩
theorem bs__law_small_double : BindsAs "_law_small_double" st__law_small_double P__law_small_double := fun _ _ _ _ _ _ us hl => match us, hl with | [_, _], _ => rfl
theorem j__law_small_double (B : Bl K mg) (O__law_plain_double : Ok P w K mg base "_law_plain_double" P__law_plain_double 1 (spD K 1 S__law_plain_double)) (O__law_cyclic : Ok P w K mg base "_law_cyclic" P__law_cyclic 1 (spD K 1 S__law_cyclic)) (O__law_mirror_double : Ok P w K mg base "_law_mirror_double" P__law_mirror_double 4 (spD K 1 S__law_mirror_double)) (O__law_ring_double : Ok P w K mg base "_law_ring_double" P__law_ring_double 2 (spD K 2 S__law_ring_double)) (O__law_about_double : Ok P w K mg base "_law_about_double" P__law_about_double 3 (spD K 1 S__law_about_double)) (O__law_turned_pairs : Ok P w K mg base "_law_turned_pairs" P__law_turned_pairs 1 (spD K 1 S__law_turned_pairs)) (O__law_quaternion_rows : Ok P w K mg base "_law_quaternion_rows" P__law_quaternion_rows 1 (spD K 0 S__law_quaternion_rows)) (O__law_pick : Ok P w K mg base "_law_pick" P__law_pick 2 (spM K 2 S__law_pick)) : BodyCx P w K mg base "_law_small_double" st__law_small_double N__law_small_double 4 fun X => JSs X (defBody st__law_small_double) g__law_small_double := fun f cdv A outer s H E hr => js_cons (js_lcF (own := [("_law_size", 3)]) rfl sc__law_small_double.nd (i := 2) rfl rfl (sw_true rfl rfl rfl (by decide +kernel)) (ji_r2 B.range (je_int) (je_bin opd_add (je_v 1) (je_int))) (blkOk_by (by rfl)) (fun _ _ _ _ _ => jg_n 3 sc__law_small_double.nd) (fun _ _ _ _ _ => jts_nil) (fun _ _ _ _ _ => je_fn O__law_plain_double (hr.mono (by decide)) (ja_cons (je_fn O__law_cyclic (hr.mono (by decide)) (ja_cons (je_v 3) (ja_nil))) (ja_nil)))) (js_cons (js_set (i := 2) ((je_bin opd_add (je_v 2) ((jl_lc (own := [("_law_size", 3)]) rfl sc__law_small_double.nd (ji_r2 B.range (je_int) (je_bin opd_add (je_bin opd_fdiv (je_v 1) (je_int)) (je_int))) (blkOk_by (by rfl)) (fun _ _ _ _ _ => jg_n 3 sc__law_small_double.nd) (fun _ _ _ _ _ => jts_nil) (fun _ _ _ _ _ => je_fn O__law_mirror_double (hr.mono (by decide)) (ja_cons (je_v 3) (ja_nil)))).je)).jx) sc__law_small_double.nd rfl (by first | exact Or.inl rfl | exact Or.inr rfl)) (js_cons (js_for (vs := [3, 4]) rfl (ji_sq ((jl_lst (ja_cons (je_tup (ja_cons (je_int) (ja_cons (je_int) (ja_nil)))) (ja_cons (je_tup (ja_cons (je_int) (ja_cons (je_int) (ja_nil)))) (ja_cons (je_tup (ja_cons (je_int) (ja_cons (je_int) (ja_nil)))) (ja_cons (je_tup (ja_cons (je_int) (ja_cons (je_int) (ja_nil)))) (ja_cons (je_tup (ja_cons (je_int) (ja_cons (je_int) (ja_nil)))) (ja_cons (je_tup (ja_cons (je_int) (ja_cons (je_int) (ja_nil)))) (ja_nil)))))))).je)) (jg_tup rfl (jgs_cons (jg_n 3 sc__law_small_double.nd) (jgs_cons (jg_n 4 sc__law_small_double.nd) (jgs_nil)))) (js_one (js_set (i := 2) ((je_bin opd_add (je_v 2) ((jl_rep ((jl_lst (ja_cons (je_fn O__law_ring_double (hr.mono (by decide)) (ja_cons (je_v 3) (ja_cons (je_v 4) (ja_nil)))) (ja_nil))).je) (je_callTy calld_int B.int (by decide +kernel) (ja_cons (je_cmp opd_le (je_v 3) (je_v 1) (nomark _)) (ja_nil)))).je)).jx) sc__law_small_double.nd rfl (by first | exact Or.inl rfl | exact Or.inr rfl)))) (js_cons (js_if (jt_cmp opd_gt (je_v 1) (je_int) (nomark _)) (js_one (js_set (i := 2) ((je_bin opd_add (je_v 2) ((jl_lst (ja_cons (je_fn O__law_plain_double (hr.mono (by decide)) (ja_cons (je_fn O__law_turned_pairs (hr.mono (by decide)) (ja_cons (je_int) (ja_nil))) (ja_nil))) (ja_cons (je_fn O__law_about_double (hr.mono (by decide)) (ja_cons (je_fn O__law_turned_pairs (hr.mono (by decide)) (ja_cons (je_int) (ja_nil))) (ja_nil))) (ja_nil)))).je)).jx) sc__law_small_double.nd rfl (by first | exact Or.inl rfl | exact Or.inr rfl))) (js_nil)) (js_cons (js_if (jt_cmp opd_gt (je_v 1) (je_int) (nomark _)) (js_one (js_set (i := 2) ((je_bin opd_add (je_v 2) ((jl_lst (ja_cons (je_fn O__law_about_double (hr.mono (by decide)) (ja_cons (je_fn O__law_turned_pairs (hr.mono (by decide)) (ja_cons (je_int) (ja_nil))) (ja_nil))) (ja_cons (je_fn O__law_about_double (hr.mono (by decide)) (ja_cons (je_fn0 O__law_quaternion_rows (hr.mono (by decide))) (ja_nil))) (ja_nil)))).je)).jx) sc__law_small_double.nd rfl (by first | exact Or.inl rfl | exact Or.inr rfl))) (js_nil)) (js_one (js_ret (je_fnM O__law_pick (hr.mono (by decide)) (i := 0) rfl (by first | exact Or.inl rfl | exact Or.inr (Or.inl rfl) | exact Or.inr (Or.inr rfl)) (ja_cons (je_v 2) (ja_nil)))))))))
theorem sc__law_double : FnScope N__law_double P__law_double (defScope st__law_double) := ⟨rfl, rfl, rfl, by decide +kernel, rfl, by decide +kernel, by decide +kernel⟩
theorem bs__law_double : BindsAs "_law_double" st__law_double P__law_double := fun _ _ _ _ _ _ us hl => match us, hl with | [_, _], _ => rfl
theorem j__law_double (B : Bl K mg) (O__law_small_double : Ok P w K mg base "_law_small_double" P__law_small_double 5 (spM K 2 S__law_small_double)) (O__law_roll : Ok P w K mg base "_law_roll" P__law_roll 1 (spM K 2 S__law_roll)) (O__law_double_product : Ok P w K mg base "_law_double_product" P__law_double_product 4 (spD K 2 S__law_double_product)) (O__law_double_renamed : Ok P w K mg base "_law_double_renamed" P__law_double_renamed 3 (spD K 2 S__law_double_renamed)) (O__law_drawn_move : Ok P w K mg base "_law_drawn_move" P__law_drawn_move 3 (spM K 2 S__law_drawn_move)) : BodyCx P w K mg base "_law_double" st__law_double N__law_double 5 fun X => JSs X (defBody st__law_double) g__law_double := fun f cdv A outer s H E hr => js_cons (js_set (i := 2) ((je_fnM O__law_small_double (hr.mono (by decide)) (i := 0) rfl (by first | exact Or.inl rfl | exact Or.inr (Or.inl rfl) | exact Or.inr (Or.inr rfl)) (ja_cons (je_v 1) (ja_nil))).jx) sc__law_double.nd rfl (by first | exact Or.inl rfl | exact Or.inr rfl)) (js_cons (js_if ((jw_and (jt_cmp opd_le (je_bin opd_mulA (je_callB calld_len B.len (by decide +kernel) (ja_cons (je_ix (je_v 2) (je_int)) (ja_nil))) (je_int)) (je_v 1) (nomark _)) (jw_and1 (jt_cmp (opd_eq hr.units) (je_fnM O__law_roll (hr.mono (by decide)) (i := 0) rfl (by first | exact Or.inl rfl | exact Or.inr (Or.inl rfl) | exact Or.inr (Or.inr rfl)) (ja_cons (je_int) (ja_nil))) (je_int) (nomark _)))).jt) (js_one (js_set (i := 2) ((je_fn O__law_double_product (hr.mono (by decide)) (ja_cons (je_v 2) (ja_cons (je_fnM O__law_small_double (hr.mono (by decide)) (i := 0) rfl (by first | exact Or.inl rfl | exact Or.inr (Or.inl rfl) | exact Or.inr (Or.inr rfl)) (ja_cons (je_bin opd_fdiv (je_v 1) (je_callB calld_len B.len (by decide +kernel) (ja_cons (je_ix (je_v 2) (je_int)) (ja_nil)))) (ja_nil))) (ja_nil)))).jx) sc__law_double.nd rfl (by first | exact Or.inl rfl | exact Or.inr rfl))) (js_nil)) (js_one (js_ret (je_fn O__law_double_renamed (hr.mono (by decide)) (ja_cons (je_v 2) (ja_cons (je_fnM O__law_drawn_move (hr.mono (by decide)) (i := 0) rfl (by first | exact Or.inl rfl | exact Or.inr (Or.inl rfl) | exact Or.inr (Or.inr rfl)) (ja_cons (je_callB calld_len B.len (by decide +kernel) (ja_cons (je_ix (je_v 2) (je_int)) (ja_nil))) (ja_nil))) (ja_nil)))))))
theorem sc__law_idle : FnScope N__law_idle P__law_idle (defScope st__law_idle) := ⟨rfl, rfl, rfl, by decide +kernel, rfl, by decide +kernel, by decide +kernel⟩
theorem bs__law_idle : BindsAs "_law_idle" st__law_idle P__law_idle := fun _ _ _ _ _ _ us hl => match us, hl with | [_], _ => rfl
theorem j__law_idle (B : Bl K mg) : BodyCx P w K mg base "_law_idle" st__law_idle N__law_idle 0 fun X => JSs X (defBody st__law_idle) g__law_idle := fun f cdv A outer s H E hr => js_one (js_ret (je_tupRg rfl B.tuple (jr_1 B.range (je_v 0))))
theorem sc__law_circle_of : FnScope N__law_circle_of P__law_circle_of (defScope st__law_circle_of) := ⟨rfl, rfl, rfl, by decide +kernel, rfl, by decide +kernel, by decide +kernel⟩
theorem bs__law_circle_of : BindsAs "_law_circle_of" st__law_circle_of P__law_circle_of := fun _ _ _ _ _ _ us hl => match us, hl with | [_], _ => rfl
theorem j__law_circle_of (O__law_circle : Ok P w K mg base "_law_circle" P__law_circle 1 (spD K 2 S__law_circle)) : BodyCx P w K mg base "_law_circle_of" st__law_circle_of N__law_circle_of 1 fun X => JSs X (defBody st__law_circle_of) g__law_circle_of := fun f cdv A outer s H E hr => js_one (js_ret (je_fn O__law_circle (hr.mono (by decide)) (ja_cons (je_ix (je_v 0) (je_int)) (ja_cons (je_ix (je_v 0) (je_int)) (ja_nil)))))
theorem sc__law_keeps_double : FnScope N__law_keeps_double P__law_keeps_double (defScope st__law_keeps_double) := ⟨rfl, rfl, rfl, by decide +kernel, rfl, by decide +kernel, by decide +kernel⟩
theorem bs__law_keeps_double : BindsAs "_law_keeps_double" st__law_keeps_double P__law_keeps_double := fun _ _ _ _ _ _ us hl => match us, hl with | [_, _, _], _ => rfl
theorem j__law_keeps_double (B : Bl K mg) (O__law_circle_of : Ok P w K mg base "_law_circle_of" P__law_circle_of 2 (spD K 1 S__law_circle_of)) : BodyCx P w K mg base "_law_keeps_double" st__law_keeps_double N__law_keeps_double 2 fun X => JSs X (defBody st__law_keeps_double) g__law_keeps_double := fun f cdv A outer s H E hr => js_cons (js_par3 (i := 3) (j := 4) (k := 5) rfl sc__law_keeps_double.nd rfl rfl rfl (by decide) (by decide) (by decide) rfl rfl rfl (je_callB calld_len B.len (by decide +kernel) (ja_cons (je_ix (je_v 0) (je_int)) (ja_nil))) (je_fn O__law_circle_of (hr.mono (by decide)) (ja_cons (je_v 0) (ja_nil))) ((je_fn O__law_circle_of (hr.mono (by decide)) (ja_cons (je_v 1) (ja_nil))).jx) rfl) (js_cons (js_for (vs := [6]) rfl (ji_r1 B.range (je_v 3)) (jg_n 6 sc__law_keeps_double.nd) (js_one (js_for (vs := [7]) rfl (ji_r1 B.range (je_v 3)) (jg_n 7 sc__law_keeps_double.nd) (js_one (js_if ((jw_or (jt_cmp (opd_ne hr.units) (je_ix (je_v 2) (je_ix (je_ix (je_ix (je_v 0) (je_int)) (je_v 6)) (je_v 7))) (je_ix (je_ix (je_ix (je_v 1) (je_int)) (je_ix (je_v 2) (je_v 6))) (je_ix (je_v 2) (je_v 7))) (nomark _)) (jw_or1 (jt_cmp (opd_ne hr.units) (je_ix (je_v 2) (je_ix (je_ix (je_v 4) (je_v 6)) (je_v 7))) (je_ix (je_ix (je_v 5) (je_ix (je_v 2) (je_v 6))) (je_ix (je_v 2) (je_v 7))) (nomark _)))).jt) (js_one (js_ret (je_bl))) (js_nil)))))) (js_one (js_ret (je_bl))))
theorem sc__law_made_part : FnScope N__law_made_part P__law_made_part (defScope st__law_made_part) := ⟨rfl, rfl, rfl, by decide +kernel, rfl, by decide +kernel, by decide +kernel⟩
theorem bs__law_made_part : BindsAs "_law_made_part" st__law_made_part P__law_made_part := fun _ _ _ _ _ _ us hl => match us, hl with | [_, _], _ => rfl
theorem j__law_made_part (O__law_unit : Ok P w K mg base "_law_unit" P__law_unit 1 (spD K 1 S__law_unit)) : BodyCx P w K mg base "_law_made_part" st__law_made_part N__law_made_part 1 fun X => JSO X (defBody st__law_made_part) g__law_made_part := fun f cdv A outer s H E hr => jso_cons (js_par (i := 2) (j := 3) rfl sc__law_made_part.nd rfl rfl (by decide) rfl rfl ((jl_lst (ja_cons (je_fn O__law_unit (hr.mono (by decide)) (ja_cons (je_v 0) (ja_nil))) (ja_nil))).jx) ((jl_lst (ja_cons (je_fn O__law_unit (hr.mono (by decide)) (ja_cons (je_v 0) (ja_nil))) (ja_nil))).jx) rfl) (jso_cons (js_while (jt_cmpO (opd_ne hr.units) (i := 3) rfl (by first | exact Or.inl rfl | exact Or.inr (Or.inl rfl) | exact Or.inr (Or.inr rfl)) ((jl_lst (ja_nil)).je) (nomark _)) (js_cons (js_set (i := 4) ((je_pop (i := 3) rfl (by first | exact Or.inl rfl | exact Or.inr (Or.inl rfl) | exact Or.inr (Or.inr rfl))).jx) sc__law_made_part.nd rfl (by first | exact Or.inl rfl | exact Or.inr rfl)) (js_one (js_for (vs := [5]) rfl (ji_sq (je_v 1)) (jg_n 5 sc__law_made_part.nd) (js_cons (js_set (i := 6) ((je_ix (je_ix (je_v 0) (je_v 4)) (je_v 5)).jx) sc__law_made_part.nd rfl (by first | exact Or.inl rfl | exact Or.inr rfl)) (js_one (js_if (jt_cmpR opd_notin (i := 2) rfl (by first | exact Or.inl rfl | exact Or.inr (Or.inl rfl) | exact Or.inr (Or.inr rfl)) (je_v 6) rfl) (js_cons (js_expr (je_app (i := 2) rfl (by first | exact Or.inl rfl | exact Or.inr (Or.inl rfl) | exact Or.inr (Or.inr rfl)) (je_v 6))) (js_one (js_expr (je_app (i := 3) rfl (by first | exact Or.inl rfl | exact Or.inr (Or.inl rfl) | exact Or.inr (Or.inr rfl)) (je_v 6))))) (js_nil)))))))) (jso_retO (i := 2) rfl (by first | exact Or.inl rfl | exact Or.inr (Or.inl rfl) | exact Or.inr (Or.inr rfl))))
theorem sc__law_goal_rows : FnScope N__law_goal_rows P__law_goal_rows (defScope st__law_goal_rows) := ⟨rfl, rfl, rfl, by decide +kernel, rfl, by decide +kernel, by decide +kernel⟩
theorem bs__law_goal_rows : BindsAs "_law_goal_rows" st__law_goal_rows P__law_goal_rows := fun _ _ _ _ _ _ us hl => match us, hl with | [_, _], _ => rfl
theorem j__law_goal_rows (B : Bl K mg) : BodyCx P w K mg base "_law_goal_rows" st__law_goal_rows N__law_goal_rows 0 fun X => JSs X (defBody st__law_goal_rows) g__law_goal_rows := fun f cdv A outer s H E hr => js_cons (js_set (i := 2) (((jl_lst (ja_cons (je_tup (ja_nil)) (ja_nil))).je).jx) sc__law_goal_rows.nd rfl (by first | exact Or.inl rfl | exact Or.inr rfl)) (js_cons (js_for (vs := [3]) rfl (ji_r1 B.range (je_v 1)) (jg_n 3 sc__law_goal_rows.nd) (js_cons (js_set (i := 4) ((jl_lst (ja_nil)).jx) sc__law_goal_rows.nd rfl (by first | exact Or.inl rfl | exact Or.inr rfl)) (js_cons (js_for (vs := [5]) rfl (ji_sq (je_v 2)) (jg_n 5 sc__law_goal_rows.nd) (js_one (js_expr (je_ext (i := 4) rfl (by first | exact Or.inl rfl | exact Or.inr (Or.inl rfl) | exact Or.inr (Or.inr rfl)) ((jl_lc (own := [("_law_thing", 6)]) rfl sc__law_goal_rows.nd (ji_r1 B.range (je_v 0)) (blkOk_by (by rfl)) (fun _ _ _ _ _ => jg_n 6 sc__law_goal_rows.nd) (fun _ _ _ _ _ => jts_one (jt_cmp opd_notin (je_v 6) (je_v 5) rfl)) (fun _ _ _ _ _ => je_bin opd_add (je_v 5) (je_tup (ja_cons (je_v 6) (ja_nil))))).je))))) (js_one (js_set (i := 2) (((jl_listO B.list (i := 4) rfl (by first | exact Or.inl rfl | exact Or.inr (Or.inl rfl) | exact Or.inr (Or.inr rfl))).je).jx) sc__law_goal_rows.nd rfl (by first | exact Or.inl rfl | exact Or.inr rfl)))))) (js_one (js_ret (je_v 2))))
theorem sc__law_spread_goals : FnScope N__law_spread_goals P__law_spread_goals (defScope st__law_spread_goals) := ⟨rfl, rfl, rfl, by decide +kernel, rfl, by decide +kernel, by decide +kernel⟩
theorem bs__law_spread_goals : BindsAs "_law_spread_goals" st__law_spread_goals P__law_spread_goals := fun _ _ _ _ _ _ us hl => match us, hl with | [_, _, _, _, _], _ => rfl
theorem j__law_spread_goals (B : Bl K mg) (O__law_unit : Ok P w K mg base "_law_unit" P__law_unit 1 (spD K 1 S__law_unit)) : BodyCx P w K mg base "_law_spread_goals" st__law_spread_goals N__law_spread_goals 1 fun X => JSs X (defBody st__law_spread_goals) g__law_spread_goals := fun f cdv A outer s H E hr => js_cons (js_parT (i := 5) (j := 6) rfl sc__law_spread_goals.nd rfl rfl (by decide) (by first | exact Or.inl rfl | exact Or.inr rfl) (by first | exact Or.inl rfl | exact Or.inr rfl) (jx_dct1 (je_fn O__law_unit (hr.mono (by decide)) (ja_cons (je_v 0) (ja_nil))) (je_v 4)) ((jl_lst (ja_cons (je_fn O__law_unit (hr.mono (by decide)) (ja_cons (je_v 0) (ja_nil))) (ja_nil))).jx)) (js_cons (js_while (jt_cmpO (opd_ne hr.units) (i := 6) rfl (by first | exact Or.inl rfl | exact Or.inr (Or.inl rfl) | exact Or.inr (Or.inr rfl)) ((jl_lst (ja_nil)).je) (nomark _)) (js_cons (js_set (i := 7) ((je_pop (i := 6) rfl (by first | exact Or.inl rfl | exact Or.inr (Or.inl rfl) | exact Or.inr (Or.inr rfl))).jx) sc__law_spread_goals.nd rfl (by first | exact Or.inl rfl | exact Or.inr rfl)) (js_one (js_for (vs := [8, 9]) rfl (ji_zipM B.zip (je_v 2) (je_v 3)) (jg_tup rfl (jgs_cons (jg_n 8 sc__law_spread_goals.nd) (jgs_cons (jg_n 9 sc__law_spread_goals.nd) (jgs_nil)))) (js_cons (js_par (i := 10) (j := 11) rfl sc__law_spread_goals.nd rfl rfl (by decide) rfl rfl ((je_ix (je_ix (je_v 0) (je_v 7)) (je_v 8)).jx) ((je_ix (je_ix (je_v 1) (je_getK (hu1 hr.units) (i := 5) rfl (by first | exact Or.inl rfl | exact Or.inr (Or.inl rfl) | exact Or.inr (Or.inr rfl)) (je_v 7))) (je_v 9)).jx) rfl) (js_one (js_if (jt_notinK (hu1 hr.units) (i := 5) rfl (by first | exact Or.inl rfl | exact Or.inr (Or.inl rfl) | exact Or.inr (Or.inr rfl)) (je_v 10) rfl) (js_cons (js_putK (hu1 hr.units) (i := 5) rfl (by first | exact Or.inl rfl | exact Or.inr (Or.inl rfl) | exact Or.inr (Or.inr rfl)) (je_v 10) (je_v 11)) (js_one (js_expr (je_app (i := 6) rfl (by first | exact Or.inl rfl | exact Or.inr (Or.inl rfl) | exact Or.inr (Or.inr rfl)) (je_v 10))))) (js_one (js_if (jt_cmp (opd_ne hr.units) (je_getK (hu1 hr.units) (i := 5) rfl (by first | exact Or.inl rfl | exact Or.inr (Or.inl rfl) | exact Or.inr (Or.inr rfl)) (je_v 10)) (je_v 11) (nomark _)) (js_one (js_ret (je_non))) (js_nil)))))))))) (js_cons (js_set (i := 12) ((je_callTy calld_tuple B.tuple (by decide +kernel) (ja_cons ((jl_lc (own := [("_law_thing", 13)]) rfl sc__law_spread_goals.nd (ji_r1 B.range (je_callB calld_len B.len (by decide +kernel) (ja_cons (je_v 0) (ja_nil)))) (blkOk_by (by rfl)) (fun _ _ _ _ _ => jg_n 13 sc__law_spread_goals.nd) (fun _ _ _ _ _ => jts_nil) (fun _ _ _ _ _ => je_getK (hu1 hr.units) (i := 5) rfl (by first | exact Or.inl rfl | exact Or.inr (Or.inl rfl) | exact Or.inr (Or.inr rfl)) (je_v 13))).je) (ja_nil))).jx) sc__law_spread_goals.nd rfl (by first | exact Or.inl rfl | exact Or.inr rfl)) (js_one (js_ret (je_if (jt_cmp (opd_eq hr.units) (je_lenSet rfl B.len B.set (je_v 12)) (je_callB calld_len B.len (by decide +kernel) (ja_cons (je_v 0) (ja_nil))) (nomark _)) (je_v 12) (je_non))))))
theorem sc__law_says : FnScope N__law_says P__law_says (defScope st__law_says) := ⟨rfl, rfl, rfl, by decide +kernel, rfl, by decide +kernel, by decide +kernel⟩
theorem bs__law_says : BindsAs "_law_says" st__law_says P__law_says := fun _ _ _ _ _ _ us hl => match us, hl with | [_, _, _, _], _ => rfl
theorem j__law_says (O__law_circle_of : Ok P w K mg base "_law_circle_of" P__law_circle_of 2 (spD K 1 S__law_circle_of)) (O__law_joined : Ok P w K mg base "_law_joined" P__law_joined 1 (spD K 2 S__law_joined)) : BodyCx P w K mg base "_law_says" st__law_says N__law_says 2 fun X => JSs X (defBody st__law_says) g__law_says := fun f cdv A outer s H E hr => js_cons (js_par3 (i := 4) (j := 5) (k := 6) rfl sc__law_says.nd rfl rfl rfl (by decide) (by decide) (by decide) rfl rfl rfl (je_fn O__law_circle_of (hr.mono (by decide)) (ja_cons (je_v 0) (ja_nil))) (je_fn O__law_circle_of (hr.mono (by decide)) (ja_cons (je_v 1) (ja_nil))) ((je_ix (je_v 1) (je_int)).jx) rfl) (js_cons (js_if (jt_cmp (opd_eq hr.units) (je_ix (je_v 3) (je_int)) (je_str) (nomark _)) (js_cons (js_par3 (i := 7) (j := 8) (k := 9) rfl sc__law_says.nd rfl rfl rfl (by decide) (by decide) (by decide) rfl rfl rfl (je_ix (je_v 2) (je_ix (je_v 3) (je_int))) (je_ix (je_v 3) (je_int)) ((je_ix (je_v 3) (je_int)).jx) rfl) (js_one (js_ret (je_or (je_cmp (opd_ne hr.units) (je_ix (je_v 7) (je_ix (je_ix (je_v 6) (je_v 8)) (je_v 9))) (je_ix (je_ix (je_v 6) (je_ix (je_v 7) (je_v 8))) (je_ix (je_v 7) (je_v 9))) (nomark _)) (je_one (je_cmp (opd_ne hr.units) (je_ix (je_v 7) (je_ix (je_ix (je_v 5) (je_v 8)) (je_v 9))) (je_ix (je_ix (je_v 5) (je_ix (je_v 7) (je_v 8))) (je_ix (je_v 7) (je_v 9))) (nomark _))))))) (js_nil)) (js_one (js_ret (je_cmp (opd_ne hr.units) (je_ix (je_v 2) (je_ix (je_ix (je_v 4) (je_ix (je_v 3) (je_int))) (je_ix (je_v 3) (je_int)))) (je_fn O__law_joined (hr.mono (by decide)) (ja_cons (je_ix (je_v 2) (je_ix (je_v 3) (je_int))) (ja_cons (je_ix (je_v 2) (je_ix (je_v 3) (je_int))) (ja_nil)))) (nomark _)))))
theorem sc__law_drawn_paper : FnScope N__law_drawn_paper P__law_drawn_paper (defScope st__law_drawn_paper) := ⟨rfl, rfl, rfl, by decide +kernel, rfl, by decide +kernel, by decide +kernel⟩
theorem bs__law_drawn_paper : BindsAs "_law_drawn_paper" st__law_drawn_paper P__law_drawn_paper := fun _ _ _ _ _ _ us hl => match us, hl with | [_, _, _], _ => rfl
theorem j__law_drawn_paper (B : Bl K mg) (O__law_roll : Ok P w K mg base "_law_roll" P__law_roll 1 (spM K 2 S__law_roll)) (O__law_pick : Ok P w K mg base "_law_pick" P__law_pick 2 (spM K 2 S__law_pick)) : BodyCx P w K mg base "_law_drawn_paper" st__law_drawn_paper N__law_drawn_paper 2 fun X => JSs X (defBody st__law_drawn_paper) g__law_drawn_paper := fun f cdv A outer s H E hr => js_cons (js_par (i := 3) (j := 4) rfl sc__law_drawn_paper.nd rfl rfl (by decide) rfl rfl ((je_fnM O__law_roll (hr.mono (by decide)) (i := 0) rfl (by first | exact Or.inl rfl | exact Or.inr (Or.inl rfl) | exact Or.inr (Or.inr rfl)) (ja_cons (je_callB calld_len B.len (by decide +kernel) (ja_cons (je_ix (je_v 1) (je_int)) (ja_nil))) (ja_nil))).jx) ((je_fnM O__law_roll (hr.mono (by decide)) (i := 0) rfl (by first | exact Or.inl rfl | exact Or.inr (Or.inl rfl) | exact Or.inr (Or.inr rfl)) (ja_cons (je_callB calld_len B.len (by decide +kernel) (ja_cons (je_ix (je_v 1) (je_int)) (ja_nil))) (ja_nil))).jx) rfl) (js_cons (js_par (i := 5) (j := 6) rfl sc__law_drawn_paper.nd rfl rfl (by decide) rfl rfl ((je_fnM O__law_roll (hr.mono (by decide)) (i := 0) rfl (by first | exact Or.inl rfl | exact Or.inr (Or.inl rfl) | exact Or.inr (Or.inr rfl)) (ja_cons (je_callB calld_len B.len (by decide +kernel) (ja_cons (je_ix (je_v 2) (je_int)) (ja_nil))) (ja_nil))).jx) ((je_fnM O__law_roll (hr.mono (by decide)) (i := 0) rfl (by first | exact Or.inl rfl | exact Or.inr (Or.inl rfl) | exact Or.inr (Or.inr rfl)) (ja_cons (je_callB calld_len B.len (by decide +kernel) (ja_cons (je_ix (je_v 2) (je_int)) (ja_nil))) (ja_nil))).jx) rfl) (js_one (js_ret (je_fnM O__law_pick (hr.mono (by decide)) (i := 0) rfl (by first | exact Or.inl rfl | exact Or.inr (Or.inl rfl) | exact Or.inr (Or.inr rfl)) (ja_cons ((jl_lst (ja_cons (je_tup (ja_cons (je_str) (ja_cons (je_v 3) (ja_cons (je_v 5) (ja_cons (je_v 6) (ja_nil)))))) (ja_cons (je_tup (ja_cons (je_str) (ja_cons (je_v 3) (ja_cons (je_v 4) (ja_nil))))) (ja_nil)))).je) (ja_nil))))))
theorem sc_Group__rows : FnScope N_Group__rows P_Group__rows (defScope st_Group__rows) := ⟨rfl, rfl, rfl, by decide +kernel, rfl, by decide +kernel, by decide +kernel⟩
theorem bs_Group__rows : BindsM "rows" "Group.rows" st_Group__rows P_Group__rows := fun _ _ _ _ _ _ us hl => match us, hl with | [_], _ => rfl
theorem j_Group__rows (CF_Group : ClsF K mg "Group" ["_rows", "_unit", "_backs", "_centre"]) : BodyCx P w K mg base "Group.rows" st_Group__rows N_Group__rows 0 fun X => JSs X (defBody st_Group__rows) g_Group__rows := fun f cdv A outer s H E hr => js_one (js_ret (je_fld (CF_Group.na "_rows" (by simp)) (je_v 0)))
theorem sc_Group__unit : FnScope N_Group__unit P_Group__unit (defScope st_Group__unit) := ⟨rfl, rfl, rfl, by decide +kernel, rfl, by decide +kernel, by decide +kernel⟩
theorem bs_Group__unit : BindsM "unit" "Group.unit" st_Group__unit P_Group__unit := fun _ _ _ _ _ _ us hl => match us, hl with | [_], _ => rfl
theorem j_Group__unit (CF_Group : ClsF K mg "Group" ["_rows", "_unit", "_backs", "_centre"]) : BodyCx P w K mg base "Group.unit" st_Group__unit N_Group__unit 0 fun X => JSs X (defBody st_Group__unit) g_Group__unit := fun f cdv A outer s H E hr => js_one (js_ret (je_fld (CF_Group.na "_unit" (by simp)) (je_v 0)))
theorem sc_Group____len__ : FnScope N_Group____len__ P_Group____len__ (defScope st_Group____len__) := ⟨rfl, rfl, rfl, by decide +kernel, rfl, by decide +kernel, by decide +kernel⟩
theorem bs_Group____len__ : BindsM "__len__" "Group.__len__" st_Group____len__ P_Group____len__ := fun _ _ _ _ _ _ us hl => match us, hl with | [_], _ => rfl
theorem j_Group____len__ (B : Bl K mg) (CF_Group : ClsF K mg "Group" ["_rows", "_unit", "_backs", "_centre"]) : BodyCx P w K mg base "Group.__len__" st_Group____len__ N_Group____len__ 0 fun X => JSs X (defBody st_Group____len__) g_Group____len__ := fun f cdv A outer s H E hr => js_one (js_ret (je_callB calld_len B.len (by decide +kernel) (ja_cons (je_fld (CF_Group.na "_rows" (by simp)) (je_v 0)) (ja_nil))))
theorem sc_Double__plus : FnScope N_Double__plus P_Double__plus (defScope st_Double__plus) := ⟨rfl, rfl, rfl, by decide +kernel, rfl, by decide +kernel, by decide +kernel⟩
theorem bs_Double__plus : BindsM "plus" "Double.plus" st_Double__plus P_Double__plus := fun _ _ _ _ _ _ us hl => match us, hl with | [_], _ => rfl
theorem j_Double__plus (CF_Double : ClsF K mg "Double" ["_plus", "_circle", "_backs", "_turns"]) : BodyCx P w K mg base "Double.plus" st_Double__plus N_Double__plus 0 fun X => JSs X (defBody st_Double__plus) g_Double__plus := fun f cdv A outer s H E hr => js_one (js_ret (je_fld (CF_Double.na "_plus" (by simp)) (je_v 0)))
theorem sc_Double__circle : FnScope N_Double__circle P_Double__circle (defScope st_Double__circle) := ⟨rfl, rfl, rfl, by decide +kernel, rfl, by decide +kernel, by decide +kernel⟩
theorem bs_Double__circle : BindsM "circle" "Double.circle" st_Double__circle P_Double__circle := fun _ _ _ _ _ _ us hl => match us, hl with | [_], _ => rfl
theorem j_Double__circle (CF_Double : ClsF K mg "Double" ["_plus", "_circle", "_backs", "_turns"]) : BodyCx P w K mg base "Double.circle" st_Double__circle N_Double__circle 0 fun X => JSs X (defBody st_Double__circle) g_Double__circle := fun f cdv A outer s H E hr => js_one (js_ret (je_fld (CF_Double.na "_circle" (by simp)) (je_v 0)))
theorem sc_Double____len__ : FnScope N_Double____len__ P_Double____len__ (defScope st_Double____len__) := ⟨rfl, rfl, rfl, by decide +kernel, rfl, by decide +kernel, by decide +kernel⟩
theorem bs_Double____len__ : BindsM "__len__" "Double.__len__" st_Double____len__ P_Double____len__ := fun _ _ _ _ _ _ us hl => match us, hl with | [_], _ => rfl
theorem j_Double____len__ (B : Bl K mg) (CF_Double : ClsF K mg "Double" ["_plus", "_circle", "_backs", "_turns"]) : BodyCx P w K mg base "Double.__len__" st_Double____len__ N_Double____len__ 0 fun X => JSs X (defBody st_Double____len__) g_Double____len__ := fun f cdv A outer s H E hr => js_one (js_ret (je_callB calld_len B.len (by decide +kernel) (ja_cons (je_fld (CF_Double.na "_turns" (by simp)) (je_v 0)) (ja_nil))))
theorem sc_group_paper : FnScope N_group_paper P_group_paper (defScope st_group_paper) := ⟨rfl, rfl, rfl, by decide +kernel, rfl, by decide +kernel, by decide +kernel⟩
theorem bs_group_paper : BindsAs "group_paper" st_group_paper P_group_paper := fun _ _ _ _ _ _ us hl => match us, hl with | [_], _ => rfl
theorem j_group_paper (B : Bl K mg) (O__check_rows : Ok P w K mg base "_check_rows" P__check_rows 3 (spD K 1 S__check_rows)) (O_unit_of : Ok P w K mg base "unit_of" P_unit_of 1 (spD K 1 S_unit_of)) (O_back_of : Ok P w K mg base "back_of" P_back_of 1 (spD K 3 S_back_of)) (O_broken_three : Ok P w K mg base "broken_three" P_broken_three 1 (spD K 1 S_broken_three)) : BodyCx P w K mg base "group_paper" st_group_paper N_group_paper 3 fun X => JSs X (defBody st_group_paper) g_group_paper := fun f cdv A outer s H E hr => js_cons (js_expr (je_fn O__check_rows (hr.mono (by decide)) (ja_cons (je_v 0) (ja_nil)))) (js_cons (js_set (i := 1) ((je_fn O_unit_of (hr.mono (by decide)) (ja_cons (je_v 0) (ja_nil))).jx) sc_group_paper.nd rfl (by first | exact Or.inl rfl | exact Or.inr rfl)) (js_cons (js_if (jt_cmp opd_is (je_v 1) (je_non) (nomark _)) (js_one (js_ret (je_tup (ja_cons (je_str) (ja_nil))))) (js_nil)) (js_cons (js_for (vs := [2]) rfl (ji_r1 B.range (je_callB calld_len B.len (by decide +kernel) (ja_cons (je_v 0) (ja_nil)))) (jg_n 2 sc_group_paper.nd) (js_one (js_if (jt_cmp opd_is (je_fn O_back_of (hr.mono (by decide)) (ja_cons (je_v 0) (ja_cons (je_v 1) (ja_cons (je_v 2) (ja_nil))))) (je_non) (nomark _)) (js_one (js_ret (je_tup (ja_cons (je_str) (ja_cons (je_v 2) (ja_nil)))))) (js_nil)))) (js_cons (js_set (i := 3) ((je_fn O_broken_three (hr.mono (by decide)) (ja_cons (je_v 0) (ja_nil))).jx) sc_group_paper.nd rfl (by first | exact Or.inl rfl | exact Or.inr rfl)) (js_cons (js_if (jt_cmp opd_isnot (je_v 3) (je_non) (nomark _)) (js_one (js_ret (je_bin opd_add (je_tup (ja_cons (je_str) (ja_nil))) (je_v 3)))) (js_nil)) (js_one (js_ret (je_tup (ja_cons (je_str) (ja_nil))))))))))
theorem sc__check_groups : FnScope N__check_groups P__check_groups (defScope st__check_groups) := ⟨rfl, rfl, rfl, by decide +kernel, rfl, by decide +kernel, by decide +kernel⟩
theorem bs__check_groups : BindsAs "_check_groups" st__check_groups P__check_groups := fun _ _ _ _ _ _ us hl => match us, hl with | [_, _], _ => rfl
theorem j__check_groups (B : Bl K mg) (O_check_group : Ok P w K mg base "check_group" P_check_group 1 (spD K 1 S_check_group)) (O_Group____len__ : OkM P w K mg base (adrOf K "Group") "__len__" P_Group____len__ 1 (spD K 1 S_Group____len__)) : BodyCx P w K mg base "_check_groups" st__check_groups N__check_groups 3 fun X => JSs X (defBody st__check_groups) g__check_groups := fun f cdv A outer s H E hr => js_cons (js_expr (je_fn O_check_group (hr.mono (by decide)) (ja_cons (je_v 0) (ja_nil)))) (js_cons (js_expr (je_fn O_check_group (hr.mono (by decide)) (ja_cons (je_v 1) (ja_nil)))) (js_one (js_if (jt_cmp (opd_ne hr.units) (je_lenI O_Group____len__.slot (hr.mono (by decide)) B.len (je_v 1)) (je_lenI O_Group____len__.slot (hr.mono (by decide)) B.len (je_v 0)) (nomark _)) (js_one (js_never)) (js_nil))))
theorem sc__broken_rule : FnScope N__broken_rule P__broken_rule (defScope st__broken_rule) := ⟨rfl, rfl, rfl, by decide +kernel, rfl, by decide +kernel, by decide +kernel⟩
theorem bs__broken_rule : BindsAs "_broken_rule" st__broken_rule P__broken_rule := fun _ _ _ _ _ _ us hl => match us, hl with | [_, _, _], _ => rfl
theorem j__broken_rule (B : Bl K mg) (O__breaks_rule : Ok P w K mg base "_breaks_rule" P__breaks_rule 1 (spD K 5 S__breaks_rule)) : BodyCx P w K mg base "_broken_rule" st__broken_rule N__broken_rule 1 fun X => JSs X (defBody st__broken_rule) g__broken_rule := fun f cdv A outer s H E hr => js_cons (js_for (vs := [3]) rfl (ji_r1 B.range (je_callB calld_len B.len (by decide +kernel) (ja_cons (je_v 0) (ja_nil)))) (jg_n 3 sc__broken_rule.nd) (js_one (js_for (vs := [4]) rfl (ji_r1 B.range (je_callB calld_len B.len (by decide +kernel) (ja_cons (je_v 0) (ja_nil)))) (jg_n 4 sc__broken_rule.nd) (js_one (js_if (jt_val (je_fn O__breaks_rule (hr.mono (by decide)) (ja_cons (je_v 0) (ja_cons (je_v 1) (ja_cons (je_v 2) (ja_cons (je_v 3) (ja_cons (je_v 4) (ja_nil)))))))) (js_one (js_ret (je_tup (ja_cons (je_v 3) (ja_cons (je_v 4) (ja_nil)))))) (js_nil)))))) (js_one (js_ret (je_non)))
theorem sc__check_acts : FnScope N__check_acts P__check_acts (defScope st__check_acts) := ⟨rfl, rfl, rfl, by decide +kernel, rfl, by decide +kernel, by decide +kernel⟩
theorem bs__check_acts : BindsAs "_check_acts" st__check_acts P__check_acts := fun _ _ _ _ _ _ us hl => match us, hl with | [_, _, _], _ => rfl
theorem j__check_acts (B : Bl K mg) (O_check_double : Ok P w K mg base "check_double" P_check_double 1 (spD K 1 S_check_double)) (O_Double____len__ : OkM P w K mg base (adrOf K "Double") "__len__" P_Double____len__ 1 (spD K 1 S_Double____len__)) (O_is_move_of : Ok P w K mg base "is_move_of" P_is_move_of 3 (spD K 2 S_is_move_of)) : BodyCx P w K mg base "_check_acts" st__check_acts N__check_acts 3 fun X => JSs X (defBody st__check_acts) g__check_acts := fun f cdv A outer s H E hr => js_cons (js_expr (je_fn O_check_double (hr.mono (by decide)) (ja_cons (je_v 0) (ja_nil)))) (js_cons (js_expr (je_fn O_check_double (hr.mono (by decide)) (ja_cons (je_v 1) (ja_nil)))) (js_cons (js_if ((jw_or (jt_not (jt_val (je_isi (tn := "tuple") B.isinstance B.tuple (by decide +kernel) (je_v 2)))) (jw_or1 (jt_cmp (opd_ne hr.units) (je_callB calld_len B.len (by decide +kernel) (ja_cons (je_v 2) (ja_nil))) (je_lenI O_Double____len__.slot (hr.mono (by decide)) B.len (je_v 0)) (nomark _)))).jt) (js_one (js_never)) (js_nil)) (js_one (js_if (jt_not (jt_val (je_callB (calld_all rfl) B.all (by decide +kernel) (ja_cons ((jl_lc (own := [("act", 3)]) rfl sc__check_acts.nd (ji_sq (je_v 2)) (blkOk_by (by rfl)) (fun _ _ _ _ _ => jg_n 3 sc__check_acts.nd) (fun _ _ _ _ _ => jts_nil) (fun _ _ _ _ _ => je_fn O_is_move_of (hr.mono (by decide)) (ja_cons (je_v 3) (ja_cons (je_lenI O_Double____len__.slot (hr.mono (by decide)) B.len (je_v 1)) (ja_nil))))).je) (ja_nil))))) (js_one (js_never)) (js_nil)))))
theorem sc__breaks_likeness : FnScope N__breaks_likeness P__breaks_likeness (defScope st__breaks_likeness) := ⟨rfl, rfl, rfl, by decide +kernel, rfl, by decide +kernel, by decide +kernel⟩
theorem bs__breaks_likeness : BindsAs "_breaks_likeness" st__breaks_likeness P__breaks_likeness := fun _ _ _ _ _ _ us hl => match us, hl with | [_, _, _, _], _ => rfl
theorem j__breaks_likeness (CF_Double : ClsF K mg "Double" ["_plus", "_circle", "_backs", "_turns"]) (CF_Group : ClsF K mg "Group" ["_rows", "_unit", "_backs", "_centre"]) (O_Double__plus : OkP P w K mg base (adrOf K "Double") "plus" 1 (spD K 1 S_Double__plus)) (O_Group__rows : OkP P w K mg base (adrOf K "Group") "rows" 1 (spD K 1 S_Group__rows)) (O_Double__circle : OkP P w K mg base (adrOf K "Double") "circle" 1 (spD K 1 S_Double__circle)) : BodyCx P w K mg base "_breaks_likeness" st__breaks_likeness N__breaks_likeness 3 fun X => JSs X (defBody st__breaks_likeness) g__breaks_likeness := fun f cdv A outer s H E hr => js_cons (js_par (i := 4) (j := 5) rfl sc__breaks_likeness.nd rfl rfl (by decide) rfl rfl ((je_prop O_Group__rows CF_Group.cl (hr.mono (by decide)) (je_prop O_Double__plus CF_Double.cl (hr.mono (by decide)) (je_v 0))).jx) ((je_prop O_Group__rows CF_Group.cl (hr.mono (by decide)) (je_prop O_Double__circle CF_Double.cl (hr.mono (by decide)) (je_v 0))).jx) rfl) (js_one (js_ret (je_or (je_cmp (opd_ne hr.units) (je_ix (je_v 1) (je_ix (je_ix (je_v 4) (je_v 2)) (je_v 3))) (je_ix (je_ix (je_v 4) (je_ix (je_v 1) (je_v 2))) (je_ix (je_v 1) (je_v 3))) (nomark _)) (je_one (je_cmp (opd_ne hr.units) (je_ix (je_v 1) (je_ix (je_ix (je_v 5) (je_v 2)) (je_v 3))) (je_ix (je_ix (je_v 5) (je_ix (je_v 1) (je_v 2))) (je_ix (je_v 1) (je_v 3))) (nomark _))))))
theorem sc__breaks_joined : FnScope N__breaks_joined P__breaks_joined (defScope st__breaks_joined) := ⟨rfl, rfl, rfl, by decide +kernel, rfl, by decide +kernel, by decide +kernel⟩
theorem bs__breaks_joined : BindsAs "_breaks_joined" st__breaks_joined P__breaks_joined := fun _ _ _ _ _ _ us hl => match us, hl with | [_, _, _, _], _ => rfl
theorem j__breaks_joined (CF_Double : ClsF K mg "Double" ["_plus", "_circle", "_backs", "_turns"]) (CF_Group : ClsF K mg "Group" ["_rows", "_unit", "_backs", "_centre"]) (O_joined_moves : Ok P w K mg base "joined_moves" P_joined_moves 1 (spD K 2 S_joined_moves)) (O_Double__circle : OkP P w K mg base (adrOf K "Double") "circle" 1 (spD K 1 S_Double__circle)) (O_Group__rows : OkP P w K mg base (adrOf K "Group") "rows" 1 (spD K 1 S_Group__rows)) : BodyCx P w K mg base "_breaks_joined" st__breaks_joined N__breaks_joined 3 fun X => JSs X (defBody st__breaks_joined) g__breaks_joined := fun f cdv A outer s H E hr => js_one (js_ret (je_cmp (opd_ne hr.units) (je_ix (je_v 1) (je_ix (je_ix (je_prop O_Group__rows CF_Group.cl (hr.mono (by decide)) (je_prop O_Double__circle CF_Double.cl (hr.mono (by decide)) (je_v 0))) (je_v 2)) (je_v 3))) (je_fn O_joined_moves (hr.mono (by decide)) (ja_cons (je_ix (je_v 1) (je_v 2)) (ja_cons (je_ix (je_v 1) (je_v 3)) (ja_nil)))) (nomark _)))
theorem sc__law_plus_makers : FnScope N__law_plus_makers P__law_plus_makers (defScope st__law_plus_makers) := ⟨rfl, rfl, rfl, by decide +kernel, rfl, by decide +kernel, by decide +kernel⟩
theorem bs__law_plus_makers : BindsAs "_law_plus_makers" st__law_plus_makers P__law_plus_makers := fun _ _ _ _ _ _ us hl => match us, hl with | [_], _ => rfl
theorem j__law_plus_makers (B : Bl K mg) (O__law_unit : Ok P w K mg base "_law_unit" P__law_unit 1 (spD K 1 S__law_unit)) (O__law_made_part : Ok P w K mg base "_law_made_part" P__law_made_part 2 (spL K 2 S__law_made_part)) : BodyCx P w K mg base "_law_plus_makers" st__law_plus_makers N__law_plus_makers 2 fun X => JSs X (defBody st__law_plus_makers) g__law_plus_makers := fun f cdv A outer s H E hr => js_cons (js_par (i := 1) (j := 2) rfl sc__law_plus_makers.nd rfl rfl (by decide) rfl rfl (((jl_lst (ja_cons (je_fn O__law_unit (hr.mono (by decide)) (ja_cons (je_v 0) (ja_nil))) (ja_nil))).je).jx) ((jl_lst (ja_nil)).jx) rfl) (js_cons (js_for (vs := [3]) rfl (ji_r1 B.range (je_callB calld_len B.len (by decide +kernel) (ja_cons (je_v 0) (ja_nil)))) (jg_n 3 sc__law_plus_makers.nd) (js_one (js_if (jt_cmp opd_notin (je_v 3) (je_v 1) rfl) (js_cons (js_expr (je_app (i := 2) rfl (by first | exact Or.inl rfl | exact Or.inr (Or.inl rfl) | exact Or.inr (Or.inr rfl)) (je_v 3))) (js_one (js_set (i := 1) (((jl_keep (i := 2) (jl_fn O__law_made_part (hr.mono (by decide)) (ja_cons (je_v 0) (ja_cons (je_v 2) (ja_nil))))).je).jx) sc__law_plus_makers.nd rfl (by first | exact Or.inl rfl | exact Or.inr rfl)))) (js_nil)))) (js_one (js_retO (i := 2) rfl (by first | exact Or.inl rfl | exact Or.inr (Or.inl rfl) | exact Or.inr (Or.inr rfl)))))
theorem sc_Group____init__ : FnScope N_Group____init__ P_Group____init__ (defScope st_Group____init__) := ⟨rfl, rfl, rfl, by decide +kernel, rfl, by decide +kernel, by decide +kernel⟩
theorem bs_Group____init__ : BindsM "__init__" "Group.__init__" st_Group____init__ P_Group____init__ := fun _ _ _ _ _ _ us hl => match us, hl with | [_, _], _ => rfl
theorem j_Group____init__ (CF_Group : ClsF K mg "Group" ["_rows", "_unit", "_backs", "_centre"]) (O_group_paper : Ok P w K mg base "group_paper" P_group_paper 4 (spD K 1 S_group_paper)) (O_unit_of : Ok P w K mg base "unit_of" P_unit_of 1 (spD K 1 S_unit_of)) (O_backs_of : Ok P w K mg base "backs_of" P_backs_of 2 (spD K 2 S_backs_of)) (O_centre_of : Ok P w K mg base "centre_of" P_centre_of 1 (spD K 1 S_centre_of)) : BodyCx P w K mg base "Group.__init__" st_Group____init__ N_Group____init__ 4 fun X => JSs X (defBody st_Group____init__) g_Group____init__ := fun f cdv A outer s H E hr => js_cons (js_set (i := 2) ((je_fn O_group_paper (hr.mono (by decide)) (ja_cons (je_v 1) (ja_nil))).jx) sc_Group____init__.nd rfl (by first | exact Or.inl rfl | exact Or.inr rfl)) (js_cons (js_if (jt_cmp (opd_ne hr.units) (je_v 2) (je_tup (ja_cons (je_str) (ja_nil))) (nomark _)) (js_one (js_never)) (js_nil)) (js_cons (js_set (i := 3) ((je_fn O_unit_of (hr.mono (by decide)) (ja_cons (je_v 1) (ja_nil))).jx) sc_Group____init__.nd rfl (by first | exact Or.inl rfl | exact Or.inr rfl)) (js_cons (js_fld (i := 0) rfl (by first | exact Or.inl rfl | exact Or.inr (Or.inl rfl) | exact Or.inr (Or.inr rfl)) (CF_Group.na "_rows" (by simp)) (je_v 1)) (js_cons (js_fld (i := 0) rfl (by first | exact Or.inl rfl | exact Or.inr (Or.inl rfl) | exact Or.inr (Or.inr rfl)) (CF_Group.na "_unit" (by simp)) (je_v 3)) (js_cons (js_fld (i := 0) rfl (by first | exact Or.inl rfl | exact Or.inr (Or.inl rfl) | exact Or.inr (Or.inr rfl)) (CF_Group.na "_backs" (by simp)) (je_fn O_backs_of (hr.mono (by decide)) (ja_cons (je_v 1) (ja_cons (je_v 3) (ja_nil))))) (js_one (js_fld (i := 0) rfl (by first | exact Or.inl rfl | exact Or.inr (Or.inl rfl) | exact Or.inr (Or.inr rfl)) (CF_Group.na "_centre" (by simp)) (je_fn O_centre_of (hr.mono (by decide)) (ja_cons (je_v 1) (ja_nil))))))))))
theorem sc_Group__cyclic : FnScope N_Group__cyclic P_Group__cyclic (defScope st_Group__cyclic) := ⟨rfl, rfl, rfl, by decide +kernel, rfl, by decide +kernel, by decide +kernel⟩
theorem bs_Group__cyclic : BindsM "cyclic" "Group.cyclic" st_Group__cyclic P_Group__cyclic := fun _ _ _ _ _ _ us hl => match us, hl with | [_, _], _ => rfl
theorem j_Group__cyclic {t_MAX_GROUP : Tok} (c_MAX_GROUP : mg "MAX_GROUP" = some (.int 24 t_MAX_GROUP)) (O_check_within : Ok P w K mg base "check_within" P_check_within 3 (spD K 3 S_check_within)) (O_Group____init__ : OkI P w K mg base "Group" P_Group____init__ 5 (spI K "Group" 2 S_Group____init__)) (O_cyclic_rows : Ok P w K mg base "cyclic_rows" P_cyclic_rows 1 (spD K 1 S_cyclic_rows)) : BodyCx P w K mg base "Group.cyclic" st_Group__cyclic N_Group__cyclic 7 fun X => JSs X (defBody st_Group__cyclic) g_Group__cyclic := fun f cdv A outer s H E hr => js_cons (js_expr (je_fn O_check_within (hr.mono (by decide)) (ja_cons (je_v 1) (ja_cons (je_int) (ja_cons (je_globI c_MAX_GROUP (by rfl)) (ja_nil)))))) (js_one (js_ret (je_newV (i := 0) O_Group____init__ (hr.mono (by decide)) rfl (by first | exact Or.inl rfl | exact Or.inr (Or.inl rfl) | exact Or.inr (Or.inr rfl)) (ja_cons (je_fn O_cyclic_rows (hr.mono (by decide)) (ja_cons (je_v 1) (ja_nil))) (ja_nil)))))
theorem sc_double_paper : FnScope N_double_paper P_double_paper (defScope st_double_paper) := ⟨rfl, rfl, rfl, by decide +kernel, rfl, by decide +kernel, by decide +kernel⟩
theorem bs_double_paper : BindsAs "double_paper" st_double_paper P_double_paper := fun _ _ _ _ _ _ us hl => match us, hl with | [_, _], _ => rfl
theorem j_double_paper (B : Bl K mg) (CF_Group : ClsF K mg "Group" ["_rows", "_unit", "_backs", "_centre"]) (O__check_groups : Ok P w K mg base "_check_groups" P__check_groups 4 (spD K 2 S__check_groups)) (O_backs_of : Ok P w K mg base "backs_of" P_backs_of 2 (spD K 2 S_backs_of)) (O_Group__unit : OkP P w K mg base (adrOf K "Group") "unit" 1 (spD K 1 S_Group__unit)) (O_Group__rows : OkP P w K mg base (adrOf K "Group") "rows" 1 (spD K 1 S_Group__rows)) (O_Group____len__ : OkM P w K mg base (adrOf K "Group") "__len__" P_Group____len__ 1 (spD K 1 S_Group____len__)) (O__broken_rule : Ok P w K mg base "_broken_rule" P__broken_rule 2 (spD K 3 S__broken_rule)) : BodyCx P w K mg base "double_paper" st_double_paper N_double_paper 4 fun X => JSs X (defBody st_double_paper) g_double_paper := fun f cdv A outer s H E hr => js_cons (js_expr (je_fn O__check_groups (hr.mono (by decide)) (ja_cons (je_v 0) (ja_cons (je_v 1) (ja_nil))))) (js_cons (js_set (i := 2) ((je_fn O_backs_of (hr.mono (by decide)) (ja_cons (je_prop O_Group__rows CF_Group.cl (hr.mono (by decide)) (je_v 0)) (ja_cons (je_prop O_Group__unit CF_Group.cl (hr.mono (by decide)) (je_v 0)) (ja_nil)))).jx) sc_double_paper.nd rfl (by first | exact Or.inl rfl | exact Or.inr rfl)) (js_cons (js_for (vs := [3]) rfl (ji_r1 B.range (je_lenI O_Group____len__.slot (hr.mono (by decide)) B.len (je_v 0))) (jg_n 3 sc_double_paper.nd) (js_cons (js_set (i := 4) ((je_fn O__broken_rule (hr.mono (by decide)) (ja_cons (je_prop O_Group__rows CF_Group.cl (hr.mono (by decide)) (je_v 0)) (ja_cons (je_ix (je_prop O_Group__rows CF_Group.cl (hr.mono (by decide)) (je_v 1)) (je_v 3)) (ja_cons (je_ix (je_v 2) (je_v 3)) (ja_nil))))).jx) sc_double_paper.nd rfl (by first | exact Or.inl rfl | exact Or.inr rfl)) (js_one (js_if (jt_cmp opd_isnot (je_v 4) (je_non) (nomark _)) (js_one (js_ret (je_bin opd_add (je_tup (ja_cons (je_str) (ja_cons (je_v 3) (ja_nil)))) (je_v 4)))) (js_nil))))) (js_one (js_ret (je_tup (ja_cons (je_str) (ja_nil)))))))
theorem sc__broken_likeness : FnScope N__broken_likeness P__broken_likeness (defScope st__broken_likeness) := ⟨rfl, rfl, rfl, by decide +kernel, rfl, by decide +kernel, by decide +kernel⟩
theorem bs__broken_likeness : BindsAs "_broken_likeness" st__broken_likeness P__broken_likeness := fun _ _ _ _ _ _ us hl => match us, hl with | [_, _], _ => rfl
theorem j__broken_likeness (B : Bl K mg) (O_Double____len__ : OkM P w K mg base (adrOf K "Double") "__len__" P_Double____len__ 1 (spD K 1 S_Double____len__)) (O__breaks_likeness : Ok P w K mg base "_breaks_likeness" P__breaks_likeness 4 (spD K 4 S__breaks_likeness)) : BodyCx P w K mg base "_broken_likeness" st__broken_likeness N__broken_likeness 4 fun X => JSs X (defBody st__broken_likeness) g__broken_likeness := fun f cdv A outer s H E hr => js_cons (js_for (vs := [2]) rfl (ji_r1 B.range (je_lenI O_Double____len__.slot (hr.mono (by decide)) B.len (je_v 0))) (jg_n 2 sc__broken_likeness.nd) (js_one (js_for (vs := [3]) rfl (ji_r1 B.range (je_lenI O_Double____len__.slot (hr.mono (by decide)) B.len (je_v 0))) (jg_n 3 sc__broken_likeness.nd) (js_one (js_if (jt_val (je_fn O__breaks_likeness (hr.mono (by decide)) (ja_cons (je_v 0) (ja_cons (je_v 1) (ja_cons (je_v 2) (ja_cons (je_v 3) (ja_nil))))))) (js_one (js_ret (je_tup (ja_cons (je_v 2) (ja_cons (je_v 3) (ja_nil)))))) (js_nil)))))) (js_one (js_ret (je_non)))
theorem sc__law_likenesses_to : FnScope N__law_likenesses_to P__law_likenesses_to (defScope st__law_likenesses_to) := ⟨rfl, rfl, rfl, by decide +kernel, rfl, by decide +kernel, by decide +kernel⟩
theorem bs__law_likenesses_to : BindsAs "_law_likenesses_to" st__law_likenesses_to P__law_likenesses_to := fun _ _ _ _ _ _ us hl => match us, hl with | [_, _], _ => rfl
theorem j__law_likenesses_to (B : Bl K mg) (O__law_plus_makers : Ok P w K mg base "_law_plus_makers" P__law_plus_makers 3 (spD K 1 S__law_plus_makers)) (O__law_unit : Ok P w K mg base "_law_unit" P__law_unit 1 (spD K 1 S__law_unit)) (O__law_goal_rows : Ok P w K mg base "_law_goal_rows" P__law_goal_rows 1 (spD K 2 S__law_goal_rows)) (O__law_spread_goals : Ok P w K mg base "_law_spread_goals" P__law_spread_goals 2 (spD K 5 S__law_spread_goals)) (O__law_keeps_double : Ok P w K mg base "_law_keeps_double" P__law_keeps_double 3 (spD K 3 S__law_keeps_double)) : BodyCx P w K mg base "_law_likenesses_to" st__law_likenesses_to N__law_likenesses_to 3 fun X => JSs X (defBody st__law_likenesses_to) g__law_likenesses_to := fun f cdv A outer s H E hr => js_cons (js_set (i := 2) ((je_callB calld_len B.len (by decide +kernel) (ja_cons (je_ix (je_v 0) (je_int)) (ja_nil))).jx) sc__law_likenesses_to.nd rfl (by first | exact Or.inl rfl | exact Or.inr rfl)) (js_cons (js_if (jt_cmp (opd_ne hr.units) (je_v 2) (je_callB calld_len B.len (by decide +kernel) (ja_cons (je_ix (je_v 1) (je_int)) (ja_nil))) (nomark _)) (js_one (js_ret ((jl_lst (ja_nil)).je))) (js_nil)) (js_cons (js_par (i := 3) (j := 4) rfl sc__law_likenesses_to.nd rfl rfl (by decide) rfl rfl ((je_fn O__law_plus_makers (hr.mono (by decide)) (ja_cons (je_ix (je_v 0) (je_int)) (ja_nil))).jx) ((je_fn O__law_unit (hr.mono (by decide)) (ja_cons (je_ix (je_v 1) (je_int)) (ja_nil))).jx) rfl) (js_cons (js_set (i := 5) ((jl_lst (ja_nil)).jx) sc__law_likenesses_to.nd rfl (by first | exact Or.inl rfl | exact Or.inr rfl)) (js_cons (js_for (vs := [6]) rfl (ji_sq (je_fn O__law_goal_rows (hr.mono (by decide)) (ja_cons (je_v 2) (ja_cons (je_callB calld_len B.len (by decide +kernel) (ja_cons (je_v 3) (ja_nil))) (ja_nil))))) (jg_n 6 sc__law_likenesses_to.nd) (js_cons (js_set (i := 7) ((je_fn O__law_spread_goals (hr.mono (by decide)) (ja_cons (je_ix (je_v 0) (je_int)) (ja_cons (je_ix (je_v 1) (je_int)) (ja_cons (je_v 3) (ja_cons (je_v 6) (ja_cons (je_v 4) (ja_nil))))))).jx) sc__law_likenesses_to.nd rfl (by first | exact Or.inl rfl | exact Or.inr rfl)) (js_one (js_if ((jw_and (jt_cmp opd_isnot (je_v 7) (je_non) (nomark _)) (jw_and1 (jt_val (je_fn O__law_keeps_double (hr.mono (by decide)) (ja_cons (je_v 0) (ja_cons (je_v 1) (ja_cons (je_v 7) (ja_nil)))))))).jt) (js_one (js_expr (je_app (i := 5) rfl (by first | exact Or.inl rfl | exact Or.inr (Or.inl rfl) | exact Or.inr (Or.inr rfl)) (je_v 7)))) (js_nil))))) (js_one (js_ret ((jl_sortT B.sorted (je_vF 5)).je)))))))
theorem sc_Double____init__ : FnScope N_Double____init__ P_Double____init__ (defScope st_Double____init__) := ⟨rfl, rfl, rfl, by decide +kernel, rfl, by decide +kernel, by decide +kernel⟩
theorem bs_Double____init__ : BindsM "__init__" "Double.__init__" st_Double____init__ P_Double____init__ := fun _ _ _ _ _ _ us hl => match us, hl with | [_, _, _], _ => rfl
theorem j_Double____init__ (B : Bl K mg) (CF_Group : ClsF K mg "Group" ["_rows", "_unit", "_backs", "_centre"]) (CF_Double : ClsF K mg "Double" ["_plus", "_circle", "_backs", "_turns"]) (O_double_paper : Ok P w K mg base "double_paper" P_double_paper 5 (spD K 2 S_double_paper)) (O_backs_of : Ok P w K mg base "backs_of" P_backs_of 2 (spD K 2 S_backs_of)) (O_Group__unit : OkP P w K mg base (adrOf K "Group") "unit" 1 (spD K 1 S_Group__unit)) (O_Group__rows : OkP P w K mg base (adrOf K "Group") "rows" 1 (spD K 1 S_Group__rows)) : BodyCx P w K mg base "Double.__init__" st_Double____init__ N_Double____init__ 5 fun X => JSs X (defBody st_Double____init__) g_Double____init__ := fun f cdv A outer s H E hr => js_cons (js_set (i := 3) ((je_fn O_double_paper (hr.mono (by decide)) (ja_cons (je_v 1) (ja_cons (je_v 2) (ja_nil)))).jx) sc_Double____init__.nd rfl (by first | exact Or.inl rfl | exact Or.inr rfl)) (js_cons (js_if (jt_cmp (opd_ne hr.units) (je_v 3) (je_tup (ja_cons (je_str) (ja_nil))) (nomark _)) (js_one (js_never)) (js_nil)) (js_cons (js_set (i := 4) ((je_fn O_backs_of (hr.mono (by decide)) (ja_cons (je_prop O_Group__rows CF_Group.cl (hr.mono (by decide)) (je_v 1)) (ja_cons (je_prop O_Group__unit CF_Group.cl (hr.mono (by decide)) (je_v 1)) (ja_nil)))).jx) sc_Double____init__.nd rfl (by first | exact Or.inl rfl | exact Or.inr rfl)) (js_cons (js_fld (i := 0) rfl (by first | exact Or.inl rfl | exact Or.inr (Or.inl rfl) | exact Or.inr (Or.inr rfl)) (CF_Double.na "_plus" (by simp)) (je_v 1)) (js_cons (js_fld (i := 0) rfl (by first | exact Or.inl rfl | exact Or.inr (Or.inl rfl) | exact Or.inr (Or.inr rfl)) (CF_Double.na "_circle" (by simp)) (je_v 2)) (js_cons (js_fld (i := 0) rfl (by first | exact Or.inl rfl | exact Or.inr (Or.inl rfl) | exact Or.inr (Or.inr rfl)) (CF_Double.na "_backs" (by simp)) (je_v 4)) (js_one (js_fld (i := 0) rfl (by first | exact Or.inl rfl | exact Or.inr (Or.inl rfl) | exact Or.inr (Or.inr rfl)) (CF_Double.na "_turns" (by simp)) (je_callTy calld_tuple B.tuple (by decide +kernel) (ja_cons ((jl_lc (own := [("a", 5), ("row", 6)]) rfl sc_Double____init__.nd (ji_en B.enumerate (je_prop O_Group__rows CF_Group.cl (hr.mono (by decide)) (je_v 2))) (blkOk_by (by rfl)) (fun _ _ _ _ _ => jg_tup rfl (jgs_cons (jg_n 5 sc_Double____init__.nd) (jgs_cons (jg_n 6 sc_Double____init__.nd) (jgs_nil)))) (fun _ _ _ _ _ => jts_nil) (fun _ _ _ _ _ => je_callTy calld_tuple B.tuple (by decide +kernel) (ja_cons ((jl_lc (own := [("made", 7)]) rfl sc_Double____init__.nd (ji_sq (je_v 6)) (blkOk_by (by rfl)) (fun _ _ _ _ _ => jg_n 7 sc_Double____init__.nd) (fun _ _ _ _ _ => jts_nil) (fun _ _ _ _ _ => je_ix (je_ix (je_prop O_Group__rows CF_Group.cl (hr.mono (by decide)) (je_v 1)) (je_ix (je_v 4) (je_v 5))) (je_v 7))).je) (ja_nil)))).je) (ja_nil))))))))))
theorem sc_Double__both : FnScope N_Double__both P_Double__both (defScope st_Double__both) := ⟨rfl, rfl, rfl, by decide +kernel, rfl, by decide +kernel, by decide +kernel⟩
theorem bs_Double__both : BindsM "both" "Double.both" st_Double__both P_Double__both := fun _ _ _ _ _ _ us hl => match us, hl with | [_, _], _ => rfl
theorem j_Double__both (O_Double____init__ : OkI P w K mg base "Double" P_Double____init__ 6 (spI K "Double" 3 S_Double____init__)) : BodyCx P w K mg base "Double.both" st_Double__both N_Double__both 8 fun X => JSs X (defBody st_Double__both) g_Double__both := fun f cdv A outer s H E hr => js_one (js_ret (je_newV (i := 0) O_Double____init__ (hr.mono (by decide)) rfl (by first | exact Or.inl rfl | exact Or.inr (Or.inl rfl) | exact Or.inr (Or.inr rfl)) (ja_cons (je_v 1) (ja_cons (je_v 1) (ja_nil)))))
theorem sc_join_paper : FnScope N_join_paper P_join_paper (defScope st_join_paper) := ⟨rfl, rfl, rfl, by decide +kernel, rfl, by decide +kernel, by decide +kernel⟩
theorem bs_join_paper : BindsAs "join_paper" st_join_paper P_join_paper := fun _ _ _ _ _ _ us hl => match us, hl with | [_, _, _], _ => rfl
theorem j_join_paper (B : Bl K mg) (O__check_acts : Ok P w K mg base "_check_acts" P__check_acts 4 (spD K 3 S__check_acts)) (O__broken_likeness : Ok P w K mg base "_broken_likeness" P__broken_likeness 5 (spD K 2 S__broken_likeness)) (O_Double____len__ : OkM P w K mg base (adrOf K "Double") "__len__" P_Double____len__ 1 (spD K 1 S_Double____len__)) (O__breaks_joined : Ok P w K mg base "_breaks_joined" P__breaks_joined 4 (spD K 4 S__breaks_joined)) : BodyCx P w K mg base "join_paper" st_join_paper N_join_paper 5 fun X => JSs X (defBody st_join_paper) g_join_paper := fun f cdv A outer s H E hr => js_cons (js_expr (je_fn O__check_acts (hr.mono (by decide)) (ja_cons (je_v 0) (ja_cons (je_v 1) (ja_cons (je_v 2) (ja_nil)))))) (js_cons (js_for (vs := [3, 4]) rfl (ji_en B.enumerate (je_v 2)) (jg_tup rfl (jgs_cons (jg_n 3 sc_join_paper.nd) (jgs_cons (jg_n 4 sc_join_paper.nd) (jgs_nil)))) (js_cons (js_set (i := 5) ((je_fn O__broken_likeness (hr.mono (by decide)) (ja_cons (je_v 1) (ja_cons (je_v 4) (ja_nil)))).jx) sc_join_paper.nd rfl (by first | exact Or.inl rfl | exact Or.inr rfl)) (js_one (js_if (jt_cmp opd_isnot (je_v 5) (je_non) (nomark _)) (js_one (js_ret (je_bin opd_add (je_tup (ja_cons (je_str) (ja_cons (je_v 3) (ja_nil)))) (je_v 5)))) (js_nil))))) (js_cons (js_for (vs := [3]) rfl (ji_r1 B.range (je_lenI O_Double____len__.slot (hr.mono (by decide)) B.len (je_v 0))) (jg_n 3 sc_join_paper.nd) (js_one (js_for (vs := [6]) rfl (ji_r1 B.range (je_lenI O_Double____len__.slot (hr.mono (by decide)) B.len (je_v 0))) (jg_n 6 sc_join_paper.nd) (js_one (js_if (jt_val (je_fn O__breaks_joined (hr.mono (by decide)) (ja_cons (je_v 0) (ja_cons (je_v 2) (ja_cons (je_v 3) (ja_cons (je_v 6) (ja_nil))))))) (js_one (js_ret (je_tup (ja_cons (je_str) (ja_cons (je_v 3) (ja_cons (je_v 6) (ja_nil))))))) (js_nil)))))) (js_one (js_ret (je_tup (ja_cons (je_str) (ja_nil)))))))
theorem sc_is_join_paper : FnScope N_is_join_paper P_is_join_paper (defScope st_is_join_paper) := ⟨rfl, rfl, rfl, by decide +kernel, rfl, by decide +kernel, by decide +kernel⟩
theorem bs_is_join_paper : BindsAs "is_join_paper" st_is_join_paper P_is_join_paper := fun _ _ _ _ _ _ us hl => match us, hl with | [_, _, _, _], _ => rfl
theorem j_is_join_paper (B : Bl K mg) (O__check_acts : Ok P w K mg base "_check_acts" P__check_acts 4 (spD K 3 S__check_acts)) (O_is_same : Ok P w K mg base "is_same" P_is_same 3 (spD K 2 S_is_same)) (O_is_thing : Ok P w K mg base "is_thing" P_is_thing 2 (spD K 2 S_is_thing)) (O_Double____len__ : OkM P w K mg base (adrOf K "Double") "__len__" P_Double____len__ 1 (spD K 1 S_Double____len__)) (O_is_row : Ok P w K mg base "is_row" P_is_row 1 (spD K 3 S_is_row)) (O__breaks_likeness : Ok P w K mg base "_breaks_likeness" P__breaks_likeness 4 (spD K 4 S__breaks_likeness)) (O_is_told : Ok P w K mg base "is_told" P_is_told 4 (spD K 4 S_is_told)) (O__breaks_joined : Ok P w K mg base "_breaks_joined" P__breaks_joined 4 (spD K 4 S__breaks_joined)) (O_join_paper : Ok P w K mg base "join_paper" P_join_paper 6 (spD K 3 S_join_paper)) : BodyCx P w K mg base "is_join_paper" st_is_join_paper N_is_join_paper 6 fun X => JSs X (defBody st_is_join_paper) g_is_join_paper := fun f cdv A outer s H E hr => js_cons (js_expr (je_fn O__check_acts (hr.mono (by decide)) (ja_cons (je_v 0) (ja_cons (je_v 1) (ja_cons (je_v 2) (ja_nil)))))) (js_cons (js_if ((jw_and (jt_val (je_isi (tn := "tuple") B.isinstance B.tuple (by decide +kernel) (je_v 3))) (jw_and (jt_cmp (opd_eq hr.units) (je_callB calld_len B.len (by decide +kernel) (ja_cons (je_v 3) (ja_nil))) (je_int) (nomark _)) (jw_and1 (jt_val (je_fn O_is_same (hr.mono (by decide)) (ja_cons (je_ix (je_v 3) (je_int)) (ja_cons (je_str) (ja_nil)))))))).jt) (js_cons (js_asg (vs := [4, 5, 6, 7]) (je_v 3) (jg_tup rfl (jgs_cons (jg_n 4 sc_is_join_paper.nd) (jgs_cons (jg_n 5 sc_is_join_paper.nd) (jgs_cons (jg_n 6 sc_is_join_paper.nd) (jgs_cons (jg_n 7 sc_is_join_paper.nd) (jgs_nil))))))) (js_cons (js_if ((jw_or (jt_not (jt_val (je_fn O_is_thing (hr.mono (by decide)) (ja_cons (je_v 5) (ja_cons (je_lenI O_Double____len__.slot (hr.mono (by decide)) B.len (je_v 0)) (ja_nil)))))) (jw_or1 (jt_not (jt_val (je_fn O_is_row (hr.mono (by decide)) (ja_cons (je_tup (ja_cons (je_v 6) (ja_cons (je_v 7) (ja_nil)))) (ja_cons (je_int) (ja_cons (je_lenI O_Double____len__.slot (hr.mono (by decide)) B.len (je_v 1)) (ja_nil))))))))).jt) (js_one (js_ret (je_bl))) (js_nil)) (js_one (js_ret (je_fn O__breaks_likeness (hr.mono (by decide)) (ja_cons (je_v 1) (ja_cons (je_ix (je_v 2) (je_v 5)) (ja_cons (je_v 6) (ja_cons (je_v 7) (ja_nil)))))))))) (js_nil)) (js_cons (js_if (jt_val (je_fn O_is_told (hr.mono (by decide)) (ja_cons (je_v 3) (ja_cons (je_str) (ja_cons (je_int) (ja_cons (je_lenI O_Double____len__.slot (hr.mono (by decide)) B.len (je_v 0)) (ja_nil))))))) (js_one (js_ret (je_fn O__breaks_joined (hr.mono (by decide)) (ja_cons (je_v 0) (ja_cons (je_v 2) (ja_cons (je_ix (je_v 3) (je_int)) (ja_cons (je_ix (je_v 3) (je_int)) (ja_nil)))))))) (js_nil)) (js_one (js_ret (je_and (je_fn O_is_same (hr.mono (by decide)) (ja_cons (je_v 3) (ja_cons (je_tup (ja_cons (je_str) (ja_nil))) (ja_nil)))) (je_one (je_cmp (opd_eq hr.units) (je_fn O_join_paper (hr.mono (by decide)) (ja_cons (je_v 0) (ja_cons (je_v 1) (ja_cons (je_v 2) (ja_nil))))) (je_tup (ja_cons (je_str) (ja_nil))) (nomark _))))))))
theorem sc__law_right : FnScope N__law_right P__law_right (defScope st__law_right) := ⟨rfl, rfl, rfl, by decide +kernel, rfl, by decide +kernel, by decide +kernel⟩
theorem bs__law_right : BindsAs "_law_right" st__law_right P__law_right := fun _ _ _ _ _ _ us hl => match us, hl with | [_], _ => rfl
theorem j__law_right (B : Bl K mg) (O__law_double : Ok P w K mg base "_law_double" P__law_double 6 (spM K 2 S__law_double)) (O__law_likenesses_to : Ok P w K mg base "_law_likenesses_to" P__law_likenesses_to 4 (spD K 2 S__law_likenesses_to)) (O__law_idle : Ok P w K mg base "_law_idle" P__law_idle 1 (spD K 1 S__law_idle)) (O__law_drawn_move : Ok P w K mg base "_law_drawn_move" P__law_drawn_move 3 (spM K 2 S__law_drawn_move)) (O__law_pick : Ok P w K mg base "_law_pick" P__law_pick 2 (spM K 2 S__law_pick)) (O__law_roll : Ok P w K mg base "_law_roll" P__law_roll 1 (spM K 2 S__law_roll)) (O_Double____init__ : OkI P w K mg base "Double" P_Double____init__ 6 (spI K "Double" 3 S_Double____init__)) (O_Group____init__ : OkI P w K mg base "Group" P_Group____init__ 5 (spI K "Group" 2 S_Group____init__)) (O__law_circle_of : Ok P w K mg base "_law_circle_of" P__law_circle_of 2 (spD K 1 S__law_circle_of)) (O__law_says : Ok P w K mg base "_law_says" P__law_says 3 (spD K 4 S__law_says)) (O_is_join_paper : Ok P w K mg base "is_join_paper" P_is_join_paper 7 (spD K 4 S_is_join_paper)) (O__law_keeps_double : Ok P w K mg base "_law_keeps_double" P__law_keeps_double 3 (spD K 3 S__law_keeps_double)) (O__law_drawn_paper : Ok P w K mg base "_law_drawn_paper" P__law_drawn_paper 3 (spM K 3 S__law_drawn_paper)) : BodyCx P w K mg base "_law_right" st__law_right N__law_right 8 fun X => JSs X (defBody st__law_right) g__law_right := fun f cdv A outer s H E hr => js_cons (js_par (i := 1) (j := 2) rfl sc__law_right.nd rfl rfl (by decide) rfl rfl ((je_fnM O__law_double (hr.mono (by decide)) (i := 0) rfl (by first | exact Or.inl rfl | exact Or.inr (Or.inl rfl) | exact Or.inr (Or.inr rfl)) (ja_cons (je_int) (ja_nil))).jx) ((je_fnM O__law_double (hr.mono (by decide)) (i := 0) rfl (by first | exact Or.inl rfl | exact Or.inr (Or.inl rfl) | exact Or.inr (Or.inr rfl)) (ja_cons (je_int) (ja_nil))).jx) rfl) (js_cons (js_set (i := 3) ((je_bin opd_add (je_bin opd_add (je_fn O__law_likenesses_to (hr.mono (by decide)) (ja_cons (je_v 2) (ja_cons (je_v 2) (ja_nil)))) ((jl_rep ((jl_lst (ja_cons (je_fn O__law_idle (hr.mono (by decide)) (ja_cons (je_callB calld_len B.len (by decide +kernel) (ja_cons (je_ix (je_v 2) (je_int)) (ja_nil))) (ja_nil))) (ja_nil))).je) (je_int)).je)) ((jl_lst (ja_cons (je_fnM O__law_drawn_move (hr.mono (by decide)) (i := 0) rfl (by first | exact Or.inl rfl | exact Or.inr (Or.inl rfl) | exact Or.inr (Or.inr rfl)) (ja_cons (je_callB calld_len B.len (by decide +kernel) (ja_cons (je_ix (je_v 2) (je_int)) (ja_nil))) (ja_nil))) (ja_nil))).je)).jx) sc__law_right.nd rfl (by first | exact Or.inl rfl | exact Or.inr rfl)) (js_cons (js_set (i := 4) ((je_callTy calld_tuple B.tuple (by decide +kernel) (ja_cons ((jl_lc (own := [("_law_thing", 19)]) rfl sc__law_right.nd (ji_sq (je_ix (je_v 1) (je_int))) (blkOk_by (by rfl)) (fun _ _ _ _ _ => jg_n 19 sc__law_right.nd) (fun _ _ _ _ _ => jts_nil) (fun _ _ _ _ _ => je_fnM O__law_pick (hr.mono (by decide)) (i := 0) rfl (by first | exact Or.inl rfl | exact Or.inr (Or.inl rfl) | exact Or.inr (Or.inr rfl)) (ja_cons (je_v 3) (ja_nil)))).je) (ja_nil))).jx) sc__law_right.nd rfl (by first | exact Or.inl rfl | exact Or.inr rfl)) (js_cons (js_if (jt_cmp (opd_eq hr.units) (je_fnM O__law_roll (hr.mono (by decide)) (i := 0) rfl (by first | exact Or.inl rfl | exact Or.inr (Or.inl rfl) | exact Or.inr (Or.inr rfl)) (ja_cons (je_int) (ja_nil))) (je_int) (nomark _)) (js_one (js_set (i := 4) ((je_bin opd_repU (je_tup (ja_cons (je_fn O__law_idle (hr.mono (by decide)) (ja_cons (je_callB calld_len B.len (by decide +kernel) (ja_cons (je_ix (je_v 2) (je_int)) (ja_nil))) (ja_nil))) (ja_nil))) (je_callB calld_len B.len (by decide +kernel) (ja_cons (je_ix (je_v 1) (je_int)) (ja_nil)))).jx) sc__law_right.nd rfl (by first | exact Or.inl rfl | exact Or.inr rfl))) (js_nil)) (js_cons (js_set (i := 5) ((je_new O_Double____init__ (hr.mono (by decide)) (ja_cons (je_new O_Group____init__ (hr.mono (by decide)) (ja_cons (je_callTy calld_tuple B.tuple (by decide +kernel) (ja_cons (je_ix (je_v 1) (je_int)) (ja_nil))) (ja_nil))) (ja_cons (je_new O_Group____init__ (hr.mono (by decide)) (ja_cons (je_fn O__law_circle_of (hr.mono (by decide)) (ja_cons (je_v 1) (ja_nil))) (ja_nil))) (ja_nil)))).jx) sc__law_right.nd rfl (by first | exact Or.inl rfl | exact Or.inr rfl)) (js_cons (js_set (i := 6) ((je_new O_Double____init__ (hr.mono (by decide)) (ja_cons (je_new O_Group____init__ (hr.mono (by decide)) (ja_cons (je_callTy calld_tuple B.tuple (by decide +kernel) (ja_cons (je_ix (je_v 2) (je_int)) (ja_nil))) (ja_nil))) (ja_cons (je_new O_Group____init__ (hr.mono (by decide)) (ja_cons (je_fn O__law_circle_of (hr.mono (by decide)) (ja_cons (je_v 2) (ja_nil))) (ja_nil))) (ja_nil)))).jx) sc__law_right.nd rfl (by first | exact Or.inl rfl | exact Or.inr rfl)) (js_cons (js_set (i := 7) ((je_bl).jx) sc__law_right.nd rfl (by first | exact Or.inl rfl | exact Or.inr rfl)) (js_cons (js_for (vs := [8]) rfl (ji_r1 B.range (je_callB calld_len B.len (by decide +kernel) (ja_cons (je_v 4) (ja_nil)))) (jg_n 8 sc__law_right.nd) (js_one (js_for (vs := [9]) rfl (ji_r1 B.range (je_callB calld_len B.len (by decide +kernel) (ja_cons (je_v 4) (ja_nil)))) (jg_n 9 sc__law_right.nd) (js_cons (js_set (i := 10) ((je_tup (ja_cons (je_str) (ja_cons (je_v 8) (ja_cons (je_v 9) (ja_nil))))).jx) sc__law_right.nd rfl (by first | exact Or.inl rfl | exact Or.inr rfl)) (js_cons (js_set (i := 11) ((je_fn O__law_says (hr.mono (by decide)) (ja_cons (je_v 1) (ja_cons (je_v 2) (ja_cons (je_v 4) (ja_cons (je_v 10) (ja_nil)))))).jx) sc__law_right.nd rfl (by first | exact Or.inl rfl | exact Or.inr rfl)) (js_cons (js_set (i := 7) ((je_and (je_v 7) (je_one (je_not (je_v 11)))).jx) sc__law_right.nd rfl (by first | exact Or.inl rfl | exact Or.inr rfl)) (js_one (js_if (jt_cmp (opd_ne hr.units) (je_fn O_is_join_paper (hr.mono (by decide)) (ja_cons (je_v 5) (ja_cons (je_v 6) (ja_cons (je_v 4) (ja_cons (je_v 10) (ja_nil)))))) (je_v 11) (nomark _)) (js_one (js_ret (je_bl))) (js_nil))))))))) (js_cons (js_for (vs := [12]) rfl (ji_r1 B.range (je_callB calld_len B.len (by decide +kernel) (ja_cons (je_ix (je_v 2) (je_int)) (ja_nil)))) (jg_n 12 sc__law_right.nd) (js_one (js_for (vs := [13]) rfl (ji_r1 B.range (je_callB calld_len B.len (by decide +kernel) (ja_cons (je_ix (je_v 2) (je_int)) (ja_nil)))) (jg_n 13 sc__law_right.nd) (js_cons (js_set (i := 10) ((je_tup (ja_cons (je_str) (ja_cons (je_fnM O__law_roll (hr.mono (by decide)) (i := 0) rfl (by first | exact Or.inl rfl | exact Or.inr (Or.inl rfl) | exact Or.inr (Or.inr rfl)) (ja_cons (je_callB calld_len B.len (by decide +kernel) (ja_cons (je_v 4) (ja_nil))) (ja_nil))) (ja_cons (je_v 12) (ja_cons (je_v 13) (ja_nil)))))).jx) sc__law_right.nd rfl (by first | exact Or.inl rfl | exact Or.inr rfl)) (js_one (js_if (jt_cmp (opd_ne hr.units) (je_fn O_is_join_paper (hr.mono (by decide)) (ja_cons (je_v 5) (ja_cons (je_v 6) (ja_cons (je_v 4) (ja_cons (je_v 10) (ja_nil)))))) (je_fn O__law_says (hr.mono (by decide)) (ja_cons (je_v 1) (ja_cons (je_v 2) (ja_cons (je_v 4) (ja_cons (je_v 10) (ja_nil)))))) (nomark _)) (js_one (js_ret (je_bl))) (js_nil))))))) (js_cons (js_for (vs := [14]) rfl (ji_sq (je_v 4)) (jg_n 14 sc__law_right.nd) (js_one (js_set (i := 7) ((je_and (je_v 7) (je_one (je_fn O__law_keeps_double (hr.mono (by decide)) (ja_cons (je_v 2) (ja_cons (je_v 2) (ja_cons (je_v 14) (ja_nil))))))).jx) sc__law_right.nd rfl (by first | exact Or.inl rfl | exact Or.inr rfl)))) (js_cons (js_if (jt_cmp (opd_ne hr.units) (je_fn O_is_join_paper (hr.mono (by decide)) (ja_cons (je_v 5) (ja_cons (je_v 6) (ja_cons (je_v 4) (ja_cons (je_tup (ja_cons (je_str) (ja_nil))) (ja_nil)))))) (je_v 7) (nomark _)) (js_one (js_ret (je_bl))) (js_nil)) (js_cons (js_for (vs := [15]) rfl (ji_r1 B.range (je_int)) (jg_n 15 sc__law_right.nd) (js_cons (js_set (i := 10) ((je_fnM O__law_drawn_paper (hr.mono (by decide)) (i := 0) rfl (by first | exact Or.inl rfl | exact Or.inr (Or.inl rfl) | exact Or.inr (Or.inr rfl)) (ja_cons (je_v 1) (ja_cons (je_v 2) (ja_nil)))).jx) sc__law_right.nd rfl (by first | exact Or.inl rfl | exact Or.inr rfl)) (js_one (js_if (jt_cmp (opd_ne hr.units) (je_fn O_is_join_paper (hr.mono (by decide)) (ja_cons (je_v 5) (ja_cons (je_v 6) (ja_cons (je_v 4) (ja_cons (je_v 10) (ja_nil)))))) (je_fn O__law_says (hr.mono (by decide)) (ja_cons (je_v 1) (ja_cons (je_v 2) (ja_cons (je_v 4) (ja_cons (je_v 10) (ja_nil)))))) (nomark _)) (js_one (js_ret (je_bl))) (js_nil))))) (js_cons (js_par (i := 16) (j := 17) rfl sc__law_right.nd rfl rfl (by decide) rfl rfl ((je_callB calld_len B.len (by decide +kernel) (ja_cons (je_ix (je_v 1) (je_int)) (ja_nil))).jx) ((je_callB calld_len B.len (by decide +kernel) (ja_cons (je_ix (je_v 2) (je_int)) (ja_nil))).jx) rfl) (js_cons (js_set (i := 18) (((jl_lst (ja_cons (je_non) (ja_cons (je_tup (ja_nil)) (ja_cons (je_str) (ja_cons ((jl_lst (ja_cons (je_str) (ja_nil))).je) (ja_cons (je_tup (ja_cons (je_str) (ja_cons (je_int) (ja_nil)))) (ja_cons (je_tup (ja_cons (je_str) (ja_nil))) (ja_cons (je_tup (ja_cons (je_str) (ja_cons (je_int) (ja_cons (je_int) (ja_nil))))) (ja_cons (je_tup (ja_cons (je_str) (ja_cons (je_int) (ja_nil)))) (ja_cons (je_tup (ja_cons (je_str) (ja_cons (je_int) (ja_cons (je_int) (ja_cons (je_int) (ja_nil)))))) (ja_nil))))))))))).je).jx) sc__law_right.nd rfl (by first | exact Or.inl rfl | exact Or.inr rfl)) (js_cons (js_set (i := 18) ((je_bin opd_add (je_v 18) ((jl_lst (ja_cons (je_tup (ja_cons (je_str) (ja_cons (je_v 16) (ja_cons (je_int) (ja_nil))))) (ja_cons (je_tup (ja_cons (je_str) (ja_cons (je_neg (je_int)) (ja_cons (je_int) (ja_nil))))) (ja_cons (je_tup (ja_cons (je_str) (ja_cons (je_bl) (ja_cons (je_int) (ja_nil))))) (ja_cons (je_tup (ja_cons (je_str) (ja_cons (je_v 16) (ja_cons (je_int) (ja_cons (je_int) (ja_nil)))))) (ja_cons (je_tup (ja_cons (je_str) (ja_cons (je_int) (ja_cons (je_v 17) (ja_cons (je_int) (ja_nil)))))) (ja_nil))))))).je)).jx) sc__law_right.nd rfl (by first | exact Or.inl rfl | exact Or.inr rfl)) (js_cons (js_set (i := 18) ((je_bin opd_add (je_v 18) ((jl_lst (ja_cons (je_tup (ja_cons (je_str) (ja_cons (je_int) (ja_cons (je_int) (ja_cons (je_str) (ja_nil)))))) (ja_cons (je_tup (ja_cons (je_str) (ja_cons (je_int) (ja_cons (je_int) (ja_nil))))) (ja_cons (je_tup (ja_cons (je_non) (ja_cons (je_int) (ja_cons (je_int) (ja_nil))))) (ja_cons (je_tup (ja_cons (je_int) (ja_nil))) (ja_cons (je_tup (ja_cons (je_str) (ja_cons (je_tup (ja_cons (je_int) (ja_nil))) (ja_cons (je_int) (ja_cons (je_int) (ja_nil)))))) (ja_cons (je_dict0) (ja_cons (je_tup (ja_cons (je_str) (ja_cons (je_int) (ja_cons (je_non) (ja_nil))))) (ja_nil))))))))).je)).jx) sc__law_right.nd rfl (by first | exact Or.inl rfl | exact Or.inr rfl)) (js_one (js_ret (je_not (je_callB (calld_any rfl) B.any (by decide +kernel) (ja_cons ((jl_lc (own := [("_law_value", 10)]) rfl sc__law_right.nd (ji_sq (je_v 18)) (blkOk_by (by rfl)) (fun _ _ _ _ _ => jg_n 10 sc__law_right.nd) (fun _ _ _ _ _ => jts_nil) (fun _ _ _ _ _ => je_fn O_is_join_paper (hr.mono (by decide)) (ja_cons (je_v 5) (ja_cons (je_v 6) (ja_cons (je_v 4) (ja_cons (je_v 10) (ja_nil))))))).je) (ja_nil)))))))))))))))))))))
theorem sc_law : FnScope N_law P_law (defScope st_law) := ⟨rfl, rfl, rfl, by decide +kernel, rfl, by decide +kernel, by decide +kernel⟩
theorem j_law (B : Bl K mg) (CF_Group : ClsF K mg "Group" ["_rows", "_unit", "_backs", "_centre"]) (CF_Double : ClsF K mg "Double" ["_plus", "_circle", "_backs", "_turns"]) (O__law_dice : Ok P w K mg base "_law_dice" P__law_dice 1 (spL K 2 S__law_dice)) (O__law_right : Ok P w K mg base "_law_right" P__law_right 9 (spM K 1 S__law_right)) (O_Double__both : OkC P w K mg base (adrOf K "Double") "both" 9 (spD K 2 S_Double__both)) (O_Group__cyclic : OkC P w K mg base (adrOf K "Group") "cyclic" 8 (spD K 2 S_Group__cyclic)) (O_is_join_paper : Ok P w K mg base "is_join_paper" P_is_join_paper 7 (spD K 4 S_is_join_paper)) : BodyCx P w K mg base "law" st_law N_law 11 fun X => JSs X (defBody st_law) g_law := fun f cdv A outer s H E hr => js_cons (js_for (vs := [1]) rfl (ji_r1 B.range (je_callB (calld_max2 rfl) B.max (by decide +kernel) (ja_cons (je_int) (ja_cons (je_callB (calld_min2 rfl) B.min (by decide +kernel) (ja_cons (je_int) (ja_cons (je_callB calld_len B.len (by decide +kernel) (ja_cons (je_v 0) (ja_nil))) (ja_nil)))) (ja_nil))))) (jg_n 1 sc_law.nd) (js_one (js_if (jt_not (jt_val (je_fnML O__law_right (hr.mono (by decide)) (jl_fn O__law_dice (hr.mono (by decide)) (ja_cons (je_v 0) (ja_cons (je_v 1) (ja_nil)))) (ja_nil)))) (js_one (js_ret (je_bl))) (js_nil)))) (js_cons (js_parT (i := 2) (j := 3) rfl sc_law.nd rfl rfl (by decide) (by first | exact Or.inl rfl | exact Or.inr rfl) (by first | exact Or.inl rfl | exact Or.inr rfl) ((je_cm O_Double__both CF_Double.mg CF_Double.ob (hr.mono (by decide)) (ja_cons (je_cm O_Group__cyclic CF_Group.mg CF_Group.ob (hr.mono (by decide)) (ja_cons (je_int) (ja_nil))) (ja_nil))).jx) ((je_cm O_Double__both CF_Double.mg CF_Double.ob (hr.mono (by decide)) (ja_cons (je_cm O_Group__cyclic CF_Group.mg CF_Group.ob (hr.mono (by decide)) (ja_cons (je_int) (ja_nil))) (ja_nil))).jx)) (js_cons (js_set (i := 4) ((je_tup (ja_cons (je_tup (ja_cons (je_int) (ja_cons (je_int) (ja_cons (je_int) (ja_nil))))) (ja_cons (je_tup (ja_cons (je_int) (ja_cons (je_int) (ja_cons (je_int) (ja_nil))))) (ja_nil)))).jx) sc_law.nd rfl (by first | exact Or.inl rfl | exact Or.inr rfl)) (js_cons (js_set (i := 5) (((jl_lst (ja_cons (je_tup (ja_cons (je_str) (ja_cons (je_int) (ja_cons (je_int) (ja_cons (je_int) (ja_nil)))))) (ja_cons (je_tup (ja_cons (je_str) (ja_cons (je_int) (ja_cons (je_int) (ja_nil))))) (ja_cons (je_tup (ja_cons (je_str) (ja_cons (je_int) (ja_cons (je_int) (ja_nil))))) (ja_cons (je_tup (ja_cons (je_str) (ja_cons (je_int) (ja_cons (je_int) (ja_cons (je_int) (ja_nil)))))) (ja_cons (je_tup (ja_cons (je_str) (ja_nil))) (ja_nil))))))).je).jx) sc_law.nd rfl (by first | exact Or.inl rfl | exact Or.inr rfl)) (js_one (js_ret (je_cmp (opd_eq hr.units) ((jl_lc (own := [("_law_value", 6)]) rfl sc_law.nd (ji_sq (je_v 5)) (blkOk_by (by rfl)) (fun _ _ _ _ _ => jg_n 6 sc_law.nd) (fun _ _ _ _ _ => jts_nil) (fun _ _ _ _ _ => je_fn O_is_join_paper (hr.mono (by decide)) (ja_cons (je_v 2) (ja_cons (je_v 3) (ja_cons (je_v 4) (ja_cons (je_v 6) (ja_nil))))))).je) ((jl_lst (ja_cons (je_bl) (ja_cons (je_bl) (ja_cons (je_bl) (ja_cons (je_bl) (ja_cons (je_bl) (ja_nil))))))).je) (nomark _)))))))
end
end Dn.T.G.B.K37.K84
set_option Elab.async false
set_option linter.all false
set_option maxRecDepth 100000
set_option autoImplicit false
set_option maxHeartbeats 4000000
namespace Dn.T.G.B.K37.K84
open PySem PySem.Spec PyProof.Rows L2 Evl
theorem start_law {K : PySem.W.Frag} {H : Hp} {a : Addr} {ns : List Int} (hl : ns.length ≤ 63) (hS : SqL K H a (ns.map V.int)) (tb : TbOk K H) : spD K 1 S_law [.ref a] H (fun v _ => v = .bl true) fun _ _ _ => False := by
  refine ⟨rfl, fun _ => False, [scr ns], fun d => d = .bool true, fun _ h => h.elim, start_scr hS, tb, ⟨ns, rfl, hl, rfl⟩, fun v d H' q _ r => ?_⟩
  subst q
  cases r
  rfl
theorem facts {P : Program} {w : World} {K : PySem.W.Frag} {h : Heap} {mg : Str → Option Value} {f : Addr} (X : K.In h) (G : h.Ns mainGlobals mg) (hfa : mg ("law" : Str) = some (.ref f)) (cx : He.SaysX Hd.bf Hd.fa Hd.fn Hd.xb Hd.xf Hd.vals K) :
    ∃ fd : FuncData, (∀ (s : Shared) (v : Value), BindsTo s fd ⟨[v], []⟩ [("_law_script", v)]) ∧ (∀ H : Hp, TbOk K H) ∧ ∀ base : Heap, K.In base → base.Ns mainGlobals mg → FnOk P w K mg base L2.CX0 12 f fd ["_law_script"] (spD K 1 S_law) := by
  have cb := cx.b
  have c := cb.d
  have hx := cx.x
  unfold Hd.xb at hx
  rw [Bool.and_eq_true] at hx
  have LMK : ∀ H : Hp, TbOk K H := fun H p hp => by
    have e : Dn.lamK K = [] := List.isEmpty_iff.mp hx.1
    unfold tabsK at hp
    rw [e] at hp
    cases hp
  replace hx := hx.2
  rw [Bool.and_eq_true] at hx
  have KTF : KT K := hx.1
  replace hx := hx.2
  simp only [Bool.and_eq_true] at hx
  obtain ⟨x0, x1, x2, x3, x4, x5, x6, x7, x8, x9, x10, x11, x12, x13, x14⟩ := hx
  have hv := cx.f
  unfold Hd.xf Hd.vals at hv
  simp only [List.cons.injEq, and_true] at hv
  obtain ⟨v0, v1, v2, v3, v4, v5⟩ := hv
  have cl_Double := He.cls_ok (c.fact 98 (f := .cls "Double") rfl)
  obtain ⟨ad_Double, ob_Double, ic_Double, ne_Double⟩ := He.obB_ok x0 cl_Double
  have CF_Double : ClsF K mg "Double" ["_plus", "_circle", "_backs", "_turns"] := by
    refine ⟨?_, ?_, ob_Double, ic_Double, ne_Double, fun f hf => ?_⟩
    · rw [ad_Double]; exact He.glo_ok X G (c.fact 97 (f := .glo "Double") rfl)
    · rw [ad_Double]; exact cl_Double
    · simp only [List.mem_cons, List.not_mem_nil, or_false] at hf
      rw [ad_Double]
      rcases hf with rfl | rfl | rfl | rfl
      · exact He.noat_ok (c.fact 100 (f := .noat "Double" "_plus") rfl)
      · exact He.noat_ok (c.fact 101 (f := .noat "Double" "_circle") rfl)
      · exact He.noat_ok (c.fact 102 (f := .noat "Double" "_backs") rfl)
      · exact He.noat_ok (c.fact 103 (f := .noat "Double" "_turns") rfl)
  have cl_Group := He.cls_ok (c.fact 105 (f := .cls "Group") rfl)
  obtain ⟨ad_Group, ob_Group, ic_Group, ne_Group⟩ := He.obB_ok x1 cl_Group
  have CF_Group : ClsF K mg "Group" ["_rows", "_unit", "_backs", "_centre"] := by
    refine ⟨?_, ?_, ob_Group, ic_Group, ne_Group, fun f hf => ?_⟩
    · rw [ad_Group]; exact He.glo_ok X G (c.fact 104 (f := .glo "Group") rfl)
    · rw [ad_Group]; exact cl_Group
    · simp only [List.mem_cons, List.not_mem_nil, or_false] at hf
      rw [ad_Group]
      rcases hf with rfl | rfl | rfl | rfl
      · exact He.noat_ok (c.fact 107 (f := .noat "Group" "_rows") rfl)
      · exact He.noat_ok (c.fact 108 (f := .noat "Group" "_unit") rfl)
      · exact He.noat_ok (c.fact 109 (f := .noat "Group" "_backs") rfl)
      · exact He.noat_ok (c.fact 110 (f := .noat "Group" "_centre") rfl)
  have F_is_integer : Is K mg "is_integer" st_is_integer := by
    obtain ⟨fd, F⟩ := c.def_ 1 (d := Hd.dd_is_integer) rfl
    exact ⟨_, fd, F, He.glo_ok X G (c.fact 1 (f := .glo "is_integer") rfl)⟩
  have F_is_within : Is K mg "is_within" st_is_within := by
    obtain ⟨fd, F⟩ := c.def_ 2 (d := Hd.dd_is_within) rfl
    exact ⟨_, fd, F, He.glo_ok X G (c.fact 2 (f := .glo "is_within") rfl)⟩
  have F_is_thing : Is K mg "is_thing" st_is_thing := by
    obtain ⟨fd, F⟩ := c.def_ 3 (d := Hd.dd_is_thing) rfl
    exact ⟨_, fd, F, He.glo_ok X G (c.fact 3 (f := .glo "is_thing") rfl)⟩
  have F_is_row : Is K mg "is_row" st_is_row := by
    obtain ⟨fd, F⟩ := c.def_ 4 (d := Hd.dd_is_row) rfl
    exact ⟨_, fd, F, He.glo_ok X G (c.fact 4 (f := .glo "is_row") rfl)⟩
  have F_is_square : Is K mg "is_square" st_is_square := by
    obtain ⟨fd, F⟩ := c.def_ 5 (d := Hd.dd_is_square) rfl
    exact ⟨_, fd, F, He.glo_ok X G (c.fact 5 (f := .glo "is_square") rfl)⟩
  have F_is_same : Is K mg "is_same" st_is_same := by
    obtain ⟨fd, F⟩ := c.def_ 6 (d := Hd.dd_is_same) rfl
    exact ⟨_, fd, F, He.glo_ok X G (c.fact 6 (f := .glo "is_same") rfl)⟩
  have F_is_told : Is K mg "is_told" st_is_told := by
    obtain ⟨fd, F⟩ := c.def_ 7 (d := Hd.dd_is_told) rfl
    exact ⟨_, fd, F, He.glo_ok X G (c.fact 7 (f := .glo "is_told") rfl)⟩
  have F_check_within : Is K mg "check_within" st_check_within := by
    obtain ⟨fd, F⟩ := c.def_ 8 (d := Hd.dd_check_within) rfl
    exact ⟨_, fd, F, He.glo_ok X G (c.fact 8 (f := .glo "check_within") rfl)⟩
  have F_is_move : Is K mg "is_move" st_is_move := by
    obtain ⟨fd, F⟩ := c.def_ 10 (d := Hd.dd_is_move) rfl
    exact ⟨_, fd, F, He.glo_ok X G (c.fact 10 (f := .glo "is_move") rfl)⟩
  have F_is_move_of : Is K mg "is_move_of" st_is_move_of := by
    obtain ⟨fd, F⟩ := c.def_ 11 (d := Hd.dd_is_move_of) rfl
    exact ⟨_, fd, F, He.glo_ok X G (c.fact 11 (f := .glo "is_move_of") rfl)⟩
  have F_joined_moves : Is K mg "joined_moves" st_joined_moves := by
    obtain ⟨fd, F⟩ := c.def_ 12 (d := Hd.dd_joined_moves) rfl
    exact ⟨_, fd, F, He.glo_ok X G (c.fact 12 (f := .glo "joined_moves") rfl)⟩
  have F_unit_of : Is K mg "unit_of" st_unit_of := by
    obtain ⟨fd, F⟩ := c.def_ 13 (d := Hd.dd_unit_of) rfl
    exact ⟨_, fd, F, He.glo_ok X G (c.fact 13 (f := .glo "unit_of") rfl)⟩
  have F_back_of : Is K mg "back_of" st_back_of := by
    obtain ⟨fd, F⟩ := c.def_ 14 (d := Hd.dd_back_of) rfl
    exact ⟨_, fd, F, He.glo_ok X G (c.fact 14 (f := .glo "back_of") rfl)⟩
  have F_backs_of : Is K mg "backs_of" st_backs_of := by
    obtain ⟨fd, F⟩ := c.def_ 15 (d := Hd.dd_backs_of) rfl
    exact ⟨_, fd, F, He.glo_ok X G (c.fact 15 (f := .glo "backs_of") rfl)⟩
  have F_broken_three : Is K mg "broken_three" st_broken_three := by
    obtain ⟨fd, F⟩ := c.def_ 16 (d := Hd.dd_broken_three) rfl
    exact ⟨_, fd, F, He.glo_ok X G (c.fact 16 (f := .glo "broken_three") rfl)⟩
  have F_centre_of : Is K mg "centre_of" st_centre_of := by
    obtain ⟨fd, F⟩ := c.def_ 17 (d := Hd.dd_centre_of) rfl
    exact ⟨_, fd, F, He.glo_ok X G (c.fact 17 (f := .glo "centre_of") rfl)⟩
  have F_cyclic_rows : Is K mg "cyclic_rows" st_cyclic_rows := by
    obtain ⟨fd, F⟩ := c.def_ 18 (d := Hd.dd_cyclic_rows) rfl
    exact ⟨_, fd, F, He.glo_ok X G (c.fact 18 (f := .glo "cyclic_rows") rfl)⟩
  have F__check_rows : Is K mg "_check_rows" st__check_rows := by
    obtain ⟨fd, F⟩ := c.def_ 21 (d := Hd.dd__check_rows) rfl
    exact ⟨_, fd, F, He.glo_ok X G (c.fact 21 (f := .glo "_check_rows") rfl)⟩
  have F_check_group : Is K mg "check_group" st_check_group := by
    obtain ⟨fd, F⟩ := c.def_ 22 (d := Hd.dd_check_group) rfl
    exact ⟨_, fd, F, He.glo_ok X G (c.fact 22 (f := .glo "check_group") rfl)⟩
  have F__breaks_rule : Is K mg "_breaks_rule" st__breaks_rule := by
    obtain ⟨fd, F⟩ := c.def_ 26 (d := Hd.dd__breaks_rule) rfl
    exact ⟨_, fd, F, He.glo_ok X G (c.fact 26 (f := .glo "_breaks_rule") rfl)⟩
  have F_check_double : Is K mg "check_double" st_check_double := by
    obtain ⟨fd, F⟩ := c.def_ 28 (d := Hd.dd_check_double) rfl
    exact ⟨_, fd, F, He.glo_ok X G (c.fact 28 (f := .glo "check_double") rfl)⟩
  have F__law_dice : Is K mg "_law_dice" st__law_dice := by
    obtain ⟨fd, F⟩ := c.def_ 35 (d := Hd.dd__law_dice) rfl
    exact ⟨_, fd, F, He.glo_ok X G (c.fact 35 (f := .glo "_law_dice") rfl)⟩
  have F__law_roll : Is K mg "_law_roll" st__law_roll := by
    obtain ⟨fd, F⟩ := c.def_ 36 (d := Hd.dd__law_roll) rfl
    exact ⟨_, fd, F, He.glo_ok X G (c.fact 36 (f := .glo "_law_roll") rfl)⟩
  have F__law_pick : Is K mg "_law_pick" st__law_pick := by
    obtain ⟨fd, F⟩ := c.def_ 37 (d := Hd.dd__law_pick) rfl
    exact ⟨_, fd, F, He.glo_ok X G (c.fact 37 (f := .glo "_law_pick") rfl)⟩
  have F__law_mixed : Is K mg "_law_mixed" st__law_mixed := by
    obtain ⟨fd, F⟩ := c.def_ 38 (d := Hd.dd__law_mixed) rfl
    exact ⟨_, fd, F, He.glo_ok X G (c.fact 38 (f := .glo "_law_mixed") rfl)⟩
  have F__law_joined : Is K mg "_law_joined" st__law_joined := by
    obtain ⟨fd, F⟩ := c.def_ 39 (d := Hd.dd__law_joined) rfl
    exact ⟨_, fd, F, He.glo_ok X G (c.fact 39 (f := .glo "_law_joined") rfl)⟩
  have F__law_undone : Is K mg "_law_undone" st__law_undone := by
    obtain ⟨fd, F⟩ := c.def_ 40 (d := Hd.dd__law_undone) rfl
    exact ⟨_, fd, F, He.glo_ok X G (c.fact 40 (f := .glo "_law_undone") rfl)⟩
  have F__law_drawn_move : Is K mg "_law_drawn_move" st__law_drawn_move := by
    obtain ⟨fd, F⟩ := c.def_ 41 (d := Hd.dd__law_drawn_move) rfl
    exact ⟨_, fd, F, He.glo_ok X G (c.fact 41 (f := .glo "_law_drawn_move") rfl)⟩
  have F__law_places_of : Is K mg "_law_places_of" st__law_places_of := by
    obtain ⟨fd, F⟩ := c.def_ 42 (d := Hd.dd__law_places_of) rfl
    exact ⟨_, fd, F, He.glo_ok X G (c.fact 42 (f := .glo "_law_places_of") rfl)⟩
  have F__law_product_dots : Is K mg "_law_product_dots" st__law_product_dots := by
    obtain ⟨fd, F⟩ := c.def_ 43 (d := Hd.dd__law_product_dots) rfl
    exact ⟨_, fd, F, He.glo_ok X G (c.fact 43 (f := .glo "_law_product_dots") rfl)⟩
  have F__law_cyclic : Is K mg "_law_cyclic" st__law_cyclic := by
    obtain ⟨fd, F⟩ := c.def_ 44 (d := Hd.dd__law_cyclic) rfl
    exact ⟨_, fd, F, He.glo_ok X G (c.fact 44 (f := .glo "_law_cyclic") rfl)⟩
  have F__law_direct : Is K mg "_law_direct" st__law_direct := by
    obtain ⟨fd, F⟩ := c.def_ 45 (d := Hd.dd__law_direct) rfl
    exact ⟨_, fd, F, He.glo_ok X G (c.fact 45 (f := .glo "_law_direct") rfl)⟩
  have F__law_turned_pairs : Is K mg "_law_turned_pairs" st__law_turned_pairs := by
    obtain ⟨fd, F⟩ := c.def_ 46 (d := Hd.dd__law_turned_pairs) rfl
    exact ⟨_, fd, F, He.glo_ok X G (c.fact 46 (f := .glo "_law_turned_pairs") rfl)⟩
  have F__law_quaternion_rows : Is K mg "_law_quaternion_rows" st__law_quaternion_rows := by
    obtain ⟨fd, F⟩ := c.def_ 47 (d := Hd.dd__law_quaternion_rows) rfl
    exact ⟨_, fd, F, He.glo_ok X G (c.fact 47 (f := .glo "_law_quaternion_rows") rfl)⟩
  have F__law_renamed_group : Is K mg "_law_renamed_group" st__law_renamed_group := by
    obtain ⟨fd, F⟩ := c.def_ 48 (d := Hd.dd__law_renamed_group) rfl
    exact ⟨_, fd, F, He.glo_ok X G (c.fact 48 (f := .glo "_law_renamed_group") rfl)⟩
  have F__law_unit : Is K mg "_law_unit" st__law_unit := by
    obtain ⟨fd, F⟩ := c.def_ 49 (d := Hd.dd__law_unit) rfl
    exact ⟨_, fd, F, He.glo_ok X G (c.fact 49 (f := .glo "_law_unit") rfl)⟩
  have F__law_inverse : Is K mg "_law_inverse" st__law_inverse := by
    obtain ⟨fd, F⟩ := c.def_ 50 (d := Hd.dd__law_inverse) rfl
    exact ⟨_, fd, F, He.glo_ok X G (c.fact 50 (f := .glo "_law_inverse") rfl)⟩
  have F__law_circle : Is K mg "_law_circle" st__law_circle := by
    obtain ⟨fd, F⟩ := c.def_ 51 (d := Hd.dd__law_circle) rfl
    exact ⟨_, fd, F, He.glo_ok X G (c.fact 51 (f := .glo "_law_circle") rfl)⟩
  have F__law_double_product : Is K mg "_law_double_product" st__law_double_product := by
    obtain ⟨fd, F⟩ := c.def_ 52 (d := Hd.dd__law_double_product) rfl
    exact ⟨_, fd, F, He.glo_ok X G (c.fact 52 (f := .glo "_law_double_product") rfl)⟩
  have F__law_double_renamed : Is K mg "_law_double_renamed" st__law_double_renamed := by
    obtain ⟨fd, F⟩ := c.def_ 53 (d := Hd.dd__law_double_renamed) rfl
    exact ⟨_, fd, F, He.glo_ok X G (c.fact 53 (f := .glo "_law_double_renamed") rfl)⟩
  have F__law_plain_double : Is K mg "_law_plain_double" st__law_plain_double := by
    obtain ⟨fd, F⟩ := c.def_ 54 (d := Hd.dd__law_plain_double) rfl
    exact ⟨_, fd, F, He.glo_ok X G (c.fact 54 (f := .glo "_law_plain_double") rfl)⟩
  have F__law_about_double : Is K mg "_law_about_double" st__law_about_double := by
    obtain ⟨fd, F⟩ := c.def_ 55 (d := Hd.dd__law_about_double) rfl
    exact ⟨_, fd, F, He.glo_ok X G (c.fact 55 (f := .glo "_law_about_double") rfl)⟩
  have F__law_ring_double : Is K mg "_law_ring_double" st__law_ring_double := by
    obtain ⟨fd, F⟩ := c.def_ 56 (d := Hd.dd__law_ring_double) rfl
    exact ⟨_, fd, F, He.glo_ok X G (c.fact 56 (f := .glo "_law_ring_double") rfl)⟩
  have F__law_mirror_double : Is K mg "_law_mirror_double" st__law_mirror_double := by
    obtain ⟨fd, F⟩ := c.def_ 57 (d := Hd.dd__law_mirror_double) rfl
    exact ⟨_, fd, F, He.glo_ok X G (c.fact 57 (f := .glo "_law_mirror_double") rfl)⟩
  have F__law_small_double : Is K mg "_law_small_double" st__law_small_double := by
    obtain ⟨fd, F⟩ := c.def_ 58 (d := Hd.dd__law_small_double) rfl
    exact ⟨_, fd, F, He.glo_ok X G (c.fact 58 (f := .glo "_law_small_double") rfl)⟩
  have F__law_double : Is K mg "_law_double" st__law_double := by
    obtain ⟨fd, F⟩ := c.def_ 59 (d := Hd.dd__law_double) rfl
    exact ⟨_, fd, F, He.glo_ok X G (c.fact 59 (f := .glo "_law_double") rfl)⟩
  have F__law_idle : Is K mg "_law_idle" st__law_idle := by
    obtain ⟨fd, F⟩ := c.def_ 60 (d := Hd.dd__law_idle) rfl
    exact ⟨_, fd, F, He.glo_ok X G (c.fact 60 (f := .glo "_law_idle") rfl)⟩
  have F__law_circle_of : Is K mg "_law_circle_of" st__law_circle_of := by
    obtain ⟨fd, F⟩ := c.def_ 61 (d := Hd.dd__law_circle_of) rfl
    exact ⟨_, fd, F, He.glo_ok X G (c.fact 61 (f := .glo "_law_circle_of") rfl)⟩
  have F__law_keeps_double : Is K mg "_law_keeps_double" st__law_keeps_double := by
    obtain ⟨fd, F⟩ := c.def_ 62 (d := Hd.dd__law_keeps_double) rfl
    exact ⟨_, fd, F, He.glo_ok X G (c.fact 62 (f := .glo "_law_keeps_double") rfl)⟩
  have F__law_made_part : Is K mg "_law_made_part" st__law_made_part := by
    obtain ⟨fd, F⟩ := c.def_ 65 (d := Hd.dd__law_made_part) rfl
    exact ⟨_, fd, F, He.glo_ok X G (c.fact 65 (f := .glo "_law_made_part") rfl)⟩
  have F__law_goal_rows : Is K mg "_law_goal_rows" st__law_goal_rows := by
    obtain ⟨fd, F⟩ := c.def_ 66 (d := Hd.dd__law_goal_rows) rfl
    exact ⟨_, fd, F, He.glo_ok X G (c.fact 66 (f := .glo "_law_goal_rows") rfl)⟩
  have F__law_spread_goals : Is K mg "_law_spread_goals" st__law_spread_goals := by
    obtain ⟨fd, F⟩ := c.def_ 67 (d := Hd.dd__law_spread_goals) rfl
    exact ⟨_, fd, F, He.glo_ok X G (c.fact 67 (f := .glo "_law_spread_goals") rfl)⟩
  have F__law_says : Is K mg "_law_says" st__law_says := by
    obtain ⟨fd, F⟩ := c.def_ 68 (d := Hd.dd__law_says) rfl
    exact ⟨_, fd, F, He.glo_ok X G (c.fact 68 (f := .glo "_law_says") rfl)⟩
  have F__law_drawn_paper : Is K mg "_law_drawn_paper" st__law_drawn_paper := by
    obtain ⟨fd, F⟩ := c.def_ 69 (d := Hd.dd__law_drawn_paper) rfl
    exact ⟨_, fd, F, He.glo_ok X G (c.fact 69 (f := .glo "_law_drawn_paper") rfl)⟩
  have F_Group__rows : IsP K (adrOf K "Group") "rows" "Group.rows" st_Group__rows := by
    obtain ⟨fd, F⟩ := He.gfB_ok v0 x3
    rw [ad_Group]
    exact ⟨_, _, fd, F, He.prB_ok x2⟩
  have F_Group__unit : IsP K (adrOf K "Group") "unit" "Group.unit" st_Group__unit := by
    obtain ⟨fd, F⟩ := He.gfB_ok v1 x5
    rw [ad_Group]
    exact ⟨_, _, fd, F, He.prB_ok x4⟩
  have F_Group____len__ : IsM K (adrOf K "Group") "__len__" "Group.__len__" st_Group____len__ := by
    obtain ⟨fd, F⟩ := c.def_ 73 (d := Hd.dd_Group____len__) rfl
    rw [ad_Group]
    exact ⟨_, fd, F, He.meth_ok (c.fact 111 (f := .meth "Group" "__len__") rfl)⟩
  have F_Double__plus : IsP K (adrOf K "Double") "plus" "Double.plus" st_Double__plus := by
    obtain ⟨fd, F⟩ := He.gfB_ok v2 x7
    rw [ad_Double]
    exact ⟨_, _, fd, F, He.prB_ok x6⟩
  have F_Double__circle : IsP K (adrOf K "Double") "circle" "Double.circle" st_Double__circle := by
    obtain ⟨fd, F⟩ := He.gfB_ok v3 x9
    rw [ad_Double]
    exact ⟨_, _, fd, F, He.prB_ok x8⟩
  have F_Double____len__ : IsM K (adrOf K "Double") "__len__" "Double.__len__" st_Double____len__ := by
    obtain ⟨fd, F⟩ := c.def_ 75 (d := Hd.dd_Double____len__) rfl
    rw [ad_Double]
    exact ⟨_, fd, F, He.meth_ok (c.fact 112 (f := .meth "Double" "__len__") rfl)⟩
  have F_group_paper : Is K mg "group_paper" st_group_paper := by
    obtain ⟨fd, F⟩ := c.def_ 20 (d := Hd.dd_group_paper) rfl
    exact ⟨_, fd, F, He.glo_ok X G (c.fact 20 (f := .glo "group_paper") rfl)⟩
  have F__check_groups : Is K mg "_check_groups" st__check_groups := by
    obtain ⟨fd, F⟩ := c.def_ 24 (d := Hd.dd__check_groups) rfl
    exact ⟨_, fd, F, He.glo_ok X G (c.fact 24 (f := .glo "_check_groups") rfl)⟩
  have F__broken_rule : Is K mg "_broken_rule" st__broken_rule := by
    obtain ⟨fd, F⟩ := c.def_ 25 (d := Hd.dd__broken_rule) rfl
    exact ⟨_, fd, F, He.glo_ok X G (c.fact 25 (f := .glo "_broken_rule") rfl)⟩
  have F__check_acts : Is K mg "_check_acts" st__check_acts := by
    obtain ⟨fd, F⟩ := c.def_ 31 (d := Hd.dd__check_acts) rfl
    exact ⟨_, fd, F, He.glo_ok X G (c.fact 31 (f := .glo "_check_acts") rfl)⟩
  have F__breaks_likeness : Is K mg "_breaks_likeness" st__breaks_likeness := by
    obtain ⟨fd, F⟩ := c.def_ 33 (d := Hd.dd__breaks_likeness) rfl
    exact ⟨_, fd, F, He.glo_ok X G (c.fact 33 (f := .glo "_breaks_likeness") rfl)⟩
  have F__breaks_joined : Is K mg "_breaks_joined" st__breaks_joined := by
    obtain ⟨fd, F⟩ := c.def_ 34 (d := Hd.dd__breaks_joined) rfl
    exact ⟨_, fd, F, He.glo_ok X G (c.fact 34 (f := .glo "_breaks_joined") rfl)⟩
  have F__law_plus_makers : Is K mg "_law_plus_makers" st__law_plus_makers := by
    obtain ⟨fd, F⟩ := c.def_ 64 (d := Hd.dd__law_plus_makers) rfl
    exact ⟨_, fd, F, He.glo_ok X G (c.fact 64 (f := .glo "_law_plus_makers") rfl)⟩
  have F_Group____init__ : ∃ f fd, FunD K "__init__" "Group.__init__" (defArgs st_Group____init__) (defBody st_Group____init__) (defScope st_Group____init__) [] [] f fd ∧ L2.Mk K (adrOf K "Group") f := by
    obtain ⟨fd, F⟩ := c.def_ 72 (d := Hd.dd_Group____init__) rfl
    rw [ad_Group]
    exact ⟨_, fd, F, He.mkr_ok (c.fact 106 (f := .mkr "Group") rfl)⟩
  have F_Group__cyclic : IsCM K (adrOf K "Group") "cyclic" "Group.cyclic" st_Group__cyclic := by
    obtain ⟨fd, F⟩ := He.gfB_ok v4 x11
    rw [ad_Group]
    obtain ⟨m1, m2⟩ := He.cmB_ok x10
    exact ⟨_, _, fd, _, F, m1, m2⟩
  have F_double_paper : Is K mg "double_paper" st_double_paper := by
    obtain ⟨fd, F⟩ := c.def_ 23 (d := Hd.dd_double_paper) rfl
    exact ⟨_, fd, F, He.glo_ok X G (c.fact 23 (f := .glo "double_paper") rfl)⟩
  have F__broken_likeness : Is K mg "_broken_likeness" st__broken_likeness := by
    obtain ⟨fd, F⟩ := c.def_ 32 (d := Hd.dd__broken_likeness) rfl
    exact ⟨_, fd, F, He.glo_ok X G (c.fact 32 (f := .glo "_broken_likeness") rfl)⟩
  have F__law_likenesses_to : Is K mg "_law_likenesses_to" st__law_likenesses_to := by
    obtain ⟨fd, F⟩ := c.def_ 63 (d := Hd.dd__law_likenesses_to) rfl
    exact ⟨_, fd, F, He.glo_ok X G (c.fact 63 (f := .glo "_law_likenesses_to") rfl)⟩
  have F_Double____init__ : ∃ f fd, FunD K "__init__" "Double.__init__" (defArgs st_Double____init__) (defBody st_Double____init__) (defScope st_Double____init__) [] [] f fd ∧ L2.Mk K (adrOf K "Double") f := by
    obtain ⟨fd, F⟩ := c.def_ 74 (d := Hd.dd_Double____init__) rfl
    rw [ad_Double]
    exact ⟨_, fd, F, He.mkr_ok (c.fact 99 (f := .mkr "Double") rfl)⟩
  have F_Double__both : IsCM K (adrOf K "Double") "both" "Double.both" st_Double__both := by
    obtain ⟨fd, F⟩ := He.gfB_ok v5 x13
    rw [ad_Double]
    obtain ⟨m1, m2⟩ := He.cmB_ok x12
    exact ⟨_, _, fd, _, F, m1, m2⟩
  have F_join_paper : Is K mg "join_paper" st_join_paper := by
    obtain ⟨fd, F⟩ := c.def_ 29 (d := Hd.dd_join_paper) rfl
    exact ⟨_, fd, F, He.glo_ok X G (c.fact 29 (f := .glo "join_paper") rfl)⟩
  have F_is_join_paper : Is K mg "is_join_paper" st_is_join_paper := by
    obtain ⟨fd, F⟩ := c.def_ 30 (d := Hd.dd_is_join_paper) rfl
    exact ⟨_, fd, F, He.glo_ok X G (c.fact 30 (f := .glo "is_join_paper") rfl)⟩
  have F__law_right : Is K mg "_law_right" st__law_right := by
    obtain ⟨fd, F⟩ := c.def_ 70 (d := Hd.dd__law_right) rfl
    exact ⟨_, fd, F, He.glo_ok X G (c.fact 70 (f := .glo "_law_right") rfl)⟩
  have OT_Double : Oth K "Double" ["Group"] := fun n hn => by
    simp only [List.mem_cons, List.not_mem_nil, or_false] at hn
    rcases hn with rfl
    · rw [ad_Group, ad_Double]; exact of_decide_eq_true x14
  have B : Bl K mg := ⟨KTF, He.free_ok X G (c.fact 72 (f := .free "len") rfl), He.free_ok X G (c.fact 73 (f := .free "range") rfl), He.free_ok X G (c.fact 74 (f := .free "tuple") rfl), He.free_ok X G (c.fact 75 (f := .free "list") rfl), He.free_ok X G (c.fact 76 (f := .free "isinstance") rfl), He.free_ok X G (c.fact 77 (f := .free "int") rfl), He.free_ok X G (c.fact 78 (f := .free "bool") rfl), He.free_ok X G (c.fact 79 (f := .free "str") rfl), He.free_ok X G (c.fact 80 (f := .free "abs") rfl), He.free_ok X G (c.fact 81 (f := .free "max") rfl), He.free_ok X G (c.fact 82 (f := .free "min") rfl), He.free_ok X G (c.fact 83 (f := .free "all") rfl), He.free_ok X G (c.fact 84 (f := .free "any") rfl), He.free_ok X G (c.fact 85 (f := .free "sum") rfl), He.free_ok X G (c.fact 86 (f := .free "sorted") rfl), He.free_ok X G (c.fact 87 (f := .free "enumerate") rfl), He.free_ok X G (c.fact 88 (f := .free "repr") rfl), He.free_ok X G (c.fact 89 (f := .free "set") rfl), He.free_ok X G (c.fact 90 (f := .free "dict") rfl), He.free_ok X G (c.fact 91 (f := .free "zip") rfl), He.free_ok X G (c.fact 92 (f := .free "divmod") rfl)⟩
  obtain ⟨t_TOO_LONG, c_TOO_LONG⟩ := He.int_ok X G (c.fact 93 (f := .int "TOO_LONG" 1000000000000000000000000000000000000000000000000000000000000) rfl)
  obtain ⟨t_MAX_MOVED, c_MAX_MOVED⟩ := He.int_ok X G (c.fact 94 (f := .int "MAX_MOVED" 24) rfl)
  obtain ⟨t_MAX_GROUP, c_MAX_GROUP⟩ := He.int_ok X G (c.fact 95 (f := .int "MAX_GROUP" 24) rfl)
  obtain ⟨fd, F⟩ := c.def_ 71 (d := Hd.dd_law) rfl
  have e := hfa.symm.trans (He.glo_ok X G (c.fact 71 (f := .glo "law") rfl))
  cases e
  have b := FunD.bindsA (ps := ["_law_script"]) F fun _ _ _ _ _ _ us hl => match us, hl with | [_], _ => rfl
  refine ⟨fd, fun s v => b s [v] rfl, LMK, fun base _ _ => ?_⟩
  have O_is_integer : Ok P w K mg base "is_integer" P_is_integer 1 (spD K 1 S_is_integer) := ok_D F_is_integer sc_is_integer bs_is_integer (j_is_integer B c_TOO_LONG) v_is_integer
  have O_is_within : Ok P w K mg base "is_within" P_is_within 2 (spD K 3 S_is_within) := ok_D F_is_within sc_is_within bs_is_within (j_is_within O_is_integer) v_is_within
  have O_is_thing : Ok P w K mg base "is_thing" P_is_thing 2 (spD K 2 S_is_thing) := ok_D F_is_thing sc_is_thing bs_is_thing (j_is_thing O_is_integer) v_is_thing
  have O_is_row : Ok P w K mg base "is_row" P_is_row 1 (spD K 3 S_is_row) := ok_D F_is_row sc_is_row bs_is_row (j_is_row B) v_is_row
  have O_is_square : Ok P w K mg base "is_square" P_is_square 2 (spD K 3 S_is_square) := ok_D F_is_square sc_is_square bs_is_square (j_is_square B O_is_row) v_is_square
  have O_is_same0 : Ok P w K mg base "is_same" P_is_same 2 (spD K 2 S_is_same0) := ok_D F_is_same sc_is_same bs_is_same (j_is_same0 B O_is_integer) v_is_same0
  have O_is_same : Ok P w K mg base "is_same" P_is_same 3 (spD K 2 S_is_same) := ok_D F_is_same sc_is_same bs_is_same (j_is_same B O_is_integer O_is_same0) v_is_same
  have O_is_told : Ok P w K mg base "is_told" P_is_told 4 (spD K 4 S_is_told) := ok_D F_is_told sc_is_told bs_is_told (j_is_told B O_is_same O_is_row) v_is_told
  have O_check_within : Ok P w K mg base "check_within" P_check_within 3 (spD K 3 S_check_within) := ok_D F_check_within sc_check_within bs_check_within (j_check_within O_is_within) v_check_within
  have O_is_move : Ok P w K mg base "is_move" P_is_move 2 (spD K 1 S_is_move) := ok_D F_is_move sc_is_move bs_is_move (j_is_move B c_MAX_MOVED O_is_row) v_is_move
  have O_is_move_of : Ok P w K mg base "is_move_of" P_is_move_of 3 (spD K 2 S_is_move_of) := ok_D F_is_move_of sc_is_move_of bs_is_move_of (j_is_move_of B O_is_move) v_is_move_of
  have O_joined_moves : Ok P w K mg base "joined_moves" P_joined_moves 1 (spD K 2 S_joined_moves) := ok_D F_joined_moves sc_joined_moves bs_joined_moves (j_joined_moves B) v_joined_moves
  have O_unit_of : Ok P w K mg base "unit_of" P_unit_of 1 (spD K 1 S_unit_of) := ok_D F_unit_of sc_unit_of bs_unit_of (j_unit_of B) v_unit_of
  have O_back_of : Ok P w K mg base "back_of" P_back_of 1 (spD K 3 S_back_of) := ok_D F_back_of sc_back_of bs_back_of (j_back_of B) v_back_of
  have O_backs_of : Ok P w K mg base "backs_of" P_backs_of 2 (spD K 2 S_backs_of) := ok_D F_backs_of sc_backs_of bs_backs_of (j_backs_of B O_back_of) v_backs_of
  have O_broken_three : Ok P w K mg base "broken_three" P_broken_three 1 (spD K 1 S_broken_three) := ok_D F_broken_three sc_broken_three bs_broken_three (j_broken_three B) v_broken_three
  have O_centre_of : Ok P w K mg base "centre_of" P_centre_of 1 (spD K 1 S_centre_of) := ok_D F_centre_of sc_centre_of bs_centre_of (j_centre_of B) v_centre_of
  have O_cyclic_rows : Ok P w K mg base "cyclic_rows" P_cyclic_rows 1 (spD K 1 S_cyclic_rows) := ok_D F_cyclic_rows sc_cyclic_rows bs_cyclic_rows (j_cyclic_rows B) v_cyclic_rows
  have O__check_rows : Ok P w K mg base "_check_rows" P__check_rows 3 (spD K 1 S__check_rows) := ok_D F__check_rows sc__check_rows bs__check_rows (j__check_rows c_MAX_GROUP O_is_square) v__check_rows
  have O_check_group : Ok P w K mg base "check_group" P_check_group 1 (spD K 1 S_check_group) := ok_D F_check_group sc_check_group bs_check_group (j_check_group B CF_Group) v_check_group
  have O__breaks_rule : Ok P w K mg base "_breaks_rule" P__breaks_rule 1 (spD K 5 S__breaks_rule) := ok_D F__breaks_rule sc__breaks_rule bs__breaks_rule (j__breaks_rule) v__breaks_rule
  have O_check_double : Ok P w K mg base "check_double" P_check_double 1 (spD K 1 S_check_double) := ok_D F_check_double sc_check_double bs_check_double (j_check_double B CF_Double OT_Double) v_check_double
  have O__law_dice : Ok P w K mg base "_law_dice" P__law_dice 1 (spL K 2 S__law_dice) := ok_L F__law_dice sc__law_dice bs__law_dice (j__law_dice B) v__law_dice
  have O__law_roll : Ok P w K mg base "_law_roll" P__law_roll 1 (spM K 2 S__law_roll) := ok_M F__law_roll sc__law_roll bs__law_roll (j__law_roll B) v__law_roll
  have O__law_pick : Ok P w K mg base "_law_pick" P__law_pick 2 (spM K 2 S__law_pick) := ok_M F__law_pick sc__law_pick bs__law_pick (j__law_pick B O__law_roll) v__law_pick
  have O__law_mixed : Ok P w K mg base "_law_mixed" P__law_mixed 2 (spM K 2 S__law_mixed) := ok_M F__law_mixed sc__law_mixed bs__law_mixed (j__law_mixed B O__law_roll) v__law_mixed
  have O__law_joined : Ok P w K mg base "_law_joined" P__law_joined 1 (spD K 2 S__law_joined) := ok_D F__law_joined sc__law_joined bs__law_joined (j__law_joined B) v__law_joined
  have O__law_undone : Ok P w K mg base "_law_undone" P__law_undone 1 (spD K 1 S__law_undone) := ok_D F__law_undone sc__law_undone bs__law_undone (j__law_undone B) v__law_undone
  have O__law_drawn_move : Ok P w K mg base "_law_drawn_move" P__law_drawn_move 3 (spM K 2 S__law_drawn_move) := ok_M F__law_drawn_move sc__law_drawn_move bs__law_drawn_move (j__law_drawn_move B O__law_mixed) v__law_drawn_move
  have O__law_places_of : Ok P w K mg base "_law_places_of" P__law_places_of 1 (spD K 2 S__law_places_of) := ok_D F__law_places_of sc__law_places_of bs__law_places_of (j__law_places_of B) v__law_places_of
  have O__law_product_dots : Ok P w K mg base "_law_product_dots" P__law_product_dots 2 (spD K 2 S__law_product_dots) := ok_D F__law_product_dots sc__law_product_dots bs__law_product_dots (j__law_product_dots B O__law_places_of) v__law_product_dots
  have O__law_cyclic : Ok P w K mg base "_law_cyclic" P__law_cyclic 1 (spD K 1 S__law_cyclic) := ok_D F__law_cyclic sc__law_cyclic bs__law_cyclic (j__law_cyclic B) v__law_cyclic
  have O__law_direct : Ok P w K mg base "_law_direct" P__law_direct 3 (spD K 2 S__law_direct) := ok_D F__law_direct sc__law_direct bs__law_direct (j__law_direct B O__law_product_dots) v__law_direct
  have O__law_turned_pairs : Ok P w K mg base "_law_turned_pairs" P__law_turned_pairs 1 (spD K 1 S__law_turned_pairs) := ok_D F__law_turned_pairs sc__law_turned_pairs bs__law_turned_pairs (j__law_turned_pairs B) v__law_turned_pairs
  have O__law_quaternion_rows : Ok P w K mg base "_law_quaternion_rows" P__law_quaternion_rows 1 (spD K 0 S__law_quaternion_rows) := ok_D F__law_quaternion_rows sc__law_quaternion_rows bs__law_quaternion_rows (j__law_quaternion_rows B) v__law_quaternion_rows
  have O__law_renamed_group : Ok P w K mg base "_law_renamed_group" P__law_renamed_group 2 (spD K 2 S__law_renamed_group) := ok_D F__law_renamed_group sc__law_renamed_group bs__law_renamed_group (j__law_renamed_group B O__law_undone) v__law_renamed_group
  have O__law_unit : Ok P w K mg base "_law_unit" P__law_unit 1 (spD K 1 S__law_unit) := ok_D F__law_unit sc__law_unit bs__law_unit (j__law_unit B) v__law_unit
  have O__law_inverse : Ok P w K mg base "_law_inverse" P__law_inverse 2 (spD K 2 S__law_inverse) := ok_D F__law_inverse sc__law_inverse bs__law_inverse (j__law_inverse B O__law_unit) v__law_inverse
  have O__law_circle : Ok P w K mg base "_law_circle" P__law_circle 1 (spD K 2 S__law_circle) := ok_D F__law_circle sc__law_circle bs__law_circle (j__law_circle B) v__law_circle
  have O__law_double_product : Ok P w K mg base "_law_double_product" P__law_double_product 4 (spD K 2 S__law_double_product) := ok_D F__law_double_product sc__law_double_product bs__law_double_product (j__law_double_product O__law_product_dots O__law_direct) v__law_double_product
  have O__law_double_renamed : Ok P w K mg base "_law_double_renamed" P__law_double_renamed 3 (spD K 2 S__law_double_renamed) := ok_D F__law_double_renamed sc__law_double_renamed bs__law_double_renamed (j__law_double_renamed B O__law_undone O__law_renamed_group) v__law_double_renamed
  have O__law_plain_double : Ok P w K mg base "_law_plain_double" P__law_plain_double 1 (spD K 1 S__law_plain_double) := ok_D F__law_plain_double sc__law_plain_double bs__law_plain_double (j__law_plain_double B) v__law_plain_double
  have O__law_about_double : Ok P w K mg base "_law_about_double" P__law_about_double 3 (spD K 1 S__law_about_double) := ok_D F__law_about_double sc__law_about_double bs__law_about_double (j__law_about_double B O__law_inverse) v__law_about_double
  have O__law_ring_double : Ok P w K mg base "_law_ring_double" P__law_ring_double 2 (spD K 2 S__law_ring_double) := ok_D F__law_ring_double sc__law_ring_double bs__law_ring_double (j__law_ring_double B O__law_cyclic) v__law_ring_double
  have O__law_mirror_double : Ok P w K mg base "_law_mirror_double" P__law_mirror_double 4 (spD K 1 S__law_mirror_double) := ok_D F__law_mirror_double sc__law_mirror_double bs__law_mirror_double (j__law_mirror_double B O__law_direct O__law_cyclic) v__law_mirror_double
  have O__law_small_double : Ok P w K mg base "_law_small_double" P__law_small_double 5 (spM K 2 S__law_small_double) := ok_M F__law_small_double sc__law_small_double bs__law_small_double (j__law_small_double B O__law_plain_double O__law_cyclic O__law_mirror_double O__law_ring_double O__law_about_double O__law_turned_pairs O__law_quaternion_rows O__law_pick) v__law_small_double
  have O__law_double : Ok P w K mg base "_law_double" P__law_double 6 (spM K 2 S__law_double) := ok_M F__law_double sc__law_double bs__law_double (j__law_double B O__law_small_double O__law_roll O__law_double_product O__law_double_renamed O__law_drawn_move) v__law_double
  have O__law_idle : Ok P w K mg base "_law_idle" P__law_idle 1 (spD K 1 S__law_idle) := ok_D F__law_idle sc__law_idle bs__law_idle (j__law_idle B) v__law_idle
  have O__law_circle_of : Ok P w K mg base "_law_circle_of" P__law_circle_of 2 (spD K 1 S__law_circle_of) := ok_D F__law_circle_of sc__law_circle_of bs__law_circle_of (j__law_circle_of O__law_circle) v__law_circle_of
  have O__law_keeps_double : Ok P w K mg base "_law_keeps_double" P__law_keeps_double 3 (spD K 3 S__law_keeps_double) := ok_D F__law_keeps_double sc__law_keeps_double bs__law_keeps_double (j__law_keeps_double B O__law_circle_of) v__law_keeps_double
  have O__law_made_part : Ok P w K mg base "_law_made_part" P__law_made_part 2 (spL K 2 S__law_made_part) := ok_LO F__law_made_part sc__law_made_part bs__law_made_part (j__law_made_part O__law_unit) v__law_made_part
  have O__law_goal_rows : Ok P w K mg base "_law_goal_rows" P__law_goal_rows 1 (spD K 2 S__law_goal_rows) := ok_D F__law_goal_rows sc__law_goal_rows bs__law_goal_rows (j__law_goal_rows B) v__law_goal_rows
  have O__law_spread_goals : Ok P w K mg base "_law_spread_goals" P__law_spread_goals 2 (spD K 5 S__law_spread_goals) := ok_D F__law_spread_goals sc__law_spread_goals bs__law_spread_goals (j__law_spread_goals B O__law_unit) v__law_spread_goals
  have O__law_says : Ok P w K mg base "_law_says" P__law_says 3 (spD K 4 S__law_says) := ok_D F__law_says sc__law_says bs__law_says (j__law_says O__law_circle_of O__law_joined) v__law_says
  have O__law_drawn_paper : Ok P w K mg base "_law_drawn_paper" P__law_drawn_paper 3 (spM K 3 S__law_drawn_paper) := ok_M F__law_drawn_paper sc__law_drawn_paper bs__law_drawn_paper (j__law_drawn_paper B O__law_roll O__law_pick) v__law_drawn_paper
  have O_Group__rows : OkP P w K mg base (adrOf K "Group") "rows" 1 (spD K 1 S_Group__rows) := ok_pD F_Group__rows sc_Group__rows bs_Group__rows (j_Group__rows CF_Group) v_Group__rows
  have O_Group__unit : OkP P w K mg base (adrOf K "Group") "unit" 1 (spD K 1 S_Group__unit) := ok_pD F_Group__unit sc_Group__unit bs_Group__unit (j_Group__unit CF_Group) v_Group__unit
  have O_Group____len__ : OkM P w K mg base (adrOf K "Group") "__len__" P_Group____len__ 1 (spD K 1 S_Group____len__) := ok_mD F_Group____len__ sc_Group____len__ bs_Group____len__ (j_Group____len__ B CF_Group) v_Group____len__
  have O_Double__plus : OkP P w K mg base (adrOf K "Double") "plus" 1 (spD K 1 S_Double__plus) := ok_pD F_Double__plus sc_Double__plus bs_Double__plus (j_Double__plus CF_Double) v_Double__plus
  have O_Double__circle : OkP P w K mg base (adrOf K "Double") "circle" 1 (spD K 1 S_Double__circle) := ok_pD F_Double__circle sc_Double__circle bs_Double__circle (j_Double__circle CF_Double) v_Double__circle
  have O_Double____len__ : OkM P w K mg base (adrOf K "Double") "__len__" P_Double____len__ 1 (spD K 1 S_Double____len__) := ok_mD F_Double____len__ sc_Double____len__ bs_Double____len__ (j_Double____len__ B CF_Double) v_Double____len__
  have O_group_paper : Ok P w K mg base "group_paper" P_group_paper 4 (spD K 1 S_group_paper) := ok_D F_group_paper sc_group_paper bs_group_paper (j_group_paper B O__check_rows O_unit_of O_back_of O_broken_three) v_group_paper
  have O__check_groups : Ok P w K mg base "_check_groups" P__check_groups 4 (spD K 2 S__check_groups) := ok_D F__check_groups sc__check_groups bs__check_groups (j__check_groups B O_check_group O_Group____len__) v__check_groups
  have O__broken_rule : Ok P w K mg base "_broken_rule" P__broken_rule 2 (spD K 3 S__broken_rule) := ok_D F__broken_rule sc__broken_rule bs__broken_rule (j__broken_rule B O__breaks_rule) v__broken_rule
  have O__check_acts : Ok P w K mg base "_check_acts" P__check_acts 4 (spD K 3 S__check_acts) := ok_D F__check_acts sc__check_acts bs__check_acts (j__check_acts B O_check_double O_Double____len__ O_is_move_of) v__check_acts
  have O__breaks_likeness : Ok P w K mg base "_breaks_likeness" P__breaks_likeness 4 (spD K 4 S__breaks_likeness) := ok_D F__breaks_likeness sc__breaks_likeness bs__breaks_likeness (j__breaks_likeness CF_Double CF_Group O_Double__plus O_Group__rows O_Double__circle) v__breaks_likeness
  have O__breaks_joined : Ok P w K mg base "_breaks_joined" P__breaks_joined 4 (spD K 4 S__breaks_joined) := ok_D F__breaks_joined sc__breaks_joined bs__breaks_joined (j__breaks_joined CF_Double CF_Group O_joined_moves O_Double__circle O_Group__rows) v__breaks_joined
  have O__law_plus_makers : Ok P w K mg base "_law_plus_makers" P__law_plus_makers 3 (spD K 1 S__law_plus_makers) := ok_D F__law_plus_makers sc__law_plus_makers bs__law_plus_makers (j__law_plus_makers B O__law_unit O__law_made_part) v__law_plus_makers
  have O_Group____init__ : OkI P w K mg base "Group" P_Group____init__ 5 (spI K "Group" 2 S_Group____init__) := ok_I F_Group____init__ CF_Group.mg CF_Group.ob sc_Group____init__ bs_Group____init__ (j_Group____init__ CF_Group O_group_paper O_unit_of O_backs_of O_centre_of) v_Group____init__
  have O_Group__cyclic : OkC P w K mg base (adrOf K "Group") "cyclic" 8 (spD K 2 S_Group__cyclic) := ok_cD F_Group__cyclic sc_Group__cyclic bs_Group__cyclic (j_Group__cyclic c_MAX_GROUP O_check_within O_Group____init__ O_cyclic_rows) v_Group__cyclic
  have O_double_paper : Ok P w K mg base "double_paper" P_double_paper 5 (spD K 2 S_double_paper) := ok_D F_double_paper sc_double_paper bs_double_paper (j_double_paper B CF_Group O__check_groups O_backs_of O_Group__unit O_Group__rows O_Group____len__ O__broken_rule) v_double_paper
  have O__broken_likeness : Ok P w K mg base "_broken_likeness" P__broken_likeness 5 (spD K 2 S__broken_likeness) := ok_D F__broken_likeness sc__broken_likeness bs__broken_likeness (j__broken_likeness B O_Double____len__ O__breaks_likeness) v__broken_likeness
  have O__law_likenesses_to : Ok P w K mg base "_law_likenesses_to" P__law_likenesses_to 4 (spD K 2 S__law_likenesses_to) := ok_D F__law_likenesses_to sc__law_likenesses_to bs__law_likenesses_to (j__law_likenesses_to B O__law_plus_makers O__law_unit O__law_goal_rows O__law_spread_goals O__law_keeps_double) v__law_likenesses_to
  have O_Double____init__ : OkI P w K mg base "Double" P_Double____init__ 6 (spI K "Double" 3 S_Double____init__) := ok_I F_Double____init__ CF_Double.mg CF_Double.ob sc_Double____init__ bs_Double____init__ (j_Double____init__ B CF_Group CF_Double O_double_paper O_backs_of O_Group__unit O_Group__rows) v_Double____init__
  have O_Double__both : OkC P w K mg base (adrOf K "Double") "both" 9 (spD K 2 S_Double__both) := ok_cD F_Double__both sc_Double__both bs_Double__both (j_Double__both O_Double____init__) v_Double__both
  have O_join_paper : Ok P w K mg base "join_paper" P_join_paper 6 (spD K 3 S_join_paper) := ok_D F_join_paper sc_join_paper bs_join_paper (j_join_paper B O__check_acts O__broken_likeness O_Double____len__ O__breaks_joined) v_join_paper
  have O_is_join_paper : Ok P w K mg base "is_join_paper" P_is_join_paper 7 (spD K 4 S_is_join_paper) := ok_D F_is_join_paper sc_is_join_paper bs_is_join_paper (j_is_join_paper B O__check_acts O_is_same O_is_thing O_Double____len__ O_is_row O__breaks_likeness O_is_told O__breaks_joined O_join_paper) v_is_join_paper
  have O__law_right : Ok P w K mg base "_law_right" P__law_right 9 (spM K 1 S__law_right) := ok_M F__law_right sc__law_right bs__law_right (j__law_right B O__law_double O__law_likenesses_to O__law_idle O__law_drawn_move O__law_pick O__law_roll O_Double____init__ O_Group____init__ O__law_circle_of O__law_says O_is_join_paper O__law_keeps_double O__law_drawn_paper) v__law_right
  exact fn_D F sc_law (fun cdv A outer s H E hr => j_law B CF_Group CF_Double O__law_dice O__law_right O_Double__both O_Group__cyclic O_is_join_paper _ cdv A outer s H E hr) v_law
end Dn.T.G.B.K37.K84
open PySem PySem.W PySem.Calls PyProof.Rows
theorem PySem.Challenge.cw_truenames_k84_papers_about_acts_judged_holds : PySem.Challenge.rw_truenames_k84_papers_about_acts_judged.Holds := by
  w_on; o_law
  refine HandSHeadRun.head_any (r := OpenLaw.row PySem.Challenge.rw_truenames_k84_papers_about_acts_judged) (q := view (OpenLaw.row PySem.Challenge.rw_truenames_k84_papers_about_acts_judged).prog [92]) (H := Hd.hk) (ob := Hd.ob) (M := 10000) (loose := Hd.loose) (d := HandSHeadRun.topDef (OpenLaw.row PySem.Challenge.rw_truenames_k84_papers_about_acts_judged).prog 92) (kwd := []) Hd.ob_eq
    (by kernel_rfl) (fun s => by kernel_rfl) Hd.run (by kernel_rfl) (by kernel_rfl) (by kernel_rfl) (by rfl) (by first | assumption | decide +kernel) (by decide +kernel) ⟨rfl, rfl, rfl, rfl, rfl, by decide +kernel⟩ ?hw ?hc
  case hw => w_witness2
  case hc =>
    refine L2.walk_ofE (l := PySem.Challenge.rw_truenames_k84_papers_about_acts_judged) (n := 63) (k := 12) (x := "_law_script") (CX := L2.CX0) rfl (by decide) (by kernel_rfl) ⟨rfl, by decide, by decide⟩ ?F (fun _ _ _ _ z => z)
    intro w mg fa h Y G hmg0
    obtain ⟨K, KX, c⟩ := Y
    have hmg : mg ("law" : PySem.Str) = some (.ref fa) := by
      have e : (HandSHeadRun.topDef (OpenLaw.row PySem.Challenge.rw_truenames_k84_papers_about_acts_judged).prog 92).name = ("law" : PySem.Str) := by kernel_rfl
      rw [← e]
      exact hmg0
    obtain ⟨fd, hb, ht, hF⟩ := Dn.T.G.B.K37.K84.facts (P := (PySem.Challenge.rw_truenames_k84_papers_about_acts_judged).prog) (w := w) KX G hmg c
    refine ⟨K, fd, Dn.spD K 1 Dn.T.G.B.K37.K84.S_law, KX, hb, fun H a ns hl _ hS => ?_, hF⟩
    exact Dn.T.G.B.K37.K84.start_law hl hS (ht H)
