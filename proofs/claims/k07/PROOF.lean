import PyProof.Rows.All
import Wide.All
import OpenK.AllK
import Wide.FinOn
import KE.KStateDown
import HandS.Base
import HandS.Call
import HandS.Ends
import HandS.More
import HandS.Words
import HandS.WordsExc
import HandS.Defaults
import HandS.Head0
import HandS.Head1
import HandS.Head2
import HandS.HeadEnd
import HandS.HeadHook1
import HandS.HeadHook2
import HandS.Head3
import HandS.Exc
import HandS.ExcSuper
import HandS.ExcInit
import HandS.ExcField
import KE.KExcSuper
import KE.KExcInit
import KE.RegKSuper
import HandS.Evl
import HandS.Property
import HandS.ForMost
import HandS.IsInst
import HandS.Deep
import HandS.DeepEq
import HandS.TupAny
import HandS.Conv
import HandS.Style
import HandS.Wide
import KE.GoesEnum
import HandS.ClsMeth
import OpenK.KDescr
import HandS.Lambda
import HandS.TupMul
import HandS.SortInts
import HandS.Dict
import HandS.SetFor
import KE.KMathGC
import HandS.TupSets
import HandS.DictComp
import HandS.Gcd
import HandS.TryOnly
import HandS.DictTup
import KE.KDictSum
import HandS.ExcValue
import HandS.ExcOwn
import KE.KDictPairs
import HandS.SlotsOwn
import HandS.FStr
import KE.KCallOwn
import PyProof.InstNe
import PyProof.TupleOfSeq
import KE.DataFind
import HandS.Strs
import HandS.WideBits
import KE.KOpsOwn
import HandS.TryMany
import HandS.EndTab
import HandS.HeadWalk
import HandS.Walk
import HandS.TupLen
import KE.KTupSum
import PyProof.StrOps2
import HandS.Zip
import KE.DatumOrd
import PySem.Challenge.RW_truenames_k07_whole_parts_and_quotients
namespace ClT
end ClT
namespace Cq
end Cq
namespace Dn
end Dn
namespace Dn.B3
end Dn.B3
namespace Dn.T
end Dn.T
namespace Dn.T.G
end Dn.T.G
namespace Dn.T.G.K07
end Dn.T.G.K07
namespace FnT
end FnT
namespace Hd
end Hd
namespace He
end He
namespace L2
end L2
namespace OwnNe
end OwnNe
namespace PySem
end PySem
namespace SrL
end SrL
namespace XiX
end XiX
set_option Elab.async false
set_option linter.all false
set_option maxRecDepth 100000
set_option autoImplicit false
set_option maxHeartbeats 2000000
namespace He
open PySem PySem.Spec PyProof.Rows L2
def bfB (K : PySem.W.Frag) (q : Str × String) : Bool := match PySem.W.nsIn K mainGlobals q.1 with
  | some (some (.builtin n)) => decide (n = q.2)
  | _ => false
def obsB (bf : List (Str × String)) (fa : List Fa) (fn : List DefD) (K : PySem.W.Frag) : AlD := (bf.all (bfB K) && (obsD fa fn K).1, (obsD fa fn K).2)
def SaysB (bf : List (Str × String)) (fa : List Fa) (fn : List DefD) (K : PySem.W.Frag) : Prop := obsB bf fa fn K = valD fn
theorem SaysB.d {bf : List (Str × String)} {fa : List Fa} {fn : List DefD} {K : PySem.W.Frag} (c : SaysB bf fa fn K) : SaysD fa fn K := by
  have h1 := (ba (show (bf.all (bfB K) && (obsD fa fn K).1) = true from congrArg (fun z : AlD => z.1) c)).2
  have h0 : (obsB bf fa fn K).2 = (valD fn).2 := by
    rw [show obsB bf fa fn K = valD fn from c]
  have h2 : (obsD fa fn K).2 = (valD fn).2 := h0
  exact Prod.ext h1 h2
theorem SaysB.bf {bf : List (Str × String)} {fa : List Fa} {fn : List DefD} {K : PySem.W.Frag} (c : SaysB bf fa fn K) {h : Heap} {mg : Str → Option Value} (X : K.In h) (G : h.Ns mainGlobals mg) (i : Nat) {q : Str × String} (hi : bf[i]? = some q := by rfl) : mg q.1 = some (.builtin q.2) := by
  have h1 := (ba (show (bf.all (bfB K) && (obsD fa fn K).1) = true from congrArg (fun z : AlD => z.1) c)).1
  have h2 := List.all_eq_true.mp h1 q (List.mem_of_getElem? hi)
  unfold bfB at h2
  cases e : PySem.W.nsIn K mainGlobals q.1 with
  | none =>
    rw [e] at h2
    cases h2
  | some o =>
    rw [e] at h2
    cases o with
    | none => cases h2
    | some v =>
      cases v with
      | builtin n =>
        have e2 : n = q.2 := of_decide_eq_true h2
        subst e2
        exact PySem.W.mg_of X G e
      | _ => cases h2
end He
set_option Elab.async false
set_option linter.all false
set_option maxRecDepth 100000
set_option autoImplicit false
set_option maxHeartbeats 2000000
namespace He
open PySem PySem.Spec PyProof.Rows L2 PySem.W
abbrev FnB : Type := Option (Str × Str × Arguments × FuncBody × Scope × Addr × Addr)
def fnB (K : Frag) (a : Addr) : FnB := match List.lookup a K with
  | some ⟨_, _, .func fd, _⟩ => some (fd.name, fd.qualname, fd.params, fd.body, fd.scope, fd.globals, fd.builtins)
  | _ => none
def prA (K : Frag) (C : Addr) (f : Str) : Addr := match findIn K (.ref C) f with
  | some (some (.ref p)) => p
  | _ => 0
def gtA (K : Frag) (C : Addr) (f : Str) : Addr := match recIn K (prA K C f) "property" with
  | some (.ref g :: _) => g
  | _ => 0
def prB (K : Frag) (C : Addr) (f : Str) : Bool := eqO (findIn K (.ref C) f) (some (some (.ref (prA K C f)))) && (eqO (specialIn K (.ref (prA K C f)) "__get__") (some (some (.builtin "property.__get__"))) && (decide (takesIn K (.ref (prA K C f)) = some true) && (match recIn K (prA K C f) "property" with
  | some (.ref _ :: _) => true
  | _ => false)))
theorem prB_ok {K : Frag} {C : Addr} {f : Str} (h : prB K C f = true) : PropOf K C f (prA K C f) (gtA K C f) := by
  unfold prB at h
  simp only [Bool.and_eq_true, decide_eq_true_eq] at h
  obtain ⟨h1, h2, h3, h4⟩ := h
  refine ⟨eqO_ok h1, eqO_ok h2, h3, ?_⟩
  unfold gtA
  split at h4
  · rename_i g r e
    rw [e]
    exact ⟨r, rfl⟩
  · cases h4
def obsX (bf : List (Str × String)) (fa : List Fa) (fn : List DefD) (xb : Frag → Bool) (xf : Frag → List FnB) (K : Frag) : AlD × List FnB := ((xb K && (obsB bf fa fn K).1, (obsB bf fa fn K).2), xf K)
def SaysX (bf : List (Str × String)) (fa : List Fa) (fn : List DefD) (xb : Frag → Bool) (xf : Frag → List FnB) (vals : List FnB) (K : Frag) : Prop := obsX bf fa fn xb xf K = (valD fn, vals)
section
variable {bf : List (Str × String)} {fa : List Fa} {fn : List DefD} {xb : Frag → Bool} {xf : Frag → List FnB} {vals : List FnB} {K : Frag}
theorem SaysX.x (c : SaysX bf fa fn xb xf vals K) : xb K = true := (ba (show (xb K && (obsB bf fa fn K).1) = true from congrArg (fun z : AlD × List FnB => z.1.1) c)).1
theorem SaysX.b (c : SaysX bf fa fn xb xf vals K) : SaysB bf fa fn K := by
  have h1 := (ba (show (xb K && (obsB bf fa fn K).1) = true from congrArg (fun z : AlD × List FnB => z.1.1) c)).2
  have h2 : (obsB bf fa fn K).2 = (valD fn).2 := congrArg (fun z : AlD × List FnB => z.1.2) c
  exact Prod.ext h1 h2
theorem SaysX.f (c : SaysX bf fa fn xb xf vals K) : xf K = vals := congrArg (fun z : AlD × List FnB => z.2) c
end
def dN : Value → Bool
  | .none => true
  | _ => false
def gfB (K : Frag) (a : Addr) : Bool := match List.lookup a K with
  | some ⟨_, _, .func fd, _⟩ => fd.closure.isEmpty && (codeIn K fd.code fd.qualname && (dN fd.defaults && keepIn K (.ref a)))
  | _ => false
theorem gfB_ok {K : Frag} {a : Addr} {name qual : Str} {params : Arguments} {body : List Stmt} {scope : Scope} (e : fnB K a = some (name, qual, params, .stmts body, scope, mainGlobals, builtinsNs)) (c : gfB K a = true) : ∃ fd, FunD K name qual params body scope [] [] a fd := by
  unfold fnB at e
  unfold gfB at c
  split at e
  · rename_i oc od fd osl hl
    rw [hl] at c
    dsimp only at c
    obtain ⟨nm, ql, prm, bd, scp, gl, clo, dv, kv, doc, pm, an, cdv, ct, bl⟩ := fd
    simp only [Option.some.injEq, Prod.mk.injEq] at e
    obtain ⟨rfl, rfl, rfl, rfl, rfl, rfl, rfl⟩ := e
    dsimp only at c
    simp only [Bool.and_eq_true, List.isEmpty_iff] at c
    obtain ⟨c1, c2, c3, c4⟩ := c
    subst c1
    have hd : dv = .none := by
      unfold dN at c3
      split at c3
      · rfl
      · cases c3
    subst hd
    exact ⟨_, ⟨oc, od, .none, kv, doc, pm, an, cdv, ct, osl, rfl, hl, c2, .inl ⟨rfl, rfl⟩, .inl rfl⟩, c4⟩
  · cases e
end He
set_option Elab.async false
set_option linter.all false
set_option maxRecDepth 100000
set_option autoImplicit false
set_option maxHeartbeats 4000000
namespace ClT
open PySem PySem.W PySem.Calls PyProof.Rows Builtin Builtin.ObjectAttr Builtin.Getset_descriptor
section
variable {prog : Program} {w : World} {A : Around} {s : Shared} {K : Frag} {C : Addr} {R : Result → Shared → Prop} {E : Value → Shared → Prop}
theorem type_obj : isSubtype (.type "type") (.type "object") = pure true := by rw [isSubtype_type]; kernel_rfl
theorem cls_get {tp : Value} (X : K.In s.heap) (ht : typeIn K (.ref C) = some (.type "type"))
    (h : R (.ok (.ret (.type "type"))) s) : codeAny (model prog w) A (.call (.builtin "getset_descriptor.__get__") ⟨[.builtin "object.__class__", .ref C, tp], []⟩) R s := by
  obtain ⟨hh, g, dr, t, os⟩ := s
  have L0 := looks_typeIn (M := model prog w) X ht
  have L1 : Looks (model prog w) hh (isSubtype (.type "type") (.type "object")) true := Looks.of_pure type_obj
  refine codeAny_call_builtin KF.slot_gs.plain KF.entry_gs (KF.slot_gs.check _ _ _ _ _ _ _ _ KF.type_class (KF.args_gs _ _ _) ?_)
  unfold Builtin.«getset_descriptor.__get__» descrGet
  rw [dga_obj]
  refine wpAny_bind (wpAny_pure ?_)
  unfold descrGetter descrCheckInstance descrNameAndClass isInstance
  simp only [KF.owner_class]
  repeat lk
  refine ⟨Code.quiet_builtin _ (by decide +kernel), codeAny_builtin KF.entry_class ?_⟩
  unfold Builtin.«object.__class__» shownTypeOf
  repeat lk
  exact h
theorem find_class : findIn K (.type "type") "__class__" = some (some (.builtin "object.__class__")) := by kernel_rfl
theorem sp_class : specialIn K (.builtin "object.__class__") "__get__" = some (some (.builtin "getset_descriptor.__get__")) := by kernel_rfl
theorem tk_class : takesIn K (.builtin "object.__class__") = some true := by kernel_rfl
theorem find_ga : findIn K (.type "type") "__getattribute__" = some (some (.builtin "type.__getattribute__")) := by kernel_rfl
theorem findCls_class : findCls K (.ref C) (.type "type") "__class__" = some (.get (.builtin "getset_descriptor.__get__") (.builtin "object.__class__") (.ref C) (.type "type")) := by
  unfold findCls
  rw [find_class, Option.bind_some]
  dsimp only
  rw [sp_class, Option.bind_some]
  dsimp only
  rw [tk_class, Option.bind_some]
theorem cls_openQ {r : CFound} {name : Str} {Q : Option Value → Shared → Prop} (X : K.In s.heap) (ht : typeIn K (.ref C) = some (.type "type")) (ho : nsIn K cStatics "thirdparty.any" = some none) (e : findCls K (.ref C) (.type "type") name = some r)
    (h : wpAny (model prog w) A.in1 r.run (fun fin s' => match fin with | .done (.ret v) => wpAny (model prog w) A (handedOut v) (fun v s'' => Q (some v) s'') (fun _ _ => False) s' | _ => False) (fun _ _ => False) { s with toks := s.toks + 1 }) :
    wpAny (model prog w) A (getAttr? (.ref C) name) Q E s := by
  have lt := looks_typeIn (M := model prog w) X ht
  unfold getAttr? getAttrBy? getAttrBy
  refine wpAny_bind (wpAny_mkText (wpAny_bind (wpAny_attempt (wpAny_holding (wpAny_bind (lt _ _ _ _ (fun _ _ e => e) (wpAny_bind (looks_findIn X find_ga _ _ _ _ (fun _ _ e => e) ?_))))))))
  dsimp only
  rw [show (onTheHeap (.type "type") && Value.builtin "type.__getattribute__" == Value.builtin "object.__getattribute__") = false from by decide +kernel, if_neg (by decide)]
  have hb : Looks (model prog w) s.heap (hookBefore (.type "type")) none := looks_hook X (by rfl)
  refine wpAny_bind (hb _ _ _ _ (fun _ _ e => e) (wpAny_bind (wpAny_attempt (wpAny_holding ?_))))
  unfold callGetattribute
  rw [show (false && onTheHeap (Value.builtin "type.__getattribute__")) = false from rfl, if_neg (by decide)]
  unfold boundAndCalled
  rw [KF.slot_tga.bind]
  refine wpAny_bind (wpAny_pure ?_)
  show wpAny _ _ (call (.builtin "type.__getattribute__") [.ref C, .str name s.toks]) _ _ _
  refine wpAny_call ?_
  refine codeAny_call_builtin KF.slot_tga.plain KF.entry_tga ?_
  refine @check_slot (model prog w) _ _ { s with toks := s.toks + 1 } "type.__getattribute__" "type" "__getattribute__" (.ref C) [.str name s.toks] [] _ (by decide +kernel) (by decide +kernel) (lt.andThen (Looks.of_pure (by rw [isSubtype_type]; kernel_rfl))) (KF.args_tga (.ref C) (.str name s.toks)) ?_
  refine tga_run (s := { s with toks := s.toks + 1 }) X (looks_opaque X ho) lt e (wpAny_mono h (fun fin s' z => ?_) fun _ _ z => z.elim)
  rcases fin with (_ | _ | _ | _) | _ <;> first | exact wpAny_mono z (fun v s'' hv => wpAny_pure hv) (fun _ _ z => z.elim) | exact z.elim
theorem cls_class {Q : Option Value → Shared → Prop} (X : K.In s.heap) (ht : typeIn K (.ref C) = some (.type "type")) (ho : nsIn K cStatics "thirdparty.any" = some none) (h : Q (some (.type "type")) { s with toks := s.toks + 1 }) : wpAny (model prog w) A (getAttr? (.ref C) "__class__") Q E s := by
  refine cls_openQ X ht ho findCls_class ?_
  refine wpAny_bind (wpAny_holding (wpAny_mono (wpAny_call (cls_get (s := { s with toks := s.toks + 1 }) X ht ?_)) (fun _ _ z => wpAny_pure z) fun _ _ z => z))
  exact handed_on rfl h
theorem kitx_cls (ht : typeIn K (.ref C) = some (.type "type")) (ho : nsIn K cStatics "thirdparty.any" = some none) : KitX K (.ref C) (.type "type") (fun _ => True) where
  ty := fun _ _ X _ => looks_typeIn X ht
  it := fun _ _ _ _ => Looks.of_pure rfl
  ne := fun _ _ _ _ _ _ _ _ => rfl
  ca := fun X _ k => cls_class X ht ho k
end
end ClT
set_option Elab.async false
set_option linter.all false
set_option maxRecDepth 100000
set_option autoImplicit false
set_option maxHeartbeats 4000000
namespace Dn
open PySem L2 Evl PySem.Spec PyProof.Rows
def TbO : HO → Prop
  | .tbl _ => True
  | _ => False
structure Exw (H H' : Hp) : Prop where
  k : ∀ a o, H a = some o → (nt : ¬ TbO o := by first | assumption | exact id) → H' a = some o
  d : ∀ a, H a ≠ none → H' a ≠ none
theorem Exw.refl (H : Hp) : Exw H H := ⟨fun _ _ h _ => h, fun _ h => h⟩
theorem Exw.trans {H H1 H2 : Hp} (a : Exw H H1) (b : Exw H1 H2) : Exw H H2 := ⟨fun x o h nt => b.k x o (a.k x o h nt) nt, fun x h => b.d x (a.d x h)⟩
theorem Exw.of {H H' : Hp} (e : Ex H H') : Exw H H' := ⟨fun a o h _ => e a o h, fun a h => by
  cases q : H a with
  | none => exact absurd q h
  | some o => rw [e a o q]; simp⟩
instance {H H' : Hp} : Coe (Ex H H') (Exw H H') := ⟨Exw.of⟩
theorem Exw.rd {H H' : Hp} {a : Addr} {u : HO} (e : Exw H H') (h : Rd H a u) (nt : ¬ TbO u := by first | assumption | exact id) : Rd H' a u := by
  rcases h with h | ⟨o, h⟩
  · exact Or.inl (e.k a _ h nt)
  · exact Or.inr ⟨o, e.k a _ h id⟩
theorem Exw.l {K : PySem.W.Frag} {H H' : Hp} {a : Addr} {xs : List V} (e : Exw H H') (h : SqL K H a xs) : SqL K H' a xs := by
  rcases h with h | h
  · exact Or.inl (e.rd h)
  · exact Or.inr h
theorem Exw.t {K : PySem.W.Frag} {H H' : Hp} {a : Addr} {xs : List V} (e : Exw H H') (h : SqT K H a xs) : SqT K H' a xs := by
  rcases h with h | h
  · exact Or.inl (e.rd h)
  · exact Or.inr h
def lamK (K : PySem.W.Frag) : PySem.W.Frag := match K with
  | [] => []
  | p :: r => (r.dropWhile fun q => q.1 != p.1).drop 1
def tabOf (o : Obj) : Option (Addr × Str) := match o.data with
  | .fields vs => (match (vs[11]? : Option Value), (vs[1]? : Option Value) with
    | some (Value.ref P), some (Value.str q _) => some (P, q ++ ".<locals>." ++ "<lambda>")
    | _, _ => none)
  | _ => none
def tabsK (K : PySem.W.Frag) : List (Addr × Str) := (lamK K).filterMap fun p => tabOf p.2
def TbOk (K : PySem.W.Frag) (H : Hp) : Prop := LamX.Tabs (tabsK K) H
theorem TbOk.ext {K : PySem.W.Frag} {H H' : Hp} (t : TbOk K H) (e : Ex H H') : TbOk K H' := LamX.Tabs.ext t e
def DcO (a : Addr) (o : Obj) : Heap → Prop := fun h => h.get? a = some o
def DictX (φ : Heap → Prop) : Prop := ∃ (a : Addr) (o : Obj) (es : Array DictEntry) (ep : Nat), o.data = .dict es ep ∧ φ = DcO a o
def khp (a : Addr) (o : Obj) : Heap := { objs := Array.replicate (a + 1) o }
theorem khp_at {a b : Addr} {o u : Obj} (h : (khp a o).get? b = some u) : u = o := by
  unfold Heap.get? khp at h
  split at h
  · cases h
  · rename_i z
    rw [h] at z
    rw [Array.getElem?_replicate] at h
    split at h
    · exact (Option.some.inj h).symm
    · cases h
theorem khp_get {a b : Addr} {o : Obj} (l : b ≤ a) (n : ∀ (c : _) (d : _) (e : _), o ≠ ⟨c, d, .freed, e⟩) : (khp a o).get? b = some o := by
  have e : (khp a o).objs[b]? = some o := by
    show (Array.replicate (a + 1) o)[b]? = some o
    rw [Array.getElem?_replicate, if_pos (Nat.lt_succ_of_le l)]
  unfold Heap.get?
  rw [e]
  split
  · rename_i z
    exact absurd (Option.some.inj z) (n _ _ _)
  · rfl
theorem get_nf {h : Heap} {p : Addr} {o : Obj} (e : h.get? p = some o) : ∀ (c : _) (d : _) (f : _), o ≠ ⟨c, d, .freed, f⟩ := fun c d f z => by
  subst z
  unfold Heap.get? at e
  split at e
  · cases e
  · rename_i z
    exact z _ _ _ e
theorem dict_nf {o : Obj} {es : Array DictEntry} {ep : Nat} (e : o.data = .dict es ep) : ∀ (c : _) (d : _) (f : _), o ≠ ⟨c, d, .freed, f⟩ := fun c d f z => by
  subst z
  cases e
theorem dco_at {P : Program} {w : World} {H : Hp} {h : Heap} {p a : Addr} {o : Obj} (x : ObjOk P w H h p (.ext (DcO a o))) : h.get? p = some o := by
  obtain ⟨e, ⟨op, eo⟩, st⟩ := x
  have nf := get_nf eo
  have h2 := st h (khp (max a p) op) e fun o' q => by
    rw [eo] at q; cases q
    exact khp_get (Nat.le_max_right _ _) nf
  have h3 : (khp (max a p) op).get? a = some o := h2
  rw [khp_get (Nat.le_max_left _ _) nf] at h3
  rw [eo, h3]
theorem dco_ok {P : Program} {w : World} {H : Hp} {h : Heap} {p : Addr} {o : Obj} (e : h.get? p = some o) : ObjOk P w H h p (.ext (DcO p o)) := ⟨e, ⟨o, e⟩, fun _ _ q k => k _ q⟩
theorem code_nd {c : Addr} {q : Str} : ¬ DictX (fun h => ∃ (oc : Obj) (vs : Array Value) (t : Tok), h.get? c = some oc ∧ oc.data = .fields vs ∧ vs[1]? = some (.str q t)) := fun ⟨a, o, es, ep, hd, e⟩ => by
  have g : (khp a o).get? a = some o := khp_get (Nat.le_refl _) (dict_nf hd)
  have e2 := congrFun e (khp a o)
  have : ∃ (oc : Obj) (vs : Array Value) (t : Tok), (khp a o).get? c = some oc ∧ oc.data = .fields vs ∧ vs[1]? = some (.str q t) := by
    rw [e2]
    exact g
  obtain ⟨oc, vs, t, h1, h2, _⟩ := this
  rw [khp_at h1, hd] at h2
  cases h2
def TbX : HO → Prop
  | .tbl _ => True
  | .ext φ => ¬ DictX φ
  | _ => False
theorem TbOk.keep {K : PySem.W.Frag} {H H' : Hp} (t : TbOk K H) (e : ∀ b o, TbX o → H b = some o → H' b = some o) : TbOk K H' := fun p hp => by
  obtain ⟨ps, h1, h2, h3⟩ := t p hp
  refine ⟨ps, e _ _ trivial h1, h2, fun pos cv hc => ?_⟩
  obtain ⟨c, e1, e2⟩ := h3 pos cv hc
  exact ⟨c, e1, e _ _ code_nd e2⟩
structure ExG (K : PySem.W.Frag) (H H' : Hp) : Prop where
  w : Exw H H'
  t : TbOk K H → TbOk K H'
theorem ExG.refl {K : PySem.W.Frag} (H : Hp) : ExG K H H := ⟨Exw.refl H, id⟩
theorem ExG.trans {K : PySem.W.Frag} {H H1 H2 : Hp} (a : ExG K H H1) (b : ExG K H1 H2) : ExG K H H2 := ⟨a.w.trans b.w, fun h => b.t (a.t h)⟩
theorem ExG.of {K : PySem.W.Frag} {H H' : Hp} (e : Ex H H') : ExG K H H' := ⟨.of e, fun t => t.ext e⟩
instance {K : PySem.W.Frag} {H H' : Hp} : Coe (Ex H H') (ExG K H H') := ⟨ExG.of⟩
instance {K : PySem.W.Frag} {H H' : Hp} : CoeOut (ExG K H H') (Exw H H') := ⟨ExG.w⟩
structure ExL (K : PySem.W.Frag) (l : Addr) (H H' : Hp) : Prop where
  k : ∀ a o, a ≠ l → H a = some o → (nt : ¬ TbO o := by first | assumption | exact id) → H' a = some o
  d : ∀ a, H a ≠ none → H' a ≠ none
  t : TbOk K H → TbOk K H'
def KT (K : PySem.W.Frag) : Prop := (List.lookup (1 : Addr) K).isSome = true
def TO (K : PySem.W.Frag) (o : HO) (xs : List V) : Prop := (¬ KT K ∧ o = .tup xs) ∨ (KT K ∧ ∃ ob : Obj, o = .frz ob (.tup xs) ∧ ob.cls = .type "tuple" ∧ ob.dict = none)
@[simp] def TuO : HO → Prop
  | .tup _ => True
  | .frz _ (.tup _) => True
  | _ => False
theorem TO.tu {K : PySem.W.Frag} {o : HO} {xs : List V} (t : TO K o xs) : TuO o := by
  rcases t with ⟨_, rfl⟩ | ⟨_, ob, rfl, _⟩ <;> exact True.intro
theorem TO.nk {K : PySem.W.Frag} {o : HO} {xs : List V} (h : ¬ KT K) (t : TO K o xs) : o = .tup xs := by
  rcases t with ⟨_, e⟩ | ⟨k, _⟩
  · exact e
  · exact absurd k h
theorem TO.kt {K : PySem.W.Frag} {o : HO} {xs : List V} (h : KT K) (t : TO K o xs) : ∃ ob : Obj, o = .frz ob (.tup xs) ∧ ob.cls = .type "tuple" ∧ ob.dict = none := by
  rcases t with ⟨k, _⟩ | ⟨_, e⟩
  · exact absurd h k
  · exact e
theorem TO.sq {K : PySem.W.Frag} {H : Hp} {a : Addr} {o : HO} {xs : List V} (t : TO K o xs) (h : H a = some o) : SqT K H a xs := by
  rcases t with ⟨_, rfl⟩ | ⟨_, ob, rfl, _⟩
  · exact .inl (.inl h)
  · exact .inl (.inr ⟨ob, h⟩)
theorem to_ok {P : Program} {w : World} {h : Heap} {a : Addr} {ob : Obj} {its : List Value} {n : Nat} {xs : List V} (K : PySem.W.Frag) (g : h.get? a = some ob) (hc : ob.cls = .type "tuple") (hd : ob.dict = none) (hs : ob.data = .seq its.toArray n)
    (hz : xs.length ≤ sizeLine) (r : Vals xs its) : ∃ o, TO K o xs ∧ ∀ H : Hp, ObjOk P w H h a o := by
  have base : ∀ H : Hp, ObjOk P w H h a (.tup xs) := fun H => ⟨hz, its, r, ob, g, hc, n, hs⟩
  by_cases k : KT K
  · exact ⟨.frz ob (.tup xs), .inr ⟨k, ob, rfl, hc, hd⟩, fun H => ⟨g, base H⟩⟩
  · exact ⟨.tup xs, .inl ⟨k, rfl⟩, base⟩
section
variable {X : Cx} {pins : List (Addr × Obj)} {σ : L2.St} {H : Hp} {s : Shared}
theorem lay_tup {Q : VK} {hp : Heap} {tk : Nat} {xs : List V} {its : List Value} (I : L2.Inv X pins σ H { s with heap := hp, toks := tk }) (hz : xs.length ≤ sizeLine) (r : Vals xs its)
    (q : ∀ p o, H p = none → TO X.K o xs → Q (.ref p) (upd H p o)) : EP X pins σ Q (.ref hp.objs.size) { s with heap := hp.push { cls := .type "tuple", data := .seq its.toArray }, toks := tk } := by
  obtain ⟨o, t, ok⟩ := to_ok (P := X.prog) (w := X.w) X.K (Heap.get?_push_size hp (o := ({ cls := .type "tuple", data := .seq its.toArray } : Obj)) rfl) rfl rfl rfl hz r
  have I2 := I.laid (t' := tk) (o := o) (a := hp.objs.size) (h' := hp.push { cls := .type "tuple", data := .seq its.toArray }) (fun b ob e => Heap.get?_push_of_some _ e) (Nat.le_refl _) (ok _)
  exact ⟨.ref hp.objs.size, _, I2, rfl, q _ o (I.hok.fresh (Nat.le_refl _)) t⟩
end
section
variable {X : Cx} {e : Expr} {es : List Expr} {t : TA} {te : TE} {pos : Pos}
def tTupK (K : PySem.W.Frag) (t : TA) : TE := fun σ H Q => t σ H fun xs H1 => xs.length ≤ sizeLine ∧ ∀ p o, H1 p = none → TO K o xs → Q (.ref p) (upd H1 p o)
theorem pe_tupK {k : Nat} (h : PA X es t) : PE X (.Tuple es k pos) (tTupK X.K t) := by
  refine ⟨fun pins s σ H Q I hq => wpAny_Tuple_spliced ?_⟩
  refine thn (h.run pos pins s σ H _ I hq) fun us s1 ⟨xs, H1, I1, r, z, q⟩ => ⟨by rw [← r.length]; exact z, ?_⟩
  exact lay_tup (tk := s1.toks) I1 z r q
theorem call_tupleK : CallR X (.type "tuple") (fun vs H Q => ∃ p ys, vs = [.ref p] ∧ ((SqL X.K H p ys ∧ ∀ l o, H l = none → TO X.K o ys → Q (.ref l) (upd H l o)) ∨ (SqT X.K H p ys ∧ Q (.ref p) H))) := by
  intro pins s σ H vs us Q I r h
  obtain ⟨p, ys, rfl, h⟩ := h
  obtain ⟨u, rfl, rx⟩ := vals1 r
  cases rx
  rcases h with ⟨hq, q⟩ | ⟨hq, q⟩
  · obtain ⟨its, rv, pl, hz⟩ := I.list hq
    have ln := rv.length
    refine call_tuple_list pl.isList (fun hp kp => ?_) (by simp only [List.size_toArray]; omega)
    exact lay_tup (I.kept (t' := s.toks) kp) hz rv q
  · obtain ⟨its, rv, pl, _⟩ := I.tuple hq
    exact call_tuple_same pl ⟨.ref p, H, I, rfl, q⟩
def rCatK (K : PySem.W.Frag) : R2 := fun x y H Q => ∃ a b xs ys, x = .ref a ∧ y = .ref b ∧ SqT K H a xs ∧ SqT K H b ys ∧ xs.length + ys.length ≤ sizeLine ∧
  (xs = [] → Q (.ref b) H) ∧ (xs ≠ [] → ys = [] → Q (.ref a) H) ∧ (xs ≠ [] → ys ≠ [] → ∀ p o, H p = none → TO K o (xs ++ ys) → Q (.ref p) (upd H p o))
theorem op_catK : OpR X (binaryOp .Add) (rCatK X.K) := by
  intro pins s σ H x y v u Q I rx ry h
  obtain ⟨a, b, xs, ys, rfl, rfl, ha, hb, hz, q0, q1, q2⟩ := h
  cases rx
  cases ry
  obtain ⟨i1, r1, p1, _⟩ := I.tuple ha
  obtain ⟨i2, r2, p2, _⟩ := I.tuple hb
  by_cases hx : xs = []
  · subst hx
    cases r1
    exact cat_tup0 p1 p2 ⟨.ref b, H, I, rfl, q0 rfl⟩
  · refine HT.cat_tup p1 p2 (fun z => hx (r1.nil_iff.mp z)) (fun z => ⟨.ref a, H, I, rfl, q1 hx (r2.nil_iff.mp z)⟩) (fun z => ?_) (by rw [← r1.length, ← r2.length]; exact hz)
    exact lay_tup (tk := s.toks) I (by rw [List.length_append]; exact hz) (r1.append r2) (q2 hx fun w => z (r2.nil_iff.mpr w))
def rSlK (K : PySem.W.Frag) : V → Option Int → Option Int → Hp → VK → Prop := fun x lo hi H Q => ∃ a xs, x = .ref a ∧ SqT K H a xs ∧
  (HT.sIx xs.length 0 lo = 0 ∧ HT.sIx xs.length xs.length hi = xs.length → Q (.ref a) H) ∧ (¬ (HT.sIx xs.length 0 lo = 0 ∧ HT.sIx xs.length xs.length hi = xs.length) → ∀ p o, H p = none → TO K o (cutV xs lo hi) → Q (.ref p) (upd H p o))
theorem sl_tupK : SlR X (rSlK X.K) := by
  intro pins s σ H x v vl vu lo hi sl Q I rx hs pl pu h
  obtain ⟨a, xs, rfl, hx, q1, q2⟩ := h
  cases rx
  obtain ⟨its, r, ht, hz⟩ := I.tuple hx
  have ln : its.toArray.size = xs.length := by rw [List.size_toArray]; exact r.length.symm
  refine ⟨"tuple", _, PyProof.Rows.slot_tuple_getitem.lookup, ht.typeIs, ?_⟩
  by_cases hw : HT.sIx xs.length 0 lo = 0 ∧ HT.sIx xs.length xs.length hi = xs.length
  · exact getItem_tuple_whole ht hs pl pu (by rw [ln]; exact hw) ⟨.ref a, H, I, rfl, q1 hw⟩
  · refine HT.getItem_tuple_cut ht hs pl pu (by rw [ln]; exact hw) ?_ (by rw [ln]; exact hz)
    rw [ln]
    exact lay_tup (tk := s.toks) I (Nat.le_trans (cutV_length xs lo hi) hz) ((r.drop (HT.sIx xs.length 0 lo)).take (HT.sIx xs.length xs.length hi - HT.sIx xs.length 0 lo)) (q2 hw)
def tTupRgK (K : PySem.W.Frag) (te : L2.St → Hp → (Int → Int → Hp → Prop) → Prop) : TE := fun σ H Q => te σ H fun a b H1 => RgOk a b ∧ ∀ q o, H1 q = none → TO K o (rgV a b) → Q (.ref q) (upd H1 q o)
theorem pe_tupRgK {te : L2.St → Hp → (Int → Int → Hp → Prop) → Prop} {p : Pos} (hc : X.calm = true) (hg : Gl X "tuple") (hm : X.mg "tuple" = none) (he : PRg X e te) (na : starEach [e] X.env = (false, eval e X.env) :: starEach [] X.env := by rfl) :
    PE X (.Call (.Name "tuple" p) [e] [] pos) (tTupRgK X.K te) := by
  refine ⟨fun pins s σ H Q I h => Call_ (ld_blt I hg hm boot_tuple ?_)⟩
  refine PyProof.Rows.callWith_type1 (args_cons (thn (he pins s σ H _ I h) fun x s1 ⟨r, a, b, t, u, v, H1, ex, hr, I1, ok, q⟩ => args_nil ?_) na) na
  subst ex
  obtain ⟨b1, b2, b3, b4, b5⟩ := ok
  refine call_tuple_range (n := (b - a).toNat) (I1.ok.hd hc) hr (small_one b1 b2 b3 b4) (rangeSize_nat a b) b5 fun hp tk acc hk hi => ?_
  have z := lay_tup (tk := tk) (I1.kept hk) (by rw [rgV_length, sizeLine_eq]; omega) (vals_rg hi) q
  rwa [Array.toArray_toList] at z
end
def IteK (K : PySem.W.Frag) (a : Addr) : It where
  go := fun i H => ∃ (xs : List V) (x : V), SqL K H a xs ∧ xs[i]? = some x
  yld := fun i H v H' => ∃ l o x, v = .ref l ∧ H l = none ∧ TO K o [.int (i : Nat), x] ∧ H' = upd H l o ∧ ∀ xs, SqL K H a xs → xs[i]? = some x
  stop := fun i H => ∃ xs : List V, SqL K H a xs ∧ xs.length ≤ i
theorem turn_enK {P : Program} {w : World} {K : PySem.W.Frag} {elts : List Expr} {kk : Nat} {tpos : Pos} (a e it : Addr) :
    Turn P w K (.Tuple elts kk tpos) (IteK K a) [e, it] e (fun i h => (∃ old, IsEnum h e it ((i : Nat) : Int) old) ∧ h.IsListIter it a i ∧ e ≠ it) where
  mem := by simp
  obj := fun i h st b hb => by
    obtain ⟨⟨old, he⟩, ⟨o, ho, hc, hd⟩, _⟩ := st
    rcases (show b = e ∨ b = it by simpa using hb) with rfl | rfl
    · exact ⟨_, he, fun v q => nomatch q⟩
    · exact ⟨o, ho, fun v q => by rw [hd] at q; cases q⟩
  keep := fun i h h' ⟨⟨old, he⟩, hi, hne⟩ k => ⟨⟨old, k e (by simp) _ he⟩, hi.at fun o q => k it (by simp) o q, hne⟩
  item := by
    intro X hP hw hK hc i pins s σ H E I hf st hg
    subst hP hw hK
    obtain ⟨⟨old, he⟩, hit, hne⟩ := st
    obtain ⟨xs, x, hq, hx⟩ := hg
    obtain ⟨its, rv, p, hz⟩ := I.list hq
    obtain ⟨u, hu, ru⟩ := rv.get hx
    have hel : e < s.heap.objs.size := Heap.lt_size he
    have hil : it < s.heap.objs.size := by obtain ⟨_, q, _⟩ := hit; exact Heap.lt_size q
    refine wpAny_pyNext_enum_item he hit p.isList (x := u) (by simpa using hu) hne fun h1 ho hi2 hT hsz hk => ?_
    refine ⟨_, rfl, wpAny_letOwnedTupleGo_enum (s := { s with heap := h1, toks := s.toks + 1 }) ho fun h2 he2 sb => ?_⟩
    have hT2 : h2.get? s.heap.objs.size = some { cls := .type "tuple", data := .seq #[.int i s.toks, u] } := (sb.2 _ (Nat.ne_of_gt hel)).trans hT
    obtain ⟨o, t, ok⟩ := to_ok (P := X.prog) (w := X.w) (xs := [.int (i : Nat), x]) (its := [.int i s.toks, u]) X.K hT2 rfl rfl rfl (by show 2 ≤ sizeLine; decide) (.cons ⟨_, rfl⟩ (.cons ru .nil))
    have I2 : L2.Inv X pins σ (upd H s.heap.objs.size o) { s with heap := h2, toks := s.toks + 1 } :=
      I.turnedNew (ch := [e, it]) (fun b ob hb q => (sb.2 b (fun z => hb (by simp [z]))).trans (hk b ob (fun z => hb (by simp [z])) (fun z => hb (by simp [z])) q)) hf (Nat.le_refl _) (ok _)
    refine ⟨.ref s.heap.objs.size, _, I2, rfl, ⟨_, o, x, rfl, I.hok.fresh (Nat.le_refl _), t, rfl, fun ys hy => by rw [I.list_inj hy hq]; exact hx⟩, ⟨⟨u, ?_⟩, hi2.at fun o q => (sb.2 it (Ne.symm hne)).trans q, hne⟩, fun b hb => ?_⟩
    · have e1 : ((i + 1 : Nat) : Int) = (i : Int) + 1 := by omega
      rw [e1]
      exact he2
    · have bl : b < s.heap.objs.size := by
        rcases (show b = e ∨ b = it by simpa using hb) with rfl | rfl
        · exact hel
        · exact hil
      rw [upd_ne (Nat.ne_of_lt bl)]
      exact (hf b hb).1
  done := by
    intro X hP hw hK hc i pins s σ H E I hf st hg
    subst hP hw hK
    obtain ⟨⟨old, he⟩, hit, hne⟩ := st
    obtain ⟨xs, hq, hx⟩ := hg
    obtain ⟨its, rv, p, hz⟩ := I.list hq
    obtain ⟨f0, f1, f2, f3, f4, f5⟩ := hf it (by simp)
    have ln := rv.length
    exact wpAny_pyNext_enum_end (I.ok.hd hc) he hit p.isList (by simp; omega) fun h2 eb => ⟨rfl, I.turned (t' := s.toks) (fun b o hb q => eb b o hb q) f0 f1 f3 f4 f5⟩
  self := fun A i s Q E st h => let ⟨⟨_, he⟩, _⟩ := st; wpAny_pyIter_enum he h
end Dn
set_option Elab.async false
set_option linter.all false
set_option maxRecDepth 100000
set_option autoImplicit false
set_option maxHeartbeats 4000000
namespace Dn
open PySem L2
abbrev D := PyData
def keyB : Key → D
  | .inl i => .int i
  | .inr x => .str x
def dkD (kvs : List (Key × D)) : List (D × D) := kvs.map fun p => (keyB p.1, p.2)
def adrOf (K : PySem.W.Frag) (nm : Str) : Addr := match K.find? (fun p => match p.2.data with
    | .cls cd => decide (cd.name = nm)
    | _ => false) with
  | some p => p.1
  | none => 0
def obL (nm : Str) (es : List (Str × D)) : List (D × D) := [(.bool true, .tuple (.str nm :: es.map fun p => .tuple [.str p.1, p.2]))]
abbrev obD (nm : Str) (es : List (Str × D)) : D := .dict (obL nm es)
structure ObjC (K : PySem.W.Frag) (C : Addr) : Prop where
  cls : Cls K C
  ha : PySem.W.findIn K (.ref C) "__class__" = some (some (.builtin "object.__class__"))
  hn : PySem.W.specialIn K (.builtin "object.__class__") "__get__" = some (some (.builtin "getset_descriptor.__get__"))
  htk : PySem.W.takesIn K (.builtin "object.__class__") = some true
  hm : PySem.W.mroIn K C (.type "object") = some true
  ty : PySem.W.typeIn K (.ref C) = some (.type "type")
  tp : PySem.W.nsIn K PySem.cStatics "thirdparty.any" = some none
  own : ∀ (tn : String) (b : Bool), tn ≠ "slice" → kitB "slice" tn = some b → PySem.W.kitOne K (.ref C) (.type tn) = some b
def fAdr (K : PySem.W.Frag) (nm : Str) : Addr := match PySem.W.nsIn K mainGlobals nm with
  | some (some (.ref a)) => a
  | _ => 0
def TAt (K : PySem.W.Frag) (G : Hp) (a : Addr) (xs : List V) : Prop := ∃ o, G a = some o ∧ TO K o xs
theorem TO.ntb {K : PySem.W.Frag} {o : HO} {xs : List V} (t : TO K o xs) : ¬ TbO o := by
  rcases t with ⟨_, rfl⟩ | ⟨_, ob, rfl, _⟩ <;> exact id
theorem TAt.monoW {K : PySem.W.Frag} {G G' : Hp} {a : Addr} {xs : List V} (e : Exw G G') (h : TAt K G a xs) : TAt K G' a xs := by
  obtain ⟨o, h, t⟩ := h
  exact ⟨o, e.k _ _ h t.ntb, t⟩
theorem TAt.mono {K : PySem.W.Frag} {G G' : Hp} {a : Addr} {xs : List V} (e : Evl.Ex G G') (h : TAt K G a xs) : TAt K G' a xs := h.monoW e
theorem TAt.keep {K : PySem.W.Frag} {G G' : Hp} {a : Addr} {xs : List V} (h : TAt K G a xs) (k : ∀ o, TuO o → G a = some o → G' a = some o) : TAt K G' a xs := by
  obtain ⟨o, h, t⟩ := h
  exact ⟨o, k o t.tu h, t⟩
theorem TAt.nl {K : PySem.W.Frag} {G : Hp} {a : Addr} {xs : List V} {o : HO} (h : TAt K G a xs) (q : G a = some o) (n : ¬ TuO o) : False := by
  obtain ⟨u, h, t⟩ := h
  rw [h] at q; cases q
  exact n t.tu
mutual
inductive Rp (K : PySem.W.Frag) (G : Hp) : V → D → Prop
  | non : Rp K G .non .none
  | bl (b : Bool) : Rp K G (.bl b) (.bool b)
  | int (i : Int) : Rp K G (.int i) (.int i)
  | str (x : Str) : Rp K G (.str x) (.str x)
  | lst {a : Addr} {xs : List V} {ds : List D} : G a = some (.lst xs) → RpAll K G xs ds → Rp K G (.ref a) (.list ds)
  | tup {a : Addr} {xs : List V} {ds : List D} : TAt K G a xs → RpAll K G xs ds → Rp K G (.ref a) (.tuple ds)
  | dct {a : Addr} {kws : List (Key × V)} {kvs : List (Key × D)} {dd : List (D × D)} : G a = some (.dK kws) → RpKv K G kws kvs → dd = dkD kvs → Rp K G (.ref a) (.dict dd)
  | frz {a : Addr} {xs : List V} {ds : List D} : SqL K G a xs → RpAll K G xs ds → Rp K G (.ref a) (.dict [(.none, .tuple ds)])
  | ins {a dx : Addr} {nm : Str} {fs : List (Str × V)} {es : List (Str × D)} {dd : List (D × D)} : ObjC K (adrOf K nm) → G a = some (.ins (adrOf K nm) dx fs) → RpFs K G fs es → dd = obL nm es → Rp K G (.ref a) (.dict dd)
  | typ (nm : Str) : ObjC K (adrOf K nm) → Rp K G (.ref (adrOf K nm)) (.dict [(.bool false, .str nm)])
  | fnv (nm : Str) : PySem.W.typeIn K (.ref (fAdr K nm)) = some (.type "function") → Rp K G (.ref (fAdr K nm)) (.dict [(.list [], .str nm)])
inductive RpAll (K : PySem.W.Frag) (G : Hp) : List V → List D → Prop
  | nil : RpAll K G [] []
  | cons {v : V} {vs : List V} {d : D} {ds : List D} : Rp K G v d → RpAll K G vs ds → RpAll K G (v :: vs) (d :: ds)
inductive RpKv (K : PySem.W.Frag) (G : Hp) : List (Key × V) → List (Key × D) → Prop
  | nil : RpKv K G [] []
  | cons {k : Key} {v : V} {d : D} {kws : List (Key × V)} {kvs : List (Key × D)} : Rp K G v d → RpKv K G kws kvs → RpKv K G ((k, v) :: kws) ((k, d) :: kvs)
inductive RpFs (K : PySem.W.Frag) (G : Hp) : List (Str × V) → List (Str × D) → Prop
  | nil : RpFs K G [] []
  | cons {k : Str} {v : V} {d : D} {fs : List (Str × V)} {es : List (Str × D)} : Rp K G v d → RpFs K G fs es → RpFs K G ((k, v) :: fs) ((k, d) :: es)
end
open Evl
mutual
theorem Rp.monoW {K : PySem.W.Frag} {G G' : Hp} (e : Exw G G') : ∀ {v : V} {d : D}, Rp K G v d → Rp K G' v d
  | _, _, .non => .non
  | _, _, .bl b => .bl b
  | _, _, .int b => .int b
  | _, _, .str b => .str b
  | _, _, .lst h r => .lst (e.k _ _ h) (RpAll.monoW e r)
  | _, _, .tup h r => .tup (h.monoW e) (RpAll.monoW e r)
  | _, _, .dct h r z => .dct (e.k _ _ h) (RpKv.monoW e r) z
  | _, _, .frz h r => .frz (e.l h) (RpAll.monoW e r)
  | _, _, .ins o h r z => .ins o (e.k _ _ h) (RpFs.monoW e r) z
  | _, _, .typ nm o => .typ nm o
  | _, _, .fnv nm o => .fnv nm o
theorem RpAll.monoW {K : PySem.W.Frag} {G G' : Hp} (e : Exw G G') : ∀ {v : List V} {d : List D}, RpAll K G v d → RpAll K G' v d
  | _, _, .nil => .nil
  | _, _, .cons h r => .cons (Rp.monoW e h) (RpAll.monoW e r)
theorem RpKv.monoW {K : PySem.W.Frag} {G G' : Hp} (e : Exw G G') : ∀ {v : List (Key × V)} {d : List (Key × D)}, RpKv K G v d → RpKv K G' v d
  | _, _, .nil => .nil
  | _, _, .cons h r => .cons (Rp.monoW e h) (RpKv.monoW e r)
theorem RpFs.monoW {K : PySem.W.Frag} {G G' : Hp} (e : Exw G G') : ∀ {v : List (Str × V)} {d : List (Str × D)}, RpFs K G v d → RpFs K G' v d
  | _, _, .nil => .nil
  | _, _, .cons h r => .cons (Rp.monoW e h) (RpFs.monoW e r)
end
theorem Rp.mono {K : PySem.W.Frag} {G G' : Hp} (e : Ex G G') {v : V} {d : D} (h : Rp K G v d) : Rp K G' v d := h.monoW e
theorem RpAll.mono {K : PySem.W.Frag} {G G' : Hp} (e : Ex G G') {v : List V} {d : List D} (h : RpAll K G v d) : RpAll K G' v d := h.monoW e
theorem RpKv.mono {K : PySem.W.Frag} {G G' : Hp} (e : Ex G G') {v : List (Key × V)} {d : List (Key × D)} (h : RpKv K G v d) : RpKv K G' v d := h.monoW e
theorem RpFs.mono {K : PySem.W.Frag} {G G' : Hp} (e : Ex G G') {v : List (Str × V)} {d : List (Str × D)} (h : RpFs K G v d) : RpFs K G' v d := h.monoW e
section
variable {K : PySem.W.Frag} {G : Hp}
theorem RpAll.length : ∀ {vs : List V} {ds : List D}, RpAll K G vs ds → vs.length = ds.length
  | _, _, .nil => rfl
  | _, _, .cons _ r => by simp [RpAll.length r]
theorem RpAll.get : ∀ {vs : List V} {ds : List D} {i : Nat} {d : D}, RpAll K G vs ds → ds[i]? = some d → ∃ v, vs[i]? = some v ∧ Rp K G v d
  | _, _, _, _, .nil, e => by simp at e
  | _, _, 0, _, .cons h _, e => by simp at e; subst e; exact ⟨_, rfl, h⟩
  | _, _, i + 1, _, .cons _ r, e => by simpa using RpAll.get r (by simpa using e)
theorem RpAll.get' : ∀ {vs : List V} {ds : List D} {i : Nat} {v : V}, RpAll K G vs ds → vs[i]? = some v → ∃ d, ds[i]? = some d ∧ Rp K G v d
  | _, _, _, _, .nil, e => by simp at e
  | _, _, 0, _, .cons h _, e => by simp at e; subst e; exact ⟨_, rfl, h⟩
  | _, _, i + 1, _, .cons _ r, e => by simpa using RpAll.get' r (by simpa using e)
theorem RpAll.append : ∀ {vs ws : List V} {ds es : List D}, RpAll K G vs ds → RpAll K G ws es → RpAll K G (vs ++ ws) (ds ++ es)
  | _, _, _, _, .nil, s => s
  | _, _, _, _, .cons h r, s => .cons h (RpAll.append r s)
theorem RpAll.set : ∀ {vs : List V} {ds : List D} {v : V} {d : D} (i : Nat), RpAll K G vs ds → Rp K G v d → RpAll K G (vs.set i v) (ds.set i d)
  | _, _, _, _, _, .nil, _ => .nil
  | _, _, _, _, 0, .cons _ r, s => .cons s r
  | _, _, _, _, i + 1, .cons h r, s => .cons h (RpAll.set i r s)
theorem RpAll.take : ∀ {vs : List V} {ds : List D} (i : Nat), RpAll K G vs ds → RpAll K G (vs.take i) (ds.take i)
  | _, _, 0, _ => by simp; exact .nil
  | _, _, _ + 1, .nil => .nil
  | _, _, i + 1, .cons h r => .cons h (RpAll.take i r)
theorem RpAll.drop : ∀ {vs : List V} {ds : List D} (i : Nat), RpAll K G vs ds → RpAll K G (vs.drop i) (ds.drop i)
  | _, _, 0, r => r
  | _, _, _ + 1, .nil => .nil
  | _, _, i + 1, .cons _ r => RpAll.drop i r
theorem RpAll.erase : ∀ {vs : List V} {ds : List D} (i : Nat), RpAll K G vs ds → RpAll K G (vs.eraseIdx i) (ds.eraseIdx i)
  | _, _, _, .nil => .nil
  | _, _, 0, .cons _ r => r
  | _, _, i + 1, .cons h r => .cons h (RpAll.erase i r)
theorem RpAll.dropLast {vs : List V} {ds : List D} (r : RpAll K G vs ds) : RpAll K G vs.dropLast ds.dropLast := by
  rw [List.dropLast_eq_take, List.dropLast_eq_take, r.length]; exact r.take _
theorem RpAll.reverse : ∀ {vs : List V} {ds : List D}, RpAll K G vs ds → RpAll K G vs.reverse ds.reverse
  | _, _, .nil => .nil
  | _, _, .cons h r => by simpa using r.reverse.append (.cons h .nil)
theorem RpAll.ints : ∀ (ns : List Int), RpAll K G (ns.map V.int) (ns.map PyData.int)
  | [] => .nil
  | n :: ns => .cons (.int n) (RpAll.ints ns)
theorem RpAll.of_ints : ∀ {ns : List Int} {vs : List V}, RpAll K G vs (ns.map PyData.int) → vs = ns.map V.int
  | [], _, .nil => rfl
  | n :: ns, _, .cons (.int _) r => by rw [RpAll.of_ints r]; rfl
theorem RpAll.of_bls : ∀ {ns : List Bool} {vs : List V}, RpAll K G vs (ns.map PyData.bool) → vs = ns.map V.bl
  | [], _, .nil => rfl
  | n :: ns, _, .cons (.bl _) r => by rw [RpAll.of_bls r]; rfl
end
inductive MO where
  | lst (ds : List D)
  | dct (kvs : List (Key × D))
  | par (p : Addr) (m : MO)
  /-- a kept range 0, 1, .. -/
  | rng (j : Int)
  /-- a dict whose keys are tuples of ints -/
  | dtu (kvs : List (List Int × D))
  /-- an instance that is being made -/
  | obj (nm : Str) (es : List (Str × D))
def entI (x : List Int × Addr × Value) : DictEntry := ⟨reduceHash (Builtin.Tuple.tupleHashOf (x.1.map hashInt)), .ref x.2.1, x.2.2⟩
def DtK (K : PySem.W.Frag) (G : Hp) (kvs : List (List Int × D)) (o : Obj) : Prop := KT K ∧ (kvs.map (·.1)).Nodup ∧ o.ExactDict ∧ ∃ (es : Array DictEntry) (ep : Nat) (xs : List (List Int × Addr × Value)) (ts : List (List Int × Addr × V)), o.data = .dict es ep ∧ es.toList = xs.map entI ∧
  Paired (fun (t : List Int × Addr × V) (x : List Int × Addr × Value) => t.1 = x.1 ∧ t.2.1 = x.2.1 ∧ RelV t.2.2 x.2.2) ts xs ∧ Paired (fun (p : List Int × D) (t : List Int × Addr × V) => p.1 = t.1 ∧ TAt K G t.2.1 (t.1.map V.int) ∧ Rp K G t.2.2 p.2) kvs ts
theorem DtK.monoW {K : PySem.W.Frag} {G G' : Hp} (e : Exw G G') {kvs : List (List Int × D)} {o : Obj} (h : DtK K G kvs o) : DtK K G' kvs o := by
  obtain ⟨h1, h2, h3, es, ep, xs, ts, h4, h5, h6, h7⟩ := h
  exact ⟨h1, h2, h3, es, ep, xs, ts, h4, h5, h6, Paired.mapP h7 fun p q z => ⟨z.1, z.2.1.monoW e, z.2.2.monoW e⟩⟩
def RpO (K : PySem.W.Frag) (G : Hp) : MO → HO → Prop
  | .lst ds, .lst vs => RpAll K G vs ds
  | .dct kvs, .dK kws => Paired (fun (p : Key × D) (q : Key × V) => p.1 = q.1 ∧ Rp K G q.2 p.2) kvs kws
  | .par _ m, o => RpO K G m o
  | .rng j, .rng lo hi => lo = 0 ∧ hi = j
  | .dtu kvs, .dT kws => ¬ KT K ∧ Paired (fun (p : List Int × D) (q : List Key × V) => p.1.map Sum.inl = q.1 ∧ Rp K G q.2 p.2) kvs kws
  | .dtu kvs, .ext φ => ∃ (a : Addr) (o : Obj), DtK K G kvs o ∧ φ = DcO a o
  | .obj nm es, .ins C _ fs => C = adrOf K nm ∧ ObjC K C ∧ RpFs K G fs es
  | _, _ => False
theorem RpO.monoW {K : PySem.W.Frag} {G G' : Hp} (e : Exw G G') : ∀ {m : MO} {o : HO}, RpO K G m o → RpO K G' m o
  | .par _ m, o, h => by unfold RpO at h ⊢; exact RpO.monoW (m := m) e h
  | .lst ds, o, h => by cases o <;> first | exact RpAll.monoW e h | exact False.elim h
  | .dct ds, o, h => by cases o <;> first | exact False.elim h | exact Paired.mapP h fun p q z => ⟨z.1, z.2.monoW e⟩
  | .rng j, o, h => by cases o <;> first | exact False.elim h | exact h
  | .dtu ds, o, h => by
    cases o with
    | ext φ => obtain ⟨a, o, h1, h2⟩ := h; exact ⟨a, o, DtK.monoW e h1, h2⟩
    | _ => first | exact False.elim h | exact ⟨h.1, Paired.mapP h.2 fun p q z => ⟨z.1, z.2.monoW e⟩⟩
  | .obj _ es, o, h => by cases o <;> first | exact False.elim h | exact ⟨h.1, h.2.1, h.2.2.monoW e⟩
theorem RpO.mono {K : PySem.W.Frag} {G G' : Hp} (e : Ex G G') {m : MO} {o : HO} (h : RpO K G m o) : RpO K G' m o := h.monoW e
inductive SV where
  | im (d : D)
  | ow (m : MO)
abbrev Env := List (Option SV)
def Own (ρ : Env) (σ : L2.St) (a : Addr) : Prop := ∃ (i : Nat) (m : MO), ρ[i]? = some (some (SV.ow m)) ∧ σ[i]? = some (some (V.ref a))
open Classical in
noncomputable def hide (O : Addr → Prop) (H : Hp) : Hp := fun a => if O a then none else H a
theorem hide_some {O : Addr → Prop} {H : Hp} {a : Addr} {o : HO} : hide O H a = some o ↔ ¬ O a ∧ H a = some o := by
  unfold hide; by_cases h : O a <;> simp [h]
theorem hide_ex {O : Addr → Prop} {H : Hp} : Ex (hide O H) H := fun _ _ h => (hide_some.1 h).2
def Hd (T : Addr → Prop) (ρ : Env) (σ : L2.St) (a : Addr) : Prop := T a ∨ Own ρ σ a
def Lv (H : Hp) (a : Addr) : Prop := H a ≠ none ∧ ∀ o, H a = some o → ¬ TuO o ∧ ¬ TbX o
theorem Lv.upd {H : Hp} {a p : Addr} {o : HO} (ne : a ≠ p) (h : Lv H a) : Lv (upd H p o) a := by
  unfold Lv
  rw [upd_ne ne]
  exact h
theorem Lv.at {H : Hp} {p : Addr} {o : HO} (h : ¬ TuO o) (nt : ¬ TbX o := by first | assumption | exact id) : Lv (L2.upd H p o) p := by
  unfold Lv
  rw [upd_same]
  exact ⟨by simp, fun u z => by cases z; exact ⟨h, nt⟩⟩
theorem tbx_of {o : HO} (h : ¬ TbX o) : ¬ TbO o := fun t => h (by cases o <;> first | trivial | exact t.elim)
theorem Lv.keepT {H H' : Hp} {a : Addr} (h : Lv H a) (k : ∀ o, H a = some o → ¬ TbX o → H' a = some o) : Lv H' a := by
  obtain ⟨h1, h2⟩ := h
  cases e : H a with
  | none => exact absurd e h1
  | some o =>
    have kk := k o e (h2 o e).2
    refine ⟨by rw [kk]; simp, fun u z => h2 u ?_⟩
    rw [kk] at z
    rw [e, z]
theorem Lv.keep {H H' : Hp} {a : Addr} (h : Lv H a) (k : ∀ o, H a = some o → H' a = some o) : Lv H' a := h.keepT fun o e _ => k o e
theorem Lv.grow {H H' : Hp} {a : Addr} (h : Lv H a) (e : Exw H H') : Lv H' a := h.keepT fun o q nt => e.k a o q (tbx_of nt)
structure RS (K : PySem.W.Frag) (T : Addr → Prop) (ρ : Env) (σ : L2.St) (H : Hp) : Prop where
  len : ρ.length = σ.length
  im : ∀ (i : Nat) (d : D), ρ[i]? = some (some (SV.im d)) → ∃ v, σ[i]? = some (some v) ∧ Rp K (hide (Hd T ρ σ) H) v d
  ow : ∀ (i : Nat) (m : MO), ρ[i]? = some (some (SV.ow m)) → ∃ a o, σ[i]? = some (some (V.ref a)) ∧ H a = some o ∧ RpO K (hide (Hd T ρ σ) H) m o
  inj : ∀ (i j : Nat) (m m' : MO) (a : Addr), ρ[i]? = some (some (SV.ow m)) → ρ[j]? = some (some (SV.ow m')) → σ[i]? = some (some (V.ref a)) → σ[j]? = some (some (V.ref a)) → i = j
  dis : ∀ a, T a → ¬ Own ρ σ a
  dom : ∀ a, T a → Lv H a
  tag : ∀ (i : Nat) (p : Addr) (m : MO) (a : Addr), ρ[i]? = some (some (SV.ow (.par p m))) → σ[i]? = some (some (V.ref a)) → a = p
  tb : TbOk K H
structure Po (ρ : Env) (σ : L2.St) (H : Hp) (ρ' : Env) (σ' : L2.St) (H' : Hp) : Prop where
  keep : ∀ a o, ¬ Own ρ σ a → H a = some o → (nt : ¬ TbO o := by first | assumption | exact id) → H' a = some o
  own : ∀ a, Own ρ' σ' a → Own ρ σ a ∨ H a = none
  dom : ∀ a, H a ≠ none → H' a ≠ none
section
variable {K : PySem.W.Frag} {T : Addr → Prop} {ρ ρ1 ρ2 : Env} {σ σ1 σ2 : L2.St} {H H1 H2 : Hp}
theorem Po.refl : Po ρ σ H ρ σ H := ⟨fun _ _ _ h _ => h, fun _ h => .inl h, fun _ h => h⟩
theorem Po.trans (p : Po ρ σ H ρ1 σ1 H1) (q : Po ρ1 σ1 H1 ρ2 σ2 H2) : Po ρ σ H ρ2 σ2 H2 where
  keep := fun a o n h nt => q.keep a o (fun w => by
    rcases p.own a w with w | w
    · exact n w
    · rw [w] at h; cases h) (p.keep a o n h nt) nt
  own := fun a w => by
    rcases q.own a w with w | w
    · exact p.own a w
    · by_cases h : H a = none
      · exact .inr h
      · exact absurd w (p.dom a h)
  dom := fun a h => q.dom a (p.dom a h)
theorem hide_dom {O : Addr → Prop} {H : Hp} {a : Addr} : hide O H a ≠ none ↔ ¬ O a ∧ H a ≠ none := by
  unfold hide; by_cases h : O a <;> simp [h]
theorem Po.fz (p : Po ρ σ H ρ1 σ1 H1) : Exw (hide (Hd T ρ σ) H) (hide (Hd T ρ1 σ1) H1) := by
  have nh : ∀ {a}, ¬ Hd T ρ σ a → H a ≠ none → ¬ Hd T ρ1 σ1 a := fun {a} n h => by
    rintro (t | w)
    · exact n (.inl t)
    · rcases p.own a w with w | w
      · exact n (.inr w)
      · exact h w
  refine ⟨fun a o h nt => ?_, fun a h => ?_⟩
  · obtain ⟨n, h⟩ := hide_some.1 h
    exact hide_some.2 ⟨nh n (by rw [h]; simp), p.keep a o (fun w => n (.inr w)) h nt⟩
  · obtain ⟨n, h⟩ := hide_dom.1 h
    exact hide_dom.2 ⟨nh n h, p.dom a h⟩
theorem RS.ownDom (r : RS K T ρ σ H) {a : Addr} (h : Own ρ σ a) : H a ≠ none := by
  obtain ⟨i, m, h1, h2⟩ := h
  obtain ⟨b, o, e1, e2, _⟩ := r.ow i m h1
  rw [h2] at e1; cases e1; rw [e2]; simp
theorem rpo_tb {G : Hp} {o : HO} : ∀ {m : MO}, RpO K G m o → ¬ TbO o
  | .par _ m, h => rpo_tb (m := m) h
  | .lst _, h => by cases o <;> first | exact id | exact h.elim
  | .dct _, h => by cases o <;> first | exact id | exact h.elim
  | .rng _, h => by cases o <;> first | exact id | exact h.elim
  | .dtu _, h => by
    cases o with
    | ext φ => exact id
    | _ => first | exact id | exact h.elim
  | .obj _ _, h => by cases o <;> first | exact id | exact h.elim
theorem rpo_tbx {G : Hp} {o : HO} : ∀ {m : MO}, RpO K G m o → ¬ TbX o
  | .par _ m, h => rpo_tbx (m := m) h
  | .lst _, h => by cases o <;> first | exact id | exact h.elim
  | .dct _, h => by cases o <;> first | exact id | exact h.elim
  | .rng _, h => by cases o <;> first | exact id | exact h.elim
  | .dtu _, h => by
    cases o with
    | ext φ =>
      obtain ⟨a, o, h1, rfl⟩ := h
      obtain ⟨_, _, _, es, ep, _, _, h4, _⟩ := h1
      exact fun n => n ⟨a, o, es, ep, h4, rfl⟩
    | _ => first | exact id | exact h.elim
  | .obj _ _, h => by cases o <;> first | exact id | exact h.elim
theorem RS.ownTb (r : RS K T ρ σ H) {a : Addr} (h : Own ρ σ a) {o : HO} (e : H a = some o) : ¬ TbX o := by
  obtain ⟨i, m, h1, h2⟩ := h
  obtain ⟨b, u, e1, e2, e3⟩ := r.ow i m h1
  rw [h2] at e1; cases e1
  rw [e] at e2; cases e2
  exact rpo_tbx e3
theorem TbOk.wr {p : Addr} {o o' : HO} (t : TbOk K H) (h : H p = some o) (nt : ¬ TbX o := by first | assumption | exact id) : TbOk K (L2.upd H p o') := t.keep fun b u x e => by
  have ne : b ≠ p := fun z => by
    subst z
    rw [h] at e
    cases e
    exact nt x
  rw [upd_ne ne]
  exact e
theorem RS.tbW (r : RS K T ρ σ H) {p : Addr} (h : Own ρ σ p) {o' : HO} : TbOk K (L2.upd H p o') := r.tb.keep fun b o x e => by
  have ne : b ≠ p := fun z => by
    subst z
    exact r.ownTb h e x
  rw [upd_ne ne]
  exact e
theorem RS.hdDom (r : RS K T ρ σ H) {a : Addr} (h : Hd T ρ σ a) : H a ≠ none := h.elim (fun t => (r.dom a t).1) r.ownDom
theorem rpo_tup {G : Hp} {o : HO} (t : TuO o) : ∀ {m : MO}, ¬ RpO K G m o
  | .par _ m, h => rpo_tup t (m := m) h
  | .lst _, h => by cases o <;> first | exact t | exact h
  | .dct _, h => by cases o <;> first | exact t | exact h
  | .rng _, h => by cases o <;> first | exact t | exact h
  | .dtu _, h => by
    cases o with
    | ext φ => exact t
    | _ => first | exact t | exact h
  | .obj _ _, h => by cases o <;> first | exact t | exact h
theorem RS.hdLv (r : RS K T ρ σ H) {a : Addr} (h : Hd T ρ σ a) : Lv H a := h.elim (r.dom a) fun w => by
  refine ⟨r.ownDom w, fun u e => ?_⟩
  obtain ⟨i, m, h1, h2⟩ := w
  obtain ⟨b, o, e1, e2, e3⟩ := r.ow i m h1
  rw [h2] at e1; cases e1
  rw [e] at e2; cases e2
  exact ⟨fun t => rpo_tup t e3, rpo_tbx e3⟩
theorem hide_growW {O : Addr → Prop} (e : Exw H H1) : Exw (hide O H) (hide O H1) :=
  ⟨fun a o h nt => hide_some.2 ⟨(hide_some.1 h).1, e.k _ _ (hide_some.1 h).2 nt⟩, fun a h => hide_dom.2 ⟨(hide_dom.1 h).1, e.d a (hide_dom.1 h).2⟩⟩
theorem RS.growT (r : RS K T ρ σ H) (e : Exw H H1) (tb : TbOk K H1) : RS K T ρ σ H1 := by
  have ez : Exw (hide (Hd T ρ σ) H) (hide (Hd T ρ σ) H1) := hide_growW e
  refine ⟨r.len, fun i d h => ?_, fun i m h => ?_, r.inj, r.dis, fun a t => ?_, r.tag, tb⟩
  · obtain ⟨v, h1, h2⟩ := r.im i d h; exact ⟨v, h1, h2.monoW ez⟩
  · obtain ⟨a, o, h1, h2, h3⟩ := r.ow i m h; exact ⟨a, o, h1, e.k _ _ h2 (rpo_tb h3), h3.monoW ez⟩
  · exact (r.dom a t).grow e
theorem RS.grow (r : RS K T ρ σ H) (e : Ex H H1) : RS K T ρ σ H1 := r.growT e (r.tb.ext e)
theorem RS.growE (r : RS K T ρ σ H) (e : ExG K H H1) : RS K T ρ σ H1 := r.growT e.w (e.t r.tb)
theorem Po.growT (e : Exw H H1) : Po ρ σ H ρ σ H1 := ⟨fun a o _ h nt => e.k a o h nt, fun _ h => .inl h, e.d⟩
theorem Po.grow (e : Ex H H1) : Po ρ σ H ρ σ H1 := .growT e
theorem Po.growE (e : ExG K H H1) : Po ρ σ H ρ σ H1 := .growT e.w
theorem hide_new {O : Addr → Prop} {p : Addr} {o : HO} (hO : ∀ a, O a → H a ≠ none) (h : H p = none) : hide O (upd H p o) p = some o := hide_some.2 ⟨fun w => hO p w h, upd_same⟩
theorem hide_grow {O : Addr → Prop} (e : Ex H H1) : Ex (hide O H) (hide O H1) := fun a o h => hide_some.2 ⟨(hide_some.1 h).1, e _ _ (hide_some.1 h).2⟩
end
abbrev DE := Env → (D → Env → Prop) → Prop
abbrev DT := Env → (Bool → Env → Prop) → Prop
abbrev DA := Env → (List D → Env → Prop) → Prop
structure DEnds where
  nx : Env → Prop
  rt : D → Env → Prop
  bk : Env → Prop := fun _ => False
  ct : Env → Prop := fun _ => False
  /-- an error of an own class, with the field that it keeps -/
  er : Str → Option (Str × D) → Prop := fun _ _ => False
def ErrA (K : PySem.W.Frag) (G H : Hp) (dd : Option Addr) : Option (Str × D) → Prop
  | some fd => ∃ a pv, dd = some a ∧ H a = some (.xd [(fd.1, pv)]) ∧ Rp K G pv fd.2
  | none => True
def ErrAt (K : PySem.W.Frag) (G H : Hp) (dd : Option Addr) (fd : Option (Str × D)) : Prop := TbOk K H ∧ ErrA K G H dd fd
def Wx (X : Cx) : L2.WX := fun cls d σ H => ∀ u s', L2.XE X (fun c e τ G => c = cls ∧ e = d ∧ τ = σ ∧ G = H) u s' → X.xe u s'
abbrev DS := DEnds → Env → Prop
abbrev DG := D → Env → (Env → Prop) → Prop
structure JE (X : Cx) (e : Expr) (f : DE) : Prop where
  ex : ∃ t, PE X e t ∧ ∀ (T : Addr → Prop) (ρ : Env) (σ : L2.St) (H : Hp) (QD : D → Env → Prop) (Q : VK), RS X.K T ρ σ H → f ρ QD →
    (∀ d ρ' v H', RS X.K T ρ' σ H' → Po ρ σ H ρ' σ H' → Rp X.K (hide (Hd T ρ' σ) H') v d → QD d ρ' → Q v H') → t σ H Q
structure JT (X : Cx) (e : Expr) (f : DT) : Prop where
  ex : ∃ t, PT X e t ∧ ∀ (T : Addr → Prop) (ρ : Env) (σ : L2.St) (H : Hp) (QD : Bool → Env → Prop) (Q : Bool → Hp → Prop), RS X.K T ρ σ H → f ρ QD →
    (∀ b ρ' H', RS X.K T ρ' σ H' → Po ρ σ H ρ' σ H' → QD b ρ' → Q b H') → t σ H Q
structure JA (X : Cx) (es : List Expr) (f : DA) : Prop where
  ex : ∃ t, PA X es t ∧ ∀ (T : Addr → Prop) (ρ : Env) (σ : L2.St) (H : Hp) (QD : List D → Env → Prop) (Q : List V → Hp → Prop), RS X.K T ρ σ H → f ρ QD →
    (∀ ds ρ' vs H', RS X.K T ρ' σ H' → Po ρ σ H ρ' σ H' → RpAll X.K (hide (Hd T ρ' σ) H') vs ds → QD ds ρ' → Q vs H') → t σ H Q
structure EndOk (K : PySem.W.Frag) (W : L2.WX) (T : Addr → Prop) (ρ : Env) (σ : L2.St) (H : Hp) (E : DEnds) (D : Ends) : Prop where
  nx : ∀ ρ' σ' H', RS K T ρ' σ' H' → Po ρ σ H ρ' σ' H' → E.nx ρ' → D.nx σ' H'
  rt : ∀ d ρ' σ' v H', RS K T ρ' σ' H' → Po ρ σ H ρ' σ' H' → Rp K (hide (Hd T ρ' σ') H') v d → E.rt d ρ' → D.rt v H'
  bk : ∀ ρ' σ' H', RS K T ρ' σ' H' → Po ρ σ H ρ' σ' H' → E.bk ρ' → D.bk σ' H'
  ct : ∀ ρ' σ' H', RS K T ρ' σ' H' → Po ρ σ H ρ' σ' H' → E.ct ρ' → D.ct σ' H'
  er : ∀ nm fd σ' dd H', Po ρ σ H [] σ' H' → ErrAt K (hide T H') H' dd fd → E.er nm fd → W (.ref (adrOf K nm)) dd σ' H'
structure JS (X : Cx) (st : Stmt) (f : DS) : Prop where
  ex : ∃ t, PS X st t ∧ ∀ (T : Addr → Prop) (ρ : Env) (σ : L2.St) (H : Hp) (E : DEnds) (D : Ends), RS X.K T ρ σ H → f E ρ → EndOk X.K (Wx X) T ρ σ H E D → t D σ H
structure JSs (X : Cx) (st : List Stmt) (f : DS) : Prop where
  ex : ∃ t, PSs X st t ∧ ∀ (T : Addr → Prop) (ρ : Env) (σ : L2.St) (H : Hp) (E : DEnds) (D : Ends), RS X.K T ρ σ H → f E ρ → EndOk X.K (Wx X) T ρ σ H E D → t D σ H
theorem EndOk.step {K : PySem.W.Frag} {W : L2.WX} {T : Addr → Prop} {ρ ρ1 : Env} {σ σ1 : L2.St} {H H1 : Hp} {E : DEnds} {D : Ends} (e : EndOk K W T ρ σ H E D) (p : Po ρ σ H ρ1 σ1 H1) : EndOk K W T ρ1 σ1 H1 E D :=
  ⟨fun a b c r q => e.nx a b c r (p.trans q), fun a b c d f r q => e.rt a b c d f r (p.trans q), fun a b c r q => e.bk a b c r (p.trans q), fun a b c r q => e.ct a b c r (p.trans q), fun a b c d f q => e.er a b c d f (p.trans q)⟩
section
variable {X : Cx} {a b c : Expr} {fa fb fc : DE} {pos : Pos}
def dVar (i : Nat) : DE := fun ρ Q => match ρ[i]? with
  | some (some (SV.im d)) => Q d ρ
  | _ => False
theorem je_var {i : Nat} {x : Str} (hN : X.N[i]? = some x) (hv : Vis X.env.scope x) (hd : (x == ("__debug__" : Str)) = false := by decide) (hcd : (x == ("__classdict__" : Str)) = false := by decide) : JE X (.Name x pos) (dVar i) := by
  refine ⟨tVar i, pe_var hN hv hd hcd, fun T ρ σ H QD Q r h k => ?_⟩
  unfold dVar at h
  split at h
  · rename_i d e
    obtain ⟨v, e1, e2⟩ := r.im i d e
    exact ⟨v, e1, k d ρ v H r .refl e2 h⟩
  · exact False.elim h
def dC (d : D) : DE := fun ρ Q => Q d ρ
theorem je_of {e : Expr} {v : V} {d : D} (h : PE X e (tC v)) (hr : ∀ G, Rp X.K G v d) : JE X e (dC d) := ⟨tC v, h, fun T ρ σ H QD Q r h k => k d ρ v H r .refl (hr _) h⟩
theorem je_int {i : Int} {j} : JE X (.Constant (.int i) j pos) (dC (.int i)) := je_of pe_int fun _ => .int i
theorem je_bl {i : Bool} {j} : JE X (.Constant (.bool i) j pos) (dC (.bool i)) := je_of pe_bl fun _ => .bl i
theorem je_non {j} : JE X (.Constant .none j pos) (dC .none) := je_of pe_non fun _ => .non
theorem je_str {x : Str} {j} : JE X (.Constant (.str x) j pos) (dC (.str x)) := je_of pe_str fun _ => .str x
theorem je_globI {x : Str} {i : Int} {t : Tok} (hm : X.mg x = some (.int i t)) (hg : Gl X x) (hd : (x == ("__debug__" : Str)) = false := by decide) : JE X (.Name x pos) (dC (.int i)) := je_of (pe_glob (v := V.int i) hg hm ⟨t, rfl⟩ hd) fun _ => .int i
structure OpD (X : Cx) (f : Value → Value → Sem Value) (op : D → D → (D → Prop) → Prop) : Prop where
  ex : ∃ r : R2, OpR X f r ∧ ∀ (O : Addr → Prop) (H : Hp) (x y : V) (d e : D) (QD : D → Prop) (Q : VK), (∀ a, O a → H a ≠ none) → Rp X.K (hide O H) x d → Rp X.K (hide O H) y e → op d e QD →
    (∀ z v H', Ex H H' → Rp X.K (hide O H') v z → QD z → Q v H') → r x y H Q
def dBin (op : D → D → (D → Prop) → Prop) (fa fb : DE) : DE := fun ρ Q => fa ρ fun x ρ1 => fb ρ1 fun y ρ2 => op x y fun z => Q z ρ2
theorem je_two {e : Expr} {op : D → D → (D → Prop) → Prop} {r : R2} (hr : ∀ (O : Addr → Prop) (H : Hp) (x y : V) (d e : D) (QD : D → Prop) (Q : VK), (∀ a, O a → H a ≠ none) → Rp X.K (hide O H) x d → Rp X.K (hide O H) y e → op d e QD →
    (∀ z v H', Ex H H' → Rp X.K (hide O H') v z → QD z → Q v H') → r x y H Q) (ha : JE X a fa) (hb : JE X b fb) (he : ∀ ta tb, PE X a ta → PE X b tb → PE X e (tOp r ta tb)) : JE X e (dBin op fa fb) := by
  obtain ⟨ta, pa, ka⟩ := ha.ex
  obtain ⟨tb, pb, kb⟩ := hb.ex
  refine ⟨_, he ta tb pa pb, fun T ρ σ H QD Q r h k => ?_⟩
  refine ka T ρ σ H _ _ r h fun d ρ1 v H1 r1 p1 v1 h1 => ?_
  refine kb T ρ1 σ H1 _ _ r1 h1 fun e ρ2 w H2 r2 p2 v2 h2 => ?_
  refine hr (Hd T ρ2 σ) H2 v w d e _ _ (fun a => r2.hdDom) (v1.monoW p2.fz) v2 h2 fun z u H3 e3 v3 h3 => ?_
  exact k z ρ2 u H3 (r2.grow e3) ((p1.trans p2).trans (.grow e3)) v3 h3
theorem je_bin {o : Operator} {op : D → D → (D → Prop) → Prop} (ho : OpD X (binaryOp o) op) (ha : JE X a fa) (hb : JE X b fb) : JE X (.BinOp a o b pos) (dBin op fa fb) := by
  obtain ⟨r, h1, h2⟩ := ho.ex
  exact je_two h2 ha hb fun _ _ => pe_op h1
theorem je_cmp {o : CmpOp} {op : D → D → (D → Prop) → Prop} (ho : OpD X (compareOp o) op) (ha : JE X a fa) (hb : JE X b fb) (hm : behindInMarks o b = false) : JE X (.Compare a [o] [b] pos) (dBin op fa fb) := by
  obtain ⟨r, h1, h2⟩ := ho.ex
  exact je_two h2 ha hb fun _ _ pa pb => pe_cmpR h1 pa pb hm
end
end Dn
set_option Elab.async false
set_option linter.all false
set_option maxRecDepth 100000
set_option autoImplicit false
set_option maxHeartbeats 2000000
namespace He
open PySem PySem.Spec PyProof.Rows L2 PySem.W
def obB (K : Frag) (nm : Str) : Bool := decide (Dn.adrOf K nm = ga K nm) && (eqO (findIn K (.ref (ga K nm)) "__class__") (some (some (.builtin "object.__class__"))) && (eqO (specialIn K (.builtin "object.__class__") "__get__") (some (some (.builtin "getset_descriptor.__get__"))) && (decide (takesIn K (.builtin "object.__class__") = some true) &&
  (decide ((clsIn K (ga K nm)).map (·.mro) = some [.ref (ga K nm), .type "object"]) && (decide (typeIn K (.ref (ga K nm)) = some (.type "type")) && (eqO (nsIn K cStatics "thirdparty.any") (some none) && eqO (findIn K (.ref (ga K nm)) "__ne__") (some (some (.builtin "object.__ne__")))))))))
end He
set_option Elab.async false
set_option linter.all false
set_option maxRecDepth 100000
set_option autoImplicit false
set_option maxHeartbeats 2000000
namespace He
open PySem PySem.Spec PyProof.Rows L2 PySem.W
def obsLG (as : List Addr) (bf : List (Str × String)) (fa : List Fa) (fn : List DefD) (xb : Frag → Bool) (xf : Frag → List FnB) (g : Addr → Option Obj) : AlD × List FnB := obsX bf fa fn xb xf (frG g as)
def hookL (as : List Addr) (bf : List (Str × String)) (fa : List Fa) (fn : List DefD) (xb : Frag → Bool) (xf : Frag → List FnB) (vals : List FnB) : Hook where
  α := AlD × List FnB
  obs := fun s => obsLG as bf fa fn xb xf s.heap.get?
  val := fun _ => (valD fn, vals)
  says := fun _ h => ∃ K : Frag, K.In h ∧ SaysX bf fa fn xb xf vals K
  of := fun _ _ e => ⟨_, frG_in, e⟩
  keeps := fun _ _ _ ⟨K, hK, c⟩ k => ⟨K, Frag.In.keeps hK k, c⟩
theorem obsLG_eq {as : List Addr} {bf : List (Str × String)} {fa : List Fa} {fn : List DefD} {xb : Frag → Bool} {xf : Frag → List FnB} {vals : List FnB} {g : Addr → Option Obj} {s : Shared} (h : ∀ a, g a = s.heap.get? a) : obsLG as bf fa fn xb xf g = (hookL as bf fa fn xb xf vals).obs s := by
  have e : g = s.heap.get? := funext h
  rw [e] <;> rfl
end He
set_option Elab.async false
set_option linter.all false
set_option maxRecDepth 100000
set_option autoImplicit false
set_option maxHeartbeats 4000000
namespace Dn
open PySem L2 Evl
section
variable {X : Cx} {a b c : Expr} {fa fb fc : DE} {pos : Pos}
theorem ex_new {O : Addr → Prop} {H : Hp} {p : Addr} {o : HO} (h : H p = none) : Ex (hide O H) (hide O (upd H p o)) := hide_grow (Ex.new h)
theorem rp_newL {K : PySem.W.Frag} {O : Addr → Prop} {H : Hp} {p : Addr} {vs : List V} {ds : List D} (hO : ∀ a, O a → H a ≠ none) (h : H p = none) (r : RpAll K (hide O H) vs ds) : Rp K (hide O (upd H p (.lst vs))) (.ref p) (.list ds) := .lst (hide_new hO h) (r.mono (ex_new h))
theorem rp_newT {K : PySem.W.Frag} {O : Addr → Prop} {H : Hp} {p : Addr} {o : HO} {vs : List V} {ds : List D} (hO : ∀ a, O a → H a ≠ none) (h : H p = none) (t : TO K o vs) (r : RpAll K (hide O H) vs ds) : Rp K (hide O (upd H p o)) (.ref p) (.tuple ds) := .tup ⟨o, hide_new hO h, t⟩ (r.mono (ex_new h))
theorem lt_of {K : PySem.W.Frag} {H : Hp} {a : Addr} {xs : List V} (h : TAt K H a xs) : SqT K H a xs := by
  obtain ⟨o, h, t⟩ := h
  exact t.sq h
theorem sqt_of {K : PySem.W.Frag} {O : Addr → Prop} {H : Hp} {a : Addr} {xs : List V} (h : TAt K (hide O H) a xs) : SqT K H a xs := lt_of (h.mono hide_ex)
theorem sql_of {K : PySem.W.Frag} {O : Addr → Prop} {H : Hp} {a : Addr} {xs : List V} (h : SqL K (hide O H) a xs) : SqL K H a xs := ex_l hide_ex h
theorem at_of {O : Addr → Prop} {H : Hp} {a : Addr} {o : HO} (h : hide O H a = some o) : H a = some o := (hide_some.1 h).2
def dAdd : D → D → (D → Prop) → Prop
  | .int i, .int j => fun Q => Q (.int (i + j))
  | .tuple xs, .tuple ys => fun Q => xs.length + ys.length ≤ 16777216 ∧ Q (.tuple (xs ++ ys))
  | .list xs, .list ys => fun Q => xs.length + ys.length ≤ 16777216 ∧ Q (.list (xs ++ ys))
  | .str x, .str y => fun Q => x.length + y.length ≤ 16777216 ∧ Q (.str (x ++ y))
  | _, _ => fun _ => False
theorem opd_add : OpD X (binaryOp .Add) dAdd := by
  refine ⟨_, .or op_add (.or op_catK (.or op_cat op_add_str)), fun O H x y d e QD Q hO rx ry h k => ?_⟩
  cases rx <;> cases ry <;> first | exact False.elim h | skip
  · exact .inl ⟨_, _, rfl, rfl, k _ _ H (.refl H) (.int _) h⟩
  · obtain ⟨hz, h⟩ := h
    exact .inr (.inr (.inr ⟨_, _, rfl, rfl, hz, k _ _ H (.refl H) (.str _) h⟩))
  · rename_i p xs ds hp rp q ys es hq rq
    obtain ⟨hz, h⟩ := h
    refine .inr (.inr (.inl ⟨_, _, _, _, rfl, rfl, at_of hp, at_of hq, by rw [rp.length, rq.length]; exact hz, fun l hl => k _ _ _ (Ex.new hl) (rp_newL hO hl (rp.append rq)) h⟩))
  · rename_i p xs ds hp rp q ys es hq rq
    obtain ⟨hz, h⟩ := h
    refine .inr (.inl ⟨_, _, _, _, rfl, rfl, sqt_of hp, sqt_of hq, by rw [rp.length, rq.length]; exact hz, fun e => ?_, fun _ e => ?_, fun _ _ l o hl t => k _ _ _ (Ex.new hl) (rp_newT hO hl t (rp.append rq)) h⟩)
    · subst e; cases rp; exact k _ _ H (.refl H) (.tup hq rq) h
    · subst e; cases rq; exact k _ _ H (.refl H) (.tup hp rp) (by simpa using h)
def dI2 (C : Int → Int → Prop) (g : Int → Int → D) : D → D → (D → Prop) → Prop
  | .int i, .int j => fun Q => C i j ∧ Q (g i j)
  | _, _ => fun _ => False
theorem opd_i2 {f : Value → Value → Sem Value} {C : Int → Int → Prop} {g : Int → Int → D} {gv : Int → Int → V} (ho : OpR X f (rI C gv)) (hg : ∀ i j G, Rp X.K G (gv i j) (g i j)) : OpD X f (dI2 C g) := by
  refine ⟨_, ho, fun O H x y d e QD Q hO rx ry h k => ?_⟩
  cases rx <;> cases ry <;> first | exact False.elim h | skip
  exact ⟨_, _, rfl, rfl, h.1, k _ _ H (.refl H) (hg _ _ _) h.2⟩
theorem opd_i2' {f : Value → Value → Sem Value} {g : Int → Int → D} {gv : Int → Int → V} (ho : OpR X f (rI0 gv)) (hg : ∀ i j G, Rp X.K G (gv i j) (g i j)) : OpD X f (dI2 (fun _ _ => True) g) := by
  refine ⟨_, ho, fun O H x y d e QD Q hO rx ry h k => ?_⟩
  cases rx <;> cases ry <;> first | exact False.elim h | skip
  exact ⟨_, _, rfl, rfl, k _ _ H (.refl H) (hg _ _ _) h.2⟩
abbrev dSub := dI2 (fun _ _ => True) fun i j => .int (i - j)
abbrev dFdiv := dI2 CDivW fun i j => .int (i / j)
abbrev dMod := dI2 (fun _ j => 0 < j) fun i j => .int (i % j)
abbrev dPow := dI2 CPow fun i j => .int (i ^ j.toNat)
abbrev dLt := dI2 (fun _ _ => True) fun i j => .bool (decide (i < j))
abbrev dLe := dI2 (fun _ _ => True) fun i j => .bool (decide (i ≤ j))
abbrev dGt := dI2 (fun _ _ => True) fun i j => .bool (decide (j < i))
theorem opd_sub : OpD X (binaryOp .Sub) dSub := opd_i2' op_sub fun _ _ _ => .int _
theorem opd_fdiv : OpD X (binaryOp .FloorDiv) dFdiv := opd_i2 op_fdivW fun _ _ _ => .int _
theorem opd_mod : OpD X (binaryOp .Mod) dMod := opd_i2 op_mod fun _ _ _ => .int _
theorem opd_pow : OpD X (binaryOp .Pow) dPow := opd_i2 op_pow fun _ _ _ => .int _
theorem opd_lt : OpD X (compareOp .Lt) dLt := opd_i2' op_lt fun _ _ _ => .bl _
theorem opd_le : OpD X (compareOp .LtE) dLe := opd_i2' op_le fun _ _ _ => .bl _
theorem opd_gt : OpD X (compareOp .Gt) dGt := opd_i2' op_gt fun _ _ _ => .bl _
mutual
theorem Rp.dp {K : PySem.W.Frag} {O : Addr → Prop} {H : Hp} : ∀ {v : V} {d : D}, Rp K (hide O H) v d → d.canLay0 = true → Dp K H v d
  | _, _, .non, _ => .non
  | _, _, .bl _, _ => .bl _
  | _, _, .int _, _ => .int _
  | _, _, .str _, _ => .str _
  | _, _, .lst h r, c => .lst (.inl (.inl (at_of h))) (RpAll.dp r (by simpa only [PyData.canLay0] using c))
  | _, _, .tup h r, c => .tup (sqt_of h) (RpAll.dp r (by simpa only [PyData.canLay0] using c))
  | _, _, .dct _ _ _, c => by simp [PyData.canLay0] at c
  | _, _, .frz _ _, c => by simp [PyData.canLay0] at c
  | _, _, .ins _ _ _ z, c => by subst z; simp [PyData.canLay0] at c
theorem RpAll.dp {K : PySem.W.Frag} {O : Addr → Prop} {H : Hp} : ∀ {v : List V} {d : List D}, RpAll K (hide O H) v d → PyData.canLayAll0 d = true → DpAll K H v d
  | _, _, .nil, _ => .nil
  | _, _, .cons h r, c => by
    simp only [PyData.canLayAll0, Bool.and_eq_true] at c
    exact .cons (Rp.dp h c.1) (RpAll.dp r c.2)
end
theorem shaped_lay {d : D} (h : SeqAt.shaped d = true) : d.canLay0 = true := by
  unfold SeqAt.shaped at h; rw [Bool.and_eq_true] at h; exact h.1
def dEq : D → D → (D → Prop) → Prop := fun x y Q => SeqAt.shaped x = true ∧ SeqAt.shaped y = true ∧ Q (.bool (PyData.eqv x y))
def dNe : D → D → (D → Prop) → Prop := fun x y Q => SeqAt.shaped x = true ∧ SeqAt.shaped y = true ∧ Q (.bool (!PyData.eqv x y))
theorem opd_eq (hu : X.A.units + 64 < cLine) : OpD X (compareOp .Eq) dEq := by
  refine ⟨_, op_eqD hu, fun O H x y d e QD Q hO rx ry h k => ?_⟩
  exact ⟨d, e, rx.dp (shaped_lay h.1), ry.dp (shaped_lay h.2.1), h.1, h.2.1, k _ _ H (.refl H) (.bl _) h.2.2⟩
theorem opd_ne (hu : X.A.units + 64 < cLine) : OpD X (compareOp .NotEq) dNe := by
  refine ⟨_, op_neD hu, fun O H x y d e QD Q hO rx ry h k => ?_⟩
  exact ⟨d, e, rx.dp (shaped_lay h.1), ry.dp (shaped_lay h.2.1), h.1, h.2.1, k _ _ H (.refl H) (.bl _) h.2.2⟩
def isN : D → Bool
  | .none => true
  | _ => false
theorem isN_rp {K : PySem.W.Frag} {G : Hp} {v : V} {d : D} (r : Rp K G v d) : decide (v = .non) = isN d := by cases r <;> simp [isN]
def dIs : D → D → (D → Prop) → Prop
  | x, .none => fun Q => Q (.bool (isN x))
  | .bool x, .bool y => fun Q => Q (.bool (decide (x = y)))
  | _, _ => fun _ => False
def dIsNot : D → D → (D → Prop) → Prop
  | x, .none => fun Q => Q (.bool (!isN x))
  | .bool x, .bool y => fun Q => Q (.bool (!decide (x = y)))
  | _, _ => fun _ => False
theorem opd_is : OpD X (compareOp .Is) dIs := by
  refine ⟨_, .or op_isN op_isBl, fun O H x y d e QD Q hO rx ry h k => ?_⟩
  cases ry with
  | non => refine .inl ⟨rfl, k _ _ H (.refl H) (.bl _) ?_⟩; rw [isN_rp rx]; cases d <;> exact h
  | bl y => cases rx <;> first | exact False.elim h | exact .inr ⟨_, _, rfl, rfl, k _ _ H (.refl H) (.bl _) h⟩
  | _ => cases rx <;> exact False.elim h
theorem opd_isnot : OpD X (compareOp .IsNot) dIsNot := by
  refine ⟨_, .or op_notN op_notBl, fun O H x y d e QD Q hO rx ry h k => ?_⟩
  cases ry with
  | non => refine .inl ⟨rfl, k _ _ H (.refl H) (.bl _) ?_⟩; rw [isN_rp rx]; cases d <;> exact h
  | bl y => cases rx <;> first | exact False.elim h | exact .inr ⟨_, _, rfl, rfl, k _ _ H (.refl H) (.bl _) h⟩
  | _ => cases rx <;> exact False.elim h
def dChain (op op' : D → D → (D → Prop) → Prop) (fa fb fc : DE) : DE := fun ρ Q => fa ρ fun x ρ1 => fb ρ1 fun y ρ2 => op x y fun z => match z with
  | .bool true => fc ρ2 fun w ρ3 => op' y w fun z => Q z ρ3
  | .bool false => Q (.bool false) ρ2
  | _ => False
theorem je_chain {o o' : CmpOp} {op op' : D → D → (D → Prop) → Prop} (ho : OpD X (compareOp o) op) (ho' : OpD X (compareOp o') op') (ha : JE X a fa) (hb : JE X b fb) (hc : JE X c fc) (hm : lastMarks [o, o'] [b, c] = false := by with_unfolding_all rfl) :
    JE X (.Compare a [o, o'] [b, c] pos) (dChain op op' fa fb fc) := by
  obtain ⟨r, h1, h2⟩ := ho.ex
  obtain ⟨r', h1', h2'⟩ := ho'.ex
  obtain ⟨ta, pa, ka⟩ := ha.ex
  obtain ⟨tb, pb, kb⟩ := hb.ex
  obtain ⟨tc, pc, kc⟩ := hc.ex
  refine ⟨_, pe_chain h1 h1' pa pb pc hm, fun T ρ σ H QD Q r h k => ?_⟩
  refine ka T ρ σ H _ _ r h fun d ρ1 v H1 r1 p1 v1 h => ?_
  refine kb T ρ1 σ H1 _ _ r1 h fun e ρ2 w H2 r2 p2 v2 h => ?_
  refine h2 (Hd T ρ2 σ) H2 v w d e _ _ (fun a => r2.hdDom) (v1.monoW p2.fz) v2 h fun z u H3 e3 v3 h => ?_
  have r3 := r2.grow e3
  have p3 : Po ρ2 σ H2 ρ2 σ H3 := .grow e3
  cases v3 with
  | bl q =>
    refine ⟨q, rfl, ?_⟩
    cases q with
    | false => exact k _ _ _ _ r3 ((p1.trans p2).trans p3) (.bl _) h
    | true =>
      rw [if_pos rfl]
      refine kc T ρ2 σ H3 _ _ r3 h fun g ρ4 y H4 r4 p4 v4 h => ?_
      refine h2' (Hd T ρ4 σ) H4 w y e g _ _ (fun a => r4.hdDom) ((v2.monoW p3.fz).monoW p4.fz) v4 h fun z u H5 e5 v5 h => ?_
      exact k z ρ4 u H5 (r4.grow e5) (((p1.trans p2).trans p3).trans (p4.trans (.grow e5))) v5 h
  | _ => exact False.elim h
def dAnd (fa fb : DE) : DE := fun ρ Q => fa ρ fun x ρ1 => match x with
  | .bool true => fb ρ1 Q
  | .bool false => Q (.bool false) ρ1
  | _ => False
def dOr (fa fb : DE) : DE := fun ρ Q => fa ρ fun x ρ1 => match x with
  | .bool true => Q (.bool true) ρ1
  | .bool false => fb ρ1 Q
  | _ => False
def dNot (fa : DE) : DE := fun ρ Q => fa ρ fun x ρ1 => match x with
  | .bool b => Q (.bool (!b)) ρ1
  | _ => False
variable {rest : List Expr}
theorem je_one {op} (ha : JE X a fa) : JE X (.BoolOp op [a] pos) fa := let ⟨t, p, k⟩ := ha.ex; ⟨t, pe_one p, k⟩
theorem je_and (ha : JE X a fa) (hb : JE X (.BoolOp .And (b :: rest) pos) fb) : JE X (.BoolOp .And (a :: b :: rest) pos) (dAnd fa fb) := by
  obtain ⟨ta, pa, ka⟩ := ha.ex
  obtain ⟨tb, pb, kb⟩ := hb.ex
  refine ⟨_, pe_and pa pb, fun T ρ σ H QD Q r h k => ?_⟩
  refine ka T ρ σ H _ _ r h fun d ρ1 v H1 r1 p1 v1 h => ?_
  cases v1 with
  | bl q =>
    refine ⟨q, rfl, ?_⟩
    cases q with
    | false => exact k _ _ _ _ r1 p1 (.bl _) h
    | true => exact kb T ρ1 σ H1 _ _ r1 h fun e ρ2 w H2 r2 p2 v2 h => k _ _ _ _ r2 (p1.trans p2) v2 h
  | _ => exact False.elim h
theorem je_not (ha : JE X a fa) : JE X (.UnaryOp .Not a pos) (dNot fa) := by
  obtain ⟨ta, pa, ka⟩ := ha.ex
  refine ⟨_, pe_not pa, fun T ρ σ H QD Q r h k => ?_⟩
  refine ka T ρ σ H _ _ r h fun d ρ1 v H1 r1 p1 v1 h => ?_
  cases v1 with
  | bl q => exact ⟨q, rfl, k _ _ _ _ r1 p1 (.bl _) h⟩
  | _ => exact False.elim h
def dNeg (fa : DE) : DE := fun ρ Q => fa ρ fun x ρ1 => match x with
  | .int i => Q (.int (-i)) ρ1
  | _ => False
theorem je_neg (ha : JE X a fa) : JE X (.UnaryOp .USub a pos) (dNeg fa) := by
  obtain ⟨ta, pa, ka⟩ := ha.ex
  refine ⟨_, pe_un un_neg pa, fun T ρ σ H QD Q r h k => ?_⟩
  refine ka T ρ σ H _ _ r h fun d ρ1 v H1 r1 p1 v1 h => ?_
  cases v1 with
  | int q => exact ⟨q, rfl, k _ _ _ _ r1 p1 (.int _) h⟩
  | _ => exact False.elim h
def dTst (fa : DE) : DT := fun ρ Q => fa ρ fun x ρ1 => match x with
  | .bool b => Q b ρ1
  | _ => False
theorem jt_val (ha : JE X a fa) (he : ∀ whole, isTrue a X.env whole = (do let v ← whole; standAt a.pos; holding [v] (truthy v)) := by intro _; rfl) : JT X a (dTst fa) := by
  obtain ⟨ta, pa, ka⟩ := ha.ex
  refine ⟨_, pt_val pa he, fun T ρ σ H QD Q r h k => ?_⟩
  refine ka T ρ σ H _ _ r h fun d ρ1 v H1 r1 p1 v1 h => ?_
  cases v1 with
  | bl q => exact ⟨q, rfl, k _ _ _ r1 p1 h⟩
  | _ => exact False.elim h
theorem jt_cmp {o : CmpOp} {op : D → D → (D → Prop) → Prop} (ho : OpD X (compareOp o) op) (ha : JE X a fa) (hb : JE X b fb) (hm : behindInMarks o b = false) : JT X (.Compare a [o] [b] pos) (dTst (dBin op fa fb)) := by
  obtain ⟨r, h1, h2⟩ := ho.ex
  obtain ⟨ta, pa, ka⟩ := ha.ex
  obtain ⟨tb, pb, kb⟩ := hb.ex
  refine ⟨_, pt_cmpR h1 pa pb hm, fun T ρ σ H QD Q r h k => ?_⟩
  refine ka T ρ σ H _ _ r h fun d ρ1 v H1 r1 p1 v1 h => ?_
  refine kb T ρ1 σ H1 _ _ r1 h fun e ρ2 w H2 r2 p2 v2 h => ?_
  refine h2 (Hd T ρ2 σ) H2 v w d e _ _ (fun a => r2.hdDom) (v1.monoW p2.fz) v2 h fun z u H3 e3 v3 h => ?_
  cases v3 with
  | bl q => exact ⟨q, rfl, k _ _ _ (r2.grow e3) ((p1.trans p2).trans (.grow e3)) h⟩
  | _ => exact False.elim h
def dTNot (f : DT) : DT := fun ρ Q => f ρ fun b ρ1 => Q (!b) ρ1
variable {gA gB : DT}
theorem jt_not (ha : JT X a gA) : JT X (.UnaryOp .Not a pos) (dTNot gA) := by
  obtain ⟨ta, pa, ka⟩ := ha.ex
  refine ⟨_, pt_not pa, fun T ρ σ H QD Q r h k => ?_⟩
  exact ka T ρ σ H _ _ r h fun d ρ1 H1 r1 p1 h => k _ _ _ r1 p1 h
def dTAnd (f g : DT) : DT := fun ρ Q => f ρ fun b ρ1 => if b = true then g ρ1 Q else Q false ρ1
def dTOr (f g : DT) : DT := fun ρ Q => f ρ fun b ρ1 => if b = true then Q true ρ1 else g ρ1 Q
structure JW (X : Cx) (e : Expr) (f : DT) : Prop where
  ex : ∃ t, PW X e t ∧ ∀ (T : Addr → Prop) (ρ : Env) (σ : L2.St) (H : Hp) (QD : Bool → Env → Prop) (Q : Bool → Hp → Prop), RS X.K T ρ σ H → f ρ QD →
    (∀ b ρ' H', RS X.K T ρ' σ H' → Po ρ σ H ρ' σ H' → QD b ρ' → Q b H') → t σ H Q
theorem JW.jt (h : JW X a gA) : JT X a gA := let ⟨t, p, k⟩ := h.ex; ⟨t, p.pt, k⟩
theorem jw_and1 (ha : JT X a gA) : JW X (.BoolOp .And [a] pos) gA := let ⟨t, p, k⟩ := ha.ex; ⟨t, pw_and1 p, k⟩
theorem jw_or1 (ha : JT X a gA) : JW X (.BoolOp .Or [a] pos) gA := let ⟨t, p, k⟩ := ha.ex; ⟨t, pw_or1 p, k⟩
theorem jw_and (ha : JT X a gA) (hb : JW X (.BoolOp .And (b :: rest) pos) gB) : JW X (.BoolOp .And (a :: b :: rest) pos) (dTAnd gA gB) := by
  obtain ⟨ta, pa, ka⟩ := ha.ex
  obtain ⟨tb, pb, kb⟩ := hb.ex
  refine ⟨_, pw_and pa pb, fun T ρ σ H QD Q r h k => ?_⟩
  refine ka T ρ σ H _ _ r h fun b ρ1 H1 r1 p1 h => ?_
  cases b with
  | true => exact kb T ρ1 σ H1 _ _ r1 h fun e ρ2 H2 r2 p2 h => k _ _ _ r2 (p1.trans p2) h
  | false => exact k _ _ _ r1 p1 h
theorem jw_or (ha : JT X a gA) (hb : JW X (.BoolOp .Or (b :: rest) pos) gB) : JW X (.BoolOp .Or (a :: b :: rest) pos) (dTOr gA gB) := by
  obtain ⟨ta, pa, ka⟩ := ha.ex
  obtain ⟨tb, pb, kb⟩ := hb.ex
  refine ⟨_, pw_or pa pb, fun T ρ σ H QD Q r h k => ?_⟩
  refine ka T ρ σ H _ _ r h fun b ρ1 H1 r1 p1 h => ?_
  cases b with
  | true => exact k _ _ _ r1 p1 h
  | false => exact kb T ρ1 σ H1 _ _ r1 h fun e ρ2 H2 r2 p2 h => k _ _ _ r2 (p1.trans p2) h
def dIfE (g : DT) (fa fb : DE) : DE := fun ρ Q => g ρ fun b ρ1 => if b = true then fa ρ1 Q else fb ρ1 Q
theorem je_if (hc : JT X c gA) (ha : JE X a fa) (hb : JE X b fb) : JE X (.IfExp c a b pos) (dIfE gA fa fb) := by
  obtain ⟨tc, pc, kc⟩ := hc.ex
  obtain ⟨ta, pa, ka⟩ := ha.ex
  obtain ⟨tb, pb, kb⟩ := hb.ex
  refine ⟨_, pe_ifExp pc pa pb, fun T ρ σ H QD Q r h k => ?_⟩
  refine kc T ρ σ H _ _ r h fun b ρ1 H1 r1 p1 h => ?_
  cases b with
  | true => exact ka T ρ1 σ H1 _ _ r1 h fun e ρ2 w H2 r2 p2 v2 h => k _ _ _ _ r2 (p1.trans p2) v2 h
  | false => exact kb T ρ1 σ H1 _ _ r1 h fun e ρ2 w H2 r2 p2 v2 h => k _ _ _ _ r2 (p1.trans p2) v2 h
end
end Dn
set_option Elab.async false
set_option linter.all false
set_option maxRecDepth 100000
set_option autoImplicit false
set_option maxHeartbeats 4000000
namespace Dn
open PySem L2 Evl
section
variable {K : PySem.W.Frag} {T T' : Addr → Prop} {ρ ρ' ρ1 : Env} {σ σ' σ1 : L2.St} {H H' H1 : Hp}
def plus (T : Addr → Prop) (p : Addr) : Addr → Prop := fun a => a = p ∨ T a
theorem hide_sub {O O' : Addr → Prop} (h : ∀ a, O' a → O a) : Ex (hide O H) (hide O' H) := fun a o e => hide_some.2 ⟨fun w => (hide_some.1 e).1 (h a w), (hide_some.1 e).2⟩
theorem RS.sub (r : RS K T ρ σ H) (h : ∀ a, T' a → T a) : RS K T' ρ σ H := by
  have e : Ex (hide (Hd T ρ σ) H) (hide (Hd T' ρ σ) H) := hide_sub fun a w => w.elim (fun t => .inl (h a t)) .inr
  refine ⟨r.len, fun i d q => ?_, fun i m q => ?_, r.inj, fun a t => r.dis a (h a t), fun a t => r.dom a (h a t), r.tag, r.tb⟩
  · obtain ⟨v, h1, h2⟩ := r.im i d q; exact ⟨v, h1, h2.mono e⟩
  · obtain ⟨a, o, h1, h2, h3⟩ := r.ow i m q; exact ⟨a, o, h1, h2, h3.mono e⟩
theorem RS.unplus {p : Addr} (r : RS K (plus T p) ρ σ H) : RS K T ρ σ H := r.sub fun _ t => .inr t
theorem hd_unplus {p : Addr} : Ex (hide (Hd (plus T p) ρ σ) H) (hide (Hd T ρ σ) H) := hide_sub fun a w => w.elim (fun t => .inl (.inr t)) .inr
theorem RS.laid {p : Addr} {o : HO} (r : RS K T ρ σ H) (h : H p = none) (hnt : ¬ TuO o := by exact id) (hnb : ¬ TbX o := by exact id) : RS K (plus T p) ρ σ (upd H p o) := by
  have r1 := r.grow (Ex.new (o := o) h)
  have e : Ex (hide (Hd T ρ σ) H) (hide (Hd (plus T p) ρ σ) (upd H p o)) := fun a u w => by
    obtain ⟨n, w⟩ := hide_some.1 w
    refine hide_some.2 ⟨?_, by rw [upd_ne (ne_of_none w h)]; exact w⟩
    rintro ((t | t) | t)
    · subst t; rw [h] at w; cases w
    · exact n (.inl t)
    · exact n (.inr t)
  refine ⟨r.len, fun i d q => ?_, fun i m q => ?_, r.inj, fun a t => ?_, fun a t => ?_, r.tag, r1.tb⟩
  · obtain ⟨v, h1, h2⟩ := r.im i d q; exact ⟨v, h1, h2.mono e⟩
  · obtain ⟨a, u, h1, h2, h3⟩ := r.ow i m q; exact ⟨a, u, h1, by rw [upd_ne (ne_of_none h2 h)]; exact h2, h3.mono e⟩
  · rcases t with t | t
    · subst t; intro w; exact r.ownDom w h
    · exact r.dis a t
  · rcases t with t | t
    · subst t; exact Lv.at hnt hnb
    · exact r1.dom a t
theorem hd_laid {p : Addr} {o : HO} (h : H p = none) : Ex (hide (Hd T ρ σ) H) (hide (Hd (plus T p) ρ σ) (upd H p o)) := fun a u w => by
  obtain ⟨n, w⟩ := hide_some.1 w
  refine hide_some.2 ⟨?_, by rw [upd_ne (ne_of_none w h)]; exact w⟩
  rintro ((t | t) | t)
  · subst t; rw [h] at w; cases w
  · exact n (.inl t)
  · exact n (.inr t)
theorem getset {α : Type} {l : List (Option α)} {i j : Nat} {x y : Option α} (h : (l.set i x)[j]? = some y) : (i = j ∧ i < l.length ∧ y = x) ∨ (i ≠ j ∧ l[j]? = some y) := by
  by_cases e : i = j
  · subst e
    by_cases l1 : i < l.length
    · rw [List.getElem?_set_self l1] at h; cases h; exact .inl ⟨rfl, l1, rfl⟩
    · rw [List.getElem?_eq_none_iff.mpr (by rw [List.length_set]; omega)] at h; cases h
  · rw [List.getElem?_set_ne e] at h; exact .inr ⟨e, h⟩
theorem own_setIm {i : Nat} {d : D} {v : Option V} {a : Addr} (w : Own (ρ.set i (some (SV.im d))) (σ.set i v) a) : Own ρ σ a := by
  obtain ⟨j, m, h1, h2⟩ := w
  rcases getset h1 with ⟨_, _, h⟩ | ⟨ne, h⟩
  · cases h
  · rw [List.getElem?_set_ne ne] at h2; exact ⟨j, m, h, h2⟩
theorem RS.setIm {i : Nat} {v : V} {d : D} (r : RS K T ρ σ H) (h : Rp K (hide (Hd T ρ σ) H) v d) : RS K T (ρ.set i (some (SV.im d))) (σ.set i (some v)) H := by
  have e : Ex (hide (Hd T ρ σ) H) (hide (Hd T (ρ.set i (some (SV.im d))) (σ.set i (some v))) H) := hide_sub fun a w => w.elim .inl fun w => .inr (own_setIm w)
  refine ⟨by simp [r.len], fun j d' q => ?_, fun j m q => ?_, fun j k m m' a q1 q2 q3 q4 => ?_, fun a t w => r.dis a t (own_setIm w), r.dom, fun j p m a q1 q2 => ?_, r.tb⟩
  · rcases getset q with ⟨e1, l, h1⟩ | ⟨ne, h1⟩
    · cases h1; subst e1
      exact ⟨v, List.getElem?_set_self (by rw [← r.len]; exact l), h.mono e⟩
    · obtain ⟨u, h2, h3⟩ := r.im j d' h1
      exact ⟨u, by rw [List.getElem?_set_ne ne]; exact h2, h3.mono e⟩
  · rcases getset q with ⟨_, _, h1⟩ | ⟨ne, h1⟩
    · cases h1
    · obtain ⟨a, o, h2, h3, h4⟩ := r.ow j m h1
      exact ⟨a, o, by rw [List.getElem?_set_ne ne]; exact h2, h3, h4.mono e⟩
  · rcases getset q1 with ⟨_, _, h1⟩ | ⟨n1, h1⟩
    · cases h1
    · rcases getset q2 with ⟨_, _, h2⟩ | ⟨n2, h2⟩
      · cases h2
      · rw [List.getElem?_set_ne n1] at q3; rw [List.getElem?_set_ne n2] at q4
        exact r.inj j k m m' a h1 h2 q3 q4
  · rcases getset q1 with ⟨_, _, h1⟩ | ⟨n1, h1⟩
    · cases h1
    · rw [List.getElem?_set_ne n1] at q2; exact r.tag j p m a h1 q2
theorem Po.setIm {i : Nat} {v : V} {d : D} : Po ρ σ H (ρ.set i (some (SV.im d))) (σ.set i (some v)) H := ⟨fun _ _ _ h _ => h, fun a w => .inl (own_setIm w), fun _ h => h⟩
theorem own_setOw {i : Nat} {m : MO} {p a : Addr} (w : Own (ρ.set i (some (SV.ow m))) (σ.set i (some (V.ref p))) a) : a = p ∨ Own ρ σ a := by
  obtain ⟨j, m', h1, h2⟩ := w
  rcases getset h1 with ⟨e, _, h⟩ | ⟨ne, h⟩
  · subst e
    rcases getset h2 with ⟨_, _, h⟩ | ⟨ne, _⟩
    · cases h; exact .inl rfl
    · exact absurd rfl ne
  · rw [List.getElem?_set_ne ne] at h2; exact .inr ⟨j, m', h, h2⟩
theorem RS.setOw {i : Nat} {p : Addr} {m : MO} {o : HO} (r : RS K (plus T p) ρ σ H) (ho : H p = some o) (h : RpO K (hide (Hd (plus T p) ρ σ) H) m o) (hT : ¬ T p) (hm : ∀ q m', m = .par q m' → p = q) : RS K T (ρ.set i (some (SV.ow m))) (σ.set i (some (V.ref p))) H := by
  have hp : ¬ Own ρ σ p := r.dis p (.inl rfl)
  have e : Ex (hide (Hd (plus T p) ρ σ) H) (hide (Hd T (ρ.set i (some (SV.ow m))) (σ.set i (some (V.ref p)))) H) := hide_sub fun a w => w.elim (fun t => .inl (.inr t)) fun w => (own_setOw w).elim (fun q => .inl (.inl q)) .inr
  refine ⟨by simp [r.len], fun j d' q => ?_, fun j m' q => ?_, fun j k m1 m2 a q1 q2 q3 q4 => ?_, fun a t w => ?_, fun a t => r.dom a (.inr t), fun j q m1 a q1 q2 => ?_, r.tb⟩
  · rcases getset q with ⟨_, _, h1⟩ | ⟨ne, h1⟩
    · cases h1
    · obtain ⟨u, h2, h3⟩ := r.im j d' h1
      exact ⟨u, by rw [List.getElem?_set_ne ne]; exact h2, h3.mono e⟩
  · rcases getset q with ⟨e1, l, h1⟩ | ⟨ne, h1⟩
    · cases h1; subst e1
      exact ⟨p, o, List.getElem?_set_self (by rw [← r.len]; exact l), ho, h.mono e⟩
    · obtain ⟨a, u, h2, h3, h4⟩ := r.ow j m' h1
      exact ⟨a, u, by rw [List.getElem?_set_ne ne]; exact h2, h3, h4.mono e⟩
  · rcases getset q1 with ⟨e1, l1, h1⟩ | ⟨n1, h1⟩
    · rcases getset q2 with ⟨e2, _, h2⟩ | ⟨n2, h2⟩
      · exact e1.symm.trans e2
      · subst e1
        rcases getset q3 with ⟨_, _, z⟩ | ⟨z, _⟩
        · cases z; rw [List.getElem?_set_ne n2] at q4; exact absurd ⟨k, m2, h2, q4⟩ hp
        · exact absurd rfl z
    · rcases getset q2 with ⟨e2, _, h2⟩ | ⟨n2, h2⟩
      · subst e2
        rcases getset q4 with ⟨_, _, z⟩ | ⟨z, _⟩
        · cases z; rw [List.getElem?_set_ne n1] at q3; exact absurd ⟨j, m1, h1, q3⟩ hp
        · exact absurd rfl z
      · rw [List.getElem?_set_ne n1] at q3; rw [List.getElem?_set_ne n2] at q4
        exact r.inj j k m1 m2 a h1 h2 q3 q4
  · rcases own_setOw w with w | w
    · subst w; exact hT t
    · exact r.dis a (.inr t) w
  · rcases getset q1 with ⟨e1, _, h1⟩ | ⟨n1, h1⟩
    · cases h1; subst e1
      rcases getset q2 with ⟨_, _, h2⟩ | ⟨z, _⟩
      · cases h2; exact hm _ _ rfl
      · exact absurd rfl z
    · rw [List.getElem?_set_ne n1] at q2; exact r.tag j q m1 a h1 q2
theorem Po.setOw {i : Nat} {p : Addr} {m : MO} (q : Po ρ σ H ρ1 σ1 H1) (hp : H p = none) : Po ρ σ H (ρ1.set i (some (SV.ow m))) (σ1.set i (some (V.ref p))) H1 :=
  ⟨fun a o n h nt => q.keep a o n h nt, fun a w => (own_setOw w).elim (fun e => by subst e; exact .inr hp) (q.own a), q.dom⟩
theorem RS.write {i : Nat} {p : Addr} {m m' : MO} {o' : HO} (r : RS K T ρ σ H) (hm : ρ[i]? = some (some (SV.ow m))) (hp : σ[i]? = some (some (V.ref p))) (h : RpO K (hide (Hd T ρ σ) H) m' o') (ht : ∀ q m1, m' = .par q m1 → p = q) : RS K T (ρ.set i (some (SV.ow m'))) σ (upd H p o') := by
  have hO : Own ρ σ p := ⟨i, m, hm, hp⟩
  have hw : ∀ a, Own (ρ.set i (some (SV.ow m'))) σ a → Own ρ σ a := fun a ⟨j, m1, h1, h2⟩ => by
    rcases getset h1 with ⟨e, _, _⟩ | ⟨_, h1⟩
    · subst e; rw [hp] at h2; cases h2; exact hO
    · exact ⟨j, m1, h1, h2⟩
  have e : Ex (hide (Hd T ρ σ) H) (hide (Hd T (ρ.set i (some (SV.ow m'))) σ) (upd H p o')) := fun a u w => by
    obtain ⟨n, w⟩ := hide_some.1 w
    have ne : a ≠ p := fun z => n (.inr (z ▸ hO))
    refine hide_some.2 ⟨fun z => n (z.elim .inl fun z => .inr (hw a z)), by rw [upd_ne ne]; exact w⟩
  have il : i < ρ.length := (List.getElem?_eq_some_iff.mp hm).1
  refine ⟨by simp [r.len], fun j d' q => ?_, fun j m1 q => ?_, fun j k m1 m2 a q1 q2 q3 q4 => ?_, fun a t w => r.dis a t (hw a w), fun a t => ?_, fun j q m1 a q1 q2 => ?_, r.tbW hO⟩
  · rcases getset q with ⟨_, _, h1⟩ | ⟨ne, h1⟩
    · cases h1
    · obtain ⟨u, h2, h3⟩ := r.im j d' h1
      exact ⟨u, h2, h3.mono e⟩
  · rcases getset q with ⟨e1, l, h1⟩ | ⟨ne, h1⟩
    · cases h1; subst e1
      exact ⟨p, o', hp, upd_same, h.mono e⟩
    · obtain ⟨a, u, h2, h3, h4⟩ := r.ow j m1 h1
      have ne' : a ≠ p := fun z => by subst z; exact ne (r.inj i j m m1 a hm h1 hp h2)
      exact ⟨a, u, h2, by rw [upd_ne ne']; exact h3, h4.mono e⟩
  · have back : ∀ (j : Nat) (m1 : MO), (ρ.set i (some (SV.ow m')))[j]? = some (some (SV.ow m1)) → ∃ m2 : MO, ρ[j]? = some (some (SV.ow m2)) := fun j m1 q => by
      rcases getset q with ⟨e, _, _⟩ | ⟨_, h⟩
      · subst e; exact ⟨m, hm⟩
      · exact ⟨m1, h⟩
    obtain ⟨_, h1⟩ := back j m1 q1
    obtain ⟨_, h2⟩ := back k m2 q2
    exact r.inj j k _ _ a h1 h2 q3 q4
  · have ne : a ≠ p := fun z => by subst z; exact r.dis a t hO
    exact (r.dom a t).upd ne
  · rcases getset q1 with ⟨e1, _, h1⟩ | ⟨_, h1⟩
    · cases h1; subst e1; rw [hp] at q2; cases q2; exact ht _ _ rfl
    · exact r.tag j q m1 a h1 q2
theorem Po.write {i : Nat} {p : Addr} {m m' : MO} {o' : HO} (hm : ρ[i]? = some (some (SV.ow m))) (hp : σ[i]? = some (some (V.ref p))) : Po ρ σ H (ρ.set i (some (SV.ow m'))) σ (upd H p o') := by
  have hO : Own ρ σ p := ⟨i, m, hm, hp⟩
  refine ⟨fun a o n h _ => by rw [upd_ne (fun z => n (by subst z; exact hO))]; exact h, fun a ⟨j, m1, h1, h2⟩ => ?_, fun a h => ?_⟩
  · rcases getset h1 with ⟨e, _, _⟩ | ⟨_, h1⟩
    · subst e; rw [hp] at h2; cases h2; exact .inl hO
    · exact .inl ⟨j, m1, h1, h2⟩
  · by_cases e : a = p
    · subst e; rw [upd_same]; simp
    · rw [upd_ne e]; exact h
theorem own_freeze {i : Nat} {d : D} {a : Addr} (w : Own (ρ.set i (some (SV.im d))) σ a) : Own ρ σ a := by
  obtain ⟨j, m, h1, h2⟩ := w
  rcases getset h1 with ⟨_, _, h⟩ | ⟨ne, h⟩
  · cases h
  · exact ⟨j, m, h, h2⟩
theorem RS.freeze {i : Nat} {ds : List D} (r : RS K T ρ σ H) (hm : ρ[i]? = some (some (SV.ow (.lst ds)))) : RS K T (ρ.set i (some (SV.im (.list ds)))) σ H := by
  obtain ⟨p, o, hp, ho, hr⟩ := r.ow i _ hm
  have hO : Own ρ σ p := ⟨i, _, hm, hp⟩
  have e : Ex (hide (Hd T ρ σ) H) (hide (Hd T (ρ.set i (some (SV.im (.list ds)))) σ) H) := hide_sub fun a w => w.elim .inl fun w => .inr (own_freeze w)
  have vis : hide (Hd T (ρ.set i (some (SV.im (.list ds)))) σ) H p = some o := hide_some.2 ⟨fun w => by
    rcases w with w | ⟨j, m, h1, h2⟩
    · exact r.dis p w hO
    · rcases getset h1 with ⟨_, _, h⟩ | ⟨ne, h⟩
      · cases h
      · exact ne (r.inj i j _ m p hm h hp h2), ho⟩
  refine ⟨by simp [r.len], fun j d' q => ?_, fun j m1 q => ?_, fun j k m1 m2 a q1 q2 q3 q4 => ?_, fun a t w => r.dis a t (own_freeze w), r.dom, fun j q m1 a q1 q2 => ?_, r.tb⟩
  · rcases getset q with ⟨e1, l, h1⟩ | ⟨ne, h1⟩
    · cases h1; subst e1
      cases o with
      | lst vs => exact ⟨.ref p, hp, .lst vis (RpAll.mono e hr)⟩
      | _ => exact False.elim hr
    · obtain ⟨u, h2, h3⟩ := r.im j d' h1
      exact ⟨u, h2, h3.mono e⟩
  · rcases getset q with ⟨_, _, h1⟩ | ⟨ne, h1⟩
    · cases h1
    · obtain ⟨a, u, h2, h3, h4⟩ := r.ow j m1 h1
      exact ⟨a, u, h2, h3, h4.mono e⟩
  · rcases getset q1 with ⟨_, _, h1⟩ | ⟨_, h1⟩
    · cases h1
    · rcases getset q2 with ⟨_, _, h2⟩ | ⟨_, h2⟩
      · cases h2
      · exact r.inj j k m1 m2 a h1 h2 q3 q4
  · rcases getset q1 with ⟨_, _, h1⟩ | ⟨_, h1⟩
    · cases h1
    · exact r.tag j q m1 a h1 q2
theorem Po.freeze {i : Nat} {d : D} : Po ρ σ H (ρ.set i (some (SV.im d))) σ H := ⟨fun _ _ _ h _ => h, fun a w => .inl (own_freeze w), fun _ h => h⟩
end
end Dn
set_option Elab.async false
set_option linter.all false
set_option maxRecDepth 100000
set_option autoImplicit false
set_option maxHeartbeats 4000000
namespace Dn
open PySem L2 Evl
def Fits (K : PySem.W.Frag) (T : Addr → Prop) (ρ : Env) (σ : L2.St) (H0 H : Hp) (v : V) : SV → Prop
  | .im d => RS K T ρ σ H ∧ Rp K (hide (Hd T ρ σ) H) v d
  | .ow m => ∃ p o, v = .ref p ∧ H0 p = none ∧ H p = some o ∧ RS K (plus T p) ρ σ H ∧ RpO K (hide (Hd (plus T p) ρ σ) H) m o ∧ ∀ q m', m = .par q m' → False
abbrev DX := Env → (SV → Env → Prop) → Prop
structure JX (X : Cx) (e : Expr) (f : DX) : Prop where
  ex : ∃ t, PE X e t ∧ ∀ (T : Addr → Prop) (ρ : Env) (σ : L2.St) (H : Hp) (QD : SV → Env → Prop) (Q : VK), RS X.K T ρ σ H → f ρ QD →
    (∀ d ρ' v H', Fits X.K T ρ' σ H H' v d → Po ρ σ H ρ' σ H' → QD d ρ' → Q v H') → t σ H Q
abbrev DL := Env → (List D → Env → Prop) → Prop
structure JL (X : Cx) (e : Expr) (f : DL) : Prop where
  ex : ∃ t, PE X e t ∧ ∀ (T : Addr → Prop) (ρ : Env) (σ : L2.St) (H : Hp) (QD : List D → Env → Prop) (Q : VK), RS X.K T ρ σ H → f ρ QD →
    (∀ ds ρ' p vs H', H p = none → H' p = some (.lst vs) → RS X.K (plus T p) ρ' σ H' → RpAll X.K (hide (Hd (plus T p) ρ' σ) H') vs ds → Po ρ σ H ρ' σ H' → QD ds ρ' → Q (.ref p) H') → t σ H Q
section
variable {X : Cx} {a b c e : Expr} {fa fb fc : DE} {pos : Pos} {es : List Expr}
def xIm (f : DE) : DX := fun ρ Q => f ρ fun d => Q (.im d)
def xOw (f : DL) : DX := fun ρ Q => f ρ fun ds => Q (.ow (.lst ds))
def dOfL (f : DL) : DE := fun ρ Q => f ρ fun ds => Q (.list ds)
theorem JE.jx (h : JE X e fa) : JX X e (xIm fa) := let ⟨t, p, k⟩ := h.ex; ⟨t, p, fun T ρ σ H QD Q r h q => k T ρ σ H _ _ r h fun d ρ' v H' r' p' v' h' => q (SV.im d) ρ' v H' ⟨r', v'⟩ p' h'⟩
theorem JL.jx {f : DL} (h : JL X e f) : JX X e (xOw f) := let ⟨t, p, k⟩ := h.ex; ⟨t, p, fun T ρ σ H QD Q r h q => k T ρ σ H _ _ r h fun ds ρ' p vs H' n s r' v' p' h' => q (SV.ow (.lst ds)) ρ' (.ref p) H' ⟨p, .lst vs, rfl, n, s, r', v', fun _ _ z => nomatch z⟩ p' h'⟩
theorem JL.je {f : DL} (h : JL X e f) : JE X e (dOfL f) := by
  obtain ⟨t, p, k⟩ := h.ex
  refine ⟨t, p, fun T ρ σ H QD Q r h q => k T ρ σ H _ _ r h fun ds ρ' p vs H' n s r' v' p' h' => ?_⟩
  refine q _ _ _ _ r'.unplus p' (.lst (hide_some.2 ⟨?_, s⟩) (v'.mono hd_unplus)) h'
  rintro (w | w)
  · exact (r.dom p w).1 n
  · exact r'.dis p (.inl rfl) w
def aNil : DA := fun ρ Q => Q [] ρ
def aCons (f : DE) (g : DA) : DA := fun ρ Q => f ρ fun d ρ1 => g ρ1 fun ds ρ2 => Q (d :: ds) ρ2
theorem ja_nil : JA X [] aNil := ⟨tNil, pa_nil, fun T ρ σ H QD Q r h q => q _ _ _ _ r .refl .nil h⟩
theorem ja_cons {g : DA} (ha : JE X e fa) (hr : JA X es g) (hs : starEach (e :: es) X.env = (false, eval e X.env) :: starEach es X.env := by rfl) : JA X (e :: es) (aCons fa g) := by
  obtain ⟨ta, pa, ka⟩ := ha.ex
  obtain ⟨tr, pr, kr⟩ := hr.ex
  refine ⟨_, pa_cons pa pr hs, fun T ρ σ H QD Q r h q => ?_⟩
  refine ka T ρ σ H _ _ r h fun d ρ1 v H1 r1 p1 v1 h => kr T ρ1 σ H1 _ _ r1 h fun ds ρ2 vs H2 r2 p2 v2 h => ?_
  exact q _ _ _ _ r2 (p1.trans p2) (.cons (v1.monoW p2.fz) v2) h
def dTup (g : DA) : DE := fun ρ Q => g ρ fun ds ρ1 => ds.length ≤ 16777216 ∧ Q (.tuple ds) ρ1
def lLst (g : DA) : DL := fun ρ Q => g ρ fun ds ρ1 => ds.length ≤ 16777216 ∧ Q ds ρ1
theorem je_tup {g : DA} {x1} (h : JA X es g) : JE X (.Tuple es x1 pos) (dTup g) := by
  obtain ⟨t, p, k⟩ := h.ex
  refine ⟨_, pe_tupK p, fun T ρ σ H QD Q r h q => k T ρ σ H _ _ r h fun ds ρ' vs H' r' p' v' h' => ⟨by rw [v'.length]; exact h'.1, fun l o hl t => ?_⟩⟩
  exact q _ _ _ _ (r'.grow (Ex.new hl)) (p'.trans (.grow (Ex.new hl))) (rp_newT (fun a => r'.hdDom) hl t v') h'.2
theorem jl_lst {g : DA} (h : JA X es g) : JL X (.List es pos) (lLst g) := by
  obtain ⟨t, p, k⟩ := h.ex
  refine ⟨_, pe_lst p, fun T ρ σ H QD Q r h q => k T ρ σ H _ _ r h fun ds ρ' vs H' r' p' v' h' => ⟨by rw [v'.length]; exact h'.1, fun l hl => ?_⟩⟩
  refine q _ _ _ _ _ ?_ upd_same (r'.laid hl) (v'.mono (hd_laid hl)) (p'.trans (.grow (Ex.new hl))) h'.2
  cases z : H l with
  | none => rfl
  | some o => exact absurd hl (p'.dom l (by rw [z]; simp))
def seqD : D → Option (List D)
  | .list ds => some ds
  | .tuple ds => some ds
  | .dict [(.none, .tuple ds)] => some ds
  | _ => none
theorem seq_dk (kvs : List (Key × D)) : seqD (.dict (dkD kvs)) = none := by
  cases kvs with
  | nil => rfl
  | cons p r => obtain ⟨k, d⟩ := p; cases k <;> rfl
theorem seq_rp {K : PySem.W.Frag} {O : Addr → Prop} {H : Hp} {v : V} {d : D} {ds : List D} (r : Rp K (hide O H) v d) (h : seqD d = some ds) : ∃ p xs, v = .ref p ∧ (SqL K H p xs ∨ SqT K H p xs) ∧ RpAll K (hide O H) xs ds := by
  cases r
  case ins h1 h2 h3 h4 =>
    subst h4
    simp [seqD, obL] at h
  case dct kws kvs dd h1 h2 h3 =>
    subst h3
    cases kvs with
    | nil => simp [seqD, dkD] at h
    | cons p r => obtain ⟨k, d⟩ := p; cases k <;> simp [seqD, dkD, keyB] at h
  all_goals simp only [seqD, Option.some.injEq, reduceCtorEq] at h
  · subst h; exact ⟨_, _, rfl, .inl (.inl (.inl (at_of (by assumption)))), by assumption⟩
  · subst h; exact ⟨_, _, rfl, .inr (sqt_of (by assumption)), by assumption⟩
  · subst h; exact ⟨_, _, rfl, .inl (sql_of (by assumption)), by assumption⟩
theorem atI_rp {K : PySem.W.Frag} {G : Hp} {vs : List V} {ds : List D} {i : Int} {d : D} (r : RpAll K G vs ds) (h : atI ds i = some d) : ∃ v, atI vs i = some v ∧ Rp K G v d := by
  unfold atI at h ⊢
  rw [r.length]
  cases e : ixN ds.length i with
  | none => rw [e] at h; cases h
  | some j =>
    rw [e] at h
    exact r.get (show ds[j]? = some d from h)
def dIx : D → D → (D → Prop) → Prop := fun x y Q => match seqD x, y with
  | some ds, .int i => ∃ d, atI ds i = some d ∧ Q d
  | _, _ => False
theorem ix_two {O : Addr → Prop} {H : Hp} {x y : V} {d e : D} {QD : D → Prop} {Q : VK} (rx : Rp X.K (hide O H) x d) (ry : Rp X.K (hide O H) y e) (h : dIx d e QD)
    (k : ∀ z v H', Ex H H' → Rp X.K (hide O H') v z → QD z → Q v H') : rIxL X.K x y H Q ∨ rIxT X.K x y H Q := by
  unfold dIx at h
  split at h
  · rename_i ds i e1
    obtain ⟨z, h1, h2⟩ := h
    obtain ⟨p, xs, rfl, hs, r⟩ := seq_rp rx e1
    obtain ⟨v, h3, h4⟩ := atI_rp r h1
    cases ry
    rcases hs with hs | hs
    · exact .inl ⟨_, _, _, _, rfl, rfl, hs, h3, k _ _ H (.refl H) h4 h2⟩
    · exact .inr ⟨_, _, _, _, rfl, rfl, hs, h3, k _ _ H (.refl H) h4 h2⟩
  · exact False.elim h
theorem je_ix (ha : JE X a fa) (hb : JE X b fb) (hs : PlainIx b := by exact fun _ _ => rfl) : JE X (.Subscript a b pos) (dBin dIx fa fb) :=
  je_two (fun O H x y d e QD Q hO rx ry h k => ix_two rx ry h k) ha hb fun _ _ pa pb => pe_ix (.or ix_list ix_tup) pa pb hs
def cutD (xs : List D) (lo hi : Option Int) : List D := (xs.drop (HT.sIx xs.length 0 lo)).take (HT.sIx xs.length xs.length hi - HT.sIx xs.length 0 lo)
theorem cut_rp {K : PySem.W.Frag} {G : Hp} {vs : List V} {ds : List D} (r : RpAll K G vs ds) (lo hi : Option Int) : RpAll K G (cutV vs lo hi) (cutD ds lo hi) := by
  unfold cutV cutD; rw [r.length]; exact (r.drop _).take _
abbrev DO := Env → (Option Int → Env → Prop) → Prop
structure JO (X : Cx) (e : Option Expr) (f : DO) : Prop where
  ex : ∃ t, PO X e t ∧ ∀ (T : Addr → Prop) (ρ : Env) (σ : L2.St) (H : Hp) (QD : Option Int → Env → Prop) (Q : Option Int → Hp → Prop), RS X.K T ρ σ H → f ρ QD →
    (∀ d ρ' H', RS X.K T ρ' σ H' → Po ρ σ H ρ' σ H' → QD d ρ' → Q d H') → t σ H Q
def oNone : DO := fun ρ Q => Q none ρ
def oSome (f : DE) : DO := fun ρ Q => f ρ fun d ρ1 => match d with
  | .int i => Q (some i) ρ1
  | _ => False
theorem jo_none : JO X none oNone := ⟨tNoPart, po_none, fun T ρ σ H QD Q r h q => q _ _ _ r .refl h⟩
theorem jo_some (ha : JE X a fa) : JO X (some a) (oSome fa) := by
  obtain ⟨ta, pa, ka⟩ := ha.ex
  refine ⟨_, po_some pa, fun T ρ σ H QD Q r h q => ka T ρ σ H _ _ r h fun d ρ1 v H1 r1 p1 v1 h => ?_⟩
  cases v1 with
  | int i => exact ⟨i, rfl, q _ _ _ r1 p1 h⟩
  | _ => exact False.elim h
def dSl (fa : DE) (lo hi : DO) : DE := fun ρ Q => fa ρ fun x ρ1 => lo ρ1 fun l ρ2 => hi ρ2 fun u ρ3 => match x with
  | .list ds => Q (.list (cutD ds l u)) ρ3
  | .tuple ds => Q (.tuple (cutD ds l u)) ρ3
  | _ => False
theorem sl_or {r r' : V → Option Int → Option Int → Hp → VK → Prop} (h : SlR X r) (h' : SlR X r') : SlR X (fun x lo hi H Q => r x lo hi H Q ∨ r' x lo hi H Q) := by
  intro pins s σ H x v vl vu lo hi sl Q I rx hs pl pu q
  rcases q with q | q
  · exact h pins s σ H x v vl vu lo hi sl Q I rx hs pl pu q
  · exact h' pins s σ H x v vl vu lo hi sl Q I rx hs pl pu q
theorem cut_whole {xs : List D} {lo hi : Option Int} (h : HT.sIx xs.length 0 lo = 0 ∧ HT.sIx xs.length xs.length hi = xs.length) : cutD xs lo hi = xs := by
  unfold cutD; rw [h.1, h.2]; simp
theorem je_sl {lo hi : Option Expr} {fl fh : DO} {p2 : Pos} (ha : JE X a fa) (hl : JO X lo fl) (hh : JO X hi fh) : JE X (.Subscript a (.Slice lo hi none p2) pos) (dSl fa fl fh) := by
  obtain ⟨ta, pa, ka⟩ := ha.ex
  obtain ⟨tl, pl, kl⟩ := hl.ex
  obtain ⟨th, ph, kh⟩ := hh.ex
  refine ⟨_, pe_slice (sl_or sl_list sl_tupK) pa pl ph, fun T ρ σ H QD Q r h q => ka T ρ σ H _ _ r h fun d ρ1 v H1 r1 p1 v1 h => kl T ρ1 σ H1 _ _ r1 h fun l ρ2 H2 r2 p2 h => kh T ρ2 σ H2 _ _ r2 h fun u ρ3 H3 r3 p3 h => ?_⟩
  have v3 := (v1.monoW p2.fz).monoW p3.fz
  have p := (p1.trans p2).trans p3
  cases v3 with
  | lst hp rr =>
    exact .inl ⟨_, _, rfl, .inl (.inl (at_of hp)), fun n hn => q _ _ _ _ (r3.grow (Ex.new hn)) (p.trans (.grow (Ex.new hn))) (rp_newL (fun a => r3.hdDom) hn (cut_rp rr l u)) h⟩
  | tup hp rr =>
    refine .inr ⟨_, _, rfl, sqt_of hp, fun w => ?_, fun w n o hn t => q _ _ _ _ (r3.grow (Ex.new hn)) (p.trans (.grow (Ex.new hn))) (rp_newT (fun a => r3.hdDom) hn t (cut_rp rr l u)) h⟩
    rw [rr.length] at w
    dsimp only at h; rw [cut_whole w] at h
    exact q _ _ _ _ r3 p (.tup hp rr) h
  | _ => exact False.elim h
end
end Dn
set_option Elab.async false
set_option linter.all false
set_option maxRecDepth 100000
set_option autoImplicit false
set_option maxHeartbeats 4000000
namespace FnT
open PySem PySem.W PySem.Calls PyProof.Rows
theorem ga : Slot "function" "__getattribute__" "object.__getattribute__" :=
  .of (owner := "object") (n := "__getattribute__") (by rw [typeLookup_type, builtinLookup_eq_fast]; kernel_rfl) (by decide +kernel) (by decide +kernel) (by decide +kernel) (.inl (by decide +kernel)) (by rw [isSubtype_type]; kernel_rfl)
theorem lk : typeLookup (.type "function") "__class__" = pure (some (.builtin "object.__class__")) := by rw [typeLookup_type, builtinLookup_eq_fast]; kernel_rfl
theorem sub : isSubtype (.type "function") (.type (".".intercalate ("object.__class__".cutAt '.').dropLast)) = pure true := by rw [F.owner_object_class, isSubtype_type]; kernel_rfl
section
variable {prog : Program} {w : World} {A : Around} {E : Value → Shared → Prop} {s : Shared} {f : Addr}
theorem cls (p : KitAt f "function" s.heap) {Q : Option Value → Shared → Prop} (h : Q (some (.type "function")) { s with toks := s.toks + 1 }) : wpAny (model prog w) A (getAttr? (.ref f) "__class__") Q E s := by
  obtain ⟨hh, g, dr, t, os⟩ := s
  obtain ⟨o, h1, h2⟩ := p
  have ty : ∀ t', (⟨hh, g, dr, t', os⟩ : Shared).TypeIs (.ref f) "function" := fun _ => ⟨o, h1, h2⟩
  have tg : ∀ t', (⟨hh, g, dr, t', os⟩ : Shared).TypeIs (.builtin "object.__class__") "getset_descriptor" := fun _ => F.typeOf_object_class
  have get : ∀ (A : Around) t' (R : Result → Shared → Prop), R (.ok (.ret (.type "function"))) ⟨hh, g, dr, t', os⟩ → codeAny (model prog w) A (.call (.builtin "getset_descriptor.__get__") ⟨[.builtin "object.__class__", .ref f, .type "function"], []⟩) R ⟨hh, g, dr, t', os⟩ := fun A t' R hq => by
    have T1 := ty t'
    have T2 := tg t'
    have k := sub
    refine codeAny_call_builtin F.slot_gs_get.plain F.entry_gs_get (F.slot_gs_get.check _ _ _ _ _ _ _ _ T2 (F.args_gs_get _ _ _) ?_)
    repeat (any_goals (first | assumption | wp_step))
    refine ⟨Code.quiet_builtin _ (by decide +kernel), codeAny_builtin F.entry_object_class ?_⟩
    repeat (any_goals (first | assumption | wp_step))
  have run : ∀ (A : Around) t' (tk : Tok) (R : Result → Shared → Prop), R (.ok (.ret (.type "function"))) ⟨hh, g, dr, t', os⟩ → codeAny (model prog w) A (.call (.builtin "object.__getattribute__") ⟨[.ref f, .str "__class__" tk], []⟩) R ⟨hh, g, dr, t', os⟩ := fun A t' tk R hq => by
    have T1 := ty t'
    have T2 := tg t'
    have k4 := lk
    have k5 := F.typeOf_object_class
    have k6 := F.slot_gs_get.lookup
    have k7 := F.slot_gs_set.lookup
    refine codeAny_call_builtin ga.plain F.entry_object_getattribute (ga.check _ _ _ _ _ _ _ _ T1 (F.args_object_getattribute_2 _ _) ?_)
    repeat (any_goals (first | assumption | wp_step))
    refine get _ t' _ ?_
    repeat (any_goals (first | assumption | wp_step))
  have T0 := ty t
  have T1 := ty (t + 1)
  have k2 := ga.lookup
  have k3 := ga.bind (.ref f)
  unfold getAttr? getAttrBy? getAttrBy
  repeat (any_goals (first | assumption | wp_step))
  refine run _ _ _ _ ?_
  repeat (any_goals (first | assumption | wp_step))
theorem kit {K : Frag} : KitX K (.ref f) (.type "function") (KitAt f "function") := kitx_of kitAt_ty (fun p k => cls p k)
end
end FnT
set_option Elab.async false
set_option linter.all false
set_option maxRecDepth 100000
set_option autoImplicit false
set_option maxHeartbeats 4000000
namespace Dn
open PySem L2 Evl
section
variable {X : Cx} {a b c e : Expr} {fa fb fc : DE} {pos p : Pos} {es : List Expr} {x : Str}
structure CallD (X : Cx) (f : Value) (op : List D → (D → Prop) → Prop) : Prop where
  ex : ∃ r, CallR X f r ∧ ∀ (O : Addr → Prop) (H : Hp) (vs : List V) (ds : List D) (QD : D → Prop) (Q : VK), (∀ a, O a → H a ≠ none) → RpAll X.K (hide O H) vs ds → op ds QD →
    (∀ z v H', Ex H H' → Rp X.K (hide O H') v z → QD z → Q v H') → r vs H Q
def dCall (op : List D → (D → Prop) → Prop) (g : DA) : DE := fun ρ Q => g ρ fun ds ρ1 => op ds fun z => Q z ρ1
theorem je_callB {id : String} {op : List D → (D → Prop) → Prop} {g : DA} (hc : CallD X (.builtin id) op) (hm : X.mg x = none) (hv : bootBuiltins x = some (.builtin id)) (ha : JA X (e :: es) g) (hg : Gl X x := by rfl) (hn : x ≠ "__name__" := by decide) (hdb : (x == ("__debug__" : Str)) = false := by decide)
    (he : starEach (e :: es) X.env = (false, eval e X.env) :: starEach es X.env := by rfl) (hpl : (backTo pos (starEach es X.env)).any (·.1) = false := by rfl) : JE X (.Call (.Name x p) (e :: es) [] pos) (dCall op g) := by
  obtain ⟨r, h1, h2⟩ := hc.ex
  obtain ⟨t, pa, ka⟩ := ha.ex
  refine ⟨_, pe_callB h1 hg hm hv pa hn hdb he hpl, fun T ρ σ H QD Q r h q => ka T ρ σ H _ _ r h fun ds ρ1 vs H1 r1 p1 v1 h => ?_⟩
  exact h2 (Hd T ρ1 σ) H1 vs ds _ _ (fun a => r1.hdDom) v1 h fun z v H' e v2 h => q _ _ _ _ (r1.grow e) (p1.trans (.grow e)) v2 h
theorem je_callTy {id : String} {op : List D → (D → Prop) → Prop} {g : DA} (hc : CallD X (.type id) op) (hm : X.mg x = none) (hv : bootBuiltins x = some (.type id)) (ha : JA X (e :: es) g) (hg : Gl X x := by rfl) (hn : x ≠ "__name__" := by decide) (hdb : (x == ("__debug__" : Str)) = false := by decide)
    (he : starEach (e :: es) X.env = (false, eval e X.env) :: starEach es X.env := by rfl) (hpl : (backTo pos (starEach es X.env)).any (·.1) = false := by rfl) : JE X (.Call (.Name x p) (e :: es) [] pos) (dCall op g) := by
  obtain ⟨r, h1, h2⟩ := hc.ex
  obtain ⟨t, pa, ka⟩ := ha.ex
  refine ⟨_, pe_callTy h1 hg hm hv pa hn hdb he hpl, fun T ρ σ H QD Q r h q => ka T ρ σ H _ _ r h fun ds ρ1 vs H1 r1 p1 v1 h => ?_⟩
  exact h2 (Hd T ρ1 σ) H1 vs ds _ _ (fun a => r1.hdDom) v1 h fun z v H' e v2 h => q _ _ _ _ (r1.grow e) (p1.trans (.grow e)) v2 h
def isSc : D → Bool
  | .list _ => false
  | .tuple _ => false
  | .dict _ => false
  | _ => true
theorem sc_rp {K : PySem.W.Frag} {G G' : Hp} {v : V} {d : D} (h : isSc d = true) (r : Rp K G v d) : Rp K G' v d := by
  cases r <;> first | (simp [isSc] at h; done) | constructor
def dCallO (i : Nat) (op : List D → (D → Prop) → Prop) : DE := fun ρ Q => match ρ[i]? with
  | some (some (.ow (.lst ds))) => op [.list ds] fun z => isSc z = true ∧ Q z ρ
  | _ => False
theorem je_callBO {i : Nat} {y : Str} {py : Pos} {id : String} {op : List D → (D → Prop) → Prop} (hc : CallD X (.builtin id) op) (hm : X.mg x = none) (hv : bootBuiltins x = some (.builtin id)) (hN : X.N[i]? = some y) (hy : Vis X.env.scope y) (hg : Gl X x := by rfl) (hn : x ≠ "__name__" := by decide) (hdb : (x == ("__debug__" : Str)) = false := by decide)
    (hd : (y == ("__debug__" : Str)) = false := by decide) (hcd : (y == ("__classdict__" : Str)) = false := by decide)
    (he : starEach [Expr.Name y py] X.env = (false, eval (Expr.Name y py) X.env) :: starEach [] X.env := by rfl) : JE X (.Call (.Name x p) [.Name y py] [] pos) (dCallO i op) := by
  obtain ⟨r, h1, h2⟩ := hc.ex
  refine ⟨_, pe_callB h1 hg hm hv (pa_cons (pe_var hN hy hd hcd) pa_nil he) hn hdb he, fun T ρ σ H QD Q r h q => ?_⟩
  unfold dCallO at h
  split at h
  · rename_i ds e1
    obtain ⟨a, o, ha, ho, hr⟩ := r.ow i _ e1
    have rf := r.freeze e1
    obtain ⟨v, hv, rv⟩ := rf.im i (.list ds) (List.getElem?_set_self (List.getElem?_eq_some_iff.mp e1).1)
    rw [ha] at hv; cases hv
    refine ⟨_, ha, h2 _ H _ _ _ _ (fun a => rf.hdDom) (.cons rv .nil) h fun z v H' e v2 h => ?_⟩
    exact q _ _ _ _ (r.grow e) (.grow e) (sc_rp h.1 v2) h.2
  · exact False.elim h
def dBinO (i : Nat) (op : D → D → (D → Prop) → Prop) (fb : DE) : DE := fun ρ Q => (∃ m, ρ[i]? = some (some (SV.ow m))) ∧ fb ρ fun y ρ1 => match ρ1[i]? with
  | some (some (.ow (.lst ds))) => op (.list ds) y fun z => isSc z = true ∧ Q z ρ1
  | _ => False
theorem hd_freeze {T : Addr → Prop} {ρ : Env} {σ : L2.St} {H : Hp} {i : Nat} {d : D} : Ex (hide (Hd T ρ σ) H) (hide (Hd T (ρ.set i (some (SV.im d))) σ) H) := hide_sub fun a w => w.elim .inl fun w => .inr (own_freeze w)
def dLen : List D → (D → Prop) → Prop
  | [d] => fun Q => match seqD d with
    | some ds => Q (.int ds.length)
    | none => False
  | _ => fun _ => False
theorem calld_len : CallD X (.builtin "len") dLen := by
  refine ⟨_, call_len_seq, fun O H vs ds QD Q hO r h k => ?_⟩
  cases r with
  | nil => exact False.elim h
  | cons r rr =>
    cases rr with
    | cons _ _ => exact False.elim h
    | nil =>
      unfold dLen at h; dsimp only at h
      split at h
      · rename_i ds e
        obtain ⟨p, xs, rfl, hs, rx⟩ := seq_rp r e
        exact ⟨_, _, rfl, hs, k _ _ H (.refl H) (.int _) (by rw [rx.length]; exact h)⟩
      · exact False.elim h
def dAbs : List D → (D → Prop) → Prop
  | [.int i] => fun Q => Q (.int (if i < 0 then -i else i))
  | _ => fun _ => False
theorem rp1 {K : PySem.W.Frag} {G : Hp} {vs : List V} {d : D} (r : RpAll K G vs [d]) : ∃ v, vs = [v] ∧ Rp K G v d := by
  cases r with
  | cons r rr => cases rr; exact ⟨_, rfl, r⟩
theorem rp2 {K : PySem.W.Frag} {G : Hp} {vs : List V} {d e : D} (r : RpAll K G vs [d, e]) : ∃ v u, vs = [v, u] ∧ Rp K G v d ∧ Rp K G u e := by
  cases r with
  | cons r rr => obtain ⟨u, rfl, h⟩ := rp1 rr; exact ⟨_, _, rfl, r, h⟩
theorem calld_abs : CallD X (.builtin "abs") dAbs := by
  refine ⟨_, call_abs, fun O H vs ds QD Q hO r h k => ?_⟩
  unfold dAbs at h
  split at h
  · obtain ⟨v, rfl, w1⟩ := rp1 r
    cases w1
    exact ⟨_, rfl, k _ _ H (.refl H) (.int _) h⟩
  · exact False.elim h
def dMax2 : List D → (D → Prop) → Prop
  | [.int i, .int j] => fun Q => Q (.int (if j > i then j else i))
  | _ => fun _ => False
theorem calld_max2 (hc : X.calm = true) : CallD X (.builtin "max") dMax2 := by
  refine ⟨_, call_max2 hc, fun O H vs ds QD Q hO r h k => ?_⟩
  unfold dMax2 at h
  split at h
  · obtain ⟨v, u, rfl, r1, r2⟩ := rp2 r
    cases r1; cases r2
    exact ⟨_, _, rfl, k _ _ H (.refl H) (.int _) h⟩
  · exact False.elim h
def dMin2 : List D → (D → Prop) → Prop
  | [.int i, .int j] => fun Q => Q (.int (if j < i then j else i))
  | _ => fun _ => False
theorem calld_min2 (hc : X.calm = true) : CallD X (.builtin "min") dMin2 := by
  refine ⟨_, call_min2 hc, fun O H vs ds QD Q hO r h k => ?_⟩
  unfold dMin2 at h
  split at h
  · obtain ⟨v, u, rfl, r1, r2⟩ := rp2 r
    cases r1; cases r2
    exact ⟨_, _, rfl, k _ _ H (.refl H) (.int _) h⟩
  · exact False.elim h
def dInt : List D → (D → Prop) → Prop
  | [.int i] => fun Q => Q (.int i)
  | [.bool b] => fun Q => Q (.int (if b then 1 else 0))
  | _ => fun _ => False
theorem calld_int : CallD X (.type "int") dInt := by
  refine ⟨_, call_int1, fun O H vs ds QD Q hO r h k => ?_⟩
  unfold dInt at h
  split at h
  · obtain ⟨v, rfl, w1⟩ := rp1 r
    cases w1
    exact .inl ⟨_, rfl, k _ _ H (.refl H) (.int _) h⟩
  · obtain ⟨v, rfl, w1⟩ := rp1 r
    cases w1
    exact .inr ⟨_, rfl, k _ _ H (.refl H) (.int _) h⟩
  · exact False.elim h
def dAll (ds : List D) (Q : D → Prop) : Prop := ∃ bs : List Bool, ds = [.list (bs.map PyData.bool)] ∧ Q (.bool (bs.all id))
def dAny (ds : List D) (Q : D → Prop) : Prop := ∃ bs : List Bool, ds = [.list (bs.map PyData.bool)] ∧ Q (.bool (bs.any id))
def dSum (ds : List D) (Q : D → Prop) : Prop := ∃ ns : List Int, ds = [.list (ns.map PyData.int)] ∧ Q (.int ns.sum)
theorem calld_all (hc : X.calm = true) : CallD X (.builtin "all") dAll := by
  refine ⟨_, cr_all hc, fun O H vs ds QD Q hO r h k => ?_⟩
  obtain ⟨bs, rfl, h⟩ := h
  obtain ⟨v, rfl, w1⟩ := rp1 r
  cases w1 with
  | lst hp rr =>
    obtain rfl := rr.of_bls
    exact ⟨_, bs, rfl, .inl (.inl (at_of hp)), k _ _ H (.refl H) (.bl _) h⟩
theorem calld_any (hc : X.calm = true) : CallD X (.builtin "any") dAny := by
  refine ⟨_, cr_any hc, fun O H vs ds QD Q hO r h k => ?_⟩
  obtain ⟨bs, rfl, h⟩ := h
  obtain ⟨v, rfl, w1⟩ := rp1 r
  cases w1 with
  | lst hp rr =>
    obtain rfl := rr.of_bls
    exact ⟨_, bs, rfl, .inl (.inl (at_of hp)), k _ _ H (.refl H) (.bl _) h⟩
theorem calld_sum (hc : X.calm = true) : CallD X (.builtin "sum") dSum := by
  refine ⟨_, cr_sum hc, fun O H vs ds QD Q hO r h k => ?_⟩
  obtain ⟨bs, rfl, h⟩ := h
  obtain ⟨v, rfl, w1⟩ := rp1 r
  cases w1 with
  | lst hp rr =>
    obtain rfl := rr.of_ints
    exact ⟨_, bs, rfl, .inl (.inl (at_of hp)), k _ _ H (.refl H) (.int _) h⟩
def dTupOf : List D → (D → Prop) → Prop
  | [.list ds] => fun Q => Q (.tuple ds)
  | [.tuple ds] => fun Q => Q (.tuple ds)
  | _ => fun _ => False
theorem calld_tuple : CallD X (.type "tuple") dTupOf := by
  refine ⟨_, call_tupleK, fun O H vs ds QD Q hO r h k => ?_⟩
  unfold dTupOf at h
  split at h
  · obtain ⟨v, rfl, w1⟩ := rp1 r
    cases w1 with
    | lst hp rr => exact ⟨_, _, rfl, .inl ⟨.inl (.inl (at_of hp)), fun l o hl t => k _ _ _ (Ex.new hl) (rp_newT hO hl t rr) h⟩⟩
  · obtain ⟨v, rfl, w1⟩ := rp1 r
    cases w1 with
    | tup hp rr => exact ⟨_, _, rfl, .inr ⟨sqt_of hp, k _ _ H (.refl H) (.tup hp rr) h⟩⟩
  · exact False.elim h
def tyN : D → String
  | .none => "NoneType"
  | .bool _ => "bool"
  | .int _ => "int"
  | .str _ => "str"
  | .list _ => "list"
  | .tuple _ => "tuple"
  | .dict ((.none, _) :: _) => "list"
  | .dict ((.bool true, _) :: _) => "slice"
  | .dict ((.bool false, _) :: _) => "type"
  | .dict ((.list _, _) :: _) => "function"
  | .dict _ => "dict"
theorem tyN_dk (kvs : List (Key × D)) : tyN (.dict (dkD kvs)) = "dict" := by
  cases kvs with
  | nil => rfl
  | cons p r => obtain ⟨k, d⟩ := p; cases k <;> rfl
def TyC (K : PySem.W.Frag) (H : Hp) (v : V) (t : Value) : Prop := TyX K H v t ∨ (∃ C, v = .ref C ∧ t = .type "type" ∧ PySem.W.typeIn K (.ref C) = some (.type "type") ∧ PySem.W.nsIn K PySem.cStatics "thirdparty.any" = some none) ∨ ∃ f, v = .ref f ∧ t = .type "function" ∧ PySem.W.typeIn K (.ref f) = some (.type "function")
def rIsiC (K : PySem.W.Frag) : List V → Hp → VK → Prop := fun xs H Q => ∃ (x c : V) (t u : Value) (b : Bool), xs = [x, c] ∧ ClsV c u ∧ TyC K H x t ∧ PySem.W.kitOne K t u = some b ∧ Q (.bl b) H
theorem call_isiC {X : Cx} : CallR X (.builtin "isinstance") (rIsiC X.K) := by
  intro pins s σ H xs us Q I r h
  obtain ⟨x, c, t, u, b, rfl, k, ty, e, q⟩ := h
  rcases ty with ty | ⟨C, rfl, rfl, ht, hn⟩ | ⟨f, rfl, rfl, ht⟩
  · exact call_isi pins s σ H _ us Q I r ⟨x, c, t, u, b, rfl, k, ty, e, q⟩
  · obtain ⟨u1, u2, rfl, r1, r2⟩ := vals2 r
    have e2 := k.eq r2
    subst e2
    cases (show u1 = Value.ref C from r1)
    exact PySem.W.kia_one (ClT.kitx_cls ht hn) I.kIn trivial e (fun z => nomatch z) fun tk => ⟨.bl b, H, I.tok tk, rfl, q⟩
  · obtain ⟨u1, u2, rfl, r1, r2⟩ := vals2 r
    have e2 := k.eq r2
    subst e2
    cases (show u1 = Value.ref f from r1)
    obtain ⟨o, ho, hc⟩ := Option.map_eq_some_iff.mp (show (X.K.lookup f).map (·.cls) = some (.type "function") from ht)
    exact PySem.W.kia_one FnT.kit I.kIn ⟨o, I.kIn _ _ ho, hc⟩ e (fun z => nomatch z) fun tk => ⟨.bl b, H, I.tok tk, rfl, q⟩
theorem ty_rp {K : PySem.W.Frag} {O : Addr → Prop} {H : Hp} {v : V} {d : D} (r : Rp K (hide O H) v d) {tn : String} {b : Bool} (hk : kitB (tyN d) tn = some b) (ns : tn ≠ "slice") : ∃ t, TyC K H v t ∧ PySem.W.kitOne K t (.type tn) = some b := by
  have fin : ∀ n, n = tyN d → TyX K H v (.type n) → ∃ t, TyC K H v t ∧ PySem.W.kitOne K t (.type tn) = some b := fun n e h => ⟨_, .inl h, kit_ty (by rw [e]; exact hk)⟩
  cases r with
  | ins o h _ z =>
    subst z
    exact ⟨_, .inl (.base (.ins (hide_some.1 h).2 o.cls o.ha o.hn o.htk o.hm)), o.own tn b ns hk⟩
  | typ nm o => exact ⟨_, .inr (.inl ⟨_, rfl, rfl, o.ty, o.tp⟩), kit_ty hk⟩
  | fnv nm o => exact ⟨_, .inr (.inr ⟨_, rfl, rfl, o⟩), kit_ty hk⟩
  | non => exact fin _ rfl (.base .non)
  | bl b => exact fin _ rfl (.base (.bl b))
  | int b => exact fin _ rfl (.base (.int b))
  | str b => exact fin _ rfl (.base (.str b))
  | lst h _ => exact fin _ rfl (.base (.lst (at_of h)))
  | dct h _ z => subst z; exact fin _ (tyN_dk _).symm (.base (.dK (at_of h)))
  | tup h _ =>
    rcases sqt_of h with (h | ⟨o, h⟩) | ⟨o, its, n, h1, h2, _⟩
    · exact fin _ rfl (.base (.tup h))
    · exact fin _ rfl (.fTuple h)
    · exact fin _ rfl (.kTuple h1 h2)
  | frz h _ =>
    rcases sql_of h with (h | ⟨o, h⟩) | ⟨o, its, n, h1, h2, _⟩
    · exact fin _ rfl (.base (.lst h))
    · exact fin _ rfl (.base (.frz h))
    · exact fin _ rfl (.kList h1 h2)
def dIsi (tn : String) (fa : DE) : DE := fun ρ Q => fa ρ fun d ρ1 => match kitB (tyN d) tn with
  | some b => Q (.bool b) ρ1
  | none => False
theorem je_isi {tn : String} {y : Str} {py : Pos} (hm : X.mg "isinstance" = none) (hmy : X.mg y = none) (hvy : bootBuiltins y = some (.type tn)) (ha : JE X a fa) (hg : Gl X "isinstance" := by rfl) (hgy : Gl X y := by rfl) (hny : y ≠ "__name__" := by decide) (hdb : (y == ("__debug__" : Str)) = false := by decide)
    (h1 : starEach [a, Expr.Name y py] X.env = (false, eval a X.env) :: starEach [Expr.Name y py] X.env := by rfl) (h2 : starEach [Expr.Name y py] X.env = (false, eval (Expr.Name y py) X.env) :: starEach [] X.env := by rfl) (h3 : (backTo pos (starEach [Expr.Name y py] X.env)).any (·.1) = false := by rfl) (hsl : tn ≠ "slice" := by decide) :
    JE X (.Call (.Name "isinstance" p) [a, .Name y py] [] pos) (dIsi tn fa) := by
  obtain ⟨ta, pa, ka⟩ := ha.ex
  refine ⟨_, pe_callB call_isiC hg hm (by decide +kernel) (pa_cons pa (pa_cons (pe_bltn (v := .ty tn) hgy hmy hvy rfl hny hdb) pa_nil h2) h1) (by decide) (by decide) h1 h3, fun T ρ σ H QD Q r h q => ka T ρ σ H _ _ r h fun d ρ1 v H1 r1 p1 v1 h => ?_⟩
  split at h
  · rename_i b e
    obtain ⟨t, ht, hk⟩ := ty_rp v1 e hsl
    exact ⟨v, .ty tn, t, .type tn, b, rfl, .ty tn, ht, hk, q _ _ _ _ r1 p1 (.bl b) h⟩
  · exact False.elim h
def lOf (f : DE) : DL := fun ρ Q => f ρ fun d ρ1 => match seqD d with
  | some ds => Q ds ρ1
  | none => False
theorem none_back {ρ ρ' : Env} {σ σ' : L2.St} {H H' : Hp} {l : Addr} (q : Po ρ σ H ρ' σ' H') (h : H' l = none) : H l = none := by
  cases z : H l with
  | none => rfl
  | some o => exact absurd h (q.dom l (by rw [z]; simp))
theorem jl_list (hm : X.mg "list" = none) (ha : JE X a fa) (hg : Gl X "list" := by rfl) (he : starEach [a] X.env = (false, eval a X.env) :: starEach [] X.env := by rfl) : JL X (.Call (.Name "list" p) [a] [] pos) (lOf fa) := by
  obtain ⟨ta, pa, ka⟩ := ha.ex
  refine ⟨_, pe_callTy call_list_of hg hm (by decide +kernel) (pa_cons pa pa_nil he) (by decide) (by decide) he, fun T ρ σ H QD Q r h q => ka T ρ σ H _ _ r h fun d ρ1 v H1 r1 p1 v1 h => ?_⟩
  split at h
  · rename_i ds e
    obtain ⟨p, xs, rfl, hs, rx⟩ := seq_rp v1 e
    exact ⟨_, _, rfl, hs, fun l hl => q _ _ _ _ _ (none_back p1 hl) upd_same (r1.laid hl) (rx.mono (hd_laid hl)) (p1.trans (.grow (Ex.new hl))) h⟩
  · exact False.elim h
def lOfO (i : Nat) : DL := fun ρ Q => match ρ[i]? with
  | some (some (.ow (.lst ds))) => Q ds ρ
  | _ => False
theorem jl_listO {i : Nat} {y : Str} {py : Pos} (hm : X.mg "list" = none) (hN : X.N[i]? = some y) (hy : Vis X.env.scope y) (hg : Gl X "list" := by rfl) (hd : (y == ("__debug__" : Str)) = false := by decide) (hcd : (y == ("__classdict__" : Str)) = false := by decide)
    (he : starEach [Expr.Name y py] X.env = (false, eval (Expr.Name y py) X.env) :: starEach [] X.env := by rfl) : JL X (.Call (.Name "list" p) [.Name y py] [] pos) (lOfO i) := by
  refine ⟨_, pe_callTy call_list_of hg hm (by decide +kernel) (pa_cons (pe_var hN hy hd hcd) pa_nil he) (by decide) (by decide) he, fun T ρ σ H QD Q r h q => ?_⟩
  unfold lOfO at h
  split at h
  · rename_i ds e
    obtain ⟨a, o, ha, ho, hr⟩ := r.ow i _ e
    cases o with
    | lst vs => exact ⟨_, ha, _, _, rfl, .inl (.inl (.inl ho)), fun l hl => q _ _ _ _ _ hl upd_same (r.laid hl) (RpAll.mono (hd_laid hl) hr) (.grow (Ex.new hl)) h⟩
    | _ => exact False.elim hr
  · exact False.elim h
def dTupO (i : Nat) : DE := fun ρ Q => match ρ[i]? with
  | some (some (.ow (.lst ds))) => Q (.tuple ds) ρ
  | _ => False
theorem je_tupleO {i : Nat} {y : Str} {py : Pos} (hm : X.mg "tuple" = none) (hN : X.N[i]? = some y) (hy : Vis X.env.scope y) (hg : Gl X "tuple" := by rfl) (hd : (y == ("__debug__" : Str)) = false := by decide) (hcd : (y == ("__classdict__" : Str)) = false := by decide)
    (he : starEach [Expr.Name y py] X.env = (false, eval (Expr.Name y py) X.env) :: starEach [] X.env := by rfl) : JE X (.Call (.Name "tuple" p) [.Name y py] [] pos) (dTupO i) := by
  refine ⟨_, pe_callTy call_tupleK hg hm (by decide +kernel) (pa_cons (pe_var hN hy hd hcd) pa_nil he) (by decide) (by decide) he, fun T ρ σ H QD Q r h q => ?_⟩
  unfold dTupO at h
  split at h
  · rename_i ds e
    obtain ⟨a, o, ha, ho, hr⟩ := r.ow i _ e
    cases o with
    | lst vs => exact ⟨_, ha, _, _, rfl, .inl ⟨.inl (.inl ho), fun l o hl t => q _ _ _ _ (r.grow (Ex.new hl)) (.grow (Ex.new hl)) (rp_newT (fun a => r.hdDom) hl t hr) h⟩⟩
    | _ => exact False.elim hr
  · exact False.elim h
def rgD (i j : Int) : List D := (List.range (j - i).toNat).map fun k => PyData.int (i + (k : Nat))
def RgD (i j : Int) : Prop := -1000000 ≤ i ∧ i ≤ 1000000 ∧ -1000000 ≤ j ∧ j ≤ 1000000
theorem rg_ok {i j : Int} (h : RgD i j) : RgOk i j := by unfold RgD at h; exact ⟨by omega, by omega, by omega, by omega, by omega⟩
theorem rg_rp {K : PySem.W.Frag} {G : Hp} (i j : Int) : RpAll K G (rgV i j) (rgD i j) := by
  have : rgV i j = ((List.range (j - i).toNat).map fun k => i + (k : Nat)).map V.int := by unfold rgV; simp
  rw [this, show rgD i j = ((List.range (j - i).toNat).map fun k => i + (k : Nat)).map PyData.int from by unfold rgD; simp]
  exact RpAll.ints _
abbrev DR := Env → (Int → Int → Env → Prop) → Prop
structure JR (X : Cx) (e : Expr) (f : DR) : Prop where
  ex : ∃ t, PRg X e t ∧ ∀ (T : Addr → Prop) (ρ : Env) (σ : L2.St) (H : Hp) (QD : Int → Int → Env → Prop) (Q : Int → Int → Hp → Prop), RS X.K T ρ σ H → f ρ QD →
    (∀ i j ρ' H', RS X.K T ρ' σ H' → Po ρ σ H ρ' σ H' → QD i j ρ' → Q i j H') → t σ H Q
def rg1 (fa : DE) : DR := fun ρ Q => fa ρ fun d ρ1 => match d with
  | .int n => Q 0 n ρ1
  | _ => False
def rg2 (fa fb : DE) : DR := fun ρ Q => fa ρ fun d ρ1 => fb ρ1 fun e ρ2 => match d, e with
  | .int n, .int m => Q n m ρ2
  | _, _ => False
theorem jr_1 (hm : X.mg "range" = none) (ha : JE X a fa) (hg : Gl X "range" := by rfl) (na : starEach [a] X.env = (false, eval a X.env) :: starEach [] X.env := by rfl) : JR X (.Call (.Name "range" p) [a] [] pos) (rg1 fa) := by
  obtain ⟨ta, pa, ka⟩ := ha.ex
  refine ⟨_, prg_1 hg hm pa na, fun T ρ σ H QD Q r h q => ka T ρ σ H _ _ r h fun d ρ1 v H1 r1 p1 v1 h => ?_⟩
  cases v1 with
  | int n => exact ⟨n, rfl, q _ _ _ _ r1 p1 h⟩
  | _ => exact False.elim h
def lRg (f : DR) : DL := fun ρ Q => f ρ fun i j ρ1 => RgD i j ∧ Q (rgD i j) ρ1
def dTRg (f : DR) : DE := fun ρ Q => f ρ fun i j ρ1 => RgD i j ∧ Q (.tuple (rgD i j)) ρ1
theorem jl_rg {f : DR} (hc : X.calm = true) (hm : X.mg "list" = none) (ha : JR X a f) (hg : Gl X "list" := by rfl) (na : starEach [a] X.env = (false, eval a X.env) :: starEach [] X.env := by rfl) : JL X (.Call (.Name "list" p) [a] [] pos) (lRg f) := by
  obtain ⟨ta, pa, ka⟩ := ha.ex
  refine ⟨_, pe_listRg hc hg hm pa na, fun T ρ σ H QD Q r h q => ka T ρ σ H _ _ r h fun i j ρ1 H1 r1 p1 h => ⟨rg_ok h.1, fun l hl => ?_⟩⟩
  exact q _ _ _ _ _ (none_back p1 hl) upd_same (r1.laid hl) (rg_rp i j) (p1.trans (.grow (Ex.new hl))) h.2
theorem je_tupRg {f : DR} (hc : X.calm = true) (hm : X.mg "tuple" = none) (ha : JR X a f) (hg : Gl X "tuple" := by rfl) (na : starEach [a] X.env = (false, eval a X.env) :: starEach [] X.env := by rfl) : JE X (.Call (.Name "tuple" p) [a] [] pos) (dTRg f) := by
  obtain ⟨ta, pa, ka⟩ := ha.ex
  refine ⟨_, pe_tupRgK hc hg hm pa na, fun T ρ σ H QD Q r h q => ka T ρ σ H _ _ r h fun i j ρ1 H1 r1 p1 h => ⟨rg_ok h.1, fun l o hl t => ?_⟩⟩
  exact q _ _ _ _ (r1.grow (Ex.new hl)) (p1.trans (.grow (Ex.new hl))) (rp_newT (fun a => r1.hdDom) hl t (rg_rp i j)) h.2
end
end Dn
set_option Elab.async false
set_option linter.all false
set_option maxRecDepth 100000
set_option autoImplicit false
set_option maxHeartbeats 4000000
namespace Dn
open PySem L2 Evl
structure JG (X : Cx) (tg : Expr) (vs : List Nat) (g : DG) : Prop where
  ex : ∃ t, PG X tg t ∧ ∀ (T : Addr → Prop) (ρ : Env) (σ : L2.St) (H : Hp) (v : V) (d : D) (QD : Env → Prop) (Q : L2.St → Hp → Prop), RS X.K T ρ σ H → Rp X.K (hide (Hd T ρ σ) H) v d → g d ρ QD →
    (∀ ρ' σ', RS X.K T ρ' σ' H → Po ρ σ H ρ' σ' H → wipe σ' vs = wipe σ vs → QD ρ' → Q σ' H) → t v σ H Q
structure JGs (X : Cx) (tgs : List Expr) (vs : List Nat) (g : List D → Env → (Env → Prop) → Prop) : Prop where
  ex : ∃ t, PGs X tgs t ∧ ∀ (T : Addr → Prop) (ρ : Env) (σ : L2.St) (H : Hp) (us : List V) (ds : List D) (QD : Env → Prop) (Q : L2.St → Hp → Prop), RS X.K T ρ σ H → RpAll X.K (hide (Hd T ρ σ) H) us ds → g ds ρ QD →
    (∀ ρ' σ', RS X.K T ρ' σ' H → Po ρ σ H ρ' σ' H → wipe σ' vs = wipe σ vs → QD ρ' → Q σ' H) → t us σ H Q
theorem wipe_set (σ : L2.St) (v : Option V) : ∀ (vs : List Nat) (i : Nat), i ∈ vs → wipe (σ.set i v) vs = wipe σ vs
  | [], i, h => by cases h
  | j :: vs, i, h => by
    show (wipe (σ.set i v) vs).set j none = (wipe σ vs).set j none
    by_cases e : i ∈ vs
    · rw [wipe_set σ v vs i e]
    · have : i = j := by rcases List.mem_cons.mp h with h | h; exact h; exact absurd h e
      subst this
      have aux : ∀ (ws : List Nat), i ∉ ws → wipe (σ.set i v) ws = (wipe σ ws).set i v := by
        intro ws
        induction ws with
        | nil => intro _; rfl
        | cons k ws ih =>
          intro hn
          show (wipe (σ.set i v) ws).set k none = ((wipe σ ws).set k none).set i v
          rw [ih (fun z => hn (List.mem_cons_of_mem _ z)), List.set_comm _ _ (fun z => hn (by rw [z]; exact List.mem_cons_self))]
      rw [aux vs e, List.set_set]
section
variable {X : Cx} {a b c e : Expr} {fa fb fc : DE} {pos p : Pos} {es : List Expr} {x : Str}
def gNm (i : Nat) : DG := fun d ρ Q => Q (ρ.set i (some (.im d)))
theorem jg_name {i : Nat} {vs : List Nat} (hN : X.N.Nodup) (hi : X.N[i]? = some x) (hx : Loc X.env.scope x) (hv : i ∈ vs := by decide) (hf : X.fn x = true ∨ X.env.scope.names.lookup x = some .local := by first | exact .inl rfl | exact .inr rfl | assumption) : JG X (.Name x pos) vs (gNm i) :=
  ⟨gName i, pg_name hN hi hx hf, fun T ρ σ H v d QD Q r rv h q => q _ _ (r.setIm rv) .setIm (wipe_set σ _ vs i hv) h⟩
def gsNil : List D → Env → (Env → Prop) → Prop := fun ds ρ Q => ds = [] ∧ Q ρ
def gsCons (g : DG) (gs : List D → Env → (Env → Prop) → Prop) : List D → Env → (Env → Prop) → Prop := fun ds ρ Q => match ds with
  | d :: ds => g d ρ fun ρ1 => gs ds ρ1 Q
  | [] => False
theorem jgs_nil {vs : List Nat} : JGs X [] vs gsNil := ⟨gNil, pgs_nil, fun T ρ σ H us ds QD Q r rv h q => by
  obtain ⟨rfl, h⟩ := h
  cases rv
  exact ⟨rfl, q _ _ r .refl rfl h⟩⟩
theorem jgs_cons {g : DG} {gs : List D → Env → (Env → Prop) → Prop} {vs : List Nat} (h1 : JG X e vs g) (h2 : JGs X es vs gs) (hs : (assignEach (e :: es) X.env).map (·.2) = assign e X.env :: (assignEach es X.env).map (·.2) := by rfl) : JGs X (e :: es) vs (gsCons g gs) := by
  obtain ⟨t1, p1, k1⟩ := h1.ex
  obtain ⟨t2, p2, k2⟩ := h2.ex
  refine ⟨_, pgs_cons p1 p2 hs, fun T ρ σ H us ds QD Q r rv h q => ?_⟩
  cases rv with
  | nil => exact False.elim h
  | cons rv rr => exact ⟨_, _, rfl, k1 T ρ σ H _ _ _ _ r rv h fun ρ1 σ1 r1 q1 w1 h => k2 T ρ1 σ1 H _ _ _ _ r1 (rr.monoW q1.fz) h fun ρ2 σ2 r2 q2 w2 h => q _ _ r2 (q1.trans q2) (w2.trans w1) h⟩
def gTp (n : Nat) (gs : List D → Env → (Env → Prop) → Prop) : DG := fun d ρ Q => match d with
  | .tuple ds => ds.length = n ∧ gs ds ρ Q
  | _ => False
theorem jg_tup {k n : Nat} {gs : List D → Env → (Env → Prop) → Prop} {vs : List Nat} (hc : X.calm = true) (h : JGs X es vs gs) (hn : (assignEach es X.env).length = n := by rfl) (hst : (assignEach es X.env).findIdx? (·.1) = none := by rfl) : JG X (.Tuple es k pos) vs (gTp n gs) := by
  obtain ⟨t, pt, kt⟩ := h.ex
  refine ⟨_, pg_tup hc pt hn hst, fun T ρ σ H v d QD Q r rv h q => ?_⟩
  cases rv with
  | tup hp rr => exact ⟨_, _, rfl, sqt_of hp, by rw [rr.length]; exact h.1, kt T ρ σ H _ _ _ _ r rr h.2 q⟩
  | _ => exact False.elim h
def sNx : DS := fun E ρ => E.nx ρ
def sSeq (f g : DS) : DS := fun E ρ => f { E with nx := g E } ρ
theorem js_nil : JSs X [] sNx := ⟨tNext, pss_nil, fun T ρ σ H E D r h k => k.nx _ _ _ r .refl h⟩
theorem js_cons {st : Stmt} {sts : List Stmt} {f g : DS} (h1 : JS X st f) (h2 : JSs X sts g) : JSs X (st :: sts) (sSeq f g) := by
  obtain ⟨t1, p1, k1⟩ := h1.ex
  obtain ⟨t2, p2, k2⟩ := h2.ex
  refine ⟨_, pss_cons p1 p2, fun T ρ σ H E D r h k => ?_⟩
  exact k1 T ρ σ H _ _ r h ⟨fun ρ1 σ1 H1 r1 q1 h1 => k2 T ρ1 σ1 H1 E D r1 h1 (k.step q1), k.rt, k.bk, k.ct, k.er⟩
theorem js_one {st : Stmt} {f : DS} (h1 : JS X st f) : JSs X [st] f := by
  obtain ⟨t1, p1, k1⟩ := h1.ex
  refine ⟨_, pss_cons p1 pss_nil, fun T ρ σ H E D r h k => ?_⟩
  exact k1 T ρ σ H E _ r h ⟨k.nx, k.rt, k.bk, k.ct, k.er⟩
def sNever : DS := fun _ _ => False
theorem js_never {st : Stmt} : JS X st sNever := ⟨_, ps_never, fun T ρ σ H E D r h k => h.elim⟩
def sEx (f : DE) : DS := fun E ρ => f ρ fun _ ρ1 => E.nx ρ1
theorem js_expr (ha : JE X e fa) (hs : swapsWith e none pos.line X.env = pure false := by rfl) : JS X (.Expr e pos) (sEx fa) := by
  obtain ⟨t, pt, kt⟩ := ha.ex
  exact ⟨_, ps_expr pt hs, fun T ρ σ H E D r h k => kt T ρ σ H _ _ r h fun d ρ1 v H1 r1 p1 v1 h => k.nx _ _ _ r1 p1 h⟩
def sRet (f : DE) : DS := fun E ρ => f ρ E.rt
theorem js_ret (ha : JE X e fa) : JS X (.Return (some e) pos) (sRet fa) := by
  obtain ⟨t, pt, kt⟩ := ha.ex
  exact ⟨_, ps_ret pt, fun T ρ σ H E D r h k => kt T ρ σ H _ _ r h fun d ρ1 v H1 r1 p1 v1 h => k.rt _ _ _ _ _ r1 p1 v1 h⟩
def sRetN : DS := fun E ρ => E.rt .none ρ
def sRetO (i : Nat) : DS := fun E ρ => match ρ[i]? with
  | some (some (.ow (.lst ds))) => E.rt (.list ds) (ρ.set i (some (.im (.list ds))))
  | _ => False
theorem js_retO {i : Nat} {px : Pos} (hN : X.N[i]? = some x) (hv : Vis X.env.scope x) (hd : (x == ("__debug__" : Str)) = false := by decide) (hcd : (x == ("__classdict__" : Str)) = false := by decide) : JS X (.Return (some (.Name x px)) pos) (sRetO i) := by
  refine ⟨_, ps_ret (pe_var hN hv hd hcd), fun T ρ σ H E D r h k => ?_⟩
  unfold sRetO at h
  split at h
  · rename_i ds e1
    have rf := r.freeze e1
    obtain ⟨v, hv, rv⟩ := rf.im i (.list ds) (List.getElem?_set_self (List.getElem?_eq_some_iff.mp e1).1)
    exact ⟨v, hv, k.rt _ _ _ _ _ rf .freeze rv h⟩
  · exact False.elim h
def sIf (c : DT) (f g : DS) : DS := fun E ρ => c ρ fun b ρ1 => if b = true then f E ρ1 else g E ρ1
theorem js_if {g : DT} {sa sb : List Stmt} {f1 f2 : DS} (hc : JT X c g) (h1 : JSs X sa f1) (h2 : JSs X sb f2) : JS X (.If c sa sb pos) (sIf g f1 f2) := by
  obtain ⟨tc, pc, kc⟩ := hc.ex
  obtain ⟨t1, p1, k1⟩ := h1.ex
  obtain ⟨t2, p2, k2⟩ := h2.ex
  refine ⟨_, ps_if pc p1 p2, fun T ρ σ H E D r h k => kc T ρ σ H _ _ r h fun b ρ1 H1 r1 q1 h => ?_⟩
  cases b with
  | true => exact k1 T ρ1 σ H1 E D r1 h (k.step q1)
  | false => exact k2 T ρ1 σ H1 E D r1 h (k.step q1)
def sSet (i : Nat) (f : DX) : DS := fun E ρ => f ρ fun sv ρ1 => E.nx (ρ1.set i (some sv))
theorem fits_set {K : PySem.W.Frag} {T : Addr → Prop} {ρ ρ0 : Env} {σ : L2.St} {H0 H : Hp} {v : V} {sv : SV} {i : Nat} (r0 : RS K T ρ0 σ H0) (q : Po ρ0 σ H0 ρ σ H) (h : Fits K T ρ σ H0 H v sv) : RS K T (ρ.set i (some sv)) (σ.set i (some v)) H ∧ Po ρ0 σ H0 (ρ.set i (some sv)) (σ.set i (some v)) H := by
  cases sv with
  | im d => exact ⟨h.1.setIm h.2, q.trans .setIm⟩
  | ow m =>
    obtain ⟨p, o, rfl, hn, ho, r, rr, np⟩ := h
    exact ⟨r.setOw ho rr (fun t => (r0.dom p t).1 hn) fun _ _ z => (np _ _ z).elim, q.setOw hn⟩
theorem js_set {i : Nat} {f : DX} {px : Pos} (he : JX X e f) (hN : X.N.Nodup) (hi : X.N[i]? = some x) (hx : Loc X.env.scope x) (hs : swapsWith e (some (.Name x px)) pos.line X.env = pure false := by rfl) (hf : X.fn x = true ∨ X.env.scope.names.lookup x = some .local := by first | exact .inl rfl | exact .inr rfl | assumption) : JS X (.Assign [.Name x px] e pos) (sSet i f) := by
  obtain ⟨t, pt, kt⟩ := he.ex
  refine ⟨_, ps_set hN hi hx pt hs hf, fun T ρ σ H E D r h k => kt T ρ σ H _ _ r h fun sv ρ1 v H1 fi q1 h => ?_⟩
  obtain ⟨r2, q2⟩ := fits_set (i := i) r q1 fi
  exact k.nx _ _ _ r2 q2 h
def sAsg (f : DE) (g : DG) : DS := fun E ρ => f ρ fun d ρ1 => g d ρ1 E.nx
theorem js_asg {tg : Expr} {g : DG} {vs : List Nat} (ha : JE X e fa) (hg : JG X tg vs g) (hs : swapsWithSole [tg] e pos.line X.env = pure false := by rfl) (hw : swappedStores [tg] e X.env = pure none := by rfl) (h1 : (assignEach [tg] X.env).map (·.2) = [assign tg X.env] := by rfl) : JS X (.Assign [tg] e pos) (sAsg fa g) := by
  obtain ⟨t, pt, kt⟩ := ha.ex
  obtain ⟨t2, p2, k2⟩ := hg.ex
  refine ⟨_, ps_asg pt p2 hs hw h1, fun T ρ σ H E D r h k => kt T ρ σ H _ _ r h fun d ρ1 v H1 r1 q1 v1 h => k2 T ρ1 σ H1 _ _ _ _ r1 v1 h fun ρ2 σ2 r2 q2 _ h => k.nx _ _ _ r2 (q1.trans q2) h⟩
def sPar (i j : Nat) (f g : DX) : DS := fun E ρ => f ρ fun s1 ρ1 => g ρ1 fun s2 ρ2 => E.nx ((ρ2.set i (some s1)).set j (some s2))
end
end Dn
set_option Elab.async false
set_option linter.all false
set_option maxRecDepth 100000
set_option autoImplicit false
set_option maxHeartbeats 4000000
namespace Dn
open PySem L2 Evl
section
variable {X : Cx} {a b c e : Expr} {fa fb fc : DE} {pos p : Pos} {es : List Expr} {x y : Str}
theorem setc {α : Type} {l : List α} {i j : Nat} {u v : α} (h : i ≠ j) : (l.set i u).set j v = (l.set j v).set i u := List.set_comm u v h
theorem Fits.grow {K : PySem.W.Frag} {T : Addr → Prop} {ρ : Env} {σ : L2.St} {H0 H H' : Hp} {v : V} {sv : SV} (h : Fits K T ρ σ H0 H v sv) (e : Ex H H') : Fits K T ρ σ H0 H' v sv := by
  cases sv with
  | im d => exact ⟨h.1.grow e, h.2.mono (hide_grow e)⟩
  | ow m => obtain ⟨q, o, h1, h2, h3, h4, h5, h6⟩ := h; exact ⟨q, o, h1, h2, e _ _ h3, h4.grow e, h5.mono (hide_grow e), h6⟩
def SV.temps (v : V) (sv : SV) (T : Addr → Prop) : Addr → Prop := match sv, v with
  | .ow _, .ref p => plus T p
  | _, _ => T
theorem Fits.rs {K : PySem.W.Frag} {T : Addr → Prop} {ρ : Env} {σ : L2.St} {H0 H : Hp} {v : V} {sv : SV} (h : Fits K T ρ σ H0 H v sv) : RS K (sv.temps v T) ρ σ H := by
  cases sv with
  | im d => exact h.1
  | ow m => obtain ⟨q, o, rfl, h2, h3, h4, h5, _⟩ := h; exact h4
theorem par_fin {K : PySem.W.Frag} {T : Addr → Prop} {ρ ρ1 ρ2 : Env} {σ : L2.St} {H H1 H2 : Hp} {v w : V} {s1 s2 : SV} {i j : Nat} (hij : i ≠ j) (r : RS K T ρ σ H) (f1 : Fits K T ρ1 σ H H1 v s1) (q1 : Po ρ σ H ρ1 σ H1)
    (f2 : Fits K (s1.temps v T) ρ2 σ H1 H2 w s2) (q2 : Po ρ1 σ H1 ρ2 σ H2) : RS K T ((ρ2.set i (some s1)).set j (some s2)) ((σ.set i (some v)).set j (some w)) H2 ∧ Po ρ σ H ((ρ2.set i (some s1)).set j (some s2)) ((σ.set i (some v)).set j (some w)) H2 := by
  rw [setc hij, setc hij]
  obtain ⟨r3, q3⟩ := fits_set (i := j) f1.rs q2 f2
  cases s1 with
  | im d => exact ⟨r3.setIm (f1.2.monoW q3.fz), (q1.trans q3).trans .setIm⟩
  | ow m =>
    obtain ⟨p, o, rfl, hn, ho, r4, rr, np⟩ := f1
    have no : ¬ Own ρ1 σ p := r4.dis p (.inl rfl)
    exact ⟨r3.setOw (q3.keep p o no ho (rpo_tb rr)) (rr.monoW q3.fz) (fun t => (r.dom p t).1 hn) fun _ _ z => (np _ _ z).elim, (q1.trans q3).setOw hn⟩
theorem js_par {i j : Nat} {f g : DX} {px py pt : Pos} {kt k2 pt2} (hc : X.calm = true) (hN : X.N.Nodup) (hi : X.N[i]? = some x) (hj : X.N[j]? = some y) (hij : i ≠ j) (hx : X.env.scope.names.lookup x = some .local) (hy : X.env.scope.names.lookup y = some .local)
    (ha : JX X a f) (hb : JX X b g) (hw : swappedStores [.Tuple [.Name x px, .Name y py] kt pt] (.Tuple [a, b] k2 pt2) X.env = pure (some [x, y])) (hs : swapsWithSole [.Tuple [.Name x px, .Name y py] kt pt] (.Tuple [a, b] k2 pt2) pos.line X.env = pure false := by rfl)
    (h1 : starEach [a, b] X.env = (false, eval a X.env) :: starEach [b] X.env := by rfl) (h2 : starEach [b] X.env = (false, eval b X.env) :: starEach [] X.env := by rfl) :
    JS X (.Assign [.Tuple [.Name x px, .Name y py] kt pt] (.Tuple [a, b] k2 pt2) pos) (sPar i j f g) := by
  obtain ⟨t1, p1, k1⟩ := ha.ex
  obtain ⟨t2, p2, k2⟩ := hb.ex
  refine ⟨_, ps_par hc hN hi hj hij hx hy (pa_cons p1 (pa_cons p2 pa_nil h2) h1) hw hs, fun T ρ σ H E D r h k => ?_⟩
  refine k1 T ρ σ H _ _ r h fun s1 ρ1 v H1 f1 q1 h => k2 (s1.temps v T) ρ1 σ H1 _ _ f1.rs h fun s2 ρ2 w H2 f2 q2 h => ⟨v, w, rfl, ?_⟩
  obtain ⟨r3, q3⟩ := par_fin hij r f1 q1 f2 q2
  exact k.nx _ _ _ r3 q3 h
theorem js_parT {i j : Nat} {f g : DX} {px py pt : Pos} {kt k2 pt2} (hc : X.calm = true) (hN : X.N.Nodup) (hi : X.N[i]? = some x) (hj : X.N[j]? = some y) (hij : i ≠ j) (hx : Loc X.env.scope x) (hy : Loc X.env.scope y)
    (ha : JX X a f) (hb : JX X b g) (hfx : X.fn x = true ∨ X.env.scope.names.lookup x = some .local := by first | exact .inl rfl | exact .inr rfl | assumption) (hfy : X.fn y = true ∨ X.env.scope.names.lookup y = some .local := by first | exact .inl rfl | exact .inr rfl | assumption)
    (hw : swappedStores [.Tuple [.Name x px, .Name y py] kt pt] (.Tuple [a, b] k2 pt2) X.env = pure none := by rfl) (hs : swapsWithSole [.Tuple [.Name x px, .Name y py] kt pt] (.Tuple [a, b] k2 pt2) pos.line X.env = pure false := by rfl)
    (h1 : starEach [a, b] X.env = (false, eval a X.env) :: starEach [b] X.env := by rfl) (h2 : starEach [b] X.env = (false, eval b X.env) :: starEach [] X.env := by rfl)
    (h3 : (assignEach [.Tuple [.Name x px, .Name y py] kt pt] X.env).map (·.2) = [assign (.Tuple [.Name x px, .Name y py] kt pt) X.env] := by rfl) (h4 : (assignEach [.Name x px, .Name y py] X.env).length = 2 := by rfl) (h5 : (assignEach [.Name x px, .Name y py] X.env).findIdx? (·.1) = none := by rfl)
    (h6 : (assignEach [.Name x px, .Name y py] X.env).map (·.2) = assign (.Name x px) X.env :: (assignEach [.Name y py] X.env).map (·.2) := by rfl) (h7 : (assignEach [.Name y py] X.env).map (·.2) = assign (.Name y py) X.env :: (assignEach [] X.env).map (·.2) := by rfl) :
    JS X (.Assign [.Tuple [.Name x px, .Name y py] kt pt] (.Tuple [a, b] k2 pt2) pos) (sPar i j f g) := by
  obtain ⟨t1, p1, k1⟩ := ha.ex
  obtain ⟨t2, p2, k2⟩ := hb.ex
  refine ⟨_, ps_asg (pe_tup (pa_cons p1 (pa_cons p2 pa_nil h2) h1)) (pg_tup hc (pgs_cons (pg_name hN hi hx hfx) (pgs_cons (pg_name hN hj hy hfy) pgs_nil h7) h6) h4 h5) hs hw h3, fun T ρ σ H E D r h k => ?_⟩
  refine k1 T ρ σ H _ _ r h fun s1 ρ1 v H1 f1 q1 h => k2 (s1.temps v T) ρ1 σ H1 _ _ f1.rs h fun s2 ρ2 w H2 f2 q2 h => ⟨by show 2 ≤ sizeLine; decide, fun l hl => ?_⟩
  obtain ⟨r3, q3⟩ := par_fin hij r f1 q1 (f2.grow (Ex.new hl)) (q2.trans (.grow (Ex.new hl)))
  exact ⟨l, [v, w], rfl, .inl (.inl upd_same), rfl, _, _, rfl, _, _, rfl, rfl, k.nx _ _ _ r3 q3 h⟩
structure ItOk (K : PySem.W.Frag) (J : It) (G : Hp) (ds : List D) : Prop where
  stop : ∀ H, Exw G H → J.stop ds.length H
  step : ∀ (i : Nat) (d : D) (H : Hp), ds[i]? = some d → Exw G H → J.go i H ∧ ∀ x H', J.yld i H x H' → Ex H H' ∧ ∀ O : Addr → Prop, (∀ a, O a → H a ≠ none) → Exw G (hide O H) → Rp K (hide O H') x d
structure JI (X : Cx) (tg iter : Expr) (f : DL) : Prop where
  ex : ∃ wi, PI X tg iter wi ∧ ∀ (T : Addr → Prop) (ρ : Env) (σ : L2.St) (H : Hp) (QD : List D → Env → Prop) (R : It → Hp → Prop), RS X.K T ρ σ H → f ρ QD →
    (∀ ds ρ' J H', RS X.K T ρ' σ H' → Po ρ σ H ρ' σ H' → ItOk X.K J (hide (Hd T ρ' σ) H') ds → QD ds ρ' → R J H') → wi σ H R
theorem it_list {K : PySem.W.Frag} {G : Hp} {a : Addr} {xs : List V} {ds : List D} (h : SqL K G a xs) (r : RpAll K G xs ds) : ItOk K (Itl K a) G ds :=
  ⟨fun H e => ⟨xs, e.l h, by rw [r.length]; exact Nat.le_refl _⟩, fun i d H hd e => by
    obtain ⟨v, h1, h2⟩ := r.get hd
    refine ⟨⟨xs, v, e.l h, h1⟩, fun x H' y => ?_⟩
    obtain ⟨rfl, y⟩ := y
    have := y xs (e.l h)
    rw [h1] at this; cases this
    exact ⟨Ex.refl _, fun O _ eo => h2.monoW eo⟩⟩
theorem it_tup {K : PySem.W.Frag} {G : Hp} {a : Addr} {xs : List V} {ds : List D} (h : SqT K G a xs) (r : RpAll K G xs ds) : ItOk K (Itt K a) G ds :=
  ⟨fun H e => ⟨xs, e.t h, by rw [r.length]; exact Nat.le_refl _⟩, fun i d H hd e => by
    obtain ⟨v, h1, h2⟩ := r.get hd
    refine ⟨⟨xs, v, e.t h, h1⟩, fun x H' y => ?_⟩
    obtain ⟨rfl, y⟩ := y
    have := y xs (e.t h)
    rw [h1] at this; cases this
    exact ⟨Ex.refl _, fun O _ eo => h2.monoW eo⟩⟩
theorem it_range {K : PySem.W.Frag} {G : Hp} (i j : Int) : ItOk K (Itr i (j - i).toNat) G (rgD i j) :=
  ⟨fun H e => by show (j - i).toNat ≤ (rgD i j).length; unfold rgD; simp, fun k d H hd e => by
    unfold rgD at hd
    rw [List.getElem?_map] at hd
    obtain ⟨m, hm, rfl⟩ := Option.map_eq_some_iff.mp hd
    obtain ⟨hk, hm⟩ := List.getElem?_eq_some_iff.mp hm
    simp at hk hm
    subst hm
    refine ⟨by show k < (j - i).toNat; omega, fun x H' y => ?_⟩
    obtain ⟨rfl, rfl⟩ := y
    exact ⟨Ex.refl _, fun O _ eo => .int _⟩⟩
variable {tg : Expr}
def iOw (i : Nat) : DL := fun ρ Q => match ρ[i]? with
  | some (some (.ow (.lst ds))) => Q ds (ρ.set i (some (.im (.list ds))))
  | _ => False
theorem ji_own {i : Nat} {px : Pos} (hN : X.N[i]? = some x) (hv : Vis X.env.scope x) (hd : (x == ("__debug__" : Str)) = false := by decide) (hcd : (x == ("__classdict__" : Str)) = false := by decide) : JI X tg (.Name x px) (iOw i) := by
  refine ⟨_, pi_list (pe_var hN hv hd hcd), fun T ρ σ H QD R r h q => ?_⟩
  unfold iOw at h
  split at h
  · rename_i ds e1
    have rf := r.freeze e1
    obtain ⟨v, hv, rv⟩ := rf.im i (.list ds) (List.getElem?_set_self (List.getElem?_eq_some_iff.mp e1).1)
    cases rv with
    | lst hp rr => exact ⟨_, hv, _, rfl, ⟨_, .inl (.inl (at_of hp))⟩, q _ _ _ _ rf .freeze (it_list (.inl (.inl hp)) rr) h⟩
  · exact False.elim h
def iR1 (f : DE) : DL := fun ρ Q => f ρ fun d ρ1 => match d with
  | .int n => RgD 0 n ∧ Q (rgD 0 n) ρ1
  | _ => False
def iR2 (f g : DE) : DL := fun ρ Q => f ρ fun d ρ1 => g ρ1 fun e ρ2 => match d, e with
  | .int i, .int j => RgD i j ∧ Q (rgD i j) ρ2
  | _, _ => False
theorem ji_r1 (hm : X.mg "range" = none) (ha : JE X a fa) (hg : Gl X "range" := by rfl) (hs : starEach [a] X.env = [(false, eval a X.env)] := by rfl) : JI X tg (.Call (.Name "range" p) [a] [] pos) (iR1 fa) := by
  obtain ⟨t, pt, kt⟩ := ha.ex
  refine ⟨_, pi_range1 hg hm (pa_cons pt pa_nil hs) hs, fun T ρ σ H QD R r h q => kt T ρ σ H _ _ r h fun d ρ1 v H1 r1 p1 v1 h => ?_⟩
  cases v1 with
  | int n =>
    obtain ⟨⟨_, _, h1, h2⟩, h⟩ := h
    have z := q _ _ _ _ r1 p1 (it_range (K := X.K) 0 n) h
    rw [show (n - 0).toNat = n.toNat from by congr 1; omega] at z
    exact ⟨n, rfl, by omega, by omega, z⟩
  | _ => exact False.elim h
theorem ji_r2 (hm : X.mg "range" = none) (ha : JE X a fa) (hb : JE X b fb) (hg : Gl X "range" := by rfl) (hs : starEach [a, b] X.env = [(false, eval a X.env), (false, eval b X.env)] := by rfl) (hs2 : starEach [b] X.env = [(false, eval b X.env)] := by rfl) : JI X tg (.Call (.Name "range" p) [a, b] [] pos) (iR2 fa fb) := by
  obtain ⟨t, pt, kt⟩ := ha.ex
  obtain ⟨t2, pt2, kt2⟩ := hb.ex
  refine ⟨_, pi_range2 hg hm (pa_cons pt (pa_cons pt2 pa_nil hs2) (by rw [hs, hs2])) hs hs2, fun T ρ σ H QD R r h q => kt T ρ σ H _ _ r h fun d ρ1 v H1 r1 p1 v1 h => kt2 T ρ1 σ H1 _ _ r1 h fun d ρ2 w H2 r2 p2 v2 h => ?_⟩
  cases v1 <;> cases v2 <;> first | exact False.elim h | skip
  obtain ⟨⟨h1, h2, h3, h4⟩, h⟩ := h
  exact ⟨_, _, rfl, ⟨by omega, by omega, by omega, by omega⟩, q _ _ _ _ r2 (p1.trans p2) (it_range (K := X.K) _ _) h⟩
def enD (ds : List D) : List D := (List.range ds.length).zipWith (fun k d => .tuple [.int (k : Nat), d]) ds
theorem enD_get {ds : List D} {i : Nat} {d : D} (h : (enD ds)[i]? = some d) : ∃ e, ds[i]? = some e ∧ d = .tuple [.int (i : Nat), e] := by
  unfold enD at h
  rw [List.getElem?_zipWith] at h
  by_cases hi : i < ds.length
  · rw [List.getElem?_range hi, List.getElem?_eq_getElem hi] at h
    simp at h
    exact ⟨_, List.getElem?_eq_getElem hi, h.symm⟩
  · rw [List.getElem?_eq_none_iff.mpr (show ds.length ≤ i by omega)] at h
    cases hr : (List.range ds.length)[i]? <;> rw [hr] at h <;> cases h
theorem enD_len {ds : List D} : (enD ds).length = ds.length := by unfold enD; simp
end
end Dn
set_option Elab.async false
set_option linter.all false
set_option maxRecDepth 100000
set_option autoImplicit false
set_option maxHeartbeats 4000000
namespace Dn
open PySem L2 Evl
def wpFor (g : DG) (body : DS) (E : DEnds) : List D → Env → Prop
  | [], ρ => E.nx ρ
  | d :: ds, ρ => g d ρ fun ρ1 => body { nx := fun ρ2 => wpFor g body E ds ρ2, ct := fun ρ2 => wpFor g body E ds ρ2, bk := E.nx, rt := E.rt, er := E.er } ρ1
def sFor (fi : DL) (g : DG) (body : DS) : DS := fun E ρ => fi ρ fun ds ρ1 => wpFor g body E ds ρ1
def wpWh (c : DT) (body : DS) (E : DEnds) : Nat → Env → Prop
  | 0, _ => False
  | n + 1, ρ => c ρ fun b ρ1 => if b = true then body { nx := wpWh c body E n, ct := wpWh c body E n, bk := E.nx, rt := E.rt, er := E.er } ρ1 else E.nx ρ1
def sWh (c : DT) (body : DS) : DS := fun E ρ => ∃ n, wpWh c body E n ρ
section
variable {X : Cx} {a b c e : Expr} {fa fb fc : DE} {pos p : Pos} {es : List Expr} {x y : Str}
theorem js_for {tg iter : Expr} {body : List Stmt} {fi : DL} {g : DG} {vs : List Nat} {f : DS} (hc : X.calm = true) (hi : JI X tg iter fi) (hg : JG X tg vs g) (hb : JSs X body f) (hp : PassesOwn (model X.prog X.w) X.A X.env X.xe := by first | exact PassesOwn.never | exact passes_of rfl | assumption)
    (hs : ∀ x, foldedSetIterable iter X.env x = pure x := by intro _; rfl) : JS X (.For tg iter body [] pos) (sFor fi g f) := by
  obtain ⟨wi, pi, ki⟩ := hi.ex
  obtain ⟨tg', pg, kg⟩ := hg.ex
  obtain ⟨tb, pb, kb⟩ := hb.ex
  refine ⟨_, ps_for hp hc pi pg pb hs, fun T ρ σ H E D r h k => ki T ρ σ H _ _ r h fun ds ρ1 J H1 r1 p1 it h => ?_⟩
  refine ⟨fun i m σ' H' => i ≤ ds.length ∧ m = ds.length - i ∧ ∃ ρ', RS X.K T ρ' σ' H' ∧ Po ρ1 σ H1 ρ' σ' H' ∧ wpFor g f E (ds.drop i) ρ', ⟨ds.length, Nat.zero_le _, rfl, ρ1, r1, .refl, h⟩, ?_⟩
  rintro i m σ' H' ⟨hi, rfl, ρ', r', p', h⟩
  have eG : Exw (hide (Hd T ρ1 σ) H1) H' := (p'.fz (T := T)).trans (Exw.of hide_ex)
  by_cases hl : i < ds.length
  · rw [List.drop_eq_getElem_cons hl] at h
    obtain ⟨go, st⟩ := it.step i ds[i] H' (List.getElem?_eq_getElem hl) eG
    refine .inr ⟨go, fun σ2 H2 => ∃ ρ2, RS X.K T ρ2 σ2 H2 ∧ Po ρ1 σ H1 ρ2 σ2 H2 ∧ wpFor g f E (ds.drop (i + 1)) ρ2, fun σ2 H2 ⟨ρ2, a1, a2, a3⟩ => ⟨ds.length - (i + 1), by omega, by omega, rfl, ρ2, a1, a2, a3⟩, fun v H2 hy => ?_⟩
    obtain ⟨ex, rv⟩ := st v H2 hy
    have r2 := r'.grow ex
    have p2 := p'.trans (Po.grow (ρ := ρ') (σ := σ') ex)
    refine kg T ρ' σ' H2 v _ _ _ r2 (rv _ (fun a => r'.hdDom) (p'.fz (T := T))) h fun ρ3 σ3 r3 p3 _ h => ?_
    refine kb T ρ3 σ3 H2 _ _ r3 h ⟨fun ρ4 σ4 H4 r4 p4 h => ⟨ρ4, r4, (p2.trans p3).trans p4, h⟩, fun d ρ4 σ4 v4 H4 r4 p4 v5 h => k.rt d ρ4 σ4 v4 H4 r4 ((p1.trans (p2.trans p3)).trans p4) v5 h, fun ρ4 σ4 H4 r4 p4 h => k.nx ρ4 σ4 H4 r4 ((p1.trans (p2.trans p3)).trans p4) h, fun ρ4 σ4 H4 r4 p4 h => ⟨ρ4, r4, (p2.trans p3).trans p4, h⟩, fun a b σ4 d H4 p4 v5 h => k.er a b σ4 d H4 ((p1.trans (p2.trans p3)).trans p4) v5 h⟩
  · have e : i = ds.length := by omega
    subst e
    rw [List.drop_length] at h
    exact .inl ⟨it.stop H' eG, k.nx _ _ _ r' (p1.trans p') h⟩
theorem js_while {body : List Stmt} {g : DT} {f : DS} (hc : JT X c g) (hb : JSs X body f) (hp : PassesOwn (model X.prog X.w) X.A X.env X.xe := by first | exact PassesOwn.never | exact passes_of rfl | assumption) : JS X (.While c body [] pos) (sWh g f) := by
  obtain ⟨tc, pc, kc⟩ := hc.ex
  obtain ⟨tb, pb, kb⟩ := hb.ex
  refine ⟨_, ps_while hp pc pb, fun T ρ σ H E D r h k => ?_⟩
  obtain ⟨n, h⟩ := h
  refine ⟨fun m σ' H' => ∃ ρ', RS X.K T ρ' σ' H' ∧ Po ρ σ H ρ' σ' H' ∧ wpWh g f E m ρ', ⟨n, ρ, r, .refl, h⟩, ?_⟩
  rintro m σ' H' ⟨ρ', r', p', h⟩
  cases m with
  | zero => exact False.elim h
  | succ m =>
    refine kc T ρ' σ' H' _ _ r' h fun b ρ1 H1 r1 p1 h => ?_
    cases b with
    | false => exact k.nx _ _ _ r1 (p'.trans p1) h
    | true =>
      rw [if_pos rfl] at h ⊢
      refine ⟨fun σ2 H2 => ∃ ρ2, RS X.K T ρ2 σ2 H2 ∧ Po ρ σ H ρ2 σ2 H2 ∧ wpWh g f E m ρ2, fun σ2 H2 ⟨ρ2, a1, a2, a3⟩ => ⟨m, Nat.lt_succ_self m, ρ2, a1, a2, a3⟩, ?_⟩
      have q := p'.trans p1
      exact kb T ρ1 σ' H1 _ _ r1 h ⟨fun ρ4 σ4 H4 r4 p4 h => ⟨ρ4, r4, q.trans p4, h⟩, fun d ρ4 σ4 v4 H4 r4 p4 v5 h => k.rt d ρ4 σ4 v4 H4 r4 (q.trans p4) v5 h, fun ρ4 σ4 H4 r4 p4 h => k.nx ρ4 σ4 H4 r4 (q.trans p4) h, fun ρ4 σ4 H4 r4 p4 h => ⟨ρ4, r4, q.trans p4, h⟩, fun a b σ4 d H4 p4 v5 h => k.er a b σ4 d H4 (q.trans p4) v5 h⟩
def wipeD (ρ : Env) : List Nat → Env
  | [] => ρ
  | v :: vs => (wipeD ρ vs).set v none
section
variable {K : PySem.W.Frag} {T : Addr → Prop} {ρ ρ' : Env} {σ σ' : L2.St} {H H' : Hp}
theorem own_congr (hs : ∀ (i : Nat) (sv : SV), ρ[i]? = some (some sv) → σ'[i]? = σ[i]?) {a : Addr} (w : Own ρ σ' a) : Own ρ σ a := by
  obtain ⟨i, m, h1, h2⟩ := w
  exact ⟨i, m, h1, by rw [← hs i _ h1]; exact h2⟩
theorem RS.congr (r : RS K T ρ σ H) (hl : σ'.length = σ.length) (hs : ∀ (i : Nat) (sv : SV), ρ[i]? = some (some sv) → σ'[i]? = σ[i]?) : RS K T ρ σ' H := by
  have e : Ex (hide (Hd T ρ σ) H) (hide (Hd T ρ σ') H) := hide_sub fun a w => w.elim .inl fun w => .inr (own_congr hs w)
  refine ⟨by rw [r.len, hl], fun i d h => ?_, fun i m h => ?_, fun i j m m' a h1 h2 h3 h4 => ?_, fun a t w => r.dis a t (own_congr hs w), r.dom, fun i p m a h1 h2 => by rw [hs i _ h1] at h2; exact r.tag i p m a h1 h2, r.tb⟩
  · obtain ⟨v, h1, h2⟩ := r.im i d h; exact ⟨v, by rw [hs i _ h]; exact h1, h2.mono e⟩
  · obtain ⟨a, o, h1, h2, h3⟩ := r.ow i m h; exact ⟨a, o, by rw [hs i _ h]; exact h1, h2, h3.mono e⟩
  · rw [hs i _ h1] at h3; rw [hs j _ h2] at h4; exact r.inj i j m m' a h1 h2 h3 h4
theorem own_drop {i : Nat} {a : Addr} (w : Own (ρ.set i none) σ a) : Own ρ σ a := by
  obtain ⟨j, m, h1, h2⟩ := w
  rcases getset h1 with ⟨_, _, h⟩ | ⟨_, h⟩
  · cases h
  · exact ⟨j, m, h, h2⟩
theorem RS.drop {i : Nat} (r : RS K T ρ σ H) : RS K T (ρ.set i none) σ H := by
  have e : Ex (hide (Hd T ρ σ) H) (hide (Hd T (ρ.set i none) σ) H) := hide_sub fun a w => w.elim .inl fun w => .inr (own_drop w)
  refine ⟨by simp [r.len], fun j d h => ?_, fun j m h => ?_, fun j k m m' a h1 h2 h3 h4 => ?_, fun a t w => r.dis a t (own_drop w), r.dom, fun j p m a h1 h2 => ?_, r.tb⟩
  · rcases getset h with ⟨_, _, h⟩ | ⟨_, h⟩
    · cases h
    · obtain ⟨v, h1, h2⟩ := r.im j d h; exact ⟨v, h1, h2.mono e⟩
  · rcases getset h with ⟨_, _, h⟩ | ⟨_, h⟩
    · cases h
    · obtain ⟨a, o, h1, h2, h3⟩ := r.ow j m h; exact ⟨a, o, h1, h2, h3.mono e⟩
  · rcases getset h1 with ⟨_, _, h1⟩ | ⟨_, h1⟩
    · cases h1
    · rcases getset h2 with ⟨_, _, h2⟩ | ⟨_, h2⟩
      · cases h2
      · exact r.inj j k m m' a h1 h2 h3 h4
  · rcases getset h1 with ⟨_, _, h1⟩ | ⟨_, h1⟩
    · cases h1
    · exact r.tag j p m a h1 h2
theorem Po.drop {i : Nat} : Po ρ σ H (ρ.set i none) σ H := ⟨fun _ _ _ h _ => h, fun a w => .inl (own_drop w), fun _ h => h⟩
theorem RS.dropAll (r : RS K T ρ σ H) : ∀ vs : List Nat, RS K T (wipeD ρ vs) σ H
  | [] => r
  | v :: vs => (RS.dropAll r vs).drop
theorem Po.dropAll : ∀ vs : List Nat, Po ρ σ H (wipeD ρ vs) σ H
  | [] => .refl
  | v :: vs => (Po.dropAll vs).trans .drop
theorem wipeD_none : ∀ (vs : List Nat) (i : Nat) (sv : SV), (wipeD ρ vs)[i]? = some (some sv) → i ∉ vs
  | [], _, _, _ => by simp
  | v :: vs, i, sv, h => by
    rcases getset (show ((wipeD ρ vs).set v none)[i]? = _ from h) with ⟨_, _, h⟩ | ⟨ne, h⟩
    · cases h
    · intro z
      rcases List.mem_cons.mp z with z | z
      · exact ne z.symm
      · exact wipeD_none vs i sv h z
theorem wipe_ne : ∀ (vs : List Nat) (i : Nat), i ∉ vs → (wipe σ vs)[i]? = σ[i]?
  | [], _, _ => rfl
  | v :: vs, i, h => by
    show ((wipe σ vs).set v none)[i]? = _
    rw [List.getElem?_set_ne (fun z => h (by rw [z]; exact List.mem_cons_self)), wipe_ne vs i fun z => h (List.mem_cons_of_mem _ z)]
theorem RS.wiped (r : RS K T ρ σ H) (vs : List Nat) : RS K T (wipeD ρ vs) (wipe σ vs) H := (r.dropAll vs).congr (wipe_length σ vs) fun i sv h => wipe_ne vs i (wipeD_none vs i sv h)
theorem own_wipe {vs : List Nat} {a : Addr} (w : Own (wipeD ρ vs) (wipe σ vs) a) : Own ρ σ a := by
  have w' : Own (wipeD ρ vs) σ a := own_congr (fun i sv h => wipe_ne vs i (wipeD_none vs i sv h)) w
  rcases (Po.dropAll (ρ := ρ) (σ := σ) (H := fun _ => some (.tup [])) vs).own a w' with h | h
  · exact h
  · cases h
theorem Po.wiped (vs : List Nat) : Po ρ σ H (wipeD ρ vs) (wipe σ vs) H := ⟨fun _ _ _ h _ => h, fun a w => .inl (own_wipe w), fun _ h => h⟩
theorem RS.unwipe {vs : List Nat} (r : RS K T (wipeD ρ vs) (wipe σ vs) H) : RS K T (wipeD ρ vs) σ H := r.congr (wipe_length σ vs).symm fun i sv h => (wipe_ne vs i (wipeD_none vs i sv h)).symm
theorem own_unwipe {vs : List Nat} {a : Addr} (w : Own (wipeD ρ vs) σ a) : Own (wipeD ρ vs) (wipe σ vs) a := own_congr (fun i sv h => (wipe_ne vs i (wipeD_none vs i sv h)).symm) w
end
structure JTs (X : Cx) (ifs : List Expr) (f : DT) : Prop where
  ex : ∃ t, PTs X ifs t ∧ ∀ (T : Addr → Prop) (ρ : Env) (σ : L2.St) (H : Hp) (QD : Bool → Env → Prop) (Q : Bool → Hp → Prop), RS X.K T ρ σ H → f ρ QD →
    (∀ b ρ' H', RS X.K T ρ' σ H' → Po ρ σ H ρ' σ H' → QD b ρ' → Q b H') → t σ H Q
def dYes : DT := fun ρ Q => Q true ρ
theorem jts_nil : JTs X [] dYes := ⟨tYes, pts_nil, fun T ρ σ H QD Q r h q => q _ _ _ r .refl h⟩
theorem jts_one {g : DT} (h : JT X c g) : JTs X [c] g := let ⟨t, pt, k⟩ := h.ex; ⟨t, pts_one pt, k⟩
def teOf (K : PySem.W.Frag) (f : DE) : TE := fun σ H Q => ∃ (T : Addr → Prop) (ρ : Env) (QD : D → Env → Prop), RS K T ρ σ H ∧ f ρ QD ∧ ∀ d ρ' v H', RS K T ρ' σ H' → Po ρ σ H ρ' σ H' → Rp K (hide (Hd T ρ' σ) H') v d → QD d ρ' → Q v H'
def ttOf (K : PySem.W.Frag) (f : DT) : TT := fun σ H Q => ∃ (T : Addr → Prop) (ρ : Env) (QD : Bool → Env → Prop), RS K T ρ σ H ∧ f ρ QD ∧ ∀ d ρ' H', RS K T ρ' σ H' → Po ρ σ H ρ' σ H' → QD d ρ' → Q d H'
def tgOf (K : PySem.W.Frag) (vs : List Nat) (g : DG) : TG := fun v σ H Q => ∃ (T : Addr → Prop) (ρ : Env) (d : D) (QD : Env → Prop), RS K T ρ σ H ∧ Rp K (hide (Hd T ρ σ) H) v d ∧ g d ρ QD ∧ ∀ ρ' σ', RS K T ρ' σ' H → Po ρ σ H ρ' σ' H → wipe σ' vs = wipe σ vs → QD ρ' → Q σ' H
theorem JE.pe (h : JE X e fa) : PE X e (teOf X.K fa) := by
  obtain ⟨t, pt, k⟩ := h.ex
  exact ⟨fun pins s σ H Q I ⟨T, ρ, QD, r, h, q⟩ => pt.run pins s σ H Q I (k T ρ σ H QD Q r h q)⟩
theorem JTs.pts {ifs : List Expr} {g : DT} (h : JTs X ifs g) : PTs X ifs (ttOf X.K g) := by
  obtain ⟨t, pt, k⟩ := h.ex
  exact ⟨fun pins s σ H Q I ⟨T, ρ, QD, r, h, q⟩ => pt.run pins s σ H Q I (k T ρ σ H QD Q r h q)⟩
theorem JG.pg {tg : Expr} {vs : List Nat} {g : DG} (h : JG X tg vs g) : PG X tg (tgOf X.K vs g) := by
  obtain ⟨t, pt, k⟩ := h.ex
  exact ⟨fun pins s σ H v u Q I rv ⟨T, ρ, d, QD, r, r2, h, q⟩ => pt.run pins s σ H v u Q I rv (k T ρ σ H v d QD Q r r2 h q)⟩
def wpLc (g : DG) (tt : DT) (te : DE) (vs : List Nat) (Q : List D → Env → Prop) : List D → List D → Env → Prop
  | [], acc, ρ => Q acc ρ
  | d :: ds, acc, ρ => acc.length < 16777216 ∧ g d (wipeD ρ vs) fun ρ1 => tt ρ1 fun b ρ2 => if b = true then te ρ2 fun y ρ3 => wpLc g tt te vs Q ds (acc ++ [y]) (wipeD ρ3 vs) else wpLc g tt te vs Q ds acc (wipeD ρ2 vs)
def lLc (fi : DL) (g : DG) (tt : DT) (te : DE) (vs : List Nat) : DL := fun ρ Q => fi ρ fun ds ρ1 => wpLc g tt te vs Q ds [] (wipeD ρ1 vs)
theorem wipeD_idem {ρ : Env} : ∀ vs : List Nat, wipeD (wipeD ρ vs) vs = wipeD ρ vs := by
  intro vs
  apply List.ext_getElem?
  intro i
  have len : ∀ (ρ : Env) (vs : List Nat), (wipeD ρ vs).length = ρ.length := fun ρ vs => by
    induction vs with
    | nil => rfl
    | cons v vs ih => show ((wipeD ρ vs).set v none).length = _; rw [List.length_set, ih]
  have at1 : ∀ (ρ : Env) (vs : List Nat), (wipeD ρ vs)[i]? = if i ∈ vs then (if i < ρ.length then some none else none) else ρ[i]? := fun ρ vs => by
    induction vs with
    | nil => simp [wipeD]
    | cons v vs ih =>
      show ((wipeD ρ vs).set v none)[i]? = _
      by_cases e : v = i
      · subst e
        by_cases hl : v < ρ.length
        · rw [List.getElem?_set_self (by rw [len]; exact hl)]; simp [hl]
        · rw [List.getElem?_eq_none_iff.mpr (by rw [List.length_set, len]; omega)]; simp [hl]
      · rw [List.getElem?_set_ne e, ih]
        simp only [List.mem_cons, show ¬ i = v from fun z => e z.symm, false_or]
  rw [at1, at1, len]
  by_cases h : i ∈ vs <;> simp [h]
theorem wipe_idem (ρ : L2.St) : ∀ vs : List Nat, wipe (wipe ρ vs) vs = wipe ρ vs := by
  intro vs
  apply List.ext_getElem?
  intro i
  have len : ∀ (ρ : L2.St) (vs : List Nat), (wipe ρ vs).length = ρ.length := fun ρ vs => by
    induction vs with
    | nil => rfl
    | cons v vs ih => show ((wipe ρ vs).set v none).length = _; rw [List.length_set, ih]
  have at1 : ∀ (ρ : L2.St) (vs : List Nat), (wipe ρ vs)[i]? = if i ∈ vs then (if i < ρ.length then some none else none) else ρ[i]? := fun ρ vs => by
    induction vs with
    | nil => simp [wipe]
    | cons v vs ih =>
      show ((wipe ρ vs).set v none)[i]? = _
      by_cases e : v = i
      · subst e
        by_cases hl : v < ρ.length
        · rw [List.getElem?_set_self (by rw [len]; exact hl)]; simp [hl]
        · rw [List.getElem?_eq_none_iff.mpr (by rw [List.length_set, len]; omega)]; simp [hl]
      · rw [List.getElem?_set_ne e, ih]
        simp only [List.mem_cons, show ¬ i = v from fun z => e z.symm, false_or]
  rw [at1, at1, len]
  by_cases h : i ∈ vs <;> simp [h]
theorem lc_read {tg iter : Expr} {vs : List Nat} {fi : DL} {g : DG} {tt : DT} {te : DE} (hi : JI X tg iter fi) : ∃ wi, PI X tg iter wi ∧ ∀ (T : Addr → Prop) (ρ : Env) (σ : L2.St) (H : Hp) (QD : List D → Env → Prop) (Q : VK), RS X.K T ρ σ H → lLc fi g tt te vs ρ QD →
    (∀ ds ρ' p vs H', H p = none → H' p = some (.lst vs) → RS X.K (plus T p) ρ' σ H' → RpAll X.K (hide (Hd (plus T p) ρ' σ) H') vs ds → Po ρ σ H ρ' σ H' → QD ds ρ' → Q (.ref p) H') → tLc wi (tgOf X.K vs g) (ttOf X.K tt) (teOf X.K te) vs σ H Q := by
  obtain ⟨wi, pi, ki⟩ := hi.ex
  refine ⟨wi, pi, fun T ρ σ H QD Q r h q => ki T ρ σ H _ _ r h fun ds ρ1 J H1 r1 p1 it h => ?_⟩
  intro L hL
  -- kept: what was known at the start stands apart from the new list
  refine ⟨fun i m H' => i ≤ ds.length ∧ m = ds.length - i ∧ ∃ ρ' acc us, ρ' = wipeD ρ' vs ∧ RS X.K (plus T L) ρ' (wipe σ vs) H' ∧ Po ρ1 σ H1 ρ' (wipe σ vs) H' ∧ H' L = some (.lst us) ∧ RpAll X.K (hide (Hd (plus T L) ρ' (wipe σ vs)) H') us acc ∧ wpLc g tt te vs QD (ds.drop i) acc ρ',
    ⟨ds.length, Nat.zero_le _, rfl, wipeD ρ1 vs, [], [], (wipeD_idem vs).symm, (r1.laid hL).wiped vs, (Po.grow (Ex.new hL)).trans (.wiped vs), upd_same, .nil, h⟩, ?_⟩
  rintro i m H' ⟨hi, rfl, ρ', acc, us, ew, r', p', hl, ra, h⟩
  have eG : Exw (hide (Hd T ρ1 σ) H1) H' := (p'.fz (T := T)).trans (Exw.of hide_ex)
  by_cases hlt : i < ds.length
  · rw [List.drop_eq_getElem_cons hlt] at h
    obtain ⟨hz, h⟩ := h
    obtain ⟨go, st⟩ := it.step i ds[i] H' (List.getElem?_eq_getElem hlt) eG
    refine .inr ⟨go, fun H2 => ∃ ρ2 acc us, ρ2 = wipeD ρ2 vs ∧ RS X.K (plus T L) ρ2 (wipe σ vs) H2 ∧ Po ρ1 σ H1 ρ2 (wipe σ vs) H2 ∧ H2 L = some (.lst us) ∧ RpAll X.K (hide (Hd (plus T L) ρ2 (wipe σ vs)) H2) us acc ∧ wpLc g tt te vs QD (ds.drop (i + 1)) acc ρ2,
      fun H2 w => ⟨ds.length - (i + 1), by omega, by omega, rfl, w⟩, fun v H2 hy => ?_⟩
    obtain ⟨ex, rv⟩ := st v H2 hy
    rw [← ew] at h
    have r2 := r'.grow ex
    have pa2 := p'.trans (Po.grow (ρ := ρ') (σ := wipe σ vs) ex)
    have ra2 := ra.mono (hide_grow (O := Hd (plus T L) ρ' (wipe σ vs)) ex)
    have nL : H1 L = none := hL
    have eO : Exw (hide (Hd T ρ1 σ) H1) (hide (Hd (plus T L) ρ' (wipe σ vs)) H') := ⟨fun a o w nt => by
      obtain ⟨n, w⟩ := hide_some.1 w
      obtain ⟨n2, w2⟩ := hide_some.1 ((p'.fz (T := T)).k a o (hide_some.2 ⟨n, w⟩) nt)
      refine hide_some.2 ⟨?_, w2⟩
      rintro ((t | t) | t)
      · subst t; rw [nL] at w; cases w
      · exact n2 (.inl t)
      · exact n2 (.inr t), fun a w => by
      obtain ⟨n, w⟩ := hide_dom.1 w
      obtain ⟨n2, w2⟩ := hide_dom.1 ((p'.fz (T := T)).d a (hide_dom.2 ⟨n, w⟩))
      refine hide_dom.2 ⟨?_, w2⟩
      rintro ((t | t) | t)
      · subst t; exact w nL
      · exact n2 (.inl t)
      · exact n2 (.inr t)⟩
    refine ⟨plus T L, ρ', ds[i], _, r2, rv _ (fun a => r'.hdDom) eO, h, fun ρ3 σ3 r3 p3 w3 h => ⟨by rw [w3]; exact wipe_idem σ vs, plus T L, ρ3, _, r3, h, fun b ρ4 H4 r4 p4 h => ?_⟩⟩
    -- the new list is never the block's own
    have keepL : ∀ {ρa : Env} {σa : L2.St} {Ha Hb : Hp} {ρb : Env} {σb : L2.St} {o : HO}, RS X.K (plus T L) ρa σa Ha → Po ρa σa Ha ρb σb Hb → Ha L = some o → (nt : ¬ TbO o := by first | assumption | exact id) → Hb L = some o := fun ra pab hh nt => pab.keep L _ (ra.dis L (.inl rfl)) hh nt
    have l4 : H4 L = some (.lst us) := keepL r2 (p3.trans p4) (ex _ _ hl)
    have ra4 := ra2.monoW (((p3.trans p4)).fz (T := plus T L))
    have back : ∀ {ρ5 : Env} {H5 : Hp}, RS X.K (plus T L) ρ5 σ3 H5 → RS X.K (plus T L) (wipeD ρ5 vs) (wipe σ vs) H5 := fun {ρ5 H5} r5 => by
      have z := r5.wiped vs
      rw [w3, wipe_idem] at z
      exact z
    have pback : ∀ {ρ5 : Env} {H5 : Hp}, Po ρ1 σ H1 ρ5 σ3 H5 → Po ρ1 σ H1 (wipeD ρ5 vs) (wipe σ vs) H5 := fun {ρ5 H5} p5 => by
      have z := p5.trans (Po.wiped (ρ := ρ5) (σ := σ3) (H := H5) vs)
      rw [w3, wipe_idem] at z
      exact z
    cases b with
    | false =>
      refine ⟨wipeD ρ4 vs, acc, us, (wipeD_idem vs).symm, back r4, pback (pa2.trans (p3.trans p4)), l4, ?_, h⟩
      have z := ra4.monoW ((Po.wiped (ρ := ρ4) (σ := σ3) (H := H4) vs).fz (T := plus T L))
      rw [w3, wipe_idem] at z
      exact z
    | true =>
      rw [if_pos rfl] at h
      dsimp only
      rw [if_pos rfl]
      refine ⟨plus T L, ρ4, _, r4, h, fun y ρ5 w H5 r5 p5 v5 h => ?_⟩
      have l5 : H5 L = some (.lst us) := keepL r4 p5 l4
      have ra5 := (ra4.monoW (p5.fz (T := plus T L))).append (.cons v5 .nil)
      have aL : ∀ (o : HO), Ex (hide (Hd (plus T L) ρ5 σ3) H5) (hide (Hd (plus T L) ρ5 σ3) (upd H5 L o)) := fun o a u w => by
        obtain ⟨n, w⟩ := hide_some.1 w
        exact hide_some.2 ⟨n, by rw [upd_ne (fun z => n (.inl (.inl z)))]; exact w⟩
      have r6 : RS X.K (plus T L) ρ5 σ3 (upd H5 L (.lst (us ++ [w]))) := by
        refine ⟨r5.len, fun j d z => ?_, fun j m z => ?_, r5.inj, r5.dis, fun a t => ?_, r5.tag, r5.tb.wr l5⟩
        · obtain ⟨u, h1, h2⟩ := r5.im j d z; exact ⟨u, h1, h2.mono (aL _)⟩
        · obtain ⟨a, o, h1, h2, h3⟩ := r5.ow j m z
          have ne : a ≠ L := fun e => by subst e; exact r5.dis a (.inl rfl) ⟨j, m, z, h1⟩
          exact ⟨a, o, h1, by rw [upd_ne ne]; exact h2, h3.mono (aL _)⟩
        · by_cases e : a = L
          · subst e; exact Lv.at id
          · exact (r5.dom a t).upd e
      have p6 : Po ρ1 σ H1 ρ5 σ3 (upd H5 L (.lst (us ++ [w]))) := by
        have z := (pa2.trans (p3.trans p4)).trans p5
        refine ⟨fun a o n hh nt => ?_, z.own, fun a hh => ?_⟩
        · rw [upd_ne (fun e => by subst e; rw [nL] at hh; cases hh)]; exact z.keep a o n hh nt
        · by_cases e : a = L
          · subst e; rw [upd_same]; simp
          · rw [upd_ne e]; exact z.dom a hh
      refine ⟨us, l5, by rw [ra.length]; exact hz, wipeD ρ5 vs, acc ++ [y], us ++ [w], (wipeD_idem vs).symm, back r6, pback p6, upd_same, ?_, h⟩
      have z := (ra5.mono (aL (.lst (us ++ [w])))).monoW ((Po.wiped (ρ := ρ5) (σ := σ3) (H := upd H5 L (.lst (us ++ [w]))) vs).fz (T := plus T L))
      rw [w3, wipe_idem] at z
      exact z
  · have e : i = ds.length := by omega
    subst e
    rw [List.drop_length] at h
    refine .inl ⟨it.stop H' eG, ?_⟩
    rw [ew] at r' p' ra h
    refine q acc (wipeD ρ' vs) L us H' (none_back p1 hL) hl r'.unwipe (ra.mono ?_) ?_ h
    · exact hide_sub fun a w => w.elim .inl fun w => .inr (own_unwipe w)
    · exact p1.trans ⟨fun a o n h nt => p'.keep a o n h nt, fun a w => p'.own a (own_unwipe w), p'.dom⟩
theorem jl_lc {elt tg iter : Expr} {ifs : List Expr} {scope : Scope} {own : List (Str × Nat)} {fi : DL} {g : DG} {tt : DT} {te : DE} (hc : X.calm = true) (hN : X.N.Nodup) (hi : JI X tg iter fi) (ok : BlkOk X.N X.env.scope scope own)
    (hg : ∀ (s : Shared) (H : Hp) (C : Addr) (cl : List (Str × Addr)) (fp : List Addr), JG (X.blk s H scope (compEnvC scope cl C X.env) fp) tg (own.map (·.2)) g) (ht : ∀ (s : Shared) (H : Hp) (C : Addr) (cl : List (Str × Addr)) (fp : List Addr), JTs (X.blk s H scope (compEnvC scope cl C X.env) fp) ifs tt)
    (he : ∀ (s : Shared) (H : Hp) (C : Addr) (cl : List (Str × Addr)) (fp : List Addr), JE (X.blk s H scope (compEnvC scope cl C X.env) fp) elt te) (hs : ∀ x, foldedSetIterable iter X.env x = pure x := by intro _; rfl) :
    JL X (.ListComp elt [⟨tg, iter, ifs, 0⟩] scope pos) (lLc fi g tt te (own.map (·.2))) := by
  obtain ⟨wi, pi, k⟩ := lc_read (vs := own.map (·.2)) (g := g) (tt := tt) (te := te) hi
  exact ⟨_, pe_lc (wi := wi) (g := tgOf X.K (own.map (·.2)) g) (tt := ttOf X.K tt) (te := teOf X.K te) hc hN pi ok (fun s H C cl fp => (hg s H C cl fp).pg) (fun s H C cl fp => (ht s H C cl fp).pts) (fun s H C cl fp => (he s H C cl fp).pe) hs, k⟩
theorem js_lcO {i : Nat} {py spos : Pos} {elt tg iter : Expr} {ifs : List Expr} {scope : Scope} {own : List (Str × Nat)} {fi : DL} {g : DG} {tt : DT} {te : DE} (hc : X.calm = true) (hN : X.N.Nodup) (hy : X.N[i]? = some y) (hyl : X.env.scope.names.lookup y = some .local)
    (hsw : swapsWith (.ListComp elt [⟨tg, iter, ifs, 0⟩] scope pos) (some (.Name y py)) spos.line X.env = pure true) (hi : JI X tg iter fi) (ok : BlkOk X.N X.env.scope scope own)
    (hg : ∀ (s : Shared) (H : Hp) (C : Addr) (cl : List (Str × Addr)) (fp : List Addr), JG (X.blk s H scope (compEnvC scope cl C X.env) fp) tg (own.map (·.2)) g) (ht : ∀ (s : Shared) (H : Hp) (C : Addr) (cl : List (Str × Addr)) (fp : List Addr), JTs (X.blk s H scope (compEnvC scope cl C X.env) fp) ifs tt)
    (he : ∀ (s : Shared) (H : Hp) (C : Addr) (cl : List (Str × Addr)) (fp : List Addr), JE (X.blk s H scope (compEnvC scope cl C X.env) fp) elt te) (hs : ∀ x, foldedSetIterable iter X.env x = pure x := by intro _; rfl) :
    JS X (.Assign [.Name y py] (.ListComp elt [⟨tg, iter, ifs, 0⟩] scope pos) spos) (sSet i (xOw (lLc fi g tt te (own.map (·.2))))) := by
  obtain ⟨wi, pi, k⟩ := lc_read (vs := own.map (·.2)) (g := g) (tt := tt) (te := te) hi
  refine ⟨_, ps_setLc (wi := wi) (g := tgOf X.K (own.map (·.2)) g) (tt := ttOf X.K tt) (te := teOf X.K te) hc hN hy hyl hsw pi ok (fun s H C cl fp => (hg s H C cl fp).pg) (fun s H C cl fp => (ht s H C cl fp).pts) (fun s H C cl fp => (he s H C cl fp).pe) hs, fun T ρ σ H E D r h q => ?_⟩
  refine k T ρ σ H _ _ r h fun ds ρ1 l vs H1 n sl r1 v1 p1 h => ?_
  obtain ⟨r2, q2⟩ := fits_set (i := i) (sv := .ow (.lst ds)) r p1 ⟨l, .lst vs, rfl, n, sl, r1, v1, fun _ _ z => nomatch z⟩
  exact q.nx _ _ _ r2 q2 h
theorem js_lcF {i : Nat} {py spos : Pos} {elt tg iter : Expr} {ifs : List Expr} {scope : Scope} {own : List (Str × Nat)} {fi : DL} {g : DG} {tt : DT} {te : DE} (hc : X.calm = true) (hN : X.N.Nodup) (hy : X.N[i]? = some y) (hyl : X.env.scope.names.lookup y = some .local)
    (hsw : swapsWith (.ListComp elt [⟨tg, iter, ifs, 0⟩] scope pos) (some (.Name y py)) spos.line X.env = pure true) (hi : JI X tg iter fi) (ok : BlkOk X.N X.env.scope scope own)
    (hg : ∀ (s : Shared) (H : Hp) (C : Addr) (cl : List (Str × Addr)) (fp : List Addr), JG (X.blk s H scope (compEnvC scope cl C X.env) fp) tg (own.map (·.2)) g) (ht : ∀ (s : Shared) (H : Hp) (C : Addr) (cl : List (Str × Addr)) (fp : List Addr), JTs (X.blk s H scope (compEnvC scope cl C X.env) fp) ifs tt)
    (he : ∀ (s : Shared) (H : Hp) (C : Addr) (cl : List (Str × Addr)) (fp : List Addr), JE (X.blk s H scope (compEnvC scope cl C X.env) fp) elt te) (hs : ∀ x, foldedSetIterable iter X.env x = pure x := by intro _; rfl) :
    JS X (.Assign [.Name y py] (.ListComp elt [⟨tg, iter, ifs, 0⟩] scope pos) spos) (sSet i (xIm (dOfL (lLc fi g tt te (own.map (·.2)))))) := by
  obtain ⟨wi, pi, k⟩ := lc_read (vs := own.map (·.2)) (g := g) (tt := tt) (te := te) hi
  refine ⟨_, ps_setLc (wi := wi) (g := tgOf X.K (own.map (·.2)) g) (tt := ttOf X.K tt) (te := teOf X.K te) hc hN hy hyl hsw pi ok (fun s H C cl fp => (hg s H C cl fp).pg) (fun s H C cl fp => (ht s H C cl fp).pts) (fun s H C cl fp => (he s H C cl fp).pe) hs, fun T ρ σ H E D r h q => ?_⟩
  refine k T ρ σ H _ _ r h fun ds ρ1 l vs H1 n sl r1 v1 p1 h => ?_
  have rl : Rp X.K (hide (Hd T ρ1 σ) H1) (.ref l) (.list ds) := .lst (hide_some.2 ⟨fun w => by
    rcases w with w | w
    · exact (r.dom l w).1 n
    · exact r1.dis l (.inl rfl) w, sl⟩) (v1.mono hd_unplus)
  exact q.nx _ _ _ (r1.unplus.setIm rl) (p1.trans .setIm) h
end
end Dn
set_option Elab.async false
set_option linter.all false
set_option maxRecDepth 100000
set_option autoImplicit false
set_option maxHeartbeats 4000000
namespace PySem
open Sem (wp)
open AutoSeq1 (wpAny_loadPart')
theorem own_enum_new (tp : Addr) (its : Array Value) (nn : Nat) (dd : Option Addr) (ss : Array (Option Value)) :
    Meets (Builtin.«enumerate.__new__» ⟨[.type "enumerate", .ref tp], []⟩) (fun _ R st =>
      st.heap.get? tp = some { cls := .type "tuple", dict := dd, data := .seq its nn, slots := ss } ∧
      R (.ok (.ret (.ref (st.heap.push { cls := .type "tuple_iterator", data := .fields #[.ref tp, .int 0 0] }).objs.size)))
        { st with heap := (st.heap.push { cls := .type "tuple_iterator", data := .fields #[.ref tp, .int 0 0] }).push { cls := .type "enumerate", data := .fields #[.none, .bool false, .ref st.heap.objs.size, rawInt 0, .none, .none] } }) :=
  .of_wp fun prog w A R st h => by
    obtain ⟨hp, gg, dr, tk, oo⟩ := st
    obtain ⟨at_, h⟩ := h
    have isSub := sub_enumerate
    have isT : Heap.IsTuple (Shared.heap ⟨hp, gg, dr, tk, oo⟩) tp its := ⟨_, at_, rfl, nn, rfl⟩
    wp_walk using wpAny_loadPart' at_
    refine wpAny_stack_any fun _ => wpAny_pure ?_
    split
    · rename_i c _ _ _ _ _
      cases (c == Value.type "enumerate") <;>
      · wp_walk using wpAny_loadPart' at_, wpAny_pyIter_tuple isT
        exact ⟨_, rfl, h⟩
    · wp_walk using wpAny_loadPart' at_, wpAny_pyIter_tuple isT
      exact ⟨_, rfl, h⟩
theorem own_enum_call {prog : Program} {w : World} {A : Around} {E : Value → Shared → Prop} {st : Shared} {tp : Addr} {its : Array Value} {Q : Value → Shared → Prop} (isT : st.heap.IsTuple tp its)
    (h : ∀ hp : Heap, IsEnum hp (st.heap.objs.size + 1) st.heap.objs.size 0 .none → hp.IsTupleIter st.heap.objs.size tp 0 →
      (∀ b o, st.heap.get? b = some o → hp.get? b = some o) → Q (.ref (st.heap.objs.size + 1)) { st with heap := hp }) :
    wpAny (model prog w) A (call (.type "enumerate") [.ref tp]) Q E st := by
  obtain ⟨⟨cc, dd, dt, ss⟩, at_, hc, nn, hd⟩ := isT
  replace hc : cc = .type "tuple" := hc
  replace hd : dt = .seq its nn := hd
  subst hc hd
  refine callType_new F.called_enumerate (by decide) (F.typeCall_enumerate_1 _) (F.newCall_enumerate_1 _) (fun ob => F.args_object_init_2 ob _) F.entry_enumerate_new (own_enum_new tp its nn dd ss) ⟨at_, ?_⟩
  generalize hI : ({ cls := .type "tuple_iterator", data := .fields #[.ref tp, .int 0 0] } : Obj) = oI
  generalize hE : ({ cls := .type "enumerate", data := .fields #[.none, .bool false, .ref st.heap.objs.size, rawInt 0, .none, .none] } : Obj) = oE
  have sz : (st.heap.push oI).objs.size = st.heap.objs.size + 1 := Heap.size_push ..
  have nf : oE.isFreed = false := by subst hE; rfl
  have nI : oI.isFreed = false := by subst hI; rfl
  have gE : ((st.heap.push oI).push oE).get? (st.heap.objs.size + 1) = some oE := by
    have z := Heap.get?_push_size (st.heap.push oI) (o := oE) nf
    rwa [sz] at z
  have gI : ((st.heap.push oI).push oE).get? st.heap.objs.size = some oI := Heap.get?_push_of_some _ (Heap.get?_push_size _ nI)
  show _ ∧ _
  rw [sz]
  subst hE hI
  exact ⟨⟨_, gE, rfl⟩, h _ gE ⟨{ cls := .type "tuple_iterator", data := .fields #[.ref tp, .int 0 0] }, gI, rfl, rfl⟩ fun b o x => Heap.get?_push_of_some _ (Heap.get?_push_of_some _ x)⟩
end PySem
namespace Dn
open PySem L2 Evl PySem.Spec PyProof.Rows
def IteT (K : PySem.W.Frag) (a : Addr) : It where
  go := fun i H => ∃ (xs : List V) (x : V), SqT K H a xs ∧ xs[i]? = some x
  yld := fun i H v H' => ∃ l o x, v = .ref l ∧ H l = none ∧ TO K o [.int (i : Nat), x] ∧ H' = upd H l o ∧ ∀ xs, SqT K H a xs → xs[i]? = some x
  stop := fun i H => ∃ xs : List V, SqT K H a xs ∧ xs.length ≤ i
theorem turn_enT {P : Program} {w : World} {K : PySem.W.Frag} {elts : List Expr} {kk : Nat} {tpos : Pos} (a e it : Addr) :
    Turn P w K (.Tuple elts kk tpos) (IteT K a) [e, it] e (fun i h => (∃ old, IsEnum h e it ((i : Nat) : Int) old) ∧ h.IsTupleIter it a i ∧ e ≠ it) where
  mem := by simp
  obj := fun i h st b hb => by
    obtain ⟨⟨old, he⟩, ⟨o, ho, hc, hd⟩, _⟩ := st
    rcases (show b = e ∨ b = it by simpa using hb) with rfl | rfl
    · exact ⟨_, he, fun v q => nomatch q⟩
    · exact ⟨o, ho, fun v q => by rw [hd] at q; cases q⟩
  keep := fun i h h' ⟨⟨old, he⟩, hi, hne⟩ k => ⟨⟨old, k e (by simp) _ he⟩, hi.at fun o q => k it (by simp) o q, hne⟩
  item := by
    intro X hP hw hK hc i pins s σ H E I hf st hg
    subst hP hw hK
    obtain ⟨⟨old, he⟩, hit, hne⟩ := st
    obtain ⟨xs, x, hq, hx⟩ := hg
    obtain ⟨its, rv, isT, hz⟩ := I.tuple hq
    obtain ⟨u, hu, ru⟩ := rv.get hx
    have isT' : s.heap.IsTuple a its.toArray := isT
    have hil : it < s.heap.objs.size := by obtain ⟨_, q, _⟩ := hit; exact Heap.lt_size q
    have hel : e < s.heap.objs.size := Heap.lt_size he
    have ai : a ≠ it := fun z => by
      subst z
      obtain ⟨o1, q1, c1, _⟩ := isT'
      obtain ⟨o2, q2, c2, _⟩ := hit
      rw [q1] at q2; cases q2
      have z : Value.type "tuple" = Value.type "tuple_iterator" := (show _ = o1.cls from Eq.symm c1).trans c2
      injection z with z
      exact absurd z (by decide)
    have ae : e ≠ a := fun z => by
      subst z
      obtain ⟨o1, q1, c1, _⟩ := isT'
      rw [show s.heap.get? e = some _ from he] at q1; cases q1
      have z : Value.type "enumerate" = Value.type "tuple" := c1
      injection z with z
      exact absurd z (by decide)
    have lt : i < its.toArray.size := by
      have := (List.getElem?_eq_some_iff.mp hu).1
      simpa using this
    refine wpAny_pyNext_enum_itemD (Draws.tuple (A := X.A.in1) (show X.A.in1.handled = none from I.ok.hd hc) it a ai its.toArray) he ⟨hit, isT'⟩ lt hne (by simp [hne, ae]) fun y h' tk hy ho st' hT hsz hk => ?_
    have yu : y = u := by
      have z : its.toArray[i]? = some u := by simpa using hu
      rw [hy] at z; cases z; rfl
    subst yu
    refine ⟨_, rfl, wpAny_letOwnedTupleGo_enum (s := { s with heap := h', toks := tk + 1 }) ho fun h2 he2 sb => ?_⟩
    have hT2 : h2.get? s.heap.objs.size = some { cls := .type "tuple", data := .seq #[.int i tk, y] } := (sb.2 _ (Nat.ne_of_gt hel)).trans hT
    have kp : ∀ b ob, b ∉ [e, it] → s.heap.get? b = some ob → h2.get? b = some ob := fun b ob hb q => by
      have b1 : b ≠ e := fun z => hb (by simp [z])
      have b2 : b ≠ it := fun z => hb (by simp [z])
      exact (sb.2 b b1).trans (hk b ob b1 b2 q)
    obtain ⟨o, t, ok⟩ := to_ok (P := X.prog) (w := X.w) (xs := [.int (i : Nat), x]) (its := [.int i tk, y]) X.K hT2 rfl rfl rfl (by show 2 ≤ sizeLine; decide) (.cons ⟨_, rfl⟩ (.cons ru .nil))
    have I2 : Inv X pins σ (upd H s.heap.objs.size o) { s with heap := h2, toks := tk + 1 } := I.turnedNew (ch := [e, it]) kp hf (Nat.le_refl _) (ok _)
    refine ⟨.ref s.heap.objs.size, _, I2, rfl, ⟨_, o, x, rfl, I.hok.fresh (Nat.le_refl _), t, rfl, fun ys hys => by rw [I.tuple_inj hys hq]; exact hx⟩, ⟨⟨y, ?_⟩, st'.1.at fun o q => (sb.2 it (Ne.symm hne)).trans q, hne⟩, fun b hb => ?_⟩
    · have e1 : ((i + 1 : Nat) : Int) = (i : Int) + 1 := by omega
      rw [e1]; exact he2
    · have bl : b < s.heap.objs.size := by
        rcases (show b = e ∨ b = it by simpa using hb) with rfl | rfl
        · exact hel
        · exact hil
      rw [upd_ne (Nat.ne_of_lt bl)]
      exact (hf b hb).1
  done := by
    intro X hP hw hK hc i pins s σ H E I hf st hg
    subst hP hw hK
    obtain ⟨⟨old, he⟩, hit, hne⟩ := st
    obtain ⟨xs, hq, hx⟩ := hg
    obtain ⟨its, rv, isT, hz⟩ := I.tuple hq
    have isT' : s.heap.IsTuple a its.toArray := isT
    obtain ⟨f0, f1, f2, f3, f4, f5⟩ := hf it (by simp)
    have hl := rv.length
    have nx : its.toArray[i]? = none := by simp; omega
    have hT : s.TypeIs (.ref e) "enumerate" := ⟨_, he, rfl⟩
    show wpAny _ _ (pyNext (.ref e)) _ _ _
    unfold pyNext
    refine wpAny_bind (wpAny_attempt (wpAny_callSpecial?_slot (name := Str.ofString "__next__") hT F.slot_enumerate_next (wpAny_call_entry F.slot_enumerate_next hT F.entry_enumerate_next ?_ (F.args_enumerate_next_1 _))))
    show wpAny _ _ (field (.ref e) 2 >>= _) _ _ _
    refine wpAny_bind (wpAny_field he rfl (x := .ref it) rfl ?_)
    refine wpAny_bind (wpAny_nextOf_tuple_end (show X.A.in1.handled = none from I.ok.hd hc) hit isT' nx fun h' ex hs' hx' => ?_)
    obtain ⟨o, ho, hcl⟩ := hx'
    refine wpAny_bind (wpAny_isInstance (T := "StopIteration") (b := true) ⟨o, ho, hcl⟩ isSubtype_stop ?_)
    exact wpAny_pure ⟨rfl, I.turned (t' := s.toks) (fun b o hb q => hs' b o hb q) f0 f1 f3 f4 f5⟩
  self := fun A i s Q E st h => let ⟨⟨_, he⟩, _⟩ := st; wpAny_pyIter_enum he h
section
variable {X : Cx} {a : Expr} {fa : DE} {pos p : Pos}
end
end Dn
set_option Elab.async false
set_option linter.all false
set_option maxRecDepth 100000
set_option autoImplicit false
set_option maxHeartbeats 4000000
namespace Dn
open PySem L2 Evl PySem.Spec
section
variable {X : Cx} {a b c e : Expr} {fa fb fc : DE} {pos p : Pos} {es : List Expr} {x y : Str}
def MO.getL : MO → Option (List D)
  | .lst ds => some ds
  | .par _ m => m.getL
  | _ => none
def MO.putL : MO → List D → MO
  | .par p _, ds => .par p (.lst ds)
  | _, ds => .lst ds
theorem getL_rp {K : PySem.W.Frag} {G : Hp} : ∀ {m : MO} {o : HO} {ds : List D}, RpO K G m o → m.getL = some ds → ∃ vs, o = .lst vs ∧ RpAll K G vs ds
  | .lst ds, o, es, h, e => by
    cases e
    cases o <;> first | exact False.elim h | exact ⟨_, rfl, h⟩
  | .par _ m, o, es, h, e => getL_rp (m := m) (by unfold RpO at h; exact h) e
  | .dct _, o, es, h, e => by cases e
  | .rng _, o, es, h, e => by cases e
  | .dtu _, o, es, h, e => by cases e
  | .obj _ _, o, es, h, e => by cases e
theorem putL_rp {K : PySem.W.Frag} {G : Hp} {m : MO} {vs : List V} {ds : List D} (h : RpAll K G vs ds) : RpO K G (m.putL ds) (.lst vs) := by
  cases m <;> first | exact h | (unfold MO.putL RpO; exact h)
theorem putL_tag {K : PySem.W.Frag} {T : Addr → Prop} {ρ : Env} {σ : L2.St} {H : Hp} {i : Nat} {m : MO} {ds : List D} {p : Addr} (r : RS K T ρ σ H) (hm : ρ[i]? = some (some (SV.ow m))) (hp : σ[i]? = some (some (V.ref p))) : ∀ q m1, m.putL ds = .par q m1 → p = q := fun q m1 h => by
  cases m with
  | par q' m' => cases h; exact r.tag i _ _ p hm hp
  | _ => cases h
def atO (ρ : Env) (i : Nat) : Option (List D) := match ρ[i]? with
  | some (some (.ow m)) => m.getL
  | _ => none
def setO (ρ : Env) (i : Nat) (ds : List D) : Env := match ρ[i]? with
  | some (some (.ow m)) => ρ.set i (some (.ow (m.putL ds)))
  | _ => ρ
theorem atO_some {ρ : Env} {i : Nat} {ds : List D} (h : atO ρ i = some ds) : ∃ m, ρ[i]? = some (some (SV.ow m)) ∧ m.getL = some ds := by
  unfold atO at h
  split at h
  · exact ⟨_, by assumption, h⟩
  · cases h
theorem RS.atO {K : PySem.W.Frag} {T : Addr → Prop} {ρ : Env} {σ : L2.St} {H : Hp} {i : Nat} {ds : List D} (r : RS K T ρ σ H) (h : Dn.atO ρ i = some ds) : ∃ m q vs, ρ[i]? = some (some (SV.ow m)) ∧ σ[i]? = some (some (V.ref q)) ∧ H q = some (.lst vs) ∧ RpAll K (hide (Hd T ρ σ) H) vs ds := by
  obtain ⟨m, hm, hg⟩ := atO_some h
  obtain ⟨q, o, h1, h2, h3⟩ := r.ow i m hm
  obtain ⟨vs, rfl, h4⟩ := getL_rp h3 hg
  exact ⟨m, q, vs, hm, h1, h2, h4⟩
theorem RS.setO {K : PySem.W.Frag} {T : Addr → Prop} {ρ : Env} {σ : L2.St} {H : Hp} {i : Nat} {m : MO} {q : Addr} {vs : List V} {ds : List D} (r : RS K T ρ σ H) (hm : ρ[i]? = some (some (SV.ow m))) (hq : σ[i]? = some (some (V.ref q))) (h : RpAll K (hide (Hd T ρ σ) H) vs ds) :
    RS K T (Dn.setO ρ i ds) σ (upd H q (.lst vs)) ∧ Po ρ σ H (Dn.setO ρ i ds) σ (upd H q (.lst vs)) := by
  unfold Dn.setO
  rw [hm]
  exact ⟨r.write hm hq (putL_rp h) (putL_tag r hm hq), .write hm hq⟩
def dIxP (i : Nat) (fb : DE) : DE := fun ρ Q => (atO ρ i).isSome = true ∧ fb ρ fun y ρ1 => ∃ ds j d, atO ρ1 i = some ds ∧ y = .int j ∧ atI ds j = some d ∧ Q d ρ1
theorem je_ixP {i : Nat} {px : Pos} (hN : X.N[i]? = some x) (hv : Vis X.env.scope x) (hb : JE X b fb) (hs : PlainIx b := by exact fun _ _ => rfl) (hd : (x == ("__debug__" : Str)) = false := by decide) (hcd : (x == ("__classdict__" : Str)) = false := by decide) :
    JE X (.Subscript (.Name x px) b pos) (dIxP i fb) := by
  obtain ⟨tb, pb, kb⟩ := hb.ex
  refine ⟨_, pe_ix ix_list (pe_var hN hv hd hcd) pb hs, fun T ρ σ H QD Q r h q => ?_⟩
  obtain ⟨h0, h⟩ := h
  obtain ⟨ds0, h0⟩ := Option.isSome_iff_exists.mp h0
  obtain ⟨m, l, vs, _, hl, _, _⟩ := r.atO h0
  refine ⟨_, hl, kb T ρ σ H _ _ r h fun y ρ1 v H1 r1 p1 v1 h => ?_⟩
  obtain ⟨ds, j, d, h1, rfl, h2, h3⟩ := h
  obtain ⟨m', l', vs', _, hl', ho', hr'⟩ := r1.atO h1
  rw [hl] at hl'; cases hl'
  obtain ⟨u, h4, h5⟩ := atI_rp hr' h2
  cases v1
  exact ⟨_, _, _, _, rfl, rfl, .inl (.inl ho'), h4, q _ _ _ _ r1 p1 h5 h3⟩
def sSub (i : Nat) (fi fe : DE) : DS := fun E ρ => fe ρ fun d ρ1 => (atO ρ1 i).isSome = true ∧ fi ρ1 fun k ρ2 => ∃ ds j m, atO ρ2 i = some ds ∧ k = .int j ∧ ixN ds.length j = some m ∧ E.nx (setO ρ2 i (ds.set m d))
theorem js_sub {i : Nat} {px ps : Pos} {f1 f2 : DE} (hN : X.N[i]? = some x) (hv : Vis X.env.scope x) (hi : JE X b f1) (he : JE X e f2) (hd : (x == ("__debug__" : Str)) = false := by decide) (hcd : (x == ("__classdict__" : Str)) = false := by decide)
    (ha : ∀ v, assign (.Subscript (.Name x px) b ps) X.env v = (do
      let ov ← holding [v] (eval (.Name x px) X.env); let iv ← holding [v, ov] (eval b X.env); standAt ps; holding [v, ov, iv] (setItem ov iv v); release [v, ov, iv] []) := by intro _; rfl)
    (hs : swapsWithSole [.Subscript (.Name x px) b ps] e pos.line X.env = pure false := by rfl) (hw : swappedStores [.Subscript (.Name x px) b ps] e X.env = pure none := by rfl) (h1 : (assignEach [.Subscript (.Name x px) b ps] X.env).map (·.2) = [assign (.Subscript (.Name x px) b ps) X.env] := by rfl) :
    JS X (.Assign [.Subscript (.Name x px) b ps] e pos) (sSub i f1 f2) := by
  obtain ⟨t1, p1, k1⟩ := hi.ex
  obtain ⟨t2, p2, k2⟩ := he.ex
  refine ⟨_, ps_asg p2 (pg_sub (pe_var hN hv hd hcd) p1 set_list ha) hs hw h1, fun T ρ σ H E D r h k => k2 T ρ σ H _ _ r h fun d ρ1 v H1 r1 q1 v1 h => ?_⟩
  obtain ⟨h0, h⟩ := h
  obtain ⟨ds0, h0⟩ := Option.isSome_iff_exists.mp h0
  obtain ⟨m, l, vs, _, hl, _, _⟩ := r1.atO h0
  refine ⟨_, hl, k1 T ρ1 σ H1 _ _ r1 h fun kk ρ2 w H2 r2 q2 v2 h => ?_⟩
  obtain ⟨ds, j, n, h2, rfl, h3, h4⟩ := h
  obtain ⟨m', l', vs', hm', hl', ho', hr'⟩ := r2.atO h2
  rw [hl] at hl'; cases hl'
  cases v2
  obtain ⟨r3, q3⟩ := r2.setO hm' hl (hr'.set n (v1.monoW q2.fz))
  exact ⟨l, vs', j, n, rfl, rfl, ho', by rw [hr'.length]; exact h3, k.nx _ _ _ r3 ((q1.trans q2).trans q3) h4⟩
def dApp (i : Nat) (f : DE) : DE := fun ρ Q => (atO ρ i).isSome = true ∧ f ρ fun d ρ1 => ∃ ds, atO ρ1 i = some ds ∧ ds.length < 16777216 ∧ Q .none (setO ρ1 i (ds ++ [d]))
theorem je_app {i : Nat} {px pa pc : Pos} (hN : X.N[i]? = some x) (hv : Vis X.env.scope x) (he : JE X e fa) (hd : (x == ("__debug__" : Str)) = false := by decide) (hcd : (x == ("__classdict__" : Str)) = false := by decide)
    (hbase : attributeBase (.Name x px) "append" X.env (eval (.Name x px) X.env) = eval (.Name x px) X.env := by rfl)
    (hfew : ((backTo pc (starEach [e] X.env)).all (fun x => !x.1) && (backToKw pc (keywordEach [] X.env)).all (fun x => x.1.isSome) && decide ([e].length + ([] : List Keyword).length + (if ([] : List Keyword).isEmpty then 0 else 1) < 30)) = true := by rfl)
    (hline : (pa.endLine == pc.line) = true := by rfl) (hs : starEach [e] X.env = (false, eval e X.env) :: starEach [] X.env := by rfl) : JE X (.Call (.Attribute (.Name x px) "append" pa) [e] [] pc) (dApp i fa) := by
  obtain ⟨t, pt, kt⟩ := he.ex
  refine ⟨_, pe_bm PySem.F.plainAttrs_list PySem.F.slot_list_append PySem.F.type_list_append mt_append (pe_var hN hv hd hcd) (pa_cons pt pa_nil hs) hbase hfew hline hs, fun T ρ σ H QD Q r h q => ?_⟩
  obtain ⟨h0, h⟩ := h
  obtain ⟨ds0, h0⟩ := Option.isSome_iff_exists.mp h0
  obtain ⟨m, l, vs, _, hl, ho, _⟩ := r.atO h0
  refine ⟨_, hl, .inl ⟨rfl, _, .inl (.inl ho)⟩, kt T ρ σ H _ _ r h fun d ρ1 v H1 r1 p1 v1 h => ?_⟩
  obtain ⟨ds, h1, hz, h2⟩ := h
  obtain ⟨m', l', vs', hm', hl', ho', hr'⟩ := r1.atO h1
  rw [hl] at hl'; cases hl'
  obtain ⟨r3, q3⟩ := r1.setO hm' hl (hr'.append (.cons v1 .nil))
  exact ⟨l, vs', v, rfl, rfl, ho', by rw [hr'.length]; exact hz, q _ _ _ _ r3 (p1.trans q3) .non h2⟩
def dExt (i : Nat) (f : DE) : DE := fun ρ Q => (atO ρ i).isSome = true ∧ f ρ fun d ρ1 => ∃ ds es, atO ρ1 i = some ds ∧ d = .list es ∧ ds.length + es.length ≤ 16777216 ∧ Q .none (setO ρ1 i (ds ++ es))
theorem je_ext {i : Nat} {px pa pc : Pos} (hN : X.N[i]? = some x) (hv : Vis X.env.scope x) (he : JE X e fa) (hd : (x == ("__debug__" : Str)) = false := by decide) (hcd : (x == ("__classdict__" : Str)) = false := by decide)
    (hbase : attributeBase (.Name x px) "extend" X.env (eval (.Name x px) X.env) = eval (.Name x px) X.env := by rfl)
    (hfew : ((backTo pc (starEach [e] X.env)).all (fun x => !x.1) && (backToKw pc (keywordEach [] X.env)).all (fun x => x.1.isSome) && decide ([e].length + ([] : List Keyword).length + (if ([] : List Keyword).isEmpty then 0 else 1) < 30)) = true := by rfl)
    (hline : (pa.endLine == pc.line) = true := by rfl) (hs : starEach [e] X.env = (false, eval e X.env) :: starEach [] X.env := by rfl) : JE X (.Call (.Attribute (.Name x px) "extend" pa) [e] [] pc) (dExt i fa) := by
  obtain ⟨t, pt, kt⟩ := he.ex
  refine ⟨_, pe_bm PySem.F.plainAttrs_list PySem.F.slot_list_extend PySem.F.type_list_extend mt_extend (pe_var hN hv hd hcd) (pa_cons pt pa_nil hs) hbase hfew hline hs, fun T ρ σ H QD Q r h q => ?_⟩
  obtain ⟨h0, h⟩ := h
  obtain ⟨ds0, h0⟩ := Option.isSome_iff_exists.mp h0
  obtain ⟨m, l, vs, _, hl, ho, _⟩ := r.atO h0
  refine ⟨_, hl, .inl ⟨rfl, _, .inl (.inl ho)⟩, kt T ρ σ H _ _ r h fun d ρ1 v H1 r1 p1 v1 h => ?_⟩
  obtain ⟨ds, es, h1, rfl, hz, h2⟩ := h
  obtain ⟨m', l', vs', hm', hl', ho', hr'⟩ := r1.atO h1
  rw [hl] at hl'; cases hl'
  cases v1 with
  | lst hp rr =>
    obtain ⟨r3, q3⟩ := r1.setO hm' hl (hr'.append rr)
    exact ⟨l, _, vs', _, rfl, rfl, ho', at_of hp, by rw [hr'.length, rr.length]; exact hz, q _ _ _ _ r3 (p1.trans q3) .non h2⟩
def dPopAt (i : Nat) (f : DE) : DE := fun ρ Q => (atO ρ i).isSome = true ∧ f ρ fun k ρ1 => ∃ ds j n d, atO ρ1 i = some ds ∧ k = .int j ∧ 0 ≤ j ∧ j < ds.length ∧ n = j.toNat ∧ ds[n]? = some d ∧ ds.length ≤ 1000000 ∧ Q d (setO ρ1 i (ds.eraseIdx n))
theorem je_popAt {i : Nat} {px pa pc : Pos} (hN : X.N[i]? = some x) (hv : Vis X.env.scope x) (he : JE X e fa) (hd : (x == ("__debug__" : Str)) = false := by decide) (hcd : (x == ("__classdict__" : Str)) = false := by decide)
    (hbase : attributeBase (.Name x px) "pop" X.env (eval (.Name x px) X.env) = eval (.Name x px) X.env := by rfl)
    (hfew : ((backTo pc (starEach [e] X.env)).all (fun x => !x.1) && (backToKw pc (keywordEach [] X.env)).all (fun x => x.1.isSome) && decide ([e].length + ([] : List Keyword).length + (if ([] : List Keyword).isEmpty then 0 else 1) < 30)) = true := by rfl)
    (hline : (pa.endLine == pc.line) = true := by rfl) (hs : starEach [e] X.env = (false, eval e X.env) :: starEach [] X.env := by rfl) : JE X (.Call (.Attribute (.Name x px) "pop" pa) [e] [] pc) (dPopAt i fa) := by
  obtain ⟨t, pt, kt⟩ := he.ex
  refine ⟨_, pe_bm PySem.F.plainAttrs_list PySem.F.slot_list_pop PySem.F.type_list_pop mt_popAt (pe_var hN hv hd hcd) (pa_cons pt pa_nil hs) hbase hfew hline hs, fun T ρ σ H QD Q r h q => ?_⟩
  obtain ⟨h0, h⟩ := h
  obtain ⟨ds0, h0⟩ := Option.isSome_iff_exists.mp h0
  obtain ⟨m, l, vs, _, hl, ho, _⟩ := r.atO h0
  refine ⟨_, hl, .inl ⟨rfl, _, .inl (.inl ho)⟩, kt T ρ σ H _ _ r h fun d ρ1 v H1 r1 p1 v1 h => ?_⟩
  obtain ⟨ds, j, n, z, h1, rfl, j0, jl, hn, hz, hlen, h2⟩ := h
  obtain ⟨m', l', vs', hm', hl', ho', hr'⟩ := r1.atO h1
  rw [hl] at hl'; cases hl'
  cases v1
  obtain ⟨u, hu, ru⟩ := hr'.get hz
  obtain ⟨r3, q3⟩ := r1.setO hm' hl (hr'.erase n)
  have ix : seqIndex? j vs'.length = some n := by
    have hx : ixN vs'.length j = some n := by
      unfold ixN
      rw [if_pos j0, if_pos (by rw [hr'.length]; exact jl), hn]
    exact (ixN_seq hx).1
  exact ⟨l, vs', j, n, u, rfl, rfl, ho', by omega, by omega, ix, hu, q _ _ _ _ r3 (p1.trans q3) (ru.monoW q3.fz) h2⟩
def dVarF (i : Nat) : DE := fun ρ Q => match ρ[i]? with
  | some (some (.ow (.lst ds))) => Q (.list ds) (ρ.set i (some (.im (.list ds))))
  | _ => False
theorem je_varF {i : Nat} (hN : X.N[i]? = some x) (hv : Vis X.env.scope x) (hd : (x == ("__debug__" : Str)) = false := by decide) (hcd : (x == ("__classdict__" : Str)) = false := by decide) : JE X (.Name x pos) (dVarF i) := by
  refine ⟨_, pe_var hN hv hd hcd, fun T ρ σ H QD Q r h q => ?_⟩
  unfold dVarF at h
  split at h
  · rename_i ds e1
    have rf := r.freeze e1
    obtain ⟨v, hv, rv⟩ := rf.im i (.list ds) (List.getElem?_set_self (List.getElem?_eq_some_iff.mp e1).1)
    exact ⟨v, hv, q _ _ _ _ rf .freeze rv h⟩
  · exact False.elim h
def dIn (neg : Bool) : D → D → (D → Prop) → Prop := fun x y Q => ∃ ds, seqD y = some ds ∧ isSc x = true ∧ ds.all isSc = true ∧ Q (.bool (if neg then !(ds.any fun z => PyData.eqv z x) else ds.any fun z => PyData.eqv z x))
theorem flat_sc {K : PySem.W.Frag} {G : Hp} {v : V} {d : D} (r : Rp K G v d) (h : isSc d = true) : flatV v = true := by cases r <;> first | rfl | (simp [isSc] at h; done)
theorem flat_all {K : PySem.W.Frag} {G : Hp} : ∀ {vs : List V} {ds : List D}, RpAll K G vs ds → ds.all isSc = true → vs.all flatV = true
  | _, _, .nil, _ => rfl
  | _, _, .cons h r, c => by
    rw [List.all_cons, Bool.and_eq_true] at c ⊢
    exact ⟨flat_sc h c.1, flat_all r c.2⟩
theorem eqV_rp {K : PySem.W.Frag} {G G' : Hp} {v u : V} {d e : D} (r : Rp K G v d) (s : Rp K G' u e) (h1 : isSc d = true) (h2 : isSc e = true) : eqV v u = PyData.eqv d e := by
  cases r <;> first | (simp [isSc] at h1; done) | skip
  all_goals cases s <;> first | (simp [isSc] at h2; done) | simp [eqV, PyData.eqv]
theorem inV_rp {K : PySem.W.Frag} {G G' : Hp} {x : V} {d : D} (s : Rp K G' x d) (h1 : isSc d = true) : ∀ {vs : List V} {ds : List D}, RpAll K G vs ds → ds.all isSc = true → inV x vs = ds.any fun z => PyData.eqv z d
  | _, _, .nil, _ => rfl
  | _, _, .cons h r, c => by
    rw [List.all_cons, Bool.and_eq_true] at c
    show (eqV _ _ || inV _ _) = (_ || _)
    rw [eqV_rp h s c.1 h1, inV_rp s h1 r c.2]
theorem opd_in : OpD X (compareOp .In) (dIn false) := by
  refine ⟨_, op_in_seq, fun O H x y d e QD Q hO rx ry h k => ?_⟩
  obtain ⟨ds, h1, h2, h3, h4⟩ := h
  obtain ⟨q, xs, rfl, hs, rr⟩ := seq_rp ry h1
  exact ⟨_, _, rfl, hs, flat_sc rx h2, flat_all rr h3, k _ _ H (.refl H) (.bl _) (by rw [inV_rp rx h2 rr h3]; exact h4)⟩
theorem opd_notin : OpD X (compareOp .NotIn) (dIn true) := by
  refine ⟨_, op_notIn_seq, fun O H x y d e QD Q hO rx ry h k => ?_⟩
  obtain ⟨ds, h1, h2, h3, h4⟩ := h
  obtain ⟨q, xs, rfl, hs, rr⟩ := seq_rp ry h1
  exact ⟨_, _, rfl, hs, flat_sc rx h2, flat_all rr h3, k _ _ H (.refl H) (.bl _) (by rw [inV_rp rx h2 rr h3]; exact h4)⟩
end
end Dn
set_option Elab.async false
set_option linter.all false
set_option maxRecDepth 100000
set_option autoImplicit false
set_option maxHeartbeats 4000000
namespace Dn
open PySem L2 Evl PySem.Spec PyProof.Rows
def spD (K : PySem.W.Frag) (n : Nat) (S : List D → (D → Prop) → Prop) : Sp := fun vs H Q _ => vs.length = n ∧ ∃ (T : Addr → Prop) (ds : List D) (QD : D → Prop), (∀ a, T a → Lv H a) ∧ RpAll K (hide T H) vs ds ∧ TbOk K H ∧ S ds QD ∧
  ∀ v d H', QD d → ExG K H H' → Rp K (hide T H') v d → Q v H'
def spM (K : PySem.W.Frag) (n : Nat) (S : List D → List D → (D → List D → Prop) → Prop) : Sp := fun vs H Q _ => vs.length = n ∧ ∃ (T : Addr → Prop) (l : Addr) (us : List V) (ws : List V) (ms : List D) (ds : List D) (QD : D → List D → Prop),
  vs = .ref l :: us ∧ (∀ a, T a → Lv H a) ∧ ¬ T l ∧ H l = some (.lst ws) ∧ RpAll K (hide (plus T l) H) ws ms ∧ RpAll K (hide (plus T l) H) us ds ∧ TbOk K H ∧ S ms ds QD ∧
  ∀ v d ms' ws' H', QD d ms' → ExL K l H H' → H' l = some (.lst ws') → RpAll K (hide (plus T l) H') ws' ms' → Rp K (hide (plus T l) H') v d → Q v H'
section
variable {X : Cx} {a b c e : Expr} {fa fb fc : DE} {pos p : Pos} {es : List Expr} {x y : Str} {k : Nat} {f : Addr} {fd : FuncData} {ps : List Str} {n : Nat}
def dCallF (n : Nat) (S : List D → (D → Prop) → Prop) (g : DA) : DE := fun ρ Q => g ρ fun ds ρ1 => ds.length = n ∧ S ds fun z => Q z ρ1
theorem spD_of {K : PySem.W.Frag} {T : Addr → Prop} {ρ0 ρ : Env} {σ : L2.St} {H0 H : Hp} {vs : List V} {ds : List D} {S : List D → (D → Prop) → Prop} {QD : D → Env → Prop} {Q : VK} {E : XK} (r : RS K T ρ σ H) (q : Po ρ0 σ H0 ρ σ H) (rv : RpAll K (hide (Hd T ρ σ) H) vs ds) (hn : ds.length = n) (h : S ds fun z => QD z ρ)
    (k : ∀ d ρ' v H', RS K T ρ' σ H' → Po ρ0 σ H0 ρ' σ H' → Rp K (hide (Hd T ρ' σ) H') v d → QD d ρ' → Q v H') : spD K n S vs H Q E :=
  ⟨by rw [rv.length, hn], Hd T ρ σ, ds, _, fun a => r.hdLv, rv, r.tb, h, fun v d H' hq e r2 => k d ρ v H' (r.growE e) (q.trans (.growE e)) r2 hq⟩
theorem je_call {S : List D → (D → Prop) → Prop} {g : DA} (F : FnOk X.prog X.w X.K X.mg X.base L2.CX0 k f fd ps (spD X.K n S)) (hr : Room k X.A) (hm : X.mg x = some (.ref f)) (hk : PySem.W.keepIn X.K (.ref f) = true) (hb : Binds X.K fd ps []) (ha : JA X (e :: es) g) (hg : Gl X x := by rfl)
    (hdb : (x == ("__debug__" : Str)) = false := by decide) (he : starEach (e :: es) X.env = (false, eval e X.env) :: starEach es X.env := by rfl) (hpl : (backTo pos (starEach es X.env)).any (·.1) = false := by rfl) : JE X (.Call (.Name x p) (e :: es) [] pos) (dCallF n S g) := by
  obtain ⟨t, pa, ka⟩ := ha.ex
  refine ⟨_, pe_call F hr hg hm hk hb .nil (E := fun _ _ _ => False) (fun _ _ _ _ _ _ _ h => h.elim) pa hdb he hpl, fun T ρ σ H QD Q r h q => ka T ρ σ H _ _ r h fun ds ρ1 vs H1 r1 p1 v1 h => ?_⟩
  rw [List.append_nil]
  exact spD_of r1 p1 v1 h.1 h.2 q
theorem je_call0 {S : List D → (D → Prop) → Prop} (F : FnOk X.prog X.w X.K X.mg X.base L2.CX0 k f fd ps (spD X.K n S)) (hr : Room k X.A) (hm : X.mg x = some (.ref f)) (hk : PySem.W.keepIn X.K (.ref f) = true) (hb : Binds X.K fd ps []) (hg : Gl X x := by rfl)
    (hdb : (x == ("__debug__" : Str)) = false := by decide) : JE X (.Call (.Name x p) [] [] pos) (dCallF n S aNil) := by
  refine ⟨_, pe_call0 F hr hg hm hk hb .nil (E := fun _ _ _ => False) (fun _ _ _ _ _ _ _ h => h.elim) hdb, fun T ρ σ H QD Q r h q => ?_⟩
  exact spD_of (E := fun _ _ _ => False) r .refl .nil h.1 h.2 q
def dCallM (i n : Nat) (S : List D → List D → (D → List D → Prop) → Prop) (g : DA) : DE := fun ρ Q => (atO ρ i).isSome = true ∧ g ρ fun ds ρ1 => ds.length + 1 = n ∧ ∃ ms, atO ρ1 i = some ms ∧ S ms ds fun d ms' => Q d (setO ρ1 i ms')
theorem plus_hd {T : Addr → Prop} {ρ : Env} {σ : L2.St} {l a : Addr} {i : Nat} {m : MO} (hm : ρ[i]? = some (some (SV.ow m))) (hl : σ[i]? = some (some (V.ref l))) (h : plus (fun a => Hd T ρ σ a ∧ a ≠ l) l a) : Hd T ρ σ a := by
  rcases h with h | h
  · subst h; exact .inr ⟨i, m, hm, hl⟩
  · exact h.1
theorem hd_plus {T : Addr → Prop} {ρ : Env} {σ : L2.St} {l a : Addr} (h : Hd T ρ σ a) : plus (fun a => Hd T ρ σ a ∧ a ≠ l) l a := by
  by_cases e : a = l
  · exact .inl e
  · exact .inr ⟨h, e⟩
theorem je_callM {i : Nat} {px : Pos} {S : List D → List D → (D → List D → Prop) → Prop} {g : DA} (F : FnOk X.prog X.w X.K X.mg X.base L2.CX0 k f fd ps (spM X.K n S)) (hr : Room k X.A) (hm : X.mg x = some (.ref f)) (hk : PySem.W.keepIn X.K (.ref f) = true) (hb : Binds X.K fd ps [])
    (hN : X.N[i]? = some y) (hv : Vis X.env.scope y) (ha : JA X es g) (hg : Gl X x := by rfl) (hd : (y == ("__debug__" : Str)) = false := by decide) (hcd : (y == ("__classdict__" : Str)) = false := by decide)
    (hdb : (x == ("__debug__" : Str)) = false := by decide) (he : starEach (Expr.Name y px :: es) X.env = (false, eval (Expr.Name y px) X.env) :: starEach es X.env := by rfl) (hpl : (backTo pos (starEach es X.env)).any (·.1) = false := by rfl) : JE X (.Call (.Name x p) (.Name y px :: es) [] pos) (dCallM i n S g) := by
  obtain ⟨t, pa, ka⟩ := ha.ex
  refine ⟨_, pe_call F hr hg hm hk hb .nil (E := fun _ _ _ => False) (fun _ _ _ _ _ _ _ h => h.elim) (pa_cons (pe_var hN hv hd hcd) pa he) hdb he hpl, fun T ρ σ H QD Q r h q => ?_⟩
  obtain ⟨h0, h⟩ := h
  obtain ⟨ds0, h0⟩ := Option.isSome_iff_exists.mp h0
  obtain ⟨m, l, vs, _, hl, _, _⟩ := r.atO h0
  refine ⟨_, hl, ka T ρ σ H _ _ r h fun ds ρ1 us H1 r1 p1 v1 h => ?_⟩
  obtain ⟨hn, ms, h1, h⟩ := h
  obtain ⟨m', l', ws, hm', hl', ho', hr'⟩ := r1.atO h1
  rw [hl] at hl'; cases hl'
  rw [List.append_nil]
  have e1 : Ex (hide (Hd T ρ1 σ) H1) (hide (plus (fun a => Hd T ρ1 σ a ∧ a ≠ l) l) H1) := hide_sub fun a w => plus_hd hm' hl w
  refine ⟨by simp [v1.length, hn], fun a => Hd T ρ1 σ a ∧ a ≠ l, l, us, ws, ms, ds, _, rfl, fun a w => r1.hdLv w.1, fun w => w.2 rfl, ho', hr'.mono e1, v1.mono e1, r1.tb, h, fun v d ms' ws' H' hq kp hl2 rm rv => ?_⟩
  -- the heap behind the call, as if the list had been written at once
  have e2 : Ex (hide (plus (fun a => Hd T ρ1 σ a ∧ a ≠ l) l) H') (hide (Hd T ρ1 σ) (upd H' l (.lst ws'))) := fun a o w => by
    obtain ⟨w1, w2⟩ := hide_some.1 w
    exact hide_some.2 ⟨fun z => w1 (hd_plus z), by rw [upd_ne (fun z => w1 (.inl z))]; exact w2⟩
  have back : upd H' l (.lst ws') = H' := by
    funext a
    by_cases z : a = l
    · subst z; rw [upd_same, hl2]
    · rw [upd_ne z]
  -- first the rest of the heap grows, then the list is written
  let Hm : Hp := fun a => if a = l then some (.lst ws) else H' a
  have eM : ExG X.K H1 Hm := ⟨⟨fun a o w nt => by
    show (if a = l then _ else _) = _
    by_cases z : a = l
    · subst z; rw [if_pos rfl, ← ho', w]
    · rw [if_neg z]; exact kp.k a o z w nt, fun a w => by
    show (if a = l then _ else _) ≠ _
    by_cases z : a = l
    · subst z; rw [if_pos rfl]; simp
    · rw [if_neg z]; exact kp.d a w⟩, fun tb => (kp.t tb).keep fun b o x w => by
    show (if b = l then _ else _) = _
    by_cases z : b = l
    · subst z; rw [hl2] at w; cases w; exact x.elim
    · rw [if_neg z]; exact w⟩
  have rM := r1.growE eM
  have uM : upd Hm l (.lst ws') = H' := by
    funext a
    by_cases z : a = l
    · subst z; rw [upd_same, hl2]
    · rw [upd_ne z]; show (if a = l then _ else _) = _; rw [if_neg z]
  have e3 : Ex (hide (plus (fun a => Hd T ρ1 σ a ∧ a ≠ l) l) H') (hide (Hd T ρ1 σ) Hm) := fun a o w => by
    obtain ⟨w1, w2⟩ := hide_some.1 w
    refine hide_some.2 ⟨fun z => w1 (hd_plus z), ?_⟩
    show (if a = l then _ else _) = _
    rw [if_neg (fun z => w1 (.inl z))]; exact w2
  obtain ⟨r3, q3⟩ := rM.setO hm' hl (rm.mono e3)
  rw [uM] at r3 q3
  have pM : Po ρ σ H ρ1 σ Hm := p1.trans (.growE eM)
  exact q d _ v H' r3 (pM.trans q3) ((rv.mono e3).monoW q3.fz) hq
def envD (ds : List D) (m : Nat) : Env := ds.map (fun d => some (SV.im d)) ++ List.replicate m none
theorem envD_get {ds : List D} {m i : Nat} {sv : SV} (h : (envD ds m)[i]? = some (some sv)) : ∃ d, ds[i]? = some d ∧ sv = .im d := by
  unfold envD at h
  rw [List.getElem?_append] at h
  split at h
  · rw [List.getElem?_map] at h
    obtain ⟨d, h1, h2⟩ := Option.map_eq_some_iff.mp h
    cases h2
    exact ⟨d, h1, rfl⟩
  · rw [List.getElem?_replicate] at h
    split at h <;> cases h
theorem envD_len {ds : List D} {m : Nat} : (envD ds m).length = ds.length + m := by unfold envD; simp
theorem start_get {N : List Str} {vs : List V} {i : Nat} {v : V} (h : vs[i]? = some v) : (L2.start N vs)[i]? = some (some v) := by
  unfold L2.start
  have hi := (List.getElem?_eq_some_iff.mp h).1
  rw [List.getElem?_append_left (by simp; exact hi), List.getElem?_map, h]
  rfl
theorem fn_D {P : Program} {w : World} {K : PySem.W.Frag} {mg : Str → Option Value} {base : Heap} {name qual : Str} {params : Arguments} {body : List Stmt} {scope : Scope} {N : List Str} {S : List D → (D → Prop) → Prop} {g : DS} (F : FunD K name qual params body scope [] [] f fd) (Sc : FnScope N ps scope)
    (hb : ∀ (cdv : Value) (A : Around) (outer : List PySem.Env) (s : Shared) (H : Hp) (E : XK), Room k (A.deeper (envOfC qual scope s.heap.objs.size f cdv)) → JSs (cxOf L2.CX0 P w K mg base N qual scope f cdv A outer s H E).nox body g)
    (hS : ∀ (ds : List D) (Q : D → Prop), ds.length = ps.length → S ds Q → g { nx := fun _ => Q .none, rt := fun d _ => Q d } (envD ds (N.length - ps.length))) : FnOk P w K mg base L2.CX0 (k + 1) f fd ps (spD K ps.length S) := by
  refine F.ok Sc (fun vs H Q E h => h.1) (fun cdv A outer s H vs Q E hr h => ?_)
  obtain ⟨t, pt, kt⟩ := (hb cdv A outer s H E hr).ex
  refine ⟨t, PSs.nox pt, ?_⟩
  obtain ⟨hl, T, ds, QD, hT, rv, tb, hs, hq⟩ := h
  have hl2 : ds.length = ps.length := by rw [← rv.length, hl]
  have no : ∀ a, ¬ Own (envD ds (N.length - ps.length)) (L2.start N vs) a := fun a ⟨i, m, h1, _⟩ => by
    obtain ⟨d, _, z⟩ := envD_get h1
    cases z
  have e0 : Ex (hide T H) (hide (Hd T (envD ds (N.length - ps.length)) (L2.start N vs)) H) := hide_sub fun a w => w.elim id fun w => (no a w).elim
  have r0 : RS K T (envD ds (N.length - ps.length)) (L2.start N vs) H := by
    refine ⟨?_, fun i d h => ?_, fun i m h => ?_, fun i j m m' a h1 _ _ _ => ?_, fun a _ => no a, hT, fun i q m a h1 _ => ?_, tb⟩
    · rw [envD_len]; unfold L2.start; simp [hl, hl2]
    · obtain ⟨d', h1, z⟩ := envD_get h
      cases z
      obtain ⟨v, h2, h3⟩ := rv.get h1
      exact ⟨v, start_get h2, h3.mono e0⟩
    · obtain ⟨d, _, z⟩ := envD_get h; cases z
    · obtain ⟨d, _, z⟩ := envD_get h1; cases z
    · obtain ⟨d, _, z⟩ := envD_get h1; cases z
  have kp : ∀ {ρ' : Env} {σ' : L2.St} {H' : Hp}, Po (envD ds (N.length - ps.length)) (L2.start N vs) H ρ' σ' H' → Exw H H' := fun q => ⟨fun a o h nt => q.keep a o (no a) h nt, q.dom⟩
  refine kt T _ _ H _ _ r0 (hS ds QD hl2 hs) ⟨fun ρ' σ' H' r q h => hq .non .none H' h ⟨kp q, fun _ => r.tb⟩ .non, fun d ρ' σ' v H' r q rv h => hq v d H' h ⟨kp q, fun _ => r.tb⟩ (rv.mono (hide_sub fun a w => .inl w)), fun _ _ _ _ _ h => h.elim, fun _ _ _ _ _ h => h.elim, fun _ _ _ _ _ _ _ h => h.elim⟩
theorem fn_M {P : Program} {w : World} {K : PySem.W.Frag} {mg : Str → Option Value} {base : Heap} {name qual : Str} {params : Arguments} {body : List Stmt} {scope : Scope} {N : List Str} {S : List D → List D → (D → List D → Prop) → Prop} {g : DS} (F : FunD K name qual params body scope [] [] f fd) (Sc : FnScope N ps scope)
    (hb : ∀ (cdv : Value) (A : Around) (outer : List PySem.Env) (s : Shared) (H : Hp) (E : XK), Room k (A.deeper (envOfC qual scope s.heap.objs.size f cdv)) → JSs (cxOf L2.CX0 P w K mg base N qual scope f cdv A outer s H E).nox body g)
    (hS : ∀ (l : Addr) (ms ds : List D) (Q : D → List D → Prop), ds.length + 1 = ps.length → S ms ds Q → g { nx := fun ρ => ∃ ms', ρ[0]? = some (some (.ow (.par l (.lst ms')))) ∧ Q .none ms', rt := fun d ρ => ∃ ms', ρ[0]? = some (some (.ow (.par l (.lst ms')))) ∧ Q d ms' } (some (.ow (.par l (.lst ms))) :: envD ds (N.length - ps.length))) :
    FnOk P w K mg base L2.CX0 (k + 1) f fd ps (spM K ps.length S) := by
  refine F.ok Sc (fun vs H Q E h => h.1) (fun cdv A outer s H vs Q E hr h => ?_)
  obtain ⟨t, pt, kt⟩ := (hb cdv A outer s H E hr).ex
  refine ⟨t, PSs.nox pt, ?_⟩
  obtain ⟨hl, T, l, us, ws, ms, ds, QD, rfl, hT, nT, ho, rm, rv, tb, hs, hq⟩ := h
  have hl1 : us.length + 1 = ps.length := by simpa using hl
  have hl2 : ds.length + 1 = ps.length := by rw [← rv.length, hl1]
  generalize hρ : (some (SV.ow (.par l (.lst ms))) :: envD ds (N.length - ps.length) : Env) = ρ0
  have g0 : ∀ (i : Nat) (sv : SV), ρ0[i]? = some (some sv) → (i = 0 ∧ sv = .ow (.par l (.lst ms))) ∨ ∃ j d, i = j + 1 ∧ ds[j]? = some d ∧ sv = .im d := fun i sv h => by
    subst hρ
    cases i with
    | zero => simp at h; exact .inl ⟨rfl, h.symm⟩
    | succ j =>
      obtain ⟨d, h1, h2⟩ := envD_get (show (envD ds (N.length - ps.length))[j]? = _ by simpa using h)
      exact .inr ⟨j, d, rfl, h1, h2⟩
  have s0 : (L2.start N (.ref l :: us))[0]? = some (some (V.ref l)) := start_get rfl
  have own : ∀ a, Own ρ0 (L2.start N (.ref l :: us)) a → a = l := fun a ⟨i, m, h1, h2⟩ => by
    rcases g0 i _ h1 with ⟨rfl, _⟩ | ⟨_, _, _, _, z⟩
    · rw [s0] at h2; cases h2; rfl
    · cases z
  have e0 : Ex (hide (plus T l) H) (hide (Hd T ρ0 (L2.start N (.ref l :: us))) H) := hide_sub fun a w => w.elim .inr fun w => .inl (own a w)
  have r0 : RS K T ρ0 (L2.start N (.ref l :: us)) H := by
    refine ⟨?_, fun i d h => ?_, fun i m h => ?_, fun i j m m' a h1 h2 _ _ => ?_, fun a t w => ?_, hT, fun i q m a h1 h2 => ?_, tb⟩
    · rw [← hρ]; unfold L2.start; simp [envD_len, ← hl2, rv.length]
    · rcases g0 i _ h with ⟨_, z⟩ | ⟨j, d', rfl, h1, z⟩
      · cases z
      · cases z
        obtain ⟨v, h2, h3⟩ := rv.get h1
        exact ⟨v, start_get (by simpa using h2), h3.mono e0⟩
    · rcases g0 i _ h with ⟨rfl, z⟩ | ⟨_, _, _, _, z⟩
      · cases z
        exact ⟨l, _, s0, ho, by unfold RpO; exact RpAll.mono e0 rm⟩
      · cases z
    · rcases g0 i _ h1 with ⟨rfl, _⟩ | ⟨_, _, _, _, z⟩
      · rcases g0 j _ h2 with ⟨rfl, _⟩ | ⟨_, _, _, _, z⟩
        · rfl
        · cases z
      · cases z
    · rw [own a w] at t; exact nT t
    · rcases g0 i _ h1 with ⟨rfl, z⟩ | ⟨_, _, _, _, z⟩
      · cases z; rw [s0] at h2; cases h2; rfl
      · cases z
  have kp : ∀ {ρ' : Env} {σ' : L2.St} {H' : Hp}, RS K T ρ' σ' H' → Po ρ0 (L2.start N (.ref l :: us)) H ρ' σ' H' → ExL K l H H' := fun r q => ⟨fun a o ne h nt => q.keep a o (fun w => ne (own a w)) h nt, q.dom, fun _ => r.tb⟩
  have fin : ∀ {ρ' : Env} {σ' : L2.St} {H' : Hp} {ms' : List D}, RS K T ρ' σ' H' → ρ'[0]? = some (some (SV.ow (.par l (.lst ms')))) → ∃ ws', H' l = some (.lst ws') ∧ RpAll K (hide (plus T l) H') ws' ms' ∧ Ex (hide (Hd T ρ' σ') H') (hide (plus T l) H') := fun {ρ' σ' H' ms'} r h => by
    obtain ⟨a, o, h1, h2, h3⟩ := r.ow 0 _ h
    obtain rfl := r.tag 0 _ _ a h h1
    obtain ⟨ws', rfl, h4⟩ := getL_rp (ds := ms') h3 rfl
    have e : Ex (hide (Hd T ρ' σ') H') (hide (plus T a) H') := hide_sub fun b w => w.elim (fun z => .inr ⟨0, _, h, by rw [z]; exact h1⟩) .inl
    exact ⟨ws', h2, h4.mono e, e⟩
  rw [← hρ] at *
  refine kt T _ _ H _ _ r0 (hS l ms ds QD hl2 hs) ⟨fun ρ' σ' H' r q h => ?_, fun d ρ' σ' v H' r q rv h => ?_, fun _ _ _ _ _ h => h.elim, fun _ _ _ _ _ h => h.elim, fun _ _ _ _ _ _ _ h => h.elim⟩
  · obtain ⟨ms', h1, h2⟩ := h
    obtain ⟨ws', a1, a2, _⟩ := fin r h1
    exact hq .non .none ms' ws' H' h2 (kp r q) a1 a2 .non
  · obtain ⟨ms', h1, h2⟩ := h
    obtain ⟨ws', a1, a2, a3⟩ := fin r h1
    exact hq v d ms' ws' H' h2 (kp r q) a1 a2 (rv.mono a3)
end
end Dn
set_option Elab.async false
set_option linter.all false
set_option maxRecDepth 100000
set_option autoImplicit false
set_option maxHeartbeats 4000000
namespace Dn
open PySem L2 Evl PySem.Spec PyProof.Rows
section
variable {X : Cx} {a b c e : Expr} {fa fb fc : DE} {pos p : Pos} {es : List Expr} {x y : Str} {k : Nat} {f : Addr} {fd : FuncData} {ps : List Str} {n : Nat}
def iSq0 (K : PySem.W.Frag) (tl : TE) : TI := fun σ H R => tl σ H fun x H1 => ∃ a, x = .ref a ∧ (((∃ xs, SqL K H1 a xs) ∧ R (Itl K a) H1) ∨ ((∃ xs, SqT K H1 a xs) ∧ R (Itt K a) H1))
theorem pi_sq {tg l : Expr} {tl : TE} (hl : PE X l tl) : PI X tg l (iSq0 X.K tl) := by
  refine ⟨fun pins s σ H R I h => ?_⟩
  refine thn (hl.run pins s σ H _ I h) fun v s1 ⟨x, H1, I1, r1, q1⟩ => ?_
  obtain ⟨q, rfl, h⟩ := q1
  cases r1
  have fp : ∀ (o : Obj), ∀ bb ∈ [s1.heap.objs.size], FpOk X pins H1 bb := fun o bb hb => by
    have : bb = s1.heap.objs.size := by simpa using hb
    subst this
    exact I1.fpOk (Nat.le_refl _) (I1.hok.fresh (Nat.le_refl _))
  rcases h with ⟨⟨xs, hq⟩, h⟩ | ⟨⟨xs, hq⟩, h⟩
  · obtain ⟨its, rv, isL, hz⟩ := I1.list hq
    refine wpAny_pyIter_list isL.isList ?_
    exact ⟨s1.heap.objs.size, [s1.heap.objs.size], _, _, H1, rfl, I1.kept (t' := s1.toks) fun b o e => Heap.get?_push_of_some _ e, turn_list q _, ⟨_, Heap.get?_push_size _ rfl, rfl, rfl⟩, fp default, h⟩
  · obtain ⟨its, rv, isT, hz⟩ := I1.tuple hq
    refine wpAny_pyIter_tuple (show s1.heap.IsTuple q its.toArray from isT) ?_
    exact ⟨s1.heap.objs.size, [s1.heap.objs.size], _, _, H1, rfl, I1.kept (t' := s1.toks) fun b o e => Heap.get?_push_of_some _ e, turn_tuple q _, ⟨_, Heap.get?_push_size _ rfl, rfl, rfl⟩, fp default, h⟩
def iSq (f : DE) : DL := fun ρ Q => f ρ fun d ρ1 => ∃ ds, seqD d = some ds ∧ Q ds ρ1
theorem ji_sq {tg : Expr} (ha : JE X a fa) : JI X tg a (iSq fa) := by
  obtain ⟨t, pt, kt⟩ := ha.ex
  refine ⟨_, pi_sq pt, fun T ρ σ H QD R r h q => kt T ρ σ H _ _ r h fun d ρ1 v H1 r1 p1 v1 h => ?_⟩
  obtain ⟨ds, e, h⟩ := h
  cases v1
  case dct h1 h2 h3 => rw [h3, seq_dk] at e; cases e
  case ins h1 h2 h3 h4 => subst h4; simp [seqD, obL] at e
  all_goals simp only [seqD, Option.some.injEq, reduceCtorEq] at e
  · subst e
    rename_i hp rr
    exact ⟨_, rfl, .inl ⟨⟨_, .inl (.inl (at_of hp))⟩, q _ _ _ _ r1 p1 (it_list (.inl (.inl hp)) rr) h⟩⟩
  · subst e
    rename_i hp rr
    exact ⟨_, rfl, .inr ⟨⟨_, sqt_of hp⟩, q _ _ _ _ r1 p1 (it_tup (lt_of hp) rr) h⟩⟩
  · subst e
    rename_i hp rr
    exact ⟨_, rfl, .inl ⟨⟨_, sql_of hp⟩, q _ _ _ _ r1 p1 (it_list hp rr) h⟩⟩
def spL (K : PySem.W.Frag) (n : Nat) (S : List D → (List D → Prop) → Prop) : Sp := fun vs H Q _ => vs.length = n ∧ ∃ (T : Addr → Prop) (ds : List D) (QD : List D → Prop), (∀ a, T a → Lv H a) ∧ RpAll K (hide T H) vs ds ∧ TbOk K H ∧ S ds QD ∧
  ∀ l us es H', H l = none → H' l = some (.lst us) → QD es → ExG K H H' → RpAll K (hide (plus T l) H') us es → Q (.ref l) H'
def lCall (n : Nat) (S : List D → (List D → Prop) → Prop) (g : DA) : DL := fun ρ Q => g ρ fun ds ρ1 => ds.length = n ∧ S ds fun es => Q es ρ1
theorem jl_call {S : List D → (List D → Prop) → Prop} {g : DA} (F : FnOk X.prog X.w X.K X.mg X.base L2.CX0 k f fd ps (spL X.K n S)) (hr : Room k X.A) (hm : X.mg x = some (.ref f)) (hk : PySem.W.keepIn X.K (.ref f) = true) (hb : Binds X.K fd ps []) (ha : JA X (e :: es) g) (hg : Gl X x := by rfl)
    (hdb : (x == ("__debug__" : Str)) = false := by decide) (he : starEach (e :: es) X.env = (false, eval e X.env) :: starEach es X.env := by rfl) (hpl : (backTo pos (starEach es X.env)).any (·.1) = false := by rfl) : JL X (.Call (.Name x p) (e :: es) [] pos) (lCall n S g) := by
  obtain ⟨t, pa, ka⟩ := ha.ex
  refine ⟨_, pe_call F hr hg hm hk hb .nil (E := fun _ _ _ => False) (fun _ _ _ _ _ _ _ h => h.elim) pa hdb he hpl, fun T ρ σ H QD Q r h q => ka T ρ σ H _ _ r h fun ds ρ1 vs H1 r1 p1 v1 h => ?_⟩
  rw [List.append_nil]
  refine ⟨by rw [v1.length, h.1], Hd T ρ1 σ, ds, _, fun a => r1.hdLv, v1, r1.tb, h.2, fun l us es H' hl hl' hq e rr => ?_⟩
  have r2 : RS X.K (plus T l) ρ1 σ H' := by
    have r3 := (r1.laid (o := .lst us) hl)
    refine r3.growE ⟨⟨fun a o w nt => ?_, fun a w => ?_⟩, fun _ => e.t r1.tb⟩
    · by_cases z : a = l
      · subst z; rw [upd_same] at w; rw [hl', w]
      · rw [upd_ne z] at w; exact e.w.k a o w nt
    · by_cases z : a = l
      · subst z; rw [hl']; simp
      · rw [upd_ne z] at w; exact e.w.d a w
  refine q es ρ1 l us H' (none_back p1 hl) hl' r2 (rr.mono (hide_sub fun a w => ?_)) (p1.trans (.growE e)) hq
  rcases w with (w | w) | w
  · exact .inl w
  · exact .inr (.inl w)
  · exact .inr (.inr w)
structure JSL (X : Cx) (st : List Stmt) (f : (List D → Prop) → Env → Prop) : Prop where
  ex : ∃ t, PSs X st t ∧ ∀ (T : Addr → Prop) (ρ : Env) (σ : L2.St) (H : Hp) (QD : List D → Prop) (D : Ends), RS X.K T ρ σ H → f QD ρ →
    (∀ es ρ' σ' l us H', H l = none → H' l = some (.lst us) → RS X.K (plus T l) ρ' σ' H' → RpAll X.K (hide (Hd (plus T l) ρ' σ') H') us es → Po ρ σ H ρ' σ' H' → QD es → D.rt (.ref l) H') → t D σ H
theorem jsl_ret {g : DL} (ha : JL X e g) : JSL X [.Return (some e) pos] (fun Q ρ => g ρ fun es _ => Q es) := by
  obtain ⟨t, pt, kt⟩ := ha.ex
  refine ⟨_, pss_cons (ps_ret pt) pss_nil, fun T ρ σ H QD D r h k => kt T ρ σ H _ _ r h fun es ρ1 l us H1 n s r1 v1 p1 h => k es ρ1 σ l us H1 n s r1 v1 p1 h⟩
theorem jsl_cons {st : Stmt} {sts : List Stmt} {g : DS} {f : (List D → Prop) → Env → Prop} (h1 : JS X st g) (h2 : JSL X sts f) : JSL X (st :: sts) (fun Q ρ => g { nx := f Q, rt := fun _ _ => False } ρ) := by
  obtain ⟨t1, p1, k1⟩ := h1.ex
  obtain ⟨t2, p2, k2⟩ := h2.ex
  refine ⟨_, pss_cons p1 p2, fun T ρ σ H QD D r h k => k1 T ρ σ H _ _ r h ⟨fun ρ1 σ1 H1 r1 q1 h => k2 T ρ1 σ1 H1 _ _ r1 h fun es ρ' σ' l us H' n s r' v' p' hq => k es ρ' σ' l us H' (none_back q1 n) s r' v' (q1.trans p') hq, fun _ _ _ _ _ _ _ _ h => h.elim, fun _ _ _ _ _ h => h.elim, fun _ _ _ _ _ h => h.elim, fun _ _ _ _ _ _ _ h => h.elim⟩⟩
def Ok (P : Program) (w : World) (K : PySem.W.Frag) (mg : Str → Option Value) (base : Heap) (x : Str) (ps : List Str) (k : Nat) (sp : Sp) : Prop :=
  ∃ f fd, FnOk P w K mg base L2.CX0 k f fd ps sp ∧ mg x = some (.ref f) ∧ PySem.W.keepIn K (.ref f) = true ∧ Binds K fd ps []
theorem je_fn {S : List D → (D → Prop) → Prop} {g : DA} (O : Ok X.prog X.w X.K X.mg X.base x ps k (spD X.K n S)) (hr : Room k X.A) (ha : JA X (e :: es) g) (hg : Gl X x := by rfl)
    (hdb : (x == ("__debug__" : Str)) = false := by decide) (he : starEach (e :: es) X.env = (false, eval e X.env) :: starEach es X.env := by rfl) (hpl : (backTo pos (starEach es X.env)).any (·.1) = false := by rfl) : JE X (.Call (.Name x p) (e :: es) [] pos) (dCallF n S g) := by
  obtain ⟨f, fd, F, hm, hk, hb⟩ := O
  exact je_call F hr hm hk hb ha hg hdb he hpl
theorem je_fn0 {S : List D → (D → Prop) → Prop} (O : Ok X.prog X.w X.K X.mg X.base x ps k (spD X.K n S)) (hr : Room k X.A) (hg : Gl X x := by rfl) (hdb : (x == ("__debug__" : Str)) = false := by decide) : JE X (.Call (.Name x p) [] [] pos) (dCallF n S aNil) := by
  obtain ⟨f, fd, F, hm, hk, hb⟩ := O
  exact je_call0 F hr hm hk hb hg hdb
theorem jl_fn {S : List D → (List D → Prop) → Prop} {g : DA} (O : Ok X.prog X.w X.K X.mg X.base x ps k (spL X.K n S)) (hr : Room k X.A) (ha : JA X (e :: es) g) (hg : Gl X x := by rfl)
    (hdb : (x == ("__debug__" : Str)) = false := by decide) (he : starEach (e :: es) X.env = (false, eval e X.env) :: starEach es X.env := by rfl) (hpl : (backTo pos (starEach es X.env)).any (·.1) = false := by rfl) : JL X (.Call (.Name x p) (e :: es) [] pos) (lCall n S g) := by
  obtain ⟨f, fd, F, hm, hk, hb⟩ := O
  exact jl_call F hr hm hk hb ha hg hdb he hpl
theorem je_fnM {i : Nat} {px : Pos} {S : List D → List D → (D → List D → Prop) → Prop} {g : DA} (O : Ok X.prog X.w X.K X.mg X.base x ps k (spM X.K n S)) (hr : Room k X.A) (hN : X.N[i]? = some y) (hv : Vis X.env.scope y) (ha : JA X es g) (hg : Gl X x := by rfl) (hd : (y == ("__debug__" : Str)) = false := by decide) (hcd : (y == ("__classdict__" : Str)) = false := by decide)
    (hdb : (x == ("__debug__" : Str)) = false := by decide) (he : starEach (Expr.Name y px :: es) X.env = (false, eval (Expr.Name y px) X.env) :: starEach es X.env := by rfl) (hpl : (backTo pos (starEach es X.env)).any (·.1) = false := by rfl) : JE X (.Call (.Name x p) (.Name y px :: es) [] pos) (dCallM i n S g) := by
  obtain ⟨f, fd, F, hm, hk, hb⟩ := O
  exact je_callM F hr hm hk hb hN hv ha hg hd hcd hdb he hpl
def Is (K : PySem.W.Frag) (mg : Str → Option Value) (x : Str) (st : Stmt) : Prop := ∃ f fd, FunD K x x (defArgs st) (defBody st) (defScope st) [] [] f fd ∧ mg x = some (.ref f)
abbrev BindsAs (x : Str) (st : Stmt) (ps : List Str) : Prop := ∀ (kV doc pm : Value) (an : Option Addr) (cdv ct : Value) (us : List Value), us.length = ps.length → bindArgs (PySem.W.fnOf x x (defArgs st) (defBody st) (defScope st) .none kV doc pm an cdv ct) ⟨us, []⟩ = pure (ps.zip us)
abbrev BodyCx (P : Program) (w : World) (K : PySem.W.Frag) (mg : Str → Option Value) (base : Heap) (x : Str) (st : Stmt) (N : List Str) (k : Nat) (J : Cx → Prop) : Prop :=
  ∀ (f : Addr) (cdv : Value) (A : Around) (outer : List PySem.Env) (s : Shared) (H : Hp) (E : XK), Room k (A.deeper (envOfC x (defScope st) s.heap.objs.size f cdv)) → J (cxOf L2.CX0 P w K mg base N x (defScope st) f cdv A outer s H E).nox
section
variable {P : Program} {w : World} {K : PySem.W.Frag} {mg : Str → Option Value} {base : Heap} {st : Stmt} {N : List Str}
theorem ok_D {S : List D → (D → Prop) → Prop} {g : DS} (F : Is K mg x st) (Sc : FnScope N ps (defScope st)) (bs : BindsAs x st ps) (hb : BodyCx P w K mg base x st N k fun X => JSs X (defBody st) g)
    (hS : ∀ (ds : List D) (Q : D → Prop), ds.length = ps.length → S ds Q → g { nx := fun _ => Q .none, rt := fun d _ => Q d } (envD ds (N.length - ps.length))) : Ok P w K mg base x ps (k + 1) (spD K ps.length S) := by
  obtain ⟨f, fd, F, hm⟩ := F
  exact ⟨f, fd, fn_D F Sc (fun cdv A outer s H E hr => hb f cdv A outer s H E hr) hS, hm, F.kp, F.bindsN bs⟩
theorem ok_M {S : List D → List D → (D → List D → Prop) → Prop} {g : DS} (F : Is K mg x st) (Sc : FnScope N ps (defScope st)) (bs : BindsAs x st ps) (hb : BodyCx P w K mg base x st N k fun X => JSs X (defBody st) g)
    (hS : ∀ (l : Addr) (ms ds : List D) (Q : D → List D → Prop), ds.length + 1 = ps.length → S ms ds Q → g { nx := fun ρ => ∃ ms', ρ[0]? = some (some (.ow (.par l (.lst ms')))) ∧ Q .none ms', rt := fun d ρ => ∃ ms', ρ[0]? = some (some (.ow (.par l (.lst ms')))) ∧ Q d ms' } (some (.ow (.par l (.lst ms))) :: envD ds (N.length - ps.length))) :
    Ok P w K mg base x ps (k + 1) (spM K ps.length S) := by
  obtain ⟨f, fd, F, hm⟩ := F
  exact ⟨f, fd, fn_M F Sc (fun cdv A outer s H E hr => hb f cdv A outer s H E hr) hS, hm, F.kp, F.bindsN bs⟩
theorem envD_rs {T : Addr → Prop} {H : Hp} {vs : List V} {ds : List D} {m : Nat} (hl : vs.length + m = N.length) (hT : ∀ a, T a → Lv H a) (rv : RpAll K (hide T H) vs ds) (tb : TbOk K H) : RS K T (envD ds m) (L2.start N vs) H ∧ ∀ a, ¬ Own (envD ds m) (L2.start N vs) a := by
  have no : ∀ a, ¬ Own (envD ds m) (L2.start N vs) a := fun a ⟨i, mm, h1, _⟩ => by
    obtain ⟨d, _, z⟩ := envD_get h1
    cases z
  have e0 : Ex (hide T H) (hide (Hd T (envD ds m) (L2.start N vs)) H) := hide_sub fun a w => w.elim id fun w => (no a w).elim
  refine ⟨⟨?_, fun i d h => ?_, fun i m h => ?_, fun i j m m' a h1 _ _ _ => ?_, fun a _ => no a, hT, fun i q m a h1 _ => ?_, tb⟩, no⟩
  · rw [envD_len]; unfold L2.start; simp [rv.length] at hl ⊢; omega
  · obtain ⟨d', h1, z⟩ := envD_get h
    cases z
    obtain ⟨v, h2, h3⟩ := rv.get h1
    exact ⟨v, start_get h2, h3.mono e0⟩
  · obtain ⟨d, _, z⟩ := envD_get h; cases z
  · obtain ⟨d, _, z⟩ := envD_get h1; cases z
  · obtain ⟨d, _, z⟩ := envD_get h1; cases z
theorem ok_L {S : List D → (List D → Prop) → Prop} {g : (List D → Prop) → Env → Prop} (F : Is K mg x st) (Sc : FnScope N ps (defScope st)) (bs : BindsAs x st ps) (hb : BodyCx P w K mg base x st N k fun X => JSL X (defBody st) g)
    (hS : ∀ (ds : List D) (Q : List D → Prop), ds.length = ps.length → S ds Q → g Q (envD ds (N.length - ps.length))) : Ok P w K mg base x ps (k + 1) (spL K ps.length S) := by
  obtain ⟨f, fd, F, hm⟩ := F
  refine ⟨f, fd, ?_, hm, F.kp, F.bindsN bs⟩
  refine F.ok Sc (fun vs H Q E h => h.1) (fun cdv A outer s H vs Q E hr h => ?_)
  obtain ⟨t, pt, kt⟩ := (hb f cdv A outer s H E hr).ex
  refine ⟨t, PSs.nox pt, ?_⟩
  obtain ⟨hl, T, ds, QD, hT, rv, tb, hs, hq⟩ := h
  have hl2 : ds.length = ps.length := by rw [← rv.length, hl]
  have hN : ps.length ≤ N.length := by have := congrArg List.length Sc.pre; rw [List.length_take] at this; omega
  obtain ⟨r0, no⟩ := envD_rs (m := N.length - ps.length) (N := N) (by omega) hT rv tb
  refine kt T _ _ H _ _ r0 (hS ds QD hl2 hs) fun es ρ' σ' l us H' n s r' v' p' h => ?_
  exact hq l us es H' n s h ⟨⟨fun a o w nt => p'.keep a o (no a) w nt, p'.dom⟩, fun _ => (r'.tb)⟩ (v'.mono (hide_sub fun a w => .inl w))
end
end
end Dn
set_option Elab.async false
set_option linter.all false
set_option maxRecDepth 100000
set_option autoImplicit false
set_option maxHeartbeats 4000000
namespace Dn
open PySem L2 Evl PySem.Spec PyProof.Rows
section
variable {X : Cx} {a b c e : Expr} {fa fb fc : DE} {pos p : Pos} {es : List Expr} {x y : Str}
theorem je_v (i : Nat) (hN : X.N[i]? = some x := by rfl) (hv : Vis X.env.scope x := by first | exact Or.inl rfl | exact Or.inr (Or.inl rfl) | exact Or.inr (Or.inr rfl)) (hd : (x == ("__debug__" : Str)) = false := by decide) (hcd : (x == ("__classdict__" : Str)) = false := by decide) : JE X (.Name x pos) (dVar i) := je_var hN hv hd hcd
theorem je_vF (i : Nat) (hN : X.N[i]? = some x := by rfl) (hv : Vis X.env.scope x := by first | exact Or.inl rfl | exact Or.inr (Or.inl rfl) | exact Or.inr (Or.inr rfl)) (hd : (x == ("__debug__" : Str)) = false := by decide) (hcd : (x == ("__classdict__" : Str)) = false := by decide) : JE X (.Name x pos) (dVarF i) := je_varF hN hv hd hcd
theorem jg_n (i : Nat) {vs : List Nat} (hN : X.N.Nodup) (hi : X.N[i]? = some x := by rfl) (hx : Loc X.env.scope x := by first | exact Or.inl rfl | exact Or.inr rfl) (hv : i ∈ vs := by decide) (hf : X.fn x = true ∨ X.env.scope.names.lookup x = some .local := by first | exact Or.inl rfl | exact Or.inr rfl) : JG X (.Name x pos) vs (gNm i) := jg_name hN hi hx hv hf
theorem jt_cmpO {op : D → D → (D → Prop) → Prop} {i : Nat} {py : Pos} {o : CmpOp} (ho : OpD X (compareOp o) op) (hN : X.N[i]? = some y) (hy : Vis X.env.scope y) (hb : JE X b fb) (hm : behindInMarks o b = false)
    (hd : (y == ("__debug__" : Str)) = false := by decide) (hcd : (y == ("__classdict__" : Str)) = false := by decide) : JT X (.Compare (.Name y py) [o] [b] pos) (dTst (dBinO i op fb)) := by
  obtain ⟨r, h1, h2⟩ := ho.ex
  obtain ⟨tb, pb, kb⟩ := hb.ex
  refine ⟨_, pt_cmpR h1 (pe_var hN hy hd hcd) pb hm, fun T ρ σ H QD Q r h q => ?_⟩
  obtain ⟨⟨m, hm⟩, h⟩ := h
  obtain ⟨a, o, ha, _, _⟩ := r.ow i m hm
  refine ⟨_, ha, kb T ρ σ H _ _ r h fun y ρ1 v H1 r1 p1 v1 h => ?_⟩
  split at h
  · rename_i ds e1
    have rf := r1.freeze e1
    obtain ⟨u, hu, ru⟩ := rf.im i (.list ds) (List.getElem?_set_self (List.getElem?_eq_some_iff.mp e1).1)
    rw [ha] at hu; cases hu
    refine h2 _ H1 _ _ _ _ _ _ (fun a => rf.hdDom) ru (v1.mono hd_freeze) h fun z w H' e v2 h => ?_
    cases v2 with
    | bl b => exact ⟨b, rfl, q _ _ _ (r1.grow e) (p1.trans (.grow e)) h.2⟩
    | _ => exact False.elim h.2
  · exact False.elim h
theorem jt_chain {o o' : CmpOp} {op op' : D → D → (D → Prop) → Prop} (ho : OpD X (compareOp o) op) (ho' : OpD X (compareOp o') op') (ha : JE X a fa) (hb : JE X b fb) (hc : JE X c fc) (hm : lastMarks [o, o'] [b, c] = false := by with_unfolding_all rfl) :
    JT X (.Compare a [o, o'] [b, c] pos) (dTst (dChain op op' fa fb fc)) := by
  obtain ⟨r, h1, h2⟩ := ho.ex
  obtain ⟨r', h1', h2'⟩ := ho'.ex
  obtain ⟨ta, pa, ka⟩ := ha.ex
  obtain ⟨tb, pb, kb⟩ := hb.ex
  obtain ⟨tc, pc, kc⟩ := hc.ex
  refine ⟨_, pt_chain h1 h1' pa pb pc hm, fun T ρ σ H QD Q r h k => ?_⟩
  refine ka T ρ σ H _ _ r h fun d ρ1 v H1 r1 p1 v1 h => ?_
  refine kb T ρ1 σ H1 _ _ r1 h fun e ρ2 w H2 r2 p2 v2 h => ?_
  refine h2 (Hd T ρ2 σ) H2 v w d e _ _ (fun a => r2.hdDom) (v1.monoW p2.fz) v2 h fun z u H3 e3 v3 h => ?_
  have r3 := r2.grow e3
  have p3 : Po ρ2 σ H2 ρ2 σ H3 := .grow e3
  cases v3 with
  | bl q =>
    refine ⟨q, rfl, ?_⟩
    cases q with
    | false => exact ⟨false, rfl, k _ _ _ r3 ((p1.trans p2).trans p3) h⟩
    | true =>
      rw [if_pos rfl]
      refine kc T ρ2 σ H3 _ _ r3 h fun g ρ4 y H4 r4 p4 v4 h => ?_
      refine h2' (Hd T ρ4 σ) H4 w y e g _ _ (fun a => r4.hdDom) ((v2.monoW p3.fz).monoW p4.fz) v4 h fun z u H5 e5 v5 h => ?_
      cases v5 with
      | bl b => exact ⟨b, rfl, k b ρ4 H5 (r4.grow e5) (((p1.trans p2).trans p3).trans (p4.trans (.grow e5))) h⟩
      | _ => exact False.elim h
  | _ => exact False.elim h
def lCat (fa fb : DE) : DL := fun ρ Q => fa ρ fun d ρ1 => fb ρ1 fun e ρ2 => ∃ xs ys, d = .list xs ∧ e = .list ys ∧ xs.length + ys.length ≤ 16777216 ∧ Q (xs ++ ys) ρ2
theorem jl_cat (ha : JE X a fa) (hb : JE X b fb) : JL X (.BinOp a .Add b pos) (lCat fa fb) := by
  obtain ⟨ta, pa, ka⟩ := ha.ex
  obtain ⟨tb, pb, kb⟩ := hb.ex
  refine ⟨_, pe_op op_cat pa pb, fun T ρ σ H QD Q r h q => ka T ρ σ H _ _ r h fun d ρ1 v H1 r1 p1 v1 h => kb T ρ1 σ H1 _ _ r1 h fun e ρ2 w H2 r2 p2 v2 h => ?_⟩
  obtain ⟨xs, ys, rfl, rfl, hz, h⟩ := h
  have v1' := v1.monoW p2.fz
  cases v1' with
  | lst hp rp =>
    cases v2 with
    | lst hq rq =>
      refine ⟨_, _, _, _, rfl, rfl, at_of hp, at_of hq, by rw [rp.length, rq.length]; exact hz, fun l hl => ?_⟩
      exact q _ _ l _ _ (none_back (p1.trans p2) hl) upd_same (r2.laid hl) ((rp.append rq).mono (hd_laid hl)) ((p1.trans p2).trans (.grow (Ex.new hl))) h
def iEn0 (K : PySem.W.Frag) (ta : TA) : TI := fun σ H R => ta σ H fun vs H1 => ∃ a, vs = [.ref a] ∧ (((∃ xs, SqL K H1 a xs) ∧ R (IteK K a) H1) ∨ ((∃ xs, SqT K H1 a xs) ∧ R (IteT K a) H1))
theorem pi_en {ta : TA} {tpos : Pos} {elts : List Expr} {kk : Nat} (hg : Gl X "enumerate") (hm : X.mg "enumerate" = none) (ha : PA X [e] ta) (hs : starEach [e] X.env = [(false, eval e X.env)] := by rfl) :
    PI X (.Tuple elts kk tpos) (.Call (.Name "enumerate" p) [e] [] pos) (iEn0 X.K ta) := by
  refine ⟨fun pins s σ H R I h => ?_⟩
  refine Call_ (ld_blt I hg hm boot_enumerate (PyProof.Rows.callWith_type1 (thn (ha.run pos pins s σ H _ I h) fun us s1 ⟨vs, H1, I1, r1, q1⟩ => ?_) hs rfl))
  obtain ⟨a, rfl, h⟩ := q1
  obtain ⟨u, rfl, ru⟩ := vals1 r1
  cases ru
  have fp : ∀ b ∈ [s1.heap.objs.size + 1, s1.heap.objs.size], FpOk X pins H1 b := fun b hb => by
    have ge : s1.heap.objs.size ≤ b := by
      rcases (show b = s1.heap.objs.size + 1 ∨ b = s1.heap.objs.size by simpa using hb) with z | z <;> subst z
      · exact Nat.le_succ _
      · exact Nat.le_refl _
    exact I1.fpOk ge (I1.hok.fresh ge)
  rcases h with ⟨⟨xs, hq⟩, h⟩ | ⟨⟨xs, hq⟩, h⟩
  · obtain ⟨its, rv, isL, hz⟩ := I1.list hq
    refine call_enumerate_list isL.isList fun hp he hit _ hk => wpAny_pyIter_enum he ?_
    have I2 : Inv X pins σ H1 { s1 with heap := hp } := I1.kept (t' := s1.toks) hk
    exact ⟨s1.heap.objs.size + 1, [s1.heap.objs.size + 1, s1.heap.objs.size], _, _, H1, rfl, I2, turn_enK a (s1.heap.objs.size + 1) s1.heap.objs.size, ⟨⟨.none, he⟩, hit, Nat.succ_ne_self _⟩, fp, h⟩
  · obtain ⟨its, rv, isT, hz⟩ := I1.tuple hq
    refine own_enum_call (show s1.heap.IsTuple a its.toArray from isT) fun hp he hit hk => wpAny_pyIter_enum he ?_
    have I2 : Inv X pins σ H1 { s1 with heap := hp } := I1.kept (t' := s1.toks) hk
    exact ⟨s1.heap.objs.size + 1, [s1.heap.objs.size + 1, s1.heap.objs.size], _, _, H1, rfl, I2, turn_enT a (s1.heap.objs.size + 1) s1.heap.objs.size, ⟨⟨.none, he⟩, hit, Nat.succ_ne_self _⟩, fp, h⟩
theorem it_enL {K : PySem.W.Frag} {G : Hp} {a : Addr} {xs : List V} {ds : List D} (hp : SqL K G a xs) (rr : RpAll K G xs ds) : ItOk K (IteK K a) G (enD ds) :=
  ⟨fun H e => ⟨xs, e.l hp, by rw [enD_len, rr.length]; exact Nat.le_refl _⟩, fun i d H hd e => by
    obtain ⟨g, hg, rfl⟩ := enD_get hd
    obtain ⟨u, hu, ru⟩ := rr.get hg
    refine ⟨⟨xs, u, e.l hp, hu⟩, fun x H' y => ?_⟩
    obtain ⟨l, o, z, rfl, hl, t, rfl, y⟩ := y
    have := y xs (e.l hp)
    rw [hu] at this; cases this
    exact ⟨Ex.new hl, fun O hO eo => rp_newT hO hl t (.cons (.int _) (.cons (ru.monoW eo) .nil))⟩⟩
theorem it_enT {K : PySem.W.Frag} {G : Hp} {a : Addr} {xs : List V} {ds : List D} (hp : SqT K G a xs) (rr : RpAll K G xs ds) : ItOk K (IteT K a) G (enD ds) :=
  ⟨fun H e => ⟨xs, e.t hp, by rw [enD_len, rr.length]; exact Nat.le_refl _⟩, fun i d H hd e => by
    obtain ⟨g, hg, rfl⟩ := enD_get hd
    obtain ⟨u, hu, ru⟩ := rr.get hg
    refine ⟨⟨xs, u, e.t hp, hu⟩, fun x H' y => ?_⟩
    obtain ⟨l, o, z, rfl, hl, t, rfl, y⟩ := y
    have := y xs (e.t hp)
    rw [hu] at this; cases this
    exact ⟨Ex.new hl, fun O hO eo => rp_newT hO hl t (.cons (.int _) (.cons (ru.monoW eo) .nil))⟩⟩
def iEn (f : DE) : DL := fun ρ Q => f ρ fun d ρ1 => ∃ ds, seqD d = some ds ∧ Q (enD ds) ρ1
theorem ji_en {elts : List Expr} {kk : Nat} {tpos : Pos} (hm : X.mg "enumerate" = none) (ha : JE X a fa) (hg : Gl X "enumerate" := by rfl) (hs : starEach [a] X.env = [(false, eval a X.env)] := by rfl) : JI X (.Tuple elts kk tpos) (.Call (.Name "enumerate" p) [a] [] pos) (iEn fa) := by
  obtain ⟨t, pt, kt⟩ := ha.ex
  refine ⟨_, pi_en hg hm (pa_cons pt pa_nil hs) hs, fun T ρ σ H QD R r h q => kt T ρ σ H _ _ r h fun d ρ1 v H1 r1 p1 v1 h => ?_⟩
  obtain ⟨ds, e, h⟩ := h
  cases v1
  case dct h1 h2 h3 => rw [h3, seq_dk] at e; cases e
  case ins h1 h2 h3 h4 => subst h4; simp [seqD, obL] at e
  all_goals simp only [seqD, Option.some.injEq, reduceCtorEq] at e
  · subst e
    rename_i hp rr
    exact ⟨_, rfl, .inl ⟨⟨_, .inl (.inl (at_of hp))⟩, q _ _ _ _ r1 p1 (it_enL (.inl (.inl hp)) rr) h⟩⟩
  · subst e
    rename_i hp rr
    exact ⟨_, rfl, .inr ⟨⟨_, sqt_of hp⟩, q _ _ _ _ r1 p1 (it_enT (lt_of hp) rr) h⟩⟩
  · subst e
    rename_i hp rr
    exact ⟨_, rfl, .inl ⟨⟨_, sql_of hp⟩, q _ _ _ _ r1 p1 (it_enL hp rr) h⟩⟩
abbrev dMulA := dI2 (fun i j => CMul i j ∨ CMulW i j) fun i j => .int (i * j)
theorem opd_mulA : OpD X (binaryOp .Mult) dMulA := by
  refine ⟨_, .or op_mul op_mulW, fun O H x y d e QD Q hO rx ry h k => ?_⟩
  cases rx <;> cases ry <;> first | exact False.elim h | skip
  obtain ⟨h1, h2⟩ := h
  rcases h1 with h1 | h1
  · exact .inl ⟨_, _, rfl, rfl, h1, k _ _ H (.refl H) (.int _) h2⟩
  · exact .inr ⟨_, _, rfl, rfl, h1, k _ _ H (.refl H) (.int _) h2⟩
def sAugI (i : Nat) (f : DE) : DS := fun E ρ => match ρ[i]? with
  | some (some (.im (.int n))) => f ρ fun d ρ1 => match d with
    | .int k => E.nx (ρ1.set i (some (.im (.int (n + k)))))
    | _ => False
  | _ => False
end
end Dn
set_option Elab.async false
set_option linter.all false
set_option maxRecDepth 100000
set_option autoImplicit false
set_option maxHeartbeats 4000000
namespace Dn
open PySem L2 Evl PySem.Spec PyProof.Rows
def keyD : D → Option Key
  | .int i => some (.inl i)
  | .str s => some (.inr s)
  | _ => none
theorem keyD_rp {K : PySem.W.Frag} {G : Hp} {v : V} {d : D} {k : Key} (r : Rp K G v d) (h : keyD d = some k) : v = kV k := by
  cases r <;> first | (cases h; rfl) | (exact nomatch h)
def valD (kvs : List (Key × D)) (k : Key) : Option D := (kvs.find? fun kv => decide (kv.1 = k)).map (·.2)
def putD (kvs : List (Key × D)) (k : Key) (d : D) : List (Key × D) :=
  if (kvs.any fun kv => decide (kv.1 = k)) = true then kvs.map (fun kv => if kv.1 = k then (kv.1, d) else kv) else kvs ++ [(k, d)]
abbrev KvRp (K : PySem.W.Frag) (G : Hp) (kvs : List (Key × D)) (kws : List (Key × V)) : Prop := Paired (fun (p : Key × D) (q : Key × V) => p.1 = q.1 ∧ Rp K G q.2 p.2) kvs kws
theorem KvRp.mono {K : PySem.W.Frag} {G G' : Hp} (e : Ex G G') {kvs : List (Key × D)} {kws : List (Key × V)} (h : KvRp K G kvs kws) : KvRp K G' kvs kws := Paired.mapP h fun _ _ q => ⟨q.1, q.2.mono e⟩
theorem KvRp.monoW {K : PySem.W.Frag} {G G' : Hp} (e : Exw G G') {kvs : List (Key × D)} {kws : List (Key × V)} (h : KvRp K G kvs kws) : KvRp K G' kvs kws := Paired.mapP h fun _ _ q => ⟨q.1, q.2.monoW e⟩
theorem KvRp.len {K : PySem.W.Frag} {G : Hp} {kvs : List (Key × D)} {kws : List (Key × V)} (h : KvRp K G kvs kws) : kvs.length = kws.length := by
  induction h with
  | nil => rfl
  | cons _ _ ih => simp [ih]
theorem KvRp.val {K : PySem.W.Frag} {G : Hp} {kvs : List (Key × D)} {kws : List (Key × V)} (h : KvRp K G kvs kws) (k : Key) : (valD kvs k = none ∧ valV kws k = none) ∨ ∃ d v, valD kvs k = some d ∧ valV kws k = some v ∧ Rp K G v d := by
  induction h with
  | nil => exact .inl ⟨rfl, rfl⟩
  | @cons p q ps qs r t ih =>
    unfold valD valV at ih ⊢
    rw [List.find?_cons, List.find?_cons]
    by_cases z : p.1 = k
    · have z2 : q.1 = k := by rw [← r.1]; exact z
      simp only [z, z2, decide_true, Option.map_some]
      exact .inr ⟨_, _, rfl, rfl, r.2⟩
    · have z2 : ¬ q.1 = k := by rw [← r.1]; exact z
      simp only [z, z2, decide_false]
      exact ih
theorem KvRp.any {K : PySem.W.Frag} {G : Hp} {kvs : List (Key × D)} {kws : List (Key × V)} (h : KvRp K G kvs kws) (k : Key) : (kvs.any fun kv => decide (kv.1 = k)) = (kws.any fun kv => decide (kv.1 = k)) := by
  induction h with
  | nil => rfl
  | @cons p q ps qs r t ih => simp only [List.any_cons, ih, r.1]
theorem KvRp.rep {K : PySem.W.Frag} {G : Hp} {kvs : List (Key × D)} {kws : List (Key × V)} (h : KvRp K G kvs kws) (k : Key) {v : V} {d : D} (r : Rp K G v d) : KvRp K G (kvs.map fun kv => if kv.1 = k then (kv.1, d) else kv) (kws.map fun kv => if kv.1 = k then (kv.1, v) else kv) := by
  induction h with
  | nil => exact .nil
  | @cons p q ps qs s t ih =>
    rw [List.map_cons, List.map_cons]
    refine .cons ?_ ih
    by_cases z : p.1 = k
    · have z2 : q.1 = k := by rw [← s.1]; exact z
      rw [if_pos z, if_pos z2]
      exact ⟨s.1, r⟩
    · have z2 : ¬ q.1 = k := by rw [← s.1]; exact z
      rw [if_neg z, if_neg z2]
      exact s
theorem KvRp.add {K : PySem.W.Frag} {G : Hp} {kvs : List (Key × D)} {kws : List (Key × V)} (h : KvRp K G kvs kws) (k : Key) {v : V} {d : D} (r : Rp K G v d) : KvRp K G (kvs ++ [(k, d)]) (kws ++ [(k, v)]) := by
  induction h with
  | nil => exact .cons ⟨rfl, r⟩ .nil
  | cons s t ih => exact .cons s ih
theorem KvRp.put {K : PySem.W.Frag} {G : Hp} {kvs : List (Key × D)} {kws : List (Key × V)} (h : KvRp K G kvs kws) (k : Key) {v : V} {d : D} (r : Rp K G v d) : KvRp K G (putD kvs k d) (putK kws k v) := by
  unfold putD putK
  rw [h.any k]
  split
  · exact h.rep k r
  · exact h.add k r
def atK (ρ : Env) (i : Nat) : Option (List (Key × D)) := match ρ[i]? with
  | some (some (.ow (.dct kvs))) => some kvs
  | _ => none
theorem atK_some {ρ : Env} {i : Nat} {kvs : List (Key × D)} (h : atK ρ i = some kvs) : ρ[i]? = some (some (SV.ow (.dct kvs))) := by
  unfold atK at h
  split at h
  · cases h; assumption
  · cases h
theorem RS.atK {K : PySem.W.Frag} {T : Addr → Prop} {ρ : Env} {σ : L2.St} {H : Hp} {i : Nat} {kvs : List (Key × D)} (r : RS K T ρ σ H) (h : Dn.atK ρ i = some kvs) : ∃ q kws, ρ[i]? = some (some (SV.ow (.dct kvs))) ∧ σ[i]? = some (some (V.ref q)) ∧ H q = some (.dK kws) ∧ KvRp K (hide (Hd T ρ σ) H) kvs kws := by
  have hm := atK_some h
  obtain ⟨q, o, h1, h2, h3⟩ := r.ow i _ hm
  cases o with
  | dK kws => exact ⟨q, kws, hm, h1, h2, h3⟩
  | _ => exact h3.elim
section
variable {X : Cx} {a b c e : Expr} {fa fb fc : DE} {pos p : Pos} {es : List Expr} {x y : Str}
def dGetK (i : Nat) (fb : DE) : DE := fun ρ Q => (atK ρ i).isSome = true ∧ fb ρ fun y ρ1 => ∃ kvs k d, atK ρ1 i = some kvs ∧ keyD y = some k ∧ valD kvs k = some d ∧ Q d ρ1
theorem je_getK {i : Nat} {px : Pos} (hu : X.A.units + 1 < cLine) (hN : X.N[i]? = some x) (hv : Vis X.env.scope x) (hb : JE X b fb) (hs : NoSl b := by exact fun _ _ => rfl) (hd : (x == ("__debug__" : Str)) = false := by decide) (hcd : (x == ("__classdict__" : Str)) = false := by decide) :
    JE X (.Subscript (.Name x px) b pos) (dGetK i fb) := by
  obtain ⟨tb, pb, kb⟩ := hb.ex
  refine ⟨_, pe_dget hu (pe_var hN hv hd hcd) pb hs, fun T ρ σ H QD Q r h q => ?_⟩
  obtain ⟨h0, h⟩ := h
  obtain ⟨ds0, h0⟩ := Option.isSome_iff_exists.mp h0
  obtain ⟨l, kws, _, hl, _, _⟩ := r.atK h0
  refine ⟨_, hl, kb T ρ σ H _ _ r h fun y ρ1 v H1 r1 p1 v1 h => ?_⟩
  obtain ⟨kvs, k, d, h1, hk, h2, h3⟩ := h
  obtain ⟨l', kws', _, hl', ho', hr'⟩ := r1.atK h1
  rw [hl] at hl'; cases hl'
  obtain rfl := keyD_rp v1 hk
  rcases hr'.val k with ⟨z, _⟩ | ⟨d', u, z, z2, z3⟩
  · rw [z] at h2; cases h2
  · rw [z] at h2; cases h2
    have g := DGet.k (k := k) ho'
    rw [z2] at g
    exact ⟨_, _, rfl, g, q _ _ _ _ r1 p1 z3 h3⟩
def dInK (neg : Bool) (i : Nat) (fb : DE) : DE := fun ρ Q => fb ρ fun y ρ1 => ∃ kvs k, atK ρ1 i = some kvs ∧ keyD y = some k ∧ Q (.bool (if neg then !(valD kvs k).isSome else (valD kvs k).isSome)) ρ1
def sPutK (i : Nat) (fi fe : DE) : DS := fun E ρ => fe ρ fun d ρ1 => (atK ρ1 i).isSome = true ∧ fi ρ1 fun y ρ2 => ∃ kvs k, atK ρ2 i = some kvs ∧ keyD y = some k ∧ kvs.length < sizeLine ∧ E.nx (ρ2.set i (some (.ow (.dct (putD kvs k d)))))
theorem js_putK {i : Nat} {px ps : Pos} {f1 f2 : DE} (hu : X.A.units + 1 < cLine) (hN : X.N[i]? = some x) (hv : Vis X.env.scope x) (hi : JE X b f1) (he : JE X e f2) (hd : (x == ("__debug__" : Str)) = false := by decide) (hcd : (x == ("__classdict__" : Str)) = false := by decide)
    (hs : swapsWith e (some (.Subscript (.Name x px) b ps)) pos.line X.env = pure false := by rfl) :
    JS X (.Assign [.Subscript (.Name x px) b ps] e pos) (sPutK i f1 f2) := by
  obtain ⟨t1, p1, k1⟩ := hi.ex
  obtain ⟨t2, p2, k2⟩ := he.ex
  refine ⟨_, ps_dput hu (pe_var hN hv hd hcd) p1 p2 hs, fun T ρ σ H E D r h k => k2 T ρ σ H _ _ r h fun d ρ1 v H1 r1 q1 v1 h => ?_⟩
  obtain ⟨h0, h⟩ := h
  obtain ⟨ds0, h0⟩ := Option.isSome_iff_exists.mp h0
  obtain ⟨l, kws, _, hl, _, _⟩ := r1.atK h0
  refine ⟨_, hl, k1 T ρ1 σ H1 _ _ r1 h fun kk ρ2 w H2 r2 q2 v2 h => ?_⟩
  obtain ⟨kvs, ky, h2, hk, h3, h4⟩ := h
  obtain ⟨l', kws', hm', hl', ho', hr'⟩ := r2.atK h2
  rw [hl] at hl'; cases hl'
  obtain rfl := keyD_rp v2 hk
  have hp : RpO X.K (hide (Hd T ρ2 σ) H2) (.dct (putD kvs ky d)) (.dK (putK kws' ky v)) := hr'.put ky (v1.monoW q2.fz)
  have r3 := r2.write hm' hl hp (fun _ _ z => nomatch z)
  exact ⟨l, _, rfl, DPut.k ho' (by rw [← hr'.len]; exact h3), k.nx _ _ _ r3 ((q1.trans q2).trans (.write hm' hl)) h4⟩
def xDct : DX := fun ρ Q => Q (.ow (.dct [])) ρ
theorem jx_dct0 : JX X (.Dict [] [] pos) xDct := by
  refine ⟨_, pe_dnewK, fun T ρ σ H QD Q r h q p hp => ?_⟩
  exact q (SV.ow (.dct [])) ρ _ _ ⟨p, .dK [], rfl, hp, upd_same, r.laid hp, (Paired.nil : KvRp X.K _ [] []), fun _ _ z => nomatch z⟩ (.grow (Ex.new hp)) h
theorem hu1 {n : Nat} (h : n + 64 < cLine) : n + 1 < cLine := by omega
theorem jt_notinK {i : Nat} {px : Pos} (hu : X.A.units + 1 < cLine) (hN : X.N[i]? = some x) (hv : Vis X.env.scope x) (hb : JE X b fb) (hm : behindInMarks .NotIn (.Name x px) = false) (hd : (x == ("__debug__" : Str)) = false := by decide) (hcd : (x == ("__classdict__" : Str)) = false := by decide) :
    JT X (.Compare b [.NotIn] [.Name x px] pos) (dTst (dInK true i fb)) := by
  obtain ⟨tb, pb, kb⟩ := hb.ex
  refine ⟨_, pt_cmp (pc_dnotin hu pb (pe_var hN hv hd hcd)) hm, fun T ρ σ H QD Q r h q => kb T ρ σ H _ _ r h fun y ρ1 v H1 r1 p1 v1 h => ?_⟩
  obtain ⟨kvs, k, h1, hk, h3⟩ := h
  obtain ⟨l', kws', _, hl', ho', hr'⟩ := r1.atK h1
  obtain rfl := keyD_rp v1 hk
  refine ⟨_, hl', l', _, rfl, DGet.k (k := k) ho', ?_⟩
  refine ⟨_, rfl, q _ _ _ r1 p1 ?_⟩
  rcases hr'.val k with ⟨z, z2⟩ | ⟨d', u, z, z2, z3⟩
  · rw [z2]; rw [z] at h3; exact h3
  · rw [z2]; rw [z] at h3; exact h3
theorem js_augI {i : Nat} {px : Pos} (hN : X.N.Nodup) (hi : X.N[i]? = some x) (hx : Loc X.env.scope x) (he : JE X e fa) (hf : X.fn x = true ∨ X.env.scope.names.lookup x = some .local := by first | exact Or.inl rfl | exact Or.inr rfl) :
    JS X (.AugAssign (.Name x px) .Add e pos) (sAugI i fa) := by
  obtain ⟨t, pt, kt⟩ := he.ex
  refine ⟨_, ps_aug hN hi hx pt ip_add hf, fun T ρ σ H E D r h k => ?_⟩
  unfold sAugI at h
  split at h
  · rename_i n hn
    obtain ⟨v, hv, rv⟩ := r.im i _ hn
    cases rv
    refine ⟨_, hv, kt T ρ σ H _ _ r h fun d ρ1 v H1 r1 p1 v1 h => ?_⟩
    split at h
    · cases v1
      exact ⟨_, _, rfl, rfl, k.nx _ _ _ (r1.setIm (.int _)) (p1.trans Po.setIm) h⟩
    · exact h.elim
  · exact h.elim
end
end Dn
set_option Elab.async false
set_option linter.all false
set_option maxRecDepth 100000
set_option autoImplicit false
set_option maxHeartbeats 4000000
namespace Dn
open PySem L2 Evl PySem.Spec PyProof.Rows
section
variable {X : Cx} {a b c e : Expr} {es : List Expr} {fa fb fc : DE} {pos p : Pos} {x y : Str}
def gSubW (i : Nat) (fi : DE) : DG := fun d ρ Q => (atO ρ i).isSome = true ∧ fi ρ fun k ρ2 => ∃ ds j m, atO ρ2 i = some ds ∧ k = .int j ∧ ixN ds.length j = some m ∧ Q (setO ρ2 i (ds.set m d))
end
end Dn
set_option Elab.async false
set_option linter.all false
set_option maxRecDepth 100000
set_option autoImplicit false
set_option maxHeartbeats 4000000
namespace Dn
open PySem L2 Evl PySem.Spec PyProof.Rows
theorem RpKv.kv {K : PySem.W.Frag} {G : Hp} : ∀ {kws : List (Key × V)} {kvs : List (Key × D)}, RpKv K G kws kvs → KvRp K G kvs kws
  | _, _, .nil => .nil
  | _, _, .cons h r => .cons ⟨rfl, h⟩ r.kv
theorem KvRp.rp {K : PySem.W.Frag} {G : Hp} {kvs : List (Key × D)} {kws : List (Key × V)} (h : KvRp K G kvs kws) : RpKv K G kws kvs := by
  induction h with
  | nil => exact .nil
  | @cons p q ps qs r t ih =>
    obtain ⟨k, d⟩ := p
    obtain ⟨k2, v⟩ := q
    obtain ⟨r1, r2⟩ := r
    cases r1
    exact .cons r2 ih
section
variable {K : PySem.W.Frag} {T : Addr → Prop} {ρ : Env} {σ : L2.St} {H : Hp}
end
section
variable {X : Cx} {a b c e : Expr} {fa fb fc : DE} {pos p : Pos} {es : List Expr} {x y : Str}
def sRetK (i : Nat) : DS := fun E ρ => ∃ kvs, atK ρ i = some kvs ∧ E.rt (.dict (dkD kvs)) (ρ.set i (some (.im (.dict (dkD kvs)))))
def xDct1 (fk fv : DE) : DX := fun ρ Q => fk ρ fun y ρ1 => fv ρ1 fun d ρ2 => ∃ k, keyD y = some k ∧ Q (.ow (.dct [(k, d)])) ρ2
theorem DGet.of {H : Hp} {q : Addr} {kws : List (Key × V)} {k : Key} (h : H q = some (.dK kws)) : DGet H q (kV k) (valV kws k) := DGet.k h
def dGetD (fa fb : DE) : DE := fun ρ Q => fa ρ fun z ρ1 => fb ρ1 fun y ρ2 => ∃ kvs k d, z = .dict (dkD kvs) ∧ keyD y = some k ∧ valD kvs k = some d ∧ Q d ρ2
def dInD (neg : Bool) (fb fa : DE) : DE := fun ρ Q => fb ρ fun y ρ1 => fa ρ1 fun z ρ2 => ∃ kvs k, z = .dict (dkD kvs) ∧ keyD y = some k ∧ Q (.bool (if neg then !(valD kvs k).isSome else (valD kvs k).isSome)) ρ2
def dGet1 (fa fb : DE) : DE := fun ρ Q => fa ρ fun z ρ1 => (∃ kvs, z = .dict (dkD kvs)) ∧ fb ρ1 fun y ρ2 => ∃ kvs k, z = .dict (dkD kvs) ∧ keyD y = some k ∧ Q ((valD kvs k).getD .none) ρ2
def lKeys (fa : DE) : DL := fun ρ Q => fa ρ fun z ρ1 => ∃ kvs, z = .dict (dkD kvs) ∧ Q (kvs.map fun p => keyB p.1) ρ1
theorem keys_rp {K : PySem.W.Frag} {G : Hp} {kvs : List (Key × D)} {kws : List (Key × V)} (h : KvRp K G kvs kws) (G' : Hp) : RpAll K G' (kws.map fun kv => kV kv.1) (kvs.map fun p => keyB p.1) := by
  induction h with
  | nil => exact .nil
  | @cons p q ps qs r t ih =>
    rw [List.map_cons, List.map_cons, ← r.1]
    refine .cons ?_ ih
    cases p.1 with
    | inl i => exact .int i
    | inr s => exact .str s
def lSort (fa : DE) : DL := fun ρ Q => fa ρ fun z ρ1 => ∃ ns : List Int, seqD z = some (ns.map PyData.int) ∧ (∃ ds, z = .list ds) ∧ ∀ ns' : List Int, ns'.Perm ns → ns'.Pairwise (· ≤ ·) → Q (ns'.map PyData.int) ρ1
theorem jl_sort (hm : X.mg "sorted" = none) (ha : JE X a fa) (hg : Gl X "sorted" := by rfl) (he : starEach [a] X.env = (false, eval a X.env) :: starEach [] X.env := by rfl) : JL X (.Call (.Name "sorted" p) [a] [] pos) (lSort fa) := by
  obtain ⟨ta, pa, ka⟩ := ha.ex
  refine ⟨_, pe_callB cr_sortedI hg hm (by decide +kernel) (pa_cons pa pa_nil he) (by decide) (by decide) he (by rfl), fun T ρ σ H QD Q r h q => ka T ρ σ H _ _ r h fun d ρ1 v H1 r1 p1 v1 h => ?_⟩
  obtain ⟨ns, e, ⟨ds, rfl⟩, h⟩ := h
  cases v1 with
  | lst hp rr =>
    cases e
    obtain rfl := rr.of_ints
    exact ⟨_, ns, rfl, .inl (.inl (at_of hp)), fun ns' l h1 h2 hl => q _ _ _ _ _ (none_back p1 hl) upd_same (r1.laid hl) (RpAll.ints ns') (p1.trans (.grow (Ex.new hl))) (h ns' h1 h2)⟩
end
end Dn
set_option Elab.async false
set_option linter.all false
set_option maxRecDepth 100000
set_option autoImplicit false
set_option maxHeartbeats 4000000
namespace Dn
open PySem L2 Evl PySem.Spec PyProof.Rows
theorem erase_perm {l : List Int} {x : Int} (h : x ∈ l) : (x :: l.erase x).Perm l := (List.perm_cons_erase h).symm
section
variable {X : Cx} {a b c e : Expr} {fa fb fc : DE} {pos p : Pos} {es : List Expr} {x y : Str}
def dLenSet (fa : DE) : DE := fun ρ Q => fa ρ fun z ρ1 => ∃ ns : List Int, z = .tuple (ns.map PyData.int) ∧ ns.length ≤ 4000 ∧ ∀ n : Nat, (n = ns.length ↔ ns.Nodup) → Q (.int n) ρ1
def dRevT (fa : DE) : DE := fun ρ Q => fa ρ fun z ρ1 => ∃ ds, z = .tuple ds ∧ Q (.tuple ds.reverse) ρ1
def dRepT : D → D → (D → Prop) → Prop := fun x y Q => ∃ (ds : List D) (n : Int), x = .tuple ds ∧ y = .int n ∧ ds ≠ [] ∧ 2 ≤ n ∧ n ≤ 1000 ∧ ds.length ≤ 1000 ∧ Q (.tuple (List.replicate n.toNat ds).flatten)
theorem RpAll.rep {K : PySem.W.Frag} {G : Hp} {vs : List V} {ds : List D} (r : RpAll K G vs ds) : ∀ n : Nat, RpAll K G (List.replicate n vs).flatten (List.replicate n ds).flatten
  | 0 => .nil
  | n + 1 => by simpa [List.replicate_succ] using r.append (RpAll.rep r n)
end
end Dn
set_option Elab.async false
set_option linter.all false
set_option maxRecDepth 100000
set_option autoImplicit false
set_option maxHeartbeats 4000000
namespace SrL
open PySem PyProof.Rows Srt SrtO
def lx : List Int → List Int → Bool
  | [], [] => false
  | [], _ :: _ => true
  | _ :: _, [] => false
  | x :: a, y :: b => if x = y then lx a b else decide (x < y)
theorem lx_asym : ∀ {a b : List Int}, lx a b = true → lx b a = false
  | [], [], _ => rfl
  | [], _ :: _, _ => rfl
  | _ :: _, [], h => by simp [lx] at h
  | x :: a, y :: b, h => by
    unfold lx at h ⊢
    by_cases e : x = y
    · rw [if_pos e] at h; rw [if_pos e.symm]; exact lx_asym h
    · rw [if_neg e] at h; rw [if_neg (Ne.symm e)]
      have := of_decide_eq_true h
      exact decide_eq_false (by omega)
theorem lx_tr : ∀ {a b c : List Int}, lx b a = false → lx c b = false → lx c a = false
  | [], [], [], _, _ => rfl
  | [], [], _ :: _, _, h => by simp [lx] at h; rfl
  | [], _ :: _, [], _, h => by simp [lx] at h
  | [], _ :: _, _ :: _, _, _ => rfl
  | _ :: _, [], _, h, _ => by simp [lx] at h
  | _ :: _, _ :: _, [], _, h => by simp [lx] at h
  | x :: a, y :: b, z :: c, h1, h2 => by
    unfold lx at h1 h2 ⊢
    by_cases e1 : y = x
    · rw [if_pos e1] at h1
      by_cases e2 : z = y
      · rw [if_pos e2] at h2; rw [if_pos (e2.trans e1)]; exact lx_tr h1 h2
      · rw [if_neg e2] at h2; rw [if_neg (by rw [← e1]; exact e2)]; rw [← e1]; exact h2
    · rw [if_neg e1] at h1
      have k1 := of_decide_eq_false h1
      by_cases e2 : z = y
      · rw [e2, if_neg e1]; exact h1
      · rw [if_neg e2] at h2
        have k2 := of_decide_eq_false h2
        rw [if_neg (by omega)]
        exact decide_eq_false (by omega)
theorem lx_eq : ∀ {a b : List Int}, lx a b = false → lx b a = false → a = b
  | [], [], _, _ => rfl
  | [], _ :: _, h, _ => by simp [lx] at h
  | _ :: _, [], _, h => by simp [lx] at h
  | x :: a, y :: b, h1, h2 => by
    unfold lx at h1 h2
    by_cases e : x = y
    · rw [if_pos e] at h1; rw [if_pos e.symm] at h2
      rw [e, lx_eq h1 h2]
    · rw [if_neg e] at h1; rw [if_neg (Ne.symm e)] at h2
      have k1 := of_decide_eq_false h1
      have k2 := of_decide_eq_false h2
      omega
theorem swo_lx (k : Value → List Int) : Swo fun v u => lx (k v) (k u) := ⟨fun _ _ h => lx_asym h, fun _ _ _ h1 h2 => lx_tr h1 h2⟩
section
variable {prog : Program} {w : World} {A : Around} {E : Value → Shared → Prop} {s : Shared} {Q : Bool → Shared → Prop}
theorem lex_any {b fin : Bool} {xs ys : List Value} {ns ms : List Int} (i : Nat) (hx : IntsAre xs ns) (hy : IntsAre ys ms) (hf : fin = decide (ns.length < ms.length)) (h : Q (lx ns ms) s) : PySem.W.KatLex prog w A b fin Q (xs.zip ys) i s := by
  induction hx generalizing ys ms i with
  | nil =>
    cases hy with
    | nil => simp at hf; subst hf; exact PySem.W.kat_nil h
    | cons q u hy => simp at hf; subst hf; exact PySem.W.kat_nil h
  | @cons p t xs ns hx ih =>
    cases hy with
    | nil => simp at hf; subst hf; exact PySem.W.kat_nil h
    | @cons q u ys ms hy =>
      have hf' : fin = decide (ns.length < ms.length) := by simpa using hf
      show PySem.W.KatLex prog w A b fin Q ((Value.int p t, Value.int q u) :: xs.zip ys) i s
      refine PySem.W.kat_cons (wpAny_eqBool_int ?_)
      by_cases e : p = q
      · subst e
        rw [beq_self_eq_true]
        have d : lx (p :: ns) (p :: ms) = lx ns ms := by rw [lx, if_pos rfl]
        rw [d] at h
        refine PySem.W.kat_yes ?_
        first
          | exact ih (i + 1) hy hf' h
          | exact ih _ _ (i + 1) hy hf' h
      · rw [show (p == q) = false from beq_eq_false_iff_ne.mpr e]
        refine PySem.W.kat_no (TS.oneLt_ints _ ?_)
        have d : lx (p :: ns) (q :: ms) = decide (p < q) := by rw [lx, if_neg e]
        rw [d] at h
        exact h
theorem tup_cmp {vs : List Value} {k : Value → List Int} (hp : ∀ v ∈ vs, TS.TupInts s.heap v (k v)) : Cmp prog w A s (tuples' true) (fun p => p.1 ∈ vs) (lt2 fun v u => lx (k v) (k u)) := by
  intro p q hm hm'
  have h1 := hp _ hm
  have h2 := hp _ hm'
  show wpAny (model prog w) A (keyLt' (tuples' true) p.1 q.1) (fun r s' => s' = s ∧ r = lx (k p.1) (k q.1)) (fun _ _ => False) s
  generalize k p.1 = x at h1 ⊢
  generalize k q.1 = y at h2 ⊢
  obtain ⟨a, xs, e, ⟨o, ho, hc, n, hd⟩, i1⟩ := h1
  obtain ⟨a', xs', e', ⟨o', ho', hc', n', hd'⟩, i2⟩ := h2
  rw [e, e']
  refine PySem.W.kat_lt ho hd ho' hd' (lex_any 0 i1 i2 ?_ ⟨rfl, rfl⟩)
  rw [← i1.length, ← i2.length, Array.length_toList, Array.length_toList]
theorem firsts {h : Heap} {k : Value → List Int} : ∀ vs : List Value, (∀ v ∈ vs, TS.TupInts h v (k v)) → (∀ v ∈ vs, k v ≠ []) → ∃ fs, PySem.W.KatTups h vs fs ∧ fs.length = vs.length ∧ ∀ f, f ∈ fs → ∃ n t, f = Value.int n t
  | [], _, _ => ⟨[], PySem.W.KatTups.nil, rfl, fun f hf => by simp at hf⟩
  | v :: vs, x, hne => by
    obtain ⟨fs, kt, hl, hi⟩ := firsts vs (fun u hu => x u (List.mem_cons_of_mem _ hu)) fun u hu => hne u (List.mem_cons_of_mem _ hu)
    have hv := hne v (List.mem_cons_self ..)
    obtain ⟨a, xs, rfl, ⟨o, ho, hc, n, hdt⟩, i⟩ := x v (List.mem_cons_self ..)
    obtain ⟨y, ys, e⟩ : ∃ y ys, xs.toList = y :: ys := by
      cases q : xs.toList with
      | nil =>
        rw [q] at i
        have l := i.length
        rw [List.length_nil] at l
        exact absurd (List.length_eq_zero_iff.mp l.symm) hv
      | cons y ys => exact ⟨y, ys, rfl⟩
    obtain ⟨m, t, hy⟩ := i.all y (by rw [e]; exact List.mem_cons_self ..)
    refine ⟨y :: fs, PySem.W.KatTups.cons ho hc hdt ?_ kt, by simp [hl], ?_⟩
    · have z := congrArg (fun l : List Value => l[0]?) e
      simpa using z
    · intro f hf
      rcases List.mem_cons.mp hf with rfl | hf
      · exact ⟨m, t, hy⟩
      · exact hi f hf
theorem tups_sortableO {a : Addr} {vs : List Value} {k : Value → List Int} (h0 : 0 < vs.length) (hp : ∀ v ∈ vs, TS.TupInts s.heap v (k v)) (hne : ∀ v ∈ vs, k v ≠ []) (ha : ∀ o, s.heap.get? a = some o → o.cls ≠ .type "tuple") : SortableO prog w A s a vs fun v u => lx (k v) (k u) := by
  intro h' keep
  have hp' : ∀ v ∈ vs, TS.TupInts h' v (k v) := fun v hm => (hp v hm).keeps fun b o e c => keep b o (fun z => by subst z; exact ha o e c) e
  obtain ⟨fs, h1, h2, h3⟩ := firsts vs hp' hne
  refine ⟨tuples' true, fun Q E hq => ?_, tup_cmp hp'⟩
  refine PySem.W.kat_kind (T := .type "int") h1 (by omega) (fun f hm => ?_) (by rfl) ?_
  · obtain ⟨x, t, rfl⟩ := h3 f hm
    exact PySem.W.Looks.of_pure rfl
  · have e : (Value.type "int" != Value.type "tuple") = true := by first | decide +kernel | rfl | decide
    rw [e]
    exact hq
end
end SrL
namespace Dn
open PySem L2 Evl PySem.Spec PyProof.Rows SrL
section
variable {X : Cx}
def rSortL (K : PySem.W.Frag) : List V → Hp → VK → Prop := fun vs H Q => ∃ (a : Addr) (xs : List V), vs = [V.ref a] ∧ SqL K H a xs ∧ (∀ x ∈ xs, ∃ ns, TupI K H x ns ∧ ns ≠ []) ∧
  ∀ (ys : List V) (p : Addr), ys.Perm xs → ys.Pairwise (fun x y => ∀ n m, TupI K H x n → TupI K H y m → lx m n = false) → H p = none → Q (.ref p) (upd H p (.lst ys))
theorem cr_sortL : CallR X (.builtin "sorted") (rSortL X.K) := by
  intro pins s σ H vs us Q I r h
  obtain ⟨a, xs, rfl, hs, hx, q⟩ := h
  obtain ⟨its, rv, hl, hz⟩ := I.list hs
  rw [Vals.ref1 r]
  obtain ⟨e1, e2⟩ := bkV_refs rv fun x m => by
    obtain ⟨ns, ⟨t, e, _⟩, _⟩ := hx x m
    exact ⟨t, e⟩
  have tup : ∀ v, v ∈ its → TS.TupInts s.heap v (TS.intsOf s.heap v) ∧ TS.intsOf s.heap v ≠ [] := fun v hv => by
    obtain ⟨t, rfl⟩ := e2 v hv
    have hm : V.ref t ∈ xs := by
      rw [e1]
      exact List.mem_map.mpr ⟨_, hv, rfl⟩
    obtain ⟨ns, ⟨t', e, ht⟩, hn⟩ := hx _ hm
    cases e
    have ti := tupI_raw I ht
    rw [ti.ints]
    exact ⟨ti, hn⟩
  refine SrtO.sorted_ord (swo_lx (TS.intsOf s.heap)) hl.isList (by rw [← rv.length]; exact hz) (fun h2 h₁ a' ha kk => ?_) fun out hs2 hb => ?_
  · refine tups_sortableO (s := { s with heap := h₁ }) (by omega) (fun v hm => (tup v hm).1.keeps fun b o e _ => (kk b o e).2) (fun v hm => (tup v hm).2) fun o e => ?_
    have e' : some o = some (seqObj "list" its.toArray 0) := e.symm.trans ha
    cases e'
    intro c
    exact absurd (Value.type.inj c) (by decide)
  · obtain ⟨ep, he'⟩ := PyProof.Rows.sortedAll_at s.heap its out.toArray
    have h3 : ∀ u ∈ out, ∃ a, u = Value.ref a := fun u hu => e2 u (hb.perm.mem_iff.mp hu)
    have hp : (out.map bkV).Perm xs := by
      rw [e1]
      exact hb.perm.map bkV
    have hlen : (out.map bkV).length ≤ sizeLine := by
      rw [hp.length_eq]
      exact hz
    refine ⟨.ref _, upd H (s.heap.objs.size + 1) (.lst (out.map bkV)), I.laid (t' := s.toks) (fun _ _ => PyProof.Rows.sortedAll_old) (Nat.le_succ _) ⟨hlen, out, ep, bkV_vals h3, he'⟩, rfl, q _ _ hp ?_ (I.hok.fresh (Nat.le_succ _))⟩
    rw [List.pairwise_map]
    refine List.Pairwise.imp (fun {u v} huv n m hn hm => ?_) hs2
    obtain ⟨t, et, ht⟩ := hn
    obtain ⟨t', et', ht'⟩ := hm
    have eu := bkV_ref et
    have ev := bkV_ref et'
    have i1 : TS.intsOf s.heap u = n := by
      rw [eu]
      exact (tupI_raw I ht).ints
    have i2 : TS.intsOf s.heap v = m := by
      rw [ev]
      exact (tupI_raw I ht').ints
    rw [← i1, ← i2]
    exact huv
theorem RpAll.perm {K : PySem.W.Frag} {G : Hp} {ys xs : List V} (h : ys.Perm xs) : ∀ {ds : List D}, RpAll K G xs ds → ∃ ds', ds'.Perm ds ∧ RpAll K G ys ds' := by
  induction h with
  | nil => intro ds r; exact ⟨ds, .refl _, r⟩
  | cons x h ih =>
    intro ds r
    cases r with
    | cons r rr =>
      obtain ⟨ds', p, r2⟩ := ih rr
      exact ⟨_, p.cons _, .cons r r2⟩
  | swap x y l =>
    intro ds r
    cases r with
    | cons r rr =>
      cases rr with
      | cons r2 rr => exact ⟨_, .swap _ _ _, .cons r2 (.cons r rr)⟩
  | trans h1 h2 ih1 ih2 =>
    intro ds r
    obtain ⟨ds2, p2, r2⟩ := ih2 r
    obtain ⟨ds1, p1, r1⟩ := ih1 r2
    exact ⟨ds1, p1.trans p2, r1⟩
theorem perm_map {α : Type} {f : α → D} : ∀ {ys zs : List D}, ys.Perm zs → ∀ {l : List α}, zs = l.map f → ∃ l' : List α, ys = l'.map f ∧ l'.Perm l := by
  intro ys zs h
  induction h with
  | nil =>
    intro l e
    cases l with
    | nil => exact ⟨[], rfl, .nil⟩
    | cons _ _ => cases e
  | cons x h ih =>
    intro l e
    cases l with
    | nil => cases e
    | cons n ns =>
      simp at e
      obtain ⟨ms, e1, e2⟩ := ih e.2
      exact ⟨n :: ms, by simp [e1, e.1], e2.cons n⟩
  | swap x y l =>
    intro ns e
    match ns, e with
    | a :: b :: ns, e =>
      simp at e
      exact ⟨b :: a :: ns, by simp [e.1, e.2.1, e.2.2], .swap a b ns⟩
  | trans h1 h2 ih1 ih2 =>
    intro ns e
    obtain ⟨ms, e1, e2⟩ := ih2 e
    obtain ⟨ms2, e3, e4⟩ := ih1 e1
    exact ⟨ms2, e3, e4.trans e2⟩
def tI0 (ns : List Int) : D := .tuple (ns.map PyData.int)
theorem tupI_rp {K : PySem.W.Frag} {O : Addr → Prop} {H : Hp} {v : V} {ns : List Int} (r : Rp K (hide O H) v (tI0 ns)) : TupI K H v ns := by
  unfold tI0 at r
  cases r with
  | tup h rr =>
    obtain rfl := rr.of_ints
    exact ⟨_, rfl, sqt_of h⟩
theorem pw_rp {K : PySem.W.Frag} {O : Addr → Prop} {H : Hp} : ∀ {ys : List V} {L : List (List Int)}, RpAll K (hide O H) ys (L.map tI0) → ys.Pairwise (fun x y => ∀ n m, TupI K H x n → TupI K H y m → lx m n = false) → L.Pairwise fun a b => lx b a = false
  | _, [], _, _ => .nil
  | y :: ys, l :: L, .cons r rr, .cons h p => by
    refine .cons (fun b hb => ?_) (pw_rp rr p)
    obtain ⟨i, hi, e⟩ := List.mem_iff_getElem.mp hb
    have e2 : (L.map tI0)[i]? = some (tI0 b) := by rw [List.getElem?_map, List.getElem?_eq_getElem hi, e]; rfl
    obtain ⟨v, h1, h2⟩ := rr.get e2
    exact h v (List.mem_of_getElem? h1) l b (tupI_rp r) (tupI_rp h2)
variable {a : Expr} {fa : DE} {pos p : Pos}
def lSortT (fa : DE) : DL := fun ρ Q => fa ρ fun z ρ1 => ∃ L : List (List Int), z = .list (L.map tI0) ∧ (∀ l, l ∈ L → l ≠ []) ∧ ∀ L' : List (List Int), L'.Perm L → (L'.Pairwise fun a b => lx b a = false) → Q (L'.map tI0) ρ1
theorem jl_sortT (hm : X.mg "sorted" = none) (ha : JE X a fa) (hg : Gl X "sorted" := by rfl) (he : starEach [a] X.env = (false, eval a X.env) :: starEach [] X.env := by rfl) : JL X (.Call (.Name "sorted" p) [a] [] pos) (lSortT fa) := by
  obtain ⟨ta, pa, ka⟩ := ha.ex
  refine ⟨_, pe_callB cr_sortL hg hm (by decide +kernel) (pa_cons pa pa_nil he) (by decide) (by decide) he (by rfl), fun T ρ σ H QD Q r h q => ka T ρ σ H _ _ r h fun d ρ1 v H1 r1 p1 v1 h => ?_⟩
  obtain ⟨L, rfl, hne, h⟩ := h
  cases v1 with
  | lst hp rr =>
    refine ⟨_, _, rfl, .inl (.inl (at_of hp)), fun x hx => ?_, fun ys l h1 h2 hl => ?_⟩
    · obtain ⟨i, hi, e⟩ := List.mem_iff_getElem.mp hx
      obtain ⟨d, e2, r2⟩ := rr.get' (by rw [List.getElem?_eq_getElem hi, e])
      rw [List.getElem?_map] at e2
      obtain ⟨b, e3, rfl⟩ := Option.map_eq_some_iff.mp e2
      exact ⟨b, tupI_rp r2, hne b (List.mem_of_getElem? e3)⟩
    · obtain ⟨ds', pm, r2⟩ := RpAll.perm h1 rr
      obtain ⟨L', rfl, pm2⟩ := perm_map pm rfl
      exact q _ _ _ _ _ (none_back p1 hl) upd_same (r1.laid hl) (r2.mono (hd_laid hl)) (p1.trans (.grow (Ex.new hl))) (h L' pm2 (pw_rp r2 h2))
end
end Dn
set_option Elab.async false
set_option linter.all false
set_option maxRecDepth 100000
set_option autoImplicit false
set_option maxHeartbeats 4000000
namespace Dn
open PySem L2 Evl PySem.Spec PyProof.Rows
section
variable {X : Cx} {a b c e : Expr} {fa fb fc : DE} {pos p : Pos} {es : List Expr} {x y : Str}
def wpDc (g : DG) (tt : DT) (tk te : DE) (vs : List Nat) (Q : List (Key × D) → Env → Prop) : List D → List (Key × D) → Env → Prop
  | [], acc, ρ => Q acc ρ
  | d :: ds, acc, ρ => acc.length < 16777216 ∧ g d (wipeD ρ vs) fun ρ1 => tt ρ1 fun b ρ2 => if b = true then tk ρ2 fun yk ρk => te ρk fun y ρ3 => ∃ k, keyD yk = some k ∧ wpDc g tt tk te vs Q ds (putD acc k y) (wipeD ρ3 vs) else wpDc g tt tk te vs Q ds acc (wipeD ρ2 vs)
abbrev DDc := Env → (List (Key × D) → Env → Prop) → Prop
def lDc (fi : DL) (g : DG) (tt : DT) (tk te : DE) (vs : List Nat) : DDc := fun ρ Q => fi ρ fun ds ρ1 => wpDc g tt tk te vs Q ds [] (wipeD ρ1 vs)
def dOfK (f : DDc) : DE := fun ρ Q => f ρ fun kvs => Q (.dict (dkD kvs))
def xOwK (f : DDc) : DX := fun ρ Q => f ρ fun kvs => Q (.ow (.dct kvs))
def dMinL : List D → (D → Prop) → Prop := fun ds Q => ∃ ns : List Int, ds = [.list (ns.map PyData.int)] ∧ ns ≠ [] ∧ ∀ m, m ∈ ns → (∀ z, z ∈ ns → m ≤ z) → Q (.int m)
def dIndex (fa fb : DE) : DE := fun ρ Q => fa ρ fun z ρ1 => (∃ ds, z = .list ds) ∧ fb ρ1 fun y ρ2 => ∃ (ns : List Int) (n : Int) (j : Nat), z = .list (ns.map PyData.int) ∧ y = .int n ∧ ns[j]? = some n ∧ (∀ m : Nat, m < j → ns[m]? ≠ some n) ∧ Q (.int (j : Nat)) ρ2
def lRep (fa fb : DE) : DL := fun ρ Q => fa ρ fun z ρ1 => fb ρ1 fun y ρ2 => ∃ (ds : List D) (n : Int), z = .list ds ∧ y = .int n ∧ 0 ≤ n ∧ n ≤ 1000 ∧ ds.length ≤ 1000 ∧ Q (List.replicate n.toNat ds).flatten ρ2
end
end Dn
set_option Elab.async false
set_option linter.all false
set_option maxRecDepth 100000
set_option autoImplicit false
set_option maxHeartbeats 4000000
namespace Cq
open PySem L2 PySem.Spec PyProof.Rows
theorem mF {α : Type} {t : Sem α} {Q Q' : α → Shared → Prop} {M : Model} {A : Around} {E E' : Value → Shared → Prop} {s : Shared} (hx : E = fun _ _ => False) (h : wpAny M A t Q E s) (hq : ∀ a s, Q a s → Q' a s) : wpAny M A t Q' E' s := by
  subst hx
  exact thnF h hq
end Cq
set_option Elab.async false
set_option linter.all false
set_option maxRecDepth 100000
set_option autoImplicit false
set_option maxHeartbeats 4000000
namespace Dn
open PySem L2 Evl PySem.Spec PyProof.Rows
theorem wpLc_cps {g : DG} {tt : DT} {te : DE} {vs : List Nat} {Q : List D → Env → Prop} (P : List D → List D → Env → Prop) {ds : List D} {ρ0 : Env} (h0 : P [] [] ρ0)
    (hs : ∀ (done : List D) (d : D) (rest acc : List D) (ρ : Env) (K : List D → Env → Prop), ds = done ++ d :: rest → P done acc ρ → (∀ acc' ρ', P (done ++ [d]) acc' ρ' → K acc' ρ') →
      acc.length < 16777216 ∧ g d (wipeD ρ vs) fun ρ1 => tt ρ1 fun b ρ2 => if b = true then te ρ2 fun y ρ3 => K (acc ++ [y]) (wipeD ρ3 vs) else K acc (wipeD ρ2 vs))
    (he : ∀ acc ρ, P ds acc ρ → Q acc ρ) : wpLc g tt te vs Q ds [] ρ0 := by
  have aux : ∀ (rest done acc : List D) (ρ : Env), ds = done ++ rest → P done acc ρ → wpLc g tt te vs Q rest acc ρ := by
    intro rest
    induction rest with
    | nil => intro done acc ρ e p; rw [List.append_nil] at e; subst e; exact he acc ρ p
    | cons d rest ih =>
      intro done acc ρ e p
      exact hs done d rest acc ρ _ e p fun acc' ρ' p' => ih (done ++ [d]) acc' ρ' (by rw [e]; simp) p'
  exact aux ds [] [] ρ0 rfl h0
theorem wpLc_map {g : DG} {tt : DT} {te : DE} {vs : List Nat} {Q : List D → Env → Prop} (h : D → D) {ds : List D} {ρ0 : Env} (hl : ds.length < 16777216) (hw : wipeD ρ0 vs = ρ0)
    (hs : ∀ d, d ∈ ds → ∀ (K : D → Env → Prop), (∀ ρ3, wipeD ρ3 vs = ρ0 → K (h d) ρ3) → g d ρ0 fun ρ1 => tt ρ1 fun b ρ2 => if b = true then te ρ2 fun y ρ3 => K y ρ3 else False)
    (hf : ∀ d ρ1, d ∈ ds → tt ρ1 = fun K => K true ρ1) (he : Q (ds.map h) ρ0) : wpLc g tt te vs Q ds [] ρ0 := by
  refine wpLc_cps (fun done acc ρ => acc = done.map h ∧ ρ = ρ0) ⟨rfl, rfl⟩ (fun done d rest acc ρ K e p k => ?_) (fun acc ρ p => by obtain ⟨rfl, rfl⟩ := p; exact he)
  obtain ⟨rfl, rfl⟩ := p
  have hm : d ∈ ds := by rw [e]; simp
  refine ⟨by rw [List.length_map]; have := congrArg List.length e; simp at this; omega, ?_⟩
  rw [hw]
  have z := hs d hm (fun y ρ3 => K (done.map h ++ [y]) (wipeD ρ3 vs)) fun ρ3 w => by rw [w]; exact k _ _ ⟨by simp, rfl⟩
  have e2 : (fun ρ1 => tt ρ1 fun b ρ2 => if b = true then te ρ2 fun y ρ3 => K (done.map h ++ [y]) (wipeD ρ3 vs) else False) = fun ρ1 => tt ρ1 fun b ρ2 => if b = true then te ρ2 fun y ρ3 => K (done.map h ++ [y]) (wipeD ρ3 vs) else K (done.map h) (wipeD ρ2 vs) := by
    funext ρ1
    rw [hf d ρ1 hm]
    simp
  rw [← e2]
  exact z
theorem wpFor_cps {g : DG} {body : DS} {E : DEnds} (P : List D → Env → Prop) {ds : List D} {ρ0 : Env} (h0 : P [] ρ0)
    (hs : ∀ (done : List D) (d : D) (rest : List D) (ρ : Env) (K : Env → Prop), ds = done ++ d :: rest → P done ρ → (∀ ρ', P (done ++ [d]) ρ' → K ρ') → g d ρ fun ρ1 => body { nx := K, ct := K, bk := E.nx, rt := E.rt, er := E.er } ρ1)
    (he : ∀ ρ, P ds ρ → E.nx ρ) : wpFor g body E ds ρ0 := by
  have aux : ∀ (rest done : List D) (ρ : Env), ds = done ++ rest → P done ρ → wpFor g body E rest ρ := by
    intro rest
    induction rest with
    | nil => intro done ρ e p; rw [List.append_nil] at e; subst e; exact he ρ p
    | cons d rest ih =>
      intro done ρ e p
      exact hs done d rest ρ _ e p fun ρ' p' => ih (done ++ [d]) ρ' (by rw [e]; simp) p'
  exact aux ds [] ρ0 rfl h0
theorem wpFor_find {g : DG} {body : DS} {N bk ct : Env → Prop} {Q : D → Prop} {ds : List D} {ρ0 : Env} (f : D → Option D) (I : Env → Prop) (h0 : I ρ0)
    (hs : ∀ d, d ∈ ds → ∀ (ρ : Env) (K B : Env → Prop), I ρ → (∀ v, f d = some v → Q v) → (f d = none → ∀ ρ', I ρ' → K ρ') → g d ρ fun ρ1 => body { nx := K, ct := K, bk := B, rt := fun d _ => Q d } ρ1)
    (hf : ∀ v, ds.findSome? f = some v → Q v) (hn : ds.findSome? f = none → ∀ ρ, I ρ → N ρ) : wpFor g body { nx := N, rt := fun d _ => Q d, bk := bk, ct := ct } ds ρ0 := by
  induction ds generalizing ρ0 with
  | nil => exact hn rfl ρ0 h0
  | cons d ds ih =>
    refine hs d List.mem_cons_self ρ0 _ _ h0 (fun v e => hf v ?_) (fun e ρ' i => ih i (fun d hd => hs d (List.mem_cons_of_mem _ hd)) (fun v h => hf v ?_) fun h => hn ?_)
    · rw [List.findSome?_cons, e]
    · rw [List.findSome?_cons, e]; exact h
    · rw [List.findSome?_cons, e]; exact h
def tI (ns : List Int) : D := .tuple (ns.map PyData.int)
def tR (rs : List (List Int)) : D := .tuple (rs.map tI)
theorem eqvAll_int : ∀ (a b : List Int), PyData.eqvAll (a.map PyData.int) (b.map PyData.int) = decide (a = b)
  | [], [] => by simp [PyData.eqvAll]
  | [], _ :: _ => by simp [PyData.eqvAll]
  | _ :: _, [] => by simp [PyData.eqvAll]
  | x :: a, y :: b => by
    simp only [List.map_cons, PyData.eqvAll, PyData.eqv, eqvAll_int a b]
    by_cases h : x = y <;> simp [h]
theorem eqv_tI (a b : List Int) : PyData.eqv (tI a) (tI b) = decide (a = b) := by unfold tI; simp only [PyData.eqv, eqvAll_int]
theorem eqvAll_tI : ∀ (a b : List (List Int)), PyData.eqvAll (a.map tI) (b.map tI) = decide (a = b)
  | [], [] => by simp [PyData.eqvAll]
  | [], _ :: _ => by simp [PyData.eqvAll]
  | _ :: _, [] => by simp [PyData.eqvAll]
  | x :: a, y :: b => by
    simp only [List.map_cons, PyData.eqvAll, eqv_tI, eqvAll_tI a b]
    by_cases h : x = y <;> simp [h]
theorem eqv_tR (a b : List (List Int)) : PyData.eqv (tR a) (tR b) = decide (a = b) := by unfold tR; simp only [PyData.eqv, eqvAll_tI]
theorem layAll_int : ∀ (a : List Int), PyData.canLayAll0 (a.map PyData.int) = true ∧ PyData.depthAll (a.map PyData.int) = 0
  | [] => by simp [PyData.canLayAll0, PyData.depthAll]
  | x :: a => by simp [PyData.canLayAll0, PyData.canLay0, PyData.depthAll, PyData.depth, layAll_int a]
theorem lay_tI (a : List Int) : (tI a).canLay0 = true ∧ (tI a).depth = 1 := by
  unfold tI; simp [PyData.canLay0, PyData.depth, layAll_int a]
theorem shaped_tI (a : List Int) : SeqAt.shaped (tI a) = true := by
  unfold SeqAt.shaped; simp [lay_tI a]
theorem layAll_tI : ∀ (a : List (List Int)), PyData.canLayAll0 (a.map tI) = true ∧ PyData.depthAll (a.map tI) ≤ 1
  | [] => by simp [PyData.canLayAll0, PyData.depthAll]
  | x :: a => by
    have h := layAll_tI a
    have h2 := lay_tI x
    simp [PyData.canLayAll0, PyData.depthAll, h2.1, h2.2, h.1]
    omega
theorem shaped_tR (a : List (List Int)) : SeqAt.shaped (tR a) = true := by
  have h := layAll_tI a
  unfold SeqAt.shaped tR
  simp [PyData.canLay0, PyData.depth, h.1]
  omega
theorem atI_in {α : Type} {l : List α} {i : Int} {d : α} (h0 : 0 ≤ i) (h1 : i < l.length) : atI l i = some (l.getD i.toNat d) := by
  unfold atI ixN
  rw [if_pos h0, if_pos h1]
  have h2 : i.toNat < l.length := by omega
  simp [List.getD, List.getElem?_eq_getElem h2]
theorem ixI {r : List Int} {i : Int} {Q : D → Prop} (h0 : 0 ≤ i) (h1 : i < r.length) (h : Q (.int (r.getD i.toNat 0))) : dIx (tI r) (.int i) Q := by
  refine ⟨_, atI_in (d := .int 0) h0 (by simpa using h1), ?_⟩
  have h2 : i.toNat < r.length := by omega
  simp [List.getD, List.getElem?_eq_getElem h2] at h ⊢
  exact h
theorem ixR {r : List (List Int)} {i : Int} {Q : D → Prop} (h0 : 0 ≤ i) (h1 : i < r.length) (h : Q (tI (r.getD i.toNat []))) : dIx (tR r) (.int i) Q := by
  refine ⟨_, atI_in (d := tI []) h0 (by simpa using h1), ?_⟩
  have h2 : i.toNat < r.length := by omega
  simp [List.getD, List.getElem?_eq_getElem h2] at h ⊢
  exact h
theorem seq_tI (r : List Int) : seqD (tI r) = some (r.map PyData.int) := rfl
theorem seq_tR (r : List (List Int)) : seqD (tR r) = some (r.map tI) := rfl
structure Rw (rs : List (List Int)) : Prop where
  pos : 1 ≤ rs.length
  most : rs.length ≤ 24
  row : ∀ r, r ∈ rs → r.length = rs.length ∧ ∀ x, x ∈ r → 0 ≤ x ∧ x < rs.length
def rc (rs : List (List Int)) (a b : Int) : Int := (rs.getD a.toNat []).getD b.toNat 0
theorem getD_mem {α : Type} {l : List α} {i : Nat} {d : α} (h : i < l.length) : l.getD i d ∈ l := by
  simp [List.getD, List.getElem?_eq_getElem h]
theorem Rw.len {rs : List (List Int)} (h : Rw rs) {a : Int} (a0 : 0 ≤ a) (a1 : a < rs.length) : (rs.getD a.toNat []).length = rs.length := (h.row _ (getD_mem (by omega))).1
theorem Rw.rc {rs : List (List Int)} (h : Rw rs) {a b : Int} (a0 : 0 ≤ a) (a1 : a < rs.length) (b0 : 0 ≤ b) (b1 : b < rs.length) : 0 ≤ rc rs a b ∧ rc rs a b < rs.length := by
  refine (h.row _ (getD_mem (d := []) (show a.toNat < rs.length by omega))).2 _ (getD_mem ?_)
  rw [h.len a0 a1]; omega
theorem ixRC {rs : List (List Int)} {a b : Int} {Q : D → Prop} (h : Rw rs) (a0 : 0 ≤ a) (a1 : a < rs.length) (b0 : 0 ≤ b) (b1 : b < rs.length) (q : Q (.int (rc rs a b))) : dIx (tR rs) (.int a) fun d => dIx d (.int b) Q :=
  ixR a0 a1 (ixI b0 (by rw [h.len a0 a1]; exact b1) q)
def rgI (n : Nat) : List Int := (List.range n).map fun (k : Nat) => (k : Int)
theorem rgD_rgI (n : Nat) : rgD 0 (n : Int) = (rgI n).map PyData.int := by
  unfold rgD rgI
  simp
theorem mem_rgI {n : Nat} {x : Int} : x ∈ rgI n ↔ 0 ≤ x ∧ x < n := by
  unfold rgI
  simp only [List.mem_map, List.mem_range]
  constructor
  · rintro ⟨k, h, rfl⟩; omega
  · rintro ⟨h0, h1⟩; exact ⟨x.toNat, by omega, by omega⟩
theorem rgI_len (n : Nat) : (rgI n).length = n := by unfold rgI; simp
theorem rgI_get {n k : Nat} (h : k < n) : (rgI n)[k]? = some (k : Int) := by unfold rgI; simp [h]
end Dn
set_option Elab.async false
set_option linter.all false
set_option maxRecDepth 100000
set_option autoImplicit false
set_option maxHeartbeats 4000000
namespace Dn
open PySem L2 Evl Cq PyProof.Rows
def t3 (n : Nat) : List (Int × Int × Int) := (rgI n).flatMap fun x => (rgI n).flatMap fun y => (rgI n).map fun z => (x, y, z)
def tT (t : Int × Int × Int) : D := .tuple [.int t.1, .int t.2.1, .int t.2.2]
theorem flat_len {α β : Type} (l : List α) (f : α → List β) (k : Nat) (h : ∀ a, a ∈ l → (f a).length = k) : (l.flatMap f).length = l.length * k := by
  induction l with
  | nil => simp
  | cons a l ih =>
    rw [List.flatMap_cons, List.length_append, h a (by simp), ih fun b hb => h b (by simp [hb]), List.length_cons, Nat.succ_mul, Nat.add_comm]
def g3 : DS := fun E ρ => ∃ n : Nat, ρ = [some (.im (.int n)), none, none, none, none] ∧ n ≤ 60 ∧ E.rt (.list ((t3 n).map tT)) ρ
section
variable {X : Cx}
end
end Dn
set_option Elab.async false
set_option linter.all false
set_option maxRecDepth 100000
set_option autoImplicit false
set_option maxHeartbeats 4000000
namespace Dn
open PySem L2 Evl
inductive NL : D → Prop
  | non : NL .none
  | bl (b : Bool) : NL (.bool b)
  | int (i : Int) : NL (.int i)
  | str (x : Str) : NL (.str x)
  | tup {ds : List D} : (∀ d, d ∈ ds → NL d) → NL (.tuple ds)
inductive PL : D → Prop
  | nl {d : D} : NL d → PL d
  | lst {ds : List D} : (∀ d, d ∈ ds → PL d) → PL (.list ds)
def notL : D → Prop
  | .list _ => False
  | _ => True
inductive Ch (es : List D) : D → D → Prop
  | nl {d : D} : NL d → Ch es d d
  | repl {ds : List D} : (∀ d, d ∈ ds → notL d) → es.length = ds.length → Ch es (.list ds) (.list es)
  | lst {ds ds' : List D} : ds'.length = ds.length → (∀ (i : Nat) (d d' : D), ds[i]? = some d → ds'[i]? = some d' → Ch es d d') → Ch es (.list ds) (.list ds')
section
variable {K : PySem.W.Frag} {T B : Addr → Prop} {p : Addr} {ρ ρ1 ρ' : Env} {σ σ1 : L2.St} {H H1 H' G G' : Hp}
theorem NL.notL {d : D} (h : NL d) : notL d := by cases h <;> trivial
structure Fr (p : Addr) (ρ : Env) : Prop where
  dice : ∃ a b c : Int, ρ[0]? = some (some (.ow (.par p (.lst [.int a, .int b, .int c]))))
  rest : ∀ (i : Nat) (sv : SV), ρ[i]? = some (some sv) → i ≠ 0 → ∃ d, sv = .im d ∧ PL d
structure Qs (K : PySem.W.Frag) (T B : Addr → Prop) (p : Addr) (ρ : Env) (σ : L2.St) (H : Hp) : Prop where
  rs : RS K T ρ σ H
  fr : Fr p ρ
  lists : ∀ a xs, ¬ T a → a ≠ p → H a = some (.lst xs) → B a
  new : ∀ a, H a = none → B a
  tbs : ∀ a o, H a = some o → TbO o → B a
theorem Qs.at0 (q : Qs K T B p ρ σ H) : σ[0]? = some (some (.ref p)) := by
  obtain ⟨a, b, c, h⟩ := q.fr.dice
  obtain ⟨x, o, h1, _⟩ := q.rs.ow 0 _ h
  rw [h1, q.rs.tag 0 p _ x h h1]
theorem Qs.own (q : Qs K T B p ρ σ H) {a : Addr} : Own ρ σ a ↔ a = p := by
  constructor
  · rintro ⟨i, m, h1, h2⟩
    by_cases e : i = 0
    · subst e; rw [q.at0] at h2; cases h2; rfl
    · obtain ⟨d, z, _⟩ := q.fr.rest i _ h1 e
      cases z
  · rintro rfl
    obtain ⟨a, b, c, h⟩ := q.fr.dice
    exact ⟨0, _, h, q.at0⟩
theorem Qs.hd (q : Qs K T B p ρ σ H) {a : Addr} : Hd T ρ σ a ↔ T a ∨ a = p := by unfold Hd; rw [q.own]
theorem Qs.step (q : Qs K T B p ρ σ H) (r : RS K T ρ1 σ1 H1) (po : Po ρ σ H ρ1 σ1 H1) (f : Fr p ρ1) : Qs K T B p ρ1 σ1 H1 := by
  refine ⟨r, f, fun a xs t n h => ?_, fun a h => ?_, fun a o h to => ?_⟩
  · cases w : H a with
    | none => exact q.new a w
    | some o =>
      by_cases to : TbO o
      · exact q.tbs a o w to
      have := po.keep a o (fun z => n (q.own.1 z)) w to
      rw [h] at this; cases this
      exact q.lists a xs t n w
  · cases w : H a with
    | none => exact q.new a w
    | some o => exact absurd h (po.dom a (by rw [w]; simp))
  · cases w : H a with
    | none => exact q.new a w
    | some o2 =>
      by_cases t2 : TbO o2
      · exact q.tbs a o2 w t2
      by_cases n : Own ρ σ a
      · rw [q.own] at n
        subst n
        obtain ⟨x, y, z, w2⟩ := f.dice
        obtain ⟨b, o3, b1, b2, b3⟩ := r.ow 0 _ w2
        rw [r.tag 0 a _ b w2 b1] at b2
        rw [h] at b2; cases b2
        exact absurd to (rpo_tb b3)
      · have := po.keep a o2 n w t2
        rw [h] at this; cases this
        exact absurd to t2
structure Kp (B : Addr → Prop) (p : Addr) (H H' : Hp) : Prop where
  keep : ∀ a o, a ≠ p → ¬ B a → H a = some o → H' a = some o
  dom : ∀ a, H a ≠ none → H' a ≠ none
theorem Kp.refl {B : Addr → Prop} {p : Addr} : Kp B p H H := ⟨fun _ _ _ _ h => h, fun _ h => h⟩
theorem Kp.trans {B : Addr → Prop} {p : Addr} {H2 : Hp} (a : Kp B p H H1) (b : Kp B p H1 H2) : Kp B p H H2 := ⟨fun x o n m h => b.keep x o n m (a.keep x o n m h), fun x h => b.dom x (a.dom x h)⟩
theorem Qs.kp (q : Qs K T B p ρ σ H) (po : Po ρ σ H ρ1 σ1 H1) : Kp B p H H1 := ⟨fun a o n m h => po.keep a o (fun z => n (q.own.1 z)) h (fun t => m (q.tbs a o h t)), po.dom⟩
structure EndB (K : PySem.W.Frag) (T B : Addr → Prop) (p : Addr) (H : Hp) (E : DEnds) (D : Ends) : Prop where
  nx : ∀ ρ' σ' H', Qs K T B p ρ' σ' H' → Kp B p H H' → E.nx ρ' → D.nx σ' H'
  rt : ∀ d ρ' σ' v H', Qs K T B p ρ' σ' H' → Kp B p H H' → Rp K (hide (Hd T ρ' σ') H') v d → E.rt d ρ' → D.rt v H'
theorem EndB.step {E : DEnds} {D : Ends} (e : EndB K T B p H E D) (k : Kp B p H H1) : EndB K T B p H1 E D := ⟨fun a b c q k2 => e.nx a b c q (k.trans k2), fun a b c d f q k2 => e.rt a b c d f q (k.trans k2)⟩
theorem Ch.pl {es : List D} (ne : ∀ d, d ∈ es → NL d) {d d' : D} (p : PL d) (c : Ch es d d') : PL d' := by
  induction p generalizing d' with
  | nl n => cases c with
    | nl _ => exact .nl n
    | repl _ _ => cases n
    | lst _ _ => cases n
  | @lst ds _ ih => cases c with
    | nl n => cases n
    | repl _ _ => exact .lst fun d hd => .nl (ne d hd)
    | @lst _ ds' l h =>
      refine .lst fun d hd => ?_
      obtain ⟨i, hi⟩ := List.mem_iff_getElem?.mp hd
      have il : i < ds.length := by rw [← l]; exact (List.getElem?_eq_some_iff.mp hi).1
      exact ih ds[i] (List.getElem_mem il) (h i _ _ (List.getElem?_eq_getElem il) hi)
def L1 (d : D) : Prop := ∃ es, d = .list es ∧ ∀ e, e ∈ es → NL e
end
def sB (f : DS) : DS := fun E ρ => ∀ p, Fr p ρ → f { nx := fun ρ' => Fr p ρ' ∧ E.nx ρ', rt := fun d ρ' => Fr p ρ' ∧ E.rt d ρ' } ρ
section
variable {X : Cx} {V : D → Prop} {a b c e : Expr} {es : List Expr} {fa fb fc : DE} {pos ps px : Pos} {x y : Str} {st : Stmt} {sts : List Stmt} {f g : DS}
end
end Dn
set_option Elab.async false
set_option linter.all false
set_option maxRecDepth 100000
set_option autoImplicit false
set_option maxHeartbeats 4000000
namespace Dn
open PySem L2 Evl
section
variable {X : Cx} {es : List Expr} {pos : Pos}
def gTpL (n : Nat) (gs : List D → Env → (Env → Prop) → Prop) : DG := fun d ρ Q => match d with
  | .list ds => ds.length = n ∧ gs ds ρ Q
  | _ => False
end
end Dn
set_option Elab.async false
set_option linter.all false
set_option maxRecDepth 100000
set_option autoImplicit false
set_option maxHeartbeats 4000000
namespace Dn
open PySem L2 Evl
def isTupD : D → Prop
  | .tuple _ => True
  | _ => False
inductive NA : D → Prop
  | nl {d : D} : NL d → NA d
  | lst {e : D} {ds : List D} : ¬ isTupD e → NA e → (∀ d, d ∈ ds → NA d) → NA (.list (e :: ds))
section
variable {K : PySem.W.Frag} {G G' : Hp}
theorem NA.pl {d : D} (h : NA d) : PL d := by
  induction h with
  | nl n => exact .nl n
  | lst _ _ _ ih1 ih2 => exact PL.lst (fun d hd => (List.mem_cons.mp hd).elim (fun z => by rw [z]; exact ih1) (ih2 d))
end
section
variable {X : Cx} {s1 s2 : Stmt} {sts : List Stmt} {f1 f2 f : DS}
end
end Dn
set_option Elab.async false
set_option linter.all false
set_option maxRecDepth 100000
set_option autoImplicit false
set_option maxHeartbeats 4000000
namespace Dn
open PySem L2 Evl PySem.Spec PyProof.Rows
section
variable {X : Cx} {a : Expr} {fa : DE} {pos p : Pos}
def dLenSetL (fa : DE) : DE := fun ρ Q => fa ρ fun z ρ1 => ∃ ns : List Int, z = .list (ns.map PyData.int) ∧ ns.length ≤ 4000 ∧ ∀ n : Nat, n ≤ ns.length → (n = ns.length ↔ ns.Nodup) → Q (.int n) ρ1
end
end Dn
set_option Elab.async false
set_option linter.all false
set_option maxRecDepth 100000
set_option autoImplicit false
set_option maxHeartbeats 4000000
namespace Dn
open PySem L2 Evl Cq PyProof.Rows
section
variable {X : Cx} {e : Expr} {fe : DE} {pos : Pos}
def xRng (fe : DE) : DX := fun ρ Q => fe ρ fun d ρ1 => ∃ j : Int, d = .int j ∧ Q (.ow (.rng j)) ρ1
end
end Dn
set_option Elab.async false
set_option linter.all false
set_option maxRecDepth 100000
set_option autoImplicit false
set_option maxHeartbeats 4000000
namespace Dn
open PySem L2 Evl PySem.Spec PyProof.Rows
section
variable {X : Cx} {o b : Expr} {pos ps : Pos}
def dStrI : List D → (D → Prop) → Prop
  | [.int i] => fun Q => i.natAbs.log2 < 1920 ∧ Q (.str (toString i))
  | _ => fun _ => False
end
end Dn
set_option Elab.async false
set_option linter.all false
set_option maxRecDepth 100000
set_option autoImplicit false
set_option maxHeartbeats 4000000
namespace Dn
open PySem L2 Evl PySem.Spec PyProof.Rows
def sPar3 (i j k : Nat) (f g : DE) (h : DX) : DS := fun E ρ => f ρ fun d1 ρ1 => g ρ1 fun d2 ρ2 => h ρ2 fun s3 ρ3 => E.nx (((ρ3.set i (some (.im d1))).set j (some (.im d2))).set k (some s3))
section
variable {X : Cx} {a b c : Expr} {pos : Pos} {x y z : Str}
end
end Dn
set_option Elab.async false
set_option linter.all false
set_option maxRecDepth 100000
set_option autoImplicit false
set_option maxHeartbeats 4000000
namespace Dn
open PySem L2 Evl PySem.Spec PyProof.Rows
section
variable {X : Cx} {a : Expr} {fa : DE} {pos p : Pos}
def dLenSet2 (fa : DE) : DE := fun ρ Q => fa ρ fun z ρ1 => ∃ ns : List Int, z = .tuple (ns.map PyData.int) ∧ ns.length ≤ 4000 ∧ ∀ n : Nat, n ≤ ns.length → (n = ns.length ↔ ns.Nodup) → Q (.int n) ρ1
end
end Dn
set_option Elab.async false
set_option linter.all false
set_option maxRecDepth 100000
set_option autoImplicit false
set_option maxHeartbeats 4000000
namespace Dn
open PySem PySem.W PySem.Calls L2 Evl PySem.Spec PyProof.Rows SrL
section
open SrtO Srt
variable {prog : Program} {w : World} {A : Around} {E : Value → Shared → Prop} {s : Shared}
theorem sorted_via {r : Addr} {vs : List Value} {ltv : Value → Value → Bool} {Q : Value → Shared → Prop} (Ow : Swo ltv) (hz : vs.length ≤ sizeLine)
    (hcol : ∀ R : List Value → Shared → Prop, (∀ (g : Heap) (tk : Nat), (∀ b o, s.heap.get? b = some o → g.get? b = some o) → R vs { s with heap := g, toks := tk }) → wpAny (model prog w) A.in1 (collect (.ref r)) R E s)
    (hS : 2 ≤ vs.length → ∀ (g : Heap) (tk : Nat) (a : Addr), g.get? a = some (seqObj "list" vs.toArray 0) → (∀ b o, s.heap.get? b = some o → b ≠ a ∧ g.get? b = some o) → SortableO prog w A.in1.in1 { s with heap := g, toks := tk } a vs ltv)
    (h : ∀ (g : Heap) (tk : Nat) (d : Addr) (out : List Value), Srtd ltv out → Stb ltv out vs → (∀ b o, s.heap.get? b = some o → g.get? b = some o) → s.heap.get? d = none → (∃ n, g.get? d = some (seqObj "list" out.toArray n)) → Q (.ref d) { s with heap := g, toks := tk }) :
    wpAny (model prog w) A (call (.builtin "sorted") [.ref r]) Q E s := by
  refine call_function_entry kind_sorted plain_sorted entry_sorted (args_sorted1 _) ?body
  unfold Builtin.«sorted»
  refine wpAny_bind (m := checkCount "sorted" 1 1 _) (wpAny_pure (wpAny_bind (hcol _ fun g tk k1 => wpAny_bind (wpAny_newList ?_ hz))))
  have lg : (g.push (seqObj "list" vs.toArray 0)).get? g.objs.size = some (seqObj "list" vs.toArray 0) := Heap.get?_push_size _ rfl
  have keep : ∀ b o, s.heap.get? b = some o → b ≠ g.objs.size ∧ (g.push (seqObj "list" vs.toArray 0)).get? b = some o := fun b o q => ⟨Nat.ne_of_lt (Heap.lt_size (k1 b o q)), Heap.get?_push_of_some _ (k1 b o q)⟩
  have hno : s.heap.get? g.objs.size = none := by
    cases z : s.heap.get? g.objs.size with
    | none => rfl
    | some o => exact absurd rfl (keep _ _ z).1
  show wpAny _ _ _ _ _ { s with heap := g.push (seqObj "list" vs.toArray 0), toks := tk }
  refine wpAny_bind (wpAny_holding (wpAny_call_entry slot_list_sort ⟨_, lg, rfl⟩ entry_list_sort (list_sort_ord Ow lg hz (fun h2 => hS h2 _ _ _ lg keep) fun out s1 s2 => ⟨_, rfl, ?fin⟩) (args_list_sort _)))
  obtain ⟨n, hn⟩ := PyProof.Rows.sortedHeap_at (vs := vs) (out := out.toArray) lg
  exact wpAny_pure ⟨_, rfl, h _ tk g.objs.size out s1 s2 (fun b o q => (PyProof.Rows.sortedHeap_old (keep b o q).1 (Heap.lt_size (keep b o q).2)).trans (keep b o q).2) hno ⟨n, hn⟩⟩
end
def ksOf (ns : List Int) : List Key := ns.map Sum.inl
theorem ks_kV (ns : List Int) : (ksOf ns).map kV = ns.map V.int := by
  unfold ksOf
  rw [List.map_map]
  rfl
theorem ks_inj : ∀ {a b : List Int}, ksOf a = ksOf b → a = b
  | [], [], _ => rfl
  | [], _ :: _, e => by simp [ksOf] at e
  | _ :: _, [], e => by simp [ksOf] at e
  | x :: a, y :: b, e => by
    simp only [ksOf, List.map_cons, List.cons.injEq, Sum.inl.injEq] at e
    rw [e.1, ks_inj (a := a) (b := b) e.2]
def adV : Value → Addr
  | .ref a => a
  | _ => 0
theorem vals_ad : ∀ {us : List Value}, (∀ u, u ∈ us → ∃ a, u = Value.ref a) → Vals (us.map fun u => V.ref (adV u)) us
  | [], _ => .nil
  | u :: us, h => by
    obtain ⟨a, rfl⟩ := h u List.mem_cons_self
    exact .cons (show RelV (.ref a) (.ref a) from rfl) (vals_ad fun y hy => h y (List.mem_cons_of_mem _ hy))
end Dn
set_option Elab.async false
set_option linter.all false
set_option maxRecDepth 100000
set_option autoImplicit false
set_option maxHeartbeats 4000000
namespace Dn
open PySem PySem.W PySem.Calls L2 Evl PySem.Spec PyProof.Rows SrL
section
variable {Kk : Type} [DecidableEq Kk]
theorem storedAll_new : ∀ (ps acc : List (Kk × Addr × Value)), ((acc ++ ps).map (·.1)).Nodup → storedAllH acc ps = acc ++ ps
  | [], acc, _ => by simp [storedAllH]
  | p :: ps, acc, h => by
    have hno : atKey acc p.1 = none := by
      unfold atKey
      rw [Option.map_eq_none_iff, List.find?_eq_none]
      intro x hx
      simp only [decide_eq_true_eq]
      intro e
      rw [List.map_append, List.nodup_append] at h
      exact h.2.2 x.1 (List.mem_map.mpr ⟨x, hx, rfl⟩) p.1 (by simp) e
    have e : storedAllH acc (p :: ps) = storedAllH (acc ++ [p]) ps := by
      show ps.foldl _ (storedH acc p.1 p.2.1 p.2.2) = _
      rw [storedH_new hno]
      rfl
    rw [e, storedAll_new ps (acc ++ [p]) (by simpa using h)]
    simp
end
theorem pairs_zip {α β γ δ : Type} {R : γ → δ → Prop} {f : α → γ} {g : α × β → δ} : ∀ {ts : List α} {vs : List β}, vs.length = ts.length → (∀ (j : Nat) (t : α) (v : β), ts[j]? = some t → vs[j]? = some v → R (f t) (g (t, v))) → Paired R (ts.map f) ((ts.zip vs).map g)
  | [], [], _, _ => .nil
  | [], _ :: _, h, _ => by simp at h
  | _ :: _, [], h, _ => by simp at h
  | t :: ts, v :: vs, h, k => .cons (k 0 t v rfl rfl) (pairs_zip (by simpa using h) fun j t' v' e1 e2 => k (j + 1) t' v' (by simpa using e1) (by simpa using e2))
end Dn
set_option Elab.async false
set_option linter.all false
set_option maxRecDepth 100000
set_option autoImplicit false
set_option maxHeartbeats 4000000
namespace Dn
open PySem L2 Evl PySem.Spec PyProof.Rows SrL
def valT (kvs : List (List Int × D)) (k : List Int) : Option D := (kvs.find? fun kv => decide (kv.1 = k)).map (·.2)
def putT (kvs : List (List Int × D)) (k : List Int) (d : D) : List (List Int × D) :=
  if (kvs.any fun kv => decide (kv.1 = k)) = true then kvs.map (fun kv => if kv.1 = k then (kv.1, d) else kv) else kvs ++ [(k, d)]
abbrev KtRp (K : PySem.W.Frag) (G : Hp) (kvs : List (List Int × D)) (kws : List (List Key × V)) : Prop := Paired (fun (p : List Int × D) (q : List Key × V) => p.1.map Sum.inl = q.1 ∧ Rp K G q.2 p.2) kvs kws
theorem ks_iff {a b : List Int} {k : List Key} (h : a.map Sum.inl = k) : a = b ↔ k = ksOf b := ⟨fun e => by rw [← h, e]; rfl, fun e => ks_inj (h.trans e)⟩
theorem KtRp.len {K : PySem.W.Frag} {G : Hp} {kvs : List (List Int × D)} {kws : List (List Key × V)} (h : KtRp K G kvs kws) : kvs.length = kws.length := Paired.length h
theorem KtRp.val {K : PySem.W.Frag} {G : Hp} {kvs : List (List Int × D)} {kws : List (List Key × V)} (h : KtRp K G kvs kws) (k : List Int) : (valT kvs k = none ∧ valV kws (ksOf k) = none) ∨ ∃ d v, valT kvs k = some d ∧ valV kws (ksOf k) = some v ∧ Rp K G v d := by
  induction h with
  | nil => exact .inl ⟨rfl, rfl⟩
  | @cons p q ps qs r t ih =>
    by_cases z : p.1 = k
    · refine .inr ⟨p.2, q.2, by simp [valT, List.find?_cons, z], valV_pos ((ks_iff r.1).1 z), r.2⟩
    · have z2 : ¬ q.1 = ksOf k := fun w => z ((ks_iff r.1).2 w)
      rw [valV_neg z2]
      have : valT (p :: ps) k = valT ps k := by simp [valT, List.find?_cons, z]
      rw [this]
      exact ih
theorem KtRp.any {K : PySem.W.Frag} {G : Hp} {kvs : List (List Int × D)} {kws : List (List Key × V)} (h : KtRp K G kvs kws) (k : List Int) : (kvs.any fun kv => decide (kv.1 = k)) = (kws.any fun kv => decide (kv.1 = ksOf k)) := by
  induction h with
  | nil => rfl
  | @cons p q ps qs r t ih => simp only [List.any_cons, ih, ks_iff r.1]
theorem KtRp.rep {K : PySem.W.Frag} {G : Hp} {kvs : List (List Int × D)} {kws : List (List Key × V)} (h : KtRp K G kvs kws) (k : List Int) {v : V} {d : D} (r : Rp K G v d) : KtRp K G (kvs.map fun kv => if kv.1 = k then (kv.1, d) else kv) (kws.map fun kv => if kv.1 = ksOf k then (kv.1, v) else kv) := by
  induction h with
  | nil => exact .nil
  | @cons p q ps qs s t ih =>
    refine .cons ?_ ih
    dsimp only
    by_cases z : p.1 = k
    · rw [if_pos z, if_pos ((ks_iff s.1).1 z)]
      exact ⟨s.1, r⟩
    · rw [if_neg z, if_neg (fun w => z ((ks_iff s.1).2 w))]
      exact s
theorem KtRp.add {K : PySem.W.Frag} {G : Hp} {kvs : List (List Int × D)} {kws : List (List Key × V)} (h : KtRp K G kvs kws) (k : List Int) {v : V} {d : D} (r : Rp K G v d) : KtRp K G (kvs ++ [(k, d)]) (kws ++ [(ksOf k, v)]) := by
  induction h with
  | nil => exact .cons ⟨rfl, r⟩ .nil
  | cons s t ih => exact .cons s ih
theorem KtRp.put {K : PySem.W.Frag} {G : Hp} {kvs : List (List Int × D)} {kws : List (List Key × V)} (h : KtRp K G kvs kws) (k : List Int) {v : V} {d : D} (r : Rp K G v d) : KtRp K G (putT kvs k d) (putK kws (ksOf k) v) := by
  unfold putT putK
  rw [h.any k]
  split
  · exact h.rep k r
  · exact h.add k r
def atT (ρ : Env) (i : Nat) : Option (List (List Int × D)) := match ρ[i]? with
  | some (some (.ow (.dtu kvs))) => some kvs
  | _ => none
theorem atT_some {ρ : Env} {i : Nat} {kvs : List (List Int × D)} (h : atT ρ i = some kvs) : ρ[i]? = some (some (SV.ow (.dtu kvs))) := by
  unfold atT at h
  split at h
  · cases h; assumption
  · cases h
theorem RS.atT {K : PySem.W.Frag} (nk : ¬ KT K) {T : Addr → Prop} {ρ : Env} {σ : L2.St} {H : Hp} {i : Nat} {kvs : List (List Int × D)} (r : RS K T ρ σ H) (h : Dn.atT ρ i = some kvs) : ∃ q kws, ρ[i]? = some (some (SV.ow (.dtu kvs))) ∧ σ[i]? = some (some (V.ref q)) ∧ H q = some (.dT kws) ∧ KtRp K (hide (Hd T ρ σ) H) kvs kws := by
  have hm := atT_some h
  obtain ⟨q, o, h1, h2, h3⟩ := r.ow i _ hm
  cases o with
  | dT kws => exact ⟨q, kws, hm, h1, h2, h3.2⟩
  | ext φ =>
    obtain ⟨_, _, h4, _⟩ := h3
    exact absurd h4.1 nk
  | _ => exact h3.elim
section
variable {X : Cx} {a b c e : Expr} {fa fb fc : DE} {pos p : Pos} {es : List Expr} {x y : Str}
def dInT (neg : Bool) (i : Nat) (fb : DE) : DE := fun ρ Q => fb ρ fun y ρ1 => ∃ kvs k, atT ρ1 i = some kvs ∧ y = .tuple (k.map PyData.int) ∧ Q (.bool (if neg then !(valT kvs k).isSome else (valT kvs k).isSome)) ρ1
def sPutT (i : Nat) (fi fe : DE) : DS := fun E ρ => fe ρ fun d ρ1 => (atT ρ1 i).isSome = true ∧ fi ρ1 fun y ρ2 => ∃ kvs k, atT ρ2 i = some kvs ∧ y = .tuple (k.map PyData.int) ∧ kvs.length < sizeLine ∧ E.nx (ρ2.set i (some (.ow (.dtu (putT kvs k d)))))
def lSortDT (i : Nat) : DL := fun ρ Q => ∃ kvs, atT ρ i = some kvs ∧ (2 ≤ kvs.length → ∀ p, p ∈ kvs → p.1 ≠ []) ∧ ∀ L : List (List Int), L.Perm (kvs.map (·.1)) → (L.Pairwise fun a b => lx b a = false) → Q (L.map tI0) ρ
end
end Dn
set_option Elab.async false
set_option linter.all false
set_option maxRecDepth 100000
set_option autoImplicit false
set_option maxHeartbeats 4000000
namespace Dn
open PySem L2 Evl PySem.Spec PyProof.Rows SrL SrtO
section
variable {X : Cx} {a b c e : Expr} {fa fb fc : DE} {pos p : Pos} {es : List Expr} {x y : Str}
def lSortT2 (fa : DE) : DL := fun ρ Q => fa ρ fun z ρ1 => ∃ L : List (List Int), z = .list (L.map tI0) ∧ (2 ≤ L.length → ∀ l, l ∈ L → l ≠ []) ∧ ∀ L' : List (List Int), L'.Perm L → (L'.Pairwise fun a b => lx b a = false) → Q (L'.map tI0) ρ1
def dPop (i : Nat) : DE := fun ρ Q => ∃ ds d, atO ρ i = some (ds ++ [d]) ∧ Q d (setO ρ i ds)
theorem je_pop {i : Nat} {px pa pc : Pos} (hN : X.N[i]? = some x) (hv : Vis X.env.scope x) (hd : (x == ("__debug__" : Str)) = false := by decide) (hcd : (x == ("__classdict__" : Str)) = false := by decide)
    (hbase : attributeBase (.Name x px) "pop" X.env (eval (.Name x px) X.env) = eval (.Name x px) X.env := by rfl) (hline : (pa.endLine == pc.line) = true := by rfl) : JE X (.Call (.Attribute (.Name x px) "pop" pa) [] [] pc) (dPop i) := by
  refine ⟨_, pe_bm0 PySem.F.plainAttrs_list PySem.F.slot_list_pop PySem.F.type_list_pop mt_pop (pe_var hN hv hd hcd) hbase hline, fun T ρ σ H QD Q r h q => ?_⟩
  obtain ⟨ds, d, h0, h⟩ := h
  obtain ⟨m, l, vs, hm, hl, ho, hr⟩ := r.atO h0
  obtain ⟨u, hu, ru⟩ := hr.get (i := ds.length) (d := d) (by simp)
  have hlen := hr.length
  rw [List.length_append] at hlen
  have hr2 : RpAll X.K (hide (Hd T ρ σ) H) vs.dropLast ds := by
    have := hr.dropLast
    simpa using this
  obtain ⟨r3, q3⟩ := r.setO hm hl hr2
  refine ⟨_, hl, .inl ⟨rfl, _, .inl (.inl ho)⟩, l, vs, u, rfl, rfl, ho, ?_, q _ _ _ _ r3 q3 (ru.monoW q3.fz) h⟩
  rw [show vs.length - 1 = ds.length by simp at hlen; omega]
  exact hu
end
end Dn
set_option Elab.async false
set_option linter.all false
set_option maxRecDepth 100000
set_option autoImplicit false
set_option maxHeartbeats 4000000
namespace Dn
open PySem L2 Evl PySem.Spec PyProof.Rows SrL
section
variable {X : Cx} {a b c e : Expr} {fa fb fc : DE} {pos p : Pos} {es : List Expr} {x y : Str}
def xDctT1 (fk fv : DE) : DX := fun ρ Q => fk ρ fun y ρ1 => fv ρ1 fun d ρ2 => ∃ k : List Int, y = .tuple (k.map PyData.int) ∧ Q (.ow (.dtu [(k, d)])) ρ2
def pairD (q : List Int × D) : D := .tuple [.tuple (q.1.map PyData.int), q.2]
def xDctOf (f : DL) : DX := fun ρ Q => f ρ fun ds ρ1 => ∃ kvs : List (List Int × D), ds = kvs.map pairD ∧ (kvs.map (·.1)).Nodup ∧ Q (.ow (.dtu kvs)) ρ1
end
end Dn
set_option Elab.async false
set_option linter.all false
set_option maxRecDepth 100000
set_option autoImplicit false
set_option maxHeartbeats 4000000
namespace Dn
open PySem L2 Evl PySem.Spec PyProof.Rows SrL
section
variable {X : Cx} {a b c e : Expr} {fa fb fc : DE} {pos p : Pos} {es : List Expr} {x y : Str} {k : Nat} {f : Addr} {fd : FuncData} {ps : List Str} {n : Nat}
def dBinR (i : Nat) (op : D → D → (D → Prop) → Prop) (fb : DE) : DE := fun ρ Q => fb ρ fun y ρ1 => match ρ1[i]? with
  | some (some (.ow (.lst ds))) => op y (.list ds) fun z => isSc z = true ∧ Q z ρ1
  | _ => False
theorem jt_cmpR {op : D → D → (D → Prop) → Prop} {i : Nat} {y : Str} {py : Pos} {o : CmpOp} (ho : OpD X (compareOp o) op) (hN : X.N[i]? = some y) (hy : Vis X.env.scope y) (hb : JE X b fb) (hm : behindInMarks o (.Name y py) = false)
    (hd : (y == ("__debug__" : Str)) = false := by decide) (hcd : (y == ("__classdict__" : Str)) = false := by decide) : JT X (.Compare b [o] [.Name y py] pos) (dTst (dBinR i op fb)) := by
  obtain ⟨r, h1, h2⟩ := ho.ex
  obtain ⟨tb, pb, kb⟩ := hb.ex
  refine ⟨_, pt_cmpR h1 pb (pe_var hN hy hd hcd) hm, fun T ρ σ H QD Q r h q => kb T ρ σ H _ _ r h fun d ρ1 v H1 r1 p1 v1 h => ?_⟩
  split at h
  · rename_i ds e1
    have rf := r1.freeze e1
    obtain ⟨u, hu, ru⟩ := rf.im i (.list ds) (List.getElem?_set_self (List.getElem?_eq_some_iff.mp e1).1)
    refine ⟨u, hu, h2 _ H1 _ _ _ _ _ _ (fun a => rf.hdDom) (v1.mono hd_freeze) ru h fun z w H' e v2 h => ?_⟩
    cases v2 with
    | bl b => exact ⟨b, rfl, q _ _ _ (r1.grow e) (p1.trans (.grow e)) h.2⟩
    | _ => exact False.elim h.2
  · exact False.elim h
def dCallMO (i j : Nat) (S : List D → List D → (D → List D → Prop) → Prop) : DE := fun ρ Q => i ≠ j ∧ ∃ ms L, atO ρ i = some ms ∧ ρ[j]? = some (some (.ow (.lst L))) ∧ S ms [.list L] fun d ms' => NL d ∧ (∀ e, e ∈ ms' → NL e) ∧ Q d (setO ρ i ms')
end
end Dn
set_option Elab.async false
set_option linter.all false
set_option maxRecDepth 100000
set_option autoImplicit false
set_option maxHeartbeats 4000000
namespace Dn
open PySem L2 Evl PySem.Spec PyProof.Rows SrL
def NS : MO → Prop
  | .lst ds => ∀ d, d ∈ ds → NL d
  | .par _ m => NS m
  | .rng _ => True
  | _ => False
def NSs (ρ : Env) (i : Nat) : Prop := ∀ (j : Nat) (sv : SV), j ≠ i → ρ[j]? = some (some sv) → match sv with
  | .im d => NL d
  | .ow m => NS m
def dKeep (i : Nat) (f : DT) : DT := fun ρ Q => ∃ ds, ρ[i]? = some (some (.ow (.lst ds))) ∧ (∀ d, d ∈ ds → NL d) ∧ f (ρ.set i (some (.im (.list ds)))) fun b ρ1 => i < ρ1.length ∧ NSs ρ1 i ∧ Q b (ρ1.set i (some (.ow (.lst ds))))
end Dn
set_option Elab.async false
set_option linter.all false
set_option maxRecDepth 100000
set_option autoImplicit false
set_option maxHeartbeats 4000000
namespace Dn
open PySem L2 Evl PySem.Spec PyProof.Rows
theorem obL_inj {nm nm' : Str} {es es' : List (Str × D)} (h : obL nm es = obL nm' es') : nm = nm' ∧ es = es' := by
  unfold obL at h
  simp only [List.cons.injEq, Prod.mk.injEq, and_true, true_and, PyData.tuple.injEq, PyData.str.injEq] at h
  refine ⟨h.1, ?_⟩
  have h2 := h.2
  clear h
  induction es generalizing es' with
  | nil => cases es' with
    | nil => rfl
    | cons => simp at h2
  | cons p es ih =>
    cases es' with
    | nil => simp at h2
    | cons q es' =>
      simp only [List.map_cons, List.cons.injEq, PyData.tuple.injEq, PyData.str.injEq, and_true] at h2
      obtain ⟨⟨a, b⟩, c⟩ := h2
      rw [ih c]
      congr 1
      exact Prod.ext a b
section
variable {K : PySem.W.Frag} {G : Hp}
theorem obj_rp {v : V} {nm : Str} {es : List (Str × D)} (r : Rp K G v (obD nm es)) : ∃ a dx fs, v = .ref a ∧ ObjC K (adrOf K nm) ∧ G a = some (.ins (adrOf K nm) dx fs) ∧ RpFs K G fs es := by
  generalize e : obD nm es = d at r
  cases r with
  | ins o h r z =>
    injection e with e
    rw [z] at e
    obtain ⟨rfl, rfl⟩ := obL_inj e
    exact ⟨_, _, _, rfl, o, h, r⟩
  | dct _ _ z =>
    injection e with e
    rw [z] at e
    rename_i kvs _ _ _
    cases kvs with
    | nil => cases e
    | cons p r => obtain ⟨k, d⟩ := p; cases k <;> cases e
  | frz _ _ => cases e
  | _ => cases e
theorem RpFs.look {f : Str} {d : D} : ∀ {fs : List (Str × V)} {es : List (Str × D)}, RpFs K G fs es → es.lookup f = some d → ∃ v, fs.lookup f = some v ∧ Rp K G v d
  | _, _, .nil, h => by cases h
  | _, _, .cons (k := k) (v := v) r rs, h => by
    by_cases e : f = k
    · subst e
      rw [List.lookup_cons_self] at h ⊢
      cases h
      exact ⟨_, rfl, r⟩
    · rw [List.lookup_cons, show (f == k) = false from by simpa using e] at h ⊢
      exact RpFs.look rs h
theorem RpFs.lookN {f : Str} : ∀ {fs : List (Str × V)} {es : List (Str × D)}, RpFs K G fs es → es.lookup f = none → fs.lookup f = none
  | _, _, .nil, _ => rfl
  | _, _, .cons (k := k) (v := v) r rs, h => by
    by_cases e : f = k
    · subst e
      rw [List.lookup_cons_self] at h
      cases h
    · rw [List.lookup_cons, show (f == k) = false from by simpa using e] at h ⊢
      exact RpFs.lookN rs h
def putE (f : Str) (d : D) : List (Str × D) → List (Str × D)
  | [] => [(f, d)]
  | (g, x) :: r => if g = f then (g, d) :: r else (g, x) :: putE f d r
theorem RpFs.put {f : Str} {v : V} {d : D} (h : Rp K G v d) : ∀ {fs : List (Str × V)} {es : List (Str × D)}, RpFs K G fs es → RpFs K G (putF f v fs) (putE f d es)
  | _, _, .nil => .cons h .nil
  | _, _, .cons (k := k) r rs => by
    unfold putF putE
    by_cases e : k = f
    · rw [if_pos e, if_pos e]; exact .cons h rs
    · rw [if_neg e, if_neg e]; exact .cons r (RpFs.put h rs)
theorem RpFs.length : ∀ {fs : List (Str × V)} {es : List (Str × D)}, RpFs K G fs es → fs.length = es.length
  | _, _, .nil => rfl
  | _, _, .cons _ r => by simp [RpFs.length r]
end
section
variable {X : Cx} {a b c e o : Expr} {fa fb fc fo : DE} {pos p apos : Pos} {es : List Expr} {x y m nm : Str} {k n : Nat} {g : DA}
def dFld (nm f : Str) (fa : DE) : DE := fun ρ Q => fa ρ fun d ρ1 => ∃ es v, d = obD nm es ∧ es.lookup f = some v ∧ Q v ρ1
theorem je_fld {f : Str} (hN : NoAttr X.K (adrOf X.K nm) f) (ha : JE X a fa) (hb : attributeBase a f X.env (eval a X.env) = eval a X.env := by rfl) : JE X (.Attribute a f pos) (dFld nm f fa) := by
  obtain ⟨t, pa, ka⟩ := ha.ex
  refine ⟨_, pe_fld pa hb, fun T ρ σ H QD Q r h q => ka T ρ σ H _ _ r h fun d ρ1 v H1 r1 p1 v1 h => ?_⟩
  obtain ⟨es, d', rfl, hl, hq⟩ := h
  obtain ⟨l, dx, fs, rfl, ob, hg, rf⟩ := obj_rp v1
  obtain ⟨u, hu, ru⟩ := rf.look hl
  exact ⟨l, _, dx, fs, u, rfl, (hide_some.1 hg).2, ob.cls, hN, hu, q d' ρ1 u H1 r1 p1 ru hq⟩
def OkM (P : Program) (w : World) (K : PySem.W.Frag) (mg : Str → Option Value) (base : Heap) (C : Addr) (m : Str) (ps : List Str) (k : Nat) (sp : Sp) : Prop :=
  ∃ f fd, FnOk P w K mg base L2.CX0 k f fd ps sp ∧ Meth K C m f ∧ Binds K fd ps []
def OkP (P : Program) (w : World) (K : PySem.W.Frag) (mg : Str → Option Value) (base : Heap) (C : Addr) (m : Str) (k : Nat) (sp : Sp) : Prop :=
  ∃ p g fd, PropOf K C m p g ∧ FnOk P w K mg base L2.CX0 k g fd ["self"] sp ∧ Binds K fd ["self"] []
def dMeth (n : Nat) (nm m : Str) (S : List D → (D → Prop) → Prop) (fo : DE) (g : DA) : DE := fun ρ Q => fo ρ fun d ρ1 => ∃ es, d = obD nm es ∧ es.lookup m = none ∧ g ρ1 fun ds ρ2 => ds.length + 1 = n ∧ S (d :: ds) fun z => Q z ρ2
theorem never {CX : CXT} {X : Cx} : Passes L2.CX0 X (fun _ _ _ => False) := fun _ _ _ _ _ _ _ h => h.elim
theorem je_meth {S : List D → (D → Prop) → Prop} {ps : List Str} {pl : Sem Bool} (O : OkM X.prog X.w X.K X.mg X.base (adrOf X.K nm) m ps k (spD X.K n S)) (hc : Cls X.K (adrOf X.K nm)) (hr : Room k X.A) (ho : JE X o fo) (ha : JA X (e :: es) g)
    (hst : starEach (e :: es) X.env = (false, eval e X.env) :: starEach es X.env := by rfl) (hpl : (backTo pos (starEach es X.env)).any (·.1) = false := by rfl)
    (ht : eval (.Call (.Attribute o m apos) (e :: es) [] pos) X.env = (do
      let ov ← eval o X.env
      standAt apos.atName
      let (f, first) ← holding [ov] (getMethod ov m pl)
      callWith pos f first (backTo pos (starEach (e :: es) X.env)) (backToKw pos (keywordEach [] X.env))) := by rfl) : JE X (.Call (.Attribute o m apos) (e :: es) [] pos) (dMeth n nm m S fo g) := by
  obtain ⟨f, fd, F, M, B⟩ := O
  obtain ⟨to, po, ko⟩ := ho.ex
  obtain ⟨t, pa, ka⟩ := ha.ex
  refine ⟨_, pe_meth (E := fun _ _ _ => False) po hc M F hr B .nil (fun _ _ _ _ _ _ _ h => h.elim) pa hst hpl ht, fun T ρ σ H QD Q r h q => ko T ρ σ H _ _ r h fun d ρ1 v H1 r1 p1 v1 h => ?_⟩
  obtain ⟨es', rfl, hl, h⟩ := h
  obtain ⟨l, dx, fs, rfl, ob, hg, rf⟩ := obj_rp v1
  refine ⟨l, dx, fs, rfl, (hide_some.1 hg).2, rf.lookN hl, ka T ρ1 σ H1 _ _ r1 h fun ds ρ2 vs H2 r2 p2 v2 h => ?_⟩
  rw [List.append_nil]
  exact spD_of r2 (p1.trans p2) (.cons (v1.monoW p2.fz) v2) (by simpa using h.1) h.2 q
theorem je_meth0 {S : List D → (D → Prop) → Prop} {ps : List Str} {pl : Sem Bool} (O : OkM X.prog X.w X.K X.mg X.base (adrOf X.K nm) m ps k (spD X.K n S)) (hc : Cls X.K (adrOf X.K nm)) (hr : Room k X.A) (ho : JE X o fo)
    (ht : eval (.Call (.Attribute o m apos) [] [] pos) X.env = (do
      let ov ← eval o X.env
      standAt apos.atName
      let (f, first) ← holding [ov] (getMethod ov m pl)
      callWith pos f first (backTo pos (starEach [] X.env)) (backToKw pos (keywordEach [] X.env))) := by rfl) : JE X (.Call (.Attribute o m apos) [] [] pos) (dMeth n nm m S fo aNil) := by
  obtain ⟨f, fd, F, M, B⟩ := O
  obtain ⟨to, po, ko⟩ := ho.ex
  refine ⟨_, pe_meth0 (E := fun _ _ _ => False) po hc M F hr B .nil (fun _ _ _ _ _ _ _ h => h.elim) ht, fun T ρ σ H QD Q r h q => ko T ρ σ H _ _ r h fun d ρ1 v H1 r1 p1 v1 h => ?_⟩
  obtain ⟨es', rfl, hl, h⟩ := h
  obtain ⟨l, dx, fs, rfl, ob, hg, rf⟩ := obj_rp v1
  refine ⟨l, dx, fs, rfl, (hide_some.1 hg).2, rf.lookN hl, ?_⟩
  have h : _ ∧ _ := h
  exact spD_of (E := fun _ _ _ => False) (vs := [V.ref l]) r1 p1 (.cons v1 .nil) (by simpa using h.1) h.2 q
def dProp (nm : Str) (S : List D → (D → Prop) → Prop) (fo : DE) : DE := fun ρ Q => fo ρ fun d ρ1 => (∃ es, d = obD nm es) ∧ S [d] fun z => Q z ρ1
theorem je_prop {S : List D → (D → Prop) → Prop} {f : Str} (O : OkP X.prog X.w X.K X.mg X.base (adrOf X.K nm) f k (spD X.K 1 S)) (hc : Cls X.K (adrOf X.K nm)) (hr : Room (k + 1) X.A) (ho : JE X o fo)
    (hab : attributeBase o f X.env (eval o X.env) = eval o X.env := by rfl) : JE X (.Attribute o f pos) (dProp nm S fo) := by
  obtain ⟨pp, gg, fd, M, F, B⟩ := O
  obtain ⟨to, po, ko⟩ := ho.ex
  refine ⟨_, pe_prop (E := fun _ _ _ => False) po hc M F hr B .nil (fun _ _ _ _ _ _ _ h => h.elim) hab, fun T ρ σ H QD Q r h q => ko T ρ σ H _ _ r h fun d ρ1 v H1 r1 p1 v1 h => ?_⟩
  obtain ⟨⟨es', rfl⟩, h⟩ := h
  obtain ⟨l, dx, fs, rfl, ob, hg, rf⟩ := obj_rp v1
  refine ⟨l, dx, fs, rfl, (hide_some.1 hg).2, ?_⟩
  exact spD_of (E := fun _ _ _ => False) (vs := [V.ref l]) r1 p1 (.cons v1 .nil) rfl h q
def spI (K : PySem.W.Frag) (nm : Str) (n : Nat) (S : List D → (List (Str × D) → Prop) → Prop) : Sp := fun vs H Q _ => ∃ (T : Addr → Prop) (x dx : Addr) (us : List V) (ds : List D) (QD : List (Str × D) → Prop), vs = .ref x :: us ∧ us.length + 1 = n ∧ ObjC K (adrOf K nm) ∧
  (∀ a, T a → Lv H a) ∧ ¬ T x ∧ H x = some (.ins (adrOf K nm) dx []) ∧ RpAll K (hide (plus T x) H) us ds ∧ TbOk K H ∧ S ds QD ∧
  ∀ es fs dx' H', QD es → ExL K x H H' → H' x = some (.ins (adrOf K nm) dx' fs) → RpFs K (hide (plus T x) H') fs es → Q .non H'
def OkI (P : Program) (w : World) (K : PySem.W.Frag) (mg : Str → Option Value) (base : Heap) (nm : Str) (ps : List Str) (k : Nat) (sp : Sp) : Prop :=
  ∃ f fd, FnOk P w K mg base L2.CX0 k f fd ps sp ∧ L2.Mk K (adrOf K nm) f ∧ Binds K fd ps [] ∧ mg nm = some (.ref (adrOf K nm)) ∧ ObjC K (adrOf K nm)
theorem newE {K : PySem.W.Frag} {H H1 H' : Hp} {z : Addr} (kp : ExL K z H H') (hz : H1 z = none) (old : ∀ {a : Addr} {o : HO}, H1 a = some o → H a = some o) (tb : TbOk K H) : ExG K H1 H' :=
  ⟨⟨fun a o w nt => kp.k a o (fun u => by rw [u, hz] at w; cases w) (old w) nt, fun a w => by
    cases e : H1 a with
    | none => exact absurd e w
    | some o => exact kp.d a (by rw [old e]; simp)⟩, fun _ => kp.t tb⟩
def dNew (n : Nat) (nm : Str) (S : List D → (List (Str × D) → Prop) → Prop) (g : DA) : DE := fun ρ Q => g ρ fun ds ρ1 => ds.length + 1 = n ∧ S ds fun es => Q (obD nm es) ρ1
theorem je_new {S : List D → (List (Str × D) → Prop) → Prop} {ps : List Str} (O : OkI X.prog X.w X.K X.mg X.base x ps k (spI X.K x n S)) (hr : Room (k + 1) X.A) (ha : JA X (e :: es) g) (hg : Gl X x := by rfl)
    (hdb : (x == ("__debug__" : Str)) = false := by decide) (he : starEach (e :: es) X.env = (false, eval e X.env) :: starEach es X.env := by rfl) (hpl : (backTo pos (starEach es X.env)).any (·.1) = false := by rfl) : JE X (.Call (.Name x p) (e :: es) [] pos) (dNew n x S g) := by
  obtain ⟨f, fd, F, M, B, hm, oc⟩ := O
  obtain ⟨t, pa, ka⟩ := ha.ex
  refine ⟨_, pe_make (E := fun _ _ _ => False) M F hr hg hm B .nil (fun _ _ _ _ _ _ _ h => h.elim) pa hdb he hpl, fun T ρ σ H QD Q r h q => ka T ρ σ H _ _ r h fun ds ρ1 vs H1 r1 p1 v1 h => ?_⟩
  intro z dx hz hdx hne
  obtain ⟨hn, h⟩ := h
  rw [List.append_nil]
  have old : ∀ {a : Addr} {o : HO}, H1 a = some o → upd (upd H1 dx (.own z)) z (.ins (adrOf X.K x) dx []) a = some o := fun {a o} w => by
    rw [upd_ne (fun e => by rw [e, hz] at w; cases w), upd_ne (fun e => by rw [e, hdx] at w; cases w)]
    exact w
  have nz : ¬ Hd T ρ1 σ z := fun w => r1.hdDom w hz
  have tb0 : TbOk X.K (upd (upd H1 dx (.own z)) z (.ins (adrOf X.K x) dx [])) := r1.tb.keep fun b o _ w => old w
  have e1 : Ex (hide (Hd T ρ1 σ) H1) (hide (plus (Hd T ρ1 σ) z) (upd (upd H1 dx (.own z)) z (.ins (adrOf X.K x) dx []))) := fun a o w => by
    obtain ⟨w1, w2⟩ := hide_some.1 w
    refine hide_some.2 ⟨fun u => ?_, old w2⟩
    rcases u with u | u
    · rw [u, hz] at w2; cases w2
    · exact w1 u
  refine ⟨Hd T ρ1 σ, z, dx, vs, ds, _, rfl, by rw [v1.length, hn], oc, fun a w => (r1.hdLv w).keep fun o w => old w, nz, upd_same, v1.mono e1, tb0, h, fun es' fs dx' H' hq kp hx rf => ⟨rfl, ?_⟩⟩
  have e2 : ExG X.K H1 H' := newE kp hz (fun w => old w) tb0
  refine q (obD x es') ρ1 (.ref z) H' (r1.growE e2) (p1.trans (.growE e2)) (.ins oc (hide_some.2 ⟨nz, hx⟩) (rf.mono (hide_sub fun a w => .inr w)) rfl) hq
def sFldD (i : Nat) (nm f : Str) (fe : DE) : DS := fun E ρ => fe ρ fun d ρ1 => ∃ l es, ρ1[i]? = some (some (.ow (.par l (.obj nm es)))) ∧ es.length < 1000 ∧ E.nx (ρ1.set i (some (.ow (.par l (.obj nm (putE f d es))))))
theorem js_fld {i : Nat} {f : Str} {px pos' : Pos} (hN : X.N[i]? = some x) (hv : Vis X.env.scope x) (hA : NoAttr X.K (adrOf X.K nm) f) (he : JE X e fa) (hd : (x == ("__debug__" : Str)) = false := by decide) (hcd : (x == ("__classdict__" : Str)) = false := by decide)
    (hs : swapsWith e (some (.Attribute (.Name x px) f pos')) pos.line X.env = pure false := by rfl) : JS X (.Assign [.Attribute (.Name x px) f pos'] e pos) (sFldD i nm f fa) := by
  obtain ⟨t, pt, kt⟩ := he.ex
  refine ⟨_, ps_fld (pe_var hN hv hd hcd) pt hs, fun T ρ σ H E D r h k => kt T ρ σ H _ _ r h fun d ρ1 v H1 r1 p1 v1 h => ?_⟩
  obtain ⟨l, es', hi, hl, h⟩ := h
  obtain ⟨a, o, ha, ho, hr⟩ := r1.ow i _ hi
  have hr' : RpO X.K (hide (Hd T ρ1 σ) H1) (.obj nm es') o := by unfold RpO at hr; exact hr
  cases o with
  | ins C dx fs =>
    obtain ⟨rfl, ob, rf⟩ := (show C = adrOf X.K nm ∧ ObjC X.K C ∧ RpFs X.K _ fs es' from hr')
    refine ⟨_, ha, a, _, dx, fs, rfl, ho, ob.cls, hA, by rw [rf.length]; exact hl, ?_⟩
    have hp : RpO X.K (hide (Hd T ρ1 σ) H1) (.par l (.obj nm (putE f d es'))) (.ins (adrOf X.K nm) dx (putF f v fs)) := by
      unfold RpO
      exact ⟨rfl, ob, rf.put v1⟩
    have r3 := r1.write hi ha hp (fun q m1 z => by cases z; exact r1.tag i _ _ a hi ha)
    exact k.nx _ _ _ r3 (p1.trans (.write hi ha)) h
  | _ => exact False.elim hr'
end
end Dn
set_option Elab.async false
set_option linter.all false
set_option maxRecDepth 100000
set_option autoImplicit false
set_option maxHeartbeats 4000000
namespace OwnNe
open PySem PySem.W Builtin PyProof.Rows
section
variable {prog : Program} {w : World} {A : Around} {E : Value → Shared → Prop} {s : Shared} {K : Frag} {x C L f : Addr} {h₀ : Heap} {m : Str → Option Value} {ox : Obj} {od : Option Obj} {b tb : Value}
end
end OwnNe
namespace Dn
open PySem L2 Evl PySem.Spec PyProof.Rows
structure Slo (K : PySem.W.Frag) (C : Addr) (m : Str) (f : Addr) : Prop where
  at_ : PySem.W.findIn K (.ref C) m = some (some (.ref f))
  fn : PySem.W.isFn K (.ref f) = true
section
variable {X : Cx} {CX : CXT} {k : Nat} {C f : Addr} {sp : Sp} {E : XK}
end
end Dn
set_option Elab.async false
set_option linter.all false
set_option maxRecDepth 100000
set_option autoImplicit false
set_option maxHeartbeats 4000000
namespace Dn
open PySem L2 Evl PySem.Spec PyProof.Rows
def insN : D → Option Str
  | .dict [(.bool true, .tuple (.str nm :: _))] => some nm
  | _ => none
structure IsC (K : PySem.W.Frag) (C : Addr) : Prop where
  ic : (PySem.W.clsIn K C).isSome = true
  ty : PySem.W.typeIn K (.ref C) = some (.type "type")
def isTy : D → Bool
  | .dict [(.bool false, _)] => true
  | .dict [(.list _, _)] => true
  | _ => false
def clsOk (oth : List Str) (nm : Str) (d : D) : Option Bool := match insN d with
  | none => if isTy d = true then none else some false
  | some n => if n = nm then some true else if n ∈ oth then some false else none
section
variable {X : Cx} {a b c e o : Expr} {fa fb fc fo : DE} {pos p apos : Pos} {es : List Expr} {x y m nm : Str} {k n : Nat} {g : DA} {oth : List Str}
def dIsC (oth : List Str) (nm : Str) (fa : DE) : DE := fun ρ Q => fa ρ fun d ρ1 => ∃ b, clsOk oth nm d = some b ∧ Q (.bool b) ρ1
def OkS (P : Program) (w : World) (K : PySem.W.Frag) (mg : Str → Option Value) (base : Heap) (C : Addr) (m : Str) (k : Nat) (sp : Sp) : Prop :=
  ∃ f, Slo K C m f ∧ FnR P w K mg base L2.CX0 k f sp
end
end Dn
set_option Elab.async false
set_option linter.all false
set_option maxRecDepth 100000
set_option autoImplicit false
set_option maxHeartbeats 4000000
namespace Dn
open PySem L2 Evl PySem.Spec PyProof.Rows
section
variable {X : Cx} {a b c e o : Expr} {fa fb fc fo : DE} {pos p apos : Pos} {es : List Expr} {x y m nm : Str} {k n : Nat} {g : DA} {oth : List Str}
def dEqI (oth : List Str) (nm : Str) (S : List D → (D → Prop) → Prop) (ng : Bool) (fa fb : DE) : DE := fun ρ Q => fa ρ fun d ρ1 => fb ρ1 fun e ρ2 => (∃ es, d = obD nm es) ∧ (∃ b, clsOk oth nm e = some b) ∧ S [d, e] fun z => ∃ b, z = .bool b ∧ Q (.bool (b ^^ ng)) ρ2
def dLenI (nm : Str) (S : List D → (D → Prop) → Prop) (fa : DE) : DE := fun ρ Q => fa ρ fun d ρ1 => (∃ es, d = obD nm es) ∧ S [d] fun z => ∃ n : Nat, z = .int n ∧ n < 2 ^ 63 ∧ Q (.int n) ρ1
def dStrO (nm : Str) (S : List D → (D → Prop) → Prop) (fa : DE) : DE := fun ρ Q => fa ρ fun d ρ1 => (∃ es, d = obD nm es) ∧ S [d] fun z => ∃ x, z = .str x ∧ Q (.str x) ρ1
def dFmt (fa : DE) : DE := fun ρ Q => fa ρ fun d ρ1 => ∃ i : Int, d = .int i ∧ i.natAbs.log2 < 1920 ∧ Q (.str (toString i)) ρ1
def dJs : List DE → Str → Env → (Str → Env → Prop) → Prop
  | [], acc, ρ, Q => Q acc ρ
  | f :: fs, acc, ρ, Q => f ρ fun d ρ1 => ∃ y : Str, d = .str y ∧ (acc ++ y).length ≤ sizeLine ∧ dJs fs (acc ++ y) ρ1 Q
def dJoin (fs : List DE) : DE := fun ρ Q => dJs fs Str.empty ρ fun y ρ1 => Q (.str y) ρ1
end
section
variable {P : Program} {w : World} {K : PySem.W.Frag} {mg : Str → Option Value} {base : Heap} {C : Addr} {st : Stmt} {N ps : List Str} {m q nm : Str} {k : Nat}
def IsM (K : PySem.W.Frag) (C : Addr) (m q : Str) (st : Stmt) : Prop := ∃ f fd, FunD K m q (defArgs st) (defBody st) (defScope st) [] [] f fd ∧ Meth K C m f
abbrev BindsM (m q : Str) (st : Stmt) (ps : List Str) : Prop := ∀ (kV doc pm : Value) (an : Option Addr) (cdv ct : Value) (us : List Value), us.length = ps.length → bindArgs (PySem.W.fnOf m q (defArgs st) (defBody st) (defScope st) .none kV doc pm an cdv ct) ⟨us, []⟩ = pure (ps.zip us)
theorem ok_mD {S : List D → (D → Prop) → Prop} {g : DS} (F : IsM K C m q st) (Sc : FnScope N ps (defScope st)) (bs : BindsM m q st ps) (hb : BodyCx P w K mg base q st N k fun X => JSs X (defBody st) g)
    (hS : ∀ (ds : List D) (Q : D → Prop), ds.length = ps.length → S ds Q → g { nx := fun _ => Q .none, rt := fun d _ => Q d } (envD ds (N.length - ps.length))) : OkM P w K mg base C m ps (k + 1) (spD K ps.length S) := by
  obtain ⟨f, fd, F, hm⟩ := F
  exact ⟨f, fd, fn_D F Sc (fun cdv A outer s H E hr => hb f cdv A outer s H E hr) hS, hm, F.bindsN bs⟩
theorem OkM.slot {sp : Sp} (h : OkM P w K mg base C m ps k sp) : OkS P w K mg base C m k sp := by
  obtain ⟨f, fd, F, M, B⟩ := h
  refine ⟨f, ⟨M.at_, M.fn⟩, ?_⟩
  have := FnOk.raw F B .nil
  exact FnR.imp this fun vs H Q E z => by simpa using z
end
end Dn
set_option Elab.async false
set_option linter.all false
set_option maxRecDepth 100000
set_option autoImplicit false
set_option maxHeartbeats 4000000
namespace Dn
open PySem L2 Evl PySem.Spec PyProof.Rows
section
variable {P : Program} {w : World} {K : PySem.W.Frag} {mg : Str → Option Value} {base : Heap} {C : Addr} {st : Stmt} {N ps : List Str} {m q nm : Str} {k : Nat} {f : Addr} {fd : FuncData}
theorem fn_I {name qual : Str} {params : Arguments} {body : List Stmt} {scope : Scope} {S : List D → (List (Str × D) → Prop) → Prop} {g : DS} (F : FunD K name qual params body scope [] [] f fd) (Sc : FnScope N ps scope)
    (hb : ∀ (cdv : Value) (A : Around) (outer : List PySem.Env) (s : Shared) (H : Hp) (E : XK), Room k (A.deeper (envOfC qual scope s.heap.objs.size f cdv)) → JSs (cxOf L2.CX0 P w K mg base N qual scope f cdv A outer s H E).nox body g)
    (hS : ∀ (l : Addr) (ds : List D) (Q : List (Str × D) → Prop), ds.length + 1 = ps.length → S ds Q → g { nx := fun ρ => ∃ es, ρ[0]? = some (some (.ow (.par l (.obj nm es)))) ∧ Q es, rt := fun _ _ => False } (some (.ow (.par l (.obj nm []))) :: envD ds (N.length - ps.length))) :
    FnOk P w K mg base L2.CX0 (k + 1) f fd ps (spI K nm ps.length S) := by
  refine F.ok Sc (fun vs H Q E h => ?_) (fun cdv A outer s H vs Q E hr h => ?_)
  · obtain ⟨T, x, dx, us, ds, QD, rfl, hn, _⟩ := h
    simpa using hn
  obtain ⟨t, pt, kt⟩ := (hb cdv A outer s H E hr).ex
  refine ⟨t, PSs.nox pt, ?_⟩
  obtain ⟨T, l, dx, us, ds, QD, rfl, hl1, ob, hT, nT, ho, rv, tb, hs, hq⟩ := h
  have hl2 : ds.length + 1 = ps.length := by rw [← rv.length, hl1]
  generalize hρ : (some (SV.ow (.par l (.obj nm []))) :: envD ds (N.length - ps.length) : Env) = ρ0
  have g0 : ∀ (i : Nat) (sv : SV), ρ0[i]? = some (some sv) → (i = 0 ∧ sv = .ow (.par l (.obj nm []))) ∨ ∃ j d, i = j + 1 ∧ ds[j]? = some d ∧ sv = .im d := fun i sv h => by
    subst hρ
    cases i with
    | zero => simp at h; exact .inl ⟨rfl, h.symm⟩
    | succ j =>
      obtain ⟨d, h1, h2⟩ := envD_get (show (envD ds (N.length - ps.length))[j]? = _ by simpa using h)
      exact .inr ⟨j, d, rfl, h1, h2⟩
  have s0 : (L2.start N (.ref l :: us))[0]? = some (some (V.ref l)) := start_get rfl
  have own : ∀ a, Own ρ0 (L2.start N (.ref l :: us)) a → a = l := fun a ⟨i, m, h1, h2⟩ => by
    rcases g0 i _ h1 with ⟨rfl, _⟩ | ⟨_, _, _, _, z⟩
    · rw [s0] at h2; cases h2; rfl
    · cases z
  have e0 : Ex (hide (plus T l) H) (hide (Hd T ρ0 (L2.start N (.ref l :: us))) H) := hide_sub fun a w => w.elim .inr fun w => .inl (own a w)
  have r0 : RS K T ρ0 (L2.start N (.ref l :: us)) H := by
    refine ⟨?_, fun i d h => ?_, fun i m h => ?_, fun i j m m' a h1 h2 _ _ => ?_, fun a t w => ?_, hT, fun i q m a h1 h2 => ?_, tb⟩
    · rw [← hρ]; unfold L2.start; simp [envD_len, ← hl2, rv.length]
    · rcases g0 i _ h with ⟨_, z⟩ | ⟨j, d', rfl, h1, z⟩
      · cases z
      · cases z
        obtain ⟨v, h2, h3⟩ := rv.get h1
        exact ⟨v, start_get (by simpa using h2), h3.mono e0⟩
    · rcases g0 i _ h with ⟨rfl, z⟩ | ⟨_, _, _, _, z⟩
      · cases z
        exact ⟨l, _, s0, ho, by unfold RpO; exact ⟨rfl, ob, .nil⟩⟩
      · cases z
    · rcases g0 i _ h1 with ⟨rfl, _⟩ | ⟨_, _, _, _, z⟩
      · rcases g0 j _ h2 with ⟨rfl, _⟩ | ⟨_, _, _, _, z⟩
        · rfl
        · cases z
      · cases z
    · rw [own a w] at t; exact nT t
    · rcases g0 i _ h1 with ⟨rfl, z⟩ | ⟨_, _, _, _, z⟩
      · cases z; rw [s0] at h2; cases h2; rfl
      · cases z
  have kp : ∀ {ρ' : Env} {σ' : L2.St} {H' : Hp}, Po ρ0 (L2.start N (.ref l :: us)) H ρ' σ' H' → TbOk K H' → ExL K l H H' := fun q tb => ⟨fun a o ne h nt => q.keep a o (fun w => ne (own a w)) h nt, q.dom, fun _ => tb⟩
  rw [← hρ] at *
  refine kt T _ _ H _ _ r0 (hS l ds QD hl2 hs) ⟨fun ρ' σ' H' r q h => ?_, fun _ _ _ _ _ _ _ _ h => h.elim, fun _ _ _ _ _ h => h.elim, fun _ _ _ _ _ h => h.elim, fun _ _ _ _ _ _ _ h => h.elim⟩
  obtain ⟨es, h1, h2⟩ := h
  obtain ⟨a, o, a1, a2, a3⟩ := r.ow 0 _ h1
  obtain rfl := r.tag 0 _ _ a h1 a1
  have a3 : RpO K (hide (Hd T ρ' σ') H') (.obj nm es) o := by unfold RpO at a3; exact a3
  cases o with
  | ins C dx' fs =>
    obtain ⟨rfl, _, rf⟩ := (show C = adrOf K nm ∧ ObjC K C ∧ RpFs K _ fs es from a3)
    have e : Ex (hide (Hd T ρ' σ') H') (hide (plus T a) H') := hide_sub fun b w => w.elim (fun z => .inr ⟨0, _, h1, by rw [z]; exact a1⟩) .inl
    exact hq es fs dx' H' h2 (kp q r.tb) a2 (rf.mono e)
  | _ => exact False.elim a3
theorem ok_I {S : List D → (List (Str × D) → Prop) → Prop} {g : DS} (F : ∃ f fd, FunD K "__init__" q (defArgs st) (defBody st) (defScope st) [] [] f fd ∧ L2.Mk K (adrOf K nm) f) (hm : mg nm = some (.ref (adrOf K nm))) (ob : ObjC K (adrOf K nm)) (Sc : FnScope N ps (defScope st)) (bs : BindsM "__init__" q st ps) (hb : BodyCx P w K mg base q st N k fun X => JSs X (defBody st) g)
    (hS : ∀ (l : Addr) (ds : List D) (Q : List (Str × D) → Prop), ds.length + 1 = ps.length → S ds Q → g { nx := fun ρ => ∃ es, ρ[0]? = some (some (.ow (.par l (.obj nm es)))) ∧ Q es, rt := fun _ _ => False } (some (.ow (.par l (.obj nm []))) :: envD ds (N.length - ps.length))) :
    OkI P w K mg base nm ps (k + 1) (spI K nm ps.length S) := by
  obtain ⟨f, fd, F, M⟩ := F
  exact ⟨f, fd, fn_I F Sc (fun cdv A outer s H E hr => hb f cdv A outer s H E hr) hS, M, F.bindsN bs, hm, ob⟩
def IsP (K : PySem.W.Frag) (C : Addr) (m q : Str) (st : Stmt) : Prop := ∃ p f fd, FunD K m q (defArgs st) (defBody st) (defScope st) [] [] f fd ∧ PropOf K C m p f
theorem ok_pD {S : List D → (D → Prop) → Prop} {g : DS} (F : IsP K C m q st) (Sc : FnScope N ["self"] (defScope st)) (bs : BindsM m q st ["self"]) (hb : BodyCx P w K mg base q st N k fun X => JSs X (defBody st) g)
    (hS : ∀ (ds : List D) (Q : D → Prop), ds.length = 1 → S ds Q → g { nx := fun _ => Q .none, rt := fun d _ => Q d } (envD ds (N.length - 1))) : OkP P w K mg base C m (k + 1) (spD K 1 S) := by
  obtain ⟨p, f, fd, F, hm⟩ := F
  exact ⟨p, f, fd, hm, fn_D F Sc (fun cdv A outer s H E hr => hb f cdv A outer s H E hr) hS, F.bindsN bs⟩
end
abbrev VI (nm : Str) (g : DS) (S : List D → (List (Str × D) → Prop) → Prop) (np m : Nat) : Prop := ∀ (l : Addr) (ds : List D) (Q : List (Str × D) → Prop), ds.length + 1 = np → S ds Q → g { nx := fun ρ => ∃ es, ρ[0]? = some (some (.ow (.par l (.obj nm es)))) ∧ Q es, rt := fun _ _ => False } (some (.ow (.par l (.obj nm []))) :: envD ds m)
end Dn
set_option Elab.async false
set_option linter.all false
set_option maxRecDepth 100000
set_option autoImplicit false
set_option maxHeartbeats 4000000
namespace Dn
open PySem L2 Evl PySem.Spec PyProof.Rows
abbrev clsD (nm : Str) : D := .dict [(.bool false, .str nm)]
section
variable {K : PySem.W.Frag} {G : Hp}
end
section
variable {X : Cx} {a b c e o : Expr} {fa fb fc fo : DE} {pos p apos : Pos} {es : List Expr} {x y m nm : Str} {k n : Nat} {g : DA}
def dCM (n : Nat) (nm m : Str) (S : List D → (D → Prop) → Prop) (g : DA) : DE := fun ρ Q => g ρ fun ds ρ1 => ds.length + 1 = n ∧ S (clsD nm :: ds) fun z => Q z ρ1
def dNewV (i n : Nat) (nm : Str) (S : List D → (List (Str × D) → Prop) → Prop) (g : DA) : DE := fun ρ Q => ρ[i]? = some (some (.im (clsD nm))) ∧ g ρ fun ds ρ1 => ds.length + 1 = n ∧ S ds fun es => Q (obD nm es) ρ1
end
section
variable {P : Program} {w : World} {K : PySem.W.Frag} {mg : Str → Option Value} {base : Heap} {C : Addr} {st : Stmt} {N ps : List Str} {m q nm : Str} {k : Nat}
structure ClsF (K : PySem.W.Frag) (mg : Str → Option Value) (nm : Str) (fields : List Str) : Prop where
  mg : mg nm = some (.ref (adrOf K nm))
  cl : Cls K (adrOf K nm)
  ob : ObjC K (adrOf K nm)
  ic : IsC K (adrOf K nm)
  ne : PySem.W.findIn K (.ref (adrOf K nm)) "__ne__" = some (some (.builtin "object.__ne__"))
  na : ∀ f ∈ fields, NoAttr K (adrOf K nm) f
end
end Dn
set_option Elab.async false
set_option linter.all false
set_option maxRecDepth 100000
set_option autoImplicit false
set_option maxHeartbeats 4000000
namespace Dn
open PySem L2 Evl PySem.Spec PyProof.Rows
section
variable {K : PySem.W.Frag} {T : Addr → Prop} {ρ : Env} {σ : L2.St} {H H' : Hp} {l : Addr}
theorem RS.hid (r : RS K T ρ σ H) (tl : T l) (lv : Lv H' l) (kp : ExL K l H H') : RS K T ρ σ H' := by
  have ex : Exw (hide (Hd T ρ σ) H) (hide (Hd T ρ σ) H') := ⟨fun a u z nt => by
    obtain ⟨n, z⟩ := hide_some.1 z
    exact hide_some.2 ⟨n, kp.k a u (fun w => n (.inl (w ▸ tl))) z nt⟩, fun a z => by
    obtain ⟨n, z⟩ := hide_dom.1 z
    exact hide_dom.2 ⟨n, kp.d a z⟩⟩
  refine ⟨r.len, fun i d h => ?_, fun i m h => ?_, r.inj, r.dis, fun a t => ?_, r.tag, kp.t r.tb⟩
  · obtain ⟨v, h1, h2⟩ := r.im i d h
    exact ⟨v, h1, h2.monoW ex⟩
  · obtain ⟨a, o, h1, h2, h3⟩ := r.ow i m h
    exact ⟨a, o, h1, kp.k a o (fun w => r.dis l tl (w ▸ ⟨i, m, h, h1⟩)) h2 (rpo_tb h3), h3.monoW ex⟩
  · by_cases z : a = l
    · subst z; exact lv
    · exact (r.dom a t).keepT fun o h nt => kp.k a o z h (tbx_of nt)
end
section
variable {X : Cx} {a b c e o : Expr} {fa fb fc fo : DE} {pos p apos : Pos} {es : List Expr} {x y m nm : Str} {k n : Nat} {g : DA}
def dCallML (n : Nat) (S : List D → List D → (D → List D → Prop) → Prop) (gl : DL) (g : DA) : DE := fun ρ Q => gl ρ fun ms ρ1 => g ρ1 fun ds ρ2 => ds.length + 1 = n ∧ S ms ds fun d _ => Q d ρ2
theorem je_fnML {S : List D → List D → (D → List D → Prop) → Prop} {ps : List Str} {gl : DL} (O : Ok X.prog X.w X.K X.mg X.base x ps k (spM X.K n S)) (hr : Room k X.A) (hl : JL X e gl) (ha : JA X es g) (hg : Gl X x := by rfl)
    (hdb : (x == ("__debug__" : Str)) = false := by decide) (he : starEach (e :: es) X.env = (false, eval e X.env) :: starEach es X.env := by rfl) (hpl : (backTo pos (starEach es X.env)).any (·.1) = false := by rfl) : JE X (.Call (.Name x p) (e :: es) [] pos) (dCallML n S gl g) := by
  obtain ⟨f, fd, F, hm, hk, hb⟩ := O
  obtain ⟨tl, pl, kl⟩ := hl.ex
  obtain ⟨t, pa, ka⟩ := ha.ex
  refine ⟨_, pe_call F hr hg hm hk hb .nil (E := fun _ _ _ => False) (fun _ _ _ _ _ _ _ h => h.elim) (pa_cons pl pa he) hdb he hpl, fun T ρ σ H QD Q r h q => ?_⟩
  refine kl T ρ σ H _ _ r h fun ms ρ1 l ws H1 hn hl1 r1 rm p1 h => ?_
  refine ka (plus T l) ρ1 σ H1 _ _ r1 h fun ds ρ2 us H2 r2 p2 v2 h => ?_
  obtain ⟨hn2, h⟩ := h
  rw [List.append_nil]
  have tl' : plus T l l := .inl rfl
  have hl2 : H2 l = some (.lst ws) := p2.keep l _ (r1.dis l tl') hl1
  have e1 : Ex (hide (Hd (plus T l) ρ2 σ) H2) (hide (plus (fun a => Hd (plus T l) ρ2 σ a ∧ a ≠ l) l) H2) := hide_sub fun a w => by
    rcases w with w | w
    · exact .inl (.inl w)
    · exact w.1
  refine ⟨by simp [v2.length, hn2], fun a => Hd (plus T l) ρ2 σ a ∧ a ≠ l, l, us, ws, ms, ds, _, rfl, fun a w => r2.hdLv w.1, fun w => w.2 rfl, hl2, (rm.monoW p2.fz).mono e1, v2.mono e1, r2.tb, h, fun v d ms' ws' H' hq kp hl' rm' rv => ?_⟩
  have r3 : RS X.K (plus T l) ρ2 σ H' := r2.hid tl' (by unfold Lv; rw [hl']; exact ⟨by simp, fun u z => by cases z; exact ⟨id, id⟩⟩) kp
  have r4 : RS X.K T ρ2 σ H' := r3.unplus
  have old : ∀ a o, ¬ Own ρ σ a → H a = some o → ¬ TbO o → H' a = some o := fun a o n0 w nt => by
    have ne : a ≠ l := fun z => by rw [z, hn] at w; cases w
    have w1 := p1.keep a o n0 w nt
    have n1 : ¬ Own ρ1 σ a := fun z => by
      rcases p1.own a z with z | z
      · exact n0 z
      · rw [w] at z; cases z
    exact kp.k a o ne (p2.keep a o n1 w1 nt) nt
  have dm : ∀ a, H a ≠ none → H' a ≠ none := fun a w => by
    by_cases ne : a = l
    · rw [ne, hl']; simp
    · have w2 := p2.dom a (p1.dom a w)
      exact kp.d a w2
  have p4 : Po ρ σ H ρ2 σ H' := ⟨fun a o n0 w nt => old a o n0 w nt, fun a w => by
    rcases p2.own a w with w | w
    · exact p1.own a w
    · by_cases z : H a = none
      · exact .inr z
      · exact absurd w (p1.dom a z), dm⟩
  refine q d ρ2 v H' r4 p4 (rv.mono (hide_sub fun a w => ?_)) hq
  by_cases z : a = l
  · exact .inl z
  · refine .inr ⟨?_, z⟩
    rcases w with w | w
    · exact .inl (.inr w)
    · exact .inr w
def iRgO (i : Nat) : DL := fun ρ Q => ∃ n : Int, ρ[i]? = some (some (.ow (.rng n))) ∧ 0 ≤ n ∧ n < 2 ^ 62 ∧ Q (rgD 0 n) ρ
def sSubI (i : Nat) (fe : DE) : DS := fun E ρ => match ρ[i]? with
  | some (some (.im (.int n))) => fe ρ fun d ρ1 => match d with
    | .int m => E.nx (ρ1.set i (some (.im (.int (n - m)))))
    | _ => False
  | _ => False
end
end Dn
set_option Elab.async false
set_option linter.all false
set_option maxRecDepth 100000
set_option autoImplicit false
set_option maxHeartbeats 4000000
namespace Dn
open PySem L2 Evl PySem.Spec PyProof.Rows
theorem hu65 {k : Nat} {A : Around} (r : Room k A) : A.units + 65 < cLine := by have := r.un; omega
section
variable {X : Cx} {a b : Expr} {fa fb : DE}
def dIndexD (fa fb : DE) : DE := fun ρ Q => fa ρ fun z ρ1 => (∃ ds, z = .list ds) ∧ fb ρ1 fun y ρ2 => ∃ (ds : List D) (j : Nat) (w : D), z = .list ds ∧ SeqAt.shaped z = true ∧ SeqAt.shaped y = true ∧ ds[j]? = some w ∧ PyData.eqv w y = true ∧ (∀ (m : Nat) (z' : D), m < j → ds[m]? = some z' → PyData.eqv z' y = false) ∧ Q (.int (j : Nat)) ρ2
theorem je_indexD {apos cpos : Pos} (hu : X.A.units + 65 < cLine) (ha : JE X a fa) (hb : JE X b fb)
    (hbase : attributeBase a "index" X.env (eval a X.env) = eval a X.env := by rfl)
    (hfew : ((backTo cpos (starEach [b] X.env)).all (fun x => !x.1) && (backToKw cpos (keywordEach [] X.env)).all (fun x => x.1.isSome)
      && decide (([b] : List Expr).length + ([] : List Keyword).length + (if ([] : List Keyword).isEmpty then 0 else 1) < 30)) = true := by rfl)
    (hline : (apos.endLine == cpos.line) = true := by rfl) (hs : starEach [b] X.env = (false, eval b X.env) :: starEach [] X.env := by rfl) (hplain : (backTo cpos (starEach [] X.env)).any (·.1) = false := by rfl) :
    JE X (.Call (.Attribute a "index" apos) [b] [] cpos) (dIndexD fa fb) := by
  obtain ⟨ta, pa, ka⟩ := ha.ex
  obtain ⟨tb, pb, kb⟩ := hb.ex
  refine ⟨_, pe_bm PySem.F.plainAttrs_list PySem.F.slot_list_index (by kernel_rfl) (mt_indexD hu) pa (pa_cons pb pa_nil hs) hbase hfew hline hs hplain, fun T ρ σ H QD Q r h q => ka T ρ σ H _ _ r h fun z ρ1 v H1 r1 p1 v1 h => ?_⟩
  obtain ⟨⟨ds0, e0⟩, h⟩ := h
  subst e0
  cases v1 with
  | lst hp rr =>
    refine ⟨.inl ⟨rfl, _, .inl (.inl (at_of hp))⟩, kb T ρ1 σ H1 _ _ r1 h fun y ρ2 w H2 r2 p2 v2 h => ?_⟩
    obtain ⟨ds, j, z, e, s1, s2, h1, h2, h3, h9⟩ := h
    cases e
    have hp2 := (p2.fz (T := T)).k _ _ hp
    have rr2 := rr.monoW (p2.fz (T := T))
    exact ⟨_, w, y, _, j, z, rfl, rfl, (Rp.lst hp2 rr2).dp (shaped_lay s1), v2.dp (shaped_lay s2), s1, s2, h1, h2, h3, q _ _ _ _ r2 (p1.trans p2) (.int _) h9⟩
end
end Dn
set_option Elab.async false
set_option linter.all false
set_option maxRecDepth 100000
set_option autoImplicit false
set_option maxHeartbeats 4000000
namespace Dn
open PySem L2 Evl PySem.Spec PyProof.Rows
section
variable {X : Cx} {a b : Expr} {fa fb : DE} {pos p : Pos}
def tSortSet (K : PySem.W.Frag) (ta : TE) : TE := fun σ H Q => ta σ H fun x H1 => ∃ (l : Addr) (ns : List Int), x = V.ref l ∧ SqT K H1 l (ns.map V.int) ∧ ns.length < 64 ∧
  ∀ (ms : List Int) (p : Addr), ms.Pairwise (· < ·) → (∀ k : Int, k ∈ ms ↔ k ∈ ns) → H1 p = none → Q (.ref p) (upd H1 p (.lst (ms.map V.int)))
theorem pe_sortSet {a : Expr} {ta : TE} {p p2 q pos : Pos} (hc : X.calm = true) (hg : Gl X "sorted") (hm : X.mg "sorted" = none) (hg2 : Gl X "set") (hm2 : X.mg "set" = none) (ha : PE X a ta)
    (na : starEach [a] X.env = (false, eval a X.env) :: starEach [] X.env := by rfl) : PE X (.Call (.Name "sorted" p) [.Call (.Name "set" p2) [a] [] q] [] pos) (tSortSet X.K ta) := by
  refine ⟨fun pins s σ H Q I h => ?_⟩
  refine Call_ (ld_blt I hg hm PyProof.Rows.boot_sorted ?_)
  refine PyProof.Rows.callWith_builtin1 (PyProof.Rows.args_cons ?_ rfl) rfl rfl
  refine Call_ (ld_blt I hg2 hm2 PyProof.Rows.boot_set ?_)
  refine PyProof.Rows.callWith_type1 (PyProof.Rows.args_cons (thn (ha.run pins s σ H _ I h) fun v s1 ⟨x, H1, I1, r1, q1⟩ => PyProof.Rows.args_nil ?_) na) na rfl
  obtain ⟨l, ns, rfl, hq, h1, q1⟩ := q1
  cases r1
  obtain ⟨its, r, pl, hz⟩ := I1.tuple hq
  refine call_set_tupI ns (I1.ok.hd hc) pl (by simpa using r.ints) (by unfold scanBound; omega) fun h' tk c R hc2 hk => ?_
  refine PyProof.Rows.args_nil ?_
  have lt : s1.heap.objs.size < h'.objs.size := R.lt
  refine sorted_set R (I1.ok.hd hc) (by omega) fun s' p out c ns2 k g o hp hg hi hs hm hl => ?_
  have hlen : (ns2.map V.int).length ≤ sizeLine := by rw [List.length_map, hl, sizeLine_eq]; omega
  have hp2 : s1.heap.objs.size ≤ p := by have : h'.objs.size ≤ p := hp
                                         omega
  have hn : H1 p = none := I1.hok.fresh hp2
  have k2 : ∀ b o, s1.heap.get? b = some o → s'.heap.get? b = some o := fun b o e => k b o (hk b o e)
  have J : Inv X pins σ (upd H1 p (.lst (ns2.map V.int))) { s1 with heap := s'.heap, gens := s'.gens, drawn := s'.drawn, toks := s'.toks } :=
    I1.call (ch := []) (Un.laid k2 hp2 hn) (I1.hok.laid k2 hp2 ⟨hlen, out.toList, c, vals_of_ints hi, hg⟩) (by rw [g]; exact I1.bare) (fun _ z => nomatch z)
  have e : s' = { s1 with heap := s'.heap, gens := s'.gens, drawn := s'.drawn, toks := s'.toks } := by
    cases s'
    cases s1
    cases o
    rfl
  rw [e]
  exact ⟨.ref p, _, J, rfl, q1 ns2 p hs (fun k => by rw [hm k]; simp) hn⟩
def lSortSet (fa : DE) : DL := fun ρ Q => fa ρ fun z ρ1 => ∃ ns : List Int, z = .tuple (ns.map PyData.int) ∧ ns.length < 64 ∧ ∀ ms : List Int, ms.Pairwise (· < ·) → (∀ k : Int, k ∈ ms ↔ k ∈ ns) → Q (ms.map PyData.int) ρ1
theorem jl_sortSet {p2 q : Pos} (hc : X.calm = true) (hm : X.mg "sorted" = none) (hm2 : X.mg "set" = none) (ha : JE X a fa) (hg : Gl X "sorted" := by rfl) (hg2 : Gl X "set" := by rfl)
    (na : starEach [a] X.env = (false, eval a X.env) :: starEach [] X.env := by rfl) : JL X (.Call (.Name "sorted" p) [.Call (.Name "set" p2) [a] [] q] [] pos) (lSortSet fa) := by
  obtain ⟨ta, pa, ka⟩ := ha.ex
  refine ⟨_, pe_sortSet hc hg hm hg2 hm2 pa na, fun T ρ σ H QD Q r h q => ka T ρ σ H _ _ r h fun z ρ1 v H1 r1 p1 v1 h => ?_⟩
  obtain ⟨ns, rfl, h1, h2⟩ := h
  cases v1 with
  | tup hp rr =>
    obtain rfl := rr.of_ints
    exact ⟨_, ns, rfl, sqt_of hp, h1, fun ms l s1 s2 hl => q _ _ _ _ _ (none_back p1 hl) upd_same (r1.laid hl) (RpAll.ints ms) (p1.trans (.grow (Ex.new hl))) (h2 ms s1 s2)⟩
end
end Dn
set_option Elab.async false
set_option linter.all false
set_option maxRecDepth 100000
set_option autoImplicit false
set_option maxHeartbeats 4000000
namespace Dn
open PySem L2 Evl PySem.Spec PyProof.Rows
section
variable {P : Program} {w : World} {A : Around} {E : Value → Shared → Prop} {s : Shared}
end
section
variable {X : Cx} {a : Expr} {fa : DE} {pos p : Pos}
def lSortTu (fa : DE) : DL := fun ρ Q => fa ρ fun z ρ1 => ∃ ns : List Int, z = .tuple (ns.map PyData.int) ∧ ns.length < 64 ∧ ∀ ns' : List Int, ns'.Perm ns → ns'.Pairwise (· ≤ ·) → Q (ns'.map PyData.int) ρ1
end
end Dn
set_option Elab.async false
set_option linter.all false
set_option maxRecDepth 100000
set_option autoImplicit false
set_option maxHeartbeats 4000000
namespace Dn
open PySem L2 Evl PySem.Spec PyProof.Rows SrL
def NSs2 (ρ0 ρ : Env) (i : Nat) : Prop := ∀ (j : Nat) (sv : SV), j ≠ i → ρ[j]? = some (some sv) → match sv with
  | .im d => NL d ∨ ρ0[j]? = some (some (.im d))
  | .ow m => NS m
def dKeep2 (i : Nat) (f : DT) : DT := fun ρ Q => ∃ ds, ρ[i]? = some (some (.ow (.lst ds))) ∧ (∀ d, d ∈ ds → NL d) ∧ f (ρ.set i (some (.im (.list ds)))) fun b ρ1 => i < ρ1.length ∧ NSs2 ρ ρ1 i ∧ Q b (ρ1.set i (some (.ow (.lst ds))))
end Dn
set_option Elab.async false
set_option linter.all false
set_option maxRecDepth 100000
set_option autoImplicit false
set_option maxHeartbeats 4000000
namespace Dn
open PySem L2 Evl PySem.Spec PyProof.Rows
open PySem.AutoSeq1 (wpAny_loadPart')
section
variable {X : Cx}
def dRepU : D → D → (D → Prop) → Prop := fun x y Q => ∃ (ds : List D) (n : Int), x = .tuple ds ∧ y = .int n ∧ ds ≠ [] ∧ 1 ≤ n ∧ n ≤ 1000 ∧ ds.length ≤ 1000 ∧ Q (.tuple (List.replicate n.toNat ds).flatten)
end
end Dn
set_option Elab.async false
set_option linter.all false
set_option maxRecDepth 100000
set_option autoImplicit false
set_option maxHeartbeats 4000000
namespace Dn.B3
open PySem L2 Evl
structure FC where
  p : Addr
  s : Option Addr
  l0 : List Int
abbrev scrD (l : List Int) : D := .dict [(.none, .tuple (l.map .int))]
abbrev FC.k (_ : FC) : Nat := 2
abbrev FC.k2 (_ : FC) : Nat := 0
section
variable {K : PySem.W.Frag} {T B : Addr → Prop} {p : FC} {ρ ρ1 ρ' : Env} {σ σ1 : L2.St} {H H1 H' G G' : Hp}
structure Fr (p : FC) (ρ : Env) : Prop where
  ne : p.k ≠ p.k2
  dice : ∃ a b c : Int, ρ[p.k]? = some (some (.ow (.par p.p (.lst [.int a, .int b, .int c]))))
  scr : (∃ s, p.s = some s ∧ ρ[0]? = some (some (.ow (.par s (.lst (p.l0.map .int)))))) ∨ (p.s = none ∧ ∃ l : List Int, l.length = p.l0.length ∧ ρ[0]? = some (some (.im (scrD l))))
  rest : ∀ (i : Nat) (sv : SV), ρ[i]? = some (some sv) → i ≠ p.k → i ≠ p.k2 → ∃ d, sv = .im d ∧ PL d
structure Qs (K : PySem.W.Frag) (T B : Addr → Prop) (p : FC) (ρ : Env) (σ : L2.St) (H : Hp) : Prop where
  rs : RS K T ρ σ H
  fr : Fr p ρ
  lists : ∀ a xs, ¬ T a → a ≠ p.p → p.s ≠ some a → H a = some (.lst xs) → B a
  new : ∀ a, H a = none → B a
  tbs : ∀ a o, H a = some o → TbO o → B a
theorem Qs.at0 (q : Qs K T B p ρ σ H) : σ[p.k]? = some (some (.ref p.p)) := by
  obtain ⟨a, b, c, h⟩ := q.fr.dice
  obtain ⟨x, o, h1, _⟩ := q.rs.ow _ _ h
  rw [h1, q.rs.tag _ p.p _ x h h1]
theorem Qs.at1 (q : Qs K T B p ρ σ H) {s : Addr} (e : p.s = some s) : ρ[0]? = some (some (.ow (.par s (.lst (p.l0.map .int))))) ∧ σ[0]? = some (some (.ref s)) := by
  rcases q.fr.scr with ⟨s', e', h⟩ | ⟨e', _⟩
  · rw [e] at e'; cases e'
    obtain ⟨x, o, h1, _⟩ := q.rs.ow _ _ h
    exact ⟨h, by rw [h1, q.rs.tag _ s _ x h h1]⟩
  · rw [e] at e'; cases e'
theorem Fr.im0 (q : Fr p ρ) (e : p.s = none) : ∃ l : List Int, l.length = p.l0.length ∧ ρ[0]? = some (some (.im (scrD l))) := by
  rcases q.scr with ⟨s', e', h⟩ | ⟨_, h⟩
  · rw [e] at e'; cases e'
  · exact h
theorem Qs.own (q : Qs K T B p ρ σ H) {a : Addr} : Own ρ σ a ↔ a = p.p ∨ p.s = some a := by
  constructor
  · rintro ⟨i, m, h1, h2⟩
    by_cases e : i = p.k
    · subst e; rw [q.at0] at h2; cases h2; exact .inl rfl
    · by_cases e2 : i = 0
      · subst e2
        cases w : p.s with
        | none =>
          obtain ⟨l, _, z⟩ := q.fr.im0 w
          rw [z] at h1; cases h1
        | some s => rw [(q.at1 w).2] at h2; cases h2; exact .inr rfl
      · obtain ⟨d, z, _⟩ := q.fr.rest i _ h1 e e2
        cases z
  · rintro (rfl | e)
    · obtain ⟨a, b, c, h⟩ := q.fr.dice
      exact ⟨_, _, h, q.at0⟩
    · exact ⟨0, _, (q.at1 e).1, (q.at1 e).2⟩
theorem Qs.hd (q : Qs K T B p ρ σ H) {a : Addr} : Hd T ρ σ a ↔ T a ∨ a = p.p ∨ p.s = some a := by unfold Hd; rw [q.own]
theorem Qs.step (q : Qs K T B p ρ σ H) (r : RS K T ρ1 σ1 H1) (po : Po ρ σ H ρ1 σ1 H1) (f : Fr p ρ1) : Qs K T B p ρ1 σ1 H1 := by
  refine ⟨r, f, fun a xs t n n2 h => ?_, fun a h => ?_, fun a o h to => ?_⟩
  · cases w : H a with
    | none => exact q.new a w
    | some o =>
      by_cases to : TbO o
      · exact q.tbs a o w to
      have := po.keep a o (fun z => (q.own.1 z).elim n n2) w to
      rw [h] at this; cases this
      exact q.lists a xs t n n2 w
  · cases w : H a with
    | none => exact q.new a w
    | some o => exact absurd h (po.dom a (by rw [w]; simp))
  · cases w : H a with
    | none => exact q.new a w
    | some o2 =>
      by_cases t2 : TbO o2
      · exact q.tbs a o2 w t2
      exfalso
      have no : ∀ (i : Nat) (m : MO), ρ1[i]? = some (some (.ow (.par a m))) → False := fun i m w2 => by
        obtain ⟨b, o3, b1, b2, b3⟩ := r.ow i _ w2
        rw [r.tag i a m b w2 b1] at b2
        rw [h] at b2; cases b2
        exact rpo_tb b3 to
      by_cases n : Own ρ σ a
      · rcases q.own.1 n with n | n
        · subst n
          obtain ⟨x, y, z, w2⟩ := f.dice
          exact no _ _ w2
        · rcases f.scr with ⟨s', e', w2⟩ | ⟨e', _⟩
          · rw [n] at e'; cases e'; exact no _ _ w2
          · rw [n] at e'; cases e'
      · have := po.keep a o2 n w t2
        rw [h] at this; cases this
        exact t2 to
structure Kp (B : Addr → Prop) (p : FC) (H H' : Hp) : Prop where
  keep : ∀ a o, a ≠ p.p → p.s ≠ some a → ¬ B a → H a = some o → H' a = some o
  dom : ∀ a, H a ≠ none → H' a ≠ none
theorem Kp.refl {B : Addr → Prop} {p : FC} : Kp B p H H := ⟨fun _ _ _ _ _ h => h, fun _ h => h⟩
theorem Kp.trans {B : Addr → Prop} {p : FC} {H2 : Hp} (a : Kp B p H H1) (b : Kp B p H1 H2) : Kp B p H H2 := ⟨fun x o n n2 m h => b.keep x o n n2 m (a.keep x o n n2 m h), fun x h => b.dom x (a.dom x h)⟩
theorem Qs.kp (q : Qs K T B p ρ σ H) (po : Po ρ σ H ρ1 σ1 H1) : Kp B p H H1 := ⟨fun a o n n2 m h => po.keep a o (fun z => (q.own.1 z).elim n n2) h (fun t => m (q.tbs a o h t)), po.dom⟩
structure EndB (K : PySem.W.Frag) (T B : Addr → Prop) (p : FC) (H : Hp) (E : DEnds) (D : Ends) : Prop where
  nx : ∀ ρ' σ' H', Qs K T B p ρ' σ' H' → Kp B p H H' → E.nx ρ' → D.nx σ' H'
  rt : ∀ d ρ' σ' v H', Qs K T B p ρ' σ' H' → Kp B p H H' → Rp K (hide (Hd T ρ' σ') H') v d → E.rt d ρ' → D.rt v H'
theorem EndB.step {E : DEnds} {D : Ends} (e : EndB K T B p H E D) (k : Kp B p H H1) : EndB K T B p H1 E D := ⟨fun a b c q k2 => e.nx a b c q (k.trans k2), fun a b c d f q k2 => e.rt a b c d f q (k.trans k2)⟩
end
def sB (f : DS) : DS := fun E ρ => ∀ p, Fr p ρ → f { nx := fun ρ' => Fr p ρ' ∧ E.nx ρ', rt := fun d ρ' => Fr p ρ' ∧ E.rt d ρ' } ρ
section
variable {X : Cx} {V : D → Prop} {a b c e : Expr} {es : List Expr} {fa fb fc : DE} {pos ps px : Pos} {x y : Str} {st : Stmt} {sts : List Stmt} {f g : DS}
end
def Fgt : Env → Env → Prop
  | [], [] => True
  | x :: l, y :: m => (y = x ∨ (y = none ∧ (x = none ∨ ∃ d, x = some (.im d)))) ∧ Fgt l m
  | _, _ => False
theorem Fgt.len : ∀ {ρ ρ0 : Env}, Fgt ρ ρ0 → ρ0.length = ρ.length
  | [], [], _ => rfl
  | _ :: _, _ :: _, h => by simp [Fgt.len h.2]
  | [], _ :: _, h => h.elim
  | _ :: _, [], h => h.elim
theorem Fgt.at : ∀ {ρ ρ0 : Env}, Fgt ρ ρ0 → ∀ i : Nat, ρ0[i]? = ρ[i]? ∨ (ρ0[i]? = some none ∧ ∃ d, ρ[i]? = some (some (.im d)))
  | [], [], _, _ => .inl rfl
  | _ :: _, _ :: _, h, 0 => by
    rcases h.1 with z | ⟨z, w | ⟨d, w⟩⟩
    · exact .inl (by simp [z])
    · exact .inl (by simp [z, w])
    · exact .inr ⟨by simp [z], d, by simp [w]⟩
  | _ :: _, _ :: _, h, i + 1 => by simpa using Fgt.at h.2 i
  | [], _ :: _, h, _ => h.elim
  | _ :: _, [], h, _ => h.elim
section
variable {K : PySem.W.Frag} {T : Addr → Prop} {ρ ρ0 : Env} {σ : L2.St} {H : Hp}
theorem Fgt.own (f : Fgt ρ ρ0) (a : Addr) : Own ρ0 σ a ↔ Own ρ σ a := by
  constructor
  · rintro ⟨i, m, h1, h2⟩
    rcases f.at i with z | ⟨z, _⟩
    · exact ⟨i, m, by rw [← z]; exact h1, h2⟩
    · rw [z] at h1; cases h1
  · rintro ⟨i, m, h1, h2⟩
    rcases f.at i with z | ⟨_, d, z⟩
    · exact ⟨i, m, by rw [z]; exact h1, h2⟩
    · rw [z] at h1; cases h1
theorem Fgt.hd (f : Fgt ρ ρ0) : Hd T ρ0 σ = Hd T ρ σ := by
  funext a
  apply propext
  unfold Hd
  rw [f.own]
theorem Fgt.sm (f : Fgt ρ ρ0) {i : Nat} {sv : SV} (h : ρ0[i]? = some (some sv)) : ρ[i]? = some (some sv) := by
  rcases f.at i with z | ⟨z, _⟩
  · rw [← z]; exact h
  · rw [z] at h; cases h
theorem Fgt.rs (f : Fgt ρ ρ0) (r : RS K T ρ σ H) : RS K T ρ0 σ H := by
  refine ⟨by rw [f.len, r.len], fun i d h => ?_, fun i m h => ?_, fun i j m m' a h1 h2 => r.inj i j m m' a (f.sm h1) (f.sm h2), fun a t w => r.dis a t ((f.own a).1 w), r.dom, fun i x m a h => r.tag i x m a (f.sm h), r.tb⟩
  · rw [f.hd]; exact r.im i d (f.sm h)
  · rw [f.hd]; exact r.ow i m (f.sm h)
end
section
variable {X : Cx} {sts : List Stmt} {f : DS}
end
end Dn.B3
set_option Elab.async false
set_option linter.all false
set_option maxRecDepth 100000
set_option autoImplicit false
set_option maxHeartbeats 4000000
namespace Dn
open PySem L2 Evl PySem.Spec PyProof.Rows
section
variable {X : Cx} {e : Expr} {es : List Expr} {f : DE} {ft : DT} {fa : DA}
noncomputable def JE.t (h : JE X e f) : TE := h.ex.choose
theorem JE.p (h : JE X e f) : PE X e h.t := h.ex.choose_spec.1
theorem JE.k (h : JE X e f) : ∀ (T : Addr → Prop) (ρ : Env) (σ : L2.St) (H : Hp) (QD : D → Env → Prop) (Q : VK), RS X.K T ρ σ H → f ρ QD →
    (∀ d ρ' v H', RS X.K T ρ' σ H' → Po ρ σ H ρ' σ H' → Rp X.K (hide (Hd T ρ' σ) H') v d → QD d ρ' → Q v H') → h.t σ H Q := h.ex.choose_spec.2
noncomputable def JT.t (h : JT X e ft) : TT := h.ex.choose
theorem JT.p (h : JT X e ft) : PT X e h.t := h.ex.choose_spec.1
theorem JT.k (h : JT X e ft) : ∀ (T : Addr → Prop) (ρ : Env) (σ : L2.St) (H : Hp) (QD : Bool → Env → Prop) (Q : Bool → Hp → Prop), RS X.K T ρ σ H → ft ρ QD →
    (∀ b ρ' H', RS X.K T ρ' σ H' → Po ρ σ H ρ' σ H' → QD b ρ' → Q b H') → h.t σ H Q := h.ex.choose_spec.2
noncomputable def JA.t (h : JA X es fa) : TA := h.ex.choose
theorem JA.p (h : JA X es fa) : PA X es h.t := h.ex.choose_spec.1
theorem JA.k (h : JA X es fa) : ∀ (T : Addr → Prop) (ρ : Env) (σ : L2.St) (H : Hp) (QD : List D → Env → Prop) (Q : List V → Hp → Prop), RS X.K T ρ σ H → fa ρ QD →
    (∀ ds ρ' vs H', RS X.K T ρ' σ H' → Po ρ σ H ρ' σ H' → RpAll X.K (hide (Hd T ρ' σ) H') vs ds → QD ds ρ' → Q vs H') → h.t σ H Q := h.ex.choose_spec.2
def Im (ρ : Env) : Prop := ∀ (i : Nat) (m : MO), ρ[i]? ≠ some (some (SV.ow m))
theorem Im.no {ρ : Env} {σ : L2.St} (h : Im ρ) (a : Addr) : ¬ Own ρ σ a := fun ⟨i, m, z, _⟩ => h i m z
theorem Im.set {ρ : Env} (h : Im ρ) (i : Nat) (d : D) : Im (ρ.set i (some (SV.im d))) := fun j m z => by
  rw [List.getElem?_set] at z
  split at z
  · split at z
    · cases z
    · cases z
  · exact h j m z
theorem Im.po {ρ ρ' : Env} {σ σ' : L2.St} {H H' : Hp} (h : Im ρ) (p : Po ρ σ H ρ' σ' H') : Exw H H' := ⟨fun a o z nt => p.keep a o (h.no a) z nt, p.dom⟩
theorem Im.hd {ρ : Env} {σ : L2.St} {T : Addr → Prop} {H : Hp} (h : Im ρ) : Ex (hide (Hd T ρ σ) H) (hide T H) := fun a o z => by
  obtain ⟨n, z⟩ := hide_some.1 z
  exact hide_some.2 ⟨fun t => n (.inl t), z⟩
theorem Im.hd' {ρ : Env} {σ : L2.St} {T : Addr → Prop} {H : Hp} (h : Im ρ) : Ex (hide T H) (hide (Hd T ρ σ) H) := fun a o z => by
  obtain ⟨n, z⟩ := hide_some.1 z
  exact hide_some.2 ⟨fun t => t.elim n (h.no a), z⟩
end
def cm (st : Stmt) (j : Nat) : Stmt := match st with
  | .ClassDef _ _ _ body _ _ _ _ _ _ _ => body.getD j (.Pass ⟨0, 0, 0, 0⟩)
  | s => s
end Dn
set_option Elab.async false
set_option linter.all false
set_option maxRecDepth 100000
set_option autoImplicit false
set_option maxHeartbeats 4000000
namespace Dn
open PySem L2 Evl PySem.Spec PyProof.Rows
abbrev ErP := Str → Option (Str × D) → Prop
abbrev DEX := Env → (D → Env → Prop) → ErP → Prop
theorem ErrAt.mono {K : PySem.W.Frag} {G G' H : Hp} {dd : Option Addr} {fd : Option (Str × D)} (e : Ex G G') (h : ErrAt K G H dd fd) : ErrAt K G' H dd fd := by
  obtain ⟨tb, h⟩ := h
  refine ⟨tb, ?_⟩
  cases fd with
  | none => trivial
  | some fd => obtain ⟨a, pv, h1, h2, h3⟩ := h; exact ⟨a, pv, h1, h2, h3.mono e⟩
theorem Po.nil {ρ ρ' : Env} {σ σ' τ : L2.St} {H H' : Hp} (p : Po ρ σ H ρ' σ' H') : Po ρ σ H [] τ H' := ⟨fun a o n h nt => p.keep a o n h nt, fun a ⟨i, m, w, _⟩ => by simp at w, p.dom⟩
section
variable {X : Cx} {a b c e o : Expr} {fa fb fc fo : DE} {pos p apos : Pos} {es : List Expr} {x y m nm : Str} {k n : Nat} {g : DA}
structure JZE (X : Cx) (a dd : Addr) (i : Nat) (f0 : Str) (e : Expr) (g : D → DE) : Prop where
  ex : ∃ t, PE X e t ∧ ∀ (T : Addr → Prop) (ρ : Env) (σ : L2.St) (H : Hp) (QD : D → Env → Prop) (Q : VK) (d : D) (pv : V), RS X.K T ρ σ H → σ[i]? = some (some (.ref a)) → H dd = some (.xd [(f0, pv)]) → Rp X.K (hide (Hd T ρ σ) H) pv d → g d ρ QD →
    (∀ d ρ' v H', RS X.K T ρ' σ H' → Po ρ σ H ρ' σ H' → Rp X.K (hide (Hd T ρ' σ) H') v d → QD d ρ' → Q v H') → t σ H Q
end
section
variable {X : Cx} {e : Expr} {np pos pos' pr : Pos} {body : List Stmt} {nm n : Str} {i : Nat} {f0 : Str} {g : D → DE} {fb : DS}
end
section
variable {P : Program} {w : World} {K : PySem.W.Frag} {mg : Str → Option Value} {base : Heap} {st : Stmt} {N ps : List Str} {k : Nat} {f : Addr} {fd : FuncData} {x nm m q : Str}
end
end Dn
namespace Dn
open PySem L2 Evl PySem.Spec PyProof.Rows
end Dn
set_option Elab.async false
set_option linter.all false
set_option maxRecDepth 100000
set_option autoImplicit false
set_option maxHeartbeats 4000000
namespace Dn
open PySem L2 Evl PySem.Spec PyProof.Rows
def tyT (K : PySem.W.Frag) (x : V) (H : Hp) : Prop := ∃ p o xs, x = .ref p ∧ H p = some o ∧ TO K o xs
section
variable {X : Cx}
theorem tyT_is {pins : List (Addr × Obj)} {σ : L2.St} {H : Hp} {s : Shared} {x : V} {v : Value} (kt : KT X.K) (I : L2.Inv X pins σ H s) (r : RelV x v) (ty : tyT X.K x H) :
    s.TypeIs v "tuple" ∧ ∀ a, v = .ref a → ∃ ob, s.heap.get? a = some ob ∧ ob.dict = none := by
  obtain ⟨p, o, xs, rfl, hp, t⟩ := ty
  obtain ⟨ob, rfl, hc, hd⟩ := t.kt kt
  have g := (I.hok p _ hp).1
  cases r
  refine ⟨⟨ob, g, hc⟩, fun a e => ?_⟩
  cases e
  exact ⟨ob, g, hd⟩
variable {o e : Expr} {es : List Expr} {to : TE} {t : TA} {name : Str} {apos cpos : Pos} {id : String} {r : V → List V → Hp → VK → Prop}
def tBMT (K : PySem.W.Frag) (r : V → List V → Hp → VK → Prop) (to : TE) (t : TA) : TE := fun σ H Q => to σ H fun x H1 => tyT K x H1 ∧ t σ H1 fun xs H2 => r x xs H2 Q
theorem pe_bmT (kt : KT X.K) (slot : Slot "tuple" name id) (hty : typeOf (.builtin id) = pure (.type "method_descriptor")) (hm : MtR X id r) (ho : PE X o to) (ha : PA X (e :: es) t)
    (hbase : attributeBase o name X.env (eval o X.env) = eval o X.env := by rfl)
    (hfew : ((backTo cpos (starEach (e :: es) X.env)).all (fun x => !x.1) && (backToKw cpos (keywordEach [] X.env)).all (fun x => x.1.isSome)
      && decide ((e :: es).length + ([] : List Keyword).length + (if ([] : List Keyword).isEmpty then 0 else 1) < 30)) = true := by rfl)
    (hline : (apos.endLine == cpos.line) = true := by rfl) (hs : starEach (e :: es) X.env = (false, eval e X.env) :: starEach es X.env := by rfl) (hplain : (backTo cpos (starEach es X.env)).any (·.1) = false := by rfl) :
    PE X (.Call (.Attribute o name apos) (e :: es) [] cpos) (tBMT X.K r to t) := by
  refine ⟨fun pins s σ H Q I h => ?_⟩
  refine wpAny_Call_method_late hbase hfew hline rfl (thn (ho.run pins s σ H _ I h) fun v s1 ⟨x, H1, I1, r1, ty, q1⟩ => ?_)
  obtain ⟨h1, h2⟩ := tyT_is kt I1 r1 ty
  refine ⟨"tuple", id, PySem.F.plainAttrs_tuple, slot, hty, h1, h2, ?_⟩
  have hA := ha.run cpos pins s1 σ H1 _ I1 q1
  rw [hs] at hA ⊢
  refine Calls.callWith_builtin (by show (false || (backTo cpos (starEach es X.env)).any (·.1)) = false; rw [hplain] <;> rfl) (Calls.evalArgs_plain ?_)
  exact thn hA fun us s2 ⟨vs, H2, I2, r2, q2⟩ => hm pins s2 σ H2 x vs v us Q I2 r1 r2 q2
def rTF (K : PySem.W.Frag) (f : List D → D → (V → Prop) → Prop) : V → List V → Hp → VK → Prop := fun x xs H Q => ∃ p ys y ds d, x = .ref p ∧ xs = [y] ∧ SqT K H p ys ∧ DpAll K H ys ds ∧ Dp K H y d ∧ PyData.canLayAll0 ds = true ∧ d.canLay0 = true ∧ d.depth ≤ 60 ∧ f ds d fun v => Q v H
def fIx : List D → D → (V → Prop) → Prop := fun ds d Q => ∃ j : Nat, SeqAt.dataPlace ds d = some j ∧ Q (.int j)
theorem mt_tIx (hu : X.A.units + 64 < cLine) : MtR X "tuple.index" (rTF X.K fIx) := by
  intro pins s σ H x xs v us Q I rx rs h
  obtain ⟨p, ys, y, ds, d, rfl, rfl, hq, ha, hy, pl, pd, dd, j, hj, q⟩ := h
  cases rx
  obtain ⟨u, rfl, ru⟩ := vals1 rs
  replace pl := PyData.plainAll_of_canLay0 _ pl
  replace pd := PyData.plain_of_canLay0 _ pd
  obtain ⟨its, rv, ⟨⟨cls, di, dt, sl⟩, ho, hc, n, hd⟩, hz⟩ := I.tuple hq
  simp only at hc hd
  subst hc hd
  obtain ⟨as, r1⟩ := Dp.readsAll I ds ys its ha rv
  obtain ⟨bs, r2⟩ := Dp.reads I d y u hy ru
  have r1' : ReadsAll s.heap its.toArray.toList ds as := by simpa using r1
  obtain ⟨h1, h2, h3⟩ := SeqAt.hit_at r1' pl hj
  exact call_meets PySem.F.slot_tuple_index ⟨_, ho, rfl⟩ PySem.F.entry_tuple_index (PySem.F.args_tuple_index_2 _ _) (_root_.TI.tuple_indexAt p its.toArray n di sl u (fun w => PyData.eqv (SeqAt.readOf s.heap w) d) j h1 h2 h3)
    ⟨ho, SeqAt.items_plain (A := X.A) r1' r2 pl pd (by omega), ⟨.int (j : Nat), H, I.tok _, ⟨_, rfl⟩, q⟩⟩
variable {a b : Expr} {fa fb : DE} {pos pa : Pos}
def dTF (f : List D → D → (D → Prop) → Prop) (fa fb : DE) : DE := fun ρ Q => fa ρ fun z ρ1 => ∃ ds, z = .tuple ds ∧ fb ρ1 fun d ρ2 => PyData.canLayAll0 ds = true ∧ d.canLay0 = true ∧ d.depth ≤ 60 ∧ f ds d fun e => Q e ρ2
def gIx : List D → D → (D → Prop) → Prop := fun ds d Q => ∃ j : Nat, SeqAt.dataPlace ds d = some j ∧ Q (.int j)
theorem je_tF {nm id : String} {f : List D → D → (V → Prop) → Prop} {g : List D → D → (D → Prop) → Prop} (kt : KT X.K) (slot : Slot "tuple" name id) (hty : typeOf (.builtin id) = pure (.type "method_descriptor")) (hm : MtR X id (rTF X.K f))
    (hfg : ∀ (ds : List D) (d : D) (Q : V → Prop) (R : D → Prop), g ds d R → (∀ n : Int, R (.int n) → Q (.int n)) → f ds d Q) (hg : ∀ (ds : List D) (d : D) (Q : V → Prop) (R : D → Prop), g ds d R → True)
    (ha : JE X a fa) (hb : JE X b fb)
    (hbase : attributeBase a name X.env (eval a X.env) = eval a X.env := by rfl)
    (hfew : ((backTo pos (starEach [b] X.env)).all (fun x => !x.1) && (backToKw pos (keywordEach [] X.env)).all (fun x => x.1.isSome)
      && decide ([b].length + ([] : List Keyword).length + (if ([] : List Keyword).isEmpty then 0 else 1) < 30)) = true := by rfl)
    (hline : (pa.endLine == pos.line) = true := by rfl) (hs : starEach [b] X.env = (false, eval b X.env) :: starEach [] X.env := by rfl) :
    JE X (.Call (.Attribute a name pa) [b] [] pos) (dTF g fa fb) := by
  obtain ⟨ta, qa, ka⟩ := ha.ex
  obtain ⟨tb, qb, kb⟩ := hb.ex
  refine ⟨_, pe_bmT kt slot hty hm qa (pa_cons qb pa_nil hs) hbase hfew hline hs (by rfl), fun T ρ σ H QD Q r h q => ka T ρ σ H _ _ r h fun z ρ1 v H1 r1 p1 v1 h => ?_⟩
  obtain ⟨ds, rfl, h⟩ := h
  cases v1 with
  | @tup a xs _ hp rr =>
    obtain ⟨o, hp0, t⟩ := hp
    refine ⟨⟨_, o, xs, rfl, at_of hp0, t⟩, kb T ρ1 σ H1 _ _ r1 h fun d ρ2 w H2 r2 p2 v2 h => ?_⟩
    obtain ⟨c1, c2, c5, h⟩ := h
    have e2 : Rp X.K (hide (Hd T ρ2 σ) H2) (.ref a) (.tuple ds) := (Rp.tup ⟨o, hp0, t⟩ rr).monoW p2.fz
    cases e2 with
    | @tup _ xs' _ hp' rr' =>
      exact ⟨_, xs', w, ds, d, rfl, rfl, sqt_of hp', rr'.dp c1, v2.dp c2, c1, c2, c5, hfg ds d _ _ h fun n hn => q _ _ _ _ r2 (p1.trans p2) (.int n) hn⟩
theorem je_tIx (kt : KT X.K) (hu : X.A.units + 65 < cLine) (ha : JE X a fa) (hb : JE X b fb)
    (hbase : attributeBase a "index" X.env (eval a X.env) = eval a X.env := by rfl)
    (hfew : ((backTo pos (starEach [b] X.env)).all (fun x => !x.1) && (backToKw pos (keywordEach [] X.env)).all (fun x => x.1.isSome)
      && decide ([b].length + ([] : List Keyword).length + (if ([] : List Keyword).isEmpty then 0 else 1) < 30)) = true := by rfl)
    (hline : (pa.endLine == pos.line) = true := by rfl) (hs : starEach [b] X.env = (false, eval b X.env) :: starEach [] X.env := by rfl) :
    JE X (.Call (.Attribute a "index" pa) [b] [] pos) (dTF gIx fa fb) :=
  je_tF (nm := "") kt PySem.F.slot_tuple_index PySem.F.type_tuple_index (mt_tIx (by omega)) (fun ds d Q R ⟨j, h1, h2⟩ k => ⟨j, h1, k _ h2⟩) (fun _ _ _ _ _ => trivial) ha hb hbase hfew hline hs
end
theorem place_map {α : Type} [DecidableEq α] {f : α → D} (hf : ∀ a b, PyData.eqv (f a) (f b) = decide (a = b)) {l : List α} {a : α} (h : a ∈ l) : SeqAt.dataPlace (l.map f) (f a) = some (l.idxOf a) := by
  unfold SeqAt.dataPlace
  rw [List.findIdx?_map]
  have : ((fun y => PyData.eqv y (f a)) ∘ f) = fun b => b == a := by
    funext b
    show PyData.eqv (f b) (f a) = _
    rw [hf]
    rfl
  rw [this, List.findIdx?_eq_some_iff_findIdx_eq]
  exact ⟨List.idxOf_lt_length_iff.mpr h, rfl⟩
end Dn
set_option Elab.async false
set_option linter.all false
set_option maxRecDepth 100000
set_option autoImplicit false
set_option maxHeartbeats 4000000
namespace Dn
open PySem L2 Evl PySem.Spec PyProof.Rows
def xProp (nm : Str) (S : List D → (D → Prop) → Prop) (fo : DEX) : DEX := fun ρ Q E => fo ρ (fun d ρ1 => (∃ es, d = obD nm es) ∧ S [d] fun z => Q z ρ1) E
end Dn
set_option Elab.async false
set_option linter.all false
set_option maxRecDepth 100000
set_option autoImplicit false
set_option maxHeartbeats 4000000
namespace Dn
open PySem L2 Evl Cq PySem.Spec PyProof.Rows
def wiOf (K : PySem.W.Frag) (f : DL) : TI := fun σ H R => ∃ (T : Addr → Prop) (ρ : Env) (QD : List D → Env → Prop), RS K T ρ σ H ∧ f ρ QD ∧ ∀ ds ρ' J H', RS K T ρ' σ H' → Po ρ σ H ρ' σ H' → ItOk K J (hide (Hd T ρ' σ) H') ds → QD ds ρ' → R J H'
theorem JI.pi {X : Cx} {tg iter : Expr} {f : DL} (h : JI X tg iter f) : PI X tg iter (wiOf X.K f) := by
  obtain ⟨t, pt, k⟩ := h.ex
  exact ⟨fun pins s σ H R I ⟨T, ρ, QD, r, h, q⟩ => pt.run pins s σ H R I (k T ρ σ H QD R r h q)⟩
section
variable {K : PySem.W.Frag} {T : Addr → Prop} {ρ1 : Env} {σ1 : L2.St} {H1 : Hp} {L : Addr} {G : Hp}
structure LpS (K : PySem.W.Frag) (T : Addr → Prop) (ρ1 : Env) (σ1 : L2.St) (H1 : Hp) (L : Addr) (G : Hp) (ρ : Env) (σ : L2.St) (H : Hp) (acc : List D) (us : List L2.V) : Prop where
  rs : RS K (plus T L) ρ σ H
  po : Po ρ1 σ1 H1 ρ σ H
  at_ : H L = some (.lst us)
  all : RpAll K (hide (Hd (plus T L) ρ σ) H) us acc
  ex : Exw G (hide (Hd (plus T L) ρ σ) H)
theorem LpS.wiped {ρ : Env} {σ : L2.St} {H : Hp} {acc : List D} {us : List L2.V} (s : LpS K T ρ1 σ1 H1 L G ρ σ H acc us) (vs : List Nat) : LpS K T ρ1 σ1 H1 L G (wipeD ρ vs) (wipe σ vs) H acc us :=
  ⟨s.rs.wiped vs, s.po.trans (.wiped vs), s.at_, s.all.monoW ((Po.wiped vs).fz), s.ex.trans (Po.wiped vs).fz⟩
theorem LpS.step {ρ ρ' : Env} {σ σ' : L2.St} {H H' : Hp} {acc : List D} {us : List L2.V} (s : LpS K T ρ1 σ1 H1 L G ρ σ H acc us) (r : RS K (plus T L) ρ' σ' H') (p : Po ρ σ H ρ' σ' H') : LpS K T ρ1 σ1 H1 L G ρ' σ' H' acc us :=
  ⟨r, s.po.trans p, p.keep L _ (s.rs.dis L (.inl rfl)) s.at_, s.all.monoW p.fz, s.ex.trans p.fz⟩
theorem LpS.push {ρ : Env} {σ : L2.St} {H : Hp} {acc : List D} {us : List L2.V} {w : L2.V} {y : D} (hL : H1 L = none) (s : LpS K T ρ1 σ1 H1 L G ρ σ H acc us) (v : Rp K (hide (Hd (plus T L) ρ σ) H) w y) : LpS K T ρ1 σ1 H1 L G ρ σ (upd H L (.lst (us ++ [w]))) (acc ++ [y]) (us ++ [w]) := by
  have aL : ∀ (o : HO), Ex (hide (Hd (plus T L) ρ σ) H) (hide (Hd (plus T L) ρ σ) (upd H L o)) := fun o a u w => by
    obtain ⟨n, w⟩ := hide_some.1 w
    exact hide_some.2 ⟨n, by rw [upd_ne (fun z => n (.inl (.inl z)))]; exact w⟩
  refine ⟨⟨s.rs.len, fun j d z => ?_, fun j m z => ?_, s.rs.inj, s.rs.dis, fun a t => ?_, s.rs.tag, s.rs.tb.wr s.at_⟩, ⟨fun a o n hh nt => ?_, s.po.own, fun a hh => ?_⟩, upd_same, (s.all.append (.cons v .nil)).mono (aL _), s.ex.trans (Exw.of (aL _))⟩
  · obtain ⟨u, h1, h2⟩ := s.rs.im j d z; exact ⟨u, h1, h2.mono (aL _)⟩
  · obtain ⟨a, o, h1, h2, h3⟩ := s.rs.ow j m z
    have ne : a ≠ L := fun e => by subst e; exact s.rs.dis a (.inl rfl) ⟨j, m, z, h1⟩
    exact ⟨a, o, h1, by rw [upd_ne ne]; exact h2, h3.mono (aL _)⟩
  · by_cases e : a = L
    · subst e; exact Lv.at id
    · exact (s.rs.dom a t).upd e
  · rw [upd_ne (fun e => by subst e; rw [hL] at hh; cases hh)]; exact s.po.keep a o n hh nt
  · by_cases e : a = L
    · subst e; rw [upd_same]; simp
    · rw [upd_ne e]; exact s.po.dom a hh
end
section
variable {X : Cx}
end
end Dn
set_option Elab.async false
set_option linter.all false
set_option maxRecDepth 100000
set_option autoImplicit false
set_option maxHeartbeats 4000000
namespace Dn
open PySem L2 Evl PySem.Spec PyProof.Rows
def OkMX (P : Program) (w : World) (K : PySem.W.Frag) (mg : Str → Option Value) (base : Heap) (C : Addr) (m : Str) (ps : List Str) (k : Nat) (sp : Sp) : Prop :=
  ∃ f fd, FnOk P w K mg base (L2.CX P w) k f fd ps sp ∧ Meth K C m f ∧ Binds K fd ps []
section
variable {P : Program} {w : World} {K : PySem.W.Frag} {mg : Str → Option Value} {base : Heap} {N ps : List Str} {k : Nat} {m q : Str} {st : Stmt}
def OkSX (P : Program) (w : World) (K : PySem.W.Frag) (mg : Str → Option Value) (base : Heap) (C : Addr) (m : Str) (k : Nat) (sp : Sp) : Prop :=
  ∃ f, Slo K C m f ∧ FnR P w K mg base (L2.CX P w) k f sp
theorem OkMX.slot {C : Addr} {sp : Sp} (h : OkMX P w K mg base C m ps k sp) : OkSX P w K mg base C m k sp := by
  obtain ⟨f, fd, F, M, B⟩ := h
  refine ⟨f, ⟨M.at_, M.fn⟩, ?_⟩
  have := FnOk.raw F B .nil
  exact FnR.imp this fun vs H Q E z => by simpa using z
end
section
variable {X : Cx} {a b c e o : Expr} {fa fb fc fo : DE} {pos p apos : Pos} {es : List Expr} {x y m nm : Str} {k n : Nat} {g : DA}
end
end Dn
set_option Elab.async false
set_option linter.all false
set_option maxRecDepth 100000
set_option autoImplicit false
set_option maxHeartbeats 4000000
namespace Dn
open PySem L2 Evl PySem.Spec PyProof.Rows LamX
section
variable {X : Cx} {pins : List (Addr × Obj)} {σ : L2.St} {H : Hp} {s : Shared}
end
abbrev EDP := Str → Option (Str × D) → Env → Prop
abbrev DLX := Env → (D → Env → Prop) → EDP → Prop
section
variable {X : Cx} {a b c e o : Expr} {fa fb fc fo : DE} {pos p apos : Pos} {es : List Expr} {x y m nm : Str} {k n : Nat} {g : DA}
end
def tC (K : PySem.W.Frag) (f : DLX) (E : XK) : TE := fun σ H Q => ∃ (T : Addr → Prop) (ρ : Env) (QD : D → Env → Prop) (ED : EDP), RS K T ρ σ H ∧ f ρ QD ED ∧
  (∀ d ρ' v H', RS K T ρ' σ H' → Po ρ σ H ρ' σ H' → Rp K (hide (Hd T ρ' σ) H') v d → QD d ρ' → Q v H') ∧
  ∀ nm fd ρ' dd H', RS K T ρ' σ H' → Po ρ σ H ρ' σ H' → ErrAt K (hide (Hd T ρ' σ) H') H' dd fd → ED nm fd ρ' → E (.ref (adrOf K nm)) dd H'
end Dn
set_option Elab.async false
set_option linter.all false
set_option maxRecDepth 100000
set_option maxHeartbeats 0
namespace Hd
open PySem PySem.Spec PyProof.Rows L2
def top (i : Nat) : Stmt := PySem.Challenge.pw_truenames_k07_whole_parts_and_quotients.main.body.getD i (.Pass ⟨0, 0, 0, 0⟩)
def cm (st : Stmt) (j : Nat) : Stmt := match st with
  | .ClassDef _ _ _ body _ _ _ _ _ _ _ => body.getD j (.Pass ⟨0, 0, 0, 0⟩)
  | s => s
abbrev st__wall : Stmt := top 0
abbrev st_is_integer : Stmt := top 10
abbrev st_is_thing : Stmt := top 11
abbrev st_is_row : Stmt := top 12
abbrev st_is_square : Stmt := top 13
abbrev st_is_lot : Stmt := top 14
abbrev st_check_thing : Stmt := top 15
abbrev st_check_lot : Stmt := top 16
abbrev st_unit_of : Stmt := top 18
abbrev st_back_of : Stmt := top 19
abbrev st_backs_of : Stmt := top 20
abbrev st_broken_three : Stmt := top 21
abbrev st_centre_of : Stmt := top 22
abbrev st_least_part : Stmt := top 23
abbrev st_pair_rows : Stmt := top 24
abbrev st_group_paper : Stmt := top 27
abbrev st__check_rows : Stmt := top 28
abbrev st__law_dice : Stmt := top 31
abbrev st__law_roll : Stmt := top 32
abbrev st__law_pick : Stmt := top 33
abbrev st__law_mixed : Stmt := top 34
abbrev st__law_some : Stmt := top 35
abbrev st__law_orders : Stmt := top 36
abbrev st__law_joined : Stmt := top 37
abbrev st__law_undone : Stmt := top 38
abbrev st__law_drawn_move : Stmt := top 39
abbrev st__law_places_of : Stmt := top 40
abbrev st__law_product_dots : Stmt := top 41
abbrev st__law_cyclic : Stmt := top 42
abbrev st__law_direct : Stmt := top 43
abbrev st__law_moves_rows : Stmt := top 44
abbrev st__law_turned_pairs : Stmt := top 45
abbrev st__law_quaternion_rows : Stmt := top 46
abbrev st__law_renamed_group : Stmt := top 47
abbrev st__law_group_rows : Stmt := top 48
abbrev st__law_falls : Stmt := top 49
abbrev st__law_unit : Stmt := top 50
abbrev st__law_inverse : Stmt := top 51
abbrev st__law_made_closed : Stmt := top 52
abbrev st__law_group_parts : Stmt := top 53
abbrev st__law_is_whole_part : Stmt := top 54
abbrev st__law_sides : Stmt := top 55
abbrev st__law_quotient_right : Stmt := top 56
abbrev st__law_right : Stmt := top 57
abbrev st_law : Stmt := top 58
abbrev st_Group____init__ : Stmt := cm (top 29) 0
abbrev st_Group__rows : Stmt := cm (top 29) 5
abbrev st_Group__unit : Stmt := cm (top 29) 7
abbrev st_Group____len__ : Stmt := cm (top 29) 20
abbrev st_Group__size : Stmt := cm (top 29) 6
abbrev st_Group__times : Stmt := cm (top 29) 10
abbrev st_Group__closure : Stmt := cm (top 29) 14
abbrev st_Group__is_whole : Stmt := cm (top 29) 16
abbrev st_Group__parts : Stmt := cm (top 29) 15
abbrev st_Group__quotient : Stmt := cm (top 29) 17
def dd__wall : He.DefD := ⟨("_wall", none), "_wall", "_wall", defArgs st__wall, defBody st__wall, defScope st__wall, [], []⟩
def dd_is_integer : He.DefD := ⟨("is_integer", none), "is_integer", "is_integer", defArgs st_is_integer, defBody st_is_integer, defScope st_is_integer, [], []⟩
def dd_is_thing : He.DefD := ⟨("is_thing", none), "is_thing", "is_thing", defArgs st_is_thing, defBody st_is_thing, defScope st_is_thing, [], []⟩
def dd_is_row : He.DefD := ⟨("is_row", none), "is_row", "is_row", defArgs st_is_row, defBody st_is_row, defScope st_is_row, [], []⟩
def dd_is_square : He.DefD := ⟨("is_square", none), "is_square", "is_square", defArgs st_is_square, defBody st_is_square, defScope st_is_square, [], []⟩
def dd_is_lot : He.DefD := ⟨("is_lot", none), "is_lot", "is_lot", defArgs st_is_lot, defBody st_is_lot, defScope st_is_lot, [], []⟩
def dd_check_thing : He.DefD := ⟨("check_thing", none), "check_thing", "check_thing", defArgs st_check_thing, defBody st_check_thing, defScope st_check_thing, [], []⟩
def dd_check_lot : He.DefD := ⟨("check_lot", none), "check_lot", "check_lot", defArgs st_check_lot, defBody st_check_lot, defScope st_check_lot, [], []⟩
def dd_unit_of : He.DefD := ⟨("unit_of", none), "unit_of", "unit_of", defArgs st_unit_of, defBody st_unit_of, defScope st_unit_of, [], []⟩
def dd_back_of : He.DefD := ⟨("back_of", none), "back_of", "back_of", defArgs st_back_of, defBody st_back_of, defScope st_back_of, [], []⟩
def dd_backs_of : He.DefD := ⟨("backs_of", none), "backs_of", "backs_of", defArgs st_backs_of, defBody st_backs_of, defScope st_backs_of, [], []⟩
def dd_broken_three : He.DefD := ⟨("broken_three", none), "broken_three", "broken_three", defArgs st_broken_three, defBody st_broken_three, defScope st_broken_three, [], []⟩
def dd_centre_of : He.DefD := ⟨("centre_of", none), "centre_of", "centre_of", defArgs st_centre_of, defBody st_centre_of, defScope st_centre_of, [], []⟩
def dd_least_part : He.DefD := ⟨("least_part", none), "least_part", "least_part", defArgs st_least_part, defBody st_least_part, defScope st_least_part, [], []⟩
def dd_pair_rows : He.DefD := ⟨("pair_rows", none), "pair_rows", "pair_rows", defArgs st_pair_rows, defBody st_pair_rows, defScope st_pair_rows, [], []⟩
def dd_group_paper : He.DefD := ⟨("group_paper", none), "group_paper", "group_paper", defArgs st_group_paper, defBody st_group_paper, defScope st_group_paper, [], []⟩
def dd__check_rows : He.DefD := ⟨("_check_rows", none), "_check_rows", "_check_rows", defArgs st__check_rows, defBody st__check_rows, defScope st__check_rows, [], []⟩
def dd__law_dice : He.DefD := ⟨("_law_dice", none), "_law_dice", "_law_dice", defArgs st__law_dice, defBody st__law_dice, defScope st__law_dice, [], []⟩
def dd__law_roll : He.DefD := ⟨("_law_roll", none), "_law_roll", "_law_roll", defArgs st__law_roll, defBody st__law_roll, defScope st__law_roll, [], []⟩
def dd__law_pick : He.DefD := ⟨("_law_pick", none), "_law_pick", "_law_pick", defArgs st__law_pick, defBody st__law_pick, defScope st__law_pick, [], []⟩
def dd__law_mixed : He.DefD := ⟨("_law_mixed", none), "_law_mixed", "_law_mixed", defArgs st__law_mixed, defBody st__law_mixed, defScope st__law_mixed, [], []⟩
def dd__law_some : He.DefD := ⟨("_law_some", none), "_law_some", "_law_some", defArgs st__law_some, defBody st__law_some, defScope st__law_some, [], []⟩
def dd__law_orders : He.DefD := ⟨("_law_orders", none), "_law_orders", "_law_orders", defArgs st__law_orders, defBody st__law_orders, defScope st__law_orders, [], []⟩
def dd__law_joined : He.DefD := ⟨("_law_joined", none), "_law_joined", "_law_joined", defArgs st__law_joined, defBody st__law_joined, defScope st__law_joined, [], []⟩
def dd__law_undone : He.DefD := ⟨("_law_undone", none), "_law_undone", "_law_undone", defArgs st__law_undone, defBody st__law_undone, defScope st__law_undone, [], []⟩
def dd__law_drawn_move : He.DefD := ⟨("_law_drawn_move", none), "_law_drawn_move", "_law_drawn_move", defArgs st__law_drawn_move, defBody st__law_drawn_move, defScope st__law_drawn_move, [], []⟩
def dd__law_places_of : He.DefD := ⟨("_law_places_of", none), "_law_places_of", "_law_places_of", defArgs st__law_places_of, defBody st__law_places_of, defScope st__law_places_of, [], []⟩
def dd__law_product_dots : He.DefD := ⟨("_law_product_dots", none), "_law_product_dots", "_law_product_dots", defArgs st__law_product_dots, defBody st__law_product_dots, defScope st__law_product_dots, [], []⟩
def dd__law_cyclic : He.DefD := ⟨("_law_cyclic", none), "_law_cyclic", "_law_cyclic", defArgs st__law_cyclic, defBody st__law_cyclic, defScope st__law_cyclic, [], []⟩
def dd__law_direct : He.DefD := ⟨("_law_direct", none), "_law_direct", "_law_direct", defArgs st__law_direct, defBody st__law_direct, defScope st__law_direct, [], []⟩
def dd__law_moves_rows : He.DefD := ⟨("_law_moves_rows", none), "_law_moves_rows", "_law_moves_rows", defArgs st__law_moves_rows, defBody st__law_moves_rows, defScope st__law_moves_rows, [], []⟩
def dd__law_turned_pairs : He.DefD := ⟨("_law_turned_pairs", none), "_law_turned_pairs", "_law_turned_pairs", defArgs st__law_turned_pairs, defBody st__law_turned_pairs, defScope st__law_turned_pairs, [], []⟩
def dd__law_quaternion_rows : He.DefD := ⟨("_law_quaternion_rows", none), "_law_quaternion_rows", "_law_quaternion_rows", defArgs st__law_quaternion_rows, defBody st__law_quaternion_rows, defScope st__law_quaternion_rows, [], []⟩
def dd__law_renamed_group : He.DefD := ⟨("_law_renamed_group", none), "_law_renamed_group", "_law_renamed_group", defArgs st__law_renamed_group, defBody st__law_renamed_group, defScope st__law_renamed_group, [], []⟩
def dd__law_group_rows : He.DefD := ⟨("_law_group_rows", none), "_law_group_rows", "_law_group_rows", defArgs st__law_group_rows, defBody st__law_group_rows, defScope st__law_group_rows, [], []⟩
def dd__law_falls : He.DefD := ⟨("_law_falls", none), "_law_falls", "_law_falls", defArgs st__law_falls, defBody st__law_falls, defScope st__law_falls, [], []⟩
def dd__law_unit : He.DefD := ⟨("_law_unit", none), "_law_unit", "_law_unit", defArgs st__law_unit, defBody st__law_unit, defScope st__law_unit, [], []⟩
def dd__law_inverse : He.DefD := ⟨("_law_inverse", none), "_law_inverse", "_law_inverse", defArgs st__law_inverse, defBody st__law_inverse, defScope st__law_inverse, [], []⟩
def dd__law_made_closed : He.DefD := ⟨("_law_made_closed", none), "_law_made_closed", "_law_made_closed", defArgs st__law_made_closed, defBody st__law_made_closed, defScope st__law_made_closed, [], []⟩
def dd__law_group_parts : He.DefD := ⟨("_law_group_parts", none), "_law_group_parts", "_law_group_parts", defArgs st__law_group_parts, defBody st__law_group_parts, defScope st__law_group_parts, [], []⟩
def dd__law_is_whole_part : He.DefD := ⟨("_law_is_whole_part", none), "_law_is_whole_part", "_law_is_whole_part", defArgs st__law_is_whole_part, defBody st__law_is_whole_part, defScope st__law_is_whole_part, [], []⟩
def dd__law_sides : He.DefD := ⟨("_law_sides", none), "_law_sides", "_law_sides", defArgs st__law_sides, defBody st__law_sides, defScope st__law_sides, [], []⟩
def dd__law_quotient_right : He.DefD := ⟨("_law_quotient_right", none), "_law_quotient_right", "_law_quotient_right", defArgs st__law_quotient_right, defBody st__law_quotient_right, defScope st__law_quotient_right, [], []⟩
def dd__law_right : He.DefD := ⟨("_law_right", none), "_law_right", "_law_right", defArgs st__law_right, defBody st__law_right, defScope st__law_right, [], []⟩
def dd_law : He.DefD := ⟨("law", none), "law", "law", defArgs st_law, defBody st_law, defScope st_law, [], []⟩
def dd_Group____init__ : He.DefD := ⟨("Group", some "__init__"), "__init__", "Group.__init__", defArgs st_Group____init__, defBody st_Group____init__, defScope st_Group____init__, [], []⟩
def dd_Group____len__ : He.DefD := ⟨("Group", some "__len__"), "__len__", "Group.__len__", defArgs st_Group____len__, defBody st_Group____len__, defScope st_Group____len__, [], []⟩
def dd_Group__times : He.DefD := ⟨("Group", some "times"), "times", "Group.times", defArgs st_Group__times, defBody st_Group__times, defScope st_Group__times, [], []⟩
def dd_Group__closure : He.DefD := ⟨("Group", some "closure"), "closure", "Group.closure", defArgs st_Group__closure, defBody st_Group__closure, defScope st_Group__closure, [], []⟩
def dd_Group__is_whole : He.DefD := ⟨("Group", some "is_whole"), "is_whole", "Group.is_whole", defArgs st_Group__is_whole, defBody st_Group__is_whole, defScope st_Group__is_whole, [], []⟩
def dd_Group__parts : He.DefD := ⟨("Group", some "parts"), "parts", "Group.parts", defArgs st_Group__parts, defBody st_Group__parts, defScope st_Group__parts, [], []⟩
def dd_Group__quotient : He.DefD := ⟨("Group", some "quotient"), "quotient", "Group.quotient", defArgs st_Group__quotient, defBody st_Group__quotient, defScope st_Group__quotient, [], []⟩
def fn : List He.DefD := [dd__wall, dd_is_integer, dd_is_thing, dd_is_row, dd_is_square, dd_is_lot, dd_check_thing, dd_check_lot, dd_unit_of, dd_back_of, dd_backs_of, dd_broken_three, dd_centre_of, dd_least_part, dd_pair_rows, dd_group_paper, dd__check_rows, dd__law_dice, dd__law_roll, dd__law_pick, dd__law_mixed, dd__law_some, dd__law_orders, dd__law_joined, dd__law_undone, dd__law_drawn_move, dd__law_places_of, dd__law_product_dots, dd__law_cyclic, dd__law_direct, dd__law_moves_rows, dd__law_turned_pairs, dd__law_quaternion_rows, dd__law_renamed_group, dd__law_group_rows, dd__law_falls, dd__law_unit, dd__law_inverse, dd__law_made_closed, dd__law_group_parts, dd__law_is_whole_part, dd__law_sides, dd__law_quotient_right, dd__law_right, dd_law, dd_Group____init__, dd_Group____len__, dd_Group__times, dd_Group__closure, dd_Group__is_whole, dd_Group__parts, dd_Group__quotient]
def fa : List He.Fa := [.glo "_wall", .glo "is_integer", .glo "is_thing", .glo "is_row", .glo "is_square", .glo "is_lot", .glo "check_thing", .glo "check_lot", .glo "unit_of", .glo "back_of", .glo "backs_of", .glo "broken_three", .glo "centre_of", .glo "least_part", .glo "pair_rows", .glo "group_paper", .glo "_check_rows", .glo "_law_dice", .glo "_law_roll", .glo "_law_pick", .glo "_law_mixed", .glo "_law_some", .glo "_law_orders", .glo "_law_joined", .glo "_law_undone", .glo "_law_drawn_move", .glo "_law_places_of", .glo "_law_product_dots", .glo "_law_cyclic", .glo "_law_direct", .glo "_law_moves_rows", .glo "_law_turned_pairs", .glo "_law_quaternion_rows", .glo "_law_renamed_group", .glo "_law_group_rows", .glo "_law_falls", .glo "_law_unit", .glo "_law_inverse", .glo "_law_made_closed", .glo "_law_group_parts", .glo "_law_is_whole_part", .glo "_law_sides", .glo "_law_quotient_right", .glo "_law_right", .glo "law", .free "len", .free "range", .free "tuple", .free "list", .free "isinstance", .free "int", .free "bool", .free "str", .free "abs", .free "max", .free "min", .free "all", .free "any", .free "sum", .free "sorted", .free "enumerate", .free "repr", .free "set", .free "dict", .free "zip", .free "divmod", .int "TOO_LONG" 1000000000000000000000000000000000000000000000000000000000000, .int "MAX_GROUP" 24, .glo "Group", .cls "Group", .mkr "Group", .noat "Group" "_rows", .noat "Group" "_unit", .noat "Group" "_backs", .noat "Group" "_centre", .meth "Group" "__len__", .meth "Group" "times", .meth "Group" "closure", .meth "Group" "is_whole", .meth "Group" "parts", .meth "Group" "quotient"]
def lo0 : List PySem.Str := ["_wall", "NamesError", "InvalidGroup", "InvalidOperation", "InvalidNumber", "TooMany", "Refused", "TOO_LONG", "is_integer", "is_thing", "is_row", "is_square", "is_lot", "check_thing", "check_lot", "unit_of", "back_of", "backs_of", "broken_three", "centre_of", "least_part", "pair_rows", "MAX_GROUP", "group_paper", "_check_rows", "Group", "_law_dice", "_law_roll", "_law_pick", "_law_mixed"]
def lo1 : List PySem.Str := ["_law_some", "_law_orders", "_law_joined", "_law_undone", "_law_drawn_move", "_law_places_of", "_law_product_dots", "_law_cyclic", "_law_direct", "_law_moves_rows", "_law_turned_pairs", "_law_quaternion_rows", "_law_renamed_group", "_law_group_rows", "_law_falls", "_law_unit", "_law_inverse", "_law_made_closed", "_law_group_parts", "_law_is_whole_part", "_law_sides", "_law_quotient_right", "_law_right"]
def loose : List PySem.Str := lo0 ++ lo1
abbrev R : PySem.W.OpenRow := PySem.W.OpenLaw.row PySem.Challenge.rw_truenames_k07_whole_parts_and_quotients
def bf : List (PySem.Str × String) := []
def xb (K : PySem.W.Frag) : Bool := (Dn.lamK K).isEmpty && ((List.lookup 1 K).isSome && (He.obB K "Group" && (He.prB K (He.ga K "Group") "rows" && (He.gfB K (He.gtA K (He.ga K "Group") "rows") && (He.prB K (He.ga K "Group") "unit" && (He.gfB K (He.gtA K (He.ga K "Group") "unit") && (He.prB K (He.ga K "Group") "size" && (He.gfB K (He.gtA K (He.ga K "Group") "size")))))))))
def xf (K : PySem.W.Frag) : List He.FnB := [He.fnB K (He.gtA K (He.ga K "Group") "rows"), He.fnB K (He.gtA K (He.ga K "Group") "unit"), He.fnB K (He.gtA K (He.ga K "Group") "size")]
def vl (q : PySem.Str) (n : PySem.Str) (st : Stmt) : He.FnB := some (n, q, defArgs st, FuncBody.stmts (defBody st), defScope st, mainGlobals, builtinsNs)
def vals : List He.FnB := [vl "Group.rows" "rows" st_Group__rows, vl "Group.unit" "unit" st_Group__unit, vl "Group.size" "size" st_Group__size]
def as0 : List PySem.Addr := [2, 1, 3, 6, 4, 21, 31, 44, 56, 77, 99, 121, 131, 138, 145, 150, 157, 164, 171, 176, 183, 188, 195, 200, 207, 212, 219, 226, 405, 416, 423, 430, 437, 442, 447, 452, 457, 464, 469, 474, 479, 486, 491, 498, 505, 510, 515, 520, 525, 532, 537, 544, 549, 554, 559, 564, 571, 0, 20, 30]
def as1 : List PySem.Addr := [43, 55, 76, 98, 120, 130, 137, 144, 149, 156, 163, 170, 175, 182, 187, 194, 199, 206, 211, 218, 225, 404, 415, 422, 429, 436, 441, 446, 451, 456, 463, 468, 473, 478, 485, 490, 497, 504, 509, 514, 519, 524, 531, 536, 543, 548, 553, 558, 563, 570, 15, 16, 17, 18, 19, 29, 32, 42, 54, 74]
def as2 : List PySem.Addr := [75, 78, 96, 97, 100, 118, 119, 122, 125, 126, 127, 128, 129, 132, 133, 134, 135, 136, 139, 140, 141, 142, 143, 146, 147, 148, 151, 152, 153, 154, 155, 158, 159, 160, 161, 162, 165, 166, 167, 168, 169, 172, 173, 174, 177, 178, 179, 180, 181, 184, 185, 186, 189, 190, 191, 192, 193, 196, 197, 198]
def as3 : List PySem.Addr := [201, 202, 203, 204, 205, 208, 209, 210, 213, 214, 215, 216, 217, 220, 221, 222, 223, 224, 240, 249, 259, 269, 279, 288, 296, 304, 312, 320, 327, 334, 341, 348, 355, 362, 369, 374, 381, 388, 395, 402, 403, 406, 407, 410, 411, 412, 413, 414, 417, 418, 419, 420, 421, 424, 425, 426, 427, 428, 431, 432]
def as4 : List PySem.Addr := [433, 434, 435, 438, 439, 440, 443, 444, 445, 448, 449, 450, 453, 454, 455, 458, 459, 460, 461, 462, 465, 466, 467, 470, 471, 472, 475, 476, 477, 480, 481, 482, 483, 484, 487, 488, 489, 492, 493, 494, 495, 496, 499, 500, 501, 502, 503, 506, 507, 508, 511, 512, 513, 516, 517, 518, 521, 522, 523, 526]
def as5 : List PySem.Addr := [527, 528, 529, 530, 533, 534, 535, 538, 539, 540, 541, 542, 545, 546, 547, 550, 551, 552, 555, 556, 557, 560, 561, 562, 565, 566, 567, 568, 569, 73, 62, 95, 84, 117, 106, 239, 247, 248, 257, 258, 267, 268, 277, 278, 287, 295, 303, 311, 319, 326, 333, 340, 347, 354, 361, 368, 373, 380, 387, 394]
def as6 : List PySem.Addr := [401, 68, 69, 70, 71, 72, 90, 91, 92, 93, 94, 112, 113, 114, 115, 116, 234, 235, 236, 237, 238, 246, 250, 256, 260, 266, 270, 276, 280, 286, 294, 302, 310, 318, 321, 322, 323, 324, 325, 328, 329, 330, 331, 332, 335, 336, 337, 338, 339, 342, 343, 344, 345, 346, 349, 350, 351, 352, 353, 356]
def as7 : List PySem.Addr := [357, 358, 359, 360, 363, 364, 365, 366, 367, 370, 371, 372, 375, 376, 377, 378, 379, 382, 383, 384, 385, 386, 389, 390, 391, 392, 393, 396, 397, 398, 399, 400]
def asL : List PySem.Addr := as0 ++ as1 ++ as2 ++ as3 ++ as4 ++ as5 ++ as6 ++ as7
abbrev hk : PySem.W.Hook := He.hookL asL bf fa fn xb xf vals
def ob (s : PySem.W.SharedT) : He.AlD × List He.FnB := He.obsLG asL bf fa fn xb xf (HandSHeadRun.getT s)
theorem ob_eq (s : PySem.W.SharedT) : ob s = hk.obs s.abs := He.obsLG_eq (HandSHeadRun.getT_eq s)
theorem run (w : World) : HandSHeadRun.RunEq R (PySem.W.view R.prog [58]) hk ob 6000 loose w := by
  intro os
  kernel_rfl
end Hd
set_option Elab.async false
set_option linter.all false
set_option maxRecDepth 100000
set_option autoImplicit false
set_option maxHeartbeats 2000000
namespace He
open PySem PySem.Spec PyProof.Rows L2 PySem.W
theorem obB_ok {K : Frag} {nm : Str} (h : obB K nm = true) (c : Cls K (ga K nm)) : Dn.adrOf K nm = ga K nm ∧ Dn.ObjC K (Dn.adrOf K nm) ∧ Dn.IsC K (Dn.adrOf K nm) ∧ findIn K (.ref (Dn.adrOf K nm)) "__ne__" = some (some (.builtin "object.__ne__")) := by
  unfold obB at h
  simp only [Bool.and_eq_true, decide_eq_true_eq] at h
  obtain ⟨h1, h2, h3, h4, h5, h6, h7, h8⟩ := h
  refine ⟨h1, ?_⟩
  rw [h1]
  obtain ⟨cd, e1, e2⟩ := Option.map_eq_some_iff.mp h5
  have mr : ∀ b : Value, mroIn K (ga K nm) b = some ([Value.ref (ga K nm), .type "object"].contains b) := fun b => by
    unfold mroIn
    rw [e1, Option.bind_some, e2]
    rfl
  refine ⟨⟨c, eqO_ok h2, eqO_ok h3, h4, ?_, h6, eqO_ok h7, fun tn b ns hk => ?_⟩, ⟨?_, h6⟩, eqO_ok h8⟩
  · rw [mr]
    simp
  · unfold kitB at hk
    rw [if_neg (by simpa using fun e => ns e.symm)] at hk
    unfold kitOne
    rw [if_neg (by simp)]
    show (if kitMeta tn = true then subIn K (.ref (ga K nm)) (.type tn) else none) = some b
    split at hk
    · rename_i hm
      rw [if_pos hm]
      show mroIn K (ga K nm) (.type tn) = some b
      rw [mr]
      rw [show PySem.fastBuiltinMro "slice" = some [.type "slice", .type "object"] by kernel_rfl] at hk
      simp only [Option.map_some, Option.some.injEq] at hk
      rw [← hk]
      congr 1
      simp only [List.contains_cons, List.contains_nil, Bool.or_false]
      have n1 : (Value.type tn == Value.type "slice") = false := by simpa using ns
      have n2 : (Value.type tn == Value.ref (ga K nm)) = false := by simp
      rw [n1, n2]
    · cases hk
  · rw [e1]; rfl
end He
set_option Elab.async false
set_option linter.all false
set_option maxRecDepth 100000
set_option autoImplicit false
set_option maxHeartbeats 4000000
namespace Dn
open PySem L2 Evl PySem.Spec PyProof.Rows
theorem tyN_dl (kvs : List (D × D)) : tyN (.dict kvs) = "dict" ∨ tyN (.dict kvs) = "list" ∨ tyN (.dict kvs) = "slice" ∨ tyN (.dict kvs) = "type" ∨ tyN (.dict kvs) = "function" := by
  unfold tyN
  split <;> first | exact .inl rfl | exact .inr (.inl rfl) | exact .inr (.inr (.inl rfl)) | exact .inr (.inr (.inr (.inl rfl))) | exact .inr (.inr (.inr (.inr rfl))) | (rename_i h; cases h; done)
theorem kit_int (d : D) : kitB (tyN d) "int" = some (match d with | .int _ => true | .bool _ => true | _ => false) := by
  cases d with
  | dict kvs => rcases tyN_dl kvs with e | e | e | e | e <;> (rw [e]; show _ = some false; decide +kernel)
  | _ => simp only [tyN]; decide +kernel
theorem kit_bool (d : D) : kitB (tyN d) "bool" = some (match d with | .bool _ => true | _ => false) := by
  cases d with
  | dict kvs => rcases tyN_dl kvs with e | e | e | e | e <;> (rw [e]; show _ = some false; decide +kernel)
  | _ => simp only [tyN]; decide +kernel
theorem kit_tuple (d : D) : kitB (tyN d) "tuple" = some (match d with | .tuple _ => true | _ => false) := by
  cases d with
  | dict kvs => rcases tyN_dl kvs with e | e | e | e | e <;> (rw [e]; show _ = some false; decide +kernel)
  | _ => simp only [tyN]; decide +kernel
theorem kit_str (d : D) : kitB (tyN d) "str" = some (match d with | .str _ => true | _ => false) := by
  cases d with
  | dict kvs => rcases tyN_dl kvs with e | e | e | e | e <;> (rw [e]; show _ = some false; decide +kernel)
  | _ => simp only [tyN]; decide +kernel
theorem bool_ways {b : Bool} {P1 P2 : Prop} (h1 : b = true → P1) (h2 : b = false → P2) : (match PyData.bool b with | .bool true => P1 | .bool false => P2 | _ => False) := by
  cases b
  · exact h2 rfl
  · exact h1 rfl
theorem ite_ways {b : Bool} {P1 P2 : Prop} (h1 : b = true → P1) (h2 : b = false → P2) : (if b = true then P1 else P2) := by
  cases b
  · exact h2 rfl
  · exact h1 rfl
end Dn
set_option Elab.async false
set_option linter.all false
set_option maxRecDepth 100000
set_option autoImplicit false
set_option maxHeartbeats 4000000
namespace Dn
open PySem L2 Evl PySem.Spec PyProof.Rows
theorem map_split {α β : Type} {f : α → β} {l : List α} {done rest : List β} {d : β} (e : l.map f = done ++ d :: rest) : ∃ l1 x l2, l = l1 ++ x :: l2 ∧ done = l1.map f ∧ d = f x ∧ rest = l2.map f := by
  obtain ⟨l1, l2, h1, h2, h3⟩ := List.map_eq_append_iff.mp e
  cases l2 with
  | nil => simp at h3
  | cons x l2 =>
    simp at h3
    exact ⟨l1, x, l2, h1, h2.symm, h3.1.symm, h3.2.symm⟩
theorem wpLc_mapL {α : Type} {g : DG} {tt : DT} {te : DE} {vs : List Nat} {Q : List D → Env → Prop} (l : List α) (f h : α → D) {ρ0 : Env} (hl : l.length < 16777216) (hw : wipeD ρ0 vs = ρ0)
    (hs : ∀ x, x ∈ l → ∀ (K : D → Env → Prop), (∀ ρ3, wipeD ρ3 vs = ρ0 → K (h x) ρ3) → g (f x) ρ0 fun ρ1 => tt ρ1 fun b ρ2 => if b = true then te ρ2 fun y ρ3 => K y ρ3 else False)
    (hf : ∀ ρ1, tt ρ1 = fun K => K true ρ1) (he : Q (l.map h) ρ0) : wpLc g tt te vs Q (l.map f) [] ρ0 := by
  refine wpLc_cps (fun done acc ρ => ∃ l1 l2, l = l1 ++ l2 ∧ done = l1.map f ∧ acc = l1.map h ∧ ρ = ρ0) ⟨[], l, rfl, rfl, rfl, rfl⟩ (fun done d rest acc ρ K e p k => ?_) (fun acc ρ p => ?_)
  · obtain ⟨l1, x, l2, rfl, rfl, rfl, rfl⟩ := map_split e
    obtain ⟨m1, m2, e1, e2, rfl, rfl⟩ := p
    have e3 : m1 = l1 := by
      have h1 := congrArg List.length e2
      simp at h1
      have h2 := congrArg (List.take m1.length) e1
      rw [List.take_left, h1.symm, List.take_left] at h2
      exact h2.symm
    subst e3
    refine ⟨by simp at hl ⊢; omega, ?_⟩
    rw [hw]
    have z := hs x (by simp) (fun y ρ3 => K (m1.map h ++ [y]) (wipeD ρ3 vs)) fun ρ3 w => by rw [w]; exact k _ _ ⟨m1 ++ [x], l2, by simp, by simp, by simp, rfl⟩
    have e2 : (fun ρ1 => tt ρ1 fun b ρ2 => if b = true then te ρ2 fun y ρ3 => K (m1.map h ++ [y]) (wipeD ρ3 vs) else False) = fun ρ1 => tt ρ1 fun b ρ2 => if b = true then te ρ2 fun y ρ3 => K (m1.map h ++ [y]) (wipeD ρ3 vs) else K (m1.map h) (wipeD ρ2 vs) := by
      funext ρ1
      rw [hf ρ1]
      simp
    rw [← e2]
    exact z
  · obtain ⟨m1, m2, rfl, e2, rfl, rfl⟩ := p
    have : m2 = [] := by
      have h1 := congrArg List.length e2
      simp at h1
      exact h1
    subst this
    simpa using he
theorem wpLc_filL {α : Type} {g : DG} {tt : DT} {te : DE} {vs : List Nat} {Q : List D → Env → Prop} (l : List α) (f h : α → D) (p : α → Bool) {ρ0 : Env} (hl : l.length < 16777216) (hw : wipeD ρ0 vs = ρ0)
    (hs : ∀ x, x ∈ l → ∀ (K : D → Env → Prop) (N : Env → Prop), (p x = true → ∀ ρ3, wipeD ρ3 vs = ρ0 → K (h x) ρ3) → (p x = false → ∀ ρ3, wipeD ρ3 vs = ρ0 → N ρ3) → g (f x) ρ0 fun ρ1 => tt ρ1 fun b ρ2 => if b = true then te ρ2 fun y ρ3 => K y ρ3 else N ρ2)
    (he : Q ((l.filter p).map h) ρ0) : wpLc g tt te vs Q (l.map f) [] ρ0 := by
  refine wpLc_cps (fun done acc ρ => ∃ l1 l2, l = l1 ++ l2 ∧ done = l1.map f ∧ acc = (l1.filter p).map h ∧ ρ = ρ0) ⟨[], l, rfl, rfl, rfl, rfl⟩ (fun done d rest acc ρ K e q k => ?_) (fun acc ρ q => ?_)
  · obtain ⟨l1, x, l2, rfl, rfl, rfl, rfl⟩ := map_split e
    obtain ⟨m1, m2, e1, e2, rfl, rfl⟩ := q
    have e3 : m1 = l1 := by
      have h1 := congrArg List.length e2
      simp at h1
      have h2 := congrArg (List.take m1.length) e1
      rw [List.take_left, h1.symm, List.take_left] at h2
      exact h2.symm
    subst e3
    refine ⟨?_, ?_⟩
    · have h1 := List.length_filter_le p m1
      simp at hl ⊢
      omega
    · rw [hw]
      refine hs x (by simp) (fun y ρ3 => K ((m1.filter p).map h ++ [y]) (wipeD ρ3 vs)) (fun ρ2 => K ((m1.filter p).map h) (wipeD ρ2 vs)) (fun hp ρ3 w => ?_) (fun hp ρ3 w => ?_)
      · rw [w]; exact k _ _ ⟨m1 ++ [x], l2, by simp, by simp, by rw [List.filter_append, List.filter_cons_of_pos hp]; simp, rfl⟩
      · rw [w]; exact k _ _ ⟨m1 ++ [x], l2, by simp, by simp, by rw [List.filter_append, List.filter_cons_of_neg (by simp [hp])]; simp, rfl⟩
  · obtain ⟨m1, m2, rfl, e2, rfl, rfl⟩ := q
    have : m2 = [] := by
      have h1 := congrArg List.length e2
      simp at h1
      exact h1
    subst this
    simpa using he
theorem wpFor_fs {α : Type} {g : DG} {body : DS} {N bk ct : Env → Prop} {Q : D → Prop} (l : List α) (it : α → D) (f : α → Option D) {ρ0 : Env} (I : Env → Prop) (h0 : I ρ0)
    (hs : ∀ x, x ∈ l → ∀ (ρ : Env) (K B : Env → Prop), I ρ → (∀ v, f x = some v → Q v) → (f x = none → ∀ ρ', I ρ' → K ρ') → g (it x) ρ fun ρ1 => body { nx := K, ct := K, bk := B, rt := fun d _ => Q d } ρ1)
    (hf : ∀ v, l.findSome? f = some v → Q v) (hn : l.findSome? f = none → ∀ ρ, I ρ → N ρ) : wpFor g body { nx := N, rt := fun d _ => Q d, bk := bk, ct := ct } (l.map it) ρ0 := by
  induction l generalizing ρ0 with
  | nil => exact hn rfl ρ0 h0
  | cons d ds ih =>
    refine hs d List.mem_cons_self ρ0 _ _ h0 (fun v e => hf v ?_) (fun e ρ' i => ih i (fun d hd => hs d (List.mem_cons_of_mem _ hd)) (fun v h => hf v ?_) fun h => hn ?_)
    · rw [List.findSome?_cons, e]
    · rw [List.findSome?_cons, e]; exact h
    · rw [List.findSome?_cons, e]; exact h
theorem fs_find {α β : Type} (p : α → Bool) (r : α → β) : ∀ l : List α, l.findSome? (fun x => if p x = true then some (r x) else none) = (l.find? p).map r
  | [] => rfl
  | x :: l => by
    rw [List.findSome?_cons, List.find?_cons]
    cases h : p x
    · simp [fs_find p r l]
    · simp
theorem dLen_tR {rs : List (List Int)} {Q : D → Prop} : dLen [tR rs] Q = Q (.int rs.length) := by show Q _ = _; simp
theorem dLen_tI {rs : List Int} {Q : D → Prop} : dLen [tI rs] Q = Q (.int rs.length) := by show Q _ = _; simp
theorem dLen_tup {xs : List D} {Q : D → Prop} : dLen [.tuple xs] Q = Q (.int xs.length) := rfl
theorem dLen_lst {xs : List D} {Q : D → Prop} : dLen [.list xs] Q = Q (.int xs.length) := rfl
theorem seq_tup {xs : List D} : seqD (.tuple xs) = some xs := rfl
theorem seq_lst {xs : List D} : seqD (.list xs) = some xs := rfl
theorem tI_def (xs : List Int) : (PyData.tuple (xs.map PyData.int)) = tI xs := rfl
theorem enD_map {α : Type} (l : List α) (f : α → D) (d : α) : enD (l.map f) = (rgI l.length).map fun k => .tuple [.int k, f (l.getD k.toNat d)] := by
  apply List.ext_getElem?
  intro i
  by_cases h : i < l.length
  · unfold enD
    rw [List.getElem?_zipWith, List.getElem?_map, List.getElem?_map, rgI_get h, List.length_map, List.getElem?_range h]
    simp [h, List.getD]
  · rw [List.getElem?_eq_none_iff.mpr (by rw [enD_len]; simp; omega), List.getElem?_eq_none_iff.mpr (by simp [rgI_len]; omega)]
end Dn
set_option Elab.async false
set_option linter.all false
set_option maxRecDepth 100000
set_option autoImplicit false
set_option maxHeartbeats 4000000
namespace Dn
open PySem L2 Evl PySem.Spec PyProof.Rows
abbrev VD (g : DS) (S : List D → (D → Prop) → Prop) (np m : Nat) : Prop := ∀ (ds : List D) (Q : D → Prop), ds.length = np → S ds Q → g { nx := fun _ => Q .none, rt := fun d _ => Q d } (envD ds m)
abbrev VM (g : DS) (S : List D → List D → (D → List D → Prop) → Prop) (np m : Nat) : Prop := ∀ (l : Addr) (ms ds : List D) (Q : D → List D → Prop), ds.length + 1 = np → S ms ds Q →
  g { nx := fun ρ => ∃ ms', ρ[0]? = some (some (.ow (.par l (.lst ms')))) ∧ Q .none ms', rt := fun d ρ => ∃ ms', ρ[0]? = some (some (.ow (.par l (.lst ms')))) ∧ Q d ms' } (some (.ow (.par l (.lst ms))) :: envD ds m)
abbrev VL (g : (List D → Prop) → Env → Prop) (S : List D → (List D → Prop) → Prop) (np m : Nat) : Prop := ∀ (ds : List D) (Q : List D → Prop), ds.length = np → S ds Q → g Q (envD ds m)
theorem wpWh_lt {β : Type} {c : DT} {body : DS} {E : DEnds} (R : β → Env → Prop) (μ : β → Nat)
    (hs : ∀ (b : β) (ρ : Env) (K : Env → Prop), R b ρ → (∀ b' ρ', μ b' < μ b → R b' ρ' → K ρ') → c ρ fun t ρ1 => if t = true then body { nx := K, ct := K, bk := E.nx, rt := E.rt, er := E.er } ρ1 else E.nx ρ1)
    {b : β} {ρ : Env} (h : R b ρ) : ∃ n, wpWh c body E n ρ := by
  have aux : ∀ (n : Nat) (b : β) (ρ : Env), μ b < n → R b ρ → wpWh c body E n ρ := by
    intro n
    induction n with
    | zero => intro b ρ h; omega
    | succ n ih => intro b ρ h r; exact hs b ρ _ r fun b' ρ' lt r' => ih b' ρ' (by omega) r'
  exact ⟨μ b + 1, aux _ b ρ (by omega) h⟩
theorem wpFor_ap {α : Type} {g : DG} {body : DS} {E : DEnds} (l : List α) (it h : α → D) (R : List D → Env → Prop) {ρ0 : Env} (h0 : R [] ρ0)
    (hs : ∀ x, x ∈ l → ∀ (acc : List D) (ρ : Env) (K : Env → Prop), R acc ρ → acc.length < l.length → (∀ ρ', R (acc ++ [h x]) ρ' → K ρ') → g (it x) ρ fun ρ1 => body { nx := K, ct := K, bk := E.nx, rt := E.rt, er := E.er } ρ1)
    (he : ∀ ρ, R (l.map h) ρ → E.nx ρ) : wpFor g body E (l.map it) ρ0 := by
  refine wpFor_cps (fun done ρ => R ((l.take done.length).map h) ρ) (by simpa using h0) (fun done d rest ρ K e p k => ?_) (fun ρ p => he ρ (by simpa using p))
  obtain ⟨l1, x, l2, rfl, rfl, rfl, rfl⟩ := map_split e
  refine hs x (by simp) _ ρ K p (by simp) fun ρ' q => k ρ' ?_
  simp only [List.length_append, List.length_map, List.length_cons, List.length_nil] at q ⊢
  rw [show l1.length + (0 + 1) = (l1 ++ [x]).length by simp, show l1 ++ x :: l2 = (l1 ++ [x]) ++ l2 by simp, List.take_left']
  · simp at q ⊢; exact q
  · rfl
theorem wpLc_all {g : DG} {tt : DT} {te : DE} {vs : List Nat} {Q : List D → Env → Prop} {ds : List D} {ρ0 : Env} (Good : D → Prop) (I : Env → Prop) (h0 : I ρ0) (hl : ds.length < 16777216)
    (hs : ∀ d, d ∈ ds → ∀ (ρ : Env) (K : D → Env → Prop), I ρ → (∀ y ρ3, Good y → I (wipeD ρ3 vs) → K y ρ3) → g d (wipeD ρ vs) fun ρ1 => te ρ1 fun y ρ3 => K y ρ3)
    (hf : ∀ ρ1, tt ρ1 = fun K => K true ρ1) (he : ∀ acc ρ, acc.length = ds.length → (∀ y, y ∈ acc → Good y) → I ρ → Q acc ρ) : wpLc g tt te vs Q ds [] ρ0 := by
  refine wpLc_cps (fun done acc ρ => acc.length = done.length ∧ (∀ y, y ∈ acc → Good y) ∧ I ρ) ⟨rfl, by simp, h0⟩ (fun done d rest acc ρ K e p k => ?_) (fun acc ρ p => he acc ρ p.1 p.2.1 p.2.2)
  have el := congrArg List.length e
  simp at el
  refine ⟨by omega, ?_⟩
  simp only [hf, if_true]
  refine hs d (by rw [e]; simp) ρ _ p.2.2 fun y ρ3 gy i => k _ _ ⟨by simp [p.1], fun z hz => ?_, i⟩
  rcases List.mem_append.mp hz with hz | hz
  · exact p.2.1 z hz
  · rw [List.mem_singleton.mp hz]; exact gy
theorem wpFor_inv {g : DG} {body : DS} {E : DEnds} {ds : List D} {ρ0 : Env} (I : Env → Prop) (h0 : I ρ0)
    (hs : ∀ d, d ∈ ds → ∀ (ρ : Env) (K : Env → Prop), I ρ → (∀ ρ', I ρ' → K ρ') → g d ρ fun ρ1 => body { nx := K, ct := K, bk := E.nx, rt := E.rt, er := E.er } ρ1)
    (he : ∀ ρ, I ρ → E.nx ρ) : wpFor g body E ds ρ0 :=
  wpFor_cps (fun _ ρ => I ρ) h0 (fun done d rest ρ K e p k => hs d (by rw [e]; simp) ρ K p k) he
theorem all_map {α : Type} {f : α → D} {R : α → Prop} : ∀ {acc : List D}, (∀ y, y ∈ acc → ∃ r, y = f r ∧ R r) → ∃ C : List α, acc = C.map f ∧ ∀ r, r ∈ C → R r
  | [], _ => ⟨[], rfl, by simp⟩
  | y :: acc, h => by
    obtain ⟨r, rfl, hr⟩ := h y (by simp)
    obtain ⟨C, rfl, hC⟩ := all_map (acc := acc) fun y hy => h y (by simp [hy])
    exact ⟨r :: C, rfl, fun z hz => by rcases List.mem_cons.mp hz with rfl | hz; exact hr; exact hC z hz⟩
theorem mem_rgD {i j : Int} {d : D} (h : d ∈ rgD i j) : ∃ k : Int, d = .int k ∧ i ≤ k ∧ k < j := by
  unfold rgD at h
  obtain ⟨k, hk, rfl⟩ := List.mem_map.mp h
  have := List.mem_range.mp hk
  exact ⟨_, rfl, by omega, by omega⟩
theorem rgD_len {i j : Int} : (rgD i j).length = (j - i).toNat := by unfold rgD; simp
theorem cm_l {i j : Int} (h : -(2 ^ 64) < i ∧ i < 2 ^ 64) : CMul i j ∨ CMulW i j := .inl (.inl h)
theorem cm_r {i j : Int} (h : -(2 ^ 64) < j ∧ j < 2 ^ 64) : CMul i j ∨ CMulW i j := .inl (.inr h)
theorem cd_t {i t : Int} (h0 : 0 < t) (h1 : t ≤ 1000000000000000000000000000000000000000000000000000000000000) : CDivW i t := wide_div (b := 200) h0 (Nat.lt_of_le_of_lt (show t.natAbs ≤ 1000000000000000000000000000000000000000000000000000000000000 by omega) (by decide +kernel)) (by decide) (by decide)
theorem cm_n {i j : Int} (h0 : 0 ≤ i) (h : i ≤ 1000) : CMul i j ∨ CMulW i j := cm_l ⟨by omega, by omega⟩
theorem rgd {n : Nat} (h : n ≤ 1000) : RgD 0 (n : Int) := ⟨by omega, by omega, by omega, by omega⟩
theorem dLen_seq {d : D} {xs : List D} {Q : D → Prop} (h : seqD d = some xs) : dLen [d] Q = Q (.int xs.length) := by unfold dLen; dsimp only; rw [h]
theorem erase_permD {L : List D} {r : Nat} (h : r < L.length) : (L[r] :: L.eraseIdx r).Perm L := by
  rw [List.eraseIdx_eq_take_drop_succ]
  refine List.perm_middle.symm.trans ?_
  rw [← List.drop_eq_getElem_cons h, List.take_append_drop]
theorem valD_none_any {kvs : List (Key × D)} {k : Key} : valD kvs k = none ↔ (kvs.any fun kv => decide (kv.1 = k)) = false := by
  unfold valD
  rw [Option.map_eq_none_iff, List.find?_eq_none]
  simp
theorem putD_len {kvs : List (Key × D)} {k : Key} {d : D} : (putD kvs k d).length ≤ kvs.length + 1 := by
  unfold putD
  split <;> simp
end Dn
set_option Elab.async false
set_option linter.all false
set_option maxRecDepth 100000
set_option autoImplicit false
set_option maxHeartbeats 4000000
namespace Dn
open PySem L2 Evl PySem.Spec PyProof.Rows
def im (m : List Int) (x : Int) : Int := m.getD x.toNat 0
abbrev Wy := List (Int × List Int)
def lk (w : Wy) (x : Int) : Option (List Int) := (w.find? fun e => decide (e.1 = x)).map (·.2)
theorem lk_mem {w : Wy} {x : Int} {p : List Int} (h : lk w x = some p) : (x, p) ∈ w := by
  unfold lk at h
  obtain ⟨e, h1, h2⟩ := Option.map_eq_some_iff.mp h
  have := List.find?_some h1
  have hm := List.mem_of_find?_eq_some h1
  simp at this
  obtain ⟨a, b⟩ := e
  simp at this h2
  subst this h2
  exact hm
theorem lk_none {w : Wy} {x : Int} : lk w x = none ↔ ∀ e, e ∈ w → e.1 ≠ x := by
  unfold lk
  rw [Option.map_eq_none_iff, List.find?_eq_none]
  simp
theorem lk_some {w : Wy} {x : Int} : (lk w x).isSome = true ↔ ∃ e, e ∈ w ∧ e.1 = x := by
  cases h : lk w x with
  | none =>
    have := lk_none.1 h
    simp
    intro a b
    exact this (x, a) b rfl
  | some p => simp; exact ⟨p, lk_mem h⟩
def st1 (mk : List (List Int)) (x : Int) (p : List Int) (w : Wy) (i : Int) : Wy :=
  if (lk w (im (mk.getD i.toNat []) x)).isSome = true then w else w ++ [(im (mk.getD i.toNat []) x, p ++ [i])]
def proc (mk : List (List Int)) (x : Int) (p : List Int) (w : Wy) : Wy := (rgI mk.length).foldl (st1 mk x p) w
def run (mk : List (List Int)) : Nat → Wy → Nat → Wy
  | 0, w, _ => w
  | k + 1, w, r => match w[r]? with
    | some e => run mk k (proc mk e.1 e.2 w) (r + 1)
    | none => w
def waysOf (mk : List (List Int)) (n : Nat) (s : Int) : Wy := run mk n [(s, [])] 0
def walk (mk : List (List Int)) (s : Int) (p : List Int) : Int := p.foldl (fun h i => im (mk.getD i.toNat []) h) s
theorem walk_snoc (mk : List (List Int)) (s : Int) (p : List Int) (i : Int) : walk mk s (p ++ [i]) = im (mk.getD i.toNat []) (walk mk s p) := by unfold walk; simp
structure Mk (n : Nat) (mk : List (List Int)) : Prop where
  few : mk.length ≤ 24
  most : n ≤ 24
  move : ∀ m, m ∈ mk → List.Perm m (rgI n)
theorem Mk.len {n : Nat} {mk : List (List Int)} (h : Mk n mk) {m : List Int} (hm : m ∈ mk) : m.length = n := by rw [(h.move m hm).length_eq, rgI_len]
theorem im_in {n : Nat} {m : List Int} (h : List.Perm m (rgI n)) {x : Int} (x0 : 0 ≤ x) (x1 : x < n) : 0 ≤ im m x ∧ im m x < n := by
  have hl : m.length = n := by rw [h.length_eq, rgI_len]
  have : im m x ∈ m := getD_mem (by omega)
  exact mem_rgI.mp (h.mem_iff.1 this)
theorem Mk.at {n : Nat} {mk : List (List Int)} (h : Mk n mk) {i : Int} (hi : i ∈ rgI mk.length) : mk.getD i.toNat [] ∈ mk := getD_mem (by have := mem_rgI.mp hi; omega)
structure Wg (n : Nat) (mk : List (List Int)) (s : Int) (w : Wy) : Prop where
  nd : (w.map (·.1)).Nodup
  rng : ∀ e, e ∈ w → 0 ≤ e.1 ∧ e.1 < n
  path : ∀ (j : Nat) (e : Int × List Int), w[j]? = some e → e.2.length ≤ j ∧ (∀ i, i ∈ e.2 → i ∈ rgI mk.length) ∧ walk mk s e.2 = e.1
  head : w[0]? = some (s, [])
theorem nodup_le : ∀ {l ns : List Int}, l.Nodup → (∀ k, k ∈ l → k ∈ ns) → l.length ≤ ns.length
  | [], _, _, _ => by simp
  | x :: l, ns, hd, h => by
    have hd2 := List.nodup_cons.mp hd
    have hx : x ∈ ns := h x (by simp)
    have p := erase_perm hx
    have : l.length ≤ (ns.erase x).length := nodup_le hd2.2 fun k hk => by
      have ne : k ≠ x := fun z => hd2.1 (by rw [← z]; exact hk)
      rcases List.mem_cons.mp (p.mem_iff.2 (h k (by simp [hk]))) with z | z
      · exact absurd z ne
      · exact z
    have e := p.length_eq
    simp only [List.length_cons] at e ⊢
    omega
theorem Wg.len {n : Nat} {mk : List (List Int)} {s : Int} {w : Wy} (h : Wg n mk s w) : w.length ≤ n := by
  have := nodup_le h.nd (ns := rgI n) fun k hk => by
    obtain ⟨e, he, rfl⟩ := List.mem_map.mp hk
    exact mem_rgI.mpr (h.rng e he)
  rw [rgI_len, List.length_map] at this
  exact this
theorem Wg.one {n : Nat} {mk : List (List Int)} {s : Int} (s0 : 0 ≤ s) (s1 : s < n) : Wg n mk s [(s, [])] :=
  ⟨by simp, by simp; omega, fun j e h => by
    cases j with
    | zero => simp at h; subst h; simp [walk]
    | succ j => simp at h, rfl⟩
theorem Wg.st1 {n : Nat} {mk : List (List Int)} {s : Int} {w : Wy} (h : Wg n mk s w) (hk : Mk n mk) {r : Nat} {e : Int × List Int} (hr : w[r]? = some e) {i : Int} (hi : i ∈ rgI mk.length) : Wg n mk s (st1 mk e.1 e.2 w i) := by
  unfold Dn.st1
  split
  · exact h
  · rename_i hn
    have ie := h.rng e (List.mem_of_getElem? hr)
    have ii := im_in (hk.move _ (hk.at hi)) ie.1 ie.2
    have hp := h.path r e hr
    have rl := (List.getElem?_eq_some_iff.mp hr).1
    have hn2 : ∀ a, a ∈ w → a.1 ≠ im (mk.getD i.toNat []) e.1 := fun a ha z => hn (lk_some.2 ⟨a, ha, z⟩)
    refine ⟨?_, fun a ha => ?_, fun j a ha => ?_, ?_⟩
    · rw [List.map_append, List.nodup_append]
      refine ⟨h.nd, by simp, fun a ha b hb => ?_⟩
      obtain ⟨a', ha', rfl⟩ := List.mem_map.mp ha
      simp at hb
      rw [hb]
      exact hn2 a' ha'
    · rcases List.mem_append.mp ha with ha | ha
      · exact h.rng a ha
      · rw [List.mem_singleton.mp ha]; exact ii
    · rw [List.getElem?_append] at ha
      split at ha
      · exact h.path j a ha
      · have : j - w.length = 0 := by
          have := (List.getElem?_eq_some_iff.mp ha).1
          simp at this; omega
        rw [this] at ha
        rw [List.getElem?_cons_zero, Option.some.injEq] at ha
        subst ha
        refine ⟨by simp; omega, fun k hk => ?_, by rw [walk_snoc, hp.2.2]⟩
        rcases List.mem_append.mp hk with hk | hk
        · exact hp.2.1 k hk
        · rw [List.mem_singleton.mp hk]; exact hi
    · rw [List.getElem?_append_left (by omega)]; exact h.head
def Cl (mk : List (List Int)) (w : Wy) (x : Int) : Prop := ∀ i, i ∈ rgI mk.length → (lk w (im (mk.getD i.toNat []) x)).isSome = true
def ky (mk : List (List Int)) (n : Nat) (s : Int) (x : Int) : Prop := (lk (waysOf mk n s) x).isSome = true
section
variable {n : Nat} {mk : List (List Int)} {s : Int}
theorem im_inj {m : List Int} (h : List.Perm m (rgI n)) {x y : Int} (x0 : 0 ≤ x) (x1 : x < n) (y0 : 0 ≤ y) (y1 : y < n) (e : im m x = im m y) : x = y := by
  have hl : m.length = n := by rw [h.length_eq, rgI_len]
  have nd : m.Nodup := h.nodup_iff.2 (by
    unfold rgI
    refine List.Pairwise.map _ (fun a b ne => ?_) List.nodup_range
    omega)
  unfold im at e
  rw [List.getD, List.getD, List.getElem?_eq_getElem (by omega), List.getElem?_eq_getElem (by omega)] at e
  simp at e
  have := (List.getElem_inj nd).mp e
  omega
theorem nodup_onto {l l' : List Int} (nd : l'.Nodup) (hs : ∀ k, k ∈ l' → k ∈ l) (hl : l.length ≤ l'.length) {x : Int} (hx : x ∈ l) : x ∈ l' := by
  by_cases h : x ∈ l'
  · exact h
  · have p := erase_perm hx
    have : l'.length ≤ (l.erase x).length := nodup_le nd fun k hk => by
      have ne : k ≠ x := fun z => h (by rw [← z]; exact hk)
      rcases List.mem_cons.mp (p.mem_iff.2 (hs k hk)) with z | z
      · exact absurd z ne
      · exact z
    have e := p.length_eq
    simp only [List.length_cons] at e
    omega
end
end Dn
set_option Elab.async false
set_option linter.all false
set_option maxRecDepth 100000
set_option autoImplicit false
set_option maxHeartbeats 4000000
namespace Dn
open PySem L2 Evl PySem.Spec PyProof.Rows
abbrev T60 : Int := 1000000000000000000000000000000000000000000000000000000000000
def isI : D → Bool
  | .int i => decide (-1000000000000000000000000000000000000000000000000000000000000 < i) && decide (i < 1000000000000000000000000000000000000000000000000000000000000)
  | _ => false
def isTh (n : Int) : D → Bool
  | .int i => (decide (-1000000000000000000000000000000000000000000000000000000000000 < i) && decide (i < 1000000000000000000000000000000000000000000000000000000000000)) && (decide (0 ≤ i) && decide (i < n))
  | _ => false
def isRow (m n : Int) : D → Bool
  | .tuple xs => decide ((xs.length : Int) = m) && xs.all (isTh n)
  | _ => false
def okW (d : D) : Prop := ∀ xs, d = .tuple xs → xs.length ≤ 100000
theorem isTh_in {n x : Int} (h0 : 0 ≤ x) (h1 : x < n) (hn : n ≤ 24) : isTh n (.int x) = true := by
  simp only [isTh, Bool.and_eq_true, decide_eq_true_eq]
  omega
theorem nodup_rgI (n : Nat) : (rgI n).Nodup := by
  unfold rgI
  refine List.Pairwise.map _ (fun a b ne => ?_) List.nodup_range
  omega
def S_is_integer (ds : List D) (Q : D → Prop) : Prop := ∃ d, ds = [d] ∧ Q (.bool (isI d))
def S_is_thing (ds : List D) (Q : D → Prop) : Prop := ∃ d n, ds = [d, .int n] ∧ Q (.bool (isTh n d))
def S_is_row (ds : List D) (Q : D → Prop) : Prop := ∃ d m n, ds = [d, .int m, .int n] ∧ okW d ∧ n ≤ 100000 ∧ Q (.bool (isRow m n d))
def S_check_thing (ds : List D) (Q : D → Prop) : Prop := ∃ d n, ds = [d, .int n] ∧ isTh n d = true ∧ Q .none
def Dc (ms : List D) : Prop := ∃ a b c : Int, ms = [.int a, .int b, .int c]
def scr (s : List Int) : D := .dict [(.none, .tuple (s.map PyData.int))]
def S__law_dice (ds : List D) (Q : List D → Prop) : Prop := ∃ s i, ds = [scr s, .int i] ∧ 0 ≤ i ∧ ∀ ms, Dc ms → Q ms
def S__law_roll (ms ds : List D) (Q : D → List D → Prop) : Prop := ∃ t, ds = [.int t] ∧ 0 < t ∧ t ≤ T60 ∧ Dc ms ∧ ∀ r ms', 0 ≤ r → r < t → Dc ms' → Q (.int r) ms'
def S__law_pick (ms ds : List D) (Q : D → List D → Prop) : Prop := ∃ d xs, ds = [d] ∧ seqD d = some xs ∧ xs ≠ [] ∧ xs.length ≤ 100000 ∧ Dc ms ∧ ∀ x ms', x ∈ xs → Dc ms' → Q x ms'
def S__law_mixed (ms ds : List D) (Q : D → List D → Prop) : Prop := ∃ d xs, ds = [d] ∧ seqD d = some xs ∧ xs.length ≤ 100000 ∧ Dc ms ∧ ∀ ys ms', ys.Perm xs → Dc ms' → Q (.list ys) ms'
def S__law_drawn_move (ms ds : List D) (Q : D → List D → Prop) : Prop := ∃ n : Nat, ds = [.int n] ∧ n ≤ 1000 ∧ Dc ms ∧ ∀ m ms', List.Perm m (rgI n) → Dc ms' → Q (tI m) ms'
theorem start_scr {K : PySem.W.Frag} {H : Hp} {a : Addr} {ns : List Int} (hS : SqL K H a (ns.map V.int)) : RpAll K (hide (fun _ => False) H) [.ref a] [scr ns] := by
  have e : Ex H (hide (fun _ => False) H) := fun a o h => hide_some.2 ⟨id, h⟩
  exact .cons (.frz (ex_l e hS) (RpAll.ints ns)) .nil
end Dn
set_option Elab.async false
set_option linter.all false
set_option maxRecDepth 100000
set_option autoImplicit false
set_option maxHeartbeats 4000000
namespace Dn
open PySem L2 Evl PySem.Spec PyProof.Rows
abbrev Mv (n : Nat) (m : List Int) : Prop := List.Perm m (rgI n)
def it (m : List Int) : Nat → Int → Int
  | 0, x => x
  | k + 1, x => im m (it m k x)
def jn (a b : List Int) : List Int := b.map (im a)
def iv (m : List Int) (y : Int) : Int := ((m.findIdx fun x => decide (x = y) : Nat) : Int)
def inv (m : List Int) : List Int := (rgI m.length).map (iv m)
def per (m : List Int) (n : Nat) (x : Int) : Nat := match (List.range n).find? fun k => decide (it m (k + 1) x = x) with
  | some k => k + 1
  | none => 1
def cyc (m : List Int) (n : Nat) (x : Int) : List Int := (List.range (per m n x)).map fun k => it m k x
def lead (m : List Int) (n : Nat) (x : Int) : Bool := (cyc m n x).all fun y => decide (x ≤ y)
def leads (m : List Int) (n : Nat) : List Int := (rgI n).filter (lead m n)
def cs (m : List Int) (n : Nat) : List (List Int) := (leads m n).map (cyc m n)
theorem Mv.len {n : Nat} {m : List Int} (h : Mv n m) : m.length = n := by rw [h.length_eq, rgI_len]
section
variable {n : Nat} {m : List Int} (h : Mv n m)
theorem perm_of_nodup {l l' : List Int} (nd : l.Nodup) (nd' : l'.Nodup) (e : ∀ x, x ∈ l ↔ x ∈ l') : l.Perm l' := (List.perm_ext_iff_of_nodup nd nd').2 e
theorem rgI_split {l1 l2 : List Int} {x : Int} (e : rgI n = l1 ++ x :: l2) : x = l1.length ∧ l1 = rgI l1.length := by
  have hl := congrArg List.length e
  rw [rgI_len] at hl
  simp at hl
  have h1 := congrArg (fun l : List Int => l[l1.length]?) e
  rw [rgI_get (by omega), List.getElem?_append_right (Nat.le_refl _)] at h1
  simp at h1
  refine ⟨h1.symm, ?_⟩
  have h2 := congrArg (List.take l1.length) e
  rw [List.take_left] at h2
  rw [← h2]
  unfold rgI
  rw [← List.map_take, List.take_range]
  congr 2
  simp
end
end Dn
set_option Elab.async false
set_option linter.all false
set_option maxRecDepth 100000
set_option autoImplicit false
set_option maxHeartbeats 4000000
namespace Dn
open PySem L2 Evl PySem.Spec PyProof.Rows SrL
section
variable {n : Nat} {m a b o : List Int}
theorem Mv.nodup (h : Mv n m) : m.Nodup := h.nodup_iff.2 (nodup_rgI n)
theorem Mv.of {l : List Int} (hl : l.length = n) (nd : l.Nodup) (hr : ∀ x, x ∈ l → 0 ≤ x ∧ x < n) : Mv n l :=
  perm_of_nodup nd (nodup_rgI n) fun x => ⟨fun hx => mem_rgI.mpr (hr x hx), fun hx => nodup_onto nd (fun k hk => mem_rgI.mpr (hr k hk)) (by rw [rgI_len, hl]; exact Nat.le_refl _) hx⟩
theorem mv_map {f : Int → Int} (hr : ∀ x : Int, 0 ≤ x → x < n → 0 ≤ f x ∧ f x < n) (hi : ∀ x y : Int, 0 ≤ x → x < n → 0 ≤ y → y < n → f x = f y → x = y) : Mv n ((rgI n).map f) := by
  refine .of (by simp [rgI_len]) ?_ fun x hx => ?_
  · rw [List.Nodup, List.pairwise_map]
    refine (nodup_rgI n).imp_of_mem fun {x y} hx hy ne z => ne ?_
    have a := mem_rgI.mp hx
    have b := mem_rgI.mp hy
    exact hi x y a.1 a.2 b.1 b.2 z
  · obtain ⟨y, hy, rfl⟩ := List.mem_map.mp hx
    have a := mem_rgI.mp hy
    exact hr y a.1 a.2
theorem im_at (h : Mv n m) {k : Nat} (hk : k < n) : m[k]? = some (im m k) := by
  unfold im
  rw [Int.toNat_natCast, List.getD, List.getElem?_eq_getElem (by rw [h.len]; exact hk)]
  rfl
theorem mv_self (h : Mv n m) : m = (rgI n).map (im m) := by
  apply List.ext_getElem?
  intro k
  by_cases hk : k < n
  · rw [im_at h hk, List.getElem?_map, rgI_get hk]; rfl
  · rw [List.getElem?_eq_none_iff.mpr (by rw [h.len]; omega), List.getElem?_eq_none_iff.mpr (by simp [rgI_len]; omega)]
theorem im_map {f : Int → Int} {x : Int} (h0 : 0 ≤ x) (h1 : x < n) : im ((rgI n).map f) x = f x := by
  unfold im
  rw [List.getD, List.getElem?_map, rgI_get (show x.toNat < n by omega)]
  show f ((x.toNat : Nat) : Int) = f x
  congr 1
  omega
theorem iv_im (h : Mv n m) {x : Int} (h0 : 0 ≤ x) (h1 : x < n) : iv m (im m x) = x := by
  unfold iv
  have hk : x.toNat < m.length := by rw [h.len]; omega
  have e : im m x = m[x.toNat] := by
    have := im_at h (show x.toNat < n by omega)
    rw [show ((x.toNat : Nat) : Int) = x by omega, List.getElem?_eq_getElem hk, Option.some.injEq] at this
    exact this.symm
  have : m.findIdx (fun z => decide (z = im m x)) = x.toNat := by
    rw [List.findIdx_eq hk]
    refine ⟨by simp [e], fun j hj => ?_⟩
    simp only [decide_eq_false_iff_not]
    intro z
    rw [e] at z
    have := (List.getElem_inj h.nodup).mp z
    omega
  rw [this]
  omega
theorem iv_rng (h : Mv n m) {y : Int} (h0 : 0 ≤ y) (h1 : y < n) : (0 ≤ iv m y ∧ iv m y < n) ∧ im m (iv m y) = y := by
  have hm : y ∈ m := h.mem_iff.2 (mem_rgI.mpr ⟨h0, h1⟩)
  obtain ⟨k, hk, e⟩ := List.mem_iff_getElem.mp hm
  have hk2 : k < n := by rw [← h.len]; exact hk
  have e2 : im m k = y := by
    have := im_at h hk2
    rw [List.getElem?_eq_getElem hk, Option.some.injEq, e] at this
    exact this.symm
  have e3 := iv_im h (x := (k : Int)) (by omega) (by omega)
  rw [e2] at e3
  rw [e3]
  exact ⟨by omega, e2⟩
theorem inv_map (h : Mv n m) : inv m = (rgI n).map (iv m) := by unfold inv; rw [h.len]
theorem inv_im (h : Mv n m) {x : Int} (h0 : 0 ≤ x) (h1 : x < n) : im (inv m) x = iv m x := by rw [inv_map h, im_map h0 h1]
theorem inv_mv (h : Mv n m) : Mv n (inv m) := by
  rw [inv_map h]
  refine mv_map (fun x h0 h1 => (iv_rng h h0 h1).1) fun x y x0 x1 y0 y1 e => ?_
  rw [← (iv_rng h x0 x1).2, e, (iv_rng h y0 y1).2]
end
end Dn
set_option Elab.async false
set_option linter.all false
set_option maxRecDepth 100000
set_option autoImplicit false
set_option maxHeartbeats 4000000
namespace Dn.T
open PySem L2 Evl PySem.Spec PyProof.Rows
def In (n : Nat) (x : Int) : Prop := 0 ≤ x ∧ x < n
theorem In.mem {n : Nat} {x : Int} : x ∈ rgI n ↔ In n x := mem_rgI
instance (n : Nat) (x : Int) : Decidable (In n x) := by unfold In; infer_instance
def tab (n : Nat) (d : Int → Int → Int) : List (List Int) := (rgI n).map fun x => (rgI n).map fun y => d x y
def row (C : List (List Int)) (x : Int) : List Int := C.getD x.toNat []
def dot (C : List (List Int)) (x y : Int) : Int := im (row C x) y
theorem getD_map {α β : Type} {l : List α} {f : α → β} {i : Nat} {a : α} {b : β} (h : i < l.length) : (l.map f).getD i b = f (l.getD i a) := by
  simp [List.getD_eq_getElem?_getD, List.getElem?_eq_getElem h]
theorem rg_at {n : Nat} {x : Int} (h : In n x) : (rgI n).getD x.toNat 0 = x := by
  unfold In at h
  rw [List.getD_eq_getElem?_getD, rgI_get (by omega)]
  simp; omega
theorem map_at {β : Type} {n : Nat} {f : Int → β} {x : Int} {b : β} (h : In n x) : ((rgI n).map f).getD x.toNat b = f x := by
  rw [getD_map (a := 0) (by rw [rgI_len]; unfold In at h; omega), rg_at h]
theorem row_tab {n : Nat} {d : Int → Int → Int} {x : Int} (h : In n x) : row (tab n d) x = (rgI n).map (d x) := map_at h
theorem dot_tab {n : Nat} {d : Int → Int → Int} {x y : Int} (hx : In n x) (hy : In n y) : dot (tab n d) x y = d x y := by
  unfold dot
  rw [row_tab hx]
  exact map_at hy
theorem tab_len (n : Nat) (d : Int → Int → Int) : (tab n d).length = n := by unfold tab; simp [rgI_len]
structure Cs (n : Nat) (d : Int → Int → Int) : Prop where
  rg : ∀ x y, In n x → In n y → In n (d x y)
  inj : ∀ x y z, In n x → In n y → In n z → d x y = d x z → y = z
  cyc : ∀ x y z, In n x → In n y → In n z → d (d x y) (d x z) = d (d y x) (d y z)
  dia : ∀ x y, In n x → In n y → d x x = d y y → x = y
def Kp (n : Nat) (d : Int → Int → Int) (m : List Int) : Prop := ∀ x y, In n x → In n y → im m (d x y) = d (im m x) (im m y)
theorem mv_in {n : Nat} {m : List Int} (h : Mv n m) {x : Int} (hx : In n x) : In n (im m x) := im_in h hx.1 hx.2
theorem inv_l {n : Nat} {m : List Int} (h : Mv n m) {x : Int} (hx : In n x) : im (inv m) (im m x) = x := by
  have := mv_in h hx
  rw [inv_im h this.1 this.2, iv_im h hx.1 hx.2]
theorem inv_r {n : Nat} {m : List Int} (h : Mv n m) {x : Int} (hx : In n x) : im m (im (inv m) x) = x := by
  rw [inv_im h hx.1 hx.2]
  exact (iv_rng h hx.1 hx.2).2
theorem Cs.ext {n : Nat} {d d' : Int → Int → Int} (h : Cs n d) (e : ∀ x y, In n x → In n y → d x y = d' x y) : Cs n d' where
  rg := fun x y hx hy => by rw [← e x y hx hy]; exact h.rg x y hx hy
  inj := fun x y z hx hy hz q => h.inj x y z hx hy hz (by rw [e x y hx hy, e x z hx hz]; exact q)
  cyc := fun x y z hx hy hz => by
    rw [← e x y hx hy, ← e x z hx hz, ← e y x hy hx, ← e y z hy hz, ← e _ _ (h.rg x y hx hy) (h.rg x z hx hz), ← e _ _ (h.rg y x hy hx) (h.rg y z hy hz)]
    exact h.cyc x y z hx hy hz
  dia := fun x y hx hy q => h.dia x y hx hy (by rw [e x x hx hx, e y y hy hy]; exact q)
theorem dm_in {a b : Nat} {k : Int} (h : In (a * b) k) (hb : 1 ≤ b) : In a (k / b) ∧ In b (k % b) := by
  unfold In at h ⊢
  have s0 : (0 : Int) < b := by omega
  refine ⟨⟨Int.ediv_nonneg h.1 (by omega), Int.ediv_lt_of_lt_mul s0 (by simpa using h.2)⟩, Int.emod_nonneg _ (by omega), Int.emod_lt_of_pos _ s0⟩
end Dn.T
set_option Elab.async false
set_option linter.all false
set_option maxRecDepth 100000
set_option autoImplicit false
set_option maxHeartbeats 400000
namespace Dn.T
open PySem L2 Evl PySem.Spec PyProof.Rows
structure Gr (n : Nat) (g : Int → Int → Int) (u : Int) : Prop where
  rg : ∀ x y, In n x → In n y → In n (g x y)
  un : In n u
  ul : ∀ x, In n x → g u x = x
  ur : ∀ x, In n x → g x u = x
  as : ∀ x y z, In n x → In n y → In n z → g (g x y) z = g x (g y z)
  iv : ∀ x, In n x → ∃ y, In n y ∧ g x y = u ∧ g y x = u
section
variable {n : Nat} {g : Int → Int → Int} {u : Int} (h : Gr n g u)
include h
theorem Gr.lc {x y z : Int} (hx : In n x) (hy : In n y) (hz : In n z) (e : g x y = g x z) : y = z := by
  obtain ⟨w, hw, _, e2⟩ := h.iv x hx
  have := congrArg (g w) e
  rw [← h.as w x y hw hx hy, ← h.as w x z hw hx hz, e2, h.ul y hy, h.ul z hz] at this
  exact this
theorem Gr.rc {x y z : Int} (hx : In n x) (hy : In n y) (hz : In n z) (e : g y x = g z x) : y = z := by
  obtain ⟨w, hw, e1, _⟩ := h.iv x hx
  have := congrArg (fun t => g t w) e
  rw [h.as y x w hy hx hw, h.as z x w hz hx hw, e1, h.ur y hy, h.ur z hz] at this
  exact this
theorem Gr.idem {x : Int} (hx : In n x) : g x x = x ↔ x = u := by
  constructor
  · intro e
    exact h.lc hx hx h.un (by rw [e, h.ur x hx])
  · rintro rfl
    exact h.ul _ hx
end
section
variable {n : Nat} {g : Int → Int → Int} {u : Int} (h : Gr n g u)
include h
end
end Dn.T
set_option Elab.async false
set_option linter.all false
set_option maxRecDepth 100000
set_option autoImplicit false
set_option maxHeartbeats 400000
namespace Dn.T
open PySem L2 Evl PySem.Spec PyProof.Rows
theorem inMod {n : Nat} (h : 1 ≤ n) (x : Int) : In n (x % n) := ⟨Int.emod_nonneg _ (by omega), Int.emod_lt_of_pos _ (by omega)⟩
theorem modIn {n : Nat} {x : Int} (h : In n x) : x % n = x := Int.emod_eq_of_lt h.1 h.2
theorem gr_cyc {n : Nat} (h : 1 ≤ n) : Gr n (fun x y => (x + y) % n) 0 := by
  refine ⟨fun x y _ _ => inMod h _, ⟨by omega, by omega⟩, fun x hx => ?_, fun x hx => ?_, fun x y z _ _ _ => ?_, fun x hx => ⟨(n - x) % n, inMod h _, ?_, ?_⟩⟩
  · rw [Int.zero_add]; exact modIn hx
  · rw [Int.add_zero]; exact modIn hx
  · show ((x + y) % n + z) % n = (x + (y + z) % n) % n
    rw [Int.emod_add_emod, Int.add_emod_emod, Int.add_assoc]
  · show (x + (n - x) % n) % n = 0
    rw [Int.add_emod_emod, show x + (n - x) = (n : Int) by omega, Int.emod_self]
  · show ((n - x) % n + x) % n = 0
    rw [Int.emod_add_emod, show (n - x) + x = (n : Int) by omega, Int.emod_self]
def pairN (b : Nat) (i j : Int) : Int := i * b + j
theorem dvPair {b : Nat} {i j : Int} (hj : In b j) : pairN b i j / b = i := by
  unfold pairN
  rw [Int.add_comm, Int.add_mul_ediv_right _ _ (by have := hj.1; have := hj.2; omega), Int.ediv_eq_zero_of_lt hj.1 hj.2, Int.zero_add]
theorem mdPair {b : Nat} {i j : Int} (hj : In b j) : pairN b i j % b = j := by
  unfold pairN
  rw [Int.add_comm, Int.add_mul_emod_self_right]
  exact modIn hj
theorem inPair {a b : Nat} {i j : Int} (hi : In a i) (hj : In b j) : In (a * b) (pairN b i j) := by
  unfold pairN
  have h0 := Int.mul_nonneg hi.1 (show (0 : Int) ≤ b by omega)
  refine ⟨by have := hj.1; omega, ?_⟩
  have h1 : (i + 1) * b ≤ a * b := Int.mul_le_mul_of_nonneg_right (by have := hi.2; omega) (by omega)
  have h2 := hj.2
  rw [Int.add_mul, Int.one_mul] at h1
  rw [Int.natCast_mul]
  omega
theorem dvIn {a b : Nat} {x : Int} (h : In (a * b) x) : In a (x / b) ∧ In b (x % b) := by
  have b1 : 1 ≤ b := by
    rcases Nat.eq_zero_or_pos b with z | z
    · subst z
      have := h.1; have := h.2
      simp at *
      omega
    · exact z
  refine ⟨⟨Int.ediv_nonneg h.1 (by omega), Int.ediv_lt_of_lt_mul (by omega) ?_⟩, inMod b1 x⟩
  have := h.2
  rw [Int.natCast_mul] at this
  exact this
theorem pairDv {b : Nat} (x : Int) : pairN b (x / b) (x % b) = x := by
  unfold pairN
  rw [Int.mul_comm]
  exact Int.mul_ediv_add_emod x b
def dirG (b : Nat) (g k : Int → Int → Int) : Int → Int → Int := fun x y => pairN b (g (x / b) (y / b)) (k (x % b) (y % b))
theorem gr_dir {a b : Nat} {g k : Int → Int → Int} {u v : Int} (hg : Gr a g u) (hk : Gr b k v) : Gr (a * b) (dirG b g k) (pairN b u v) := by
  have R : ∀ x y, In (a * b) x → In (a * b) y → In a (g (x / b) (y / b)) ∧ In b (k (x % b) (y % b)) := fun x y hx hy => ⟨hg.rg _ _ (dvIn hx).1 (dvIn hy).1, hk.rg _ _ (dvIn hx).2 (dvIn hy).2⟩
  refine ⟨fun x y hx hy => inPair (R x y hx hy).1 (R x y hx hy).2, inPair hg.un hk.un, fun x hx => ?_, fun x hx => ?_, fun x y z hx hy hz => ?_, fun x hx => ?_⟩
  · unfold dirG
    rw [dvPair hk.un, mdPair hk.un, hg.ul _ (dvIn hx).1, hk.ul _ (dvIn hx).2, pairDv]
  · unfold dirG
    rw [dvPair hk.un, mdPair hk.un, hg.ur _ (dvIn hx).1, hk.ur _ (dvIn hx).2, pairDv]
  · unfold dirG
    rw [dvPair (R x y hx hy).2, mdPair (R x y hx hy).2, dvPair (R y z hy hz).2, mdPair (R y z hy hz).2, hg.as _ _ _ (dvIn hx).1 (dvIn hy).1 (dvIn hz).1, hk.as _ _ _ (dvIn hx).2 (dvIn hy).2 (dvIn hz).2]
  · obtain ⟨i, hi, i1, i2⟩ := hg.iv _ (dvIn hx).1
    obtain ⟨j, hj, j1, j2⟩ := hk.iv _ (dvIn hx).2
    refine ⟨pairN b i j, inPair hi hj, ?_, ?_⟩
    · unfold dirG; rw [dvPair hj, mdPair hj, i1, j1]
    · unfold dirG; rw [dvPair hj, mdPair hj, i2, j2]
def renG (g : Int → Int → Int) (m : List Int) : Int → Int → Int := fun x y => im (inv m) (g (im m x) (im m y))
theorem gr_ren {n : Nat} {g : Int → Int → Int} {u : Int} {m : List Int} (h : Gr n g u) (hm : Mv n m) : Gr n (renG g m) (im (inv m) u) := by
  have I := fun x (hx : In n x) => mv_in hm hx
  have J := fun x (hx : In n x) => mv_in (inv_mv hm) hx
  have L := fun x (hx : In n x) => inv_l hm hx
  have Rr := fun x (hx : In n x) => inv_r hm hx
  refine ⟨fun x y hx hy => J _ (h.rg _ _ (I x hx) (I y hy)), J _ h.un, fun x hx => ?_, fun x hx => ?_, fun x y z hx hy hz => ?_, fun x hx => ?_⟩
  · unfold renG; rw [Rr _ h.un, h.ul _ (I x hx), L x hx]
  · unfold renG; rw [Rr _ h.un, h.ur _ (I x hx), L x hx]
  · unfold renG; rw [Rr _ (h.rg _ _ (I x hx) (I y hy)), Rr _ (h.rg _ _ (I y hy) (I z hz)), h.as _ _ _ (I x hx) (I y hy) (I z hz)]
  · obtain ⟨y, hy, e1, e2⟩ := h.iv _ (I x hx)
    refine ⟨im (inv m) y, J y hy, ?_, ?_⟩
    · unfold renG; rw [Rr y hy, e1]
    · unfold renG; rw [Rr y hy, e2]
end Dn.T
set_option Elab.async false
set_option linter.all false
set_option maxRecDepth 100000
set_option autoImplicit false
set_option maxHeartbeats 400000
namespace Dn.T
open PySem L2 Evl PySem.Spec PyProof.Rows
def trnG (n : Nat) (x y : Int) : Int := (x / 2 + (if x % 2 = 0 then y / 2 else n - y / 2)) % n * 2 + (x + y) % 2
theorem congN {n a b : Int} (q : Int) (h : a = b + n * q) : a % n = b % n := by rw [h, Int.add_mul_emod_self_left]
theorem trn_dv {n : Nat} {x y : Int} : trnG n x y / 2 = (x / 2 + (if x % 2 = 0 then y / 2 else n - y / 2)) % n ∧ trnG n x y % 2 = (x + y) % 2 := by
  unfold trnG
  generalize (x / 2 + (if x % 2 = 0 then y / 2 else n - y / 2)) % (n : Int) = a
  omega
theorem in2 {n : Nat} {x : Int} (h : In (2 * n) x) : In n (x / 2) := ⟨by have := h.1; omega, by have := h.2; omega⟩
theorem of2 {n : Nat} {a b : Int} (ha : In n a) (hb : 0 ≤ b ∧ b < 2) : In (2 * n) (a * 2 + b) := ⟨by have := ha.1; omega, by have := ha.2; omega⟩
theorem ext2 {x y : Int} (h1 : x / 2 = y / 2) (h2 : x % 2 = y % 2) : x = y := by omega
theorem gr_trn {n : Nat} (h : 1 ≤ n) : Gr (2 * n) (trnG n) 0 := by
  refine ⟨fun x y _ _ => of2 (inMod h _) (by omega), ⟨by omega, by omega⟩, fun x hx => ?_, fun x hx => ?_, fun x y z hx hy hz => ?_, fun x hx => ?_⟩
  · refine ext2 ?_ ?_
    · rw [trn_dv.1, if_pos (by omega), show (0 : Int) / 2 + x / 2 = x / 2 by omega]; exact modIn (in2 hx)
    · rw [trn_dv.2]; omega
  · refine ext2 ?_ ?_
    · rw [trn_dv.1]
      by_cases e : x % 2 = 0
      · rw [if_pos e, show x / 2 + (0 : Int) / 2 = x / 2 by omega]; exact modIn (in2 hx)
      · rw [if_neg e, show x / 2 + ((n : Int) - (0 : Int) / 2) = x / 2 + n by omega, Int.add_emod_right]; exact modIn (in2 hx)
    · rw [trn_dv.2]; omega
  · refine ext2 ?_ ?_
    · rw [trn_dv.1, trn_dv.1, trn_dv.1, trn_dv.1, trn_dv.2]
      by_cases e : x % 2 = 0 <;> by_cases e2 : y % 2 = 0
      · rw [if_pos e, if_pos e2, if_pos (by omega), if_pos e, Int.emod_add_emod, Int.add_emod_emod, Int.add_assoc]
      · rw [if_pos e, if_neg e2, if_neg (by omega), if_pos e, Int.emod_add_emod, Int.add_emod_emod, Int.add_assoc]
      · rw [if_neg e, if_pos e2, if_neg (by omega), if_neg e, Int.emod_add_emod, Int.emod_def (y / 2 + z / 2)]
        refine congN (1 - (y / 2 + z / 2) / n) ?_
        rw [Int.mul_sub, Int.mul_one]
        omega
      · rw [if_neg e, if_neg e2, if_pos (by omega), if_neg e, Int.emod_add_emod, Int.emod_def (y / 2 + (n - z / 2))]
        refine congN (1 - (y / 2 + (n - z / 2)) / n) ?_
        rw [Int.mul_sub, Int.mul_one]
        omega
    · rw [trn_dv.2, trn_dv.2, Int.add_emod, trn_dv.2, Int.add_emod x (trnG n y z), trn_dv.2]
      omega
  · by_cases e : x % 2 = 0
    · have hi := inMod h ((n : Int) - x / 2)
      refine ⟨((n : Int) - x / 2) % n * 2 + 0, of2 hi (by omega), ?_, ?_⟩
      · refine ext2 ?_ ?_
        · rw [trn_dv.1, if_pos e, show (((n : Int) - x / 2) % n * 2 + 0) / 2 = ((n : Int) - x / 2) % n by omega, Int.add_emod_emod, show x / 2 + ((n : Int) - x / 2) = n by omega, Int.emod_self]; rfl
        · rw [trn_dv.2]; omega
      · refine ext2 ?_ ?_
        · rw [trn_dv.1, if_pos (by omega), show (((n : Int) - x / 2) % n * 2 + 0) / 2 = ((n : Int) - x / 2) % n by omega, Int.emod_add_emod, show ((n : Int) - x / 2) + x / 2 = n by omega, Int.emod_self]; rfl
        · rw [trn_dv.2]; omega
    · refine ⟨x, hx, ?_, ?_⟩
      · refine ext2 ?_ ?_
        · rw [trn_dv.1, if_neg e, show x / 2 + ((n : Int) - x / 2) = n by omega, Int.emod_self]; rfl
        · rw [trn_dv.2]; omega
      · refine ext2 ?_ ?_
        · rw [trn_dv.1, if_neg e, show x / 2 + ((n : Int) - x / 2) = n by omega, Int.emod_self]; rfl
        · rw [trn_dv.2]; omega
end Dn.T
set_option Elab.async false
set_option linter.all false
set_option maxRecDepth 100000
set_option autoImplicit false
set_option maxHeartbeats 400000
namespace Dn.T
open PySem L2 Evl PySem.Spec PyProof.Rows
-- MISSING rc
def isUnit (rs : List (List Int)) (e : Int) : Bool := decide (rs.getD e.toNat [] = rgI rs.length) && decide (rs.map (fun r => r.getD e.toNat 0) = rgI rs.length)
def unitOf (rs : List (List Int)) : Option Int := (rgI rs.length).find? (isUnit rs)
def backOf (rs : List (List Int)) (u t : Int) : Option Int := (rgI rs.length).find? fun b => decide (rc rs t b = u) && decide (rc rs b t = u)
def threeOf (rs : List (List Int)) : Option D := (rgI rs.length).findSome? fun a => (rgI rs.length).findSome? fun b => (rgI rs.length).findSome? fun c =>
  if rc rs (rc rs a b) c ≠ rc rs a (rc rs b c) then some (.tuple [.int a, .int b, .int c]) else none
end Dn.T
set_option Elab.async false
set_option linter.all false
set_option maxRecDepth 100000
set_option autoImplicit false
set_option maxHeartbeats 400000
namespace Dn.T
open PySem L2 Evl PySem.Spec PyProof.Rows
section
variable {n : Nat} {g : Int → Int → Int} {u : Int} (h : Gr n g u)
theorem rc_tab {x y : Int} (hx : In n x) (hy : In n y) : rc (tab n g) x y = g x y := by
  have := dot_tab (d := g) hx hy
  exact this
theorem findOne {p : Int → Bool} {v : Int} (hv : In n v) (hp : ∀ a, In n a → (p a = true ↔ a = v)) : (rgI n).find? p = some v := by
  cases e : (rgI n).find? p with
  | none => exact absurd ((hp v hv).2 rfl) (by simpa using List.find?_eq_none.mp e v (In.mem.2 hv))
  | some w => rw [(hp w (In.mem.1 (List.mem_of_find?_eq_some e))).1 (List.find?_some e)]
theorem row_g {x : Int} (hx : In n x) : (tab n g).getD x.toNat [] = (rgI n).map (g x) := row_tab hx
theorem col_g {y : Int} (hy : In n y) : (tab n g).map (fun r => r.getD y.toNat 0) = (rgI n).map fun x => g x y := by
  unfold tab
  rw [List.map_map]
  refine List.map_congr_left fun x hx => ?_
  exact map_at hy
theorem mapSelf {f : Int → Int} : (rgI n).map f = rgI n ↔ ∀ x, In n x → f x = x := by
  constructor
  · intro e x hx
    have := List.map_inj_left.mp (e.trans (List.map_id (rgI n)).symm) x (In.mem.2 hx)
    exact this
  · intro e
    conv => rhs; rw [← List.map_id (rgI n)]
    exact List.map_congr_left fun x hx => e x (In.mem.1 hx)
include h
theorem unit_g : unitOf (tab n g) = some u := by
  unfold unitOf
  rw [tab_len]
  refine findOne h.un fun a ha => ?_
  unfold isUnit
  rw [Bool.and_eq_true, decide_eq_true_eq, decide_eq_true_eq, row_g ha, col_g ha, tab_len, mapSelf, mapSelf]
  constructor
  · rintro ⟨e, _⟩
    rw [← h.ur a ha]
    exact e u h.un
  · rintro rfl
    exact ⟨h.ul, h.ur⟩
theorem back_g {t : Int} (ht : In n t) : ∃ b, backOf (tab n g) u t = some b ∧ In n b ∧ g t b = u ∧ g b t = u := by
  obtain ⟨b, hb, e1, e2⟩ := h.iv t ht
  refine ⟨b, ?_, hb, e1, e2⟩
  unfold backOf
  rw [tab_len]
  refine findOne hb fun a ha => ?_
  rw [Bool.and_eq_true, decide_eq_true_eq, decide_eq_true_eq, rc_tab ht ha, rc_tab ha ht]
  constructor
  · rintro ⟨e, _⟩
    exact h.lc ht ha hb (e.trans e1.symm)
  · rintro rfl
    exact ⟨e1, e2⟩
theorem three_g : threeOf (tab n g) = none := by
  unfold threeOf
  rw [tab_len]
  refine List.findSome?_eq_none_iff.mpr fun a ha => List.findSome?_eq_none_iff.mpr fun b hb => List.findSome?_eq_none_iff.mpr fun c hc => ?_
  have ha := In.mem.1 ha
  have hb := In.mem.1 hb
  have hc := In.mem.1 hc
  rw [rc_tab ha hb, rc_tab hb hc, rc_tab (h.rg a b ha hb) hc, rc_tab ha (h.rg b c hb hc), h.as a b c ha hb hc]
  exact if_neg fun w => w rfl
end
end Dn.T
set_option Elab.async false
set_option linter.all false
set_option maxRecDepth 100000
set_option autoImplicit false
set_option maxHeartbeats 400000
namespace Dn.T
open PySem L2 Evl PySem.Spec PyProof.Rows
def gOf (rs : List (List Int)) (x y : Int) : Int := (rs.getD x.toNat []).getD y.toNat 0
def inB (n : Nat) (x : Int) : Bool := decide (0 ≤ x) && decide (x < n)
theorem inB_iff {n : Nat} {x : Int} : inB n x = true ↔ In n x := by
  unfold inB In
  rw [Bool.and_eq_true, decide_eq_true_eq, decide_eq_true_eq]
def grB (n : Nat) (rs : List (List Int)) (u : Int) : Bool :=
  inB n u && ((rgI n).all fun x => decide (gOf rs u x = x) && decide (gOf rs x u = x) && ((rgI n).any fun y => decide (gOf rs x y = u) && decide (gOf rs y x = u)) &&
    (rgI n).all fun y => inB n (gOf rs x y) && (rgI n).all fun z => decide (gOf rs (gOf rs x y) z = gOf rs x (gOf rs y z)))
theorem gr_of {n : Nat} {rs : List (List Int)} {u : Int} (h : grB n rs u = true) : Gr n (gOf rs) u := by
  unfold grB at h
  rw [Bool.and_eq_true, List.all_eq_true] at h
  obtain ⟨hu, h⟩ := h
  have H := fun x (hx : In n x) => h x (In.mem.2 hx)
  simp only [Bool.and_eq_true, decide_eq_true_eq, List.all_eq_true, List.any_eq_true] at H
  refine ⟨fun x y hx hy => inB_iff.1 ((H x hx).2 y (In.mem.2 hy)).1, inB_iff.1 hu, fun x hx => (H x hx).1.1.1, fun x hx => (H x hx).1.1.2, fun x y z hx hy hz => ((H x hx).2 y (In.mem.2 hy)).2 z (In.mem.2 hz), fun x hx => ?_⟩
  obtain ⟨y, hy, e⟩ := (H x hx).1.2
  exact ⟨y, In.mem.1 hy, e⟩
theorem tab_gOf {n : Nat} {rs : List (List Int)} (hl : rs.length = n) (hr : ∀ r, r ∈ rs → r.length = n) : tab n (gOf rs) = rs := by
  unfold tab
  refine List.ext_getElem (by simp [rgI_len, hl]) fun i h1 h2 => ?_
  have hi : i < n := by omega
  have e : (rgI n)[i]'(by rw [rgI_len]; exact hi) = (i : Int) := by simp [rgI]
  rw [List.getElem_map, e]
  refine List.ext_getElem (by simp [rgI_len, hr rs[i] (List.getElem_mem h2)]) fun j h3 h4 => ?_
  have hj : j < n := by rw [hr rs[i] (List.getElem_mem h2)] at h4; exact h4
  have e2 : (rgI n)[j]'(by rw [rgI_len]; exact hj) = (j : Int) := by simp [rgI]
  rw [List.getElem_map, e2]
  unfold gOf
  simp [List.getD, List.getElem?_eq_getElem h2, List.getElem?_eq_getElem h4]
def qTimes : List (List Int) := [[0, 2, 4, 6], [2, 1, 6, 5], [4, 7, 1, 2], [6, 4, 3, 1]]
def qRows : List (List Int) := (rgI 8).map fun a => (rgI 8).map fun b => gOf qTimes (a / 2) (b / 2) / 2 * 2 + (gOf qTimes (a / 2) (b / 2) + a + b) % 2
theorem gr_q : Gr 8 (gOf qRows) 0 := gr_of (by decide +kernel)
theorem tab_q : tab 8 (gOf qRows) = qRows := tab_gOf (by decide +kernel) (by decide +kernel)
def mvRows (L : List (List Int)) : List (List Int) := L.map fun a => L.map fun b => ((L.idxOf (jn a b) : Nat) : Int)
end Dn.T
set_option Elab.async false
set_option linter.all false
set_option maxRecDepth 100000
set_option autoImplicit false
set_option maxHeartbeats 4000000
namespace Dn.T
open PySem L2 Evl PySem.Spec PyProof.Rows
def Pin (n : Nat) (p : Int × Int) : Prop := In n p.1 ∧ In n p.2
structure Fr (n : Nat) (f : Int → Int → Int × Int) : Prop where
  rg : ∀ x y, In n x → In n y → Pin n (f x y)
  li : ∀ x y z, In n x → In n y → In n z → (f x y).1 = (f x z).1 → y = z
  ri : ∀ x y z, In n x → In n y → In n z → (f y x).2 = (f z x).2 → y = z
  y1 : ∀ x y z, In n x → In n y → In n z → (f (f x y).1 (f (f x y).2 z).1).1 = (f x (f y z).1).1
  y2 : ∀ x y z, In n x → In n y → In n z → (f (f x y).1 (f (f x y).2 z).1).2 = (f (f x (f y z).1).2 (f y z).2).1
  y3 : ∀ x y z, In n x → In n y → In n z → (f (f x y).2 z).2 = (f (f x (f y z).1).2 (f y z).2).2
  bi : ∀ x y u v, In n x → In n y → In n u → In n v → f x y = f u v → x = u ∧ y = v
theorem Fr.ext {n : Nat} {f g : Int → Int → Int × Int} (h : Fr n f) (e : ∀ x y, In n x → In n y → f x y = g x y) : Fr n g := by
  have r := h.rg
  refine ⟨fun x y a b => by rw [← e x y a b]; exact r x y a b, fun x y z a b c q => h.li x y z a b c (by rw [e x y a b, e x z a c]; exact q), fun x y z a b c q => h.ri x y z a b c (by rw [e y x b a, e z x c a]; exact q), fun x y z a b c => ?_, fun x y z a b c => ?_, fun x y z a b c => ?_,
    fun x y u v a b c d q => h.bi x y u v a b c d (by rw [e x y a b, e u v c d]; exact q)⟩
  · rw [← e x y a b, ← e y z b c, ← e _ z (r x y a b).2 c, ← e x _ a (r y z b c).1, ← e _ _ (r x y a b).1 (r _ z (r x y a b).2 c).1]; exact h.y1 x y z a b c
  · rw [← e x y a b, ← e y z b c, ← e _ z (r x y a b).2 c, ← e x _ a (r y z b c).1, ← e _ _ (r x y a b).1 (r _ z (r x y a b).2 c).1, ← e _ _ (r x _ a (r y z b c).1).2 (r y z b c).2]; exact h.y2 x y z a b c
  · rw [← e x y a b, ← e y z b c, ← e _ z (r x y a b).2 c, ← e x _ a (r y z b c).1, ← e _ _ (r x _ a (r y z b c).1).2 (r y z b c).2]; exact h.y3 x y z a b c
end Dn.T
set_option Elab.async false
set_option linter.all false
set_option maxRecDepth 100000
set_option autoImplicit false
set_option maxHeartbeats 4000000
namespace Dn.T
open PySem L2 Evl PySem.Spec PyProof.Rows
def ordF (n : Nat) : Nat → List (List Int)
  | 0 => [[]]
  | k + 1 => (ordF n k).flatMap fun m => ((rgI n).filter fun x => !decide (x ∈ m)).map fun x => m ++ [x]
theorem mem_ordF {n : Nat} : ∀ {k : Nat} {m : List Int}, m ∈ ordF n k ↔ m.length = k ∧ m.Nodup ∧ ∀ x, x ∈ m → In n x
  | 0, m => by
    unfold ordF
    rw [List.mem_singleton]
    constructor
    · rintro rfl; simp
    · rintro ⟨h, _⟩; exact List.length_eq_zero_iff.mp h
  | k + 1, m => by
    unfold ordF
    rw [List.mem_flatMap]
    constructor
    · rintro ⟨p, hp, hm⟩
      obtain ⟨h1, h2, h3⟩ := mem_ordF.1 hp
      obtain ⟨x, hx, rfl⟩ := List.mem_map.mp hm
      obtain ⟨hx1, hx2⟩ := List.mem_filter.mp hx
      have hx2 : x ∉ p := by simpa using hx2
      refine ⟨by simp [h1], ?_, fun y hy => ?_⟩
      · rw [List.nodup_append]
        refine ⟨h2, by simp, fun a ha b hb e => hx2 ?_⟩
        rw [List.mem_singleton.mp hb] at e; exact e ▸ ha
      · rcases List.mem_append.mp hy with hy | hy
        · exact h3 y hy
        · rw [List.mem_singleton.mp hy]; exact In.mem.1 hx1
    · rintro ⟨h1, h2, h3⟩
      have ne : m ≠ [] := fun e => by rw [e] at h1; simp at h1
      refine ⟨m.dropLast, mem_ordF.2 ⟨by simp [h1], List.Pairwise.sublist (List.dropLast_sublist m) h2, fun x hx => h3 x (List.dropLast_subset m hx)⟩, List.mem_map.mpr ⟨m.getLast ne, List.mem_filter.mpr ⟨In.mem.2 (h3 _ (List.getLast_mem ne)), ?_⟩, List.dropLast_concat_getLast ne⟩⟩
      have h2' := h2
      rw [← List.dropLast_concat_getLast ne, List.nodup_append] at h2'
      simp only [Bool.not_eq_true', decide_eq_false_iff_not]
      intro z
      exact h2'.2.2 _ z _ (by simp) rfl
theorem ordF_mv {n : Nat} {m : List Int} : m ∈ ordF n n ↔ Mv n m := by
  rw [mem_ordF]
  constructor
  · rintro ⟨h1, h2, h3⟩; exact Mv.of h1 h2 h3
  · intro h; exact ⟨h.len, h.nodup, fun x hx => In.mem.1 (h.mem_iff.mp hx)⟩
theorem ord_few : ∀ n, n ≤ 6 → ∀ k, k ≤ n → (ordF n k).length ≤ 720 := by
  have : ((List.range 7).all fun n => (List.range (n + 1)).all fun k => decide ((ordF n k).length ≤ 720)) = true := by decide +kernel
  simp only [List.all_eq_true, List.mem_range, decide_eq_true_eq] at this
  exact fun n hn k hk => this n (by omega) k (by omega)
end Dn.T
set_option Elab.async false
set_option linter.all false
set_option maxRecDepth 100000
set_option autoImplicit false
set_option maxHeartbeats 4000000
namespace Dn
open PySem L2 Evl PySem.Spec PyProof.Rows SrL
def S__law_joined (ds : List D) (Q : D → Prop) : Prop := ∃ (n : Nat) (a b : List Int), ds = [tI a, tI b] ∧ Mv n a ∧ Mv n b ∧ n ≤ 24 ∧ Q (tI (jn a b))
def S__law_undone (ds : List D) (Q : D → Prop) : Prop := ∃ (n : Nat) (m : List Int), ds = [tI m] ∧ Mv n m ∧ n ≤ 24 ∧ Q (tI (inv m))
end Dn
set_option Elab.async false
set_option linter.all false
set_option maxRecDepth 100000
set_option autoImplicit false
set_option maxHeartbeats 4000000
namespace Dn.T
open PySem L2 Evl PySem.Spec PyProof.Rows
def S__law_places_of (ds : List D) (Q : D → Prop) : Prop := ∃ c s : Nat, ds = [.int c, .int s] ∧ 1 ≤ s ∧ c * s ≤ 1000 ∧ Q (.list ((rgI (c * s)).map fun k => .tuple [.int (k / s), .int (k % s)]))
def Mw (n : Nat) (m : List Int) : Prop := m.length = n ∧ ∀ x, x ∈ m → 0 ≤ x ∧ x < n
def Dw (n : Nat) (C : List (List Int)) : Prop := C.length = n ∧ ∀ r, r ∈ C → Mw n r
def tL (C : List (List Int)) : D := .list (C.map tI)
def tP (p : Int × Int) : D := .tuple [.int p.1, .int p.2]
def tPs (r : List (Int × Int)) : D := .tuple (r.map tP)
def tRP (R : List (List (Int × Int))) : D := .tuple (R.map tPs)
def Pr (n : Nat) (p : Int × Int) : Prop := (0 ≤ p.1 ∧ p.1 < n) ∧ 0 ≤ p.2 ∧ p.2 < n
def Pw (n : Nat) (R : List (List (Int × Int))) : Prop := R.length = n ∧ ∀ r, r ∈ R → r.length = n ∧ ∀ p, p ∈ r → Pr n p
def pa (R : List (List (Int × Int))) (x y : Int) : Int × Int := (R.getD x.toNat []).getD y.toNat (0, 0)
def dt (C : List (List Int)) (x y : Int) : Int := (C.getD x.toNat []).getD y.toNat 0
def noBrk (b : Str → Int → Int → Int → Bool) (ws : List Str) (n : Nat) : Prop := ∀ s, s ∈ ws → ∀ t, t ∈ t3 n → b s t.1 t.2.1 t.2.2 = false
instance (b : Str → Int → Int → Int → Bool) (ws : List Str) (n : Nat) : Decidable (noBrk b ws n) := by unfold noBrk; infer_instance
def pp (w : Str) (t : Int × Int × Int) : D := .tuple [.str w, .int t.1, .int t.2.1, .int t.2.2]
def S__is_table_rows (ds : List D) (Q : D → Prop) : Prop := ∃ R n, ds = [tRP R] ∧ Pw n R ∧ n ≤ 8 ∧ Q (.bool true)
def S__check_rows (ds : List D) (Q : D → Prop) : Prop := ∃ R n, ds = [tRP R] ∧ Pw n R ∧ n ≤ 8 ∧ Q .none
def Rg (n : Nat) (d : Int → Int → Int) : Prop := ∀ x y, In n x → In n y → In n (d x y)
def prd (b : Nat) (d e : Int → Int → Int) (k j : Int) : Int := d (k / b) (j / b) * b + e (k % b) (j % b)
def S__law_undone (ds : List D) (Q : D → Prop) : Prop := ∃ n m, (∃ A, ds = [A] ∧ seqD A = some (m.map PyData.int)) ∧ Mv n m ∧ n ≤ 24 ∧ Q (tI (inv m))
def S__law_orders (ds : List D) (Q : D → Prop) : Prop := ∃ n : Nat, ds = [.int n] ∧ n ≤ 6 ∧ Q (tL (ordF n n))
def S__law_product_dots (ds : List D) (Q : D → Prop) : Prop := ∃ A B a b d e, ds = [A, B] ∧ seqD A = some ((tab a d).map tI) ∧ seqD B = some ((tab b e).map tI) ∧ Rg a d ∧ Rg b e ∧ 1 ≤ b ∧ a * b ≤ 24 ∧ Q (tL (tab (a * b) (prd b d e)))
end Dn.T
set_option Elab.async false
set_option linter.all false
set_option maxRecDepth 100000
set_option autoImplicit false
set_option maxHeartbeats 400000
namespace Dn.T
open PySem L2 Evl PySem.Spec PyProof.Rows
def fallsN (m : List Int) : Nat := ((List.range m.length).map fun i => ((m.take i).filter fun x => decide (m.getD i 0 < x)).length).sum
def evens : List (List Int) := (ordF 4 4).filter fun m => decide (fallsN m % 2 = 0)
theorem evens_len : evens.length = 12 := by decide +kernel
theorem gr_ev : ∃ u, Gr 12 (gOf (mvRows evens)) u ∧ u = ((evens.idxOf [0, 1, 2, 3] : Nat) : Int) := ⟨_, gr_of (by decide +kernel), rfl⟩
theorem tab_ev : tab 12 (gOf (mvRows evens)) = mvRows evens := tab_gOf (by decide +kernel) (by decide +kernel)
theorem ev_all : (evens.all fun a => evens.all fun b => decide (jn a b ∈ evens)) = true := by decide +kernel
end Dn.T
set_option Elab.async false
set_option linter.all false
set_option maxRecDepth 100000
set_option autoImplicit false
set_option maxHeartbeats 4000000
namespace Dn.T
open PySem L2 Evl PySem.Spec PyProof.Rows
abbrev F2 := Int → Int → Int × Int
def pass (f : F2) (w : List Int) (i : Nat) : List Int := (w.set i (f (w.getD i 0) (w.getD (i + 1) 0)).1).set (i + 1) (f (w.getD i 0) (w.getD (i + 1) 0)).2
def walk (f : F2) (w : List Int) (is : List Nat) : List Int := is.foldl (pass f) w
def swF : F2 := fun x y => (y, x)
abbrev swp (m : List Int) (i : Nat) : List Int := pass swF m i
def Wd (n : Nat) (w : List Int) : Prop := ∀ x, x ∈ w → In n x
theorem pass_len (f : F2) (w : List Int) (i : Nat) : (pass f w i).length = w.length := by unfold pass; simp
def Ds (m : List Int) (i : Nat) : Prop := i + 1 < m.length ∧ m.getD (i + 1) 0 < m.getD i 0
instance (m : List Int) (i : Nat) : Decidable (Ds m i) := by unfold Ds; infer_instance
inductive Pth : List Int → List Nat → List Int → Prop where
  | nil (m : List Int) : Pth m [] m
  | cons {m e : List Int} {i : Nat} {is : List Nat} (h : Ds m i) (r : Pth (swp m i) is e) : Pth m (i :: is) e
theorem Pth.end {m e : List Int} {is : List Nat} (h : Pth m is e) : e = is.foldl swp m := by
  induction h with
  | nil => rfl
  | cons d _ ih => rw [List.foldl_cons]; exact ih
theorem Pth.lt {m e : List Int} {is : List Nat} (h : Pth m is e) : ∀ i, i ∈ is → i + 1 < m.length := by
  induction h with
  | nil => simp
  | cons d _ ih =>
    intro j hj
    rcases List.mem_cons.mp hj with rfl | hj
    · exact d.1
    · have := ih j hj; rw [pass_len] at this; exact this
theorem Pth.len {m e : List Int} {is : List Nat} (h : Pth m is e) : e.length = m.length := by
  induction h with
  | nil => rfl
  | cons d _ ih => rw [ih, pass_len]
end Dn.T
set_option Elab.async false
set_option linter.all false
set_option maxRecDepth 100000
set_option autoImplicit false
set_option maxHeartbeats 4000000
namespace Dn.T
open PySem L2 Evl PySem.Spec PyProof.Rows
def od (k : Nat) (js : List Nat) : List Int := js.foldl swp (rgI k)
end Dn.T
set_option Elab.async false
set_option linter.all false
set_option maxRecDepth 100000
set_option autoImplicit false
set_option maxHeartbeats 4000000
namespace Dn.T
open PySem L2 Evl PySem.Spec PyProof.Rows
def nI (is : List Nat) : List D := is.map fun i => .int (i : Nat)
end Dn.T
set_option Elab.async false
set_option linter.all false
set_option maxRecDepth 100000
set_option autoImplicit false
set_option maxHeartbeats 4000000
namespace Dn
open PySem L2 Evl PySem.Spec PyProof.Rows
abbrev N_is_integer : List Str := ["value"]
abbrev P_is_integer : List Str := ["value"]
def g_is_integer : DS := sSeq (sIf (dTOr (dTNot (dTst (dIsi "int" (dVar 0)))) (dTst (dIsi "bool" (dVar 0)))) (sRet (dC (.bool false))) (sNx)) (sRet (dChain dLt dLt (dNeg (dC (.int 1000000000000000000000000000000000000000000000000000000000000))) (dVar 0) (dC (.int 1000000000000000000000000000000000000000000000000000000000000))))
abbrev N_is_thing : List Str := ["value", "size"]
abbrev P_is_thing : List Str := ["value", "size"]
def g_is_thing : DS := sRet (dAnd (dCallF 1 S_is_integer (aCons (dVar 0) (aNil))) (dChain dLe dLt (dC (.int 0)) (dVar 0) (dVar 1)))
abbrev N_is_row : List Str := ["value", "many", "size", "thing"]
abbrev P_is_row : List Str := ["value", "many", "size"]
def g_is_row : DS := sSeq (sIf (dTOr (dTNot (dTst (dIsi "tuple" (dVar 0)))) (dTst (dBin dNe (dCall dLen (aCons (dVar 0) (aNil))) (dVar 1)))) (sRet (dC (.bool false))) (sNx)) (sSeq (sFor (iSq (dVar 0)) (gNm 3) (sIf (dTOr (dTNot (dTst (dIsi "int" (dVar 3)))) (dTOr (dTst (dIsi "bool" (dVar 3))) (dTNot (dTst (dChain dLe dLt (dC (.int 0)) (dVar 3) (dVar 2)))))) (sRet (dC (.bool false))) (sNx))) (sRet (dC (.bool true))))
abbrev N_check_thing : List Str := ["value", "size"]
abbrev P_check_thing : List Str := ["value", "size"]
def g_check_thing : DS := sIf (dTNot (dTst (dCallF 2 S_is_thing (aCons (dVar 0) (aCons (dVar 1) (aNil)))))) (sNever) (sNx)
abbrev N__law_dice : List Str := ["_law_script", "_law_spot", "_law_cell", "_law_left"]
abbrev P__law_dice : List Str := ["_law_script", "_law_spot"]
def g__law_dice : (List D → Prop) → Env → Prop := (fun Q ρ => (sSet 2 (xIm (dIfE (dTst (dBin dLt (dVar 1) (dCall dLen (aCons (dVar 0) (aNil))))) (dCall dInt (aCons (dBin dIx (dVar 0) (dVar 1)) (aNil))) (dBin dAdd (dBin dMulA (dC (.int 83)) (dVar 1)) (dC (.int 29)))))) { nx := (fun Q ρ => (sSet 3 (xIm (dBin dMod (dCall dMax2 (aCons (dC (.int 0)) (aCons (dBin dSub (dCall dAbs (aCons (dVar 2) (aNil))) (dBin dPow (dC (.int 10)) (dC (.int 16)))) (aNil)))) (dBin dMulA (dBin dPow (dC (.int 10)) (dC (.int 60))) (dBin dPow (dC (.int 10)) (dC (.int 60))))))) { nx := (fun Q ρ => (lLst (aCons (dVar 3) (aCons (dBin dAdd (dBin dAdd (dBin dAdd (dBin dMulA (dBin dMod (dCall dAbs (aCons (dVar 2) (aNil))) (dC (.int 1152921504606845527))) (dC (.int 79))) (dBin dMulA (dC (.int 877)) (dVar 1))) (dBin dMulA (dC (.int 41)) (dCall dInt (aCons (dBin dLt (dVar 2) (dC (.int 0))) (aNil))))) (dC (.int 23))) (aCons (dC (.int 0)) (aNil))))) ρ fun es _ => Q es) Q, rt := fun _ _ => False } ρ) Q, rt := fun _ _ => False } ρ)
abbrev N__law_roll : List Str := ["_law_dice_here", "_law_total", "_law_found", "_law_one", "_law_two"]
abbrev P__law_roll : List Str := ["_law_dice_here", "_law_total"]
def g__law_roll : DS := sSeq (sIf (dTst (dBin dGt (dIxP 0 (dC (.int 0))) (dC (.int 0)))) (sSeq (sSet 2 (xIm (dBin dMod (dCall dInt (aCons (dIxP 0 (dC (.int 0))) (aNil))) (dVar 1)))) (sSeq (sSub 0 (dC (.int 0)) (dBin dFdiv (dIxP 0 (dC (.int 0))) (dVar 1))) (sRet (dVar 2)))) (sNx)) (sSeq (sSub 0 (dC (.int 2)) (dBin dAdd (dIxP 0 (dC (.int 2))) (dC (.int 1)))) (sSeq (sSet 3 (xIm (dBin dMod (dCall dInt (aCons (dBin dAdd (dIxP 0 (dC (.int 1))) (dBin dMulA (dC (.int 92821957)) (dIxP 0 (dC (.int 2))))) (aNil))) (dC (.int 2305843009213691579))))) (sSeq (sSet 4 (xIm (dBin dAdd (dBin dMulA (dBin dMod (dCall dInt (aCons (dBin dAdd (dBin dMulA (dVar 3) (dVar 3)) (dBin dMulA (dC (.int 97)) (dIxP 0 (dC (.int 2))))) (aNil))) (dC (.int 2305843009213692227))) (dC (.int 5915587))) (dVar 3)))) (sRet (dBin dMod (dCall dInt (aCons (dBin dFdiv (dVar 4) (dC (.int 65536))) (aNil))) (dVar 1))))))
abbrev N__law_mixed : List Str := ["_law_dice_here", "_law_items", "_law_left", "_law_found", "_law_turn"]
abbrev P__law_mixed : List Str := ["_law_dice_here", "_law_items"]
def g__law_mixed : DS := sSeq (sPar 2 3 (xOw (lOf (dVar 1))) (xOw (lLst (aNil)))) (sSeq (sFor (iR1 (dCall dLen (aCons (dVar 1) (aNil)))) (gNm 4) (sEx (dApp 3 (dPopAt 2 (dCallM 0 2 S__law_roll (aCons (dCallO 2 dLen) (aNil))))))) (sRetO 3))
abbrev N__law_drawn_move : List Str := ["_law_dice_here", "_law_size"]
abbrev P__law_drawn_move : List Str := ["_law_dice_here", "_law_size"]
def g__law_drawn_move : DS := sRet (dCall dTupOf (aCons (dCallM 0 2 S__law_mixed (aCons (dOfL (lRg (rg1 (dVar 1)))) (aNil))) (aNil)))
end Dn
set_option Elab.async false
set_option linter.all false
set_option maxRecDepth 100000
set_option autoImplicit false
set_option maxHeartbeats 4000000
namespace Dn
open PySem L2 Evl PySem.Spec PyProof.Rows
local macro_rules | `(tactic| walk_at "dd") => `(tactic| simp only [sSeq, sIf, sSet, sRet, sRetN, sNx, sEx, sAsg, sPar, dTOr, dTAnd, dTNot, dTst, dIsi, dVar, dC, dBin, dChain, dNeg, dI2, dAnd, dOr, dNot, dIfE, dCall, dCallF, aCons, aNil, dTup, lLst, dOfL, xIm, xOw, gNm, gTp, gsCons, gsNil, dYes, envD, dLen_tR, dLen_tI, dLen_tup, dLen_lst, seq_tR, seq_tI, seq_tup, seq_lst, dIs, dIsNot, dNe, dEq, dTupOf, dSl, oNone, oSome, iSq, iEn, iR1, iR2, sFor, lLc, sNever, dTRg, rg1, rg2, lRg, wipeD, isN,
  dIxP, sSub, dApp, dPopAt, dExt, dCallM, dCallO, dBinO, dTupO, lOf, lOfO, sRetO, iOw, dVarF, lCat, lCall, dAbs, dMax2, dMin2, dInt, atO, setO, MO.getL, MO.putL, Option.isSome_some,
  dInK, dGetK, dGetD, dInD, dGet1, lKeys, lSort, dLenSet, dRevT, sPutK, xDct, xDct1, sRetK, atK, keyD, sAugI,
  kit_int, kit_bool, kit_tuple, kit_str, List.map_cons, List.map_nil, List.cons_append, List.nil_append, List.replicate, List.set_cons_zero, List.set_cons_succ, List.getElem?_cons_zero, List.getElem?_cons_succ, List.length_cons, List.length_nil, List.length_map, Nat.reduceAdd, Nat.reduceSub, Bool.not_true, Bool.not_false, Bool.false_eq_true, if_true, if_false, true_and, reduceCtorEq, Bool.true_eq_false, rgD_rgI, Option.some.injEq, exists_eq_left', and_true])
theorem v_is_integer : VD g_is_integer S_is_integer 1 0 := fun ds Q _ h => by
  obtain ⟨d, rfl, h⟩ := h
  unfold g_is_integer
  walk_at "dd"
  cases d with
  | int i =>
    simp only [isI] at h
    walk_at "dd"
    refine bool_ways (fun e => ?_) (fun e => ?_)
    · rw [e] at h; exact h
    · rw [e] at h; exact h
  | _ => first | (walk_at "dd"; exact h) | exact h
theorem v_is_thing : VD g_is_thing S_is_thing 2 0 := fun ds Q _ h => by
  obtain ⟨d, n, rfl, h⟩ := h
  unfold g_is_thing
  walk_at "dd"
  refine ⟨d, rfl, ?_⟩
  cases d with
  | int i =>
    simp only [isTh] at h
    simp only [isI]
    refine bool_ways (fun e => ?_) (fun e => ?_)
    · rw [e] at h
      walk_at "dd"
      refine bool_ways (fun e2 => ?_) (fun e2 => ?_)
      · rw [e2] at h; simpa using h
      · rw [e2] at h; simpa using h
    · rw [e] at h; exact h
  | _ => exact h
theorem v_is_row : VD g_is_row S_is_row 3 1 := fun ds Q _ h => by
  obtain ⟨d, m, n, rfl, hl, hn, h⟩ := h
  unfold g_is_row
  walk_at "dd"
  cases d with
  | tuple xs =>
    simp only [isRow] at h
    walk_at "dd"
    refine ⟨rfl, rfl, ?_⟩
    simp only [PyData.eqv]
    refine ite_ways (fun e => ?_) (fun e => ?_)
    · rw [show decide ((xs.length : Int) = m) = false from by simpa using e] at h; exact h
    · rw [show decide ((xs.length : Int) = m) = true from by simpa using e] at h
      refine wpFor_find (fun d => if isTh n d = true then none else some (.bool false)) (fun ρ => ∃ x, ρ = [some (.im (.tuple xs)), some (.im (.int m)), some (.im (.int n)), x]) ⟨_, rfl⟩ (fun d _ ρ K B hI hq hk => ?_) (fun v hv => ?_) (fun hv ρ hI => ?_)
      · obtain ⟨x, rfl⟩ := hI
        walk_at "dd"
        cases d with
        | int i =>
          walk_at "dd"
          have te : isTh n (.int i) = true ↔ 0 ≤ i ∧ i < n := by
            simp only [isTh, Bool.and_eq_true, decide_eq_true_eq]
            omega
          refine bool_ways (fun e1 => ?_) (fun e1 => ?_)
          · refine ite_ways (fun e2 => ?_) (fun e2 => ?_)
            · exact hq _ (if_neg (by rw [te]; simp at e1 e2; omega))
            · exact hk (if_pos (by rw [te]; simp at e1 e2; omega)) _ ⟨_, rfl⟩
          · exact hq _ (if_neg (by rw [te]; simp at e1; omega))
        | _ => exact hq _ rfl
      · have e2 : xs.all (isTh n) = false := by
          obtain ⟨d, hd, h2⟩ := List.exists_of_findSome?_eq_some hv
          rw [Bool.eq_false_iff]
          intro z
          have := List.all_eq_true.mp z d hd
          simp [this] at h2
        have e3 : v = .bool false := by
          obtain ⟨d, hd, h2⟩ := List.exists_of_findSome?_eq_some hv
          split at h2
          · cases h2
          · cases h2; rfl
        subst e3
        simpa [e2] using h
      · have e2 : xs.all (isTh n) = true := by
          rw [List.all_eq_true]
          intro d hd
          have := List.findSome?_eq_none_iff.mp hv d hd
          simpa using this
        obtain ⟨x, rfl⟩ := hI
        walk_at "dd"
        simpa [e2] using h
  | _ => exact h
theorem v_check_thing : VD g_check_thing S_check_thing 2 0 := fun ds Q _ h => by
  obtain ⟨d, n, rfl, h1, h⟩ := h
  unfold g_check_thing
  walk_at "dd"
  refine ⟨_, _, rfl, ?_⟩
  rw [h1]
  exact h
end Dn
set_option Elab.async false
set_option linter.all false
set_option maxRecDepth 100000
set_option autoImplicit false
set_option maxHeartbeats 4000000
namespace Dn
open PySem L2 Evl PySem.Spec PyProof.Rows
local macro_rules | `(tactic| walk_at "dd") => `(tactic| simp only [sSeq, sIf, sSet, sRet, sRetN, sNx, sEx, sAsg, sPar, dTOr, dTAnd, dTNot, dTst, dIsi, dVar, dC, dBin, dChain, dNeg, dI2, dAnd, dOr, dNot, dIfE, dCall, dCallF, aCons, aNil, dTup, lLst, dOfL, xIm, xOw, gNm, gTp, gsCons, gsNil, dYes, envD, dLen_tR, dLen_tI, dLen_tup, dLen_lst, seq_tR, seq_tI, seq_tup, seq_lst, dIs, dIsNot, dNe, dEq, dTupOf, dSl, oNone, oSome, iSq, iEn, iR1, iR2, sFor, lLc, sNever, dTRg, rg1, rg2, lRg, wipeD, isN,
  dIxP, sSub, dApp, dPopAt, dExt, dCallM, dCallO, dBinO, dTupO, lOf, lOfO, sRetO, iOw, dVarF, lCat, lCall, dAbs, dMax2, dMin2, dInt, atO, setO, MO.getL, MO.putL, Option.isSome_some,
  dInK, dGetK, dGetD, dInD, dGet1, lKeys, lSort, dLenSet, dRevT, sPutK, xDct, xDct1, sRetK, atK, keyD, sAugI,
  kit_int, kit_bool, kit_tuple, kit_str, List.map_cons, List.map_nil, List.cons_append, List.nil_append, List.replicate, List.set_cons_zero, List.set_cons_succ, List.getElem?_cons_zero, List.getElem?_cons_succ, List.length_cons, List.length_nil, List.length_map, Nat.reduceAdd, Nat.reduceSub, Bool.not_true, Bool.not_false, Bool.false_eq_true, if_true, if_false, true_and, reduceCtorEq, Bool.true_eq_false, rgD_rgI, Option.some.injEq, exists_eq_left', and_true])
theorem dc_ok (a b c : Int) : Dc [.int a, .int b, .int c] := ⟨a, b, c, rfl⟩
theorem v__law_dice : VL g__law_dice S__law_dice 2 2 := fun ds Q _ h => by
  obtain ⟨s, i, rfl, i0, h⟩ := h
  unfold g__law_dice
  have e16 : CPow 10 16 := by unfold CPow; decide +kernel
  have e60 : CPow 10 60 := by unfold CPow; decide +kernel
  have m60 : CMul (10 ^ Int.toNat 60) (10 ^ Int.toNat 60) ∨ CMulW (10 ^ Int.toNat 60) (10 ^ Int.toNat 60) := .inr (by unfold CMulW; decide +kernel)
  have p60 : (0 : Int) < 10 ^ Int.toNat 60 * 10 ^ Int.toNat 60 := by decide +kernel
  have s877 : CMul 877 i ∨ CMulW 877 i := cm_l ⟨by decide, by decide⟩
  have fin : ∀ z : Int, dAbs [.int z] fun z_1 => CPow 10 16 ∧ dSub z_1 (PyData.int (10 ^ Int.toNat 16)) fun z_2 => dMax2 [.int 0, z_2] fun z_3 => CPow 10 60 ∧ CPow 10 60 ∧ (CMul (10 ^ Int.toNat 60) (10 ^ Int.toNat 60) ∨ CMulW (10 ^ Int.toNat 60) (10 ^ Int.toNat 60)) ∧
      dMod z_3 (PyData.int (10 ^ Int.toNat 60 * 10 ^ Int.toNat 60)) fun z_4 => dAbs [.int z] fun z_5 => dMod z_5 (PyData.int 1152921504606845527) fun z_6 => dMulA z_6 (PyData.int 79) fun z_7 => (CMul 877 i ∨ CMulW 877 i) ∧ dAdd z_7 (PyData.int (877 * i)) fun z_8 =>
        dLt (.int z) (PyData.int 0) fun z => dInt [z] fun z => dMulA (PyData.int 41) z fun z => dAdd z_8 z fun z => dAdd z (PyData.int 23) fun z => 3 ≤ 16777216 ∧ Q [z_4, z, PyData.int 0] := fun z =>
    ⟨e16, trivial, e60, e60, m60, p60, (by show (0 : Int) < 1152921504606845527; decide), cm_r ⟨by decide, by decide⟩, s877, trivial, cm_l ⟨by decide, by decide⟩, by decide, h _ (dc_ok _ _ _)⟩
  walk_at "dd"
  refine ⟨trivial, ?_⟩
  refine ite_ways (b := decide (i < ((s.map PyData.int).length : Int))) (fun z => ?_) (fun z => ?_)
  · have z' : i < s.length := by simpa using z
    refine ⟨.int (s.getD i.toNat 0), ?_, fin _⟩
    have := atI_in (d := PyData.int 0) i0 (show i < ((s.map PyData.int).length : Int) by simpa using z')
    rw [show (s.map PyData.int).getD i.toNat (PyData.int 0) = .int (s.getD i.toNat 0) from by simp [List.getD]] at this
    exact this
  · exact ⟨cm_l ⟨by decide, by decide⟩, fin _⟩
theorem v__law_roll : VM g__law_roll S__law_roll 2 3 := fun l ms ds Q _ h => by
  obtain ⟨t, rfl, t0, t1, ⟨a, b, c, rfl⟩, h⟩ := h
  unfold g__law_roll
  walk_at "dd"
  refine ⟨_, _, _, rfl, rfl, rfl, trivial, ?_⟩
  refine ite_ways (b := decide ((0 : Int) < a)) (fun z => ?_) (fun z => ?_)
  · refine ⟨_, _, _, rfl, rfl, rfl, t0, ?_⟩
    refine ⟨_, _, _, rfl, rfl, rfl, cd_t t0 t1, ?_⟩
    exact ⟨_, _, _, rfl, rfl, rfl, _, rfl, h _ _ (Int.emod_nonneg _ (by omega)) (Int.emod_lt_of_pos _ t0) (dc_ok _ _ _)⟩
  · refine ⟨_, _, _, rfl, rfl, rfl, ?_⟩
    refine ⟨_, _, _, rfl, rfl, rfl, ?_⟩
    refine ⟨_, _, _, rfl, rfl, rfl, ?_⟩
    refine ⟨_, _, _, rfl, rfl, rfl, cm_l ⟨by decide, by decide⟩, (by show (0 : Int) < 2305843009213691579; decide), ?_⟩
    have hb : ∀ x : Int, -(2 ^ 64) < x % 2305843009213691579 ∧ x % 2305843009213691579 < 2 ^ 64 := fun x => by
      have h1 := Int.emod_nonneg x (show (2305843009213691579 : Int) ≠ 0 by decide)
      have h2 := Int.emod_lt_of_pos x (show (0 : Int) < 2305843009213691579 by decide)
      omega
    refine ⟨cm_l (hb _), ?_⟩
    refine ⟨_, _, _, rfl, rfl, rfl, cm_l ⟨by decide, by decide⟩, (by show (0 : Int) < 2305843009213692227; decide), cm_r ⟨by decide, by decide⟩, ?_⟩
    refine ⟨⟨by decide, by decide +kernel⟩, t0, _, rfl, h _ _ (Int.emod_nonneg _ (by omega)) (Int.emod_lt_of_pos _ t0) (dc_ok _ _ _)⟩
theorem v__law_mixed : VM g__law_mixed S__law_mixed 2 3 := fun l ms ds Q _ h => by
  obtain ⟨d, xs, rfl, hd, hl, hm, h⟩ := h
  unfold g__law_mixed
  walk_at "dd"
  rw [hd]
  dsimp only
  rw [dLen_seq hd]
  refine ⟨by omega, ⟨by omega, by omega, by omega, by omega⟩, ?_⟩
  rw [rgD_rgI]
  refine wpFor_cps (fun done ρ => ∃ ms L Fd x, ρ = [some (SV.ow (MO.par l (MO.lst ms))), some (SV.im d), some (SV.ow (MO.lst L)), some (SV.ow (MO.lst Fd)), x] ∧ Dc ms ∧ (Fd ++ L).Perm xs ∧ Fd.length = done.length) ⟨ms, xs, [], _, rfl, hm, by simp, rfl⟩ (fun done d' rest ρ K e p k => ?_) (fun ρ p => ?_)
  · obtain ⟨ms, L, Fd, x, rfl, hm, hp, hf⟩ := p
    have hlen := hp.length_eq
    have he := congrArg List.length e
    simp [rgI_len] at he hlen
    walk_at "dd"
    refine ⟨rfl, _, rfl, by omega, by simp only [T60]; omega, hm, fun r ms' r0 r1 hm' => ?_⟩
    have hr : r.toNat < L.length := by omega
    refine ⟨L, r, r.toNat, L[r.toNat], rfl, rfl, r0, r1, rfl, List.getElem?_eq_getElem hr, by omega, by omega, ?_⟩
    refine k _ ⟨ms', L.eraseIdx r.toNat, Fd ++ [L[r.toNat]], _, rfl, hm', ?_, by simp [hf]⟩
    refine List.Perm.trans ?_ hp
    rw [List.append_assoc]
    refine List.Perm.append_left _ ?_
    exact erase_permD hr
  · obtain ⟨ms, L, Fd, x, rfl, hm, hp, hf⟩ := p
    have hlen := hp.length_eq
    simp [rgI_len] at hf hlen
    have : L = [] := List.length_eq_zero_iff.mp (by omega)
    subst this
    exact ⟨ms, rfl, h Fd ms (by simpa using hp) hm⟩
theorem perm_ints {ys : List D} {ns : List Int} (h : ys.Perm (ns.map PyData.int)) : ∃ ms : List Int, ys = ms.map PyData.int ∧ ms.Perm ns := by
  have : ∀ (xs ys : List D), xs.Perm ys → ∀ ns : List Int, ys = ns.map PyData.int → ∃ ms : List Int, xs = ms.map PyData.int ∧ ms.Perm ns := by
    intro xs ys h
    induction h with
    | nil => intro ns e; cases ns with | nil => exact ⟨[], rfl, .nil⟩ | cons _ _ => cases e
    | cons x h ih =>
      intro ns e
      cases ns with
      | nil => cases e
      | cons n ns =>
        simp at e
        obtain ⟨ms, e1, e2⟩ := ih ns e.2
        exact ⟨n :: ms, by simp [e1, e.1], e2.cons n⟩
    | swap x y l =>
      intro ns e
      match ns, e with
      | a :: b :: ns, e =>
        simp at e
        exact ⟨b :: a :: ns, by simp [e.1, e.2.1, e.2.2], .swap a b ns⟩
    | trans h1 h2 ih1 ih2 =>
      intro ns e
      obtain ⟨ms, e1, e2⟩ := ih2 ns e
      obtain ⟨ms2, e3, e4⟩ := ih1 ms e1
      exact ⟨ms2, e3, e4.trans e2⟩
  exact this _ _ h _ rfl
theorem v__law_drawn_move : VM g__law_drawn_move S__law_drawn_move 2 0 := fun l ms ds Q _ h => by
  obtain ⟨n, rfl, hn, hm, h⟩ := h
  unfold g__law_drawn_move
  walk_at "dd"
  refine ⟨⟨by omega, by omega, by omega, by omega⟩, _, _, rfl, rfl, by simp [rgI_len]; omega, hm, fun ys ms' hp hm' => ?_⟩
  obtain ⟨m, rfl, hp2⟩ := perm_ints hp
  exact ⟨ms', rfl, h m ms' hp2 hm'⟩
end Dn
set_option Elab.async false
set_option linter.all false
set_option maxRecDepth 100000
set_option autoImplicit false
set_option maxHeartbeats 4000000
namespace Dn
open PySem L2 Evl PySem.Spec PyProof.Rows
theorem mem_rg {l : List Int} {n : Nat} (h : l.Perm (rgI n)) {x : Int} (hx : x ∈ l) : 0 ≤ x ∧ x < n := mem_rgI.mp (h.mem_iff.1 hx)
theorem ix_im {n : Nat} {m : List Int} {x : Int} {Q : D → Prop} (h : List.Perm m (rgI n)) (x0 : 0 ≤ x) (x1 : x < n) (q : Q (.int (im m x))) : dIx (tI m) (.int x) Q :=
  ixI x0 (by rw [h.length_eq, rgI_len]; exact x1) q
end Dn
set_option Elab.async false
set_option linter.all false
set_option maxRecDepth 100000
set_option autoImplicit false
set_option maxHeartbeats 4000000
namespace Dn
open PySem L2 Evl PySem.Spec PyProof.Rows
abbrev N__law_pick : List Str := ["_law_dice_here", "_law_items"]
abbrev P__law_pick : List Str := ["_law_dice_here", "_law_items"]
def g__law_pick : DS := sRet (dBin dIx (dVar 1) (dCallM 0 2 S__law_roll (aCons (dCall dLen (aCons (dVar 1) (aNil))) (aNil))))
abbrev N__law_joined : List Str := ["_law_one", "_law_other", "_law_thing"]
abbrev P__law_joined : List Str := ["_law_one", "_law_other"]
def g__law_joined : DS := sRet (dCall dTupOf (aCons (dOfL (lLc (iSq (dVar 1)) (gNm 2) (dYes) (dBin dIx (dVar 0) (dVar 2)) [2])) (aNil)))
abbrev N__law_undone : List Str := ["_law_move", "_law_found", "_law_thing", "_law_goal"]
abbrev P__law_undone : List Str := ["_law_move"]
def g__law_undone : DS := sSeq (sSet 1 (xOw (lLc (iSq (dVar 0)) (gNm 2) (dYes) (dC (.int 0)) [2]))) (sSeq (sFor (iEn (dVar 0)) (gTp 2 (gsCons (gNm 2) (gsCons (gNm 3) (gsNil)))) (sSub 1 (dVar 3) (dVar 2))) (sRet (dTupO 1)))
end Dn
set_option Elab.async false
set_option linter.all false
set_option maxRecDepth 100000
set_option autoImplicit false
set_option maxHeartbeats 4000000
namespace Dn
open PySem L2 Evl PySem.Spec PyProof.Rows
local macro_rules | `(tactic| walk_at "dd") => `(tactic| simp only [sSeq, sIf, sSet, sRet, sRetN, sNx, sEx, sAsg, sPar, dTOr, dTAnd, dTNot, dTst, dIsi, dVar, dC, dBin, dChain, dNeg, dI2, dAnd, dOr, dNot, dIfE, dCall, dCallF, aCons, aNil, dTup, lLst, dOfL, xIm, xOw, gNm, gTp, gsCons, gsNil, dYes, envD, dLen_tR, dLen_tI, dLen_tup, dLen_lst, seq_tR, seq_tI, seq_tup, seq_lst, dIs, dIsNot, dNe, dEq, dTupOf, dSl, oNone, oSome, iSq, iEn, iR1, iR2, sFor, lLc, sNever, dTRg, rg1, rg2, lRg, wipeD, isN,
  dIxP, sSub, dApp, dPopAt, dExt, dCallM, dCallO, dBinO, dTupO, lOf, lOfO, sRetO, iOw, dVarF, lCat, lCall, dAbs, dMax2, dMin2, dInt, atO, setO, MO.getL, MO.putL, Option.isSome_some,
  lSortT, dOfK, xOwK, lDc, dMinL, dIndex, lRep, dInK, dGetK, dGetD, dInD, dGet1, lKeys, lSort, dLenSet, dRevT, sPutK, xDct, xDct1, sRetK, atK, keyD, sAugI,
  kit_int, kit_bool, kit_tuple, kit_str, List.map_cons, List.map_nil, List.cons_append, List.nil_append, List.replicate, List.set_cons_zero, List.set_cons_succ, List.getElem?_cons_zero, List.getElem?_cons_succ, List.length_cons, List.length_nil, List.length_map, Nat.reduceAdd, Nat.reduceSub, Bool.not_true, Bool.not_false, Bool.false_eq_true, if_true, if_false, true_and, reduceCtorEq, Bool.true_eq_false, rgD_rgI, Option.some.injEq, exists_eq_left', and_true])
theorem jn_read {n : Nat} {a b : List Int} (ha : Mv n a) (hb : Mv n b) (f : Int → D) (hf : ∀ x, f x = .int (im a x)) : PyData.tuple (b.map f) = tI (jn a b) := by
  unfold tI jn
  rw [List.map_map]
  congr 1
  exact List.map_congr_left fun x _ => hf x
theorem v__law_joined : VD g__law_joined S__law_joined 2 1 := fun ds Q _ h => by
  obtain ⟨n, a, b, rfl, ha, hb, hn, h⟩ := h
  unfold g__law_joined
  try walk_at "dd"
  refine wpLc_mapL b PyData.int (fun x => .int (im a x)) (by rw [hb.len]; omega) rfl (fun x hx K hK => ?_) (fun _ => rfl) ?_
  · have rx := mem_rg hb hx
    try walk_at "dd"
    exact ix_im ha rx.1 rx.2 (hK _ rfl)
  · try walk_at "dd"
    rw [jn_read ha hb (fun x => .int (im a x)) fun _ => rfl]
    exact h
theorem valD_put {kvs : List (Key × D)} {k j : Key} {d : D} : valD (putD kvs k d) j = if j = k then some d else valD kvs j := by
  unfold putD
  by_cases a : (kvs.any fun kv => decide (kv.1 = k)) = true
  · rw [if_pos a]
    induction kvs with
    | nil => simp at a
    | cons e r ih =>
      unfold valD at ih ⊢
      rw [List.map_cons, List.find?_cons, List.find?_cons]
      by_cases h : e.1 = k
      · rw [if_pos h]
        by_cases h2 : j = k
        · subst h2; simp [h]
        · have h3 : ¬ e.1 = j := fun z => h2 (by rw [← z, h])
          rw [if_neg h2]
          simp only [h3, decide_false]
          clear ih a
          induction r with
          | nil => rfl
          | cons e2 r2 ih2 =>
            rw [List.map_cons, List.find?_cons, List.find?_cons]
            by_cases h4 : e2.1 = k
            · rw [if_pos h4]
              have h5 : ¬ e2.1 = j := fun z => h2 (by rw [← z, h4])
              simp only [h5, decide_false]
              exact ih2
            · rw [if_neg h4]
              by_cases h5 : e2.1 = j
              · simp [h5]
              · simp only [h5, decide_false]
                exact ih2
      · rw [if_neg h]
        have a2 : (r.any fun kv => decide (kv.1 = k)) = true := by
          rw [List.any_cons] at a
          simpa [h] using a
        by_cases h3 : e.1 = j
        · have h2 : ¬ j = k := fun z => h (by rw [h3, z])
          rw [if_neg h2]
          simp [h3]
        · simp only [h3, decide_false]
          exact ih a2
  · rw [if_neg a]
    have hn : valD kvs k = none := valD_none_any.2 (by rw [Bool.not_eq_true] at a; exact a)
    unfold valD at hn ⊢
    rw [List.find?_append]
    by_cases h2 : j = k
    · subst h2
      rw [Option.map_eq_none_iff] at hn
      rw [hn, if_pos rfl]
      simp
    · rw [if_neg h2]
      have : ¬ k = j := fun z => h2 z.symm
      simp [this]
end Dn
set_option Elab.async false
set_option linter.all false
set_option maxRecDepth 100000
set_option autoImplicit false
set_option maxHeartbeats 4000000
namespace Dn.T
open PySem L2 Evl PySem.Spec PyProof.Rows
abbrev N__law_undone : List Str := ["_law_move", "_law_found", "_law_thing", "_law_goal"]
abbrev P__law_undone : List Str := ["_law_move"]
def g__law_undone : DS := sSeq (sSet 1 (xOw (lLc (iSq (dVar 0)) (gNm 2) (dYes) (dC (.int 0)) [2]))) (sSeq (sFor (iEn (dVar 0)) (gTp 2 (gsCons (gNm 2) (gsCons (gNm 3) (gsNil)))) (sSub 1 (dVar 3) (dVar 2))) (sRet (dTupO 1)))
abbrev N__law_orders : List Str := ["_law_size", "_law_found", "_law_turn", "_law_longer", "_law_one", "_law_thing"]
abbrev P__law_orders : List Str := ["_law_size"]
def g__law_orders : DS := sSeq (sSet 1 (xIm (dOfL (lLst (aCons (dTup (aNil)) (aNil)))))) (sSeq (sFor (iR1 (dVar 0)) (gNm 2) (sSeq (sSet 3 (xOw (lLst (aNil)))) (sSeq (sFor (iSq (dVar 1)) (gNm 4) (sEx (dExt 3 (dOfL (lLc (iR1 (dVar 0)) (gNm 5) (dTst (dBin (dIn true) (dVar 5) (dVar 4))) (dBin dAdd (dVar 4) (dTup (aCons (dVar 5) (aNil)))) [5]))))) (sSet 1 (xIm (dOfL (lOfO 3))))))) (sRet (dVar 1)))
abbrev N__law_places_of : List Str := ["_law_count", "_law_size", "_law_at"]
abbrev P__law_places_of : List Str := ["_law_count", "_law_size"]
def g__law_places_of : DS := sRet (dOfL (lLc (iR1 (dBin dMulA (dVar 0) (dVar 1))) (gNm 2) (dYes) (dTup (aCons (dBin dFdiv (dVar 2) (dVar 1)) (aCons (dBin dMod (dVar 2) (dVar 1)) (aNil)))) [2]))
abbrev N__law_product_dots : List Str := ["_law_one", "_law_other", "_law_size", "_law_found", "_law_places", "_law_first", "_law_second", "_law_row", "_law_line", "_law_a", "_law_b"]
abbrev P__law_product_dots : List Str := ["_law_one", "_law_other"]
def g__law_product_dots : DS := sSeq (sPar 2 3 (xIm (dCall dLen (aCons (dVar 1) (aNil)))) (xOw (lLst (aNil)))) (sSeq (sSet 4 (xIm (dCallF 2 S__law_places_of (aCons (dCall dLen (aCons (dVar 0) (aNil))) (aCons (dVar 2) (aNil)))))) (sSeq (sFor (iSq (dVar 4)) (gTp 2 (gsCons (gNm 5) (gsCons (gNm 6) (gsNil)))) (sSeq (sPar 7 8 (xIm (dBin dIx (dVar 0) (dVar 5))) (xIm (dBin dIx (dVar 1) (dVar 6)))) (sEx (dApp 3 (dCall dTupOf (aCons (dOfL (lLc (iSq (dVar 4)) (gTp 2 (gsCons (gNm 9) (gsCons (gNm 10) (gsNil)))) (dYes) (dBin dAdd (dBin dMulA (dBin dIx (dVar 7) (dVar 9)) (dVar 2)) (dBin dIx (dVar 8) (dVar 10))) [9, 10])) (aNil))))))) (sRetO 3)))
abbrev N__check_rows : List Str := ["rows"]
abbrev P__check_rows : List Str := ["rows"]
def g__check_rows : DS := sIf (dTNot (dTst (dCallF 1 S__is_table_rows (aCons (dVar 0) (aNil))))) (sNever) (sNx)
end Dn.T
set_option Elab.async false
set_option linter.all false
set_option maxRecDepth 100000
set_option autoImplicit false
set_option maxHeartbeats 4000000
namespace Dn
open PySem L2 Evl PySem.Spec PyProof.Rows
def part (m : List Int) (n : Nat) (l : List Int) : List (List Int) := (l.filter (lead m n)).map (cyc m n)
def met (m : List Int) (n : Nat) (l : List Int) (x : Int) : Prop := ∃ s, s ∈ l ∧ lead m n s = true ∧ x ∈ cyc m n s
end Dn
set_option Elab.async false
set_option linter.all false
set_option maxRecDepth 100000
set_option autoImplicit false
set_option maxHeartbeats 4000000
namespace Dn.T
open PySem L2 Evl PySem.Spec PyProof.Rows
local macro_rules | `(tactic| walk_at "dd") => `(tactic| simp only [sSeq, sIf, sSet, sRet, sRetN, sNx, sEx, sAsg, sPar, dTOr, dTAnd, dTNot, dTst, dIsi, dVar, dC, dBin, dChain, dNeg, dI2, dAnd, dOr, dNot, dIfE, dCall, dCallF, aCons, aNil, dTup, lLst, dOfL, xIm, xOw, gNm, gTp, gsCons, gsNil, dYes, envD, dLen_tR, dLen_tI, dLen_tup, dLen_lst, seq_tR, seq_tI, seq_tup, seq_lst, dIs, dIsNot, dNe, dEq, dTupOf, dSl, oNone, oSome, iSq, iEn, iR1, iR2, sFor, lLc, sNever, dTRg, rg1, rg2, lRg, wipeD, isN,
  gTpL, dIxP, sSub, dApp, dPopAt, dExt, dCallM, dCallO, dBinO, dTupO, lOf, lOfO, sRetO, iOw, dVarF, lCat, lCall, dAbs, dMax2, dMin2, dInt, atO, setO, MO.getL, MO.putL, Option.isSome_some,
  dInK, dGetK, dGetD, dInD, dGet1, lKeys, lSort, dLenSet, dLenSetL, dLenSet2, sPar3, dRevT, sPutK, xDct, xDct1, sRetK, atK, keyD, sAugI, dFld, sFldD, xRng, iRgO, dNew, dNewV, dCM, dProp, dMeth, dLenI, dStrO, dEqI, dIsC, dJoin, dJs, dFmt, dCallML, sSubI, gSubW, sWh, lDc, dRepT, lRep, dStrI, xDctT1, xDctOf, dInT, sPutT, lSortT2, lSortDT, dPop, dBinR, dKeep, dCallMO, atT, dCallO,
  kit_int, kit_bool, kit_tuple, kit_str, List.map_cons, List.map_nil, List.cons_append, List.nil_append, List.replicate, List.set_cons_zero, List.set_cons_succ, List.getElem?_cons_zero, List.getElem?_cons_succ, List.length_cons, List.length_nil, List.length_map, Nat.reduceAdd, Nat.reduceSub, Bool.not_true, Bool.not_false, Bool.false_eq_true, if_true, if_false, true_and, reduceCtorEq, Bool.true_eq_false, rgD_rgI, Option.some.injEq, exists_eq_left', and_true])
theorem Mw.dl {n : Nat} {m : List Int} (h : Mw n m) {x : Int} (x0 : 0 ≤ x) (x1 : x < n) : 0 ≤ m.getD x.toNat 0 ∧ m.getD x.toNat 0 < n := h.2 _ (getD_mem (by rw [h.1]; omega))
theorem Dw.row {n : Nat} {C : List (List Int)} (h : Dw n C) {x : Int} (x0 : 0 ≤ x) (x1 : x < n) : Mw n (C.getD x.toNat []) := h.2 _ (getD_mem (by rw [h.1]; omega))
theorem ixL {r : List (List Int)} {i : Int} {Q : D → Prop} (h0 : 0 ≤ i) (h1 : i < r.length) (h : Q (tI (r.getD i.toNat []))) : dIx (tL r) (.int i) Q := by
  refine ⟨_, atI_in (d := tI []) h0 (by simpa using h1), ?_⟩
  have h2 : i.toNat < r.length := by omega
  simp [List.getD, List.getElem?_eq_getElem h2] at h ⊢
  exact h
theorem tI_map (l : List Int) (f : Int → Int) : PyData.tuple (l.map fun b => .int (f b)) = tI (l.map f) := by unfold tI; simp only [List.map_map, Function.comp_def]
theorem tL_map {α : Type} (l : List α) (f : α → List Int) : PyData.list (l.map fun b => tI (f b)) = tL (l.map f) := by unfold tL; simp only [List.map_map, Function.comp_def]
theorem atI_zero {α : Type} {x : α} {l : List α} : atI (x :: l) 0 = some x := by
  unfold atI ixN
  simp
theorem eqv_int (i j : Int) : (PyData.int i).eqv (.int j) = decide (i = j) := by
  simp only [PyData.eqv]
  by_cases z : i = j <;> simp [z]
theorem any_eqv (m : List Int) (x : Int) : ((m.map PyData.int).any fun z => PyData.eqv z (.int x)) = decide (x ∈ m) := by
  rw [List.any_map]
  induction m with
  | nil => simp
  | cons y m ih =>
    rw [List.any_cons, ih]
    simp only [Function.comp, eqv_int, List.mem_cons]
    by_cases z : y = x
    · simp [z]
    · have : ¬ x = y := fun e => z e.symm
      simp [z, this]
theorem all_sc (m : List Int) : (m.map PyData.int).all isSc = true := by simp [List.all_map, isSc]
theorem v__law_places_of : VD g__law_places_of S__law_places_of 2 1 := fun ds Q _ h => by
  obtain ⟨c, s, rfl, hs, hc, h⟩ := h
  unfold g__law_places_of
  try walk_at "dd"
  have hc' : c ≤ 1000 := by
    rcases Nat.lt_or_ge 1000 c with z | z
    · have := Nat.mul_le_mul (Nat.succ_le_of_lt z) hs
      omega
    · exact z
  refine ⟨cm_n (by omega) (by omega), ?_⟩
  rw [show ((c : Int) * s) = ((c * s : Nat) : Int) from by simp, rgD_rgI]
  refine ⟨rgd hc, ?_⟩
  refine wpLc_mapL (rgI (c * s)) PyData.int (fun k => .tuple [.int (k / s), .int (k % s)]) (by rw [rgI_len]; omega) rfl (fun x hx K hK => ?_) (fun _ => rfl) ?_
  · try walk_at "dd"
    have s0 : (0 : Int) < s := by omega
    have s1 : (s : Int) ≤ 1000 := by
      rcases Nat.lt_or_ge 0 c with z | z
      · have := Nat.mul_le_mul z (Nat.le_refl s)
        omega
      · have : c = 0 := by omega
        subst this
        simp [rgI] at hx
    exact ⟨cd_t s0 (by omega), s0, by decide, hK _ rfl⟩
  · try walk_at "dd"
    exact h
theorem isRow_ints {r : List Int} {n m : Nat} (hl : r.length = m) (h : ∀ x, x ∈ r → 0 ≤ x ∧ x < n) (hn : n ≤ 24) : isRow (m : Int) (n : Int) (tI r) = true := by
  unfold isRow tI
  simp only [List.length_map, Bool.and_eq_true, decide_eq_true_eq, List.all_map, List.all_eq_true]
  exact ⟨by omega, fun x hx => isTh_in (h x hx).1 (h x hx).2 (by omega)⟩
theorem v__check_rows : VD g__check_rows S__check_rows 1 0 := fun ds Q _ h => by
  obtain ⟨R, n, rfl, hR, hn, h⟩ := h
  unfold g__check_rows
  walk_at "dd"
  refine ⟨R, n, rfl, hR, hn, ?_⟩
  walk_at "dd"
  exact h
def rt (R : List (List (Int × Int))) (x : Int) : List Int := R.map fun r => (r.getD x.toNat (0, 0)).2
end Dn.T
set_option Elab.async false
set_option linter.all false
set_option maxRecDepth 100000
set_option autoImplicit false
set_option maxHeartbeats 4000000
namespace Dn.T
open PySem L2 Evl PySem.Spec PyProof.Rows
local macro_rules | `(tactic| walk_at "dd") => `(tactic| simp only [sSeq, sIf, sSet, sRet, sRetN, sNx, sEx, sAsg, sPar, dTOr, dTAnd, dTNot, dTst, dIsi, dVar, dC, dBin, dChain, dNeg, dI2, dAnd, dOr, dNot, dIfE, dCall, dCallF, aCons, aNil, dTup, lLst, dOfL, xIm, xOw, gNm, gTp, gsCons, gsNil, dYes, envD, dLen_tR, dLen_tI, dLen_tup, dLen_lst, seq_tR, seq_tI, seq_tup, seq_lst, dIs, dIsNot, dNe, dEq, dTupOf, dSl, oNone, oSome, iSq, iEn, iR1, iR2, sFor, lLc, sNever, dTRg, rg1, rg2, lRg, wipeD, isN,
  gTpL, dIxP, sSub, dApp, dPopAt, dExt, dCallM, dCallO, dBinO, dTupO, lOf, lOfO, sRetO, iOw, dVarF, lCat, lCall, dAbs, dMax2, dMin2, dInt, atO, setO, MO.getL, MO.putL, Option.isSome_some,
  dInK, dGetK, dGetD, dInD, dGet1, lKeys, lSort, dLenSet, dLenSetL, dLenSet2, sPar3, dRevT, sPutK, xDct, xDct1, sRetK, atK, keyD, sAugI, dFld, sFldD, xRng, iRgO, dNew, dNewV, dCM, dProp, dMeth, dLenI, dStrO, dEqI, dIsC, dJoin, dJs, dFmt, dCallML, sSubI, gSubW, sWh, lDc, dRepT, lRep, dStrI, xDctT1, xDctOf, dInT, sPutT, lSortT2, lSortDT, dPop, dBinR, dKeep, dCallMO, atT, dCallO,
  kit_int, kit_bool, kit_tuple, kit_str, List.map_cons, List.map_nil, List.cons_append, List.nil_append, List.replicate, List.set_cons_zero, List.set_cons_succ, List.getElem?_cons_zero, List.getElem?_cons_succ, List.length_cons, List.length_nil, List.length_map, Nat.reduceAdd, Nat.reduceSub, Bool.not_true, Bool.not_false, Bool.false_eq_true, if_true, if_false, true_and, reduceCtorEq, Bool.true_eq_false, rgD_rgI, Option.some.injEq, exists_eq_left', and_true])
theorem wpFor_pre {α : Type} {g : DG} {body : DS} {E : DEnds} (l : List α) (it : α → D) (R : List α → Env → Prop) {ρ0 : Env} (h0 : R [] ρ0)
    (hs : ∀ (l1 : List α) (x : α) (l2 : List α), l = l1 ++ x :: l2 → ∀ (ρ : Env) (K : Env → Prop), R l1 ρ → (∀ ρ', R (l1 ++ [x]) ρ' → K ρ') → g (it x) ρ fun ρ1 => body { nx := K, ct := K, bk := E.nx, rt := E.rt, er := E.er } ρ1)
    (he : ∀ ρ, R l ρ → E.nx ρ) : wpFor g body E (l.map it) ρ0 := by
  have aux : ∀ (rest done : List α) (ρ : Env), l = done ++ rest → R done ρ → wpFor g body E (rest.map it) ρ := by
    intro rest
    induction rest with
    | nil => intro done ρ e p; rw [List.append_nil] at e; subst e; exact he ρ p
    | cons d rest ih =>
      intro done ρ e p
      exact hs done d rest e ρ _ p fun ρ' p' => ih (done ++ [d]) ρ' (by rw [e]; simp) p'
  exact aux l [] ρ0 rfl h0
def stp (n : Nat) (m : List Int) : List (List Int) := ((rgI n).filter fun x => !decide (x ∈ m)).map fun x => m ++ [x]
theorem stp_len (n : Nat) (m : List Int) : (stp n m).length ≤ n := by
  unfold stp
  rw [List.length_map]
  exact Nat.le_trans (List.length_filter_le _ _) (by rw [rgI_len]; omega)
theorem flat_len (n : Nat) : ∀ l : List (List Int), (l.flatMap (stp n)).length ≤ n * l.length
  | [] => by simp
  | m :: l => by
    rw [List.flatMap_cons, List.length_append, List.length_cons, Nat.mul_succ]
    have := stp_len n m
    have := flat_len n l
    omega
theorem v__law_orders : VD g__law_orders S__law_orders 1 5 := fun ds Q _ h => by
  obtain ⟨n, rfl, hn, h⟩ := h
  unfold g__law_orders
  walk_at "dd"
  refine ⟨by decide, by decide, rgd (by omega), ?_⟩
  refine wpFor_pre (rgI n) PyData.int (fun l1 ρ => ∃ x2 x3 x4 x5, ρ = [some (.im (.int n)), some (.im (tL (ordF n l1.length))), x2, x3, x4, x5]) ⟨_, _, _, _, rfl⟩ (fun l1 x l2 e ρ K p k => ?_) (fun ρ p => ?_)
  · obtain ⟨x2, x3, x4, x5, rfl⟩ := p
    have el := congrArg List.length e
    simp [rgI_len] at el
    have h7 := ord_few n hn l1.length (by omega)
    try walk_at "dd"
    refine ⟨by decide, (ordF n l1.length).map tI, rfl, ?_⟩
    refine wpFor_pre (ordF n l1.length) tI (fun l1' ρ => ∃ x4 x5, ρ = [some (.im (.int n)), some (.im (tL (ordF n l1.length))), some (.im (.int x)), some (.ow (.lst ((l1'.flatMap (stp n)).map tI))), x4, x5]) ⟨_, _, rfl⟩ (fun l1' m l2' e' ρ K' p' k' => ?_) (fun ρ p' => ?_)
    · obtain ⟨x4, x5, rfl⟩ := p'
      have el' := congrArg List.length e'
      simp at el'
      have fl := flat_len n l1'
      have ml : m.length = l1.length := (mem_ordF.1 (by rw [e']; simp)).1
      have fl2 : n * l1'.length ≤ 6 * 720 := Nat.mul_le_mul hn (by omega)
      try walk_at "dd"
      refine ⟨rgd (by omega), ?_⟩
      refine wpLc_filL (rgI n) PyData.int (fun x => tI (m ++ [x])) (fun x => !decide (x ∈ m)) (by rw [rgI_len]; omega) rfl (fun x hxn K N hK hN => ?_) ?_
      · try walk_at "dd"
        refine ⟨m.map PyData.int, rfl, rfl, all_sc m, ?_⟩
        rw [any_eqv]
        refine ite_ways (fun z => ⟨by decide, by simp; omega, ?_⟩) (fun z => hN z _ rfl)
        show K (PyData.tuple (m.map PyData.int ++ [.int x])) _
        rw [show PyData.tuple (m.map PyData.int ++ [.int x]) = tI (m ++ [x]) from by unfold tI; simp]
        exact hK z _ rfl
      · try walk_at "dd"
        have sl := stp_len n m
        unfold stp at sl
        rw [List.length_map] at sl
        refine ⟨_, _, rfl, rfl, by simp only [List.length_map]; omega, ?_⟩
        refine k' _ ⟨some (.im (tI m)), none, ?_⟩
        rw [List.flatMap_append, List.map_append]
        simp [stp, List.map_map, Function.comp_def]
    · obtain ⟨x4, x5, rfl⟩ := p'
      try walk_at "dd"
      exact k _ ⟨_, _, _, _, by rw [List.length_append]; rfl⟩
  · obtain ⟨x2, x3, x4, x5, rfl⟩ := p
    try walk_at "dd"
    rw [rgI_len]
    exact h
theorem ixT' {n : Nat} {d : Int → Int → Int} {x : Int} {A : D} {Q : D → Prop} (hA : seqD A = some ((tab n d).map tI)) (hx : In n x) (h : Q (tI ((rgI n).map (d x)))) : dIx A (.int x) Q := by
  unfold dIx
  rw [hA]
  refine ⟨_, atI_in (d := tI []) hx.1 (by rw [List.length_map, tab_len]; exact hx.2), ?_⟩
  rw [getD_map (a := []) (by rw [tab_len]; have := hx.1; have := hx.2; omega), show (tab n d).getD x.toNat [] = (rgI n).map (d x) from row_tab hx]
  exact h
theorem ixY {n : Nat} {f : Int → Int} {y : Int} {Q : D → Prop} (hy : In n y) (h : Q (.int (f y))) : dIx (tI ((rgI n).map f)) (.int y) Q := by
  refine ixI hy.1 (by simp [rgI_len]; exact hy.2) ?_
  rw [map_at hy]
  exact h
theorem ixM {n : Nat} {m : List Int} (hm : Mv n m) {y : Int} {Q : D → Prop} (hy : In n y) (h : Q (.int (im m y))) : dIx (tI m) (.int y) Q := ixI hy.1 (by rw [hm.len]; exact hy.2) h
theorem v__law_undone : VD g__law_undone S__law_undone 1 3 := fun ds Q _ h => by
  obtain ⟨n, m, ⟨A, rfl, sA⟩, hm, hn, h⟩ := h
  have hl := hm.len
  unfold g__law_undone
  try walk_at "dd"
  refine ⟨_, sA, ?_⟩
  refine wpLc_mapL m PyData.int (fun _ => .int 0) (by omega) rfl (fun x hx K hK => ?_) (fun _ => rfl) ?_
  · try walk_at "dd"
    exact hK _ rfl
  · try walk_at "dd"
    refine ⟨_, sA, ?_⟩
    rw [enD_map m PyData.int 0, hl]
    refine wpFor_cps (fun done ρ => ∃ (u : List Int) (x y : Option SV), ρ = [some (SV.im A), some (SV.ow (MO.lst (u.map PyData.int))), x, y] ∧ u.length = n ∧ ∀ x : Nat, x < done.length → u[(im m x).toNat]? = some (x : Int)) ⟨m.map (fun _ => 0), _, _, (by rw [show (m.map fun _ => (0 : Int)).map PyData.int = m.map fun _ => PyData.int 0 from by rw [List.map_map]; rfl]), (by simp [hl]), fun x hx => by simp at hx⟩ (fun done d rest ρ K e p k => ?_) (fun ρ p => ?_)
    · obtain ⟨u, x, y, rfl, hu, hu2⟩ := p
      obtain ⟨l1, i, l2, e1, rfl, rfl, rfl⟩ := map_split e
      obtain ⟨ei, e2⟩ := rgI_split e1
      rw [List.length_map] at hu2
      have lt : l1.length < n := by
        have := congrArg List.length e1
        rw [rgI_len] at this
        simp at this
        omega
      have g := im_in hm (x := i) (by omega) (by omega)
      try walk_at "dd"
      refine ⟨_, _, (im m i).toNat, rfl, rfl, ?_, ?_⟩
      · unfold ixN
        show (if 0 ≤ im m i then _ else _) = _
        rw [if_pos g.1, if_pos (by simp [hu]; exact g.2)]
        rfl
      · refine k _ ⟨u.set (im m i).toNat i, _, _, (by rw [List.map_set]), (by simp [hu]), fun x hx => ?_⟩
        simp only [List.length_append, List.length_map, List.length_cons, List.length_nil] at hx
        by_cases z : x = l1.length
        · have : (x : Int) = i := by omega
          rw [this, List.getElem?_set_self (by omega)]
        · have gx := im_in hm (x := (x : Int)) (by omega) (by omega)
          rw [List.getElem?_set_ne (fun w => by
            have := im_inj hm (by omega) (by omega) (by omega) (by omega) (show im m x = im m i by omega)
            omega)]
          exact hu2 x (by omega)
    · obtain ⟨u, x, y, rfl, hu, hu2⟩ := p
      rw [List.length_map, rgI_len] at hu2
      try walk_at "dd"
      have : u = inv m := by
        rw [inv_map hm]
        apply List.ext_getElem?
        intro k
        by_cases hk : k < n
        · rw [List.getElem?_map, rgI_get hk]
          obtain ⟨q1, q2⟩ := iv_rng hm (y := (k : Int)) (by omega) (by omega)
          have := hu2 (iv m k).toNat (by omega)
          rw [show (((iv m k).toNat : Nat) : Int) = iv m k by omega, q2] at this
          simpa using this
        · rw [List.getElem?_eq_none_iff.mpr (by omega), List.getElem?_eq_none_iff.mpr (by simp [rgI_len]; omega)]
      subst this
      exact h
end Dn.T
set_option Elab.async false
set_option linter.all false
set_option maxRecDepth 100000
set_option autoImplicit false
set_option maxHeartbeats 4000000
namespace Dn.T
open PySem L2 Evl PySem.Spec PyProof.Rows
local macro_rules | `(tactic| walk_at "dd") => `(tactic| simp only [sSeq, sIf, sSet, sRet, sRetN, sNx, sEx, sAsg, sPar, dTOr, dTAnd, dTNot, dTst, dIsi, dVar, dC, dBin, dChain, dNeg, dI2, dAnd, dOr, dNot, dIfE, dCall, dCallF, aCons, aNil, dTup, lLst, dOfL, xIm, xOw, gNm, gTp, gsCons, gsNil, dYes, envD, dLen_tR, dLen_tI, dLen_tup, dLen_lst, seq_tR, seq_tI, seq_tup, seq_lst, dIs, dIsNot, dNe, dEq, dTupOf, dSl, oNone, oSome, iSq, iEn, iR1, iR2, sFor, lLc, sNever, dTRg, rg1, rg2, lRg, wipeD, isN,
  gTpL, dIxP, sSub, dApp, dPopAt, dExt, dCallM, dCallO, dBinO, dTupO, lOf, lOfO, sRetO, iOw, dVarF, lCat, lCall, dAbs, dMax2, dMin2, dInt, atO, setO, MO.getL, MO.putL, Option.isSome_some,
  dInK, dGetK, dGetD, dInD, dGet1, lKeys, lSort, dLenSet, dLenSetL, dLenSet2, sPar3, dRevT, sPutK, xDct, xDct1, sRetK, atK, keyD, sAugI, dFld, sFldD, xRng, iRgO, dNew, dNewV, dCM, dProp, dMeth, dLenI, dStrO, dEqI, dIsC, dJoin, dJs, dFmt, dCallML, sSubI, gSubW, sWh, lDc, dRepT, lRep, dStrI, xDctT1, xDctOf, dInT, sPutT, lSortT2, lSortDT, dPop, dBinR, dKeep, dCallMO, atT, dCallO,
  kit_int, kit_bool, kit_tuple, kit_str, List.map_cons, List.map_nil, List.cons_append, List.nil_append, List.replicate, List.set_cons_zero, List.set_cons_succ, List.getElem?_cons_zero, List.getElem?_cons_succ, List.length_cons, List.length_nil, List.length_map, Nat.reduceAdd, Nat.reduceSub, Bool.not_true, Bool.not_false, Bool.false_eq_true, if_true, if_false, true_and, reduceCtorEq, Bool.true_eq_false, rgD_rgI, Option.some.injEq, exists_eq_left', and_true])
theorem dLen_sq {A : D} {xs : List D} {Q : D → Prop} (h : seqD A = some xs) : dLen [A] Q = Q (.int xs.length) := dLen_seq h
theorem v__law_product_dots : VD g__law_product_dots S__law_product_dots 2 9 := fun ds Q _ h => by
  obtain ⟨A, B, a, b, d, e, rfl, sA, sB, hd, he, c1, hl, h⟩ := h
  have a24 : a ≤ 24 := Nat.le_trans (Nat.le_mul_of_pos_right a c1) hl
  unfold g__law_product_dots
  walk_at "dd"
  rw [dLen_sq sB, dLen_sq sA]
  refine ⟨by decide, ?_⟩
  rw [List.length_map, List.length_map, tab_len, tab_len]
  refine ⟨a, b, rfl, c1, by omega, ?_⟩
  dsimp only
  refine ⟨_, rfl, ?_⟩
  refine wpFor_ap (rgI (a * b)) (fun k => .tuple [.int (k / b), .int (k % b)]) (fun k : Int => tI ((rgI (a * b)).map fun j : Int => prd b d e k j)) (fun acc ρ => ∃ x1 x2 x3 x4 x5 x6, ρ = [some (.im A), some (.im B), some (.im (.int b)), some (.ow (.lst acc)), some (.im (.list ((rgI (a * b)).map fun k => .tuple [.int (k / b), .int (k % b)]))), x1, x2, x3, x4, x5, x6]) ⟨_, _, _, _, _, _, rfl⟩ (fun k hk acc ρ K p q r => ?_) (fun ρ p => ?_)
  · obtain ⟨x1, x2, x3, x4, x5, x6, rfl⟩ := p
    try walk_at "dd"
    obtain ⟨k1, k2⟩ := dm_in (In.mem.1 hk) c1
    rw [rgI_len] at q
    refine ixT' sA k1 (ixT' sB k2 ?_)
    refine wpLc_mapL (rgI (a * b)) (fun k => .tuple [.int (k / b), .int (k % b)]) (fun j => .int (prd b d e k j)) (by rw [rgI_len]; omega) rfl (fun j hj K hK => ?_) (fun _ => rfl) ?_
    · try walk_at "dd"
      obtain ⟨j1, j2⟩ := dm_in (In.mem.1 hj) c1
      have p1 := hd _ _ k1 j1
      refine ixY j1 ⟨cm_n p1.1 (by have := p1.2; omega), ixY j2 (hK _ rfl)⟩
    · try walk_at "dd"
      refine ⟨by omega, ?_⟩
      rw [tI_map]
      exact r _ ⟨_, _, _, _, _, _, rfl⟩
  · obtain ⟨x1, x2, x3, x4, x5, x6, rfl⟩ := p
    try walk_at "dd"
    rw [tL_map]
    exact h
end Dn.T
set_option Elab.async false
set_option linter.all false
set_option maxRecDepth 100000
set_option autoImplicit false
set_option maxHeartbeats 4000000
namespace Dn.T
open PySem L2 Evl PySem.Spec PyProof.Rows
theorem shaped_tL (L : List (List Int)) : SeqAt.shaped (tL L) = true := by
  have h := layAll_tI L
  unfold SeqAt.shaped tL
  simp [PyData.canLay0, PyData.depth, h.1]
  omega
def posI (L : List (List Int)) (m : List Int) : Int := ((L.findIdx fun x => decide (x = m) : Nat) : Int)
theorem ixD_ok {L : List (List Int)} {m : List Int} (h : m ∈ L) {K : D → Prop} (k : K (.int (posI L m))) : ∃ (ds : List D) (j : Nat) (w : D), tL L = .list ds ∧ SeqAt.shaped (tL L) = true ∧ SeqAt.shaped (tI m) = true ∧ ds[j]? = some w ∧ PyData.eqv w (tI m) = true ∧ (∀ (i : Nat) (z' : D), i < j → ds[i]? = some z' → PyData.eqv z' (tI m) = false) ∧ K (.int (j : Nat)) := by
  have hl : (L.findIdx fun x => decide (x = m)) < L.length := List.findIdx_lt_length_of_exists ⟨m, h, by simp⟩
  have e : L[L.findIdx fun x => decide (x = m)] = m := by simpa using List.findIdx_getElem (w := hl)
  refine ⟨_, _, tI m, rfl, shaped_tL L, shaped_tI m, ?_, by rw [eqv_tI]; simp, fun i z hi hz => ?_, k⟩
  · rw [List.getElem?_map, List.getElem?_eq_getElem hl, e]; rfl
  · rw [List.getElem?_map] at hz
    obtain ⟨x, hx, rfl⟩ := Option.map_eq_some_iff.mp hz
    rw [eqv_tI, decide_eq_false_iff_not]
    have n := List.not_of_lt_findIdx hi
    obtain ⟨hi', ex⟩ := List.getElem?_eq_some_iff.mp hx
    rw [ex] at n
    simpa using n
end Dn.T
set_option Elab.async false
set_option linter.all false
set_option maxRecDepth 100000
set_option autoImplicit false
set_option maxHeartbeats 4000000
namespace Dn.T
open PySem L2 Evl PySem.Spec PyProof.Rows
theorem atI_w {w : List Int} {i : Nat} (h : i < w.length) : atI (w.map PyData.int) (i : Int) = some (.int (w.getD i 0)) := by
  have := atI_in (d := .int 0) (l := w.map PyData.int) (i := (i : Int)) (by omega) (by simpa using h)
  rw [this, show ((i : Int)).toNat = i by omega, getD_map (a := 0) h]
end Dn.T
set_option Elab.async false
set_option linter.all false
set_option maxRecDepth 100000
set_option autoImplicit false
set_option maxHeartbeats 4000000
namespace Dn.T
open PySem L2 Evl PySem.Spec PyProof.Rows
theorem shaped_lI {l : List Int} : SeqAt.shaped (.list (l.map PyData.int)) = true := by
  have z : ∀ r : List Int, PyData.canLayAll0 (r.map PyData.int) = true ∧ PyData.depthAll (r.map PyData.int) ≤ 1 := by
    intro r
    induction r with
    | nil => exact ⟨rfl, by simp [PyData.depthAll]⟩
    | cons x r ih =>
      simp only [List.map_cons, PyData.canLayAll0, PyData.depthAll, PyData.depth, PyData.canLay0, Bool.true_and]
      exact ⟨ih.1, by omega⟩
  have := z l
  unfold SeqAt.shaped
  simp only [PyData.canLay0, PyData.depth, this.1, Bool.true_and]
  exact decide_eq_true (by omega)
theorem eqv_nil {xs : List D} : PyData.eqv (.list xs) (.list []) = decide (xs = []) := by cases xs <;> simp [PyData.eqv, PyData.eqvAll]
theorem mem_rgD' {n : Int} {d : D} (h : d ∈ rgD 0 n) : ∃ k : Int, d = .int k ∧ 0 ≤ k ∧ k < n := by
  unfold rgD at h
  obtain ⟨k, hk, rfl⟩ := List.mem_map.mp h
  have := List.mem_range.mp hk
  exact ⟨_, rfl, by omega, by omega⟩
theorem dLen_scr' {s : List Int} {Q : D → Prop} : dLen [scr s] Q = Q (.int s.length) := by show Q _ = _; simp
theorem rg_cap (c n : Int) (h : 0 ≤ c) (h2 : c ≤ 1000) : RgD 0 (if (if n < c then n else c) > 1 then (if n < c then n else c) else 1) := by
  refine ⟨by decide, by decide, ?_, ?_⟩ <;> · split <;> (try split) <;> omega
end Dn.T
set_option Elab.async false
set_option linter.all false
set_option maxRecDepth 100000
set_option autoImplicit false
set_option maxHeartbeats 4000000
namespace Dn.T
open PySem L2 Evl PySem.Spec PyProof.Rows
def S_is_square (ds : List D) (Q : D → Prop) : Prop := ∃ C n, ds = [tR C, .int 0, .int 8] ∧ Dw n C ∧ n ≤ 8 ∧ Q (.bool true)
end Dn.T
set_option Elab.async false
set_option linter.all false
set_option maxRecDepth 100000
set_option autoImplicit false
set_option maxHeartbeats 4000000
namespace Dn.T
open PySem L2 Evl PySem.Spec PyProof.Rows
abbrev N_is_square : List Str := ["value", "least", "most", "row"]
abbrev P_is_square : List Str := ["value", "least", "most"]
def g_is_square : DS := sSeq (sIf (dTOr (dTNot (dTst (dIsi "tuple" (dVar 0)))) (dTNot (dTst (dChain dLe dLe (dVar 1) (dCall dLen (aCons (dVar 0) (aNil))) (dVar 2))))) (sRet (dC (.bool false))) (sNx)) (sRet (dCall dAll (aCons (dOfL (lLc (iSq (dVar 0)) (gNm 3) (dYes) (dCallF 3 S_is_row (aCons (dVar 3) (aCons (dCall dLen (aCons (dVar 0) (aNil))) (aCons (dCall dLen (aCons (dVar 0) (aNil))) (aNil))))) [3])) (aNil))))
end Dn.T
set_option Elab.async false
set_option linter.all false
set_option maxRecDepth 100000
set_option autoImplicit false
set_option maxHeartbeats 4000000
namespace Dn.T
open PySem L2 Evl PySem.Spec PyProof.Rows
local macro_rules | `(tactic| walk_at "dd") => `(tactic| simp only [sSeq, sIf, sSet, sRet, sRetN, sNx, sEx, sAsg, sPar, dTOr, dTAnd, dTNot, dTst, dIsi, dVar, dC, dBin, dChain, dNeg, dI2, dAnd, dOr, dNot, dIfE, dCall, dCallF, aCons, aNil, dTup, lLst, dOfL, xIm, xOw, gNm, gTp, gsCons, gsNil, dYes, envD, dLen_tR, dLen_tI, dLen_tup, dLen_lst, seq_tR, seq_tI, seq_tup, seq_lst, dIs, dIsNot, dNe, dEq, dTupOf, dSl, oNone, oSome, iSq, iEn, iR1, iR2, sFor, lLc, sNever, dTRg, rg1, rg2, lRg, wipeD, isN,
  gTpL, dIxP, sSub, dApp, dPopAt, dExt, dCallM, dCallO, dBinO, dTupO, lOf, lOfO, sRetO, iOw, dVarF, lCat, lCall, dAbs, dMax2, dMin2, dInt, atO, setO, MO.getL, MO.putL, Option.isSome_some,
  dInK, dGetK, dGetD, dInD, dGet1, lKeys, lSort, dLenSet, dLenSetL, dLenSet2, sPar3, dRevT, sPutK, xDct, xDct1, sRetK, atK, keyD, sAugI, dFld, sFldD, xRng, iRgO, dNew, dNewV, dCM, dProp, dMeth, dLenI, dStrO, dEqI, dIsC, dJoin, dJs, dFmt, dCallML, sSubI, gSubW, sWh, lDc, dRepT, lRep, dStrI, xDctT1, xDctOf, dInT, sPutT, lSortT2, lSortDT, dPop, dBinR, dKeep, dCallMO, atT, dCallO,
  kit_int, kit_bool, kit_tuple, kit_str, List.map_cons, List.map_nil, List.cons_append, List.nil_append, List.replicate, List.set_cons_zero, List.set_cons_succ, List.getElem?_cons_zero, List.getElem?_cons_succ, List.length_cons, List.length_nil, List.length_map, Nat.reduceAdd, Nat.reduceSub, Bool.not_true, Bool.not_false, Bool.false_eq_true, if_true, if_false, true_and, reduceCtorEq, Bool.true_eq_false, rgD_rgI, Option.some.injEq, exists_eq_left', and_true])
theorem v_is_square : VD g_is_square S_is_square 3 1 := fun ds Q _ h => by
  obtain ⟨C, n, rfl, hC, hn, h⟩ := h
  have cl := hC.1
  unfold g_is_square tR
  walk_at "dd"
  rw [show decide ((0 : Int) ≤ (C.length : Int)) = true from by simp]
  walk_at "dd"
  rw [show decide ((C.length : Int) ≤ 8) = true from by simp; omega]
  walk_at "dd"
  refine wpLc_map (fun _ => .bool true) (by simp; omega) rfl (fun d hd K hK => ?_) (fun _ _ _ => rfl) ?_
  · walk_at "dd"
    obtain ⟨r, hr1, rfl⟩ := List.mem_map.mp hd
    have rr := hC.2 r hr1
    refine ⟨_, _, _, rfl, fun xs e => ?_, by first | omega | (simp; omega), ?_⟩
    · cases e; have := rr.1; simp; omega
    · rw [show isRow (C.length : Int) (C.length : Int) (tI r) = true from by rw [cl]; exact isRow_ints rr.1 rr.2 (by omega)]
      exact hK _ rfl
  · refine ⟨(C.map tI).map fun _ => true, by simp, ?_⟩
    rw [show ((C.map tI).map fun _ => true).all id = true from by simp]
    exact h
end Dn.T
set_option Elab.async false
set_option linter.all false
set_option maxRecDepth 100000
set_option autoImplicit false
set_option maxHeartbeats 4000000
namespace Dn.T
open PySem L2 Evl PySem.Spec PyProof.Rows
theorem nodup_len {α : Type} [DecidableEq α] : ∀ {l l' : List α}, l.Nodup → (∀ x, x ∈ l → x ∈ l') → l.length ≤ l'.length
  | [], _, _, _ => Nat.zero_le _
  | x :: l, l', nd, hs => by
    have hx := hs x (by simp)
    have nd2 := List.nodup_cons.mp nd
    have := nodup_len (l := l) (l' := l'.erase x) nd2.2 fun y hy => (List.mem_erase_of_ne (fun e => nd2.1 (by rw [← e]; exact hy))).2 (hs y (by simp [hy]))
    rw [List.length_erase_of_mem hx] at this
    have hp := List.length_pos_of_mem hx
    rw [List.length_cons]
    omega
theorem in_con {l : List Int} {a : Int} : ((l.map PyData.int).any fun z => PyData.eqv z (.int a)) = l.contains a := by
  induction l with
  | nil => rfl
  | cons x l ih =>
    rw [List.map_cons, List.any_cons, ih, List.contains_cons]
    by_cases e : x = a
    · subst e; simp [PyData.eqv]
    · have : (a == x) = false := by simp [Ne.symm e]
      rw [this]
      simp [PyData.eqv, e]
end Dn.T
set_option Elab.async false
set_option linter.all false
set_option maxRecDepth 100000
set_option autoImplicit false
set_option maxHeartbeats 4000000
namespace Dn.T.G
open PySem L2 Evl PySem.Spec PyProof.Rows
abbrev F1 := Int → Int → Int
def bkL (n : Nat) (g : F1) (u : Int) : List Int := (rgI n).map fun t => (backOf (tab n g) u t).getD 0
def cenL (n : Nat) (g : F1) : List Int := (rgI n).filter fun c => (rgI n).all fun a => decide (g a c = g c a)
def grpF (n : Nat) (g : F1) (u : Int) : List (Str × D) := [("_rows", tR (tab n g)), ("_unit", .int u), ("_backs", tI (bkL n g u)), ("_centre", tI (cenL n g))]
def grpD (n : Nat) (g : F1) (u : Int) : D := obD "Group" (grpF n g u)
abbrev G24 (n : Nat) (g : F1) (u : Int) : Prop := Gr n g u ∧ n ≤ 24
abbrev cyG (n : Nat) : F1 := fun x y => (x + y) % n
def S_is_square (ds : List D) (Q : D → Prop) : Prop := ∃ n g, ds = [tR (tab n g), .int 1, .int 24] ∧ (∀ x y, In n x → In n y → In n (g x y)) ∧ 1 ≤ n ∧ n ≤ 24 ∧ Q (.bool true)
def S__check_rows (ds : List D) (Q : D → Prop) : Prop := ∃ n g u, ds = [tR (tab n g)] ∧ G24 n g u ∧ Q .none
def S_unit_of (ds : List D) (Q : D → Prop) : Prop := ∃ n g u, ds = [tR (tab n g)] ∧ G24 n g u ∧ Q (.int u)
def S_back_of (ds : List D) (Q : D → Prop) : Prop := ∃ n g u t, ds = [tR (tab n g), .int u, .int t] ∧ G24 n g u ∧ In n t ∧ Q (.int ((backOf (tab n g) u t).getD 0))
def S_broken_three (ds : List D) (Q : D → Prop) : Prop := ∃ n g u, ds = [tR (tab n g)] ∧ G24 n g u ∧ Q .none
def S_group_paper (ds : List D) (Q : D → Prop) : Prop := ∃ n g u, ds = [tR (tab n g)] ∧ G24 n g u ∧ Q (.tuple [.str "group"])
def S_backs_of (ds : List D) (Q : D → Prop) : Prop := ∃ n g u, ds = [tR (tab n g), .int u] ∧ G24 n g u ∧ Q (tI (bkL n g u))
def S_centre_of (ds : List D) (Q : D → Prop) : Prop := ∃ n g u, ds = [tR (tab n g)] ∧ G24 n g u ∧ Q (tI (cenL n g))
def S_Group____init__ (ds : List D) (Q : List (Str × D) → Prop) : Prop := ∃ n g u, ds = [tR (tab n g)] ∧ G24 n g u ∧ Q (grpF n g u)
def S_Group__size (ds : List D) (Q : D → Prop) : Prop := ∃ n g u, ds = [grpD n g u] ∧ Q (.int n)
def S_Group__times (ds : List D) (Q : D → Prop) : Prop := ∃ n g u x y, ds = [grpD n g u, .int x, .int y] ∧ G24 n g u ∧ In n x ∧ In n y ∧ Q (.int (g x y))
def S__law_cyclic (ds : List D) (Q : D → Prop) : Prop := ∃ n : Nat, ds = [.int n] ∧ 1 ≤ n ∧ n ≤ 24 ∧ Q (tR (tab n (cyG n)))
def S__law_direct (ds : List D) (Q : D → Prop) : Prop := ∃ a b g k u v, ds = [tR (tab a g), tR (tab b k)] ∧ Gr a g u ∧ Gr b k v ∧ a * b ≤ 24 ∧ Q (tR (tab (a * b) (dirG b g k)))
def S__law_turned_pairs (ds : List D) (Q : D → Prop) : Prop := ∃ n : Nat, ds = [.int n] ∧ 1 ≤ n ∧ n ≤ 12 ∧ Q (tR (tab (2 * n) (trnG n)))
def S__law_quaternion_rows (ds : List D) (Q : D → Prop) : Prop := ds = [] ∧ Q (tR qRows)
def S__law_renamed_group (ds : List D) (Q : D → Prop) : Prop := ∃ n g u m, ds = [tR (tab n g), tI m] ∧ G24 n g u ∧ Mv n m ∧ Q (tR (tab n (renG g m)))
def S__law_unit (ds : List D) (Q : D → Prop) : Prop := ∃ n g u, ds = [tR (tab n g)] ∧ G24 n g u ∧ Q (.int u)
def S__law_inverse (ds : List D) (Q : D → Prop) : Prop := ∃ n g u x, ds = [tR (tab n g), .int x] ∧ G24 n g u ∧ In n x ∧ Q (.int ((backOf (tab n g) u x).getD 0))
end Dn.T.G
set_option Elab.async false
set_option linter.all false
set_option maxRecDepth 100000
set_option autoImplicit false
set_option maxHeartbeats 4000000
namespace Dn.T.G
open PySem L2 Evl PySem.Spec PyProof.Rows
abbrev N_is_square : List Str := ["value", "least", "most", "row"]
abbrev P_is_square : List Str := ["value", "least", "most"]
def g_is_square : DS := sSeq (sIf (dTOr (dTNot (dTst (dIsi "tuple" (dVar 0)))) (dTNot (dTst (dChain dLe dLe (dVar 1) (dCall dLen (aCons (dVar 0) (aNil))) (dVar 2))))) (sRet (dC (.bool false))) (sNx)) (sRet (dCall dAll (aCons (dOfL (lLc (iSq (dVar 0)) (gNm 3) (dYes) (dCallF 3 S_is_row (aCons (dVar 3) (aCons (dCall dLen (aCons (dVar 0) (aNil))) (aCons (dCall dLen (aCons (dVar 0) (aNil))) (aNil))))) [3])) (aNil))))
abbrev N__check_rows : List Str := ["rows"]
abbrev P__check_rows : List Str := ["rows"]
def g__check_rows : DS := sIf (dTNot (dTst (dCallF 3 S_is_square (aCons (dVar 0) (aCons (dC (.int 1)) (aCons (dC (.int 24)) (aNil))))))) (sNever) (sNx)
abbrev N_unit_of : List Str := ["rows", "things", "thing", "row"]
abbrev P_unit_of : List Str := ["rows"]
def g_unit_of : DS := sSeq (sSet 1 (xIm (dTRg (rg1 (dCall dLen (aCons (dVar 0) (aNil))))))) (sSeq (sFor (iSq (dVar 1)) (gNm 2) (sIf (dTAnd (dTst (dBin dEq (dBin dIx (dVar 0) (dVar 2)) (dVar 1))) (dTst (dBin dEq (dCall dTupOf (aCons (dOfL (lLc (iSq (dVar 0)) (gNm 3) (dYes) (dBin dIx (dVar 3) (dVar 2)) [3])) (aNil))) (dVar 1)))) (sRet (dVar 2)) (sNx))) (sRet (dC .none)))
abbrev N_back_of : List Str := ["rows", "unit", "thing", "other", "made"]
abbrev P_back_of : List Str := ["rows", "unit", "thing"]
def g_back_of : DS := sSeq (sFor (iEn (dBin dIx (dVar 0) (dVar 2))) (gTp 2 (gsCons (gNm 3) (gsCons (gNm 4) (gsNil)))) (sIf (dTAnd (dTst (dBin dEq (dVar 4) (dVar 1))) (dTst (dBin dEq (dBin dIx (dBin dIx (dVar 0) (dVar 3)) (dVar 2)) (dVar 1)))) (sRet (dVar 3)) (sNx))) (sRet (dC .none))
abbrev N_broken_three : List Str := ["rows", "a", "row", "b", "ab", "c", "bc"]
abbrev P_broken_three : List Str := ["rows"]
def g_broken_three : DS := sSeq (sFor (iEn (dVar 0)) (gTp 2 (gsCons (gNm 1) (gsCons (gNm 2) (gsNil)))) (sFor (iEn (dVar 2)) (gTp 2 (gsCons (gNm 3) (gsCons (gNm 4) (gsNil)))) (sFor (iEn (dBin dIx (dVar 0) (dVar 3))) (gTp 2 (gsCons (gNm 5) (gsCons (gNm 6) (gsNil)))) (sIf (dTst (dBin dNe (dBin dIx (dBin dIx (dVar 0) (dVar 4)) (dVar 5)) (dBin dIx (dVar 2) (dVar 6)))) (sRet (dTup (aCons (dVar 1) (aCons (dVar 3) (aCons (dVar 5) (aNil)))))) (sNx))))) (sRet (dC .none))
abbrev N_group_paper : List Str := ["rows", "unit", "thing", "things"]
abbrev P_group_paper : List Str := ["rows"]
def g_group_paper : DS := sSeq (sEx (dCallF 1 S__check_rows (aCons (dVar 0) (aNil)))) (sSeq (sSet 1 (xIm (dCallF 1 S_unit_of (aCons (dVar 0) (aNil))))) (sSeq (sIf (dTst (dBin dIs (dVar 1) (dC .none))) (sRet (dTup (aCons (dC (.str "unit")) (aNil)))) (sNx)) (sSeq (sFor (iR1 (dCall dLen (aCons (dVar 0) (aNil)))) (gNm 2) (sIf (dTst (dBin dIs (dCallF 3 S_back_of (aCons (dVar 0) (aCons (dVar 1) (aCons (dVar 2) (aNil))))) (dC .none))) (sRet (dTup (aCons (dC (.str "back")) (aCons (dVar 2) (aNil))))) (sNx))) (sSeq (sSet 3 (xIm (dCallF 1 S_broken_three (aCons (dVar 0) (aNil))))) (sSeq (sIf (dTst (dBin dIsNot (dVar 3) (dC .none))) (sRet (dBin dAdd (dTup (aCons (dC (.str "three")) (aNil))) (dVar 3))) (sNx)) (sRet (dTup (aCons (dC (.str "group")) (aNil)))))))))
abbrev N_backs_of : List Str := ["rows", "unit", "thing"]
abbrev P_backs_of : List Str := ["rows", "unit"]
def g_backs_of : DS := sRet (dCall dTupOf (aCons (dOfL (lLc (iR1 (dCall dLen (aCons (dVar 0) (aNil)))) (gNm 2) (dYes) (dCallF 3 S_back_of (aCons (dVar 0) (aCons (dVar 1) (aCons (dVar 2) (aNil))))) [2])) (aNil)))
abbrev N_centre_of : List Str := ["rows", "columns", "thing", "row"]
abbrev P_centre_of : List Str := ["rows"]
def g_centre_of : DS := sSeq (sSet 1 (xIm (dOfL (lLc (iR1 (dCall dLen (aCons (dVar 0) (aNil)))) (gNm 2) (dYes) (dCall dTupOf (aCons (dOfL (lLc (iSq (dVar 0)) (gNm 3) (dYes) (dBin dIx (dVar 3) (dVar 2)) [3])) (aNil))) [2])))) (sRet (dCall dTupOf (aCons (dOfL (lLc (iEn (dVar 0)) (gTp 2 (gsCons (gNm 2) (gsCons (gNm 3) (gsNil)))) (dTst (dBin dEq (dVar 3) (dBin dIx (dVar 1) (dVar 2)))) (dVar 2) [2, 3])) (aNil))))
abbrev N_Group____init__ : List Str := ["self", "rows", "paper", "unit"]
abbrev P_Group____init__ : List Str := ["self", "rows"]
def g_Group____init__ : DS := sSeq (sSet 2 (xIm (dCallF 1 S_group_paper (aCons (dVar 1) (aNil))))) (sSeq (sIf (dTst (dBin dNe (dVar 2) (dTup (aCons (dC (.str "group")) (aNil))))) (sNever) (sNx)) (sSeq (sSet 3 (xIm (dCallF 1 S_unit_of (aCons (dVar 1) (aNil))))) (sSeq (sFldD 0 "Group" "_rows" (dVar 1)) (sSeq (sFldD 0 "Group" "_unit" (dVar 3)) (sSeq (sFldD 0 "Group" "_backs" (dCallF 2 S_backs_of (aCons (dVar 1) (aCons (dVar 3) (aNil))))) (sFldD 0 "Group" "_centre" (dCallF 1 S_centre_of (aCons (dVar 1) (aNil)))))))))
abbrev N__law_cyclic : List Str := ["_law_size", "_law_a", "_law_b"]
abbrev P__law_cyclic : List Str := ["_law_size"]
def g__law_cyclic : DS := sRet (dCall dTupOf (aCons (dOfL (lLc (iR1 (dVar 0)) (gNm 1) (dYes) (dCall dTupOf (aCons (dOfL (lLc (iR1 (dVar 0)) (gNm 2) (dYes) (dBin dMod (dCall dInt (aCons (dBin dAdd (dVar 1) (dVar 2)) (aNil))) (dVar 0)) [2])) (aNil))) [1])) (aNil)))
abbrev N__law_direct : List Str := ["_law_one", "_law_other"]
abbrev P__law_direct : List Str := ["_law_one", "_law_other"]
def g__law_direct : DS := sRet (dCall dTupOf (aCons (dCallF 2 S__law_product_dots (aCons (dVar 0) (aCons (dVar 1) (aNil)))) (aNil)))
abbrev N__law_turned_pairs : List Str := ["_law_size", "_law_found", "_law_a", "_law_row", "_law_b", "_law_turn"]
abbrev P__law_turned_pairs : List Str := ["_law_size"]
def g__law_turned_pairs : DS := sSeq (sSet 1 (xOw (lLst (aNil)))) (sSeq (sFor (iR1 (dBin dMulA (dC (.int 2)) (dVar 0))) (gNm 2) (sSeq (sSet 3 (xOw (lLst (aNil)))) (sSeq (sFor (iR1 (dBin dMulA (dC (.int 2)) (dVar 0))) (gNm 4) (sSeq (sSet 5 (xIm (dIfE (dTst (dBin dEq (dBin dMod (dVar 2) (dC (.int 2))) (dC (.int 0)))) (dBin dFdiv (dVar 4) (dC (.int 2))) (dBin dSub (dVar 0) (dBin dFdiv (dVar 4) (dC (.int 2))))))) (sEx (dApp 3 (dBin dAdd (dBin dMulA (dBin dMod (dCall dInt (aCons (dBin dAdd (dBin dFdiv (dVar 2) (dC (.int 2))) (dVar 5)) (aNil))) (dVar 0)) (dC (.int 2))) (dBin dMod (dCall dInt (aCons (dBin dAdd (dVar 2) (dVar 4)) (aNil))) (dC (.int 2)))))))) (sEx (dApp 1 (dTupO 3)))))) (sRet (dTupO 1)))
abbrev N__law_quaternion_rows : List Str := ["_law_times", "_law_found", "_law_a", "_law_row", "_law_b", "_law_line", "_law_goal"]
abbrev P__law_quaternion_rows : List Str := []
def g__law_quaternion_rows : DS := sSeq (sPar 0 1 (xIm (dOfL (lLst (aCons (dOfL (lLst (aCons (dC (.int 0)) (aCons (dC (.int 2)) (aCons (dC (.int 4)) (aCons (dC (.int 6)) (aNil))))))) (aCons (dOfL (lLst (aCons (dC (.int 2)) (aCons (dC (.int 1)) (aCons (dC (.int 6)) (aCons (dC (.int 5)) (aNil))))))) (aCons (dOfL (lLst (aCons (dC (.int 4)) (aCons (dC (.int 7)) (aCons (dC (.int 1)) (aCons (dC (.int 2)) (aNil))))))) (aCons (dOfL (lLst (aCons (dC (.int 6)) (aCons (dC (.int 4)) (aCons (dC (.int 3)) (aCons (dC (.int 1)) (aNil))))))) (aNil)))))))) (xOw (lLst (aNil)))) (sSeq (sFor (iR1 (dC (.int 8))) (gNm 2) (sSeq (sSet 3 (xOw (lLst (aNil)))) (sSeq (sFor (iR1 (dC (.int 8))) (gNm 4) (sSeq (sSet 5 (xIm (dBin dIx (dVar 0) (dBin dFdiv (dVar 2) (dC (.int 2)))))) (sSeq (sSet 6 (xIm (dBin dIx (dVar 5) (dBin dFdiv (dVar 4) (dC (.int 2)))))) (sEx (dApp 3 (dBin dAdd (dBin dMulA (dBin dFdiv (dVar 6) (dC (.int 2))) (dC (.int 2))) (dBin dMod (dCall dInt (aCons (dBin dAdd (dBin dAdd (dVar 6) (dVar 2)) (dVar 4)) (aNil))) (dC (.int 2))))))))) (sEx (dApp 1 (dTupO 3)))))) (sRet (dTupO 1)))
abbrev N__law_renamed_group : List Str := ["_law_rows", "_law_order", "_law_back", "_law_a", "_law_b"]
abbrev P__law_renamed_group : List Str := ["_law_rows", "_law_order"]
def g__law_renamed_group : DS := sSeq (sSet 2 (xIm (dCallF 1 S__law_undone (aCons (dVar 1) (aNil))))) (sRet (dCall dTupOf (aCons (dOfL (lLc (iSq (dVar 1)) (gNm 3) (dYes) (dCall dTupOf (aCons (dOfL (lLc (iSq (dVar 1)) (gNm 4) (dYes) (dBin dIx (dVar 2) (dBin dIx (dBin dIx (dVar 0) (dVar 3)) (dVar 4))) [4])) (aNil))) [3])) (aNil))))
abbrev N__law_unit : List Str := ["_law_rows", "_law_a"]
abbrev P__law_unit : List Str := ["_law_rows"]
def g__law_unit : DS := sRet (dBin dIx (dOfL (lLc (iR1 (dCall dLen (aCons (dVar 0) (aNil)))) (gNm 1) (dTst (dBin dEq (dBin dIx (dBin dIx (dVar 0) (dVar 1)) (dVar 1)) (dVar 1))) (dVar 1) [1])) (dC (.int 0)))
abbrev N__law_inverse : List Str := ["_law_rows", "_law_thing"]
abbrev P__law_inverse : List Str := ["_law_rows", "_law_thing"]
def g__law_inverse : DS := sRet (dTF gIx (dBin dIx (dVar 0) (dVar 1)) (dCallF 1 S__law_unit (aCons (dVar 0) (aNil))))
end Dn.T.G
set_option Elab.async false
set_option linter.all false
set_option maxRecDepth 100000
set_option autoImplicit false
set_option maxHeartbeats 4000000
namespace Dn.T
open PySem L2 Evl PySem.Spec PyProof.Rows
def Fl (d : D) : Prop := d.canLay0 = true ∧ d.depth ≤ 3
theorem Fl.shaped {d : D} (h : Fl d) : SeqAt.shaped d = true := by
  unfold SeqAt.shaped
  rw [h.1, Bool.true_and, decide_eq_true_eq]
  have := h.2
  omega
def tLL (F : List (List D)) : D := .list (F.map .list)
abbrev en (l : Addr) (ms : List D) (R : List (List (Int × Int))) (n : Nat) (w : D) (F : List (List D)) (x y z u : Int) (line : List D) (o : Option SV) : Env :=
  [some (.ow (.par l (.lst ms))), some (.im (tRP R)), some (.im (.int n)), some (.im w), some (.im (tLL F)), some (.im (.int x)), some (.im (.int y)), some (.im (.int z)), some (.im (.int u)), some (.im (.list line)), o, none, none]
end Dn.T
set_option Elab.async false
set_option linter.all false
set_option maxRecDepth 100000
set_option autoImplicit false
set_option maxHeartbeats 4000000
namespace Dn.T
open PySem L2 Evl PySem.Spec PyProof.Rows
theorem cut_lo' {ds : List D} {b : Nat} (h1 : b ≤ ds.length) : cutD ds none (some (b : Int)) = ds.take b := by
  unfold cutD
  rw [HT.sIx_none, HT.sIx_nat]
  simp [Nat.min_eq_left h1]
end Dn.T
set_option Elab.async false
set_option linter.all false
set_option maxRecDepth 100000
set_option autoImplicit false
set_option maxHeartbeats 4000000
namespace Dn.T.G
open PySem L2 Evl PySem.Spec PyProof.Rows
local macro_rules | `(tactic| walk_at "dd") => `(tactic| simp only [sSeq, sIf, sSet, sRet, sRetN, sNx, sEx, sAsg, sPar, dTOr, dTAnd, dTNot, dTst, dIsi, dVar, dC, dBin, dChain, dNeg, dI2, dAnd, dOr, dNot, dIfE, dCall, dCallF, aCons, aNil, dTup, lLst, dOfL, xIm, xOw, gNm, gTp, gsCons, gsNil, dYes, envD, dLen_tR, dLen_tI, dLen_tup, dLen_lst, seq_tR, seq_tI, seq_tup, seq_lst, dIs, dIsNot, dNe, dEq, dTupOf, dSl, oNone, oSome, iSq, iEn, iR1, iR2, sFor, lLc, sNever, dTRg, rg1, rg2, lRg, wipeD, isN,
  gTpL, dIxP, sSub, dApp, dPopAt, dExt, dCallM, dCallO, dBinO, dTupO, lOf, lOfO, sRetO, iOw, dVarF, lCat, lCall, dAbs, dMax2, dMin2, dInt, atO, setO, MO.getL, MO.putL, Option.isSome_some,
  dInK, dGetK, dGetD, dInD, dGet1, lKeys, lSort, dLenSet, dLenSetL, dLenSet2, sPar3, dRevT, sPutK, xDct, xDct1, sRetK, atK, keyD, sAugI, dFld, sFldD, xRng, iRgO, dNew, dNewV, dCM, dProp, dMeth, dLenI, dStrO, dEqI, dIsC, dJoin, dJs, dFmt, dCallML, sSubI, gSubW, sWh, dTF, gIx, xProp, dRepU, dKeep2, lSortSet, lSortTu, lDc, dRepT, lRep, dStrI, xDctT1, xDctOf, dInT, sPutT, lSortT2, lSortDT, dPop, dBinR, dKeep, dCallMO, atT, dCallO,
  kit_int, kit_bool, kit_tuple, kit_str, List.map_cons, List.map_nil, List.cons_append, List.nil_append, List.replicate, List.set_cons_zero, List.set_cons_succ, List.getElem?_cons_zero, List.getElem?_cons_succ, List.length_cons, List.length_nil, List.length_map, Nat.reduceAdd, Nat.reduceSub, Bool.not_true, Bool.not_false, Bool.false_eq_true, if_true, if_false, true_and, reduceCtorEq, Bool.true_eq_false, rgD_rgI, Option.some.injEq, exists_eq_left', and_true])
theorem ixTR {n : Nat} {d : Int → Int → Int} {x : Int} {Q : D → Prop} (hx : In n x) (h : Q (tI ((rgI n).map (d x)))) : dIx (tR (tab n d)) (.int x) Q := by
  refine ixR hx.1 (by rw [tab_len]; exact hx.2) ?_
  rw [show (tab n d).getD x.toNat [] = (rgI n).map (d x) from row_g hx]; exact h
theorem rw_of {n : Nat} {g : F1} (h1 : 1 ≤ n) (h2 : n ≤ 24) (hr : ∀ x y, In n x → In n y → In n (g x y)) : Rw (tab n g) := by
  refine ⟨by rw [tab_len]; exact h1, by rw [tab_len]; exact h2, fun r hr' => ?_⟩
  rw [tab_len]
  unfold tab at hr'
  obtain ⟨x, hx, rfl⟩ := List.mem_map.mp hr'
  refine ⟨by simp [rgI_len], fun y hy => ?_⟩
  obtain ⟨z, hz, rfl⟩ := List.mem_map.mp hy
  exact hr x z (In.mem.1 hx) (In.mem.1 hz)
theorem g_one {n : Nat} {g : F1} {u : Int} (h : Gr n g u) : 1 ≤ n := by
  have := h.un
  unfold In at this
  omega
theorem g_rw {n : Nat} {g : F1} {u : Int} (h : G24 n g u) : Rw (tab n g) := rw_of (g_one h.1) (by have := h.2; omega) h.1.rg
theorem isRow_in {rs : List (List Int)} (h : Rw rs) {r : List Int} (hr : r ∈ rs) : isRow rs.length rs.length (tI r) = true := by
  unfold isRow tI
  obtain ⟨h1, h2⟩ := h.row r hr
  simp only [Bool.and_eq_true, decide_eq_true_eq, List.length_map, h1, List.all_map, List.all_eq_true, true_and]
  intro x hx
  exact isTh_in (h2 x hx).1 (h2 x hx).2 (by have := h.most; omega)
theorem v_is_square : VD g_is_square S_is_square 3 1 := fun ds Q _ h => by
  obtain ⟨n, g, rfl, hr, n1, n2, h⟩ := h
  have hr := rw_of n1 (by omega) hr
  generalize tab n g = rs at hr ⊢
  have h1 := hr.pos
  have h2 := hr.most
  unfold g_is_square tR
  walk_at "dd"
  rw [show decide ((1 : Int) ≤ (rs.length : Int)) = true from by simp; omega]
  walk_at "dd"
  rw [show decide ((rs.length : Int) ≤ 24) = true from by simp; omega]
  walk_at "dd"
  refine wpLc_map (fun _ => .bool true) (by simp; omega) rfl (fun d hd K hK => ?_) (fun _ _ _ => rfl) ?_
  · walk_at "dd"
    obtain ⟨r, hr1, rfl⟩ := List.mem_map.mp hd
    refine ⟨_, _, _, rfl, fun xs e => ?_, by first | omega | (simp; omega), ?_⟩
    · cases e; have := (hr.row r hr1).1; simp; omega
    · rw [show isRow (rs.length : Int) (rs.length : Int) (tI r) = true from by simpa using isRow_in hr hr1]
      exact hK _ rfl
  · refine ⟨(rs.map tI).map fun _ => true, by simp, ?_⟩
    rw [show ((rs.map tI).map fun _ => true).all id = true from by simp]
    exact h
theorem v__check_rows : VD g__check_rows S__check_rows 1 0 := fun ds Q _ h => by
  obtain ⟨n, g, u, rfl, hg, h⟩ := h
  unfold g__check_rows
  walk_at "dd"
  refine ⟨n, g, rfl, hg.1.rg, g_one hg.1, hg.2, ?_⟩
  try walk_at "dd"
  exact h
theorem v_unit_of : VD g_unit_of S_unit_of 1 3 := fun ds Q _ h => by
  obtain ⟨n, g, u, rfl, hg, h⟩ := h
  have hr := g_rw hg
  have hu := unit_g hg.1
  generalize tab n g = rs at hr hu ⊢
  have h1 := hr.pos
  have h2 := hr.most
  unfold g_unit_of
  walk_at "dd"
  refine ⟨⟨by omega, by omega, by omega, by omega⟩, ?_⟩
  simp only [tI_def]
  refine wpFor_fs (rgI rs.length) PyData.int (fun e => if isUnit rs e = true then some (.int e) else none) (fun ρ => ∃ x y, ρ = [some (.im (tR rs)), some (.im (tI (rgI rs.length))), x, y]) ⟨_, _, rfl⟩ (fun e he ρ K B hI hq hk => ?_) (fun v hv => ?_) (fun hn ρ hI => ?_)
  · obtain ⟨x, y, rfl⟩ := hI
    obtain ⟨e0, e1⟩ := mem_rgI.mp he
    walk_at "dd"
    refine ixR e0 e1 ?_
    refine ⟨shaped_tI _, shaped_tI _, ?_⟩
    rw [eqv_tI]
    refine ite_ways (fun z => ?_) (fun z => hk ?_ _ ⟨_, _, rfl⟩)
    · refine wpLc_mapL rs tI (fun r => .int (r.getD e.toNat 0)) (by omega) rfl (fun r hr' K' hK => ?_) (fun _ => rfl) ?_
      · walk_at "dd"
        exact ixI e0 (by rw [(hr.row r hr').1]; exact e1) (hK _ rfl)
      · walk_at "dd"
        rw [show (PyData.tuple (rs.map fun r => PyData.int (r.getD e.toNat 0))) = tI (rs.map fun r => r.getD e.toNat 0) from by unfold tI; simp]
        refine ⟨shaped_tI _, shaped_tI _, ?_⟩
        rw [eqv_tI]
        have iu : isUnit rs e = decide (rs.map (fun r => r.getD e.toNat 0) = rgI rs.length) := by unfold isUnit; rw [z]; simp
        refine ite_ways (fun z2 => hq _ ?_) (fun z2 => hk ?_ _ ⟨_, _, rfl⟩)
        · rw [iu, z2]; rfl
        · rw [iu, z2]; rfl
    · have iu : isUnit rs e = false := by unfold isUnit; rw [z]; rfl
      rw [iu]; rfl
  · rw [fs_find] at hv
    unfold unitOf at hu
    rw [hu] at hv; cases hv; exact h
  · rw [fs_find] at hn
    unfold unitOf at hu
    rw [hu] at hn; cases hn
theorem v_back_of : VD g_back_of S_back_of 3 2 := fun ds Q _ h => by
  obtain ⟨n, g, u, t, rfl, hg, ht, h⟩ := h
  have hr := g_rw hg
  obtain ⟨b, hb, _⟩ := back_g hg.1 ht
  rw [hb] at h
  have t0 := ht.1
  have t1 : t < (tab n g).length := by rw [tab_len]; exact ht.2
  clear ht
  generalize tab n g = rs at hr hb t1 ⊢
  unfold g_back_of
  walk_at "dd"
  refine ixR t0 t1 ?_
  walk_at "dd"
  rw [enD_map (rs.getD t.toNat []) PyData.int 0, hr.len t0 t1]
  refine wpFor_fs (rgI rs.length) (fun k => .tuple [.int k, .int (rc rs t k)]) (fun b => if (decide (rc rs t b = u) && decide (rc rs b t = u)) = true then some (.int b) else none) (fun ρ => ∃ x y, ρ = [some (.im (tR rs)), some (.im (.int u)), some (.im (.int t)), x, y]) ⟨_, _, rfl⟩ (fun b hb ρ K B hI hq hk => ?_) (fun v hv => ?_) (fun hn ρ hI => ?_)
  · obtain ⟨x, y, rfl⟩ := hI
    obtain ⟨b0, b1⟩ := mem_rgI.mp hb
    walk_at "dd"
    refine ⟨rfl, rfl, ?_⟩
    simp only [PyData.eqv]
    refine ite_ways (fun z => ?_) (fun z => hk ?_ _ ⟨_, _, rfl⟩)
    · refine ixRC hr b0 b1 t0 t1 ?_
      refine ⟨rfl, rfl, ?_⟩
      simp only [PyData.eqv]
      have z' : rc rs t b = u := by simpa using z
      refine ite_ways (fun z2 => hq _ ?_) (fun z2 => hk ?_ _ ⟨_, _, rfl⟩)
      · rw [if_pos (by simpa [z'] using z2)]
      · rw [if_neg (by simpa [z'] using z2)]
    · rw [if_neg (by intro q; simp at q z; exact z q.1)]
  · rw [fs_find] at hv
    unfold backOf at hb
    rw [hb] at hv; cases hv; exact h
  · rw [fs_find] at hn
    unfold backOf at hb
    rw [hb] at hn; cases hn
theorem v_broken_three : VD g_broken_three S_broken_three 1 6 := fun ds Q _ h => by
  obtain ⟨n, g, u, rfl, hg, h⟩ := h
  have hr := g_rw hg
  have h3 := three_g hg.1
  generalize tab n g = rs at hr h3 ⊢
  unfold g_broken_three
  walk_at "dd"
  rw [enD_map rs tI []]
  refine wpFor_fs (rgI rs.length) (fun k => .tuple [.int k, tI (rs.getD k.toNat [])]) (fun a => (rgI rs.length).findSome? fun b => (rgI rs.length).findSome? fun c => if rc rs (rc rs a b) c ≠ rc rs a (rc rs b c) then some (.tuple [.int a, .int b, .int c]) else none) (fun ρ => ∃ x1 x2 x3 x4 x5 x6, ρ = [some (.im (tR rs)), x1, x2, x3, x4, x5, x6]) ⟨_, _, _, _, _, _, rfl⟩ (fun a ha ρ K B hI hq hk => ?_) (fun v hv => ?_) (fun hn ρ hI => ?_)
  · obtain ⟨x1, x2, x3, x4, x5, x6, rfl⟩ := hI
    obtain ⟨a0, a1⟩ := mem_rgI.mp ha
    walk_at "dd"
    rw [enD_map (rs.getD a.toNat []) PyData.int 0, hr.len a0 a1]
    refine wpFor_fs (rgI rs.length) (fun k => .tuple [.int k, .int (rc rs a k)]) (fun b => (rgI rs.length).findSome? fun c => if rc rs (rc rs a b) c ≠ rc rs a (rc rs b c) then some (.tuple [.int a, .int b, .int c]) else none) (fun ρ => ∃ x3 x4 x5 x6, ρ = [some (.im (tR rs)), some (.im (.int a)), some (.im (tI (rs.getD a.toNat []))), x3, x4, x5, x6]) ⟨_, _, _, _, rfl⟩ (fun b hb ρ K B hI hq hk => ?_) (fun v hv => hq v hv) (fun hn ρ hI => ?_)
    · obtain ⟨x3, x4, x5, x6, rfl⟩ := hI
      obtain ⟨b0, b1⟩ := mem_rgI.mp hb
      walk_at "dd"
      refine ixR b0 b1 ?_
      walk_at "dd"
      rw [enD_map (rs.getD b.toNat []) PyData.int 0, hr.len b0 b1]
      refine wpFor_fs (rgI rs.length) (fun k => .tuple [.int k, .int (rc rs b k)]) (fun c => if rc rs (rc rs a b) c ≠ rc rs a (rc rs b c) then some (.tuple [.int a, .int b, .int c]) else none) (fun ρ => ∃ x5 x6, ρ = [some (.im (tR rs)), some (.im (.int a)), some (.im (tI (rs.getD a.toNat []))), some (.im (.int b)), some (.im (.int (rc rs a b))), x5, x6]) ⟨_, _, rfl⟩ (fun c hc ρ K B hI hq hk => ?_) (fun v hv => hq v hv) (fun hn ρ hI => ?_)
      · obtain ⟨x5, x6, rfl⟩ := hI
        obtain ⟨c0, c1⟩ := mem_rgI.mp hc
        walk_at "dd"
        obtain ⟨p0, p1⟩ := hr.rc a0 a1 b0 b1
        obtain ⟨q0, q1⟩ := hr.rc b0 b1 c0 c1
        refine ixRC hr p0 p1 c0 c1 ?_
        refine ixI q0 (by rw [hr.len a0 a1]; exact q1) ?_
        refine ⟨rfl, rfl, ?_⟩
        simp only [PyData.eqv]
        refine ite_ways (fun z => ⟨by decide, hq _ (if_pos (by simpa [rc] using z))⟩) (fun z => hk (if_neg (by simpa [rc] using z)) _ ⟨_, _, rfl⟩)
      · obtain ⟨x5, x6, rfl⟩ := hI
        exact hk hn _ ⟨_, _, _, _, rfl⟩
    · obtain ⟨x3, x4, x5, x6, rfl⟩ := hI
      exact hk hn _ ⟨_, _, _, _, _, _, rfl⟩
  · unfold threeOf at h3
    rw [h3] at hv; cases hv
  · exact h
theorem v_group_paper : VD g_group_paper S_group_paper 1 3 := fun ds Q _ h => by
  obtain ⟨n, g, u, rfl, hg, h⟩ := h
  have h1 := g_one hg.1
  have h2 := hg.2
  unfold g_group_paper
  walk_at "dd"
  refine ⟨n, g, u, rfl, hg, n, g, u, rfl, hg, ?_⟩
  try walk_at "dd"
  rw [tab_len]
  refine ⟨rgd (by omega), ?_⟩
  try rw [rgD_rgI]
  refine wpFor_inv (fun ρ => ∃ x y, ρ = [some (.im (tR (tab n g))), some (.im (.int u)), x, y]) ⟨_, _, rfl⟩ (fun d hd ρ K p k => ?_) (fun ρ p => ?_)
  · obtain ⟨x, y, rfl⟩ := p
    obtain ⟨a, ha, rfl⟩ := List.mem_map.mp hd
    try walk_at "dd"
    refine ⟨n, g, u, a, rfl, hg, In.mem.1 ha, ?_⟩
    try walk_at "dd"
    exact k _ ⟨_, _, rfl⟩
  · obtain ⟨x, y, rfl⟩ := p
    try walk_at "dd"
    refine ⟨n, g, u, rfl, hg, ?_⟩
    try walk_at "dd"
    exact ⟨by decide, h⟩
theorem v_backs_of : VD g_backs_of S_backs_of 2 1 := fun ds Q _ h => by
  obtain ⟨n, g, u, rfl, hg, h⟩ := h
  have h2 := hg.2
  unfold g_backs_of
  walk_at "dd"
  rw [tab_len]
  refine ⟨rgd (by omega), ?_⟩
  try rw [rgD_rgI]
  refine wpLc_mapL (rgI n) PyData.int (fun t => .int ((backOf (tab n g) u t).getD 0)) (by rw [rgI_len]; omega) rfl (fun t ht K hK => ?_) (fun _ => rfl) ?_
  · try walk_at "dd"
    exact ⟨n, g, u, t, rfl, hg, In.mem.1 ht, hK _ rfl⟩
  · try walk_at "dd"
    rw [tI_map]
    exact h
theorem cen_eq {n : Nat} {g : F1} : (rgI n).filter (fun k => decide ((tab n g).getD k.toNat [] = (tab n g).map fun r => r.getD k.toNat 0)) = cenL n g := by
  unfold cenL
  refine List.filter_congr fun k hk => ?_
  have hk := In.mem.1 hk
  rw [Bool.eq_iff_iff, decide_eq_true_eq, List.all_eq_true, row_g hk, col_g hk, List.map_inj_left]
  simp only [decide_eq_true_eq]
  exact ⟨fun h a ha => (h a ha).symm, fun h a ha => (h a ha).symm⟩
theorem v_centre_of : VD g_centre_of S_centre_of 1 3 := fun ds Q _ h => by
  obtain ⟨n, g, u, rfl, hg, h⟩ := h
  have hr := g_rw hg
  rw [← cen_eq] at h
  have nl := tab_len n g
  generalize tab n g = rs at hr h nl ⊢
  subst nl
  have r2 := hr.most
  unfold g_centre_of
  walk_at "dd"
  refine ⟨rgd (by omega), ?_⟩
  refine wpLc_mapL (rgI rs.length) PyData.int (fun t => tI (rs.map fun r => r.getD t.toNat 0)) (by rw [rgI_len]; omega) rfl (fun t ht K hK => ?_) (fun _ => rfl) ?_
  · obtain ⟨t0, t1⟩ := mem_rgI.mp ht
    try walk_at "dd"
    refine wpLc_mapL rs tI (fun r => .int (r.getD t.toNat 0)) (by omega) rfl (fun r hr' K' hK' => ?_) (fun _ => rfl) ?_
    · try walk_at "dd"
      exact ixI t0 (by rw [(hr.row r hr').1]; exact t1) (hK' _ rfl)
    · try walk_at "dd"
      rw [show (PyData.tuple (rs.map fun r => PyData.int (r.getD t.toNat 0))) = tI (rs.map fun r => r.getD t.toNat 0) from by unfold tI; simp]
      exact hK _ rfl
  · try walk_at "dd"
    rw [enD_map rs tI []]
    refine wpLc_filL (rgI rs.length) (fun k => .tuple [.int k, tI (rs.getD k.toNat [])]) PyData.int (fun k => decide (rs.getD k.toNat [] = rs.map fun r => r.getD k.toNat 0)) (by rw [rgI_len]; omega) rfl (fun k hk K N hK hN => ?_) ?_
    · obtain ⟨k0, k1⟩ := mem_rgI.mp hk
      try walk_at "dd"
      have kl : k.toNat < rs.length := by omega
      refine ⟨_, atI_in (d := .none) k0 (by simp [rgI_len]; omega), ?_⟩
      have eg : (List.map (fun t : Int => tI (List.map (fun r => r.getD t.toNat 0) rs)) (rgI rs.length)).getD k.toNat .none = tI (rs.map fun r => r.getD k.toNat 0) := by
        have kk : ((k.toNat : Nat) : Int) = k := by omega
        rw [List.getD_eq_getElem?_getD, List.getElem?_map, rgI_get kl, kk]
        rfl
      rw [eg]
      refine ⟨shaped_tI _, shaped_tI _, ?_⟩
      rw [eqv_tI]
      cases hz : decide (rs.getD k.toNat [] = rs.map fun r => r.getD k.toNat 0) with
      | true => exact hK hz _ rfl
      | false => exact hN hz _ rfl
    · try walk_at "dd"
      exact h
theorem putE_len (f : Str) (d : D) : ∀ es : List (Str × D), (putE f d es).length ≤ es.length + 1
  | [] => Nat.le_refl _
  | (g, x) :: r => by
    unfold putE
    split
    · exact Nat.le_succ _
    · exact Nat.succ_le_succ (putE_len f d r)
theorem putE_lt {f : Str} {d : D} {es : List (Str × D)} {k : Nat} (h : es.length < k) : (putE f d es).length < k + 1 := by
  have := putE_len f d es
  omega
theorem v_Group____init__ : VI "Group" g_Group____init__ S_Group____init__ 2 2 := fun l ds Q _ h => by
  obtain ⟨n, g, u, rfl, hg, h⟩ := h
  unfold g_Group____init__
  walk_at "dd"
  refine ⟨n, g, u, rfl, hg, ?_⟩
  try walk_at "dd"
  refine ⟨by decide, by decide +kernel, by decide +kernel, ?_⟩
  rw [if_neg (by decide +kernel)]
  refine ⟨n, g, u, rfl, hg, l, [], rfl, by decide, ?_⟩
  try walk_at "dd"
  refine ⟨l, _, rfl, Nat.lt_of_le_of_lt (putE_len _ _ _) (by decide), ?_⟩
  try walk_at "dd"
  refine ⟨n, g, u, rfl, hg, l, _, rfl, putE_lt (k := 999) (putE_lt (k := 998) (by decide)), ?_⟩
  try walk_at "dd"
  refine ⟨n, g, u, rfl, hg, l, _, rfl, putE_lt (k := 999) (putE_lt (k := 998) (putE_lt (k := 997) (by decide))), ?_⟩
  exact ⟨_, rfl, h⟩
theorem ck_in {n : Nat} {x : Int} (h : In n x) (hn : n ≤ 24) : isTh n (.int x) = true := isTh_in h.1 h.2 (by omega)
theorem tR_l {l : List Int} (f : Int → Int → Int) : PyData.tuple (l.map fun a => .tuple (l.map fun b => .int (f a b))) = tR (l.map fun a => l.map fun b => f a b) := by
  unfold tR tI
  simp only [List.map_map, Function.comp_def]
theorem v__law_cyclic : VD g__law_cyclic S__law_cyclic 1 2 := fun ds Q _ h => by
  obtain ⟨n, rfl, h1, h2, h⟩ := h
  unfold g__law_cyclic
  try walk_at "dd"
  refine ⟨rgd (by omega), ?_⟩
  refine wpLc_mapL (rgI n) PyData.int (fun a => .tuple ((rgI n).map fun b => .int ((a + b) % n))) (by rw [rgI_len]; omega) rfl (fun a ha K hK => ?_) (fun _ => rfl) ?_
  · try walk_at "dd"
    refine ⟨rgd (by omega), ?_⟩
    refine wpLc_mapL (rgI n) PyData.int (fun b => .int ((a + b) % n)) (by rw [rgI_len]; omega) rfl (fun b hb K hK => ?_) (fun _ => rfl) ?_
    · try walk_at "dd"
      exact ⟨(show (0:Int) < n by omega), hK _ rfl⟩
    · try walk_at "dd"
      exact hK _ rfl
  · try walk_at "dd"
    rw [tR_l fun a b => (a + b) % n]
    exact h
theorem v__law_direct : VD g__law_direct S__law_direct 2 0 := fun ds Q _ h => by
  obtain ⟨a, b, g, k, u, v, rfl, hg, hk, hl, h⟩ := h
  unfold g__law_direct
  try walk_at "dd"
  refine ⟨_, _, a, b, g, k, rfl, rfl, rfl, hg.rg, hk.rg, g_one hk, by omega, ?_⟩
  try walk_at "dd"
  first | exact h | exact ⟨_, rfl, h⟩
theorem v__law_turned_pairs : VD g__law_turned_pairs S__law_turned_pairs 1 5 := fun ds Q _ h => by
  obtain ⟨n, rfl, h1, h2, h⟩ := h
  unfold g__law_turned_pairs
  try walk_at "dd"
  refine ⟨by decide, cm_n (by decide) (by decide), ?_⟩
  rw [show ((2 : Int) * n) = ((2 * n : Nat) : Int) from by simp, rgD_rgI]
  refine ⟨rgd (by omega), ?_⟩
  refine wpFor_ap (rgI (2 * n)) PyData.int (fun a => tI ((rgI (2 * n)).map fun b => trnG n a b)) (fun acc ρ => ∃ x1 x2 x3 x4, ρ = [some (.im (.int n)), some (.ow (.lst acc)), x1, x2, x3, x4]) ⟨_, _, _, _, rfl⟩ (fun a ha acc ρ K p q r => ?_) (fun ρ p => ?_)
  · obtain ⟨x1, x2, x3, x4, rfl⟩ := p
    try walk_at "dd"
    refine ⟨by decide, cm_n (by decide) (by decide), ?_⟩
    rw [show ((2 : Int) * n) = ((2 * n : Nat) : Int) from by simp, rgD_rgI]
    refine ⟨rgd (by omega), ?_⟩
    refine wpFor_ap (rgI (2 * n)) PyData.int (fun b => .int (trnG n a b)) (fun acc2 ρ => ∃ x3 x4, ρ = [some (.im (.int n)), some (.ow (.lst acc)), some (.im (.int a)), some (.ow (.lst acc2)), x3, x4]) ⟨_, _, rfl⟩ (fun b hb acc2 ρ K p q2 r2 => ?_) (fun ρ p => ?_)
    · obtain ⟨x3, x4, rfl⟩ := p
      unfold trnG at r2
      try walk_at "dd"
      rw [rgI_len] at q2
      simp only [PyData.eqv, beq_iff_eq]
      refine ⟨by decide, rfl, rfl, ?_⟩
      by_cases z : a % 2 = 0
      · rw [if_pos z]
        simp only [if_pos z] at r2
        exact ⟨cd_t (by decide) (by decide), cd_t (by decide) (by decide), (show (0:Int) < n by omega), cm_r ⟨by decide, by decide⟩, (show (0:Int) < 2 by decide), by omega, r2 _ ⟨_, _, rfl⟩⟩
      · rw [if_neg z]
        simp only [if_neg z] at r2
        exact ⟨cd_t (by decide) (by decide), cd_t (by decide) (by decide), (show (0:Int) < n by omega), cm_r ⟨by decide, by decide⟩, (show (0:Int) < 2 by decide), by omega, r2 _ ⟨_, _, rfl⟩⟩
    · obtain ⟨x3, x4, rfl⟩ := p
      try walk_at "dd"
      rw [rgI_len] at q
      refine ⟨by omega, ?_⟩
      rw [tI_map]
      exact r _ ⟨_, _, _, _, rfl⟩
  · obtain ⟨x1, x2, x3, x4, rfl⟩ := p
    try walk_at "dd"
    rw [show ∀ f : Int → List Int, PyData.tuple ((rgI (2 * n)).map fun b => tI (f b)) = tR ((rgI (2 * n)).map f) from fun f => by unfold tR; simp only [List.map_map, Function.comp_def]]
    exact h
theorem atI_mapx {α : Type} (l : List α) (f : α → D) (d0 : α) {i : Int} (h0 : 0 ≤ i) (h1 : i < l.length) : atI (l.map f) i = some (f (l.getD i.toNat d0)) := by
  rw [atI_in (d := f d0) h0 (by simpa using h1)]
  have h2 : i.toNat < l.length := by omega
  simp [List.getD, List.getElem?_eq_getElem h2]
theorem qlen : ∀ a, a ∈ rgI 8 → (qTimes.getD (a / 2).toNat []).length = 4 := by decide +kernel
abbrev qD : D := .list (qTimes.map fun r => .list (r.map PyData.int))
def qe (a b : Int) : Int := gOf qTimes (a / 2) (b / 2) / 2 * 2 + (gOf qTimes (a / 2) (b / 2) + a + b) % 2
theorem qf_in : ∀ a, a ∈ rgI 8 → ∀ b, b ∈ rgI 8 → (0 ≤ gOf qTimes (a / 2) (b / 2) ∧ gOf qTimes (a / 2) (b / 2) < 8) := by decide +kernel
theorem v__law_quaternion_rows : VD g__law_quaternion_rows S__law_quaternion_rows 0 7 := fun ds Q _ h => by
  obtain ⟨rfl, h⟩ := h
  unfold g__law_quaternion_rows
  try walk_at "dd"
  refine ⟨by decide, by decide, by decide, by decide, by decide, by decide, ⟨by decide, by decide, by decide, by decide⟩, ?_⟩
  rw [show rgD 0 8 = (rgI 8).map PyData.int from rgD_rgI 8]
  refine wpFor_ap (rgI 8) PyData.int (fun a => tI ((rgI 8).map fun b => qe a b)) (fun acc ρ => ∃ x1 x2 x3 x4 x5, ρ = [some (.im qD), some (.ow (.lst acc)), x1, x2, x3, x4, x5]) ⟨_, _, _, _, _, rfl⟩ (fun a ha acc ρ K p q r => ?_) (fun ρ p => ?_)
  · obtain ⟨x1, x2, x3, x4, x5, rfl⟩ := p
    obtain ⟨a0, a1⟩ := mem_rgI.mp ha
    try walk_at "dd"
    refine ⟨by decide, ⟨by decide, by decide, by decide, by decide⟩, ?_⟩
    rw [show rgD 0 8 = (rgI 8).map PyData.int from rgD_rgI 8]
    refine wpFor_ap (rgI 8) PyData.int (fun b => .int (qe a b)) (fun acc2 ρ => ∃ x3 x4 x5, ρ = [some (.im qD), some (.ow (.lst acc)), some (.im (.int a)), some (.ow (.lst acc2)), x3, x4, x5]) ⟨_, _, _, rfl⟩ (fun b hb acc2 ρ K p q2 r2 => ?_) (fun ρ p => ?_)
    · obtain ⟨x3, x4, x5, rfl⟩ := p
      obtain ⟨b0, b1⟩ := mem_rgI.mp hb
      try walk_at "dd"
      rw [rgI_len] at q2
      have fi := qf_in a ha b hb
      have e1 : CDivW a 2 := cd_t (by decide) (by decide)
      have e2 : CDivW b 2 := cd_t (by decide) (by decide)
      refine ⟨e1, _, atI_mapx qTimes (fun r => .list (r.map PyData.int)) [] (by omega) (show a / 2 < 4 by omega), e2, _, atI_mapx (qTimes.getD (a / 2).toNat []) PyData.int 0 (by omega) (by rw [qlen a ha]; omega), ?_⟩
      rw [show (qTimes.getD (a / 2).toNat []).getD (b / 2).toNat 0 = gOf qTimes (a / 2) (b / 2) from rfl]
      generalize hv : gOf qTimes (a / 2) (b / 2) = v at fi
      have r3 := r2 _ ⟨some (.im (.int b)), some (.im (.list ((qTimes.getD (a / 2).toNat []).map PyData.int))), some (.im (.int v)), rfl⟩
      unfold qe at r3
      rw [hv] at r3
      exact ⟨cd_t (by decide) (by decide), cm_r ⟨by decide, by decide⟩, (show (0:Int) < 2 by decide), by omega, r3⟩
    · obtain ⟨x3, x4, x5, rfl⟩ := p
      try walk_at "dd"
      rw [rgI_len] at q
      refine ⟨by omega, ?_⟩
      rw [tI_map]
      exact r _ ⟨_, _, _, _, _, rfl⟩
  · obtain ⟨x1, x2, x3, x4, x5, rfl⟩ := p
    try walk_at "dd"
    rw [show ∀ f : Int → List Int, PyData.tuple ((rgI 8).map fun b => tI (f b)) = tR ((rgI 8).map f) from fun f => by unfold tR; simp only [List.map_map, Function.comp_def]]
    exact h
theorem v__law_renamed_group : VD g__law_renamed_group S__law_renamed_group 2 3 := fun ds Q _ h => by
  obtain ⟨n, g, u, m, rfl, hg, hm, h⟩ := h
  have n2 := hg.2
  have ml := hm.len
  have hi := inv_mv hm
  have mm : ∀ x, x ∈ m → In n x := fun x hx => In.mem.1 (hm.mem_iff.mp hx)
  unfold g__law_renamed_group
  walk_at "dd"
  refine ⟨n, m, ⟨_, rfl, rfl⟩, hm, by omega, ?_⟩
  try walk_at "dd"
  refine wpLc_mapL m PyData.int (fun x => tI (m.map fun y => im (inv m) (g x y))) (by omega) rfl (fun x hx K hK => ?_) (fun _ => rfl) ?_
  · try walk_at "dd"
    refine wpLc_mapL m PyData.int (fun y => .int (im (inv m) (g x y))) (by omega) rfl (fun y hy K2 hK2 => ?_) (fun _ => rfl) ?_
    · try walk_at "dd"
      exact ixTR (mm x hx) (ixY (mm y hy) (ixM hi (hg.1.rg _ _ (mm x hx) (mm y hy)) (hK2 _ rfl)))
    · try walk_at "dd"
      rw [tI_map]
      exact hK _ rfl
  · try walk_at "dd"
    rw [show ∀ f : Int → List Int, PyData.tuple (m.map fun b => tI (f b)) = tR (m.map f) from fun f => by unfold tR; simp only [List.map_map, Function.comp_def]]
    rw [show (m.map fun x => m.map fun y => im (inv m) (g x y)) = tab n (renG g m) from ?_]
    · exact h
    · conv => lhs; rw [mv_self hm]
      unfold tab renG
      rw [List.map_map]
      refine List.map_congr_left fun x hx => ?_
      show (((rgI n).map (im m)).map fun y => im (inv ((rgI n).map (im m))) (g (im m x) y)) = _
      rw [← mv_self hm, mv_self hm, List.map_map, ← mv_self hm]
      rfl
theorem v__law_unit : VD g__law_unit S__law_unit 1 1 := fun ds Q _ h => by
  obtain ⟨n, g, u, rfl, hg, h⟩ := h
  have n2 := hg.2
  unfold g__law_unit
  walk_at "dd"
  rw [tab_len]
  refine ⟨rgd (by omega), ?_⟩
  try rw [rgD_rgI]
  refine wpLc_filL (rgI n) PyData.int PyData.int (fun a => decide (g a a = a)) (by rw [rgI_len]; omega) rfl (fun a ha K N hK hN => ?_) ?_
  · have ha := In.mem.1 ha
    try walk_at "dd"
    refine ixTR ha (ixY ha ⟨rfl, rfl, ?_⟩)
    rw [eqv_int]
    cases hz : decide (g a a = a) with
    | true => exact hK hz _ rfl
    | false => exact hN hz _ rfl
  · try walk_at "dd"
    have um : u ∈ (rgI n).filter (fun a => decide (g a a = a)) := List.mem_filter.mpr ⟨In.mem.2 hg.1.un, by simpa using (hg.1.idem hg.1.un).2 rfl⟩
    cases hl : (rgI n).filter (fun a => decide (g a a = a)) with
    | nil => rw [hl] at um; cases um
    | cons x r =>
      have hx : x ∈ (rgI n).filter (fun a => decide (g a a = a)) := by rw [hl]; exact List.mem_cons_self
      obtain ⟨h1, h2⟩ := List.mem_filter.mp hx
      have e := (hg.1.idem (In.mem.1 h1)).1 (by simpa using h2)
      subst e
      exact ⟨_, atI_zero, h⟩
theorem lay_ints : ∀ ns : List Int, PyData.canLayAll0 (ns.map PyData.int) = true
  | [] => rfl
  | x :: ns => by
    simp only [List.map_cons, PyData.canLayAll0, PyData.canLay0, Bool.true_and]
    exact lay_ints ns
theorem idx_back {n : Nat} {g : F1} {u x : Int} (hg : Gr n g u) (hx : In n x) : u ∈ (rgI n).map (g x) ∧ ((((rgI n).map (g x)).idxOf u : Nat) : Int) = (backOf (tab n g) u x).getD 0 := by
  obtain ⟨b, eb, hb, e1, e2⟩ := back_g hg hx
  have m : u ∈ (rgI n).map (g x) := List.mem_map.mpr ⟨b, In.mem.2 hb, e1⟩
  refine ⟨m, ?_⟩
  rw [eb]
  have lt := List.idxOf_lt_length_of_mem m
  have e := List.getElem_idxOf lt
  have e : ((rgI n).map (g x))[((rgI n).map (g x)).idxOf u]? = some u := by rw [List.getElem?_eq_getElem lt, e]
  rw [List.length_map, rgI_len] at lt
  generalize ((rgI n).map (g x)).idxOf u = j at lt e
  have hjn : In n (j : Int) := ⟨by omega, by omega⟩
  have : g x (j : Int) = u := by
    have e3 : ((rgI n).map (g x)).getD ((j : Int)).toNat 0 = g x j := map_at hjn
    rw [Int.toNat_natCast, List.getD_eq_getElem?_getD, e] at e3
    exact e3.symm
  exact hg.lc hx hjn hb (this.trans e1.symm)
theorem v__law_inverse : VD g__law_inverse S__law_inverse 2 0 := fun ds Q _ h => by
  obtain ⟨n, g, u, x, rfl, hg, hx, h⟩ := h
  unfold g__law_inverse
  walk_at "dd"
  obtain ⟨m, e⟩ := idx_back hg.1 hx
  refine ixTR hx ?_
  refine ⟨_, rfl, n, g, u, rfl, hg, lay_ints _, rfl, by show 0 ≤ 60; decide, _, place_map eqv_int m, ?_⟩
  rw [e]
  exact h
end Dn.T.G
set_option Elab.async false
set_option linter.all false
set_option maxRecDepth 100000
set_option autoImplicit false
set_option maxHeartbeats 4000000
namespace Dn.T.G
open PySem L2 Evl PySem.Spec PyProof.Rows
def S__law_falls (ds : List D) (Q : D → Prop) : Prop := ∃ m, ds = [tI m] ∧ m.length ≤ 8 ∧ Q (.int (fallsN m))
def S__law_moves_rows (ds : List D) (Q : D → Prop) : Prop := ds = [tL evens] ∧ Q (tR (mvRows evens))
def S__law_group_rows (ms ds : List D) (Q : D → List D → Prop) : Prop := ∃ m : Nat, ds = [.int m] ∧ 1 ≤ m ∧ m ≤ 24 ∧ Dc ms ∧ ∀ n g u ms', Gr n g u → n ≤ m → Dc ms' → Q (tR (tab n g)) ms'
end Dn.T.G
set_option Elab.async false
set_option linter.all false
set_option maxRecDepth 100000
set_option autoImplicit false
set_option maxHeartbeats 4000000
namespace Dn.T.G
open PySem L2 Evl PySem.Spec PyProof.Rows
abbrev N__law_group_rows : List Str := ["_law_dice_here", "_law_most", "_law_some", "_law_even", "_law_rows", "_law_size", "_law_move"]
abbrev P__law_group_rows : List Str := ["_law_dice_here", "_law_most"]
def g__law_group_rows : DS := sSeq (sSet 2 (xOw (lCat (dOfL (lLc (iR2 (dC (.int 1)) (dBin dAdd (dVar 1) (dC (.int 1)))) (gNm 5) (dYes) (dCallF 1 S__law_cyclic (aCons (dVar 5) (aNil))) [5])) (dOfL (lLst (aCons (dCallF 1 S__law_cyclic (aCons (dVar 1) (aNil))) (aNil))))))) (sSeq (sSet 2 (xOw (lCat (dVarF 2) (dOfL (lLc (iR2 (dC (.int 2)) (dBin dAdd (dBin dFdiv (dVar 1) (dC (.int 2))) (dC (.int 1)))) (gNm 5) (dYes) (dCallF 2 S__law_direct (aCons (dCallF 1 S__law_cyclic (aCons (dC (.int 2)) (aNil))) (aCons (dCallF 1 S__law_cyclic (aCons (dVar 5) (aNil))) (aNil)))) [5]))))) (sSeq (sSet 2 (xOw (lCat (dVarF 2) (dOfL (lLc (iR2 (dC (.int 3)) (dBin dAdd (dBin dFdiv (dVar 1) (dC (.int 2))) (dC (.int 1)))) (gNm 5) (dYes) (dCallF 1 S__law_turned_pairs (aCons (dVar 5) (aNil))) [5]))))) (sSeq (sIf (dTst (dBin dGt (dVar 1) (dC (.int 7)))) (sSet 2 (xOw (lCat (dVarF 2) (dOfL (lLst (aCons (dCallF 0 S__law_quaternion_rows aNil) (aCons (dCallF 2 S__law_direct (aCons (dCallF 1 S__law_cyclic (aCons (dC (.int 2)) (aNil))) (aCons (dCallF 2 S__law_direct (aCons (dCallF 1 S__law_cyclic (aCons (dC (.int 2)) (aNil))) (aCons (dCallF 1 S__law_cyclic (aCons (dC (.int 2)) (aNil))) (aNil)))) (aNil)))) (aNil)))))))) (sNx)) (sSeq (sIf (dTst (dBin dGt (dVar 1) (dC (.int 8)))) (sEx (dApp 2 (dCallF 2 S__law_direct (aCons (dCallF 1 S__law_cyclic (aCons (dC (.int 3)) (aNil))) (aCons (dCallF 1 S__law_cyclic (aCons (dC (.int 3)) (aNil))) (aNil)))))) (sNx)) (sSeq (sIf (dTst (dBin dGt (dVar 1) (dC (.int 11)))) (sSeq (sSet 3 (xIm (dOfL (lLc (iSq (dCallF 1 S__law_orders (aCons (dC (.int 4)) (aNil)))) (gNm 6) (dTst (dBin dEq (dBin dMod (dCallF 1 S__law_falls (aCons (dVar 6) (aNil))) (dC (.int 2))) (dC (.int 0)))) (dVar 6) [6])))) (sEx (dApp 2 (dCallF 1 S__law_moves_rows (aCons (dVar 3) (aNil)))))) (sNx)) (sSeq (sSet 4 (xIm (dCallM 0 2 S__law_pick (aCons (dVarF 2) (aNil))))) (sRet (dCallF 2 S__law_renamed_group (aCons (dVar 4) (aCons (dCallM 0 2 S__law_drawn_move (aCons (dCall dLen (aCons (dVar 4) (aNil))) (aNil))) (aNil)))))))))))
abbrev N__law_falls : List Str := ["_law_move", "_law_at", "_law_goal", "_law_ahead"]
abbrev P__law_falls : List Str := ["_law_move"]
def g__law_falls : DS := sRet (dCall dSum (aCons (dOfL (lLc (iEn (dVar 0)) (gTp 2 (gsCons (gNm 1) (gsCons (gNm 2) (gsNil)))) (dYes) (dCall dLen (aCons (dOfL (lLc (iSq (dSl (dVar 0) (oNone) (oSome (dVar 1)))) (gNm 3) (dTst (dBin dGt (dVar 3) (dVar 2))) (dC (.int 1)) [3])) (aNil))) [1, 2])) (aNil)))
abbrev N__law_moves_rows : List Str := ["_law_moves", "_law_one", "_law_other"]
abbrev P__law_moves_rows : List Str := ["_law_moves"]
def g__law_moves_rows : DS := sRet (dCall dTupOf (aCons (dOfL (lLc (iSq (dVar 0)) (gNm 1) (dYes) (dCall dTupOf (aCons (dOfL (lLc (iSq (dVar 0)) (gNm 2) (dYes) (dIndexD (dVar 0) (dCallF 2 S__law_joined (aCons (dVar 1) (aCons (dVar 2) (aNil))))) [2])) (aNil))) [1])) (aNil)))
abbrev N_Group__size : List Str := ["self"]
abbrev P_Group__size : List Str := ["self"]
def g_Group__size : DS := sRet (dCall dLen (aCons (dFld "Group" "_rows" (dVar 0)) (aNil)))
abbrev N_Group__times : List Str := ["self", "a", "b"]
abbrev P_Group__times : List Str := ["self", "a", "b"]
def g_Group__times : DS := sSeq (sEx (dCallF 2 S_check_thing (aCons (dVar 1) (aCons (dCall dLen (aCons (dFld "Group" "_rows" (dVar 0)) (aNil))) (aNil))))) (sSeq (sEx (dCallF 2 S_check_thing (aCons (dVar 2) (aCons (dCall dLen (aCons (dFld "Group" "_rows" (dVar 0)) (aNil))) (aNil))))) (sRet (dBin dIx (dBin dIx (dFld "Group" "_rows" (dVar 0)) (dVar 1)) (dVar 2))))
end Dn.T.G
set_option Elab.async false
set_option linter.all false
set_option maxRecDepth 100000
set_option autoImplicit false
set_option maxHeartbeats 4000000
namespace Dn.T.G
open PySem L2 Evl PySem.Spec PyProof.Rows
local macro_rules | `(tactic| walk_at "dd") => `(tactic| simp only [sSeq, sIf, sSet, sRet, sRetN, sNx, sEx, sAsg, sPar, dTOr, dTAnd, dTNot, dTst, dIsi, dVar, dC, dBin, dChain, dNeg, dI2, dAnd, dOr, dNot, dIfE, dCall, dCallF, aCons, aNil, dTup, lLst, dOfL, xIm, xOw, gNm, gTp, gsCons, gsNil, dYes, envD, dLen_tR, dLen_tI, dLen_tup, dLen_lst, seq_tR, seq_tI, seq_tup, seq_lst, dIs, dIsNot, dNe, dEq, dTupOf, dSl, oNone, oSome, iSq, iEn, iR1, iR2, sFor, lLc, sNever, dTRg, rg1, rg2, lRg, wipeD, isN,
  gTpL, dIxP, sSub, dApp, dPopAt, dExt, dCallM, dCallO, dBinO, dTupO, lOf, lOfO, sRetO, iOw, dVarF, lCat, lCall, dAbs, dMax2, dMin2, dInt, atO, setO, MO.getL, MO.putL, Option.isSome_some,
  dInK, dGetK, dGetD, dInD, dGet1, lKeys, lSort, dLenSet, dLenSetL, dLenSet2, sPar3, dRevT, sPutK, xDct, xDct1, sRetK, atK, keyD, sAugI, dFld, sFldD, xRng, iRgO, dNew, dNewV, dCM, dProp, dMeth, dLenI, dStrO, dEqI, dIsC, dJoin, dJs, dFmt, dCallML, sSubI, gSubW, sWh, dTF, gIx, xProp, dRepU, dKeep2, lSortSet, lSortTu, lDc, dRepT, lRep, dStrI, xDctT1, xDctOf, dInT, sPutT, lSortT2, lSortDT, dPop, dBinR, dKeep, dCallMO, atT, dCallO,
  kit_int, kit_bool, kit_tuple, kit_str, List.map_cons, List.map_nil, List.cons_append, List.nil_append, List.replicate, List.set_cons_zero, List.set_cons_succ, List.getElem?_cons_zero, List.getElem?_cons_succ, List.length_cons, List.length_nil, List.length_map, Nat.reduceAdd, Nat.reduceSub, Bool.not_true, Bool.not_false, Bool.false_eq_true, if_true, if_false, true_and, reduceCtorEq, Bool.true_eq_false, rgD_rgI, Option.some.injEq, exists_eq_left', and_true])
theorem v_Group__size : VD g_Group__size S_Group__size 1 0 := fun ds Q _ h => by
  obtain ⟨n, g, u, rfl, h⟩ := h
  unfold g_Group__size
  walk_at "dd"
  refine ⟨_, _, rfl, rfl, ?_⟩
  rw [dLen_tR, tab_len]
  exact h
theorem v_Group__times : VD g_Group__times S_Group__times 3 0 := fun ds Q _ h => by
  obtain ⟨n, g, u, x, y, rfl, hg, hx, hy, h⟩ := h
  unfold g_Group__times
  walk_at "dd"
  refine ⟨_, _, rfl, rfl, ?_⟩
  rw [dLen_tR, tab_len]
  refine ⟨_, _, rfl, ck_in hx hg.2, _, _, rfl, rfl, ?_⟩
  rw [dLen_tR, tab_len]
  refine ⟨_, _, rfl, ck_in hy hg.2, _, _, rfl, rfl, ?_⟩
  exact ixTR hx (ixY hy h)
theorem sum_cast : ∀ l : List Nat, (l.map fun k : Nat => (k : Int)).sum = (l.sum : Nat)
  | [] => rfl
  | x :: l => by rw [List.map_cons, List.sum_cons, List.sum_cons, sum_cast l]; omega
theorem cut_take {ds : List D} {i : Nat} (h : i ≤ ds.length) : cutD ds none (some (i : Int)) = ds.take i := cut_lo' h
theorem v__law_falls : VD g__law_falls S__law_falls 1 3 := fun ds Q _ h => by
  obtain ⟨m, rfl, hm, h⟩ := h
  unfold g__law_falls
  walk_at "dd"
  rw [enD_map m PyData.int 0]
  refine wpLc_mapL (rgI m.length) (fun k => .tuple [.int k, .int (m.getD k.toNat 0)]) (fun k => .int (((m.take k.toNat).filter fun x => decide (m.getD k.toNat 0 < x)).length : Nat)) (by rw [rgI_len]; omega) rfl (fun k hk K hK => ?_) (fun _ => rfl) ?_
  · have hk := In.mem.1 hk
    obtain ⟨i, rfl⟩ : ∃ i : Nat, k = i := ⟨k.toNat, by have := hk.1; omega⟩
    have il : i < m.length := by have := hk.2; omega
    try walk_at "dd"
    rw [Int.toNat_natCast] at hK ⊢
    unfold tI
    dsimp only
    rw [cut_take (by rw [List.length_map]; omega), ← List.map_take]
    refine wpLc_filL (m.take i) PyData.int (fun _ => .int 1) (fun x => decide (m.getD i 0 < x)) (by rw [List.length_take]; omega) rfl (fun x hx K2 N hK2 hN => ?_) ?_
    · try walk_at "dd"
      try dsimp only [dGt, dI2]
      try refine ⟨trivial, ?_⟩
      cases hz : decide (m.getD i 0 < x) with
      | true => exact hK2 hz _ rfl
      | false => exact hN hz _ rfl
    · try walk_at "dd"
      exact hK _ rfl
  · try walk_at "dd"
    refine ⟨(rgI m.length).map fun k => ((((m.take k.toNat).filter fun x => decide (m.getD k.toNat 0 < x)).length : Nat) : Int), by rw [List.map_map]; rfl, ?_⟩
    rw [show ((rgI m.length).map fun k => ((((m.take k.toNat).filter fun x => decide (m.getD k.toNat 0 < x)).length : Nat) : Int)) = ((List.range m.length).map fun i => ((m.take i).filter fun x => decide (m.getD i 0 < x)).length).map fun k : Nat => (k : Int) from by unfold rgI; rw [List.map_map, List.map_map]; rfl, sum_cast]
    exact h
theorem ev_mv {m : List Int} (h : m ∈ evens) : Mv 4 m := ordF_mv.1 (List.mem_filter.mp h).1
theorem pos_idx (L : List (List Int)) (m : List Int) : posI L m = ((L.idxOf m : Nat) : Int) := by
  unfold posI List.idxOf
  congr 2
  funext x
  by_cases e : x = m <;> simp [e]
theorem ev_in {a b : List Int} (ha : a ∈ evens) (hb : b ∈ evens) : jn a b ∈ evens := by
  have := List.all_eq_true.mp (List.all_eq_true.mp ev_all a ha) b hb
  simpa using this
theorem v__law_moves_rows : VD g__law_moves_rows S__law_moves_rows 1 2 := fun ds Q _ h => by
  obtain ⟨rfl, h⟩ := h
  unfold g__law_moves_rows
  try walk_at "dd"
  refine ⟨_, rfl, ?_⟩
  refine wpLc_mapL evens tI (fun a => tI (evens.map fun b => ((evens.idxOf (jn a b) : Nat) : Int))) (by rw [evens_len]; decide) rfl (fun a ha K hK => ?_) (fun _ => rfl) ?_
  · try walk_at "dd"
    refine ⟨_, rfl, ?_⟩
    refine wpLc_mapL evens tI (fun b => .int ((evens.idxOf (jn a b) : Nat) : Int)) (by rw [evens_len]; decide) rfl (fun b hb K2 hK2 => ?_) (fun _ => rfl) ?_
    · unfold dIndexD
      try walk_at "dd"
      refine ⟨⟨_, rfl⟩, 4, a, b, rfl, ev_mv ha, ev_mv hb, by decide, ?_⟩
      exact ixD_ok (L := evens) (ev_in ha hb) (K := fun z => K2 z _) (by rw [pos_idx]; exact hK2 _ rfl)
    · try walk_at "dd"
      rw [show ∀ f : List Int → Int, PyData.tuple (evens.map fun b => PyData.int (f b)) = tI (evens.map f) from fun f => by unfold tI; simp only [List.map_map, Function.comp_def]]
      exact hK _ rfl
  · try walk_at "dd"
    rw [show ∀ f : List Int → List Int, PyData.tuple (evens.map fun b => tI (f b)) = tR (evens.map f) from fun f => by unfold tR; simp only [List.map_map, Function.comp_def]]
    exact h
theorem rgd1 {a b : Int} (h0 : 0 ≤ a) (h1 : a ≤ 1000) (h2 : 0 ≤ b) (h3 : b ≤ 1000) : RgD a b := ⟨by omega, by omega, by omega, by omega⟩
theorem v__law_group_rows : VM g__law_group_rows S__law_group_rows 2 5 := fun l ms ds Q _ h => by
  obtain ⟨m, rfl, m1, m2, hm, h⟩ := h
  unfold g__law_group_rows
  walk_at "dd"
  let G : D → Prop := fun d => ∃ n g u, d = tR (tab n g) ∧ Gr n g u ∧ n ≤ m
  have gc : ∀ n : Nat, 1 ≤ n → n ≤ m → G (tR (tab n (cyG n))) := fun n a b => ⟨n, _, 0, rfl, gr_cyc a, b⟩
  refine And.intro (rgd1 (by decide) (by decide) (by omega) (by omega)) ?_
  refine wpLc_all G (fun ρ => ρ = [some (.ow (.par l (.lst ms))), some (.im (.int m)), none, none, none, none, none]) rfl (by rw [rgD_len]; omega) (fun d hd ρ K i k => ?_) (fun _ => rfl) (fun acc ρ al ag i => ?_)
  · subst i
    obtain ⟨c, rfl, c0, c1⟩ := mem_rgD hd
    try walk_at "dd"
    exact ⟨c.toNat, by rw [show ((c.toNat : Nat) : Int) = c by omega], by omega, by omega, k _ _ (gc _ (by omega) (by omega)) rfl⟩
  · subst i
    rw [rgD_len] at al
    try walk_at "dd"
    refine ⟨m, rfl, m1, m2, ?_⟩
    refine ⟨by decide, _, _, rfl, rfl, by simp; omega, ?_⟩
    refine And.intro (cd_t (by decide) (by decide)) ?_
    refine And.intro (rgd1 (by decide) (by decide) (by omega) (by omega)) ?_
    refine wpLc_all G (fun ρ => ρ = [some (.ow (.par l (.lst ms))), some (.im (.int m)), some (.im (.list (acc ++ [tR (tab m (cyG m))]))), none, none, none, none]) rfl (by rw [rgD_len]; omega) (fun d hd ρ K i k => ?_) (fun _ => rfl) (fun acc2 ρ al2 ag2 i => ?_)
    · subst i
      obtain ⟨c, rfl, c0, c1⟩ := mem_rgD hd
      try walk_at "dd"
      refine ⟨2, rfl, by decide, by decide, ?_⟩
      try walk_at "dd"
      refine ⟨c.toNat, by rw [show ((c.toNat : Nat) : Int) = c by omega], by omega, by omega, ?_⟩
      try walk_at "dd"
      have g1 := gr_cyc (n := 2) (by decide)
      have g2 := gr_cyc (n := c.toNat) (by omega)
      exact ⟨2, c.toNat, cyG 2, cyG c.toNat, 0, 0, rfl, g1, g2, by omega, k _ _ ⟨_, _, _, rfl, gr_dir g1 g2, by omega⟩ rfl⟩
    · subst i
      rw [rgD_len] at al2
      try walk_at "dd"
      refine ⟨_, _, rfl, rfl, by simp; omega, ?_⟩
      refine And.intro (cd_t (by decide) (by decide)) ?_
      refine And.intro (rgd1 (by decide) (by decide) (by omega) (by omega)) ?_
      refine wpLc_all G (fun ρ => ρ = [some (.ow (.par l (.lst ms))), some (.im (.int m)), some (.im (.list (acc ++ [tR (tab m (cyG m))] ++ acc2))), none, none, none, none]) rfl (by rw [rgD_len]; omega) (fun d hd ρ K i k => ?_) (fun _ => rfl) (fun acc3 ρ al3 ag3 i => ?_)
      · subst i
        obtain ⟨c, rfl, c0, c1⟩ := mem_rgD hd
        try walk_at "dd"
        exact ⟨c.toNat, by rw [show ((c.toNat : Nat) : Int) = c by omega], by omega, by omega, k _ _ ⟨_, _, _, rfl, gr_trn (by omega), by omega⟩ rfl⟩
      · subst i
        rw [rgD_len] at al3
        try walk_at "dd"
        refine ⟨_, _, rfl, rfl, by simp; omega, ?_⟩
        have fin : ∀ L : List D, (∀ d, d ∈ L → G d) → L ≠ [] → L.length ≤ 100000 → S__law_pick ms [PyData.list L] (fun d ms' => dLen [d] fun z => S__law_drawn_move ms' [z] fun d_1 ms' => S__law_renamed_group [d, d_1] fun z => ∃ ms'_1, SV.ow (MO.par l (MO.lst ms')) = SV.ow (MO.par l (MO.lst ms'_1)) ∧ Q z ms'_1) := fun L hG hne hL => by
          refine ⟨_, _, rfl, rfl, hne, hL, hm, fun x ms2 hx hm2 => ?_⟩
          obtain ⟨n, g, u, rfl, hg, hn⟩ := hG x hx
          show dLen [tR (tab n g)] _
          rw [dLen_tR, tab_len]
          refine ⟨n, rfl, by omega, hm2, fun m ms3 hp hm3 => ?_⟩
          exact ⟨n, g, u, m, rfl, ⟨hg, by omega⟩, hp, _, rfl, h n _ _ _ (gr_ren hg hp) hn hm3⟩
        have g0 : ∀ d, d ∈ acc ++ [tR (tab m (cyG m))] ++ acc2 ++ acc3 → G d := fun d hd => by
          simp only [List.mem_append, List.mem_singleton] at hd
          rcases hd with ((hd | rfl) | hd) | hd
          · exact ag d hd
          · exact gc m m1 (Nat.le_refl _)
          · exact ag2 d hd
          · exact ag3 d hd
        have n0 : acc ++ [tR (tab m (cyG m))] ++ acc2 ++ acc3 ≠ [] := by simp
        have z0 : (acc ++ [tR (tab m (cyG m))] ++ acc2 ++ acc3).length ≤ 1000 := by simp; omega
        generalize acc ++ [tR (tab m (cyG m))] ++ acc2 ++ acc3 = L0 at g0 n0 z0 ⊢
        have c2 := gr_cyc (n := 2) (by decide)
        have c3 := gr_cyc (n := 3) (by decide)
        have d4 := gr_dir c2 c2
        have d8 := gr_dir c2 d4
        have d9 := gr_dir c3 c3
        by_cases z7 : 7 < m
        · rw [if_pos (decide_eq_true (by omega))]
          refine ⟨rfl, 2, rfl, by decide, by decide, 2, rfl, by decide, by decide, 2, rfl, by decide, by decide, ?_⟩
          refine ⟨2, 2, cyG 2, cyG 2, 0, 0, rfl, c2, c2, by decide, ?_⟩
          refine ⟨2, 4, cyG 2, dirG 2 (cyG 2) (cyG 2), 0, _, rfl, c2, d4, by decide, ?_⟩
          refine ⟨by decide, _, _, rfl, rfl, by simp; omega, ?_⟩
          have g1 : ∀ d, d ∈ L0 ++ [tR qRows, tR (tab (2 * 4) (dirG 4 (cyG 2) (dirG 2 (cyG 2) (cyG 2))))] → G d := fun d hd => by
            simp only [List.mem_append, List.mem_cons, List.not_mem_nil, or_false] at hd
            rcases hd with hd | rfl | rfl
            · exact g0 d hd
            · exact ⟨8, _, 0, by rw [tab_q], gr_q, by omega⟩
            · exact ⟨_, _, _, rfl, d8, by omega⟩
          have n1 : L0 ++ [tR qRows, tR (tab (2 * 4) (dirG 4 (cyG 2) (dirG 2 (cyG 2) (cyG 2))))] ≠ [] := by simp
          have z1 : (L0 ++ [tR qRows, tR (tab (2 * 4) (dirG 4 (cyG 2) (dirG 2 (cyG 2) (cyG 2))))]).length ≤ 1002 := by simp; omega
          generalize L0 ++ [tR qRows, tR (tab (2 * 4) (dirG 4 (cyG 2) (dirG 2 (cyG 2) (cyG 2))))] = L1 at g1 n1 z1 ⊢
          by_cases z8 : 8 < m
          · rw [if_pos (decide_eq_true (by omega))]
            refine ⟨3, rfl, by decide, by decide, 3, rfl, by decide, by decide, ?_⟩
            refine ⟨3, 3, cyG 3, cyG 3, 0, 0, rfl, c3, c3, by decide, ?_⟩
            refine ⟨by omega, ?_⟩
            have g2 : ∀ d, d ∈ L1 ++ [tR (tab (3 * 3) (dirG 3 (cyG 3) (cyG 3)))] → G d := fun d hd => by
              simp only [List.mem_append, List.mem_singleton] at hd
              rcases hd with hd | rfl
              · exact g1 d hd
              · exact ⟨_, _, _, rfl, d9, by omega⟩
            have n2 : L1 ++ [tR (tab (3 * 3) (dirG 3 (cyG 3) (cyG 3)))] ≠ [] := by simp
            have z2 : (L1 ++ [tR (tab (3 * 3) (dirG 3 (cyG 3) (cyG 3)))]).length ≤ 1003 := by simp; omega
            generalize L1 ++ [tR (tab (3 * 3) (dirG 3 (cyG 3) (cyG 3)))] = L2 at g2 n2 z2 ⊢
            by_cases z11 : 11 < m
            · rw [if_pos (decide_eq_true (by omega))]
              refine ⟨4, rfl, by decide, (ordF 4 4).map tI, rfl, ?_⟩
              have o24 : (ordF 4 4).length = 24 := by decide +kernel
              refine wpLc_filL (ordF 4 4) tI tI (fun m => decide (fallsN m % 2 = 0)) (by omega) rfl (fun m hmm K N hK hN => ?_) ?_
              · try walk_at "dd"
                have ml := (ordF_mv.1 hmm).len
                refine ⟨m, rfl, by omega, (show (0:Int) < 2 by decide), rfl, rfl, ?_⟩
                rw [eqv_int, show decide (((fallsN m : Nat) : Int) % 2 = 0) = decide (fallsN m % 2 = 0) by rw [decide_eq_decide]; omega]
                cases hz : decide (fallsN m % 2 = 0) with
                | true => exact hK hz _ rfl
                | false => exact hN hz _ rfl
              · try walk_at "dd"
                refine ⟨rfl, ?_⟩
                refine ⟨by omega, ?_⟩
                refine fin _ (fun d hd => ?_) (by simp) (by simp; omega)
                rcases List.mem_append.mp hd with w | w
                · exact g2 d w
                · rw [List.mem_singleton.mp w]
                  obtain ⟨u, gr, _⟩ := gr_ev
                  exact ⟨12, _, u, by rw [tab_ev], gr, by omega⟩
            · rw [if_neg (by rw [decide_eq_true_eq]; omega)]
              exact fin _ g2 n2 (by omega)
          · rw [if_neg (by rw [decide_eq_true_eq]; omega), if_neg (by rw [decide_eq_true_eq]; omega)]
            exact fin _ g1 n1 (by omega)
        · rw [if_neg (by rw [decide_eq_true_eq]; omega), if_neg (by rw [decide_eq_true_eq]; omega), if_neg (by rw [decide_eq_true_eq]; omega)]
          exact fin _ g0 n0 (by omega)
end Dn.T.G
set_option Elab.async false
set_option linter.all false
set_option maxRecDepth 100000
set_option autoImplicit false
set_option maxHeartbeats 4000000
namespace Dn
open PySem L2 Evl PySem.Spec PyProof.Rows
def dInL (neg : Bool) : D → D → (D → Prop) → Prop := fun x y Q => ∃ ds, y = .list ds ∧ SeqAt.shaped x = true ∧ SeqAt.shaped y = true ∧ Q (.bool (if neg then !(ds.any fun z => PyData.eqv z x) else ds.any fun z => PyData.eqv z x))
theorem opd_inL {X : Cx} (hu : X.A.units + 65 < cLine) : OpD X (compareOp .In) (dInL false) := by
  refine ⟨_, op_inD hu, fun O H x y d e QD Q hO rx ry h k => ?_⟩
  obtain ⟨ds, rfl, s1, s2, h⟩ := h
  exact ⟨d, ds, rx.dp (shaped_lay s1), ry.dp (shaped_lay s2), s1, s2, k _ _ H (.refl H) (.bl _) h⟩
theorem opd_notinL {X : Cx} (hu : X.A.units + 65 < cLine) : OpD X (compareOp .NotIn) (dInL true) := by
  refine ⟨_, op_notInD hu, fun O H x y d e QD Q hO rx ry h k => ?_⟩
  obtain ⟨ds, rfl, s1, s2, h⟩ := h
  exact ⟨d, ds, rx.dp (shaped_lay s1), ry.dp (shaped_lay s2), s1, s2, k _ _ H (.refl H) (.bl _) h⟩
end Dn
set_option Elab.async false
set_option linter.all false
set_option maxRecDepth 100000
set_option autoImplicit false
set_option maxHeartbeats 4000000
namespace Dn
open PySem PySem.W PySem.Calls L2 Evl PySem.Spec PyProof.Rows
section
variable {P : Program} {w : World} {K : PySem.W.Frag} {H : Hp} {h : Heap} {a : Addr}
theorem ent_eq (x : List Int × Addr × Value) : entryOfKey (tupleKind (mixKind P w)) (ksOf x.1, x.2.1, x.2.2) = entI x := by
  have e : (ksOf x.1).map (mixKind P w).hash = x.1.map hashInt := by unfold ksOf; rw [List.map_map]; rfl
  show (⟨tupleKeyHash (mixKind P w) (ksOf x.1), .ref x.2.1, x.2.2⟩ : DictEntry) = _
  unfold tupleKeyHash
  rw [e]
  rfl
theorem tat_ok {xs : List V} (hk : HOk P w H h) (t : TAt K H a xs) : ObjOk P w H h a (.tup xs) := by
  obtain ⟨o, e, t⟩ := t
  have q := hk _ _ e
  rcases t with ⟨_, rfl⟩ | ⟨_, ob, rfl, _⟩
  · exact q
  · exact q.2
theorem tat_key {k : List Int} (hk : HOk P w H h) (t : TAt K H a (k.map V.int)) : (tupleKind (mixKind P w)).is h (ksOf k) a := by
  have q := tat_ok hk t
  rw [← ks_kV] at q
  obtain ⟨_, its, r, o, g1, g2, n, g3⟩ := q
  have r' := items_are (P := P) (w := w) r
  exact ⟨o, its.toArray, n, g1, g2, g3, by simpa using r'⟩
end
section
variable {X : Cx} {pins : List (Addr × Obj)} {σ : L2.St} {H : Hp} {s : Shared}
theorem kt_sys (kt : KT X.K) (I : L2.Inv X pins σ H s) : H sysModules = none := by
  obtain ⟨⟨oc, od, oda, osl⟩, e⟩ := Option.isSome_iff_exists.mp kt
  exact (I.bs _ _ (I.ok.mod.kin _ _ e)).2
end
def rDictK (K : PySem.W.Frag) : List V → Hp → VK → Prop := fun xs H Q => ∃ (l : Addr) (ts : List (Addr × Addr × List Int × V)), xs = [V.ref l] ∧ H l = some (.lst (ts.map fun t => V.ref t.1)) ∧
  (∀ t, t ∈ ts → TAt K H t.1 [.ref t.2.1, t.2.2.2] ∧ TAt K H t.2.1 (t.2.2.1.map V.int)) ∧ (ts.map fun t => t.2.2.1).Nodup ∧
  ∀ (p : Addr) (o : Obj) (es : Array DictEntry) (ep : Nat) (xs : List (List Int × Addr × Value)), H p = none → o.ExactDict → o.data = .dict es ep → es.toList = xs.map entI →
    Paired (fun (t : List Int × Addr × V) (x : List Int × Addr × Value) => t.1 = x.1 ∧ t.2.1 = x.2.1 ∧ RelV t.2.2 x.2.2) (ts.map fun t => (t.2.2.1, t.2.1, t.2.2.2)) xs → Q (.ref p) (upd H p (.ext (DcO p o)))
theorem cr_dictK {X : Cx} (hc : X.calm = true) (hu : X.A.units + 64 < cLine) : CallR X (.type "dict") (rDictK X.K) := by
  intro pins s σ H xs us Q I r h
  obtain ⟨l, ts, rfl, hl, ht, nd, q⟩ := h
  rw [Vals.ref1 r]
  obtain ⟨hz, its, n, rv, hlo⟩ := (show ObjOk X.prog X.w H s.heap l (.lst (ts.map fun t => V.ref t.1)) from I.hok l _ hl)
  rw [List.length_map] at hz
  have hits : its = ts.map fun t => Value.ref t.1 := by
    have : ∀ (ts : List (Addr × Addr × List Int × V)) (its : List Value), Vals (ts.map fun t => V.ref t.1) its → its = ts.map fun t => Value.ref t.1 := by
      intro ts
      induction ts with
      | nil => intro its r; cases r; rfl
      | cons t ts ih =>
        intro its r
        cases r with
        | cons r1 r2 =>
          cases r1
          rw [ih _ r2]
          rfl
    exact this ts its rv
  -- the values of the pairs
  have val : ∀ t, t ∈ ts → ∃ v : Value, RelV t.2.2.2 v ∧ IsTup s.heap t.1 #[Value.ref t.2.1, v] := fun t hm => by
    obtain ⟨_, w, rw_, it⟩ := tat_ok I.hok (ht t hm).1
    obtain ⟨u1, u2, rfl, r1, r2⟩ := vals2 rw_
    obtain rfl : u1 = Value.ref t.2.1 := r1
    exact ⟨u2, r2, it⟩
  obtain ⟨vs, lv, hv⟩ : ∃ vs : List Value, vs.length = ts.length ∧ ∀ (j : Nat) (t : Addr × Addr × List Int × V), ts[j]? = some t → ∃ v, vs[j]? = some v ∧ RelV t.2.2.2 v ∧ IsTup s.heap t.1 #[Value.ref t.2.1, v] := by
    have : ∀ ts : List (Addr × Addr × List Int × V), (∀ t, t ∈ ts → ∃ v : Value, RelV t.2.2.2 v ∧ IsTup s.heap t.1 #[Value.ref t.2.1, v]) → ∃ vs : List Value, vs.length = ts.length ∧ ∀ (j : Nat) (t : Addr × Addr × List Int × V), ts[j]? = some t → ∃ v, vs[j]? = some v ∧ RelV t.2.2.2 v ∧ IsTup s.heap t.1 #[Value.ref t.2.1, v] := by
      intro ts
      induction ts with
      | nil => exact fun _ => ⟨[], rfl, by simp⟩
      | cons t ts ih =>
        intro hh
        obtain ⟨v, h1, h2⟩ := hh t (by simp)
        obtain ⟨vs, l1, h3⟩ := ih fun x hx => hh x (by simp [hx])
        refine ⟨v :: vs, by simp [l1], fun j x e => ?_⟩
        cases j with
        | zero => simp at e; subst e; exact ⟨v, rfl, h1, h2⟩
        | succ j => simpa using h3 j x (by simpa using e)
    exact this ts val
  let ps : List (Value × Value) := (ts.map fun t => Value.ref t.2.1).zip vs
  let Ts : Nat → Addr := fun j => ((ts[j]?).map (·.1)).getD 0
  have lps : ps.length = ts.length := by simp [ps, lv]
  have pat : ∀ (j : Nat) (k v : Value), ps[j]? = some (k, v) → ∃ t, ts[j]? = some t ∧ k = .ref t.2.1 ∧ vs[j]? = some v ∧ RelV t.2.2.2 v ∧ IsTup s.heap t.1 #[Value.ref t.2.1, v] := fun j k v e => by
    obtain ⟨e1, e2⟩ := List.getElem?_zip_eq_some.mp e
    rw [List.getElem?_map] at e1
    obtain ⟨t, e3, rfl⟩ := Option.map_eq_some_iff.mp e1
    obtain ⟨v', e4, r4, i4⟩ := hv j t e3
    rw [e2] at e4
    cases e4
    exact ⟨t, e3, rfl, e2, r4, i4⟩
  have ok : PlainSeq "list" s.heap l its.toArray ∧ PairItems s.heap its.toArray Ts ps := by
    refine ⟨⟨_, n, hlo, rfl, rfl, rfl⟩, by rw [List.size_toArray, lps, hits, List.length_map], fun j k v e => ?_⟩
    obtain ⟨t, e3, rfl, e2, r4, i4⟩ := pat j k v e
    have eT : Ts j = t.1 := by show ((ts[j]?).map (·.1)).getD 0 = _; rw [e3]; rfl
    rw [eT]
    refine ⟨?_, ?_⟩
    · rw [List.getElem?_toArray, hits, List.getElem?_map, e3]
      rfl
    · exact .inl i4
  let xs : List (List Key × Addr × Value) := (ts.zip vs).map fun z => (ksOf z.1.2.2.1, z.1.2.1, z.2)
  have lxs : xs.length = ts.length := by simp [xs, lv]
  have xat : ∀ (j : Nat) (x : List Key × Addr × Value), xs[j]? = some x → ∃ t v, ts[j]? = some t ∧ vs[j]? = some v ∧ x = (ksOf t.2.2.1, t.2.1, v) := fun j x e => by
    rw [List.getElem?_map] at e
    obtain ⟨⟨t, v⟩, e1, rfl⟩ := Option.map_eq_some_iff.mp e
    obtain ⟨e2, e3⟩ := List.getElem?_zip_eq_some.mp e1
    exact ⟨t, v, e2, e3, rfl⟩
  have hkey : ∀ x, x ∈ xs → (tupleKind (mixKind X.prog X.w)).is s.heap x.1 x.2.1 := fun x hx => by
    obtain ⟨j, hj⟩ := List.mem_iff_getElem?.mp hx
    obtain ⟨t, v, e2, e3, rfl⟩ := xat j x hj
    exact tat_key I.hok (ht t (List.mem_of_getElem? e2)).2
  have knd : (xs.map (·.1)).Nodup := by
    have e : xs.map (·.1) = (ts.map fun t => t.2.2.1).map ksOf := by
      refine List.ext_getElem? fun j => ?_
      simp only [xs, List.getElem?_map]
      by_cases hj : j < ts.length
      · have jv : j < vs.length := by omega
        have jz : (ts.zip vs)[j]? = some (ts[j], vs[j]) := List.getElem?_zip_eq_some.mpr ⟨List.getElem?_eq_getElem hj, List.getElem?_eq_getElem jv⟩
        rw [jz, List.getElem?_eq_getElem hj]
        rfl
      · rw [List.getElem?_eq_none (by simp; omega), List.getElem?_eq_none (by omega)]
        rfl
    rw [e]
    exact List.Pairwise.map _ (fun a b ne z => ne (ks_inj z)) nd
  refine call_dict_pairsH (knd := tupleKind (mixKind X.prog X.w)) (ps := xs) (PairArg.list l its.toArray Ts ps) (I.ok.hd hc) (show X.A.units + 1 + 1 < cLine by omega) ok ⟨by rw [lxs, lps], fun i key v e => ?_⟩ (fun g kg x hx => ?_) (by rw [lps]; exact hz) fun g tk hd kg => ?_
  · obtain ⟨t, e3, rfl, e2, _, _⟩ := pat i key v e
    refine ⟨ksOf t.2.2.1, t.2.1, ?_, rfl⟩
    have jz : (ts.zip vs)[i]? = some (t, v) := List.getElem?_zip_eq_some.mpr ⟨e3, e2⟩
    rw [List.getElem?_map, jz]
    rfl
  · obtain ⟨ob, items, m, h1, h2, h3, h4⟩ := (show IsTupleKey (mixKind X.prog X.w) s.heap x.1 x.2.1 from hkey x hx)
    exact ⟨ob, items, m, kg _ _ (Nat.ne_of_lt (Heap.lt_size h1)) (by simp) h1, h2, h3, h4⟩
  · have kall : ∀ b o, s.heap.get? b = some o → g.get? b = some o := fun b o e => kg b o (by simp) e
    have hst : storedAllH [] xs = xs := by
      have := storedAll_new xs [] (by simpa using knd)
      simpa using this
    rw [hst] at hd
    have hn := I.hok.fresh (Nat.le_refl s.heap.objs.size)
    obtain ⟨o, es, ep, ho, h2, h3, h4, _, h5⟩ := hd
    let xs' : List (List Int × Addr × Value) := (ts.zip vs).map fun z => (z.1.2.2.1, z.1.2.1, z.2)
    have hx : es.toList = xs'.map entI := by
      rw [h4]
      have e : xs = xs'.map fun x => (ksOf x.1, x.2.1, x.2.2) := by
        simp only [xs, xs', List.map_map]
        rfl
      rw [e, List.map_map]
      exact List.map_congr_left fun x _ => ent_eq x
    refine ⟨.ref s.heap.objs.size, _, I.laid (t' := tk) (o := .ext (DcO s.heap.objs.size o)) kall (Nat.le_refl _) (dco_ok ho), rfl, q _ o es ep xs' hn h2 h3 hx ?_⟩
    refine pairs_zip (by rw [lv]) fun j t v e2 e3 => ⟨rfl, rfl, ?_⟩
    obtain ⟨v', e4, r4, _⟩ := hv j t e2
    rw [e3] at e4
    cases e4
    exact r4
section
variable {X : Cx} {a b c e : Expr} {fa fb fc : DE} {pos p : Pos} {es : List Expr} {x y : Str}
theorem pairs_rpK {K : PySem.W.Frag} {O : Addr → Prop} {H : Hp} : ∀ {vs : List V} {kvs : List (List Int × D)}, RpAll K (hide O H) vs (kvs.map pairD) → ∃ ts : List (Addr × Addr × List Int × V), vs = ts.map (fun t => V.ref t.1) ∧
    (∀ t, t ∈ ts → TAt K H t.1 [.ref t.2.1, t.2.2.2] ∧ TAt K H t.2.1 (t.2.2.1.map V.int)) ∧ (ts.map fun t => t.2.2.1) = kvs.map (·.1) ∧
    Paired (fun (p : List Int × D) (t : List Int × Addr × V) => p.1 = t.1 ∧ TAt K (hide O H) t.2.1 (t.1.map V.int) ∧ Rp K (hide O H) t.2.2 p.2) kvs (ts.map fun t => (t.2.2.1, t.2.1, t.2.2.2))
  | _, [], .nil => ⟨[], rfl, by simp, rfl, .nil⟩
  | _, q :: kvs, .cons r rr => by
    obtain ⟨ts, rfl, h1, h2, h3⟩ := pairs_rpK (kvs := kvs) rr
    unfold pairD at r
    cases r with
    | @tup a xs _ hp r2 =>
      cases r2 with
      | cons k1 r3 =>
        cases r3 with
        | cons d1 r4 =>
          cases r4
          cases k1 with
          | @tup kb ys _ hk rk =>
            obtain rfl := rk.of_ints
            have up : ∀ {c : Addr} {zs : List V}, TAt K (hide O H) c zs → TAt K H c zs := fun {c zs} ⟨o, e, t⟩ => ⟨o, at_of e, t⟩
            refine ⟨(a, kb, q.1, _) :: ts, rfl, fun t ht => ?_, by rw [List.map_cons, List.map_cons, h2], .cons ⟨rfl, hk, d1⟩ h3⟩
            rcases List.mem_cons.mp ht with rfl | ht
            · exact ⟨up hp, up hk⟩
            · exact h1 t ht
theorem jx_dctOfK {f : DL} (kt : KT X.K) (hc : X.calm = true) (hu : X.A.units + 64 < cLine) (hm : X.mg "dict" = none) (ha : JL X a f) (hg : Gl X "dict" := by rfl) (hst : starEach [a] X.env = (false, eval a X.env) :: starEach [] X.env := by rfl)
    (hpl : (backTo pos (starEach [] X.env)).any (·.1) = false := by rfl) : JX X (.Call (.Name "dict" p) [a] [] pos) (xDctOf f) := by
  obtain ⟨ta, pa, ka⟩ := ha.ex
  refine ⟨_, pe_callTy (cr_dictK hc hu) hg hm boot_dict (pa_cons pa pa_nil hst) (by decide) (by decide) hst hpl, fun T ρ σ H QD Q r h q => ka T ρ σ H _ _ r h fun ds ρ1 l vs H1 hl sl r1 v1 p1 h => ?_⟩
  obtain ⟨kvs, rfl, nd, h⟩ := h
  obtain ⟨ts, rfl, h1, h2, h3⟩ := pairs_rpK v1
  refine ⟨l, ts, rfl, sl, h1, by rw [h2]; exact nd, fun p2 o es ep xs hp2 ex hd he hx => ?_⟩
  have r2 := r1.unplus
  have dk : DtK X.K _ kvs o := ⟨kt, nd, ex, es, ep, xs, _, hd, he, hx, h3⟩
  exact q (SV.ow (.dtu kvs)) ρ1 _ _ ⟨p2, _, rfl, none_back p1 hp2, upd_same, r2.laid hp2 (hnb := fun n => n ⟨p2, o, es, ep, hd, rfl⟩), RpO.mono (m := .dtu kvs) (o := .ext (DcO p2 o)) (fun a o w => hd_laid hp2 a o (hd_unplus a o w)) ⟨p2, o, dk, rfl⟩, fun _ _ z => nomatch z⟩ (p1.trans (.grow (Ex.new hp2))) h
end
end Dn
set_option Elab.async false
set_option linter.all false
set_option maxRecDepth 100000
set_option autoImplicit false
set_option maxHeartbeats 4000000
namespace Dn
open PySem PySem.W PySem.Calls L2 Evl PySem.Spec PyProof.Rows
abbrev EI := List Int × Addr × Value
def fI (x : EI) : List Key × Addr × Value := (ksOf x.1, x.2.1, x.2.2)
abbrev KX (K : PySem.W.Frag) (G : Hp) (kvs : List (List Int × D)) (xs : List EI) : Prop := Paired (fun (p : List Int × D) (x : EI) => p.1 = x.1 ∧ TAt K G x.2.1 (x.1.map V.int) ∧ ∃ v, RelV v x.2.2 ∧ Rp K G v p.2) kvs xs
section
variable {P : Program} {w : World} {K : PySem.W.Frag} {G H : Hp} {h : Heap} {a : Addr}
theorem kx_of : ∀ {kvs : List (List Int × D)} {ts : List (List Int × Addr × V)} {xs : List EI}, Paired (fun (t : List Int × Addr × V) (x : EI) => t.1 = x.1 ∧ t.2.1 = x.2.1 ∧ RelV t.2.2 x.2.2) ts xs →
    Paired (fun (p : List Int × D) (t : List Int × Addr × V) => p.1 = t.1 ∧ TAt K G t.2.1 (t.1.map V.int) ∧ Rp K G t.2.2 p.2) kvs ts → KX K G kvs xs
  | _, _, _, .nil, .nil => .nil
  | _, _, _, .cons p ps, .cons q qs => .cons ⟨q.1.trans p.1, by rw [← p.1, ← p.2.1]; exact q.2.1, _, p.2.2, q.2.2⟩ (kx_of ps qs)
theorem of_kx : ∀ {kvs : List (List Int × D)} {xs : List EI}, KX K G kvs xs → ∃ ts : List (List Int × Addr × V), Paired (fun (t : List Int × Addr × V) (x : EI) => t.1 = x.1 ∧ t.2.1 = x.2.1 ∧ RelV t.2.2 x.2.2) ts xs ∧
    Paired (fun (p : List Int × D) (t : List Int × Addr × V) => p.1 = t.1 ∧ TAt K G t.2.1 (t.1.map V.int) ∧ Rp K G t.2.2 p.2) kvs ts
  | _, _, .nil => ⟨[], .nil, .nil⟩
  | _, _, .cons (a := p) (b := x) q qs => by
    obtain ⟨ts, h1, h2⟩ := of_kx qs
    obtain ⟨e, t, v, r, rp⟩ := q
    exact ⟨(x.1, x.2.1, v) :: ts, .cons ⟨rfl, rfl, r⟩ h1, .cons ⟨e, t, rp⟩ h2⟩
theorem kx_keys : ∀ {kvs : List (List Int × D)} {xs : List EI}, KX K G kvs xs → xs.map (·.1) = kvs.map (·.1)
  | _, _, .nil => rfl
  | _, _, .cons q qs => by rw [List.map_cons, List.map_cons, kx_keys qs, q.1]
theorem dtk_kx {kvs : List (List Int × D)} {o : Obj} : DtK K G kvs o ↔ KT K ∧ (kvs.map (·.1)).Nodup ∧ o.ExactDict ∧ ∃ (es : Array DictEntry) (ep : Nat) (xs : List EI), o.data = .dict es ep ∧ es.toList = xs.map entI ∧ KX K G kvs xs := by
  constructor
  · rintro ⟨h1, h2, h3, es, ep, xs, ts, h4, h5, h6, h7⟩
    exact ⟨h1, h2, h3, es, ep, xs, h4, h5, kx_of h6 h7⟩
  · rintro ⟨h1, h2, h3, es, ep, xs, h4, h5, h6⟩
    obtain ⟨ts, h7, h8⟩ := of_kx h6
    exact ⟨h1, h2, h3, es, ep, xs, ts, h4, h5, h7, h8⟩
theorem dict_kx {kvs : List (List Int × D)} {xs : List EI} {o : Obj} {es : Array DictEntry} {ep : Nat} (hk : HOk P w H h) (g : h.get? a = some o) (nd : (kvs.map (·.1)).Nodup) (ex : o.ExactDict) (hd : o.data = .dict es ep) (he : es.toList = xs.map entI) (kx : KX K G kvs xs) (gh : ∀ b u, G b = some u → H b = some u) :
    h.DictOfH (tupleKind (mixKind P w)) a (xs.map fI) := by
  refine ⟨o, es, ep, g, ex, hd, ?_, fun x hx => ?_, ?_⟩
  · rw [he, List.map_map]
    exact List.map_congr_left fun x _ => (ent_eq x).symm
  · obtain ⟨y, hy, rfl⟩ := List.mem_map.mp hx
    have key : ∀ {kvs : List (List Int × D)} {xs : List EI}, KX K G kvs xs → ∀ y, y ∈ xs → TAt K G y.2.1 (y.1.map V.int) := by
      intro kvs xs p
      induction p with
      | nil => intro y hy; cases hy
      | cons hp _ ih =>
        intro y hy
        rcases List.mem_cons.mp hy with rfl | hy
        · exact hp.2.1
        · exact ih y hy
    obtain ⟨u, eu, tu⟩ := key kx y hy
    exact tat_key hk ⟨u, gh _ _ eu, tu⟩
  · have e2 : (xs.map fI).map (·.1) = (kvs.map (·.1)).map ksOf := by
      rw [← kx_keys kx, List.map_map, List.map_map]
      rfl
    rw [e2]
    exact List.Pairwise.map _ (fun a b ne z => ne (ks_inj z)) nd
theorem kx_val {kvs : List (List Int × D)} {xs : List EI} (kx : KX K G kvs xs) (k : List Int) : (valT kvs k = none ∧ atKey (xs.map fI) (ksOf k) = none) ∨ ∃ (d : D) (v : V) (q : Addr × Value), valT kvs k = some d ∧ atKey (xs.map fI) (ksOf k) = some q ∧ RelV v q.2 ∧ Rp K G v d := by
  induction kx with
  | nil => exact .inl ⟨rfl, rfl⟩
  | @cons p x ps xs r t ih =>
    obtain ⟨e, _, v, rv, rp⟩ := r
    by_cases z : p.1 = k
    · refine .inr ⟨p.2, v, x.2, by simp [valT, List.find?_cons, z], ?_, rv, rp⟩
      simp [atKey, List.find?_cons, fI, ← e, z]
    · have z2 : ¬ ksOf x.1 = ksOf k := fun w => z (e.trans (ks_inj w))
      have e1 : valT (p :: ps) k = valT ps k := by simp [valT, List.find?_cons, z]
      have e2 : atKey ((x :: xs).map fI) (ksOf k) = atKey (xs.map fI) (ksOf k) := by simp [atKey, List.find?_cons, fI, z2]
      rw [e1, e2]
      exact ih
theorem kx_any {kvs : List (List Int × D)} {xs : List EI} (kx : KX K G kvs xs) (k : List Int) : (kvs.any fun kv => decide (kv.1 = k)) = (atKey (xs.map fI) (ksOf k)).isSome := by
  have : (kvs.any fun kv => decide (kv.1 = k)) = (valT kvs k).isSome := by
    unfold valT
    rw [Option.isSome_map, List.isSome_find?]
  rw [this]
  rcases kx_val kx k with ⟨h1, h2⟩ | ⟨d, v, q, h1, h2, _⟩ <;> rw [h1, h2] <;> rfl
def stI (xs : List EI) (k : List Int) (b : Addr) (u : Value) : List EI := if (atKey (xs.map fI) (ksOf k)).isSome = true then xs.map (fun x => if x.1 = k then (x.1, x.2.1, u) else x) else xs ++ [(k, b, u)]
theorem stI_f (xs : List EI) (k : List Int) (b : Addr) (u : Value) : (stI xs k b u).map fI = storedH (xs.map fI) (ksOf k) b u := by
  unfold stI storedH
  split
  · rw [List.map_map, List.map_map]
    refine List.map_congr_left fun x _ => ?_
    show fI (if x.1 = k then (x.1, x.2.1, u) else x) = putAt (ksOf k) u (fI x)
    unfold putAt
    by_cases z : x.1 = k
    · rw [if_pos z, if_pos (show (fI x).1 = ksOf k by show ksOf x.1 = _; rw [z])]
      rfl
    · rw [if_neg z, if_neg (show ¬ (fI x).1 = ksOf k from fun w => z (ks_inj w))]
  · rw [List.map_append]
    rfl
theorem kx_rep {kvs : List (List Int × D)} {xs : List EI} (kx : KX K G kvs xs) {k : List Int} {u : Value} {v : V} {d : D} (ru : RelV v u) (rp : Rp K G v d) : KX K G (kvs.map fun kv => if kv.1 = k then (kv.1, d) else kv) (xs.map fun x => if x.1 = k then (x.1, x.2.1, u) else x) := by
  induction kx with
  | nil => exact .nil
  | @cons p x ps xs r t ih =>
    refine .cons ?_ ih
    obtain ⟨e, ta, v', rv, rp'⟩ := r
    dsimp only
    by_cases z : p.1 = k
    · rw [if_pos z, if_pos (show x.1 = k by rw [← e]; exact z)]
      exact ⟨e, ta, v, ru, rp⟩
    · rw [if_neg z, if_neg (fun w => z (e.trans w))]
      exact ⟨e, ta, v', rv, rp'⟩
theorem kx_add {kvs : List (List Int × D)} {xs : List EI} (kx : KX K G kvs xs) {k : List Int} {b : Addr} {u : Value} {v : V} {d : D} (tb : TAt K G b (k.map V.int)) (ru : RelV v u) (rp : Rp K G v d) : KX K G (kvs ++ [(k, d)]) (xs ++ [(k, b, u)]) := by
  induction kx with
  | nil => exact .cons ⟨rfl, tb, v, ru, rp⟩ .nil
  | cons r t ih => exact .cons r ih
theorem stI_kx {kvs : List (List Int × D)} {xs : List EI} (kx : KX K G kvs xs) {k : List Int} {b : Addr} {u : Value} {v : V} {d : D} (tb : TAt K G b (k.map V.int)) (ru : RelV v u) (rp : Rp K G v d) : KX K G (putT kvs k d) (stI xs k b u) := by
  unfold putT stI
  rw [kx_any kx k]
  split
  · exact kx_rep kx ru rp
  · exact kx_add kx tb ru rp
theorem putT_nodup {kvs : List (List Int × D)} {k : List Int} {d : D} (nd : (kvs.map (·.1)).Nodup) : ((putT kvs k d).map (·.1)).Nodup := by
  unfold putT
  split
  · have : (kvs.map fun kv => if kv.1 = k then (kv.1, d) else kv).map (·.1) = kvs.map (·.1) := by
      rw [List.map_map]
      refine List.map_congr_left fun x _ => ?_
      show (if x.1 = k then (x.1, d) else x).1 = x.1
      split <;> rfl
    rw [this]
    exact nd
  · rename_i hn
    rw [List.map_append, List.nodup_append]
    refine ⟨nd, by simp, fun x hx y hy => ?_⟩
    rintro rfl
    have : x = k := by simpa using hy
    subst this
    obtain ⟨p, hp, e⟩ := List.mem_map.mp hx
    exact hn (List.any_eq_true.mpr ⟨p, hp, decide_eq_true e⟩)
theorem dtk_put {kvs : List (List Int × D)} {xs : List EI} {k : List Int} {b : Addr} {u : Value} {v : V} {d : D} {h' : Heap} (kt : KT K) (nd : (kvs.map (·.1)).Nodup) (kx : KX K G kvs xs) (tb : TAt K G b (k.map V.int)) (ru : RelV v u) (rp : Rp K G v d)
    (dd : h'.DictOfH (tupleKind (mixKind P w)) a (storedH (xs.map fI) (ksOf k) b u)) : ∃ o, h'.get? a = some o ∧ DtK K G (putT kvs k d) o := by
  obtain ⟨o, es, ep, g, h2, h3, h4, _, _⟩ := dd
  refine ⟨o, g, dtk_kx.2 ⟨kt, putT_nodup nd, h2, es, ep, stI xs k b u, h3, ?_, stI_kx kx tb ru rp⟩⟩
  rw [h4, ← stI_f, List.map_map]
  exact List.map_congr_left fun x _ => ent_eq x
theorem tup_keyK {O : Addr → Prop} {v : V} {ns : List Int} (r : Rp K (hide O H) v (.tuple (ns.map PyData.int))) : ∃ b, v = .ref b ∧ TAt K (hide O H) b (ns.map V.int) := by
  cases r with
  | tup hp rr =>
    obtain rfl := rr.of_ints
    exact ⟨_, rfl, hp⟩
end
def AtK (K : PySem.W.Frag) (H : Hp) (p : Addr) (G : Hp) (kvs : List (List Int × D)) : Prop := ∃ o z, H p = some (.ext (DcO z o)) ∧ DtK K G kvs o ∧ ∀ b u, G b = some u → H b = some u
section
variable {X : Cx} {pins : List (Addr × Obj)} {σ : L2.St} {H G : Hp} {s : Shared} {p b : Addr} {kvs : List (List Int × D)} {k : List Int} {A : Around} {E : Value → Shared → Prop}
theorem atk_open (I : L2.Inv X pins σ H s) (e : AtK X.K H p G kvs) : ∃ xs : List EI, KX X.K G kvs xs ∧ s.heap.DictOfH (tupleKind (mixKind X.prog X.w)) p (xs.map fI) ∧ KT X.K ∧ (kvs.map (·.1)).Nodup ∧ (p == sysModules) = false := by
  obtain ⟨o, z, e, dk, gh⟩ := e
  obtain ⟨h1, h2, h3, es, ep, xs, h4, h5, h6⟩ := dtk_kx.1 dk
  have g := dco_at (I.hok _ _ e)
  have dd := dict_kx (P := X.prog) (w := X.w) I.hok g h2 h3 h4 h5 h6 gh
  refine ⟨xs, h6, dd, h1, h2, beq_eq_false_iff_ne.mpr fun q => ?_⟩
  have := kt_sys h1 I
  rw [← q, e] at this
  cases this
theorem k_notIn {Q : Value → Shared → Prop} (hu : A.units + 1 < cLine) (I : L2.Inv X pins σ H s) (e : AtK X.K H p G kvs) (tb : TAt X.K H b (k.map V.int)) (h : ∀ s', L2.Inv X pins σ H s' → Q (.bool (!(valT kvs k).isSome)) s') :
    wpAny (model X.prog X.w) A (compareOp .NotIn (.ref b) (.ref p)) Q E s := by
  obtain ⟨xs, kx, dd, _, _, hd⟩ := atk_open I e
  refine wpAny_notIn_heap (tupleKind_room_in1 hu) (tat_key I.hok tb) hd dd ?_
  rcases kx_val kx k with ⟨h1, h2⟩ | ⟨d, v, q, h1, h2, _⟩ <;> (rw [h2]; rw [h1] at h; exact h _ (I.tok _))
theorem k_set {Q : Unit → Shared → Prop} {v : V} {u : Value} {d : D} (hu : A.units + 1 < cLine) (I : L2.Inv X pins σ H s) (e : AtK X.K H p G kvs) (tb : TAt X.K G b (k.map V.int)) (ru : RelV v u) (rp : Rp X.K G v d) (hl : kvs.length ≤ sizeLine)
    (h : ∀ o s', DtK X.K G (putT kvs k d) o → L2.Inv X pins σ (upd H p (.ext (DcO p o))) s' → Q () s') :
    wpAny (model X.prog X.w) A (setItem (.ref p) (.ref b) u) Q E s := by
  obtain ⟨xs, kx, dd, kt, nd, hd⟩ := atk_open I e
  obtain ⟨_, _, e, _, gh⟩ := e
  have tb' : TAt X.K H b (k.map V.int) := by
    obtain ⟨o, q, t⟩ := tb
    exact ⟨o, gh _ _ q, t⟩
  have hz : (xs.map fI).length ≤ sizeLine := by rw [List.length_map, ← Paired.length kx]; exact hl
  refine wpAny_setItem_heap (hsz := hz) (tupleKind_room_in1 hu) (tat_key I.hok tb') dd fun h' dd' hs => ?_
  obtain ⟨o, g, dk⟩ := dtk_put (P := X.prog) (w := X.w) kt nd kx tb ru rp dd'
  exact h o _ dk (d_write (t' := _) I (by rw [e]; exact True.intro) hs ⟨o, g⟩ (dco_ok g))
end
def tKIn (K : PySem.W.Frag) (neg : Bool) (ty td : TE) : TE := fun σ H Q => ty σ H fun y H1 => td σ H1 fun x H2 => ∃ (p b : Addr) (k : List Int) (kvs : List (List Int × D)) (G : Hp), x = .ref p ∧ y = .ref b ∧ AtK K H2 p G kvs ∧ TAt K H2 b (k.map V.int) ∧ Q (.bl (if neg then !(valT kvs k).isSome else (valT kvs k).isSome)) H2
def sKPut (K : PySem.W.Frag) (td ty tv : TE) : TS := fun D σ H => tv σ H fun v H1 => td σ H1 fun x H2 => ty σ H2 fun y H3 => ∃ (p b : Addr) (k : List Int) (kvs : List (List Int × PyData)) (G : Hp) (d : PyData), x = .ref p ∧ y = .ref b ∧ AtK K H3 p G kvs ∧ TAt K G b (k.map V.int) ∧ Rp K G v d ∧ kvs.length < sizeLine ∧
  ∀ o, DtK K G (putT kvs k d) o → D.nx σ (upd H3 p (.ext (DcO p o)))
section
variable {X : Cx} {o i e value : Expr} {pos pos' tpos : Pos} {td ty tv : TE}
theorem pc_knotin (hu : X.A.units + 1 < cLine) (hi : PE X i ty) (ho : PE X o td) : PC X .NotIn i o (tKIn X.K true ty td) := by
  refine ⟨fun pins s σ H Q I h => ?_⟩
  refine thn (hi.run pins s σ H _ I h) fun iv s1 ⟨y, H1, I1, ry, q1⟩ => thn (ho.run pins s1 σ H1 _ I1 q1) fun u s2 ⟨x, H2, I2, rx, p, b, k, kvs, G, ex, ey, at_, tb, q2⟩ => ?_
  subst ex ey
  obtain rfl : u = Value.ref p := rx
  obtain rfl : iv = Value.ref b := ry
  exact k_notIn hu I2 at_ tb fun s3 I3 => ⟨.bl (!(valT kvs k).isSome), H2, I3, rfl, q2⟩
theorem ps_kput (hu : X.A.units + 1 < cLine) (ho : PE X o td) (hi : PE X i ty) (hv : PE X value tv) (hs : swapsWith value (some (.Subscript o i pos')) pos.line X.env = pure false) :
    PS X (.Assign [.Subscript o i pos'] value pos) (sKPut X.K td ty tv) := by
  refine ⟨fun pins s σ H D I h => ?_⟩
  refine wpAny_Assign_Subscript (thn (hv.run pins s σ H _ I h) fun r s1 ⟨v, H1, I1, rv, q1⟩ => thn (ho.run pins s1 σ H1 _ I1 q1) fun u s2 ⟨x, H2, I2, rx, q2⟩ => thn (hi.run pins s2 σ H2 _ I2 q2) fun iv s3 ⟨y, H3, I3, ry, p, b, k, kvs, G, d, ex, ey, at_, tb, rp, hl, q3⟩ => ?_) hs
  subst ex ey
  obtain rfl : u = Value.ref p := rx
  obtain rfl : iv = Value.ref b := ry
  exact k_set hu I3 at_ tb rv rp (Nat.le_of_lt hl) fun o s4 dk I4 => ⟨σ, _, I4, q3 o dk⟩
end
section
variable {X : Cx} {a b c e : Expr} {fa fb fc : DE} {pos p : Pos} {es : List Expr} {x y : Str}
theorem RS.atTK {K : PySem.W.Frag} (kt : KT K) {T : Addr → Prop} {ρ : Env} {σ : L2.St} {H : Hp} {i : Nat} {kvs : List (List Int × D)} (r : RS K T ρ σ H) (h : Dn.atT ρ i = some kvs) : ∃ q o, ρ[i]? = some (some (SV.ow (.dtu kvs))) ∧ σ[i]? = some (some (V.ref q)) ∧ H q = some o ∧ RpO K (hide (Hd T ρ σ) H) (.dtu kvs) o ∧ AtK K H q (hide (Hd T ρ σ) H) kvs := by
  have hm := atT_some h
  obtain ⟨q, o, h1, h2, h3⟩ := r.ow i _ hm
  cases o with
  | dT kws => exact absurd kt h3.1
  | ext φ =>
    obtain ⟨z, o, h4, rfl⟩ := id h3
    exact ⟨q, _, hm, h1, h2, h3, o, z, h2, h4, fun _ _ w => at_of w⟩
  | _ => exact h3.elim
theorem TAt.out {K : PySem.W.Frag} {O : Addr → Prop} {H : Hp} {b : Addr} {xs : List V} (t : TAt K (hide O H) b xs) : TAt K H b xs := by
  obtain ⟨o, e, t⟩ := t
  exact ⟨o, at_of e, t⟩
theorem jt_notinTK {i : Nat} {px : Pos} (kt : KT X.K) (hu : X.A.units + 1 < cLine) (hN : X.N[i]? = some x) (hv : Vis X.env.scope x) (hb : JE X b fb) (hm : behindInMarks .NotIn (.Name x px) = false) (hd : (x == ("__debug__" : Str)) = false := by decide) (hcd : (x == ("__classdict__" : Str)) = false := by decide) :
    JT X (.Compare b [.NotIn] [.Name x px] pos) (dTst (dInT true i fb)) := by
  obtain ⟨tb, pb, kb⟩ := hb.ex
  refine ⟨_, pt_cmp (pc_knotin hu pb (pe_var hN hv hd hcd)) hm, fun T ρ σ H QD Q r h q => kb T ρ σ H _ _ r h fun y ρ1 v H1 r1 p1 v1 h => ?_⟩
  obtain ⟨kvs, k, h1, rfl, h3⟩ := h
  obtain ⟨l', o, _, hl', ho', hr', at_⟩ := r1.atTK kt h1
  obtain ⟨kb, rfl, hkb⟩ := tup_keyK v1
  exact ⟨_, hl', l', kb, k, kvs, _, rfl, rfl, at_, hkb.out, _, rfl, q _ _ _ r1 p1 h3⟩
theorem js_putTK {i : Nat} {px ps : Pos} {f1 f2 : DE} (kt : KT X.K) (hu : X.A.units + 1 < cLine) (hN : X.N[i]? = some x) (hv : Vis X.env.scope x) (hi : JE X b f1) (he : JE X e f2) (hd : (x == ("__debug__" : Str)) = false := by decide) (hcd : (x == ("__classdict__" : Str)) = false := by decide)
    (hs : swapsWith e (some (.Subscript (.Name x px) b ps)) pos.line X.env = pure false := by rfl) :
    JS X (.Assign [.Subscript (.Name x px) b ps] e pos) (sPutT i f1 f2) := by
  obtain ⟨t1, p1, k1⟩ := hi.ex
  obtain ⟨t2, p2, k2⟩ := he.ex
  refine ⟨_, ps_kput hu (pe_var hN hv hd hcd) p1 p2 hs, fun T ρ σ H E D r h k => k2 T ρ σ H _ _ r h fun d ρ1 v H1 r1 q1 v1 h => ?_⟩
  obtain ⟨h0, h⟩ := h
  obtain ⟨ds0, h0⟩ := Option.isSome_iff_exists.mp h0
  obtain ⟨l, _, _, hl, _⟩ := r1.atTK kt h0
  refine ⟨_, hl, k1 T ρ1 σ H1 _ _ r1 h fun kk ρ2 w H2 r2 q2 v2 h => ?_⟩
  obtain ⟨kvs, ky, h2, rfl, h3, h4⟩ := h
  obtain ⟨l', o, hm', hl', ho', hr', at_⟩ := r2.atTK kt h2
  rw [hl] at hl'; cases hl'
  obtain ⟨kb, rfl, hkb⟩ := tup_keyK v2
  refine ⟨l, kb, ky, kvs, _, d, rfl, rfl, at_, hkb, v1.monoW q2.fz, h3, fun o' dk => ?_⟩
  have hp : RpO X.K (hide (Hd T ρ2 σ) H2) (.dtu (putT kvs ky d)) (.ext (DcO l o')) := ⟨l, o', dk, rfl⟩
  have r3 := r2.write hm' hl hp (fun _ _ z => nomatch z)
  exact k.nx _ _ _ r3 ((q1.trans q2).trans (.write hm' hl)) h4
theorem dtk_nil {K : PySem.W.Frag} {G : Hp} {o : Obj} (kt : KT K) (ex : o.ExactDict) (hd : o.data = .dict #[] 0) : DtK K G [] o := dtk_kx.2 ⟨kt, List.nodup_nil, ex, #[], 0, [], hd, rfl, .nil⟩
end
end Dn
set_option Elab.async false
set_option linter.all false
set_option maxRecDepth 100000
set_option autoImplicit false
set_option maxHeartbeats 4000000
namespace Dn
open PySem PySem.W PySem.Calls L2 Evl PySem.Spec PyProof.Rows SrL
def rSortK (K : PySem.W.Frag) : List V → Hp → VK → Prop := fun vs H Q => ∃ (d : Addr) (kvs : List (List Int × D)) (G : Hp), vs = [V.ref d] ∧ AtK K H d G kvs ∧ kvs.length ≤ sizeLine ∧ (2 ≤ kvs.length → ∀ p, p ∈ kvs → p.1 ≠ []) ∧
  ∀ (bs : List (Addr × List Int)) (p : Addr), (bs.map (·.2)).Perm (kvs.map (·.1)) → (∀ q, q ∈ bs → TAt K H q.1 (q.2.map V.int)) → (bs.map (·.2)).Pairwise (fun a b => lx b a = false) → H p = none → Q (.ref p) (upd H p (.lst (bs.map fun q => V.ref q.1)))
theorem cr_sortK {X : Cx} (hc : X.calm = true) : CallR X (.builtin "sorted") (rSortK X.K) := by
  intro pins s σ H vs us Q I r h
  obtain ⟨d, kvs, G, rfl, hd, z, hne, q⟩ := h
  rw [Vals.ref1 r]
  obtain ⟨_, _, _, _, _, hs⟩ := atk_open I hd
  obtain ⟨o, zz, hd, dk, gh⟩ := hd
  obtain ⟨kt, nd, hx, es, ep, xs, hdt, he0, kx⟩ := dtk_kx.1 dk
  have ho := dco_at (I.hok _ _ hd)
  obtain ⟨ks, eks⟩ : ∃ ks, ks = xs.map fI := ⟨_, rfl⟩
  have he : es.toList = ks.map (entryOfKey (tupleKind (mixKind X.prog X.w))) := by
    rw [he0, eks, List.map_map]
    exact List.map_congr_left fun x _ => (ent_eq x).symm
  have l1 : es.size = ks.length := size_of_entries he
  have l2 : kvs.length = ks.length := by rw [eks, List.length_map]; exact Paired.length kx
  have ent : ∀ (j : Nat) (k : List Key × Addr × Value), ks[j]? = some k → ∃ p, kvs[j]? = some p ∧ TAt X.K H k.2.1 (p.1.map V.int) := fun j k hk => by
    rw [eks, List.getElem?_map] at hk
    obtain ⟨x, e0, rfl⟩ := Option.map_eq_some_iff.mp hk
    obtain ⟨p, h1, h2, h3, _⟩ := L2.DX.pget kx e0
    rw [← h2] at h3
    obtain ⟨u, eu, tu⟩ := h3
    exact ⟨p, h1, u, gh _ _ eu, tu⟩
  have tup : ∀ v, v ∈ ks.map (fun x => Value.ref x.2.1) → ∃ t p, v = .ref t ∧ p ∈ kvs ∧ TAt X.K H t (p.1.map V.int) := fun v hv => by
    obtain ⟨k, hk, rfl⟩ := List.mem_map.mp hv
    obtain ⟨j, hj⟩ := List.mem_iff_getElem?.mp hk
    obtain ⟨p, h1, h2⟩ := ent j k hj
    exact ⟨_, p, rfl, List.mem_of_getElem? h1, h2⟩
  have raw : ∀ v, v ∈ ks.map (fun x => Value.ref x.2.1) → TS.TupInts s.heap v (TS.intsOf s.heap v) ∧ (2 ≤ kvs.length → TS.intsOf s.heap v ≠ []) := fun v hv => by
    obtain ⟨t, p, rfl, hp, ht⟩ := tup v hv
    have ti := tupI_raw I (lt_of ht)
    rw [ti.ints]
    exact ⟨ti, fun h2 => hne h2 p hp⟩
  have cut : ∀ R : List Value → Shared → Prop, (∀ (g : Heap) (tk : Nat), (∀ b o, s.heap.get? b = some o → g.get? b = some o) → R (ks.map fun x => Value.ref x.2.1) { s with heap := g, toks := tk }) → wpAny (model X.prog X.w) X.A.in1 (collect (.ref d)) R X.xe s := fun R k => by
    refine kdu_collect (kdl_raw hs hx hdt) (I.ok.hd hc) ho (by omega) fun g tk acc kp it => ?_
    have ea : acc.toList = ks.map fun x => Value.ref x.2.1 := by
      refine List.ext_getElem? fun j => ?_
      rw [List.getElem?_map]
      by_cases hj : j < ks.length
      · have ja : j < acc.toList.length := by rw [Array.length_toList, it.1, l1]; exact hj
        obtain ⟨en, hen, hv⟩ := it.2 j acc.toList[j] (by rw [← Array.getElem?_toList, List.getElem?_eq_getElem ja])
        have qe := entry_at he j
        rw [hen, List.getElem?_eq_getElem hj] at qe
        rw [List.getElem?_eq_getElem ja, List.getElem?_eq_getElem hj, hv, Option.some.inj qe]
        rfl
      · rw [List.getElem?_eq_none (by rw [Array.length_toList, it.1, l1]; omega), List.getElem?_eq_none (by omega)]
        rfl
    rw [ea]
    exact k g tk kp
  have lz : (ks.map fun x => Value.ref x.2.1).length ≤ sizeLine := by rw [List.length_map]; omega
  refine sorted_via (swo_lx (TS.intsOf s.heap)) lz cut (fun h2 g tk a ha kk => ?_) fun g tk e out s1 s2 kp hno hnew => ?_
  · rw [List.length_map] at h2
    refine tups_sortableO (s := { s with heap := g, toks := tk }) (by rw [List.length_map]; omega) (fun v hm => (raw v hm).1.keeps fun b o e _ => (kk b o e).2) (fun v hm => (raw v hm).2 (by omega)) fun o e => ?_
    cases e.symm.trans ha
    intro c
    exact absurd (Value.type.inj c) (by decide)
  · obtain ⟨n, hnew⟩ := hnew
    have hall : ∀ u, u ∈ out → ∃ t p, u = .ref t ∧ p ∈ kvs ∧ TAt X.K H t (p.1.map V.int) := fun u hu => tup u (s2.perm.mem_iff.mp hu)
    have keys : (ks.map fun x => Value.ref x.2.1).map (TS.intsOf s.heap) = kvs.map (·.1) := by
      refine List.ext_getElem? fun j => ?_
      rw [List.getElem?_map, List.getElem?_map, List.getElem?_map]
      by_cases hj : j < ks.length
      · obtain ⟨p, h1, h2⟩ := ent j ks[j] (List.getElem?_eq_getElem hj)
        rw [List.getElem?_eq_getElem hj, h1]
        exact congrArg some (tupI_raw I (lt_of h2)).ints
      · rw [List.getElem?_eq_none (by omega), List.getElem?_eq_none (by omega)]
        rfl
    have e2 : (out.map fun u => (adV u, TS.intsOf s.heap u)).map (·.2) = out.map (TS.intsOf s.heap) := by rw [List.map_map]; rfl
    have e1 : (out.map fun u => (adV u, TS.intsOf s.heap u)).map (fun q => V.ref q.1) = out.map fun u => V.ref (adV u) := by rw [List.map_map]; rfl
    have hne0 : H e = none := I.hok.gone hno
    have J := q (out.map fun u => (adV u, TS.intsOf s.heap u)) e (by rw [e2, ← keys]; exact s2.perm.map _) (fun y hy => by
      obtain ⟨u, hu, rfl⟩ := List.mem_map.mp hy
      obtain ⟨t, p, rfl, _, ht⟩ := hall u hu
      rw [show TS.intsOf s.heap (.ref t) = p.1 from (tupI_raw I (lt_of ht)).ints]
      exact ht) (by rw [e2, List.pairwise_map]; exact s1) hne0
    rw [e1] at J
    refine ⟨.ref e, _, I.laidN (t' := tk) (o := .lst (out.map fun u => V.ref (adV u))) kp hno hne0 ⟨?_, out, n, vals_ad fun u hu => ?_, hnew⟩, rfl, J⟩
    · rw [List.length_map, s2.perm.length_eq]
      exact lz
    · obtain ⟨t, _, e, _⟩ := hall u hu
      exact ⟨t, e⟩
section
variable {X : Cx} {a b c e : Expr} {fa fb fc : DE} {pos p : Pos} {es : List Expr} {x y : Str}
theorem jl_sortDTK {i : Nat} {px : Pos} (kt : KT X.K) (hc : X.calm = true) (hm : X.mg "sorted" = none) (hN : X.N[i]? = some x) (hv : Vis X.env.scope x) (hg : Gl X "sorted" := by rfl) (hd : (x == ("__debug__" : Str)) = false := by decide) (hcd : (x == ("__classdict__" : Str)) = false := by decide)
    (he : starEach [Expr.Name x px] X.env = (false, eval (Expr.Name x px) X.env) :: starEach [] X.env := by rfl) : JL X (.Call (.Name "sorted" p) [.Name x px] [] pos) (fun ρ Q => (∃ kvs, atT ρ i = some kvs ∧ kvs.length ≤ sizeLine) ∧ lSortDT i ρ Q) := by
  refine ⟨_, pe_callB (cr_sortK hc) hg hm (by decide +kernel) (pa_cons (pe_var hN hv hd hcd) pa_nil he) (by decide) (by decide) he (by rfl), fun T ρ σ H QD Q r h q => ?_⟩
  obtain ⟨⟨kvs', h0, hz⟩, kvs, h1, hne, h⟩ := h
  obtain rfl := Option.some.inj (h0.symm.trans h1)
  obtain ⟨l, o, _, hl, ho, hr, at_⟩ := r.atTK kt h1
  refine ⟨_, hl, l, _, _, rfl, at_, hz, hne, fun bs p hp hb hs hn => ?_⟩
  · have vis : ∀ q, q ∈ bs → TAt X.K (hide (Hd (plus T p) ρ σ) (upd H p (.lst (bs.map fun q => V.ref q.1)))) q.1 (q.2.map V.int) := fun q hq => by
      have hH := hb q hq
      refine hH.keep fun o tu e => ?_
      have ne : q.1 ≠ p := fun z => by rw [z, hn] at e; cases e
      refine hide_some.2 ⟨?_, by rw [upd_ne ne]; exact e⟩
      rintro ((w | w) | w)
      · exact ne w
      · exact ((r.dom _ w).2 _ e).1 tu
      · exact ((r.hdLv (.inr w)).2 _ e).1 tu
    have rr : RpAll X.K (hide (Hd (plus T p) ρ σ) (upd H p (.lst (bs.map fun q => V.ref q.1)))) (bs.map fun q => V.ref q.1) ((bs.map (·.2)).map tI0) := by
      clear hp hs hb
      have : ∀ cs : List (Addr × List Int), (∀ q, q ∈ cs → q ∈ bs) → RpAll X.K (hide (Hd (plus T p) ρ σ) (upd H p (.lst (bs.map fun q => V.ref q.1)))) (cs.map fun q => V.ref q.1) ((cs.map (·.2)).map tI0) := by
        intro cs
        induction cs with
        | nil => exact fun _ => .nil
        | cons c cs ih => exact fun hh => .cons (.tup (vis c (hh c (by simp))) (RpAll.ints c.2)) (ih fun q hq => hh q (by simp [hq]))
      exact this bs fun _ h => h
    exact q _ _ _ _ _ hn upd_same (r.laid hn) rr (.grow (Ex.new hn)) (h _ hp hs)
def tDispK (K : PySem.W.Frag) (tk tv : TE) : TE := fun σ H Q => ∀ (p : Addr) (o0 : Obj), H p = none → o0.ExactDict → o0.data = .dict #[] 0 → tk σ (upd H p (.ext (DcO p o0))) fun x H1 => tv σ H1 fun y H2 => H2 p = some (.ext (DcO p o0)) ∧ ∃ (b : Addr) (k : List Int) (G : Hp) (d : D), x = .ref b ∧ TAt K G b (k.map V.int) ∧ Rp K G y d ∧
  (∀ c u, G c = some u → H2 c = some u) ∧ KT K ∧ ∀ o, DtK K G [(k, d)] o → Q (.ref p) (upd H2 p (.ext (DcO p o)))
theorem pe_dispK {X : Cx} {pos : Pos} {k v : Expr} {tk tv : TE} (hu : X.A.units + 64 < cLine) (hk : PE X k tk) (hv : PE X v tv) : PE X (.Dict [some k] [v] pos) (tDispK X.K tk tv) := by
  refine ⟨fun pins s σ H Q I q => ?_⟩
  have hn := I.hok.fresh (Nat.le_refl s.heap.objs.size)
  have I1 := I.laid (a := s.heap.objs.size) (o := .ext (DcO s.heap.objs.size { cls := .type "dict", data := .dict #[] })) (h' := s.heap.push { cls := .type "dict", data := .dict #[] }) (t' := s.toks) (fun _ _ q => Heap.get?_push_of_some _ q) (Nat.le_refl _) (dco_ok (Heap.get?_push_size _ rfl))
  refine wpAny_Dict_any rfl rfl (by simp) (by simp) (pairTrees_cons_walk (thn (hk.run pins _ σ _ _ I1 (q _ _ hn ⟨rfl, rfl, rfl⟩ rfl)) fun u s1 ⟨x, H1, I2, rx, q1⟩ => thn (hv.run pins s1 σ H1 _ I2 q1) fun w2 s2 ⟨y, H2, I3, ry, q2⟩ => pairTrees_nil_walk ?_))
  obtain ⟨e, b, ks, G, d, rfl, tb, rp, gh, kt, q2⟩ := q2
  obtain rfl : u = Value.ref b := rx
  have at_ : AtK X.K H2 s.heap.objs.size G [] := ⟨_, _, e, dtk_nil kt ⟨rfl, rfl, rfl⟩ rfl, gh⟩
  obtain ⟨xs, kx, dd, _, nd, hd⟩ := atk_open I3 at_
  have tb' : TAt X.K H2 b (ks.map V.int) := by
    obtain ⟨o, q, t⟩ := id tb
    exact ⟨o, gh _ _ q, t⟩
  have hx0 : xs = [] := List.length_eq_zero_iff.mp (Paired.length kx).symm
  subst hx0
  unfold storeAll
  rw [List.forIn_cons]
  refine wpAny_bind (wpAny_bind (wpAny_dictSet_heap (knd := tupleKind (mixKind X.prog X.w)) (hsz := Nat.zero_le _) (show X.A.units < cLine by omega) (tat_key I3.hok tb') dd fun h' dd' hs => wpAny_pure ?_))
  show wpAny _ _ (forIn ([] : List (Value × Value)) PUnit.unit _) _ _ _
  rw [List.forIn_nil]
  obtain ⟨o, g, dk⟩ := dtk_put (P := X.prog) (w := X.w) kt nd kx tb ry rp dd'
  exact wpAny_pure ⟨.ref s.heap.objs.size, _, d_write I3 (by rw [e]; exact True.intro) hs ⟨o, g⟩ (dco_ok g), rfl, q2 o dk⟩
theorem jx_dctT1K {k v : Expr} {fk fv : DE} (kt : KT X.K) (hu : X.A.units + 64 < cLine) (hk : JE X k fk) (hv : JE X v fv) : JX X (.Dict [some k] [v] pos) (xDctT1 fk fv) := by
  obtain ⟨tk, pk, kk⟩ := hk.ex
  obtain ⟨tv, pv, kv⟩ := hv.ex
  refine ⟨_, pe_dispK hu pk pv, fun T ρ σ H QD Q r h q p o0 hp ex0 hd0 => ?_⟩
  have nx : ¬ TbX (.ext (DcO p o0)) := fun n => n ⟨p, o0, #[], 0, hd0, rfl⟩
  have r0 := r.laid (o := .ext (DcO p o0)) hp (hnb := nx)
  refine kk (plus T p) ρ σ _ _ _ r0 h fun y ρ1 vk H1 r1 p1 v1 h => kv (plus T p) ρ1 σ H1 _ _ r1 h fun d ρ2 vv H2 r2 p2 v2 h => ?_
  obtain ⟨k, hy, hQ⟩ := h
  subst hy
  obtain ⟨kb, rfl, hkb⟩ := tup_keyK (v1.monoW p2.fz)
  have n0 : ¬ Own ρ σ p := r0.dis p (.inl rfl)
  have n1 : ¬ Own ρ1 σ p := r1.dis p (.inl rfl)
  have n2 : ¬ Own ρ2 σ p := r2.dis p (.inl rfl)
  have a2 : H2 p = some (.ext (DcO p o0)) := p2.keep p _ n1 (p1.keep p _ n0 upd_same)
  refine ⟨a2, kb, k, _, d, rfl, hkb, v2, fun c u w => at_of w, kt, fun o dk => ?_⟩
  have ⟨_, _, _, es, ep, _, hd, _⟩ := dtk_kx.1 dk
  have nx2 : ¬ TbX (.ext (DcO p o)) := fun n => n ⟨p, o, es, ep, hd, rfl⟩
  have e2 : Ex (hide (Hd (plus T p) ρ2 σ) H2) (hide (Hd (plus T p) ρ2 σ) (upd H2 p (.ext (DcO p o)))) := fun a o w => by
    obtain ⟨w1, w2⟩ := hide_some.1 w
    exact hide_some.2 ⟨w1, by rw [upd_ne (fun z => w1 (.inl (.inl z)))]; exact w2⟩
  have r3 : RS X.K (plus T p) ρ2 σ (upd H2 p (.ext (DcO p o))) := by
    refine ⟨r2.len, fun i d q => ?_, fun i m q => ?_, r2.inj, r2.dis, fun a t => ?_, r2.tag, r2.tb.wr a2 (nt := nx)⟩
    · obtain ⟨v, h1, h2⟩ := r2.im i d q; exact ⟨v, h1, h2.mono e2⟩
    · obtain ⟨a, u, h1, h2, h3⟩ := r2.ow i m q
      exact ⟨a, u, h1, by rw [upd_ne (fun z => n2 (by rw [← z]; exact ⟨i, m, q, h1⟩))]; exact h2, h3.mono e2⟩
    · by_cases z : a = p
      · subst z; exact Lv.at (o := .ext (DcO a o)) id nx2
      · exact (r2.dom a t).upd z
  have pz : Po ρ σ H ρ2 σ (upd H2 p (.ext (DcO p o))) := by
    have pt := p1.trans p2
    refine ⟨fun a o n w nt => ?_, fun a w => ?_, fun a w => ?_⟩
    · have ne : a ≠ p := fun z => by subst z; rw [hp] at w; cases w
      rw [upd_ne ne]
      exact pt.keep a o n (by rw [upd_ne ne]; exact w) nt
    · rcases pt.own a w with z | z
      · exact .inl z
      · refine .inr ?_
        by_cases ne : a = p
        · subst ne; exact hp
        · rw [upd_ne ne] at z; exact z
    · by_cases ne : a = p
      · subst ne; rw [upd_same]; simp
      · rw [upd_ne ne]
        exact pt.dom a (by rw [upd_ne ne]; exact w)
  exact q (SV.ow (.dtu [(k, d)])) ρ2 _ _ ⟨p, _, rfl, hp, upd_same, r3, ⟨p, o, dk.monoW e2, rfl⟩, fun _ _ z => nomatch z⟩ pz hQ
end
end Dn
set_option Elab.async false
set_option linter.all false
set_option maxRecDepth 100000
set_option autoImplicit false
set_option maxHeartbeats 4000000
namespace Dn
open PySem PySem.W PySem.Calls L2 Evl PySem.Spec PyProof.Rows
def rDictI (K : PySem.W.Frag) : List V → Hp → VK → Prop := fun xs H Q => ∃ (l t : Addr) (k : Int) (v : V), xs = [V.ref l] ∧ H l = some (.lst [V.ref t]) ∧ TAt K H t [.int k, v] ∧ ∀ p : Addr, H p = none → Q (.ref p) (upd H p (.dK [(Sum.inl k, v)]))
theorem cr_dictI {X : Cx} (hc : X.calm = true) : CallR X (.type "dict") (rDictI X.K) := by
  intro pins s σ H xs us Q I r h
  obtain ⟨l, t, k, v, rfl, hl, ht, q⟩ := h
  rw [Vals.ref1 r]
  obtain ⟨hz, its, n, rv, hlo⟩ := (show ObjOk X.prog X.w H s.heap l (.lst [V.ref t]) from I.hok l _ hl)
  obtain rfl : its = [Value.ref t] := by
    cases rv with
    | cons r1 r2 =>
      cases r2
      cases r1
      rfl
  obtain ⟨_, w, rw_, it⟩ := tat_ok I.hok ht
  obtain ⟨u1, u2, rfl, r1, r2⟩ := vals2 rw_
  obtain ⟨tk0, rfl⟩ := (show ∃ t, u1 = Value.int k t from r1)
  have ok : PlainSeq "list" s.heap l #[Value.ref t] ∧ PairItems s.heap #[Value.ref t] (fun _ => t) [(Value.int k tk0, u2)] := by
    refine ⟨⟨_, n, hlo, rfl, rfl, rfl⟩, rfl, fun j k' v' e => ?_⟩
    cases j with
    | zero =>
      simp at e
      obtain ⟨rfl, rfl⟩ := e
      exact ⟨rfl, .inl it⟩
    | succ j => simp at e
  refine call_dict_pairs (knd := mixKind X.prog X.w) (kvs := [(Sum.inl k, u2)]) (PairArg.list l #[Value.ref t] (fun _ => t) [(Value.int k tk0, u2)]) (I.ok.hd hc) ok ⟨rfl, fun i key v' e => ?_⟩ (show 1 ≤ sizeLine by decide) fun g tk hd kg => ?_
  · have e : [(Value.int k tk0, u2)][i]? = some (key, v') := e
    cases i with
    | zero =>
      simp at e
      obtain ⟨rfl, rfl⟩ := e
      exact ⟨Sum.inl k, rfl, by show decide (k = k) = true; simp⟩
    | succ j => simp at e
  · have kall : ∀ b o, s.heap.get? b = some o → g.get? b = some o := fun b o e => kg b o (by simp) e
    have hn := I.hok.fresh (Nat.le_refl s.heap.objs.size)
    have hs : (s.heap.objs.size == sysModules) = false := beq_eq_false_iff_ne.mpr fun e => by
      have := I.big
      rw [e] at this
      exact absurd this (Nat.lt_irrefl _)
    exact ⟨.ref s.heap.objs.size, _, I.laid (t' := tk) (o := .dK [(Sum.inl k, v)]) kall (Nat.le_refl _) (dk_new (show 1 ≤ sizeLine by decide) hs (.cons ⟨rfl, r2⟩ .nil) hd), rfl, q _ hn⟩
section
variable {X : Cx} {a b c e : Expr} {fa fb fc : DE} {pos p : Pos} {es : List Expr} {x y : Str}
def xDctI (f : DL) : DX := fun ρ Q => f ρ fun ds ρ1 => ∃ (k : Int) (d : D), ds = [.tuple [.int k, d]] ∧ Q (.ow (.dct [(Sum.inl k, d)])) ρ1
theorem jx_dctI {f : DL} (hc : X.calm = true) (hm : X.mg "dict" = none) (ha : JL X a f) (hg : Gl X "dict" := by rfl) (hst : starEach [a] X.env = (false, eval a X.env) :: starEach [] X.env := by rfl)
    (hpl : (backTo pos (starEach [] X.env)).any (·.1) = false := by rfl) : JX X (.Call (.Name "dict" p) [a] [] pos) (xDctI f) := by
  obtain ⟨ta, pa, ka⟩ := ha.ex
  refine ⟨_, pe_callTy (cr_dictI hc) hg hm boot_dict (pa_cons pa pa_nil hst) (by decide) (by decide) hst hpl, fun T ρ σ H QD Q r h q => ka T ρ σ H _ _ r h fun ds ρ1 l vs H1 hl sl r1 v1 p1 h => ?_⟩
  obtain ⟨k, d, rfl, h⟩ := h
  cases v1 with
  | cons v1 vv =>
    cases vv
    cases v1 with
    | @tup t xs _ ht rr =>
      cases rr with
      | cons k1 rr =>
        cases rr with
        | cons d1 rr =>
          cases rr
          cases k1
          obtain ⟨o, eo, to⟩ := id ht
          refine ⟨l, t, k, _, rfl, sl, ⟨o, at_of eo, to⟩, fun p2 hp2 => ?_⟩
          have r2 := r1.unplus
          exact q (SV.ow (.dct [(Sum.inl k, d)])) ρ1 _ _ ⟨p2, _, rfl, none_back p1 hp2, upd_same, r2.laid hp2, (Paired.cons ⟨rfl, d1.mono (fun a o w => hd_laid hp2 a o (hd_unplus a o w))⟩ Paired.nil : Paired _ [(Sum.inl k, d)] [(Sum.inl k, _)]), fun _ _ z => nomatch z⟩ (p1.trans (.grow (Ex.new hp2))) h
end
end Dn
set_option Elab.async false
set_option linter.all false
set_option maxRecDepth 100000
set_option autoImplicit false
set_option maxHeartbeats 4000000
namespace Dn
open PySem L2 Evl PySem.Spec PyProof.Rows
section
variable {X : Cx} {a b c e : Expr} {fa fb fc : DE} {pos p : Pos} {es : List Expr} {x y : Str}
def lKeysK (i : Nat) : DL := fun ρ Q => ∃ kvs, atK ρ i = some kvs ∧ Q (kvs.map fun p => keyB p.1) ρ
theorem jl_listDK {i : Nat} {px : Pos} (hc : X.calm = true) (hm : X.mg "list" = none) (hN : X.N[i]? = some x) (hv : Vis X.env.scope x) (hg : Gl X "list" := by rfl) (hd : (x == ("__debug__" : Str)) = false := by decide) (hcd : (x == ("__classdict__" : Str)) = false := by decide)
    (he : starEach [Expr.Name x px] X.env = (false, eval (Expr.Name x px) X.env) :: starEach [] X.env := by rfl) : JL X (.Call (.Name "list" p) [.Name x px] [] pos) (lKeysK i) := by
  refine ⟨_, pe_callTy (call_list_dK hc) hg hm (by decide +kernel) (pa_cons (pe_var hN hv hd hcd) pa_nil he) (by decide) (by decide) he, fun T ρ σ H QD Q r h q => ?_⟩
  obtain ⟨kvs, h1, h⟩ := h
  obtain ⟨l, kws, _, hl, ho, hr⟩ := r.atK h1
  exact ⟨_, hl, _, _, rfl, ho, fun l2 hl2 => q _ _ _ _ _ hl2 upd_same (r.laid hl2) (keys_rp hr _) (.grow (Ex.new hl2)) h⟩
def lSortK (i : Nat) : DL := fun ρ Q => ∃ (kvs : List (Key × D)) (ks : List Int), atK ρ i = some kvs ∧ kvs.map (·.1) = ks.map Sum.inl ∧ ks.length < 64 ∧ ∀ ys : List Int, ys.Perm ks → ys.Pairwise (· ≤ ·) → Q (ys.map PyData.int) ρ
theorem kv_keys {K : PySem.W.Frag} {G : Hp} {kvs : List (Key × D)} {kws : List (Key × V)} (h : KvRp K G kvs kws) : kws.map (·.1) = kvs.map (·.1) := by
  induction h with
  | nil => rfl
  | cons r t ih => rw [List.map_cons, List.map_cons, ih, r.1]
theorem jl_sortDK {i : Nat} {px : Pos} (hc : X.calm = true) (hm : X.mg "sorted" = none) (hN : X.N[i]? = some x) (hv : Vis X.env.scope x) (hg : Gl X "sorted" := by rfl) (hd : (x == ("__debug__" : Str)) = false := by decide) (hcd : (x == ("__classdict__" : Str)) = false := by decide)
    (he : starEach [Expr.Name x px] X.env = (false, eval (Expr.Name x px) X.env) :: starEach [] X.env := by rfl) : JL X (.Call (.Name "sorted" p) [.Name x px] [] pos) (lSortK i) := by
  refine ⟨_, pe_callB (call_sortedDI hc) hg hm (by decide +kernel) (pa_cons (pe_var hN hv hd hcd) pa_nil he) (by decide) (by decide) he (by rfl), fun T ρ σ H QD Q r h q => ?_⟩
  obtain ⟨kvs, ks, h1, hk, h64, h⟩ := h
  obtain ⟨l, kws, _, hl, ho, hr⟩ := r.atK h1
  exact ⟨_, hl, _, kws, ks, rfl, .inl ho, by rw [kv_keys hr, hk], h64, fun ys p hp hs hn => q _ _ _ _ _ hn upd_same (r.laid hn) (RpAll.ints ys) (.grow (Ex.new hn)) (h ys hp hs)⟩
end
end Dn
set_option Elab.async false
set_option linter.all false
set_option maxRecDepth 100000
set_option autoImplicit false
set_option maxHeartbeats 4000000
namespace Dn
open PySem L2 Evl PySem.Spec PyProof.Rows
section
variable {K : PySem.W.Frag} {T : Addr → Prop} {ρ : Env} {σ : L2.St} {H : Hp} {i : Nat} {m m' : MO}
theorem set_get {ρ : Env} {i j : Nat} {x : Option SV} {y : Option SV} (h : (ρ.set i x)[j]? = some y) : (j = i ∧ y = x) ∨ (j ≠ i ∧ ρ[j]? = some y) := by
  by_cases e : j = i
  · subst e
    left
    refine ⟨rfl, ?_⟩
    rw [List.getElem?_set_self (by
      have := (List.getElem?_eq_some_iff.mp h).1
      rwa [List.length_set] at this)] at h
    exact (Option.some.inj h).symm
  · right
    exact ⟨e, by rw [List.getElem?_set_ne (Ne.symm e)] at h; exact h⟩
theorem own_swap (e : ρ[i]? = some (some (.ow m))) (b : Addr) : Own (ρ.set i (some (.ow m'))) σ b ↔ Own ρ σ b := by
  have il := (List.getElem?_eq_some_iff.mp e).1
  constructor
  · rintro ⟨j, m2, h1, h2⟩
    rcases set_get h1 with ⟨rfl, _⟩ | ⟨_, h1⟩
    · exact ⟨j, m, e, h2⟩
    · exact ⟨j, m2, h1, h2⟩
  · rintro ⟨j, m2, h1, h2⟩
    by_cases z : j = i
    · subst z
      exact ⟨j, m', List.getElem?_set_self il, h2⟩
    · exact ⟨j, m2, by rw [List.getElem?_set_ne (Ne.symm z)]; exact h1, h2⟩
theorem hd_swap (e : ρ[i]? = some (some (.ow m))) : Hd T (ρ.set i (some (.ow m'))) σ = Hd T ρ σ := funext fun b => propext (or_congr Iff.rfl (own_swap e b))
theorem RS.swap (r : RS K T ρ σ H) (e : ρ[i]? = some (some (.ow m))) (h : ∀ G o, RpO K G m o → RpO K G m' o) (tg : ∀ p m2 a, m' = .par p m2 → σ[i]? = some (some (V.ref a)) → a = p) : RS K T (ρ.set i (some (.ow m'))) σ H := by
  have hh : hide (Hd T (ρ.set i (some (.ow m'))) σ) H = hide (Hd T ρ σ) H := by rw [hd_swap e]
  refine ⟨by rw [List.length_set]; exact r.len, fun j d q => ?_, fun j m2 q => ?_, fun j k m1 m2 a q1 q2 q3 q4 => ?_, fun a t w => r.dis a t ((own_swap e a).1 w), r.dom, fun j p m2 a q1 q2 => ?_, r.tb⟩
  · rcases set_get q with ⟨_, z⟩ | ⟨_, q⟩
    · cases z
    · rw [hh]; exact r.im j d q
  · rw [hh]
    rcases set_get q with ⟨rfl, z⟩ | ⟨_, q⟩
    · cases z
      obtain ⟨a, o, h1, h2, h3⟩ := r.ow _ _ e
      exact ⟨a, o, h1, h2, h _ _ h3⟩
    · exact r.ow j m2 q
  · have f : ∀ {j : Nat} {m1 : MO}, (ρ.set i (some (SV.ow m')))[j]? = some (some (SV.ow m1)) → ∃ m3, ρ[j]? = some (some (SV.ow m3)) := fun q => by
      rcases set_get q with ⟨rfl, _⟩ | ⟨_, q⟩
      · exact ⟨m, e⟩
      · exact ⟨_, q⟩
    obtain ⟨_, w1⟩ := f q1
    obtain ⟨_, w2⟩ := f q2
    exact r.inj j k _ _ a w1 w2 q3 q4
  · rcases set_get q1 with ⟨rfl, z⟩ | ⟨_, q1⟩
    · cases z
      exact tg _ _ _ rfl q2
    · exact r.tag j p m2 a q1 q2
theorem Po.swap (e : ρ[i]? = some (some (.ow m))) : Po ρ σ H (ρ.set i (some (.ow m'))) σ H :=
  ⟨fun _ _ _ h _ => h, fun a w => .inl ((own_swap e a).1 w), fun _ h => h⟩
end
def wpForO (i : Nat) (a : Addr) (ns : List Int) (g : DG) (f : DS) (E : DEnds) : List Int → Env → Prop
  | [], ρ => ρ[i]? = some (some (.ow (.par a (.lst (ns.map PyData.int))))) ∧ E.nx (ρ.set i (some (.ow (.lst (ns.map PyData.int)))))
  | x :: l, ρ => ρ[i]? = some (some (.ow (.par a (.lst (ns.map PyData.int))))) ∧ g (.int x) ρ fun ρ1 => f { nx := fun ρ2 => wpForO i a ns g f E l ρ2, rt := E.rt } ρ1
def sForO (i : Nat) (g : DG) (f : DS) : DS := fun E ρ => ∃ ns : List Int, ρ[i]? = some (some (.ow (.lst (ns.map PyData.int)))) ∧ ∀ a, wpForO i a ns g f E ns (ρ.set i (some (.ow (.par a (.lst (ns.map PyData.int))))))
section
variable {X : Cx} {pos px : Pos} {x : Str}
theorem js_forO {i : Nat} {tg : Expr} {body : List Stmt} {g : DG} {vs : List Nat} {f : DS} (hc : X.calm = true) (hN : X.N[i]? = some x) (hv : Vis X.env.scope x) (hg : JG X tg vs g) (hb : JSs X body f) (hd : (x == ("__debug__" : Str)) = false := by decide) (hcd : (x == ("__classdict__" : Str)) = false := by decide)
    (hp : PassesOwn (model X.prog X.w) X.A X.env X.xe := by first | exact PassesOwn.never | exact passes_of rfl | assumption) (hs : ∀ y, foldedSetIterable (Expr.Name x px) X.env y = pure y := by intro _; rfl) : JS X (.For tg (.Name x px) body [] pos) (sForO i g f) := by
  obtain ⟨tg', pg, kg⟩ := hg.ex
  obtain ⟨tb, pb, kb⟩ := hb.ex
  refine ⟨_, ps_for hp hc (pi_list (pe_var hN hv hd hcd)) pg pb hs, fun T ρ σ H E D r h k => ?_⟩
  obtain ⟨ns, e, h⟩ := h
  obtain ⟨a, o, hσ, ho, hr⟩ := r.ow i _ e
  obtain ⟨xs, rfl⟩ : ∃ xs, o = .lst xs := by
    cases o with
    | lst xs => exact ⟨xs, rfl⟩
    | _ => exact hr.elim
  obtain rfl : xs = ns.map V.int := RpAll.of_ints hr
  have r0 := r.swap (m' := .par a (.lst (ns.map PyData.int))) e (fun _ _ h => h) (fun p m2 b z w => by cases z; rw [hσ] at w; cases w; rfl)
  have p0 : Po ρ σ H (ρ.set i (some (.ow (.par a (.lst (ns.map PyData.int)))))) σ H := .swap e
  -- the list stands as long as the slot tells it
  have std : ∀ {ρ' : Env} {σ' : L2.St} {H' : Hp}, RS X.K T ρ' σ' H' → ρ'[i]? = some (some (.ow (.par a (.lst (ns.map PyData.int))))) → H' a = some (.lst (ns.map V.int)) ∧ σ'[i]? = some (some (V.ref a)) := fun {ρ' σ' H'} r' e' => by
    obtain ⟨b, o, h1, h2, h3⟩ := r'.ow i _ e'
    obtain rfl := r'.tag i _ _ _ e' h1
    cases o with
    | lst xs =>
      obtain rfl : xs = ns.map V.int := RpAll.of_ints h3
      exact ⟨h2, h1⟩
    | _ => exact (show False from h3).elim
  have sq : ∀ {H' : Hp} {xs : List V}, H' a = some (.lst (ns.map V.int)) → SqL X.K H' a xs → xs = ns.map V.int ∨ True := fun _ _ => .inr trivial
  refine ⟨_, hσ, a, rfl, ⟨_, .inl (.inl ho)⟩, ?_⟩
  refine ⟨fun n m σ' H' => n ≤ ns.length ∧ m = ns.length - n ∧ ∃ ρ', RS X.K T ρ' σ' H' ∧ Po ρ σ H ρ' σ' H' ∧ wpForO i a ns g f E (ns.drop n) ρ', ⟨ns.length, Nat.zero_le _, rfl, _, r0, p0, h a⟩, ?_⟩
  rintro n m σ' H' ⟨hi, rfl, ρ', r', p', h⟩
  by_cases hl : n < ns.length
  · rw [List.drop_eq_getElem_cons hl] at h
    obtain ⟨e', h⟩ := h
    obtain ⟨hL, _⟩ := std r' e'
    have sl : SqL X.K H' a (ns.map V.int) := .inl (.inl hL)
    refine .inr ⟨⟨_, .int ns[n], sl, by rw [List.getElem?_map, List.getElem?_eq_getElem hl]; rfl⟩, fun σ2 H2 => ∃ ρ2, RS X.K T ρ2 σ2 H2 ∧ Po ρ σ H ρ2 σ2 H2 ∧ wpForO i a ns g f E (ns.drop (n + 1)) ρ2, fun σ2 H2 ⟨ρ2, a1, a2, a3⟩ => ⟨ns.length - (n + 1), by omega, by omega, rfl, ρ2, a1, a2, a3⟩, fun v H2 hy => ?_⟩
    obtain ⟨rfl, hy⟩ := hy
    have := hy _ sl
    rw [List.getElem?_map, List.getElem?_eq_getElem hl] at this
    obtain rfl : v = V.int ns[n] := (Option.some.inj this).symm
    refine kg T ρ' σ' H2 _ _ _ _ r' (.int ns[n]) h fun ρ3 σ3 r3 p3 _ h => ?_
    exact kb T ρ3 σ3 H2 _ _ r3 h ⟨fun ρ4 σ4 H4 r4 p4 h => ⟨ρ4, r4, (p'.trans p3).trans p4, h⟩, fun d ρ4 σ4 v4 H4 r4 p4 v5 h => k.rt d ρ4 σ4 v4 H4 r4 ((p'.trans p3).trans p4) v5 h, fun _ _ _ _ _ h => h.elim, fun _ _ _ _ _ h => h.elim, fun _ _ _ _ _ _ _ h => h.elim⟩
  · have en : n = ns.length := by omega
    subst en
    rw [List.drop_length] at h
    obtain ⟨e', h⟩ := h
    obtain ⟨hL, _⟩ := std r' e'
    refine .inl ⟨⟨_, .inl (.inl hL), by rw [List.length_map]; exact Nat.le_refl _⟩, ?_⟩
    have r2 := r'.swap (m' := .lst (ns.map PyData.int)) e' (fun _ _ h => h) (fun p m2 b z w => nomatch z)
    exact k.nx _ _ _ r2 (p'.trans (.swap e')) h
end
end Dn
set_option Elab.async false
set_option linter.all false
set_option maxRecDepth 100000
set_option autoImplicit false
set_option maxHeartbeats 4000000
namespace Dn.T.G.K07
open PySem L2 Evl PySem.Spec PyProof.Rows
abbrev RgF (n : Nat) (s : F1) : Prop := ∀ x y, In n x → In n y → In n (s x y)
inductive Cl (g : F1) (u : Int) (ts : List Int) : Int → Prop
  | o : Cl g u ts u
  | s {a t : Int} : Cl g u ts a → t ∈ ts → Cl g u ts (g a t)
open Classical in
noncomputable def clS (n : Nat) (g : F1) (u : Int) (ts : List Int) : List Int := (rgI n).filter fun a => decide (Cl g u ts a)
def nrmB (n : Nat) (g : F1) (u : Int) (p : List Int) : Bool := (rgI n).all fun a => p.all fun k => decide (g (g a k) (im (bkL n g u) a) ∈ p)
noncomputable def whlB (n : Nat) (g : F1) (u : Int) (p : List Int) : Bool := decide (clS n g u p = p) && nrmB n g u p
def Lt (n : Nat) (p : List Int) : Prop := Wd n p ∧ p.Pairwise (· < ·)
def S_is_lot (ds : List D) (Q : D → Prop) : Prop := ∃ (n : Nat) (p : List Int), ds = [tI p, .int n] ∧ n ≤ 24 ∧ Lt n p ∧ Q (.bool true)
def S_check_lot (ds : List D) (Q : D → Prop) : Prop := ∃ (n : Nat) (p : List Int), ds = [tI p, .int n] ∧ n ≤ 24 ∧ Lt n p ∧ Q .none
def S_least_part (ds : List D) (Q : D → Prop) : Prop := ∃ n g u ts, ds = [tR (tab n g), .int u, tI ts] ∧ n ≤ 24 ∧ RgF n g ∧ In n u ∧ Wd n ts ∧ ts.length ≤ 1000 ∧ Q (tI (clS n g u ts))
def S_Group__closure (ds : List D) (Q : D → Prop) : Prop := ∃ n g u p, ds = [grpD n g u, tI p] ∧ G24 n g u ∧ Lt n p ∧ Q (tI (clS n g u p))
def S_Group__is_whole (ds : List D) (Q : D → Prop) : Prop := ∃ n g u p, ds = [grpD n g u, tI p] ∧ G24 n g u ∧ Lt n p ∧ Q (.bool (whlB n g u p))
def S__law_made_closed (ds : List D) (Q : D → Prop) : Prop := ∃ n g u ts, ds = [tR (tab n g), tI ts] ∧ G24 n g u ∧ Wd n ts ∧ ts.length ≤ 100 ∧ Q (tI (clS n g u ts))
def S__law_is_whole_part (ds : List D) (Q : D → Prop) : Prop := ∃ n g u p, ds = [tR (tab n g), tI p] ∧ G24 n g u ∧ Wd n p ∧ p.length ≤ 100 ∧ Q (.bool (nrmB n g u p))
def Prt (n : Nat) (g : F1) (u : Int) (p : List Int) : Prop := Lt n p ∧ clS n g u p = p
def S_Group__parts (ds : List D) (Q : D → Prop) : Prop := ∃ n g u, ds = [grpD n g u] ∧ G24 n g u ∧ ∀ L : List (List Int), (L.Pairwise fun a b => SrL.lx b a = false) → L.Nodup → (∀ p, p ∈ L ↔ Prt n g u p) → Q (tR L)
def S__law_group_parts (ds : List D) (Q : D → Prop) : Prop := ∃ n g u, ds = [tR (tab n g)] ∧ G24 n g u ∧ ∀ L : List (List Int), (L.Pairwise fun a b => SrL.lx b a = false) → L.Nodup → (∀ p, p ∈ L ↔ Prt n g u p) → Q (tL L)
def csI (n : Nat) (g : F1) (p : List Int) (a : Int) : List Int := (rgI n).filter fun x => decide (x ∈ p.map (g a))
def S__law_sides (ds : List D) (Q : D → Prop) : Prop := ∃ n g u p, ds = [tR (tab n g), tI p] ∧ G24 n g u ∧ Prt n g u p ∧ ∀ L : List (List Int), (L.Pairwise fun a b => SrL.lx b a = false) → L.Nodup → (∀ q, q ∈ L ↔ ∃ a, In n a ∧ q = csI n g p a) → Q (tL L)
end Dn.T.G.K07
set_option Elab.async false
set_option linter.all false
set_option maxRecDepth 100000
set_option autoImplicit false
set_option maxHeartbeats 4000000
namespace Dn.T.G.K07
open PySem L2 Evl PySem.Spec PyProof.Rows
abbrev N_is_lot : List Str := ["value", "size"]
abbrev P_is_lot : List Str := ["value", "size"]
def g_is_lot : DS := sSeq (sIf (dTOr (dTNot (dTst (dIsi "tuple" (dVar 0)))) (dTNot (dTst (dCallF 3 S_is_row (aCons (dVar 0) (aCons (dCall dLen (aCons (dVar 0) (aNil))) (aCons (dVar 1) (aNil)))))))) (sRet (dC (.bool false))) (sNx)) (sRet (dBin dEq (dVar 0) (dCall dTupOf (aCons (dOfL (lSortSet (dVar 0))) (aNil)))))
abbrev N_check_lot : List Str := ["value", "size"]
abbrev P_check_lot : List Str := ["value", "size"]
def g_check_lot : DS := sIf (dTNot (dTst (dCallF 2 S_is_lot (aCons (dVar 0) (aCons (dVar 1) (aNil)))))) (sNever) (sNx)
abbrev N_least_part : List Str := ["rows", "unit", "things", "found", "reached", "thing", "made"]
abbrev P_least_part : List Str := ["rows", "unit", "things"]
def g_least_part : DS := sSeq (sSet 3 (xOw (lLst (aCons (dVar 1) (aNil))))) (sSeq (sSet 4 (xIm (dC (.int 0)))) (sSeq (sWh (dTst (dBin dLt (dVar 4) (dCallO 3 dLen))) (sSeq (sFor (iSq (dVar 2)) (gNm 5) (sSeq (sSet 6 (xIm (dBin dIx (dBin dIx (dVar 0) (dIxP 3 (dVar 4))) (dVar 5)))) (sIf (dTst (dBinR 3 (dIn true) (dVar 6))) (sEx (dApp 3 (dVar 6))) (sNx)))) (sAugI 4 (dC (.int 1))))) (sRet (dCall dTupOf (aCons (dOfL (lSort (dVarF 3))) (aNil))))))
abbrev N_Group__closure : List Str := ["self", "things"]
abbrev P_Group__closure : List Str := ["self", "things"]
def g_Group__closure : DS := sSeq (sEx (dCallF 2 S_check_lot (aCons (dVar 1) (aCons (dCall dLen (aCons (dFld "Group" "_rows" (dVar 0)) (aNil))) (aNil))))) (sRet (dCallF 3 S_least_part (aCons (dFld "Group" "_rows" (dVar 0)) (aCons (dFld "Group" "_unit" (dVar 0)) (aCons (dVar 1) (aNil))))))
abbrev N_Group__is_whole : List Str := ["self", "things", "thing", "row", "member"]
abbrev P_Group__is_whole : List Str := ["self", "things"]
def g_Group__is_whole : DS := sSeq (sEx (dCallF 2 S_check_lot (aCons (dVar 1) (aCons (dCall dLen (aCons (dFld "Group" "_rows" (dVar 0)) (aNil))) (aNil))))) (sSeq (sIf (dTst (dBin dNe (dCallF 3 S_least_part (aCons (dFld "Group" "_rows" (dVar 0)) (aCons (dFld "Group" "_unit" (dVar 0)) (aCons (dVar 1) (aNil))))) (dVar 1))) (sRet (dC (.bool false))) (sNx)) (sSeq (sFor (iEn (dFld "Group" "_rows" (dVar 0))) (gTp 2 (gsCons (gNm 2) (gsCons (gNm 3) (gsNil)))) (sFor (iSq (dVar 1)) (gNm 4) (sIf (dTst (dBin (dIn true) (dBin dIx (dBin dIx (dFld "Group" "_rows" (dVar 0)) (dBin dIx (dVar 3) (dVar 4))) (dBin dIx (dFld "Group" "_backs" (dVar 0)) (dVar 2))) (dVar 1))) (sRet (dC (.bool false))) (sNx)))) (sRet (dC (.bool true)))))
abbrev N__law_made_closed : List Str := ["_law_rows", "_law_things", "_law_known", "_law_waiting", "_law_thing", "_law_here", "_law_other", "_law_made"]
abbrev P__law_made_closed : List Str := ["_law_rows", "_law_things"]
def g__law_made_closed : DS := sSeq (sSet 2 (xDctI (lLst (aCons (dTup (aCons (dCallF 1 S__law_unit (aCons (dVar 0) (aNil))) (aCons (dC (.bool true)) (aNil)))) (aNil))))) (sSeq (sSet 3 (xOw (lLc (iSq (dVar 1)) (gNm 4) (dTst (dInK true 2 (dVar 4))) (dVar 4) [4]))) (sSeq (sForO 3 (gNm 4) (sPutK 2 (dVar 4) (dC (.bool true)))) (sSeq (sWh (dTst (dBinO 3 dNe (dOfL (lLst (aNil))))) (sSeq (sSet 5 (xIm (dPop 3))) (sFor (iSq (dOfL (lKeysK 2))) (gNm 6) (sFor (iSq (dTup (aCons (dBin dIx (dBin dIx (dVar 0) (dVar 5)) (dVar 6)) (aCons (dBin dIx (dBin dIx (dVar 0) (dVar 6)) (dVar 5)) (aNil))))) (gNm 7) (sIf (dTst (dInK true 2 (dVar 7))) (sSeq (sPutK 2 (dVar 7) (dC (.bool true))) (sEx (dApp 3 (dVar 7)))) (sNx)))))) (sRet (dCall dTupOf (aCons (dOfL (lSortK 2)) (aNil)))))))
abbrev N__law_is_whole_part : List Str := ["_law_rows", "_law_part", "_law_a", "_law_back", "_law_k"]
abbrev P__law_is_whole_part : List Str := ["_law_rows", "_law_part"]
def g__law_is_whole_part : DS := sSeq (sFor (iR1 (dCall dLen (aCons (dVar 0) (aNil)))) (gNm 2) (sSeq (sSet 3 (xIm (dCallF 2 S__law_inverse (aCons (dVar 0) (aCons (dVar 2) (aNil)))))) (sIf (dTNot (dTst (dCall dAll (aCons (dOfL (lLc (iSq (dVar 1)) (gNm 4) (dYes) (dBin (dIn false) (dBin dIx (dBin dIx (dVar 0) (dBin dIx (dBin dIx (dVar 0) (dVar 2)) (dVar 4))) (dVar 3)) (dVar 1)) [4])) (aNil))))) (sRet (dC (.bool false))) (sNx)))) (sRet (dC (.bool true)))
abbrev N_Group__parts : List Str := ["self", "found", "seen", "reached", "thing", "part"]
abbrev P_Group__parts : List Str := ["self"]
def g_Group__parts : DS := sSeq (sSet 1 (xOw (lLst (aCons (dTup (aCons (dFld "Group" "_unit" (dVar 0)) (aNil))) (aNil))))) (sSeq (sSet 2 (xDctT1 (dIxP 1 (dC (.int 0))) (dC (.bool true)))) (sSeq (sSet 3 (xIm (dC (.int 0)))) (sSeq (sWh (dTst (dBin dLt (dVar 3) (dCallO 1 dLen))) (sSeq (sFor (iR1 (dCall dLen (aCons (dFld "Group" "_rows" (dVar 0)) (aNil)))) (gNm 4) (sSeq (sSet 5 (xIm (dCallF 3 S_least_part (aCons (dFld "Group" "_rows" (dVar 0)) (aCons (dFld "Group" "_unit" (dVar 0)) (aCons (dBin dAdd (dIxP 1 (dVar 3)) (dTup (aCons (dVar 4) (aNil)))) (aNil))))))) (sIf (dTst (dInT true 2 (dVar 5))) (sSeq (sPutT 2 (dVar 5) (dC (.bool true))) (sEx (dApp 1 (dVar 5)))) (sNx)))) (sAugI 3 (dC (.int 1))))) (sRet (dCall dTupOf (aCons (dOfL (lSortT (dVarF 1))) (aNil)))))))
abbrev N__law_group_parts : List Str := ["_law_rows", "_law_first", "_law_known", "_law_waiting", "_law_here", "_law_thing", "_law_made"]
abbrev P__law_group_parts : List Str := ["_law_rows"]
def g__law_group_parts : DS := sSeq (sSet 1 (xIm (dCallF 2 S__law_made_closed (aCons (dVar 0) (aCons (dTup (aNil)) (aNil)))))) (sSeq (sPar 2 3 (xDctOf (lLst (aCons (dTup (aCons (dVar 1) (aCons (dC (.bool true)) (aNil)))) (aNil)))) (xOw (lLst (aCons (dVar 1) (aNil))))) (sSeq (sWh (dTst (dBinO 3 dNe (dOfL (lLst (aNil))))) (sSeq (sSet 4 (xIm (dPop 3))) (sFor (iR1 (dCall dLen (aCons (dVar 0) (aNil)))) (gNm 5) (sIf (dTst (dBin (dIn true) (dVar 5) (dVar 4))) (sSeq (sSet 6 (xIm (dCallF 2 S__law_made_closed (aCons (dVar 0) (aCons (dBin dAdd (dVar 4) (dTup (aCons (dVar 5) (aNil)))) (aNil)))))) (sIf (dTst (dInT true 2 (dVar 6))) (sSeq (sPutT 2 (dVar 6) (dC (.bool true))) (sEx (dApp 3 (dVar 6)))) (sNx))) (sNx))))) (sRet (dOfL ((fun ρ Q => (∃ kvs, atT ρ 2 = some kvs ∧ kvs.length ≤ sizeLine) ∧ lSortDT 2 ρ Q))))))
abbrev N__law_sides : List Str := ["_law_rows", "_law_part", "_law_found", "_law_a", "_law_side", "_law_k"]
abbrev P__law_sides : List Str := ["_law_rows", "_law_part"]
def g__law_sides : DS := sSeq (sSet 2 (xOw (lLst (aNil)))) (sSeq (sFor (iR1 (dCall dLen (aCons (dVar 0) (aNil)))) (gNm 3) (sSeq (sSet 4 (xIm (dCall dTupOf (aCons (dOfL (lSort (dOfL (lLc (iSq (dVar 1)) (gNm 5) (dYes) (dBin dIx (dBin dIx (dVar 0) (dVar 3)) (dVar 5)) [5])))) (aNil))))) (sIf (dTst (dBinR 2 (dInL true) (dVar 4))) (sEx (dApp 2 (dVar 4))) (sNx)))) (sRet (dOfL (lSortT (dVarF 2)))))
end Dn.T.G.K07
set_option Elab.async false
set_option linter.all false
set_option maxRecDepth 100000
set_option autoImplicit false
set_option maxHeartbeats 4000000
namespace Dn.T.G.K07
open PySem L2 Evl PySem.Spec PyProof.Rows
local macro_rules | `(tactic| walk_at "dd") => `(tactic| simp only [sSeq, sIf, sSet, sRet, sRetN, sNx, sEx, sAsg, sPar, dTOr, dTAnd, dTNot, dTst, dIsi, dVar, dC, dBin, dChain, dNeg, dI2, dAnd, dOr, dNot, dIfE, dCall, dCallF, aCons, aNil, dTup, lLst, dOfL, xIm, xOw, gNm, gTp, gsCons, gsNil, dYes, envD, dLen_tR, dLen_tI, dLen_tup, dLen_lst, seq_tR, seq_tI, seq_tup, seq_lst, dIs, dIsNot, dNe, dEq, dTupOf, dSl, oNone, oSome, iSq, iEn, iR1, iR2, sFor, lLc, sNever, dTRg, rg1, rg2, lRg, wipeD, isN,
  gTpL, dIxP, sSub, dApp, dPopAt, dExt, dCallM, dCallO, dBinO, dTupO, lOf, lOfO, sRetO, iOw, dVarF, lCat, lCall, dAbs, dMax2, dMin2, dInt, atO, setO, MO.getL, MO.putL, Option.isSome_some,
  dInK, dGetK, dGetD, dInD, dGet1, lKeys, lSort, dLenSet, dLenSetL, dLenSet2, sPar3, dRevT, sPutK, xDct, xDct1, sRetK, atK, keyD, sAugI, dFld, sFldD, xRng, iRgO, dNew, dNewV, dCM, dProp, dMeth, dLenI, dStrO, dEqI, dIsC, dJoin, dJs, dFmt, dCallML, sSubI, gSubW, sWh, dTF, gIx, xProp, dRepU, dKeep2, lSortSet, lSortTu, lDc, dRepT, lRep, dStrI, xDctT1, xDctOf, dInT, sPutT, lSortT2, lSortDT, dPop, dBinR, dKeep, dCallMO, atT, dCallO,
  kit_int, kit_bool, kit_tuple, kit_str, List.map_cons, List.map_nil, List.cons_append, List.nil_append, List.replicate, List.set_cons_zero, List.set_cons_succ, List.getElem?_cons_zero, List.getElem?_cons_succ, List.length_cons, List.length_nil, List.length_map, Nat.reduceAdd, Nat.reduceSub, Bool.not_true, Bool.not_false, Bool.false_eq_true, if_true, if_false, true_and, reduceCtorEq, Bool.true_eq_false, rgD_rgI, Option.some.injEq, exists_eq_left', and_true])
theorem clS_mem {n : Nat} {g : F1} {u : Int} {ts : List Int} {a : Int} : a ∈ clS n g u ts ↔ In n a ∧ Cl g u ts a := by
  unfold clS
  constructor
  · intro h
    obtain ⟨h1, h2⟩ := List.mem_filter.mp h
    exact ⟨In.mem.1 h1, by simpa using h2⟩
  · exact fun h => List.mem_filter.mpr ⟨In.mem.2 h.1, by simpa using h.2⟩
theorem any_int {l : List Int} {u : Int} : ((l.map PyData.int).any fun z => PyData.eqv z (.int u)) = decide (u ∈ l) := by
  induction l with
  | nil => rfl
  | cons y l ih =>
    rw [List.map_cons, List.any_cons, ih, eqv_int, Bool.eq_iff_iff]
    simp only [Bool.or_eq_true, decide_eq_true_eq, List.mem_cons]
    exact ⟨fun h => h.imp Eq.symm id, fun h => h.imp Eq.symm id⟩
theorem tab_tI {n : Nat} {w : F1} : (tab n w).map tI = (rgI n).map fun x => tI ((rgI n).map (w x)) := by unfold tab; rw [List.map_map]; rfl
theorem rgI_lt (n : Nat) : (rgI n).Pairwise (· < ·) := by
  unfold rgI
  rw [List.pairwise_map]
  exact List.Pairwise.imp (fun h => by omega) List.pairwise_lt_range
theorem clS_lt (n : Nat) (g : F1) (u : Int) (ts : List Int) : Lt n (clS n g u ts) := ⟨fun a h => (clS_mem.1 h).1, (rgI_lt n).sublist List.filter_sublist⟩
theorem inc_ext' : ∀ {a b : List Int}, a.Pairwise (· < ·) → b.Pairwise (· < ·) → (∀ k, k ∈ a ↔ k ∈ b) → a = b
  | [], [], _, _, _ => rfl
  | [], y :: b, _, _, h => absurd ((h y).2 (by simp)) (by simp)
  | x :: a, [], _, _, h => absurd ((h x).1 (by simp)) (by simp)
  | x :: a, y :: b, p, q, h => by
    rw [List.pairwise_cons] at p q
    have e : x = y := by
      rcases List.mem_cons.mp ((h x).1 (by simp)) with e | e
      · exact e
      · rcases List.mem_cons.mp ((h y).2 (by simp)) with e' | e'
        · exact e'.symm
        · have := q.1 x e; have := p.1 y e'; omega
    subst e
    rw [inc_ext' (a := a) (b := b) p.2 q.2 fun k => ?_]
    constructor
    · intro w
      rcases List.mem_cons.mp ((h k).1 (by simp [w])) with e | e
      · exact absurd (p.1 k w) (by omega)
      · exact e
    · intro w
      rcases List.mem_cons.mp ((h k).2 (by simp [w])) with e | e
      · exact absurd (q.1 k w) (by omega)
      · exact e
theorem lt_of_le_nd {l : List Int} (h : l.Pairwise (· ≤ ·)) (nd : l.Nodup) : l.Pairwise (· < ·) := by
  refine List.Pairwise.imp₂ (fun a b h1 h2 => ?_) h nd
  have h2 : a ≠ b := h2
  omega
theorem few_in {n : Nat} {l : List Int} (nd : l.Nodup) (h : ∀ a, a ∈ l → In n a) : l.length ≤ n := by
  have := List.Nodup.length_le_of_subset nd (l₂ := rgI n) fun a ha => In.mem.2 (h a ha)
  rwa [rgI_len] at this
theorem v_is_lot : VD g_is_lot S_is_lot 2 0 := fun ds Q _ h => by
  obtain ⟨n, p, rfl, hn, hp, h⟩ := h
  have nd : p.Nodup := List.Pairwise.imp (fun h => by omega) hp.2
  have pl := few_in nd hp.1
  unfold g_is_lot
  walk_at "dd"
  show if (!true) = true then _ else _
  rw [if_neg (by decide)]
  refine ⟨_, _, _, rfl, fun xs e => by cases e; simp; omega, by omega, ?_⟩
  rw [isRow_ints rfl (fun x hx => hp.1 x hx) (by omega)]
  show if (!true) = true then _ else _
  rw [if_neg (by decide)]
  try unfold lSortSet
  refine ⟨p, rfl, by omega, fun ms m1 m2 => ?_⟩
  obtain rfl : ms = p := inc_ext' m1 hp.2 m2
  refine ⟨shaped_tI ms, shaped_tI ms, ?_⟩
  rw [show PyData.eqv (tI ms) (.tuple (ms.map PyData.int)) = true from by
    have := eqv_tI ms ms
    rw [decide_eq_true rfl] at this
    exact this]
  exact h
theorem v_check_lot : VD g_check_lot S_check_lot 2 0 := fun ds Q _ h => by
  obtain ⟨n, p, rfl, hn, hp, h⟩ := h
  unfold g_check_lot
  walk_at "dd"
  exact ⟨n, p, rfl, hn, hp, h⟩
theorem v_least_part : VD g_least_part S_least_part 3 4 := fun ds Q _ h => by
  obtain ⟨n, g, u, ts, rfl, hn, hg, hu, ht, tl, h⟩ := h
  unfold g_least_part
  walk_at "dd"
  refine ⟨by decide, ?_⟩
  refine wpWh_lt (β := List Int × Nat) (fun b ρ => ∃ x5 x6, ρ = [some (.im (tR (tab n g))), some (.im (.int u)), some (.im (tI ts)), some (.ow (.lst (b.1.map PyData.int))), some (.im (.int (b.2 : Int))), x5, x6] ∧ b.1.Nodup ∧ (∀ a, a ∈ b.1 → In n a ∧ Cl g u ts a) ∧ u ∈ b.1 ∧ b.2 ≤ b.1.length ∧ ∀ j, j < b.2 → ∀ t, t ∈ ts → g (b.1.getD j 0) t ∈ b.1) (fun b => n - b.2) (fun b ρ K p k => ?_) (b := ([u], 0)) ⟨_, _, rfl, by simp, fun a ha => by rw [List.mem_singleton.mp ha]; exact ⟨hu, .o⟩, by simp, by simp, fun j hj => absurd hj (by omega)⟩
  obtain ⟨F, r⟩ := b
  obtain ⟨x5, x6, rfl, nd, good, uF, rl, cl⟩ := p
  dsimp only at nd good uF rl cl k ⊢
  have fl := few_in nd fun a ha => (good a ha).1
  walk_at "dd"
  refine ⟨rfl, ite_ways (fun e => ?_) (fun e => ?_)⟩
  · have rlt : r < F.length := by simpa using e
    have hr := (good _ (by rw [List.getD_eq_getElem?_getD, List.getElem?_eq_getElem rlt]; exact List.getElem_mem rlt : F.getD r 0 ∈ F))
    refine wpFor_pre ts PyData.int (fun l1 ρ => ∃ F' x5 x6, ρ = [some (.im (tR (tab n g))), some (.im (.int u)), some (.im (tI ts)), some (.ow (.lst ((F ++ F').map PyData.int))), some (.im (.int (r : Int))), x5, x6] ∧ (F ++ F').Nodup ∧ (∀ a, a ∈ F ++ F' → In n a ∧ Cl g u ts a) ∧ ∀ t, t ∈ l1 → g (F.getD r 0) t ∈ F ++ F') ⟨[], x5, x6, by rw [List.append_nil], by rw [List.append_nil]; exact nd, by rw [List.append_nil]; exact good, fun t h => nomatch h⟩ (fun l1 t l2 el ρ K2 p k2 => ?_) (fun ρ p => ?_)
    · obtain ⟨F', y5, y6, rfl, nd', good', dn⟩ := p
      have tin : t ∈ ts := by rw [el]; simp
      have ht' := ht t tin
      have fl' := few_in nd' fun a ha => (good' a ha).1
      have gD : (F ++ F').getD r 0 = F.getD r 0 := by
        rw [List.getD_eq_getElem?_getD, List.getD_eq_getElem?_getD, List.getElem?_append_left rlt]
      try walk_at "dd"
      refine ⟨_, _, _, rfl, rfl, atI_w (i := r) (by rw [List.length_append]; omega), ?_⟩
      rw [gD]
      refine ixTR hr.1 (ixY ht' ?_)
      refine ⟨_, rfl, rfl, all_sc _, ?_⟩
      dsimp only
      rw [if_pos rfl, any_int]
      refine ⟨rfl, ite_ways (fun e4 => ?_) (fun e4 => ?_)⟩
      · have nin : g (F.getD r 0) t ∉ F ++ F' := fun z => by rw [decide_eq_true z] at e4; cases e4
        refine ⟨by omega, k2 _ ⟨F' ++ [g (F.getD r 0) t], _, _, by rw [← List.append_assoc, List.map_append (l₁ := F ++ F')]; rfl, ?_, fun a ha => ?_, fun s hs => ?_⟩⟩
        · rw [← List.append_assoc, List.nodup_append]
          refine ⟨nd', by simp, fun a ha b hb e => nin ?_⟩
          rw [List.mem_singleton.mp hb] at e
          exact e ▸ ha
        · rw [← List.append_assoc] at ha
          rcases List.mem_append.mp ha with ha | ha
          · exact good' a ha
          · rw [List.mem_singleton.mp ha]
            exact ⟨hg _ _ hr.1 ht', .s hr.2 tin⟩
        · rw [← List.append_assoc]
          rcases List.mem_append.mp hs with hs | hs
          · exact List.mem_append_left _ (dn s hs)
          · rw [List.mem_singleton.mp hs]; simp
      · have inn : g (F.getD r 0) t ∈ F ++ F' := by
          by_cases z : g (F.getD r 0) t ∈ F ++ F'
          · exact z
          · rw [decide_eq_false z] at e4; cases e4
        exact k2 _ ⟨F', _, _, rfl, nd', good', fun s hs => by
          rcases List.mem_append.mp hs with hs | hs
          · exact dn s hs
          · rw [List.mem_singleton.mp hs]; exact inn⟩
    · obtain ⟨F', y5, y6, rfl, nd', good', dn⟩ := p
      try walk_at "dd"
      refine k (F ++ F', r + 1) _ (by show n - (r + 1) < n - r; omega) ⟨_, _, rfl, nd', good', List.mem_append_left _ uF, by rw [List.length_append]; show r + 1 ≤ _; omega, fun j hj t ht2 => ?_⟩
      dsimp only at hj ⊢
      by_cases z : j = r
      · subst z
        rw [List.getD_eq_getElem?_getD, List.getElem?_append_left rlt, ← List.getD_eq_getElem?_getD]
        exact dn t ht2
      · have jl : j < F.length := by omega
        rw [List.getD_eq_getElem?_getD, List.getElem?_append_left jl, ← List.getD_eq_getElem?_getD]
        exact List.mem_append_left _ (cl j (by omega) t ht2)
  · have re : r = F.length := by have : ¬ r < F.length := by simpa using e
                                 omega
    refine ⟨F, rfl, ⟨_, rfl⟩, fun ns p s => ?_⟩
    have all : ∀ a, Cl g u ts a → a ∈ F := by
      intro a ha
      induction ha with
      | o => exact uF
      | @s a t _ ht2 ih =>
        obtain ⟨j, hj⟩ := List.mem_iff_getElem?.mp ih
        have jl := (List.getElem?_eq_some_iff.mp hj).1
        have := cl j (by omega) t ht2
        rw [List.getD_eq_getElem?_getD, hj] at this
        exact this
    have e2 : ns = clS n g u ts := inc_ext' (lt_of_le_nd s (p.nodup_iff.2 nd)) (clS_lt n g u ts).2 fun a => by
      rw [p.mem_iff, clS_mem]
      exact ⟨fun h => good a h, fun h => all a h.2⟩
    rw [e2]
    exact h
theorem bkL_len (n : Nat) (g : F1) (u : Int) : (bkL n g u).length = n := by unfold bkL; rw [List.length_map, rgI_len]
theorem bk_is {n : Nat} {g : F1} {u : Int} (hg : Gr n g u) {a : Int} (ha : In n a) : In n (im (bkL n g u) a) ∧ g a (im (bkL n g u) a) = u ∧ g (im (bkL n g u) a) a = u := by
  obtain ⟨b, e, hb, e1, e2⟩ := back_g hg ha
  have : im (bkL n g u) a = b := by
    unfold bkL
    rw [im_map ha.1 ha.2, e]
    rfl
  rw [this]
  exact ⟨hb, e1, e2⟩
theorem bk_in {n : Nat} {g : F1} {u : Int} (hg : Gr n g u) {a : Int} (ha : In n a) : In n (im (bkL n g u) a) := (bk_is hg ha).1
theorem v_Group__closure : VD g_Group__closure S_Group__closure 2 0 := fun ds Q _ h => by
  obtain ⟨n, g, u, p, rfl, hg, hp, h⟩ := h
  have pl := few_in (List.Pairwise.imp (fun h => by omega) hp.2 : p.Nodup) hp.1
  have := hg.2
  unfold g_Group__closure
  walk_at "dd"
  refine ⟨_, _, rfl, rfl, ?_⟩
  rw [dLen_tR, tab_len]
  exact ⟨n, p, rfl, hg.2, hp, _, _, rfl, rfl, _, _, rfl, rfl, n, g, u, p, rfl, hg.2, hg.1.rg, hg.1.un, hp.1, by omega, h⟩
theorem v_Group__is_whole : VD g_Group__is_whole S_Group__is_whole 2 3 := fun ds Q _ h => by
  obtain ⟨n, g, u, p, rfl, hg, hp, h⟩ := h
  have pl := few_in (List.Pairwise.imp (fun h => by omega) hp.2 : p.Nodup) hp.1
  have hn := hg.2
  unfold g_Group__is_whole
  walk_at "dd"
  refine ⟨_, _, rfl, rfl, ?_⟩
  rw [dLen_tR, tab_len]
  refine ⟨n, p, rfl, hg.2, hp, _, _, rfl, rfl, _, _, rfl, rfl, n, g, u, p, rfl, hg.2, hg.1.rg, hg.1.un, hp.1, by omega, shaped_tI _, shaped_tI _, ?_⟩
  rw [eqv_tI]
  unfold whlB at h
  by_cases e : clS n g u p = p
  case neg =>
    rw [decide_eq_false e] at h ⊢
    rw [if_pos (by decide)]
    exact h
  rw [decide_eq_true e] at h ⊢
  rw [if_neg (by decide)]
  rw [Bool.true_and] at h
  refine ⟨_, _, rfl, rfl, _, rfl, ?_⟩
  rw [tab_tI, enD_map (rgI n) (fun x => tI ((rgI n).map (g x))) 0, rgI_len]
  refine wpFor_fs (rgI n) (fun k => .tuple [.int k, tI ((rgI n).map (g ((rgI n).getD k.toNat 0)))]) (fun a => if (p.all fun k => decide (g (g a k) (im (bkL n g u) a) ∈ p)) = true then none else some (PyData.bool false)) (fun ρ => ∃ a b c, ρ = [some (.im (grpD n g u)), some (.im (tI p)), a, b, c]) ⟨_, _, _, rfl⟩ (fun a ha ρ K B hI hq hk => ?_) (fun v hv => ?_) (fun hv ρ hI => ?_)
  · obtain ⟨x, y, z, rfl⟩ := hI
    have ha := In.mem.1 ha
    rw [rg_at ha]
    walk_at "dd"
    refine wpFor_fs p PyData.int (fun k => if g (g a k) (im (bkL n g u) a) ∈ p then none else some (PyData.bool false)) (fun ρ => ∃ c, ρ = [some (.im (grpD n g u)), some (.im (tI p)), some (.im (.int a)), some (.im (tI ((rgI n).map (g a)))), c]) ⟨_, rfl⟩ (fun k hk2 ρ K2 B2 hI2 hq2 hk3 => ?_) (fun v hv => ?_) (fun hv ρ hI2 => ?_)
    · obtain ⟨c, rfl⟩ := hI2
      have hkI := hp.1 k hk2
      have r1 := hg.1.rg a k ha hkI
      try walk_at "dd"
      refine ⟨_, _, rfl, rfl, ixY hkI (ixTR r1 ⟨_, _, rfl, rfl, ?_⟩)⟩
      have bk := bk_in hg.1 ha
      refine ixI ha.1 (by rw [bkL_len]; exact ha.2) ?_
      show dIx _ (.int (im (bkL n g u) a)) _
      refine ixY bk ⟨_, rfl, rfl, all_sc _, ?_⟩
      dsimp only
      rw [if_pos rfl, any_int]
      refine ite_ways (fun e4 => ?_) (fun e4 => ?_)
      · exact hq2 _ (if_neg fun z => by rw [decide_eq_true z] at e4; cases e4)
      · refine hk3 (if_pos ?_) _ ⟨_, rfl⟩
        by_cases z : g (g a k) (im (bkL n g u) a) ∈ p
        · exact z
        · rw [decide_eq_false z] at e4; cases e4
    · obtain ⟨k, hk2, hv⟩ := List.exists_of_findSome?_eq_some hv
      split at hv
      · cases hv
      · rename_i e2
        cases hv
        refine hq _ (if_neg fun w => ?_)
        rw [List.all_eq_true] at w
        exact e2 (of_decide_eq_true (w k hk2))
    · obtain ⟨c, rfl⟩ := hI2
      refine hk (if_pos ?_) _ ⟨_, _, _, rfl⟩
      rw [List.all_eq_true]
      intro k hk2
      rw [List.findSome?_eq_none_iff] at hv
      have := hv k hk2
      split at this
      · exact decide_eq_true (by assumption)
      · cases this
  · obtain ⟨a, ha, hv⟩ := List.exists_of_findSome?_eq_some hv
    split at hv
    · cases hv
    · rename_i e2
      cases hv
      have : nrmB n g u p = false := by
        rw [Bool.eq_false_iff]
        intro w
        unfold nrmB at w
        rw [List.all_eq_true] at w
        exact e2 (w a ha)
      rw [this] at h
      exact h
  · obtain ⟨x, y, z, rfl⟩ := hI
    try walk_at "dd"
    have : nrmB n g u p = true := by
      unfold nrmB
      rw [List.all_eq_true]
      intro a ha
      rw [List.findSome?_eq_none_iff] at hv
      have := hv a ha
      split at this
      · assumption
      · cases this
    rw [this] at h
    exact h
end Dn.T.G.K07
set_option Elab.async false
set_option linter.all false
set_option maxRecDepth 100000
set_option autoImplicit false
set_option maxHeartbeats 4000000
namespace Dn.T.G.K07
open PySem L2 Evl PySem.Spec PyProof.Rows
local macro_rules | `(tactic| walk_at "dd") => `(tactic| simp only [sSeq, sIf, sSet, sRet, sRetN, sNx, sEx, sAsg, sPar, dTOr, dTAnd, dTNot, dTst, dIsi, dVar, dC, dBin, dChain, dNeg, dI2, dAnd, dOr, dNot, dIfE, dCall, dCallF, aCons, aNil, dTup, lLst, dOfL, xIm, xOw, gNm, gTp, gsCons, gsNil, dYes, envD, dLen_tR, dLen_tI, dLen_tup, dLen_lst, seq_tR, seq_tI, seq_tup, seq_lst, dIs, dIsNot, dNe, dEq, dTupOf, dSl, oNone, oSome, iSq, iEn, iR1, iR2, sFor, lLc, sNever, dTRg, rg1, rg2, lRg, wipeD, isN,
  gTpL, dIxP, sSub, dApp, dPopAt, dExt, dCallM, dCallO, dBinO, dTupO, lOf, lOfO, sRetO, iOw, dVarF, lCat, lCall, dAbs, dMax2, dMin2, dInt, atO, setO, MO.getL, MO.putL, Option.isSome_some,
  dInK, dGetK, dGetD, dInD, dGet1, lKeys, lSort, dLenSet, dLenSetL, dLenSet2, sPar3, dRevT, sPutK, xDct, xDct1, sRetK, atK, keyD, sAugI, dFld, sFldD, xRng, iRgO, dNew, dNewV, dCM, dProp, dMeth, dLenI, dStrO, dEqI, dIsC, dJoin, dJs, dFmt, dCallML, sSubI, gSubW, sWh, dTF, gIx, xProp, xDctI, lKeysK, lSortK, sForO, dRepU, dKeep2, lSortSet, lSortTu, lDc, dRepT, lRep, dStrI, xDctT1, xDctOf, dInT, sPutT, lSortT2, lSortDT, dPop, dBinR, dKeep, dCallMO, atT, dCallO,
  kit_int, kit_bool, kit_tuple, kit_str, List.map_cons, List.map_nil, List.cons_append, List.nil_append, List.replicate, List.set_cons_zero, List.set_cons_succ, List.getElem?_cons_zero, List.getElem?_cons_succ, List.length_cons, List.length_nil, List.length_map, Nat.reduceAdd, Nat.reduceSub, Bool.not_true, Bool.not_false, Bool.false_eq_true, if_true, if_false, true_and, reduceCtorEq, Bool.true_eq_false, rgD_rgI, Option.some.injEq, exists_eq_left', and_true])
def kd (l : List Int) : List (Key × D) := l.map fun k => (Sum.inl k, .bool true)
theorem kd_val (l : List Int) (x : Int) : (valD (kd l) (Sum.inl x)).isSome = decide (x ∈ l) := by
  unfold valD kd
  rw [Option.isSome_map, List.isSome_find?, List.any_map, Bool.eq_iff_iff, List.any_eq_true, decide_eq_true_eq]
  constructor
  · rintro ⟨y, hy, e⟩
    have e : (Sum.inl y : Key) = Sum.inl x := of_decide_eq_true e
    cases e
    exact hy
  · exact fun h => ⟨x, h, by show decide ((Sum.inl x : Key) = Sum.inl x) = true; simp⟩
theorem kd_put {l : List Int} {x : Int} (h : x ∉ l) : putD (kd l) (Sum.inl x) (.bool true) = kd (l ++ [x]) := by
  unfold putD
  have : (kd l).any (fun kv => decide (kv.1 = Sum.inl x)) = false := by
    rw [Bool.eq_false_iff]
    intro w
    rw [List.any_eq_true] at w
    obtain ⟨p, hp, e⟩ := w
    unfold kd at hp
    obtain ⟨y, hy, rfl⟩ := List.mem_map.mp hp
    have e : (Sum.inl y : Key) = Sum.inl x := of_decide_eq_true e
    cases e
    exact h hy
  rw [this, if_neg (by decide)]
  unfold kd
  rw [List.map_append]
  rfl
theorem kd_same {l : List Int} {x : Int} (h : x ∈ l) : putD (kd l) (Sum.inl x) (.bool true) = kd l := by
  unfold putD
  have : (kd l).any (fun kv => decide (kv.1 = Sum.inl x)) = true := by
    rw [List.any_eq_true]
    exact ⟨(Sum.inl x, .bool true), List.mem_map.mpr ⟨x, h, rfl⟩, by simp⟩
  rw [this, if_pos rfl]
  unfold kd
  rw [List.map_map]
  refine List.map_congr_left fun y _ => ?_
  show (if (Sum.inl y : Key) = Sum.inl x then _ else _) = _
  split <;> rfl
theorem kd_len (l : List Int) : (kd l).length = l.length := by unfold kd; rw [List.length_map]
theorem kd_keys (l : List Int) : (kd l).map (fun p => keyB p.1) = l.map PyData.int := by unfold kd; rw [List.map_map]; rfl
theorem kd_fst (l : List Int) : (kd l).map (·.1) = l.map Sum.inl := by unfold kd; rw [List.map_map]; rfl
theorem cl_mul {n : Nat} {g : F1} {u : Int} {ts : List Int} (hg : Gr n g u) (ht : Wd n ts) {a : Int} (ha : Cl g u ts a) (na : In n a) : ∀ {b : Int}, Cl g u ts b → In n b ∧ Cl g u ts (g a b) := by
  intro b hb
  induction hb with
  | o => exact ⟨hg.un, by rw [hg.ur a na]; exact ha⟩
  | @s b t _ h ih =>
    refine ⟨hg.rg _ _ ih.1 (ht t h), ?_⟩
    rw [← hg.as a b t na ih.1 (ht t h)]
    exact .s ih.2 h
theorem cl_in {n : Nat} {g : F1} {u : Int} {ts : List Int} (hg : Gr n g u) (ht : Wd n ts) {a : Int} (ha : Cl g u ts a) : In n a := by
  induction ha with
  | o => exact hg.un
  | s _ h ih => exact hg.rg _ _ ih (ht _ h)
theorem cl_one {n : Nat} {g : F1} {u : Int} {ts : List Int} (hg : Gr n g u) (ht : Wd n ts) {t : Int} (h : t ∈ ts) : Cl g u ts t := by
  have := Cl.s (g := g) (u := u) (ts := ts) .o h
  rwa [hg.ul t (ht t h)] at this
structure Ks (n : Nat) (g : F1) (u : Int) (ts : List Int) (K W : List Int) : Prop where
  nd : K.Nodup
  good : ∀ a, a ∈ K → In n a ∧ Cl g u ts a
  sub : ∀ a, a ∈ W → a ∈ K
  one : u ∈ K
  thg : ∀ t, t ∈ ts → t ∈ K
  cl : ∀ a b, a ∈ K → b ∈ K → a ∉ W → b ∉ W → g a b ∈ K
theorem wpForO_pre {i : Nat} {a : Addr} {ns : List Int} {g : DG} {f : DS} {E : DEnds} {ρ0 : Env} (R : List Int → Env → Prop)
    (hs : ∀ l1 x l2, ns = l1 ++ x :: l2 → ∀ (ρ : Env) (K : Env → Prop), R l1 ρ → (∀ ρ', R (l1 ++ [x]) ρ' → K ρ') → ρ[i]? = some (some (.ow (.par a (.lst (ns.map PyData.int))))) ∧ g (.int x) ρ fun ρ1 => f { nx := K, rt := E.rt } ρ1)
    (he : ∀ ρ, R ns ρ → ρ[i]? = some (some (.ow (.par a (.lst (ns.map PyData.int))))) ∧ E.nx (ρ.set i (some (.ow (.lst (ns.map PyData.int)))))) (h0 : R [] ρ0) : wpForO i a ns g f E ns ρ0 := by
  have aux : ∀ (l2 l1 : List Int) (ρ : Env), ns = l1 ++ l2 → R l1 ρ → wpForO i a ns g f E l2 ρ := by
    intro l2
    induction l2 with
    | nil => intro l1 ρ e r; rw [List.append_nil] at e; exact he ρ (e ▸ r)
    | cons x l2 ih => intro l1 ρ e r; exact hs l1 x l2 e ρ _ r fun ρ' r' => ih (l1 ++ [x]) ρ' (by rw [e, List.append_assoc]; rfl) r'
  exact aux ns [] ρ0 rfl h0
theorem v__law_made_closed : VD g__law_made_closed S__law_made_closed 2 6 := fun ds Q _ h => by
  obtain ⟨n, g, u, ts, rfl, hg, ht, tl, h⟩ := h
  have hn := hg.2
  unfold g__law_made_closed
  walk_at "dd"
  refine ⟨n, g, u, rfl, hg, ?_⟩
  try walk_at "dd"
  refine ⟨by decide, by decide, u, .bool true, rfl, ?_⟩
  rw [show [((Sum.inl u : Key), PyData.bool true)] = kd [u] from rfl]
  refine wpLc_filL ts PyData.int PyData.int (fun t => !decide (t ∈ [u])) (by omega) rfl (fun t _ K N hK hN => ?_) ?_
  · try walk_at "dd"
    refine ⟨kd [u], Sum.inl t, rfl, rfl, ?_⟩
    rw [kd_val]
    exact ite_ways (fun z => hK z _ rfl) (fun z => hN z _ rfl)
  obtain ⟨W0, eW⟩ : ∃ W0, W0 = ts.filter fun t => !decide (t ∈ [u]) := ⟨_, rfl⟩
  rw [← eW]
  have wW : ∀ t, t ∈ W0 ↔ t ∈ ts ∧ t ≠ u := fun t => by rw [eW, List.mem_filter]; simp
  refine ⟨W0, rfl, fun ad => ?_⟩
  try walk_at "dd"
  refine wpForO_pre (fun l1 ρ => ∃ Kn x4, ρ = [some (.im (tR (tab n g))), some (.im (tI ts)), some (.ow (.dct (kd Kn))), some (.ow (.par ad (.lst (W0.map PyData.int)))), x4, none, none, none] ∧ Kn.Nodup ∧ u ∈ Kn ∧ (∀ t, t ∈ l1 → t ∈ Kn) ∧ ∀ a, a ∈ Kn → a = u ∨ a ∈ W0) (fun l1 t l2 el ρ K p k => ?_) (fun ρ p => ?_) ⟨[u], none, rfl, by simp, by simp, fun t h => (nomatch h), fun a ha => .inl (List.mem_singleton.mp ha)⟩
  · obtain ⟨Kn, x4, rfl, nd, uK, tK, aK⟩ := p
    have tW : t ∈ W0 := by rw [el]; simp
    have kl := few_in nd fun a ha => by
      rcases aK a ha with rfl | w
      · exact hg.1.un
      · exact ht a ((wW a).1 w).1
    refine ⟨rfl, ?_⟩
    try walk_at "dd"
    refine ⟨kd Kn, Sum.inl t, rfl, rfl, (by rw [kd_len, sizeLine_eq]; omega), ?_⟩
    by_cases z : t ∈ Kn
    · rw [kd_same z]
      exact k _ ⟨Kn, _, rfl, nd, uK, fun s hs => by
        rcases List.mem_append.mp hs with hs | hs
        · exact tK s hs
        · rw [List.mem_singleton.mp hs]; exact z, aK⟩
    · rw [kd_put z]
      refine k _ ⟨Kn ++ [t], _, rfl, ?_, List.mem_append_left _ uK, fun s hs => ?_, fun a ha => ?_⟩
      · rw [List.nodup_append]
        refine ⟨nd, by simp, fun a ha b hb e => z ?_⟩
        rw [List.mem_singleton.mp hb] at e
        exact e ▸ ha
      · rcases List.mem_append.mp hs with hs | hs
        · exact List.mem_append_left _ (tK s hs)
        · rw [List.mem_singleton.mp hs]; simp
      · rcases List.mem_append.mp ha with ha | ha
        · exact aK a ha
        · rw [List.mem_singleton.mp ha]; exact .inr tW
  obtain ⟨Kn, x4, rfl, nd, uK, tK, aK⟩ := p
  refine ⟨rfl, ?_⟩
  try walk_at "dd"
  have ks0 : Ks n g u ts Kn W0 := by
    refine ⟨nd, fun a ha => ?_, tK, uK, fun t w => ?_, fun a b ha hb na nb => ?_⟩
    · rcases aK a ha with rfl | w
      · exact ⟨hg.1.un, .o⟩
      · have := ((wW a).1 w).1
        exact ⟨ht a this, cl_one hg.1 ht this⟩
    · by_cases z : t = u
      · rw [z]; exact uK
      · exact tK t ((wW t).2 ⟨w, z⟩)
    · have ea := (aK a ha).resolve_right na
      have eb := (aK b hb).resolve_right nb
      rw [ea, eb, hg.1.ul u hg.1.un]
      exact uK
  refine wpWh_lt (β := List Int × List Int) (fun b ρ => ∃ x4 x5 x6 x7, ρ = [some (.im (tR (tab n g))), some (.im (tI ts)), some (.ow (.dct (kd b.1))), some (.ow (.lst (b.2.map PyData.int))), x4, x5, x6, x7] ∧ Ks n g u ts b.1 b.2 ∧ b.2.length ≤ 100 + b.1.length) (fun b => 2 * (n - b.1.length) + b.2.length) (fun b ρ K p k => ?_) (b := (Kn, W0)) ⟨_, _, _, _, rfl, ks0, (by show W0.length ≤ _; have := List.length_filter_le (fun t => !decide (t ∈ [u])) ts; rw [← eW] at this; omega)⟩
  clear ks0 aK tK uK nd
  obtain ⟨Kn, W⟩ := b
  obtain ⟨x4, x5, x6, x7, rfl, ks, wl⟩ := p
  dsimp only at ks wl k ⊢
  have kl := few_in ks.nd fun a ha => (ks.good a ha).1
  walk_at "dd"
  refine ⟨⟨_, rfl⟩, by decide, shaped_lI, by decide +kernel, ?_⟩
  rw [eqv_nil]
  refine ⟨rfl, ite_ways (fun e2 => ?_) (fun e2 => ?_)⟩
  · have wn : W ≠ [] := by
      rintro rfl
      simp at e2
    obtain ⟨V0, w, rfl⟩ : ∃ W0 w, W = W0 ++ [w] := ⟨W.dropLast, W.getLast wn, (List.dropLast_concat_getLast wn).symm⟩
    have wK := ks.sub w (by simp)
    have wI := (ks.good w wK).1
    refine ⟨V0.map PyData.int, .int w, by simp, ?_⟩
    try walk_at "dd"
    rw [kd_keys]
    refine wpFor_pre Kn PyData.int (fun l1 ρ => ∃ A x6 x7, ρ = [some (.im (tR (tab n g))), some (.im (tI ts)), some (.ow (.dct (kd (Kn ++ A)))), some (.ow (.lst ((V0 ++ A).map PyData.int))), x4, some (.im (.int w)), x6, x7] ∧ (Kn ++ A).Nodup ∧ (∀ a, a ∈ A → In n a ∧ Cl g u ts a) ∧ ∀ o, o ∈ l1 → g w o ∈ Kn ++ A ∧ g o w ∈ Kn ++ A) ⟨[], x6, x7, by rw [List.append_nil, List.append_nil], by rw [List.append_nil]; exact ks.nd, fun a h => (nomatch h), fun a h => (nomatch h)⟩ (fun l1 o l2 el ρ K2 p k2 => ?_) (fun ρ p => ?_)
    · obtain ⟨A, y6, y7, rfl, nd, gA, dn⟩ := p
      have oK : o ∈ Kn := by rw [el]; simp
      have oI := (ks.good o oK).1
      have wo : In n (g w o) ∧ Cl g u ts (g w o) := ⟨hg.1.rg _ _ wI oI, (cl_mul hg.1 ht (ks.good w wK).2 wI (ks.good o oK).2).2⟩
      have ow' : In n (g o w) ∧ Cl g u ts (g o w) := ⟨hg.1.rg _ _ oI wI, (cl_mul hg.1 ht (ks.good o oK).2 oI (ks.good w wK).2).2⟩
      try walk_at "dd"
      refine ixTR wI (ixY oI (ixTR oI (ixY wI ⟨by decide, ?_⟩)))
      refine wpFor_pre [g w o, g o w] PyData.int (fun l ρ => ∃ B x7, ρ = [some (.im (tR (tab n g))), some (.im (tI ts)), some (.ow (.dct (kd (Kn ++ B)))), some (.ow (.lst ((V0 ++ B).map PyData.int))), x4, some (.im (.int w)), some (.im (.int o)), x7] ∧ (Kn ++ B).Nodup ∧ (∀ a, a ∈ B → In n a ∧ Cl g u ts a) ∧ (∀ a, a ∈ A → a ∈ B) ∧ ∀ m, m ∈ l → m ∈ Kn ++ B) ⟨A, y7, rfl, nd, gA, fun a h => h, fun a h => (nomatch h)⟩ (fun l1' m l2' el' ρ K3 p k3 => ?_) (fun ρ p => ?_)
      · obtain ⟨B, z7, rfl, ndB, gB, AB, dB⟩ := p
        have mI : In n m ∧ Cl g u ts m := by
          have : m ∈ [g w o, g o w] := by rw [el']; simp
          simp only [List.mem_cons, List.not_mem_nil, or_false] at this
          rcases this with rfl | rfl
          · exact wo
          · exact ow'
        have bl := few_in ndB fun a ha => by
          rcases List.mem_append.mp ha with ha | ha
          · exact (ks.good a ha).1
          · exact (gB a ha).1
        have bl2 : (V0 ++ B).length < 16777216 := by
          simp only [List.length_append, List.length_cons, List.length_nil] at wl bl ⊢
          omega
        try walk_at "dd"
        refine ⟨kd (Kn ++ B), Sum.inl m, rfl, rfl, ?_⟩
        rw [kd_val]
        refine ite_ways (fun e4 => ?_) (fun e4 => ?_)
        · have nin : m ∉ Kn ++ B := fun z => by rw [decide_eq_true z] at e4; cases e4
          refine ⟨kd (Kn ++ B), Sum.inl m, rfl, rfl, (by rw [kd_len, sizeLine_eq]; omega), (by omega), ?_⟩
          rw [kd_put nin]
          refine k3 _ ⟨B ++ [m], _, by rw [← List.append_assoc, ← List.append_assoc, List.map_append (l₁ := V0 ++ B)]; rfl, ?_, fun a ha => ?_, fun a ha => List.mem_append_left _ (AB a ha), fun s hs => ?_⟩
          · rw [← List.append_assoc, List.nodup_append]
            refine ⟨ndB, by simp, fun a ha b hb e => nin ?_⟩
            rw [List.mem_singleton.mp hb] at e
            exact e ▸ ha
          · rcases List.mem_append.mp ha with ha | ha
            · exact gB a ha
            · rw [List.mem_singleton.mp ha]; exact mI
          · rw [← List.append_assoc]
            rcases List.mem_append.mp hs with hs | hs
            · exact List.mem_append_left _ (dB s hs)
            · rw [List.mem_singleton.mp hs]; simp
        · have inn : m ∈ Kn ++ B := by
            by_cases z : m ∈ Kn ++ B
            · exact z
            · rw [decide_eq_false z] at e4; cases e4
          exact k3 _ ⟨B, _, rfl, ndB, gB, AB, fun s hs => by
            rcases List.mem_append.mp hs with hs | hs
            · exact dB s hs
            · rw [List.mem_singleton.mp hs]; exact inn⟩
      · obtain ⟨B, z7, rfl, ndB, gB, AB, dB⟩ := p
        refine k2 _ ⟨B, _, _, rfl, ndB, gB, fun s hs => ?_⟩
        rcases List.mem_append.mp hs with hs | hs
        · have up : ∀ {a : Int}, a ∈ Kn ++ A → a ∈ Kn ++ B := fun ha => by
            rcases List.mem_append.mp ha with ha | ha
            · exact List.mem_append_left _ ha
            · exact List.mem_append_right _ (AB _ ha)
          exact ⟨up (dn s hs).1, up (dn s hs).2⟩
        · rw [List.mem_singleton.mp hs]
          exact ⟨dB _ (by simp), dB _ (by simp)⟩
    · obtain ⟨A, y6, y7, rfl, nd, gA, dn⟩ := p
      have al := few_in nd fun a ha => by
        rcases List.mem_append.mp ha with ha | ha
        · exact (ks.good a ha).1
        · exact (gA a ha).1
      try walk_at "dd"
      refine k (Kn ++ A, V0 ++ A) _ (by
        show 2 * (n - (Kn ++ A).length) + (V0 ++ A).length < 2 * (n - Kn.length) + (V0 ++ [w]).length
        rw [List.length_append] at al
        simp only [List.length_append, List.length_cons, List.length_nil]
        omega) ⟨_, _, _, _, rfl, ⟨nd, fun a ha => ?_, fun a ha => ?_, List.mem_append_left _ ks.one, fun t w => List.mem_append_left _ (ks.thg t w), fun a b ha hb na nb => ?_⟩, (by
        show (V0 ++ A).length ≤ 100 + (Kn ++ A).length
        simp only [List.length_append, List.length_cons, List.length_nil] at wl ⊢
        omega)⟩
      · rcases List.mem_append.mp ha with ha | ha
        · exact ks.good a ha
        · exact gA a ha
      · rcases List.mem_append.mp ha with ha | ha
        · exact List.mem_append_left _ (ks.sub a (by simp [ha]))
        · exact List.mem_append_right _ ha
      · have aK : a ∈ Kn := (List.mem_append.mp ha).resolve_right fun z => na (List.mem_append_right _ z)
        have bK : b ∈ Kn := (List.mem_append.mp hb).resolve_right fun z => nb (List.mem_append_right _ z)
        have a0 : a ∉ V0 := fun z => na (List.mem_append_left _ z)
        have b0 : b ∉ V0 := fun z => nb (List.mem_append_left _ z)
        by_cases za : a = w
        · rw [za]; exact (dn b bK).1
        · by_cases zb : b = w
          · rw [zb]; exact (dn a aK).2
          · refine List.mem_append_left _ (ks.cl a b aK bK (fun z => ?_) fun z => ?_)
            · rcases List.mem_append.mp z with z | z
              · exact a0 z
              · exact za (List.mem_singleton.mp z)
            · rcases List.mem_append.mp z with z | z
              · exact b0 z
              · exact zb (List.mem_singleton.mp z)
  · have wn : W = [] := by simpa using e2
    subst wn
    refine ⟨kd Kn, Kn, rfl, kd_fst Kn, by omega, fun ys p s => ?_⟩
    have all : ∀ a, Cl g u ts a → a ∈ Kn := by
      intro a ha
      induction ha with
      | o => exact ks.one
      | s _ h ih => exact ks.cl _ _ ih (ks.thg _ h) (by simp) (by simp)
    have e3 : ys = clS n g u ts := inc_ext' (lt_of_le_nd s (p.nodup_iff.2 ks.nd)) (clS_lt n g u ts).2 fun a => by
      rw [p.mem_iff, clS_mem]
      exact ⟨fun h => ks.good a h, fun h => all a h.2⟩
    rw [e3]
    exact h
theorem bk_im {n : Nat} {g : F1} {u : Int} {a : Int} (ha : In n a) : (backOf (tab n g) u a).getD 0 = im (bkL n g u) a := by
  unfold bkL
  rw [im_map ha.1 ha.2]
theorem v__law_is_whole_part : VD g__law_is_whole_part S__law_is_whole_part 2 3 := fun ds Q _ h => by
  obtain ⟨n, g, u, p, rfl, hg, hp, pl, h⟩ := h
  have hn := hg.2
  unfold g__law_is_whole_part
  walk_at "dd"
  rw [tab_len]
  refine ⟨rgd (by omega), ?_⟩
  try rw [rgD_rgI]
  refine wpFor_fs (rgI n) PyData.int (fun a => if (p.all fun k => decide (g (g a k) (im (bkL n g u) a) ∈ p)) = true then none else some (PyData.bool false)) (fun ρ => ∃ a b c, ρ = [some (.im (tR (tab n g))), some (.im (tI p)), a, b, c]) ⟨_, _, _, rfl⟩ (fun a ha ρ K B hI hq hk => ?_) (fun v hv => ?_) (fun hv ρ hI => ?_)
  · obtain ⟨x, y, z, rfl⟩ := hI
    have ha := In.mem.1 ha
    walk_at "dd"
    refine ⟨n, g, u, a, rfl, hg, ha, ?_⟩
    rw [bk_im ha]
    have bk := bk_in hg.1 ha
    try walk_at "dd"
    refine wpLc_mapL p PyData.int (fun k => .bool (decide (g (g a k) (im (bkL n g u) a) ∈ p))) (by omega) rfl (fun k hk2 K2 hK2 => ?_) (fun _ => rfl) ?_
    · have kI := hp k hk2
      try walk_at "dd"
      refine ixTR ha (ixY kI (ixTR (hg.1.rg a k ha kI) (ixY bk ⟨_, rfl, rfl, all_sc _, ?_⟩)))
      dsimp only
      rw [if_neg (by decide), any_int]
      exact hK2 _ rfl
    refine ⟨p.map fun k => decide (g (g a k) (im (bkL n g u) a) ∈ p), by rw [List.map_map]; rfl, ?_⟩
    rw [show (p.map fun k => decide (g (g a k) (im (bkL n g u) a) ∈ p)).all id = p.all fun k => decide (g (g a k) (im (bkL n g u) a) ∈ p) by rw [List.all_map]; rfl]
    dsimp only
    refine ite_ways (fun e => ?_) (fun e => ?_)
    · exact hq _ (if_neg fun z => by rw [z] at e; cases e)
    · refine hk (if_pos ?_) _ ⟨_, _, _, rfl⟩
      cases z : (p.all fun k => decide (g (g a k) (im (bkL n g u) a) ∈ p)) with
      | true => rfl
      | false => rw [z] at e; cases e
  · obtain ⟨a, ha, hv⟩ := List.exists_of_findSome?_eq_some hv
    split at hv
    · cases hv
    · rename_i e2
      cases hv
      have : nrmB n g u p = false := by
        rw [Bool.eq_false_iff]
        intro w
        unfold nrmB at w
        rw [List.all_eq_true] at w
        exact e2 (w a ha)
      rw [this] at h
      exact h
  · obtain ⟨x, y, z, rfl⟩ := hI
    try walk_at "dd"
    have : nrmB n g u p = true := by
      unfold nrmB
      rw [List.all_eq_true]
      intro a ha
      rw [List.findSome?_eq_none_iff] at hv
      have := hv a ha
      split at this
      · assumption
      · cases this
    rw [this] at h
    exact h
end Dn.T.G.K07
set_option Elab.async false
set_option linter.all false
set_option maxRecDepth 100000
set_option autoImplicit false
set_option maxHeartbeats 4000000
namespace Dn.T.G.K07
open PySem L2 Evl PySem.Spec PyProof.Rows
local macro_rules | `(tactic| walk_at "dd") => `(tactic| simp only [sSeq, sIf, sSet, sRet, sRetN, sNx, sEx, sAsg, sPar, dTOr, dTAnd, dTNot, dTst, dIsi, dVar, dC, dBin, dChain, dNeg, dI2, dAnd, dOr, dNot, dIfE, dCall, dCallF, aCons, aNil, dTup, lLst, dOfL, xIm, xOw, gNm, gTp, gsCons, gsNil, dYes, envD, dLen_tR, dLen_tI, dLen_tup, dLen_lst, seq_tR, seq_tI, seq_tup, seq_lst, dIs, dIsNot, dNe, dEq, dTupOf, dSl, oNone, oSome, iSq, iEn, iR1, iR2, sFor, lLc, sNever, dTRg, rg1, rg2, lRg, wipeD, isN,
  gTpL, dIxP, sSub, dApp, dPopAt, dExt, dCallM, dCallO, dBinO, dTupO, lOf, lOfO, sRetO, iOw, dVarF, lCat, lCall, dAbs, dMax2, dMin2, dInt, atO, setO, MO.getL, MO.putL, Option.isSome_some,
  dInK, dGetK, dGetD, dInD, dGet1, lKeys, lSort, dLenSet, dLenSetL, dLenSet2, sPar3, dRevT, sPutK, xDct, xDct1, sRetK, atK, keyD, sAugI, dFld, sFldD, xRng, iRgO, dNew, dNewV, dCM, dProp, dMeth, dLenI, dStrO, dEqI, dIsC, dJoin, dJs, dFmt, dCallML, sSubI, gSubW, sWh, dTF, gIx, xProp, xDctI, lKeysK, lSortK, sForO, dRepU, dKeep2, lSortSet, lSortTu, lDc, dRepT, lRep, dStrI, xDctT1, xDctOf, dInT, sPutT, lSortT2, lSortDT, dPop, dBinR, dKeep, dCallMO, atT, dCallO,
  kit_int, kit_bool, kit_tuple, kit_str, List.map_cons, List.map_nil, List.cons_append, List.nil_append, List.replicate, List.set_cons_zero, List.set_cons_succ, List.getElem?_cons_zero, List.getElem?_cons_succ, List.length_cons, List.length_nil, List.length_map, Nat.reduceAdd, Nat.reduceSub, Bool.not_true, Bool.not_false, Bool.false_eq_true, if_true, if_false, true_and, reduceCtorEq, Bool.true_eq_false, rgD_rgI, Option.some.injEq, exists_eq_left', and_true])
def sbs : List Int → List (List Int)
  | [] => [[]]
  | x :: l => (sbs l).map (fun p => x :: p) ++ sbs l
theorem sbs_len : ∀ l : List Int, (sbs l).length = 2 ^ l.length
  | [] => rfl
  | x :: l => by rw [sbs, List.length_append, List.length_map, sbs_len l, List.length_cons, Nat.pow_succ]; omega
theorem sbs_sub : ∀ {l p : List Int}, p.Sublist l → p ∈ sbs l
  | [], p, h => by rw [List.sublist_nil.mp h]; simp [sbs]
  | x :: l, p, h => by
    unfold sbs
    cases h with
    | cons _ h => exact List.mem_append_right _ (sbs_sub h)
    | cons_cons _ h => exact List.mem_append_left _ (List.mem_map.mpr ⟨_, sbs_sub h, rfl⟩)
theorem lt_sub {n : Nat} {p : List Int} (h : Lt n p) : p.Sublist (rgI n) := by
  have : p = (rgI n).filter fun a => decide (a ∈ p) := inc_ext' h.2 ((rgI_lt n).sublist List.filter_sublist) fun k => by
    rw [List.mem_filter, decide_eq_true_eq]
    exact ⟨fun w => ⟨In.mem.2 (h.1 k w), w⟩, fun w => w.2⟩
  rw [this]
  exact List.filter_sublist
theorem few_lots {n : Nat} {F : List (List Int)} (nd : F.Nodup) (h : ∀ p, p ∈ F → Lt n p ∧ p ≠ []) : F.length < 2 ^ n := by
  have nd2 : ([] :: F).Nodup := List.nodup_cons.mpr ⟨fun w => (h _ w).2 rfl, nd⟩
  have := List.Nodup.length_le_of_subset nd2 (l₂ := sbs (rgI n)) fun p hp => by
    rcases List.mem_cons.mp hp with rfl | hp
    · exact sbs_sub (List.nil_sublist _)
    · exact sbs_sub (lt_sub (h p hp).1)
  rw [sbs_len, rgI_len, List.length_cons] at this
  omega
section
variable {n : Nat} {g : F1} {u : Int} (hg : Gr n g u)
include hg
theorem cl_sub {ts us : List Int} (ht : Wd n ts) (hu : Wd n us) (h : ∀ t, t ∈ ts → Cl g u us t) {a : Int} (ha : Cl g u ts a) : Cl g u us a := by
  induction ha with
  | o => exact .o
  | @s a t _ w ih => exact (cl_mul hg hu ih (cl_in hg hu ih) (h t w)).2
theorem prt_cl {ts : List Int} (ht : Wd n ts) : Prt n g u (clS n g u ts) := by
  refine ⟨clS_lt n g u ts, inc_ext' (clS_lt _ _ _ _).2 (clS_lt _ _ _ _).2 fun a => ?_⟩
  rw [clS_mem, clS_mem]
  constructor
  · exact fun h => ⟨h.1, cl_sub hg (clS_lt n g u ts).1 ht (fun t w => (clS_mem.1 w).2) h.2⟩
  · exact fun h => ⟨h.1, cl_one hg (clS_lt n g u ts).1 (clS_mem.2 h)⟩
theorem prt_u {p : List Int} (hp : Prt n g u p) : u ∈ p := by
  rw [← hp.2, clS_mem]
  exact ⟨hg.un, .o⟩
theorem prt_one : Prt n g u [u] := by
  have w : Lt n [u] := ⟨fun a h => by rw [List.mem_singleton.mp h]; exact hg.un, by simp⟩
  refine ⟨w, inc_ext' (clS_lt _ _ _ _).2 w.2 fun a => ?_⟩
  rw [clS_mem, List.mem_singleton]
  constructor
  · rintro ⟨w0, h⟩
    clear w0
    induction h with
    | o => rfl
    | s _ m ih => rw [ih, List.mem_singleton.mp m, hg.ul u hg.un]
  · rintro rfl
    exact ⟨hg.un, .o⟩
theorem prt_all {F : List (List Int)} (h1 : [u] ∈ F) (hF : ∀ p, p ∈ F → Prt n g u p) (h2 : ∀ p, p ∈ F → ∀ x, In n x → clS n g u (p ++ [x]) ∈ F) {p : List Int} (hp : Prt n g u p) : p ∈ F := by
  have key : ∀ l : List Int, (∀ a, a ∈ l → a ∈ p) → ∃ q, q ∈ F ∧ (∀ a, a ∈ l → a ∈ q) ∧ ∀ a, a ∈ q → a ∈ p := by
    intro l
    induction l with
    | nil => exact fun _ => ⟨[u], h1, by simp, fun a h => by rw [List.mem_singleton.mp h]; exact prt_u hg hp⟩
    | cons x l ih =>
      intro hl
      obtain ⟨q, q1, q2, q3⟩ := ih fun a h => hl a (by simp [h])
      have hx : In n x := hp.1.1 x (hl x (by simp))
      have wq : Wd n (q ++ [x]) := fun a h => by
        rcases List.mem_append.mp h with h | h
        · exact (hF q q1).1.1 a h
        · rw [List.mem_singleton.mp h]; exact hx
      refine ⟨_, h2 q q1 x hx, fun a h => ?_, fun a h => ?_⟩
      · have : a ∈ q ++ [x] := by
          rcases List.mem_cons.mp h with rfl | h
          · simp
          · exact List.mem_append_left _ (q2 a h)
        rw [clS_mem]
        exact ⟨wq a this, cl_one hg wq this⟩
      · rw [← hp.2, clS_mem]
        rw [clS_mem] at h
        refine ⟨h.1, cl_sub hg wq hp.1.1 (fun t w => ?_) h.2⟩
        rcases List.mem_append.mp w with w | w
        · exact cl_one hg hp.1.1 (q3 t w)
        · rw [List.mem_singleton.mp w]; exact cl_one hg hp.1.1 (hl x (by simp))
  obtain ⟨q, q1, q2, q3⟩ := key p fun a h => h
  rw [show p = q from inc_ext' hp.1.2 (hF q q1).1.2 fun a => ⟨q2 a, q3 a⟩]
  exact q1
end
def kt (F : List (List Int)) : List (List Int × D) := F.map fun p => (p, .bool true)
theorem kt_val (F : List (List Int)) (p : List Int) : (valT (kt F) p).isSome = decide (p ∈ F) := by
  unfold valT kt
  rw [Option.isSome_map, List.isSome_find?, List.any_map, Bool.eq_iff_iff, List.any_eq_true, decide_eq_true_eq]
  constructor
  · rintro ⟨y, hy, e⟩
    have e : y = p := of_decide_eq_true e
    exact e ▸ hy
  · exact fun h => ⟨p, h, by show decide (p = p) = true; simp⟩
theorem kt_put {F : List (List Int)} {p : List Int} (h : p ∉ F) : putT (kt F) p (.bool true) = kt (F ++ [p]) := by
  unfold putT
  have : (kt F).any (fun kv => decide (kv.1 = p)) = false := by
    rw [Bool.eq_false_iff]
    intro w
    rw [List.any_eq_true] at w
    obtain ⟨q, hq, e⟩ := w
    unfold kt at hq
    obtain ⟨y, hy, rfl⟩ := List.mem_map.mp hq
    have e : y = p := of_decide_eq_true e
    exact h (e ▸ hy)
  rw [this, if_neg (by decide)]
  unfold kt
  rw [List.map_append]
  rfl
theorem kt_len (F : List (List Int)) : (kt F).length = F.length := by unfold kt; rw [List.length_map]
theorem atI_L {F : List (List Int)} {i : Nat} (h : i < F.length) : atI (F.map tI) (i : Int) = some (tI (F.getD i [])) := by
  unfold atI ixN
  rw [if_pos (by omega), if_pos (by rw [List.length_map]; omega)]
  show (F.map tI)[((i : Int)).toNat]? = _
  rw [show ((i : Int)).toNat = i by omega, List.getElem?_map, List.getElem?_eq_getElem h, List.getD_eq_getElem?_getD, List.getElem?_eq_getElem h]
  rfl
theorem v_Group__parts : VD g_Group__parts S_Group__parts 1 5 := fun ds Q _ h => by
  obtain ⟨n, g, u, rfl, hg, h⟩ := h
  have hn := hg.2
  unfold g_Group__parts
  walk_at "dd"
  refine ⟨_, _, rfl, rfl, by decide, by decide, _, _, _, rfl, rfl, rfl, [u], rfl, ?_⟩
  have two : 2 ^ n ≤ 16777216 := Nat.le_trans (Nat.pow_le_pow_right (by decide) hn) (by decide)
  refine wpWh_lt (β := List (List Int) × Nat) (fun b ρ => ∃ x4 x5, ρ = [some (.im (grpD n g u)), some (.ow (.lst (b.1.map tI))), some (.ow (.dtu (kt b.1))), some (.im (.int (b.2 : Int))), x4, x5] ∧ b.1.Nodup ∧ (∀ p, p ∈ b.1 → Prt n g u p) ∧ [u] ∈ b.1 ∧ b.2 ≤ b.1.length ∧ ∀ j, j < b.2 → ∀ x, In n x → clS n g u (b.1.getD j [] ++ [x]) ∈ b.1) (fun b => 2 ^ n - b.2) (fun b ρ K p k => ?_) (b := ([[u]], 0)) ⟨_, _, rfl, by simp, fun p hp => by rw [List.mem_singleton.mp hp]; exact prt_one hg.1, by simp, by simp, fun j hj => absurd hj (by omega)⟩
  obtain ⟨F, r⟩ := b
  obtain ⟨x4, x5, rfl, nd, good, uF, rl, cl⟩ := p
  dsimp only at nd good uF rl cl k ⊢
  have few : ∀ {F : List (List Int)}, F.Nodup → (∀ p, p ∈ F → Prt n g u p) → F.length < 2 ^ n := fun nd good => few_lots nd fun p hp => ⟨(good p hp).1, fun e => by have := prt_u hg.1 (good p hp); rw [e] at this; cases this⟩
  have fl := few nd good
  walk_at "dd"
  refine ⟨rfl, ite_ways (fun e => ?_) (fun e => ?_)⟩
  · have rlt : r < F.length := by simpa using e
    have qF : F.getD r [] ∈ F := by rw [List.getD_eq_getElem?_getD, List.getElem?_eq_getElem rlt]; exact List.getElem_mem rlt
    have hq := good _ qF
    refine ⟨_, _, rfl, rfl, ?_⟩
    rw [dLen_tR, tab_len]
    refine ⟨rgd (by omega), ?_⟩
    rw [rgD_rgI]
    refine wpFor_pre (rgI n) PyData.int (fun l1 ρ => ∃ F' x4 x5, ρ = [some (.im (grpD n g u)), some (.ow (.lst ((F ++ F').map tI))), some (.ow (.dtu (kt (F ++ F')))), some (.im (.int (r : Int))), x4, x5] ∧ (F ++ F').Nodup ∧ (∀ p, p ∈ F ++ F' → Prt n g u p) ∧ ∀ x, x ∈ l1 → clS n g u (F.getD r [] ++ [x]) ∈ F ++ F') ⟨[], x4, x5, by rw [List.append_nil], by rw [List.append_nil]; exact nd, by rw [List.append_nil]; exact good, fun t h => nomatch h⟩ (fun l1 x l2 el ρ K2 p k2 => ?_) (fun ρ p => ?_)
    · obtain ⟨F', y4, y5, rfl, nd', good', dn⟩ := p
      have hx : In n x := In.mem.1 (by rw [el]; simp)
      have fl' := few nd' good'
      have gD : (F ++ F').getD r [] = F.getD r [] := by
        rw [List.getD_eq_getElem?_getD, List.getD_eq_getElem?_getD, List.getElem?_append_left rlt]
      have ql := few_in (List.Pairwise.imp (fun h => by omega) hq.1.2 : (F.getD r []).Nodup) hq.1.1
      have wq : Wd n (F.getD r [] ++ [x]) := fun a h => by
        rcases List.mem_append.mp h with h | h
        · exact hq.1.1 a h
        · rw [List.mem_singleton.mp h]; exact hx
      try walk_at "dd"
      refine ⟨_, _, rfl, rfl, _, _, rfl, rfl, _, _, _, rfl, rfl, atI_L (F := F ++ F') (i := r) (by rw [List.length_append]; omega), ?_⟩
      rw [gD]
      refine ⟨by decide, ?_⟩
      show ((F.getD r []).map PyData.int).length + 1 ≤ 16777216 ∧ _
      refine ⟨by rw [List.length_map]; omega, n, g, u, F.getD r [] ++ [x], by unfold tI; rw [List.map_append]; rfl, hn, hg.1.rg, hg.1.un, wq, (by rw [List.length_append]; show _ + 1 ≤ 1000; omega), ?_⟩
      refine ⟨_, clS n g u (F.getD r [] ++ [x]), rfl, rfl, ?_⟩
      rw [kt_val]
      have pc := prt_cl hg.1 wq
      refine ite_ways (fun e4 => ?_) (fun e4 => ?_)
      · have nin : clS n g u (F.getD r [] ++ [x]) ∉ F ++ F' := fun z => by rw [decide_eq_true z] at e4; cases e4
        refine ⟨_, clS n g u (F.getD r [] ++ [x]), rfl, rfl, (by rw [kt_len, sizeLine_eq]; omega), (by omega), ?_⟩
        rw [kt_put nin]
        refine k2 _ ⟨F' ++ [clS n g u (F.getD r [] ++ [x])], _, _, by rw [← List.append_assoc, List.map_append (l₁ := F ++ F')]; rfl, ?_, fun a ha => ?_, fun s hs => ?_⟩
        · rw [← List.append_assoc, List.nodup_append]
          refine ⟨nd', by simp, fun a ha b hb e => nin ?_⟩
          rw [List.mem_singleton.mp hb] at e
          exact e ▸ ha
        · rw [← List.append_assoc] at ha
          rcases List.mem_append.mp ha with ha | ha
          · exact good' a ha
          · rw [List.mem_singleton.mp ha]
            exact pc
        · rw [← List.append_assoc]
          rcases List.mem_append.mp hs with hs | hs
          · exact List.mem_append_left _ (dn s hs)
          · rw [List.mem_singleton.mp hs]; simp
      · have inn : clS n g u (F.getD r [] ++ [x]) ∈ F ++ F' := by
          by_cases z : clS n g u (F.getD r [] ++ [x]) ∈ F ++ F'
          · exact z
          · rw [decide_eq_false z] at e4; cases e4
        exact k2 _ ⟨F', _, _, rfl, nd', good', fun s hs => by
          rcases List.mem_append.mp hs with hs | hs
          · exact dn s hs
          · rw [List.mem_singleton.mp hs]; exact inn⟩
    · obtain ⟨F', y4, y5, rfl, nd', good', dn⟩ := p
      try walk_at "dd"
      refine k (F ++ F', r + 1) _ (by show 2 ^ n - (r + 1) < 2 ^ n - r; omega) ⟨_, _, rfl, nd', good', List.mem_append_left _ uF, by rw [List.length_append]; show r + 1 ≤ _; omega, fun j hj x hx => ?_⟩
      dsimp only at hj ⊢
      by_cases z : j = r
      · subst z
        rw [List.getD_eq_getElem?_getD, List.getElem?_append_left rlt, ← List.getD_eq_getElem?_getD]
        exact dn x (In.mem.2 hx)
      · have jl : j < F.length := by omega
        rw [List.getD_eq_getElem?_getD, List.getElem?_append_left jl, ← List.getD_eq_getElem?_getD]
        exact List.mem_append_left _ (cl j (by omega) x hx)
  · have re : r = F.length := by
      have : ¬ r < F.length := by simpa using e
      omega
    refine ⟨F, rfl, (fun l hl e => by have := prt_u hg.1 (good l hl); rw [e] at this; cases this), fun L p s => ?_⟩
    refine h L s (p.nodup_iff.2 nd) fun q => ?_
    rw [p.mem_iff]
    exact ⟨good q, prt_all hg.1 uF good fun p hp x hx => by
      obtain ⟨j, hj⟩ := List.mem_iff_getElem?.mp hp
      have jl := (List.getElem?_eq_some_iff.mp hj).1
      have := cl j (by omega) x hx
      rw [List.getD_eq_getElem?_getD, hj] at this
      exact this⟩
end Dn.T.G.K07
set_option Elab.async false
set_option linter.all false
set_option maxRecDepth 100000
set_option autoImplicit false
set_option maxHeartbeats 4000000
namespace Dn.T.G.K07
open PySem L2 Evl PySem.Spec PyProof.Rows
local macro_rules | `(tactic| walk_at "dd") => `(tactic| simp only [sSeq, sIf, sSet, sRet, sRetN, sNx, sEx, sAsg, sPar, dTOr, dTAnd, dTNot, dTst, dIsi, dVar, dC, dBin, dChain, dNeg, dI2, dAnd, dOr, dNot, dIfE, dCall, dCallF, aCons, aNil, dTup, lLst, dOfL, xIm, xOw, gNm, gTp, gsCons, gsNil, dYes, envD, dLen_tR, dLen_tI, dLen_tup, dLen_lst, seq_tR, seq_tI, seq_tup, seq_lst, dIs, dIsNot, dNe, dEq, dTupOf, dSl, oNone, oSome, iSq, iEn, iR1, iR2, sFor, lLc, sNever, dTRg, rg1, rg2, lRg, wipeD, isN,
  gTpL, dIxP, sSub, dApp, dPopAt, dExt, dCallM, dCallO, dBinO, dTupO, lOf, lOfO, sRetO, iOw, dVarF, lCat, lCall, dAbs, dMax2, dMin2, dInt, atO, setO, MO.getL, MO.putL, Option.isSome_some,
  dInK, dGetK, dGetD, dInD, dGet1, lKeys, lSort, dLenSet, dLenSetL, dLenSet2, sPar3, dRevT, sPutK, xDct, xDct1, sRetK, atK, keyD, sAugI, dFld, sFldD, xRng, iRgO, dNew, dNewV, dCM, dProp, dMeth, dLenI, dStrO, dEqI, dIsC, dJoin, dJs, dFmt, dCallML, sSubI, gSubW, sWh, dTF, gIx, xProp, xDctI, lKeysK, lSortK, sForO, dRepU, dKeep2, lSortSet, lSortTu, lDc, dRepT, lRep, dStrI, xDctT1, xDctOf, dInT, sPutT, lSortT2, lSortDT, dPop, dBinR, dKeep, dCallMO, atT, dCallO,
  kit_int, kit_bool, kit_tuple, kit_str, List.map_cons, List.map_nil, List.cons_append, List.nil_append, List.replicate, List.set_cons_zero, List.set_cons_succ, List.getElem?_cons_zero, List.getElem?_cons_succ, List.length_cons, List.length_nil, List.length_map, Nat.reduceAdd, Nat.reduceSub, Bool.not_true, Bool.not_false, Bool.false_eq_true, if_true, if_false, true_and, reduceCtorEq, Bool.true_eq_false, rgD_rgI, Option.some.injEq, exists_eq_left', and_true])
theorem cl_none {n : Nat} {g : F1} {u : Int} (hg : Gr n g u) : clS n g u [] = [u] := by
  have w : Lt n [u] := ⟨fun a h => by rw [List.mem_singleton.mp h]; exact hg.un, by simp⟩
  refine inc_ext' (clS_lt _ _ _ _).2 w.2 fun a => ?_
  rw [clS_mem, List.mem_singleton]
  constructor
  · rintro ⟨w0, h⟩
    clear w0
    cases h with
    | o => rfl
    | s _ m => cases m
  · rintro rfl
    exact ⟨hg.un, .o⟩
theorem cl_same {n : Nat} {g : F1} {u : Int} (hg : Gr n g u) {p : List Int} (hp : Prt n g u p) {x : Int} (hx : x ∈ p) : clS n g u (p ++ [x]) = p := by
  have wq : Wd n (p ++ [x]) := fun a h => by
    rcases List.mem_append.mp h with h | h
    · exact hp.1.1 a h
    · rw [List.mem_singleton.mp h]; exact hp.1.1 x hx
  refine inc_ext' (clS_lt _ _ _ _).2 hp.1.2 fun a => ?_
  rw [clS_mem]
  constructor
  · rintro ⟨w, h⟩
    rw [← hp.2, clS_mem]
    refine ⟨w, cl_sub hg wq hp.1.1 (fun t m => ?_) h⟩
    rcases List.mem_append.mp m with m | m
    · exact cl_one hg hp.1.1 m
    · rw [List.mem_singleton.mp m]; exact cl_one hg hp.1.1 hx
  · intro m
    exact ⟨hp.1.1 a m, cl_one hg wq (List.mem_append_left _ m)⟩
theorem v__law_group_parts : VD g__law_group_parts S__law_group_parts 1 6 := fun ds Q _ h => by
  obtain ⟨n, g, u, rfl, hg, h⟩ := h
  have hn := hg.2
  have two : 2 ^ n ≤ 16777216 := Nat.le_trans (Nat.pow_le_pow_right (by decide) hn) (by decide)
  have few : ∀ {F : List (List Int)}, F.Nodup → (∀ p, p ∈ F → Prt n g u p) → F.length < 2 ^ n := fun nd good => few_lots nd fun p hp => ⟨(good p hp).1, fun e => by have := prt_u hg.1 (good p hp); rw [e] at this; cases this⟩
  unfold g__law_group_parts
  walk_at "dd"
  refine ⟨by decide, n, g, u, [], rfl, hg, fun a h => (nomatch h), by decide, ?_⟩
  rw [cl_none hg.1]
  refine ⟨by decide, by decide, [([u], .bool true)], rfl, by simp, by decide, ?_⟩
  refine wpWh_lt (β := List (List Int) × List (List Int)) (fun b ρ => ∃ x4 x5 x6, ρ = [some (.im (tR (tab n g))), some (.im (tI [u])), some (.ow (.dtu (kt b.1))), some (.ow (.lst (b.2.map tI))), x4, x5, x6] ∧ b.1.Nodup ∧ (∀ p, p ∈ b.1 → Prt n g u p) ∧ [u] ∈ b.1 ∧ (∀ p, p ∈ b.2 → p ∈ b.1) ∧ b.2.length ≤ b.1.length ∧ ∀ p, p ∈ b.1 → p ∉ b.2 → ∀ x, In n x → clS n g u (p ++ [x]) ∈ b.1) (fun b => 2 * (2 ^ n - b.1.length) + b.2.length) (fun b ρ K p k => ?_) (b := ([[u]], [[u]])) ⟨_, _, _, rfl, by simp, fun p hp => by rw [List.mem_singleton.mp hp]; exact prt_one hg.1, by simp, fun p h => h, by simp, fun p hp np => absurd hp np⟩
  obtain ⟨F, W⟩ := b
  obtain ⟨x4, x5, x6, rfl, nd, good, uF, sub, wl, cl⟩ := p
  dsimp only at nd good uF sub wl cl k ⊢
  have fl := few nd good
  walk_at "dd"
  refine ⟨⟨_, rfl⟩, by decide, shaped_tL W, by decide +kernel, ?_⟩
  rw [eqv_nil]
  refine ⟨rfl, ite_ways (fun e2 => ?_) (fun e2 => ?_)⟩
  · have wn : W ≠ [] := by
      rintro rfl
      simp at e2
    obtain ⟨V0, w, rfl⟩ : ∃ W0 w, W = W0 ++ [w] := ⟨W.dropLast, W.getLast wn, (List.dropLast_concat_getLast wn).symm⟩
    have wF := sub w (by simp)
    have hq := good w wF
    have ql := few_in (List.Pairwise.imp (fun h => by omega) hq.1.2 : w.Nodup) hq.1.1
    refine ⟨V0.map tI, tI w, by simp, ?_⟩
    try walk_at "dd"
    rw [tab_len]
    refine ⟨rgd (by omega), ?_⟩
    try rw [rgD_rgI]
    refine wpFor_pre (rgI n) PyData.int (fun l1 ρ => ∃ A x5 x6, ρ = [some (.im (tR (tab n g))), some (.im (tI [u])), some (.ow (.dtu (kt (F ++ A)))), some (.ow (.lst ((V0 ++ A).map tI))), some (.im (tI w)), x5, x6] ∧ (F ++ A).Nodup ∧ (∀ p, p ∈ F ++ A → Prt n g u p) ∧ ∀ x, x ∈ l1 → clS n g u (w ++ [x]) ∈ F ++ A) ⟨[], x5, x6, by rw [List.append_nil, List.append_nil], by rw [List.append_nil]; exact nd, by rw [List.append_nil]; exact good, fun a h => (nomatch h)⟩ (fun l1 x l2 el ρ K2 p k2 => ?_) (fun ρ p => ?_)
    · obtain ⟨A, y5, y6, rfl, nd', good', dn⟩ := p
      have hx : In n x := In.mem.1 (by rw [el]; simp)
      have fl' := few nd' good'
      have bl2 : (V0 ++ A).length < 16777216 := by
        simp only [List.length_append, List.length_cons, List.length_nil] at wl fl' ⊢
        omega
      have wq : Wd n (w ++ [x]) := fun a h => by
        rcases List.mem_append.mp h with h | h
        · exact hq.1.1 a h
        · rw [List.mem_singleton.mp h]; exact hx
      try walk_at "dd"
      refine ⟨_, rfl, rfl, all_sc _, ?_⟩
      dsimp only
      rw [if_pos rfl, any_int]
      refine ite_ways (fun e4 => ?_) (fun e4 => ?_)
      · try walk_at "dd"
        refine ⟨by decide, ?_⟩
        show (w.map PyData.int).length + 1 ≤ 16777216 ∧ _
        refine ⟨by rw [List.length_map]; omega, n, g, u, w ++ [x], by unfold tI; rw [List.map_append]; rfl, hg, wq, (by rw [List.length_append]; show _ + 1 ≤ 100; omega), ?_⟩
        have pc := prt_cl hg.1 wq
        try walk_at "dd"
        refine ⟨kt (F ++ A), clS n g u (w ++ [x]), rfl, rfl, ?_⟩
        rw [kt_val]
        refine ite_ways (fun e5 => ?_) (fun e5 => ?_)
        · have nin : clS n g u (w ++ [x]) ∉ F ++ A := fun z => by rw [decide_eq_true z] at e5; cases e5
          refine ⟨_, clS n g u (w ++ [x]), rfl, rfl, (by rw [kt_len, sizeLine_eq]; omega), (by omega), ?_⟩
          rw [kt_put nin]
          refine k2 _ ⟨A ++ [clS n g u (w ++ [x])], _, _, by rw [← List.append_assoc, ← List.append_assoc, List.map_append (l₁ := V0 ++ A)]; rfl, ?_, fun a ha => ?_, fun s hs => ?_⟩
          · rw [← List.append_assoc, List.nodup_append]
            refine ⟨nd', by simp, fun a ha b hb e => nin ?_⟩
            rw [List.mem_singleton.mp hb] at e
            exact e ▸ ha
          · rw [← List.append_assoc] at ha
            rcases List.mem_append.mp ha with ha | ha
            · exact good' a ha
            · rw [List.mem_singleton.mp ha]; exact pc
          · rw [← List.append_assoc]
            rcases List.mem_append.mp hs with hs | hs
            · exact List.mem_append_left _ (dn s hs)
            · rw [List.mem_singleton.mp hs]; simp
        · have inn : clS n g u (w ++ [x]) ∈ F ++ A := by
            by_cases z : clS n g u (w ++ [x]) ∈ F ++ A
            · exact z
            · rw [decide_eq_false z] at e5; cases e5
          exact k2 _ ⟨A, _, _, rfl, nd', good', fun s hs => by
            rcases List.mem_append.mp hs with hs | hs
            · exact dn s hs
            · rw [List.mem_singleton.mp hs]; exact inn⟩
      · have inn : x ∈ w := by
          by_cases z : x ∈ w
          · exact z
          · rw [decide_eq_false z] at e4; cases e4
        exact k2 _ ⟨A, _, _, rfl, nd', good', fun s hs => by
          rcases List.mem_append.mp hs with hs | hs
          · exact dn s hs
          · rw [List.mem_singleton.mp hs, cl_same hg.1 hq inn]
            exact List.mem_append_left _ wF⟩
    · obtain ⟨A, y5, y6, rfl, nd', good', dn⟩ := p
      have fl' := few nd' good'
      try walk_at "dd"
      refine k (F ++ A, V0 ++ A) _ (by
        show 2 * (2 ^ n - (F ++ A).length) + (V0 ++ A).length < 2 * (2 ^ n - F.length) + (V0 ++ [w]).length
        rw [List.length_append] at fl'
        simp only [List.length_append, List.length_cons, List.length_nil]
        omega) ⟨_, _, _, rfl, nd', good', List.mem_append_left _ uF, fun p hp => ?_, (by
          show (V0 ++ A).length ≤ (F ++ A).length
          simp only [List.length_append, List.length_cons, List.length_nil] at wl ⊢
          omega), fun p hp np x hx => ?_⟩
      · rcases List.mem_append.mp hp with hp | hp
        · exact List.mem_append_left _ (sub p (by simp [hp]))
        · exact List.mem_append_right _ hp
      · have pF : p ∈ F := (List.mem_append.mp hp).resolve_right fun z => np (List.mem_append_right _ z)
        have p0 : p ∉ V0 := fun z => np (List.mem_append_left _ z)
        by_cases z : p = w
        · rw [z]; exact dn x (In.mem.2 hx)
        · refine List.mem_append_left _ (cl p pF (fun m => ?_) x hx)
          rcases List.mem_append.mp m with m | m
          · exact p0 m
          · exact z (List.mem_singleton.mp m)
  · have wn : W = [] := by simpa using e2
    subst wn
    have nonempty : ∀ p : List Int × D, p ∈ kt F → p.1 ≠ [] := fun p hp e => by
      unfold kt at hp
      obtain ⟨q, hq, rfl⟩ := List.mem_map.mp hp
      have := prt_u hg.1 (good q hq)
      rw [show q = [] from e] at this
      cases this
    refine ⟨by rw [kt_len, sizeLine_eq]; omega, fun _ => nonempty, fun L p s => ?_⟩
    rw [show (kt F).map (·.1) = F from by unfold kt; rw [List.map_map]; exact List.map_id' F] at p
    refine h L s (p.nodup_iff.2 nd) fun q => ?_
    rw [p.mem_iff]
    exact ⟨good q, prt_all hg.1 uF good fun p hp x hx => cl p hp (by simp) x hx⟩
end Dn.T.G.K07
set_option Elab.async false
set_option linter.all false
set_option maxRecDepth 100000
set_option autoImplicit false
set_option maxHeartbeats 4000000
namespace Dn.T.G.K07
open PySem L2 Evl PySem.Spec PyProof.Rows
local macro_rules | `(tactic| walk_at "dd") => `(tactic| simp only [sSeq, sIf, sSet, sRet, sRetN, sNx, sEx, sAsg, sPar, dTOr, dTAnd, dTNot, dTst, dIsi, dVar, dC, dBin, dChain, dNeg, dI2, dAnd, dOr, dNot, dIfE, dCall, dCallF, aCons, aNil, dTup, lLst, dOfL, xIm, xOw, gNm, gTp, gsCons, gsNil, dYes, envD, dLen_tR, dLen_tI, dLen_tup, dLen_lst, seq_tR, seq_tI, seq_tup, seq_lst, dIs, dIsNot, dNe, dEq, dTupOf, dSl, oNone, oSome, iSq, iEn, iR1, iR2, sFor, lLc, sNever, dTRg, rg1, rg2, lRg, wipeD, isN,
  gTpL, dIxP, sSub, dApp, dPopAt, dExt, dCallM, dCallO, dBinO, dTupO, lOf, lOfO, sRetO, iOw, dVarF, lCat, lCall, dAbs, dMax2, dMin2, dInt, atO, setO, MO.getL, MO.putL, Option.isSome_some,
  dInK, dGetK, dGetD, dInD, dGet1, lKeys, lSort, dLenSet, dLenSetL, dLenSet2, sPar3, dRevT, sPutK, xDct, xDct1, sRetK, atK, keyD, sAugI, dFld, sFldD, xRng, iRgO, dNew, dNewV, dCM, dProp, dMeth, dLenI, dStrO, dEqI, dIsC, dJoin, dJs, dFmt, dCallML, sSubI, gSubW, sWh, dTF, gIx, xProp, xDctI, lKeysK, lSortK, sForO, dRepU, dKeep2, lSortSet, lSortTu, lDc, dRepT, lRep, dStrI, xDctT1, xDctOf, dInT, sPutT, lSortT2, lSortDT, dPop, dBinR, dKeep, dCallMO, atT, dCallO,
  kit_int, kit_bool, kit_tuple, kit_str, List.map_cons, List.map_nil, List.cons_append, List.nil_append, List.replicate, List.set_cons_zero, List.set_cons_succ, List.getElem?_cons_zero, List.getElem?_cons_succ, List.length_cons, List.length_nil, List.length_map, Nat.reduceAdd, Nat.reduceSub, Bool.not_true, Bool.not_false, Bool.false_eq_true, if_true, if_false, true_and, reduceCtorEq, Bool.true_eq_false, rgD_rgI, Option.some.injEq, exists_eq_left', and_true])
theorem csI_mem {n : Nat} {g : F1} {p : List Int} {a x : Int} : x ∈ csI n g p a ↔ In n x ∧ ∃ k, k ∈ p ∧ g a k = x := by
  unfold csI
  rw [List.mem_filter, decide_eq_true_eq, List.mem_map]
  exact ⟨fun h => ⟨In.mem.1 h.1, h.2⟩, fun h => ⟨In.mem.2 h.1, h.2⟩⟩
theorem csI_lt (n : Nat) (g : F1) (p : List Int) (a : Int) : Lt n (csI n g p a) := ⟨fun x h => (csI_mem.1 h).1, (rgI_lt n).sublist List.filter_sublist⟩
theorem csI_of {n : Nat} {g : F1} {u : Int} {p ns : List Int} {a : Int} (hg : Gr n g u) (hp : Lt n p) (ha : In n a) (pm : ns.Perm (p.map (g a))) (s : ns.Pairwise (· ≤ ·)) : ns = csI n g p a := by
  have nd : (p.map (g a)).Nodup := by
    have pn : p.Nodup := List.Pairwise.imp (fun h => by omega) hp.2
    refine List.pairwise_map.mpr ?_
    have : ∀ {l : List Int}, l.Nodup → (∀ x, x ∈ l → In n x) → l.Pairwise fun x y => g a x ≠ g a y := by
      intro l
      induction l with
      | nil => exact fun _ _ => .nil
      | cons x l ih =>
        intro h w
        rw [List.nodup_cons] at h
        rw [List.pairwise_cons]
        exact ⟨fun y hy e => h.1 (hg.lc ha (w x (by simp)) (w y (by simp [hy])) e ▸ hy), ih h.2 fun y hy => w y (by simp [hy])⟩
    exact this pn hp.1
  refine inc_ext' (lt_of_le_nd s (pm.nodup_iff.2 nd)) (csI_lt n g p a).2 fun x => ?_
  rw [pm.mem_iff, csI_mem, List.mem_map]
  exact ⟨fun ⟨k, hk, e⟩ => ⟨e ▸ hg.rg a k ha (hp.1 k hk), k, hk, e⟩, fun h => h.2⟩
theorem any_tI {F : List (List Int)} {p : List Int} : ((F.map tI).any fun z => PyData.eqv z (tI p)) = decide (p ∈ F) := by
  induction F with
  | nil => rfl
  | cons q F ih =>
    rw [List.map_cons, List.any_cons, ih, eqv_tI, Bool.eq_iff_iff]
    simp only [Bool.or_eq_true, decide_eq_true_eq, List.mem_cons]
    exact ⟨fun h => h.imp Eq.symm id, fun h => h.imp Eq.symm id⟩
theorem v__law_sides : VD g__law_sides S__law_sides 2 4 := fun ds Q _ h => by
  obtain ⟨n, g, u, p, rfl, hg, hp, h⟩ := h
  have hn := hg.2
  have pl := few_in (List.Pairwise.imp (fun h => by omega) hp.1.2 : p.Nodup) hp.1.1
  unfold g__law_sides
  walk_at "dd"
  rw [tab_len]
  refine ⟨by decide, rgd (by omega), ?_⟩
  try rw [rgD_rgI]
  refine wpFor_pre (rgI n) PyData.int (fun l1 ρ => ∃ F x3 x4 x5, ρ = [some (.im (tR (tab n g))), some (.im (tI p)), some (.ow (.lst (F.map tI))), x3, x4, x5] ∧ F.Nodup ∧ F.length ≤ l1.length ∧ ∀ q, q ∈ F ↔ ∃ a, a ∈ l1 ∧ q = csI n g p a) ⟨[], _, _, _, rfl, by simp, by simp, fun q => by simp⟩ (fun l1 a l2 el ρ K q k => ?_) (fun ρ q => ?_)
  · obtain ⟨F, x3, x4, x5, rfl, nd, fl, mF⟩ := q
    have ha : In n a := In.mem.1 (by rw [el]; simp)
    have ll := congrArg List.length el
    rw [List.length_append, List.length_cons, rgI_len] at ll
    try walk_at "dd"
    refine wpLc_mapL p PyData.int (fun k => .int (g a k)) (by omega) rfl (fun k hk K2 hK2 => ?_) (fun _ => rfl) ?_
    · try walk_at "dd"
      exact ixTR ha (ixY (hp.1.1 k hk) (hK2 _ rfl))
    refine ⟨p.map (g a), by rw [List.map_map]; rfl, ⟨_, rfl⟩, fun ns pm s => ?_⟩
    obtain rfl := csI_of hg.1 hp.1 ha pm s
    try walk_at "dd"
    show dInL true (tI (csI n g p a)) (.list (F.map tI)) _
    refine ⟨_, rfl, shaped_tI _, shaped_tL F, ?_⟩
    rw [if_pos rfl, any_tI]
    refine ⟨rfl, ?_⟩
    refine ite_ways (fun e4 => ?_) (fun e4 => ?_)
    · have nin : csI n g p a ∉ F := fun z => by rw [decide_eq_true z] at e4; cases e4
      refine ⟨by omega, k _ ⟨F ++ [csI n g p a], _, _, _, by rw [List.map_append]; rfl, ?_, by simp; omega, fun q => ?_⟩⟩
      · rw [List.nodup_append]
        refine ⟨nd, by simp, fun x hx b hb e => nin ?_⟩
        rw [List.mem_singleton.mp hb] at e
        exact e ▸ hx
      · rw [List.mem_append, mF, List.mem_singleton]
        constructor
        · rintro (⟨b, hb, e⟩ | e)
          · exact ⟨b, List.mem_append_left _ hb, e⟩
          · exact ⟨a, by simp, e⟩
        · rintro ⟨b, hb, e⟩
          rcases List.mem_append.mp hb with hb | hb
          · exact .inl ⟨b, hb, e⟩
          · exact .inr (by rw [e, List.mem_singleton.mp hb])
    · have inn : csI n g p a ∈ F := by
        by_cases z : csI n g p a ∈ F
        · exact z
        · rw [decide_eq_false z] at e4; cases e4
      refine k _ ⟨F, _, _, _, rfl, nd, by simp; omega, fun q => ?_⟩
      rw [mF]
      constructor
      · rintro ⟨b, hb, e⟩
        exact ⟨b, List.mem_append_left _ hb, e⟩
      · rintro ⟨b, hb, e⟩
        rcases List.mem_append.mp hb with hb | hb
        · exact ⟨b, hb, e⟩
        · rw [e, List.mem_singleton.mp hb]
          exact (mF _).1 inn
  · obtain ⟨F, x3, x4, x5, rfl, nd, fl, mF⟩ := q
    try walk_at "dd"
    unfold lSortT
    try walk_at "dd"
    refine ⟨F, rfl, (fun q hq e => ?_), fun L pm s => ?_⟩
    · obtain ⟨a, ha, e2⟩ := (mF q).1 hq
      have ha := In.mem.1 ha
      have : a ∈ csI n g p a := csI_mem.2 ⟨ha, u, prt_u hg.1 hp, hg.1.ur a ha⟩
      rw [← e2, e] at this
      cases this
    · refine h L s (pm.nodup_iff.2 nd) fun q => ?_
      rw [pm.mem_iff, mF]
      exact ⟨fun ⟨a, ha, e⟩ => ⟨a, In.mem.1 ha, e⟩, fun ⟨a, ha, e⟩ => ⟨a, In.mem.2 ha, e⟩⟩
end Dn.T.G.K07
set_option Elab.async false
set_option linter.all false
set_option maxRecDepth 100000
set_option autoImplicit false
set_option maxHeartbeats 4000000
namespace Dn.T.G.K07
open PySem L2 Evl PySem.Spec PyProof.Rows
section
variable {n : Nat} {g : F1} {u : Int} {p : List Int}
theorem prt_mul (hg : Gr n g u) (hp : Prt n g u p) {a b : Int} (ha : a ∈ p) (hb : b ∈ p) : g a b ∈ p := by
  have h : ∀ {x : Int}, x ∈ p → In n x ∧ Cl g u p x := fun hx => clS_mem.1 (by rw [hp.2]; exact hx)
  rw [← hp.2, clS_mem]
  exact ⟨hg.rg _ _ (h ha).1 (h hb).1, (cl_mul hg hp.1.1 (h ha).2 (h ha).1 (h hb).2).2⟩
theorem prt_inv (hg : Gr n g u) (hp : Prt n g u p) {a : Int} (ha : a ∈ p) : ∃ b, b ∈ p ∧ g a b = u ∧ g b a = u := by
  have pn : p.Nodup := List.Pairwise.imp (fun h => by omega) hp.1.2
  have aI := hp.1.1 a ha
  have nd : (p.map (g a)).Nodup := by
    refine List.pairwise_map.mpr ?_
    have : ∀ {l : List Int}, l.Nodup → (∀ x, x ∈ l → In n x) → l.Pairwise fun x y => g a x ≠ g a y := by
      intro l
      induction l with
      | nil => exact fun _ _ => .nil
      | cons x l ih =>
        intro h w
        rw [List.nodup_cons] at h
        rw [List.pairwise_cons]
        exact ⟨fun y hy e => h.1 (hg.lc aI (w x (by simp)) (w y (by simp [hy])) e ▸ hy), ih h.2 fun y hy => w y (by simp [hy])⟩
    exact this pn hp.1.1
  have this : u ∈ p.map (g a) := Classical.byContradiction fun no => by
    have nd2 : (u :: p.map (g a)).Nodup := List.nodup_cons.mpr ⟨no, nd⟩
    have := nodup_len nd2 (l' := p) fun x hx => by
      rcases List.mem_cons.mp hx with rfl | hx
      · exact prt_u hg hp
      · obtain ⟨k, hk, rfl⟩ := List.mem_map.mp hx
        exact prt_mul hg hp ha hk
    rw [List.length_cons, List.length_map] at this
    omega
  obtain ⟨b, hb, e⟩ := List.mem_map.mp this
  have bI := hp.1.1 b hb
  refine ⟨b, hb, e, ?_⟩
  refine hg.lc aI (hg.rg b a bI aI) hg.un ?_
  rw [← hg.as a b a aI bI aI, e, hg.ul a aI, hg.ur a aI]
theorem csI_eq (hg : Gr n g u) (hp : Prt n g u p) {a b : Int} (ha : In n a) (hb : b ∈ csI n g p a) : csI n g p b = csI n g p a := by
  obtain ⟨bI, k, hk, e⟩ := csI_mem.1 hb
  have kI := hp.1.1 k hk
  refine inc_ext' (csI_lt n g p b).2 (csI_lt n g p a).2 fun x => ?_
  rw [csI_mem, csI_mem]
  constructor
  · rintro ⟨xI, l, hl, rfl⟩
    refine ⟨xI, g k l, prt_mul hg hp hk hl, ?_⟩
    rw [← e, hg.as a k l ha kI (hp.1.1 l hl)]
  · rintro ⟨xI, l, hl, rfl⟩
    obtain ⟨m, hm, e1, e2⟩ := prt_inv hg hp hk
    have mI := hp.1.1 m hm
    have lI := hp.1.1 l hl
    refine ⟨xI, g m l, prt_mul hg hp hm hl, ?_⟩
    rw [← e, hg.as a k (g m l) ha kI (hg.rg _ _ mI lI), ← hg.as k m l kI mI lI, e1, hg.ul l lI]
theorem csI_self (hg : Gr n g u) (hp : Prt n g u p) {a : Int} (ha : In n a) : a ∈ csI n g p a := csI_mem.2 ⟨ha, u, prt_u hg hp, hg.ur a ha⟩
theorem csI_len (hg : Gr n g u) (hp : Prt n g u p) {a : Int} (ha : In n a) : (csI n g p a).length = p.length := by
  obtain ⟨ns, pm, s⟩ : ∃ ns : List Int, ns.Perm (p.map (g a)) ∧ ns.Pairwise (· ≤ ·) := ⟨(p.map (g a)).mergeSort, List.mergeSort_perm _ _, by
    have := List.pairwise_mergeSort (le := fun a b : Int => decide (a ≤ b)) (fun a b c h1 h2 => by simp at *; omega) (fun a b => by simp; omega) (p.map (g a))
    simpa using this⟩
  rw [← csI_of hg hp.1 ha pm s, pm.length_eq, List.length_map]
def ldI (n : Nat) (g : F1) (p : List Int) : List Int := (rgI n).filter fun a => decide ((csI n g p a).head? = some a)
theorem head_in {l : List Int} {a : Int} (h : l.head? = some a) : a ∈ l := by
  cases l with
  | nil => cases h
  | cons x l => simp at h; simp [h]
theorem ld_of (hg : Gr n g u) (hp : Prt n g u p) {a : Int} (ha : In n a) : ∃ b, b ∈ ldI n g p ∧ csI n g p b = csI n g p a := by
  cases e : (csI n g p a).head? with
  | none =>
    have := csI_self hg hp ha
    rw [List.head?_eq_none_iff.mp e] at this
    cases this
  | some b =>
    have hb := head_in e
    have eb := csI_eq hg hp ha hb
    refine ⟨b, ?_, eb⟩
    unfold ldI
    rw [List.mem_filter]
    exact ⟨In.mem.2 (csI_mem.1 hb).1, decide_eq_true (by rw [eb]; exact e)⟩
theorem ld_mem {a : Int} : a ∈ ldI n g p ↔ In n a ∧ (csI n g p a).head? = some a := by
  unfold ldI
  rw [List.mem_filter, decide_eq_true_eq]
  exact ⟨fun h => ⟨In.mem.1 h.1, h.2⟩, fun h => ⟨In.mem.2 h.1, h.2⟩⟩
theorem ld_inj {a b : Int} (ha : a ∈ ldI n g p) (hb : b ∈ ldI n g p) (e : csI n g p a = csI n g p b) : a = b := by
  have h1 := (ld_mem.1 ha).2
  have h2 := (ld_mem.1 hb).2
  rw [e, h2] at h1
  exact (Option.some.inj h1).symm
theorem prt_dvd (hg : Gr n g u) (hp : Prt n g u p) : n = (ldI n g p).length * p.length := by
  have nd : ((ldI n g p).flatMap (csI n g p)).Nodup := by
    have ln : (ldI n g p).Nodup := List.Pairwise.imp (fun h => by omega) ((rgI_lt n).sublist (List.filter_sublist (p := fun a => decide ((csI n g p a).head? = some a))))
    have : ∀ {l : List Int}, l.Nodup → (∀ x, x ∈ l → x ∈ ldI n g p) → (l.flatMap (csI n g p)).Nodup := by
      intro l
      induction l with
      | nil => exact fun _ _ => by simp
      | cons x l ih =>
        intro h w
        rw [List.nodup_cons] at h
        rw [List.flatMap_cons, List.nodup_append]
        refine ⟨List.Pairwise.imp (fun h => by omega) (csI_lt n g p x).2, ih h.2 fun y hy => w y (by simp [hy]), fun y hy z hz e => ?_⟩
        subst e
        obtain ⟨v, hv, hy2⟩ := List.mem_flatMap.mp hz
        have e1 := csI_eq hg hp (ld_mem.1 (w x (by simp))).1 hy
        have e2 := csI_eq hg hp (ld_mem.1 (w v (by simp [hv]))).1 hy2
        have := ld_inj (w x (by simp)) (w v (by simp [hv])) (e1.symm.trans e2)
        exact h.1 (this ▸ hv)
    exact this ln fun x h => h
  have pm : ((ldI n g p).flatMap (csI n g p)).length = (rgI n).length := by
    refine Nat.le_antisymm (nodup_len nd fun x hx => ?_) (nodup_len (List.Pairwise.imp (fun h => by omega) (rgI_lt n)) fun x hx => ?_)
    · obtain ⟨a, _, h⟩ := List.mem_flatMap.mp hx
      exact In.mem.2 (csI_mem.1 h).1
    · have xI := In.mem.1 hx
      obtain ⟨b, hb, e⟩ := ld_of hg hp xI
      exact List.mem_flatMap.mpr ⟨b, hb, by rw [e]; exact csI_self hg hp xI⟩
  rw [rgI_len] at pm
  have : ∀ {l : List Int}, (∀ x, x ∈ l → x ∈ ldI n g p) → (l.flatMap (csI n g p)).length = l.length * p.length := by
    intro l
    induction l with
    | nil => exact fun _ => by simp
    | cons x l ih =>
      intro w
      rw [List.flatMap_cons, List.length_append, csI_len hg hp (ld_mem.1 (w x (by simp))).1, ih fun y hy => w y (by simp [hy]), List.length_cons, Nat.add_mul, Nat.one_mul, Nat.add_comm]
  rw [this fun x h => h] at pm
  exact pm.symm
end
def sdI (n : Nat) (g : F1) (p : List Int) : List (List Int) := (ldI n g p).map (csI n g p)
def nmI (n : Nat) (g : F1) (p : List Int) (x : Int) : Int := (((sdI n g p).idxOf (csI n g p x) : Nat) : Int)
def qgI (n : Nat) (g : F1) (p : List Int) : F1 := fun i j => nmI n g p (g (im (ldI n g p) i) (im (ldI n g p) j))
section
variable {n : Nat} {g : F1} {u : Int} {p : List Int}
theorem nm_in (hg : Gr n g u) (hp : Prt n g u p) {x : Int} (hx : In n x) : In (ldI n g p).length (nmI n g p x) ∧ csI n g p (im (ldI n g p) (nmI n g p x)) = csI n g p x ∧ im (ldI n g p) (nmI n g p x) ∈ ldI n g p := by
  obtain ⟨b, hb, e⟩ := ld_of hg hp hx
  have m : csI n g p x ∈ sdI n g p := List.mem_map.mpr ⟨b, hb, e⟩
  have l := List.idxOf_lt_length_of_mem m
  have l2 : (sdI n g p).idxOf (csI n g p x) < (ldI n g p).length := by
    have e2 : (sdI n g p).length = (ldI n g p).length := by unfold sdI; rw [List.length_map]
    omega
  have g1 : (sdI n g p)[(sdI n g p).idxOf (csI n g p x)]? = some (csI n g p x) := by
    rw [List.getElem?_eq_getElem l, List.getElem_idxOf l]
  have g2 : im (ldI n g p) (nmI n g p x) = (ldI n g p)[(sdI n g p).idxOf (csI n g p x)] := by
    unfold im nmI
    rw [show ((((sdI n g p).idxOf (csI n g p x) : Nat) : Int)).toNat = (sdI n g p).idxOf (csI n g p x) from by omega, List.getD_eq_getElem?_getD, List.getElem?_eq_getElem l2]
    rfl
  refine ⟨⟨by unfold nmI; omega, by unfold nmI; omega⟩, ?_, by rw [g2]; exact List.getElem_mem l2⟩
  rw [g2]
  unfold sdI at g1
  rw [List.getElem?_map] at g1
  unfold sdI at l2
  rw [List.getElem?_eq_getElem l2] at g1
  exact Option.some.inj g1
theorem nm_eq {x y : Int} (e : csI n g p x = csI n g p y) : nmI n g p x = nmI n g p y := by unfold nmI; rw [e]
theorem cs_mul (hg : Gr n g u) (hp : Prt n g u p) (hw : nrmB n g u p = true) {a a' b b' : Int} (ha : In n a) (ha' : In n a') (hb : In n b) (hb' : In n b') (ea : csI n g p a' = csI n g p a) (eb : csI n g p b' = csI n g p b) : csI n g p (g a' b') = csI n g p (g a b) := by
  have ma : a' ∈ csI n g p a := by rw [← ea]; exact csI_self hg hp ha'
  have mb : b' ∈ csI n g p b := by rw [← eb]; exact csI_self hg hp hb'
  obtain ⟨_, k, hk, rfl⟩ := csI_mem.1 ma
  obtain ⟨_, l, hl, rfl⟩ := csI_mem.1 mb
  have kI := hp.1.1 k hk
  have lI := hp.1.1 l hl
  -- c, back of b
  obtain ⟨cI, c1, c2⟩ := bk_is hg hb
  generalize im (bkL n g u) b = c at cI c1 c2
  obtain ⟨dI, d1, d2⟩ := bk_is hg cI
  have eD : im (bkL n g u) c = b := hg.lc cI dI hb (by rw [d1, c2])
  have nk : g (g c k) b ∈ p := by
    unfold nrmB at hw
    rw [List.all_eq_true] at hw
    have := hw c (In.mem.2 cI)
    rw [List.all_eq_true] at this
    have := of_decide_eq_true (this k hk)
    rwa [eD] at this
  refine csI_eq hg hp (hg.rg a b ha hb) (csI_mem.2 ⟨hg.rg _ _ ha' hb', g (g (g c k) b) l, prt_mul hg hp nk hl, ?_⟩)
  have ckI := hg.rg c k cI kI
  have ckb := hg.rg _ _ ckI hb
  -- (a b) ((c k b) l) = (a k) (b l)
  rw [← hg.as (g a b) (g (g c k) b) l (hg.rg _ _ ha hb) ckb lI, ← hg.as (g a k) b l (hg.rg _ _ ha kI) hb lI]
  congr 1
  rw [hg.as a b (g (g c k) b) ha hb ckb, hg.as a k b ha kI hb]
  congr 1
  rw [← hg.as b (g c k) b hb ckI hb, ← hg.as b c k hb cI kI, c1, hg.ul k kI]
theorem im_inj {l : List Int} (nd : l.Nodup) {i j : Int} (hi : In l.length i) (hj : In l.length j) (e : im l i = im l j) : i = j := by
  have l1 : i.toNat < l.length := by have := hi.1; have := hi.2; omega
  have l2 : j.toNat < l.length := by have := hj.1; have := hj.2; omega
  unfold im at e
  rw [List.getD_eq_getElem?_getD, List.getElem?_eq_getElem l1, List.getD_eq_getElem?_getD, List.getElem?_eq_getElem l2] at e
  have e : l[i.toNat] = l[j.toNat] := e
  have ne : ∀ a b (ha : a < l.length) (hb : b < l.length), a < b → l[a] ≠ l[b] := fun a b ha hb h => (List.pairwise_iff_getElem.mp nd) a b ha hb h
  have h0 := hi.1
  have h1 := hj.1
  rcases Nat.lt_trichotomy i.toNat j.toNat with z | z | z
  · exact absurd e (ne _ _ l1 l2 z)
  · omega
  · exact absurd e.symm (ne _ _ l2 l1 z)
theorem nm_ld (hg : Gr n g u) (hp : Prt n g u p) {i : Int} (hi : In (ldI n g p).length i) : im (ldI n g p) i ∈ ldI n g p ∧ In n (im (ldI n g p) i) ∧ nmI n g p (im (ldI n g p) i) = i := by
  have l : i.toNat < (ldI n g p).length := by have := hi.1; have := hi.2; omega
  have e : im (ldI n g p) i = (ldI n g p)[i.toNat] := by unfold im; rw [List.getD_eq_getElem?_getD, List.getElem?_eq_getElem l]; rfl
  have m : im (ldI n g p) i ∈ ldI n g p := by rw [e]; exact List.getElem_mem l
  have mI := (ld_mem.1 m).1
  refine ⟨m, mI, ?_⟩
  have q := nm_in hg hp mI
  have e2 := ld_inj q.2.2 m q.2.1
  -- the least things are told apart by their places
  have ln : (ldI n g p).Nodup := List.Pairwise.imp (fun h => by omega) ((rgI_lt n).sublist (List.filter_sublist (p := fun a => decide ((csI n g p a).head? = some a))))
  exact im_inj ln q.1 hi e2
theorem qg_gr (hg : Gr n g u) (hp : Prt n g u p) (hw : nrmB n g u p = true) : Gr (ldI n g p).length (qgI n g p) (nmI n g p u) := by
  have hom : ∀ {a b : Int}, In n a → In n b → qgI n g p (nmI n g p a) (nmI n g p b) = nmI n g p (g a b) := fun {a b} ha hb => by
    have qa := nm_in hg hp ha
    have qb := nm_in hg hp hb
    exact nm_eq (cs_mul hg hp hw ha (ld_mem.1 qa.2.2).1 hb (ld_mem.1 qb.2.2).1 qa.2.1 qb.2.1)
  have sur : ∀ {i : Int}, In (ldI n g p).length i → ∃ a, In n a ∧ nmI n g p a = i := fun hi => ⟨_, (nm_ld hg hp hi).2.1, (nm_ld hg hp hi).2.2⟩
  refine ⟨fun i j hi hj => ?_, (nm_in hg hp hg.un).1, fun i hi => ?_, fun i hi => ?_, fun i j k hi hj hk => ?_, fun i hi => ?_⟩
  · obtain ⟨a, ha, rfl⟩ := sur hi
    obtain ⟨b, hb, rfl⟩ := sur hj
    rw [hom ha hb]
    exact (nm_in hg hp (hg.rg a b ha hb)).1
  · obtain ⟨a, ha, rfl⟩ := sur hi
    rw [hom hg.un ha, hg.ul a ha]
  · obtain ⟨a, ha, rfl⟩ := sur hi
    rw [hom ha hg.un, hg.ur a ha]
  · obtain ⟨a, ha, rfl⟩ := sur hi
    obtain ⟨b, hb, rfl⟩ := sur hj
    obtain ⟨c, hc, rfl⟩ := sur hk
    rw [hom ha hb, hom (hg.rg a b ha hb) hc, hom hb hc, hom ha (hg.rg b c hb hc), hg.as a b c ha hb hc]
  · obtain ⟨a, ha, rfl⟩ := sur hi
    obtain ⟨b, hb, e1, e2⟩ := hg.iv a ha
    exact ⟨nmI n g p b, (nm_in hg hp hb).1, by rw [hom ha hb, e1], by rw [hom hb ha, e2]⟩
end
end Dn.T.G.K07
set_option Elab.async false
set_option linter.all false
set_option maxRecDepth 100000
set_option autoImplicit false
set_option maxHeartbeats 4000000
namespace Dn.T.G.K07
open PySem L2 Evl PySem.Spec PyProof.Rows
def S_Group__quotient (ds : List D) (Q : D → Prop) : Prop := ∃ n g u p, ds = [grpD n g u, tI p] ∧ G24 n g u ∧ Prt n g u p ∧ nrmB n g u p = true ∧ Q (.tuple [grpD (ldI n g p).length (qgI n g p) (nmI n g p u), tR (sdI n g p)])
abbrev N_Group__quotient : List Str := ["self", "things", "sides", "numbers", "thing", "row", "side", "member", "leasts", "rows", "members", "a", "b"]
abbrev P_Group__quotient : List Str := ["self", "things"]
def g_Group__quotient : DS := sSeq (sIf (dTNot (dTst (dMeth 2 "Group" "is_whole" S_Group__is_whole (dVar 0) (aCons (dVar 1) (aNil))))) (sNever) (sNx)) (sSeq (sSet 2 (xOw (lLst (aNil)))) (sSeq (sSet 3 (xDct)) (sSeq (sFor (iEn (dFld "Group" "_rows" (dVar 0))) (gTp 2 (gsCons (gNm 4) (gsCons (gNm 5) (gsNil)))) (sIf (dTst (dInK true 3 (dVar 4))) (sSeq (sSet 6 (xIm (dOfL (lSort (dOfL (lLc (iSq (dVar 1)) (gNm 7) (dYes) (dBin dIx (dVar 5) (dVar 7)) [7])))))) (sSeq (sFor (iSq (dVar 6)) (gNm 7) (sPutK 3 (dVar 7) (dCallO 2 dLen))) (sEx (dApp 2 (dCall dTupOf (aCons (dVar 6) (aNil))))))) (sNx))) (sSeq (sSet 8 (xIm (dOfL (lLc (iOw 2) (gNm 10) (dYes) (dBin dIx (dVar 10) (dC (.int 0))) [10])))) (sSeq (sSet 9 (xIm (dCall dTupOf (aCons (dOfL (lLc (iSq (dVar 8)) (gNm 11) (dYes) (dCall dTupOf (aCons (dOfL (lLc (iSq (dVar 8)) (gNm 12) (dYes) (dGetK 3 (dBin dIx (dBin dIx (dFld "Group" "_rows" (dVar 0)) (dVar 11)) (dVar 12))) [12])) (aNil))) [11])) (aNil))))) (sRet (dTup (aCons (dNew 2 "Group" S_Group____init__ (aCons (dVar 9) (aNil))) (aCons (dCall dTupOf (aCons (dVar 2) (aNil))) (aNil))))))))))
end Dn.T.G.K07
set_option Elab.async false
set_option linter.all false
set_option maxRecDepth 100000
set_option autoImplicit false
set_option maxHeartbeats 4000000
namespace Dn.T.G.K07
open PySem L2 Evl PySem.Spec PyProof.Rows
local macro_rules | `(tactic| walk_at "dd") => `(tactic| simp only [sSeq, sIf, sSet, sRet, sRetN, sNx, sEx, sAsg, sPar, dTOr, dTAnd, dTNot, dTst, dIsi, dVar, dC, dBin, dChain, dNeg, dI2, dAnd, dOr, dNot, dIfE, dCall, dCallF, aCons, aNil, dTup, lLst, dOfL, xIm, xOw, gNm, gTp, gsCons, gsNil, dYes, envD, dLen_tR, dLen_tI, dLen_tup, dLen_lst, seq_tR, seq_tI, seq_tup, seq_lst, dIs, dIsNot, dNe, dEq, dTupOf, dSl, oNone, oSome, iSq, iEn, iR1, iR2, sFor, lLc, sNever, dTRg, rg1, rg2, lRg, wipeD, isN,
  gTpL, dIxP, sSub, dApp, dPopAt, dExt, dCallM, dCallO, dBinO, dTupO, lOf, lOfO, sRetO, iOw, dVarF, lCat, lCall, dAbs, dMax2, dMin2, dInt, atO, setO, MO.getL, MO.putL, Option.isSome_some,
  dInK, dGetK, dGetD, dInD, dGet1, lKeys, lSort, dLenSet, dLenSetL, dLenSet2, sPar3, dRevT, sPutK, xDct, xDct1, sRetK, atK, keyD, sAugI, dFld, sFldD, xRng, iRgO, dNew, dNewV, dCM, dProp, dMeth, dLenI, dStrO, dEqI, dIsC, dJoin, dJs, dFmt, dCallML, sSubI, gSubW, sWh, dTF, gIx, xProp, xDctI, lKeysK, lSortK, sForO, dRepU, dKeep2, lSortSet, lSortTu, lDc, dRepT, lRep, dStrI, xDctT1, xDctOf, dInT, sPutT, lSortT2, lSortDT, dPop, dBinR, dKeep, dCallMO, atT, dCallO,
  kit_int, kit_bool, kit_tuple, kit_str, List.map_cons, List.map_nil, List.cons_append, List.nil_append, List.replicate, List.set_cons_zero, List.set_cons_succ, List.getElem?_cons_zero, List.getElem?_cons_succ, List.length_cons, List.length_nil, List.length_map, Nat.reduceAdd, Nat.reduceSub, Bool.not_true, Bool.not_false, Bool.false_eq_true, if_true, if_false, true_and, reduceCtorEq, Bool.true_eq_false, rgD_rgI, Option.some.injEq, exists_eq_left', and_true])
theorem find_rep (k x : Key) (d : D) : ∀ kvs : List (Key × D), ((kvs.map fun kv => if kv.1 = k then (kv.1, d) else kv).find? fun kv => decide (kv.1 = x)).map (·.2) = if x = k then (if (kvs.any fun kv => decide (kv.1 = k)) = true then some d else none) else valD kvs x
  | [] => by simp [valD]
  | q :: kvs => by
    have ih := find_rep k x d kvs
    by_cases z : q.1 = k
    · by_cases zx : x = k
      · subst zx
        simp [List.find?_cons, z]
      · have e : ¬ q.1 = x := fun w => zx (by rw [← w]; exact z)
        rw [if_neg zx] at ih ⊢
        have e2 : valD (q :: kvs) x = valD kvs x := by simp [valD, List.find?_cons, e]
        have e4 : ¬ k = x := fun w => zx w.symm
        rw [e2, ← ih, List.map_cons, if_pos z, List.find?_cons]
        have e5 : decide ((q.1, d).1 = x) = false := decide_eq_false e
        rw [e5]
    · by_cases zx : q.1 = x
      · have e : ¬ x = k := fun w => z (by rw [zx]; exact w)
        simp [List.find?_cons, z, zx, valD, e]
      · have e2 : valD (q :: kvs) x = valD kvs x := by simp [valD, List.find?_cons, zx]
        have e3 : ((q :: kvs).any fun kv => decide (kv.1 = k)) = kvs.any fun kv => decide (kv.1 = k) := by simp [z]
        rw [e2, e3, ← ih]
        simp [List.find?_cons, z, zx]
theorem valD_put (kvs : List (Key × D)) (k : Key) (d : D) (x : Key) : valD (putD kvs k d) x = if x = k then some d else valD kvs x := by
  unfold putD
  split
  · rename_i hany
    show ((kvs.map fun kv => if kv.1 = k then (kv.1, d) else kv).find? fun kv => decide (kv.1 = x)).map (·.2) = _
    rw [find_rep, if_pos hany]
  · rename_i hany
    unfold valD
    rw [List.find?_append]
    by_cases zx : x = k
    · subst zx
      have : kvs.find? (fun kv => decide (kv.1 = x)) = none := by
        rw [List.find?_eq_none]
        intro p hp w
        exact hany (List.any_eq_true.mpr ⟨p, hp, w⟩)
      rw [this, if_pos rfl]
      simp
    · rw [if_neg zx]
      have : [(k, d)].find? (fun kv => decide (kv.1 = x)) = none := by
        rw [List.find?_eq_none]
        intro p hp
        rw [List.mem_singleton.mp hp]
        exact fun w => zx (of_decide_eq_true w).symm
      rw [this, Option.or_none]
theorem putD_len (kvs : List (Key × D)) (k : Key) (d : D) : (putD kvs k d).length ≤ kvs.length + 1 := by
  unfold putD
  split
  · rw [List.length_map]; omega
  · rw [List.length_append]; simp
theorem tI_int' {l : List Int} {a : Int → Int} : PyData.tuple (l.map fun y => .int (a y)) = tI (l.map a) := by unfold tI; rw [List.map_map]; rfl
theorem self_map (l : List Int) : l = (rgI l.length).map (im l) := by
  refine List.ext_getElem? fun i => ?_
  unfold rgI
  rw [List.map_map, List.getElem?_map]
  by_cases h : i < l.length
  · rw [List.getElem?_range h]
    simp [im, h]
  · rw [List.getElem?_eq_none (by omega), List.getElem?_eq_none (by simp; omega)]
    rfl
theorem ld_new {n : Nat} {g : F1} {u : Int} {p l1 l2 : List Int} {a : Int} (hg : Gr n g u) (hp : Prt n g u p) (el : rgI n = l1 ++ a :: l2) : csI n g p a ∈ (l1.filter fun a => decide ((csI n g p a).head? = some a)).map (csI n g p) ↔ ¬ (csI n g p a).head? = some a := by
  have srt := rgI_lt n
  rw [el, List.pairwise_append] at srt
  have ha : In n a := In.mem.1 (by rw [el]; simp)
  constructor
  · intro h w
    obtain ⟨b, hb, e⟩ := List.mem_map.mp h
    obtain ⟨hb1, hb2⟩ := List.mem_filter.mp hb
    have hb2 := of_decide_eq_true hb2
    rw [e, w] at hb2
    have := srt.2.2 b hb1 a (by simp)
    have := Option.some.inj hb2
    omega
  · intro w
    cases e : (csI n g p a).head? with
    | none =>
      have := csI_self hg hp ha
      rw [List.head?_eq_none_iff.mp e] at this
      cases this
    | some b =>
      have hb := head_in e
      have eb := csI_eq hg hp ha hb
      have bI := (csI_mem.1 hb).1
      have le : b ≤ a := by
        have m := csI_self hg hp ha
        have sx := (csI_lt n g p a).2
        cases hc : csI n g p a with
        | nil => rw [hc] at m; cases m
        | cons y l =>
          rw [hc] at e m sx
          have : y = b := by simpa using e
          subst this
          rcases List.mem_cons.mp m with z | z
          · omega
          · have := (List.pairwise_cons.mp sx).1 a z
            omega
      have ne : b ≠ a := fun z => w (by rw [e, z])
      have bm : b ∈ l1 ++ a :: l2 := by rw [← el]; exact In.mem.2 bI
      have b1 : b ∈ l1 := by
        rcases List.mem_append.mp bm with z | z
        · exact z
        · rcases List.mem_cons.mp z with z | z
          · exact absurd z ne
          · have := (List.pairwise_cons.mp srt.2.1).1 b z
            omega
      exact List.mem_map.mpr ⟨b, List.mem_filter.mpr ⟨b1, decide_eq_true (by rw [eb]; exact e)⟩, eb⟩
theorem v_Group__quotient : VD g_Group__quotient S_Group__quotient 2 11 := fun ds Q _ h => by
  obtain ⟨n, g, u, p, rfl, hg, hp, hw, h⟩ := h
  have hn := hg.2
  have pl := few_in (List.Pairwise.imp (fun h => by omega) hp.1.2 : p.Nodup) hp.1.1
  unfold g_Group__quotient
  walk_at "dd"
  refine ⟨_, rfl, rfl, n, g, u, p, rfl, hg, hp.1, ?_⟩
  rw [show whlB n g u p = true from by unfold whlB; rw [hw, decide_eq_true hp.2]; rfl]
  show if (!true) = true then False else _
  rw [if_neg (by decide)]
  refine ⟨by decide, _, _, rfl, rfl, _, rfl, ?_⟩
  rw [tab_tI, enD_map (rgI n) (fun x => tI ((rgI n).map (g x))) 0, rgI_len]
  -- the sides of what was met
  refine wpFor_pre (rgI n) (fun k => .tuple [.int k, tI ((rgI n).map (g ((rgI n).getD k.toNat 0)))]) (fun l1 ρ => ∃ kvs x4 x5 x6 x7 x8 x9, ρ = [some (.im (grpD n g u)), some (.im (tI p)), some (.ow (.lst (((l1.filter fun a => decide ((csI n g p a).head? = some a)).map (csI n g p)).map tI))), some (.ow (.dct kvs)), x4, x5, x6, x7, x8, x9, none, none, none] ∧ kvs.length ≤ 24 * l1.length ∧ ∀ x, In n x → valD kvs (Sum.inl x) = if csI n g p x ∈ (l1.filter fun a => decide ((csI n g p a).head? = some a)).map (csI n g p) then some (.int ((((l1.filter fun a => decide ((csI n g p a).head? = some a)).map (csI n g p)).idxOf (csI n g p x) : Nat) : Int)) else none) ⟨[], _, _, _, _, _, _, rfl, by simp, fun x _ => by simp [valD]⟩ (fun l1 a l2 el ρ K q k => ?_) (fun ρ q => ?_)
  · obtain ⟨kvs, x4, x5, x6, x7, x8, x9, rfl, kl, kv⟩ := q
    have ha : In n a := In.mem.1 (by rw [el]; simp)
    have ll := congrArg List.length el
    rw [List.length_append, List.length_cons, rgI_len] at ll
    rw [rg_at ha]
    generalize eS : (l1.filter fun a => decide ((csI n g p a).head? = some a)).map (csI n g p) = S at kv k ⊢
    try walk_at "dd"
    refine ⟨kvs, Sum.inl a, rfl, rfl, ?_⟩
    rw [kv a ha]
    have new := ld_new (l1 := l1) (l2 := l2) hg.1 hp el
    rw [eS] at new
    by_cases inS : csI n g p a ∈ S
    · rw [if_pos inS]
      have nl := new.1 inS
      refine (if_neg (fun z => Bool.false_ne_true z)).mpr ?_
      have e1 : (l1 ++ [a]).filter (fun a => decide ((csI n g p a).head? = some a)) = l1.filter fun a => decide ((csI n g p a).head? = some a) := by
        rw [List.filter_append, List.filter_cons, decide_eq_false nl]
        simp
      rw [e1, eS] at k
      exact k _ ⟨kvs, _, _, _, _, _, _, rfl, by simp; omega, kv⟩
    · rw [if_neg inS]
      have le : (csI n g p a).head? = some a := Classical.byContradiction fun w => inS (new.2 w)
      refine (if_pos rfl).mpr ?_
      have e1 : (l1 ++ [a]).filter (fun a => decide ((csI n g p a).head? = some a)) = (l1.filter fun a => decide ((csI n g p a).head? = some a)) ++ [a] := by
        rw [List.filter_append, List.filter_cons, decide_eq_true le]
        simp
      rw [e1, List.map_append, eS] at k
      refine wpLc_mapL p PyData.int (fun k => .int (g a k)) (by omega) rfl (fun k hk K2 hK2 => ?_) (fun _ => rfl) ?_
      · try walk_at "dd"
        exact ixY (hp.1.1 k hk) (hK2 _ rfl)
      refine ⟨p.map (g a), by rw [List.map_map]; rfl, ⟨_, rfl⟩, fun ns pm s => ?_⟩
      obtain rfl := csI_of hg.1 hp.1 ha pm s
      have cl := csI_len hg.1 hp ha
      show ∃ ds, seqD (.list ((csI n g p a).map PyData.int)) = some ds ∧ _
      refine ⟨_, rfl, ?_⟩
      refine wpFor_pre (csI n g p a) PyData.int (fun l ρ => ∃ kvs' x7, ρ = [some (.im (grpD n g u)), some (.im (tI p)), some (.ow (.lst (S.map tI))), some (.ow (.dct kvs')), some (.im (.int a)), some (.im (tI ((rgI n).map (g a)))), some (.im (.list ((csI n g p a).map PyData.int))), x7, x8, x9, none, none, none] ∧ kvs'.length ≤ kvs.length + l.length ∧ ∀ x, valD kvs' (Sum.inl x) = if x ∈ l then some (.int (S.length : Nat)) else valD kvs (Sum.inl x)) ⟨kvs, _, rfl, by simp, fun x => by simp⟩ (fun l m l' em ρ K2 q k2 => ?_) (fun ρ q => ?_)
      · obtain ⟨kvs', x7', rfl, kl', kv'⟩ := q
        have lm := congrArg List.length em
        rw [List.length_append, List.length_cons] at lm
        try walk_at "dd"
        refine ⟨rfl, kvs', Sum.inl m, rfl, rfl, (by rw [sizeLine_eq]; omega), ?_⟩
        refine k2 _ ⟨_, _, rfl, ?_, fun x => ?_⟩
        · have := putD_len kvs' (Sum.inl m) (.int (S.length : Nat))
          rw [List.length_append, List.length_cons, List.length_nil]
          exact Nat.le_trans this (by omega)
        · rw [valD_put, kv' x]
          by_cases z : x = m
          · subst z
            rw [if_pos rfl, if_pos (by simp)]
          · rw [if_neg (fun w => z (Sum.inl.inj w))]
            have : x ∈ l ++ [m] ↔ x ∈ l := by simp [z]
            simp only [this]
      · obtain ⟨kvs', x7', rfl, kl', kv'⟩ := q
        have Sl : S.length ≤ l1.length := by rw [← eS, List.length_map]; exact List.length_filter_le _ _
        try walk_at "dd"
        refine ⟨by omega, k _ ⟨kvs', _, _, _, _, _, _, by rw [List.map_append]; rfl, ?_, fun x hx => ?_⟩⟩
        · rw [List.length_append, List.length_cons, List.length_nil]
          omega
        · rw [kv' x, kv x hx]
          have ex : x ∈ csI n g p a ↔ csI n g p x = csI n g p a := ⟨fun w => csI_eq hg.1 hp ha w, fun w => by rw [← w]; exact csI_self hg.1 hp hx⟩
          rw [List.map_cons, List.map_nil, List.idxOf_append]
          by_cases z : csI n g p x = csI n g p a
          · rw [if_pos (ex.2 z), z, if_pos (by simp), if_neg inS]
            simp
          · rw [if_neg (fun w => z (ex.1 w))]
            have : csI n g p x ∈ S ++ [csI n g p a] ↔ csI n g p x ∈ S := by simp [z]
            by_cases y : csI n g p x ∈ S
            · rw [if_pos y, if_pos (this.2 y), if_pos y]
            · rw [if_neg y, if_neg (fun w => y (this.1 w))]
  · obtain ⟨kvs, x4, x5, x6, x7, x8, x9, rfl, kl, kv⟩ := q
    have eS : ((rgI n).filter fun a => decide ((csI n g p a).head? = some a)).map (csI n g p) = sdI n g p := rfl
    rw [eS] at kv ⊢
    try walk_at "dd"
    have all : ∀ {x : Int}, In n x → csI n g p x ∈ sdI n g p := fun {x} hx => by
      obtain ⟨b, hb, e⟩ := ld_of hg.1 hp hx
      exact List.mem_map.mpr ⟨b, hb, e⟩
    have lk : (ldI n g p).length ≤ n := by
      have := List.length_filter_le (fun a => decide ((csI n g p a).head? = some a)) (rgI n)
      rw [rgI_len] at this
      exact this
    have ldI' : ∀ b, b ∈ ldI n g p → In n b := fun b hb => (ld_mem.1 hb).1
    rw [show (sdI n g p).map tI = (ldI n g p).map fun b => tI (csI n g p b) from by unfold sdI; rw [List.map_map]; rfl]
    refine wpLc_mapL (ldI n g p) (fun b => tI (csI n g p b)) PyData.int (by omega) rfl (fun b hb K hK => ?_) (fun _ => rfl) ?_
    · try walk_at "dd"
      have hh := (ld_mem.1 hb).2
      refine ixI (by decide) (by
        cases hc : csI n g p b with
        | nil => rw [hc] at hh; cases hh
        | cons y l => simp) ?_
      have : (csI n g p b).getD (0 : Int).toNat 0 = b := by
        cases hc : csI n g p b with
        | nil => rw [hc] at hh; cases hh
        | cons y l => rw [hc] at hh; simpa using hh
      rw [this]
      exact hK _ rfl
    try walk_at "dd"
    refine wpLc_mapL (ldI n g p) PyData.int (fun a => tI ((ldI n g p).map fun b => nmI n g p (g a b))) (by omega) rfl (fun a ha K hK => ?_) (fun _ => rfl) ?_
    · try walk_at "dd"
      refine wpLc_mapL (ldI n g p) PyData.int (fun b => .int (nmI n g p (g a b))) (by omega) rfl (fun b hb K2 hK2 => ?_) (fun _ => rfl) ?_
      · have r1 := hg.1.rg a b (ldI' a ha) (ldI' b hb)
        try walk_at "dd"
        refine ⟨_, _, rfl, rfl, ixTR (ldI' a ha) (ixY (ldI' b hb) ⟨kvs, Sum.inl (g a b), .int (nmI n g p (g a b)), rfl, rfl, ?_, hK2 _ rfl⟩)⟩
        rw [kv _ r1, if_pos (all r1)]
        rfl
      · try walk_at "dd"
        rw [tI_int']
        exact hK _ rfl
    try walk_at "dd"
    refine ⟨(ldI n g p).length, qgI n g p, nmI n g p u, ?_, ⟨qg_gr hg.1 hp hw, by omega⟩, by decide, ?_⟩
    · have e : (ldI n g p).map (fun a => tI ((ldI n g p).map fun b => nmI n g p (g a b))) = (tab (ldI n g p).length (qgI n g p)).map tI := by
        rw [tab_tI]
        have sm := self_map (ldI n g p)
        generalize eL : ldI n g p = L at sm ⊢
        have : ∀ f : Int → D, L.map f = (rgI L.length).map fun i => f (im L i) := fun f => by
          conv => lhs; rw [sm]
          rw [List.map_map]
          rfl
        rw [this]
        refine List.map_congr_left fun i _ => ?_
        have : ∀ f : Int → Int, L.map f = (rgI L.length).map fun i => f (im L i) := fun f => by
          conv => lhs; rw [sm]
          rw [List.map_map]
          rfl
        rw [this]
        unfold qgI
        rw [eL]
      rw [e]
      rfl
    · have e : (ldI n g p).map (fun b => tI (csI n g p b)) = (sdI n g p).map tI := by unfold sdI; rw [List.map_map]; rfl
      rw [e]
      exact h
end Dn.T.G.K07
set_option Elab.async false
set_option linter.all false
set_option maxRecDepth 100000
set_option autoImplicit false
set_option maxHeartbeats 4000000
namespace Dn.T.G.K07
open PySem L2 Evl PySem.Spec PyProof.Rows
def S__law_some (ms ds : List D) (Q : D → List D → Prop) : Prop := ∃ n : Nat, ds = [.list ((rgI n).map PyData.int)] ∧ n ≤ 24 ∧ Dc ms ∧ ∀ p ms', Lt n p → Dc ms' → Q (.list (p.map PyData.int)) ms'
def S__law_quotient_right (ds : List D) (Q : D → Prop) : Prop := ∃ n g u p, ds = [grpD n g u, tR (tab n g), tI p] ∧ G24 n g u ∧ Prt n g u p ∧ nrmB n g u p = true ∧ Q (.bool true)
abbrev N__law_some : List Str := ["_law_dice_here", "_law_items", "_law_item"]
abbrev P__law_some : List Str := ["_law_dice_here", "_law_items"]
def g__law_some : DS := sRet (dOfL (lLc (iSq (dVar 1)) (gNm 2) (dTst (dBin dEq (dCallM 0 2 S__law_roll (aCons (dC (.int 2)) (aNil))) (dC (.int 0)))) (dVar 2) [2]))
abbrev N__law_quotient_right : List Str := ["_law_told", "_law_rows", "_law_part", "_law_sides_here", "_law_made", "_law_names", "_law_at", "_law_one", "_law_spot", "_law_other", "_law_goals", "_law_side"]
abbrev P__law_quotient_right : List Str := ["_law_told", "_law_rows", "_law_part"]
def g__law_quotient_right : DS := sSeq (sSet 3 (xIm (dCallF 2 S__law_sides (aCons (dVar 1) (aCons (dVar 2) (aNil)))))) (sSeq (sAsg (dMeth 2 "Group" "quotient" S_Group__quotient (dVar 0) (aCons (dVar 2) (aNil))) (gTp 2 (gsCons (gNm 4) (gsCons (gNm 5) (gsNil))))) (sSeq (sIf (dTOr (dTst (dBin dNe (dOfL (lOf (dVar 5))) (dVar 3))) (dTst (dBin dNe (dProp "Group" S_Group__size (dVar 4)) (dCall dLen (aCons (dVar 3) (aNil)))))) (sRet (dC (.bool false))) (sNx)) (sSeq (sFor (iEn (dVar 3)) (gTp 2 (gsCons (gNm 6) (gsCons (gNm 7) (gsNil)))) (sFor (iEn (dVar 3)) (gTp 2 (gsCons (gNm 8) (gsCons (gNm 9) (gsNil)))) (sSeq (sSet 10 (xIm (dOfL (lLc (iSq (dVar 3)) (gNm 11) (dTst (dBin (dIn false) (dBin dIx (dBin dIx (dVar 1) (dBin dIx (dVar 7) (dNeg (dC (.int 1))))) (dBin dIx (dVar 9) (dC (.int 0)))) (dVar 11))) (dVar 11) [11])))) (sIf (dTst (dBin dNe (dBin dIx (dVar 3) (dMeth 3 "Group" "times" S_Group__times (dVar 4) (aCons (dVar 6) (aCons (dVar 8) (aNil))))) (dBin dIx (dVar 10) (dC (.int 0))))) (sRet (dC (.bool false))) (sNx))))) (sRet (dC (.bool true))))))
end Dn.T.G.K07
set_option Elab.async false
set_option linter.all false
set_option maxRecDepth 100000
set_option autoImplicit false
set_option maxHeartbeats 4000000
namespace Dn.T.G.K07
open PySem L2 Evl PySem.Spec PyProof.Rows
local macro_rules | `(tactic| walk_at "dd") => `(tactic| simp only [sSeq, sIf, sSet, sRet, sRetN, sNx, sEx, sAsg, sPar, dTOr, dTAnd, dTNot, dTst, dIsi, dVar, dC, dBin, dChain, dNeg, dI2, dAnd, dOr, dNot, dIfE, dCall, dCallF, aCons, aNil, dTup, lLst, dOfL, xIm, xOw, gNm, gTp, gsCons, gsNil, dYes, envD, dLen_tR, dLen_tI, dLen_tup, dLen_lst, seq_tR, seq_tI, seq_tup, seq_lst, dIs, dIsNot, dNe, dEq, dTupOf, dSl, oNone, oSome, iSq, iEn, iR1, iR2, sFor, lLc, sNever, dTRg, rg1, rg2, lRg, wipeD, isN,
  gTpL, dIxP, sSub, dApp, dPopAt, dExt, dCallM, dCallO, dBinO, dTupO, lOf, lOfO, sRetO, iOw, dVarF, lCat, lCall, dAbs, dMax2, dMin2, dInt, atO, setO, MO.getL, MO.putL, Option.isSome_some,
  dInK, dGetK, dGetD, dInD, dGet1, lKeys, lSort, dLenSet, dLenSetL, dLenSet2, sPar3, dRevT, sPutK, xDct, xDct1, sRetK, atK, keyD, sAugI, dFld, sFldD, xRng, iRgO, dNew, dNewV, dCM, dProp, dMeth, dLenI, dStrO, dEqI, dIsC, dJoin, dJs, dFmt, dCallML, sSubI, gSubW, sWh, dTF, gIx, xProp, xDctI, lKeysK, lSortK, sForO, dRepU, dKeep2, lSortSet, lSortTu, lDc, dRepT, lRep, dStrI, xDctT1, xDctOf, dInT, sPutT, lSortT2, lSortDT, dPop, dBinR, dKeep, dCallMO, atT, dCallO,
  kit_int, kit_bool, kit_tuple, kit_str, List.map_cons, List.map_nil, List.cons_append, List.nil_append, List.replicate, List.set_cons_zero, List.set_cons_succ, List.getElem?_cons_zero, List.getElem?_cons_succ, List.length_cons, List.length_nil, List.length_map, Nat.reduceAdd, Nat.reduceSub, Bool.not_true, Bool.not_false, Bool.false_eq_true, if_true, if_false, true_and, reduceCtorEq, Bool.true_eq_false, rgD_rgI, Option.some.injEq, exists_eq_left', and_true])
theorem rg_pw (n : Nat) : (rgI n).Pairwise (· < ·) := by
  unfold rgI
  rw [List.pairwise_map]
  exact List.pairwise_lt_range.imp fun h => by simpa using h
theorem v__law_some : VM g__law_some S__law_some 2 1 := fun l ms ds Q _ h => by
  obtain ⟨n, rfl, hn, hd, h⟩ := h
  unfold g__law_some
  walk_at "dd"
  refine wpLc_cps (fun done acc ρ => ∃ ms', ρ = [some (.ow (.par l (.lst ms'))), some (.im (.list ((rgI n).map PyData.int))), none] ∧ Dc ms' ∧ acc.Sublist done) ⟨ms, rfl, hd, .slnil⟩ (fun done x rest acc ρ K e p k => ?_) (fun acc ρ p => ?_)
  · obtain ⟨ms', rfl, hm, sb⟩ := p
    have el := congrArg List.length e
    rw [List.length_map, rgI_len] at el
    simp at el
    have := sb.length_le
    refine ⟨by omega, ?_⟩
    try walk_at "dd"
    refine ⟨2, rfl, by decide, by decide, hm, fun r ms2 r0 r1 hm2 => ?_⟩
    try walk_at "dd"
    refine ⟨rfl, rfl, ite_ways (fun z => ?_) (fun z => ?_)⟩
    · exact k _ _ ⟨ms2, rfl, hm2, sb.append (List.Sublist.refl _)⟩
    · exact k _ _ ⟨ms2, rfl, hm2, sb.trans (List.sublist_append_left _ _)⟩
  · obtain ⟨ms', rfl, hm, sb⟩ := p
    try walk_at "dd"
    obtain ⟨p, hp, rfl⟩ := List.sublist_map_iff.1 sb
    exact ⟨_, rfl, h _ _ ⟨fun x hx => mem_rgI.1 (hp.subset hx), (rg_pw n).sublist hp⟩ hm⟩
end Dn.T.G.K07
set_option Elab.async false
set_option linter.all false
set_option maxRecDepth 100000
set_option autoImplicit false
set_option maxHeartbeats 4000000
namespace Dn.T.G.K07
open PySem L2 Evl PySem.Spec PyProof.Rows
local macro_rules | `(tactic| walk_at "dd") => `(tactic| simp only [sSeq, sIf, sSet, sRet, sRetN, sNx, sEx, sAsg, sPar, dTOr, dTAnd, dTNot, dTst, dIsi, dVar, dC, dBin, dChain, dNeg, dI2, dAnd, dOr, dNot, dIfE, dCall, dCallF, aCons, aNil, dTup, lLst, dOfL, xIm, xOw, gNm, gTp, gsCons, gsNil, dYes, envD, dLen_tR, dLen_tI, dLen_tup, dLen_lst, seq_tR, seq_tI, seq_tup, seq_lst, dIs, dIsNot, dNe, dEq, dTupOf, dSl, oNone, oSome, iSq, iEn, iR1, iR2, sFor, lLc, sNever, dTRg, rg1, rg2, lRg, wipeD, isN,
  gTpL, dIxP, sSub, dApp, dPopAt, dExt, dCallM, dCallO, dBinO, dTupO, lOf, lOfO, sRetO, iOw, dVarF, lCat, lCall, dAbs, dMax2, dMin2, dInt, atO, setO, MO.getL, MO.putL, Option.isSome_some,
  dInK, dGetK, dGetD, dInD, dGet1, lKeys, lSort, dLenSet, dLenSetL, dLenSet2, sPar3, dRevT, sPutK, xDct, xDct1, sRetK, atK, keyD, sAugI, dFld, sFldD, xRng, iRgO, dNew, dNewV, dCM, dProp, dMeth, dLenI, dStrO, dEqI, dIsC, dJoin, dJs, dFmt, dCallML, sSubI, gSubW, sWh, dTF, gIx, xProp, xDctI, lKeysK, lSortK, sForO, dRepU, dKeep2, lSortSet, lSortTu, lDc, dRepT, lRep, dStrI, xDctT1, xDctOf, dInT, sPutT, lSortT2, lSortDT, dPop, dBinR, dKeep, dCallMO, atT, dCallO,
  kit_int, kit_bool, kit_tuple, kit_str, List.map_cons, List.map_nil, List.cons_append, List.nil_append, List.replicate, List.set_cons_zero, List.set_cons_succ, List.getElem?_cons_zero, List.getElem?_cons_succ, List.length_cons, List.length_nil, List.length_map, Nat.reduceAdd, Nat.reduceSub, Bool.not_true, Bool.not_false, Bool.false_eq_true, if_true, if_false, true_and, reduceCtorEq, Bool.true_eq_false, rgD_rgI, Option.some.injEq, exists_eq_left', and_true])
theorem srt_uniq {L M : List (List Int)} (h1 : L.Pairwise fun a b => SrL.lx b a = false) (h2 : M.Pairwise fun a b => SrL.lx b a = false) (n1 : L.Nodup) (n2 : M.Nodup) (e : ∀ a, a ∈ L ↔ a ∈ M) : L = M :=
  List.Perm.eq_of_pairwise (le := fun a b => SrL.lx b a = false) (fun a b _ _ x y => SrL.lx_eq y x) h1 h2 ((List.perm_ext_iff_of_nodup n1 n2).2 e)
theorem atI_last {l : List D} {x : D} : atI (l ++ [x]) (-1) = some x := by
  unfold atI ixN
  have e : (-1 + ((l.length : Int) + 1)).toNat = l.length := by omega
  simp only [List.length_append, List.length_cons, List.length_nil]
  rw [if_neg (by omega), if_pos (by omega)]
  simp [e]
theorem pw_map {α β : Type} {R : α → α → Prop} {S : β → β → Prop} {f : α → β} : ∀ {l : List α}, l.Pairwise R → (∀ a b, a ∈ l → b ∈ l → R a b → S (f a) (f b)) → (l.map f).Pairwise S
  | [], _, _ => .nil
  | x :: l, h, k => by
    rw [List.map_cons]
    rw [List.pairwise_cons] at h ⊢
    refine ⟨fun y hy => ?_, pw_map h.2 fun a b ha hb => k a b (by simp [ha]) (by simp [hb])⟩
    obtain ⟨z, hz, rfl⟩ := List.mem_map.mp hy
    exact k x z (by simp) (by simp [hz]) (h.1 z hz)
theorem ld_pw (n : Nat) (g : F1) (p : List Int) : (ldI n g p).Pairwise (· < ·) := (rg_pw n).sublist List.filter_sublist
theorem hd_cons {l : List Int} {a : Int} (h : l.head? = some a) : ∃ t, l = a :: t := by
  cases l with
  | nil => cases h
  | cons y t => exact ⟨t, by simp at h; rw [h]⟩
theorem sd_uniq {n : Nat} {g : F1} {u : Int} {p : List Int} {L : List (List Int)} (hg : Gr n g u) (hp : Prt n g u p) (h1 : L.Pairwise fun a b => SrL.lx b a = false) (h2 : L.Nodup) (h3 : ∀ q : List Int, q ∈ L ↔ ∃ a, In n a ∧ q = csI n g p a) : L = sdI n g p := by
  refine srt_uniq h1 (pw_map (ld_pw n g p) fun a b ha hb ab => ?_) h2 (pw_map (ld_pw n g p) fun a b ha hb ab e => ?_) fun q => ⟨fun hq => ?_, fun hq => ?_⟩
  · obtain ⟨s, es⟩ := hd_cons (ld_mem.1 ha).2
    obtain ⟨t, et⟩ := hd_cons (ld_mem.1 hb).2
    rw [es, et]
    unfold SrL.lx
    rw [if_neg (by omega)]
    exact decide_eq_false (by omega)
  · have := ld_inj ha hb e
    omega
  · obtain ⟨a, ha, rfl⟩ := (h3 q).1 hq
    obtain ⟨b, hb, e⟩ := ld_of hg hp ha
    exact List.mem_map.mpr ⟨b, hb, e⟩
  · obtain ⟨b, hb, rfl⟩ := List.mem_map.mp hq
    exact (h3 _).2 ⟨b, (ld_mem.1 hb).1, rfl⟩
theorem v__law_quotient_right : VD g__law_quotient_right S__law_quotient_right 3 9 := fun ds Q _ h => by
  obtain ⟨n, g, u, p, rfl, hg, hp, hw, h⟩ := h
  unfold g__law_quotient_right
  walk_at "dd"
  refine ⟨n, g, u, p, rfl, hg, hp, fun L h1 h2 h3 => ?_⟩
  rw [sd_uniq hg.1 hp h1 h2 h3]
  try walk_at "dd"
  refine ⟨_, rfl, rfl, n, g, u, p, rfl, hg, hp, hw, ?_⟩
  have sl : (sdI n g p).length = (ldI n g p).length := by unfold sdI; rw [List.length_map]
  have ln : (ldI n g p).length ≤ n := by
    have := (List.filter_sublist (p := fun a => decide ((csI n g p a).head? = some a)) (l := rgI n)).length_le
    rw [rgI_len] at this
    exact this
  try walk_at "dd"
  have q0 : PyData.eqv (tL (sdI n g p)) (tL (sdI n g p)) = true := by
    have e : PyData.eqv (tR (sdI n g p)) (tR (sdI n g p)) = true := by rw [eqv_tR]; simp
    unfold tL
    unfold tR at e
    simp only [PyData.eqv] at e ⊢
    exact e
  refine ⟨shaped_tL _, shaped_tL _, ?_⟩
  rw [show PyData.list ((sdI n g p).map tI) = tL (sdI n g p) from rfl, q0, if_neg (by decide)]
  refine ⟨⟨_, rfl⟩, _, _, _, rfl, ?_⟩
  try walk_at "dd"
  have dl : ∀ R : D → Prop, dLen [tL (sdI n g p)] R = R (.int (sdI n g p).length) := fun R => by
    show dLen [.list _] R = _
    rw [dLen_lst, List.length_map]
  rw [dl, sl]
  refine ⟨rfl, rfl, ?_⟩
  rw [eqv_int, if_neg (by simp)]
  refine ⟨_, rfl, ?_⟩
  have em : (sdI n g p).map tI = (ldI n g p).map fun a => tI (csI n g p a) := by unfold sdI; rw [List.map_map]; rfl
  have nd : (ldI n g p).Nodup := (ld_pw n g p).imp fun h => by omega
  have enq : enD ((sdI n g p).map tI) = (rgI (ldI n g p).length).map fun k => .tuple [.int k, tI (csI n g p (im (ldI n g p) k))] := by rw [em, enD_map (ldI n g p) (fun a => tI (csI n g p a)) 0]; rfl
  rw [enq]
  refine wpFor_inv (fun ρ => ∃ x6 x7 x8 x9 x10, ρ = [some (SV.im (grpD n g u)), some (SV.im (tR (tab n g))), some (SV.im (tI p)), some (SV.im (tL (sdI n g p))), some (SV.im (grpD (ldI n g p).length (qgI n g p) (nmI n g p u))), some (SV.im (tR (sdI n g p))), x6, x7, x8, x9, x10, none]) ⟨_, _, _, _, _, rfl⟩ (fun d hd ρ K hI k => ?_) (fun ρ hI => ?_)
  · obtain ⟨i, hi, rfl⟩ := List.mem_map.mp hd
    rw [mem_rgI] at hi
    obtain ⟨x6, x7, x8, x9, x10, rfl⟩ := hI
    try walk_at "dd"
    refine ⟨_, rfl, ?_⟩
    rw [enq]
    refine wpFor_inv (fun ρ => ∃ x8 x9 x10, ρ = [some (SV.im (grpD n g u)), some (SV.im (tR (tab n g))), some (SV.im (tI p)), some (SV.im (tL (sdI n g p))), some (SV.im (grpD (ldI n g p).length (qgI n g p) (nmI n g p u))), some (SV.im (tR (sdI n g p))), some (.im (.int i)), some (.im (tI (csI n g p (im (ldI n g p) i)))), x8, x9, x10, none]) ⟨_, _, _, rfl⟩ (fun d hd ρ K2 hI k2 => ?_) (fun ρ hI => ?_)
    · obtain ⟨j, hj, rfl⟩ := List.mem_map.mp hd
      rw [mem_rgI] at hj
      obtain ⟨x8, x9, x10, rfl⟩ := hI
      try walk_at "dd"
      obtain ⟨a1, a2, a3⟩ := nm_ld hg.1 hp hi
      obtain ⟨b1, b2, b3⟩ := nm_ld hg.1 hp hj
      obtain ⟨tb, eb⟩ := hd_cons (ld_mem.1 b1).2
      obtain ⟨ta, z, ea⟩ : ∃ t z, csI n g p (im (ldI n g p) i) = t ++ [z] := by
        rcases List.eq_nil_or_concat (csI n g p (im (ldI n g p) i)) with e | ⟨t, z, e⟩
        · have := csI_self hg.1 hp a2
          rw [e] at this
          cases this
        · exact ⟨t, z, by rw [e, List.concat_eq_append]⟩
      have zm : z ∈ csI n g p (im (ldI n g p) i) := by rw [ea]; simp
      have zi : In n z := (csI_mem.1 zm).1
      have ze := csI_eq hg.1 hp a2 zm
      have gz := hg.1.rg z _ zi b2
      have gab := hg.1.rg _ _ a2 b2
      have qe : csI n g p (im (ldI n g p) (qgI n g p i j)) = csI n g p (g z (im (ldI n g p) j)) := by
        unfold qgI
        rw [(nm_in hg.1 hp gab).2.1]
        exact (cs_mul hg.1 hp hw a2 zi b2 b2 ze rfl).symm
      have qi : In (ldI n g p).length (qgI n g p i j) := (nm_in hg.1 hp gab).1
      refine ⟨_, rfl, ?_⟩
      rw [em]
      refine wpLc_filL (ldI n g p) (fun c => tI (csI n g p c)) (fun c => tI (csI n g p c)) (fun c => decide (g z (im (ldI n g p) j) ∈ csI n g p c)) (by have := hg.2; omega) rfl (fun c hc K3 N3 hK hN => ?_) ?_
      · try walk_at "dd"
        rw [ea]
        refine ⟨.int z, (by rw [List.map_append]; exact atI_last), ?_⟩
        refine ixTR zi ?_
        rw [eb]
        refine ⟨.int (im (ldI n g p) j), atI_zero, ?_⟩
        refine ixY b2 ?_
        refine ⟨_, rfl, rfl, (by rw [List.all_eq_true]; intro y hy; obtain ⟨_, _, rfl⟩ := List.mem_map.mp hy; rfl), ?_⟩
        rw [in_con]
        try walk_at "dd"
        rw [List.contains_eq_mem]
        rw [← ea, ← eb]
        cases hz : decide (g z (im (ldI n g p) j) ∈ csI n g p c) with
        | true => rw [if_pos rfl]; exact hK hz _ rfl
        | false => rw [if_neg (by decide)]; exact hN hz _ rfl
      · try walk_at "dd"
        refine ⟨_, rfl, rfl, _, _, _, _, _, rfl, ⟨qg_gr hg.1 hp hw, by have := hg.2; omega⟩, hi, hj, ?_⟩
        have gd : (sdI n g p).getD (qgI n g p i j).toNat [] = csI n g p (im (ldI n g p) (qgI n g p i j)) := by
          have q2 := qi.2
          have q3 := qi.1
          have lt : (qgI n g p i j).toNat < (ldI n g p).length := by omega
          unfold sdI im
          rw [List.getD_eq_getElem?_getD, List.getD_eq_getElem?_getD, List.getElem?_map, List.getElem?_eq_getElem lt]
          rfl
        refine ixL qi.1 (by rw [sl]; exact qi.2) ?_
        rw [gd, qe]
        have nn := nm_in hg.1 hp gz
        have inn : im (ldI n g p) (nmI n g p (g z (im (ldI n g p) j))) ∈ (ldI n g p).filter fun c => decide (g z (im (ldI n g p) j) ∈ csI n g p c) := List.mem_filter.mpr ⟨nn.2.2, decide_eq_true (by rw [nn.2.1]; exact csI_self hg.1 hp gz)⟩
        have al : ∀ c, c ∈ ((ldI n g p).filter fun c => decide (g z (im (ldI n g p) j) ∈ csI n g p c)) → csI n g p c = csI n g p (g z (im (ldI n g p) j)) := fun c hc => by
          obtain ⟨c1, c2⟩ := List.mem_filter.mp hc
          exact (csI_eq hg.1 hp (ld_mem.1 c1).1 (of_decide_eq_true c2)).symm
        generalize ((ldI n g p).filter fun c => decide (g z (im (ldI n g p) j) ∈ csI n g p c)) = F at inn al ⊢
        cases F with
        | nil => cases inn
        | cons c F =>
          refine ⟨tI (csI n g p c), atI_zero, ?_⟩
          rw [al c (by simp)]
          refine ⟨shaped_tI _, shaped_tI _, ?_⟩
          rw [eqv_tI, if_neg (by simp)]
          exact k2 _ ⟨_, _, _, rfl⟩
    · obtain ⟨x8, x9, x10, rfl⟩ := hI
      exact k _ ⟨_, _, _, _, _, rfl⟩
  · obtain ⟨x6, x7, x8, x9, x10, rfl⟩ := hI
    try walk_at "dd"
    exact h
end Dn.T.G.K07
set_option Elab.async false
set_option linter.all false
set_option maxRecDepth 100000
set_option autoImplicit false
set_option maxHeartbeats 4000000
namespace Dn.T.G.K07
open PySem L2 Evl PySem.Spec PyProof.Rows
def S__law_right (ms ds : List D) (Q : D → List D → Prop) : Prop := ds = [] ∧ Dc ms ∧ ∀ ms', Dc ms' → Q (.bool true) ms'
abbrev N__law_right : List Str := ["_law_dice_here", "_law_rows", "_law_told", "_law_size", "_law_parts", "_law_turn", "_law_things", "_law_part", "_law_is_whole"]
abbrev P__law_right : List Str := ["_law_dice_here"]
def g__law_right : DS := sSeq (sSet 1 (xIm (dCallM 0 2 S__law_group_rows (aCons (dC (.int 12)) (aNil))))) (sSeq (sAsg (dTup (aCons (dNew 2 "Group" S_Group____init__ (aCons (dVar 1) (aNil))) (aCons (dCall dLen (aCons (dVar 1) (aNil))) (aCons (dCallF 1 S__law_group_parts (aCons (dVar 1) (aNil))) (aNil))))) (gTp 3 (gsCons (gNm 2) (gsCons (gNm 3) (gsCons (gNm 4) (gsNil)))))) (sSeq (sFor (iR1 (dC (.int 4))) (gNm 5) (sSeq (sSet 6 (xIm (dCall dTupOf (aCons (dCallM 0 2 S__law_some (aCons (dOfL (lRg (rg1 (dVar 3)))) (aNil))) (aNil))))) (sSeq (sSet 6 (xIm (dSl (dVar 6) (oNone) (oSome (dCallM 0 2 S__law_roll (aCons (dC (.int 3)) (aNil))))))) (sSeq (sIf (dTst (dBin dNe (dMeth 2 "Group" "closure" S_Group__closure (dVar 2) (aCons (dVar 6) (aNil))) (dCallF 2 S__law_made_closed (aCons (dVar 1) (aCons (dVar 6) (aNil)))))) (sRet (dC (.bool false))) (sNx)) (sIf (dTst (dBin dNe (dMeth 2 "Group" "is_whole" S_Group__is_whole (dVar 2) (aCons (dVar 6) (aNil))) (dAnd (dBin (dInL false) (dVar 6) (dVar 4)) (dCallF 2 S__law_is_whole_part (aCons (dVar 1) (aCons (dVar 6) (aNil))))))) (sRet (dC (.bool false))) (sNx)))))) (sSeq (sIf (dTOr (dTst (dBin dNe (dMeth 1 "Group" "parts" S_Group__parts (dVar 2) aNil) (dCall dTupOf (aCons (dVar 4) (aNil))))) (dTst (dCall dAny (aCons (dOfL (lLc (iSq (dVar 4)) (gNm 7) (dYes) (dBin dNe (dBin dMod (dVar 3) (dCall dLen (aCons (dVar 7) (aNil)))) (dC (.int 0))) [7])) (aNil))))) (sRet (dC (.bool false))) (sNx)) (sSeq (sFor (iSq (dVar 4)) (gNm 7) (sSeq (sSet 8 (xIm (dCallF 2 S__law_is_whole_part (aCons (dVar 1) (aCons (dVar 7) (aNil)))))) (sIf (dTOr (dTst (dBin dNe (dMeth 2 "Group" "is_whole" S_Group__is_whole (dVar 2) (aCons (dVar 7) (aNil))) (dVar 8))) (dTAnd (dTst (dVar 8)) (dTNot (dTst (dCallF 3 S__law_quotient_right (aCons (dVar 2) (aCons (dVar 1) (aCons (dVar 7) (aNil))))))))) (sRet (dC (.bool false))) (sNx)))) (sRet (dAnd (dBin dEq (dMeth 2 "Group" "closure" S_Group__closure (dVar 2) (aCons (dTup (aNil)) (aNil))) (dTup (aCons (dCallF 1 S__law_unit (aCons (dVar 1) (aNil))) (aNil)))) (dBin dEq (dProp "Group" S_Group__size (dBin dIx (dMeth 2 "Group" "quotient" S_Group__quotient (dVar 2) (aCons (dTRg (rg1 (dVar 3))) (aNil))) (dC (.int 0)))) (dC (.int 1)))))))))
abbrev N_law : List Str := ["_law_script", "_law_spot", "_law_six"]
abbrev P_law : List Str := ["_law_script"]
def g_law : DS := sSeq (sFor (iR1 (dCall dMax2 (aCons (dC (.int 1)) (aCons (dCall dMin2 (aCons (dC (.int 4)) (aCons (dCall dLen (aCons (dVar 0) (aNil))) (aNil)))) (aNil))))) (gNm 1) (sIf (dTNot (dTst (dCallML 1 S__law_right (lCall 2 S__law_dice (aCons (dVar 0) (aCons (dVar 1) (aNil)))) (aNil)))) (sRet (dC (.bool false))) (sNx))) (sSeq (sSet 2 (xIm (dNew 2 "Group" S_Group____init__ (aCons (dCallF 1 S__law_turned_pairs (aCons (dC (.int 3)) (aNil))) (aNil))))) (sRet (dAnd (dBin dEq (dMeth 1 "Group" "parts" S_Group__parts (dVar 2) aNil) (dTup (aCons (dTup (aCons (dC (.int 0)) (aNil))) (aCons (dTup (aCons (dC (.int 0)) (aCons (dC (.int 1)) (aNil)))) (aCons (dTup (aCons (dC (.int 0)) (aCons (dC (.int 1)) (aCons (dC (.int 2)) (aCons (dC (.int 3)) (aCons (dC (.int 4)) (aCons (dC (.int 5)) (aNil)))))))) (aCons (dTup (aCons (dC (.int 0)) (aCons (dC (.int 2)) (aCons (dC (.int 4)) (aNil))))) (aCons (dTup (aCons (dC (.int 0)) (aCons (dC (.int 3)) (aNil)))) (aCons (dTup (aCons (dC (.int 0)) (aCons (dC (.int 5)) (aNil)))) (aNil))))))))) (dNot (dMeth 2 "Group" "is_whole" S_Group__is_whole (dVar 2) (aCons (dTup (aCons (dC (.int 0)) (aCons (dC (.int 1)) (aNil)))) (aNil)))))))
end Dn.T.G.K07
set_option Elab.async false
set_option linter.all false
set_option maxRecDepth 100000
set_option autoImplicit false
set_option maxHeartbeats 4000000
namespace Dn.T.G.K07
open PySem L2 Evl PySem.Spec PyProof.Rows
local macro_rules | `(tactic| walk_at "dd") => `(tactic| simp only [sSeq, sIf, sSet, sRet, sRetN, sNx, sEx, sAsg, sPar, dTOr, dTAnd, dTNot, dTst, dIsi, dVar, dC, dBin, dChain, dNeg, dI2, dAnd, dOr, dNot, dIfE, dCall, dCallF, aCons, aNil, dTup, lLst, dOfL, xIm, xOw, gNm, gTp, gsCons, gsNil, dYes, envD, dLen_tR, dLen_tI, dLen_tup, dLen_lst, seq_tR, seq_tI, seq_tup, seq_lst, dIs, dIsNot, dNe, dEq, dTupOf, dSl, oNone, oSome, iSq, iEn, iR1, iR2, sFor, lLc, sNever, dTRg, rg1, rg2, lRg, wipeD, isN,
  gTpL, dIxP, sSub, dApp, dPopAt, dExt, dCallM, dCallO, dBinO, dTupO, lOf, lOfO, sRetO, iOw, dVarF, lCat, lCall, dAbs, dMax2, dMin2, dInt, atO, setO, MO.getL, MO.putL, Option.isSome_some,
  dInK, dGetK, dGetD, dInD, dGet1, lKeys, lSort, dLenSet, dLenSetL, dLenSet2, sPar3, dRevT, sPutK, xDct, xDct1, sRetK, atK, keyD, sAugI, dFld, sFldD, xRng, iRgO, dNew, dNewV, dCM, dProp, dMeth, dLenI, dStrO, dEqI, dIsC, dJoin, dJs, dFmt, dCallML, sSubI, gSubW, sWh, dTF, gIx, xProp, xDctI, lKeysK, lSortK, sForO, dRepU, dKeep2, lSortSet, lSortTu, lDc, dRepT, lRep, dStrI, xDctT1, xDctOf, dInT, sPutT, lSortT2, lSortDT, dPop, dBinR, dKeep, dCallMO, atT, dCallO,
  kit_int, kit_bool, kit_tuple, kit_str, List.map_cons, List.map_nil, List.cons_append, List.nil_append, List.replicate, List.set_cons_zero, List.set_cons_succ, List.getElem?_cons_zero, List.getElem?_cons_succ, List.length_cons, List.length_nil, List.length_map, Nat.reduceAdd, Nat.reduceSub, Bool.not_true, Bool.not_false, Bool.false_eq_true, if_true, if_false, true_and, reduceCtorEq, Bool.true_eq_false, rgD_rgI, Option.some.injEq, exists_eq_left', and_true])
theorem v__law_right : VM g__law_right S__law_right 1 8 := fun l ms ds Q _ h => by
  obtain ⟨rfl, hm, h⟩ := h
  unfold g__law_right
  walk_at "dd"
  refine ⟨12, rfl, by decide, by decide, hm, fun n g u ms1 hg hn hm1 => ?_⟩
  try walk_at "dd"
  have hG : G24 n g u := ⟨hg, by omega⟩
  refine ⟨n, g, u, rfl, hG, ?_⟩
  refine ⟨n, g, u, rfl, hG, fun L l1 l2 l3 => ?_⟩
  refine ⟨by decide, rgd1 (by decide) (by decide) (by decide) (by decide), ?_⟩
  rw [tab_len]
  show wpFor _ _ _ _ [some (SV.ow (MO.par l (MO.lst ms1))), some (SV.im (tR (tab n g))), some (SV.im (grpD n g u)), some (SV.im (.int n)), some (SV.im (tL L)), none, none, none, none]
  refine wpFor_inv (fun ρ => ∃ ms x5 x6, ρ = [some (SV.ow (MO.par l (MO.lst ms))), some (SV.im (tR (tab n g))), some (SV.im (grpD n g u)), some (SV.im (.int n)), some (SV.im (tL L)), x5, x6, none, none] ∧ Dc ms) ⟨_, _, _, rfl, hm1⟩ (fun d hd ρ K hI k => ?_) (fun ρ hI => ?_)
  · obtain ⟨ms2, x5, x6, rfl, hm2⟩ := hI
    try walk_at "dd"
    refine ⟨rgd1 (by decide) (by decide) (by omega) (by omega), n, rfl, by omega, hm2, fun q ms3 hq hm3 => ?_⟩
    try walk_at "dd"
    refine ⟨3, rfl, by decide, by decide, hm3, fun r ms4 r0 r1 hm4 => ?_⟩
    try walk_at "dd"
    have ec : PyData.tuple (cutD (q.map PyData.int) none (some r)) = tI (q.take r.toNat) := by
      unfold tI
      rw [List.map_take]
      by_cases z : r.toNat ≤ (q.map PyData.int).length
      · have := cut_take z
        rw [show ((r.toNat : Nat) : Int) = r by omega] at this
        rw [this]
      · rw [List.take_of_length_le (by omega), cut_whole]
        refine ⟨rfl, ?_⟩
        show (if r < 0 then (r + (((q.map PyData.int).length : Nat) : Int)).toNat else min r.toNat (q.map PyData.int).length) = _
        rw [if_neg (by omega)]
        omega
    have hpl : Lt n (q.take r.toNat) := ⟨fun x hx => hq.1 x (List.mem_of_mem_take hx), hq.2.sublist (List.take_sublist _ _)⟩
    rw [ec]
    generalize q.take r.toNat = p at hpl ⊢
    have len : p.length ≤ n := by have := (lt_sub hpl).length_le; rwa [rgI_len] at this
    refine ⟨_, rfl, rfl, n, g, u, p, rfl, hG, hpl, n, g, u, p, rfl, hG, hpl.1, by omega, shaped_tI _, shaped_tI _, ?_⟩
    rw [eqv_tI, if_neg (by simp)]
    refine ⟨_, rfl, rfl, n, g, u, p, rfl, hG, hpl, ?_⟩
    refine ⟨_, rfl, shaped_tI _, shaped_tL L, ?_⟩
    rw [any_tI]
    have iff : decide (p ∈ L) = decide (clS n g u p = p) := by
      rw [decide_eq_decide, l3]
      exact ⟨fun h => h.2, fun h => ⟨hpl, h⟩⟩
    cases hz : decide (p ∈ L) with
    | true =>
      try walk_at "dd"
      refine ⟨n, g, u, p, rfl, hG, hpl.1, by omega, rfl, rfl, ?_⟩
      have e : whlB n g u p = nrmB n g u p := by unfold whlB; rw [← iff, hz, Bool.true_and]
      rw [e, if_neg (by simp [PyData.eqv])]
      exact k _ ⟨_, _, _, rfl, hm4⟩
    | false =>
      try walk_at "dd"
      have e : whlB n g u p = false := by unfold whlB; rw [← iff, hz, Bool.false_and]
      rw [e]
      refine ⟨rfl, rfl, ?_⟩
      rw [if_neg (by simp [PyData.eqv])]
      exact k _ ⟨_, _, _, rfl, hm4⟩
  · obtain ⟨ms2, x5, x6, rfl, hm2⟩ := hI
    try walk_at "dd"
    refine ⟨_, rfl, rfl, n, g, u, rfl, hG, fun M m1 m2 m3 => ?_⟩
    obtain rfl : M = L := srt_uniq m1 l1 m2 l2 fun a => (m3 a).trans (l3 a).symm
    refine ⟨shaped_tR _, shaped_tR _, ?_⟩
    rw [show PyData.tuple (M.map tI) = tR M from rfl, eqv_tR, if_neg (by simp)]
    have ml : M.length ≤ 100000 := by
      have := few_lots m2 fun p hp => ⟨((m3 p).1 hp).1, fun e => by have := prt_u hg ((m3 p).1 hp); rw [e] at this; cases this⟩
      have : 2 ^ n ≤ 100000 := Nat.le_trans (Nat.pow_le_pow_right (by decide) hn) (by decide)
      omega
    refine ⟨_, rfl, ?_⟩
    refine wpLc_mapL M tI (fun _ => .bool false) (by omega) rfl (fun p hp K hK => ?_) (fun _ => rfl) ?_
    · try walk_at "dd"
      have hpp := (m3 p).1 hp
      have pl := List.length_pos_of_mem (prt_u hg hpp)
      have pd := prt_dvd hg hpp
      refine ⟨by omega, rfl, rfl, ?_⟩
      have e : (n : Int) % (p.length : Int) = 0 := Int.emod_eq_zero_of_dvd ⟨((ldI n g p).length : Int), by
        have := congrArg (fun (k : Nat) => (k : Int)) pd
        simp only [Int.natCast_mul] at this
        rw [Int.mul_comm]
        exact this⟩
      rw [e]
      exact hK _ rfl
    · try walk_at "dd"
      have an : ∀ R : D → Prop, R (.bool false) → dAny [PyData.list (M.map fun _ => PyData.bool false)] R := fun R hR => by
        refine ⟨M.map fun _ => false, by rw [List.map_map]; rfl, ?_⟩
        rw [show (M.map fun _ => false).any id = false from by rw [List.any_eq_false]; intro x hx; obtain ⟨_, _, rfl⟩ := List.mem_map.mp hx; decide]
        exact hR
      refine an _ ?_
      show if false = true then _ else _
      rw [if_neg (by decide)]
      refine ⟨_, rfl, ?_⟩
      refine wpFor_inv (fun ρ => ∃ x7 x8, ρ = [some (SV.ow (MO.par l (MO.lst ms2))), some (SV.im (tR (tab n g))), some (SV.im (grpD n g u)), some (SV.im (.int n)), some (SV.im (tL M)), x5, x6, x7, x8]) ⟨_, _, rfl⟩ (fun d hd ρ K hI k => ?_) (fun ρ hI => ?_)
      · obtain ⟨x7, x8, rfl⟩ := hI
        obtain ⟨p, hp, rfl⟩ := List.mem_map.mp hd
        have hpp := (m3 p).1 hp
        have len : p.length ≤ n := by have := (lt_sub hpp.1).length_le; rwa [rgI_len] at this
        have ew : whlB n g u p = nrmB n g u p := by unfold whlB; rw [decide_eq_true hpp.2, Bool.true_and]
        try walk_at "dd"
        refine ⟨n, g, u, p, rfl, hG, hpp.1.1, by omega, ?_⟩
        try walk_at "dd"
        refine ⟨_, rfl, rfl, n, g, u, p, rfl, hG, hpp.1, rfl, rfl, ?_⟩
        rw [ew, if_neg (by simp [PyData.eqv])]
        cases hz : nrmB n g u p with
        | true =>
          try walk_at "dd"
          refine ⟨n, g, u, p, rfl, hG, hpp, hz, ?_⟩
          show if (!true) = true then _ else _
          rw [if_neg (by decide)]
          exact k _ ⟨_, _, rfl⟩
        | false =>
          try walk_at "dd"
          exact k _ ⟨_, _, rfl⟩
      · obtain ⟨x7, x8, rfl⟩ := hI
        try walk_at "dd"
        have l0 : Lt n [] := ⟨fun _ h => (by cases h), List.Pairwise.nil⟩
        refine ⟨_, rfl, rfl, by decide, n, g, u, [], rfl, hG, l0, n, g, u, rfl, hG, by decide, shaped_tI _, shaped_tI [u], ?_⟩
        rw [cl_none hg, show PyData.tuple [PyData.int u] = tI [u] from rfl, eqv_tI, decide_eq_true rfl]
        try walk_at "dd"
        have wr : Wd n (rgI n) := fun a h => mem_rgI.1 h
        have pr : Prt n g u (rgI n) := ⟨⟨wr, rgI_lt n⟩, inc_ext' (clS_lt n g u _).2 (rgI_lt n) fun k => ⟨fun w => mem_rgI.2 (clS_mem.1 w).1, fun w => clS_mem.2 ⟨mem_rgI.1 w, cl_one hg wr w⟩⟩⟩
        have nr : nrmB n g u (rgI n) = true := by
          unfold nrmB
          rw [List.all_eq_true]
          intro a ha
          rw [List.all_eq_true]
          intro b hb
          refine decide_eq_true (mem_rgI.2 (hg.rg _ _ (hg.rg _ _ (mem_rgI.1 ha) (mem_rgI.1 hb)) (bk_in hg (mem_rgI.1 ha))))
        have one : (ldI n g (rgI n)).length = 1 := by
          have e := prt_dvd hg pr
          rw [rgI_len] at e
          have n0 : 0 < n := by have := hg.un.1; have := hg.un.2; omega
          have : n * 1 = n * (ldI n g (rgI n)).length := by rw [Nat.mul_one, Nat.mul_comm]; exact e
          exact (Nat.eq_of_mul_eq_mul_left n0 this).symm
        refine ⟨_, rfl, rfl, rgd1 (by decide) (by decide) (by omega) (by omega), n, g, u, rgI n, rfl, hG, pr, nr, ?_⟩
        refine ⟨_, atI_zero, ⟨_, rfl⟩, _, _, _, rfl, rfl, rfl, ms2, rfl, ?_⟩
        rw [one]
        exact h ms2 hm2
end Dn.T.G.K07
set_option Elab.async false
set_option linter.all false
set_option maxRecDepth 100000
set_option autoImplicit false
set_option maxHeartbeats 4000000
namespace Dn.T.G.K07
open PySem L2 Evl PySem.Spec PyProof.Rows
def S_law (ds : List D) (Q : D → Prop) : Prop := ∃ s, ds = [scr s] ∧ s.length ≤ 63 ∧ Q (.bool true)
abbrev N__law_group_rows : List Str := ["_law_dice_here", "_law_most", "_law_some_here", "_law_even", "_law_rows", "_law_size", "_law_move"]
end Dn.T.G.K07
set_option Elab.async false
set_option linter.all false
set_option maxRecDepth 100000
set_option autoImplicit false
set_option maxHeartbeats 4000000
namespace Dn.T.G.K07
open PySem L2 Evl PySem.Spec PyProof.Rows
local macro_rules | `(tactic| walk_at "dd") => `(tactic| simp only [sSeq, sIf, sSet, sRet, sRetN, sNx, sEx, sAsg, sPar, dTOr, dTAnd, dTNot, dTst, dIsi, dVar, dC, dBin, dChain, dNeg, dI2, dAnd, dOr, dNot, dIfE, dCall, dCallF, aCons, aNil, dTup, lLst, dOfL, xIm, xOw, gNm, gTp, gsCons, gsNil, dYes, envD, dLen_tR, dLen_tI, dLen_tup, dLen_lst, seq_tR, seq_tI, seq_tup, seq_lst, dIs, dIsNot, dNe, dEq, dTupOf, dSl, oNone, oSome, iSq, iEn, iR1, iR2, sFor, lLc, sNever, dTRg, rg1, rg2, lRg, wipeD, isN,
  gTpL, dIxP, sSub, dApp, dPopAt, dExt, dCallM, dCallO, dBinO, dTupO, lOf, lOfO, sRetO, iOw, dVarF, lCat, lCall, dAbs, dMax2, dMin2, dInt, atO, setO, MO.getL, MO.putL, Option.isSome_some,
  dInK, dGetK, dGetD, dInD, dGet1, lKeys, lSort, dLenSet, dLenSetL, dLenSet2, sPar3, dRevT, sPutK, xDct, xDct1, sRetK, atK, keyD, sAugI, dFld, sFldD, xRng, iRgO, dNew, dNewV, dCM, dProp, dMeth, dLenI, dStrO, dEqI, dIsC, dJoin, dJs, dFmt, dCallML, sSubI, gSubW, sWh, dTF, gIx, xProp, xDctI, lKeysK, lSortK, sForO, dRepU, dKeep2, lSortSet, lSortTu, lDc, dRepT, lRep, dStrI, xDctT1, xDctOf, dInT, sPutT, lSortT2, lSortDT, dPop, dBinR, dKeep, dCallMO, atT, dCallO,
  kit_int, kit_bool, kit_tuple, kit_str, List.map_cons, List.map_nil, List.cons_append, List.nil_append, List.replicate, List.set_cons_zero, List.set_cons_succ, List.getElem?_cons_zero, List.getElem?_cons_succ, List.length_cons, List.length_nil, List.length_map, Nat.reduceAdd, Nat.reduceSub, Bool.not_true, Bool.not_false, Bool.false_eq_true, if_true, if_false, true_and, reduceCtorEq, Bool.true_eq_false, rgD_rgI, Option.some.injEq, exists_eq_left', and_true])
def prB (n : Nat) (g : F1) (u : Int) (p : List Int) : Bool := decide (u ∈ p) && p.all fun a => p.all fun b => decide (g a b ∈ p)
theorem prB_iff {n : Nat} {g : F1} {u : Int} {p : List Int} (hg : Gr n g u) (hl : Lt n p) : Prt n g u p ↔ prB n g u p = true := by
  unfold prB
  rw [Bool.and_eq_true, decide_eq_true_eq, List.all_eq_true]
  constructor
  · intro hp
    refine ⟨prt_u hg hp, fun a ha => ?_⟩
    rw [List.all_eq_true]
    exact fun b hb => decide_eq_true (prt_mul hg hp ha hb)
  · intro ⟨h1, h2⟩
    refine ⟨hl, inc_ext' (clS_lt n g u _).2 hl.2 fun k => ⟨fun w => ?_, fun w => clS_mem.2 ⟨hl.1 k w, cl_one hg hl.1 w⟩⟩⟩
    have := (clS_mem.1 w).2
    clear w
    induction this with
    | o => exact h1
    | s a b ih =>
      have := h2 _ ih
      rw [List.all_eq_true] at this
      exact of_decide_eq_true (this _ b)
def six : List (List Int) := [[0], [0, 1], [0, 1, 2, 3, 4, 5], [0, 2, 4], [0, 3], [0, 5]]
theorem six_sb : ∀ p, p ∈ sbs (rgI 6) → (p ∈ six ↔ prB 6 (trnG 3) 0 p = true) := by decide +kernel
theorem six_in : ∀ p, p ∈ six → p ∈ sbs (rgI 6) := by decide +kernel
theorem six_lt : ∀ p, p ∈ six → p.Pairwise (· < ·) ∧ ∀ x, x ∈ p → 0 ≤ x ∧ x < (6 : Nat) := by decide +kernel
theorem six_prt (p : List Int) : p ∈ six ↔ Prt 6 (trnG 3) 0 p := by
  have g6 : Gr (2 * 3) (trnG 3) 0 := gr_trn (by decide)
  constructor
  · intro h
    exact (prB_iff g6 ⟨(six_lt p h).2, (six_lt p h).1⟩).2 ((six_sb p (six_in p h)).1 h)
  · intro h
    exact (six_sb p (sbs_sub (lt_sub h.1))).2 ((prB_iff g6 h.1).1 h)
theorem v_law : VD g_law S_law 1 2 := fun ds Q _ h => by
  obtain ⟨s, rfl, hs, h⟩ := h
  unfold g_law
  walk_at "dd"
  rw [dLen_scr']
  dsimp only
  refine And.intro (rg_cap 4 _ (by decide) (by decide)) ?_
  refine wpFor_inv (fun ρ => ∃ x1, ρ = [some (.im (scr s)), x1, none]) ⟨_, rfl⟩ (fun d hd ρ K i k => ?_) (fun ρ i => ?_)
  · obtain ⟨x1, rfl⟩ := i
    obtain ⟨spot, rfl, s0, _⟩ := mem_rgD' hd
    walk_at "dd"
    refine ⟨s, spot, rfl, s0, fun ms hm => ?_⟩
    try walk_at "dd"
    refine ⟨rfl, hm, fun ms2 hm2 => ?_⟩
    try walk_at "dd"
    exact k _ ⟨_, rfl⟩
  · obtain ⟨x1, rfl⟩ := i
    try walk_at "dd"
    have g6 : Gr (2 * 3) (trnG 3) 0 := gr_trn (by decide)
    have hG : G24 (2 * 3) (trnG 3) 0 := ⟨g6, by decide⟩
    refine ⟨3, rfl, by decide, by decide, 2 * 3, trnG 3, 0, rfl, hG, _, rfl, rfl, 2 * 3, trnG 3, 0, rfl, hG, fun L m1 m2 m3 => ?_⟩
    obtain rfl : L = six := srt_uniq m1 (by decide +kernel) m2 (by decide +kernel) fun a => (m3 a).trans (six_prt a).symm
    iterate 7 refine And.intro (by decide) ?_
    refine ⟨shaped_tR _, shaped_tR six, ?_⟩
    have e6 : ∀ X : D, X = tR six → PyData.eqv (tR six) X = true := fun X e => by rw [e, eqv_tR, decide_eq_true rfl]
    rw [e6 (PyData.tuple [PyData.tuple [.int 0], PyData.tuple [.int 0, .int 1], PyData.tuple [.int 0, .int 1, .int 2, .int 3, .int 4, .int 5], PyData.tuple [.int 0, .int 2, .int 4], PyData.tuple [.int 0, .int 3], PyData.tuple [.int 0, .int 5]]) rfl]
    try walk_at "dd"
    refine ⟨_, rfl, rfl, by decide, 2 * 3, trnG 3, 0, [0, 1], rfl, hG, ⟨(six_lt [0, 1] (by decide)).2, by decide⟩, ?_⟩
    rw [show whlB (2 * 3) (trnG 3) 0 [0, 1] = false from by unfold whlB; rw [show nrmB (2 * 3) (trnG 3) 0 [0, 1] = false from by decide +kernel, Bool.and_false]]
    exact h
end Dn.T.G.K07
set_option Elab.async false
set_option linter.all false
set_option maxRecDepth 100000
set_option autoImplicit false
set_option maxHeartbeats 4000000
namespace Dn
open PySem L2 Evl PySem.Spec PyProof.Rows
local macro_rules | `(tactic| walk_at "dd") => `(tactic| simp only [sSeq, sIf, sSet, sRet, sRetN, sNx, sEx, sAsg, sPar, dTOr, dTAnd, dTNot, dTst, dIsi, dVar, dC, dBin, dChain, dNeg, dI2, dAnd, dOr, dNot, dIfE, dCall, dCallF, aCons, aNil, dTup, lLst, dOfL, xIm, xOw, gNm, gTp, gsCons, gsNil, dYes, envD, dLen_tR, dLen_tI, dLen_tup, dLen_lst, seq_tR, seq_tI, seq_tup, seq_lst, dIs, dIsNot, dNe, dEq, dTupOf, dSl, oNone, oSome, iSq, iEn, iR1, iR2, sFor, lLc, sNever, dTRg, rg1, rg2, lRg, wipeD, isN,
  dIxP, sSub, dApp, dPopAt, dExt, dCallM, dCallO, dBinO, dTupO, lOf, lOfO, sRetO, iOw, dVarF, lCat, lCall, dAbs, dMax2, dMin2, dInt, atO, setO, MO.getL, MO.putL, Option.isSome_some,
  lSortT, dOfK, xOwK, lDc, dMinL, dIndex, lRep, dInK, dGetK, dGetD, dInD, dGet1, lKeys, lSort, dLenSet, dRevT, sPutK, xDct, xDct1, sRetK, atK, keyD, sAugI,
  kit_int, kit_bool, kit_tuple, kit_str, List.map_cons, List.map_nil, List.cons_append, List.nil_append, List.replicate, List.set_cons_zero, List.set_cons_succ, List.getElem?_cons_zero, List.getElem?_cons_succ, List.length_cons, List.length_nil, List.length_map, Nat.reduceAdd, Nat.reduceSub, Bool.not_true, Bool.not_false, Bool.false_eq_true, if_true, if_false, true_and, reduceCtorEq, Bool.true_eq_false, rgD_rgI, Option.some.injEq, exists_eq_left', and_true])
theorem v__law_pick : VM g__law_pick S__law_pick 2 0 := fun l ms ds Q _ h => by
  obtain ⟨d, xs, rfl, hd, hn, hl, hm, h⟩ := h
  unfold g__law_pick
  walk_at "dd"
  rw [dLen_seq hd]
  have pos : 0 < xs.length := List.length_pos_iff.mpr hn
  refine ⟨_, rfl, by omega, by simp only [T60]; omega, hm, fun r ms' r0 r1 hm' => ?_⟩
  unfold dIx
  rw [hd]
  dsimp only
  refine ⟨_, atI_in (d := .none) r0 r1, _, rfl, h _ _ (getD_mem (by omega)) hm'⟩
theorem v__law_undone : VD g__law_undone S__law_undone 1 3 := fun ds Q _ h => by
  obtain ⟨n, m, rfl, hm, hn, h⟩ := h
  have hl := hm.len
  unfold g__law_undone
  try walk_at "dd"
  refine wpLc_mapL m PyData.int (fun _ => .int 0) (by omega) rfl (fun x hx K hK => ?_) (fun _ => rfl) ?_
  · try walk_at "dd"
    exact hK _ rfl
  · try walk_at "dd"
    rw [enD_map m PyData.int 0, hl]
    refine wpFor_cps (fun done ρ => ∃ (u : List Int) (x y : Option SV), ρ = [some (SV.im (tI m)), some (SV.ow (MO.lst (u.map PyData.int))), x, y] ∧ u.length = n ∧ ∀ x : Nat, x < done.length → u[(im m x).toNat]? = some (x : Int)) ⟨m.map (fun _ => 0), _, _, (by rw [show (m.map fun _ => (0 : Int)).map PyData.int = m.map fun _ => PyData.int 0 from by rw [List.map_map]; rfl]), (by simp [hl]), fun x hx => by simp at hx⟩ (fun done d rest ρ K e p k => ?_) (fun ρ p => ?_)
    · obtain ⟨u, x, y, rfl, hu, hu2⟩ := p
      obtain ⟨l1, i, l2, e1, rfl, rfl, rfl⟩ := map_split e
      obtain ⟨ei, e2⟩ := rgI_split e1
      rw [List.length_map] at hu2
      have lt : l1.length < n := by
        have := congrArg List.length e1
        rw [rgI_len] at this
        simp at this
        omega
      have g := im_in hm (x := i) (by omega) (by omega)
      try walk_at "dd"
      refine ⟨_, _, (im m i).toNat, rfl, rfl, ?_, ?_⟩
      · unfold ixN
        show (if 0 ≤ im m i then _ else _) = _
        rw [if_pos g.1, if_pos (by simp [hu]; exact g.2)]
        rfl
      · refine k _ ⟨u.set (im m i).toNat i, _, _, (by rw [List.map_set]), (by simp [hu]), fun x hx => ?_⟩
        simp only [List.length_append, List.length_map, List.length_cons, List.length_nil] at hx
        by_cases z : x = l1.length
        · have : (x : Int) = i := by omega
          rw [this, List.getElem?_set_self (by omega)]
        · have gx := im_in hm (x := (x : Int)) (by omega) (by omega)
          rw [List.getElem?_set_ne (fun w => by
            have := im_inj hm (by omega) (by omega) (by omega) (by omega) (show im m x = im m i by omega)
            omega)]
          exact hu2 x (by omega)
    · obtain ⟨u, x, y, rfl, hu, hu2⟩ := p
      rw [List.length_map, rgI_len] at hu2
      try walk_at "dd"
      have : u = inv m := by
        rw [inv_map hm]
        apply List.ext_getElem?
        intro k
        by_cases hk : k < n
        · rw [List.getElem?_map, rgI_get hk]
          obtain ⟨q1, q2⟩ := iv_rng hm (y := (k : Int)) (by omega) (by omega)
          have := hu2 (iv m k).toNat (by omega)
          rw [show (((iv m k).toNat : Nat) : Int) = iv m k by omega, q2] at this
          simpa using this
        · rw [List.getElem?_eq_none_iff.mpr (by omega), List.getElem?_eq_none_iff.mpr (by simp [rgI_len]; omega)]
      subst this
      exact h
end Dn
set_option Elab.async false
set_option linter.all false
set_option maxRecDepth 100000
set_option autoImplicit false
set_option maxHeartbeats 4000000
namespace Dn
open PySem L2 Evl PySem.Spec PyProof.Rows LamX
abbrev Cla := Value × Option Nat × (Addr → Value → Option Addr → TS)
inductive ClOk (X : Cx) : List ExceptHandler → List Cla → Prop
  | nil : ClOk X [] []
  | bare {x : Str} {c : Value} {ts : Addr → Value → Option Addr → TS} {b₀ : Stmt} {suite : List Stmt} {np pos' : Pos} {hds : List ExceptHandler} {l : List Cla} (hc : Names X x c)
      (hsu : ∀ (a : Addr) (oe : Obj) (cls : Value) (d : Option Addr) (pn : List (Addr × Obj)), Zc cls d oe → (∃ vs, oe.data = .fields vs) → PSs (X.suite a ((a, oe) :: pn)) (b₀ :: suite) (ts a cls d)) (r : ClOk X hds l) :
      ClOk X (.ExceptHandler (some (.Name x np)) none (b₀ :: suite) pos' :: hds) ((c, none, ts) :: l)
  | as {x n : Str} {i : Nat} {c : Value} {ts : Addr → Value → Option Addr → TS} {b₀ : Stmt} {suite : List Stmt} {np pos' : Pos} {hds : List ExceptHandler} {l : List Cla} (hc : Names X x c) (hi : X.N[i]? = some n) (hln : X.env.kindOf n = some .local)
      (hsu : ∀ (a : Addr) (oe : Obj) (cls : Value) (d : Option Addr) (pn : List (Addr × Obj)), Zc cls d oe → (∃ vs, oe.data = .fields vs) → PSs (X.suite a ((a, oe) :: pn)) (b₀ :: suite) (ts a cls d)) (r : ClOk X hds l) :
      ClOk X (.ExceptHandler (some (.Name x np)) (some n) (b₀ :: suite) pos' :: hds) ((c, some i, ts) :: l)
section
variable {X : Cx} {body : List Stmt} {h₀ : ExceptHandler} {hds : List ExceptHandler} {l : List Cla} {pos : Pos} {tb : WX → TS} {Wout : WX}
end
end Dn
set_option Elab.async false
set_option linter.all false
set_option maxRecDepth 100000
set_option autoImplicit false
set_option maxHeartbeats 4000000
namespace Dn
open PySem L2 Evl PySem.Spec PyProof.Rows LamX
structure HC where
  cl : Str
  nm : Option (Nat × Str)
  g : D → DE
def tsB (K : PySem.W.Frag) (g : D → DE) : Addr → Value → Option Addr → TS := fun _ _ _ F σ H => ∃ (T : Addr → Prop) (ρ : Env) (QD : D → Env → Prop), RS K T ρ σ H ∧ g .none ρ QD ∧ ∀ d ρ' v H', RS K T ρ' σ H' → Po ρ σ H ρ' σ H' → Rp K (hide (Hd T ρ' σ) H') v d → QD d ρ' → F.rt v H'
def tsA (K : PySem.W.Frag) (cl f0 : Str) (i : Nat) (g : D → DE) : Addr → Value → Option Addr → TS := fun a cls d F σ H => cls = .ref (adrOf K cl) ∧ ∃ (T : Addr → Prop) (ρ : Env) (pv : V) (d0 : D) (dd : Addr) (QD : D → Env → Prop), d = some dd ∧ RS K T ρ σ H ∧ σ[i]? = some (some (.ref a)) ∧ H dd = some (.xd [(f0, pv)]) ∧ Rp K (hide (Hd T ρ σ) H) pv d0 ∧ g d0 ρ QD ∧
  ∀ d ρ' v H', RS K T ρ' σ H' → Po ρ σ H ρ' σ H' → Rp K (hide (Hd T ρ' σ) H') v d → QD d ρ' → F.rt v H'
def HC.cla (K : PySem.W.Frag) : HC → Cla
  | ⟨cl, none, g⟩ => (.ref (adrOf K cl), none, tsB K g)
  | ⟨cl, some (i, f0), g⟩ => (.ref (adrOf K cl), some i, tsA K cl f0 i g)
section
variable {P : Program} {w : World} {K : PySem.W.Frag} {mg : Str → Option Value} {base : Heap} {st : Stmt} {N : List Str} {x a nm n f0 : Str} {i k : Nat} {e : Expr} {rest : List Stmt} {gr : DS} {p1 p2 p3 np pr pos' pos : Pos}
inductive HdR (P : Program) (w : World) (K : PySem.W.Frag) (mg : Str → Option Value) (base : Heap) (x : Str) (st : Stmt) (N : List Str) (k : Nat) : List ExceptHandler → List HC → Prop
  | nil : HdR P w K mg base x st N k [] []
  | bare {nm : Str} {e : Expr} {g : D → DE} {np pr pos' : Pos} {hds : List ExceptHandler} {cs : List HC} (hg : (defScope st).names.lookup nm = some .globalImplicit) (hdb : (nm == ("__debug__" : Str)) = false) (hm : mg nm = some (.ref (adrOf K nm)))
      (hsu : ∀ (f : Addr) (cdv : Value) (A : Around) (outer : List PySem.Env) (s : Shared) (H : Hp) (E : XK) (a : Addr) (oe : Obj) (pn : List (Addr × Obj)), Room k (A.deeper (envOfC x (defScope st) s.heap.objs.size f cdv)) → JE ((cxOf L2.CX0 P w K mg base N x (defScope st) f cdv A outer s H E).nox.suite a ((a, oe) :: pn)) e (g .none))
      (r : HdR P w K mg base x st N k hds cs) : HdR P w K mg base x st N k (.ExceptHandler (some (.Name nm np)) none [.Return (some e) pr] pos' :: hds) (⟨nm, none, g⟩ :: cs)
  | as {nm n f0 : Str} {i : Nat} {e : Expr} {g : D → DE} {np pr pos' : Pos} {hds : List ExceptHandler} {cs : List HC} (hi : N[i]? = some n) (hln : (defScope st).names.lookup n = some .local) (hg : (defScope st).names.lookup nm = some .globalImplicit) (hdb : (nm == ("__debug__" : Str)) = false) (hm : mg nm = some (.ref (adrOf K nm)))
      (hsu : ∀ (f : Addr) (cdv : Value) (A : Around) (outer : List PySem.Env) (s : Shared) (H : Hp) (E : XK) (a dd : Addr) (oe : Obj) (pn : List (Addr × Obj)), Room k (A.deeper (envOfC x (defScope st) s.heap.objs.size f cdv)) → Zc (.ref (adrOf K nm)) (some dd) oe → (∃ vs, oe.data = .fields vs) → JZE ((cxOf L2.CX0 P w K mg base N x (defScope st) f cdv A outer s H E).nox.suite a ((a, oe) :: pn)) a dd i f0 e g)
      (r : HdR P w K mg base x st N k hds cs) : HdR P w K mg base x st N k (.ExceptHandler (some (.Name nm np)) (some n) [.Return (some e) pr] pos' :: hds) (⟨nm, some (i, f0), g⟩ :: cs)
theorem HdR.slots {hds : List ExceptHandler} {cs : List HC} (h : HdR P w K mg base x st N k hds cs) : ∀ c, c ∈ cs → ∀ q, c.nm = some q → q.1 < N.length := by
  induction h with
  | nil => intro c hc; simp at hc
  | bare _ _ _ _ _ ih =>
    intro c hc q e
    rcases List.mem_cons.mp hc with rfl | hc
    · cases e
    · exact ih c hc q e
  | as hi _ _ _ _ _ _ ih =>
    intro c hc q e
    rcases List.mem_cons.mp hc with rfl | hc
    · cases e; exact (List.getElem?_eq_some_iff.mp hi).1
    · exact ih c hc q e
theorem HdR.ok {hds : List ExceptHandler} {cs : List HC} (h : HdR P w K mg base x st N k hds cs) {f : Addr} {cdv : Value} {A : Around} {outer : List PySem.Env} {s : Shared} {H : Hp} {E : XK} (hr : Room k (A.deeper (envOfC x (defScope st) s.heap.objs.size f cdv))) :
    ClOk (cxOf L2.CX0 P w K mg base N x (defScope st) f cdv A outer s H E).nox hds (cs.map (HC.cla K)) := by
  induction h with
  | nil => exact .nil
  | bare hg hdb hm hsu _ ih =>
    refine .bare ⟨hg, hdb, .inl hm⟩ (fun a oe cls d pn hz hf => ⟨fun pins s' σ H' D I h => ?_⟩) ih
    obtain ⟨T, ρ, QD, r, h, q⟩ := h
    obtain ⟨t, pt, kt⟩ := (hsu f cdv A outer s H E a oe pn hr).ex
    exact (pss_one (ps_ret pt)).run pins s' σ H' D I (kt T ρ σ H' QD _ r h q)
  | as hi hln hg hdb hm hsu _ ih =>
    refine .as ⟨hg, hdb, .inl hm⟩ hi hln (fun a oe cls d pn hz hf => ⟨fun pins s' σ H' D I h => ?_⟩) ih
    obtain ⟨rfl, T, ρ, pv, d0, dd, QD, rfl, r, h1, h2, h3, h4, q⟩ := h
    obtain ⟨t, pt, kt⟩ := (hsu f cdv A outer s H E a dd oe pn hr hz hf).ex
    exact (pss_one (ps_ret pt)).run pins s' σ H' D I (kt T ρ σ H' QD _ d0 pv r h1 h2 h3 h4 q)
end
end Dn
set_option Elab.async false
set_option linter.all false
set_option maxRecDepth 100000
set_option autoImplicit false
set_option maxHeartbeats 4000000
namespace Dn
open PySem L2 Evl PySem.Spec PyProof.Rows LamX
structure RoomG (k : Nat) (A : Around) : Prop where
  r : Room k A
  g : A.guards = some []
theorem RoomG.mono {j k : Nat} {A : Around} (h : RoomG k A) (i : j ≤ k) : RoomG j A := ⟨h.r.mono i, h.g⟩
theorem RoomG.deeper {k : Nat} {A : Around} (h : RoomG (k + 1) A) (env : PySem.Env) : RoomG k (A.deeper env) := ⟨h.r.deeper env, h.g⟩
section
variable {X : Cx} {a b c e : Expr} {fa fb fc : DE} {pos p : Pos} {es : List Expr} {x y : Str} {k : Nat} {f : Addr} {fd : FuncData} {ps : List Str} {n : Nat}
end
section
variable {P : Program} {w : World} {K : PySem.W.Frag} {mg : Str → Option Value} {base : Heap} {st : Stmt} {N : List Str} {x : Str} {ps : List Str} {k : Nat}
end
section
variable {P : Program} {w : World} {K : PySem.W.Frag} {mg : Str → Option Value} {base : Heap} {st : Stmt} {N : List Str} {x a nm n f0 : Str} {i k : Nat} {e : Expr} {rest : List Stmt} {gr : DS} {p1 p2 p3 np pr pos' pos : Pos}
inductive HdRG (P : Program) (w : World) (K : PySem.W.Frag) (mg : Str → Option Value) (base : Heap) (x : Str) (st : Stmt) (N : List Str) (k : Nat) : List ExceptHandler → List HC → Prop
  | nil : HdRG P w K mg base x st N k [] []
  | bare {nm : Str} {e : Expr} {g : D → DE} {np pr pos' : Pos} {hds : List ExceptHandler} {cs : List HC} (hg : (defScope st).names.lookup nm = some .globalImplicit) (hdb : (nm == ("__debug__" : Str)) = false) (hm : mg nm = some (.ref (adrOf K nm)))
      (hsu : ∀ (f : Addr) (cdv : Value) (A : Around) (outer : List PySem.Env) (s : Shared) (H : Hp) (E : XK) (a : Addr) (oe : Obj) (pn : List (Addr × Obj)), RoomG k (A.deeper (envOfC x (defScope st) s.heap.objs.size f cdv)) → JE ((cxOf L2.CX0 P w K mg base N x (defScope st) f cdv A outer s H E).nox.suite a ((a, oe) :: pn)) e (g .none))
      (r : HdRG P w K mg base x st N k hds cs) : HdRG P w K mg base x st N k (.ExceptHandler (some (.Name nm np)) none [.Return (some e) pr] pos' :: hds) (⟨nm, none, g⟩ :: cs)
  | as {nm n f0 : Str} {i : Nat} {e : Expr} {g : D → DE} {np pr pos' : Pos} {hds : List ExceptHandler} {cs : List HC} (hi : N[i]? = some n) (hln : (defScope st).names.lookup n = some .local) (hg : (defScope st).names.lookup nm = some .globalImplicit) (hdb : (nm == ("__debug__" : Str)) = false) (hm : mg nm = some (.ref (adrOf K nm)))
      (hsu : ∀ (f : Addr) (cdv : Value) (A : Around) (outer : List PySem.Env) (s : Shared) (H : Hp) (E : XK) (a dd : Addr) (oe : Obj) (pn : List (Addr × Obj)), RoomG k (A.deeper (envOfC x (defScope st) s.heap.objs.size f cdv)) → Zc (.ref (adrOf K nm)) (some dd) oe → (∃ vs, oe.data = .fields vs) → JZE ((cxOf L2.CX0 P w K mg base N x (defScope st) f cdv A outer s H E).nox.suite a ((a, oe) :: pn)) a dd i f0 e g)
      (r : HdRG P w K mg base x st N k hds cs) : HdRG P w K mg base x st N k (.ExceptHandler (some (.Name nm np)) (some n) [.Return (some e) pr] pos' :: hds) (⟨nm, some (i, f0), g⟩ :: cs)
theorem HdRG.slots {hds : List ExceptHandler} {cs : List HC} (h : HdRG P w K mg base x st N k hds cs) : ∀ c, c ∈ cs → ∀ q, c.nm = some q → q.1 < N.length := by
  induction h with
  | nil => intro c hc; simp at hc
  | bare _ _ _ _ _ ih =>
    intro c hc q e
    rcases List.mem_cons.mp hc with rfl | hc
    · cases e
    · exact ih c hc q e
  | as hi _ _ _ _ _ _ ih =>
    intro c hc q e
    rcases List.mem_cons.mp hc with rfl | hc
    · cases e; exact (List.getElem?_eq_some_iff.mp hi).1
    · exact ih c hc q e
theorem HdRG.ok {hds : List ExceptHandler} {cs : List HC} (h : HdRG P w K mg base x st N k hds cs) {f : Addr} {cdv : Value} {A : Around} {outer : List PySem.Env} {s : Shared} {H : Hp} {E : XK} (hr : RoomG k (A.deeper (envOfC x (defScope st) s.heap.objs.size f cdv))) :
    ClOk (cxOf L2.CX0 P w K mg base N x (defScope st) f cdv A outer s H E).nox hds (cs.map (HC.cla K)) := by
  induction h with
  | nil => exact .nil
  | bare hg hdb hm hsu _ ih =>
    refine .bare ⟨hg, hdb, .inl hm⟩ (fun a oe cls d pn hz hf => ⟨fun pins s' σ H' D I h => ?_⟩) ih
    obtain ⟨T, ρ, QD, r, h, q⟩ := h
    obtain ⟨t, pt, kt⟩ := (hsu f cdv A outer s H E a oe pn hr).ex
    exact (pss_one (ps_ret pt)).run pins s' σ H' D I (kt T ρ σ H' QD _ r h q)
  | as hi hln hg hdb hm hsu _ ih =>
    refine .as ⟨hg, hdb, .inl hm⟩ hi hln (fun a oe cls d pn hz hf => ⟨fun pins s' σ H' D I h => ?_⟩) ih
    obtain ⟨rfl, T, ρ, pv, d0, dd, QD, rfl, r, h1, h2, h3, h4, q⟩ := h
    obtain ⟨t, pt, kt⟩ := (hsu f cdv A outer s H E a dd oe pn hr hz hf).ex
    exact (pss_one (ps_ret pt)).run pins s' σ H' D I (kt T ρ σ H' QD _ d0 pv r h1 h2 h3 h4 q)
end
section
variable {X : Cx} {e : Expr} {es : List Expr} {x y : Str} {ps : List Str} {k n : Nat} {pos p : Pos} {f : Addr} {fd : FuncData}
end
section
variable {X : Cx} {a b c e : Expr} {es : List Expr} {pos p : Pos} {u dd : Addr} {i : Nat} {f0 x : Str}
end
end Dn
set_option Elab.async false
set_option linter.all false
set_option maxRecDepth 100000
set_option autoImplicit false
set_option maxHeartbeats 4000000
namespace Dn.T.G.K07
open PySem L2 Evl PySem.Spec PyProof.Rows
def top (i : Nat) : Stmt := PySem.Challenge.pw_truenames_k07_whole_parts_and_quotients.main.body.getD i (.Pass ⟨0, 0, 0, 0⟩)
structure Bl (K : PySem.W.Frag) (mg : Str → Option Value) : Prop where
  kt : KT K
  len : mg "len" = none
  range : mg "range" = none
  tuple : mg "tuple" = none
  list : mg "list" = none
  isinstance : mg "isinstance" = none
  int : mg "int" = none
  bool : mg "bool" = none
  str : mg "str" = none
  abs : mg "abs" = none
  max : mg "max" = none
  min : mg "min" = none
  all : mg "all" = none
  any : mg "any" = none
  sum : mg "sum" = none
  sorted : mg "sorted" = none
  enumerate : mg "enumerate" = none
  repr : mg "repr" = none
  set : mg "set" = none
  dict : mg "dict" = none
  zip : mg "zip" = none
  divmod : mg "divmod" = none
abbrev st__wall : Stmt := top 0
abbrev st_is_integer : Stmt := top 10
abbrev st_is_thing : Stmt := top 11
abbrev st_is_row : Stmt := top 12
abbrev st_is_square : Stmt := top 13
abbrev st_is_lot : Stmt := top 14
abbrev st_check_thing : Stmt := top 15
abbrev st_check_lot : Stmt := top 16
abbrev st_unit_of : Stmt := top 18
abbrev st_back_of : Stmt := top 19
abbrev st_backs_of : Stmt := top 20
abbrev st_broken_three : Stmt := top 21
abbrev st_centre_of : Stmt := top 22
abbrev st_least_part : Stmt := top 23
abbrev st_pair_rows : Stmt := top 24
abbrev st_group_paper : Stmt := top 27
abbrev st__check_rows : Stmt := top 28
abbrev st__law_dice : Stmt := top 31
abbrev st__law_roll : Stmt := top 32
abbrev st__law_pick : Stmt := top 33
abbrev st__law_mixed : Stmt := top 34
abbrev st__law_some : Stmt := top 35
abbrev st__law_orders : Stmt := top 36
abbrev st__law_joined : Stmt := top 37
abbrev st__law_undone : Stmt := top 38
abbrev st__law_drawn_move : Stmt := top 39
abbrev st__law_places_of : Stmt := top 40
abbrev st__law_product_dots : Stmt := top 41
abbrev st__law_cyclic : Stmt := top 42
abbrev st__law_direct : Stmt := top 43
abbrev st__law_moves_rows : Stmt := top 44
abbrev st__law_turned_pairs : Stmt := top 45
abbrev st__law_quaternion_rows : Stmt := top 46
abbrev st__law_renamed_group : Stmt := top 47
abbrev st__law_group_rows : Stmt := top 48
abbrev st__law_falls : Stmt := top 49
abbrev st__law_unit : Stmt := top 50
abbrev st__law_inverse : Stmt := top 51
abbrev st__law_made_closed : Stmt := top 52
abbrev st__law_group_parts : Stmt := top 53
abbrev st__law_is_whole_part : Stmt := top 54
abbrev st__law_sides : Stmt := top 55
abbrev st__law_quotient_right : Stmt := top 56
abbrev st__law_right : Stmt := top 57
abbrev st_law : Stmt := top 58
abbrev st_Group____init__ : Stmt := cm (top 29) 0
abbrev st_Group__rows : Stmt := cm (top 29) 5
abbrev st_Group__unit : Stmt := cm (top 29) 7
abbrev st_Group____len__ : Stmt := cm (top 29) 20
abbrev st_Group__size : Stmt := cm (top 29) 6
abbrev st_Group__times : Stmt := cm (top 29) 10
abbrev st_Group__closure : Stmt := cm (top 29) 14
abbrev st_Group__is_whole : Stmt := cm (top 29) 16
abbrev st_Group__parts : Stmt := cm (top 29) 15
abbrev st_Group__quotient : Stmt := cm (top 29) 17
section
variable {P : Program} {w : World} {K : PySem.W.Frag} {mg : Str → Option Value} {base : Heap}
theorem sc_is_integer : FnScope N_is_integer P_is_integer (defScope st_is_integer) := ⟨rfl, rfl, rfl, by decide +kernel, rfl, by decide +kernel, by decide +kernel⟩
theorem bs_is_integer : BindsAs "is_integer" st_is_integer P_is_integer := fun _ _ _ _ _ _ us hl => match us, hl with | [_], _ => rfl
theorem j_is_integer (B : Bl K mg) {t_TOO_LONG : Tok} (c_TOO_LONG : mg "TOO_LONG" = some (.int 1000000000000000000000000000000000000000000000000000000000000 t_TOO_LONG)) : BodyCx P w K mg base "is_integer" st_is_integer N_is_integer 0 fun X => JSs X (defBody st_is_integer) g_is_integer := fun f cdv A outer s H E hr => js_cons (js_if ((jw_or (jt_not (jt_val (je_isi (tn := "int") B.isinstance B.int (by decide +kernel) (je_v 0)))) (jw_or1 (jt_val (je_isi (tn := "bool") B.isinstance B.bool (by decide +kernel) (je_v 0))))).jt) (js_one (js_ret (je_bl))) (js_nil)) (js_one (js_ret (je_chain opd_lt opd_lt (je_neg (je_globI c_TOO_LONG (by rfl))) (je_v 0) (je_globI c_TOO_LONG (by rfl)))))
theorem sc_is_thing : FnScope N_is_thing P_is_thing (defScope st_is_thing) := ⟨rfl, rfl, rfl, by decide +kernel, rfl, by decide +kernel, by decide +kernel⟩
theorem bs_is_thing : BindsAs "is_thing" st_is_thing P_is_thing := fun _ _ _ _ _ _ us hl => match us, hl with | [_, _], _ => rfl
theorem j_is_thing (O_is_integer : Ok P w K mg base "is_integer" P_is_integer 1 (spD K 1 S_is_integer)) : BodyCx P w K mg base "is_thing" st_is_thing N_is_thing 1 fun X => JSs X (defBody st_is_thing) g_is_thing := fun f cdv A outer s H E hr => js_one (js_ret (je_and (je_fn O_is_integer (hr.mono (by decide)) (ja_cons (je_v 0) (ja_nil))) (je_one (je_chain opd_le opd_lt (je_int) (je_v 0) (je_v 1)))))
theorem sc_is_row : FnScope N_is_row P_is_row (defScope st_is_row) := ⟨rfl, rfl, rfl, by decide +kernel, rfl, by decide +kernel, by decide +kernel⟩
theorem bs_is_row : BindsAs "is_row" st_is_row P_is_row := fun _ _ _ _ _ _ us hl => match us, hl with | [_, _, _], _ => rfl
theorem j_is_row (B : Bl K mg) : BodyCx P w K mg base "is_row" st_is_row N_is_row 0 fun X => JSs X (defBody st_is_row) g_is_row := fun f cdv A outer s H E hr => js_cons (js_if ((jw_or (jt_not (jt_val (je_isi (tn := "tuple") B.isinstance B.tuple (by decide +kernel) (je_v 0)))) (jw_or1 (jt_cmp (opd_ne hr.units) (je_callB calld_len B.len (by decide +kernel) (ja_cons (je_v 0) (ja_nil))) (je_v 1) (nomark _)))).jt) (js_one (js_ret (je_bl))) (js_nil)) (js_cons (js_for (vs := [3]) rfl (ji_sq (je_v 0)) (jg_n 3 sc_is_row.nd) (js_one (js_if ((jw_or (jt_not (jt_val (je_isi (tn := "int") B.isinstance B.int (by decide +kernel) (je_v 3)))) (jw_or (jt_val (je_isi (tn := "bool") B.isinstance B.bool (by decide +kernel) (je_v 3))) (jw_or1 (jt_not (jt_chain opd_le opd_lt (je_int) (je_v 3) (je_v 2)))))).jt) (js_one (js_ret (je_bl))) (js_nil)))) (js_one (js_ret (je_bl))))
theorem sc_is_square : FnScope N_is_square P_is_square (defScope st_is_square) := ⟨rfl, rfl, rfl, by decide +kernel, rfl, by decide +kernel, by decide +kernel⟩
theorem bs_is_square : BindsAs "is_square" st_is_square P_is_square := fun _ _ _ _ _ _ us hl => match us, hl with | [_, _, _], _ => rfl
theorem j_is_square (B : Bl K mg) (O_is_row : Ok P w K mg base "is_row" P_is_row 1 (spD K 3 S_is_row)) : BodyCx P w K mg base "is_square" st_is_square N_is_square 1 fun X => JSs X (defBody st_is_square) g_is_square := fun f cdv A outer s H E hr => js_cons (js_if ((jw_or (jt_not (jt_val (je_isi (tn := "tuple") B.isinstance B.tuple (by decide +kernel) (je_v 0)))) (jw_or1 (jt_not (jt_chain opd_le opd_le (je_v 1) (je_callB calld_len B.len (by decide +kernel) (ja_cons (je_v 0) (ja_nil))) (je_v 2))))).jt) (js_one (js_ret (je_bl))) (js_nil)) (js_one (js_ret (je_callB (calld_all rfl) B.all (by decide +kernel) (ja_cons ((jl_lc (own := [("row", 3)]) rfl sc_is_square.nd (ji_sq (je_v 0)) (blkOk_by (by rfl)) (fun _ _ _ _ _ => jg_n 3 sc_is_square.nd) (fun _ _ _ _ _ => jts_nil) (fun _ _ _ _ _ => je_fn O_is_row (hr.mono (by decide)) (ja_cons (je_v 3) (ja_cons (je_callB calld_len B.len (by decide +kernel) (ja_cons (je_v 0) (ja_nil))) (ja_cons (je_callB calld_len B.len (by decide +kernel) (ja_cons (je_v 0) (ja_nil))) (ja_nil)))))).je) (ja_nil)))))
theorem sc_is_lot : FnScope N_is_lot P_is_lot (defScope st_is_lot) := ⟨rfl, rfl, rfl, by decide +kernel, rfl, by decide +kernel, by decide +kernel⟩
theorem bs_is_lot : BindsAs "is_lot" st_is_lot P_is_lot := fun _ _ _ _ _ _ us hl => match us, hl with | [_, _], _ => rfl
theorem j_is_lot (B : Bl K mg) (O_is_row : Ok P w K mg base "is_row" P_is_row 1 (spD K 3 S_is_row)) : BodyCx P w K mg base "is_lot" st_is_lot N_is_lot 1 fun X => JSs X (defBody st_is_lot) g_is_lot := fun f cdv A outer s H E hr => js_cons (js_if ((jw_or (jt_not (jt_val (je_isi (tn := "tuple") B.isinstance B.tuple (by decide +kernel) (je_v 0)))) (jw_or1 (jt_not (jt_val (je_fn O_is_row (hr.mono (by decide)) (ja_cons (je_v 0) (ja_cons (je_callB calld_len B.len (by decide +kernel) (ja_cons (je_v 0) (ja_nil))) (ja_cons (je_v 1) (ja_nil))))))))).jt) (js_one (js_ret (je_bl))) (js_nil)) (js_one (js_ret (je_cmp (opd_eq hr.units) (je_v 0) (je_callTy calld_tuple B.tuple (by decide +kernel) (ja_cons ((jl_sortSet rfl B.sorted B.set (je_v 0)).je) (ja_nil))) (nomark _))))
theorem sc_check_thing : FnScope N_check_thing P_check_thing (defScope st_check_thing) := ⟨rfl, rfl, rfl, by decide +kernel, rfl, by decide +kernel, by decide +kernel⟩
theorem bs_check_thing : BindsAs "check_thing" st_check_thing P_check_thing := fun _ _ _ _ _ _ us hl => match us, hl with | [_, _], _ => rfl
theorem j_check_thing (O_is_thing : Ok P w K mg base "is_thing" P_is_thing 2 (spD K 2 S_is_thing)) : BodyCx P w K mg base "check_thing" st_check_thing N_check_thing 2 fun X => JSs X (defBody st_check_thing) g_check_thing := fun f cdv A outer s H E hr => js_one (js_if (jt_not (jt_val (je_fn O_is_thing (hr.mono (by decide)) (ja_cons (je_v 0) (ja_cons (je_v 1) (ja_nil)))))) (js_one (js_never)) (js_nil))
theorem sc_check_lot : FnScope N_check_lot P_check_lot (defScope st_check_lot) := ⟨rfl, rfl, rfl, by decide +kernel, rfl, by decide +kernel, by decide +kernel⟩
theorem bs_check_lot : BindsAs "check_lot" st_check_lot P_check_lot := fun _ _ _ _ _ _ us hl => match us, hl with | [_, _], _ => rfl
theorem j_check_lot (O_is_lot : Ok P w K mg base "is_lot" P_is_lot 2 (spD K 2 S_is_lot)) : BodyCx P w K mg base "check_lot" st_check_lot N_check_lot 2 fun X => JSs X (defBody st_check_lot) g_check_lot := fun f cdv A outer s H E hr => js_one (js_if (jt_not (jt_val (je_fn O_is_lot (hr.mono (by decide)) (ja_cons (je_v 0) (ja_cons (je_v 1) (ja_nil)))))) (js_one (js_never)) (js_nil))
theorem sc_unit_of : FnScope N_unit_of P_unit_of (defScope st_unit_of) := ⟨rfl, rfl, rfl, by decide +kernel, rfl, by decide +kernel, by decide +kernel⟩
theorem bs_unit_of : BindsAs "unit_of" st_unit_of P_unit_of := fun _ _ _ _ _ _ us hl => match us, hl with | [_], _ => rfl
theorem j_unit_of (B : Bl K mg) : BodyCx P w K mg base "unit_of" st_unit_of N_unit_of 0 fun X => JSs X (defBody st_unit_of) g_unit_of := fun f cdv A outer s H E hr => js_cons (js_set (i := 1) ((je_tupRg rfl B.tuple (jr_1 B.range (je_callB calld_len B.len (by decide +kernel) (ja_cons (je_v 0) (ja_nil))))).jx) sc_unit_of.nd rfl (by first | exact Or.inl rfl | exact Or.inr rfl)) (js_cons (js_for (vs := [2]) rfl (ji_sq (je_v 1)) (jg_n 2 sc_unit_of.nd) (js_one (js_if ((jw_and (jt_cmp (opd_eq hr.units) (je_ix (je_v 0) (je_v 2)) (je_v 1) (nomark _)) (jw_and1 (jt_cmp (opd_eq hr.units) (je_callTy calld_tuple B.tuple (by decide +kernel) (ja_cons ((jl_lc (own := [("row", 3)]) rfl sc_unit_of.nd (ji_sq (je_v 0)) (blkOk_by (by rfl)) (fun _ _ _ _ _ => jg_n 3 sc_unit_of.nd) (fun _ _ _ _ _ => jts_nil) (fun _ _ _ _ _ => je_ix (je_v 3) (je_v 2))).je) (ja_nil))) (je_v 1) (nomark _)))).jt) (js_one (js_ret (je_v 2))) (js_nil)))) (js_one (js_ret (je_non))))
theorem sc_back_of : FnScope N_back_of P_back_of (defScope st_back_of) := ⟨rfl, rfl, rfl, by decide +kernel, rfl, by decide +kernel, by decide +kernel⟩
theorem bs_back_of : BindsAs "back_of" st_back_of P_back_of := fun _ _ _ _ _ _ us hl => match us, hl with | [_, _, _], _ => rfl
theorem j_back_of (B : Bl K mg) : BodyCx P w K mg base "back_of" st_back_of N_back_of 0 fun X => JSs X (defBody st_back_of) g_back_of := fun f cdv A outer s H E hr => js_cons (js_for (vs := [3, 4]) rfl (ji_en B.enumerate (je_ix (je_v 0) (je_v 2))) (jg_tup rfl (jgs_cons (jg_n 3 sc_back_of.nd) (jgs_cons (jg_n 4 sc_back_of.nd) (jgs_nil)))) (js_one (js_if ((jw_and (jt_cmp (opd_eq hr.units) (je_v 4) (je_v 1) (nomark _)) (jw_and1 (jt_cmp (opd_eq hr.units) (je_ix (je_ix (je_v 0) (je_v 3)) (je_v 2)) (je_v 1) (nomark _)))).jt) (js_one (js_ret (je_v 3))) (js_nil)))) (js_one (js_ret (je_non)))
theorem sc_backs_of : FnScope N_backs_of P_backs_of (defScope st_backs_of) := ⟨rfl, rfl, rfl, by decide +kernel, rfl, by decide +kernel, by decide +kernel⟩
theorem bs_backs_of : BindsAs "backs_of" st_backs_of P_backs_of := fun _ _ _ _ _ _ us hl => match us, hl with | [_, _], _ => rfl
theorem j_backs_of (B : Bl K mg) (O_back_of : Ok P w K mg base "back_of" P_back_of 1 (spD K 3 S_back_of)) : BodyCx P w K mg base "backs_of" st_backs_of N_backs_of 1 fun X => JSs X (defBody st_backs_of) g_backs_of := fun f cdv A outer s H E hr => js_one (js_ret (je_callTy calld_tuple B.tuple (by decide +kernel) (ja_cons ((jl_lc (own := [("thing", 2)]) rfl sc_backs_of.nd (ji_r1 B.range (je_callB calld_len B.len (by decide +kernel) (ja_cons (je_v 0) (ja_nil)))) (blkOk_by (by rfl)) (fun _ _ _ _ _ => jg_n 2 sc_backs_of.nd) (fun _ _ _ _ _ => jts_nil) (fun _ _ _ _ _ => je_fn O_back_of (hr.mono (by decide)) (ja_cons (je_v 0) (ja_cons (je_v 1) (ja_cons (je_v 2) (ja_nil)))))).je) (ja_nil))))
theorem sc_broken_three : FnScope N_broken_three P_broken_three (defScope st_broken_three) := ⟨rfl, rfl, rfl, by decide +kernel, rfl, by decide +kernel, by decide +kernel⟩
theorem bs_broken_three : BindsAs "broken_three" st_broken_three P_broken_three := fun _ _ _ _ _ _ us hl => match us, hl with | [_], _ => rfl
theorem j_broken_three (B : Bl K mg) : BodyCx P w K mg base "broken_three" st_broken_three N_broken_three 0 fun X => JSs X (defBody st_broken_three) g_broken_three := fun f cdv A outer s H E hr => js_cons (js_for (vs := [1, 2]) rfl (ji_en B.enumerate (je_v 0)) (jg_tup rfl (jgs_cons (jg_n 1 sc_broken_three.nd) (jgs_cons (jg_n 2 sc_broken_three.nd) (jgs_nil)))) (js_one (js_for (vs := [3, 4]) rfl (ji_en B.enumerate (je_v 2)) (jg_tup rfl (jgs_cons (jg_n 3 sc_broken_three.nd) (jgs_cons (jg_n 4 sc_broken_three.nd) (jgs_nil)))) (js_one (js_for (vs := [5, 6]) rfl (ji_en B.enumerate (je_ix (je_v 0) (je_v 3))) (jg_tup rfl (jgs_cons (jg_n 5 sc_broken_three.nd) (jgs_cons (jg_n 6 sc_broken_three.nd) (jgs_nil)))) (js_one (js_if (jt_cmp (opd_ne hr.units) (je_ix (je_ix (je_v 0) (je_v 4)) (je_v 5)) (je_ix (je_v 2) (je_v 6)) (nomark _)) (js_one (js_ret (je_tup (ja_cons (je_v 1) (ja_cons (je_v 3) (ja_cons (je_v 5) (ja_nil))))))) (js_nil)))))))) (js_one (js_ret (je_non)))
theorem sc_centre_of : FnScope N_centre_of P_centre_of (defScope st_centre_of) := ⟨rfl, rfl, rfl, by decide +kernel, rfl, by decide +kernel, by decide +kernel⟩
theorem bs_centre_of : BindsAs "centre_of" st_centre_of P_centre_of := fun _ _ _ _ _ _ us hl => match us, hl with | [_], _ => rfl
theorem j_centre_of (B : Bl K mg) : BodyCx P w K mg base "centre_of" st_centre_of N_centre_of 0 fun X => JSs X (defBody st_centre_of) g_centre_of := fun f cdv A outer s H E hr => js_cons (js_set (i := 1) (((jl_lc (own := [("thing", 2)]) rfl sc_centre_of.nd (ji_r1 B.range (je_callB calld_len B.len (by decide +kernel) (ja_cons (je_v 0) (ja_nil)))) (blkOk_by (by rfl)) (fun _ _ _ _ _ => jg_n 2 sc_centre_of.nd) (fun _ _ _ _ _ => jts_nil) (fun _ _ _ _ _ => je_callTy calld_tuple B.tuple (by decide +kernel) (ja_cons ((jl_lc (own := [("row", 3)]) rfl sc_centre_of.nd (ji_sq (je_v 0)) (blkOk_by (by rfl)) (fun _ _ _ _ _ => jg_n 3 sc_centre_of.nd) (fun _ _ _ _ _ => jts_nil) (fun _ _ _ _ _ => je_ix (je_v 3) (je_v 2))).je) (ja_nil)))).je).jx) sc_centre_of.nd rfl (by first | exact Or.inl rfl | exact Or.inr rfl)) (js_one (js_ret (je_callTy calld_tuple B.tuple (by decide +kernel) (ja_cons ((jl_lc (own := [("thing", 2), ("row", 3)]) rfl sc_centre_of.nd (ji_en B.enumerate (je_v 0)) (blkOk_by (by rfl)) (fun _ _ _ _ _ => jg_tup rfl (jgs_cons (jg_n 2 sc_centre_of.nd) (jgs_cons (jg_n 3 sc_centre_of.nd) (jgs_nil)))) (fun _ _ _ _ _ => jts_one (jt_cmp (opd_eq hr.units) (je_v 3) (je_ix (je_v 1) (je_v 2)) (nomark _))) (fun _ _ _ _ _ => je_v 2)).je) (ja_nil)))))
theorem sc_least_part : FnScope N_least_part P_least_part (defScope st_least_part) := ⟨rfl, rfl, rfl, by decide +kernel, rfl, by decide +kernel, by decide +kernel⟩
theorem bs_least_part : BindsAs "least_part" st_least_part P_least_part := fun _ _ _ _ _ _ us hl => match us, hl with | [_, _, _], _ => rfl
theorem j_least_part (B : Bl K mg) : BodyCx P w K mg base "least_part" st_least_part N_least_part 0 fun X => JSs X (defBody st_least_part) g_least_part := fun f cdv A outer s H E hr => js_cons (js_set (i := 3) ((jl_lst (ja_cons (je_v 1) (ja_nil))).jx) sc_least_part.nd rfl (by first | exact Or.inl rfl | exact Or.inr rfl)) (js_cons (js_set (i := 4) ((je_int).jx) sc_least_part.nd rfl (by first | exact Or.inl rfl | exact Or.inr rfl)) (js_cons (js_while (jt_cmp opd_lt (je_v 4) (je_callBO calld_len B.len (by decide +kernel) (i := 3) rfl (by first | exact Or.inl rfl | exact Or.inr (Or.inl rfl) | exact Or.inr (Or.inr rfl))) (nomark _)) (js_cons (js_for (vs := [5]) rfl (ji_sq (je_v 2)) (jg_n 5 sc_least_part.nd) (js_cons (js_set (i := 6) ((je_ix (je_ix (je_v 0) (je_ixP (i := 3) rfl (by first | exact Or.inl rfl | exact Or.inr (Or.inl rfl) | exact Or.inr (Or.inr rfl)) (je_v 4))) (je_v 5)).jx) sc_least_part.nd rfl (by first | exact Or.inl rfl | exact Or.inr rfl)) (js_one (js_if (jt_cmpR opd_notin (i := 3) rfl (by first | exact Or.inl rfl | exact Or.inr (Or.inl rfl) | exact Or.inr (Or.inr rfl)) (je_v 6) rfl) (js_one (js_expr (je_app (i := 3) rfl (by first | exact Or.inl rfl | exact Or.inr (Or.inl rfl) | exact Or.inr (Or.inr rfl)) (je_v 6)))) (js_nil))))) (js_one (js_augI (i := 4) sc_least_part.nd rfl (by first | exact Or.inl rfl | exact Or.inr rfl) (je_int))))) (js_one (js_ret (je_callTy calld_tuple B.tuple (by decide +kernel) (ja_cons ((jl_sort B.sorted (je_vF 3)).je) (ja_nil)))))))
theorem sc__check_rows : FnScope N__check_rows P__check_rows (defScope st__check_rows) := ⟨rfl, rfl, rfl, by decide +kernel, rfl, by decide +kernel, by decide +kernel⟩
theorem bs__check_rows : BindsAs "_check_rows" st__check_rows P__check_rows := fun _ _ _ _ _ _ us hl => match us, hl with | [_], _ => rfl
theorem j__check_rows {t_MAX_GROUP : Tok} (c_MAX_GROUP : mg "MAX_GROUP" = some (.int 24 t_MAX_GROUP)) (O_is_square : Ok P w K mg base "is_square" P_is_square 2 (spD K 3 S_is_square)) : BodyCx P w K mg base "_check_rows" st__check_rows N__check_rows 2 fun X => JSs X (defBody st__check_rows) g__check_rows := fun f cdv A outer s H E hr => js_one (js_if (jt_not (jt_val (je_fn O_is_square (hr.mono (by decide)) (ja_cons (je_v 0) (ja_cons (je_int) (ja_cons (je_globI c_MAX_GROUP (by rfl)) (ja_nil))))))) (js_one (js_never)) (js_nil))
theorem sc__law_dice : FnScope N__law_dice P__law_dice (defScope st__law_dice) := ⟨rfl, rfl, rfl, by decide +kernel, rfl, by decide +kernel, by decide +kernel⟩
theorem bs__law_dice : BindsAs "_law_dice" st__law_dice P__law_dice := fun _ _ _ _ _ _ us hl => match us, hl with | [_, _], _ => rfl
theorem j__law_dice (B : Bl K mg) : BodyCx P w K mg base "_law_dice" st__law_dice N__law_dice 0 fun X => JSL X (defBody st__law_dice) g__law_dice := fun f cdv A outer s H E hr => jsl_cons (js_set (i := 2) ((je_if (jt_cmp opd_lt (je_v 1) (je_callB calld_len B.len (by decide +kernel) (ja_cons (je_v 0) (ja_nil))) (nomark _)) (je_callTy calld_int B.int (by decide +kernel) (ja_cons (je_ix (je_v 0) (je_v 1)) (ja_nil))) (je_bin opd_add (je_bin opd_mulA (je_int) (je_v 1)) (je_int))).jx) sc__law_dice.nd rfl (by first | exact Or.inl rfl | exact Or.inr rfl)) (jsl_cons (js_set (i := 3) ((je_bin opd_mod (je_callB (calld_max2 rfl) B.max (by decide +kernel) (ja_cons (je_int) (ja_cons (je_bin opd_sub (je_callB calld_abs B.abs (by decide +kernel) (ja_cons (je_v 2) (ja_nil))) (je_bin opd_pow (je_int) (je_int))) (ja_nil)))) (je_bin opd_mulA (je_bin opd_pow (je_int) (je_int)) (je_bin opd_pow (je_int) (je_int)))).jx) sc__law_dice.nd rfl (by first | exact Or.inl rfl | exact Or.inr rfl)) (jsl_ret (jl_lst (ja_cons (je_v 3) (ja_cons (je_bin opd_add (je_bin opd_add (je_bin opd_add (je_bin opd_mulA (je_bin opd_mod (je_callB calld_abs B.abs (by decide +kernel) (ja_cons (je_v 2) (ja_nil))) (je_int)) (je_int)) (je_bin opd_mulA (je_int) (je_v 1))) (je_bin opd_mulA (je_int) (je_callTy calld_int B.int (by decide +kernel) (ja_cons (je_cmp opd_lt (je_v 2) (je_int) (nomark _)) (ja_nil))))) (je_int)) (ja_cons (je_int) (ja_nil)))))))
theorem sc__law_roll : FnScope N__law_roll P__law_roll (defScope st__law_roll) := ⟨rfl, rfl, rfl, by decide +kernel, rfl, by decide +kernel, by decide +kernel⟩
theorem bs__law_roll : BindsAs "_law_roll" st__law_roll P__law_roll := fun _ _ _ _ _ _ us hl => match us, hl with | [_, _], _ => rfl
theorem j__law_roll (B : Bl K mg) : BodyCx P w K mg base "_law_roll" st__law_roll N__law_roll 0 fun X => JSs X (defBody st__law_roll) g__law_roll := fun f cdv A outer s H E hr => js_cons (js_if (jt_cmp opd_gt (je_ixP (i := 0) rfl (by first | exact Or.inl rfl | exact Or.inr (Or.inl rfl) | exact Or.inr (Or.inr rfl)) (je_int)) (je_int) (nomark _)) (js_cons (js_set (i := 2) ((je_bin opd_mod (je_callTy calld_int B.int (by decide +kernel) (ja_cons (je_ixP (i := 0) rfl (by first | exact Or.inl rfl | exact Or.inr (Or.inl rfl) | exact Or.inr (Or.inr rfl)) (je_int)) (ja_nil))) (je_v 1)).jx) sc__law_roll.nd rfl (by first | exact Or.inl rfl | exact Or.inr rfl)) (js_cons (js_sub (i := 0) rfl (by first | exact Or.inl rfl | exact Or.inr (Or.inl rfl) | exact Or.inr (Or.inr rfl)) (je_int) (je_bin opd_fdiv (je_ixP (i := 0) rfl (by first | exact Or.inl rfl | exact Or.inr (Or.inl rfl) | exact Or.inr (Or.inr rfl)) (je_int)) (je_v 1))) (js_one (js_ret (je_v 2))))) (js_nil)) (js_cons (js_sub (i := 0) rfl (by first | exact Or.inl rfl | exact Or.inr (Or.inl rfl) | exact Or.inr (Or.inr rfl)) (je_int) (je_bin opd_add (je_ixP (i := 0) rfl (by first | exact Or.inl rfl | exact Or.inr (Or.inl rfl) | exact Or.inr (Or.inr rfl)) (je_int)) (je_int))) (js_cons (js_set (i := 3) ((je_bin opd_mod (je_callTy calld_int B.int (by decide +kernel) (ja_cons (je_bin opd_add (je_ixP (i := 0) rfl (by first | exact Or.inl rfl | exact Or.inr (Or.inl rfl) | exact Or.inr (Or.inr rfl)) (je_int)) (je_bin opd_mulA (je_int) (je_ixP (i := 0) rfl (by first | exact Or.inl rfl | exact Or.inr (Or.inl rfl) | exact Or.inr (Or.inr rfl)) (je_int)))) (ja_nil))) (je_int)).jx) sc__law_roll.nd rfl (by first | exact Or.inl rfl | exact Or.inr rfl)) (js_cons (js_set (i := 4) ((je_bin opd_add (je_bin opd_mulA (je_bin opd_mod (je_callTy calld_int B.int (by decide +kernel) (ja_cons (je_bin opd_add (je_bin opd_mulA (je_v 3) (je_v 3)) (je_bin opd_mulA (je_int) (je_ixP (i := 0) rfl (by first | exact Or.inl rfl | exact Or.inr (Or.inl rfl) | exact Or.inr (Or.inr rfl)) (je_int)))) (ja_nil))) (je_int)) (je_int)) (je_v 3)).jx) sc__law_roll.nd rfl (by first | exact Or.inl rfl | exact Or.inr rfl)) (js_one (js_ret (je_bin opd_mod (je_callTy calld_int B.int (by decide +kernel) (ja_cons (je_bin opd_fdiv (je_v 4) (je_int)) (ja_nil))) (je_v 1)))))))
theorem sc__law_pick : FnScope N__law_pick P__law_pick (defScope st__law_pick) := ⟨rfl, rfl, rfl, by decide +kernel, rfl, by decide +kernel, by decide +kernel⟩
theorem bs__law_pick : BindsAs "_law_pick" st__law_pick P__law_pick := fun _ _ _ _ _ _ us hl => match us, hl with | [_, _], _ => rfl
theorem j__law_pick (B : Bl K mg) (O__law_roll : Ok P w K mg base "_law_roll" P__law_roll 1 (spM K 2 S__law_roll)) : BodyCx P w K mg base "_law_pick" st__law_pick N__law_pick 1 fun X => JSs X (defBody st__law_pick) g__law_pick := fun f cdv A outer s H E hr => js_one (js_ret (je_ix (je_v 1) (je_fnM O__law_roll (hr.mono (by decide)) (i := 0) rfl (by first | exact Or.inl rfl | exact Or.inr (Or.inl rfl) | exact Or.inr (Or.inr rfl)) (ja_cons (je_callB calld_len B.len (by decide +kernel) (ja_cons (je_v 1) (ja_nil))) (ja_nil)))))
theorem sc__law_mixed : FnScope N__law_mixed P__law_mixed (defScope st__law_mixed) := ⟨rfl, rfl, rfl, by decide +kernel, rfl, by decide +kernel, by decide +kernel⟩
theorem bs__law_mixed : BindsAs "_law_mixed" st__law_mixed P__law_mixed := fun _ _ _ _ _ _ us hl => match us, hl with | [_, _], _ => rfl
theorem j__law_mixed (B : Bl K mg) (O__law_roll : Ok P w K mg base "_law_roll" P__law_roll 1 (spM K 2 S__law_roll)) : BodyCx P w K mg base "_law_mixed" st__law_mixed N__law_mixed 1 fun X => JSs X (defBody st__law_mixed) g__law_mixed := fun f cdv A outer s H E hr => js_cons (js_par (i := 2) (j := 3) rfl sc__law_mixed.nd rfl rfl (by decide) rfl rfl ((jl_list B.list (je_v 1)).jx) ((jl_lst (ja_nil)).jx) rfl) (js_cons (js_for (vs := [4]) rfl (ji_r1 B.range (je_callB calld_len B.len (by decide +kernel) (ja_cons (je_v 1) (ja_nil)))) (jg_n 4 sc__law_mixed.nd) (js_one (js_expr (je_app (i := 3) rfl (by first | exact Or.inl rfl | exact Or.inr (Or.inl rfl) | exact Or.inr (Or.inr rfl)) (je_popAt (i := 2) rfl (by first | exact Or.inl rfl | exact Or.inr (Or.inl rfl) | exact Or.inr (Or.inr rfl)) (je_fnM O__law_roll (hr.mono (by decide)) (i := 0) rfl (by first | exact Or.inl rfl | exact Or.inr (Or.inl rfl) | exact Or.inr (Or.inr rfl)) (ja_cons (je_callBO calld_len B.len (by decide +kernel) (i := 2) rfl (by first | exact Or.inl rfl | exact Or.inr (Or.inl rfl) | exact Or.inr (Or.inr rfl))) (ja_nil)))))))) (js_one (js_retO (i := 3) rfl (by first | exact Or.inl rfl | exact Or.inr (Or.inl rfl) | exact Or.inr (Or.inr rfl)))))
theorem sc__law_some : FnScope N__law_some P__law_some (defScope st__law_some) := ⟨rfl, rfl, rfl, by decide +kernel, rfl, by decide +kernel, by decide +kernel⟩
theorem bs__law_some : BindsAs "_law_some" st__law_some P__law_some := fun _ _ _ _ _ _ us hl => match us, hl with | [_, _], _ => rfl
theorem j__law_some (O__law_roll : Ok P w K mg base "_law_roll" P__law_roll 1 (spM K 2 S__law_roll)) : BodyCx P w K mg base "_law_some" st__law_some N__law_some 1 fun X => JSs X (defBody st__law_some) g__law_some := fun f cdv A outer s H E hr => js_one (js_ret ((jl_lc (own := [("_law_item", 2)]) rfl sc__law_some.nd (ji_sq (je_v 1)) (blkOk_by (by rfl)) (fun _ _ _ _ _ => jg_n 2 sc__law_some.nd) (fun _ _ _ _ _ => jts_one (jt_cmp (opd_eq hr.units) (je_fnM O__law_roll (hr.mono (by decide)) (i := 0) rfl (by first | exact Or.inl rfl | exact Or.inr (Or.inl rfl) | exact Or.inr (Or.inr rfl)) (ja_cons (je_int) (ja_nil))) (je_int) (nomark _))) (fun _ _ _ _ _ => je_v 2)).je))
theorem sc__law_orders : FnScope N__law_orders P__law_orders (defScope st__law_orders) := ⟨rfl, rfl, rfl, by decide +kernel, rfl, by decide +kernel, by decide +kernel⟩
theorem bs__law_orders : BindsAs "_law_orders" st__law_orders P__law_orders := fun _ _ _ _ _ _ us hl => match us, hl with | [_], _ => rfl
theorem j__law_orders (B : Bl K mg) : BodyCx P w K mg base "_law_orders" st__law_orders N__law_orders 0 fun X => JSs X (defBody st__law_orders) g__law_orders := fun f cdv A outer s H E hr => js_cons (js_set (i := 1) (((jl_lst (ja_cons (je_tup (ja_nil)) (ja_nil))).je).jx) sc__law_orders.nd rfl (by first | exact Or.inl rfl | exact Or.inr rfl)) (js_cons (js_for (vs := [2]) rfl (ji_r1 B.range (je_v 0)) (jg_n 2 sc__law_orders.nd) (js_cons (js_set (i := 3) ((jl_lst (ja_nil)).jx) sc__law_orders.nd rfl (by first | exact Or.inl rfl | exact Or.inr rfl)) (js_cons (js_for (vs := [4]) rfl (ji_sq (je_v 1)) (jg_n 4 sc__law_orders.nd) (js_one (js_expr (je_ext (i := 3) rfl (by first | exact Or.inl rfl | exact Or.inr (Or.inl rfl) | exact Or.inr (Or.inr rfl)) ((jl_lc (own := [("_law_thing", 5)]) rfl sc__law_orders.nd (ji_r1 B.range (je_v 0)) (blkOk_by (by rfl)) (fun _ _ _ _ _ => jg_n 5 sc__law_orders.nd) (fun _ _ _ _ _ => jts_one (jt_cmp opd_notin (je_v 5) (je_v 4) rfl)) (fun _ _ _ _ _ => je_bin opd_add (je_v 4) (je_tup (ja_cons (je_v 5) (ja_nil))))).je))))) (js_one (js_set (i := 1) (((jl_listO B.list (i := 3) rfl (by first | exact Or.inl rfl | exact Or.inr (Or.inl rfl) | exact Or.inr (Or.inr rfl))).je).jx) sc__law_orders.nd rfl (by first | exact Or.inl rfl | exact Or.inr rfl)))))) (js_one (js_ret (je_v 1))))
theorem sc__law_joined : FnScope N__law_joined P__law_joined (defScope st__law_joined) := ⟨rfl, rfl, rfl, by decide +kernel, rfl, by decide +kernel, by decide +kernel⟩
theorem bs__law_joined : BindsAs "_law_joined" st__law_joined P__law_joined := fun _ _ _ _ _ _ us hl => match us, hl with | [_, _], _ => rfl
theorem j__law_joined (B : Bl K mg) : BodyCx P w K mg base "_law_joined" st__law_joined N__law_joined 0 fun X => JSs X (defBody st__law_joined) g__law_joined := fun f cdv A outer s H E hr => js_one (js_ret (je_callTy calld_tuple B.tuple (by decide +kernel) (ja_cons ((jl_lc (own := [("_law_thing", 2)]) rfl sc__law_joined.nd (ji_sq (je_v 1)) (blkOk_by (by rfl)) (fun _ _ _ _ _ => jg_n 2 sc__law_joined.nd) (fun _ _ _ _ _ => jts_nil) (fun _ _ _ _ _ => je_ix (je_v 0) (je_v 2))).je) (ja_nil))))
theorem sc__law_undone : FnScope N__law_undone P__law_undone (defScope st__law_undone) := ⟨rfl, rfl, rfl, by decide +kernel, rfl, by decide +kernel, by decide +kernel⟩
theorem bs__law_undone : BindsAs "_law_undone" st__law_undone P__law_undone := fun _ _ _ _ _ _ us hl => match us, hl with | [_], _ => rfl
theorem j__law_undone (B : Bl K mg) : BodyCx P w K mg base "_law_undone" st__law_undone N__law_undone 0 fun X => JSs X (defBody st__law_undone) g__law_undone := fun f cdv A outer s H E hr => js_cons (js_lcO (own := [("_law_thing", 2)]) rfl sc__law_undone.nd (i := 1) rfl rfl (sw_true rfl rfl rfl (by decide +kernel)) (ji_sq (je_v 0)) (blkOk_by (by rfl)) (fun _ _ _ _ _ => jg_n 2 sc__law_undone.nd) (fun _ _ _ _ _ => jts_nil) (fun _ _ _ _ _ => je_int)) (js_cons (js_for (vs := [2, 3]) rfl (ji_en B.enumerate (je_v 0)) (jg_tup rfl (jgs_cons (jg_n 2 sc__law_undone.nd) (jgs_cons (jg_n 3 sc__law_undone.nd) (jgs_nil)))) (js_one (js_sub (i := 1) rfl (by first | exact Or.inl rfl | exact Or.inr (Or.inl rfl) | exact Or.inr (Or.inr rfl)) (je_v 3) (je_v 2)))) (js_one (js_ret (je_tupleO B.tuple (i := 1) rfl (by first | exact Or.inl rfl | exact Or.inr (Or.inl rfl) | exact Or.inr (Or.inr rfl))))))
theorem sc__law_drawn_move : FnScope N__law_drawn_move P__law_drawn_move (defScope st__law_drawn_move) := ⟨rfl, rfl, rfl, by decide +kernel, rfl, by decide +kernel, by decide +kernel⟩
theorem bs__law_drawn_move : BindsAs "_law_drawn_move" st__law_drawn_move P__law_drawn_move := fun _ _ _ _ _ _ us hl => match us, hl with | [_, _], _ => rfl
theorem j__law_drawn_move (B : Bl K mg) (O__law_mixed : Ok P w K mg base "_law_mixed" P__law_mixed 2 (spM K 2 S__law_mixed)) : BodyCx P w K mg base "_law_drawn_move" st__law_drawn_move N__law_drawn_move 2 fun X => JSs X (defBody st__law_drawn_move) g__law_drawn_move := fun f cdv A outer s H E hr => js_one (js_ret (je_callTy calld_tuple B.tuple (by decide +kernel) (ja_cons (je_fnM O__law_mixed (hr.mono (by decide)) (i := 0) rfl (by first | exact Or.inl rfl | exact Or.inr (Or.inl rfl) | exact Or.inr (Or.inr rfl)) (ja_cons ((jl_rg rfl B.list (jr_1 B.range (je_v 1))).je) (ja_nil))) (ja_nil))))
theorem sc__law_places_of : FnScope N__law_places_of P__law_places_of (defScope st__law_places_of) := ⟨rfl, rfl, rfl, by decide +kernel, rfl, by decide +kernel, by decide +kernel⟩
theorem bs__law_places_of : BindsAs "_law_places_of" st__law_places_of P__law_places_of := fun _ _ _ _ _ _ us hl => match us, hl with | [_, _], _ => rfl
theorem j__law_places_of (B : Bl K mg) : BodyCx P w K mg base "_law_places_of" st__law_places_of N__law_places_of 0 fun X => JSs X (defBody st__law_places_of) g__law_places_of := fun f cdv A outer s H E hr => js_one (js_ret ((jl_lc (own := [("_law_at", 2)]) rfl sc__law_places_of.nd (ji_r1 B.range (je_bin opd_mulA (je_v 0) (je_v 1))) (blkOk_by (by rfl)) (fun _ _ _ _ _ => jg_n 2 sc__law_places_of.nd) (fun _ _ _ _ _ => jts_nil) (fun _ _ _ _ _ => je_tup (ja_cons (je_bin opd_fdiv (je_v 2) (je_v 1)) (ja_cons (je_bin opd_mod (je_v 2) (je_v 1)) (ja_nil))))).je))
theorem sc__law_product_dots : FnScope N__law_product_dots P__law_product_dots (defScope st__law_product_dots) := ⟨rfl, rfl, rfl, by decide +kernel, rfl, by decide +kernel, by decide +kernel⟩
theorem bs__law_product_dots : BindsAs "_law_product_dots" st__law_product_dots P__law_product_dots := fun _ _ _ _ _ _ us hl => match us, hl with | [_, _], _ => rfl
theorem j__law_product_dots (B : Bl K mg) (O__law_places_of : Ok P w K mg base "_law_places_of" P__law_places_of 1 (spD K 2 S__law_places_of)) : BodyCx P w K mg base "_law_product_dots" st__law_product_dots N__law_product_dots 1 fun X => JSs X (defBody st__law_product_dots) g__law_product_dots := fun f cdv A outer s H E hr => js_cons (js_parT (i := 2) (j := 3) rfl sc__law_product_dots.nd rfl rfl (by decide) (by first | exact Or.inl rfl | exact Or.inr rfl) (by first | exact Or.inl rfl | exact Or.inr rfl) ((je_callB calld_len B.len (by decide +kernel) (ja_cons (je_v 1) (ja_nil))).jx) ((jl_lst (ja_nil)).jx)) (js_cons (js_set (i := 4) ((je_fn O__law_places_of (hr.mono (by decide)) (ja_cons (je_callB calld_len B.len (by decide +kernel) (ja_cons (je_v 0) (ja_nil))) (ja_cons (je_v 2) (ja_nil)))).jx) sc__law_product_dots.nd rfl (by first | exact Or.inl rfl | exact Or.inr rfl)) (js_cons (js_for (vs := [5, 6]) rfl (ji_sq (je_v 4)) (jg_tup rfl (jgs_cons (jg_n 5 sc__law_product_dots.nd) (jgs_cons (jg_n 6 sc__law_product_dots.nd) (jgs_nil)))) (js_cons (js_parT (i := 7) (j := 8) rfl sc__law_product_dots.nd rfl rfl (by decide) (by first | exact Or.inl rfl | exact Or.inr rfl) (by first | exact Or.inl rfl | exact Or.inr rfl) ((je_ix (je_v 0) (je_v 5)).jx) ((je_ix (je_v 1) (je_v 6)).jx)) (js_one (js_expr (je_app (i := 3) rfl (by first | exact Or.inl rfl | exact Or.inr (Or.inl rfl) | exact Or.inr (Or.inr rfl)) (je_callTy calld_tuple B.tuple (by decide +kernel) (ja_cons ((jl_lc (own := [("_law_a", 9), ("_law_b", 10)]) rfl sc__law_product_dots.nd (ji_sq (je_v 4)) (blkOk_by (by rfl)) (fun _ _ _ _ _ => jg_tup rfl (jgs_cons (jg_n 9 sc__law_product_dots.nd) (jgs_cons (jg_n 10 sc__law_product_dots.nd) (jgs_nil)))) (fun _ _ _ _ _ => jts_nil) (fun _ _ _ _ _ => je_bin opd_add (je_bin opd_mulA (je_ix (je_v 7) (je_v 9)) (je_v 2)) (je_ix (je_v 8) (je_v 10)))).je) (ja_nil)))))))) (js_one (js_retO (i := 3) rfl (by first | exact Or.inl rfl | exact Or.inr (Or.inl rfl) | exact Or.inr (Or.inr rfl))))))
theorem sc__law_cyclic : FnScope N__law_cyclic P__law_cyclic (defScope st__law_cyclic) := ⟨rfl, rfl, rfl, by decide +kernel, rfl, by decide +kernel, by decide +kernel⟩
theorem bs__law_cyclic : BindsAs "_law_cyclic" st__law_cyclic P__law_cyclic := fun _ _ _ _ _ _ us hl => match us, hl with | [_], _ => rfl
theorem j__law_cyclic (B : Bl K mg) : BodyCx P w K mg base "_law_cyclic" st__law_cyclic N__law_cyclic 0 fun X => JSs X (defBody st__law_cyclic) g__law_cyclic := fun f cdv A outer s H E hr => js_one (js_ret (je_callTy calld_tuple B.tuple (by decide +kernel) (ja_cons ((jl_lc (own := [("_law_a", 1)]) rfl sc__law_cyclic.nd (ji_r1 B.range (je_v 0)) (blkOk_by (by rfl)) (fun _ _ _ _ _ => jg_n 1 sc__law_cyclic.nd) (fun _ _ _ _ _ => jts_nil) (fun _ _ _ _ _ => je_callTy calld_tuple B.tuple (by decide +kernel) (ja_cons ((jl_lc (own := [("_law_b", 2)]) rfl sc__law_cyclic.nd (ji_r1 B.range (je_v 0)) (blkOk_by (by rfl)) (fun _ _ _ _ _ => jg_n 2 sc__law_cyclic.nd) (fun _ _ _ _ _ => jts_nil) (fun _ _ _ _ _ => je_bin opd_mod (je_callTy calld_int B.int (by decide +kernel) (ja_cons (je_bin opd_add (je_v 1) (je_v 2)) (ja_nil))) (je_v 0))).je) (ja_nil)))).je) (ja_nil))))
theorem sc__law_direct : FnScope N__law_direct P__law_direct (defScope st__law_direct) := ⟨rfl, rfl, rfl, by decide +kernel, rfl, by decide +kernel, by decide +kernel⟩
theorem bs__law_direct : BindsAs "_law_direct" st__law_direct P__law_direct := fun _ _ _ _ _ _ us hl => match us, hl with | [_, _], _ => rfl
theorem j__law_direct (B : Bl K mg) (O__law_product_dots : Ok P w K mg base "_law_product_dots" P__law_product_dots 2 (spD K 2 S__law_product_dots)) : BodyCx P w K mg base "_law_direct" st__law_direct N__law_direct 2 fun X => JSs X (defBody st__law_direct) g__law_direct := fun f cdv A outer s H E hr => js_one (js_ret (je_callTy calld_tuple B.tuple (by decide +kernel) (ja_cons (je_fn O__law_product_dots (hr.mono (by decide)) (ja_cons (je_v 0) (ja_cons (je_v 1) (ja_nil)))) (ja_nil))))
theorem sc__law_moves_rows : FnScope N__law_moves_rows P__law_moves_rows (defScope st__law_moves_rows) := ⟨rfl, rfl, rfl, by decide +kernel, rfl, by decide +kernel, by decide +kernel⟩
theorem bs__law_moves_rows : BindsAs "_law_moves_rows" st__law_moves_rows P__law_moves_rows := fun _ _ _ _ _ _ us hl => match us, hl with | [_], _ => rfl
theorem j__law_moves_rows (B : Bl K mg) (O__law_joined : Ok P w K mg base "_law_joined" P__law_joined 1 (spD K 2 S__law_joined)) : BodyCx P w K mg base "_law_moves_rows" st__law_moves_rows N__law_moves_rows 1 fun X => JSs X (defBody st__law_moves_rows) g__law_moves_rows := fun f cdv A outer s H E hr => js_one (js_ret (je_callTy calld_tuple B.tuple (by decide +kernel) (ja_cons ((jl_lc (own := [("_law_one", 1)]) rfl sc__law_moves_rows.nd (ji_sq (je_v 0)) (blkOk_by (by rfl)) (fun _ _ _ _ _ => jg_n 1 sc__law_moves_rows.nd) (fun _ _ _ _ _ => jts_nil) (fun _ _ _ _ _ => je_callTy calld_tuple B.tuple (by decide +kernel) (ja_cons ((jl_lc (own := [("_law_other", 2)]) rfl sc__law_moves_rows.nd (ji_sq (je_v 0)) (blkOk_by (by rfl)) (fun _ _ _ _ _ => jg_n 2 sc__law_moves_rows.nd) (fun _ _ _ _ _ => jts_nil) (fun _ _ _ _ _ => je_indexD (hu65 hr) (je_v 0) (je_fn O__law_joined (hr.mono (by decide)) (ja_cons (je_v 1) (ja_cons (je_v 2) (ja_nil)))))).je) (ja_nil)))).je) (ja_nil))))
theorem sc__law_turned_pairs : FnScope N__law_turned_pairs P__law_turned_pairs (defScope st__law_turned_pairs) := ⟨rfl, rfl, rfl, by decide +kernel, rfl, by decide +kernel, by decide +kernel⟩
theorem bs__law_turned_pairs : BindsAs "_law_turned_pairs" st__law_turned_pairs P__law_turned_pairs := fun _ _ _ _ _ _ us hl => match us, hl with | [_], _ => rfl
theorem j__law_turned_pairs (B : Bl K mg) : BodyCx P w K mg base "_law_turned_pairs" st__law_turned_pairs N__law_turned_pairs 0 fun X => JSs X (defBody st__law_turned_pairs) g__law_turned_pairs := fun f cdv A outer s H E hr => js_cons (js_set (i := 1) ((jl_lst (ja_nil)).jx) sc__law_turned_pairs.nd rfl (by first | exact Or.inl rfl | exact Or.inr rfl)) (js_cons (js_for (vs := [2]) rfl (ji_r1 B.range (je_bin opd_mulA (je_int) (je_v 0))) (jg_n 2 sc__law_turned_pairs.nd) (js_cons (js_set (i := 3) ((jl_lst (ja_nil)).jx) sc__law_turned_pairs.nd rfl (by first | exact Or.inl rfl | exact Or.inr rfl)) (js_cons (js_for (vs := [4]) rfl (ji_r1 B.range (je_bin opd_mulA (je_int) (je_v 0))) (jg_n 4 sc__law_turned_pairs.nd) (js_cons (js_set (i := 5) ((je_if (jt_cmp (opd_eq hr.units) (je_bin opd_mod (je_v 2) (je_int)) (je_int) (nomark _)) (je_bin opd_fdiv (je_v 4) (je_int)) (je_bin opd_sub (je_v 0) (je_bin opd_fdiv (je_v 4) (je_int)))).jx) sc__law_turned_pairs.nd rfl (by first | exact Or.inl rfl | exact Or.inr rfl)) (js_one (js_expr (je_app (i := 3) rfl (by first | exact Or.inl rfl | exact Or.inr (Or.inl rfl) | exact Or.inr (Or.inr rfl)) (je_bin opd_add (je_bin opd_mulA (je_bin opd_mod (je_callTy calld_int B.int (by decide +kernel) (ja_cons (je_bin opd_add (je_bin opd_fdiv (je_v 2) (je_int)) (je_v 5)) (ja_nil))) (je_v 0)) (je_int)) (je_bin opd_mod (je_callTy calld_int B.int (by decide +kernel) (ja_cons (je_bin opd_add (je_v 2) (je_v 4)) (ja_nil))) (je_int)))))))) (js_one (js_expr (je_app (i := 1) rfl (by first | exact Or.inl rfl | exact Or.inr (Or.inl rfl) | exact Or.inr (Or.inr rfl)) (je_tupleO B.tuple (i := 3) rfl (by first | exact Or.inl rfl | exact Or.inr (Or.inl rfl) | exact Or.inr (Or.inr rfl))))))))) (js_one (js_ret (je_tupleO B.tuple (i := 1) rfl (by first | exact Or.inl rfl | exact Or.inr (Or.inl rfl) | exact Or.inr (Or.inr rfl))))))
theorem sc__law_quaternion_rows : FnScope N__law_quaternion_rows P__law_quaternion_rows (defScope st__law_quaternion_rows) := ⟨rfl, rfl, rfl, by decide +kernel, rfl, by decide +kernel, by decide +kernel⟩
theorem bs__law_quaternion_rows : BindsAs "_law_quaternion_rows" st__law_quaternion_rows P__law_quaternion_rows := fun _ _ _ _ _ _ us hl => match us, hl with | [], _ => rfl
theorem j__law_quaternion_rows (B : Bl K mg) : BodyCx P w K mg base "_law_quaternion_rows" st__law_quaternion_rows N__law_quaternion_rows 0 fun X => JSs X (defBody st__law_quaternion_rows) g__law_quaternion_rows := fun f cdv A outer s H E hr => js_cons (js_par (i := 0) (j := 1) rfl sc__law_quaternion_rows.nd rfl rfl (by decide) rfl rfl (((jl_lst (ja_cons ((jl_lst (ja_cons (je_int) (ja_cons (je_int) (ja_cons (je_int) (ja_cons (je_int) (ja_nil)))))).je) (ja_cons ((jl_lst (ja_cons (je_int) (ja_cons (je_int) (ja_cons (je_int) (ja_cons (je_int) (ja_nil)))))).je) (ja_cons ((jl_lst (ja_cons (je_int) (ja_cons (je_int) (ja_cons (je_int) (ja_cons (je_int) (ja_nil)))))).je) (ja_cons ((jl_lst (ja_cons (je_int) (ja_cons (je_int) (ja_cons (je_int) (ja_cons (je_int) (ja_nil)))))).je) (ja_nil)))))).je).jx) ((jl_lst (ja_nil)).jx) rfl) (js_cons (js_for (vs := [2]) rfl (ji_r1 B.range (je_int)) (jg_n 2 sc__law_quaternion_rows.nd) (js_cons (js_set (i := 3) ((jl_lst (ja_nil)).jx) sc__law_quaternion_rows.nd rfl (by first | exact Or.inl rfl | exact Or.inr rfl)) (js_cons (js_for (vs := [4]) rfl (ji_r1 B.range (je_int)) (jg_n 4 sc__law_quaternion_rows.nd) (js_cons (js_set (i := 5) ((je_ix (je_v 0) (je_bin opd_fdiv (je_v 2) (je_int))).jx) sc__law_quaternion_rows.nd rfl (by first | exact Or.inl rfl | exact Or.inr rfl)) (js_cons (js_set (i := 6) ((je_ix (je_v 5) (je_bin opd_fdiv (je_v 4) (je_int))).jx) sc__law_quaternion_rows.nd rfl (by first | exact Or.inl rfl | exact Or.inr rfl)) (js_one (js_expr (je_app (i := 3) rfl (by first | exact Or.inl rfl | exact Or.inr (Or.inl rfl) | exact Or.inr (Or.inr rfl)) (je_bin opd_add (je_bin opd_mulA (je_bin opd_fdiv (je_v 6) (je_int)) (je_int)) (je_bin opd_mod (je_callTy calld_int B.int (by decide +kernel) (ja_cons (je_bin opd_add (je_bin opd_add (je_v 6) (je_v 2)) (je_v 4)) (ja_nil))) (je_int))))))))) (js_one (js_expr (je_app (i := 1) rfl (by first | exact Or.inl rfl | exact Or.inr (Or.inl rfl) | exact Or.inr (Or.inr rfl)) (je_tupleO B.tuple (i := 3) rfl (by first | exact Or.inl rfl | exact Or.inr (Or.inl rfl) | exact Or.inr (Or.inr rfl))))))))) (js_one (js_ret (je_tupleO B.tuple (i := 1) rfl (by first | exact Or.inl rfl | exact Or.inr (Or.inl rfl) | exact Or.inr (Or.inr rfl))))))
theorem sc__law_renamed_group : FnScope N__law_renamed_group P__law_renamed_group (defScope st__law_renamed_group) := ⟨rfl, rfl, rfl, by decide +kernel, rfl, by decide +kernel, by decide +kernel⟩
theorem bs__law_renamed_group : BindsAs "_law_renamed_group" st__law_renamed_group P__law_renamed_group := fun _ _ _ _ _ _ us hl => match us, hl with | [_, _], _ => rfl
theorem j__law_renamed_group (B : Bl K mg) (O__law_undone : Ok P w K mg base "_law_undone" P__law_undone 1 (spD K 1 S__law_undone)) : BodyCx P w K mg base "_law_renamed_group" st__law_renamed_group N__law_renamed_group 1 fun X => JSs X (defBody st__law_renamed_group) g__law_renamed_group := fun f cdv A outer s H E hr => js_cons (js_set (i := 2) ((je_fn O__law_undone (hr.mono (by decide)) (ja_cons (je_v 1) (ja_nil))).jx) sc__law_renamed_group.nd rfl (by first | exact Or.inl rfl | exact Or.inr rfl)) (js_one (js_ret (je_callTy calld_tuple B.tuple (by decide +kernel) (ja_cons ((jl_lc (own := [("_law_a", 3)]) rfl sc__law_renamed_group.nd (ji_sq (je_v 1)) (blkOk_by (by rfl)) (fun _ _ _ _ _ => jg_n 3 sc__law_renamed_group.nd) (fun _ _ _ _ _ => jts_nil) (fun _ _ _ _ _ => je_callTy calld_tuple B.tuple (by decide +kernel) (ja_cons ((jl_lc (own := [("_law_b", 4)]) rfl sc__law_renamed_group.nd (ji_sq (je_v 1)) (blkOk_by (by rfl)) (fun _ _ _ _ _ => jg_n 4 sc__law_renamed_group.nd) (fun _ _ _ _ _ => jts_nil) (fun _ _ _ _ _ => je_ix (je_v 2) (je_ix (je_ix (je_v 0) (je_v 3)) (je_v 4)))).je) (ja_nil)))).je) (ja_nil)))))
theorem sc__law_falls : FnScope N__law_falls P__law_falls (defScope st__law_falls) := ⟨rfl, rfl, rfl, by decide +kernel, rfl, by decide +kernel, by decide +kernel⟩
theorem bs__law_falls : BindsAs "_law_falls" st__law_falls P__law_falls := fun _ _ _ _ _ _ us hl => match us, hl with | [_], _ => rfl
theorem j__law_falls (B : Bl K mg) : BodyCx P w K mg base "_law_falls" st__law_falls N__law_falls 0 fun X => JSs X (defBody st__law_falls) g__law_falls := fun f cdv A outer s H E hr => js_one (js_ret (je_callB (calld_sum rfl) B.sum (by decide +kernel) (ja_cons ((jl_lc (own := [("_law_at", 1), ("_law_goal", 2)]) rfl sc__law_falls.nd (ji_en B.enumerate (je_v 0)) (blkOk_by (by rfl)) (fun _ _ _ _ _ => jg_tup rfl (jgs_cons (jg_n 1 sc__law_falls.nd) (jgs_cons (jg_n 2 sc__law_falls.nd) (jgs_nil)))) (fun _ _ _ _ _ => jts_nil) (fun _ _ _ _ _ => je_callB calld_len B.len (by decide +kernel) (ja_cons ((jl_lc (own := [("_law_ahead", 3)]) rfl sc__law_falls.nd (ji_sq (je_sl (je_v 0) (jo_none) (jo_some (je_v 1)))) (blkOk_by (by rfl)) (fun _ _ _ _ _ => jg_n 3 sc__law_falls.nd) (fun _ _ _ _ _ => jts_one (jt_cmp opd_gt (je_v 3) (je_v 2) (nomark _))) (fun _ _ _ _ _ => je_int)).je) (ja_nil)))).je) (ja_nil))))
theorem sc__law_unit : FnScope N__law_unit P__law_unit (defScope st__law_unit) := ⟨rfl, rfl, rfl, by decide +kernel, rfl, by decide +kernel, by decide +kernel⟩
theorem bs__law_unit : BindsAs "_law_unit" st__law_unit P__law_unit := fun _ _ _ _ _ _ us hl => match us, hl with | [_], _ => rfl
theorem j__law_unit (B : Bl K mg) : BodyCx P w K mg base "_law_unit" st__law_unit N__law_unit 0 fun X => JSs X (defBody st__law_unit) g__law_unit := fun f cdv A outer s H E hr => js_one (js_ret (je_ix ((jl_lc (own := [("_law_a", 1)]) rfl sc__law_unit.nd (ji_r1 B.range (je_callB calld_len B.len (by decide +kernel) (ja_cons (je_v 0) (ja_nil)))) (blkOk_by (by rfl)) (fun _ _ _ _ _ => jg_n 1 sc__law_unit.nd) (fun _ _ _ _ _ => jts_one (jt_cmp (opd_eq hr.units) (je_ix (je_ix (je_v 0) (je_v 1)) (je_v 1)) (je_v 1) (nomark _))) (fun _ _ _ _ _ => je_v 1)).je) (je_int)))
theorem sc__law_inverse : FnScope N__law_inverse P__law_inverse (defScope st__law_inverse) := ⟨rfl, rfl, rfl, by decide +kernel, rfl, by decide +kernel, by decide +kernel⟩
theorem bs__law_inverse : BindsAs "_law_inverse" st__law_inverse P__law_inverse := fun _ _ _ _ _ _ us hl => match us, hl with | [_, _], _ => rfl
theorem j__law_inverse (B : Bl K mg) (O__law_unit : Ok P w K mg base "_law_unit" P__law_unit 1 (spD K 1 S__law_unit)) : BodyCx P w K mg base "_law_inverse" st__law_inverse N__law_inverse 1 fun X => JSs X (defBody st__law_inverse) g__law_inverse := fun f cdv A outer s H E hr => js_one (js_ret (je_tIx B.kt (hu65 hr) (je_ix (je_v 0) (je_v 1)) (je_fn O__law_unit (hr.mono (by decide)) (ja_cons (je_v 0) (ja_nil))) rfl rfl rfl rfl))
theorem sc__law_made_closed : FnScope N__law_made_closed P__law_made_closed (defScope st__law_made_closed) := ⟨rfl, rfl, rfl, by decide +kernel, rfl, by decide +kernel, by decide +kernel⟩
theorem bs__law_made_closed : BindsAs "_law_made_closed" st__law_made_closed P__law_made_closed := fun _ _ _ _ _ _ us hl => match us, hl with | [_, _], _ => rfl
theorem j__law_made_closed (B : Bl K mg) (O__law_unit : Ok P w K mg base "_law_unit" P__law_unit 1 (spD K 1 S__law_unit)) : BodyCx P w K mg base "_law_made_closed" st__law_made_closed N__law_made_closed 1 fun X => JSs X (defBody st__law_made_closed) g__law_made_closed := fun f cdv A outer s H E hr => js_cons (js_set (i := 2) (jx_dctI rfl B.dict (jl_lst (ja_cons (je_tup (ja_cons (je_fn O__law_unit (hr.mono (by decide)) (ja_cons (je_v 0) (ja_nil))) (ja_cons (je_bl) (ja_nil)))) (ja_nil)))) sc__law_made_closed.nd rfl (by first | exact Or.inl rfl | exact Or.inr rfl)) (js_cons (js_lcO (own := [("_law_thing", 4)]) rfl sc__law_made_closed.nd (i := 3) rfl rfl (sw_true rfl rfl rfl (by decide +kernel)) (ji_sq (je_v 1)) (blkOk_by (by rfl)) (fun _ _ _ _ _ => jg_n 4 sc__law_made_closed.nd) (fun _ _ _ _ _ => jts_one (jt_notinK (hu1 hr.units) (i := 2) rfl (by first | exact Or.inl rfl | exact Or.inr (Or.inl rfl) | exact Or.inr (Or.inr rfl)) (je_v 4) rfl)) (fun _ _ _ _ _ => je_v 4)) (js_cons (js_forO (vs := [4]) rfl (i := 3) rfl (by first | exact Or.inl rfl | exact Or.inr (Or.inl rfl) | exact Or.inr (Or.inr rfl)) (jg_n 4 sc__law_made_closed.nd) (js_one (js_putK (hu1 hr.units) (i := 2) rfl (by first | exact Or.inl rfl | exact Or.inr (Or.inl rfl) | exact Or.inr (Or.inr rfl)) (je_v 4) (je_bl)))) (js_cons (js_while (jt_cmpO (opd_ne hr.units) (i := 3) rfl (by first | exact Or.inl rfl | exact Or.inr (Or.inl rfl) | exact Or.inr (Or.inr rfl)) ((jl_lst (ja_nil)).je) (nomark _)) (js_cons (js_set (i := 5) ((je_pop (i := 3) rfl (by first | exact Or.inl rfl | exact Or.inr (Or.inl rfl) | exact Or.inr (Or.inr rfl))).jx) sc__law_made_closed.nd rfl (by first | exact Or.inl rfl | exact Or.inr rfl)) (js_one (js_for (vs := [6]) rfl (ji_sq ((jl_listDK rfl B.list (i := 2) rfl (by first | exact Or.inl rfl | exact Or.inr (Or.inl rfl) | exact Or.inr (Or.inr rfl))).je)) (jg_n 6 sc__law_made_closed.nd) (js_one (js_for (vs := [7]) rfl (ji_sq (je_tup (ja_cons (je_ix (je_ix (je_v 0) (je_v 5)) (je_v 6)) (ja_cons (je_ix (je_ix (je_v 0) (je_v 6)) (je_v 5)) (ja_nil))))) (jg_n 7 sc__law_made_closed.nd) (js_one (js_if (jt_notinK (hu1 hr.units) (i := 2) rfl (by first | exact Or.inl rfl | exact Or.inr (Or.inl rfl) | exact Or.inr (Or.inr rfl)) (je_v 7) rfl) (js_cons (js_putK (hu1 hr.units) (i := 2) rfl (by first | exact Or.inl rfl | exact Or.inr (Or.inl rfl) | exact Or.inr (Or.inr rfl)) (je_v 7) (je_bl)) (js_one (js_expr (je_app (i := 3) rfl (by first | exact Or.inl rfl | exact Or.inr (Or.inl rfl) | exact Or.inr (Or.inr rfl)) (je_v 7))))) (js_nil))))))))) (js_one (js_ret (je_callTy calld_tuple B.tuple (by decide +kernel) (ja_cons ((jl_sortDK rfl B.sorted (i := 2) rfl (by first | exact Or.inl rfl | exact Or.inr (Or.inl rfl) | exact Or.inr (Or.inr rfl))).je) (ja_nil))))))))
theorem sc__law_group_parts : FnScope N__law_group_parts P__law_group_parts (defScope st__law_group_parts) := ⟨rfl, rfl, rfl, by decide +kernel, rfl, by decide +kernel, by decide +kernel⟩
theorem bs__law_group_parts : BindsAs "_law_group_parts" st__law_group_parts P__law_group_parts := fun _ _ _ _ _ _ us hl => match us, hl with | [_], _ => rfl
theorem j__law_group_parts (B : Bl K mg) (O__law_made_closed : Ok P w K mg base "_law_made_closed" P__law_made_closed 2 (spD K 2 S__law_made_closed)) : BodyCx P w K mg base "_law_group_parts" st__law_group_parts N__law_group_parts 2 fun X => JSs X (defBody st__law_group_parts) g__law_group_parts := fun f cdv A outer s H E hr => js_cons (js_set (i := 1) ((je_fn O__law_made_closed (hr.mono (by decide)) (ja_cons (je_v 0) (ja_cons (je_tup (ja_nil)) (ja_nil)))).jx) sc__law_group_parts.nd rfl (by first | exact Or.inl rfl | exact Or.inr rfl)) (js_cons (js_par (i := 2) (j := 3) rfl sc__law_group_parts.nd rfl rfl (by decide) rfl rfl (jx_dctOfK B.kt rfl hr.units B.dict (jl_lst (ja_cons (je_tup (ja_cons (je_v 1) (ja_cons (je_bl) (ja_nil)))) (ja_nil)))) ((jl_lst (ja_cons (je_v 1) (ja_nil))).jx) rfl) (js_cons (js_while (jt_cmpO (opd_ne hr.units) (i := 3) rfl (by first | exact Or.inl rfl | exact Or.inr (Or.inl rfl) | exact Or.inr (Or.inr rfl)) ((jl_lst (ja_nil)).je) (nomark _)) (js_cons (js_set (i := 4) ((je_pop (i := 3) rfl (by first | exact Or.inl rfl | exact Or.inr (Or.inl rfl) | exact Or.inr (Or.inr rfl))).jx) sc__law_group_parts.nd rfl (by first | exact Or.inl rfl | exact Or.inr rfl)) (js_one (js_for (vs := [5]) rfl (ji_r1 B.range (je_callB calld_len B.len (by decide +kernel) (ja_cons (je_v 0) (ja_nil)))) (jg_n 5 sc__law_group_parts.nd) (js_one (js_if (jt_cmp opd_notin (je_v 5) (je_v 4) rfl) (js_cons (js_set (i := 6) ((je_fn O__law_made_closed (hr.mono (by decide)) (ja_cons (je_v 0) (ja_cons (je_bin opd_add (je_v 4) (je_tup (ja_cons (je_v 5) (ja_nil)))) (ja_nil)))).jx) sc__law_group_parts.nd rfl (by first | exact Or.inl rfl | exact Or.inr rfl)) (js_one (js_if (jt_notinTK B.kt (hu1 hr.units) (i := 2) rfl (by first | exact Or.inl rfl | exact Or.inr (Or.inl rfl) | exact Or.inr (Or.inr rfl)) (je_v 6) rfl) (js_cons (js_putTK B.kt (hu1 hr.units) (i := 2) rfl (by first | exact Or.inl rfl | exact Or.inr (Or.inl rfl) | exact Or.inr (Or.inr rfl)) (je_v 6) (je_bl)) (js_one (js_expr (je_app (i := 3) rfl (by first | exact Or.inl rfl | exact Or.inr (Or.inl rfl) | exact Or.inr (Or.inr rfl)) (je_v 6))))) (js_nil)))) (js_nil))))))) (js_one (js_ret ((jl_sortDTK B.kt rfl B.sorted (i := 2) rfl (by first | exact Or.inl rfl | exact Or.inr (Or.inl rfl) | exact Or.inr (Or.inr rfl))).je)))))
theorem sc__law_is_whole_part : FnScope N__law_is_whole_part P__law_is_whole_part (defScope st__law_is_whole_part) := ⟨rfl, rfl, rfl, by decide +kernel, rfl, by decide +kernel, by decide +kernel⟩
theorem bs__law_is_whole_part : BindsAs "_law_is_whole_part" st__law_is_whole_part P__law_is_whole_part := fun _ _ _ _ _ _ us hl => match us, hl with | [_, _], _ => rfl
theorem j__law_is_whole_part (B : Bl K mg) (O__law_inverse : Ok P w K mg base "_law_inverse" P__law_inverse 2 (spD K 2 S__law_inverse)) : BodyCx P w K mg base "_law_is_whole_part" st__law_is_whole_part N__law_is_whole_part 2 fun X => JSs X (defBody st__law_is_whole_part) g__law_is_whole_part := fun f cdv A outer s H E hr => js_cons (js_for (vs := [2]) rfl (ji_r1 B.range (je_callB calld_len B.len (by decide +kernel) (ja_cons (je_v 0) (ja_nil)))) (jg_n 2 sc__law_is_whole_part.nd) (js_cons (js_set (i := 3) ((je_fn O__law_inverse (hr.mono (by decide)) (ja_cons (je_v 0) (ja_cons (je_v 2) (ja_nil)))).jx) sc__law_is_whole_part.nd rfl (by first | exact Or.inl rfl | exact Or.inr rfl)) (js_one (js_if (jt_not (jt_val (je_callB (calld_all rfl) B.all (by decide +kernel) (ja_cons ((jl_lc (own := [("_law_k", 4)]) rfl sc__law_is_whole_part.nd (ji_sq (je_v 1)) (blkOk_by (by rfl)) (fun _ _ _ _ _ => jg_n 4 sc__law_is_whole_part.nd) (fun _ _ _ _ _ => jts_nil) (fun _ _ _ _ _ => je_cmp opd_in (je_ix (je_ix (je_v 0) (je_ix (je_ix (je_v 0) (je_v 2)) (je_v 4))) (je_v 3)) (je_v 1) rfl)).je) (ja_nil))))) (js_one (js_ret (je_bl))) (js_nil))))) (js_one (js_ret (je_bl)))
theorem sc__law_sides : FnScope N__law_sides P__law_sides (defScope st__law_sides) := ⟨rfl, rfl, rfl, by decide +kernel, rfl, by decide +kernel, by decide +kernel⟩
theorem bs__law_sides : BindsAs "_law_sides" st__law_sides P__law_sides := fun _ _ _ _ _ _ us hl => match us, hl with | [_, _], _ => rfl
theorem j__law_sides (B : Bl K mg) : BodyCx P w K mg base "_law_sides" st__law_sides N__law_sides 0 fun X => JSs X (defBody st__law_sides) g__law_sides := fun f cdv A outer s H E hr => js_cons (js_set (i := 2) ((jl_lst (ja_nil)).jx) sc__law_sides.nd rfl (by first | exact Or.inl rfl | exact Or.inr rfl)) (js_cons (js_for (vs := [3]) rfl (ji_r1 B.range (je_callB calld_len B.len (by decide +kernel) (ja_cons (je_v 0) (ja_nil)))) (jg_n 3 sc__law_sides.nd) (js_cons (js_set (i := 4) ((je_callTy calld_tuple B.tuple (by decide +kernel) (ja_cons ((jl_sort B.sorted ((jl_lc (own := [("_law_k", 5)]) rfl sc__law_sides.nd (ji_sq (je_v 1)) (blkOk_by (by rfl)) (fun _ _ _ _ _ => jg_n 5 sc__law_sides.nd) (fun _ _ _ _ _ => jts_nil) (fun _ _ _ _ _ => je_ix (je_ix (je_v 0) (je_v 3)) (je_v 5))).je)).je) (ja_nil))).jx) sc__law_sides.nd rfl (by first | exact Or.inl rfl | exact Or.inr rfl)) (js_one (js_if (jt_cmpR (opd_notinL (hu65 hr)) (i := 2) rfl (by first | exact Or.inl rfl | exact Or.inr (Or.inl rfl) | exact Or.inr (Or.inr rfl)) (je_v 4) rfl) (js_one (js_expr (je_app (i := 2) rfl (by first | exact Or.inl rfl | exact Or.inr (Or.inl rfl) | exact Or.inr (Or.inr rfl)) (je_v 4)))) (js_nil))))) (js_one (js_ret ((jl_sortT B.sorted (je_vF 2)).je))))
theorem sc_Group__size : FnScope N_Group__size P_Group__size (defScope st_Group__size) := ⟨rfl, rfl, rfl, by decide +kernel, rfl, by decide +kernel, by decide +kernel⟩
theorem bs_Group__size : BindsM "size" "Group.size" st_Group__size P_Group__size := fun _ _ _ _ _ _ us hl => match us, hl with | [_], _ => rfl
theorem j_Group__size (B : Bl K mg) (CF_Group : ClsF K mg "Group" ["_rows", "_unit", "_backs", "_centre"]) : BodyCx P w K mg base "Group.size" st_Group__size N_Group__size 0 fun X => JSs X (defBody st_Group__size) g_Group__size := fun f cdv A outer s H E hr => js_one (js_ret (je_callB calld_len B.len (by decide +kernel) (ja_cons (je_fld (CF_Group.na "_rows" (by simp)) (je_v 0)) (ja_nil))))
theorem sc_Group__times : FnScope N_Group__times P_Group__times (defScope st_Group__times) := ⟨rfl, rfl, rfl, by decide +kernel, rfl, by decide +kernel, by decide +kernel⟩
theorem bs_Group__times : BindsM "times" "Group.times" st_Group__times P_Group__times := fun _ _ _ _ _ _ us hl => match us, hl with | [_, _, _], _ => rfl
theorem j_Group__times (B : Bl K mg) (CF_Group : ClsF K mg "Group" ["_rows", "_unit", "_backs", "_centre"]) (O_check_thing : Ok P w K mg base "check_thing" P_check_thing 3 (spD K 2 S_check_thing)) : BodyCx P w K mg base "Group.times" st_Group__times N_Group__times 3 fun X => JSs X (defBody st_Group__times) g_Group__times := fun f cdv A outer s H E hr => js_cons (js_expr (je_fn O_check_thing (hr.mono (by decide)) (ja_cons (je_v 1) (ja_cons (je_callB calld_len B.len (by decide +kernel) (ja_cons (je_fld (CF_Group.na "_rows" (by simp)) (je_v 0)) (ja_nil))) (ja_nil))))) (js_cons (js_expr (je_fn O_check_thing (hr.mono (by decide)) (ja_cons (je_v 2) (ja_cons (je_callB calld_len B.len (by decide +kernel) (ja_cons (je_fld (CF_Group.na "_rows" (by simp)) (je_v 0)) (ja_nil))) (ja_nil))))) (js_one (js_ret (je_ix (je_ix (je_fld (CF_Group.na "_rows" (by simp)) (je_v 0)) (je_v 1)) (je_v 2)))))
theorem sc_Group__closure : FnScope N_Group__closure P_Group__closure (defScope st_Group__closure) := ⟨rfl, rfl, rfl, by decide +kernel, rfl, by decide +kernel, by decide +kernel⟩
theorem bs_Group__closure : BindsM "closure" "Group.closure" st_Group__closure P_Group__closure := fun _ _ _ _ _ _ us hl => match us, hl with | [_, _], _ => rfl
theorem j_Group__closure (B : Bl K mg) (CF_Group : ClsF K mg "Group" ["_rows", "_unit", "_backs", "_centre"]) (O_check_lot : Ok P w K mg base "check_lot" P_check_lot 3 (spD K 2 S_check_lot)) (O_least_part : Ok P w K mg base "least_part" P_least_part 1 (spD K 3 S_least_part)) : BodyCx P w K mg base "Group.closure" st_Group__closure N_Group__closure 3 fun X => JSs X (defBody st_Group__closure) g_Group__closure := fun f cdv A outer s H E hr => js_cons (js_expr (je_fn O_check_lot (hr.mono (by decide)) (ja_cons (je_v 1) (ja_cons (je_callB calld_len B.len (by decide +kernel) (ja_cons (je_fld (CF_Group.na "_rows" (by simp)) (je_v 0)) (ja_nil))) (ja_nil))))) (js_one (js_ret (je_fn O_least_part (hr.mono (by decide)) (ja_cons (je_fld (CF_Group.na "_rows" (by simp)) (je_v 0)) (ja_cons (je_fld (CF_Group.na "_unit" (by simp)) (je_v 0)) (ja_cons (je_v 1) (ja_nil)))))))
theorem sc_Group__is_whole : FnScope N_Group__is_whole P_Group__is_whole (defScope st_Group__is_whole) := ⟨rfl, rfl, rfl, by decide +kernel, rfl, by decide +kernel, by decide +kernel⟩
theorem bs_Group__is_whole : BindsM "is_whole" "Group.is_whole" st_Group__is_whole P_Group__is_whole := fun _ _ _ _ _ _ us hl => match us, hl with | [_, _], _ => rfl
theorem j_Group__is_whole (B : Bl K mg) (CF_Group : ClsF K mg "Group" ["_rows", "_unit", "_backs", "_centre"]) (O_check_lot : Ok P w K mg base "check_lot" P_check_lot 3 (spD K 2 S_check_lot)) (O_least_part : Ok P w K mg base "least_part" P_least_part 1 (spD K 3 S_least_part)) : BodyCx P w K mg base "Group.is_whole" st_Group__is_whole N_Group__is_whole 3 fun X => JSs X (defBody st_Group__is_whole) g_Group__is_whole := fun f cdv A outer s H E hr => js_cons (js_expr (je_fn O_check_lot (hr.mono (by decide)) (ja_cons (je_v 1) (ja_cons (je_callB calld_len B.len (by decide +kernel) (ja_cons (je_fld (CF_Group.na "_rows" (by simp)) (je_v 0)) (ja_nil))) (ja_nil))))) (js_cons (js_if (jt_cmp (opd_ne hr.units) (je_fn O_least_part (hr.mono (by decide)) (ja_cons (je_fld (CF_Group.na "_rows" (by simp)) (je_v 0)) (ja_cons (je_fld (CF_Group.na "_unit" (by simp)) (je_v 0)) (ja_cons (je_v 1) (ja_nil))))) (je_v 1) (nomark _)) (js_one (js_ret (je_bl))) (js_nil)) (js_cons (js_for (vs := [2, 3]) rfl (ji_en B.enumerate (je_fld (CF_Group.na "_rows" (by simp)) (je_v 0))) (jg_tup rfl (jgs_cons (jg_n 2 sc_Group__is_whole.nd) (jgs_cons (jg_n 3 sc_Group__is_whole.nd) (jgs_nil)))) (js_one (js_for (vs := [4]) rfl (ji_sq (je_v 1)) (jg_n 4 sc_Group__is_whole.nd) (js_one (js_if (jt_cmp opd_notin (je_ix (je_ix (je_fld (CF_Group.na "_rows" (by simp)) (je_v 0)) (je_ix (je_v 3) (je_v 4))) (je_ix (je_fld (CF_Group.na "_backs" (by simp)) (je_v 0)) (je_v 2))) (je_v 1) rfl) (js_one (js_ret (je_bl))) (js_nil)))))) (js_one (js_ret (je_bl)))))
theorem sc_Group__parts : FnScope N_Group__parts P_Group__parts (defScope st_Group__parts) := ⟨rfl, rfl, rfl, by decide +kernel, rfl, by decide +kernel, by decide +kernel⟩
theorem bs_Group__parts : BindsM "parts" "Group.parts" st_Group__parts P_Group__parts := fun _ _ _ _ _ _ us hl => match us, hl with | [_], _ => rfl
theorem j_Group__parts (B : Bl K mg) (CF_Group : ClsF K mg "Group" ["_rows", "_unit", "_backs", "_centre"]) (O_least_part : Ok P w K mg base "least_part" P_least_part 1 (spD K 3 S_least_part)) : BodyCx P w K mg base "Group.parts" st_Group__parts N_Group__parts 1 fun X => JSs X (defBody st_Group__parts) g_Group__parts := fun f cdv A outer s H E hr => js_cons (js_set (i := 1) ((jl_lst (ja_cons (je_tup (ja_cons (je_fld (CF_Group.na "_unit" (by simp)) (je_v 0)) (ja_nil))) (ja_nil))).jx) sc_Group__parts.nd rfl (by first | exact Or.inl rfl | exact Or.inr rfl)) (js_cons (js_set (i := 2) (jx_dctT1K B.kt hr.units (je_ixP (i := 1) rfl (by first | exact Or.inl rfl | exact Or.inr (Or.inl rfl) | exact Or.inr (Or.inr rfl)) (je_int)) (je_bl)) sc_Group__parts.nd rfl (by first | exact Or.inl rfl | exact Or.inr rfl)) (js_cons (js_set (i := 3) ((je_int).jx) sc_Group__parts.nd rfl (by first | exact Or.inl rfl | exact Or.inr rfl)) (js_cons (js_while (jt_cmp opd_lt (je_v 3) (je_callBO calld_len B.len (by decide +kernel) (i := 1) rfl (by first | exact Or.inl rfl | exact Or.inr (Or.inl rfl) | exact Or.inr (Or.inr rfl))) (nomark _)) (js_cons (js_for (vs := [4]) rfl (ji_r1 B.range (je_callB calld_len B.len (by decide +kernel) (ja_cons (je_fld (CF_Group.na "_rows" (by simp)) (je_v 0)) (ja_nil)))) (jg_n 4 sc_Group__parts.nd) (js_cons (js_set (i := 5) ((je_fn O_least_part (hr.mono (by decide)) (ja_cons (je_fld (CF_Group.na "_rows" (by simp)) (je_v 0)) (ja_cons (je_fld (CF_Group.na "_unit" (by simp)) (je_v 0)) (ja_cons (je_bin opd_add (je_ixP (i := 1) rfl (by first | exact Or.inl rfl | exact Or.inr (Or.inl rfl) | exact Or.inr (Or.inr rfl)) (je_v 3)) (je_tup (ja_cons (je_v 4) (ja_nil)))) (ja_nil))))).jx) sc_Group__parts.nd rfl (by first | exact Or.inl rfl | exact Or.inr rfl)) (js_one (js_if (jt_notinTK B.kt (hu1 hr.units) (i := 2) rfl (by first | exact Or.inl rfl | exact Or.inr (Or.inl rfl) | exact Or.inr (Or.inr rfl)) (je_v 5) rfl) (js_cons (js_putTK B.kt (hu1 hr.units) (i := 2) rfl (by first | exact Or.inl rfl | exact Or.inr (Or.inl rfl) | exact Or.inr (Or.inr rfl)) (je_v 5) (je_bl)) (js_one (js_expr (je_app (i := 1) rfl (by first | exact Or.inl rfl | exact Or.inr (Or.inl rfl) | exact Or.inr (Or.inr rfl)) (je_v 5))))) (js_nil))))) (js_one (js_augI (i := 3) sc_Group__parts.nd rfl (by first | exact Or.inl rfl | exact Or.inr rfl) (je_int))))) (js_one (js_ret (je_callTy calld_tuple B.tuple (by decide +kernel) (ja_cons ((jl_sortT B.sorted (je_vF 1)).je) (ja_nil))))))))
theorem sc_group_paper : FnScope N_group_paper P_group_paper (defScope st_group_paper) := ⟨rfl, rfl, rfl, by decide +kernel, rfl, by decide +kernel, by decide +kernel⟩
theorem bs_group_paper : BindsAs "group_paper" st_group_paper P_group_paper := fun _ _ _ _ _ _ us hl => match us, hl with | [_], _ => rfl
theorem j_group_paper (B : Bl K mg) (O__check_rows : Ok P w K mg base "_check_rows" P__check_rows 3 (spD K 1 S__check_rows)) (O_unit_of : Ok P w K mg base "unit_of" P_unit_of 1 (spD K 1 S_unit_of)) (O_back_of : Ok P w K mg base "back_of" P_back_of 1 (spD K 3 S_back_of)) (O_broken_three : Ok P w K mg base "broken_three" P_broken_three 1 (spD K 1 S_broken_three)) : BodyCx P w K mg base "group_paper" st_group_paper N_group_paper 3 fun X => JSs X (defBody st_group_paper) g_group_paper := fun f cdv A outer s H E hr => js_cons (js_expr (je_fn O__check_rows (hr.mono (by decide)) (ja_cons (je_v 0) (ja_nil)))) (js_cons (js_set (i := 1) ((je_fn O_unit_of (hr.mono (by decide)) (ja_cons (je_v 0) (ja_nil))).jx) sc_group_paper.nd rfl (by first | exact Or.inl rfl | exact Or.inr rfl)) (js_cons (js_if (jt_cmp opd_is (je_v 1) (je_non) (nomark _)) (js_one (js_ret (je_tup (ja_cons (je_str) (ja_nil))))) (js_nil)) (js_cons (js_for (vs := [2]) rfl (ji_r1 B.range (je_callB calld_len B.len (by decide +kernel) (ja_cons (je_v 0) (ja_nil)))) (jg_n 2 sc_group_paper.nd) (js_one (js_if (jt_cmp opd_is (je_fn O_back_of (hr.mono (by decide)) (ja_cons (je_v 0) (ja_cons (je_v 1) (ja_cons (je_v 2) (ja_nil))))) (je_non) (nomark _)) (js_one (js_ret (je_tup (ja_cons (je_str) (ja_cons (je_v 2) (ja_nil)))))) (js_nil)))) (js_cons (js_set (i := 3) ((je_fn O_broken_three (hr.mono (by decide)) (ja_cons (je_v 0) (ja_nil))).jx) sc_group_paper.nd rfl (by first | exact Or.inl rfl | exact Or.inr rfl)) (js_cons (js_if (jt_cmp opd_isnot (je_v 3) (je_non) (nomark _)) (js_one (js_ret (je_bin opd_add (je_tup (ja_cons (je_str) (ja_nil))) (je_v 3)))) (js_nil)) (js_one (js_ret (je_tup (ja_cons (je_str) (ja_nil))))))))))
theorem sc__law_group_rows : FnScope N__law_group_rows P__law_group_rows (defScope st__law_group_rows) := ⟨rfl, rfl, rfl, by decide +kernel, rfl, by decide +kernel, by decide +kernel⟩
theorem bs__law_group_rows : BindsAs "_law_group_rows" st__law_group_rows P__law_group_rows := fun _ _ _ _ _ _ us hl => match us, hl with | [_, _], _ => rfl
theorem j__law_group_rows (B : Bl K mg) (O__law_cyclic : Ok P w K mg base "_law_cyclic" P__law_cyclic 1 (spD K 1 S__law_cyclic)) (O__law_direct : Ok P w K mg base "_law_direct" P__law_direct 3 (spD K 2 S__law_direct)) (O__law_turned_pairs : Ok P w K mg base "_law_turned_pairs" P__law_turned_pairs 1 (spD K 1 S__law_turned_pairs)) (O__law_quaternion_rows : Ok P w K mg base "_law_quaternion_rows" P__law_quaternion_rows 1 (spD K 0 S__law_quaternion_rows)) (O__law_orders : Ok P w K mg base "_law_orders" P__law_orders 1 (spD K 1 S__law_orders)) (O__law_falls : Ok P w K mg base "_law_falls" P__law_falls 1 (spD K 1 S__law_falls)) (O__law_moves_rows : Ok P w K mg base "_law_moves_rows" P__law_moves_rows 2 (spD K 1 S__law_moves_rows)) (O__law_pick : Ok P w K mg base "_law_pick" P__law_pick 2 (spM K 2 S__law_pick)) (O__law_renamed_group : Ok P w K mg base "_law_renamed_group" P__law_renamed_group 2 (spD K 2 S__law_renamed_group)) (O__law_drawn_move : Ok P w K mg base "_law_drawn_move" P__law_drawn_move 3 (spM K 2 S__law_drawn_move)) : BodyCx P w K mg base "_law_group_rows" st__law_group_rows N__law_group_rows 3 fun X => JSs X (defBody st__law_group_rows) g__law_group_rows := fun f cdv A outer s H E hr => js_cons (js_set (i := 2) ((jl_cat ((jl_lc (own := [("_law_size", 5)]) rfl sc__law_group_rows.nd (ji_r2 B.range (je_int) (je_bin opd_add (je_v 1) (je_int))) (blkOk_by (by rfl)) (fun _ _ _ _ _ => jg_n 5 sc__law_group_rows.nd) (fun _ _ _ _ _ => jts_nil) (fun _ _ _ _ _ => je_fn O__law_cyclic (hr.mono (by decide)) (ja_cons (je_v 5) (ja_nil)))).je) ((jl_lst (ja_cons (je_fn O__law_cyclic (hr.mono (by decide)) (ja_cons (je_v 1) (ja_nil))) (ja_nil))).je)).jx) sc__law_group_rows.nd rfl (by first | exact Or.inl rfl | exact Or.inr rfl)) (js_cons (js_set (i := 2) ((jl_cat (je_vF 2) ((jl_lc (own := [("_law_size", 5)]) rfl sc__law_group_rows.nd (ji_r2 B.range (je_int) (je_bin opd_add (je_bin opd_fdiv (je_v 1) (je_int)) (je_int))) (blkOk_by (by rfl)) (fun _ _ _ _ _ => jg_n 5 sc__law_group_rows.nd) (fun _ _ _ _ _ => jts_nil) (fun _ _ _ _ _ => je_fn O__law_direct (hr.mono (by decide)) (ja_cons (je_fn O__law_cyclic (hr.mono (by decide)) (ja_cons (je_int) (ja_nil))) (ja_cons (je_fn O__law_cyclic (hr.mono (by decide)) (ja_cons (je_v 5) (ja_nil))) (ja_nil))))).je)).jx) sc__law_group_rows.nd rfl (by first | exact Or.inl rfl | exact Or.inr rfl)) (js_cons (js_set (i := 2) ((jl_cat (je_vF 2) ((jl_lc (own := [("_law_size", 5)]) rfl sc__law_group_rows.nd (ji_r2 B.range (je_int) (je_bin opd_add (je_bin opd_fdiv (je_v 1) (je_int)) (je_int))) (blkOk_by (by rfl)) (fun _ _ _ _ _ => jg_n 5 sc__law_group_rows.nd) (fun _ _ _ _ _ => jts_nil) (fun _ _ _ _ _ => je_fn O__law_turned_pairs (hr.mono (by decide)) (ja_cons (je_v 5) (ja_nil)))).je)).jx) sc__law_group_rows.nd rfl (by first | exact Or.inl rfl | exact Or.inr rfl)) (js_cons (js_if (jt_cmp opd_gt (je_v 1) (je_int) (nomark _)) (js_one (js_set (i := 2) ((jl_cat (je_vF 2) ((jl_lst (ja_cons (je_fn0 O__law_quaternion_rows (hr.mono (by decide))) (ja_cons (je_fn O__law_direct (hr.mono (by decide)) (ja_cons (je_fn O__law_cyclic (hr.mono (by decide)) (ja_cons (je_int) (ja_nil))) (ja_cons (je_fn O__law_direct (hr.mono (by decide)) (ja_cons (je_fn O__law_cyclic (hr.mono (by decide)) (ja_cons (je_int) (ja_nil))) (ja_cons (je_fn O__law_cyclic (hr.mono (by decide)) (ja_cons (je_int) (ja_nil))) (ja_nil)))) (ja_nil)))) (ja_nil)))).je)).jx) sc__law_group_rows.nd rfl (by first | exact Or.inl rfl | exact Or.inr rfl))) (js_nil)) (js_cons (js_if (jt_cmp opd_gt (je_v 1) (je_int) (nomark _)) (js_one (js_expr (je_app (i := 2) rfl (by first | exact Or.inl rfl | exact Or.inr (Or.inl rfl) | exact Or.inr (Or.inr rfl)) (je_fn O__law_direct (hr.mono (by decide)) (ja_cons (je_fn O__law_cyclic (hr.mono (by decide)) (ja_cons (je_int) (ja_nil))) (ja_cons (je_fn O__law_cyclic (hr.mono (by decide)) (ja_cons (je_int) (ja_nil))) (ja_nil))))))) (js_nil)) (js_cons (js_if (jt_cmp opd_gt (je_v 1) (je_int) (nomark _)) (js_cons (js_lcF (own := [("_law_move", 6)]) rfl sc__law_group_rows.nd (i := 3) rfl rfl (sw_true rfl rfl rfl (by decide +kernel)) (ji_sq (je_fn O__law_orders (hr.mono (by decide)) (ja_cons (je_int) (ja_nil)))) (blkOk_by (by rfl)) (fun _ _ _ _ _ => jg_n 6 sc__law_group_rows.nd) (fun _ _ _ _ _ => jts_one (jt_cmp (opd_eq hr.units) (je_bin opd_mod (je_fn O__law_falls (hr.mono (by decide)) (ja_cons (je_v 6) (ja_nil))) (je_int)) (je_int) (nomark _))) (fun _ _ _ _ _ => je_v 6)) (js_one (js_expr (je_app (i := 2) rfl (by first | exact Or.inl rfl | exact Or.inr (Or.inl rfl) | exact Or.inr (Or.inr rfl)) (je_fn O__law_moves_rows (hr.mono (by decide)) (ja_cons (je_v 3) (ja_nil))))))) (js_nil)) (js_cons (js_set (i := 4) ((je_fnM O__law_pick (hr.mono (by decide)) (i := 0) rfl (by first | exact Or.inl rfl | exact Or.inr (Or.inl rfl) | exact Or.inr (Or.inr rfl)) (ja_cons (je_vF 2) (ja_nil))).jx) sc__law_group_rows.nd rfl (by first | exact Or.inl rfl | exact Or.inr rfl)) (js_one (js_ret (je_fn O__law_renamed_group (hr.mono (by decide)) (ja_cons (je_v 4) (ja_cons (je_fnM O__law_drawn_move (hr.mono (by decide)) (i := 0) rfl (by first | exact Or.inl rfl | exact Or.inr (Or.inl rfl) | exact Or.inr (Or.inr rfl)) (ja_cons (je_callB calld_len B.len (by decide +kernel) (ja_cons (je_v 4) (ja_nil))) (ja_nil))) (ja_nil))))))))))))
theorem sc_Group____init__ : FnScope N_Group____init__ P_Group____init__ (defScope st_Group____init__) := ⟨rfl, rfl, rfl, by decide +kernel, rfl, by decide +kernel, by decide +kernel⟩
theorem bs_Group____init__ : BindsM "__init__" "Group.__init__" st_Group____init__ P_Group____init__ := fun _ _ _ _ _ _ us hl => match us, hl with | [_, _], _ => rfl
theorem j_Group____init__ (CF_Group : ClsF K mg "Group" ["_rows", "_unit", "_backs", "_centre"]) (O_group_paper : Ok P w K mg base "group_paper" P_group_paper 4 (spD K 1 S_group_paper)) (O_unit_of : Ok P w K mg base "unit_of" P_unit_of 1 (spD K 1 S_unit_of)) (O_backs_of : Ok P w K mg base "backs_of" P_backs_of 2 (spD K 2 S_backs_of)) (O_centre_of : Ok P w K mg base "centre_of" P_centre_of 1 (spD K 1 S_centre_of)) : BodyCx P w K mg base "Group.__init__" st_Group____init__ N_Group____init__ 4 fun X => JSs X (defBody st_Group____init__) g_Group____init__ := fun f cdv A outer s H E hr => js_cons (js_set (i := 2) ((je_fn O_group_paper (hr.mono (by decide)) (ja_cons (je_v 1) (ja_nil))).jx) sc_Group____init__.nd rfl (by first | exact Or.inl rfl | exact Or.inr rfl)) (js_cons (js_if (jt_cmp (opd_ne hr.units) (je_v 2) (je_tup (ja_cons (je_str) (ja_nil))) (nomark _)) (js_one (js_never)) (js_nil)) (js_cons (js_set (i := 3) ((je_fn O_unit_of (hr.mono (by decide)) (ja_cons (je_v 1) (ja_nil))).jx) sc_Group____init__.nd rfl (by first | exact Or.inl rfl | exact Or.inr rfl)) (js_cons (js_fld (i := 0) rfl (by first | exact Or.inl rfl | exact Or.inr (Or.inl rfl) | exact Or.inr (Or.inr rfl)) (CF_Group.na "_rows" (by simp)) (je_v 1)) (js_cons (js_fld (i := 0) rfl (by first | exact Or.inl rfl | exact Or.inr (Or.inl rfl) | exact Or.inr (Or.inr rfl)) (CF_Group.na "_unit" (by simp)) (je_v 3)) (js_cons (js_fld (i := 0) rfl (by first | exact Or.inl rfl | exact Or.inr (Or.inl rfl) | exact Or.inr (Or.inr rfl)) (CF_Group.na "_backs" (by simp)) (je_fn O_backs_of (hr.mono (by decide)) (ja_cons (je_v 1) (ja_cons (je_v 3) (ja_nil))))) (js_one (js_fld (i := 0) rfl (by first | exact Or.inl rfl | exact Or.inr (Or.inl rfl) | exact Or.inr (Or.inr rfl)) (CF_Group.na "_centre" (by simp)) (je_fn O_centre_of (hr.mono (by decide)) (ja_cons (je_v 1) (ja_nil))))))))))
theorem sc_Group__quotient : FnScope N_Group__quotient P_Group__quotient (defScope st_Group__quotient) := ⟨rfl, rfl, rfl, by decide +kernel, rfl, by decide +kernel, by decide +kernel⟩
theorem bs_Group__quotient : BindsM "quotient" "Group.quotient" st_Group__quotient P_Group__quotient := fun _ _ _ _ _ _ us hl => match us, hl with | [_, _], _ => rfl
theorem j_Group__quotient (B : Bl K mg) (CF_Group : ClsF K mg "Group" ["_rows", "_unit", "_backs", "_centre"]) (O_Group__is_whole : OkM P w K mg base (adrOf K "Group") "is_whole" P_Group__is_whole 4 (spD K 2 S_Group__is_whole)) (O_Group____init__ : OkI P w K mg base "Group" P_Group____init__ 5 (spI K "Group" 2 S_Group____init__)) : BodyCx P w K mg base "Group.quotient" st_Group__quotient N_Group__quotient 7 fun X => JSs X (defBody st_Group__quotient) g_Group__quotient := fun f cdv A outer s H E hr => js_cons (js_if (jt_not (jt_val (je_meth O_Group__is_whole CF_Group.cl (hr.mono (by decide)) (je_v 0) (ja_cons (je_v 1) (ja_nil))))) (js_one (js_never)) (js_nil)) (js_cons (js_set (i := 2) ((jl_lst (ja_nil)).jx) sc_Group__quotient.nd rfl (by first | exact Or.inl rfl | exact Or.inr rfl)) (js_cons (js_set (i := 3) (jx_dct0) sc_Group__quotient.nd rfl (by first | exact Or.inl rfl | exact Or.inr rfl)) (js_cons (js_for (vs := [4, 5]) rfl (ji_en B.enumerate (je_fld (CF_Group.na "_rows" (by simp)) (je_v 0))) (jg_tup rfl (jgs_cons (jg_n 4 sc_Group__quotient.nd) (jgs_cons (jg_n 5 sc_Group__quotient.nd) (jgs_nil)))) (js_one (js_if (jt_notinK (hu1 hr.units) (i := 3) rfl (by first | exact Or.inl rfl | exact Or.inr (Or.inl rfl) | exact Or.inr (Or.inr rfl)) (je_v 4) rfl) (js_cons (js_set (i := 6) (((jl_sort B.sorted ((jl_lc (own := [("member", 7)]) rfl sc_Group__quotient.nd (ji_sq (je_v 1)) (blkOk_by (by rfl)) (fun _ _ _ _ _ => jg_n 7 sc_Group__quotient.nd) (fun _ _ _ _ _ => jts_nil) (fun _ _ _ _ _ => je_ix (je_v 5) (je_v 7))).je)).je).jx) sc_Group__quotient.nd rfl (by first | exact Or.inl rfl | exact Or.inr rfl)) (js_cons (js_for (vs := [7]) rfl (ji_sq (je_v 6)) (jg_n 7 sc_Group__quotient.nd) (js_one (js_putK (hu1 hr.units) (i := 3) rfl (by first | exact Or.inl rfl | exact Or.inr (Or.inl rfl) | exact Or.inr (Or.inr rfl)) (je_v 7) (je_callBO calld_len B.len (by decide +kernel) (i := 2) rfl (by first | exact Or.inl rfl | exact Or.inr (Or.inl rfl) | exact Or.inr (Or.inr rfl)))))) (js_one (js_expr (je_app (i := 2) rfl (by first | exact Or.inl rfl | exact Or.inr (Or.inl rfl) | exact Or.inr (Or.inr rfl)) (je_callTy calld_tuple B.tuple (by decide +kernel) (ja_cons (je_v 6) (ja_nil)))))))) (js_nil)))) (js_cons (js_set (i := 8) (((jl_lc (own := [("members", 10)]) rfl sc_Group__quotient.nd (ji_own (i := 2) rfl (by first | exact Or.inl rfl | exact Or.inr (Or.inl rfl) | exact Or.inr (Or.inr rfl))) (blkOk_by (by rfl)) (fun _ _ _ _ _ => jg_n 10 sc_Group__quotient.nd) (fun _ _ _ _ _ => jts_nil) (fun _ _ _ _ _ => je_ix (je_v 10) (je_int))).je).jx) sc_Group__quotient.nd rfl (by first | exact Or.inl rfl | exact Or.inr rfl)) (js_cons (js_set (i := 9) ((je_callTy calld_tuple B.tuple (by decide +kernel) (ja_cons ((jl_lc (own := [("a", 11)]) rfl sc_Group__quotient.nd (ji_sq (je_v 8)) (blkOk_by (by rfl)) (fun _ _ _ _ _ => jg_n 11 sc_Group__quotient.nd) (fun _ _ _ _ _ => jts_nil) (fun _ _ _ _ _ => je_callTy calld_tuple B.tuple (by decide +kernel) (ja_cons ((jl_lc (own := [("b", 12)]) rfl sc_Group__quotient.nd (ji_sq (je_v 8)) (blkOk_by (by rfl)) (fun _ _ _ _ _ => jg_n 12 sc_Group__quotient.nd) (fun _ _ _ _ _ => jts_nil) (fun _ _ _ _ _ => je_getK (hu1 hr.units) (i := 3) rfl (by first | exact Or.inl rfl | exact Or.inr (Or.inl rfl) | exact Or.inr (Or.inr rfl)) (je_ix (je_ix (je_fld (CF_Group.na "_rows" (by simp)) (je_v 0)) (je_v 11)) (je_v 12)))).je) (ja_nil)))).je) (ja_nil))).jx) sc_Group__quotient.nd rfl (by first | exact Or.inl rfl | exact Or.inr rfl)) (js_one (js_ret (je_tup (ja_cons (je_new O_Group____init__ (hr.mono (by decide)) (ja_cons (je_v 9) (ja_nil))) (ja_cons (je_callTy calld_tuple B.tuple (by decide +kernel) (ja_cons (je_v 2) (ja_nil))) (ja_nil)))))))))))
theorem sc__law_quotient_right : FnScope N__law_quotient_right P__law_quotient_right (defScope st__law_quotient_right) := ⟨rfl, rfl, rfl, by decide +kernel, rfl, by decide +kernel, by decide +kernel⟩
theorem bs__law_quotient_right : BindsAs "_law_quotient_right" st__law_quotient_right P__law_quotient_right := fun _ _ _ _ _ _ us hl => match us, hl with | [_, _, _], _ => rfl
theorem j__law_quotient_right (B : Bl K mg) (CF_Group : ClsF K mg "Group" ["_rows", "_unit", "_backs", "_centre"]) (O__law_sides : Ok P w K mg base "_law_sides" P__law_sides 1 (spD K 2 S__law_sides)) (O_Group__quotient : OkM P w K mg base (adrOf K "Group") "quotient" P_Group__quotient 8 (spD K 2 S_Group__quotient)) (O_Group__size : OkP P w K mg base (adrOf K "Group") "size" 1 (spD K 1 S_Group__size)) (O_Group__times : OkM P w K mg base (adrOf K "Group") "times" P_Group__times 4 (spD K 3 S_Group__times)) : BodyCx P w K mg base "_law_quotient_right" st__law_quotient_right N__law_quotient_right 10 fun X => JSs X (defBody st__law_quotient_right) g__law_quotient_right := fun f cdv A outer s H E hr => js_cons (js_set (i := 3) ((je_fn O__law_sides (hr.mono (by decide)) (ja_cons (je_v 1) (ja_cons (je_v 2) (ja_nil)))).jx) sc__law_quotient_right.nd rfl (by first | exact Or.inl rfl | exact Or.inr rfl)) (js_cons (js_asg (vs := [4, 5]) (je_meth O_Group__quotient CF_Group.cl (hr.mono (by decide)) (je_v 0) (ja_cons (je_v 2) (ja_nil))) (jg_tup rfl (jgs_cons (jg_n 4 sc__law_quotient_right.nd) (jgs_cons (jg_n 5 sc__law_quotient_right.nd) (jgs_nil))))) (js_cons (js_if ((jw_or (jt_cmp (opd_ne hr.units) ((jl_list B.list (je_v 5)).je) (je_v 3) (nomark _)) (jw_or1 (jt_cmp (opd_ne hr.units) (je_prop O_Group__size CF_Group.cl (hr.mono (by decide)) (je_v 4)) (je_callB calld_len B.len (by decide +kernel) (ja_cons (je_v 3) (ja_nil))) (nomark _)))).jt) (js_one (js_ret (je_bl))) (js_nil)) (js_cons (js_for (vs := [6, 7]) rfl (ji_en B.enumerate (je_v 3)) (jg_tup rfl (jgs_cons (jg_n 6 sc__law_quotient_right.nd) (jgs_cons (jg_n 7 sc__law_quotient_right.nd) (jgs_nil)))) (js_one (js_for (vs := [8, 9]) rfl (ji_en B.enumerate (je_v 3)) (jg_tup rfl (jgs_cons (jg_n 8 sc__law_quotient_right.nd) (jgs_cons (jg_n 9 sc__law_quotient_right.nd) (jgs_nil)))) (js_cons (js_lcF (own := [("_law_side", 11)]) rfl sc__law_quotient_right.nd (i := 10) rfl rfl (sw_true rfl rfl rfl (by decide +kernel)) (ji_sq (je_v 3)) (blkOk_by (by rfl)) (fun _ _ _ _ _ => jg_n 11 sc__law_quotient_right.nd) (fun _ _ _ _ _ => jts_one (jt_cmp opd_in (je_ix (je_ix (je_v 1) (je_ix (je_v 7) (je_neg (je_int)))) (je_ix (je_v 9) (je_int))) (je_v 11) rfl)) (fun _ _ _ _ _ => je_v 11)) (js_one (js_if (jt_cmp (opd_ne hr.units) (je_ix (je_v 3) (je_meth O_Group__times CF_Group.cl (hr.mono (by decide)) (je_v 4) (ja_cons (je_v 6) (ja_cons (je_v 8) (ja_nil))))) (je_ix (je_v 10) (je_int)) (nomark _)) (js_one (js_ret (je_bl))) (js_nil))))))) (js_one (js_ret (je_bl))))))
theorem sc__law_right : FnScope N__law_right P__law_right (defScope st__law_right) := ⟨rfl, rfl, rfl, by decide +kernel, rfl, by decide +kernel, by decide +kernel⟩
theorem bs__law_right : BindsAs "_law_right" st__law_right P__law_right := fun _ _ _ _ _ _ us hl => match us, hl with | [_], _ => rfl
theorem j__law_right (B : Bl K mg) (CF_Group : ClsF K mg "Group" ["_rows", "_unit", "_backs", "_centre"]) (O__law_group_rows : Ok P w K mg base "_law_group_rows" P__law_group_rows 4 (spM K 2 S__law_group_rows)) (O__law_group_parts : Ok P w K mg base "_law_group_parts" P__law_group_parts 3 (spD K 1 S__law_group_parts)) (O_Group____init__ : OkI P w K mg base "Group" P_Group____init__ 5 (spI K "Group" 2 S_Group____init__)) (O__law_some : Ok P w K mg base "_law_some" P__law_some 2 (spM K 2 S__law_some)) (O__law_roll : Ok P w K mg base "_law_roll" P__law_roll 1 (spM K 2 S__law_roll)) (O__law_made_closed : Ok P w K mg base "_law_made_closed" P__law_made_closed 2 (spD K 2 S__law_made_closed)) (O_Group__closure : OkM P w K mg base (adrOf K "Group") "closure" P_Group__closure 4 (spD K 2 S_Group__closure)) (O__law_is_whole_part : Ok P w K mg base "_law_is_whole_part" P__law_is_whole_part 3 (spD K 2 S__law_is_whole_part)) (O_Group__is_whole : OkM P w K mg base (adrOf K "Group") "is_whole" P_Group__is_whole 4 (spD K 2 S_Group__is_whole)) (O_Group__parts : OkM P w K mg base (adrOf K "Group") "parts" P_Group__parts 2 (spD K 1 S_Group__parts)) (O__law_quotient_right : Ok P w K mg base "_law_quotient_right" P__law_quotient_right 11 (spD K 3 S__law_quotient_right)) (O__law_unit : Ok P w K mg base "_law_unit" P__law_unit 1 (spD K 1 S__law_unit)) (O_Group__quotient : OkM P w K mg base (adrOf K "Group") "quotient" P_Group__quotient 8 (spD K 2 S_Group__quotient)) (O_Group__size : OkP P w K mg base (adrOf K "Group") "size" 1 (spD K 1 S_Group__size)) : BodyCx P w K mg base "_law_right" st__law_right N__law_right 11 fun X => JSs X (defBody st__law_right) g__law_right := fun f cdv A outer s H E hr => js_cons (js_set (i := 1) ((je_fnM O__law_group_rows (hr.mono (by decide)) (i := 0) rfl (by first | exact Or.inl rfl | exact Or.inr (Or.inl rfl) | exact Or.inr (Or.inr rfl)) (ja_cons (je_int) (ja_nil))).jx) sc__law_right.nd rfl (by first | exact Or.inl rfl | exact Or.inr rfl)) (js_cons (js_asg (vs := [2, 3, 4]) (je_tup (ja_cons (je_new O_Group____init__ (hr.mono (by decide)) (ja_cons (je_v 1) (ja_nil))) (ja_cons (je_callB calld_len B.len (by decide +kernel) (ja_cons (je_v 1) (ja_nil))) (ja_cons (je_fn O__law_group_parts (hr.mono (by decide)) (ja_cons (je_v 1) (ja_nil))) (ja_nil))))) (jg_tup rfl (jgs_cons (jg_n 2 sc__law_right.nd) (jgs_cons (jg_n 3 sc__law_right.nd) (jgs_cons (jg_n 4 sc__law_right.nd) (jgs_nil)))))) (js_cons (js_for (vs := [5]) rfl (ji_r1 B.range (je_int)) (jg_n 5 sc__law_right.nd) (js_cons (js_set (i := 6) ((je_callTy calld_tuple B.tuple (by decide +kernel) (ja_cons (je_fnM O__law_some (hr.mono (by decide)) (i := 0) rfl (by first | exact Or.inl rfl | exact Or.inr (Or.inl rfl) | exact Or.inr (Or.inr rfl)) (ja_cons ((jl_rg rfl B.list (jr_1 B.range (je_v 3))).je) (ja_nil))) (ja_nil))).jx) sc__law_right.nd rfl (by first | exact Or.inl rfl | exact Or.inr rfl)) (js_cons (js_set (i := 6) ((je_sl (je_v 6) (jo_none) (jo_some (je_fnM O__law_roll (hr.mono (by decide)) (i := 0) rfl (by first | exact Or.inl rfl | exact Or.inr (Or.inl rfl) | exact Or.inr (Or.inr rfl)) (ja_cons (je_int) (ja_nil))))).jx) sc__law_right.nd rfl (by first | exact Or.inl rfl | exact Or.inr rfl)) (js_cons (js_if (jt_cmp (opd_ne hr.units) (je_meth O_Group__closure CF_Group.cl (hr.mono (by decide)) (je_v 2) (ja_cons (je_v 6) (ja_nil))) (je_fn O__law_made_closed (hr.mono (by decide)) (ja_cons (je_v 1) (ja_cons (je_v 6) (ja_nil)))) (nomark _)) (js_one (js_ret (je_bl))) (js_nil)) (js_one (js_if (jt_cmp (opd_ne hr.units) (je_meth O_Group__is_whole CF_Group.cl (hr.mono (by decide)) (je_v 2) (ja_cons (je_v 6) (ja_nil))) (je_and (je_cmp (opd_inL (hu65 hr)) (je_v 6) (je_v 4) rfl) (je_one (je_fn O__law_is_whole_part (hr.mono (by decide)) (ja_cons (je_v 1) (ja_cons (je_v 6) (ja_nil)))))) (nomark _)) (js_one (js_ret (je_bl))) (js_nil))))))) (js_cons (js_if ((jw_or (jt_cmp (opd_ne hr.units) (je_meth0 O_Group__parts CF_Group.cl (hr.mono (by decide)) (je_v 2)) (je_callTy calld_tuple B.tuple (by decide +kernel) (ja_cons (je_v 4) (ja_nil))) (nomark _)) (jw_or1 (jt_val (je_callB (calld_any rfl) B.any (by decide +kernel) (ja_cons ((jl_lc (own := [("_law_part", 7)]) rfl sc__law_right.nd (ji_sq (je_v 4)) (blkOk_by (by rfl)) (fun _ _ _ _ _ => jg_n 7 sc__law_right.nd) (fun _ _ _ _ _ => jts_nil) (fun _ _ _ _ _ => je_cmp (opd_ne hr.units) (je_bin opd_mod (je_v 3) (je_callB calld_len B.len (by decide +kernel) (ja_cons (je_v 7) (ja_nil)))) (je_int) (nomark _))).je) (ja_nil)))))).jt) (js_one (js_ret (je_bl))) (js_nil)) (js_cons (js_for (vs := [7]) rfl (ji_sq (je_v 4)) (jg_n 7 sc__law_right.nd) (js_cons (js_set (i := 8) ((je_fn O__law_is_whole_part (hr.mono (by decide)) (ja_cons (je_v 1) (ja_cons (je_v 7) (ja_nil)))).jx) sc__law_right.nd rfl (by first | exact Or.inl rfl | exact Or.inr rfl)) (js_one (js_if ((jw_or (jt_cmp (opd_ne hr.units) (je_meth O_Group__is_whole CF_Group.cl (hr.mono (by decide)) (je_v 2) (ja_cons (je_v 7) (ja_nil))) (je_v 8) (nomark _)) (jw_or1 ((jw_and (jt_val (je_v 8)) (jw_and1 (jt_not (jt_val (je_fn O__law_quotient_right (hr.mono (by decide)) (ja_cons (je_v 2) (ja_cons (je_v 1) (ja_cons (je_v 7) (ja_nil))))))))).jt))).jt) (js_one (js_ret (je_bl))) (js_nil))))) (js_one (js_ret (je_and (je_cmp (opd_eq hr.units) (je_meth O_Group__closure CF_Group.cl (hr.mono (by decide)) (je_v 2) (ja_cons (je_tup (ja_nil)) (ja_nil))) (je_tup (ja_cons (je_fn O__law_unit (hr.mono (by decide)) (ja_cons (je_v 1) (ja_nil))) (ja_nil))) (nomark _)) (je_one (je_cmp (opd_eq hr.units) (je_prop O_Group__size CF_Group.cl (hr.mono (by decide)) (je_ix (je_meth O_Group__quotient CF_Group.cl (hr.mono (by decide)) (je_v 2) (ja_cons (je_tupRg rfl B.tuple (jr_1 B.range (je_v 3))) (ja_nil))) (je_int))) (je_int) (nomark _))))))))))
theorem sc_law : FnScope N_law P_law (defScope st_law) := ⟨rfl, rfl, rfl, by decide +kernel, rfl, by decide +kernel, by decide +kernel⟩
theorem j_law (B : Bl K mg) (CF_Group : ClsF K mg "Group" ["_rows", "_unit", "_backs", "_centre"]) (O__law_dice : Ok P w K mg base "_law_dice" P__law_dice 1 (spL K 2 S__law_dice)) (O__law_right : Ok P w K mg base "_law_right" P__law_right 12 (spM K 1 S__law_right)) (O_Group____init__ : OkI P w K mg base "Group" P_Group____init__ 5 (spI K "Group" 2 S_Group____init__)) (O__law_turned_pairs : Ok P w K mg base "_law_turned_pairs" P__law_turned_pairs 1 (spD K 1 S__law_turned_pairs)) (O_Group__parts : OkM P w K mg base (adrOf K "Group") "parts" P_Group__parts 2 (spD K 1 S_Group__parts)) (O_Group__is_whole : OkM P w K mg base (adrOf K "Group") "is_whole" P_Group__is_whole 4 (spD K 2 S_Group__is_whole)) : BodyCx P w K mg base "law" st_law N_law 12 fun X => JSs X (defBody st_law) g_law := fun f cdv A outer s H E hr => js_cons (js_for (vs := [1]) rfl (ji_r1 B.range (je_callB (calld_max2 rfl) B.max (by decide +kernel) (ja_cons (je_int) (ja_cons (je_callB (calld_min2 rfl) B.min (by decide +kernel) (ja_cons (je_int) (ja_cons (je_callB calld_len B.len (by decide +kernel) (ja_cons (je_v 0) (ja_nil))) (ja_nil)))) (ja_nil))))) (jg_n 1 sc_law.nd) (js_one (js_if (jt_not (jt_val (je_fnML O__law_right (hr.mono (by decide)) (jl_fn O__law_dice (hr.mono (by decide)) (ja_cons (je_v 0) (ja_cons (je_v 1) (ja_nil)))) (ja_nil)))) (js_one (js_ret (je_bl))) (js_nil)))) (js_cons (js_set (i := 2) ((je_new O_Group____init__ (hr.mono (by decide)) (ja_cons (je_fn O__law_turned_pairs (hr.mono (by decide)) (ja_cons (je_int) (ja_nil))) (ja_nil))).jx) sc_law.nd rfl (by first | exact Or.inl rfl | exact Or.inr rfl)) (js_one (js_ret (je_and (je_cmp (opd_eq hr.units) (je_meth0 O_Group__parts CF_Group.cl (hr.mono (by decide)) (je_v 2)) (je_tup (ja_cons (je_tup (ja_cons (je_int) (ja_nil))) (ja_cons (je_tup (ja_cons (je_int) (ja_cons (je_int) (ja_nil)))) (ja_cons (je_tup (ja_cons (je_int) (ja_cons (je_int) (ja_cons (je_int) (ja_cons (je_int) (ja_cons (je_int) (ja_cons (je_int) (ja_nil)))))))) (ja_cons (je_tup (ja_cons (je_int) (ja_cons (je_int) (ja_cons (je_int) (ja_nil))))) (ja_cons (je_tup (ja_cons (je_int) (ja_cons (je_int) (ja_nil)))) (ja_cons (je_tup (ja_cons (je_int) (ja_cons (je_int) (ja_nil)))) (ja_nil)))))))) (nomark _)) (je_one (je_not (je_meth O_Group__is_whole CF_Group.cl (hr.mono (by decide)) (je_v 2) (ja_cons (je_tup (ja_cons (je_int) (ja_cons (je_int) (ja_nil)))) (ja_nil)))))))))
end
end Dn.T.G.K07
set_option Elab.async false
set_option linter.all false
set_option maxRecDepth 100000
set_option autoImplicit false
set_option maxHeartbeats 4000000
namespace Dn.T.G.K07
open PySem PySem.Spec PyProof.Rows L2 Evl
theorem start_law {K : PySem.W.Frag} {H : Hp} {a : Addr} {ns : List Int} (hl : ns.length ≤ 63) (hS : SqL K H a (ns.map V.int)) (tb : TbOk K H) : spD K 1 S_law [.ref a] H (fun v _ => v = .bl true) fun _ _ _ => False := by
  refine ⟨rfl, fun _ => False, [scr ns], fun d => d = .bool true, fun _ h => h.elim, start_scr hS, tb, ⟨ns, rfl, hl, rfl⟩, fun v d H' q _ r => ?_⟩
  subst q
  cases r
  rfl
theorem facts {P : Program} {w : World} {K : PySem.W.Frag} {h : Heap} {mg : Str → Option Value} {f : Addr} (X : K.In h) (G : h.Ns mainGlobals mg) (hfa : mg ("law" : Str) = some (.ref f)) (cx : He.SaysX Hd.bf Hd.fa Hd.fn Hd.xb Hd.xf Hd.vals K) :
    ∃ fd : FuncData, (∀ (s : Shared) (v : Value), BindsTo s fd ⟨[v], []⟩ [("_law_script", v)]) ∧ (∀ H : Hp, TbOk K H) ∧ ∀ base : Heap, K.In base → base.Ns mainGlobals mg → FnOk P w K mg base L2.CX0 13 f fd ["_law_script"] (spD K 1 S_law) := by
  have cb := cx.b
  have c := cb.d
  have hx := cx.x
  unfold Hd.xb at hx
  rw [Bool.and_eq_true] at hx
  have LMK : ∀ H : Hp, TbOk K H := fun H p hp => by
    have e : Dn.lamK K = [] := List.isEmpty_iff.mp hx.1
    unfold tabsK at hp
    rw [e] at hp
    cases hp
  replace hx := hx.2
  rw [Bool.and_eq_true] at hx
  have KTF : KT K := hx.1
  replace hx := hx.2
  simp only [Bool.and_eq_true] at hx
  obtain ⟨x0, x1, x2, x3, x4, x5, x6⟩ := hx
  have hv := cx.f
  unfold Hd.xf Hd.vals at hv
  simp only [List.cons.injEq, and_true] at hv
  obtain ⟨v0, v1, v2⟩ := hv
  have cl_Group := He.cls_ok (c.fact 69 (f := .cls "Group") rfl)
  obtain ⟨ad_Group, ob_Group, ic_Group, ne_Group⟩ := He.obB_ok x0 cl_Group
  have CF_Group : ClsF K mg "Group" ["_rows", "_unit", "_backs", "_centre"] := by
    refine ⟨?_, ?_, ob_Group, ic_Group, ne_Group, fun f hf => ?_⟩
    · rw [ad_Group]; exact He.glo_ok X G (c.fact 68 (f := .glo "Group") rfl)
    · rw [ad_Group]; exact cl_Group
    · simp only [List.mem_cons, List.not_mem_nil, or_false] at hf
      rw [ad_Group]
      rcases hf with rfl | rfl | rfl | rfl
      · exact He.noat_ok (c.fact 71 (f := .noat "Group" "_rows") rfl)
      · exact He.noat_ok (c.fact 72 (f := .noat "Group" "_unit") rfl)
      · exact He.noat_ok (c.fact 73 (f := .noat "Group" "_backs") rfl)
      · exact He.noat_ok (c.fact 74 (f := .noat "Group" "_centre") rfl)
  have F_is_integer : Is K mg "is_integer" st_is_integer := by
    obtain ⟨fd, F⟩ := c.def_ 1 (d := Hd.dd_is_integer) rfl
    exact ⟨_, fd, F, He.glo_ok X G (c.fact 1 (f := .glo "is_integer") rfl)⟩
  have F_is_thing : Is K mg "is_thing" st_is_thing := by
    obtain ⟨fd, F⟩ := c.def_ 2 (d := Hd.dd_is_thing) rfl
    exact ⟨_, fd, F, He.glo_ok X G (c.fact 2 (f := .glo "is_thing") rfl)⟩
  have F_is_row : Is K mg "is_row" st_is_row := by
    obtain ⟨fd, F⟩ := c.def_ 3 (d := Hd.dd_is_row) rfl
    exact ⟨_, fd, F, He.glo_ok X G (c.fact 3 (f := .glo "is_row") rfl)⟩
  have F_is_square : Is K mg "is_square" st_is_square := by
    obtain ⟨fd, F⟩ := c.def_ 4 (d := Hd.dd_is_square) rfl
    exact ⟨_, fd, F, He.glo_ok X G (c.fact 4 (f := .glo "is_square") rfl)⟩
  have F_is_lot : Is K mg "is_lot" st_is_lot := by
    obtain ⟨fd, F⟩ := c.def_ 5 (d := Hd.dd_is_lot) rfl
    exact ⟨_, fd, F, He.glo_ok X G (c.fact 5 (f := .glo "is_lot") rfl)⟩
  have F_check_thing : Is K mg "check_thing" st_check_thing := by
    obtain ⟨fd, F⟩ := c.def_ 6 (d := Hd.dd_check_thing) rfl
    exact ⟨_, fd, F, He.glo_ok X G (c.fact 6 (f := .glo "check_thing") rfl)⟩
  have F_check_lot : Is K mg "check_lot" st_check_lot := by
    obtain ⟨fd, F⟩ := c.def_ 7 (d := Hd.dd_check_lot) rfl
    exact ⟨_, fd, F, He.glo_ok X G (c.fact 7 (f := .glo "check_lot") rfl)⟩
  have F_unit_of : Is K mg "unit_of" st_unit_of := by
    obtain ⟨fd, F⟩ := c.def_ 8 (d := Hd.dd_unit_of) rfl
    exact ⟨_, fd, F, He.glo_ok X G (c.fact 8 (f := .glo "unit_of") rfl)⟩
  have F_back_of : Is K mg "back_of" st_back_of := by
    obtain ⟨fd, F⟩ := c.def_ 9 (d := Hd.dd_back_of) rfl
    exact ⟨_, fd, F, He.glo_ok X G (c.fact 9 (f := .glo "back_of") rfl)⟩
  have F_backs_of : Is K mg "backs_of" st_backs_of := by
    obtain ⟨fd, F⟩ := c.def_ 10 (d := Hd.dd_backs_of) rfl
    exact ⟨_, fd, F, He.glo_ok X G (c.fact 10 (f := .glo "backs_of") rfl)⟩
  have F_broken_three : Is K mg "broken_three" st_broken_three := by
    obtain ⟨fd, F⟩ := c.def_ 11 (d := Hd.dd_broken_three) rfl
    exact ⟨_, fd, F, He.glo_ok X G (c.fact 11 (f := .glo "broken_three") rfl)⟩
  have F_centre_of : Is K mg "centre_of" st_centre_of := by
    obtain ⟨fd, F⟩ := c.def_ 12 (d := Hd.dd_centre_of) rfl
    exact ⟨_, fd, F, He.glo_ok X G (c.fact 12 (f := .glo "centre_of") rfl)⟩
  have F_least_part : Is K mg "least_part" st_least_part := by
    obtain ⟨fd, F⟩ := c.def_ 13 (d := Hd.dd_least_part) rfl
    exact ⟨_, fd, F, He.glo_ok X G (c.fact 13 (f := .glo "least_part") rfl)⟩
  have F__check_rows : Is K mg "_check_rows" st__check_rows := by
    obtain ⟨fd, F⟩ := c.def_ 16 (d := Hd.dd__check_rows) rfl
    exact ⟨_, fd, F, He.glo_ok X G (c.fact 16 (f := .glo "_check_rows") rfl)⟩
  have F__law_dice : Is K mg "_law_dice" st__law_dice := by
    obtain ⟨fd, F⟩ := c.def_ 17 (d := Hd.dd__law_dice) rfl
    exact ⟨_, fd, F, He.glo_ok X G (c.fact 17 (f := .glo "_law_dice") rfl)⟩
  have F__law_roll : Is K mg "_law_roll" st__law_roll := by
    obtain ⟨fd, F⟩ := c.def_ 18 (d := Hd.dd__law_roll) rfl
    exact ⟨_, fd, F, He.glo_ok X G (c.fact 18 (f := .glo "_law_roll") rfl)⟩
  have F__law_pick : Is K mg "_law_pick" st__law_pick := by
    obtain ⟨fd, F⟩ := c.def_ 19 (d := Hd.dd__law_pick) rfl
    exact ⟨_, fd, F, He.glo_ok X G (c.fact 19 (f := .glo "_law_pick") rfl)⟩
  have F__law_mixed : Is K mg "_law_mixed" st__law_mixed := by
    obtain ⟨fd, F⟩ := c.def_ 20 (d := Hd.dd__law_mixed) rfl
    exact ⟨_, fd, F, He.glo_ok X G (c.fact 20 (f := .glo "_law_mixed") rfl)⟩
  have F__law_some : Is K mg "_law_some" st__law_some := by
    obtain ⟨fd, F⟩ := c.def_ 21 (d := Hd.dd__law_some) rfl
    exact ⟨_, fd, F, He.glo_ok X G (c.fact 21 (f := .glo "_law_some") rfl)⟩
  have F__law_orders : Is K mg "_law_orders" st__law_orders := by
    obtain ⟨fd, F⟩ := c.def_ 22 (d := Hd.dd__law_orders) rfl
    exact ⟨_, fd, F, He.glo_ok X G (c.fact 22 (f := .glo "_law_orders") rfl)⟩
  have F__law_joined : Is K mg "_law_joined" st__law_joined := by
    obtain ⟨fd, F⟩ := c.def_ 23 (d := Hd.dd__law_joined) rfl
    exact ⟨_, fd, F, He.glo_ok X G (c.fact 23 (f := .glo "_law_joined") rfl)⟩
  have F__law_undone : Is K mg "_law_undone" st__law_undone := by
    obtain ⟨fd, F⟩ := c.def_ 24 (d := Hd.dd__law_undone) rfl
    exact ⟨_, fd, F, He.glo_ok X G (c.fact 24 (f := .glo "_law_undone") rfl)⟩
  have F__law_drawn_move : Is K mg "_law_drawn_move" st__law_drawn_move := by
    obtain ⟨fd, F⟩ := c.def_ 25 (d := Hd.dd__law_drawn_move) rfl
    exact ⟨_, fd, F, He.glo_ok X G (c.fact 25 (f := .glo "_law_drawn_move") rfl)⟩
  have F__law_places_of : Is K mg "_law_places_of" st__law_places_of := by
    obtain ⟨fd, F⟩ := c.def_ 26 (d := Hd.dd__law_places_of) rfl
    exact ⟨_, fd, F, He.glo_ok X G (c.fact 26 (f := .glo "_law_places_of") rfl)⟩
  have F__law_product_dots : Is K mg "_law_product_dots" st__law_product_dots := by
    obtain ⟨fd, F⟩ := c.def_ 27 (d := Hd.dd__law_product_dots) rfl
    exact ⟨_, fd, F, He.glo_ok X G (c.fact 27 (f := .glo "_law_product_dots") rfl)⟩
  have F__law_cyclic : Is K mg "_law_cyclic" st__law_cyclic := by
    obtain ⟨fd, F⟩ := c.def_ 28 (d := Hd.dd__law_cyclic) rfl
    exact ⟨_, fd, F, He.glo_ok X G (c.fact 28 (f := .glo "_law_cyclic") rfl)⟩
  have F__law_direct : Is K mg "_law_direct" st__law_direct := by
    obtain ⟨fd, F⟩ := c.def_ 29 (d := Hd.dd__law_direct) rfl
    exact ⟨_, fd, F, He.glo_ok X G (c.fact 29 (f := .glo "_law_direct") rfl)⟩
  have F__law_moves_rows : Is K mg "_law_moves_rows" st__law_moves_rows := by
    obtain ⟨fd, F⟩ := c.def_ 30 (d := Hd.dd__law_moves_rows) rfl
    exact ⟨_, fd, F, He.glo_ok X G (c.fact 30 (f := .glo "_law_moves_rows") rfl)⟩
  have F__law_turned_pairs : Is K mg "_law_turned_pairs" st__law_turned_pairs := by
    obtain ⟨fd, F⟩ := c.def_ 31 (d := Hd.dd__law_turned_pairs) rfl
    exact ⟨_, fd, F, He.glo_ok X G (c.fact 31 (f := .glo "_law_turned_pairs") rfl)⟩
  have F__law_quaternion_rows : Is K mg "_law_quaternion_rows" st__law_quaternion_rows := by
    obtain ⟨fd, F⟩ := c.def_ 32 (d := Hd.dd__law_quaternion_rows) rfl
    exact ⟨_, fd, F, He.glo_ok X G (c.fact 32 (f := .glo "_law_quaternion_rows") rfl)⟩
  have F__law_renamed_group : Is K mg "_law_renamed_group" st__law_renamed_group := by
    obtain ⟨fd, F⟩ := c.def_ 33 (d := Hd.dd__law_renamed_group) rfl
    exact ⟨_, fd, F, He.glo_ok X G (c.fact 33 (f := .glo "_law_renamed_group") rfl)⟩
  have F__law_falls : Is K mg "_law_falls" st__law_falls := by
    obtain ⟨fd, F⟩ := c.def_ 35 (d := Hd.dd__law_falls) rfl
    exact ⟨_, fd, F, He.glo_ok X G (c.fact 35 (f := .glo "_law_falls") rfl)⟩
  have F__law_unit : Is K mg "_law_unit" st__law_unit := by
    obtain ⟨fd, F⟩ := c.def_ 36 (d := Hd.dd__law_unit) rfl
    exact ⟨_, fd, F, He.glo_ok X G (c.fact 36 (f := .glo "_law_unit") rfl)⟩
  have F__law_inverse : Is K mg "_law_inverse" st__law_inverse := by
    obtain ⟨fd, F⟩ := c.def_ 37 (d := Hd.dd__law_inverse) rfl
    exact ⟨_, fd, F, He.glo_ok X G (c.fact 37 (f := .glo "_law_inverse") rfl)⟩
  have F__law_made_closed : Is K mg "_law_made_closed" st__law_made_closed := by
    obtain ⟨fd, F⟩ := c.def_ 38 (d := Hd.dd__law_made_closed) rfl
    exact ⟨_, fd, F, He.glo_ok X G (c.fact 38 (f := .glo "_law_made_closed") rfl)⟩
  have F__law_group_parts : Is K mg "_law_group_parts" st__law_group_parts := by
    obtain ⟨fd, F⟩ := c.def_ 39 (d := Hd.dd__law_group_parts) rfl
    exact ⟨_, fd, F, He.glo_ok X G (c.fact 39 (f := .glo "_law_group_parts") rfl)⟩
  have F__law_is_whole_part : Is K mg "_law_is_whole_part" st__law_is_whole_part := by
    obtain ⟨fd, F⟩ := c.def_ 40 (d := Hd.dd__law_is_whole_part) rfl
    exact ⟨_, fd, F, He.glo_ok X G (c.fact 40 (f := .glo "_law_is_whole_part") rfl)⟩
  have F__law_sides : Is K mg "_law_sides" st__law_sides := by
    obtain ⟨fd, F⟩ := c.def_ 41 (d := Hd.dd__law_sides) rfl
    exact ⟨_, fd, F, He.glo_ok X G (c.fact 41 (f := .glo "_law_sides") rfl)⟩
  have F_Group__size : IsP K (adrOf K "Group") "size" "Group.size" st_Group__size := by
    obtain ⟨fd, F⟩ := He.gfB_ok v2 x6
    rw [ad_Group]
    exact ⟨_, _, fd, F, He.prB_ok x5⟩
  have F_Group__times : IsM K (adrOf K "Group") "times" "Group.times" st_Group__times := by
    obtain ⟨fd, F⟩ := c.def_ 47 (d := Hd.dd_Group__times) rfl
    rw [ad_Group]
    exact ⟨_, fd, F, He.meth_ok (c.fact 76 (f := .meth "Group" "times") rfl)⟩
  have F_Group__closure : IsM K (adrOf K "Group") "closure" "Group.closure" st_Group__closure := by
    obtain ⟨fd, F⟩ := c.def_ 48 (d := Hd.dd_Group__closure) rfl
    rw [ad_Group]
    exact ⟨_, fd, F, He.meth_ok (c.fact 77 (f := .meth "Group" "closure") rfl)⟩
  have F_Group__is_whole : IsM K (adrOf K "Group") "is_whole" "Group.is_whole" st_Group__is_whole := by
    obtain ⟨fd, F⟩ := c.def_ 49 (d := Hd.dd_Group__is_whole) rfl
    rw [ad_Group]
    exact ⟨_, fd, F, He.meth_ok (c.fact 78 (f := .meth "Group" "is_whole") rfl)⟩
  have F_Group__parts : IsM K (adrOf K "Group") "parts" "Group.parts" st_Group__parts := by
    obtain ⟨fd, F⟩ := c.def_ 50 (d := Hd.dd_Group__parts) rfl
    rw [ad_Group]
    exact ⟨_, fd, F, He.meth_ok (c.fact 79 (f := .meth "Group" "parts") rfl)⟩
  have F_group_paper : Is K mg "group_paper" st_group_paper := by
    obtain ⟨fd, F⟩ := c.def_ 15 (d := Hd.dd_group_paper) rfl
    exact ⟨_, fd, F, He.glo_ok X G (c.fact 15 (f := .glo "group_paper") rfl)⟩
  have F__law_group_rows : Is K mg "_law_group_rows" st__law_group_rows := by
    obtain ⟨fd, F⟩ := c.def_ 34 (d := Hd.dd__law_group_rows) rfl
    exact ⟨_, fd, F, He.glo_ok X G (c.fact 34 (f := .glo "_law_group_rows") rfl)⟩
  have F_Group____init__ : ∃ f fd, FunD K "__init__" "Group.__init__" (defArgs st_Group____init__) (defBody st_Group____init__) (defScope st_Group____init__) [] [] f fd ∧ L2.Mk K (adrOf K "Group") f := by
    obtain ⟨fd, F⟩ := c.def_ 45 (d := Hd.dd_Group____init__) rfl
    rw [ad_Group]
    exact ⟨_, fd, F, He.mkr_ok (c.fact 70 (f := .mkr "Group") rfl)⟩
  have F_Group__quotient : IsM K (adrOf K "Group") "quotient" "Group.quotient" st_Group__quotient := by
    obtain ⟨fd, F⟩ := c.def_ 51 (d := Hd.dd_Group__quotient) rfl
    rw [ad_Group]
    exact ⟨_, fd, F, He.meth_ok (c.fact 80 (f := .meth "Group" "quotient") rfl)⟩
  have F__law_quotient_right : Is K mg "_law_quotient_right" st__law_quotient_right := by
    obtain ⟨fd, F⟩ := c.def_ 42 (d := Hd.dd__law_quotient_right) rfl
    exact ⟨_, fd, F, He.glo_ok X G (c.fact 42 (f := .glo "_law_quotient_right") rfl)⟩
  have F__law_right : Is K mg "_law_right" st__law_right := by
    obtain ⟨fd, F⟩ := c.def_ 43 (d := Hd.dd__law_right) rfl
    exact ⟨_, fd, F, He.glo_ok X G (c.fact 43 (f := .glo "_law_right") rfl)⟩
  have B : Bl K mg := ⟨KTF, He.free_ok X G (c.fact 45 (f := .free "len") rfl), He.free_ok X G (c.fact 46 (f := .free "range") rfl), He.free_ok X G (c.fact 47 (f := .free "tuple") rfl), He.free_ok X G (c.fact 48 (f := .free "list") rfl), He.free_ok X G (c.fact 49 (f := .free "isinstance") rfl), He.free_ok X G (c.fact 50 (f := .free "int") rfl), He.free_ok X G (c.fact 51 (f := .free "bool") rfl), He.free_ok X G (c.fact 52 (f := .free "str") rfl), He.free_ok X G (c.fact 53 (f := .free "abs") rfl), He.free_ok X G (c.fact 54 (f := .free "max") rfl), He.free_ok X G (c.fact 55 (f := .free "min") rfl), He.free_ok X G (c.fact 56 (f := .free "all") rfl), He.free_ok X G (c.fact 57 (f := .free "any") rfl), He.free_ok X G (c.fact 58 (f := .free "sum") rfl), He.free_ok X G (c.fact 59 (f := .free "sorted") rfl), He.free_ok X G (c.fact 60 (f := .free "enumerate") rfl), He.free_ok X G (c.fact 61 (f := .free "repr") rfl), He.free_ok X G (c.fact 62 (f := .free "set") rfl), He.free_ok X G (c.fact 63 (f := .free "dict") rfl), He.free_ok X G (c.fact 64 (f := .free "zip") rfl), He.free_ok X G (c.fact 65 (f := .free "divmod") rfl)⟩
  obtain ⟨t_TOO_LONG, c_TOO_LONG⟩ := He.int_ok X G (c.fact 66 (f := .int "TOO_LONG" 1000000000000000000000000000000000000000000000000000000000000) rfl)
  obtain ⟨t_MAX_GROUP, c_MAX_GROUP⟩ := He.int_ok X G (c.fact 67 (f := .int "MAX_GROUP" 24) rfl)
  obtain ⟨fd, F⟩ := c.def_ 44 (d := Hd.dd_law) rfl
  have e := hfa.symm.trans (He.glo_ok X G (c.fact 44 (f := .glo "law") rfl))
  cases e
  have b := FunD.bindsA (ps := ["_law_script"]) F fun _ _ _ _ _ _ us hl => match us, hl with | [_], _ => rfl
  refine ⟨fd, fun s v => b s [v] rfl, LMK, fun base _ _ => ?_⟩
  have O_is_integer : Ok P w K mg base "is_integer" P_is_integer 1 (spD K 1 S_is_integer) := ok_D F_is_integer sc_is_integer bs_is_integer (j_is_integer B c_TOO_LONG) v_is_integer
  have O_is_thing : Ok P w K mg base "is_thing" P_is_thing 2 (spD K 2 S_is_thing) := ok_D F_is_thing sc_is_thing bs_is_thing (j_is_thing O_is_integer) v_is_thing
  have O_is_row : Ok P w K mg base "is_row" P_is_row 1 (spD K 3 S_is_row) := ok_D F_is_row sc_is_row bs_is_row (j_is_row B) v_is_row
  have O_is_square : Ok P w K mg base "is_square" P_is_square 2 (spD K 3 S_is_square) := ok_D F_is_square sc_is_square bs_is_square (j_is_square B O_is_row) v_is_square
  have O_is_lot : Ok P w K mg base "is_lot" P_is_lot 2 (spD K 2 S_is_lot) := ok_D F_is_lot sc_is_lot bs_is_lot (j_is_lot B O_is_row) v_is_lot
  have O_check_thing : Ok P w K mg base "check_thing" P_check_thing 3 (spD K 2 S_check_thing) := ok_D F_check_thing sc_check_thing bs_check_thing (j_check_thing O_is_thing) v_check_thing
  have O_check_lot : Ok P w K mg base "check_lot" P_check_lot 3 (spD K 2 S_check_lot) := ok_D F_check_lot sc_check_lot bs_check_lot (j_check_lot O_is_lot) v_check_lot
  have O_unit_of : Ok P w K mg base "unit_of" P_unit_of 1 (spD K 1 S_unit_of) := ok_D F_unit_of sc_unit_of bs_unit_of (j_unit_of B) v_unit_of
  have O_back_of : Ok P w K mg base "back_of" P_back_of 1 (spD K 3 S_back_of) := ok_D F_back_of sc_back_of bs_back_of (j_back_of B) v_back_of
  have O_backs_of : Ok P w K mg base "backs_of" P_backs_of 2 (spD K 2 S_backs_of) := ok_D F_backs_of sc_backs_of bs_backs_of (j_backs_of B O_back_of) v_backs_of
  have O_broken_three : Ok P w K mg base "broken_three" P_broken_three 1 (spD K 1 S_broken_three) := ok_D F_broken_three sc_broken_three bs_broken_three (j_broken_three B) v_broken_three
  have O_centre_of : Ok P w K mg base "centre_of" P_centre_of 1 (spD K 1 S_centre_of) := ok_D F_centre_of sc_centre_of bs_centre_of (j_centre_of B) v_centre_of
  have O_least_part : Ok P w K mg base "least_part" P_least_part 1 (spD K 3 S_least_part) := ok_D F_least_part sc_least_part bs_least_part (j_least_part B) v_least_part
  have O__check_rows : Ok P w K mg base "_check_rows" P__check_rows 3 (spD K 1 S__check_rows) := ok_D F__check_rows sc__check_rows bs__check_rows (j__check_rows c_MAX_GROUP O_is_square) v__check_rows
  have O__law_dice : Ok P w K mg base "_law_dice" P__law_dice 1 (spL K 2 S__law_dice) := ok_L F__law_dice sc__law_dice bs__law_dice (j__law_dice B) v__law_dice
  have O__law_roll : Ok P w K mg base "_law_roll" P__law_roll 1 (spM K 2 S__law_roll) := ok_M F__law_roll sc__law_roll bs__law_roll (j__law_roll B) v__law_roll
  have O__law_pick : Ok P w K mg base "_law_pick" P__law_pick 2 (spM K 2 S__law_pick) := ok_M F__law_pick sc__law_pick bs__law_pick (j__law_pick B O__law_roll) v__law_pick
  have O__law_mixed : Ok P w K mg base "_law_mixed" P__law_mixed 2 (spM K 2 S__law_mixed) := ok_M F__law_mixed sc__law_mixed bs__law_mixed (j__law_mixed B O__law_roll) v__law_mixed
  have O__law_some : Ok P w K mg base "_law_some" P__law_some 2 (spM K 2 S__law_some) := ok_M F__law_some sc__law_some bs__law_some (j__law_some O__law_roll) v__law_some
  have O__law_orders : Ok P w K mg base "_law_orders" P__law_orders 1 (spD K 1 S__law_orders) := ok_D F__law_orders sc__law_orders bs__law_orders (j__law_orders B) v__law_orders
  have O__law_joined : Ok P w K mg base "_law_joined" P__law_joined 1 (spD K 2 S__law_joined) := ok_D F__law_joined sc__law_joined bs__law_joined (j__law_joined B) v__law_joined
  have O__law_undone : Ok P w K mg base "_law_undone" P__law_undone 1 (spD K 1 S__law_undone) := ok_D F__law_undone sc__law_undone bs__law_undone (j__law_undone B) v__law_undone
  have O__law_drawn_move : Ok P w K mg base "_law_drawn_move" P__law_drawn_move 3 (spM K 2 S__law_drawn_move) := ok_M F__law_drawn_move sc__law_drawn_move bs__law_drawn_move (j__law_drawn_move B O__law_mixed) v__law_drawn_move
  have O__law_places_of : Ok P w K mg base "_law_places_of" P__law_places_of 1 (spD K 2 S__law_places_of) := ok_D F__law_places_of sc__law_places_of bs__law_places_of (j__law_places_of B) v__law_places_of
  have O__law_product_dots : Ok P w K mg base "_law_product_dots" P__law_product_dots 2 (spD K 2 S__law_product_dots) := ok_D F__law_product_dots sc__law_product_dots bs__law_product_dots (j__law_product_dots B O__law_places_of) v__law_product_dots
  have O__law_cyclic : Ok P w K mg base "_law_cyclic" P__law_cyclic 1 (spD K 1 S__law_cyclic) := ok_D F__law_cyclic sc__law_cyclic bs__law_cyclic (j__law_cyclic B) v__law_cyclic
  have O__law_direct : Ok P w K mg base "_law_direct" P__law_direct 3 (spD K 2 S__law_direct) := ok_D F__law_direct sc__law_direct bs__law_direct (j__law_direct B O__law_product_dots) v__law_direct
  have O__law_moves_rows : Ok P w K mg base "_law_moves_rows" P__law_moves_rows 2 (spD K 1 S__law_moves_rows) := ok_D F__law_moves_rows sc__law_moves_rows bs__law_moves_rows (j__law_moves_rows B O__law_joined) v__law_moves_rows
  have O__law_turned_pairs : Ok P w K mg base "_law_turned_pairs" P__law_turned_pairs 1 (spD K 1 S__law_turned_pairs) := ok_D F__law_turned_pairs sc__law_turned_pairs bs__law_turned_pairs (j__law_turned_pairs B) v__law_turned_pairs
  have O__law_quaternion_rows : Ok P w K mg base "_law_quaternion_rows" P__law_quaternion_rows 1 (spD K 0 S__law_quaternion_rows) := ok_D F__law_quaternion_rows sc__law_quaternion_rows bs__law_quaternion_rows (j__law_quaternion_rows B) v__law_quaternion_rows
  have O__law_renamed_group : Ok P w K mg base "_law_renamed_group" P__law_renamed_group 2 (spD K 2 S__law_renamed_group) := ok_D F__law_renamed_group sc__law_renamed_group bs__law_renamed_group (j__law_renamed_group B O__law_undone) v__law_renamed_group
  have O__law_falls : Ok P w K mg base "_law_falls" P__law_falls 1 (spD K 1 S__law_falls) := ok_D F__law_falls sc__law_falls bs__law_falls (j__law_falls B) v__law_falls
  have O__law_unit : Ok P w K mg base "_law_unit" P__law_unit 1 (spD K 1 S__law_unit) := ok_D F__law_unit sc__law_unit bs__law_unit (j__law_unit B) v__law_unit
  have O__law_inverse : Ok P w K mg base "_law_inverse" P__law_inverse 2 (spD K 2 S__law_inverse) := ok_D F__law_inverse sc__law_inverse bs__law_inverse (j__law_inverse B O__law_unit) v__law_inverse
  have O__law_made_closed : Ok P w K mg base "_law_made_closed" P__law_made_closed 2 (spD K 2 S__law_made_closed) := ok_D F__law_made_closed sc__law_made_closed bs__law_made_closed (j__law_made_closed B O__law_unit) v__law_made_closed
  have O__law_group_parts : Ok P w K mg base "_law_group_parts" P__law_group_parts 3 (spD K 1 S__law_group_parts) := ok_D F__law_group_parts sc__law_group_parts bs__law_group_parts (j__law_group_parts B O__law_made_closed) v__law_group_parts
  have O__law_is_whole_part : Ok P w K mg base "_law_is_whole_part" P__law_is_whole_part 3 (spD K 2 S__law_is_whole_part) := ok_D F__law_is_whole_part sc__law_is_whole_part bs__law_is_whole_part (j__law_is_whole_part B O__law_inverse) v__law_is_whole_part
  have O__law_sides : Ok P w K mg base "_law_sides" P__law_sides 1 (spD K 2 S__law_sides) := ok_D F__law_sides sc__law_sides bs__law_sides (j__law_sides B) v__law_sides
  have O_Group__size : OkP P w K mg base (adrOf K "Group") "size" 1 (spD K 1 S_Group__size) := ok_pD F_Group__size sc_Group__size bs_Group__size (j_Group__size B CF_Group) v_Group__size
  have O_Group__times : OkM P w K mg base (adrOf K "Group") "times" P_Group__times 4 (spD K 3 S_Group__times) := ok_mD F_Group__times sc_Group__times bs_Group__times (j_Group__times B CF_Group O_check_thing) v_Group__times
  have O_Group__closure : OkM P w K mg base (adrOf K "Group") "closure" P_Group__closure 4 (spD K 2 S_Group__closure) := ok_mD F_Group__closure sc_Group__closure bs_Group__closure (j_Group__closure B CF_Group O_check_lot O_least_part) v_Group__closure
  have O_Group__is_whole : OkM P w K mg base (adrOf K "Group") "is_whole" P_Group__is_whole 4 (spD K 2 S_Group__is_whole) := ok_mD F_Group__is_whole sc_Group__is_whole bs_Group__is_whole (j_Group__is_whole B CF_Group O_check_lot O_least_part) v_Group__is_whole
  have O_Group__parts : OkM P w K mg base (adrOf K "Group") "parts" P_Group__parts 2 (spD K 1 S_Group__parts) := ok_mD F_Group__parts sc_Group__parts bs_Group__parts (j_Group__parts B CF_Group O_least_part) v_Group__parts
  have O_group_paper : Ok P w K mg base "group_paper" P_group_paper 4 (spD K 1 S_group_paper) := ok_D F_group_paper sc_group_paper bs_group_paper (j_group_paper B O__check_rows O_unit_of O_back_of O_broken_three) v_group_paper
  have O__law_group_rows : Ok P w K mg base "_law_group_rows" P__law_group_rows 4 (spM K 2 S__law_group_rows) := ok_M F__law_group_rows sc__law_group_rows bs__law_group_rows (j__law_group_rows B O__law_cyclic O__law_direct O__law_turned_pairs O__law_quaternion_rows O__law_orders O__law_falls O__law_moves_rows O__law_pick O__law_renamed_group O__law_drawn_move) v__law_group_rows
  have O_Group____init__ : OkI P w K mg base "Group" P_Group____init__ 5 (spI K "Group" 2 S_Group____init__) := ok_I F_Group____init__ CF_Group.mg CF_Group.ob sc_Group____init__ bs_Group____init__ (j_Group____init__ CF_Group O_group_paper O_unit_of O_backs_of O_centre_of) v_Group____init__
  have O_Group__quotient : OkM P w K mg base (adrOf K "Group") "quotient" P_Group__quotient 8 (spD K 2 S_Group__quotient) := ok_mD F_Group__quotient sc_Group__quotient bs_Group__quotient (j_Group__quotient B CF_Group O_Group__is_whole O_Group____init__) v_Group__quotient
  have O__law_quotient_right : Ok P w K mg base "_law_quotient_right" P__law_quotient_right 11 (spD K 3 S__law_quotient_right) := ok_D F__law_quotient_right sc__law_quotient_right bs__law_quotient_right (j__law_quotient_right B CF_Group O__law_sides O_Group__quotient O_Group__size O_Group__times) v__law_quotient_right
  have O__law_right : Ok P w K mg base "_law_right" P__law_right 12 (spM K 1 S__law_right) := ok_M F__law_right sc__law_right bs__law_right (j__law_right B CF_Group O__law_group_rows O__law_group_parts O_Group____init__ O__law_some O__law_roll O__law_made_closed O_Group__closure O__law_is_whole_part O_Group__is_whole O_Group__parts O__law_quotient_right O__law_unit O_Group__quotient O_Group__size) v__law_right
  exact fn_D F sc_law (fun cdv A outer s H E hr => j_law B CF_Group O__law_dice O__law_right O_Group____init__ O__law_turned_pairs O_Group__parts O_Group__is_whole _ cdv A outer s H E hr) v_law
end Dn.T.G.K07
open PySem PySem.W PySem.Calls PyProof.Rows
theorem PySem.Challenge.cw_truenames_k07_whole_parts_and_quotients_holds : PySem.Challenge.rw_truenames_k07_whole_parts_and_quotients.Holds := by
  w_on; o_law
  refine HandSHeadRun.head_any (r := OpenLaw.row PySem.Challenge.rw_truenames_k07_whole_parts_and_quotients) (q := view (OpenLaw.row PySem.Challenge.rw_truenames_k07_whole_parts_and_quotients).prog [58]) (H := Hd.hk) (ob := Hd.ob) (M := 6000) (loose := Hd.loose) (d := HandSHeadRun.topDef (OpenLaw.row PySem.Challenge.rw_truenames_k07_whole_parts_and_quotients).prog 58) (kwd := []) Hd.ob_eq
    (by kernel_rfl) (fun s => by kernel_rfl) Hd.run (by kernel_rfl) (by kernel_rfl) (by kernel_rfl) (by rfl) (by first | assumption | decide +kernel) (by decide +kernel) ⟨rfl, rfl, rfl, rfl, rfl, by decide +kernel⟩ ?hw ?hc
  case hw => w_witness2
  case hc =>
    refine L2.walk_ofE (l := PySem.Challenge.rw_truenames_k07_whole_parts_and_quotients) (n := 63) (k := 13) (x := "_law_script") (CX := L2.CX0) rfl (by decide) (by kernel_rfl) ⟨rfl, by decide, by decide⟩ ?F (fun _ _ _ _ z => z)
    intro w mg fa h Y G hmg0
    obtain ⟨K, KX, c⟩ := Y
    have hmg : mg ("law" : PySem.Str) = some (.ref fa) := by
      have e : (HandSHeadRun.topDef (OpenLaw.row PySem.Challenge.rw_truenames_k07_whole_parts_and_quotients).prog 58).name = ("law" : PySem.Str) := by kernel_rfl
      rw [← e]
      exact hmg0
    obtain ⟨fd, hb, ht, hF⟩ := Dn.T.G.K07.facts (P := (PySem.Challenge.rw_truenames_k07_whole_parts_and_quotients).prog) (w := w) KX G hmg c
    refine ⟨K, fd, Dn.spD K 1 Dn.T.G.K07.S_law, KX, hb, fun H a ns hl _ hS => ?_, hF⟩
    exact Dn.T.G.K07.start_law hl hS (ht H)
