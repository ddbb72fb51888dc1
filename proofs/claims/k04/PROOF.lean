import PyProof.Rows.All
import Wide.All
import OpenK.AllK
import Wide.FinOn
import KE.KStateDown
import HandS.ForMost
import HandS.More
import HandS.WordsExc
import HandS.Defaults
import HandS.IsInst
import HandS.Deep
import HandS.DeepEq
import HandS.TupAny
import HandS.Conv
import HandS.Style
import HandS.Wide
import HandS.Evl
import KE.GoesEnum
import HandS.SortInts
import HandS.Dict
import HandS.SetFor
import HandS.TupMul
import KE.KMathGC
import HandS.TupSets
import HandS.DictComp
import HandS.Gcd
import HandS.TryOnly
import HandS.ExcSuper
import HandS.ExcInit
import HandS.ExcField
import KE.KExcSuper
import KE.KExcInit
import KE.RegKSuper
import HandS.Property
import HandS.Ends
import HandS.HeadWalk
import HandS.Walk
import HandS.HeadHook2
import HandS.HeadEnd
import HandS.Base
import HandS.Call
import HandS.Exc
import HandS.HeadHook1
import HandS.Words
import HandS.Head0
import HandS.Head1
import HandS.Head2
import HandS.Head3
import PySem.Challenge.RW_truenames_k04_whole_groups_or_what_break
set_option Elab.async false
set_option linter.all false
set_option maxRecDepth 100000
set_option autoImplicit false
set_option maxHeartbeats 4000000
/-! Own layer: what a body does, told over deep values and slots, without the heap. -/
namespace Dn
open PySem L2

abbrev D := PyData
def keyB : Key → D
  | .inl i => .int i
  | .inr x => .str x
def dkD (kvs : List (Key × D)) : List (D × D) := kvs.map fun p => (keyB p.1, p.2)
mutual
inductive Rp (K : PySem.W.Frag) (G : Hp) : V → D → Prop
  | non : Rp K G .non .none
  | bl (b : Bool) : Rp K G (.bl b) (.bool b)
  | int (i : Int) : Rp K G (.int i) (.int i)
  | str (x : Str) : Rp K G (.str x) (.str x)
  | lst {a : Addr} {xs : List V} {ds : List D} : G a = some (.lst xs) → RpAll K G xs ds → Rp K G (.ref a) (.list ds)
  | tup {a : Addr} {xs : List V} {ds : List D} : G a = some (.tup xs) → RpAll K G xs ds → Rp K G (.ref a) (.tuple ds)
  | dct {a : Addr} {kws : List (Key × V)} {kvs : List (Key × D)} {dd : List (D × D)} : G a = some (.dK kws) → RpKv K G kws kvs → dd = dkD kvs → Rp K G (.ref a) (.dict dd)
  | frz {a : Addr} {xs : List V} {ds : List D} : SqL K G a xs → RpAll K G xs ds → Rp K G (.ref a) (.dict [(.none, .tuple ds)])
inductive RpAll (K : PySem.W.Frag) (G : Hp) : List V → List D → Prop
  | nil : RpAll K G [] []
  | cons {v : V} {vs : List V} {d : D} {ds : List D} : Rp K G v d → RpAll K G vs ds → RpAll K G (v :: vs) (d :: ds)
inductive RpKv (K : PySem.W.Frag) (G : Hp) : List (Key × V) → List (Key × D) → Prop
  | nil : RpKv K G [] []
  | cons {k : Key} {v : V} {d : D} {kws : List (Key × V)} {kvs : List (Key × D)} : Rp K G v d → RpKv K G kws kvs → RpKv K G ((k, v) :: kws) ((k, d) :: kvs)
end

open Evl
mutual
theorem Rp.mono {K : PySem.W.Frag} {G G' : Hp} (e : Ex G G') : ∀ {v : V} {d : D}, Rp K G v d → Rp K G' v d
  | _, _, .non => .non
  | _, _, .bl b => .bl b
  | _, _, .int b => .int b
  | _, _, .str b => .str b
  | _, _, .lst h r => .lst (e _ _ h) (RpAll.mono e r)
  | _, _, .tup h r => .tup (e _ _ h) (RpAll.mono e r)
  | _, _, .dct h r z => .dct (e _ _ h) (RpKv.mono e r) z
  | _, _, .frz h r => .frz (ex_l e h) (RpAll.mono e r)
theorem RpAll.mono {K : PySem.W.Frag} {G G' : Hp} (e : Ex G G') : ∀ {v : List V} {d : List D}, RpAll K G v d → RpAll K G' v d
  | _, _, .nil => .nil
  | _, _, .cons h r => .cons (Rp.mono e h) (RpAll.mono e r)
theorem RpKv.mono {K : PySem.W.Frag} {G G' : Hp} (e : Ex G G') : ∀ {v : List (Key × V)} {d : List (Key × D)}, RpKv K G v d → RpKv K G' v d
  | _, _, .nil => .nil
  | _, _, .cons h r => .cons (Rp.mono e h) (RpKv.mono e r)
end
section
variable {K : PySem.W.Frag} {G : Hp}
theorem RpAll.length : ∀ {vs : List V} {ds : List D}, RpAll K G vs ds → vs.length = ds.length
  | _, _, .nil => rfl
  | _, _, .cons _ r => by simp [RpAll.length r]
theorem RpAll.get : ∀ {vs : List V} {ds : List D} {i : Nat} {d : D}, RpAll K G vs ds → ds[i]? = some d → ∃ v, vs[i]? = some v ∧ Rp K G v d
  | _, _, _, _, .nil, e => by simp at e
  | _, _, 0, _, .cons h _, e => by simp at e; subst e; exact ⟨_, rfl, h⟩
  | _, _, i + 1, _, .cons _ r, e => by simpa using RpAll.get r (by simpa using e)
theorem RpAll.get' : ∀ {vs : List V} {ds : List D} {i : Nat} {v : V}, RpAll K G vs ds → vs[i]? = some v → ∃ d, ds[i]? = some d ∧ Rp K G v d
  | _, _, _, _, .nil, e => by simp at e
  | _, _, 0, _, .cons h _, e => by simp at e; subst e; exact ⟨_, rfl, h⟩
  | _, _, i + 1, _, .cons _ r, e => by simpa using RpAll.get' r (by simpa using e)
theorem RpAll.append : ∀ {vs ws : List V} {ds es : List D}, RpAll K G vs ds → RpAll K G ws es → RpAll K G (vs ++ ws) (ds ++ es)
  | _, _, _, _, .nil, s => s
  | _, _, _, _, .cons h r, s => .cons h (RpAll.append r s)
theorem RpAll.set : ∀ {vs : List V} {ds : List D} {v : V} {d : D} (i : Nat), RpAll K G vs ds → Rp K G v d → RpAll K G (vs.set i v) (ds.set i d)
  | _, _, _, _, _, .nil, _ => .nil
  | _, _, _, _, 0, .cons _ r, s => .cons s r
  | _, _, _, _, i + 1, .cons h r, s => .cons h (RpAll.set i r s)
theorem RpAll.take : ∀ {vs : List V} {ds : List D} (i : Nat), RpAll K G vs ds → RpAll K G (vs.take i) (ds.take i)
  | _, _, 0, _ => by simp; exact .nil
  | _, _, _ + 1, .nil => .nil
  | _, _, i + 1, .cons h r => .cons h (RpAll.take i r)
theorem RpAll.drop : ∀ {vs : List V} {ds : List D} (i : Nat), RpAll K G vs ds → RpAll K G (vs.drop i) (ds.drop i)
  | _, _, 0, r => r
  | _, _, _ + 1, .nil => .nil
  | _, _, i + 1, .cons _ r => RpAll.drop i r
theorem RpAll.erase : ∀ {vs : List V} {ds : List D} (i : Nat), RpAll K G vs ds → RpAll K G (vs.eraseIdx i) (ds.eraseIdx i)
  | _, _, _, .nil => .nil
  | _, _, 0, .cons _ r => r
  | _, _, i + 1, .cons h r => .cons h (RpAll.erase i r)
theorem RpAll.dropLast {vs : List V} {ds : List D} (r : RpAll K G vs ds) : RpAll K G vs.dropLast ds.dropLast := by
  rw [List.dropLast_eq_take, List.dropLast_eq_take, r.length]; exact r.take _
theorem RpAll.reverse : ∀ {vs : List V} {ds : List D}, RpAll K G vs ds → RpAll K G vs.reverse ds.reverse
  | _, _, .nil => .nil
  | _, _, .cons h r => by simpa using r.reverse.append (.cons h .nil)
theorem RpAll.ints : ∀ (ns : List Int), RpAll K G (ns.map V.int) (ns.map PyData.int)
  | [] => .nil
  | n :: ns => .cons (.int n) (RpAll.ints ns)
theorem RpAll.of_ints : ∀ {ns : List Int} {vs : List V}, RpAll K G vs (ns.map PyData.int) → vs = ns.map V.int
  | [], _, .nil => rfl
  | n :: ns, _, .cons (.int _) r => by rw [RpAll.of_ints r]; rfl
theorem RpAll.of_bls : ∀ {ns : List Bool} {vs : List V}, RpAll K G vs (ns.map PyData.bool) → vs = ns.map V.bl
  | [], _, .nil => rfl
  | n :: ns, _, .cons (.bl _) r => by rw [RpAll.of_bls r]; rfl
end

/-! ### slots -/
inductive MO where
  | lst (ds : List D)
  | dct (kvs : List (Key × D))
  | par (p : Addr) (m : MO)
  /-- a kept range 0, 1, .. -/
  | rng (j : Int)
def RpO (K : PySem.W.Frag) (G : Hp) : MO → HO → Prop
  | .lst ds, .lst vs => RpAll K G vs ds
  | .dct kvs, .dK kws => Paired (fun (p : Key × D) (q : Key × V) => p.1 = q.1 ∧ Rp K G q.2 p.2) kvs kws
  | .par _ m, o => RpO K G m o
  | .rng j, .rng lo hi => lo = 0 ∧ hi = j
  | _, _ => False
theorem RpO.mono {K : PySem.W.Frag} {G G' : Hp} (e : Ex G G') : ∀ {m : MO} {o : HO}, RpO K G m o → RpO K G' m o
  | .par _ m, o, h => by unfold RpO at h ⊢; exact RpO.mono (m := m) e h
  | .lst ds, o, h => by cases o <;> first | exact RpAll.mono e h | exact False.elim h
  | .dct ds, o, h => by cases o <;> first | exact False.elim h | exact Paired.mapP h fun p q z => ⟨z.1, z.2.mono e⟩
  | .rng j, o, h => by cases o <;> first | exact False.elim h | exact h
inductive SV where
  | im (d : D)
  | ow (m : MO)
abbrev Env := List (Option SV)
def Own (ρ : Env) (σ : L2.St) (a : Addr) : Prop := ∃ (i : Nat) (m : MO), ρ[i]? = some (some (SV.ow m)) ∧ σ[i]? = some (some (V.ref a))
open Classical in
noncomputable def hide (O : Addr → Prop) (H : Hp) : Hp := fun a => if O a then none else H a
theorem hide_some {O : Addr → Prop} {H : Hp} {a : Addr} {o : HO} : hide O H a = some o ↔ ¬ O a ∧ H a = some o := by
  unfold hide; by_cases h : O a <;> simp [h]
theorem hide_ex {O : Addr → Prop} {H : Hp} : Ex (hide O H) H := fun _ _ h => (hide_some.1 h).2
def Hd (T : Addr → Prop) (ρ : Env) (σ : L2.St) (a : Addr) : Prop := T a ∨ Own ρ σ a
structure RS (K : PySem.W.Frag) (T : Addr → Prop) (ρ : Env) (σ : L2.St) (H : Hp) : Prop where
  len : ρ.length = σ.length
  im : ∀ (i : Nat) (d : D), ρ[i]? = some (some (SV.im d)) → ∃ v, σ[i]? = some (some v) ∧ Rp K (hide (Hd T ρ σ) H) v d
  ow : ∀ (i : Nat) (m : MO), ρ[i]? = some (some (SV.ow m)) → ∃ a o, σ[i]? = some (some (V.ref a)) ∧ H a = some o ∧ RpO K (hide (Hd T ρ σ) H) m o
  inj : ∀ (i j : Nat) (m m' : MO) (a : Addr), ρ[i]? = some (some (SV.ow m)) → ρ[j]? = some (some (SV.ow m')) → σ[i]? = some (some (V.ref a)) → σ[j]? = some (some (V.ref a)) → i = j
  dis : ∀ a, T a → ¬ Own ρ σ a
  dom : ∀ a, T a → H a ≠ none
  tag : ∀ (i : Nat) (p : Addr) (m : MO) (a : Addr), ρ[i]? = some (some (SV.ow (.par p m))) → σ[i]? = some (some (V.ref a)) → a = p
structure Po (ρ : Env) (σ : L2.St) (H : Hp) (ρ' : Env) (σ' : L2.St) (H' : Hp) : Prop where
  keep : ∀ a o, ¬ Own ρ σ a → H a = some o → H' a = some o
  own : ∀ a, Own ρ' σ' a → Own ρ σ a ∨ H a = none
  dom : ∀ a, H a ≠ none → H' a ≠ none
section
variable {K : PySem.W.Frag} {T : Addr → Prop} {ρ ρ1 ρ2 : Env} {σ σ1 σ2 : L2.St} {H H1 H2 : Hp}
theorem Po.refl : Po ρ σ H ρ σ H := ⟨fun _ _ _ h => h, fun _ h => .inl h, fun _ h => h⟩
theorem Po.trans (p : Po ρ σ H ρ1 σ1 H1) (q : Po ρ1 σ1 H1 ρ2 σ2 H2) : Po ρ σ H ρ2 σ2 H2 where
  keep := fun a o n h => q.keep a o (fun w => by
    rcases p.own a w with w | w
    · exact n w
    · rw [w] at h; cases h) (p.keep a o n h)
  own := fun a w => by
    rcases q.own a w with w | w
    · exact p.own a w
    · by_cases h : H a = none
      · exact .inr h
      · exact absurd w (p.dom a h)
  dom := fun a h => q.dom a (p.dom a h)
theorem Po.fz (p : Po ρ σ H ρ1 σ1 H1) : Ex (hide (Hd T ρ σ) H) (hide (Hd T ρ1 σ1) H1) := fun a o h => by
  obtain ⟨n, h⟩ := hide_some.1 h
  refine hide_some.2 ⟨?_, p.keep a o (fun w => n (.inr w)) h⟩
  rintro (t | w)
  · exact n (.inl t)
  · rcases p.own a w with w | w
    · exact n (.inr w)
    · rw [w] at h; cases h
theorem RS.ownDom (r : RS K T ρ σ H) {a : Addr} (h : Own ρ σ a) : H a ≠ none := by
  obtain ⟨i, m, h1, h2⟩ := h
  obtain ⟨b, o, e1, e2, _⟩ := r.ow i m h1
  rw [h2] at e1; cases e1; rw [e2]; simp
theorem RS.hdDom (r : RS K T ρ σ H) {a : Addr} (h : Hd T ρ σ a) : H a ≠ none := h.elim (r.dom a) r.ownDom
/-- the heap has grown -/
theorem RS.grow (r : RS K T ρ σ H) (e : Ex H H1) : RS K T ρ σ H1 := by
  have ez : Ex (hide (Hd T ρ σ) H) (hide (Hd T ρ σ) H1) := fun a o h => hide_some.2 ⟨(hide_some.1 h).1, e _ _ (hide_some.1 h).2⟩
  refine ⟨r.len, fun i d h => ?_, fun i m h => ?_, r.inj, r.dis, fun a t => ?_, r.tag⟩
  · obtain ⟨v, h1, h2⟩ := r.im i d h; exact ⟨v, h1, h2.mono ez⟩
  · obtain ⟨a, o, h1, h2, h3⟩ := r.ow i m h; exact ⟨a, o, h1, e _ _ h2, h3.mono ez⟩
  · cases q : H a with
    | none => exact absurd q (r.dom a t)
    | some o => rw [e a o q]; simp
theorem Po.grow (e : Ex H H1) : Po ρ σ H ρ σ H1 := ⟨fun a o _ h => e a o h, fun _ h => .inl h, fun a h => by
  cases q : H a with
  | none => exact absurd q h
  | some o => rw [e a o q]; simp⟩
theorem hide_new {O : Addr → Prop} {p : Addr} {o : HO} (hO : ∀ a, O a → H a ≠ none) (h : H p = none) : hide O (upd H p o) p = some o := hide_some.2 ⟨fun w => hO p w h, upd_same⟩
theorem hide_grow {O : Addr → Prop} (e : Ex H H1) : Ex (hide O H) (hide O H1) := fun a o h => hide_some.2 ⟨(hide_some.1 h).1, e _ _ (hide_some.1 h).2⟩
end

/-! ### readings over slots -/
abbrev DE := Env → (D → Env → Prop) → Prop
abbrev DT := Env → (Bool → Env → Prop) → Prop
abbrev DA := Env → (List D → Env → Prop) → Prop
structure DEnds where
  nx : Env → Prop
  rt : D → Env → Prop
  bk : Env → Prop := fun _ => False
  ct : Env → Prop := fun _ => False
abbrev DS := DEnds → Env → Prop
abbrev DG := D → Env → (Env → Prop) → Prop

structure JE (X : Cx) (e : Expr) (f : DE) : Prop where
  ex : ∃ t, PE X e t ∧ ∀ (T : Addr → Prop) (ρ : Env) (σ : L2.St) (H : Hp) (QD : D → Env → Prop) (Q : VK), RS X.K T ρ σ H → f ρ QD →
    (∀ d ρ' v H', RS X.K T ρ' σ H' → Po ρ σ H ρ' σ H' → Rp X.K (hide (Hd T ρ' σ) H') v d → QD d ρ' → Q v H') → t σ H Q
structure JT (X : Cx) (e : Expr) (f : DT) : Prop where
  ex : ∃ t, PT X e t ∧ ∀ (T : Addr → Prop) (ρ : Env) (σ : L2.St) (H : Hp) (QD : Bool → Env → Prop) (Q : Bool → Hp → Prop), RS X.K T ρ σ H → f ρ QD →
    (∀ b ρ' H', RS X.K T ρ' σ H' → Po ρ σ H ρ' σ H' → QD b ρ' → Q b H') → t σ H Q
structure JA (X : Cx) (es : List Expr) (f : DA) : Prop where
  ex : ∃ t, PA X es t ∧ ∀ (T : Addr → Prop) (ρ : Env) (σ : L2.St) (H : Hp) (QD : List D → Env → Prop) (Q : List V → Hp → Prop), RS X.K T ρ σ H → f ρ QD →
    (∀ ds ρ' vs H', RS X.K T ρ' σ H' → Po ρ σ H ρ' σ H' → RpAll X.K (hide (Hd T ρ' σ) H') vs ds → QD ds ρ' → Q vs H') → t σ H Q
structure EndOk (K : PySem.W.Frag) (T : Addr → Prop) (ρ : Env) (σ : L2.St) (H : Hp) (E : DEnds) (D : Ends) : Prop where
  nx : ∀ ρ' σ' H', RS K T ρ' σ' H' → Po ρ σ H ρ' σ' H' → E.nx ρ' → D.nx σ' H'
  rt : ∀ d ρ' σ' v H', RS K T ρ' σ' H' → Po ρ σ H ρ' σ' H' → Rp K (hide (Hd T ρ' σ') H') v d → E.rt d ρ' → D.rt v H'
  bk : ∀ ρ' σ' H', RS K T ρ' σ' H' → Po ρ σ H ρ' σ' H' → E.bk ρ' → D.bk σ' H'
  ct : ∀ ρ' σ' H', RS K T ρ' σ' H' → Po ρ σ H ρ' σ' H' → E.ct ρ' → D.ct σ' H'
structure JS (X : Cx) (st : Stmt) (f : DS) : Prop where
  ex : ∃ t, PS X st t ∧ ∀ (T : Addr → Prop) (ρ : Env) (σ : L2.St) (H : Hp) (E : DEnds) (D : Ends), RS X.K T ρ σ H → f E ρ → EndOk X.K T ρ σ H E D → t D σ H
structure JSs (X : Cx) (st : List Stmt) (f : DS) : Prop where
  ex : ∃ t, PSs X st t ∧ ∀ (T : Addr → Prop) (ρ : Env) (σ : L2.St) (H : Hp) (E : DEnds) (D : Ends), RS X.K T ρ σ H → f E ρ → EndOk X.K T ρ σ H E D → t D σ H
theorem EndOk.step {K : PySem.W.Frag} {T : Addr → Prop} {ρ ρ1 : Env} {σ σ1 : L2.St} {H H1 : Hp} {E : DEnds} {D : Ends} (e : EndOk K T ρ σ H E D) (p : Po ρ σ H ρ1 σ1 H1) : EndOk K T ρ1 σ1 H1 E D :=
  ⟨fun a b c r q => e.nx a b c r (p.trans q), fun a b c d f r q => e.rt a b c d f r (p.trans q), fun a b c r q => e.bk a b c r (p.trans q), fun a b c r q => e.ct a b c r (p.trans q)⟩

/-! ### expressions -/
section
variable {X : Cx} {a b c : Expr} {fa fb fc : DE} {pos : Pos}
def dVar (i : Nat) : DE := fun ρ Q => match ρ[i]? with
  | some (some (SV.im d)) => Q d ρ
  | _ => False
theorem je_var {i : Nat} {x : Str} (hN : X.N[i]? = some x) (hv : Vis X.env.scope x) (hd : (x == ("__debug__" : Str)) = false := by decide) (hcd : (x == ("__classdict__" : Str)) = false := by decide) : JE X (.Name x pos) (dVar i) := by
  refine ⟨tVar i, pe_var hN hv hd hcd, fun T ρ σ H QD Q r h k => ?_⟩
  unfold dVar at h
  split at h
  · rename_i d e
    obtain ⟨v, e1, e2⟩ := r.im i d e
    exact ⟨v, e1, k d ρ v H r .refl e2 h⟩
  · exact False.elim h
def dC (d : D) : DE := fun ρ Q => Q d ρ
theorem je_of {e : Expr} {v : V} {d : D} (h : PE X e (tC v)) (hr : ∀ G, Rp X.K G v d) : JE X e (dC d) := ⟨tC v, h, fun T ρ σ H QD Q r h k => k d ρ v H r .refl (hr _) h⟩
theorem je_int {i : Int} {j} : JE X (.Constant (.int i) j pos) (dC (.int i)) := je_of pe_int fun _ => .int i
theorem je_bl {i : Bool} {j} : JE X (.Constant (.bool i) j pos) (dC (.bool i)) := je_of pe_bl fun _ => .bl i
theorem je_non {j} : JE X (.Constant .none j pos) (dC .none) := je_of pe_non fun _ => .non
theorem je_str {x : Str} {j} : JE X (.Constant (.str x) j pos) (dC (.str x)) := je_of pe_str fun _ => .str x
theorem je_globI {x : Str} {i : Int} {t : Tok} (hm : X.mg x = some (.int i t)) (hg : Gl X x) (hd : (x == ("__debug__" : Str)) = false := by decide) : JE X (.Name x pos) (dC (.int i)) := je_of (pe_glob (v := V.int i) hg hm ⟨t, rfl⟩ hd) fun _ => .int i

/-- a two-place operation by values -/
structure OpD (X : Cx) (f : Value → Value → Sem Value) (op : D → D → (D → Prop) → Prop) : Prop where
  ex : ∃ r : R2, OpR X f r ∧ ∀ (O : Addr → Prop) (H : Hp) (x y : V) (d e : D) (QD : D → Prop) (Q : VK), (∀ a, O a → H a ≠ none) → Rp X.K (hide O H) x d → Rp X.K (hide O H) y e → op d e QD →
    (∀ z v H', Ex H H' → Rp X.K (hide O H') v z → QD z → Q v H') → r x y H Q
def dBin (op : D → D → (D → Prop) → Prop) (fa fb : DE) : DE := fun ρ Q => fa ρ fun x ρ1 => fb ρ1 fun y ρ2 => op x y fun z => Q z ρ2
theorem je_two {e : Expr} {op : D → D → (D → Prop) → Prop} {r : R2} (hr : ∀ (O : Addr → Prop) (H : Hp) (x y : V) (d e : D) (QD : D → Prop) (Q : VK), (∀ a, O a → H a ≠ none) → Rp X.K (hide O H) x d → Rp X.K (hide O H) y e → op d e QD →
    (∀ z v H', Ex H H' → Rp X.K (hide O H') v z → QD z → Q v H') → r x y H Q) (ha : JE X a fa) (hb : JE X b fb) (he : ∀ ta tb, PE X a ta → PE X b tb → PE X e (tOp r ta tb)) : JE X e (dBin op fa fb) := by
  obtain ⟨ta, pa, ka⟩ := ha.ex
  obtain ⟨tb, pb, kb⟩ := hb.ex
  refine ⟨_, he ta tb pa pb, fun T ρ σ H QD Q r h k => ?_⟩
  refine ka T ρ σ H _ _ r h fun d ρ1 v H1 r1 p1 v1 h1 => ?_
  refine kb T ρ1 σ H1 _ _ r1 h1 fun e ρ2 w H2 r2 p2 v2 h2 => ?_
  refine hr (Hd T ρ2 σ) H2 v w d e _ _ (fun a => r2.hdDom) (v1.mono p2.fz) v2 h2 fun z u H3 e3 v3 h3 => ?_
  exact k z ρ2 u H3 (r2.grow e3) ((p1.trans p2).trans (.grow e3)) v3 h3
theorem je_bin {o : Operator} {op : D → D → (D → Prop) → Prop} (ho : OpD X (binaryOp o) op) (ha : JE X a fa) (hb : JE X b fb) : JE X (.BinOp a o b pos) (dBin op fa fb) := by
  obtain ⟨r, h1, h2⟩ := ho.ex
  exact je_two h2 ha hb fun _ _ => pe_op h1
theorem je_cmp {o : CmpOp} {op : D → D → (D → Prop) → Prop} (ho : OpD X (compareOp o) op) (ha : JE X a fa) (hb : JE X b fb) (hm : behindInMarks o b = false) : JE X (.Compare a [o] [b] pos) (dBin op fa fb) := by
  obtain ⟨r, h1, h2⟩ := ho.ex
  exact je_two h2 ha hb fun _ _ pa pb => pe_cmpR h1 pa pb hm
end
end Dn
set_option Elab.async false
set_option linter.all false
set_option maxRecDepth 100000
set_option autoImplicit false
set_option maxHeartbeats 4000000
namespace Dn
open PySem L2 Evl
section
variable {X : Cx} {a b c : Expr} {fa fb fc : DE} {pos : Pos}

/-! ### operators -/
theorem ex_new {O : Addr → Prop} {H : Hp} {p : Addr} {o : HO} (h : H p = none) : Ex (hide O H) (hide O (upd H p o)) := hide_grow (Ex.new h)
/-- a new list, a new tuple of what is known -/
theorem rp_newL {K : PySem.W.Frag} {O : Addr → Prop} {H : Hp} {p : Addr} {vs : List V} {ds : List D} (hO : ∀ a, O a → H a ≠ none) (h : H p = none) (r : RpAll K (hide O H) vs ds) : Rp K (hide O (upd H p (.lst vs))) (.ref p) (.list ds) := .lst (hide_new hO h) (r.mono (ex_new h))
theorem rp_newT {K : PySem.W.Frag} {O : Addr → Prop} {H : Hp} {p : Addr} {vs : List V} {ds : List D} (hO : ∀ a, O a → H a ≠ none) (h : H p = none) (r : RpAll K (hide O H) vs ds) : Rp K (hide O (upd H p (.tup vs))) (.ref p) (.tuple ds) := .tup (hide_new hO h) (r.mono (ex_new h))
theorem lt_of {K : PySem.W.Frag} {H : Hp} {a : Addr} {xs : List V} (h : H a = some (.tup xs)) : SqT K H a xs := .inl (.inl h)
theorem sqt_of {K : PySem.W.Frag} {O : Addr → Prop} {H : Hp} {a : Addr} {xs : List V} (h : hide O H a = some (.tup xs)) : SqT K H a xs := lt_of (hide_ex _ _ h)
theorem sql_of {K : PySem.W.Frag} {O : Addr → Prop} {H : Hp} {a : Addr} {xs : List V} (h : SqL K (hide O H) a xs) : SqL K H a xs := ex_l hide_ex h
theorem at_of {O : Addr → Prop} {H : Hp} {a : Addr} {o : HO} (h : hide O H a = some o) : H a = some o := (hide_some.1 h).2

def dAdd : D → D → (D → Prop) → Prop
  | .int i, .int j => fun Q => Q (.int (i + j))
  | .tuple xs, .tuple ys => fun Q => xs.length + ys.length ≤ 16777216 ∧ Q (.tuple (xs ++ ys))
  | .list xs, .list ys => fun Q => xs.length + ys.length ≤ 16777216 ∧ Q (.list (xs ++ ys))
  | .str x, .str y => fun Q => x.length + y.length ≤ 16777216 ∧ Q (.str (x ++ y))
  | _, _ => fun _ => False
theorem opd_add : OpD X (binaryOp .Add) dAdd := by
  refine ⟨_, .or op_add (.or op_catA (.or op_cat op_add_str)), fun O H x y d e QD Q hO rx ry h k => ?_⟩
  cases rx <;> cases ry <;> first | exact False.elim h | skip
  · exact .inl ⟨_, _, rfl, rfl, k _ _ H (.refl H) (.int _) h⟩
  · obtain ⟨hz, h⟩ := h
    exact .inr (.inr (.inr ⟨_, _, rfl, rfl, hz, k _ _ H (.refl H) (.str _) h⟩))
  · rename_i p xs ds hp rp q ys es hq rq
    obtain ⟨hz, h⟩ := h
    refine .inr (.inr (.inl ⟨_, _, _, _, rfl, rfl, at_of hp, at_of hq, by rw [rp.length, rq.length]; exact hz, fun l hl => k _ _ _ (Ex.new hl) (rp_newL hO hl (rp.append rq)) h⟩))
  · rename_i p xs ds hp rp q ys es hq rq
    obtain ⟨hz, h⟩ := h
    refine .inr (.inl ⟨_, _, _, _, rfl, rfl, sqt_of hp, sqt_of hq, by rw [rp.length, rq.length]; exact hz, fun e => ?_, fun _ e => ?_, fun _ _ l hl => k _ _ _ (Ex.new hl) (rp_newT hO hl (rp.append rq)) h⟩)
    · subst e; cases rp; exact k _ _ H (.refl H) (.tup hq rq) h
    · subst e; cases rq; exact k _ _ H (.refl H) (.tup hp rp) (by simpa using h)
/-- ints alone -/
def dI2 (C : Int → Int → Prop) (g : Int → Int → D) : D → D → (D → Prop) → Prop
  | .int i, .int j => fun Q => C i j ∧ Q (g i j)
  | _, _ => fun _ => False
theorem opd_i2 {f : Value → Value → Sem Value} {C : Int → Int → Prop} {g : Int → Int → D} {gv : Int → Int → V} (ho : OpR X f (rI C gv)) (hg : ∀ i j G, Rp X.K G (gv i j) (g i j)) : OpD X f (dI2 C g) := by
  refine ⟨_, ho, fun O H x y d e QD Q hO rx ry h k => ?_⟩
  cases rx <;> cases ry <;> first | exact False.elim h | skip
  exact ⟨_, _, rfl, rfl, h.1, k _ _ H (.refl H) (hg _ _ _) h.2⟩
theorem opd_i2' {f : Value → Value → Sem Value} {g : Int → Int → D} {gv : Int → Int → V} (ho : OpR X f (rI0 gv)) (hg : ∀ i j G, Rp X.K G (gv i j) (g i j)) : OpD X f (dI2 (fun _ _ => True) g) := by
  refine ⟨_, ho, fun O H x y d e QD Q hO rx ry h k => ?_⟩
  cases rx <;> cases ry <;> first | exact False.elim h | skip
  exact ⟨_, _, rfl, rfl, k _ _ H (.refl H) (hg _ _ _) h.2⟩
abbrev dSub := dI2 (fun _ _ => True) fun i j => .int (i - j)
abbrev dMul := dI2 CMulW fun i j => .int (i * j)
abbrev dFdiv := dI2 CDivW fun i j => .int (i / j)
abbrev dMod := dI2 (fun _ j => 0 < j) fun i j => .int (i % j)
abbrev dPow := dI2 CPow fun i j => .int (i ^ j.toNat)
abbrev dLt := dI2 (fun _ _ => True) fun i j => .bool (decide (i < j))
abbrev dLe := dI2 (fun _ _ => True) fun i j => .bool (decide (i ≤ j))
abbrev dGt := dI2 (fun _ _ => True) fun i j => .bool (decide (j < i))
abbrev dGe := dI2 (fun _ _ => True) fun i j => .bool (decide (j ≤ i))
theorem opd_sub : OpD X (binaryOp .Sub) dSub := opd_i2' op_sub fun _ _ _ => .int _
theorem opd_mul : OpD X (binaryOp .Mult) dMul := opd_i2 op_mulW fun _ _ _ => .int _
theorem opd_fdiv : OpD X (binaryOp .FloorDiv) dFdiv := opd_i2 op_fdivW fun _ _ _ => .int _
theorem opd_mod : OpD X (binaryOp .Mod) dMod := opd_i2 op_mod fun _ _ _ => .int _
theorem opd_pow : OpD X (binaryOp .Pow) dPow := opd_i2 op_pow fun _ _ _ => .int _
theorem opd_lt : OpD X (compareOp .Lt) dLt := opd_i2' op_lt fun _ _ _ => .bl _
theorem opd_le : OpD X (compareOp .LtE) dLe := opd_i2' op_le fun _ _ _ => .bl _
theorem opd_gt : OpD X (compareOp .Gt) dGt := opd_i2' op_gt fun _ _ _ => .bl _
theorem opd_ge : OpD X (compareOp .GtE) dGe := opd_i2' op_ge fun _ _ _ => .bl _

/-! ### equality -/
mutual
theorem Rp.dp {K : PySem.W.Frag} {O : Addr → Prop} {H : Hp} : ∀ {v : V} {d : D}, Rp K (hide O H) v d → d.canLay0 = true → Dp K H v d
  | _, _, .non, _ => .non
  | _, _, .bl _, _ => .bl _
  | _, _, .int _, _ => .int _
  | _, _, .str _, _ => .str _
  | _, _, .lst h r, c => .lst (.inl (.inl (at_of h))) (RpAll.dp r (by simpa only [PyData.canLay0] using c))
  | _, _, .tup h r, c => .tup (sqt_of h) (RpAll.dp r (by simpa only [PyData.canLay0] using c))
  | _, _, .dct _ _ _, c => by simp [PyData.canLay0] at c
  | _, _, .frz _ _, c => by simp [PyData.canLay0] at c
theorem RpAll.dp {K : PySem.W.Frag} {O : Addr → Prop} {H : Hp} : ∀ {v : List V} {d : List D}, RpAll K (hide O H) v d → PyData.canLayAll0 d = true → DpAll K H v d
  | _, _, .nil, _ => .nil
  | _, _, .cons h r, c => by
    simp only [PyData.canLayAll0, Bool.and_eq_true] at c
    exact .cons (Rp.dp h c.1) (RpAll.dp r c.2)
end
theorem shaped_lay {d : D} (h : SeqAt.shaped d = true) : d.canLay0 = true := by
  unfold SeqAt.shaped at h; rw [Bool.and_eq_true] at h; exact h.1
def dEq : D → D → (D → Prop) → Prop := fun x y Q => SeqAt.shaped x = true ∧ SeqAt.shaped y = true ∧ Q (.bool (PyData.eqv x y))
def dNe : D → D → (D → Prop) → Prop := fun x y Q => SeqAt.shaped x = true ∧ SeqAt.shaped y = true ∧ Q (.bool (!PyData.eqv x y))
theorem opd_eq (hu : X.A.units + 64 < cLine) : OpD X (compareOp .Eq) dEq := by
  refine ⟨_, op_eqD hu, fun O H x y d e QD Q hO rx ry h k => ?_⟩
  exact ⟨d, e, rx.dp (shaped_lay h.1), ry.dp (shaped_lay h.2.1), h.1, h.2.1, k _ _ H (.refl H) (.bl _) h.2.2⟩
theorem opd_ne (hu : X.A.units + 64 < cLine) : OpD X (compareOp .NotEq) dNe := by
  refine ⟨_, op_neD hu, fun O H x y d e QD Q hO rx ry h k => ?_⟩
  exact ⟨d, e, rx.dp (shaped_lay h.1), ry.dp (shaped_lay h.2.1), h.1, h.2.1, k _ _ H (.refl H) (.bl _) h.2.2⟩
/-- is None, is True -/
def isN : D → Bool
  | .none => true
  | _ => false
theorem isN_rp {K : PySem.W.Frag} {G : Hp} {v : V} {d : D} (r : Rp K G v d) : decide (v = .non) = isN d := by cases r <;> simp [isN]
def dIs : D → D → (D → Prop) → Prop
  | x, .none => fun Q => Q (.bool (isN x))
  | .bool x, .bool y => fun Q => Q (.bool (decide (x = y)))
  | _, _ => fun _ => False
def dIsNot : D → D → (D → Prop) → Prop
  | x, .none => fun Q => Q (.bool (!isN x))
  | .bool x, .bool y => fun Q => Q (.bool (!decide (x = y)))
  | _, _ => fun _ => False
theorem opd_is : OpD X (compareOp .Is) dIs := by
  refine ⟨_, .or op_isN op_isBl, fun O H x y d e QD Q hO rx ry h k => ?_⟩
  cases ry with
  | non => refine .inl ⟨rfl, k _ _ H (.refl H) (.bl _) ?_⟩; rw [isN_rp rx]; cases d <;> exact h
  | bl y => cases rx <;> first | exact False.elim h | exact .inr ⟨_, _, rfl, rfl, k _ _ H (.refl H) (.bl _) h⟩
  | _ => cases rx <;> exact False.elim h
theorem opd_isnot : OpD X (compareOp .IsNot) dIsNot := by
  refine ⟨_, .or op_notN op_notBl, fun O H x y d e QD Q hO rx ry h k => ?_⟩
  cases ry with
  | non => refine .inl ⟨rfl, k _ _ H (.refl H) (.bl _) ?_⟩; rw [isN_rp rx]; cases d <;> exact h
  | bl y => cases rx <;> first | exact False.elim h | exact .inr ⟨_, _, rfl, rfl, k _ _ H (.refl H) (.bl _) h⟩
  | _ => cases rx <;> exact False.elim h

/-! ### chains, and, or, not, if -/
def dChain (op op' : D → D → (D → Prop) → Prop) (fa fb fc : DE) : DE := fun ρ Q => fa ρ fun x ρ1 => fb ρ1 fun y ρ2 => op x y fun z => match z with
  | .bool true => fc ρ2 fun w ρ3 => op' y w fun z => Q z ρ3
  | .bool false => Q (.bool false) ρ2
  | _ => False
theorem je_chain {o o' : CmpOp} {op op' : D → D → (D → Prop) → Prop} (ho : OpD X (compareOp o) op) (ho' : OpD X (compareOp o') op') (ha : JE X a fa) (hb : JE X b fb) (hc : JE X c fc) (hm : lastMarks [o, o'] [b, c] = false := by with_unfolding_all rfl) :
    JE X (.Compare a [o, o'] [b, c] pos) (dChain op op' fa fb fc) := by
  obtain ⟨r, h1, h2⟩ := ho.ex
  obtain ⟨r', h1', h2'⟩ := ho'.ex
  obtain ⟨ta, pa, ka⟩ := ha.ex
  obtain ⟨tb, pb, kb⟩ := hb.ex
  obtain ⟨tc, pc, kc⟩ := hc.ex
  refine ⟨_, pe_chain h1 h1' pa pb pc hm, fun T ρ σ H QD Q r h k => ?_⟩
  refine ka T ρ σ H _ _ r h fun d ρ1 v H1 r1 p1 v1 h => ?_
  refine kb T ρ1 σ H1 _ _ r1 h fun e ρ2 w H2 r2 p2 v2 h => ?_
  refine h2 (Hd T ρ2 σ) H2 v w d e _ _ (fun a => r2.hdDom) (v1.mono p2.fz) v2 h fun z u H3 e3 v3 h => ?_
  have r3 := r2.grow e3
  have p3 : Po ρ2 σ H2 ρ2 σ H3 := .grow e3
  cases v3 with
  | bl q =>
    refine ⟨q, rfl, ?_⟩
    cases q with
    | false => exact k _ _ _ _ r3 ((p1.trans p2).trans p3) (.bl _) h
    | true =>
      rw [if_pos rfl]
      refine kc T ρ2 σ H3 _ _ r3 h fun g ρ4 y H4 r4 p4 v4 h => ?_
      refine h2' (Hd T ρ4 σ) H4 w y e g _ _ (fun a => r4.hdDom) ((v2.mono p3.fz).mono p4.fz) v4 h fun z u H5 e5 v5 h => ?_
      exact k z ρ4 u H5 (r4.grow e5) (((p1.trans p2).trans p3).trans (p4.trans (.grow e5))) v5 h
  | _ => exact False.elim h
def dAnd (fa fb : DE) : DE := fun ρ Q => fa ρ fun x ρ1 => match x with
  | .bool true => fb ρ1 Q
  | .bool false => Q (.bool false) ρ1
  | _ => False
def dOr (fa fb : DE) : DE := fun ρ Q => fa ρ fun x ρ1 => match x with
  | .bool true => Q (.bool true) ρ1
  | .bool false => fb ρ1 Q
  | _ => False
def dNot (fa : DE) : DE := fun ρ Q => fa ρ fun x ρ1 => match x with
  | .bool b => Q (.bool (!b)) ρ1
  | _ => False
variable {rest : List Expr}
theorem je_one {op} (ha : JE X a fa) : JE X (.BoolOp op [a] pos) fa := let ⟨t, p, k⟩ := ha.ex; ⟨t, pe_one p, k⟩
theorem je_and (ha : JE X a fa) (hb : JE X (.BoolOp .And (b :: rest) pos) fb) : JE X (.BoolOp .And (a :: b :: rest) pos) (dAnd fa fb) := by
  obtain ⟨ta, pa, ka⟩ := ha.ex
  obtain ⟨tb, pb, kb⟩ := hb.ex
  refine ⟨_, pe_and pa pb, fun T ρ σ H QD Q r h k => ?_⟩
  refine ka T ρ σ H _ _ r h fun d ρ1 v H1 r1 p1 v1 h => ?_
  cases v1 with
  | bl q =>
    refine ⟨q, rfl, ?_⟩
    cases q with
    | false => exact k _ _ _ _ r1 p1 (.bl _) h
    | true => exact kb T ρ1 σ H1 _ _ r1 h fun e ρ2 w H2 r2 p2 v2 h => k _ _ _ _ r2 (p1.trans p2) v2 h
  | _ => exact False.elim h
theorem je_or (ha : JE X a fa) (hb : JE X (.BoolOp .Or (b :: rest) pos) fb) : JE X (.BoolOp .Or (a :: b :: rest) pos) (dOr fa fb) := by
  obtain ⟨ta, pa, ka⟩ := ha.ex
  obtain ⟨tb, pb, kb⟩ := hb.ex
  refine ⟨_, pe_or pa pb, fun T ρ σ H QD Q r h k => ?_⟩
  refine ka T ρ σ H _ _ r h fun d ρ1 v H1 r1 p1 v1 h => ?_
  cases v1 with
  | bl q =>
    refine ⟨q, rfl, ?_⟩
    cases q with
    | true => exact k _ _ _ _ r1 p1 (.bl _) h
    | false => exact kb T ρ1 σ H1 _ _ r1 h fun e ρ2 w H2 r2 p2 v2 h => k _ _ _ _ r2 (p1.trans p2) v2 h
  | _ => exact False.elim h
theorem je_not (ha : JE X a fa) : JE X (.UnaryOp .Not a pos) (dNot fa) := by
  obtain ⟨ta, pa, ka⟩ := ha.ex
  refine ⟨_, pe_not pa, fun T ρ σ H QD Q r h k => ?_⟩
  refine ka T ρ σ H _ _ r h fun d ρ1 v H1 r1 p1 v1 h => ?_
  cases v1 with
  | bl q => exact ⟨q, rfl, k _ _ _ _ r1 p1 (.bl _) h⟩
  | _ => exact False.elim h
def dNeg (fa : DE) : DE := fun ρ Q => fa ρ fun x ρ1 => match x with
  | .int i => Q (.int (-i)) ρ1
  | _ => False
theorem je_neg (ha : JE X a fa) : JE X (.UnaryOp .USub a pos) (dNeg fa) := by
  obtain ⟨ta, pa, ka⟩ := ha.ex
  refine ⟨_, pe_un un_neg pa, fun T ρ σ H QD Q r h k => ?_⟩
  refine ka T ρ σ H _ _ r h fun d ρ1 v H1 r1 p1 v1 h => ?_
  cases v1 with
  | int q => exact ⟨q, rfl, k _ _ _ _ r1 p1 (.int _) h⟩
  | _ => exact False.elim h
/-- tests -/
def dTst (fa : DE) : DT := fun ρ Q => fa ρ fun x ρ1 => match x with
  | .bool b => Q b ρ1
  | _ => False
theorem jt_val (ha : JE X a fa) (he : ∀ whole, isTrue a X.env whole = (do let v ← whole; standAt a.pos; holding [v] (truthy v)) := by intro _; rfl) : JT X a (dTst fa) := by
  obtain ⟨ta, pa, ka⟩ := ha.ex
  refine ⟨_, pt_val pa he, fun T ρ σ H QD Q r h k => ?_⟩
  refine ka T ρ σ H _ _ r h fun d ρ1 v H1 r1 p1 v1 h => ?_
  cases v1 with
  | bl q => exact ⟨q, rfl, k _ _ _ r1 p1 h⟩
  | _ => exact False.elim h
theorem jt_cmp {o : CmpOp} {op : D → D → (D → Prop) → Prop} (ho : OpD X (compareOp o) op) (ha : JE X a fa) (hb : JE X b fb) (hm : behindInMarks o b = false) : JT X (.Compare a [o] [b] pos) (dTst (dBin op fa fb)) := by
  obtain ⟨r, h1, h2⟩ := ho.ex
  obtain ⟨ta, pa, ka⟩ := ha.ex
  obtain ⟨tb, pb, kb⟩ := hb.ex
  refine ⟨_, pt_cmpR h1 pa pb hm, fun T ρ σ H QD Q r h k => ?_⟩
  refine ka T ρ σ H _ _ r h fun d ρ1 v H1 r1 p1 v1 h => ?_
  refine kb T ρ1 σ H1 _ _ r1 h fun e ρ2 w H2 r2 p2 v2 h => ?_
  refine h2 (Hd T ρ2 σ) H2 v w d e _ _ (fun a => r2.hdDom) (v1.mono p2.fz) v2 h fun z u H3 e3 v3 h => ?_
  cases v3 with
  | bl q => exact ⟨q, rfl, k _ _ _ (r2.grow e3) ((p1.trans p2).trans (.grow e3)) h⟩
  | _ => exact False.elim h
def dTNot (f : DT) : DT := fun ρ Q => f ρ fun b ρ1 => Q (!b) ρ1
variable {gA gB : DT}
theorem jt_not (ha : JT X a gA) : JT X (.UnaryOp .Not a pos) (dTNot gA) := by
  obtain ⟨ta, pa, ka⟩ := ha.ex
  refine ⟨_, pt_not pa, fun T ρ σ H QD Q r h k => ?_⟩
  exact ka T ρ σ H _ _ r h fun d ρ1 H1 r1 p1 h => k _ _ _ r1 p1 h
def dTAnd (f g : DT) : DT := fun ρ Q => f ρ fun b ρ1 => if b = true then g ρ1 Q else Q false ρ1
def dTOr (f g : DT) : DT := fun ρ Q => f ρ fun b ρ1 => if b = true then Q true ρ1 else g ρ1 Q
structure JW (X : Cx) (e : Expr) (f : DT) : Prop where
  ex : ∃ t, PW X e t ∧ ∀ (T : Addr → Prop) (ρ : Env) (σ : L2.St) (H : Hp) (QD : Bool → Env → Prop) (Q : Bool → Hp → Prop), RS X.K T ρ σ H → f ρ QD →
    (∀ b ρ' H', RS X.K T ρ' σ H' → Po ρ σ H ρ' σ H' → QD b ρ' → Q b H') → t σ H Q
theorem JW.jt (h : JW X a gA) : JT X a gA := let ⟨t, p, k⟩ := h.ex; ⟨t, p.pt, k⟩
theorem jw_and1 (ha : JT X a gA) : JW X (.BoolOp .And [a] pos) gA := let ⟨t, p, k⟩ := ha.ex; ⟨t, pw_and1 p, k⟩
theorem jw_or1 (ha : JT X a gA) : JW X (.BoolOp .Or [a] pos) gA := let ⟨t, p, k⟩ := ha.ex; ⟨t, pw_or1 p, k⟩
theorem jw_and (ha : JT X a gA) (hb : JW X (.BoolOp .And (b :: rest) pos) gB) : JW X (.BoolOp .And (a :: b :: rest) pos) (dTAnd gA gB) := by
  obtain ⟨ta, pa, ka⟩ := ha.ex
  obtain ⟨tb, pb, kb⟩ := hb.ex
  refine ⟨_, pw_and pa pb, fun T ρ σ H QD Q r h k => ?_⟩
  refine ka T ρ σ H _ _ r h fun b ρ1 H1 r1 p1 h => ?_
  cases b with
  | true => exact kb T ρ1 σ H1 _ _ r1 h fun e ρ2 H2 r2 p2 h => k _ _ _ r2 (p1.trans p2) h
  | false => exact k _ _ _ r1 p1 h
theorem jw_or (ha : JT X a gA) (hb : JW X (.BoolOp .Or (b :: rest) pos) gB) : JW X (.BoolOp .Or (a :: b :: rest) pos) (dTOr gA gB) := by
  obtain ⟨ta, pa, ka⟩ := ha.ex
  obtain ⟨tb, pb, kb⟩ := hb.ex
  refine ⟨_, pw_or pa pb, fun T ρ σ H QD Q r h k => ?_⟩
  refine ka T ρ σ H _ _ r h fun b ρ1 H1 r1 p1 h => ?_
  cases b with
  | true => exact k _ _ _ r1 p1 h
  | false => exact kb T ρ1 σ H1 _ _ r1 h fun e ρ2 H2 r2 p2 h => k _ _ _ r2 (p1.trans p2) h
def dIfE (g : DT) (fa fb : DE) : DE := fun ρ Q => g ρ fun b ρ1 => if b = true then fa ρ1 Q else fb ρ1 Q
theorem je_if (hc : JT X c gA) (ha : JE X a fa) (hb : JE X b fb) : JE X (.IfExp c a b pos) (dIfE gA fa fb) := by
  obtain ⟨tc, pc, kc⟩ := hc.ex
  obtain ⟨ta, pa, ka⟩ := ha.ex
  obtain ⟨tb, pb, kb⟩ := hb.ex
  refine ⟨_, pe_ifExp pc pa pb, fun T ρ σ H QD Q r h k => ?_⟩
  refine kc T ρ σ H _ _ r h fun b ρ1 H1 r1 p1 h => ?_
  cases b with
  | true => exact ka T ρ1 σ H1 _ _ r1 h fun e ρ2 w H2 r2 p2 v2 h => k _ _ _ _ r2 (p1.trans p2) v2 h
  | false => exact kb T ρ1 σ H1 _ _ r1 h fun e ρ2 w H2 r2 p2 v2 h => k _ _ _ _ r2 (p1.trans p2) v2 h
end
end Dn
set_option Elab.async false
set_option linter.all false
set_option maxRecDepth 100000
set_option autoImplicit false
set_option maxHeartbeats 4000000
namespace Dn
open PySem L2 Evl
section
variable {K : PySem.W.Frag} {T T' : Addr → Prop} {ρ ρ' ρ1 : Env} {σ σ' σ1 : L2.St} {H H' H1 : Hp}
def plus (T : Addr → Prop) (p : Addr) : Addr → Prop := fun a => a = p ∨ T a
theorem hide_sub {O O' : Addr → Prop} (h : ∀ a, O' a → O a) : Ex (hide O H) (hide O' H) := fun a o e => hide_some.2 ⟨fun w => (hide_some.1 e).1 (h a w), (hide_some.1 e).2⟩
theorem RS.sub (r : RS K T ρ σ H) (h : ∀ a, T' a → T a) : RS K T' ρ σ H := by
  have e : Ex (hide (Hd T ρ σ) H) (hide (Hd T' ρ σ) H) := hide_sub fun a w => w.elim (fun t => .inl (h a t)) .inr
  refine ⟨r.len, fun i d q => ?_, fun i m q => ?_, r.inj, fun a t => r.dis a (h a t), fun a t => r.dom a (h a t), r.tag⟩
  · obtain ⟨v, h1, h2⟩ := r.im i d q; exact ⟨v, h1, h2.mono e⟩
  · obtain ⟨a, o, h1, h2, h3⟩ := r.ow i m q; exact ⟨a, o, h1, h2, h3.mono e⟩
theorem RS.unplus {p : Addr} (r : RS K (plus T p) ρ σ H) : RS K T ρ σ H := r.sub fun _ t => .inr t
theorem hd_unplus {p : Addr} : Ex (hide (Hd (plus T p) ρ σ) H) (hide (Hd T ρ σ) H) := hide_sub fun a w => w.elim (fun t => .inl (.inr t)) .inr
/-- a new object, kept aside -/
theorem RS.laid {p : Addr} {o : HO} (r : RS K T ρ σ H) (h : H p = none) : RS K (plus T p) ρ σ (upd H p o) := by
  have r1 := r.grow (Ex.new (o := o) h)
  have e : Ex (hide (Hd T ρ σ) H) (hide (Hd (plus T p) ρ σ) (upd H p o)) := fun a u w => by
    obtain ⟨n, w⟩ := hide_some.1 w
    refine hide_some.2 ⟨?_, by rw [upd_ne (ne_of_none w h)]; exact w⟩
    rintro ((t | t) | t)
    · subst t; rw [h] at w; cases w
    · exact n (.inl t)
    · exact n (.inr t)
  refine ⟨r.len, fun i d q => ?_, fun i m q => ?_, r.inj, fun a t => ?_, fun a t => ?_, r.tag⟩
  · obtain ⟨v, h1, h2⟩ := r.im i d q; exact ⟨v, h1, h2.mono e⟩
  · obtain ⟨a, u, h1, h2, h3⟩ := r.ow i m q; exact ⟨a, u, h1, by rw [upd_ne (ne_of_none h2 h)]; exact h2, h3.mono e⟩
  · rcases t with t | t
    · subst t; intro w; exact r.ownDom w h
    · exact r.dis a t
  · rcases t with t | t
    · subst t; rw [upd_same]; simp
    · exact r1.dom a t
theorem hd_laid {p : Addr} {o : HO} (h : H p = none) : Ex (hide (Hd T ρ σ) H) (hide (Hd (plus T p) ρ σ) (upd H p o)) := fun a u w => by
  obtain ⟨n, w⟩ := hide_some.1 w
  refine hide_some.2 ⟨?_, by rw [upd_ne (ne_of_none w h)]; exact w⟩
  rintro ((t | t) | t)
  · subst t; rw [h] at w; cases w
  · exact n (.inl t)
  · exact n (.inr t)
theorem getset {α : Type} {l : List (Option α)} {i j : Nat} {x y : Option α} (h : (l.set i x)[j]? = some y) : (i = j ∧ i < l.length ∧ y = x) ∨ (i ≠ j ∧ l[j]? = some y) := by
  by_cases e : i = j
  · subst e
    by_cases l1 : i < l.length
    · rw [List.getElem?_set_self l1] at h; cases h; exact .inl ⟨rfl, l1, rfl⟩
    · rw [List.getElem?_eq_none_iff.mpr (by rw [List.length_set]; omega)] at h; cases h
  · rw [List.getElem?_set_ne e] at h; exact .inr ⟨e, h⟩
theorem own_setIm {i : Nat} {d : D} {v : Option V} {a : Addr} (w : Own (ρ.set i (some (SV.im d))) (σ.set i v) a) : Own ρ σ a := by
  obtain ⟨j, m, h1, h2⟩ := w
  rcases getset h1 with ⟨_, _, h⟩ | ⟨ne, h⟩
  · cases h
  · rw [List.getElem?_set_ne ne] at h2; exact ⟨j, m, h, h2⟩
theorem RS.setIm {i : Nat} {v : V} {d : D} (r : RS K T ρ σ H) (h : Rp K (hide (Hd T ρ σ) H) v d) : RS K T (ρ.set i (some (SV.im d))) (σ.set i (some v)) H := by
  have e : Ex (hide (Hd T ρ σ) H) (hide (Hd T (ρ.set i (some (SV.im d))) (σ.set i (some v))) H) := hide_sub fun a w => w.elim .inl fun w => .inr (own_setIm w)
  refine ⟨by simp [r.len], fun j d' q => ?_, fun j m q => ?_, fun j k m m' a q1 q2 q3 q4 => ?_, fun a t w => r.dis a t (own_setIm w), r.dom, fun j p m a q1 q2 => ?_⟩
  · rcases getset q with ⟨e1, l, h1⟩ | ⟨ne, h1⟩
    · cases h1; subst e1
      exact ⟨v, List.getElem?_set_self (by rw [← r.len]; exact l), h.mono e⟩
    · obtain ⟨u, h2, h3⟩ := r.im j d' h1
      exact ⟨u, by rw [List.getElem?_set_ne ne]; exact h2, h3.mono e⟩
  · rcases getset q with ⟨_, _, h1⟩ | ⟨ne, h1⟩
    · cases h1
    · obtain ⟨a, o, h2, h3, h4⟩ := r.ow j m h1
      exact ⟨a, o, by rw [List.getElem?_set_ne ne]; exact h2, h3, h4.mono e⟩
  · rcases getset q1 with ⟨_, _, h1⟩ | ⟨n1, h1⟩
    · cases h1
    · rcases getset q2 with ⟨_, _, h2⟩ | ⟨n2, h2⟩
      · cases h2
      · rw [List.getElem?_set_ne n1] at q3; rw [List.getElem?_set_ne n2] at q4
        exact r.inj j k m m' a h1 h2 q3 q4
  · rcases getset q1 with ⟨_, _, h1⟩ | ⟨n1, h1⟩
    · cases h1
    · rw [List.getElem?_set_ne n1] at q2; exact r.tag j p m a h1 q2
theorem Po.setIm {i : Nat} {v : V} {d : D} : Po ρ σ H (ρ.set i (some (SV.im d))) (σ.set i (some v)) H := ⟨fun _ _ _ h => h, fun a w => .inl (own_setIm w), fun _ h => h⟩
theorem own_setOw {i : Nat} {m : MO} {p a : Addr} (w : Own (ρ.set i (some (SV.ow m))) (σ.set i (some (V.ref p))) a) : a = p ∨ Own ρ σ a := by
  obtain ⟨j, m', h1, h2⟩ := w
  rcases getset h1 with ⟨e, _, h⟩ | ⟨ne, h⟩
  · subst e
    rcases getset h2 with ⟨_, _, h⟩ | ⟨ne, _⟩
    · cases h; exact .inl rfl
    · exact absurd rfl ne
  · rw [List.getElem?_set_ne ne] at h2; exact .inr ⟨j, m', h, h2⟩
theorem RS.setOw {i : Nat} {p : Addr} {m : MO} {o : HO} (r : RS K (plus T p) ρ σ H) (ho : H p = some o) (h : RpO K (hide (Hd (plus T p) ρ σ) H) m o) (hT : ¬ T p) (hm : ∀ q m', m = .par q m' → p = q) : RS K T (ρ.set i (some (SV.ow m))) (σ.set i (some (V.ref p))) H := by
  have hp : ¬ Own ρ σ p := r.dis p (.inl rfl)
  have e : Ex (hide (Hd (plus T p) ρ σ) H) (hide (Hd T (ρ.set i (some (SV.ow m))) (σ.set i (some (V.ref p)))) H) := hide_sub fun a w => w.elim (fun t => .inl (.inr t)) fun w => (own_setOw w).elim (fun q => .inl (.inl q)) .inr
  refine ⟨by simp [r.len], fun j d' q => ?_, fun j m' q => ?_, fun j k m1 m2 a q1 q2 q3 q4 => ?_, fun a t w => ?_, fun a t => r.dom a (.inr t), fun j q m1 a q1 q2 => ?_⟩
  · rcases getset q with ⟨_, _, h1⟩ | ⟨ne, h1⟩
    · cases h1
    · obtain ⟨u, h2, h3⟩ := r.im j d' h1
      exact ⟨u, by rw [List.getElem?_set_ne ne]; exact h2, h3.mono e⟩
  · rcases getset q with ⟨e1, l, h1⟩ | ⟨ne, h1⟩
    · cases h1; subst e1
      exact ⟨p, o, List.getElem?_set_self (by rw [← r.len]; exact l), ho, h.mono e⟩
    · obtain ⟨a, u, h2, h3, h4⟩ := r.ow j m' h1
      exact ⟨a, u, by rw [List.getElem?_set_ne ne]; exact h2, h3, h4.mono e⟩
  · rcases getset q1 with ⟨e1, l1, h1⟩ | ⟨n1, h1⟩
    · rcases getset q2 with ⟨e2, _, h2⟩ | ⟨n2, h2⟩
      · exact e1.symm.trans e2
      · subst e1
        rcases getset q3 with ⟨_, _, z⟩ | ⟨z, _⟩
        · cases z; rw [List.getElem?_set_ne n2] at q4; exact absurd ⟨k, m2, h2, q4⟩ hp
        · exact absurd rfl z
    · rcases getset q2 with ⟨e2, _, h2⟩ | ⟨n2, h2⟩
      · subst e2
        rcases getset q4 with ⟨_, _, z⟩ | ⟨z, _⟩
        · cases z; rw [List.getElem?_set_ne n1] at q3; exact absurd ⟨j, m1, h1, q3⟩ hp
        · exact absurd rfl z
      · rw [List.getElem?_set_ne n1] at q3; rw [List.getElem?_set_ne n2] at q4
        exact r.inj j k m1 m2 a h1 h2 q3 q4
  · rcases own_setOw w with w | w
    · subst w; exact hT t
    · exact r.dis a (.inr t) w
  · rcases getset q1 with ⟨e1, _, h1⟩ | ⟨n1, h1⟩
    · cases h1; subst e1
      rcases getset q2 with ⟨_, _, h2⟩ | ⟨z, _⟩
      · cases h2; exact hm _ _ rfl
      · exact absurd rfl z
    · rw [List.getElem?_set_ne n1] at q2; exact r.tag j q m1 a h1 q2
theorem Po.setOw {i : Nat} {p : Addr} {m : MO} (q : Po ρ σ H ρ1 σ1 H1) (hp : H p = none) : Po ρ σ H (ρ1.set i (some (SV.ow m))) (σ1.set i (some (V.ref p))) H1 :=
  ⟨q.keep, fun a w => (own_setOw w).elim (fun e => by subst e; exact .inr hp) (q.own a), q.dom⟩
/-- the owned object at slot i is changed -/
theorem RS.write {i : Nat} {p : Addr} {m m' : MO} {o' : HO} (r : RS K T ρ σ H) (hm : ρ[i]? = some (some (SV.ow m))) (hp : σ[i]? = some (some (V.ref p))) (h : RpO K (hide (Hd T ρ σ) H) m' o') (ht : ∀ q m1, m' = .par q m1 → p = q) : RS K T (ρ.set i (some (SV.ow m'))) σ (upd H p o') := by
  have hO : Own ρ σ p := ⟨i, m, hm, hp⟩
  have hw : ∀ a, Own (ρ.set i (some (SV.ow m'))) σ a → Own ρ σ a := fun a ⟨j, m1, h1, h2⟩ => by
    rcases getset h1 with ⟨e, _, _⟩ | ⟨_, h1⟩
    · subst e; rw [hp] at h2; cases h2; exact hO
    · exact ⟨j, m1, h1, h2⟩
  have e : Ex (hide (Hd T ρ σ) H) (hide (Hd T (ρ.set i (some (SV.ow m'))) σ) (upd H p o')) := fun a u w => by
    obtain ⟨n, w⟩ := hide_some.1 w
    have ne : a ≠ p := fun z => n (.inr (z ▸ hO))
    refine hide_some.2 ⟨fun z => n (z.elim .inl fun z => .inr (hw a z)), by rw [upd_ne ne]; exact w⟩
  have il : i < ρ.length := (List.getElem?_eq_some_iff.mp hm).1
  refine ⟨by simp [r.len], fun j d' q => ?_, fun j m1 q => ?_, fun j k m1 m2 a q1 q2 q3 q4 => ?_, fun a t w => r.dis a t (hw a w), fun a t => ?_, fun j q m1 a q1 q2 => ?_⟩
  · rcases getset q with ⟨_, _, h1⟩ | ⟨ne, h1⟩
    · cases h1
    · obtain ⟨u, h2, h3⟩ := r.im j d' h1
      exact ⟨u, h2, h3.mono e⟩
  · rcases getset q with ⟨e1, l, h1⟩ | ⟨ne, h1⟩
    · cases h1; subst e1
      exact ⟨p, o', hp, upd_same, h.mono e⟩
    · obtain ⟨a, u, h2, h3, h4⟩ := r.ow j m1 h1
      have ne' : a ≠ p := fun z => by subst z; exact ne (r.inj i j m m1 a hm h1 hp h2)
      exact ⟨a, u, h2, by rw [upd_ne ne']; exact h3, h4.mono e⟩
  · have back : ∀ (j : Nat) (m1 : MO), (ρ.set i (some (SV.ow m')))[j]? = some (some (SV.ow m1)) → ∃ m2 : MO, ρ[j]? = some (some (SV.ow m2)) := fun j m1 q => by
      rcases getset q with ⟨e, _, _⟩ | ⟨_, h⟩
      · subst e; exact ⟨m, hm⟩
      · exact ⟨m1, h⟩
    obtain ⟨_, h1⟩ := back j m1 q1
    obtain ⟨_, h2⟩ := back k m2 q2
    exact r.inj j k _ _ a h1 h2 q3 q4
  · have ne : a ≠ p := fun z => by subst z; exact r.dis a t hO
    rw [upd_ne ne]; exact r.dom a t
  · rcases getset q1 with ⟨e1, _, h1⟩ | ⟨_, h1⟩
    · cases h1; subst e1; rw [hp] at q2; cases q2; exact ht _ _ rfl
    · exact r.tag j q m1 a h1 q2
theorem Po.write {i : Nat} {p : Addr} {m m' : MO} {o' : HO} (hm : ρ[i]? = some (some (SV.ow m))) (hp : σ[i]? = some (some (V.ref p))) : Po ρ σ H (ρ.set i (some (SV.ow m'))) σ (upd H p o') := by
  have hO : Own ρ σ p := ⟨i, m, hm, hp⟩
  refine ⟨fun a o n h => by rw [upd_ne (fun z => n (by subst z; exact hO))]; exact h, fun a ⟨j, m1, h1, h2⟩ => ?_, fun a h => ?_⟩
  · rcases getset h1 with ⟨e, _, _⟩ | ⟨_, h1⟩
    · subst e; rw [hp] at h2; cases h2; exact .inl hO
    · exact .inl ⟨j, m1, h1, h2⟩
  · by_cases e : a = p
    · subst e; rw [upd_same]; simp
    · rw [upd_ne e]; exact h
/-- an owned object is kept no longer: it stands as it is -/
theorem own_freeze {i : Nat} {d : D} {a : Addr} (w : Own (ρ.set i (some (SV.im d))) σ a) : Own ρ σ a := by
  obtain ⟨j, m, h1, h2⟩ := w
  rcases getset h1 with ⟨_, _, h⟩ | ⟨ne, h⟩
  · cases h
  · exact ⟨j, m, h, h2⟩
theorem RS.freeze {i : Nat} {ds : List D} (r : RS K T ρ σ H) (hm : ρ[i]? = some (some (SV.ow (.lst ds)))) : RS K T (ρ.set i (some (SV.im (.list ds)))) σ H := by
  obtain ⟨p, o, hp, ho, hr⟩ := r.ow i _ hm
  have hO : Own ρ σ p := ⟨i, _, hm, hp⟩
  have e : Ex (hide (Hd T ρ σ) H) (hide (Hd T (ρ.set i (some (SV.im (.list ds)))) σ) H) := hide_sub fun a w => w.elim .inl fun w => .inr (own_freeze w)
  have vis : hide (Hd T (ρ.set i (some (SV.im (.list ds)))) σ) H p = some o := hide_some.2 ⟨fun w => by
    rcases w with w | ⟨j, m, h1, h2⟩
    · exact r.dis p w hO
    · rcases getset h1 with ⟨_, _, h⟩ | ⟨ne, h⟩
      · cases h
      · exact ne (r.inj i j _ m p hm h hp h2), ho⟩
  refine ⟨by simp [r.len], fun j d' q => ?_, fun j m1 q => ?_, fun j k m1 m2 a q1 q2 q3 q4 => ?_, fun a t w => r.dis a t (own_freeze w), r.dom, fun j q m1 a q1 q2 => ?_⟩
  · rcases getset q with ⟨e1, l, h1⟩ | ⟨ne, h1⟩
    · cases h1; subst e1
      cases o with
      | lst vs => exact ⟨.ref p, hp, .lst vis (RpAll.mono e hr)⟩
      | _ => exact False.elim hr
    · obtain ⟨u, h2, h3⟩ := r.im j d' h1
      exact ⟨u, h2, h3.mono e⟩
  · rcases getset q with ⟨_, _, h1⟩ | ⟨ne, h1⟩
    · cases h1
    · obtain ⟨a, u, h2, h3, h4⟩ := r.ow j m1 h1
      exact ⟨a, u, h2, h3, h4.mono e⟩
  · rcases getset q1 with ⟨_, _, h1⟩ | ⟨_, h1⟩
    · cases h1
    · rcases getset q2 with ⟨_, _, h2⟩ | ⟨_, h2⟩
      · cases h2
      · exact r.inj j k m1 m2 a h1 h2 q3 q4
  · rcases getset q1 with ⟨_, _, h1⟩ | ⟨_, h1⟩
    · cases h1
    · exact r.tag j q m1 a h1 q2
theorem Po.freeze {i : Nat} {d : D} : Po ρ σ H (ρ.set i (some (SV.im d))) σ H := ⟨fun _ _ _ h => h, fun a w => .inl (own_freeze w), fun _ h => h⟩
end
end Dn
set_option Elab.async false
set_option linter.all false
set_option maxRecDepth 100000
set_option autoImplicit false
set_option maxHeartbeats 4000000
namespace Dn
open PySem L2 Evl
/-! ### values that may be new objects -/
/-- a value frozen, or a new object that is kept aside -/
def Fits (K : PySem.W.Frag) (T : Addr → Prop) (ρ : Env) (σ : L2.St) (H0 H : Hp) (v : V) : SV → Prop
  | .im d => RS K T ρ σ H ∧ Rp K (hide (Hd T ρ σ) H) v d
  | .ow m => ∃ p o, v = .ref p ∧ H0 p = none ∧ H p = some o ∧ RS K (plus T p) ρ σ H ∧ RpO K (hide (Hd (plus T p) ρ σ) H) m o ∧ ∀ q m', m = .par q m' → False
abbrev DX := Env → (SV → Env → Prop) → Prop
structure JX (X : Cx) (e : Expr) (f : DX) : Prop where
  ex : ∃ t, PE X e t ∧ ∀ (T : Addr → Prop) (ρ : Env) (σ : L2.St) (H : Hp) (QD : SV → Env → Prop) (Q : VK), RS X.K T ρ σ H → f ρ QD →
    (∀ d ρ' v H', Fits X.K T ρ' σ H H' v d → Po ρ σ H ρ' σ H' → QD d ρ' → Q v H') → t σ H Q
abbrev DL := Env → (List D → Env → Prop) → Prop
/-- a new list -/
structure JL (X : Cx) (e : Expr) (f : DL) : Prop where
  ex : ∃ t, PE X e t ∧ ∀ (T : Addr → Prop) (ρ : Env) (σ : L2.St) (H : Hp) (QD : List D → Env → Prop) (Q : VK), RS X.K T ρ σ H → f ρ QD →
    (∀ ds ρ' p vs H', H p = none → H' p = some (.lst vs) → RS X.K (plus T p) ρ' σ H' → RpAll X.K (hide (Hd (plus T p) ρ' σ) H') vs ds → Po ρ σ H ρ' σ H' → QD ds ρ' → Q (.ref p) H') → t σ H Q
section
variable {X : Cx} {a b c e : Expr} {fa fb fc : DE} {pos : Pos} {es : List Expr}
def xIm (f : DE) : DX := fun ρ Q => f ρ fun d => Q (.im d)
def xOw (f : DL) : DX := fun ρ Q => f ρ fun ds => Q (.ow (.lst ds))
def dOfL (f : DL) : DE := fun ρ Q => f ρ fun ds => Q (.list ds)
theorem JE.jx (h : JE X e fa) : JX X e (xIm fa) := let ⟨t, p, k⟩ := h.ex; ⟨t, p, fun T ρ σ H QD Q r h q => k T ρ σ H _ _ r h fun d ρ' v H' r' p' v' h' => q (SV.im d) ρ' v H' ⟨r', v'⟩ p' h'⟩
theorem JL.jx {f : DL} (h : JL X e f) : JX X e (xOw f) := let ⟨t, p, k⟩ := h.ex; ⟨t, p, fun T ρ σ H QD Q r h q => k T ρ σ H _ _ r h fun ds ρ' p vs H' n s r' v' p' h' => q (SV.ow (.lst ds)) ρ' (.ref p) H' ⟨p, .lst vs, rfl, n, s, r', v', fun _ _ z => nomatch z⟩ p' h'⟩
theorem JL.je {f : DL} (h : JL X e f) : JE X e (dOfL f) := by
  obtain ⟨t, p, k⟩ := h.ex
  refine ⟨t, p, fun T ρ σ H QD Q r h q => k T ρ σ H _ _ r h fun ds ρ' p vs H' n s r' v' p' h' => ?_⟩
  refine q _ _ _ _ r'.unplus p' (.lst (hide_some.2 ⟨?_, s⟩) (v'.mono hd_unplus)) h'
  rintro (w | w)
  · exact r.dom p w n
  · exact r'.dis p (.inl rfl) w

/-! ### argument lists, displays -/
def aNil : DA := fun ρ Q => Q [] ρ
def aCons (f : DE) (g : DA) : DA := fun ρ Q => f ρ fun d ρ1 => g ρ1 fun ds ρ2 => Q (d :: ds) ρ2
theorem ja_nil : JA X [] aNil := ⟨tNil, pa_nil, fun T ρ σ H QD Q r h q => q _ _ _ _ r .refl .nil h⟩
theorem ja_cons {g : DA} (ha : JE X e fa) (hr : JA X es g) (hs : starEach (e :: es) X.env = (false, eval e X.env) :: starEach es X.env := by rfl) : JA X (e :: es) (aCons fa g) := by
  obtain ⟨ta, pa, ka⟩ := ha.ex
  obtain ⟨tr, pr, kr⟩ := hr.ex
  refine ⟨_, pa_cons pa pr hs, fun T ρ σ H QD Q r h q => ?_⟩
  refine ka T ρ σ H _ _ r h fun d ρ1 v H1 r1 p1 v1 h => kr T ρ1 σ H1 _ _ r1 h fun ds ρ2 vs H2 r2 p2 v2 h => ?_
  exact q _ _ _ _ r2 (p1.trans p2) (.cons (v1.mono p2.fz) v2) h
def dTup (g : DA) : DE := fun ρ Q => g ρ fun ds ρ1 => ds.length ≤ 16777216 ∧ Q (.tuple ds) ρ1
def lLst (g : DA) : DL := fun ρ Q => g ρ fun ds ρ1 => ds.length ≤ 16777216 ∧ Q ds ρ1
theorem je_tup {g : DA} {x1} (h : JA X es g) : JE X (.Tuple es x1 pos) (dTup g) := by
  obtain ⟨t, p, k⟩ := h.ex
  refine ⟨_, pe_tup p, fun T ρ σ H QD Q r h q => k T ρ σ H _ _ r h fun ds ρ' vs H' r' p' v' h' => ⟨by rw [v'.length]; exact h'.1, fun l hl => ?_⟩⟩
  exact q _ _ _ _ (r'.grow (Ex.new hl)) (p'.trans (.grow (Ex.new hl))) (rp_newT (fun a => r'.hdDom) hl v') h'.2
theorem jl_lst {g : DA} (h : JA X es g) : JL X (.List es pos) (lLst g) := by
  obtain ⟨t, p, k⟩ := h.ex
  refine ⟨_, pe_lst p, fun T ρ σ H QD Q r h q => k T ρ σ H _ _ r h fun ds ρ' vs H' r' p' v' h' => ⟨by rw [v'.length]; exact h'.1, fun l hl => ?_⟩⟩
  refine q _ _ _ _ _ ?_ upd_same (r'.laid hl) (v'.mono (hd_laid hl)) (p'.trans (.grow (Ex.new hl))) h'.2
  cases z : H l with
  | none => rfl
  | some o => exact absurd hl (p'.dom l (by rw [z]; simp))

/-! ### subscripts -/
def seqD : D → Option (List D)
  | .list ds => some ds
  | .tuple ds => some ds
  | .dict [(.none, .tuple ds)] => some ds
  | _ => none
theorem seq_dk (kvs : List (Key × D)) : seqD (.dict (dkD kvs)) = none := by
  cases kvs with
  | nil => rfl
  | cons p r => obtain ⟨k, d⟩ := p; cases k <;> rfl
theorem seq_rp {K : PySem.W.Frag} {O : Addr → Prop} {H : Hp} {v : V} {d : D} {ds : List D} (r : Rp K (hide O H) v d) (h : seqD d = some ds) : ∃ p xs, v = .ref p ∧ (SqL K H p xs ∨ SqT K H p xs) ∧ RpAll K (hide O H) xs ds := by
  cases r
  case dct kws kvs dd h1 h2 h3 =>
    subst h3
    cases kvs with
    | nil => simp [seqD, dkD] at h
    | cons p r => obtain ⟨k, d⟩ := p; cases k <;> simp [seqD, dkD, keyB] at h
  all_goals simp only [seqD, Option.some.injEq, reduceCtorEq] at h
  · subst h; exact ⟨_, _, rfl, .inl (.inl (.inl (at_of (by assumption)))), by assumption⟩
  · subst h; exact ⟨_, _, rfl, .inr (sqt_of (by assumption)), by assumption⟩
  · subst h; exact ⟨_, _, rfl, .inl (sql_of (by assumption)), by assumption⟩
theorem atI_rp {K : PySem.W.Frag} {G : Hp} {vs : List V} {ds : List D} {i : Int} {d : D} (r : RpAll K G vs ds) (h : atI ds i = some d) : ∃ v, atI vs i = some v ∧ Rp K G v d := by
  unfold atI at h ⊢
  rw [r.length]
  cases e : ixN ds.length i with
  | none => rw [e] at h; cases h
  | some j =>
    rw [e] at h
    exact r.get (show ds[j]? = some d from h)
def dIx : D → D → (D → Prop) → Prop := fun x y Q => match seqD x, y with
  | some ds, .int i => ∃ d, atI ds i = some d ∧ Q d
  | _, _ => False
theorem ix_two {O : Addr → Prop} {H : Hp} {x y : V} {d e : D} {QD : D → Prop} {Q : VK} (rx : Rp X.K (hide O H) x d) (ry : Rp X.K (hide O H) y e) (h : dIx d e QD)
    (k : ∀ z v H', Ex H H' → Rp X.K (hide O H') v z → QD z → Q v H') : rIxL X.K x y H Q ∨ rIxT X.K x y H Q := by
  unfold dIx at h
  split at h
  · rename_i ds i e1
    obtain ⟨z, h1, h2⟩ := h
    obtain ⟨p, xs, rfl, hs, r⟩ := seq_rp rx e1
    obtain ⟨v, h3, h4⟩ := atI_rp r h1
    cases ry
    rcases hs with hs | hs
    · exact .inl ⟨_, _, _, _, rfl, rfl, hs, h3, k _ _ H (.refl H) h4 h2⟩
    · exact .inr ⟨_, _, _, _, rfl, rfl, hs, h3, k _ _ H (.refl H) h4 h2⟩
  · exact False.elim h
theorem je_ix (ha : JE X a fa) (hb : JE X b fb) (hs : PlainIx b := by exact fun _ _ => rfl) : JE X (.Subscript a b pos) (dBin dIx fa fb) :=
  je_two (fun O H x y d e QD Q hO rx ry h k => ix_two rx ry h k) ha hb fun _ _ pa pb => pe_ix (.or ix_list ix_tup) pa pb hs
/-- an owned list's item -/
def dIxO (i : Nat) (fb : DE) : DE := fun ρ Q => (∃ m, ρ[i]? = some (some (SV.ow m))) ∧ fb ρ fun y ρ1 => match ρ1[i]?, y with
  | some (some (.ow (.lst ds))), .int j => ∃ d, atI ds j = some d ∧ Q d ρ1
  | _, _ => False
theorem je_ixO {i : Nat} {x : Str} {px : Pos} (hN : X.N[i]? = some x) (hv : Vis X.env.scope x) (hb : JE X b fb) (hs : PlainIx b := by exact fun _ _ => rfl) (hd : (x == ("__debug__" : Str)) = false := by decide) (hcd : (x == ("__classdict__" : Str)) = false := by decide) :
    JE X (.Subscript (.Name x px) b pos) (dIxO i fb) := by
  obtain ⟨tb, pb, kb⟩ := hb.ex
  refine ⟨_, pe_ix ix_list (pe_var hN hv hd hcd) pb hs, fun T ρ σ H QD Q r h q => ?_⟩
  obtain ⟨⟨m, hm⟩, h⟩ := h
  obtain ⟨p, o, hp, _, _⟩ := r.ow i m hm
  refine ⟨_, hp, kb T ρ σ H _ _ r h fun y ρ1 v H1 r1 p1 v1 h => ?_⟩
  split at h
  · rename_i ds j e1
    obtain ⟨d, h1, h2⟩ := h
    obtain ⟨p', o', hp', ho', hr'⟩ := r1.ow i _ e1
    rw [hp] at hp'; cases hp'
    cases o' with
    | lst vs =>
      obtain ⟨u, h3, h4⟩ := atI_rp (show RpAll _ _ vs ds from hr') h1
      cases v1
      exact ⟨_, _, _, _, rfl, rfl, .inl (.inl ho'), h3, q _ _ _ _ r1 p1 h4 h2⟩
    | _ => exact False.elim hr'
  · exact False.elim h

/-! ### slices -/
def cutD (xs : List D) (lo hi : Option Int) : List D := (xs.drop (HT.sIx xs.length 0 lo)).take (HT.sIx xs.length xs.length hi - HT.sIx xs.length 0 lo)
theorem cut_rp {K : PySem.W.Frag} {G : Hp} {vs : List V} {ds : List D} (r : RpAll K G vs ds) (lo hi : Option Int) : RpAll K G (cutV vs lo hi) (cutD ds lo hi) := by
  unfold cutV cutD; rw [r.length]; exact (r.drop _).take _
abbrev DO := Env → (Option Int → Env → Prop) → Prop
structure JO (X : Cx) (e : Option Expr) (f : DO) : Prop where
  ex : ∃ t, PO X e t ∧ ∀ (T : Addr → Prop) (ρ : Env) (σ : L2.St) (H : Hp) (QD : Option Int → Env → Prop) (Q : Option Int → Hp → Prop), RS X.K T ρ σ H → f ρ QD →
    (∀ d ρ' H', RS X.K T ρ' σ H' → Po ρ σ H ρ' σ H' → QD d ρ' → Q d H') → t σ H Q
def oNone : DO := fun ρ Q => Q none ρ
def oSome (f : DE) : DO := fun ρ Q => f ρ fun d ρ1 => match d with
  | .int i => Q (some i) ρ1
  | _ => False
theorem jo_none : JO X none oNone := ⟨tNoPart, po_none, fun T ρ σ H QD Q r h q => q _ _ _ r .refl h⟩
theorem jo_some (ha : JE X a fa) : JO X (some a) (oSome fa) := by
  obtain ⟨ta, pa, ka⟩ := ha.ex
  refine ⟨_, po_some pa, fun T ρ σ H QD Q r h q => ka T ρ σ H _ _ r h fun d ρ1 v H1 r1 p1 v1 h => ?_⟩
  cases v1 with
  | int i => exact ⟨i, rfl, q _ _ _ r1 p1 h⟩
  | _ => exact False.elim h
def dSl (fa : DE) (lo hi : DO) : DE := fun ρ Q => fa ρ fun x ρ1 => lo ρ1 fun l ρ2 => hi ρ2 fun u ρ3 => match x with
  | .list ds => Q (.list (cutD ds l u)) ρ3
  | .tuple ds => Q (.tuple (cutD ds l u)) ρ3
  | _ => False
theorem sl_or {r r' : V → Option Int → Option Int → Hp → VK → Prop} (h : SlR X r) (h' : SlR X r') : SlR X (fun x lo hi H Q => r x lo hi H Q ∨ r' x lo hi H Q) := by
  intro pins s σ H x v vl vu lo hi sl Q I rx hs pl pu q
  rcases q with q | q
  · exact h pins s σ H x v vl vu lo hi sl Q I rx hs pl pu q
  · exact h' pins s σ H x v vl vu lo hi sl Q I rx hs pl pu q
theorem cut_whole {xs : List D} {lo hi : Option Int} (h : HT.sIx xs.length 0 lo = 0 ∧ HT.sIx xs.length xs.length hi = xs.length) : cutD xs lo hi = xs := by
  unfold cutD; rw [h.1, h.2]; simp
theorem je_sl {lo hi : Option Expr} {fl fh : DO} {p2 : Pos} (ha : JE X a fa) (hl : JO X lo fl) (hh : JO X hi fh) : JE X (.Subscript a (.Slice lo hi none p2) pos) (dSl fa fl fh) := by
  obtain ⟨ta, pa, ka⟩ := ha.ex
  obtain ⟨tl, pl, kl⟩ := hl.ex
  obtain ⟨th, ph, kh⟩ := hh.ex
  refine ⟨_, pe_slice (sl_or sl_list sl_tupA) pa pl ph, fun T ρ σ H QD Q r h q => ka T ρ σ H _ _ r h fun d ρ1 v H1 r1 p1 v1 h => kl T ρ1 σ H1 _ _ r1 h fun l ρ2 H2 r2 p2 h => kh T ρ2 σ H2 _ _ r2 h fun u ρ3 H3 r3 p3 h => ?_⟩
  have v3 := (v1.mono p2.fz).mono p3.fz
  have p := (p1.trans p2).trans p3
  cases v3 with
  | lst hp rr =>
    exact .inl ⟨_, _, rfl, .inl (.inl (at_of hp)), fun n hn => q _ _ _ _ (r3.grow (Ex.new hn)) (p.trans (.grow (Ex.new hn))) (rp_newL (fun a => r3.hdDom) hn (cut_rp rr l u)) h⟩
  | tup hp rr =>
    refine .inr ⟨_, _, rfl, sqt_of hp, fun w => ?_, fun w n hn => q _ _ _ _ (r3.grow (Ex.new hn)) (p.trans (.grow (Ex.new hn))) (rp_newT (fun a => r3.hdDom) hn (cut_rp rr l u)) h⟩
    rw [rr.length] at w
    dsimp only at h; rw [cut_whole w] at h
    exact q _ _ _ _ r3 p (.tup hp rr) h
  | _ => exact False.elim h
end
end Dn
set_option Elab.async false
set_option linter.all false
set_option maxRecDepth 100000
set_option autoImplicit false
set_option maxHeartbeats 4000000
namespace Dn
open PySem L2 Evl
/-! ### calls -/
section
variable {X : Cx} {a b c e : Expr} {fa fb fc : DE} {pos p : Pos} {es : List Expr} {x : Str}
structure CallD (X : Cx) (f : Value) (op : List D → (D → Prop) → Prop) : Prop where
  ex : ∃ r, CallR X f r ∧ ∀ (O : Addr → Prop) (H : Hp) (vs : List V) (ds : List D) (QD : D → Prop) (Q : VK), (∀ a, O a → H a ≠ none) → RpAll X.K (hide O H) vs ds → op ds QD →
    (∀ z v H', Ex H H' → Rp X.K (hide O H') v z → QD z → Q v H') → r vs H Q
def dCall (op : List D → (D → Prop) → Prop) (g : DA) : DE := fun ρ Q => g ρ fun ds ρ1 => op ds fun z => Q z ρ1
theorem je_callB {id : String} {op : List D → (D → Prop) → Prop} {g : DA} (hc : CallD X (.builtin id) op) (hm : X.mg x = none) (hv : bootBuiltins x = some (.builtin id)) (ha : JA X (e :: es) g) (hg : Gl X x := by rfl) (hn : x ≠ "__name__" := by decide) (hdb : (x == ("__debug__" : Str)) = false := by decide)
    (he : starEach (e :: es) X.env = (false, eval e X.env) :: starEach es X.env := by rfl) (hpl : (backTo pos (starEach es X.env)).any (·.1) = false := by rfl) : JE X (.Call (.Name x p) (e :: es) [] pos) (dCall op g) := by
  obtain ⟨r, h1, h2⟩ := hc.ex
  obtain ⟨t, pa, ka⟩ := ha.ex
  refine ⟨_, pe_callB h1 hg hm hv pa hn hdb he hpl, fun T ρ σ H QD Q r h q => ka T ρ σ H _ _ r h fun ds ρ1 vs H1 r1 p1 v1 h => ?_⟩
  exact h2 (Hd T ρ1 σ) H1 vs ds _ _ (fun a => r1.hdDom) v1 h fun z v H' e v2 h => q _ _ _ _ (r1.grow e) (p1.trans (.grow e)) v2 h
theorem je_callTy {id : String} {op : List D → (D → Prop) → Prop} {g : DA} (hc : CallD X (.type id) op) (hm : X.mg x = none) (hv : bootBuiltins x = some (.type id)) (ha : JA X (e :: es) g) (hg : Gl X x := by rfl) (hn : x ≠ "__name__" := by decide) (hdb : (x == ("__debug__" : Str)) = false := by decide)
    (he : starEach (e :: es) X.env = (false, eval e X.env) :: starEach es X.env := by rfl) (hpl : (backTo pos (starEach es X.env)).any (·.1) = false := by rfl) : JE X (.Call (.Name x p) (e :: es) [] pos) (dCall op g) := by
  obtain ⟨r, h1, h2⟩ := hc.ex
  obtain ⟨t, pa, ka⟩ := ha.ex
  refine ⟨_, pe_callTy h1 hg hm hv pa hn hdb he hpl, fun T ρ σ H QD Q r h q => ka T ρ σ H _ _ r h fun ds ρ1 vs H1 r1 p1 v1 h => ?_⟩
  exact h2 (Hd T ρ1 σ) H1 vs ds _ _ (fun a => r1.hdDom) v1 h fun z v H' e v2 h => q _ _ _ _ (r1.grow e) (p1.trans (.grow e)) v2 h
/-- an owned list is looked at: a plain value comes -/
def isSc : D → Bool
  | .list _ => false
  | .tuple _ => false
  | .dict _ => false
  | _ => true
theorem sc_rp {K : PySem.W.Frag} {G G' : Hp} {v : V} {d : D} (h : isSc d = true) (r : Rp K G v d) : Rp K G' v d := by
  cases r <;> first | (simp [isSc] at h; done) | constructor
def dCallO (i : Nat) (op : List D → (D → Prop) → Prop) : DE := fun ρ Q => match ρ[i]? with
  | some (some (.ow (.lst ds))) => op [.list ds] fun z => isSc z = true ∧ Q z ρ
  | _ => False
theorem je_callBO {i : Nat} {y : Str} {py : Pos} {id : String} {op : List D → (D → Prop) → Prop} (hc : CallD X (.builtin id) op) (hm : X.mg x = none) (hv : bootBuiltins x = some (.builtin id)) (hN : X.N[i]? = some y) (hy : Vis X.env.scope y) (hg : Gl X x := by rfl) (hn : x ≠ "__name__" := by decide) (hdb : (x == ("__debug__" : Str)) = false := by decide)
    (hd : (y == ("__debug__" : Str)) = false := by decide) (hcd : (y == ("__classdict__" : Str)) = false := by decide)
    (he : starEach [Expr.Name y py] X.env = (false, eval (Expr.Name y py) X.env) :: starEach [] X.env := by rfl) : JE X (.Call (.Name x p) [.Name y py] [] pos) (dCallO i op) := by
  obtain ⟨r, h1, h2⟩ := hc.ex
  refine ⟨_, pe_callB h1 hg hm hv (pa_cons (pe_var hN hy hd hcd) pa_nil he) hn hdb he, fun T ρ σ H QD Q r h q => ?_⟩
  unfold dCallO at h
  split at h
  · rename_i ds e1
    obtain ⟨a, o, ha, ho, hr⟩ := r.ow i _ e1
    have rf := r.freeze e1
    obtain ⟨v, hv, rv⟩ := rf.im i (.list ds) (List.getElem?_set_self (List.getElem?_eq_some_iff.mp e1).1)
    rw [ha] at hv; cases hv
    refine ⟨_, ha, h2 _ H _ _ _ _ (fun a => rf.hdDom) (.cons rv .nil) h fun z v H' e v2 h => ?_⟩
    exact q _ _ _ _ (r.grow e) (.grow e) (sc_rp h.1 v2) h.2
  · exact False.elim h
def dBinO (i : Nat) (op : D → D → (D → Prop) → Prop) (fb : DE) : DE := fun ρ Q => (∃ m, ρ[i]? = some (some (SV.ow m))) ∧ fb ρ fun y ρ1 => match ρ1[i]? with
  | some (some (.ow (.lst ds))) => op (.list ds) y fun z => isSc z = true ∧ Q z ρ1
  | _ => False
theorem hd_freeze {T : Addr → Prop} {ρ : Env} {σ : L2.St} {H : Hp} {i : Nat} {d : D} : Ex (hide (Hd T ρ σ) H) (hide (Hd T (ρ.set i (some (SV.im d))) σ) H) := hide_sub fun a w => w.elim .inl fun w => .inr (own_freeze w)
theorem two_O {op : D → D → (D → Prop) → Prop} {i : Nat} {y : Str} {py : Pos} {r : R2} (hN : X.N[i]? = some y) (hy : Vis X.env.scope y) (hd : (y == ("__debug__" : Str)) = false := by decide) (hcd : (y == ("__classdict__" : Str)) = false := by decide)
    (hr : ∀ (O : Addr → Prop) (H : Hp) (x y : V) (d e : D) (QD : D → Prop) (Q : VK), (∀ a, O a → H a ≠ none) → Rp X.K (hide O H) x d → Rp X.K (hide O H) y e → op d e QD → (∀ z v H', Ex H H' → Rp X.K (hide O H') v z → QD z → Q v H') → r x y H Q)
    (hb : JE X b fb) (he : ∀ ta tb, PE X (.Name y py) ta → PE X b tb → PE X e (tOp r ta tb)) : JE X e (dBinO i op fb) := by
  obtain ⟨tb, pb, kb⟩ := hb.ex
  refine ⟨_, he _ tb (pe_var hN hy hd hcd) pb, fun T ρ σ H QD Q r h q => ?_⟩
  obtain ⟨⟨m, hm⟩, h⟩ := h
  obtain ⟨a, o, ha, _, _⟩ := r.ow i m hm
  refine ⟨_, ha, kb T ρ σ H _ _ r h fun y ρ1 v H1 r1 p1 v1 h => ?_⟩
  split at h
  · rename_i ds e1
    have rf := r1.freeze e1
    obtain ⟨u, hu, ru⟩ := rf.im i (.list ds) (List.getElem?_set_self (List.getElem?_eq_some_iff.mp e1).1)
    rw [ha] at hu; cases hu
    exact hr _ H1 _ _ _ _ _ _ (fun a => rf.hdDom) ru (v1.mono hd_freeze) h fun z w H' e v2 h => q _ _ _ _ (r1.grow e) (p1.trans (.grow e)) (sc_rp h.1 v2) h.2
  · exact False.elim h
theorem je_cmpO {op : D → D → (D → Prop) → Prop} {i : Nat} {y : Str} {py : Pos} {o : CmpOp} (ho : OpD X (compareOp o) op) (hN : X.N[i]? = some y) (hy : Vis X.env.scope y) (hb : JE X b fb) (hm : behindInMarks o b = false)
    (hd : (y == ("__debug__" : Str)) = false := by decide) (hcd : (y == ("__classdict__" : Str)) = false := by decide) : JE X (.Compare (.Name y py) [o] [b] pos) (dBinO i op fb) := by
  obtain ⟨r, h1, h2⟩ := ho.ex
  exact two_O hN hy hd hcd h2 hb fun _ _ pa pb => pe_cmpR h1 pa pb hm

/-! ### built-ins -/
def dLen : List D → (D → Prop) → Prop
  | [d] => fun Q => match seqD d with
    | some ds => Q (.int ds.length)
    | none => False
  | _ => fun _ => False
theorem calld_len : CallD X (.builtin "len") dLen := by
  refine ⟨_, call_len_seq, fun O H vs ds QD Q hO r h k => ?_⟩
  cases r with
  | nil => exact False.elim h
  | cons r rr =>
    cases rr with
    | cons _ _ => exact False.elim h
    | nil =>
      unfold dLen at h; dsimp only at h
      split at h
      · rename_i ds e
        obtain ⟨p, xs, rfl, hs, rx⟩ := seq_rp r e
        exact ⟨_, _, rfl, hs, k _ _ H (.refl H) (.int _) (by rw [rx.length]; exact h)⟩
      · exact False.elim h
def dAbs : List D → (D → Prop) → Prop
  | [.int i] => fun Q => Q (.int (if i < 0 then -i else i))
  | _ => fun _ => False
theorem rp1 {K : PySem.W.Frag} {G : Hp} {vs : List V} {d : D} (r : RpAll K G vs [d]) : ∃ v, vs = [v] ∧ Rp K G v d := by
  cases r with
  | cons r rr => cases rr; exact ⟨_, rfl, r⟩
theorem rp2 {K : PySem.W.Frag} {G : Hp} {vs : List V} {d e : D} (r : RpAll K G vs [d, e]) : ∃ v u, vs = [v, u] ∧ Rp K G v d ∧ Rp K G u e := by
  cases r with
  | cons r rr => obtain ⟨u, rfl, h⟩ := rp1 rr; exact ⟨_, _, rfl, r, h⟩
theorem calld_abs : CallD X (.builtin "abs") dAbs := by
  refine ⟨_, call_abs, fun O H vs ds QD Q hO r h k => ?_⟩
  unfold dAbs at h
  split at h
  · obtain ⟨v, rfl, w1⟩ := rp1 r
    cases w1
    exact ⟨_, rfl, k _ _ H (.refl H) (.int _) h⟩
  · exact False.elim h
def dMax2 : List D → (D → Prop) → Prop
  | [.int i, .int j] => fun Q => Q (.int (if j > i then j else i))
  | _ => fun _ => False
theorem calld_max2 (hc : X.calm = true) : CallD X (.builtin "max") dMax2 := by
  refine ⟨_, call_max2 hc, fun O H vs ds QD Q hO r h k => ?_⟩
  unfold dMax2 at h
  split at h
  · obtain ⟨v, u, rfl, r1, r2⟩ := rp2 r
    cases r1; cases r2
    exact ⟨_, _, rfl, k _ _ H (.refl H) (.int _) h⟩
  · exact False.elim h
def dMin2 : List D → (D → Prop) → Prop
  | [.int i, .int j] => fun Q => Q (.int (if j < i then j else i))
  | _ => fun _ => False
theorem calld_min2 (hc : X.calm = true) : CallD X (.builtin "min") dMin2 := by
  refine ⟨_, call_min2 hc, fun O H vs ds QD Q hO r h k => ?_⟩
  unfold dMin2 at h
  split at h
  · obtain ⟨v, u, rfl, r1, r2⟩ := rp2 r
    cases r1; cases r2
    exact ⟨_, _, rfl, k _ _ H (.refl H) (.int _) h⟩
  · exact False.elim h
def dInt : List D → (D → Prop) → Prop
  | [.int i] => fun Q => Q (.int i)
  | [.bool b] => fun Q => Q (.int (if b then 1 else 0))
  | _ => fun _ => False
theorem calld_int : CallD X (.type "int") dInt := by
  refine ⟨_, call_int1, fun O H vs ds QD Q hO r h k => ?_⟩
  unfold dInt at h
  split at h
  · obtain ⟨v, rfl, w1⟩ := rp1 r
    cases w1
    exact .inl ⟨_, rfl, k _ _ H (.refl H) (.int _) h⟩
  · obtain ⟨v, rfl, w1⟩ := rp1 r
    cases w1
    exact .inr ⟨_, rfl, k _ _ H (.refl H) (.int _) h⟩
  · exact False.elim h
def dAll (ds : List D) (Q : D → Prop) : Prop := ∃ bs : List Bool, ds = [.list (bs.map PyData.bool)] ∧ Q (.bool (bs.all id))
def dAny (ds : List D) (Q : D → Prop) : Prop := ∃ bs : List Bool, ds = [.list (bs.map PyData.bool)] ∧ Q (.bool (bs.any id))
def dSum (ds : List D) (Q : D → Prop) : Prop := ∃ ns : List Int, ds = [.list (ns.map PyData.int)] ∧ Q (.int ns.sum)
theorem calld_all (hc : X.calm = true) : CallD X (.builtin "all") dAll := by
  refine ⟨_, cr_all hc, fun O H vs ds QD Q hO r h k => ?_⟩
  obtain ⟨bs, rfl, h⟩ := h
  obtain ⟨v, rfl, w1⟩ := rp1 r
  cases w1 with
  | lst hp rr =>
    obtain rfl := rr.of_bls
    exact ⟨_, bs, rfl, .inl (.inl (at_of hp)), k _ _ H (.refl H) (.bl _) h⟩
theorem calld_any (hc : X.calm = true) : CallD X (.builtin "any") dAny := by
  refine ⟨_, cr_any hc, fun O H vs ds QD Q hO r h k => ?_⟩
  obtain ⟨bs, rfl, h⟩ := h
  obtain ⟨v, rfl, w1⟩ := rp1 r
  cases w1 with
  | lst hp rr =>
    obtain rfl := rr.of_bls
    exact ⟨_, bs, rfl, .inl (.inl (at_of hp)), k _ _ H (.refl H) (.bl _) h⟩
theorem calld_sum (hc : X.calm = true) : CallD X (.builtin "sum") dSum := by
  refine ⟨_, cr_sum hc, fun O H vs ds QD Q hO r h k => ?_⟩
  obtain ⟨bs, rfl, h⟩ := h
  obtain ⟨v, rfl, w1⟩ := rp1 r
  cases w1 with
  | lst hp rr =>
    obtain rfl := rr.of_ints
    exact ⟨_, bs, rfl, .inl (.inl (at_of hp)), k _ _ H (.refl H) (.int _) h⟩
def dTupOf : List D → (D → Prop) → Prop
  | [.list ds] => fun Q => Q (.tuple ds)
  | [.tuple ds] => fun Q => Q (.tuple ds)
  | _ => fun _ => False
theorem calld_tuple : CallD X (.type "tuple") dTupOf := by
  refine ⟨_, call_tuple_of, fun O H vs ds QD Q hO r h k => ?_⟩
  unfold dTupOf at h
  split at h
  · obtain ⟨v, rfl, w1⟩ := rp1 r
    cases w1 with
    | lst hp rr => exact ⟨_, _, rfl, .inl ⟨.inl (.inl (at_of hp)), fun l hl => k _ _ _ (Ex.new hl) (rp_newT hO hl rr) h⟩⟩
  · obtain ⟨v, rfl, w1⟩ := rp1 r
    cases w1 with
    | tup hp rr => exact ⟨_, _, rfl, .inr ⟨sqt_of hp, k _ _ H (.refl H) (.tup hp rr) h⟩⟩
  · exact False.elim h
/-- isinstance -/
def tyN : D → String
  | .none => "NoneType"
  | .bool _ => "bool"
  | .int _ => "int"
  | .str _ => "str"
  | .list _ => "list"
  | .tuple _ => "tuple"
  | .dict ((.none, _) :: _) => "list"
  | .dict _ => "dict"
theorem tyN_dk (kvs : List (Key × D)) : tyN (.dict (dkD kvs)) = "dict" := by
  cases kvs with
  | nil => rfl
  | cons p r => obtain ⟨k, d⟩ := p; cases k <;> rfl
theorem ty_rp {K : PySem.W.Frag} {O : Addr → Prop} {H : Hp} {v : V} {d : D} (r : Rp K (hide O H) v d) : TyX K H v (.type (tyN d)) := by
  cases r with
  | non => exact .base .non
  | bl b => exact .base (.bl b)
  | int b => exact .base (.int b)
  | str b => exact .base (.str b)
  | lst h _ => exact .base (.lst (at_of h))
  | dct h _ z => subst z; rw [tyN_dk]; exact .base (.dK (at_of h))
  | tup h _ =>
    rcases sqt_of h with (h | ⟨o, h⟩) | ⟨o, its, n, h1, h2, _⟩
    · exact .base (.tup h)
    · exact .fTuple h
    · exact .kTuple h1 h2
  | frz h _ =>
    rcases sql_of h with (h | ⟨o, h⟩) | ⟨o, its, n, h1, h2, _⟩
    · exact .base (.lst h)
    · exact .base (.frz h)
    · exact .kList h1 h2
def dIsi (tn : String) (fa : DE) : DE := fun ρ Q => fa ρ fun d ρ1 => match kitB (tyN d) tn with
  | some b => Q (.bool b) ρ1
  | none => False
theorem je_isi {tn : String} {y : Str} {py : Pos} (hm : X.mg "isinstance" = none) (hmy : X.mg y = none) (hvy : bootBuiltins y = some (.type tn)) (ha : JE X a fa) (hg : Gl X "isinstance" := by rfl) (hgy : Gl X y := by rfl) (hny : y ≠ "__name__" := by decide) (hdb : (y == ("__debug__" : Str)) = false := by decide)
    (h1 : starEach [a, Expr.Name y py] X.env = (false, eval a X.env) :: starEach [Expr.Name y py] X.env := by rfl) (h2 : starEach [Expr.Name y py] X.env = (false, eval (Expr.Name y py) X.env) :: starEach [] X.env := by rfl) (h3 : (backTo pos (starEach [Expr.Name y py] X.env)).any (·.1) = false := by rfl) :
    JE X (.Call (.Name "isinstance" p) [a, .Name y py] [] pos) (dIsi tn fa) := by
  obtain ⟨ta, pa, ka⟩ := ha.ex
  refine ⟨_, pe_callB call_isi hg hm (by decide +kernel) (pa_cons pa (pa_cons (pe_bltn (v := .ty tn) hgy hmy hvy rfl hny hdb) pa_nil h2) h1) (by decide) (by decide) h1 h3, fun T ρ σ H QD Q r h q => ka T ρ σ H _ _ r h fun d ρ1 v H1 r1 p1 v1 h => ?_⟩
  split at h
  · rename_i b e
    exact ⟨v, .ty tn, .type (tyN d), .type tn, b, rfl, .ty tn, ty_rp v1, kit_ty e, q _ _ _ _ r1 p1 (.bl b) h⟩
  · exact False.elim h
/-- new lists -/
def lOf (f : DE) : DL := fun ρ Q => f ρ fun d ρ1 => match seqD d with
  | some ds => Q ds ρ1
  | none => False
theorem none_back {ρ ρ' : Env} {σ σ' : L2.St} {H H' : Hp} {l : Addr} (q : Po ρ σ H ρ' σ' H') (h : H' l = none) : H l = none := by
  cases z : H l with
  | none => rfl
  | some o => exact absurd h (q.dom l (by rw [z]; simp))
theorem jl_list (hm : X.mg "list" = none) (ha : JE X a fa) (hg : Gl X "list" := by rfl) (he : starEach [a] X.env = (false, eval a X.env) :: starEach [] X.env := by rfl) : JL X (.Call (.Name "list" p) [a] [] pos) (lOf fa) := by
  obtain ⟨ta, pa, ka⟩ := ha.ex
  refine ⟨_, pe_callTy call_list_of hg hm (by decide +kernel) (pa_cons pa pa_nil he) (by decide) (by decide) he, fun T ρ σ H QD Q r h q => ka T ρ σ H _ _ r h fun d ρ1 v H1 r1 p1 v1 h => ?_⟩
  split at h
  · rename_i ds e
    obtain ⟨p, xs, rfl, hs, rx⟩ := seq_rp v1 e
    exact ⟨_, _, rfl, hs, fun l hl => q _ _ _ _ _ (none_back p1 hl) upd_same (r1.laid hl) (rx.mono (hd_laid hl)) (p1.trans (.grow (Ex.new hl))) h⟩
  · exact False.elim h
/-- list(x), tuple(x) of an owned list x -/
def lOfO (i : Nat) : DL := fun ρ Q => match ρ[i]? with
  | some (some (.ow (.lst ds))) => Q ds ρ
  | _ => False
theorem jl_listO {i : Nat} {y : Str} {py : Pos} (hm : X.mg "list" = none) (hN : X.N[i]? = some y) (hy : Vis X.env.scope y) (hg : Gl X "list" := by rfl) (hd : (y == ("__debug__" : Str)) = false := by decide) (hcd : (y == ("__classdict__" : Str)) = false := by decide)
    (he : starEach [Expr.Name y py] X.env = (false, eval (Expr.Name y py) X.env) :: starEach [] X.env := by rfl) : JL X (.Call (.Name "list" p) [.Name y py] [] pos) (lOfO i) := by
  refine ⟨_, pe_callTy call_list_of hg hm (by decide +kernel) (pa_cons (pe_var hN hy hd hcd) pa_nil he) (by decide) (by decide) he, fun T ρ σ H QD Q r h q => ?_⟩
  unfold lOfO at h
  split at h
  · rename_i ds e
    obtain ⟨a, o, ha, ho, hr⟩ := r.ow i _ e
    cases o with
    | lst vs => exact ⟨_, ha, _, _, rfl, .inl (.inl (.inl ho)), fun l hl => q _ _ _ _ _ hl upd_same (r.laid hl) (RpAll.mono (hd_laid hl) hr) (.grow (Ex.new hl)) h⟩
    | _ => exact False.elim hr
  · exact False.elim h
def dTupO (i : Nat) : DE := fun ρ Q => match ρ[i]? with
  | some (some (.ow (.lst ds))) => Q (.tuple ds) ρ
  | _ => False
theorem je_tupleO {i : Nat} {y : Str} {py : Pos} (hm : X.mg "tuple" = none) (hN : X.N[i]? = some y) (hy : Vis X.env.scope y) (hg : Gl X "tuple" := by rfl) (hd : (y == ("__debug__" : Str)) = false := by decide) (hcd : (y == ("__classdict__" : Str)) = false := by decide)
    (he : starEach [Expr.Name y py] X.env = (false, eval (Expr.Name y py) X.env) :: starEach [] X.env := by rfl) : JE X (.Call (.Name "tuple" p) [.Name y py] [] pos) (dTupO i) := by
  refine ⟨_, pe_callTy call_tuple_of hg hm (by decide +kernel) (pa_cons (pe_var hN hy hd hcd) pa_nil he) (by decide) (by decide) he, fun T ρ σ H QD Q r h q => ?_⟩
  unfold dTupO at h
  split at h
  · rename_i ds e
    obtain ⟨a, o, ha, ho, hr⟩ := r.ow i _ e
    cases o with
    | lst vs => exact ⟨_, ha, _, _, rfl, .inl ⟨.inl (.inl ho), fun l hl => q _ _ _ _ (r.grow (Ex.new hl)) (.grow (Ex.new hl)) (rp_newT (fun a => r.hdDom) hl hr) h⟩⟩
    | _ => exact False.elim hr
  · exact False.elim h
/-- ranges -/
def rgD (i j : Int) : List D := (List.range (j - i).toNat).map fun k => PyData.int (i + (k : Nat))
def RgD (i j : Int) : Prop := -1000000 ≤ i ∧ i ≤ 1000000 ∧ -1000000 ≤ j ∧ j ≤ 1000000
theorem rg_ok {i j : Int} (h : RgD i j) : RgOk i j := by unfold RgD at h; exact ⟨by omega, by omega, by omega, by omega, by omega⟩
theorem rg_rp {K : PySem.W.Frag} {G : Hp} (i j : Int) : RpAll K G (rgV i j) (rgD i j) := by
  have : rgV i j = ((List.range (j - i).toNat).map fun k => i + (k : Nat)).map V.int := by unfold rgV; simp
  rw [this, show rgD i j = ((List.range (j - i).toNat).map fun k => i + (k : Nat)).map PyData.int from by unfold rgD; simp]
  exact RpAll.ints _
abbrev DR := Env → (Int → Int → Env → Prop) → Prop
structure JR (X : Cx) (e : Expr) (f : DR) : Prop where
  ex : ∃ t, PRg X e t ∧ ∀ (T : Addr → Prop) (ρ : Env) (σ : L2.St) (H : Hp) (QD : Int → Int → Env → Prop) (Q : Int → Int → Hp → Prop), RS X.K T ρ σ H → f ρ QD →
    (∀ i j ρ' H', RS X.K T ρ' σ H' → Po ρ σ H ρ' σ H' → QD i j ρ' → Q i j H') → t σ H Q
def rg1 (fa : DE) : DR := fun ρ Q => fa ρ fun d ρ1 => match d with
  | .int n => Q 0 n ρ1
  | _ => False
def rg2 (fa fb : DE) : DR := fun ρ Q => fa ρ fun d ρ1 => fb ρ1 fun e ρ2 => match d, e with
  | .int n, .int m => Q n m ρ2
  | _, _ => False
theorem jr_1 (hm : X.mg "range" = none) (ha : JE X a fa) (hg : Gl X "range" := by rfl) (na : starEach [a] X.env = (false, eval a X.env) :: starEach [] X.env := by rfl) : JR X (.Call (.Name "range" p) [a] [] pos) (rg1 fa) := by
  obtain ⟨ta, pa, ka⟩ := ha.ex
  refine ⟨_, prg_1 hg hm pa na, fun T ρ σ H QD Q r h q => ka T ρ σ H _ _ r h fun d ρ1 v H1 r1 p1 v1 h => ?_⟩
  cases v1 with
  | int n => exact ⟨n, rfl, q _ _ _ _ r1 p1 h⟩
  | _ => exact False.elim h
theorem jr_2 (hm : X.mg "range" = none) (ha : JE X a fa) (hb : JE X b fb) (hg : Gl X "range" := by rfl) (na : starEach [a, b] X.env = (false, eval a X.env) :: starEach [b] X.env := by rfl) (nb : starEach [b] X.env = (false, eval b X.env) :: starEach [] X.env := by rfl) (hpl : (backTo pos (starEach [b] X.env)).any (·.1) = false := by rfl) :
    JR X (.Call (.Name "range" p) [a, b] [] pos) (rg2 fa fb) := by
  obtain ⟨ta, pa, ka⟩ := ha.ex
  obtain ⟨tb, pb, kb⟩ := hb.ex
  refine ⟨_, prg_2 hg hm pa pb na nb hpl, fun T ρ σ H QD Q r h q => ka T ρ σ H _ _ r h fun d ρ1 v H1 r1 p1 v1 h => kb T ρ1 σ H1 _ _ r1 h fun e ρ2 u H2 r2 p2 v2 h => ?_⟩
  cases v1 <;> cases v2 <;> first | exact False.elim h | exact ⟨_, _, rfl, rfl, q _ _ _ _ r2 (p1.trans p2) h⟩
def lRg (f : DR) : DL := fun ρ Q => f ρ fun i j ρ1 => RgD i j ∧ Q (rgD i j) ρ1
def dTRg (f : DR) : DE := fun ρ Q => f ρ fun i j ρ1 => RgD i j ∧ Q (.tuple (rgD i j)) ρ1
theorem jl_rg {f : DR} (hc : X.calm = true) (hm : X.mg "list" = none) (ha : JR X a f) (hg : Gl X "list" := by rfl) (na : starEach [a] X.env = (false, eval a X.env) :: starEach [] X.env := by rfl) : JL X (.Call (.Name "list" p) [a] [] pos) (lRg f) := by
  obtain ⟨ta, pa, ka⟩ := ha.ex
  refine ⟨_, pe_listRg hc hg hm pa na, fun T ρ σ H QD Q r h q => ka T ρ σ H _ _ r h fun i j ρ1 H1 r1 p1 h => ⟨rg_ok h.1, fun l hl => ?_⟩⟩
  exact q _ _ _ _ _ (none_back p1 hl) upd_same (r1.laid hl) (rg_rp i j) (p1.trans (.grow (Ex.new hl))) h.2
theorem je_tupRg {f : DR} (hc : X.calm = true) (hm : X.mg "tuple" = none) (ha : JR X a f) (hg : Gl X "tuple" := by rfl) (na : starEach [a] X.env = (false, eval a X.env) :: starEach [] X.env := by rfl) : JE X (.Call (.Name "tuple" p) [a] [] pos) (dTRg f) := by
  obtain ⟨ta, pa, ka⟩ := ha.ex
  refine ⟨_, pe_tupRg hc hg hm pa na, fun T ρ σ H QD Q r h q => ka T ρ σ H _ _ r h fun i j ρ1 H1 r1 p1 h => ⟨rg_ok h.1, fun l hl => ?_⟩⟩
  exact q _ _ _ _ (r1.grow (Ex.new hl)) (p1.trans (.grow (Ex.new hl))) (rp_newT (fun a => r1.hdDom) hl (rg_rp i j)) h.2
end
end Dn
set_option Elab.async false
set_option linter.all false
set_option maxRecDepth 100000
set_option autoImplicit false
set_option maxHeartbeats 4000000
namespace Dn
open PySem L2 Evl
/-! ### targets -/
structure JG (X : Cx) (tg : Expr) (vs : List Nat) (g : DG) : Prop where
  ex : ∃ t, PG X tg t ∧ ∀ (T : Addr → Prop) (ρ : Env) (σ : L2.St) (H : Hp) (v : V) (d : D) (QD : Env → Prop) (Q : L2.St → Hp → Prop), RS X.K T ρ σ H → Rp X.K (hide (Hd T ρ σ) H) v d → g d ρ QD →
    (∀ ρ' σ', RS X.K T ρ' σ' H → Po ρ σ H ρ' σ' H → wipe σ' vs = wipe σ vs → QD ρ' → Q σ' H) → t v σ H Q
structure JGs (X : Cx) (tgs : List Expr) (vs : List Nat) (g : List D → Env → (Env → Prop) → Prop) : Prop where
  ex : ∃ t, PGs X tgs t ∧ ∀ (T : Addr → Prop) (ρ : Env) (σ : L2.St) (H : Hp) (us : List V) (ds : List D) (QD : Env → Prop) (Q : L2.St → Hp → Prop), RS X.K T ρ σ H → RpAll X.K (hide (Hd T ρ σ) H) us ds → g ds ρ QD →
    (∀ ρ' σ', RS X.K T ρ' σ' H → Po ρ σ H ρ' σ' H → wipe σ' vs = wipe σ vs → QD ρ' → Q σ' H) → t us σ H Q
theorem wipe_set (σ : L2.St) (v : Option V) : ∀ (vs : List Nat) (i : Nat), i ∈ vs → wipe (σ.set i v) vs = wipe σ vs
  | [], i, h => by cases h
  | j :: vs, i, h => by
    show (wipe (σ.set i v) vs).set j none = (wipe σ vs).set j none
    by_cases e : i ∈ vs
    · rw [wipe_set σ v vs i e]
    · have : i = j := by rcases List.mem_cons.mp h with h | h; exact h; exact absurd h e
      subst this
      have aux : ∀ (ws : List Nat), i ∉ ws → wipe (σ.set i v) ws = (wipe σ ws).set i v := by
        intro ws
        induction ws with
        | nil => intro _; rfl
        | cons k ws ih =>
          intro hn
          show (wipe (σ.set i v) ws).set k none = ((wipe σ ws).set k none).set i v
          rw [ih (fun z => hn (List.mem_cons_of_mem _ z)), List.set_comm _ _ (fun z => hn (by rw [z]; exact List.mem_cons_self))]
      rw [aux vs e, List.set_set]
section
variable {X : Cx} {a b c e : Expr} {fa fb fc : DE} {pos p : Pos} {es : List Expr} {x : Str}
def gNm (i : Nat) : DG := fun d ρ Q => Q (ρ.set i (some (.im d)))
theorem jg_name {i : Nat} {vs : List Nat} (hN : X.N.Nodup) (hi : X.N[i]? = some x) (hx : Loc X.env.scope x) (hv : i ∈ vs := by decide) (hf : X.fn x = true ∨ X.env.scope.names.lookup x = some .local := by first | exact .inl rfl | exact .inr rfl | assumption) : JG X (.Name x pos) vs (gNm i) :=
  ⟨gName i, pg_name hN hi hx hf, fun T ρ σ H v d QD Q r rv h q => q _ _ (r.setIm rv) .setIm (wipe_set σ _ vs i hv) h⟩
def gsNil : List D → Env → (Env → Prop) → Prop := fun ds ρ Q => ds = [] ∧ Q ρ
def gsCons (g : DG) (gs : List D → Env → (Env → Prop) → Prop) : List D → Env → (Env → Prop) → Prop := fun ds ρ Q => match ds with
  | d :: ds => g d ρ fun ρ1 => gs ds ρ1 Q
  | [] => False
theorem jgs_nil {vs : List Nat} : JGs X [] vs gsNil := ⟨gNil, pgs_nil, fun T ρ σ H us ds QD Q r rv h q => by
  obtain ⟨rfl, h⟩ := h
  cases rv
  exact ⟨rfl, q _ _ r .refl rfl h⟩⟩
theorem jgs_cons {g : DG} {gs : List D → Env → (Env → Prop) → Prop} {vs : List Nat} (h1 : JG X e vs g) (h2 : JGs X es vs gs) (hs : (assignEach (e :: es) X.env).map (·.2) = assign e X.env :: (assignEach es X.env).map (·.2) := by rfl) : JGs X (e :: es) vs (gsCons g gs) := by
  obtain ⟨t1, p1, k1⟩ := h1.ex
  obtain ⟨t2, p2, k2⟩ := h2.ex
  refine ⟨_, pgs_cons p1 p2 hs, fun T ρ σ H us ds QD Q r rv h q => ?_⟩
  cases rv with
  | nil => exact False.elim h
  | cons rv rr => exact ⟨_, _, rfl, k1 T ρ σ H _ _ _ _ r rv h fun ρ1 σ1 r1 q1 w1 h => k2 T ρ1 σ1 H _ _ _ _ r1 (rr.mono q1.fz) h fun ρ2 σ2 r2 q2 w2 h => q _ _ r2 (q1.trans q2) (w2.trans w1) h⟩
def gTp (n : Nat) (gs : List D → Env → (Env → Prop) → Prop) : DG := fun d ρ Q => match d with
  | .tuple ds => ds.length = n ∧ gs ds ρ Q
  | _ => False
theorem jg_tup {k n : Nat} {gs : List D → Env → (Env → Prop) → Prop} {vs : List Nat} (hc : X.calm = true) (h : JGs X es vs gs) (hn : (assignEach es X.env).length = n := by rfl) (hst : (assignEach es X.env).findIdx? (·.1) = none := by rfl) : JG X (.Tuple es k pos) vs (gTp n gs) := by
  obtain ⟨t, pt, kt⟩ := h.ex
  refine ⟨_, pg_tup hc pt hn hst, fun T ρ σ H v d QD Q r rv h q => ?_⟩
  cases rv with
  | tup hp rr => exact ⟨_, _, rfl, sqt_of hp, by rw [rr.length]; exact h.1, kt T ρ σ H _ _ _ _ r rr h.2 q⟩
  | _ => exact False.elim h

/-! ### statements -/
def sNx : DS := fun E ρ => E.nx ρ
def sSeq (f g : DS) : DS := fun E ρ => f { E with nx := g E } ρ
theorem js_nil : JSs X [] sNx := ⟨tNext, pss_nil, fun T ρ σ H E D r h k => k.nx _ _ _ r .refl h⟩
theorem js_cons {st : Stmt} {sts : List Stmt} {f g : DS} (h1 : JS X st f) (h2 : JSs X sts g) : JSs X (st :: sts) (sSeq f g) := by
  obtain ⟨t1, p1, k1⟩ := h1.ex
  obtain ⟨t2, p2, k2⟩ := h2.ex
  refine ⟨_, pss_cons p1 p2, fun T ρ σ H E D r h k => ?_⟩
  exact k1 T ρ σ H _ _ r h ⟨fun ρ1 σ1 H1 r1 q1 h1 => k2 T ρ1 σ1 H1 E D r1 h1 (k.step q1), k.rt, k.bk, k.ct⟩
theorem js_one {st : Stmt} {f : DS} (h1 : JS X st f) : JSs X [st] f := by
  obtain ⟨t1, p1, k1⟩ := h1.ex
  refine ⟨_, pss_cons p1 pss_nil, fun T ρ σ H E D r h k => ?_⟩
  exact k1 T ρ σ H E _ r h ⟨k.nx, k.rt, k.bk, k.ct⟩
theorem js_pass : JS X (.Pass pos) sNx := ⟨tNext, ps_pass, fun T ρ σ H E D r h k => k.nx _ _ _ r .refl h⟩
def sBk : DS := fun E ρ => E.bk ρ
def sCt : DS := fun E ρ => E.ct ρ
theorem js_break : JS X (.Break pos) sBk := ⟨_, ps_break, fun T ρ σ H E D r h k => k.bk _ _ _ r .refl h⟩
theorem js_continue : JS X (.Continue pos) sCt := ⟨_, ps_continue, fun T ρ σ H E D r h k => k.ct _ _ _ r .refl h⟩
def sNever : DS := fun _ _ => False
theorem js_never {st : Stmt} : JS X st sNever := ⟨_, ps_never, fun T ρ σ H E D r h k => h.elim⟩
theorem jss_never {st : List Stmt} : JSs X st sNever := ⟨_, pss_never, fun T ρ σ H E D r h k => h.elim⟩
def sEx (f : DE) : DS := fun E ρ => f ρ fun _ ρ1 => E.nx ρ1
theorem js_expr (ha : JE X e fa) (hs : swapsWith e none pos.line X.env = pure false := by rfl) : JS X (.Expr e pos) (sEx fa) := by
  obtain ⟨t, pt, kt⟩ := ha.ex
  exact ⟨_, ps_expr pt hs, fun T ρ σ H E D r h k => kt T ρ σ H _ _ r h fun d ρ1 v H1 r1 p1 v1 h => k.nx _ _ _ r1 p1 h⟩
def sRet (f : DE) : DS := fun E ρ => f ρ E.rt
theorem js_ret (ha : JE X e fa) : JS X (.Return (some e) pos) (sRet fa) := by
  obtain ⟨t, pt, kt⟩ := ha.ex
  exact ⟨_, ps_ret pt, fun T ρ σ H E D r h k => kt T ρ σ H _ _ r h fun d ρ1 v H1 r1 p1 v1 h => k.rt _ _ _ _ _ r1 p1 v1 h⟩
def sRetN : DS := fun E ρ => E.rt .none ρ
theorem js_retN : JS X (.Return none pos) sRetN := ⟨_, ps_retN, fun T ρ σ H E D r h k => k.rt _ _ _ _ _ r .refl .non h⟩
/-- return x, x an owned list -/
def sRetO (i : Nat) : DS := fun E ρ => match ρ[i]? with
  | some (some (.ow (.lst ds))) => E.rt (.list ds) (ρ.set i (some (.im (.list ds))))
  | _ => False
theorem js_retO {i : Nat} {px : Pos} (hN : X.N[i]? = some x) (hv : Vis X.env.scope x) (hd : (x == ("__debug__" : Str)) = false := by decide) (hcd : (x == ("__classdict__" : Str)) = false := by decide) : JS X (.Return (some (.Name x px)) pos) (sRetO i) := by
  refine ⟨_, ps_ret (pe_var hN hv hd hcd), fun T ρ σ H E D r h k => ?_⟩
  unfold sRetO at h
  split at h
  · rename_i ds e1
    have rf := r.freeze e1
    obtain ⟨v, hv, rv⟩ := rf.im i (.list ds) (List.getElem?_set_self (List.getElem?_eq_some_iff.mp e1).1)
    exact ⟨v, hv, k.rt _ _ _ _ _ rf .freeze rv h⟩
  · exact False.elim h
def sIf (c : DT) (f g : DS) : DS := fun E ρ => c ρ fun b ρ1 => if b = true then f E ρ1 else g E ρ1
theorem js_if {g : DT} {sa sb : List Stmt} {f1 f2 : DS} (hc : JT X c g) (h1 : JSs X sa f1) (h2 : JSs X sb f2) : JS X (.If c sa sb pos) (sIf g f1 f2) := by
  obtain ⟨tc, pc, kc⟩ := hc.ex
  obtain ⟨t1, p1, k1⟩ := h1.ex
  obtain ⟨t2, p2, k2⟩ := h2.ex
  refine ⟨_, ps_if pc p1 p2, fun T ρ σ H E D r h k => kc T ρ σ H _ _ r h fun b ρ1 H1 r1 q1 h => ?_⟩
  cases b with
  | true => exact k1 T ρ1 σ H1 E D r1 h (k.step q1)
  | false => exact k2 T ρ1 σ H1 E D r1 h (k.step q1)
/-- a name is stored -/
def sSet (i : Nat) (f : DX) : DS := fun E ρ => f ρ fun sv ρ1 => E.nx (ρ1.set i (some sv))
theorem fits_set {K : PySem.W.Frag} {T : Addr → Prop} {ρ ρ0 : Env} {σ : L2.St} {H0 H : Hp} {v : V} {sv : SV} {i : Nat} (r0 : RS K T ρ0 σ H0) (q : Po ρ0 σ H0 ρ σ H) (h : Fits K T ρ σ H0 H v sv) : RS K T (ρ.set i (some sv)) (σ.set i (some v)) H ∧ Po ρ0 σ H0 (ρ.set i (some sv)) (σ.set i (some v)) H := by
  cases sv with
  | im d => exact ⟨h.1.setIm h.2, q.trans .setIm⟩
  | ow m =>
    obtain ⟨p, o, rfl, hn, ho, r, rr, np⟩ := h
    exact ⟨r.setOw ho rr (fun t => r0.dom p t hn) fun _ _ z => (np _ _ z).elim, q.setOw hn⟩
theorem js_set {i : Nat} {f : DX} {px : Pos} (he : JX X e f) (hN : X.N.Nodup) (hi : X.N[i]? = some x) (hx : Loc X.env.scope x) (hs : swapsWith e (some (.Name x px)) pos.line X.env = pure false := by rfl) (hf : X.fn x = true ∨ X.env.scope.names.lookup x = some .local := by first | exact .inl rfl | exact .inr rfl | assumption) : JS X (.Assign [.Name x px] e pos) (sSet i f) := by
  obtain ⟨t, pt, kt⟩ := he.ex
  refine ⟨_, ps_set hN hi hx pt hs hf, fun T ρ σ H E D r h k => kt T ρ σ H _ _ r h fun sv ρ1 v H1 fi q1 h => ?_⟩
  obtain ⟨r2, q2⟩ := fits_set (i := i) r q1 fi
  exact k.nx _ _ _ r2 q2 h
/-- any target -/
def sAsg (f : DE) (g : DG) : DS := fun E ρ => f ρ fun d ρ1 => g d ρ1 E.nx
theorem js_asg {tg : Expr} {g : DG} {vs : List Nat} (ha : JE X e fa) (hg : JG X tg vs g) (hs : swapsWithSole [tg] e pos.line X.env = pure false := by rfl) (hw : swappedStores [tg] e X.env = pure none := by rfl) (h1 : (assignEach [tg] X.env).map (·.2) = [assign tg X.env] := by rfl) : JS X (.Assign [tg] e pos) (sAsg fa g) := by
  obtain ⟨t, pt, kt⟩ := ha.ex
  obtain ⟨t2, p2, k2⟩ := hg.ex
  refine ⟨_, ps_asg pt p2 hs hw h1, fun T ρ σ H E D r h k => kt T ρ σ H _ _ r h fun d ρ1 v H1 r1 q1 v1 h => k2 T ρ1 σ H1 _ _ _ _ r1 v1 h fun ρ2 σ2 r2 q2 _ h => k.nx _ _ _ r2 (q1.trans q2) h⟩
/-- a, b = e1, e2 with plain local names -/
def sPar (i j : Nat) (f g : DX) : DS := fun E ρ => f ρ fun s1 ρ1 => g ρ1 fun s2 ρ2 => E.nx ((ρ2.set i (some s1)).set j (some s2))
end
end Dn
set_option Elab.async false
set_option linter.all false
set_option maxRecDepth 100000
set_option autoImplicit false
set_option maxHeartbeats 4000000
namespace Dn
open PySem L2 Evl
section
variable {X : Cx} {a b c e : Expr} {fa fb fc : DE} {pos p : Pos} {es : List Expr} {x y : Str}
theorem setc {α : Type} {l : List α} {i j : Nat} {u v : α} (h : i ≠ j) : (l.set i u).set j v = (l.set j v).set i u := List.set_comm u v h
theorem Fits.grow {K : PySem.W.Frag} {T : Addr → Prop} {ρ : Env} {σ : L2.St} {H0 H H' : Hp} {v : V} {sv : SV} (h : Fits K T ρ σ H0 H v sv) (e : Ex H H') : Fits K T ρ σ H0 H' v sv := by
  cases sv with
  | im d => exact ⟨h.1.grow e, h.2.mono (hide_grow e)⟩
  | ow m => obtain ⟨q, o, h1, h2, h3, h4, h5, h6⟩ := h; exact ⟨q, o, h1, h2, e _ _ h3, h4.grow e, h5.mono (hide_grow e), h6⟩
/-- the temps under which the next part is reckoned -/
def SV.temps (v : V) (sv : SV) (T : Addr → Prop) : Addr → Prop := match sv, v with
  | .ow _, .ref p => plus T p
  | _, _ => T
theorem Fits.rs {K : PySem.W.Frag} {T : Addr → Prop} {ρ : Env} {σ : L2.St} {H0 H : Hp} {v : V} {sv : SV} (h : Fits K T ρ σ H0 H v sv) : RS K (sv.temps v T) ρ σ H := by
  cases sv with
  | im d => exact h.1
  | ow m => obtain ⟨q, o, rfl, h2, h3, h4, h5, _⟩ := h; exact h4
theorem par_fin {K : PySem.W.Frag} {T : Addr → Prop} {ρ ρ1 ρ2 : Env} {σ : L2.St} {H H1 H2 : Hp} {v w : V} {s1 s2 : SV} {i j : Nat} (hij : i ≠ j) (r : RS K T ρ σ H) (f1 : Fits K T ρ1 σ H H1 v s1) (q1 : Po ρ σ H ρ1 σ H1)
    (f2 : Fits K (s1.temps v T) ρ2 σ H1 H2 w s2) (q2 : Po ρ1 σ H1 ρ2 σ H2) : RS K T ((ρ2.set i (some s1)).set j (some s2)) ((σ.set i (some v)).set j (some w)) H2 ∧ Po ρ σ H ((ρ2.set i (some s1)).set j (some s2)) ((σ.set i (some v)).set j (some w)) H2 := by
  rw [setc hij, setc hij]
  obtain ⟨r3, q3⟩ := fits_set (i := j) f1.rs q2 f2
  cases s1 with
  | im d => exact ⟨r3.setIm (f1.2.mono q3.fz), (q1.trans q3).trans .setIm⟩
  | ow m =>
    obtain ⟨p, o, rfl, hn, ho, r4, rr, np⟩ := f1
    have no : ¬ Own ρ1 σ p := r4.dis p (.inl rfl)
    exact ⟨r3.setOw (q3.keep p o no ho) (rr.mono q3.fz) (fun t => r.dom p t hn) fun _ _ z => (np _ _ z).elim, (q1.trans q3).setOw hn⟩
theorem js_par {i j : Nat} {f g : DX} {px py pt : Pos} {kt k2 pt2} (hc : X.calm = true) (hN : X.N.Nodup) (hi : X.N[i]? = some x) (hj : X.N[j]? = some y) (hij : i ≠ j) (hx : X.env.scope.names.lookup x = some .local) (hy : X.env.scope.names.lookup y = some .local)
    (ha : JX X a f) (hb : JX X b g) (hw : swappedStores [.Tuple [.Name x px, .Name y py] kt pt] (.Tuple [a, b] k2 pt2) X.env = pure (some [x, y])) (hs : swapsWithSole [.Tuple [.Name x px, .Name y py] kt pt] (.Tuple [a, b] k2 pt2) pos.line X.env = pure false := by rfl)
    (h1 : starEach [a, b] X.env = (false, eval a X.env) :: starEach [b] X.env := by rfl) (h2 : starEach [b] X.env = (false, eval b X.env) :: starEach [] X.env := by rfl) :
    JS X (.Assign [.Tuple [.Name x px, .Name y py] kt pt] (.Tuple [a, b] k2 pt2) pos) (sPar i j f g) := by
  obtain ⟨t1, p1, k1⟩ := ha.ex
  obtain ⟨t2, p2, k2⟩ := hb.ex
  refine ⟨_, ps_par hc hN hi hj hij hx hy (pa_cons p1 (pa_cons p2 pa_nil h2) h1) hw hs, fun T ρ σ H E D r h k => ?_⟩
  refine k1 T ρ σ H _ _ r h fun s1 ρ1 v H1 f1 q1 h => k2 (s1.temps v T) ρ1 σ H1 _ _ f1.rs h fun s2 ρ2 w H2 f2 q2 h => ⟨v, w, rfl, ?_⟩
  obtain ⟨r3, q3⟩ := par_fin hij r f1 q1 f2 q2
  exact k.nx _ _ _ r3 q3 h
/-- the same where the names are cells, too: the pair is made -/
theorem js_parT {i j : Nat} {f g : DX} {px py pt : Pos} {kt k2 pt2} (hc : X.calm = true) (hN : X.N.Nodup) (hi : X.N[i]? = some x) (hj : X.N[j]? = some y) (hij : i ≠ j) (hx : Loc X.env.scope x) (hy : Loc X.env.scope y)
    (ha : JX X a f) (hb : JX X b g) (hfx : X.fn x = true ∨ X.env.scope.names.lookup x = some .local := by first | exact .inl rfl | exact .inr rfl | assumption) (hfy : X.fn y = true ∨ X.env.scope.names.lookup y = some .local := by first | exact .inl rfl | exact .inr rfl | assumption)
    (hw : swappedStores [.Tuple [.Name x px, .Name y py] kt pt] (.Tuple [a, b] k2 pt2) X.env = pure none := by rfl) (hs : swapsWithSole [.Tuple [.Name x px, .Name y py] kt pt] (.Tuple [a, b] k2 pt2) pos.line X.env = pure false := by rfl)
    (h1 : starEach [a, b] X.env = (false, eval a X.env) :: starEach [b] X.env := by rfl) (h2 : starEach [b] X.env = (false, eval b X.env) :: starEach [] X.env := by rfl)
    (h3 : (assignEach [.Tuple [.Name x px, .Name y py] kt pt] X.env).map (·.2) = [assign (.Tuple [.Name x px, .Name y py] kt pt) X.env] := by rfl) (h4 : (assignEach [.Name x px, .Name y py] X.env).length = 2 := by rfl) (h5 : (assignEach [.Name x px, .Name y py] X.env).findIdx? (·.1) = none := by rfl)
    (h6 : (assignEach [.Name x px, .Name y py] X.env).map (·.2) = assign (.Name x px) X.env :: (assignEach [.Name y py] X.env).map (·.2) := by rfl) (h7 : (assignEach [.Name y py] X.env).map (·.2) = assign (.Name y py) X.env :: (assignEach [] X.env).map (·.2) := by rfl) :
    JS X (.Assign [.Tuple [.Name x px, .Name y py] kt pt] (.Tuple [a, b] k2 pt2) pos) (sPar i j f g) := by
  obtain ⟨t1, p1, k1⟩ := ha.ex
  obtain ⟨t2, p2, k2⟩ := hb.ex
  refine ⟨_, ps_asg (pe_tup (pa_cons p1 (pa_cons p2 pa_nil h2) h1)) (pg_tup hc (pgs_cons (pg_name hN hi hx hfx) (pgs_cons (pg_name hN hj hy hfy) pgs_nil h7) h6) h4 h5) hs hw h3, fun T ρ σ H E D r h k => ?_⟩
  refine k1 T ρ σ H _ _ r h fun s1 ρ1 v H1 f1 q1 h => k2 (s1.temps v T) ρ1 σ H1 _ _ f1.rs h fun s2 ρ2 w H2 f2 q2 h => ⟨by show 2 ≤ sizeLine; decide, fun l hl => ?_⟩
  obtain ⟨r3, q3⟩ := par_fin hij r f1 q1 (f2.grow (Ex.new hl)) (q2.trans (.grow (Ex.new hl)))
  exact ⟨l, [v, w], rfl, .inl (.inl upd_same), rfl, _, _, rfl, _, _, rfl, rfl, k.nx _ _ _ r3 q3 h⟩

/-! ### what is walked -/
structure ItOk (K : PySem.W.Frag) (J : It) (G : Hp) (ds : List D) : Prop where
  stop : ∀ H, Ex G H → J.stop ds.length H
  step : ∀ (i : Nat) (d : D) (H : Hp), ds[i]? = some d → Ex G H → J.go i H ∧ ∀ x H', J.yld i H x H' → Ex H H' ∧ ∀ O : Addr → Prop, (∀ a, O a → H a ≠ none) → Ex G (hide O H) → Rp K (hide O H') x d
structure JI (X : Cx) (tg iter : Expr) (f : DL) : Prop where
  ex : ∃ wi, PI X tg iter wi ∧ ∀ (T : Addr → Prop) (ρ : Env) (σ : L2.St) (H : Hp) (QD : List D → Env → Prop) (R : It → Hp → Prop), RS X.K T ρ σ H → f ρ QD →
    (∀ ds ρ' J H', RS X.K T ρ' σ H' → Po ρ σ H ρ' σ H' → ItOk X.K J (hide (Hd T ρ' σ) H') ds → QD ds ρ' → R J H') → wi σ H R
theorem it_list {K : PySem.W.Frag} {G : Hp} {a : Addr} {xs : List V} {ds : List D} (h : SqL K G a xs) (r : RpAll K G xs ds) : ItOk K (Itl K a) G ds :=
  ⟨fun H e => ⟨xs, ex_l e h, by rw [r.length]; exact Nat.le_refl _⟩, fun i d H hd e => by
    obtain ⟨v, h1, h2⟩ := r.get hd
    refine ⟨⟨xs, v, ex_l e h, h1⟩, fun x H' y => ?_⟩
    obtain ⟨rfl, y⟩ := y
    have := y xs (ex_l e h)
    rw [h1] at this; cases this
    exact ⟨Ex.refl _, fun O _ eo => h2.mono eo⟩⟩
theorem it_tup {K : PySem.W.Frag} {G : Hp} {a : Addr} {xs : List V} {ds : List D} (h : SqT K G a xs) (r : RpAll K G xs ds) : ItOk K (Itt K a) G ds :=
  ⟨fun H e => ⟨xs, ex_t e h, by rw [r.length]; exact Nat.le_refl _⟩, fun i d H hd e => by
    obtain ⟨v, h1, h2⟩ := r.get hd
    refine ⟨⟨xs, v, ex_t e h, h1⟩, fun x H' y => ?_⟩
    obtain ⟨rfl, y⟩ := y
    have := y xs (ex_t e h)
    rw [h1] at this; cases this
    exact ⟨Ex.refl _, fun O _ eo => h2.mono eo⟩⟩
theorem it_range {K : PySem.W.Frag} {G : Hp} (i j : Int) : ItOk K (Itr i (j - i).toNat) G (rgD i j) :=
  ⟨fun H e => by show (j - i).toNat ≤ (rgD i j).length; unfold rgD; simp, fun k d H hd e => by
    unfold rgD at hd
    rw [List.getElem?_map] at hd
    obtain ⟨m, hm, rfl⟩ := Option.map_eq_some_iff.mp hd
    obtain ⟨hk, hm⟩ := List.getElem?_eq_some_iff.mp hm
    simp at hk hm
    subst hm
    refine ⟨by show k < (j - i).toNat; omega, fun x H' y => ?_⟩
    obtain ⟨rfl, rfl⟩ := y
    exact ⟨Ex.refl _, fun O _ eo => .int _⟩⟩
variable {tg : Expr}
/-- over a list, told by its kind -/
def iLs (f : DE) : DL := fun ρ Q => f ρ fun d ρ1 => match d with
  | .list ds => Q ds ρ1
  | _ => False
def iTp (f : DE) : DL := fun ρ Q => f ρ fun d ρ1 => match d with
  | .tuple ds => Q ds ρ1
  | _ => False
theorem ji_list (ha : JE X a fa) : JI X tg a (iLs fa) := by
  obtain ⟨t, pt, kt⟩ := ha.ex
  refine ⟨_, pi_list pt, fun T ρ σ H QD R r h q => kt T ρ σ H _ _ r h fun d ρ1 v H1 r1 p1 v1 h => ?_⟩
  cases v1 with
  | lst hp rr => exact ⟨_, rfl, ⟨_, .inl (.inl (at_of hp))⟩, q _ _ _ _ r1 p1 (it_list (.inl (.inl hp)) rr) h⟩
  | _ => exact False.elim h
theorem ji_tup (ha : JE X a fa) : JI X tg a (iTp fa) := by
  obtain ⟨t, pt, kt⟩ := ha.ex
  refine ⟨_, pi_tup pt, fun T ρ σ H QD R r h q => kt T ρ σ H _ _ r h fun d ρ1 v H1 r1 p1 v1 h => ?_⟩
  cases v1 with
  | tup hp rr => exact ⟨_, rfl, ⟨_, sqt_of hp⟩, q _ _ _ _ r1 p1 (it_tup (lt_of hp) rr) h⟩
  | _ => exact False.elim h
/-- over an owned list: from there on it stands as it is -/
def iOw (i : Nat) : DL := fun ρ Q => match ρ[i]? with
  | some (some (.ow (.lst ds))) => Q ds (ρ.set i (some (.im (.list ds))))
  | _ => False
theorem ji_own {i : Nat} {px : Pos} (hN : X.N[i]? = some x) (hv : Vis X.env.scope x) (hd : (x == ("__debug__" : Str)) = false := by decide) (hcd : (x == ("__classdict__" : Str)) = false := by decide) : JI X tg (.Name x px) (iOw i) := by
  refine ⟨_, pi_list (pe_var hN hv hd hcd), fun T ρ σ H QD R r h q => ?_⟩
  unfold iOw at h
  split at h
  · rename_i ds e1
    have rf := r.freeze e1
    obtain ⟨v, hv, rv⟩ := rf.im i (.list ds) (List.getElem?_set_self (List.getElem?_eq_some_iff.mp e1).1)
    cases rv with
    | lst hp rr => exact ⟨_, hv, _, rfl, ⟨_, .inl (.inl (at_of hp))⟩, q _ _ _ _ rf .freeze (it_list (.inl (.inl hp)) rr) h⟩
  · exact False.elim h
def iR1 (f : DE) : DL := fun ρ Q => f ρ fun d ρ1 => match d with
  | .int n => RgD 0 n ∧ Q (rgD 0 n) ρ1
  | _ => False
def iR2 (f g : DE) : DL := fun ρ Q => f ρ fun d ρ1 => g ρ1 fun e ρ2 => match d, e with
  | .int i, .int j => RgD i j ∧ Q (rgD i j) ρ2
  | _, _ => False
theorem ji_r1 (hm : X.mg "range" = none) (ha : JE X a fa) (hg : Gl X "range" := by rfl) (hs : starEach [a] X.env = [(false, eval a X.env)] := by rfl) : JI X tg (.Call (.Name "range" p) [a] [] pos) (iR1 fa) := by
  obtain ⟨t, pt, kt⟩ := ha.ex
  refine ⟨_, pi_range1 hg hm (pa_cons pt pa_nil hs) hs, fun T ρ σ H QD R r h q => kt T ρ σ H _ _ r h fun d ρ1 v H1 r1 p1 v1 h => ?_⟩
  cases v1 with
  | int n =>
    obtain ⟨⟨_, _, h1, h2⟩, h⟩ := h
    have z := q _ _ _ _ r1 p1 (it_range (K := X.K) 0 n) h
    rw [show (n - 0).toNat = n.toNat from by congr 1; omega] at z
    exact ⟨n, rfl, by omega, by omega, z⟩
  | _ => exact False.elim h
theorem ji_r2 (hm : X.mg "range" = none) (ha : JE X a fa) (hb : JE X b fb) (hg : Gl X "range" := by rfl) (hs : starEach [a, b] X.env = [(false, eval a X.env), (false, eval b X.env)] := by rfl) (hs2 : starEach [b] X.env = [(false, eval b X.env)] := by rfl) : JI X tg (.Call (.Name "range" p) [a, b] [] pos) (iR2 fa fb) := by
  obtain ⟨t, pt, kt⟩ := ha.ex
  obtain ⟨t2, pt2, kt2⟩ := hb.ex
  refine ⟨_, pi_range2 hg hm (pa_cons pt (pa_cons pt2 pa_nil hs2) (by rw [hs, hs2])) hs hs2, fun T ρ σ H QD R r h q => kt T ρ σ H _ _ r h fun d ρ1 v H1 r1 p1 v1 h => kt2 T ρ1 σ H1 _ _ r1 h fun d ρ2 w H2 r2 p2 v2 h => ?_⟩
  cases v1 <;> cases v2 <;> first | exact False.elim h | skip
  obtain ⟨⟨h1, h2, h3, h4⟩, h⟩ := h
  exact ⟨_, _, rfl, ⟨by omega, by omega, by omega, by omega⟩, q _ _ _ _ r2 (p1.trans p2) (it_range (K := X.K) _ _) h⟩
/-- enumerate of a list -/
def enD (ds : List D) : List D := (List.range ds.length).zipWith (fun k d => .tuple [.int (k : Nat), d]) ds
theorem enD_get {ds : List D} {i : Nat} {d : D} (h : (enD ds)[i]? = some d) : ∃ e, ds[i]? = some e ∧ d = .tuple [.int (i : Nat), e] := by
  unfold enD at h
  rw [List.getElem?_zipWith] at h
  by_cases hi : i < ds.length
  · rw [List.getElem?_range hi, List.getElem?_eq_getElem hi] at h
    simp at h
    exact ⟨_, List.getElem?_eq_getElem hi, h.symm⟩
  · rw [List.getElem?_eq_none_iff.mpr (show ds.length ≤ i by omega)] at h
    cases hr : (List.range ds.length)[i]? <;> rw [hr] at h <;> cases h
theorem enD_len {ds : List D} : (enD ds).length = ds.length := by unfold enD; simp
def iEnL (f : DE) : DL := fun ρ Q => f ρ fun d ρ1 => match d with
  | .list ds => Q (enD ds) ρ1
  | _ => False
theorem ji_enumL {elts : List Expr} {kk : Nat} {tpos : Pos} (hm : X.mg "enumerate" = none) (ha : JE X a fa) (hg : Gl X "enumerate" := by rfl) (hs : starEach [a] X.env = [(false, eval a X.env)] := by rfl) : JI X (.Tuple elts kk tpos) (.Call (.Name "enumerate" p) [a] [] pos) (iEnL fa) := by
  obtain ⟨t, pt, kt⟩ := ha.ex
  refine ⟨_, pi_enum hg hm (pa_cons pt pa_nil hs) hs, fun T ρ σ H QD R r h q => kt T ρ σ H _ _ r h fun d ρ1 v H1 r1 p1 v1 h => ?_⟩
  cases v1 with
  | @lst a xs ds hp rr =>
    refine ⟨_, _, rfl, .inl (.inl (at_of hp)), q _ _ _ _ r1 p1 ⟨fun H e => ⟨xs, .inl (.inl (e _ _ hp)), by rw [enD_len, rr.length]; exact Nat.le_refl _⟩, fun i d H hd e => ?_⟩ h⟩
    obtain ⟨g, hg, rfl⟩ := enD_get hd
    obtain ⟨u, hu, ru⟩ := rr.get hg
    refine ⟨⟨xs, u, .inl (.inl (e _ _ hp)), hu⟩, fun x H' y => ?_⟩
    obtain ⟨l, z, rfl, hl, rfl, y⟩ := y
    have := y xs (.inl (.inl (e _ _ hp)))
    rw [hu] at this; cases this
    exact ⟨Ex.new hl, fun O hO eo => rp_newT hO hl (.cons (.int _) (.cons (ru.mono eo) .nil))⟩
  | _ => exact False.elim h
end
end Dn
set_option Elab.async false
set_option linter.all false
set_option maxRecDepth 100000
set_option autoImplicit false
set_option maxHeartbeats 4000000
namespace Dn
open PySem L2 Evl
/-! ### loops -/
def wpFor (g : DG) (body : DS) (E : DEnds) : List D → Env → Prop
  | [], ρ => E.nx ρ
  | d :: ds, ρ => g d ρ fun ρ1 => body { nx := fun ρ2 => wpFor g body E ds ρ2, ct := fun ρ2 => wpFor g body E ds ρ2, bk := E.nx, rt := E.rt } ρ1
def sFor (fi : DL) (g : DG) (body : DS) : DS := fun E ρ => fi ρ fun ds ρ1 => wpFor g body E ds ρ1
def wpWh (c : DT) (body : DS) (E : DEnds) : Nat → Env → Prop
  | 0, _ => False
  | n + 1, ρ => c ρ fun b ρ1 => if b = true then body { nx := wpWh c body E n, ct := wpWh c body E n, bk := E.nx, rt := E.rt } ρ1 else E.nx ρ1
def sWh (c : DT) (body : DS) : DS := fun E ρ => ∃ n, wpWh c body E n ρ
section
variable {X : Cx} {a b c e : Expr} {fa fb fc : DE} {pos p : Pos} {es : List Expr} {x y : Str}
theorem js_for {tg iter : Expr} {body : List Stmt} {fi : DL} {g : DG} {vs : List Nat} {f : DS} (hc : X.calm = true) (hi : JI X tg iter fi) (hg : JG X tg vs g) (hb : JSs X body f) (hp : PassesOwn (model X.prog X.w) X.A X.env X.xe := by exact PassesOwn.never)
    (hs : ∀ x, foldedSetIterable iter X.env x = pure x := by intro _; rfl) : JS X (.For tg iter body [] pos) (sFor fi g f) := by
  obtain ⟨wi, pi, ki⟩ := hi.ex
  obtain ⟨tg', pg, kg⟩ := hg.ex
  obtain ⟨tb, pb, kb⟩ := hb.ex
  refine ⟨_, ps_for hp hc pi pg pb hs, fun T ρ σ H E D r h k => ki T ρ σ H _ _ r h fun ds ρ1 J H1 r1 p1 it h => ?_⟩
  refine ⟨fun i m σ' H' => i ≤ ds.length ∧ m = ds.length - i ∧ ∃ ρ', RS X.K T ρ' σ' H' ∧ Po ρ1 σ H1 ρ' σ' H' ∧ wpFor g f E (ds.drop i) ρ', ⟨ds.length, Nat.zero_le _, rfl, ρ1, r1, .refl, h⟩, ?_⟩
  rintro i m σ' H' ⟨hi, rfl, ρ', r', p', h⟩
  have eG : Ex (hide (Hd T ρ1 σ) H1) H' := (p'.fz (T := T)).trans hide_ex
  by_cases hl : i < ds.length
  · rw [List.drop_eq_getElem_cons hl] at h
    obtain ⟨go, st⟩ := it.step i ds[i] H' (List.getElem?_eq_getElem hl) eG
    refine .inr ⟨go, fun σ2 H2 => ∃ ρ2, RS X.K T ρ2 σ2 H2 ∧ Po ρ1 σ H1 ρ2 σ2 H2 ∧ wpFor g f E (ds.drop (i + 1)) ρ2, fun σ2 H2 ⟨ρ2, a1, a2, a3⟩ => ⟨ds.length - (i + 1), by omega, by omega, rfl, ρ2, a1, a2, a3⟩, fun v H2 hy => ?_⟩
    obtain ⟨ex, rv⟩ := st v H2 hy
    have r2 := r'.grow ex
    have p2 := p'.trans (Po.grow (ρ := ρ') (σ := σ') ex)
    refine kg T ρ' σ' H2 v _ _ _ r2 (rv _ (fun a => r'.hdDom) (p'.fz (T := T))) h fun ρ3 σ3 r3 p3 _ h => ?_
    refine kb T ρ3 σ3 H2 _ _ r3 h ⟨fun ρ4 σ4 H4 r4 p4 h => ⟨ρ4, r4, (p2.trans p3).trans p4, h⟩, fun d ρ4 σ4 v4 H4 r4 p4 v5 h => k.rt d ρ4 σ4 v4 H4 r4 ((p1.trans (p2.trans p3)).trans p4) v5 h, fun ρ4 σ4 H4 r4 p4 h => k.nx ρ4 σ4 H4 r4 ((p1.trans (p2.trans p3)).trans p4) h, fun ρ4 σ4 H4 r4 p4 h => ⟨ρ4, r4, (p2.trans p3).trans p4, h⟩⟩
  · have e : i = ds.length := by omega
    subst e
    rw [List.drop_length] at h
    exact .inl ⟨it.stop H' eG, k.nx _ _ _ r' (p1.trans p') h⟩
theorem js_while {body : List Stmt} {g : DT} {f : DS} (hc : JT X c g) (hb : JSs X body f) (hp : PassesOwn (model X.prog X.w) X.A X.env X.xe := by exact PassesOwn.never) : JS X (.While c body [] pos) (sWh g f) := by
  obtain ⟨tc, pc, kc⟩ := hc.ex
  obtain ⟨tb, pb, kb⟩ := hb.ex
  refine ⟨_, ps_while hp pc pb, fun T ρ σ H E D r h k => ?_⟩
  obtain ⟨n, h⟩ := h
  refine ⟨fun m σ' H' => ∃ ρ', RS X.K T ρ' σ' H' ∧ Po ρ σ H ρ' σ' H' ∧ wpWh g f E m ρ', ⟨n, ρ, r, .refl, h⟩, ?_⟩
  rintro m σ' H' ⟨ρ', r', p', h⟩
  cases m with
  | zero => exact False.elim h
  | succ m =>
    refine kc T ρ' σ' H' _ _ r' h fun b ρ1 H1 r1 p1 h => ?_
    cases b with
    | false => exact k.nx _ _ _ r1 (p'.trans p1) h
    | true =>
      rw [if_pos rfl] at h ⊢
      refine ⟨fun σ2 H2 => ∃ ρ2, RS X.K T ρ2 σ2 H2 ∧ Po ρ σ H ρ2 σ2 H2 ∧ wpWh g f E m ρ2, fun σ2 H2 ⟨ρ2, a1, a2, a3⟩ => ⟨m, Nat.lt_succ_self m, ρ2, a1, a2, a3⟩, ?_⟩
      have q := p'.trans p1
      exact kb T ρ1 σ' H1 _ _ r1 h ⟨fun ρ4 σ4 H4 r4 p4 h => ⟨ρ4, r4, q.trans p4, h⟩, fun d ρ4 σ4 v4 H4 r4 p4 v5 h => k.rt d ρ4 σ4 v4 H4 r4 (q.trans p4) v5 h, fun ρ4 σ4 H4 r4 p4 h => k.nx ρ4 σ4 H4 r4 (q.trans p4) h, fun ρ4 σ4 H4 r4 p4 h => ⟨ρ4, r4, q.trans p4, h⟩⟩

/-! ### list comprehensions -/
def wipeD (ρ : Env) : List Nat → Env
  | [] => ρ
  | v :: vs => (wipeD ρ vs).set v none
section
variable {K : PySem.W.Frag} {T : Addr → Prop} {ρ ρ' : Env} {σ σ' : L2.St} {H H' : Hp}
theorem own_congr (hs : ∀ (i : Nat) (sv : SV), ρ[i]? = some (some sv) → σ'[i]? = σ[i]?) {a : Addr} (w : Own ρ σ' a) : Own ρ σ a := by
  obtain ⟨i, m, h1, h2⟩ := w
  exact ⟨i, m, h1, by rw [← hs i _ h1]; exact h2⟩
theorem RS.congr (r : RS K T ρ σ H) (hl : σ'.length = σ.length) (hs : ∀ (i : Nat) (sv : SV), ρ[i]? = some (some sv) → σ'[i]? = σ[i]?) : RS K T ρ σ' H := by
  have e : Ex (hide (Hd T ρ σ) H) (hide (Hd T ρ σ') H) := hide_sub fun a w => w.elim .inl fun w => .inr (own_congr hs w)
  refine ⟨by rw [r.len, hl], fun i d h => ?_, fun i m h => ?_, fun i j m m' a h1 h2 h3 h4 => ?_, fun a t w => r.dis a t (own_congr hs w), r.dom, fun i p m a h1 h2 => by rw [hs i _ h1] at h2; exact r.tag i p m a h1 h2⟩
  · obtain ⟨v, h1, h2⟩ := r.im i d h; exact ⟨v, by rw [hs i _ h]; exact h1, h2.mono e⟩
  · obtain ⟨a, o, h1, h2, h3⟩ := r.ow i m h; exact ⟨a, o, by rw [hs i _ h]; exact h1, h2, h3.mono e⟩
  · rw [hs i _ h1] at h3; rw [hs j _ h2] at h4; exact r.inj i j m m' a h1 h2 h3 h4
theorem own_drop {i : Nat} {a : Addr} (w : Own (ρ.set i none) σ a) : Own ρ σ a := by
  obtain ⟨j, m, h1, h2⟩ := w
  rcases getset h1 with ⟨_, _, h⟩ | ⟨_, h⟩
  · cases h
  · exact ⟨j, m, h, h2⟩
theorem RS.drop {i : Nat} (r : RS K T ρ σ H) : RS K T (ρ.set i none) σ H := by
  have e : Ex (hide (Hd T ρ σ) H) (hide (Hd T (ρ.set i none) σ) H) := hide_sub fun a w => w.elim .inl fun w => .inr (own_drop w)
  refine ⟨by simp [r.len], fun j d h => ?_, fun j m h => ?_, fun j k m m' a h1 h2 h3 h4 => ?_, fun a t w => r.dis a t (own_drop w), r.dom, fun j p m a h1 h2 => ?_⟩
  · rcases getset h with ⟨_, _, h⟩ | ⟨_, h⟩
    · cases h
    · obtain ⟨v, h1, h2⟩ := r.im j d h; exact ⟨v, h1, h2.mono e⟩
  · rcases getset h with ⟨_, _, h⟩ | ⟨_, h⟩
    · cases h
    · obtain ⟨a, o, h1, h2, h3⟩ := r.ow j m h; exact ⟨a, o, h1, h2, h3.mono e⟩
  · rcases getset h1 with ⟨_, _, h1⟩ | ⟨_, h1⟩
    · cases h1
    · rcases getset h2 with ⟨_, _, h2⟩ | ⟨_, h2⟩
      · cases h2
      · exact r.inj j k m m' a h1 h2 h3 h4
  · rcases getset h1 with ⟨_, _, h1⟩ | ⟨_, h1⟩
    · cases h1
    · exact r.tag j p m a h1 h2
theorem Po.drop {i : Nat} : Po ρ σ H (ρ.set i none) σ H := ⟨fun _ _ _ h => h, fun a w => .inl (own_drop w), fun _ h => h⟩
theorem RS.dropAll (r : RS K T ρ σ H) : ∀ vs : List Nat, RS K T (wipeD ρ vs) σ H
  | [] => r
  | v :: vs => (RS.dropAll r vs).drop
theorem Po.dropAll : ∀ vs : List Nat, Po ρ σ H (wipeD ρ vs) σ H
  | [] => .refl
  | v :: vs => (Po.dropAll vs).trans .drop
theorem wipeD_none : ∀ (vs : List Nat) (i : Nat) (sv : SV), (wipeD ρ vs)[i]? = some (some sv) → i ∉ vs
  | [], _, _, _ => by simp
  | v :: vs, i, sv, h => by
    rcases getset (show ((wipeD ρ vs).set v none)[i]? = _ from h) with ⟨_, _, h⟩ | ⟨ne, h⟩
    · cases h
    · intro z
      rcases List.mem_cons.mp z with z | z
      · exact ne z.symm
      · exact wipeD_none vs i sv h z
theorem wipe_ne : ∀ (vs : List Nat) (i : Nat), i ∉ vs → (wipe σ vs)[i]? = σ[i]?
  | [], _, _ => rfl
  | v :: vs, i, h => by
    show ((wipe σ vs).set v none)[i]? = _
    rw [List.getElem?_set_ne (fun z => h (by rw [z]; exact List.mem_cons_self)), wipe_ne vs i fun z => h (List.mem_cons_of_mem _ z)]
/-- the slots vs are forgotten: what stands there does not matter -/
theorem RS.wiped (r : RS K T ρ σ H) (vs : List Nat) : RS K T (wipeD ρ vs) (wipe σ vs) H := (r.dropAll vs).congr (wipe_length σ vs) fun i sv h => wipe_ne vs i (wipeD_none vs i sv h)
theorem own_wipe {vs : List Nat} {a : Addr} (w : Own (wipeD ρ vs) (wipe σ vs) a) : Own ρ σ a := by
  have w' : Own (wipeD ρ vs) σ a := own_congr (fun i sv h => wipe_ne vs i (wipeD_none vs i sv h)) w
  rcases (Po.dropAll (ρ := ρ) (σ := σ) (H := fun _ => some (.tup [])) vs).own a w' with h | h
  · exact h
  · cases h
theorem Po.wiped (vs : List Nat) : Po ρ σ H (wipeD ρ vs) (wipe σ vs) H := ⟨fun _ _ _ h => h, fun a w => .inl (own_wipe w), fun _ h => h⟩
theorem RS.unwipe {vs : List Nat} (r : RS K T (wipeD ρ vs) (wipe σ vs) H) : RS K T (wipeD ρ vs) σ H := r.congr (wipe_length σ vs).symm fun i sv h => (wipe_ne vs i (wipeD_none vs i sv h)).symm
theorem own_unwipe {vs : List Nat} {a : Addr} (w : Own (wipeD ρ vs) σ a) : Own (wipeD ρ vs) (wipe σ vs) a := own_congr (fun i sv h => (wipe_ne vs i (wipeD_none vs i sv h)).symm) w
end
structure JTs (X : Cx) (ifs : List Expr) (f : DT) : Prop where
  ex : ∃ t, PTs X ifs t ∧ ∀ (T : Addr → Prop) (ρ : Env) (σ : L2.St) (H : Hp) (QD : Bool → Env → Prop) (Q : Bool → Hp → Prop), RS X.K T ρ σ H → f ρ QD →
    (∀ b ρ' H', RS X.K T ρ' σ H' → Po ρ σ H ρ' σ H' → QD b ρ' → Q b H') → t σ H Q
def dYes : DT := fun ρ Q => Q true ρ
theorem jts_nil : JTs X [] dYes := ⟨tYes, pts_nil, fun T ρ σ H QD Q r h q => q _ _ _ r .refl h⟩
theorem jts_one {g : DT} (h : JT X c g) : JTs X [c] g := let ⟨t, pt, k⟩ := h.ex; ⟨t, pts_one pt, k⟩
/-- the readings as they are used in a block -/
def teOf (K : PySem.W.Frag) (f : DE) : TE := fun σ H Q => ∃ (T : Addr → Prop) (ρ : Env) (QD : D → Env → Prop), RS K T ρ σ H ∧ f ρ QD ∧ ∀ d ρ' v H', RS K T ρ' σ H' → Po ρ σ H ρ' σ H' → Rp K (hide (Hd T ρ' σ) H') v d → QD d ρ' → Q v H'
def ttOf (K : PySem.W.Frag) (f : DT) : TT := fun σ H Q => ∃ (T : Addr → Prop) (ρ : Env) (QD : Bool → Env → Prop), RS K T ρ σ H ∧ f ρ QD ∧ ∀ d ρ' H', RS K T ρ' σ H' → Po ρ σ H ρ' σ H' → QD d ρ' → Q d H'
def tgOf (K : PySem.W.Frag) (vs : List Nat) (g : DG) : TG := fun v σ H Q => ∃ (T : Addr → Prop) (ρ : Env) (d : D) (QD : Env → Prop), RS K T ρ σ H ∧ Rp K (hide (Hd T ρ σ) H) v d ∧ g d ρ QD ∧ ∀ ρ' σ', RS K T ρ' σ' H → Po ρ σ H ρ' σ' H → wipe σ' vs = wipe σ vs → QD ρ' → Q σ' H
theorem JE.pe (h : JE X e fa) : PE X e (teOf X.K fa) := by
  obtain ⟨t, pt, k⟩ := h.ex
  exact ⟨fun pins s σ H Q I ⟨T, ρ, QD, r, h, q⟩ => pt.run pins s σ H Q I (k T ρ σ H QD Q r h q)⟩
theorem JTs.pts {ifs : List Expr} {g : DT} (h : JTs X ifs g) : PTs X ifs (ttOf X.K g) := by
  obtain ⟨t, pt, k⟩ := h.ex
  exact ⟨fun pins s σ H Q I ⟨T, ρ, QD, r, h, q⟩ => pt.run pins s σ H Q I (k T ρ σ H QD Q r h q)⟩
theorem JG.pg {tg : Expr} {vs : List Nat} {g : DG} (h : JG X tg vs g) : PG X tg (tgOf X.K vs g) := by
  obtain ⟨t, pt, k⟩ := h.ex
  exact ⟨fun pins s σ H v u Q I rv ⟨T, ρ, d, QD, r, r2, h, q⟩ => pt.run pins s σ H v u Q I rv (k T ρ σ H v d QD Q r r2 h q)⟩
def wpLc (g : DG) (tt : DT) (te : DE) (vs : List Nat) (Q : List D → Env → Prop) : List D → List D → Env → Prop
  | [], acc, ρ => Q acc ρ
  | d :: ds, acc, ρ => acc.length < 16777216 ∧ g d (wipeD ρ vs) fun ρ1 => tt ρ1 fun b ρ2 => if b = true then te ρ2 fun y ρ3 => wpLc g tt te vs Q ds (acc ++ [y]) (wipeD ρ3 vs) else wpLc g tt te vs Q ds acc (wipeD ρ2 vs)
def lLc (fi : DL) (g : DG) (tt : DT) (te : DE) (vs : List Nat) : DL := fun ρ Q => fi ρ fun ds ρ1 => wpLc g tt te vs Q ds [] (wipeD ρ1 vs)
theorem wipeD_idem {ρ : Env} : ∀ vs : List Nat, wipeD (wipeD ρ vs) vs = wipeD ρ vs := by
  intro vs
  apply List.ext_getElem?
  intro i
  have len : ∀ (ρ : Env) (vs : List Nat), (wipeD ρ vs).length = ρ.length := fun ρ vs => by
    induction vs with
    | nil => rfl
    | cons v vs ih => show ((wipeD ρ vs).set v none).length = _; rw [List.length_set, ih]
  have at1 : ∀ (ρ : Env) (vs : List Nat), (wipeD ρ vs)[i]? = if i ∈ vs then (if i < ρ.length then some none else none) else ρ[i]? := fun ρ vs => by
    induction vs with
    | nil => simp [wipeD]
    | cons v vs ih =>
      show ((wipeD ρ vs).set v none)[i]? = _
      by_cases e : v = i
      · subst e
        by_cases hl : v < ρ.length
        · rw [List.getElem?_set_self (by rw [len]; exact hl)]; simp [hl]
        · rw [List.getElem?_eq_none_iff.mpr (by rw [List.length_set, len]; omega)]; simp [hl]
      · rw [List.getElem?_set_ne e, ih]
        simp only [List.mem_cons, show ¬ i = v from fun z => e z.symm, false_or]
  rw [at1, at1, len]
  by_cases h : i ∈ vs <;> simp [h]
theorem wipe_idem (ρ : L2.St) : ∀ vs : List Nat, wipe (wipe ρ vs) vs = wipe ρ vs := by
  intro vs
  apply List.ext_getElem?
  intro i
  have len : ∀ (ρ : L2.St) (vs : List Nat), (wipe ρ vs).length = ρ.length := fun ρ vs => by
    induction vs with
    | nil => rfl
    | cons v vs ih => show ((wipe ρ vs).set v none).length = _; rw [List.length_set, ih]
  have at1 : ∀ (ρ : L2.St) (vs : List Nat), (wipe ρ vs)[i]? = if i ∈ vs then (if i < ρ.length then some none else none) else ρ[i]? := fun ρ vs => by
    induction vs with
    | nil => simp [wipe]
    | cons v vs ih =>
      show ((wipe ρ vs).set v none)[i]? = _
      by_cases e : v = i
      · subst e
        by_cases hl : v < ρ.length
        · rw [List.getElem?_set_self (by rw [len]; exact hl)]; simp [hl]
        · rw [List.getElem?_eq_none_iff.mpr (by rw [List.length_set, len]; omega)]; simp [hl]
      · rw [List.getElem?_set_ne e, ih]
        simp only [List.mem_cons, show ¬ i = v from fun z => e z.symm, false_or]
  rw [at1, at1, len]
  by_cases h : i ∈ vs <;> simp [h]
theorem lc_read {tg iter : Expr} {vs : List Nat} {fi : DL} {g : DG} {tt : DT} {te : DE} (hi : JI X tg iter fi) : ∃ wi, PI X tg iter wi ∧ ∀ (T : Addr → Prop) (ρ : Env) (σ : L2.St) (H : Hp) (QD : List D → Env → Prop) (Q : VK), RS X.K T ρ σ H → lLc fi g tt te vs ρ QD →
    (∀ ds ρ' p vs H', H p = none → H' p = some (.lst vs) → RS X.K (plus T p) ρ' σ H' → RpAll X.K (hide (Hd (plus T p) ρ' σ) H') vs ds → Po ρ σ H ρ' σ H' → QD ds ρ' → Q (.ref p) H') → tLc wi (tgOf X.K vs g) (ttOf X.K tt) (teOf X.K te) vs σ H Q := by
  obtain ⟨wi, pi, ki⟩ := hi.ex
  refine ⟨wi, pi, fun T ρ σ H QD Q r h q => ki T ρ σ H _ _ r h fun ds ρ1 J H1 r1 p1 it h => ?_⟩
  intro L hL
  -- kept: what was known at the start stands apart from the new list
  refine ⟨fun i m H' => i ≤ ds.length ∧ m = ds.length - i ∧ ∃ ρ' acc us, ρ' = wipeD ρ' vs ∧ RS X.K (plus T L) ρ' (wipe σ vs) H' ∧ Po ρ1 σ H1 ρ' (wipe σ vs) H' ∧ H' L = some (.lst us) ∧ RpAll X.K (hide (Hd (plus T L) ρ' (wipe σ vs)) H') us acc ∧ wpLc g tt te vs QD (ds.drop i) acc ρ',
    ⟨ds.length, Nat.zero_le _, rfl, wipeD ρ1 vs, [], [], (wipeD_idem vs).symm, (r1.laid hL).wiped vs, (Po.grow (Ex.new hL)).trans (.wiped vs), upd_same, .nil, h⟩, ?_⟩
  rintro i m H' ⟨hi, rfl, ρ', acc, us, ew, r', p', hl, ra, h⟩
  have eG : Ex (hide (Hd T ρ1 σ) H1) H' := (p'.fz (T := T)).trans hide_ex
  by_cases hlt : i < ds.length
  · rw [List.drop_eq_getElem_cons hlt] at h
    obtain ⟨hz, h⟩ := h
    obtain ⟨go, st⟩ := it.step i ds[i] H' (List.getElem?_eq_getElem hlt) eG
    refine .inr ⟨go, fun H2 => ∃ ρ2 acc us, ρ2 = wipeD ρ2 vs ∧ RS X.K (plus T L) ρ2 (wipe σ vs) H2 ∧ Po ρ1 σ H1 ρ2 (wipe σ vs) H2 ∧ H2 L = some (.lst us) ∧ RpAll X.K (hide (Hd (plus T L) ρ2 (wipe σ vs)) H2) us acc ∧ wpLc g tt te vs QD (ds.drop (i + 1)) acc ρ2,
      fun H2 w => ⟨ds.length - (i + 1), by omega, by omega, rfl, w⟩, fun v H2 hy => ?_⟩
    obtain ⟨ex, rv⟩ := st v H2 hy
    rw [← ew] at h
    have r2 := r'.grow ex
    have pa2 := p'.trans (Po.grow (ρ := ρ') (σ := wipe σ vs) ex)
    have ra2 := ra.mono (hide_grow (O := Hd (plus T L) ρ' (wipe σ vs)) ex)
    have nL : H1 L = none := hL
    have eO : Ex (hide (Hd T ρ1 σ) H1) (hide (Hd (plus T L) ρ' (wipe σ vs)) H') := fun a o w => by
      obtain ⟨n, w⟩ := hide_some.1 w
      obtain ⟨n2, w2⟩ := hide_some.1 ((p'.fz (T := T)) a o (hide_some.2 ⟨n, w⟩))
      refine hide_some.2 ⟨?_, w2⟩
      rintro ((t | t) | t)
      · subst t; rw [nL] at w; cases w
      · exact n2 (.inl t)
      · exact n2 (.inr t)
    refine ⟨plus T L, ρ', ds[i], _, r2, rv _ (fun a => r'.hdDom) eO, h, fun ρ3 σ3 r3 p3 w3 h => ⟨by rw [w3]; exact wipe_idem σ vs, plus T L, ρ3, _, r3, h, fun b ρ4 H4 r4 p4 h => ?_⟩⟩
    -- the new list is never the block's own
    have keepL : ∀ {ρa : Env} {σa : L2.St} {Ha Hb : Hp} {ρb : Env} {σb : L2.St} {o : HO}, RS X.K (plus T L) ρa σa Ha → Po ρa σa Ha ρb σb Hb → Ha L = some o → Hb L = some o := fun ra pab hh => pab.keep L _ (ra.dis L (.inl rfl)) hh
    have l4 : H4 L = some (.lst us) := keepL r2 (p3.trans p4) (ex _ _ hl)
    have ra4 := ra2.mono (((p3.trans p4)).fz (T := plus T L))
    have back : ∀ {ρ5 : Env} {H5 : Hp}, RS X.K (plus T L) ρ5 σ3 H5 → RS X.K (plus T L) (wipeD ρ5 vs) (wipe σ vs) H5 := fun {ρ5 H5} r5 => by
      have z := r5.wiped vs
      rw [w3, wipe_idem] at z
      exact z
    have pback : ∀ {ρ5 : Env} {H5 : Hp}, Po ρ1 σ H1 ρ5 σ3 H5 → Po ρ1 σ H1 (wipeD ρ5 vs) (wipe σ vs) H5 := fun {ρ5 H5} p5 => by
      have z := p5.trans (Po.wiped (ρ := ρ5) (σ := σ3) (H := H5) vs)
      rw [w3, wipe_idem] at z
      exact z
    cases b with
    | false =>
      refine ⟨wipeD ρ4 vs, acc, us, (wipeD_idem vs).symm, back r4, pback (pa2.trans (p3.trans p4)), l4, ?_, h⟩
      have z := ra4.mono ((Po.wiped (ρ := ρ4) (σ := σ3) (H := H4) vs).fz (T := plus T L))
      rw [w3, wipe_idem] at z
      exact z
    | true =>
      rw [if_pos rfl] at h
      dsimp only
      rw [if_pos rfl]
      refine ⟨plus T L, ρ4, _, r4, h, fun y ρ5 w H5 r5 p5 v5 h => ?_⟩
      have l5 : H5 L = some (.lst us) := keepL r4 p5 l4
      have ra5 := (ra4.mono (p5.fz (T := plus T L))).append (.cons v5 .nil)
      have aL : ∀ (o : HO), Ex (hide (Hd (plus T L) ρ5 σ3) H5) (hide (Hd (plus T L) ρ5 σ3) (upd H5 L o)) := fun o a u w => by
        obtain ⟨n, w⟩ := hide_some.1 w
        exact hide_some.2 ⟨n, by rw [upd_ne (fun z => n (.inl (.inl z)))]; exact w⟩
      have r6 : RS X.K (plus T L) ρ5 σ3 (upd H5 L (.lst (us ++ [w]))) := by
        refine ⟨r5.len, fun j d z => ?_, fun j m z => ?_, r5.inj, r5.dis, fun a t => ?_, r5.tag⟩
        · obtain ⟨u, h1, h2⟩ := r5.im j d z; exact ⟨u, h1, h2.mono (aL _)⟩
        · obtain ⟨a, o, h1, h2, h3⟩ := r5.ow j m z
          have ne : a ≠ L := fun e => by subst e; exact r5.dis a (.inl rfl) ⟨j, m, z, h1⟩
          exact ⟨a, o, h1, by rw [upd_ne ne]; exact h2, h3.mono (aL _)⟩
        · by_cases e : a = L
          · subst e; rw [upd_same]; simp
          · rw [upd_ne e]; exact r5.dom a t
      have p6 : Po ρ1 σ H1 ρ5 σ3 (upd H5 L (.lst (us ++ [w]))) := by
        have z := (pa2.trans (p3.trans p4)).trans p5
        refine ⟨fun a o n hh => ?_, z.own, fun a hh => ?_⟩
        · rw [upd_ne (fun e => by subst e; rw [nL] at hh; cases hh)]; exact z.keep a o n hh
        · by_cases e : a = L
          · subst e; rw [upd_same]; simp
          · rw [upd_ne e]; exact z.dom a hh
      refine ⟨us, l5, by rw [ra.length]; exact hz, wipeD ρ5 vs, acc ++ [y], us ++ [w], (wipeD_idem vs).symm, back r6, pback p6, upd_same, ?_, h⟩
      have z := (ra5.mono (aL (.lst (us ++ [w])))).mono ((Po.wiped (ρ := ρ5) (σ := σ3) (H := upd H5 L (.lst (us ++ [w]))) vs).fz (T := plus T L))
      rw [w3, wipe_idem] at z
      exact z
  · have e : i = ds.length := by omega
    subst e
    rw [List.drop_length] at h
    refine .inl ⟨it.stop H' eG, ?_⟩
    rw [ew] at r' p' ra h
    refine q acc (wipeD ρ' vs) L us H' (none_back p1 hL) hl r'.unwipe (ra.mono ?_) ?_ h
    · exact hide_sub fun a w => w.elim .inl fun w => .inr (own_unwipe w)
    · exact p1.trans ⟨p'.keep, fun a w => p'.own a (own_unwipe w), p'.dom⟩
theorem jl_lc {elt tg iter : Expr} {ifs : List Expr} {scope : Scope} {own : List (Str × Nat)} {fi : DL} {g : DG} {tt : DT} {te : DE} (hc : X.calm = true) (hN : X.N.Nodup) (hi : JI X tg iter fi) (ok : BlkOk X.N X.env.scope scope own)
    (hg : ∀ (s : Shared) (H : Hp) (C : Addr) (cl : List (Str × Addr)) (fp : List Addr), JG (X.blk s H scope (compEnvC scope cl C X.env) fp) tg (own.map (·.2)) g) (ht : ∀ (s : Shared) (H : Hp) (C : Addr) (cl : List (Str × Addr)) (fp : List Addr), JTs (X.blk s H scope (compEnvC scope cl C X.env) fp) ifs tt)
    (he : ∀ (s : Shared) (H : Hp) (C : Addr) (cl : List (Str × Addr)) (fp : List Addr), JE (X.blk s H scope (compEnvC scope cl C X.env) fp) elt te) (hs : ∀ x, foldedSetIterable iter X.env x = pure x := by intro _; rfl) :
    JL X (.ListComp elt [⟨tg, iter, ifs, 0⟩] scope pos) (lLc fi g tt te (own.map (·.2))) := by
  obtain ⟨wi, pi, k⟩ := lc_read (vs := own.map (·.2)) (g := g) (tt := tt) (te := te) hi
  exact ⟨_, pe_lc (wi := wi) (g := tgOf X.K (own.map (·.2)) g) (tt := ttOf X.K tt) (te := teOf X.K te) hc hN pi ok (fun s H C cl fp => (hg s H C cl fp).pg) (fun s H C cl fp => (ht s H C cl fp).pts) (fun s H C cl fp => (he s H C cl fp).pe) hs, k⟩
/-- name = [..], the name a plain local -/
theorem js_lcO {i : Nat} {py spos : Pos} {elt tg iter : Expr} {ifs : List Expr} {scope : Scope} {own : List (Str × Nat)} {fi : DL} {g : DG} {tt : DT} {te : DE} (hc : X.calm = true) (hN : X.N.Nodup) (hy : X.N[i]? = some y) (hyl : X.env.scope.names.lookup y = some .local)
    (hsw : swapsWith (.ListComp elt [⟨tg, iter, ifs, 0⟩] scope pos) (some (.Name y py)) spos.line X.env = pure true) (hi : JI X tg iter fi) (ok : BlkOk X.N X.env.scope scope own)
    (hg : ∀ (s : Shared) (H : Hp) (C : Addr) (cl : List (Str × Addr)) (fp : List Addr), JG (X.blk s H scope (compEnvC scope cl C X.env) fp) tg (own.map (·.2)) g) (ht : ∀ (s : Shared) (H : Hp) (C : Addr) (cl : List (Str × Addr)) (fp : List Addr), JTs (X.blk s H scope (compEnvC scope cl C X.env) fp) ifs tt)
    (he : ∀ (s : Shared) (H : Hp) (C : Addr) (cl : List (Str × Addr)) (fp : List Addr), JE (X.blk s H scope (compEnvC scope cl C X.env) fp) elt te) (hs : ∀ x, foldedSetIterable iter X.env x = pure x := by intro _; rfl) :
    JS X (.Assign [.Name y py] (.ListComp elt [⟨tg, iter, ifs, 0⟩] scope pos) spos) (sSet i (xOw (lLc fi g tt te (own.map (·.2))))) := by
  obtain ⟨wi, pi, k⟩ := lc_read (vs := own.map (·.2)) (g := g) (tt := tt) (te := te) hi
  refine ⟨_, ps_setLc (wi := wi) (g := tgOf X.K (own.map (·.2)) g) (tt := ttOf X.K tt) (te := teOf X.K te) hc hN hy hyl hsw pi ok (fun s H C cl fp => (hg s H C cl fp).pg) (fun s H C cl fp => (ht s H C cl fp).pts) (fun s H C cl fp => (he s H C cl fp).pe) hs, fun T ρ σ H E D r h q => ?_⟩
  refine k T ρ σ H _ _ r h fun ds ρ1 l vs H1 n sl r1 v1 p1 h => ?_
  obtain ⟨r2, q2⟩ := fits_set (i := i) (sv := .ow (.lst ds)) r p1 ⟨l, .lst vs, rfl, n, sl, r1, v1, fun _ _ z => nomatch z⟩
  exact q.nx _ _ _ r2 q2 h
theorem js_lcF {i : Nat} {py spos : Pos} {elt tg iter : Expr} {ifs : List Expr} {scope : Scope} {own : List (Str × Nat)} {fi : DL} {g : DG} {tt : DT} {te : DE} (hc : X.calm = true) (hN : X.N.Nodup) (hy : X.N[i]? = some y) (hyl : X.env.scope.names.lookup y = some .local)
    (hsw : swapsWith (.ListComp elt [⟨tg, iter, ifs, 0⟩] scope pos) (some (.Name y py)) spos.line X.env = pure true) (hi : JI X tg iter fi) (ok : BlkOk X.N X.env.scope scope own)
    (hg : ∀ (s : Shared) (H : Hp) (C : Addr) (cl : List (Str × Addr)) (fp : List Addr), JG (X.blk s H scope (compEnvC scope cl C X.env) fp) tg (own.map (·.2)) g) (ht : ∀ (s : Shared) (H : Hp) (C : Addr) (cl : List (Str × Addr)) (fp : List Addr), JTs (X.blk s H scope (compEnvC scope cl C X.env) fp) ifs tt)
    (he : ∀ (s : Shared) (H : Hp) (C : Addr) (cl : List (Str × Addr)) (fp : List Addr), JE (X.blk s H scope (compEnvC scope cl C X.env) fp) elt te) (hs : ∀ x, foldedSetIterable iter X.env x = pure x := by intro _; rfl) :
    JS X (.Assign [.Name y py] (.ListComp elt [⟨tg, iter, ifs, 0⟩] scope pos) spos) (sSet i (xIm (dOfL (lLc fi g tt te (own.map (·.2)))))) := by
  obtain ⟨wi, pi, k⟩ := lc_read (vs := own.map (·.2)) (g := g) (tt := tt) (te := te) hi
  refine ⟨_, ps_setLc (wi := wi) (g := tgOf X.K (own.map (·.2)) g) (tt := ttOf X.K tt) (te := teOf X.K te) hc hN hy hyl hsw pi ok (fun s H C cl fp => (hg s H C cl fp).pg) (fun s H C cl fp => (ht s H C cl fp).pts) (fun s H C cl fp => (he s H C cl fp).pe) hs, fun T ρ σ H E D r h q => ?_⟩
  refine k T ρ σ H _ _ r h fun ds ρ1 l vs H1 n sl r1 v1 p1 h => ?_
  have rl : Rp X.K (hide (Hd T ρ1 σ) H1) (.ref l) (.list ds) := .lst (hide_some.2 ⟨fun w => by
    rcases w with w | w
    · exact r.dom l w n
    · exact r1.dis l (.inl rfl) w, sl⟩) (v1.mono hd_unplus)
  exact q.nx _ _ _ (r1.unplus.setIm rl) (p1.trans .setIm) h
end
end Dn
set_option Elab.async false
set_option linter.all false
set_option maxRecDepth 100000
set_option autoImplicit false
set_option maxHeartbeats 4000000
/-! enumerate of a tuple, from the iterators up -/
namespace PySem
open Sem (wp)
open AutoSeq1 (wpAny_loadPart')
theorem own_enum_new (tp : Addr) (its : Array Value) (nn : Nat) (dd : Option Addr) (ss : Array (Option Value)) :
    Meets (Builtin.«enumerate.__new__» ⟨[.type "enumerate", .ref tp], []⟩) (fun _ R st =>
      st.heap.get? tp = some { cls := .type "tuple", dict := dd, data := .seq its nn, slots := ss } ∧
      R (.ok (.ret (.ref (st.heap.push { cls := .type "tuple_iterator", data := .fields #[.ref tp, .int 0 0] }).objs.size)))
        { st with heap := (st.heap.push { cls := .type "tuple_iterator", data := .fields #[.ref tp, .int 0 0] }).push { cls := .type "enumerate", data := .fields #[.none, .bool false, .ref st.heap.objs.size, rawInt 0, .none, .none] } }) :=
  .of_wp fun prog w A R st h => by
    obtain ⟨hp, gg, dr, tk, oo⟩ := st
    obtain ⟨at_, h⟩ := h
    have isSub := sub_enumerate
    have isT : Heap.IsTuple (Shared.heap ⟨hp, gg, dr, tk, oo⟩) tp its := ⟨_, at_, rfl, nn, rfl⟩
    wp_walk using wpAny_loadPart' at_
    refine wpAny_stack_any fun _ => wpAny_pure ?_
    split
    · rename_i c _ _ _ _ _
      cases (c == Value.type "enumerate") <;>
      · wp_walk using wpAny_loadPart' at_, wpAny_pyIter_tuple isT
        exact ⟨_, rfl, h⟩
    · wp_walk using wpAny_loadPart' at_, wpAny_pyIter_tuple isT
      exact ⟨_, rfl, h⟩
theorem own_enum_call {prog : Program} {w : World} {A : Around} {E : Value → Shared → Prop} {st : Shared} {tp : Addr} {its : Array Value} {Q : Value → Shared → Prop} (isT : st.heap.IsTuple tp its)
    (h : ∀ hp : Heap, IsEnum hp (st.heap.objs.size + 1) st.heap.objs.size 0 .none → hp.IsTupleIter st.heap.objs.size tp 0 →
      (∀ b o, st.heap.get? b = some o → hp.get? b = some o) → Q (.ref (st.heap.objs.size + 1)) { st with heap := hp }) :
    wpAny (model prog w) A (call (.type "enumerate") [.ref tp]) Q E st := by
  obtain ⟨⟨cc, dd, dt, ss⟩, at_, hc, nn, hd⟩ := isT
  replace hc : cc = .type "tuple" := hc
  replace hd : dt = .seq its nn := hd
  subst hc hd
  refine callType_new F.called_enumerate (by decide) (F.typeCall_enumerate_1 _) (F.newCall_enumerate_1 _) (fun ob => F.args_object_init_2 ob _) F.entry_enumerate_new (own_enum_new tp its nn dd ss) ⟨at_, ?_⟩
  generalize hI : ({ cls := .type "tuple_iterator", data := .fields #[.ref tp, .int 0 0] } : Obj) = oI
  generalize hE : ({ cls := .type "enumerate", data := .fields #[.none, .bool false, .ref st.heap.objs.size, rawInt 0, .none, .none] } : Obj) = oE
  have sz : (st.heap.push oI).objs.size = st.heap.objs.size + 1 := Heap.size_push ..
  have nf : oE.isFreed = false := by subst hE; rfl
  have nI : oI.isFreed = false := by subst hI; rfl
  have gE : ((st.heap.push oI).push oE).get? (st.heap.objs.size + 1) = some oE := by
    have z := Heap.get?_push_size (st.heap.push oI) (o := oE) nf
    rwa [sz] at z
  have gI : ((st.heap.push oI).push oE).get? st.heap.objs.size = some oI := Heap.get?_push_of_some _ (Heap.get?_push_size _ nI)
  show _ ∧ _
  rw [sz]
  subst hE hI
  exact ⟨⟨_, gE, rfl⟩, h _ gE ⟨{ cls := .type "tuple_iterator", data := .fields #[.ref tp, .int 0 0] }, gI, rfl, rfl⟩ fun b o x => Heap.get?_push_of_some _ (Heap.get?_push_of_some _ x)⟩
end PySem
namespace Dn
open PySem L2 Evl PySem.Spec PyProof.Rows
/-- the tuple at a, each item in a new pair with its place -/
def IteT (K : PySem.W.Frag) (a : Addr) : It where
  go := fun i H => ∃ (xs : List V) (x : V), SqT K H a xs ∧ xs[i]? = some x
  yld := fun i H v H' => ∃ l x, v = .ref l ∧ H l = none ∧ H' = upd H l (.tup [.int (i : Nat), x]) ∧ ∀ xs, SqT K H a xs → xs[i]? = some x
  stop := fun i H => ∃ xs : List V, SqT K H a xs ∧ xs.length ≤ i
theorem turn_enT {P : Program} {w : World} {K : PySem.W.Frag} {elts : List Expr} {kk : Nat} {tpos : Pos} (a e it : Addr) :
    Turn P w K (.Tuple elts kk tpos) (IteT K a) [e, it] e (fun i h => (∃ old, IsEnum h e it ((i : Nat) : Int) old) ∧ h.IsTupleIter it a i ∧ e ≠ it) where
  mem := by simp
  obj := fun i h st b hb => by
    obtain ⟨⟨old, he⟩, ⟨o, ho, hc, hd⟩, _⟩ := st
    rcases (show b = e ∨ b = it by simpa using hb) with rfl | rfl
    · exact ⟨_, he, fun v q => nomatch q⟩
    · exact ⟨o, ho, fun v q => by rw [hd] at q; cases q⟩
  keep := fun i h h' ⟨⟨old, he⟩, hi, hne⟩ k => ⟨⟨old, k e (by simp) _ he⟩, hi.at fun o q => k it (by simp) o q, hne⟩
  item := by
    intro X hP hw hK hc i pins s σ H E I hf st hg
    subst hP hw hK
    obtain ⟨⟨old, he⟩, hit, hne⟩ := st
    obtain ⟨xs, x, hq, hx⟩ := hg
    obtain ⟨its, rv, isT, hz⟩ := I.tuple hq
    obtain ⟨u, hu, ru⟩ := rv.get hx
    have isT' : s.heap.IsTuple a its.toArray := isT
    have hil : it < s.heap.objs.size := by obtain ⟨_, q, _⟩ := hit; exact Heap.lt_size q
    have hel : e < s.heap.objs.size := Heap.lt_size he
    have ai : a ≠ it := fun z => by
      subst z
      obtain ⟨o1, q1, c1, _⟩ := isT'
      obtain ⟨o2, q2, c2, _⟩ := hit
      rw [q1] at q2; cases q2
      have z : Value.type "tuple" = Value.type "tuple_iterator" := (show _ = o1.cls from Eq.symm c1).trans c2
      injection z with z
      exact absurd z (by decide)
    have ae : e ≠ a := fun z => by
      subst z
      obtain ⟨o1, q1, c1, _⟩ := isT'
      rw [show s.heap.get? e = some _ from he] at q1; cases q1
      have z : Value.type "enumerate" = Value.type "tuple" := c1
      injection z with z
      exact absurd z (by decide)
    have lt : i < its.toArray.size := by
      have := (List.getElem?_eq_some_iff.mp hu).1
      simpa using this
    refine wpAny_pyNext_enum_itemD (Draws.tuple (A := X.A.in1) (show X.A.in1.handled = none from I.ok.hd hc) it a ai its.toArray) he ⟨hit, isT'⟩ lt hne (by simp [hne, ae]) fun y h' tk hy ho st' hT hsz hk => ?_
    have yu : y = u := by
      have z : its.toArray[i]? = some u := by simpa using hu
      rw [hy] at z; cases z; rfl
    subst yu
    refine ⟨_, rfl, wpAny_letOwnedTupleGo_enum (s := { s with heap := h', toks := tk + 1 }) ho fun h2 he2 sb => ?_⟩
    have hT2 : h2.get? s.heap.objs.size = some { cls := .type "tuple", data := .seq #[.int i tk, y] } := (sb.2 _ (Nat.ne_of_gt hel)).trans hT
    have kp : ∀ b ob, b ∉ [e, it] → s.heap.get? b = some ob → h2.get? b = some ob := fun b ob hb q => by
      have b1 : b ≠ e := fun z => hb (by simp [z])
      have b2 : b ≠ it := fun z => hb (by simp [z])
      exact (sb.2 b b1).trans (hk b ob b1 b2 q)
    have okT : ObjOk X.prog X.w (upd H s.heap.objs.size (.tup [.int (i : Nat), x])) h2 s.heap.objs.size (.tup [.int (i : Nat), x]) :=
      ⟨by show 2 ≤ sizeLine; decide, [.int i tk, y], .cons ⟨_, rfl⟩ (.cons ru .nil), ⟨_, hT2, rfl, _, rfl⟩⟩
    have I2 : Inv X pins σ (upd H s.heap.objs.size (.tup [.int (i : Nat), x])) { s with heap := h2, toks := tk + 1 } := I.turnedNew (ch := [e, it]) kp hf (Nat.le_refl _) okT
    refine ⟨.ref s.heap.objs.size, _, I2, rfl, ⟨_, x, rfl, I.hok.fresh (Nat.le_refl _), rfl, fun ys hys => by rw [I.tuple_inj hys hq]; exact hx⟩, ⟨⟨y, ?_⟩, st'.1.at fun o q => (sb.2 it (Ne.symm hne)).trans q, hne⟩, fun b hb => ?_⟩
    · have e1 : ((i + 1 : Nat) : Int) = (i : Int) + 1 := by omega
      rw [e1]; exact he2
    · have bl : b < s.heap.objs.size := by
        rcases (show b = e ∨ b = it by simpa using hb) with rfl | rfl
        · exact hel
        · exact hil
      rw [upd_ne (Nat.ne_of_lt bl)]
      exact (hf b hb).1
  done := by
    intro X hP hw hK hc i pins s σ H E I hf st hg
    subst hP hw hK
    obtain ⟨⟨old, he⟩, hit, hne⟩ := st
    obtain ⟨xs, hq, hx⟩ := hg
    obtain ⟨its, rv, isT, hz⟩ := I.tuple hq
    have isT' : s.heap.IsTuple a its.toArray := isT
    obtain ⟨f0, f1, f2, f3, f4, f5⟩ := hf it (by simp)
    have hl := rv.length
    have nx : its.toArray[i]? = none := by simp; omega
    have hT : s.TypeIs (.ref e) "enumerate" := ⟨_, he, rfl⟩
    show wpAny _ _ (pyNext (.ref e)) _ _ _
    unfold pyNext
    refine wpAny_bind (wpAny_attempt (wpAny_callSpecial?_slot (name := Str.ofString "__next__") hT F.slot_enumerate_next (wpAny_call_entry F.slot_enumerate_next hT F.entry_enumerate_next ?_ (F.args_enumerate_next_1 _))))
    show wpAny _ _ (field (.ref e) 2 >>= _) _ _ _
    refine wpAny_bind (wpAny_field he rfl (x := .ref it) rfl ?_)
    refine wpAny_bind (wpAny_nextOf_tuple_end (show X.A.in1.handled = none from I.ok.hd hc) hit isT' nx fun h' ex hs' hx' => ?_)
    obtain ⟨o, ho, hcl⟩ := hx'
    refine wpAny_bind (wpAny_isInstance (T := "StopIteration") (b := true) ⟨o, ho, hcl⟩ isSubtype_stop ?_)
    exact wpAny_pure ⟨rfl, I.turned (t' := s.toks) (fun b o hb q => hs' b o hb q) f0 f1 f3 f4 f5⟩
  self := fun A i s Q E st h => let ⟨⟨_, he⟩, _⟩ := st; wpAny_pyIter_enum he h
def iEnT0 (K : PySem.W.Frag) (ta : TA) : TI := fun σ H R => ta σ H fun vs H1 => ∃ a xs, vs = [.ref a] ∧ SqT K H1 a xs ∧ R (IteT K a) H1
theorem pi_enT {X : Cx} {e : Expr} {ta : TA} {p pos tpos : Pos} {elts : List Expr} {kk : Nat} (hg : Gl X "enumerate") (hm : X.mg "enumerate" = none) (ha : PA X [e] ta) (hs : starEach [e] X.env = [(false, eval e X.env)] := by rfl) :
    PI X (.Tuple elts kk tpos) (.Call (.Name "enumerate" p) [e] [] pos) (iEnT0 X.K ta) := by
  refine ⟨fun pins s σ H R I h => ?_⟩
  refine Call_ (ld_blt I hg hm boot_enumerate (PyProof.Rows.callWith_type1 (thn (ha.run pos pins s σ H _ I h) fun us s1 ⟨vs, H1, I1, r1, q1⟩ => ?_) hs rfl))
  obtain ⟨a, xs, ex, hq, q⟩ := q1
  subst ex
  obtain ⟨u, rfl, ru⟩ := vals1 r1
  cases ru
  obtain ⟨its, rv, isT, hz⟩ := I1.tuple hq
  refine own_enum_call (show s1.heap.IsTuple a its.toArray from isT) fun hp he hit hk => wpAny_pyIter_enum he ?_
  have I2 : Inv X pins σ H1 { s1 with heap := hp } := I1.kept (t' := s1.toks) hk
  refine ⟨s1.heap.objs.size + 1, [s1.heap.objs.size + 1, s1.heap.objs.size], _, _, H1, rfl, I2, turn_enT a (s1.heap.objs.size + 1) s1.heap.objs.size, ⟨⟨.none, he⟩, hit, Nat.succ_ne_self _⟩, fun b hb => ?_, q⟩
  have ge : s1.heap.objs.size ≤ b := by
    rcases (show b = s1.heap.objs.size + 1 ∨ b = s1.heap.objs.size by simpa using hb) with z | z <;> subst z
    · exact Nat.le_succ _
    · exact Nat.le_refl _
  exact I1.fpOk ge (I1.hok.fresh ge)
section
variable {X : Cx} {a : Expr} {fa : DE} {pos p : Pos}
def iEnT (f : DE) : DL := fun ρ Q => f ρ fun d ρ1 => match d with
  | .tuple ds => Q (enD ds) ρ1
  | _ => False
theorem ji_enumT {elts : List Expr} {kk : Nat} {tpos : Pos} (hm : X.mg "enumerate" = none) (ha : JE X a fa) (hg : Gl X "enumerate" := by rfl) (hs : starEach [a] X.env = [(false, eval a X.env)] := by rfl) : JI X (.Tuple elts kk tpos) (.Call (.Name "enumerate" p) [a] [] pos) (iEnT fa) := by
  obtain ⟨t, pt, kt⟩ := ha.ex
  refine ⟨_, pi_enT hg hm (pa_cons pt pa_nil hs) hs, fun T ρ σ H QD R r h q => kt T ρ σ H _ _ r h fun d ρ1 v H1 r1 p1 v1 h => ?_⟩
  cases v1 with
  | @tup a xs ds hp rr =>
    refine ⟨_, _, rfl, sqt_of hp, q _ _ _ _ r1 p1 ⟨fun H e => ⟨xs, ex_t e (lt_of hp), by rw [enD_len, rr.length]; exact Nat.le_refl _⟩, fun i d H hd e => ?_⟩ h⟩
    obtain ⟨g, hg, rfl⟩ := enD_get hd
    obtain ⟨u, hu, ru⟩ := rr.get hg
    refine ⟨⟨xs, u, ex_t e (lt_of hp), hu⟩, fun x H' y => ?_⟩
    obtain ⟨l, z, rfl, hl, rfl, y⟩ := y
    have := y xs (ex_t e (lt_of hp))
    rw [hu] at this; cases this
    exact ⟨Ex.new hl, fun O hO eo => rp_newT hO hl (.cons (.int _) (.cons (ru.mono eo) .nil))⟩
  | _ => exact False.elim h
end
end Dn
set_option Elab.async false
set_option linter.all false
set_option maxRecDepth 100000
set_option autoImplicit false
set_option maxHeartbeats 4000000
namespace Dn
open PySem L2 Evl PySem.Spec
section
variable {X : Cx} {a b c e : Expr} {fa fb fc : DE} {pos p : Pos} {es : List Expr} {x y : Str}
/-! ### owned lists by their content -/
def MO.getL : MO → Option (List D)
  | .lst ds => some ds
  | .par _ m => m.getL
  | _ => none
def MO.putL : MO → List D → MO
  | .par p _, ds => .par p (.lst ds)
  | _, ds => .lst ds
theorem getL_rp {K : PySem.W.Frag} {G : Hp} : ∀ {m : MO} {o : HO} {ds : List D}, RpO K G m o → m.getL = some ds → ∃ vs, o = .lst vs ∧ RpAll K G vs ds
  | .lst ds, o, es, h, e => by
    cases e
    cases o <;> first | exact False.elim h | exact ⟨_, rfl, h⟩
  | .par _ m, o, es, h, e => getL_rp (m := m) (by unfold RpO at h; exact h) e
  | .dct _, o, es, h, e => by cases e
  | .rng _, o, es, h, e => by cases e
theorem putL_rp {K : PySem.W.Frag} {G : Hp} {m : MO} {vs : List V} {ds : List D} (h : RpAll K G vs ds) : RpO K G (m.putL ds) (.lst vs) := by
  cases m <;> first | exact h | (unfold MO.putL RpO; exact h)
theorem putL_tag {K : PySem.W.Frag} {T : Addr → Prop} {ρ : Env} {σ : L2.St} {H : Hp} {i : Nat} {m : MO} {ds : List D} {p : Addr} (r : RS K T ρ σ H) (hm : ρ[i]? = some (some (SV.ow m))) (hp : σ[i]? = some (some (V.ref p))) : ∀ q m1, m.putL ds = .par q m1 → p = q := fun q m1 h => by
  cases m with
  | par q' m' => cases h; exact r.tag i _ _ p hm hp
  | _ => cases h
/-- what stands in slot i, if it is an owned list -/
def atO (ρ : Env) (i : Nat) : Option (List D) := match ρ[i]? with
  | some (some (.ow m)) => m.getL
  | _ => none
def setO (ρ : Env) (i : Nat) (ds : List D) : Env := match ρ[i]? with
  | some (some (.ow m)) => ρ.set i (some (.ow (m.putL ds)))
  | _ => ρ
theorem atO_some {ρ : Env} {i : Nat} {ds : List D} (h : atO ρ i = some ds) : ∃ m, ρ[i]? = some (some (SV.ow m)) ∧ m.getL = some ds := by
  unfold atO at h
  split at h
  · exact ⟨_, by assumption, h⟩
  · cases h
theorem RS.atO {K : PySem.W.Frag} {T : Addr → Prop} {ρ : Env} {σ : L2.St} {H : Hp} {i : Nat} {ds : List D} (r : RS K T ρ σ H) (h : Dn.atO ρ i = some ds) : ∃ m q vs, ρ[i]? = some (some (SV.ow m)) ∧ σ[i]? = some (some (V.ref q)) ∧ H q = some (.lst vs) ∧ RpAll K (hide (Hd T ρ σ) H) vs ds := by
  obtain ⟨m, hm, hg⟩ := atO_some h
  obtain ⟨q, o, h1, h2, h3⟩ := r.ow i m hm
  obtain ⟨vs, rfl, h4⟩ := getL_rp h3 hg
  exact ⟨m, q, vs, hm, h1, h2, h4⟩
theorem RS.setO {K : PySem.W.Frag} {T : Addr → Prop} {ρ : Env} {σ : L2.St} {H : Hp} {i : Nat} {m : MO} {q : Addr} {vs : List V} {ds : List D} (r : RS K T ρ σ H) (hm : ρ[i]? = some (some (SV.ow m))) (hq : σ[i]? = some (some (V.ref q))) (h : RpAll K (hide (Hd T ρ σ) H) vs ds) :
    RS K T (Dn.setO ρ i ds) σ (upd H q (.lst vs)) ∧ Po ρ σ H (Dn.setO ρ i ds) σ (upd H q (.lst vs)) := by
  unfold Dn.setO
  rw [hm]
  exact ⟨r.write hm hq (putL_rp h) (putL_tag r hm hq), .write hm hq⟩
theorem own_same {T : Addr → Prop} {ρ : Env} {σ : L2.St} {H : Hp} {i : Nat} {m m' : MO} {q : Addr} {o : HO} (hm : ρ[i]? = some (some (SV.ow m))) (hq : σ[i]? = some (some (V.ref q))) : Ex (hide (Hd T ρ σ) H) (hide (Hd T (ρ.set i (some (SV.ow m'))) σ) (upd H q o)) := (Po.write (m' := m') (o' := o) hm hq).fz

/-- x[i], x an owned list (a parameter, too) -/
def dIxP (i : Nat) (fb : DE) : DE := fun ρ Q => (atO ρ i).isSome = true ∧ fb ρ fun y ρ1 => ∃ ds j d, atO ρ1 i = some ds ∧ y = .int j ∧ atI ds j = some d ∧ Q d ρ1
theorem je_ixP {i : Nat} {px : Pos} (hN : X.N[i]? = some x) (hv : Vis X.env.scope x) (hb : JE X b fb) (hs : PlainIx b := by exact fun _ _ => rfl) (hd : (x == ("__debug__" : Str)) = false := by decide) (hcd : (x == ("__classdict__" : Str)) = false := by decide) :
    JE X (.Subscript (.Name x px) b pos) (dIxP i fb) := by
  obtain ⟨tb, pb, kb⟩ := hb.ex
  refine ⟨_, pe_ix ix_list (pe_var hN hv hd hcd) pb hs, fun T ρ σ H QD Q r h q => ?_⟩
  obtain ⟨h0, h⟩ := h
  obtain ⟨ds0, h0⟩ := Option.isSome_iff_exists.mp h0
  obtain ⟨m, l, vs, _, hl, _, _⟩ := r.atO h0
  refine ⟨_, hl, kb T ρ σ H _ _ r h fun y ρ1 v H1 r1 p1 v1 h => ?_⟩
  obtain ⟨ds, j, d, h1, rfl, h2, h3⟩ := h
  obtain ⟨m', l', vs', _, hl', ho', hr'⟩ := r1.atO h1
  rw [hl] at hl'; cases hl'
  obtain ⟨u, h4, h5⟩ := atI_rp hr' h2
  cases v1
  exact ⟨_, _, _, _, rfl, rfl, .inl (.inl ho'), h4, q _ _ _ _ r1 p1 h5 h3⟩
/-- x[i] = e -/
def sSub (i : Nat) (fi fe : DE) : DS := fun E ρ => fe ρ fun d ρ1 => (atO ρ1 i).isSome = true ∧ fi ρ1 fun k ρ2 => ∃ ds j m, atO ρ2 i = some ds ∧ k = .int j ∧ ixN ds.length j = some m ∧ E.nx (setO ρ2 i (ds.set m d))
theorem js_sub {i : Nat} {px ps : Pos} {f1 f2 : DE} (hN : X.N[i]? = some x) (hv : Vis X.env.scope x) (hi : JE X b f1) (he : JE X e f2) (hd : (x == ("__debug__" : Str)) = false := by decide) (hcd : (x == ("__classdict__" : Str)) = false := by decide)
    (ha : ∀ v, assign (.Subscript (.Name x px) b ps) X.env v = (do
      let ov ← holding [v] (eval (.Name x px) X.env); let iv ← holding [v, ov] (eval b X.env); standAt ps; holding [v, ov, iv] (setItem ov iv v); release [v, ov, iv] []) := by intro _; rfl)
    (hs : swapsWithSole [.Subscript (.Name x px) b ps] e pos.line X.env = pure false := by rfl) (hw : swappedStores [.Subscript (.Name x px) b ps] e X.env = pure none := by rfl) (h1 : (assignEach [.Subscript (.Name x px) b ps] X.env).map (·.2) = [assign (.Subscript (.Name x px) b ps) X.env] := by rfl) :
    JS X (.Assign [.Subscript (.Name x px) b ps] e pos) (sSub i f1 f2) := by
  obtain ⟨t1, p1, k1⟩ := hi.ex
  obtain ⟨t2, p2, k2⟩ := he.ex
  refine ⟨_, ps_asg p2 (pg_sub (pe_var hN hv hd hcd) p1 set_list ha) hs hw h1, fun T ρ σ H E D r h k => k2 T ρ σ H _ _ r h fun d ρ1 v H1 r1 q1 v1 h => ?_⟩
  obtain ⟨h0, h⟩ := h
  obtain ⟨ds0, h0⟩ := Option.isSome_iff_exists.mp h0
  obtain ⟨m, l, vs, _, hl, _, _⟩ := r1.atO h0
  refine ⟨_, hl, k1 T ρ1 σ H1 _ _ r1 h fun kk ρ2 w H2 r2 q2 v2 h => ?_⟩
  obtain ⟨ds, j, n, h2, rfl, h3, h4⟩ := h
  obtain ⟨m', l', vs', hm', hl', ho', hr'⟩ := r2.atO h2
  rw [hl] at hl'; cases hl'
  cases v2
  obtain ⟨r3, q3⟩ := r2.setO hm' hl (hr'.set n (v1.mono q2.fz))
  exact ⟨l, vs', j, n, rfl, rfl, ho', by rw [hr'.length]; exact h3, k.nx _ _ _ r3 ((q1.trans q2).trans q3) h4⟩
/-- methods of an owned list, as expressions -/
def dApp (i : Nat) (f : DE) : DE := fun ρ Q => (atO ρ i).isSome = true ∧ f ρ fun d ρ1 => ∃ ds, atO ρ1 i = some ds ∧ ds.length < 16777216 ∧ Q .none (setO ρ1 i (ds ++ [d]))
theorem je_app {i : Nat} {px pa pc : Pos} (hN : X.N[i]? = some x) (hv : Vis X.env.scope x) (he : JE X e fa) (hd : (x == ("__debug__" : Str)) = false := by decide) (hcd : (x == ("__classdict__" : Str)) = false := by decide)
    (hbase : attributeBase (.Name x px) "append" X.env (eval (.Name x px) X.env) = eval (.Name x px) X.env := by rfl)
    (hfew : ((backTo pc (starEach [e] X.env)).all (fun x => !x.1) && (backToKw pc (keywordEach [] X.env)).all (fun x => x.1.isSome) && decide ([e].length + ([] : List Keyword).length + (if ([] : List Keyword).isEmpty then 0 else 1) < 30)) = true := by rfl)
    (hline : (pa.endLine == pc.line) = true := by rfl) (hs : starEach [e] X.env = (false, eval e X.env) :: starEach [] X.env := by rfl) : JE X (.Call (.Attribute (.Name x px) "append" pa) [e] [] pc) (dApp i fa) := by
  obtain ⟨t, pt, kt⟩ := he.ex
  refine ⟨_, pe_bm PySem.F.plainAttrs_list PySem.F.slot_list_append PySem.F.type_list_append mt_append (pe_var hN hv hd hcd) (pa_cons pt pa_nil hs) hbase hfew hline hs, fun T ρ σ H QD Q r h q => ?_⟩
  obtain ⟨h0, h⟩ := h
  obtain ⟨ds0, h0⟩ := Option.isSome_iff_exists.mp h0
  obtain ⟨m, l, vs, _, hl, ho, _⟩ := r.atO h0
  refine ⟨_, hl, .inl ⟨rfl, _, .inl (.inl ho)⟩, kt T ρ σ H _ _ r h fun d ρ1 v H1 r1 p1 v1 h => ?_⟩
  obtain ⟨ds, h1, hz, h2⟩ := h
  obtain ⟨m', l', vs', hm', hl', ho', hr'⟩ := r1.atO h1
  rw [hl] at hl'; cases hl'
  obtain ⟨r3, q3⟩ := r1.setO hm' hl (hr'.append (.cons v1 .nil))
  exact ⟨l, vs', v, rfl, rfl, ho', by rw [hr'.length]; exact hz, q _ _ _ _ r3 (p1.trans q3) .non h2⟩
def dExt (i : Nat) (f : DE) : DE := fun ρ Q => (atO ρ i).isSome = true ∧ f ρ fun d ρ1 => ∃ ds es, atO ρ1 i = some ds ∧ d = .list es ∧ ds.length + es.length ≤ 16777216 ∧ Q .none (setO ρ1 i (ds ++ es))
theorem je_ext {i : Nat} {px pa pc : Pos} (hN : X.N[i]? = some x) (hv : Vis X.env.scope x) (he : JE X e fa) (hd : (x == ("__debug__" : Str)) = false := by decide) (hcd : (x == ("__classdict__" : Str)) = false := by decide)
    (hbase : attributeBase (.Name x px) "extend" X.env (eval (.Name x px) X.env) = eval (.Name x px) X.env := by rfl)
    (hfew : ((backTo pc (starEach [e] X.env)).all (fun x => !x.1) && (backToKw pc (keywordEach [] X.env)).all (fun x => x.1.isSome) && decide ([e].length + ([] : List Keyword).length + (if ([] : List Keyword).isEmpty then 0 else 1) < 30)) = true := by rfl)
    (hline : (pa.endLine == pc.line) = true := by rfl) (hs : starEach [e] X.env = (false, eval e X.env) :: starEach [] X.env := by rfl) : JE X (.Call (.Attribute (.Name x px) "extend" pa) [e] [] pc) (dExt i fa) := by
  obtain ⟨t, pt, kt⟩ := he.ex
  refine ⟨_, pe_bm PySem.F.plainAttrs_list PySem.F.slot_list_extend PySem.F.type_list_extend mt_extend (pe_var hN hv hd hcd) (pa_cons pt pa_nil hs) hbase hfew hline hs, fun T ρ σ H QD Q r h q => ?_⟩
  obtain ⟨h0, h⟩ := h
  obtain ⟨ds0, h0⟩ := Option.isSome_iff_exists.mp h0
  obtain ⟨m, l, vs, _, hl, ho, _⟩ := r.atO h0
  refine ⟨_, hl, .inl ⟨rfl, _, .inl (.inl ho)⟩, kt T ρ σ H _ _ r h fun d ρ1 v H1 r1 p1 v1 h => ?_⟩
  obtain ⟨ds, es, h1, rfl, hz, h2⟩ := h
  obtain ⟨m', l', vs', hm', hl', ho', hr'⟩ := r1.atO h1
  rw [hl] at hl'; cases hl'
  cases v1 with
  | lst hp rr =>
    obtain ⟨r3, q3⟩ := r1.setO hm' hl (hr'.append rr)
    exact ⟨l, _, vs', _, rfl, rfl, ho', at_of hp, by rw [hr'.length, rr.length]; exact hz, q _ _ _ _ r3 (p1.trans q3) .non h2⟩
def dPopAt (i : Nat) (f : DE) : DE := fun ρ Q => (atO ρ i).isSome = true ∧ f ρ fun k ρ1 => ∃ ds j n d, atO ρ1 i = some ds ∧ k = .int j ∧ 0 ≤ j ∧ j < ds.length ∧ n = j.toNat ∧ ds[n]? = some d ∧ ds.length ≤ 1000000 ∧ Q d (setO ρ1 i (ds.eraseIdx n))
theorem je_popAt {i : Nat} {px pa pc : Pos} (hN : X.N[i]? = some x) (hv : Vis X.env.scope x) (he : JE X e fa) (hd : (x == ("__debug__" : Str)) = false := by decide) (hcd : (x == ("__classdict__" : Str)) = false := by decide)
    (hbase : attributeBase (.Name x px) "pop" X.env (eval (.Name x px) X.env) = eval (.Name x px) X.env := by rfl)
    (hfew : ((backTo pc (starEach [e] X.env)).all (fun x => !x.1) && (backToKw pc (keywordEach [] X.env)).all (fun x => x.1.isSome) && decide ([e].length + ([] : List Keyword).length + (if ([] : List Keyword).isEmpty then 0 else 1) < 30)) = true := by rfl)
    (hline : (pa.endLine == pc.line) = true := by rfl) (hs : starEach [e] X.env = (false, eval e X.env) :: starEach [] X.env := by rfl) : JE X (.Call (.Attribute (.Name x px) "pop" pa) [e] [] pc) (dPopAt i fa) := by
  obtain ⟨t, pt, kt⟩ := he.ex
  refine ⟨_, pe_bm PySem.F.plainAttrs_list PySem.F.slot_list_pop PySem.F.type_list_pop mt_popAt (pe_var hN hv hd hcd) (pa_cons pt pa_nil hs) hbase hfew hline hs, fun T ρ σ H QD Q r h q => ?_⟩
  obtain ⟨h0, h⟩ := h
  obtain ⟨ds0, h0⟩ := Option.isSome_iff_exists.mp h0
  obtain ⟨m, l, vs, _, hl, ho, _⟩ := r.atO h0
  refine ⟨_, hl, .inl ⟨rfl, _, .inl (.inl ho)⟩, kt T ρ σ H _ _ r h fun d ρ1 v H1 r1 p1 v1 h => ?_⟩
  obtain ⟨ds, j, n, z, h1, rfl, j0, jl, hn, hz, hlen, h2⟩ := h
  obtain ⟨m', l', vs', hm', hl', ho', hr'⟩ := r1.atO h1
  rw [hl] at hl'; cases hl'
  cases v1
  obtain ⟨u, hu, ru⟩ := hr'.get hz
  obtain ⟨r3, q3⟩ := r1.setO hm' hl (hr'.erase n)
  have ix : seqIndex? j vs'.length = some n := by
    have hx : ixN vs'.length j = some n := by
      unfold ixN
      rw [if_pos j0, if_pos (by rw [hr'.length]; exact jl), hn]
    exact (ixN_seq hx).1
  exact ⟨l, vs', j, n, u, rfl, rfl, ho', by omega, by omega, ix, hu, q _ _ _ _ r3 (p1.trans q3) (ru.mono q3.fz) h2⟩
/-- an owned list's name as a value: from there on it stands as it is -/
def dVarF (i : Nat) : DE := fun ρ Q => match ρ[i]? with
  | some (some (.ow (.lst ds))) => Q (.list ds) (ρ.set i (some (.im (.list ds))))
  | _ => False
theorem je_varF {i : Nat} (hN : X.N[i]? = some x) (hv : Vis X.env.scope x) (hd : (x == ("__debug__" : Str)) = false := by decide) (hcd : (x == ("__classdict__" : Str)) = false := by decide) : JE X (.Name x pos) (dVarF i) := by
  refine ⟨_, pe_var hN hv hd hcd, fun T ρ σ H QD Q r h q => ?_⟩
  unfold dVarF at h
  split at h
  · rename_i ds e1
    have rf := r.freeze e1
    obtain ⟨v, hv, rv⟩ := rf.im i (.list ds) (List.getElem?_set_self (List.getElem?_eq_some_iff.mp e1).1)
    exact ⟨v, hv, q _ _ _ _ rf .freeze rv h⟩
  · exact False.elim h

/-! ### in, not in; {}; repr of truth values -/
def dIn (neg : Bool) : D → D → (D → Prop) → Prop := fun x y Q => ∃ ds, seqD y = some ds ∧ isSc x = true ∧ ds.all isSc = true ∧ Q (.bool (if neg then !(ds.any fun z => PyData.eqv z x) else ds.any fun z => PyData.eqv z x))
theorem flat_sc {K : PySem.W.Frag} {G : Hp} {v : V} {d : D} (r : Rp K G v d) (h : isSc d = true) : flatV v = true := by cases r <;> first | rfl | (simp [isSc] at h; done)
theorem flat_all {K : PySem.W.Frag} {G : Hp} : ∀ {vs : List V} {ds : List D}, RpAll K G vs ds → ds.all isSc = true → vs.all flatV = true
  | _, _, .nil, _ => rfl
  | _, _, .cons h r, c => by
    rw [List.all_cons, Bool.and_eq_true] at c ⊢
    exact ⟨flat_sc h c.1, flat_all r c.2⟩
theorem eqV_rp {K : PySem.W.Frag} {G G' : Hp} {v u : V} {d e : D} (r : Rp K G v d) (s : Rp K G' u e) (h1 : isSc d = true) (h2 : isSc e = true) : eqV v u = PyData.eqv d e := by
  cases r <;> first | (simp [isSc] at h1; done) | skip
  all_goals cases s <;> first | (simp [isSc] at h2; done) | simp [eqV, PyData.eqv]
theorem inV_rp {K : PySem.W.Frag} {G G' : Hp} {x : V} {d : D} (s : Rp K G' x d) (h1 : isSc d = true) : ∀ {vs : List V} {ds : List D}, RpAll K G vs ds → ds.all isSc = true → inV x vs = ds.any fun z => PyData.eqv z d
  | _, _, .nil, _ => rfl
  | _, _, .cons h r, c => by
    rw [List.all_cons, Bool.and_eq_true] at c
    show (eqV _ _ || inV _ _) = (_ || _)
    rw [eqV_rp h s c.1 h1, inV_rp s h1 r c.2]
theorem opd_in : OpD X (compareOp .In) (dIn false) := by
  refine ⟨_, op_in_seq, fun O H x y d e QD Q hO rx ry h k => ?_⟩
  obtain ⟨ds, h1, h2, h3, h4⟩ := h
  obtain ⟨q, xs, rfl, hs, rr⟩ := seq_rp ry h1
  exact ⟨_, _, rfl, hs, flat_sc rx h2, flat_all rr h3, k _ _ H (.refl H) (.bl _) (by rw [inV_rp rx h2 rr h3]; exact h4)⟩
theorem opd_notin : OpD X (compareOp .NotIn) (dIn true) := by
  refine ⟨_, op_notIn_seq, fun O H x y d e QD Q hO rx ry h k => ?_⟩
  obtain ⟨ds, h1, h2, h3, h4⟩ := h
  obtain ⟨q, xs, rfl, hs, rr⟩ := seq_rp ry h1
  exact ⟨_, _, rfl, hs, flat_sc rx h2, flat_all rr h3, k _ _ H (.refl H) (.bl _) (by rw [inV_rp rx h2 rr h3]; exact h4)⟩
theorem je_dict0 : JE X (.Dict [] [] pos) (dC (.dict [])) := by
  refine ⟨_, pe_dnewK, fun T ρ σ H QD Q r h q => ?_⟩
  intro l hl
  exact q _ _ _ _ (r.grow (Ex.new hl)) (.grow (Ex.new hl)) (.dct (hide_new (fun a => r.hdDom) hl) .nil rfl) h
def dRepB : List D → (D → Prop) → Prop
  | [.bool b] => fun Q => Q (.str (if b then "True" else "False"))
  | _ => fun _ => False
theorem calld_reprB : CallD X (.builtin "repr") dRepB := by
  refine ⟨fun xs H Q => ∃ b, xs = [V.bl b] ∧ Q (.str (if b then "True" else "False")) H, fun pins s σ H xs us Q I r h => ?_, fun O H vs ds QD Q hO r h k => ?_⟩
  · obtain ⟨b, rfl, q⟩ := h
    obtain ⟨u, rfl, ru⟩ := vals1 r
    cases ru
    exact PySem.P.repr_of_bool ⟨.str _, H, I.tok _, ⟨_, rfl⟩, q⟩
  · unfold dRepB at h
    split at h
    · obtain ⟨v, rfl, w⟩ := rp1 r
      cases w
      exact ⟨_, rfl, k _ _ H (.refl H) (.str _) h⟩
    · exact False.elim h
end
end Dn
set_option Elab.async false
set_option linter.all false
set_option maxRecDepth 100000
set_option autoImplicit false
set_option maxHeartbeats 4000000
namespace Dn
open PySem L2 Evl PySem.Spec PyProof.Rows
/-! ### what a def promises -/
/-- a def that changes nothing: S of the arguments' data and of what is wanted of the result -/
def spD (K : PySem.W.Frag) (n : Nat) (S : List D → (D → Prop) → Prop) : Sp := fun vs H Q _ => vs.length = n ∧ ∃ (T : Addr → Prop) (ds : List D) (QD : D → Prop), (∀ a, T a → H a ≠ none) ∧ RpAll K (hide T H) vs ds ∧ S ds QD ∧
  ∀ v d H', QD d → Ex H H' → Rp K (hide T H') v d → Q v H'
/-- a def that changes the list handed in first -/
def spM (K : PySem.W.Frag) (n : Nat) (S : List D → List D → (D → List D → Prop) → Prop) : Sp := fun vs H Q _ => vs.length = n ∧ ∃ (T : Addr → Prop) (l : Addr) (us : List V) (ws : List V) (ms : List D) (ds : List D) (QD : D → List D → Prop),
  vs = .ref l :: us ∧ (∀ a, T a → H a ≠ none) ∧ ¬ T l ∧ H l = some (.lst ws) ∧ RpAll K (hide (plus T l) H) ws ms ∧ RpAll K (hide (plus T l) H) us ds ∧ S ms ds QD ∧
  ∀ v d ms' ws' H', QD d ms' → (∀ a o, a ≠ l → H a = some o → H' a = some o) → H' l = some (.lst ws') → RpAll K (hide (plus T l) H') ws' ms' → Rp K (hide (plus T l) H') v d → Q v H'
section
variable {X : Cx} {a b c e : Expr} {fa fb fc : DE} {pos p : Pos} {es : List Expr} {x y : Str} {k : Nat} {f : Addr} {fd : FuncData} {ps : List Str} {n : Nat}
def dCallF (n : Nat) (S : List D → (D → Prop) → Prop) (g : DA) : DE := fun ρ Q => g ρ fun ds ρ1 => ds.length = n ∧ S ds fun z => Q z ρ1
theorem spD_of {K : PySem.W.Frag} {T : Addr → Prop} {ρ0 ρ : Env} {σ : L2.St} {H0 H : Hp} {vs : List V} {ds : List D} {S : List D → (D → Prop) → Prop} {QD : D → Env → Prop} {Q : VK} {E : XK} (r : RS K T ρ σ H) (q : Po ρ0 σ H0 ρ σ H) (rv : RpAll K (hide (Hd T ρ σ) H) vs ds) (hn : ds.length = n) (h : S ds fun z => QD z ρ)
    (k : ∀ d ρ' v H', RS K T ρ' σ H' → Po ρ0 σ H0 ρ' σ H' → Rp K (hide (Hd T ρ' σ) H') v d → QD d ρ' → Q v H') : spD K n S vs H Q E :=
  ⟨by rw [rv.length, hn], Hd T ρ σ, ds, _, fun a => r.hdDom, rv, h, fun v d H' hq e r2 => k d ρ v H' (r.grow e) (q.trans (.grow e)) r2 hq⟩
theorem je_call {S : List D → (D → Prop) → Prop} {g : DA} (F : FnOk X.prog X.w X.K X.mg X.base L2.CX0 k f fd ps (spD X.K n S)) (hr : Room k X.A) (hm : X.mg x = some (.ref f)) (hk : PySem.W.keepIn X.K (.ref f) = true) (hb : Binds X.K fd ps []) (ha : JA X (e :: es) g) (hg : Gl X x := by rfl)
    (hdb : (x == ("__debug__" : Str)) = false := by decide) (he : starEach (e :: es) X.env = (false, eval e X.env) :: starEach es X.env := by rfl) (hpl : (backTo pos (starEach es X.env)).any (·.1) = false := by rfl) : JE X (.Call (.Name x p) (e :: es) [] pos) (dCallF n S g) := by
  obtain ⟨t, pa, ka⟩ := ha.ex
  refine ⟨_, pe_call F hr hg hm hk hb .nil (E := fun _ _ _ => False) (fun _ _ _ _ _ _ _ h => h.elim) pa hdb he hpl, fun T ρ σ H QD Q r h q => ka T ρ σ H _ _ r h fun ds ρ1 vs H1 r1 p1 v1 h => ?_⟩
  rw [List.append_nil]
  exact spD_of r1 p1 v1 h.1 h.2 q
theorem je_call0 {S : List D → (D → Prop) → Prop} (F : FnOk X.prog X.w X.K X.mg X.base L2.CX0 k f fd ps (spD X.K n S)) (hr : Room k X.A) (hm : X.mg x = some (.ref f)) (hk : PySem.W.keepIn X.K (.ref f) = true) (hb : Binds X.K fd ps []) (hg : Gl X x := by rfl)
    (hdb : (x == ("__debug__" : Str)) = false := by decide) : JE X (.Call (.Name x p) [] [] pos) (dCallF n S aNil) := by
  refine ⟨_, pe_call0 F hr hg hm hk hb .nil (E := fun _ _ _ => False) (fun _ _ _ _ _ _ _ h => h.elim) hdb, fun T ρ σ H QD Q r h q => ?_⟩
  exact spD_of (E := fun _ _ _ => False) r .refl .nil h.1 h.2 q
def dCallM (i n : Nat) (S : List D → List D → (D → List D → Prop) → Prop) (g : DA) : DE := fun ρ Q => (atO ρ i).isSome = true ∧ g ρ fun ds ρ1 => ds.length + 1 = n ∧ ∃ ms, atO ρ1 i = some ms ∧ S ms ds fun d ms' => Q d (setO ρ1 i ms')
theorem plus_hd {T : Addr → Prop} {ρ : Env} {σ : L2.St} {l a : Addr} {i : Nat} {m : MO} (hm : ρ[i]? = some (some (SV.ow m))) (hl : σ[i]? = some (some (V.ref l))) (h : plus (fun a => Hd T ρ σ a ∧ a ≠ l) l a) : Hd T ρ σ a := by
  rcases h with h | h
  · subst h; exact .inr ⟨i, m, hm, hl⟩
  · exact h.1
theorem hd_plus {T : Addr → Prop} {ρ : Env} {σ : L2.St} {l a : Addr} (h : Hd T ρ σ a) : plus (fun a => Hd T ρ σ a ∧ a ≠ l) l a := by
  by_cases e : a = l
  · exact .inl e
  · exact .inr ⟨h, e⟩
theorem je_callM {i : Nat} {px : Pos} {S : List D → List D → (D → List D → Prop) → Prop} {g : DA} (F : FnOk X.prog X.w X.K X.mg X.base L2.CX0 k f fd ps (spM X.K n S)) (hr : Room k X.A) (hm : X.mg x = some (.ref f)) (hk : PySem.W.keepIn X.K (.ref f) = true) (hb : Binds X.K fd ps [])
    (hN : X.N[i]? = some y) (hv : Vis X.env.scope y) (ha : JA X es g) (hg : Gl X x := by rfl) (hd : (y == ("__debug__" : Str)) = false := by decide) (hcd : (y == ("__classdict__" : Str)) = false := by decide)
    (hdb : (x == ("__debug__" : Str)) = false := by decide) (he : starEach (Expr.Name y px :: es) X.env = (false, eval (Expr.Name y px) X.env) :: starEach es X.env := by rfl) (hpl : (backTo pos (starEach es X.env)).any (·.1) = false := by rfl) : JE X (.Call (.Name x p) (.Name y px :: es) [] pos) (dCallM i n S g) := by
  obtain ⟨t, pa, ka⟩ := ha.ex
  refine ⟨_, pe_call F hr hg hm hk hb .nil (E := fun _ _ _ => False) (fun _ _ _ _ _ _ _ h => h.elim) (pa_cons (pe_var hN hv hd hcd) pa he) hdb he hpl, fun T ρ σ H QD Q r h q => ?_⟩
  obtain ⟨h0, h⟩ := h
  obtain ⟨ds0, h0⟩ := Option.isSome_iff_exists.mp h0
  obtain ⟨m, l, vs, _, hl, _, _⟩ := r.atO h0
  refine ⟨_, hl, ka T ρ σ H _ _ r h fun ds ρ1 us H1 r1 p1 v1 h => ?_⟩
  obtain ⟨hn, ms, h1, h⟩ := h
  obtain ⟨m', l', ws, hm', hl', ho', hr'⟩ := r1.atO h1
  rw [hl] at hl'; cases hl'
  rw [List.append_nil]
  have e1 : Ex (hide (Hd T ρ1 σ) H1) (hide (plus (fun a => Hd T ρ1 σ a ∧ a ≠ l) l) H1) := hide_sub fun a w => plus_hd hm' hl w
  refine ⟨by simp [v1.length, hn], fun a => Hd T ρ1 σ a ∧ a ≠ l, l, us, ws, ms, ds, _, rfl, fun a w => r1.hdDom w.1, fun w => w.2 rfl, ho', hr'.mono e1, v1.mono e1, h, fun v d ms' ws' H' hq kp hl2 rm rv => ?_⟩
  -- the heap behind the call, as if the list had been written at once
  have e2 : Ex (hide (plus (fun a => Hd T ρ1 σ a ∧ a ≠ l) l) H') (hide (Hd T ρ1 σ) (upd H' l (.lst ws'))) := fun a o w => by
    obtain ⟨w1, w2⟩ := hide_some.1 w
    exact hide_some.2 ⟨fun z => w1 (hd_plus z), by rw [upd_ne (fun z => w1 (.inl z))]; exact w2⟩
  have back : upd H' l (.lst ws') = H' := by
    funext a
    by_cases z : a = l
    · subst z; rw [upd_same, hl2]
    · rw [upd_ne z]
  -- first the rest of the heap grows, then the list is written
  let Hm : Hp := fun a => if a = l then some (.lst ws) else H' a
  have eM : Ex H1 Hm := fun a o w => by
    show (if a = l then _ else _) = _
    by_cases z : a = l
    · subst z; rw [if_pos rfl, ← ho', w]
    · rw [if_neg z]; exact kp a o z w
  have rM := r1.grow eM
  have uM : upd Hm l (.lst ws') = H' := by
    funext a
    by_cases z : a = l
    · subst z; rw [upd_same, hl2]
    · rw [upd_ne z]; show (if a = l then _ else _) = _; rw [if_neg z]
  have e3 : Ex (hide (plus (fun a => Hd T ρ1 σ a ∧ a ≠ l) l) H') (hide (Hd T ρ1 σ) Hm) := fun a o w => by
    obtain ⟨w1, w2⟩ := hide_some.1 w
    refine hide_some.2 ⟨fun z => w1 (hd_plus z), ?_⟩
    show (if a = l then _ else _) = _
    rw [if_neg (fun z => w1 (.inl z))]; exact w2
  obtain ⟨r3, q3⟩ := rM.setO hm' hl (rm.mono e3)
  rw [uM] at r3 q3
  have pM : Po ρ σ H ρ1 σ Hm := p1.trans (.grow eM)
  exact q d _ v H' r3 (pM.trans q3) ((rv.mono e3).mono q3.fz) hq

/-! ### a def keeps its promise -/
def envD (ds : List D) (m : Nat) : Env := ds.map (fun d => some (SV.im d)) ++ List.replicate m none
theorem envD_get {ds : List D} {m i : Nat} {sv : SV} (h : (envD ds m)[i]? = some (some sv)) : ∃ d, ds[i]? = some d ∧ sv = .im d := by
  unfold envD at h
  rw [List.getElem?_append] at h
  split at h
  · rw [List.getElem?_map] at h
    obtain ⟨d, h1, h2⟩ := Option.map_eq_some_iff.mp h
    cases h2
    exact ⟨d, h1, rfl⟩
  · rw [List.getElem?_replicate] at h
    split at h <;> cases h
theorem envD_len {ds : List D} {m : Nat} : (envD ds m).length = ds.length + m := by unfold envD; simp
theorem start_get {N : List Str} {vs : List V} {i : Nat} {v : V} (h : vs[i]? = some v) : (L2.start N vs)[i]? = some (some v) := by
  unfold L2.start
  have hi := (List.getElem?_eq_some_iff.mp h).1
  rw [List.getElem?_append_left (by simp; exact hi), List.getElem?_map, h]
  rfl
theorem fn_D {P : Program} {w : World} {K : PySem.W.Frag} {mg : Str → Option Value} {base : Heap} {name qual : Str} {params : Arguments} {body : List Stmt} {scope : Scope} {N : List Str} {S : List D → (D → Prop) → Prop} {g : DS} (F : FunD K name qual params body scope [] [] f fd) (Sc : FnScope N ps scope)
    (hb : ∀ (cdv : Value) (A : Around) (outer : List PySem.Env) (s : Shared) (H : Hp) (E : XK), Room k (A.deeper (envOfC qual scope s.heap.objs.size f cdv)) → JSs (cxOf L2.CX0 P w K mg base N qual scope f cdv A outer s H E).nox body g)
    (hS : ∀ (ds : List D) (Q : D → Prop), ds.length = ps.length → S ds Q → g { nx := fun _ => Q .none, rt := fun d _ => Q d } (envD ds (N.length - ps.length))) : FnOk P w K mg base L2.CX0 (k + 1) f fd ps (spD K ps.length S) := by
  refine F.ok Sc (fun vs H Q E h => h.1) (fun cdv A outer s H vs Q E hr h => ?_)
  obtain ⟨t, pt, kt⟩ := (hb cdv A outer s H E hr).ex
  refine ⟨t, PSs.nox pt, ?_⟩
  obtain ⟨hl, T, ds, QD, hT, rv, hs, hq⟩ := h
  have hl2 : ds.length = ps.length := by rw [← rv.length, hl]
  have no : ∀ a, ¬ Own (envD ds (N.length - ps.length)) (L2.start N vs) a := fun a ⟨i, m, h1, _⟩ => by
    obtain ⟨d, _, z⟩ := envD_get h1
    cases z
  have e0 : Ex (hide T H) (hide (Hd T (envD ds (N.length - ps.length)) (L2.start N vs)) H) := hide_sub fun a w => w.elim id fun w => (no a w).elim
  have r0 : RS K T (envD ds (N.length - ps.length)) (L2.start N vs) H := by
    refine ⟨?_, fun i d h => ?_, fun i m h => ?_, fun i j m m' a h1 _ _ _ => ?_, fun a _ => no a, hT, fun i q m a h1 _ => ?_⟩
    · rw [envD_len]; unfold L2.start; simp [hl, hl2]
    · obtain ⟨d', h1, z⟩ := envD_get h
      cases z
      obtain ⟨v, h2, h3⟩ := rv.get h1
      exact ⟨v, start_get h2, h3.mono e0⟩
    · obtain ⟨d, _, z⟩ := envD_get h; cases z
    · obtain ⟨d, _, z⟩ := envD_get h1; cases z
    · obtain ⟨d, _, z⟩ := envD_get h1; cases z
  have kp : ∀ {ρ' : Env} {σ' : L2.St} {H' : Hp}, Po (envD ds (N.length - ps.length)) (L2.start N vs) H ρ' σ' H' → Ex H H' := fun q a o h => q.keep a o (no a) h
  refine kt T _ _ H _ _ r0 (hS ds QD hl2 hs) ⟨fun ρ' σ' H' r q h => hq .non .none H' h (kp q) .non, fun d ρ' σ' v H' r q rv h => hq v d H' h (kp q) (rv.mono (hide_sub fun a w => .inl w)), fun _ _ _ _ _ h => h.elim, fun _ _ _ _ _ h => h.elim⟩
theorem fn_M {P : Program} {w : World} {K : PySem.W.Frag} {mg : Str → Option Value} {base : Heap} {name qual : Str} {params : Arguments} {body : List Stmt} {scope : Scope} {N : List Str} {S : List D → List D → (D → List D → Prop) → Prop} {g : DS} (F : FunD K name qual params body scope [] [] f fd) (Sc : FnScope N ps scope)
    (hb : ∀ (cdv : Value) (A : Around) (outer : List PySem.Env) (s : Shared) (H : Hp) (E : XK), Room k (A.deeper (envOfC qual scope s.heap.objs.size f cdv)) → JSs (cxOf L2.CX0 P w K mg base N qual scope f cdv A outer s H E).nox body g)
    (hS : ∀ (l : Addr) (ms ds : List D) (Q : D → List D → Prop), ds.length + 1 = ps.length → S ms ds Q → g { nx := fun ρ => ∃ ms', ρ[0]? = some (some (.ow (.par l (.lst ms')))) ∧ Q .none ms', rt := fun d ρ => ∃ ms', ρ[0]? = some (some (.ow (.par l (.lst ms')))) ∧ Q d ms' } (some (.ow (.par l (.lst ms))) :: envD ds (N.length - ps.length))) :
    FnOk P w K mg base L2.CX0 (k + 1) f fd ps (spM K ps.length S) := by
  refine F.ok Sc (fun vs H Q E h => h.1) (fun cdv A outer s H vs Q E hr h => ?_)
  obtain ⟨t, pt, kt⟩ := (hb cdv A outer s H E hr).ex
  refine ⟨t, PSs.nox pt, ?_⟩
  obtain ⟨hl, T, l, us, ws, ms, ds, QD, rfl, hT, nT, ho, rm, rv, hs, hq⟩ := h
  have hl1 : us.length + 1 = ps.length := by simpa using hl
  have hl2 : ds.length + 1 = ps.length := by rw [← rv.length, hl1]
  generalize hρ : (some (SV.ow (.par l (.lst ms))) :: envD ds (N.length - ps.length) : Env) = ρ0
  have g0 : ∀ (i : Nat) (sv : SV), ρ0[i]? = some (some sv) → (i = 0 ∧ sv = .ow (.par l (.lst ms))) ∨ ∃ j d, i = j + 1 ∧ ds[j]? = some d ∧ sv = .im d := fun i sv h => by
    subst hρ
    cases i with
    | zero => simp at h; exact .inl ⟨rfl, h.symm⟩
    | succ j =>
      obtain ⟨d, h1, h2⟩ := envD_get (show (envD ds (N.length - ps.length))[j]? = _ by simpa using h)
      exact .inr ⟨j, d, rfl, h1, h2⟩
  have s0 : (L2.start N (.ref l :: us))[0]? = some (some (V.ref l)) := start_get rfl
  have own : ∀ a, Own ρ0 (L2.start N (.ref l :: us)) a → a = l := fun a ⟨i, m, h1, h2⟩ => by
    rcases g0 i _ h1 with ⟨rfl, _⟩ | ⟨_, _, _, _, z⟩
    · rw [s0] at h2; cases h2; rfl
    · cases z
  have e0 : Ex (hide (plus T l) H) (hide (Hd T ρ0 (L2.start N (.ref l :: us))) H) := hide_sub fun a w => w.elim .inr fun w => .inl (own a w)
  have r0 : RS K T ρ0 (L2.start N (.ref l :: us)) H := by
    refine ⟨?_, fun i d h => ?_, fun i m h => ?_, fun i j m m' a h1 h2 _ _ => ?_, fun a t w => ?_, hT, fun i q m a h1 h2 => ?_⟩
    · rw [← hρ]; unfold L2.start; simp [envD_len, ← hl2, rv.length]
    · rcases g0 i _ h with ⟨_, z⟩ | ⟨j, d', rfl, h1, z⟩
      · cases z
      · cases z
        obtain ⟨v, h2, h3⟩ := rv.get h1
        exact ⟨v, start_get (by simpa using h2), h3.mono e0⟩
    · rcases g0 i _ h with ⟨rfl, z⟩ | ⟨_, _, _, _, z⟩
      · cases z
        exact ⟨l, _, s0, ho, by unfold RpO; exact RpAll.mono e0 rm⟩
      · cases z
    · rcases g0 i _ h1 with ⟨rfl, _⟩ | ⟨_, _, _, _, z⟩
      · rcases g0 j _ h2 with ⟨rfl, _⟩ | ⟨_, _, _, _, z⟩
        · rfl
        · cases z
      · cases z
    · rw [own a w] at t; exact nT t
    · rcases g0 i _ h1 with ⟨rfl, z⟩ | ⟨_, _, _, _, z⟩
      · cases z; rw [s0] at h2; cases h2; rfl
      · cases z
  have kp : ∀ {ρ' : Env} {σ' : L2.St} {H' : Hp}, Po ρ0 (L2.start N (.ref l :: us)) H ρ' σ' H' → ∀ a o, a ≠ l → H a = some o → H' a = some o := fun q a o ne h => q.keep a o (fun w => ne (own a w)) h
  have fin : ∀ {ρ' : Env} {σ' : L2.St} {H' : Hp} {ms' : List D}, RS K T ρ' σ' H' → ρ'[0]? = some (some (SV.ow (.par l (.lst ms')))) → ∃ ws', H' l = some (.lst ws') ∧ RpAll K (hide (plus T l) H') ws' ms' ∧ Ex (hide (Hd T ρ' σ') H') (hide (plus T l) H') := fun {ρ' σ' H' ms'} r h => by
    obtain ⟨a, o, h1, h2, h3⟩ := r.ow 0 _ h
    obtain rfl := r.tag 0 _ _ a h h1
    obtain ⟨ws', rfl, h4⟩ := getL_rp (ds := ms') h3 rfl
    have e : Ex (hide (Hd T ρ' σ') H') (hide (plus T a) H') := hide_sub fun b w => w.elim (fun z => .inr ⟨0, _, h, by rw [z]; exact h1⟩) .inl
    exact ⟨ws', h2, h4.mono e, e⟩
  rw [← hρ] at *
  refine kt T _ _ H _ _ r0 (hS l ms ds QD hl2 hs) ⟨fun ρ' σ' H' r q h => ?_, fun d ρ' σ' v H' r q rv h => ?_, fun _ _ _ _ _ h => h.elim, fun _ _ _ _ _ h => h.elim⟩
  · obtain ⟨ms', h1, h2⟩ := h
    obtain ⟨ws', a1, a2, _⟩ := fin r h1
    exact hq .non .none ms' ws' H' h2 (kp q) a1 a2 .non
  · obtain ⟨ms', h1, h2⟩ := h
    obtain ⟨ws', a1, a2, a3⟩ := fin r h1
    exact hq v d ms' ws' H' h2 (kp q) a1 a2 (rv.mono a3)
end
end Dn
set_option Elab.async false
set_option linter.all false
set_option maxRecDepth 100000
set_option autoImplicit false
set_option maxHeartbeats 4000000
namespace Dn
open PySem L2 Evl PySem.Spec PyProof.Rows
section
variable {X : Cx} {a b c e : Expr} {fa fb fc : DE} {pos p : Pos} {es : List Expr} {x y : Str} {k : Nat} {f : Addr} {fd : FuncData} {ps : List Str} {n : Nat}
/-! ### walks over a list or a tuple, whichever it is -/
def iSq0 (K : PySem.W.Frag) (tl : TE) : TI := fun σ H R => tl σ H fun x H1 => ∃ a, x = .ref a ∧ (((∃ xs, SqL K H1 a xs) ∧ R (Itl K a) H1) ∨ ((∃ xs, SqT K H1 a xs) ∧ R (Itt K a) H1))
theorem pi_sq {tg l : Expr} {tl : TE} (hl : PE X l tl) : PI X tg l (iSq0 X.K tl) := by
  refine ⟨fun pins s σ H R I h => ?_⟩
  refine thn (hl.run pins s σ H _ I h) fun v s1 ⟨x, H1, I1, r1, q1⟩ => ?_
  obtain ⟨q, rfl, h⟩ := q1
  cases r1
  have fp : ∀ (o : Obj), ∀ bb ∈ [s1.heap.objs.size], FpOk X pins H1 bb := fun o bb hb => by
    have : bb = s1.heap.objs.size := by simpa using hb
    subst this
    exact I1.fpOk (Nat.le_refl _) (I1.hok.fresh (Nat.le_refl _))
  rcases h with ⟨⟨xs, hq⟩, h⟩ | ⟨⟨xs, hq⟩, h⟩
  · obtain ⟨its, rv, isL, hz⟩ := I1.list hq
    refine wpAny_pyIter_list isL.isList ?_
    exact ⟨s1.heap.objs.size, [s1.heap.objs.size], _, _, H1, rfl, I1.kept (t' := s1.toks) fun b o e => Heap.get?_push_of_some _ e, turn_list q _, ⟨_, Heap.get?_push_size _ rfl, rfl, rfl⟩, fp default, h⟩
  · obtain ⟨its, rv, isT, hz⟩ := I1.tuple hq
    refine wpAny_pyIter_tuple (show s1.heap.IsTuple q its.toArray from isT) ?_
    exact ⟨s1.heap.objs.size, [s1.heap.objs.size], _, _, H1, rfl, I1.kept (t' := s1.toks) fun b o e => Heap.get?_push_of_some _ e, turn_tuple q _, ⟨_, Heap.get?_push_size _ rfl, rfl, rfl⟩, fp default, h⟩
def iSq (f : DE) : DL := fun ρ Q => f ρ fun d ρ1 => ∃ ds, seqD d = some ds ∧ Q ds ρ1
theorem ji_sq {tg : Expr} (ha : JE X a fa) : JI X tg a (iSq fa) := by
  obtain ⟨t, pt, kt⟩ := ha.ex
  refine ⟨_, pi_sq pt, fun T ρ σ H QD R r h q => kt T ρ σ H _ _ r h fun d ρ1 v H1 r1 p1 v1 h => ?_⟩
  obtain ⟨ds, e, h⟩ := h
  cases v1
  case dct h1 h2 h3 => rw [h3, seq_dk] at e; cases e
  all_goals simp only [seqD, Option.some.injEq, reduceCtorEq] at e
  · subst e
    rename_i hp rr
    exact ⟨_, rfl, .inl ⟨⟨_, .inl (.inl (at_of hp))⟩, q _ _ _ _ r1 p1 (it_list (.inl (.inl hp)) rr) h⟩⟩
  · subst e
    rename_i hp rr
    exact ⟨_, rfl, .inr ⟨⟨_, sqt_of hp⟩, q _ _ _ _ r1 p1 (it_tup (lt_of hp) rr) h⟩⟩
  · subst e
    rename_i hp rr
    exact ⟨_, rfl, .inl ⟨⟨_, sql_of hp⟩, q _ _ _ _ r1 p1 (it_list hp rr) h⟩⟩
/-- a def that hands back a new list -/
def spL (K : PySem.W.Frag) (n : Nat) (S : List D → (List D → Prop) → Prop) : Sp := fun vs H Q _ => vs.length = n ∧ ∃ (T : Addr → Prop) (ds : List D) (QD : List D → Prop), (∀ a, T a → H a ≠ none) ∧ RpAll K (hide T H) vs ds ∧ S ds QD ∧
  ∀ l us es H', H l = none → H' l = some (.lst us) → QD es → Ex H H' → RpAll K (hide (plus T l) H') us es → Q (.ref l) H'
def lCall (n : Nat) (S : List D → (List D → Prop) → Prop) (g : DA) : DL := fun ρ Q => g ρ fun ds ρ1 => ds.length = n ∧ S ds fun es => Q es ρ1
theorem jl_call {S : List D → (List D → Prop) → Prop} {g : DA} (F : FnOk X.prog X.w X.K X.mg X.base L2.CX0 k f fd ps (spL X.K n S)) (hr : Room k X.A) (hm : X.mg x = some (.ref f)) (hk : PySem.W.keepIn X.K (.ref f) = true) (hb : Binds X.K fd ps []) (ha : JA X (e :: es) g) (hg : Gl X x := by rfl)
    (hdb : (x == ("__debug__" : Str)) = false := by decide) (he : starEach (e :: es) X.env = (false, eval e X.env) :: starEach es X.env := by rfl) (hpl : (backTo pos (starEach es X.env)).any (·.1) = false := by rfl) : JL X (.Call (.Name x p) (e :: es) [] pos) (lCall n S g) := by
  obtain ⟨t, pa, ka⟩ := ha.ex
  refine ⟨_, pe_call F hr hg hm hk hb .nil (E := fun _ _ _ => False) (fun _ _ _ _ _ _ _ h => h.elim) pa hdb he hpl, fun T ρ σ H QD Q r h q => ka T ρ σ H _ _ r h fun ds ρ1 vs H1 r1 p1 v1 h => ?_⟩
  rw [List.append_nil]
  refine ⟨by rw [v1.length, h.1], Hd T ρ1 σ, ds, _, fun a => r1.hdDom, v1, h.2, fun l us es H' hl hl' hq e rr => ?_⟩
  have r2 : RS X.K (plus T l) ρ1 σ H' := by
    have r3 := (r1.laid (o := .lst us) hl)
    refine r3.grow fun a o w => ?_
    by_cases z : a = l
    · subst z; rw [upd_same] at w; rw [hl', w]
    · rw [upd_ne z] at w; exact e a o w
  refine q es ρ1 l us H' (none_back p1 hl) hl' r2 (rr.mono (hide_sub fun a w => ?_)) (p1.trans (.grow e)) hq
  rcases w with (w | w) | w
  · exact .inl w
  · exact .inr (.inl w)
  · exact .inr (.inr w)
structure JSL (X : Cx) (st : List Stmt) (f : (List D → Prop) → Env → Prop) : Prop where
  ex : ∃ t, PSs X st t ∧ ∀ (T : Addr → Prop) (ρ : Env) (σ : L2.St) (H : Hp) (QD : List D → Prop) (D : Ends), RS X.K T ρ σ H → f QD ρ →
    (∀ es ρ' σ' l us H', H l = none → H' l = some (.lst us) → RS X.K (plus T l) ρ' σ' H' → RpAll X.K (hide (Hd (plus T l) ρ' σ') H') us es → Po ρ σ H ρ' σ' H' → QD es → D.rt (.ref l) H') → t D σ H
theorem jsl_ret {g : DL} (ha : JL X e g) : JSL X [.Return (some e) pos] (fun Q ρ => g ρ fun es _ => Q es) := by
  obtain ⟨t, pt, kt⟩ := ha.ex
  refine ⟨_, pss_cons (ps_ret pt) pss_nil, fun T ρ σ H QD D r h k => kt T ρ σ H _ _ r h fun es ρ1 l us H1 n s r1 v1 p1 h => k es ρ1 σ l us H1 n s r1 v1 p1 h⟩
theorem jsl_cons {st : Stmt} {sts : List Stmt} {g : DS} {f : (List D → Prop) → Env → Prop} (h1 : JS X st g) (h2 : JSL X sts f) : JSL X (st :: sts) (fun Q ρ => g { nx := f Q, rt := fun _ _ => False } ρ) := by
  obtain ⟨t1, p1, k1⟩ := h1.ex
  obtain ⟨t2, p2, k2⟩ := h2.ex
  refine ⟨_, pss_cons p1 p2, fun T ρ σ H QD D r h k => k1 T ρ σ H _ _ r h ⟨fun ρ1 σ1 H1 r1 q1 h => k2 T ρ1 σ1 H1 _ _ r1 h fun es ρ' σ' l us H' n s r' v' p' hq => k es ρ' σ' l us H' (none_back q1 n) s r' v' (q1.trans p') hq, fun _ _ _ _ _ _ _ _ h => h.elim, fun _ _ _ _ _ h => h.elim, fun _ _ _ _ _ h => h.elim⟩⟩
/-! ### a def of the text and what it promises -/
def Ok (P : Program) (w : World) (K : PySem.W.Frag) (mg : Str → Option Value) (base : Heap) (x : Str) (ps : List Str) (k : Nat) (sp : Sp) : Prop :=
  ∃ f fd, FnOk P w K mg base L2.CX0 k f fd ps sp ∧ mg x = some (.ref f) ∧ PySem.W.keepIn K (.ref f) = true ∧ Binds K fd ps []
theorem je_fn {S : List D → (D → Prop) → Prop} {g : DA} (O : Ok X.prog X.w X.K X.mg X.base x ps k (spD X.K n S)) (hr : Room k X.A) (ha : JA X (e :: es) g) (hg : Gl X x := by rfl)
    (hdb : (x == ("__debug__" : Str)) = false := by decide) (he : starEach (e :: es) X.env = (false, eval e X.env) :: starEach es X.env := by rfl) (hpl : (backTo pos (starEach es X.env)).any (·.1) = false := by rfl) : JE X (.Call (.Name x p) (e :: es) [] pos) (dCallF n S g) := by
  obtain ⟨f, fd, F, hm, hk, hb⟩ := O
  exact je_call F hr hm hk hb ha hg hdb he hpl
theorem je_fn0 {S : List D → (D → Prop) → Prop} (O : Ok X.prog X.w X.K X.mg X.base x ps k (spD X.K n S)) (hr : Room k X.A) (hg : Gl X x := by rfl) (hdb : (x == ("__debug__" : Str)) = false := by decide) : JE X (.Call (.Name x p) [] [] pos) (dCallF n S aNil) := by
  obtain ⟨f, fd, F, hm, hk, hb⟩ := O
  exact je_call0 F hr hm hk hb hg hdb
theorem jl_fn {S : List D → (List D → Prop) → Prop} {g : DA} (O : Ok X.prog X.w X.K X.mg X.base x ps k (spL X.K n S)) (hr : Room k X.A) (ha : JA X (e :: es) g) (hg : Gl X x := by rfl)
    (hdb : (x == ("__debug__" : Str)) = false := by decide) (he : starEach (e :: es) X.env = (false, eval e X.env) :: starEach es X.env := by rfl) (hpl : (backTo pos (starEach es X.env)).any (·.1) = false := by rfl) : JL X (.Call (.Name x p) (e :: es) [] pos) (lCall n S g) := by
  obtain ⟨f, fd, F, hm, hk, hb⟩ := O
  exact jl_call F hr hm hk hb ha hg hdb he hpl
theorem je_fnM {i : Nat} {px : Pos} {S : List D → List D → (D → List D → Prop) → Prop} {g : DA} (O : Ok X.prog X.w X.K X.mg X.base x ps k (spM X.K n S)) (hr : Room k X.A) (hN : X.N[i]? = some y) (hv : Vis X.env.scope y) (ha : JA X es g) (hg : Gl X x := by rfl) (hd : (y == ("__debug__" : Str)) = false := by decide) (hcd : (y == ("__classdict__" : Str)) = false := by decide)
    (hdb : (x == ("__debug__" : Str)) = false := by decide) (he : starEach (Expr.Name y px :: es) X.env = (false, eval (Expr.Name y px) X.env) :: starEach es X.env := by rfl) (hpl : (backTo pos (starEach es X.env)).any (·.1) = false := by rfl) : JE X (.Call (.Name x p) (.Name y px :: es) [] pos) (dCallM i n S g) := by
  obtain ⟨f, fd, F, hm, hk, hb⟩ := O
  exact je_callM F hr hm hk hb hN hv ha hg hd hcd hdb he hpl
/-- a def of the text: its function object, its name -/
def Is (K : PySem.W.Frag) (mg : Str → Option Value) (x : Str) (st : Stmt) : Prop := ∃ f fd, FunD K x x (defArgs st) (defBody st) (defScope st) [] [] f fd ∧ mg x = some (.ref f)
abbrev BindsAs (x : Str) (st : Stmt) (ps : List Str) : Prop := ∀ (kV doc pm : Value) (an : Option Addr) (cdv ct : Value) (us : List Value), us.length = ps.length → bindArgs (PySem.W.fnOf x x (defArgs st) (defBody st) (defScope st) .none kV doc pm an cdv ct) ⟨us, []⟩ = pure (ps.zip us)
/-- the contexts in which a def's body runs -/
abbrev BodyCx (P : Program) (w : World) (K : PySem.W.Frag) (mg : Str → Option Value) (base : Heap) (x : Str) (st : Stmt) (N : List Str) (k : Nat) (J : Cx → Prop) : Prop :=
  ∀ (f : Addr) (cdv : Value) (A : Around) (outer : List PySem.Env) (s : Shared) (H : Hp) (E : XK), Room k (A.deeper (envOfC x (defScope st) s.heap.objs.size f cdv)) → J (cxOf L2.CX0 P w K mg base N x (defScope st) f cdv A outer s H E).nox
section
variable {P : Program} {w : World} {K : PySem.W.Frag} {mg : Str → Option Value} {base : Heap} {st : Stmt} {N : List Str}
theorem ok_D {S : List D → (D → Prop) → Prop} {g : DS} (F : Is K mg x st) (Sc : FnScope N ps (defScope st)) (bs : BindsAs x st ps) (hb : BodyCx P w K mg base x st N k fun X => JSs X (defBody st) g)
    (hS : ∀ (ds : List D) (Q : D → Prop), ds.length = ps.length → S ds Q → g { nx := fun _ => Q .none, rt := fun d _ => Q d } (envD ds (N.length - ps.length))) : Ok P w K mg base x ps (k + 1) (spD K ps.length S) := by
  obtain ⟨f, fd, F, hm⟩ := F
  exact ⟨f, fd, fn_D F Sc (fun cdv A outer s H E hr => hb f cdv A outer s H E hr) hS, hm, F.kp, F.bindsN bs⟩
theorem ok_M {S : List D → List D → (D → List D → Prop) → Prop} {g : DS} (F : Is K mg x st) (Sc : FnScope N ps (defScope st)) (bs : BindsAs x st ps) (hb : BodyCx P w K mg base x st N k fun X => JSs X (defBody st) g)
    (hS : ∀ (l : Addr) (ms ds : List D) (Q : D → List D → Prop), ds.length + 1 = ps.length → S ms ds Q → g { nx := fun ρ => ∃ ms', ρ[0]? = some (some (.ow (.par l (.lst ms')))) ∧ Q .none ms', rt := fun d ρ => ∃ ms', ρ[0]? = some (some (.ow (.par l (.lst ms')))) ∧ Q d ms' } (some (.ow (.par l (.lst ms))) :: envD ds (N.length - ps.length))) :
    Ok P w K mg base x ps (k + 1) (spM K ps.length S) := by
  obtain ⟨f, fd, F, hm⟩ := F
  exact ⟨f, fd, fn_M F Sc (fun cdv A outer s H E hr => hb f cdv A outer s H E hr) hS, hm, F.kp, F.bindsN bs⟩
theorem envD_rs {T : Addr → Prop} {H : Hp} {vs : List V} {ds : List D} {m : Nat} (hl : vs.length + m = N.length) (hT : ∀ a, T a → H a ≠ none) (rv : RpAll K (hide T H) vs ds) : RS K T (envD ds m) (L2.start N vs) H ∧ ∀ a, ¬ Own (envD ds m) (L2.start N vs) a := by
  have no : ∀ a, ¬ Own (envD ds m) (L2.start N vs) a := fun a ⟨i, mm, h1, _⟩ => by
    obtain ⟨d, _, z⟩ := envD_get h1
    cases z
  have e0 : Ex (hide T H) (hide (Hd T (envD ds m) (L2.start N vs)) H) := hide_sub fun a w => w.elim id fun w => (no a w).elim
  refine ⟨⟨?_, fun i d h => ?_, fun i m h => ?_, fun i j m m' a h1 _ _ _ => ?_, fun a _ => no a, hT, fun i q m a h1 _ => ?_⟩, no⟩
  · rw [envD_len]; unfold L2.start; simp [rv.length] at hl ⊢; omega
  · obtain ⟨d', h1, z⟩ := envD_get h
    cases z
    obtain ⟨v, h2, h3⟩ := rv.get h1
    exact ⟨v, start_get h2, h3.mono e0⟩
  · obtain ⟨d, _, z⟩ := envD_get h; cases z
  · obtain ⟨d, _, z⟩ := envD_get h1; cases z
  · obtain ⟨d, _, z⟩ := envD_get h1; cases z
theorem ok_L {S : List D → (List D → Prop) → Prop} {g : (List D → Prop) → Env → Prop} (F : Is K mg x st) (Sc : FnScope N ps (defScope st)) (bs : BindsAs x st ps) (hb : BodyCx P w K mg base x st N k fun X => JSL X (defBody st) g)
    (hS : ∀ (ds : List D) (Q : List D → Prop), ds.length = ps.length → S ds Q → g Q (envD ds (N.length - ps.length))) : Ok P w K mg base x ps (k + 1) (spL K ps.length S) := by
  obtain ⟨f, fd, F, hm⟩ := F
  refine ⟨f, fd, ?_, hm, F.kp, F.bindsN bs⟩
  refine F.ok Sc (fun vs H Q E h => h.1) (fun cdv A outer s H vs Q E hr h => ?_)
  obtain ⟨t, pt, kt⟩ := (hb f cdv A outer s H E hr).ex
  refine ⟨t, PSs.nox pt, ?_⟩
  obtain ⟨hl, T, ds, QD, hT, rv, hs, hq⟩ := h
  have hl2 : ds.length = ps.length := by rw [← rv.length, hl]
  have hN : ps.length ≤ N.length := by have := congrArg List.length Sc.pre; rw [List.length_take] at this; omega
  obtain ⟨r0, no⟩ := envD_rs (m := N.length - ps.length) (N := N) (by omega) hT rv
  refine kt T _ _ H _ _ r0 (hS ds QD hl2 hs) fun es ρ' σ' l us H' n s r' v' p' h => ?_
  exact hq l us es H' n s h (fun a o w => p'.keep a o (no a) w) (v'.mono (hide_sub fun a w => .inl w))
end
end
end Dn
set_option Elab.async false
set_option linter.all false
set_option maxRecDepth 100000
set_option autoImplicit false
set_option maxHeartbeats 4000000
namespace Dn
open PySem L2 Evl PySem.Spec PyProof.Rows
section
variable {X : Cx} {a b c e : Expr} {fa fb fc : DE} {pos p : Pos} {es : List Expr} {x y : Str}
theorem je_v (i : Nat) (hN : X.N[i]? = some x := by rfl) (hv : Vis X.env.scope x := by first | exact Or.inl rfl | exact Or.inr (Or.inl rfl) | exact Or.inr (Or.inr rfl)) (hd : (x == ("__debug__" : Str)) = false := by decide) (hcd : (x == ("__classdict__" : Str)) = false := by decide) : JE X (.Name x pos) (dVar i) := je_var hN hv hd hcd
theorem je_vF (i : Nat) (hN : X.N[i]? = some x := by rfl) (hv : Vis X.env.scope x := by first | exact Or.inl rfl | exact Or.inr (Or.inl rfl) | exact Or.inr (Or.inr rfl)) (hd : (x == ("__debug__" : Str)) = false := by decide) (hcd : (x == ("__classdict__" : Str)) = false := by decide) : JE X (.Name x pos) (dVarF i) := je_varF hN hv hd hcd
theorem jg_n (i : Nat) {vs : List Nat} (hN : X.N.Nodup) (hi : X.N[i]? = some x := by rfl) (hx : Loc X.env.scope x := by first | exact Or.inl rfl | exact Or.inr rfl) (hv : i ∈ vs := by decide) (hf : X.fn x = true ∨ X.env.scope.names.lookup x = some .local := by first | exact Or.inl rfl | exact Or.inr rfl) : JG X (.Name x pos) vs (gNm i) := jg_name hN hi hx hv hf
theorem jt_cmpO {op : D → D → (D → Prop) → Prop} {i : Nat} {py : Pos} {o : CmpOp} (ho : OpD X (compareOp o) op) (hN : X.N[i]? = some y) (hy : Vis X.env.scope y) (hb : JE X b fb) (hm : behindInMarks o b = false)
    (hd : (y == ("__debug__" : Str)) = false := by decide) (hcd : (y == ("__classdict__" : Str)) = false := by decide) : JT X (.Compare (.Name y py) [o] [b] pos) (dTst (dBinO i op fb)) := by
  obtain ⟨r, h1, h2⟩ := ho.ex
  obtain ⟨tb, pb, kb⟩ := hb.ex
  refine ⟨_, pt_cmpR h1 (pe_var hN hy hd hcd) pb hm, fun T ρ σ H QD Q r h q => ?_⟩
  obtain ⟨⟨m, hm⟩, h⟩ := h
  obtain ⟨a, o, ha, _, _⟩ := r.ow i m hm
  refine ⟨_, ha, kb T ρ σ H _ _ r h fun y ρ1 v H1 r1 p1 v1 h => ?_⟩
  split at h
  · rename_i ds e1
    have rf := r1.freeze e1
    obtain ⟨u, hu, ru⟩ := rf.im i (.list ds) (List.getElem?_set_self (List.getElem?_eq_some_iff.mp e1).1)
    rw [ha] at hu; cases hu
    refine h2 _ H1 _ _ _ _ _ _ (fun a => rf.hdDom) ru (v1.mono hd_freeze) h fun z w H' e v2 h => ?_
    cases v2 with
    | bl b => exact ⟨b, rfl, q _ _ _ (r1.grow e) (p1.trans (.grow e)) h.2⟩
    | _ => exact False.elim h.2
  · exact False.elim h
theorem jt_chain {o o' : CmpOp} {op op' : D → D → (D → Prop) → Prop} (ho : OpD X (compareOp o) op) (ho' : OpD X (compareOp o') op') (ha : JE X a fa) (hb : JE X b fb) (hc : JE X c fc) (hm : lastMarks [o, o'] [b, c] = false := by with_unfolding_all rfl) :
    JT X (.Compare a [o, o'] [b, c] pos) (dTst (dChain op op' fa fb fc)) := by
  obtain ⟨r, h1, h2⟩ := ho.ex
  obtain ⟨r', h1', h2'⟩ := ho'.ex
  obtain ⟨ta, pa, ka⟩ := ha.ex
  obtain ⟨tb, pb, kb⟩ := hb.ex
  obtain ⟨tc, pc, kc⟩ := hc.ex
  refine ⟨_, pt_chain h1 h1' pa pb pc hm, fun T ρ σ H QD Q r h k => ?_⟩
  refine ka T ρ σ H _ _ r h fun d ρ1 v H1 r1 p1 v1 h => ?_
  refine kb T ρ1 σ H1 _ _ r1 h fun e ρ2 w H2 r2 p2 v2 h => ?_
  refine h2 (Hd T ρ2 σ) H2 v w d e _ _ (fun a => r2.hdDom) (v1.mono p2.fz) v2 h fun z u H3 e3 v3 h => ?_
  have r3 := r2.grow e3
  have p3 : Po ρ2 σ H2 ρ2 σ H3 := .grow e3
  cases v3 with
  | bl q =>
    refine ⟨q, rfl, ?_⟩
    cases q with
    | false => exact ⟨false, rfl, k _ _ _ r3 ((p1.trans p2).trans p3) h⟩
    | true =>
      rw [if_pos rfl]
      refine kc T ρ2 σ H3 _ _ r3 h fun g ρ4 y H4 r4 p4 v4 h => ?_
      refine h2' (Hd T ρ4 σ) H4 w y e g _ _ (fun a => r4.hdDom) ((v2.mono p3.fz).mono p4.fz) v4 h fun z u H5 e5 v5 h => ?_
      cases v5 with
      | bl b => exact ⟨b, rfl, k b ρ4 H5 (r4.grow e5) (((p1.trans p2).trans p3).trans (p4.trans (.grow e5))) h⟩
      | _ => exact False.elim h
  | _ => exact False.elim h
/-- a + b of lists, as a new list -/
def lCat (fa fb : DE) : DL := fun ρ Q => fa ρ fun d ρ1 => fb ρ1 fun e ρ2 => ∃ xs ys, d = .list xs ∧ e = .list ys ∧ xs.length + ys.length ≤ 16777216 ∧ Q (xs ++ ys) ρ2
theorem jl_cat (ha : JE X a fa) (hb : JE X b fb) : JL X (.BinOp a .Add b pos) (lCat fa fb) := by
  obtain ⟨ta, pa, ka⟩ := ha.ex
  obtain ⟨tb, pb, kb⟩ := hb.ex
  refine ⟨_, pe_op op_cat pa pb, fun T ρ σ H QD Q r h q => ka T ρ σ H _ _ r h fun d ρ1 v H1 r1 p1 v1 h => kb T ρ1 σ H1 _ _ r1 h fun e ρ2 w H2 r2 p2 v2 h => ?_⟩
  obtain ⟨xs, ys, rfl, rfl, hz, h⟩ := h
  have v1' := v1.mono p2.fz
  cases v1' with
  | lst hp rp =>
    cases v2 with
    | lst hq rq =>
      refine ⟨_, _, _, _, rfl, rfl, at_of hp, at_of hq, by rw [rp.length, rq.length]; exact hz, fun l hl => ?_⟩
      exact q _ _ l _ _ (none_back (p1.trans p2) hl) upd_same (r2.laid hl) ((rp.append rq).mono (hd_laid hl)) ((p1.trans p2).trans (.grow (Ex.new hl))) h
/-- enumerate of a list or a tuple -/
def iEn0 (K : PySem.W.Frag) (ta : TA) : TI := fun σ H R => ta σ H fun vs H1 => ∃ a, vs = [.ref a] ∧ (((∃ xs, SqL K H1 a xs) ∧ R (Ite K a) H1) ∨ ((∃ xs, SqT K H1 a xs) ∧ R (IteT K a) H1))
theorem pi_en {ta : TA} {tpos : Pos} {elts : List Expr} {kk : Nat} (hg : Gl X "enumerate") (hm : X.mg "enumerate" = none) (ha : PA X [e] ta) (hs : starEach [e] X.env = [(false, eval e X.env)] := by rfl) :
    PI X (.Tuple elts kk tpos) (.Call (.Name "enumerate" p) [e] [] pos) (iEn0 X.K ta) := by
  refine ⟨fun pins s σ H R I h => ?_⟩
  refine Call_ (ld_blt I hg hm boot_enumerate (PyProof.Rows.callWith_type1 (thn (ha.run pos pins s σ H _ I h) fun us s1 ⟨vs, H1, I1, r1, q1⟩ => ?_) hs rfl))
  obtain ⟨a, rfl, h⟩ := q1
  obtain ⟨u, rfl, ru⟩ := vals1 r1
  cases ru
  have fp : ∀ b ∈ [s1.heap.objs.size + 1, s1.heap.objs.size], FpOk X pins H1 b := fun b hb => by
    have ge : s1.heap.objs.size ≤ b := by
      rcases (show b = s1.heap.objs.size + 1 ∨ b = s1.heap.objs.size by simpa using hb) with z | z <;> subst z
      · exact Nat.le_succ _
      · exact Nat.le_refl _
    exact I1.fpOk ge (I1.hok.fresh ge)
  rcases h with ⟨⟨xs, hq⟩, h⟩ | ⟨⟨xs, hq⟩, h⟩
  · obtain ⟨its, rv, isL, hz⟩ := I1.list hq
    refine call_enumerate_list isL.isList fun hp he hit _ hk => wpAny_pyIter_enum he ?_
    have I2 : Inv X pins σ H1 { s1 with heap := hp } := I1.kept (t' := s1.toks) hk
    exact ⟨s1.heap.objs.size + 1, [s1.heap.objs.size + 1, s1.heap.objs.size], _, _, H1, rfl, I2, turn_enum a (s1.heap.objs.size + 1) s1.heap.objs.size, ⟨⟨.none, he⟩, hit, Nat.succ_ne_self _⟩, fp, h⟩
  · obtain ⟨its, rv, isT, hz⟩ := I1.tuple hq
    refine own_enum_call (show s1.heap.IsTuple a its.toArray from isT) fun hp he hit hk => wpAny_pyIter_enum he ?_
    have I2 : Inv X pins σ H1 { s1 with heap := hp } := I1.kept (t' := s1.toks) hk
    exact ⟨s1.heap.objs.size + 1, [s1.heap.objs.size + 1, s1.heap.objs.size], _, _, H1, rfl, I2, turn_enT a (s1.heap.objs.size + 1) s1.heap.objs.size, ⟨⟨.none, he⟩, hit, Nat.succ_ne_self _⟩, fp, h⟩
theorem it_enL {K : PySem.W.Frag} {G : Hp} {a : Addr} {xs : List V} {ds : List D} (hp : SqL K G a xs) (rr : RpAll K G xs ds) : ItOk K (Ite K a) G (enD ds) :=
  ⟨fun H e => ⟨xs, ex_l e hp, by rw [enD_len, rr.length]; exact Nat.le_refl _⟩, fun i d H hd e => by
    obtain ⟨g, hg, rfl⟩ := enD_get hd
    obtain ⟨u, hu, ru⟩ := rr.get hg
    refine ⟨⟨xs, u, ex_l e hp, hu⟩, fun x H' y => ?_⟩
    obtain ⟨l, z, rfl, hl, rfl, y⟩ := y
    have := y xs (ex_l e hp)
    rw [hu] at this; cases this
    exact ⟨Ex.new hl, fun O hO eo => rp_newT hO hl (.cons (.int _) (.cons (ru.mono eo) .nil))⟩⟩
theorem it_enT {K : PySem.W.Frag} {G : Hp} {a : Addr} {xs : List V} {ds : List D} (hp : SqT K G a xs) (rr : RpAll K G xs ds) : ItOk K (IteT K a) G (enD ds) :=
  ⟨fun H e => ⟨xs, ex_t e hp, by rw [enD_len, rr.length]; exact Nat.le_refl _⟩, fun i d H hd e => by
    obtain ⟨g, hg, rfl⟩ := enD_get hd
    obtain ⟨u, hu, ru⟩ := rr.get hg
    refine ⟨⟨xs, u, ex_t e hp, hu⟩, fun x H' y => ?_⟩
    obtain ⟨l, z, rfl, hl, rfl, y⟩ := y
    have := y xs (ex_t e hp)
    rw [hu] at this; cases this
    exact ⟨Ex.new hl, fun O hO eo => rp_newT hO hl (.cons (.int _) (.cons (ru.mono eo) .nil))⟩⟩
def iEn (f : DE) : DL := fun ρ Q => f ρ fun d ρ1 => ∃ ds, seqD d = some ds ∧ Q (enD ds) ρ1
theorem ji_en {elts : List Expr} {kk : Nat} {tpos : Pos} (hm : X.mg "enumerate" = none) (ha : JE X a fa) (hg : Gl X "enumerate" := by rfl) (hs : starEach [a] X.env = [(false, eval a X.env)] := by rfl) : JI X (.Tuple elts kk tpos) (.Call (.Name "enumerate" p) [a] [] pos) (iEn fa) := by
  obtain ⟨t, pt, kt⟩ := ha.ex
  refine ⟨_, pi_en hg hm (pa_cons pt pa_nil hs) hs, fun T ρ σ H QD R r h q => kt T ρ σ H _ _ r h fun d ρ1 v H1 r1 p1 v1 h => ?_⟩
  obtain ⟨ds, e, h⟩ := h
  cases v1
  case dct h1 h2 h3 => rw [h3, seq_dk] at e; cases e
  all_goals simp only [seqD, Option.some.injEq, reduceCtorEq] at e
  · subst e
    rename_i hp rr
    exact ⟨_, rfl, .inl ⟨⟨_, .inl (.inl (at_of hp))⟩, q _ _ _ _ r1 p1 (it_enL (.inl (.inl hp)) rr) h⟩⟩
  · subst e
    rename_i hp rr
    exact ⟨_, rfl, .inr ⟨⟨_, sqt_of hp⟩, q _ _ _ _ r1 p1 (it_enT (lt_of hp) rr) h⟩⟩
  · subst e
    rename_i hp rr
    exact ⟨_, rfl, .inl ⟨⟨_, sql_of hp⟩, q _ _ _ _ r1 p1 (it_enL hp rr) h⟩⟩
/-- products: one factor small, or both within a million bits -/
abbrev dMulA := dI2 (fun i j => CMul i j ∨ CMulW i j) fun i j => .int (i * j)
theorem opd_mulA : OpD X (binaryOp .Mult) dMulA := by
  refine ⟨_, .or op_mul op_mulW, fun O H x y d e QD Q hO rx ry h k => ?_⟩
  cases rx <;> cases ry <;> first | exact False.elim h | skip
  obtain ⟨h1, h2⟩ := h
  rcases h1 with h1 | h1
  · exact .inl ⟨_, _, rfl, rfl, h1, k _ _ H (.refl H) (.int _) h2⟩
  · exact .inr ⟨_, _, rfl, rfl, h1, k _ _ H (.refl H) (.int _) h2⟩
/-- n += e -/
def sAugI (i : Nat) (f : DE) : DS := fun E ρ => match ρ[i]? with
  | some (some (.im (.int n))) => f ρ fun d ρ1 => match d with
    | .int k => E.nx (ρ1.set i (some (.im (.int (n + k)))))
    | _ => False
  | _ => False
end
end Dn
set_option Elab.async false
set_option linter.all false
set_option maxRecDepth 100000
set_option autoImplicit false
set_option maxHeartbeats 4000000
/-! What readings over slots come to: loops, comprehensions, rows of ints. -/
namespace Dn
open PySem L2 Evl PySem.Spec PyProof.Rows
def dNever : DE := fun _ _ => False
theorem je_never {X : Cx} {e : Expr} : JE X e dNever := ⟨fun _ _ _ => False, ⟨fun _ _ _ _ _ _ h => h.elim⟩, fun _ _ _ _ _ _ _ h _ => h.elim⟩
theorem wpLc_cps {g : DG} {tt : DT} {te : DE} {vs : List Nat} {Q : List D → Env → Prop} (P : List D → List D → Env → Prop) {ds : List D} {ρ0 : Env} (h0 : P [] [] ρ0)
    (hs : ∀ (done : List D) (d : D) (rest acc : List D) (ρ : Env) (K : List D → Env → Prop), ds = done ++ d :: rest → P done acc ρ → (∀ acc' ρ', P (done ++ [d]) acc' ρ' → K acc' ρ') →
      acc.length < 16777216 ∧ g d (wipeD ρ vs) fun ρ1 => tt ρ1 fun b ρ2 => if b = true then te ρ2 fun y ρ3 => K (acc ++ [y]) (wipeD ρ3 vs) else K acc (wipeD ρ2 vs))
    (he : ∀ acc ρ, P ds acc ρ → Q acc ρ) : wpLc g tt te vs Q ds [] ρ0 := by
  have aux : ∀ (rest done acc : List D) (ρ : Env), ds = done ++ rest → P done acc ρ → wpLc g tt te vs Q rest acc ρ := by
    intro rest
    induction rest with
    | nil => intro done acc ρ e p; rw [List.append_nil] at e; subst e; exact he acc ρ p
    | cons d rest ih =>
      intro done acc ρ e p
      exact hs done d rest acc ρ _ e p fun acc' ρ' p' => ih (done ++ [d]) acc' ρ' (by rw [e]; simp) p'
  exact aux ds [] [] ρ0 rfl h0
/-- each item by itself, the slots left as they are -/
theorem wpLc_map {g : DG} {tt : DT} {te : DE} {vs : List Nat} {Q : List D → Env → Prop} (h : D → D) {ds : List D} {ρ0 : Env} (hl : ds.length < 16777216) (hw : wipeD ρ0 vs = ρ0)
    (hs : ∀ d, d ∈ ds → ∀ (K : D → Env → Prop), (∀ ρ3, wipeD ρ3 vs = ρ0 → K (h d) ρ3) → g d ρ0 fun ρ1 => tt ρ1 fun b ρ2 => if b = true then te ρ2 fun y ρ3 => K y ρ3 else False)
    (hf : ∀ d ρ1, d ∈ ds → tt ρ1 = fun K => K true ρ1) (he : Q (ds.map h) ρ0) : wpLc g tt te vs Q ds [] ρ0 := by
  refine wpLc_cps (fun done acc ρ => acc = done.map h ∧ ρ = ρ0) ⟨rfl, rfl⟩ (fun done d rest acc ρ K e p k => ?_) (fun acc ρ p => by obtain ⟨rfl, rfl⟩ := p; exact he)
  obtain ⟨rfl, rfl⟩ := p
  have hm : d ∈ ds := by rw [e]; simp
  refine ⟨by rw [List.length_map]; have := congrArg List.length e; simp at this; omega, ?_⟩
  rw [hw]
  have z := hs d hm (fun y ρ3 => K (done.map h ++ [y]) (wipeD ρ3 vs)) fun ρ3 w => by rw [w]; exact k _ _ ⟨by simp, rfl⟩
  have e2 : (fun ρ1 => tt ρ1 fun b ρ2 => if b = true then te ρ2 fun y ρ3 => K (done.map h ++ [y]) (wipeD ρ3 vs) else False) = fun ρ1 => tt ρ1 fun b ρ2 => if b = true then te ρ2 fun y ρ3 => K (done.map h ++ [y]) (wipeD ρ3 vs) else K (done.map h) (wipeD ρ2 vs) := by
    funext ρ1
    rw [hf d ρ1 hm]
    simp
  rw [← e2]
  exact z
/-- items that pass a test -/
theorem wpLc_fil {g : DG} {tt : DT} {te : DE} {vs : List Nat} {Q : List D → Env → Prop} (p : D → Bool) (h : D → D) {ds : List D} {ρ0 : Env} (hl : ds.length < 16777216) (hw : wipeD ρ0 vs = ρ0)
    (hs : ∀ d, d ∈ ds → ∀ (K : D → Env → Prop) (N : Env → Prop), (p d = true → ∀ ρ3, wipeD ρ3 vs = ρ0 → K (h d) ρ3) → (p d = false → ∀ ρ3, wipeD ρ3 vs = ρ0 → N ρ3) → g d ρ0 fun ρ1 => tt ρ1 fun b ρ2 => if b = true then te ρ2 fun y ρ3 => K y ρ3 else N ρ2)
    (he : Q ((ds.filter p).map h) ρ0) : wpLc g tt te vs Q ds [] ρ0 := by
  refine wpLc_cps (fun done acc ρ => acc = (done.filter p).map h ∧ ρ = ρ0) ⟨rfl, rfl⟩ (fun done d rest acc ρ K e q k => ?_) (fun acc ρ q => by obtain ⟨rfl, rfl⟩ := q; exact he)
  obtain ⟨rfl, rfl⟩ := q
  have hm : d ∈ ds := by rw [e]; simp
  refine ⟨?_, ?_⟩
  · rw [List.length_map]
    have h1 := List.length_filter_le p done
    have := congrArg List.length e
    simp at this
    omega
  · rw [hw]
    refine hs d hm (fun y ρ3 => K ((done.filter p).map h ++ [y]) (wipeD ρ3 vs)) (fun ρ2 => K ((done.filter p).map h) (wipeD ρ2 vs)) (fun hp ρ3 w => ?_) (fun hp ρ3 w => ?_)
    · rw [w]; exact k _ _ ⟨by rw [List.filter_append, List.filter_cons_of_pos (by exact hp)]; simp, rfl⟩
    · rw [w]; exact k _ _ ⟨by rw [List.filter_append, List.filter_cons_of_neg (by simp [hp])]; simp, rfl⟩
theorem wpFor_cps {g : DG} {body : DS} {E : DEnds} (P : List D → Env → Prop) {ds : List D} {ρ0 : Env} (h0 : P [] ρ0)
    (hs : ∀ (done : List D) (d : D) (rest : List D) (ρ : Env) (K : Env → Prop), ds = done ++ d :: rest → P done ρ → (∀ ρ', P (done ++ [d]) ρ' → K ρ') → g d ρ fun ρ1 => body { nx := K, ct := K, bk := E.nx, rt := E.rt } ρ1)
    (he : ∀ ρ, P ds ρ → E.nx ρ) : wpFor g body E ds ρ0 := by
  have aux : ∀ (rest done : List D) (ρ : Env), ds = done ++ rest → P done ρ → wpFor g body E rest ρ := by
    intro rest
    induction rest with
    | nil => intro done ρ e p; rw [List.append_nil] at e; subst e; exact he ρ p
    | cons d rest ih =>
      intro done ρ e p
      exact hs done d rest ρ _ e p fun ρ' p' => ih (done ++ [d]) ρ' (by rw [e]; simp) p'
  exact aux ds [] ρ0 rfl h0
/-- a search that returns what it finds first -/
theorem wpFor_find {g : DG} {body : DS} {N bk ct : Env → Prop} {Q : D → Prop} {ds : List D} {ρ0 : Env} (f : D → Option D) (I : Env → Prop) (h0 : I ρ0)
    (hs : ∀ d, d ∈ ds → ∀ (ρ : Env) (K B : Env → Prop), I ρ → (∀ v, f d = some v → Q v) → (f d = none → ∀ ρ', I ρ' → K ρ') → g d ρ fun ρ1 => body { nx := K, ct := K, bk := B, rt := fun d _ => Q d } ρ1)
    (hf : ∀ v, ds.findSome? f = some v → Q v) (hn : ds.findSome? f = none → ∀ ρ, I ρ → N ρ) : wpFor g body { nx := N, rt := fun d _ => Q d, bk := bk, ct := ct } ds ρ0 := by
  induction ds generalizing ρ0 with
  | nil => exact hn rfl ρ0 h0
  | cons d ds ih =>
    refine hs d List.mem_cons_self ρ0 _ _ h0 (fun v e => hf v ?_) (fun e ρ' i => ih i (fun d hd => hs d (List.mem_cons_of_mem _ hd)) (fun v h => hf v ?_) fun h => hn ?_)
    · rw [List.findSome?_cons, e]
    · rw [List.findSome?_cons, e]; exact h
    · rw [List.findSome?_cons, e]; exact h

/-! ### tuples of ints, rows -/
def tI (ns : List Int) : D := .tuple (ns.map PyData.int)
def tR (rs : List (List Int)) : D := .tuple (rs.map tI)
theorem eqvAll_int : ∀ (a b : List Int), PyData.eqvAll (a.map PyData.int) (b.map PyData.int) = decide (a = b)
  | [], [] => by simp [PyData.eqvAll]
  | [], _ :: _ => by simp [PyData.eqvAll]
  | _ :: _, [] => by simp [PyData.eqvAll]
  | x :: a, y :: b => by
    simp only [List.map_cons, PyData.eqvAll, PyData.eqv, eqvAll_int a b]
    by_cases h : x = y <;> simp [h]
theorem eqv_tI (a b : List Int) : PyData.eqv (tI a) (tI b) = decide (a = b) := by unfold tI; simp only [PyData.eqv, eqvAll_int]
theorem eqvAll_tI : ∀ (a b : List (List Int)), PyData.eqvAll (a.map tI) (b.map tI) = decide (a = b)
  | [], [] => by simp [PyData.eqvAll]
  | [], _ :: _ => by simp [PyData.eqvAll]
  | _ :: _, [] => by simp [PyData.eqvAll]
  | x :: a, y :: b => by
    simp only [List.map_cons, PyData.eqvAll, eqv_tI, eqvAll_tI a b]
    by_cases h : x = y <;> simp [h]
theorem eqv_tR (a b : List (List Int)) : PyData.eqv (tR a) (tR b) = decide (a = b) := by unfold tR; simp only [PyData.eqv, eqvAll_tI]
theorem layAll_int : ∀ (a : List Int), PyData.canLayAll0 (a.map PyData.int) = true ∧ PyData.depthAll (a.map PyData.int) = 0
  | [] => by simp [PyData.canLayAll0, PyData.depthAll]
  | x :: a => by simp [PyData.canLayAll0, PyData.canLay0, PyData.depthAll, PyData.depth, layAll_int a]
theorem lay_tI (a : List Int) : (tI a).canLay0 = true ∧ (tI a).depth = 1 := by
  unfold tI; simp [PyData.canLay0, PyData.depth, layAll_int a]
theorem shaped_tI (a : List Int) : SeqAt.shaped (tI a) = true := by
  unfold SeqAt.shaped; simp [lay_tI a]
theorem layAll_tI : ∀ (a : List (List Int)), PyData.canLayAll0 (a.map tI) = true ∧ PyData.depthAll (a.map tI) ≤ 1
  | [] => by simp [PyData.canLayAll0, PyData.depthAll]
  | x :: a => by
    have h := layAll_tI a
    have h2 := lay_tI x
    simp [PyData.canLayAll0, PyData.depthAll, h2.1, h2.2, h.1]
    omega
theorem shaped_tR (a : List (List Int)) : SeqAt.shaped (tR a) = true := by
  have h := layAll_tI a
  unfold SeqAt.shaped tR
  simp [PyData.canLay0, PyData.depth, h.1]
  omega
theorem shaped_int (i : Int) : SeqAt.shaped (.int i) = true := rfl
theorem shaped_bool (i : Bool) : SeqAt.shaped (.bool i) = true := rfl
theorem atI_in {α : Type} {l : List α} {i : Int} {d : α} (h0 : 0 ≤ i) (h1 : i < l.length) : atI l i = some (l.getD i.toNat d) := by
  unfold atI ixN
  rw [if_pos h0, if_pos h1]
  have h2 : i.toNat < l.length := by omega
  simp [List.getD, List.getElem?_eq_getElem h2]
theorem ixI {r : List Int} {i : Int} {Q : D → Prop} (h0 : 0 ≤ i) (h1 : i < r.length) (h : Q (.int (r.getD i.toNat 0))) : dIx (tI r) (.int i) Q := by
  refine ⟨_, atI_in (d := .int 0) h0 (by simpa using h1), ?_⟩
  have h2 : i.toNat < r.length := by omega
  simp [List.getD, List.getElem?_eq_getElem h2] at h ⊢
  exact h
theorem ixR {r : List (List Int)} {i : Int} {Q : D → Prop} (h0 : 0 ≤ i) (h1 : i < r.length) (h : Q (tI (r.getD i.toNat []))) : dIx (tR r) (.int i) Q := by
  refine ⟨_, atI_in (d := tI []) h0 (by simpa using h1), ?_⟩
  have h2 : i.toNat < r.length := by omega
  simp [List.getD, List.getElem?_eq_getElem h2] at h ⊢
  exact h
theorem seq_tI (r : List Int) : seqD (tI r) = some (r.map PyData.int) := rfl
theorem seq_tR (r : List (List Int)) : seqD (tR r) = some (r.map tI) := rfl
/-- square rows of things -/
structure Rw (rs : List (List Int)) : Prop where
  pos : 1 ≤ rs.length
  most : rs.length ≤ 24
  row : ∀ r, r ∈ rs → r.length = rs.length ∧ ∀ x, x ∈ r → 0 ≤ x ∧ x < rs.length
def rc (rs : List (List Int)) (a b : Int) : Int := (rs.getD a.toNat []).getD b.toNat 0
theorem getD_mem {α : Type} {l : List α} {i : Nat} {d : α} (h : i < l.length) : l.getD i d ∈ l := by
  simp [List.getD, List.getElem?_eq_getElem h]
theorem Rw.len {rs : List (List Int)} (h : Rw rs) {a : Int} (a0 : 0 ≤ a) (a1 : a < rs.length) : (rs.getD a.toNat []).length = rs.length := (h.row _ (getD_mem (by omega))).1
theorem Rw.rc {rs : List (List Int)} (h : Rw rs) {a b : Int} (a0 : 0 ≤ a) (a1 : a < rs.length) (b0 : 0 ≤ b) (b1 : b < rs.length) : 0 ≤ rc rs a b ∧ rc rs a b < rs.length := by
  refine (h.row _ (getD_mem (d := []) (show a.toNat < rs.length by omega))).2 _ (getD_mem ?_)
  rw [h.len a0 a1]; omega
/-- rows[a][b] -/
theorem ixRC {rs : List (List Int)} {a b : Int} {Q : D → Prop} (h : Rw rs) (a0 : 0 ≤ a) (a1 : a < rs.length) (b0 : 0 ≤ b) (b1 : b < rs.length) (q : Q (.int (rc rs a b))) : dIx (tR rs) (.int a) fun d => dIx d (.int b) Q :=
  ixR a0 a1 (ixI b0 (by rw [h.len a0 a1]; exact b1) q)
def rgI (n : Nat) : List Int := (List.range n).map fun (k : Nat) => (k : Int)
theorem rgD_rgI (n : Nat) : rgD 0 (n : Int) = (rgI n).map PyData.int := by
  unfold rgD rgI
  simp
theorem mem_rgI {n : Nat} {x : Int} : x ∈ rgI n ↔ 0 ≤ x ∧ x < n := by
  unfold rgI
  simp only [List.mem_map, List.mem_range]
  constructor
  · rintro ⟨k, h, rfl⟩; omega
  · rintro ⟨h0, h1⟩; exact ⟨x.toNat, by omega, by omega⟩
theorem rgI_len (n : Nat) : (rgI n).length = n := by unfold rgI; simp
theorem rgI_get {n k : Nat} (h : k < n) : (rgI n)[k]? = some (k : Int) := by unfold rgI; simp [h]
end Dn
set_option Elab.async false
set_option linter.all false
set_option maxRecDepth 100000
set_option autoImplicit false
set_option maxHeartbeats 4000000
namespace Dn
open PySem L2 Evl PySem.Spec PyProof.Rows
theorem tyN_dl (kvs : List (D × D)) : tyN (.dict kvs) = "dict" ∨ tyN (.dict kvs) = "list" := by
  unfold tyN
  split <;> first | exact .inl rfl | exact .inr rfl | (rename_i h; cases h; done)
theorem kit_int (d : D) : kitB (tyN d) "int" = some (match d with | .int _ => true | .bool _ => true | _ => false) := by
  cases d with
  | dict kvs => rcases tyN_dl kvs with e | e <;> (rw [e]; show _ = some false; decide +kernel)
  | _ => simp only [tyN]; decide +kernel
theorem kit_bool (d : D) : kitB (tyN d) "bool" = some (match d with | .bool _ => true | _ => false) := by
  cases d with
  | dict kvs => rcases tyN_dl kvs with e | e <;> (rw [e]; show _ = some false; decide +kernel)
  | _ => simp only [tyN]; decide +kernel
theorem kit_tuple (d : D) : kitB (tyN d) "tuple" = some (match d with | .tuple _ => true | _ => false) := by
  cases d with
  | dict kvs => rcases tyN_dl kvs with e | e <;> (rw [e]; show _ = some false; decide +kernel)
  | _ => simp only [tyN]; decide +kernel
theorem kit_str (d : D) : kitB (tyN d) "str" = some (match d with | .str _ => true | _ => false) := by
  cases d with
  | dict kvs => rcases tyN_dl kvs with e | e <;> (rw [e]; show _ = some false; decide +kernel)
  | _ => simp only [tyN]; decide +kernel
theorem tst_bool {b : Bool} {Q : Bool → Env → Prop} {ρ : Env} (h : Q b ρ) : (match (PyData.bool b) with | .bool b => Q b ρ | _ => False) := h
/-- a truth value that rules what comes: both ways -/
theorem bool_ways {b : Bool} {P1 P2 : Prop} (h1 : b = true → P1) (h2 : b = false → P2) : (match PyData.bool b with | .bool true => P1 | .bool false => P2 | _ => False) := by
  cases b
  · exact h2 rfl
  · exact h1 rfl
theorem ite_ways {b : Bool} {P1 P2 : Prop} (h1 : b = true → P1) (h2 : b = false → P2) : (if b = true then P1 else P2) := by
  cases b
  · exact h2 rfl
  · exact h1 rfl
/-- the readings, written out -/
local macro_rules | `(tactic| walk_at "dd") => `(tactic| skip)
end Dn
set_option Elab.async false
set_option linter.all false
set_option maxRecDepth 100000
set_option autoImplicit false
set_option maxHeartbeats 4000000
namespace Dn
open PySem L2 Evl PySem.Spec PyProof.Rows
theorem map_split {α β : Type} {f : α → β} {l : List α} {done rest : List β} {d : β} (e : l.map f = done ++ d :: rest) : ∃ l1 x l2, l = l1 ++ x :: l2 ∧ done = l1.map f ∧ d = f x ∧ rest = l2.map f := by
  obtain ⟨l1, l2, h1, h2, h3⟩ := List.map_eq_append_iff.mp e
  cases l2 with
  | nil => simp at h3
  | cons x l2 =>
    simp at h3
    exact ⟨l1, x, l2, h1, h2.symm, h3.1.symm, h3.2.symm⟩
/-- each item by itself, over a list that is made of another one -/
theorem wpLc_mapL {α : Type} {g : DG} {tt : DT} {te : DE} {vs : List Nat} {Q : List D → Env → Prop} (l : List α) (f h : α → D) {ρ0 : Env} (hl : l.length < 16777216) (hw : wipeD ρ0 vs = ρ0)
    (hs : ∀ x, x ∈ l → ∀ (K : D → Env → Prop), (∀ ρ3, wipeD ρ3 vs = ρ0 → K (h x) ρ3) → g (f x) ρ0 fun ρ1 => tt ρ1 fun b ρ2 => if b = true then te ρ2 fun y ρ3 => K y ρ3 else False)
    (hf : ∀ ρ1, tt ρ1 = fun K => K true ρ1) (he : Q (l.map h) ρ0) : wpLc g tt te vs Q (l.map f) [] ρ0 := by
  refine wpLc_cps (fun done acc ρ => ∃ l1 l2, l = l1 ++ l2 ∧ done = l1.map f ∧ acc = l1.map h ∧ ρ = ρ0) ⟨[], l, rfl, rfl, rfl, rfl⟩ (fun done d rest acc ρ K e p k => ?_) (fun acc ρ p => ?_)
  · obtain ⟨l1, x, l2, rfl, rfl, rfl, rfl⟩ := map_split e
    obtain ⟨m1, m2, e1, e2, rfl, rfl⟩ := p
    have e3 : m1 = l1 := by
      have h1 := congrArg List.length e2
      simp at h1
      have h2 := congrArg (List.take m1.length) e1
      rw [List.take_left, h1.symm, List.take_left] at h2
      exact h2.symm
    subst e3
    refine ⟨by simp at hl ⊢; omega, ?_⟩
    rw [hw]
    have z := hs x (by simp) (fun y ρ3 => K (m1.map h ++ [y]) (wipeD ρ3 vs)) fun ρ3 w => by rw [w]; exact k _ _ ⟨m1 ++ [x], l2, by simp, by simp, by simp, rfl⟩
    have e2 : (fun ρ1 => tt ρ1 fun b ρ2 => if b = true then te ρ2 fun y ρ3 => K (m1.map h ++ [y]) (wipeD ρ3 vs) else False) = fun ρ1 => tt ρ1 fun b ρ2 => if b = true then te ρ2 fun y ρ3 => K (m1.map h ++ [y]) (wipeD ρ3 vs) else K (m1.map h) (wipeD ρ2 vs) := by
      funext ρ1
      rw [hf ρ1]
      simp
    rw [← e2]
    exact z
  · obtain ⟨m1, m2, rfl, e2, rfl, rfl⟩ := p
    have : m2 = [] := by
      have h1 := congrArg List.length e2
      simp at h1
      exact h1
    subst this
    simpa using he
theorem wpLc_filL {α : Type} {g : DG} {tt : DT} {te : DE} {vs : List Nat} {Q : List D → Env → Prop} (l : List α) (f h : α → D) (p : α → Bool) {ρ0 : Env} (hl : l.length < 16777216) (hw : wipeD ρ0 vs = ρ0)
    (hs : ∀ x, x ∈ l → ∀ (K : D → Env → Prop) (N : Env → Prop), (p x = true → ∀ ρ3, wipeD ρ3 vs = ρ0 → K (h x) ρ3) → (p x = false → ∀ ρ3, wipeD ρ3 vs = ρ0 → N ρ3) → g (f x) ρ0 fun ρ1 => tt ρ1 fun b ρ2 => if b = true then te ρ2 fun y ρ3 => K y ρ3 else N ρ2)
    (he : Q ((l.filter p).map h) ρ0) : wpLc g tt te vs Q (l.map f) [] ρ0 := by
  refine wpLc_cps (fun done acc ρ => ∃ l1 l2, l = l1 ++ l2 ∧ done = l1.map f ∧ acc = (l1.filter p).map h ∧ ρ = ρ0) ⟨[], l, rfl, rfl, rfl, rfl⟩ (fun done d rest acc ρ K e q k => ?_) (fun acc ρ q => ?_)
  · obtain ⟨l1, x, l2, rfl, rfl, rfl, rfl⟩ := map_split e
    obtain ⟨m1, m2, e1, e2, rfl, rfl⟩ := q
    have e3 : m1 = l1 := by
      have h1 := congrArg List.length e2
      simp at h1
      have h2 := congrArg (List.take m1.length) e1
      rw [List.take_left, h1.symm, List.take_left] at h2
      exact h2.symm
    subst e3
    refine ⟨?_, ?_⟩
    · have h1 := List.length_filter_le p m1
      simp at hl ⊢
      omega
    · rw [hw]
      refine hs x (by simp) (fun y ρ3 => K ((m1.filter p).map h ++ [y]) (wipeD ρ3 vs)) (fun ρ2 => K ((m1.filter p).map h) (wipeD ρ2 vs)) (fun hp ρ3 w => ?_) (fun hp ρ3 w => ?_)
      · rw [w]; exact k _ _ ⟨m1 ++ [x], l2, by simp, by simp, by rw [List.filter_append, List.filter_cons_of_pos hp]; simp, rfl⟩
      · rw [w]; exact k _ _ ⟨m1 ++ [x], l2, by simp, by simp, by rw [List.filter_append, List.filter_cons_of_neg (by simp [hp])]; simp, rfl⟩
  · obtain ⟨m1, m2, rfl, e2, rfl, rfl⟩ := q
    have : m2 = [] := by
      have h1 := congrArg List.length e2
      simp at h1
      exact h1
    subst this
    simpa using he
/-- a search over a list that is made of another one -/
theorem wpFor_fs {α : Type} {g : DG} {body : DS} {N bk ct : Env → Prop} {Q : D → Prop} (l : List α) (it : α → D) (f : α → Option D) {ρ0 : Env} (I : Env → Prop) (h0 : I ρ0)
    (hs : ∀ x, x ∈ l → ∀ (ρ : Env) (K B : Env → Prop), I ρ → (∀ v, f x = some v → Q v) → (f x = none → ∀ ρ', I ρ' → K ρ') → g (it x) ρ fun ρ1 => body { nx := K, ct := K, bk := B, rt := fun d _ => Q d } ρ1)
    (hf : ∀ v, l.findSome? f = some v → Q v) (hn : l.findSome? f = none → ∀ ρ, I ρ → N ρ) : wpFor g body { nx := N, rt := fun d _ => Q d, bk := bk, ct := ct } (l.map it) ρ0 := by
  induction l generalizing ρ0 with
  | nil => exact hn rfl ρ0 h0
  | cons d ds ih =>
    refine hs d List.mem_cons_self ρ0 _ _ h0 (fun v e => hf v ?_) (fun e ρ' i => ih i (fun d hd => hs d (List.mem_cons_of_mem _ hd)) (fun v h => hf v ?_) fun h => hn ?_)
    · rw [List.findSome?_cons, e]
    · rw [List.findSome?_cons, e]; exact h
    · rw [List.findSome?_cons, e]; exact h
theorem fs_find {α β : Type} (p : α → Bool) (r : α → β) : ∀ l : List α, l.findSome? (fun x => if p x = true then some (r x) else none) = (l.find? p).map r
  | [] => rfl
  | x :: l => by
    rw [List.findSome?_cons, List.find?_cons]
    cases h : p x
    · simp [fs_find p r l]
    · simp
theorem dLen_tR {rs : List (List Int)} {Q : D → Prop} : dLen [tR rs] Q = Q (.int rs.length) := by show Q _ = _; simp
theorem dLen_tI {rs : List Int} {Q : D → Prop} : dLen [tI rs] Q = Q (.int rs.length) := by show Q _ = _; simp
theorem dLen_tup {xs : List D} {Q : D → Prop} : dLen [.tuple xs] Q = Q (.int xs.length) := rfl
theorem dLen_lst {xs : List D} {Q : D → Prop} : dLen [.list xs] Q = Q (.int xs.length) := rfl
theorem seq_tup {xs : List D} : seqD (.tuple xs) = some xs := rfl
theorem seq_lst {xs : List D} : seqD (.list xs) = some xs := rfl
theorem tI_def (xs : List Int) : (PyData.tuple (xs.map PyData.int)) = tI xs := rfl
/-- enumerate of a made list -/
theorem enD_map {α : Type} (l : List α) (f : α → D) (d : α) : enD (l.map f) = (rgI l.length).map fun k => .tuple [.int k, f (l.getD k.toNat d)] := by
  apply List.ext_getElem?
  intro i
  by_cases h : i < l.length
  · unfold enD
    rw [List.getElem?_zipWith, List.getElem?_map, List.getElem?_map, rgI_get h, List.length_map, List.getElem?_range h]
    simp [h, List.getD]
  · rw [List.getElem?_eq_none_iff.mpr (by rw [enD_len]; simp; omega), List.getElem?_eq_none_iff.mpr (by simp [rgI_len]; omega)]
end Dn
set_option Elab.async false
set_option linter.all false
set_option maxRecDepth 100000
set_option autoImplicit false
set_option maxHeartbeats 4000000
/-! dicts that a frame owns: {}, x[k] = e, x[k], k in x, k not in x -/
namespace Dn
open PySem L2 Evl PySem.Spec PyProof.Rows
def keyD : D → Option Key
  | .int i => some (.inl i)
  | .str s => some (.inr s)
  | _ => none
theorem keyD_rp {K : PySem.W.Frag} {G : Hp} {v : V} {d : D} {k : Key} (r : Rp K G v d) (h : keyD d = some k) : v = kV k := by
  cases r <;> first | (cases h; rfl) | (exact nomatch h)
def valD (kvs : List (Key × D)) (k : Key) : Option D := (kvs.find? fun kv => decide (kv.1 = k)).map (·.2)
def putD (kvs : List (Key × D)) (k : Key) (d : D) : List (Key × D) :=
  if (kvs.any fun kv => decide (kv.1 = k)) = true then kvs.map (fun kv => if kv.1 = k then (kv.1, d) else kv) else kvs ++ [(k, d)]
abbrev KvRp (K : PySem.W.Frag) (G : Hp) (kvs : List (Key × D)) (kws : List (Key × V)) : Prop := Paired (fun (p : Key × D) (q : Key × V) => p.1 = q.1 ∧ Rp K G q.2 p.2) kvs kws
theorem KvRp.mono {K : PySem.W.Frag} {G G' : Hp} (e : Ex G G') {kvs : List (Key × D)} {kws : List (Key × V)} (h : KvRp K G kvs kws) : KvRp K G' kvs kws := Paired.mapP h fun _ _ q => ⟨q.1, q.2.mono e⟩
theorem KvRp.len {K : PySem.W.Frag} {G : Hp} {kvs : List (Key × D)} {kws : List (Key × V)} (h : KvRp K G kvs kws) : kvs.length = kws.length := by
  induction h with
  | nil => rfl
  | cons _ _ ih => simp [ih]
theorem KvRp.val {K : PySem.W.Frag} {G : Hp} {kvs : List (Key × D)} {kws : List (Key × V)} (h : KvRp K G kvs kws) (k : Key) : (valD kvs k = none ∧ valV kws k = none) ∨ ∃ d v, valD kvs k = some d ∧ valV kws k = some v ∧ Rp K G v d := by
  induction h with
  | nil => exact .inl ⟨rfl, rfl⟩
  | @cons p q ps qs r t ih =>
    unfold valD valV at ih ⊢
    rw [List.find?_cons, List.find?_cons]
    by_cases z : p.1 = k
    · have z2 : q.1 = k := by rw [← r.1]; exact z
      simp only [z, z2, decide_true, Option.map_some]
      exact .inr ⟨_, _, rfl, rfl, r.2⟩
    · have z2 : ¬ q.1 = k := by rw [← r.1]; exact z
      simp only [z, z2, decide_false]
      exact ih
theorem KvRp.any {K : PySem.W.Frag} {G : Hp} {kvs : List (Key × D)} {kws : List (Key × V)} (h : KvRp K G kvs kws) (k : Key) : (kvs.any fun kv => decide (kv.1 = k)) = (kws.any fun kv => decide (kv.1 = k)) := by
  induction h with
  | nil => rfl
  | @cons p q ps qs r t ih => simp only [List.any_cons, ih, r.1]
theorem KvRp.rep {K : PySem.W.Frag} {G : Hp} {kvs : List (Key × D)} {kws : List (Key × V)} (h : KvRp K G kvs kws) (k : Key) {v : V} {d : D} (r : Rp K G v d) : KvRp K G (kvs.map fun kv => if kv.1 = k then (kv.1, d) else kv) (kws.map fun kv => if kv.1 = k then (kv.1, v) else kv) := by
  induction h with
  | nil => exact .nil
  | @cons p q ps qs s t ih =>
    rw [List.map_cons, List.map_cons]
    refine .cons ?_ ih
    by_cases z : p.1 = k
    · have z2 : q.1 = k := by rw [← s.1]; exact z
      rw [if_pos z, if_pos z2]
      exact ⟨s.1, r⟩
    · have z2 : ¬ q.1 = k := by rw [← s.1]; exact z
      rw [if_neg z, if_neg z2]
      exact s
theorem KvRp.add {K : PySem.W.Frag} {G : Hp} {kvs : List (Key × D)} {kws : List (Key × V)} (h : KvRp K G kvs kws) (k : Key) {v : V} {d : D} (r : Rp K G v d) : KvRp K G (kvs ++ [(k, d)]) (kws ++ [(k, v)]) := by
  induction h with
  | nil => exact .cons ⟨rfl, r⟩ .nil
  | cons s t ih => exact .cons s ih
theorem KvRp.put {K : PySem.W.Frag} {G : Hp} {kvs : List (Key × D)} {kws : List (Key × V)} (h : KvRp K G kvs kws) (k : Key) {v : V} {d : D} (r : Rp K G v d) : KvRp K G (putD kvs k d) (putK kws k v) := by
  unfold putD putK
  rw [h.any k]
  split
  · exact h.rep k r
  · exact h.add k r
/-- what stands in slot i, if it is an owned dict -/
def atK (ρ : Env) (i : Nat) : Option (List (Key × D)) := match ρ[i]? with
  | some (some (.ow (.dct kvs))) => some kvs
  | _ => none
theorem atK_some {ρ : Env} {i : Nat} {kvs : List (Key × D)} (h : atK ρ i = some kvs) : ρ[i]? = some (some (SV.ow (.dct kvs))) := by
  unfold atK at h
  split at h
  · cases h; assumption
  · cases h
theorem RS.atK {K : PySem.W.Frag} {T : Addr → Prop} {ρ : Env} {σ : L2.St} {H : Hp} {i : Nat} {kvs : List (Key × D)} (r : RS K T ρ σ H) (h : Dn.atK ρ i = some kvs) : ∃ q kws, ρ[i]? = some (some (SV.ow (.dct kvs))) ∧ σ[i]? = some (some (V.ref q)) ∧ H q = some (.dK kws) ∧ KvRp K (hide (Hd T ρ σ) H) kvs kws := by
  have hm := atK_some h
  obtain ⟨q, o, h1, h2, h3⟩ := r.ow i _ hm
  cases o with
  | dK kws => exact ⟨q, kws, hm, h1, h2, h3⟩
  | _ => exact h3.elim
section
variable {X : Cx} {a b c e : Expr} {fa fb fc : DE} {pos p : Pos} {es : List Expr} {x y : Str}
/-- x[k], x an owned dict -/
def dGetK (i : Nat) (fb : DE) : DE := fun ρ Q => (atK ρ i).isSome = true ∧ fb ρ fun y ρ1 => ∃ kvs k d, atK ρ1 i = some kvs ∧ keyD y = some k ∧ valD kvs k = some d ∧ Q d ρ1
theorem je_getK {i : Nat} {px : Pos} (hu : X.A.units + 1 < cLine) (hN : X.N[i]? = some x) (hv : Vis X.env.scope x) (hb : JE X b fb) (hs : NoSl b := by exact fun _ _ => rfl) (hd : (x == ("__debug__" : Str)) = false := by decide) (hcd : (x == ("__classdict__" : Str)) = false := by decide) :
    JE X (.Subscript (.Name x px) b pos) (dGetK i fb) := by
  obtain ⟨tb, pb, kb⟩ := hb.ex
  refine ⟨_, pe_dget hu (pe_var hN hv hd hcd) pb hs, fun T ρ σ H QD Q r h q => ?_⟩
  obtain ⟨h0, h⟩ := h
  obtain ⟨ds0, h0⟩ := Option.isSome_iff_exists.mp h0
  obtain ⟨l, kws, _, hl, _, _⟩ := r.atK h0
  refine ⟨_, hl, kb T ρ σ H _ _ r h fun y ρ1 v H1 r1 p1 v1 h => ?_⟩
  obtain ⟨kvs, k, d, h1, hk, h2, h3⟩ := h
  obtain ⟨l', kws', _, hl', ho', hr'⟩ := r1.atK h1
  rw [hl] at hl'; cases hl'
  obtain rfl := keyD_rp v1 hk
  rcases hr'.val k with ⟨z, _⟩ | ⟨d', u, z, z2, z3⟩
  · rw [z] at h2; cases h2
  · rw [z] at h2; cases h2
    have g := DGet.k (k := k) ho'
    rw [z2] at g
    exact ⟨_, _, rfl, g, q _ _ _ _ r1 p1 z3 h3⟩
/-- k in x, k not in x, x an owned dict -/
def dInK (neg : Bool) (i : Nat) (fb : DE) : DE := fun ρ Q => fb ρ fun y ρ1 => ∃ kvs k, atK ρ1 i = some kvs ∧ keyD y = some k ∧ Q (.bool (if neg then !(valD kvs k).isSome else (valD kvs k).isSome)) ρ1
theorem je_inK {i : Nat} {px : Pos} (hu : X.A.units + 1 < cLine) (hN : X.N[i]? = some x) (hv : Vis X.env.scope x) (hb : JE X b fb) (hm : behindInMarks .In (.Name x px) = false) (hd : (x == ("__debug__" : Str)) = false := by decide) (hcd : (x == ("__classdict__" : Str)) = false := by decide) :
    JE X (.Compare b [.In] [.Name x px] pos) (dInK false i fb) := by
  obtain ⟨tb, pb, kb⟩ := hb.ex
  refine ⟨_, pe_cmp (pc_din hu pb (pe_var hN hv hd hcd)) hm, fun T ρ σ H QD Q r h q => kb T ρ σ H _ _ r h fun y ρ1 v H1 r1 p1 v1 h => ?_⟩
  obtain ⟨kvs, k, h1, hk, h3⟩ := h
  obtain ⟨l', kws', _, hl', ho', hr'⟩ := r1.atK h1
  obtain rfl := keyD_rp v1 hk
  refine ⟨_, hl', l', _, rfl, DGet.k (k := k) ho', q _ _ _ _ r1 p1 (.bl _) ?_⟩
  rcases hr'.val k with ⟨z, z2⟩ | ⟨d', u, z, z2, z3⟩
  · rw [z2]; rw [z] at h3; exact h3
  · rw [z2]; rw [z] at h3; exact h3
theorem je_notinK {i : Nat} {px : Pos} (hu : X.A.units + 1 < cLine) (hN : X.N[i]? = some x) (hv : Vis X.env.scope x) (hb : JE X b fb) (hm : behindInMarks .NotIn (.Name x px) = false) (hd : (x == ("__debug__" : Str)) = false := by decide) (hcd : (x == ("__classdict__" : Str)) = false := by decide) :
    JE X (.Compare b [.NotIn] [.Name x px] pos) (dInK true i fb) := by
  obtain ⟨tb, pb, kb⟩ := hb.ex
  refine ⟨_, pe_cmp (pc_dnotin hu pb (pe_var hN hv hd hcd)) hm, fun T ρ σ H QD Q r h q => kb T ρ σ H _ _ r h fun y ρ1 v H1 r1 p1 v1 h => ?_⟩
  obtain ⟨kvs, k, h1, hk, h3⟩ := h
  obtain ⟨l', kws', _, hl', ho', hr'⟩ := r1.atK h1
  obtain rfl := keyD_rp v1 hk
  refine ⟨_, hl', l', _, rfl, DGet.k (k := k) ho', q _ _ _ _ r1 p1 (.bl _) ?_⟩
  rcases hr'.val k with ⟨z, z2⟩ | ⟨d', u, z, z2, z3⟩
  · rw [z2]; rw [z] at h3; exact h3
  · rw [z2]; rw [z] at h3; exact h3
/-- x[k] = e, x an owned dict -/
def sPutK (i : Nat) (fi fe : DE) : DS := fun E ρ => fe ρ fun d ρ1 => (atK ρ1 i).isSome = true ∧ fi ρ1 fun y ρ2 => ∃ kvs k, atK ρ2 i = some kvs ∧ keyD y = some k ∧ kvs.length < sizeLine ∧ E.nx (ρ2.set i (some (.ow (.dct (putD kvs k d)))))
theorem js_putK {i : Nat} {px ps : Pos} {f1 f2 : DE} (hu : X.A.units + 1 < cLine) (hN : X.N[i]? = some x) (hv : Vis X.env.scope x) (hi : JE X b f1) (he : JE X e f2) (hd : (x == ("__debug__" : Str)) = false := by decide) (hcd : (x == ("__classdict__" : Str)) = false := by decide)
    (hs : swapsWith e (some (.Subscript (.Name x px) b ps)) pos.line X.env = pure false := by rfl) :
    JS X (.Assign [.Subscript (.Name x px) b ps] e pos) (sPutK i f1 f2) := by
  obtain ⟨t1, p1, k1⟩ := hi.ex
  obtain ⟨t2, p2, k2⟩ := he.ex
  refine ⟨_, ps_dput hu (pe_var hN hv hd hcd) p1 p2 hs, fun T ρ σ H E D r h k => k2 T ρ σ H _ _ r h fun d ρ1 v H1 r1 q1 v1 h => ?_⟩
  obtain ⟨h0, h⟩ := h
  obtain ⟨ds0, h0⟩ := Option.isSome_iff_exists.mp h0
  obtain ⟨l, kws, _, hl, _, _⟩ := r1.atK h0
  refine ⟨_, hl, k1 T ρ1 σ H1 _ _ r1 h fun kk ρ2 w H2 r2 q2 v2 h => ?_⟩
  obtain ⟨kvs, ky, h2, hk, h3, h4⟩ := h
  obtain ⟨l', kws', hm', hl', ho', hr'⟩ := r2.atK h2
  rw [hl] at hl'; cases hl'
  obtain rfl := keyD_rp v2 hk
  have hp : RpO X.K (hide (Hd T ρ2 σ) H2) (.dct (putD kvs ky d)) (.dK (putK kws' ky v)) := hr'.put ky (v1.mono q2.fz)
  have r3 := r2.write hm' hl hp (fun _ _ z => nomatch z)
  exact ⟨l, _, rfl, DPut.k ho' (by rw [← hr'.len]; exact h3), k.nx _ _ _ r3 ((q1.trans q2).trans (.write hm' hl)) h4⟩
/-- {} as a dict that the frame owns -/
def xDct : DX := fun ρ Q => Q (.ow (.dct [])) ρ
theorem jx_dct0 : JX X (.Dict [] [] pos) xDct := by
  refine ⟨_, pe_dnewK, fun T ρ σ H QD Q r h q p hp => ?_⟩
  exact q (SV.ow (.dct [])) ρ _ _ ⟨p, .dK [], rfl, hp, upd_same, r.laid hp, (Paired.nil : KvRp X.K _ [] []), fun _ _ z => nomatch z⟩ (.grow (Ex.new hp)) h
theorem hu1 {n : Nat} (h : n + 64 < cLine) : n + 1 < cLine := by omega
theorem jt_inK {i : Nat} {px : Pos} (hu : X.A.units + 1 < cLine) (hN : X.N[i]? = some x) (hv : Vis X.env.scope x) (hb : JE X b fb) (hm : behindInMarks .In (.Name x px) = false) (hd : (x == ("__debug__" : Str)) = false := by decide) (hcd : (x == ("__classdict__" : Str)) = false := by decide) :
    JT X (.Compare b [.In] [.Name x px] pos) (dTst (dInK false i fb)) := by
  obtain ⟨tb, pb, kb⟩ := hb.ex
  refine ⟨_, pt_cmp (pc_din hu pb (pe_var hN hv hd hcd)) hm, fun T ρ σ H QD Q r h q => kb T ρ σ H _ _ r h fun y ρ1 v H1 r1 p1 v1 h => ?_⟩
  obtain ⟨kvs, k, h1, hk, h3⟩ := h
  obtain ⟨l', kws', _, hl', ho', hr'⟩ := r1.atK h1
  obtain rfl := keyD_rp v1 hk
  refine ⟨_, hl', l', _, rfl, DGet.k (k := k) ho', ?_⟩
  refine ⟨_, rfl, q _ _ _ r1 p1 ?_⟩
  rcases hr'.val k with ⟨z, z2⟩ | ⟨d', u, z, z2, z3⟩
  · rw [z2]; rw [z] at h3; exact h3
  · rw [z2]; rw [z] at h3; exact h3
theorem jt_notinK {i : Nat} {px : Pos} (hu : X.A.units + 1 < cLine) (hN : X.N[i]? = some x) (hv : Vis X.env.scope x) (hb : JE X b fb) (hm : behindInMarks .NotIn (.Name x px) = false) (hd : (x == ("__debug__" : Str)) = false := by decide) (hcd : (x == ("__classdict__" : Str)) = false := by decide) :
    JT X (.Compare b [.NotIn] [.Name x px] pos) (dTst (dInK true i fb)) := by
  obtain ⟨tb, pb, kb⟩ := hb.ex
  refine ⟨_, pt_cmp (pc_dnotin hu pb (pe_var hN hv hd hcd)) hm, fun T ρ σ H QD Q r h q => kb T ρ σ H _ _ r h fun y ρ1 v H1 r1 p1 v1 h => ?_⟩
  obtain ⟨kvs, k, h1, hk, h3⟩ := h
  obtain ⟨l', kws', _, hl', ho', hr'⟩ := r1.atK h1
  obtain rfl := keyD_rp v1 hk
  refine ⟨_, hl', l', _, rfl, DGet.k (k := k) ho', ?_⟩
  refine ⟨_, rfl, q _ _ _ r1 p1 ?_⟩
  rcases hr'.val k with ⟨z, z2⟩ | ⟨d', u, z, z2, z3⟩
  · rw [z2]; rw [z] at h3; exact h3
  · rw [z2]; rw [z] at h3; exact h3
theorem js_augI {i : Nat} {px : Pos} (hN : X.N.Nodup) (hi : X.N[i]? = some x) (hx : Loc X.env.scope x) (he : JE X e fa) (hf : X.fn x = true ∨ X.env.scope.names.lookup x = some .local := by first | exact Or.inl rfl | exact Or.inr rfl) :
    JS X (.AugAssign (.Name x px) .Add e pos) (sAugI i fa) := by
  obtain ⟨t, pt, kt⟩ := he.ex
  refine ⟨_, ps_aug hN hi hx pt ip_add hf, fun T ρ σ H E D r h k => ?_⟩
  unfold sAugI at h
  split at h
  · rename_i n hn
    obtain ⟨v, hv, rv⟩ := r.im i _ hn
    cases rv
    refine ⟨_, hv, kt T ρ σ H _ _ r h fun d ρ1 v H1 r1 p1 v1 h => ?_⟩
    split at h
    · cases v1
      exact ⟨_, _, rfl, rfl, k.nx _ _ _ (r1.setIm (.int _)) (p1.trans Po.setIm) h⟩
    · exact h.elim
  · exact h.elim
end
end Dn
set_option Elab.async false
set_option linter.all false
set_option maxRecDepth 100000
set_option autoImplicit false
set_option maxHeartbeats 4000000
/-! targets that change an owned list: x[i], x[j] = a, b -/
namespace Dn
open PySem L2 Evl PySem.Spec PyProof.Rows
section
variable {X : Cx} {a b c e : Expr} {es : List Expr} {fa fb fc : DE} {pos p : Pos} {x y : Str}
structure JGW (X : Cx) (tg : Expr) (g : DG) : Prop where
  ex : ∃ t, PG X tg t ∧ ∀ (T : Addr → Prop) (ρ : Env) (σ : L2.St) (H : Hp) (v : V) (d : D) (QD : Env → Prop) (Q : L2.St → Hp → Prop), RS X.K T ρ σ H → Rp X.K (hide (Hd T ρ σ) H) v d → g d ρ QD →
    (∀ ρ' σ' H', RS X.K T ρ' σ' H' → Po ρ σ H ρ' σ' H' → QD ρ' → Q σ' H') → t v σ H Q
structure JGWs (X : Cx) (tgs : List Expr) (g : List D → Env → (Env → Prop) → Prop) : Prop where
  ex : ∃ t, PGs X tgs t ∧ ∀ (T : Addr → Prop) (ρ : Env) (σ : L2.St) (H : Hp) (us : List V) (ds : List D) (QD : Env → Prop) (Q : L2.St → Hp → Prop), RS X.K T ρ σ H → RpAll X.K (hide (Hd T ρ σ) H) us ds → g ds ρ QD →
    (∀ ρ' σ' H', RS X.K T ρ' σ' H' → Po ρ σ H ρ' σ' H' → QD ρ' → Q σ' H') → t us σ H Q
def gSubW (i : Nat) (fi : DE) : DG := fun d ρ Q => (atO ρ i).isSome = true ∧ fi ρ fun k ρ2 => ∃ ds j m, atO ρ2 i = some ds ∧ k = .int j ∧ ixN ds.length j = some m ∧ Q (setO ρ2 i (ds.set m d))
theorem jgw_sub {i : Nat} {px ps : Pos} {f1 : DE} (hN : X.N[i]? = some x) (hv : Vis X.env.scope x) (hi : JE X b f1) (hd : (x == ("__debug__" : Str)) = false := by decide) (hcd : (x == ("__classdict__" : Str)) = false := by decide)
    (ha : ∀ v, assign (.Subscript (.Name x px) b ps) X.env v = (do
      let ov ← holding [v] (eval (.Name x px) X.env); let iv ← holding [v, ov] (eval b X.env); standAt ps; holding [v, ov, iv] (setItem ov iv v); release [v, ov, iv] []) := by intro _; rfl) : JGW X (.Subscript (.Name x px) b ps) (gSubW i f1) := by
  obtain ⟨t1, p1, k1⟩ := hi.ex
  refine ⟨_, pg_sub (pe_var hN hv hd hcd) p1 set_list ha, fun T ρ σ H v d QD Q r rv h q => ?_⟩
  obtain ⟨h0, h⟩ := h
  obtain ⟨ds0, h0⟩ := Option.isSome_iff_exists.mp h0
  obtain ⟨m, l, vs, _, hl, _, _⟩ := r.atO h0
  refine ⟨_, hl, k1 T ρ σ H _ _ r h fun kk ρ2 w H2 r2 q2 v2 h => ?_⟩
  obtain ⟨ds, j, n, h2, rfl, h3, h4⟩ := h
  obtain ⟨m', l', vs', hm', hl', ho', hr'⟩ := r2.atO h2
  rw [hl] at hl'; cases hl'
  cases v2
  obtain ⟨r3, q3⟩ := r2.setO hm' hl (hr'.set n (rv.mono q2.fz))
  exact ⟨l, vs', j, n, rfl, rfl, ho', by rw [hr'.length]; exact h3, q _ _ _ r3 (q2.trans q3) h4⟩
theorem jgws_nil : JGWs X [] gsNil := ⟨gNil, pgs_nil, fun T ρ σ H us ds QD Q r rv h q => by
  obtain ⟨rfl, h⟩ := h
  cases rv
  exact ⟨rfl, q _ _ _ r .refl h⟩⟩
theorem jgws_cons {g : DG} {gs : List D → Env → (Env → Prop) → Prop} (h1 : JGW X e g) (h2 : JGWs X es gs) (hs : (assignEach (e :: es) X.env).map (·.2) = assign e X.env :: (assignEach es X.env).map (·.2) := by rfl) : JGWs X (e :: es) (gsCons g gs) := by
  obtain ⟨t1, p1, k1⟩ := h1.ex
  obtain ⟨t2, p2, k2⟩ := h2.ex
  refine ⟨_, pgs_cons p1 p2 hs, fun T ρ σ H us ds QD Q r rv h q => ?_⟩
  cases rv with
  | nil => exact False.elim h
  | cons rv rr => exact ⟨_, _, rfl, k1 T ρ σ H _ _ _ _ r rv h fun ρ1 σ1 H1 r1 q1 h => k2 T ρ1 σ1 H1 _ _ _ _ r1 (rr.mono q1.fz) h fun ρ2 σ2 H2 r2 q2 h => q _ _ _ r2 (q1.trans q2) h⟩
theorem jgw_tup {k n : Nat} {gs : List D → Env → (Env → Prop) → Prop} (hc : X.calm = true) (h : JGWs X es gs) (hn : (assignEach es X.env).length = n := by rfl) (hst : (assignEach es X.env).findIdx? (·.1) = none := by rfl) : JGW X (.Tuple es k pos) (gTp n gs) := by
  obtain ⟨t, pt, kt⟩ := h.ex
  refine ⟨_, pg_tup hc pt hn hst, fun T ρ σ H v d QD Q r rv h q => ?_⟩
  cases rv with
  | tup hp rr => exact ⟨_, _, rfl, sqt_of hp, by rw [rr.length]; exact h.1, kt T ρ σ H _ _ _ _ r rr h.2 q⟩
  | _ => exact False.elim h
theorem js_asgW {tg : Expr} {g : DG} (ha : JE X e fa) (hg : JGW X tg g) (hs : swapsWithSole [tg] e pos.line X.env = pure false := by rfl) (hw : swappedStores [tg] e X.env = pure none := by rfl) (h1 : (assignEach [tg] X.env).map (·.2) = [assign tg X.env] := by rfl) : JS X (.Assign [tg] e pos) (sAsg fa g) := by
  obtain ⟨t, pt, kt⟩ := ha.ex
  obtain ⟨t2, p2, k2⟩ := hg.ex
  refine ⟨_, ps_asg pt p2 hs hw h1, fun T ρ σ H E D r h k => kt T ρ σ H _ _ r h fun d ρ1 v H1 r1 q1 v1 h => k2 T ρ1 σ H1 _ _ _ _ r1 v1 h fun ρ2 σ2 H2 r2 q2 h => k.nx _ _ _ r2 (q1.trans q2) h⟩
end
end Dn
set_option Elab.async false
set_option linter.all false
set_option maxRecDepth 100000
set_option autoImplicit false
set_option maxHeartbeats 4000000
/-! dicts as values: handed back, handed in, looked up; list(d), sorted, len(set(t)), t[::-1], t * n -/
namespace Dn
open PySem L2 Evl PySem.Spec PyProof.Rows
theorem RpKv.kv {K : PySem.W.Frag} {G : Hp} : ∀ {kws : List (Key × V)} {kvs : List (Key × D)}, RpKv K G kws kvs → KvRp K G kvs kws
  | _, _, .nil => .nil
  | _, _, .cons h r => .cons ⟨rfl, h⟩ r.kv
theorem KvRp.rp {K : PySem.W.Frag} {G : Hp} {kvs : List (Key × D)} {kws : List (Key × V)} (h : KvRp K G kvs kws) : RpKv K G kws kvs := by
  induction h with
  | nil => exact .nil
  | @cons p q ps qs r t ih =>
    obtain ⟨k, d⟩ := p
    obtain ⟨k2, v⟩ := q
    obtain ⟨r1, r2⟩ := r
    cases r1
    exact .cons r2 ih
theorem keyB_inj {k k' : Key} (h : keyB k = keyB k') : k = k' := by
  cases k <;> cases k' <;> simp [keyB] at h <;> rw [h]
theorem dkD_inj : ∀ {kvs kvs' : List (Key × D)}, dkD kvs = dkD kvs' → kvs = kvs'
  | [], [], _ => rfl
  | [], _ :: _, h => by simp [dkD] at h
  | _ :: _, [], h => by simp [dkD] at h
  | (k, d) :: r, (k', d') :: r', h => by
    simp only [dkD, List.map_cons, List.cons.injEq, Prod.mk.injEq] at h
    obtain ⟨⟨h1, h2⟩, h3⟩ := h
    rw [keyB_inj h1, h2, dkD_inj (kvs := r) (kvs' := r') h3]
theorem dict_rp {K : PySem.W.Frag} {G : Hp} {v : V} {kvs : List (Key × D)} (r : Rp K G v (.dict (dkD kvs))) : ∃ p kws, v = .ref p ∧ G p = some (.dK kws) ∧ KvRp K G kvs kws := by
  generalize e : PyData.dict (dkD kvs) = d at r
  cases r with
  | dct h1 h2 h3 =>
    cases e
    obtain rfl := dkD_inj h3
    exact ⟨_, _, rfl, h1, h2.kv⟩
  | frz h1 h2 =>
    simp only [PyData.dict.injEq] at e
    cases kvs with
    | nil => simp [dkD] at e
    | cons p r => obtain ⟨k, d⟩ := p; cases k <;> simp [dkD, keyB] at e
  | _ => cases e
section
variable {K : PySem.W.Frag} {T : Addr → Prop} {ρ : Env} {σ : L2.St} {H : Hp}
/-- an owned dict is kept no longer -/
theorem RS.freezeK {i : Nat} {kvs : List (Key × D)} (r : RS K T ρ σ H) (hm : ρ[i]? = some (some (SV.ow (.dct kvs)))) : RS K T (ρ.set i (some (SV.im (.dict (dkD kvs))))) σ H := by
  obtain ⟨p, o, hp, ho, hr⟩ := r.ow i _ hm
  have hO : Own ρ σ p := ⟨i, _, hm, hp⟩
  have e : Ex (hide (Hd T ρ σ) H) (hide (Hd T (ρ.set i (some (SV.im (.dict (dkD kvs))))) σ) H) := hide_sub fun a w => w.elim .inl fun w => .inr (own_freeze w)
  have vis : hide (Hd T (ρ.set i (some (SV.im (.dict (dkD kvs))))) σ) H p = some o := hide_some.2 ⟨fun w => by
    rcases w with w | ⟨j, m, h1, h2⟩
    · exact r.dis p w hO
    · rcases getset h1 with ⟨_, _, h⟩ | ⟨ne, h⟩
      · cases h
      · exact ne (r.inj i j _ m p hm h hp h2), ho⟩
  refine ⟨by simp [r.len], fun j d' q => ?_, fun j m1 q => ?_, fun j k m1 m2 a q1 q2 q3 q4 => ?_, fun a t w => r.dis a t (own_freeze w), r.dom, fun j q m1 a q1 q2 => ?_⟩
  · rcases getset q with ⟨e1, l, h1⟩ | ⟨ne, h1⟩
    · cases h1; subst e1
      cases o with
      | dK vs => exact ⟨.ref p, hp, .dct vis (KvRp.rp (KvRp.mono e hr)) rfl⟩
      | _ => exact False.elim hr
    · obtain ⟨u, h2, h3⟩ := r.im j d' h1
      exact ⟨u, h2, h3.mono e⟩
  · rcases getset q with ⟨_, _, h1⟩ | ⟨ne, h1⟩
    · cases h1
    · obtain ⟨a, u, h2, h3, h4⟩ := r.ow j m1 h1
      exact ⟨a, u, h2, h3, h4.mono e⟩
  · rcases getset q1 with ⟨_, _, h1⟩ | ⟨_, h1⟩
    · cases h1
    · rcases getset q2 with ⟨_, _, h2⟩ | ⟨_, h2⟩
      · cases h2
      · exact r.inj j k m1 m2 a h1 h2 q3 q4
  · rcases getset q1 with ⟨_, _, h1⟩ | ⟨_, h1⟩
    · cases h1
    · exact r.tag j q m1 a h1 q2
end
section
variable {X : Cx} {a b c e : Expr} {fa fb fc : DE} {pos p : Pos} {es : List Expr} {x y : Str}
/-- return x, x an owned dict -/
def sRetK (i : Nat) : DS := fun E ρ => ∃ kvs, atK ρ i = some kvs ∧ E.rt (.dict (dkD kvs)) (ρ.set i (some (.im (.dict (dkD kvs)))))
theorem js_retK {i : Nat} {px : Pos} (hN : X.N[i]? = some x) (hv : Vis X.env.scope x) (hd : (x == ("__debug__" : Str)) = false := by decide) (hcd : (x == ("__classdict__" : Str)) = false := by decide) : JS X (.Return (some (.Name x px)) pos) (sRetK i) := by
  refine ⟨_, ps_ret (pe_var hN hv hd hcd), fun T ρ σ H E D r h k => ?_⟩
  obtain ⟨kvs, h1, h2⟩ := h
  have hm := atK_some h1
  have rf := r.freezeK hm
  obtain ⟨v, hv, rv⟩ := rf.im i _ (List.getElem?_set_self (List.getElem?_eq_some_iff.mp hm).1)
  exact ⟨v, hv, k.rt _ _ _ _ _ rf .freeze rv h2⟩
/-- {k: v} as a dict that the frame owns -/
def xDct1 (fk fv : DE) : DX := fun ρ Q => fk ρ fun y ρ1 => fv ρ1 fun d ρ2 => ∃ k, keyD y = some k ∧ Q (.ow (.dct [(k, d)])) ρ2
theorem jx_dct1 {k v : Expr} {fk fv : DE} (hk : JE X k fk) (hv : JE X v fv) : JX X (.Dict [some k] [v] pos) (xDct1 fk fv) := by
  obtain ⟨tk, pk, kk⟩ := hk.ex
  obtain ⟨tv, pv, kv⟩ := hv.ex
  refine ⟨_, pe_disp (pps_cons pk pv pps_nil) rfl rfl (by simp) (by simp), fun T ρ σ H QD Q r h q p hp => ?_⟩
  have r0 := r.laid (o := .dK []) hp
  refine kk (plus T p) ρ σ _ _ _ r0 h fun y ρ1 vk H1 r1 p1 v1 h => kv (plus T p) ρ1 σ H1 _ _ r1 h fun d ρ2 vv H2 r2 p2 v2 h => ?_
  obtain ⟨k, hk, h⟩ := h
  obtain rfl := keyD_rp v1 hk
  have q0 : (upd H p (.dK [])) p = some (.dK []) := upd_same
  have n0 : ¬ Own ρ σ p := r0.dis p (.inl rfl)
  have n1 : ¬ Own ρ1 σ p := r1.dis p (.inl rfl)
  have n2 : ¬ Own ρ2 σ p := r2.dis p (.inl rfl)
  have a2 : H2 p = some (.dK []) := p2.keep p _ n1 (p1.keep p _ n0 q0)
  refine ⟨a2, [(k, vv)], rfl, by simp, ?_⟩
  have hmk : mergeK [] [(k, vv)] = [(k, vv)] := rfl
  rw [hmk]
  -- the heap behind it
  have e2 : Ex (hide (Hd (plus T p) ρ2 σ) H2) (hide (Hd (plus T p) ρ2 σ) (upd H2 p (.dK [(k, vv)]))) := fun a o w => by
    obtain ⟨w1, w2⟩ := hide_some.1 w
    exact hide_some.2 ⟨w1, by rw [upd_ne (fun z => w1 (.inl (.inl z)))]; exact w2⟩
  have r3 : RS X.K (plus T p) ρ2 σ (upd H2 p (.dK [(k, vv)])) := by
    refine ⟨r2.len, fun i d q => ?_, fun i m q => ?_, r2.inj, r2.dis, fun a t => ?_, r2.tag⟩
    · obtain ⟨v, h1, h2⟩ := r2.im i d q; exact ⟨v, h1, h2.mono e2⟩
    · obtain ⟨a, u, h1, h2, h3⟩ := r2.ow i m q
      exact ⟨a, u, h1, by rw [upd_ne (fun z => n2 (by rw [← z]; exact ⟨i, m, q, h1⟩))]; exact h2, h3.mono e2⟩
    · by_cases z : a = p
      · subst z; rw [upd_same]; simp
      · rw [upd_ne z]; exact r2.dom a t
  have pz : Po ρ σ H ρ2 σ (upd H2 p (.dK [(k, vv)])) := by
    have pt := p1.trans p2
    refine ⟨fun a o n w => ?_, fun a w => ?_, fun a w => ?_⟩
    · have ne : a ≠ p := fun z => by subst z; rw [hp] at w; cases w
      rw [upd_ne ne]
      exact pt.keep a o n (by rw [upd_ne ne]; exact w)
    · rcases pt.own a w with z | z
      · exact .inl z
      · refine .inr ?_
        by_cases ne : a = p
        · subst ne; exact hp
        · rw [upd_ne ne] at z; exact z
    · by_cases ne : a = p
      · subst ne; rw [upd_same]; simp
      · rw [upd_ne ne]
        exact pt.dom a (by rw [upd_ne ne]; exact w)
  refine q (SV.ow (.dct [(k, d)])) ρ2 _ _ ⟨p, _, rfl, hp, upd_same, r3, ?_, fun _ _ z => nomatch z⟩ pz h
  exact (Paired.cons ⟨rfl, v2.mono e2⟩ Paired.nil : KvRp X.K _ [(k, d)] [(k, vv)])
/-- d[k], k in d, d.get(k), d a dict that nobody changes -/
theorem DGet.of {H : Hp} {q : Addr} {kws : List (Key × V)} {k : Key} (h : H q = some (.dK kws)) : DGet H q (kV k) (valV kws k) := DGet.k h
def dGetD (fa fb : DE) : DE := fun ρ Q => fa ρ fun z ρ1 => fb ρ1 fun y ρ2 => ∃ kvs k d, z = .dict (dkD kvs) ∧ keyD y = some k ∧ valD kvs k = some d ∧ Q d ρ2
theorem je_getD (hu : X.A.units + 1 < cLine) (ha : JE X a fa) (hb : JE X b fb) (hs : NoSl b := by exact fun _ _ => rfl) : JE X (.Subscript a b pos) (dGetD fa fb) := by
  obtain ⟨ta, pa, ka⟩ := ha.ex
  obtain ⟨tb, pb, kb⟩ := hb.ex
  refine ⟨_, pe_dget hu pa pb hs, fun T ρ σ H QD Q r h q => ka T ρ σ H _ _ r h fun z ρ1 v H1 r1 p1 v1 h => kb T ρ1 σ H1 _ _ r1 h fun y ρ2 w H2 r2 p2 v2 h => ?_⟩
  obtain ⟨kvs, k, d, rfl, hk, h2, h3⟩ := h
  obtain rfl := keyD_rp v2 hk
  obtain ⟨l, kws, rfl, hl, hr⟩ := dict_rp (v1.mono p2.fz)
  rcases hr.val k with ⟨z, _⟩ | ⟨d', u, z, z2, z3⟩
  · rw [z] at h2; cases h2
  · rw [z] at h2; cases h2
    have g := DGet.k (k := k) (at_of hl)
    rw [z2] at g
    exact ⟨_, _, rfl, g, q _ _ _ _ r2 (p1.trans p2) z3 h3⟩
def dInD (neg : Bool) (fb fa : DE) : DE := fun ρ Q => fb ρ fun y ρ1 => fa ρ1 fun z ρ2 => ∃ kvs k, z = .dict (dkD kvs) ∧ keyD y = some k ∧ Q (.bool (if neg then !(valD kvs k).isSome else (valD kvs k).isSome)) ρ2
theorem je_inD (hu : X.A.units + 1 < cLine) (hb : JE X b fb) (ha : JE X a fa) (hm : behindInMarks .In a = false) : JE X (.Compare b [.In] [a] pos) (dInD false fb fa) := by
  obtain ⟨ta, pa, ka⟩ := ha.ex
  obtain ⟨tb, pb, kb⟩ := hb.ex
  refine ⟨_, pe_cmp (pc_din hu pb pa) hm, fun T ρ σ H QD Q r h q => kb T ρ σ H _ _ r h fun y ρ1 v H1 r1 p1 v1 h => ka T ρ1 σ H1 _ _ r1 h fun z ρ2 w H2 r2 p2 v2 h => ?_⟩
  obtain ⟨kvs, k, rfl, hk, h3⟩ := h
  obtain rfl := keyD_rp v1 hk
  obtain ⟨l, kws, rfl, hl, hr⟩ := dict_rp v2
  refine ⟨l, _, rfl, DGet.k (k := k) (at_of hl), q _ _ _ _ r2 (p1.trans p2) (.bl _) ?_⟩
  rcases hr.val k with ⟨z, z2⟩ | ⟨d', u, z, z2, z3⟩
  · rw [z2]; rw [z] at h3; exact h3
  · rw [z2]; rw [z] at h3; exact h3
theorem je_notinD (hu : X.A.units + 1 < cLine) (hb : JE X b fb) (ha : JE X a fa) (hm : behindInMarks .NotIn a = false) : JE X (.Compare b [.NotIn] [a] pos) (dInD true fb fa) := by
  obtain ⟨ta, pa, ka⟩ := ha.ex
  obtain ⟨tb, pb, kb⟩ := hb.ex
  refine ⟨_, pe_cmp (pc_dnotin hu pb pa) hm, fun T ρ σ H QD Q r h q => kb T ρ σ H _ _ r h fun y ρ1 v H1 r1 p1 v1 h => ka T ρ1 σ H1 _ _ r1 h fun z ρ2 w H2 r2 p2 v2 h => ?_⟩
  obtain ⟨kvs, k, rfl, hk, h3⟩ := h
  obtain rfl := keyD_rp v1 hk
  obtain ⟨l, kws, rfl, hl, hr⟩ := dict_rp v2
  refine ⟨l, _, rfl, DGet.k (k := k) (at_of hl), q _ _ _ _ r2 (p1.trans p2) (.bl _) ?_⟩
  rcases hr.val k with ⟨z, z2⟩ | ⟨d', u, z, z2, z3⟩
  · rw [z2]; rw [z] at h3; exact h3
  · rw [z2]; rw [z] at h3; exact h3
theorem jt_inD (hu : X.A.units + 1 < cLine) (hb : JE X b fb) (ha : JE X a fa) (hm : behindInMarks .In a = false) : JT X (.Compare b [.In] [a] pos) (dTst (dInD false fb fa)) := by
  obtain ⟨ta, pa, ka⟩ := ha.ex
  obtain ⟨tb, pb, kb⟩ := hb.ex
  refine ⟨_, pt_cmp (pc_din hu pb pa) hm, fun T ρ σ H QD Q r h q => kb T ρ σ H _ _ r h fun y ρ1 v H1 r1 p1 v1 h => ka T ρ1 σ H1 _ _ r1 h fun z ρ2 w H2 r2 p2 v2 h => ?_⟩
  obtain ⟨kvs, k, rfl, hk, h3⟩ := h
  obtain rfl := keyD_rp v1 hk
  obtain ⟨l, kws, rfl, hl, hr⟩ := dict_rp v2
  refine ⟨l, _, rfl, DGet.k (k := k) (at_of hl), ?_⟩
  refine ⟨_, rfl, q _ _ _ r2 (p1.trans p2) ?_⟩
  rcases hr.val k with ⟨z, z2⟩ | ⟨d', u, z, z2, z3⟩
  · rw [z2]; rw [z] at h3; exact h3
  · rw [z2]; rw [z] at h3; exact h3
theorem jt_notinD (hu : X.A.units + 1 < cLine) (hb : JE X b fb) (ha : JE X a fa) (hm : behindInMarks .NotIn a = false) : JT X (.Compare b [.NotIn] [a] pos) (dTst (dInD true fb fa)) := by
  obtain ⟨ta, pa, ka⟩ := ha.ex
  obtain ⟨tb, pb, kb⟩ := hb.ex
  refine ⟨_, pt_cmp (pc_dnotin hu pb pa) hm, fun T ρ σ H QD Q r h q => kb T ρ σ H _ _ r h fun y ρ1 v H1 r1 p1 v1 h => ka T ρ1 σ H1 _ _ r1 h fun z ρ2 w H2 r2 p2 v2 h => ?_⟩
  obtain ⟨kvs, k, rfl, hk, h3⟩ := h
  obtain rfl := keyD_rp v1 hk
  obtain ⟨l, kws, rfl, hl, hr⟩ := dict_rp v2
  refine ⟨l, _, rfl, DGet.k (k := k) (at_of hl), ?_⟩
  refine ⟨_, rfl, q _ _ _ r2 (p1.trans p2) ?_⟩
  rcases hr.val k with ⟨z, z2⟩ | ⟨d', u, z, z2, z3⟩
  · rw [z2]; rw [z] at h3; exact h3
  · rw [z2]; rw [z] at h3; exact h3
def dGet1 (fa fb : DE) : DE := fun ρ Q => fa ρ fun z ρ1 => (∃ kvs, z = .dict (dkD kvs)) ∧ fb ρ1 fun y ρ2 => ∃ kvs k, z = .dict (dkD kvs) ∧ keyD y = some k ∧ Q ((valD kvs k).getD .none) ρ2
theorem je_get1 {apos cpos : Pos} (hu : X.A.units + 1 < cLine) (ha : JE X a fa) (hb : JE X b fb) (m : M1 X a "get" apos b cpos) : JE X (.Call (.Attribute a "get" apos) [b] [] cpos) (dGet1 fa fb) := by
  obtain ⟨ta, pa, ka⟩ := ha.ex
  obtain ⟨tb, pb, kb⟩ := hb.ex
  refine ⟨_, pe_dget1 hu pa pb m, fun T ρ σ H QD Q r h q => ka T ρ σ H _ _ r h fun z ρ1 v H1 r1 p1 v1 h => ?_⟩
  obtain ⟨⟨kvs0, e0⟩, h⟩ := h
  subst e0
  obtain ⟨l0, kws0, rfl, hl0, _⟩ := dict_rp v1
  refine ⟨_, rfl, .inl ⟨_, .inl (at_of hl0)⟩, kb T ρ1 σ H1 _ _ r1 h fun y ρ2 w H2 r2 p2 v2 h => ?_⟩
  obtain ⟨kvs, k, e, hk, h3⟩ := h
  rw [PyData.dict.injEq] at e
  obtain rfl := dkD_inj e
  obtain rfl := keyD_rp v2 hk
  obtain ⟨l, kws, e2, hl, hr⟩ := dict_rp (v1.mono p2.fz)
  cases e2
  refine ⟨_, DGet.k (k := k) (at_of hl), ?_⟩
  rcases hr.val k with ⟨z, z2⟩ | ⟨d', u, z, z2, z3⟩
  · rw [z2]; rw [z] at h3; exact q _ _ _ _ r2 (p1.trans p2) .non h3
  · rw [z2]; rw [z] at h3; exact q _ _ _ _ r2 (p1.trans p2) z3 h3
/-- list(d) -/
def lKeys (fa : DE) : DL := fun ρ Q => fa ρ fun z ρ1 => ∃ kvs, z = .dict (dkD kvs) ∧ Q (kvs.map fun p => keyB p.1) ρ1
theorem keys_rp {K : PySem.W.Frag} {G : Hp} {kvs : List (Key × D)} {kws : List (Key × V)} (h : KvRp K G kvs kws) (G' : Hp) : RpAll K G' (kws.map fun kv => kV kv.1) (kvs.map fun p => keyB p.1) := by
  induction h with
  | nil => exact .nil
  | @cons p q ps qs r t ih =>
    rw [List.map_cons, List.map_cons, ← r.1]
    refine .cons ?_ ih
    cases p.1 with
    | inl i => exact .int i
    | inr s => exact .str s
theorem jl_keys (hc : X.calm = true) (hm : X.mg "list" = none) (ha : JE X a fa) (hg : Gl X "list" := by rfl) (he : starEach [a] X.env = (false, eval a X.env) :: starEach [] X.env := by rfl) : JL X (.Call (.Name "list" p) [a] [] pos) (lKeys fa) := by
  obtain ⟨ta, pa, ka⟩ := ha.ex
  refine ⟨_, pe_callTy (call_list_dK hc) hg hm (by decide +kernel) (pa_cons pa pa_nil he) (by decide) (by decide) he, fun T ρ σ H QD Q r h q => ka T ρ σ H _ _ r h fun d ρ1 v H1 r1 p1 v1 h => ?_⟩
  obtain ⟨kvs, rfl, h⟩ := h
  obtain ⟨l, kws, rfl, hl, hr⟩ := dict_rp v1
  exact ⟨_, _, rfl, at_of hl, fun l2 hl2 => q _ _ _ _ _ (none_back p1 hl2) upd_same (r1.laid hl2) (keys_rp hr _) (p1.trans (.grow (Ex.new hl2))) h⟩
/-- sorted(l), ints -/
def lSort (fa : DE) : DL := fun ρ Q => fa ρ fun z ρ1 => ∃ ns : List Int, seqD z = some (ns.map PyData.int) ∧ (∃ ds, z = .list ds) ∧ ∀ ns' : List Int, ns'.Perm ns → ns'.Pairwise (· ≤ ·) → Q (ns'.map PyData.int) ρ1
theorem jl_sort (hm : X.mg "sorted" = none) (ha : JE X a fa) (hg : Gl X "sorted" := by rfl) (he : starEach [a] X.env = (false, eval a X.env) :: starEach [] X.env := by rfl) : JL X (.Call (.Name "sorted" p) [a] [] pos) (lSort fa) := by
  obtain ⟨ta, pa, ka⟩ := ha.ex
  refine ⟨_, pe_callB cr_sortedI hg hm (by decide +kernel) (pa_cons pa pa_nil he) (by decide) (by decide) he (by rfl), fun T ρ σ H QD Q r h q => ka T ρ σ H _ _ r h fun d ρ1 v H1 r1 p1 v1 h => ?_⟩
  obtain ⟨ns, e, ⟨ds, rfl⟩, h⟩ := h
  cases v1 with
  | lst hp rr =>
    cases e
    obtain rfl := rr.of_ints
    exact ⟨_, ns, rfl, .inl (.inl (at_of hp)), fun ns' l h1 h2 hl => q _ _ _ _ _ (none_back p1 hl) upd_same (r1.laid hl) (RpAll.ints ns') (p1.trans (.grow (Ex.new hl))) (h ns' h1 h2)⟩
end
end Dn
set_option Elab.async false
set_option linter.all false
set_option maxRecDepth 100000
set_option autoImplicit false
set_option maxHeartbeats 4000000
/-! len(set(t)), t[::-1], t * n, lcm -/
namespace Dn
open PySem L2 Evl PySem.Spec PyProof.Rows
/-! ### len(set(t)), t a tuple of ints -/
theorem erase_perm {l : List Int} {x : Int} (h : x ∈ l) : (x :: l.erase x).Perm l := (List.perm_cons_erase h).symm
theorem nodup_iff_len : ∀ (l ns : List Int), l.Nodup → (∀ k, k ∈ l ↔ k ∈ ns) → l.length ≤ ns.length ∧ (l.length = ns.length ↔ ns.Nodup)
  | [], ns, _, h => by
    cases ns with
    | nil => simp
    | cons x r => exact absurd ((h x).2 (by simp)) (by simp)
  | x :: l, ns, hd, h => by
    have hx : x ∈ ns := (h x).1 (by simp)
    have hd2 := List.nodup_cons.mp hd
    have p := erase_perm hx
    by_cases hy : x ∈ ns.erase x
    · -- x stands twice
      have h2 : ∀ k, k ∈ l ↔ k ∈ (ns.erase x).filter (fun z => decide (z ≠ x)) := fun k => by
        simp only [List.mem_filter, decide_eq_true_eq]
        constructor
        · intro hk
          have ne : k ≠ x := fun z => hd2.1 (by rw [← z]; exact hk)
          have : k ∈ x :: ns.erase x := p.mem_iff.2 ((h k).1 (by simp [hk]))
          rcases List.mem_cons.mp this with z | z
          · exact absurd z ne
          · exact ⟨z, ne⟩
        · rintro ⟨hk, ne⟩
          have : k ∈ ns := p.mem_iff.1 (by simp [hk])
          rcases List.mem_cons.mp ((h k).2 this) with z | z
          · exact absurd z ne
          · exact z
      have ih := nodup_iff_len l _ hd2.2 h2
      have lt : ((ns.erase x).filter (fun z => decide (z ≠ x))).length < (ns.erase x).length := by
        have := List.length_filter_lt_length_iff_exists (p := fun z => decide (z ≠ x)) (l := ns.erase x)
        exact this.2 ⟨x, hy, by simp⟩
      have e := p.length_eq
      simp only [List.length_cons] at e ⊢
      refine ⟨by omega, fun z => by omega, fun z => ?_⟩
      exact absurd (p.nodup_iff.2 z) (by simp [hy])
    · have h2 : ∀ k, k ∈ l ↔ k ∈ ns.erase x := fun k => by
        constructor
        · intro hk
          have ne : k ≠ x := fun z => hd2.1 (by rw [← z]; exact hk)
          have : k ∈ x :: ns.erase x := p.mem_iff.2 ((h k).1 (by simp [hk]))
          rcases List.mem_cons.mp this with z | z
          · exact absurd z ne
          · exact z
        · intro hk
          have : k ∈ ns := p.mem_iff.1 (by simp [hk])
          rcases List.mem_cons.mp ((h k).2 this) with z | z
          · rw [z] at hk; exact absurd hk hy
          · exact z
      have ih := nodup_iff_len l _ hd2.2 h2
      have e := p.length_eq
      simp only [List.length_cons] at e ⊢
      refine ⟨by omega, fun z => ?_, fun z => ?_⟩
      · exact p.nodup_iff.1 (List.nodup_cons.mpr ⟨hy, ih.2.1 (by omega)⟩)
      · have := ih.2.2 (List.nodup_cons.mp (p.nodup_iff.2 z)).2
        omega
section
variable {X : Cx} {a b c e : Expr} {fa fb fc : DE} {pos p : Pos} {es : List Expr} {x y : Str}
def tLenSetT (K : PySem.W.Frag) (ta : TE) : TE := fun σ H Q => ta σ H fun x H1 => ∃ (l : Addr) (ns : List Int), x = V.ref l ∧ SqT K H1 l (ns.map V.int) ∧ ns.length ≤ 4000 ∧ ∀ n : Nat, (n = ns.length ↔ ns.Nodup) → Q (.int n) H1
theorem pe_lenSetT {a : Expr} {ta : TE} {p p2 q pos : Pos} (hc : X.calm = true) (hg : Gl X "len") (hm : X.mg "len" = none) (hg2 : Gl X "set") (hm2 : X.mg "set" = none) (ha : PE X a ta)
    (na : starEach [a] X.env = (false, eval a X.env) :: starEach [] X.env := by rfl) : PE X (.Call (.Name "len" p) [.Call (.Name "set" p2) [a] [] q] [] pos) (tLenSetT X.K ta) := by
  refine ⟨fun pins s σ H Q I h => ?_⟩
  refine Call_ (ld_blt I hg hm PySem.boot_len ?_)
  refine PyProof.Rows.callWith_builtin1 (PyProof.Rows.args_cons ?_ rfl) rfl rfl
  refine Call_ (ld_blt I hg2 hm2 PyProof.Rows.boot_set ?_)
  refine PyProof.Rows.callWith_type1 (PyProof.Rows.args_cons (thn (ha.run pins s σ H _ I h) fun v s1 ⟨x, H1, I1, r1, q1⟩ => PyProof.Rows.args_nil ?_) na) na rfl
  obtain ⟨l, ns, rfl, hq, h1, q1⟩ := q1
  cases r1
  obtain ⟨its, r, pl, hz⟩ := I1.tuple hq
  refine call_set_tupI ns (I1.ok.hd hc) pl (by simpa using r.ints) (by unfold scanBound; omega) fun h' tk c R hc2 hk => ?_
  refine PyProof.Rows.args_nil ?_
  obtain ⟨o, es, ep, t, ho, hex, hd, _, nd, hm, hb, hf, hn, _⟩ := R
  have I2 : Inv X pins σ H1 { s1 with heap := h', toks := tk } := I1.kept fun b o e => hk b o e
  have hl := nodup_iff_len _ ns nd fun k => by rw [← hm k]; simp
  rw [List.length_map, Array.length_toList] at hl
  refine call_len_set ho hex hd hf (by omega) ⟨.int es.size, H1, I2.tok _, ⟨_, rfl⟩, q1 _ hl.2⟩
def dLenSet (fa : DE) : DE := fun ρ Q => fa ρ fun z ρ1 => ∃ ns : List Int, z = .tuple (ns.map PyData.int) ∧ ns.length ≤ 4000 ∧ ∀ n : Nat, (n = ns.length ↔ ns.Nodup) → Q (.int n) ρ1
theorem je_lenSet {p2 q : Pos} (hc : X.calm = true) (hm : X.mg "len" = none) (hm2 : X.mg "set" = none) (ha : JE X a fa) (hg : Gl X "len" := by rfl) (hg2 : Gl X "set" := by rfl)
    (na : starEach [a] X.env = (false, eval a X.env) :: starEach [] X.env := by rfl) : JE X (.Call (.Name "len" p) [.Call (.Name "set" p2) [a] [] q] [] pos) (dLenSet fa) := by
  obtain ⟨ta, pa, ka⟩ := ha.ex
  refine ⟨_, pe_lenSetT hc hg hm hg2 hm2 pa na, fun T ρ σ H QD Q r h q => ka T ρ σ H _ _ r h fun z ρ1 v H1 r1 p1 v1 h => ?_⟩
  obtain ⟨ns, rfl, h1, h2⟩ := h
  cases v1 with
  | tup hp rr =>
    obtain rfl := rr.of_ints
    exact ⟨_, ns, rfl, sqt_of hp, h1, fun n hn => q _ _ _ _ r1 p1 (.int _) (h2 n hn)⟩

/-! ### t[::-1] -/
theorem sliceApplied_rev {prog : Program} {w : World} {A : Around} {E : Value → Shared → Prop} {s : Shared} {sl : Addr} {t : Tok} {n : Nat} {Q : Int × Int × Nat → Shared → Prop} (hs : s.heap.IsSliceOf sl .none .none (.int (-1) t))
    (h : Q ((n : Int) - 1, -1, n) s) : wpAny (model prog w) A (Builtin.Slice.sliceApplied (.ref sl) (pure (n : Int))) Q E s := by
  obtain ⟨os, hos, hcs, hds⟩ := id hs
  unfold Builtin.Slice.sliceApplied Builtin.Slice.sliceFields
  refine wpAny_bind (wpAny_bind (wpAny_field hos hds (x := .none) rfl (wpAny_bind (wpAny_field hos hds (x := .none) rfl (wpAny_bind (wpAny_field hos hds (x := .int (-1) t) rfl (wpAny_pure ?_)))))))
  refine wpAny_bind (slicePart_int ?_)
  show wpAny _ _ (if ((-1 : Int) == 0) = true then _ else _) _ _ s
  rw [if_neg (by decide)]
  refine wpAny_bind (slicePart_none (wpAny_bind (slicePart_none (wpAny_bind (wpAny_pure ?_)))))
  show wpAny _ _ (match Builtin.Slice.sliceAdjust none none (-1) (n : Int) with | (lo, hi) => pure (lo, (-1 : Int), Builtin.Slice.slicePlaces lo hi (-1))) _ _ s
  have e1 : Builtin.Slice.sliceAdjust none none (-1) (n : Int) = ((n : Int) - 1, -1) := by
    unfold Builtin.Slice.sliceAdjust
    have h1 : (-1 : Int) < 0 := by omega
    simp only [h1, if_true]
  rw [e1]
  show wpAny _ _ (pure ((n : Int) - 1, (-1 : Int), Builtin.Slice.slicePlaces ((n : Int) - 1) (-1) (-1))) _ _ s
  have e2 : Builtin.Slice.slicePlaces ((n : Int) - 1) (-1) (-1) = n := by
    unfold Builtin.Slice.slicePlaces
    have h1 : ¬ ((-1 : Int) > 0) := by omega
    simp only [h1, if_false]
    by_cases hn : n = 0
    · subst hn; simp
    · have h2 : (-1 : Int) < (n : Int) - 1 := by omega
      simp [h2]
  rw [e2]
  exact wpAny_pure h
theorem fmap_some {α β : Type} {f : α → Option β} {g : α → β} : ∀ {l : List α}, (∀ m, m ∈ l → f m = some (g m)) → l.filterMap f = l.map g
  | [], _ => rfl
  | x :: l, h => by rw [List.filterMap_cons, h x (by simp), List.map_cons, fmap_some fun m hm => h m (by simp [hm])]
theorem pick_rev (items : List Value) : ((List.range items.length).filterMap fun (m : Nat) => items.toArray[((items.length : Int) - 1 + (m : Int) * (-1)).toNat]?) = items.reverse := by
  apply List.ext_getElem?
  intro i
  have e : ∀ m, m ∈ List.range items.length → items.toArray[((items.length : Int) - 1 + (m : Int) * (-1)).toNat]? = some ((fun m => items.getD (items.length - 1 - m) .none) m) := fun m hm => by
    have := List.mem_range.mp hm
    have h1 : ((items.length : Int) - 1 + (m : Int) * (-1)).toNat = items.length - 1 - m := by omega
    rw [h1]
    simp [List.getD]
    rw [List.getElem?_eq_getElem (by omega)]
    simp
  rw [fmap_some e]
  by_cases hi : i < items.length
  · rw [List.getElem?_map, List.getElem?_range hi, List.getElem?_reverse hi]
    simp [List.getD]
    rw [List.getElem?_eq_getElem (by omega)]
    simp
  · rw [List.getElem?_eq_none_iff.mpr (by simp; omega), List.getElem?_eq_none_iff.mpr (by simp; omega)]
theorem getItem_tuple_rev {prog : Program} {w : World} {A : Around} {E : Value → Shared → Prop} {s : Shared} {t sl : Addr} {items : List Value} {tk : Tok} {Q : Value → Shared → Prop} (ht : IsTup s.heap t items.toArray) (hs : s.heap.IsSliceOf sl .none .none (.int (-1) tk))
    (h : Q (.ref s.heap.objs.size) { s with heap := s.heap.push { cls := .type "tuple", data := .seq items.reverse.toArray } }) (hsz : items.length ≤ sizeLine) : wpAny (model prog w) A (getItem (.ref t) (.ref sl)) Q E s := by
  have htake : sizeOk (.seq items.reverse.toArray) := by
    show items.reverse.toArray.size ≤ sizeLine
    rw [List.size_toArray, List.length_reverse]; exact hsz
  obtain ⟨os, hos, hcs, hds⟩ := id hs
  have hTs : s.TypeIs (.ref sl) "slice" := ⟨os, hos, hcs⟩
  unfold getItem
  try with_reducible refine wpAny_holding ?_
  first | refine wpAny_bind (wpAny_pure ?_) | skip
  refine wpAny_bind (wpAny_sequenceKey ht.typeIs (by decide) ?_)
  refine wpAny_bind (wpAny_callSpecial?_slot (name := Str.ofString "__getitem__") ht.typeIs PyProof.Rows.slot_tuple_getitem
    (wpAny_call_entry PyProof.Rows.slot_tuple_getitem ht.typeIs entry_tuple_getitem ?_ (args_tuple_getitem _ _)))
  show wpAny _ _ (Builtin.Tuple.tupleItemsOf (.ref t) >>= _) _ _ s
  refine wpAny_bind (tupleItemsOf_ ht ?_)
  refine wpAny_bind (wpAny_typeOf hTs ?_)
  rw [if_pos (by decide)]
  refine wpAny_bind (sliceApplied_rev hs ?_)
  rw [List.size_toArray]
  show wpAny _ _ (if ((((items.length : Int) - 1) == 0 && (-1 : Int) == 1 && items.length == items.length) = true) then _ else _) _ _ s
  rw [if_neg (by simp), pick_rev]
  first
    | exact wpAny_bind (m := Builtin.Tuple.tupleExact _) (wpAny_newObj_type (wpAny_pure ⟨_, rfl, wpAny_pure h⟩) htake)
    | exact wpAny_bind (m := Builtin.Tuple.tupleExact _) (wpAny_newObj_type (wpAny_bind (wpAny_pure (wpAny_pure ⟨_, rfl, wpAny_pure h⟩))) htake)
def tRevT (K : PySem.W.Frag) (te : TE) : TE := fun σ H Q => te σ H fun x H1 => ∃ a xs, x = V.ref a ∧ SqT K H1 a xs ∧ ∀ p, H1 p = none → Q (.ref p) (upd H1 p (.tup xs.reverse))
theorem pe_revT {e : Expr} {te : TE} {k : Nat} {p1 p2 p3 pos : Pos} (he : PE X e te) : PE X (.Subscript e (.Slice none none (some (.UnaryOp .USub (.Constant (.int 1) k p1) p2)) p3) pos) (tRevT X.K te) := by
  refine ⟨fun pins s σ H Q I h => ?_⟩
  refine Subscript_ (thn (he.run pins s σ H _ I h) fun v s1 ⟨x, H1, I1, r1, q1⟩ => ?_)
  obtain ⟨a, xs, ex, hx, q⟩ := q1
  subst ex
  cases r1
  have hst : PO X (some (.UnaryOp .USub (.Constant (.int 1) k p1) p2)) (tPart (tUn (rU fun i => .int (-i)) (tC (.int 1)))) := po_some (pe_un un_neg pe_int)
  refine wpAny_Slice (thn (po_none.run pins s1 σ H1 (fun o H2 => o = none ∧ H2 = H1) I1 ⟨rfl, rfl⟩) fun vl s2 ⟨l, H2, I2, pl, el, e2⟩ => ?_)
  subst el e2
  refine thn (po_none.run pins s2 σ H2 (fun o H3 => o = none ∧ H3 = H2) I2 ⟨rfl, rfl⟩) fun vu s3 ⟨u, H3, I3, pu, eu, e3⟩ => ?_
  subst eu e3
  refine thn (hst.run pins s3 σ H3 (fun o H4 => o = some (-1) ∧ H4 = H3) I3 ⟨1, rfl, -1, rfl, rfl, rfl⟩) fun vs s4 ⟨o, H4, I4, ps, eo, e4⟩ => ?_
  subst eo e4
  obtain rfl : vl = .none := by cases pl; rfl
  obtain rfl : vu = .none := by cases pu; rfl
  obtain ⟨tk, rfl⟩ : ∃ tk, vs = .int (-1) tk := by cases ps; exact ⟨_, rfl⟩
  have I5 : L2.Inv X pins σ H4 { s4 with heap := s4.heap.push { cls := .type "slice", data := .fields #[.none, .none, .int (-1) tk] } } := I4.kept (t' := s4.toks) fun b ob q => Heap.get?_push_of_some _ q
  obtain ⟨its, r, ht, hz⟩ := I5.tuple hx
  show wpAny (model X.prog X.w) X.A (subscriptTail e (.Slice none none (some (.UnaryOp .USub (.Constant (.int 1) k p1) p2)) p3) (.ref a) (.ref s4.heap.objs.size)) (EP X pins σ Q) X.xe { s4 with heap := s4.heap.push { cls := .type "slice", data := .fields #[.none, .none, .int (-1) tk] } }
  refine tail_any (ops := [.ref a, .ref s4.heap.objs.size]) ht.typeIs (PyProof.Rows.slot_tuple_getitem.lookup) ?_ (by with_unfolding_all rfl)
  have hlen := r.length
  refine getItem_tuple_rev ht (Heap.IsSliceOf.new _ _ _ _) ?_ (by omega)
  refine ⟨.ref _, _, I5.laid (t' := s4.toks) (o := .tup xs.reverse) (fun b ob q => Heap.get?_push_of_some _ q) (Nat.le_refl _) ?_, rfl, q _ (I5.hok.fresh (Nat.le_refl _))⟩
  exact ⟨by rw [List.length_reverse]; exact hz, _, r.reverse, IsTup.new _ _⟩
def dRevT (fa : DE) : DE := fun ρ Q => fa ρ fun z ρ1 => ∃ ds, z = .tuple ds ∧ Q (.tuple ds.reverse) ρ1
theorem je_revT {k : Nat} {p1 p2 p3 : Pos} (ha : JE X a fa) : JE X (.Subscript a (.Slice none none (some (.UnaryOp .USub (.Constant (.int 1) k p1) p2)) p3) pos) (dRevT fa) := by
  obtain ⟨ta, pa, ka⟩ := ha.ex
  refine ⟨_, pe_revT pa, fun T ρ σ H QD Q r h q => ka T ρ σ H _ _ r h fun z ρ1 v H1 r1 p1 v1 h => ?_⟩
  obtain ⟨ds, rfl, h⟩ := h
  cases v1 with
  | tup hp rr => exact ⟨_, _, rfl, sqt_of hp, fun l hl => q _ _ _ _ (r1.grow (Ex.new hl)) (p1.trans (.grow (Ex.new hl))) (rp_newT (fun a => r1.hdDom) hl rr.reverse) h⟩

/-! ### t * n -/
def dRepT : D → D → (D → Prop) → Prop := fun x y Q => ∃ (ds : List D) (n : Int), x = .tuple ds ∧ y = .int n ∧ ds ≠ [] ∧ 2 ≤ n ∧ n ≤ 1000 ∧ ds.length ≤ 1000 ∧ Q (.tuple (List.replicate n.toNat ds).flatten)
theorem RpAll.rep {K : PySem.W.Frag} {G : Hp} {vs : List V} {ds : List D} (r : RpAll K G vs ds) : ∀ n : Nat, RpAll K G (List.replicate n vs).flatten (List.replicate n ds).flatten
  | 0 => .nil
  | n + 1 => by simpa [List.replicate_succ] using r.append (RpAll.rep r n)
theorem opd_repT : OpD X (binaryOp .Mult) dRepT := by
  refine ⟨_, op_repT, fun O H x y d e QD Q hO rx ry h k => ?_⟩
  obtain ⟨ds, n, rfl, rfl, h0, h1, h2, h3, h⟩ := h
  cases ry
  cases rx with
  | tup hp rr =>
    refine ⟨_, _, _, rfl, rfl, sqt_of hp, ?_, h1, h2, by rw [rr.length]; exact h3, fun l hl => k _ _ _ (Ex.new hl) (rp_newT hO hl (rr.rep _)) h⟩
    intro z; subst z; cases rr; exact h0 rfl

/-! ### lcm -/
def rLcm : List V → Hp → VK → Prop := fun vs H Q => ∃ a b : Int, vs = [.int a, .int b] ∧ a.natAbs < 2 ^ 64 ∧ b.natAbs < 2 ^ 64 ∧ Q (.int ((Nat.lcm a.natAbs b.natAbs : Nat) : Int)) H
theorem cr_lcm : CallR X (.builtin "math.lcm") rLcm := by
  intro pins s σ H vs us Q I r h
  obtain ⟨a, b, rfl, h1, h2, q⟩ := h
  obtain ⟨t, u, rfl⟩ := Vals.int2 r
  exact PySem.W.mc_lcm h1 h2 fun _ => ⟨.int _, H, I.tok _, ⟨_, rfl⟩, q⟩
end
end Dn
set_option Elab.async false
set_option linter.all false
set_option maxRecDepth 100000
set_option autoImplicit false
set_option maxHeartbeats 4000000
/-! Loops by what is left, by a fold, by a measure; dicts with int keys; what a def's reading is to do. -/
namespace Dn
open PySem L2 Evl PySem.Spec PyProof.Rows
abbrev VD (g : DS) (S : List D → (D → Prop) → Prop) (np m : Nat) : Prop := ∀ (ds : List D) (Q : D → Prop), ds.length = np → S ds Q → g { nx := fun _ => Q .none, rt := fun d _ => Q d } (envD ds m)
abbrev VM (g : DS) (S : List D → List D → (D → List D → Prop) → Prop) (np m : Nat) : Prop := ∀ (l : Addr) (ms ds : List D) (Q : D → List D → Prop), ds.length + 1 = np → S ms ds Q →
  g { nx := fun ρ => ∃ ms', ρ[0]? = some (some (.ow (.par l (.lst ms')))) ∧ Q .none ms', rt := fun d ρ => ∃ ms', ρ[0]? = some (some (.ow (.par l (.lst ms')))) ∧ Q d ms' } (some (.ow (.par l (.lst ms))) :: envD ds m)
abbrev VL (g : (List D → Prop) → Env → Prop) (S : List D → (List D → Prop) → Prop) (np m : Nat) : Prop := ∀ (ds : List D) (Q : List D → Prop), ds.length = np → S ds Q → g Q (envD ds m)

theorem wpFor_rest {g : DG} {body : DS} {E : DEnds} (I : List D → Env → Prop) {ds : List D} {ρ0 : Env} (h0 : I ds ρ0)
    (hs : ∀ (d : D) (rest : List D) (ρ : Env) (K : Env → Prop), I (d :: rest) ρ → (∀ ρ', I rest ρ' → K ρ') → g d ρ fun ρ1 => body { nx := K, ct := K, bk := E.nx, rt := E.rt } ρ1)
    (he : ∀ ρ, I [] ρ → E.nx ρ) : wpFor g body E ds ρ0 := by
  have aux : ∀ (ds : List D) (ρ : Env), I ds ρ → wpFor g body E ds ρ := by
    intro ds
    induction ds with
    | nil => intro ρ p; exact he ρ p
    | cons d rest ih => intro ρ p; exact hs d rest ρ _ p fun ρ' p' => ih ρ' p'
  exact aux ds ρ0 h0
theorem wpFor_fold {α β : Type} {g : DG} {body : DS} {E : DEnds} (l : List α) (it : α → D) (f : β → α → β) (R : β → Env → Prop) {b0 : β} {ρ0 : Env} (h0 : R b0 ρ0)
    (hs : ∀ x, x ∈ l → ∀ (b : β) (ρ : Env) (K : Env → Prop), R b ρ → (∀ ρ', R (f b x) ρ' → K ρ') → g (it x) ρ fun ρ1 => body { nx := K, ct := K, bk := E.nx, rt := E.rt } ρ1)
    (he : ∀ ρ, R (l.foldl f b0) ρ → E.nx ρ) : wpFor g body E (l.map it) ρ0 := by
  induction l generalizing b0 ρ0 with
  | nil => exact he _ h0
  | cons x l ih => exact hs x (by simp) b0 ρ0 _ h0 fun ρ' p => ih p (fun y hy => hs y (by simp [hy])) (fun ρ h => he ρ h)
theorem wpWh_lt {β : Type} {c : DT} {body : DS} {E : DEnds} (R : β → Env → Prop) (μ : β → Nat)
    (hs : ∀ (b : β) (ρ : Env) (K : Env → Prop), R b ρ → (∀ b' ρ', μ b' < μ b → R b' ρ' → K ρ') → c ρ fun t ρ1 => if t = true then body { nx := K, ct := K, bk := E.nx, rt := E.rt } ρ1 else E.nx ρ1)
    {b : β} {ρ : Env} (h : R b ρ) : ∃ n, wpWh c body E n ρ := by
  have aux : ∀ (n : Nat) (b : β) (ρ : Env), μ b < n → R b ρ → wpWh c body E n ρ := by
    intro n
    induction n with
    | zero => intro b ρ h; omega
    | succ n ih => intro b ρ h r; exact hs b ρ _ r fun b' ρ' lt r' => ih b' ρ' (by omega) r'
  exact ⟨μ b + 1, aux _ b ρ (by omega) h⟩
theorem wpFor_ap {α : Type} {g : DG} {body : DS} {E : DEnds} (l : List α) (it h : α → D) (R : List D → Env → Prop) {ρ0 : Env} (h0 : R [] ρ0)
    (hs : ∀ x, x ∈ l → ∀ (acc : List D) (ρ : Env) (K : Env → Prop), R acc ρ → acc.length < l.length → (∀ ρ', R (acc ++ [h x]) ρ' → K ρ') → g (it x) ρ fun ρ1 => body { nx := K, ct := K, bk := E.nx, rt := E.rt } ρ1)
    (he : ∀ ρ, R (l.map h) ρ → E.nx ρ) : wpFor g body E (l.map it) ρ0 := by
  refine wpFor_cps (fun done ρ => R ((l.take done.length).map h) ρ) (by simpa using h0) (fun done d rest ρ K e p k => ?_) (fun ρ p => he ρ (by simpa using p))
  obtain ⟨l1, x, l2, rfl, rfl, rfl, rfl⟩ := map_split e
  refine hs x (by simp) _ ρ K p (by simp) fun ρ' q => k ρ' ?_
  simp only [List.length_append, List.length_map, List.length_cons, List.length_nil] at q ⊢
  rw [show l1.length + (0 + 1) = (l1 ++ [x]).length by simp, show l1 ++ x :: l2 = (l1 ++ [x]) ++ l2 by simp, List.take_left']
  · simp at q ⊢; exact q
  · rfl
theorem wpLc_all {g : DG} {tt : DT} {te : DE} {vs : List Nat} {Q : List D → Env → Prop} {ds : List D} {ρ0 : Env} (Good : D → Prop) (I : Env → Prop) (h0 : I ρ0) (hl : ds.length < 16777216)
    (hs : ∀ d, d ∈ ds → ∀ (ρ : Env) (K : D → Env → Prop), I ρ → (∀ y ρ3, Good y → I (wipeD ρ3 vs) → K y ρ3) → g d (wipeD ρ vs) fun ρ1 => te ρ1 fun y ρ3 => K y ρ3)
    (hf : ∀ ρ1, tt ρ1 = fun K => K true ρ1) (he : ∀ acc ρ, acc.length = ds.length → (∀ y, y ∈ acc → Good y) → I ρ → Q acc ρ) : wpLc g tt te vs Q ds [] ρ0 := by
  refine wpLc_cps (fun done acc ρ => acc.length = done.length ∧ (∀ y, y ∈ acc → Good y) ∧ I ρ) ⟨rfl, by simp, h0⟩ (fun done d rest acc ρ K e p k => ?_) (fun acc ρ p => he acc ρ p.1 p.2.1 p.2.2)
  have el := congrArg List.length e
  simp at el
  refine ⟨by omega, ?_⟩
  simp only [hf, if_true]
  refine hs d (by rw [e]; simp) ρ _ p.2.2 fun y ρ3 gy i => k _ _ ⟨by simp [p.1], fun z hz => ?_, i⟩
  rcases List.mem_append.mp hz with hz | hz
  · exact p.2.1 z hz
  · rw [List.mem_singleton.mp hz]; exact gy
theorem wpFor_inv {g : DG} {body : DS} {E : DEnds} {ds : List D} {ρ0 : Env} (I : Env → Prop) (h0 : I ρ0)
    (hs : ∀ d, d ∈ ds → ∀ (ρ : Env) (K : Env → Prop), I ρ → (∀ ρ', I ρ' → K ρ') → g d ρ fun ρ1 => body { nx := K, ct := K, bk := E.nx, rt := E.rt } ρ1)
    (he : ∀ ρ, I ρ → E.nx ρ) : wpFor g body E ds ρ0 :=
  wpFor_cps (fun _ ρ => I ρ) h0 (fun done d rest ρ K e p k => hs d (by rw [e]; simp) ρ K p k) he
theorem all_map {α : Type} {f : α → D} {R : α → Prop} : ∀ {acc : List D}, (∀ y, y ∈ acc → ∃ r, y = f r ∧ R r) → ∃ C : List α, acc = C.map f ∧ ∀ r, r ∈ C → R r
  | [], _ => ⟨[], rfl, by simp⟩
  | y :: acc, h => by
    obtain ⟨r, rfl, hr⟩ := h y (by simp)
    obtain ⟨C, rfl, hC⟩ := all_map (acc := acc) fun y hy => h y (by simp [hy])
    exact ⟨r :: C, rfl, fun z hz => by rcases List.mem_cons.mp hz with rfl | hz; exact hr; exact hC z hz⟩
theorem mem_rgD {i j : Int} {d : D} (h : d ∈ rgD i j) : ∃ k : Int, d = .int k ∧ i ≤ k ∧ k < j := by
  unfold rgD at h
  obtain ⟨k, hk, rfl⟩ := List.mem_map.mp h
  have := List.mem_range.mp hk
  exact ⟨_, rfl, by omega, by omega⟩
theorem rgD_len {i j : Int} : (rgD i j).length = (j - i).toNat := by unfold rgD; simp
theorem cm_l {i j : Int} (h : -(2 ^ 64) < i ∧ i < 2 ^ 64) : CMul i j ∨ CMulW i j := .inl (.inl h)
theorem cm_r {i j : Int} (h : -(2 ^ 64) < j ∧ j < 2 ^ 64) : CMul i j ∨ CMulW i j := .inl (.inr h)
theorem cd_t {i t : Int} (h0 : 0 < t) (h1 : t ≤ 1000000000000000000000000000000000000000000000000000000000000) : CDivW i t := wide_div (b := 200) h0 (Nat.lt_of_le_of_lt (show t.natAbs ≤ 1000000000000000000000000000000000000000000000000000000000000 by omega) (by decide +kernel)) (by decide) (by decide)
theorem cm_n {i j : Int} (h0 : 0 ≤ i) (h : i ≤ 1000) : CMul i j ∨ CMulW i j := cm_l ⟨by omega, by omega⟩
theorem rgd {n : Nat} (h : n ≤ 1000) : RgD 0 (n : Int) := ⟨by omega, by omega, by omega, by omega⟩
theorem dLen_seq {d : D} {xs : List D} {Q : D → Prop} (h : seqD d = some xs) : dLen [d] Q = Q (.int xs.length) := by unfold dLen; dsimp only; rw [h]
theorem erase_permD {L : List D} {r : Nat} (h : r < L.length) : (L[r] :: L.eraseIdx r).Perm L := by
  rw [List.eraseIdx_eq_take_drop_succ]
  refine List.perm_middle.symm.trans ?_
  rw [← List.drop_eq_getElem_cons h, List.take_append_drop]
/-! ### tables by keys -/
theorem valD_none_any {kvs : List (Key × D)} {k : Key} : valD kvs k = none ↔ (kvs.any fun kv => decide (kv.1 = k)) = false := by
  unfold valD
  rw [Option.map_eq_none_iff, List.find?_eq_none]
  simp
theorem putD_new {kvs : List (Key × D)} {k : Key} (d : D) (h : valD kvs k = none) : putD kvs k d = kvs ++ [(k, d)] := by
  unfold putD
  rw [valD_none_any.1 h]
  simp
theorem putD_len {kvs : List (Key × D)} {k : Key} {d : D} : (putD kvs k d).length ≤ kvs.length + 1 := by
  unfold putD
  split <;> simp
theorem valD_some {kvs : List (Key × D)} {k : Key} : (valD kvs k).isSome = (kvs.any fun kv => decide (kv.1 = k)) := by
  cases h : valD kvs k with
  | none => rw [valD_none_any.1 h]; rfl
  | some d =>
    cases h2 : (kvs.any fun kv => decide (kv.1 = k)) with
    | false => rw [valD_none_any.2 h2] at h; cases h
    | true => rfl
/-- the keys of a table behind a put -/
theorem putD_has {kvs : List (Key × D)} {k j : Key} {d : D} : (valD (putD kvs k d) j).isSome = true ↔ j = k ∨ (valD kvs j).isSome = true := by
  rw [valD_some, valD_some]
  unfold putD
  by_cases h : (kvs.any fun kv => decide (kv.1 = k)) = true
  · rw [if_pos h]
    simp only [List.any_map, Function.comp_def, List.any_eq_true, decide_eq_true_eq] at h ⊢
    obtain ⟨e, he, hk⟩ := h
    constructor
    · rintro ⟨x, hx, hj⟩
      by_cases z : x.1 = k
      · rw [if_pos z] at hj; exact .inl (by rw [← hj, ← z])
      · rw [if_neg z] at hj; exact .inr ⟨x, hx, hj⟩
    · rintro (rfl | ⟨x, hx, hj⟩)
      · exact ⟨e, he, by rw [if_pos hk]; exact hk⟩
      · refine ⟨x, hx, ?_⟩
        split <;> exact hj
  · rw [if_neg h]
    simp only [List.any_append, List.any_cons, List.any_nil, Bool.or_false, Bool.or_eq_true, decide_eq_true_eq]
    constructor
    · rintro (h | h)
      · exact .inr h
      · exact .inl h.symm
    · rintro (h | h)
      · exact .inr h.symm
      · exact .inl h
end Dn
set_option Elab.async false
set_option linter.all false
set_option maxRecDepth 100000
set_option autoImplicit false
set_option maxHeartbeats 4000000
/-! Ways between things: what a search along makers finds. -/
namespace Dn
open PySem L2 Evl PySem.Spec PyProof.Rows
def im (m : List Int) (x : Int) : Int := m.getD x.toNat 0
abbrev Wy := List (Int × List Int)
def lk (w : Wy) (x : Int) : Option (List Int) := (w.find? fun e => decide (e.1 = x)).map (·.2)
def wk (f : List Int → D) (w : Wy) : List (Key × D) := w.map fun e => (Sum.inl e.1, f e.2)
theorem valD_wk (f : List Int → D) (w : Wy) (x : Int) : valD (wk f w) (.inl x) = (lk w x).map f := by
  unfold valD lk wk
  induction w with
  | nil => rfl
  | cons e w ih =>
    rw [List.map_cons, List.find?_cons, List.find?_cons]
    by_cases h : e.1 = x
    · simp [h]
    · simp only [h, decide_false, Sum.inl.injEq]
      exact ih
theorem putD_wk (f : List Int → D) (w : Wy) (x : Int) (p : List Int) (h : lk w x = none) : putD (wk f w) (.inl x) (f p) = wk f (w ++ [(x, p)]) := by
  rw [putD_new _ (by rw [valD_wk, h]; rfl)]
  unfold wk
  simp
theorem lk_mem {w : Wy} {x : Int} {p : List Int} (h : lk w x = some p) : (x, p) ∈ w := by
  unfold lk at h
  obtain ⟨e, h1, h2⟩ := Option.map_eq_some_iff.mp h
  have := List.find?_some h1
  have hm := List.mem_of_find?_eq_some h1
  simp at this
  obtain ⟨a, b⟩ := e
  simp at this h2
  subst this h2
  exact hm
theorem lk_none {w : Wy} {x : Int} : lk w x = none ↔ ∀ e, e ∈ w → e.1 ≠ x := by
  unfold lk
  rw [Option.map_eq_none_iff, List.find?_eq_none]
  simp
theorem lk_some {w : Wy} {x : Int} : (lk w x).isSome = true ↔ ∃ e, e ∈ w ∧ e.1 = x := by
  cases h : lk w x with
  | none =>
    have := lk_none.1 h
    simp
    intro a b
    exact this (x, a) b rfl
  | some p => simp; exact ⟨p, lk_mem h⟩
theorem lk_at {w : Wy} (nd : (w.map (·.1)).Nodup) {j : Nat} {e : Int × List Int} (h : w[j]? = some e) : lk w e.1 = some e.2 := by
  induction w generalizing j with
  | nil => simp at h
  | cons a w ih =>
    rw [List.map_cons, List.nodup_cons] at nd
    unfold lk
    rw [List.find?_cons]
    cases j with
    | zero => simp at h; subst h; simp
    | succ j =>
      simp at h
      have hm : e ∈ w := List.mem_of_getElem? h
      have ne : ¬ a.1 = e.1 := fun z => nd.1 (by rw [z]; exact List.mem_map.mpr ⟨e, hm, rfl⟩)
      simp only [ne, decide_false]
      exact ih nd.2 h
def st1 (mk : List (List Int)) (x : Int) (p : List Int) (w : Wy) (i : Int) : Wy :=
  if (lk w (im (mk.getD i.toNat []) x)).isSome = true then w else w ++ [(im (mk.getD i.toNat []) x, p ++ [i])]
def proc (mk : List (List Int)) (x : Int) (p : List Int) (w : Wy) : Wy := (rgI mk.length).foldl (st1 mk x p) w
def run (mk : List (List Int)) : Nat → Wy → Nat → Wy
  | 0, w, _ => w
  | k + 1, w, r => match w[r]? with
    | some e => run mk k (proc mk e.1 e.2 w) (r + 1)
    | none => w
def waysOf (mk : List (List Int)) (n : Nat) (s : Int) : Wy := run mk n [(s, [])] 0
def walk (mk : List (List Int)) (s : Int) (p : List Int) : Int := p.foldl (fun h i => im (mk.getD i.toNat []) h) s
theorem walk_snoc (mk : List (List Int)) (s : Int) (p : List Int) (i : Int) : walk mk s (p ++ [i]) = im (mk.getD i.toNat []) (walk mk s p) := by unfold walk; simp
/-- makers: moves of n things -/
structure Mk (n : Nat) (mk : List (List Int)) : Prop where
  few : mk.length ≤ 24
  most : n ≤ 24
  move : ∀ m, m ∈ mk → List.Perm m (rgI n)
theorem Mk.len {n : Nat} {mk : List (List Int)} (h : Mk n mk) {m : List Int} (hm : m ∈ mk) : m.length = n := by rw [(h.move m hm).length_eq, rgI_len]
theorem im_in {n : Nat} {m : List Int} (h : List.Perm m (rgI n)) {x : Int} (x0 : 0 ≤ x) (x1 : x < n) : 0 ≤ im m x ∧ im m x < n := by
  have hl : m.length = n := by rw [h.length_eq, rgI_len]
  have : im m x ∈ m := getD_mem (by omega)
  exact mem_rgI.mp (h.mem_iff.1 this)
theorem Mk.at {n : Nat} {mk : List (List Int)} (h : Mk n mk) {i : Int} (hi : i ∈ rgI mk.length) : mk.getD i.toNat [] ∈ mk := getD_mem (by have := mem_rgI.mp hi; omega)
structure Wg (n : Nat) (mk : List (List Int)) (s : Int) (w : Wy) : Prop where
  nd : (w.map (·.1)).Nodup
  rng : ∀ e, e ∈ w → 0 ≤ e.1 ∧ e.1 < n
  path : ∀ (j : Nat) (e : Int × List Int), w[j]? = some e → e.2.length ≤ j ∧ (∀ i, i ∈ e.2 → i ∈ rgI mk.length) ∧ walk mk s e.2 = e.1
  head : w[0]? = some (s, [])
theorem nodup_le : ∀ {l ns : List Int}, l.Nodup → (∀ k, k ∈ l → k ∈ ns) → l.length ≤ ns.length
  | [], _, _, _ => by simp
  | x :: l, ns, hd, h => by
    have hd2 := List.nodup_cons.mp hd
    have hx : x ∈ ns := h x (by simp)
    have p := erase_perm hx
    have : l.length ≤ (ns.erase x).length := nodup_le hd2.2 fun k hk => by
      have ne : k ≠ x := fun z => hd2.1 (by rw [← z]; exact hk)
      rcases List.mem_cons.mp (p.mem_iff.2 (h k (by simp [hk]))) with z | z
      · exact absurd z ne
      · exact z
    have e := p.length_eq
    simp only [List.length_cons] at e ⊢
    omega
theorem Wg.len {n : Nat} {mk : List (List Int)} {s : Int} {w : Wy} (h : Wg n mk s w) : w.length ≤ n := by
  have := nodup_le h.nd (ns := rgI n) fun k hk => by
    obtain ⟨e, he, rfl⟩ := List.mem_map.mp hk
    exact mem_rgI.mpr (h.rng e he)
  rw [rgI_len, List.length_map] at this
  exact this
theorem Wg.one {n : Nat} {mk : List (List Int)} {s : Int} (s0 : 0 ≤ s) (s1 : s < n) : Wg n mk s [(s, [])] :=
  ⟨by simp, by simp; omega, fun j e h => by
    cases j with
    | zero => simp at h; subst h; simp [walk]
    | succ j => simp at h, rfl⟩
theorem Wg.st1 {n : Nat} {mk : List (List Int)} {s : Int} {w : Wy} (h : Wg n mk s w) (hk : Mk n mk) {r : Nat} {e : Int × List Int} (hr : w[r]? = some e) {i : Int} (hi : i ∈ rgI mk.length) : Wg n mk s (st1 mk e.1 e.2 w i) := by
  unfold Dn.st1
  split
  · exact h
  · rename_i hn
    have ie := h.rng e (List.mem_of_getElem? hr)
    have ii := im_in (hk.move _ (hk.at hi)) ie.1 ie.2
    have hp := h.path r e hr
    have rl := (List.getElem?_eq_some_iff.mp hr).1
    have hn2 : ∀ a, a ∈ w → a.1 ≠ im (mk.getD i.toNat []) e.1 := fun a ha z => hn (lk_some.2 ⟨a, ha, z⟩)
    refine ⟨?_, fun a ha => ?_, fun j a ha => ?_, ?_⟩
    · rw [List.map_append, List.nodup_append]
      refine ⟨h.nd, by simp, fun a ha b hb => ?_⟩
      obtain ⟨a', ha', rfl⟩ := List.mem_map.mp ha
      simp at hb
      rw [hb]
      exact hn2 a' ha'
    · rcases List.mem_append.mp ha with ha | ha
      · exact h.rng a ha
      · rw [List.mem_singleton.mp ha]; exact ii
    · rw [List.getElem?_append] at ha
      split at ha
      · exact h.path j a ha
      · have : j - w.length = 0 := by
          have := (List.getElem?_eq_some_iff.mp ha).1
          simp at this; omega
        rw [this] at ha
        rw [List.getElem?_cons_zero, Option.some.injEq] at ha
        subst ha
        refine ⟨by simp; omega, fun k hk => ?_, by rw [walk_snoc, hp.2.2]⟩
        rcases List.mem_append.mp hk with hk | hk
        · exact hp.2.1 k hk
        · rw [List.mem_singleton.mp hk]; exact hi
    · rw [List.getElem?_append_left (by omega)]; exact h.head
theorem st1_pre (mk : List (List Int)) (x : Int) (p : List Int) (w : Wy) (i : Int) : w <+: st1 mk x p w i := by
  unfold st1
  split
  · exact List.prefix_refl w
  · exact List.prefix_append _ _
theorem pre_at {w w' : Wy} (h : w <+: w') {r : Nat} {e : Int × List Int} (hr : w[r]? = some e) : w'[r]? = some e := by
  obtain ⟨t, rfl⟩ := h
  rw [List.getElem?_append_left (List.getElem?_eq_some_iff.mp hr).1]; exact hr
theorem st1_has (mk : List (List Int)) (x : Int) (p : List Int) (w : Wy) (i : Int) : (lk (st1 mk x p w i) (im (mk.getD i.toNat []) x)).isSome = true := by
  unfold st1
  split
  · assumption
  · exact lk_some.2 ⟨_, List.mem_append_right _ (List.mem_singleton.mpr rfl), rfl⟩
theorem lk_pre {w w' : Wy} (h : w <+: w') {x : Int} (hx : (lk w x).isSome = true) : (lk w' x).isSome = true := by
  obtain ⟨e, he, z⟩ := lk_some.1 hx
  exact lk_some.2 ⟨e, h.subset he, z⟩
theorem fold_st1 {n : Nat} {mk : List (List Int)} {s : Int} (hk : Mk n mk) {r : Nat} {e : Int × List Int} : ∀ (l : List Int) (w : Wy), Wg n mk s w → w[r]? = some e → (∀ i, i ∈ l → i ∈ rgI mk.length) →
    Wg n mk s (l.foldl (st1 mk e.1 e.2) w) ∧ w <+: l.foldl (st1 mk e.1 e.2) w ∧ ∀ i, i ∈ l → (lk (l.foldl (st1 mk e.1 e.2) w) (im (mk.getD i.toNat []) e.1)).isSome = true
  | [], w, h, _, _ => ⟨h, List.prefix_refl w, by simp⟩
  | i :: l, w, h, hr, hl => by
    have h1 := h.st1 hk hr (hl i (by simp))
    have p1 := st1_pre mk e.1 e.2 w i
    obtain ⟨a, b, c⟩ := fold_st1 hk l (st1 mk e.1 e.2 w i) h1 (pre_at p1 hr) fun j hj => hl j (by simp [hj])
    refine ⟨a, p1.trans b, fun j hj => ?_⟩
    rcases List.mem_cons.mp hj with rfl | hj
    · exact lk_pre b (st1_has mk e.1 e.2 w j)
    · exact c j hj
theorem proc_ok {n : Nat} {mk : List (List Int)} {s : Int} (hk : Mk n mk) {w : Wy} (h : Wg n mk s w) {r : Nat} {e : Int × List Int} (hr : w[r]? = some e) :
    Wg n mk s (proc mk e.1 e.2 w) ∧ w <+: proc mk e.1 e.2 w ∧ ∀ i, i ∈ rgI mk.length → (lk (proc mk e.1 e.2 w) (im (mk.getD i.toNat []) e.1)).isSome = true :=
  fold_st1 hk (rgI mk.length) w h hr fun _ h => h
def Cl (mk : List (List Int)) (w : Wy) (x : Int) : Prop := ∀ i, i ∈ rgI mk.length → (lk w (im (mk.getD i.toNat []) x)).isSome = true
theorem run_ok {n : Nat} {mk : List (List Int)} {s : Int} (hk : Mk n mk) : ∀ (k : Nat) (w : Wy) (r : Nat), Wg n mk s w → n ≤ r + k → (∀ (j : Nat) (e : Int × List Int), j < r → w[j]? = some e → Cl mk w e.1) →
    Wg n mk s (run mk k w r) ∧ w <+: run mk k w r ∧ ∀ (j : Nat) (e : Int × List Int), (run mk k w r)[j]? = some e → Cl mk (run mk k w r) e.1
  | 0, w, r, h, hr, hc => ⟨h, List.prefix_refl w, fun j e he => hc j e (by have := (List.getElem?_eq_some_iff.mp he).1; have := h.len; simp only [run] at *; omega) he⟩
  | k + 1, w, r, h, hr, hc => by
    unfold run
    split
    · rename_i e he
      obtain ⟨a, b, c⟩ := proc_ok hk h he
      obtain ⟨a2, b2, c2⟩ := run_ok hk k (proc mk e.1 e.2 w) (r + 1) a (by omega) fun j e' hj he' => by
        by_cases z : j = r
        · subst z
          rw [pre_at b he] at he'; cases he'
          exact c
        · have hj2 : j < w.length := by have := (List.getElem?_eq_some_iff.mp he).1; omega
          have e2 : w[j]? = some w[j] := List.getElem?_eq_getElem hj2
          rw [pre_at b e2] at he'; cases he'
          exact fun i hi => lk_pre b (hc j _ (by omega) e2 i hi)
      exact ⟨a2, b.trans b2, c2⟩
    · rename_i he
      exact ⟨h, List.prefix_refl w, fun j e hj => hc j e (by have := (List.getElem?_eq_some_iff.mp hj).1; have := List.getElem?_eq_none_iff.mp he; omega) hj⟩
def ky (mk : List (List Int)) (n : Nat) (s : Int) (x : Int) : Prop := (lk (waysOf mk n s) x).isSome = true
section
variable {n : Nat} {mk : List (List Int)} {s : Int}
theorem ways_ok (hk : Mk n mk) (s0 : 0 ≤ s) (s1 : s < n) : Wg n mk s (waysOf mk n s) ∧ ∀ (j : Nat) (e : Int × List Int), (waysOf mk n s)[j]? = some e → Cl mk (waysOf mk n s) e.1 := by
  obtain ⟨a, _, c⟩ := run_ok hk n [(s, [])] 0 (Wg.one s0 s1) (by omega) fun j e hj => by omega
  exact ⟨a, c⟩
theorem ky_self (hk : Mk n mk) (s0 : 0 ≤ s) (s1 : s < n) : ky mk n s s := lk_some.2 ⟨_, List.mem_of_getElem? (ways_ok hk s0 s1).1.head, rfl⟩
theorem ky_step (hk : Mk n mk) (s0 : 0 ≤ s) (s1 : s < n) {x : Int} (h : ky mk n s x) {m : List Int} (hm : m ∈ mk) : ky mk n s (im m x) := by
  obtain ⟨e, he, rfl⟩ := lk_some.1 h
  obtain ⟨j, hj, ej⟩ := List.mem_iff_getElem.mp he
  obtain ⟨i, hi, ei⟩ := List.mem_iff_getElem.mp hm
  have := (ways_ok hk s0 s1).2 j e (by rw [List.getElem?_eq_getElem hj, ej]) (i : Int) (mem_rgI.mpr ⟨by omega, by omega⟩)
  simp only [Int.toNat_natCast, List.getD, List.getElem?_eq_getElem hi, ei, Option.getD_some] at this
  exact this
theorem ky_rng (hk : Mk n mk) (s0 : 0 ≤ s) (s1 : s < n) {x : Int} (h : ky mk n s x) : 0 ≤ x ∧ x < n := by
  obtain ⟨e, he, rfl⟩ := lk_some.1 h
  exact (ways_ok hk s0 s1).1.rng e he
theorem walk_in (hk : Mk n mk) (S : Int → Prop) (hc : ∀ x m, S x → m ∈ mk → S (im m x)) : ∀ (p : List Int) (a : Int), S a → (∀ i, i ∈ p → i ∈ rgI mk.length) → S (walk mk a p)
  | [], a, h, _ => h
  | i :: p, a, h, hp => walk_in hk S hc p _ (hc a _ h (hk.at (hp i (by simp)))) fun j hj => hp j (by simp [hj])
theorem ky_least (hk : Mk n mk) (s0 : 0 ≤ s) (s1 : s < n) (S : Int → Prop) (hs : S s) (hc : ∀ x m, S x → m ∈ mk → S (im m x)) {x : Int} (h : ky mk n s x) : S x := by
  obtain ⟨e, he, rfl⟩ := lk_some.1 h
  obtain ⟨j, hj, ej⟩ := List.mem_iff_getElem.mp he
  have := (ways_ok hk s0 s1).1.path j e (by rw [List.getElem?_eq_getElem hj, ej])
  rw [← this.2.2]
  exact walk_in hk S hc _ _ hs this.2.1
theorem ky_trans (hk : Mk n mk) (s0 : 0 ≤ s) (s1 : s < n) {x y : Int} (h : ky mk n s x) (h2 : ky mk n x y) : ky mk n s y := by
  have r := ky_rng hk s0 s1 h
  exact ky_least hk r.1 r.2 (ky mk n s) h (fun a m ha hm => ky_step hk s0 s1 ha hm) h2
theorem im_inj {m : List Int} (h : List.Perm m (rgI n)) {x y : Int} (x0 : 0 ≤ x) (x1 : x < n) (y0 : 0 ≤ y) (y1 : y < n) (e : im m x = im m y) : x = y := by
  have hl : m.length = n := by rw [h.length_eq, rgI_len]
  have nd : m.Nodup := h.nodup_iff.2 (by
    unfold rgI
    refine List.Pairwise.map _ (fun a b ne => ?_) List.nodup_range
    omega)
  unfold im at e
  rw [List.getD, List.getD, List.getElem?_eq_getElem (by omega), List.getElem?_eq_getElem (by omega)] at e
  simp at e
  have := (List.getElem_inj nd).mp e
  omega
theorem nodup_onto {l l' : List Int} (nd : l'.Nodup) (hs : ∀ k, k ∈ l' → k ∈ l) (hl : l.length ≤ l'.length) {x : Int} (hx : x ∈ l) : x ∈ l' := by
  by_cases h : x ∈ l'
  · exact h
  · have p := erase_perm hx
    have : l'.length ≤ (l.erase x).length := nodup_le nd fun k hk => by
      have ne : k ≠ x := fun z => h (by rw [← z]; exact hk)
      rcases List.mem_cons.mp (p.mem_iff.2 (hs k hk)) with z | z
      · exact absurd z ne
      · exact z
    have e := p.length_eq
    simp only [List.length_cons] at e
    omega
/-- what is led into the lot comes of the lot -/
theorem ky_back (hk : Mk n mk) (s0 : 0 ≤ s) (s1 : s < n) {x : Int} {m : List Int} (hm : m ∈ mk) (x0 : 0 ≤ x) (x1 : x < n) (h : ky mk n s (im m x)) : ky mk n s x := by
  have W := (ways_ok hk s0 s1).1
  have onto := nodup_onto (l := (waysOf mk n s).map (·.1)) (l' := (waysOf mk n s).map fun e => im m e.1) (by
      have := W.nd
      rw [List.Nodup, List.pairwise_map] at this ⊢
      refine this.imp_of_mem fun {a b} ha hb ne z => ne ?_
      have ra := W.rng a ha
      have rb := W.rng b hb
      exact im_inj (hk.move m hm) ra.1 ra.2 rb.1 rb.2 z) (fun k hk2 => by
      obtain ⟨e, he, rfl⟩ := List.mem_map.mp hk2
      obtain ⟨e2, he2, z⟩ := lk_some.1 (ky_step hk s0 s1 (lk_some.2 ⟨e, he, rfl⟩) hm)
      exact List.mem_map.mpr ⟨e2, he2, z⟩) (by simp) (x := im m x) (by
      obtain ⟨e, he, z⟩ := lk_some.1 h
      exact List.mem_map.mpr ⟨e, he, z⟩)
  obtain ⟨e, he, z⟩ := List.mem_map.mp onto
  have re := W.rng e he
  have := im_inj (hk.move m hm) re.1 re.2 x0 x1 z
  exact lk_some.2 ⟨e, he, this⟩
theorem ky_symm (hk : Mk n mk) (s0 : 0 ≤ s) (s1 : s < n) {x : Int} (h : ky mk n s x) : ky mk n x s := by
  have r := ky_rng hk s0 s1 h
  by_cases z : ky mk n x s
  · exact z
  · have : ¬ ky mk n x x := (ky_least hk s0 s1 (fun y => (0 ≤ y ∧ y < n) ∧ ¬ ky mk n x y) ⟨⟨s0, s1⟩, z⟩ (fun a m ha hm => ⟨im_in (hk.move m hm) ha.1.1 ha.1.2, fun w => ha.2 (ky_back hk r.1 r.2 hm ha.1.1 ha.1.2 w)⟩) h).2
    exact absurd (ky_self hk r.1 r.2) this
end
end Dn
set_option Elab.async false
set_option linter.all false
set_option maxRecDepth 100000
set_option autoImplicit false
set_option maxHeartbeats 4000000
/-! What the shared defs are to do. -/
namespace Dn
open PySem L2 Evl PySem.Spec PyProof.Rows
abbrev T60 : Int := 1000000000000000000000000000000000000000000000000000000000000
def isI : D → Bool
  | .int i => decide (-1000000000000000000000000000000000000000000000000000000000000 < i) && decide (i < 1000000000000000000000000000000000000000000000000000000000000)
  | _ => false
def isTh (n : Int) : D → Bool
  | .int i => (decide (-1000000000000000000000000000000000000000000000000000000000000 < i) && decide (i < 1000000000000000000000000000000000000000000000000000000000000)) && (decide (0 ≤ i) && decide (i < n))
  | _ => false
def isRow (m n : Int) : D → Bool
  | .tuple xs => decide ((xs.length : Int) = m) && xs.all (isTh n)
  | _ => false
def okW (d : D) : Prop := ∀ xs, d = .tuple xs → xs.length ≤ 100000
def intD : D → Int
  | .int i => i
  | _ => 0
def isMove : D → Bool
  | .tuple xs => decide (xs.length ≤ 24) && (xs.all (isTh xs.length) && decide ((xs.map intD).Nodup))
  | _ => false
def isMoveOf (n : Int) (d : D) : Bool := isMove d && (match d with
  | .tuple xs => decide ((xs.length : Int) = n)
  | _ => false)
theorem isTh_in {n x : Int} (h0 : 0 ≤ x) (h1 : x < n) (hn : n ≤ 24) : isTh n (.int x) = true := by
  simp only [isTh, Bool.and_eq_true, decide_eq_true_eq]
  omega
theorem isTh_int {n : Int} {d : D} (h : isTh n d = true) : ∃ i, d = .int i ∧ 0 ≤ i ∧ i < n := by
  cases d with
  | int i => simp only [isTh, Bool.and_eq_true, decide_eq_true_eq] at h; exact ⟨i, rfl, h.2.1, h.2.2⟩
  | _ => simp [isTh] at h
theorem all_ints {n : Int} : ∀ {xs : List D}, xs.all (isTh n) = true → xs = (xs.map intD).map PyData.int
  | [], _ => rfl
  | x :: xs, h => by
    rw [List.all_cons, Bool.and_eq_true] at h
    obtain ⟨i, rfl, _⟩ := isTh_int h.1
    rw [List.map_cons, List.map_cons, ← all_ints h.2]
    rfl
theorem intD_map (ns : List Int) : (ns.map PyData.int).map intD = ns := by
  induction ns with
  | nil => rfl
  | cons x ns ih => simp [intD] at ih ⊢; exact ih
theorem nodup_rgI (n : Nat) : (rgI n).Nodup := by
  unfold rgI
  refine List.Pairwise.map _ (fun a b ne => ?_) List.nodup_range
  omega
theorem move_perm {n : Nat} {m : List Int} (h : List.Perm m (rgI n)) (hn : n ≤ 24) : isMove (tI m) = true ∧ isMoveOf n (tI m) = true := by
  have hl : m.length = n := by rw [h.length_eq, rgI_len]
  have h1 : isMove (tI m) = true := by
    unfold isMove tI
    simp only [Bool.and_eq_true, decide_eq_true_eq, List.length_map, hl, List.all_map, List.all_eq_true, intD_map]
    refine ⟨hn, fun x hx => ?_, h.nodup_iff.2 (nodup_rgI n)⟩
    have := mem_rgI.mp (h.mem_iff.1 hx)
    exact isTh_in this.1 this.2 (by omega)
  refine ⟨h1, ?_⟩
  unfold isMoveOf
  rw [h1]
  simp [tI, hl]
def optT : Option (List Int) → D
  | none => .none
  | some p => tI p
/-- lots of things that lead to one another -/
structure Lots (n : Nat) (mk : List (List Int)) (lots : List (List Int)) : Prop where
  few : lots.length ≤ n
  each : ∀ l, l ∈ lots → l.length ≤ n ∧ ∃ a : Int, 0 ≤ a ∧ a < n ∧ ∀ x, x ∈ l ↔ ky mk n a x
  all : ∀ x : Int, 0 ≤ x → x < n → ∃ l, l ∈ lots ∧ x ∈ l
def isWay (mk : List (List Int)) (n : Nat) (s g : Int) (d : D) : Bool := match lk (waysOf mk n s) g with
  | none => false
  | some p => isRow p.length mk.length d && (match d with
    | .tuple xs => decide (walk mk s (xs.map intD) = g)
    | _ => false)
def S_is_integer (ds : List D) (Q : D → Prop) : Prop := ∃ d, ds = [d] ∧ Q (.bool (isI d))
def S_is_within (ds : List D) (Q : D → Prop) : Prop := ∃ i a b, ds = [.int i, .int a, .int b] ∧ Q (.bool (isI (.int i) && (decide (a ≤ i) && decide (i ≤ b))))
def S_is_thing (ds : List D) (Q : D → Prop) : Prop := ∃ d n, ds = [d, .int n] ∧ Q (.bool (isTh n d))
def S_is_row (ds : List D) (Q : D → Prop) : Prop := ∃ d m n, ds = [d, .int m, .int n] ∧ okW d ∧ n ≤ 100000 ∧ Q (.bool (isRow m n d))
def S_check_integer (ds : List D) (Q : D → Prop) : Prop := ∃ d, ds = [d] ∧ isI d = true ∧ Q .none
def S_check_within (ds : List D) (Q : D → Prop) : Prop := ∃ i a b, ds = [.int i, .int a, .int b] ∧ isI (.int i) = true ∧ a ≤ i ∧ i ≤ b ∧ Q .none
def S_check_thing (ds : List D) (Q : D → Prop) : Prop := ∃ d n, ds = [d, .int n] ∧ isTh n d = true ∧ Q .none
def S_is_move (ds : List D) (Q : D → Prop) : Prop := ∃ d, ds = [d] ∧ Q (.bool (isMove d))
def S_is_move_of (ds : List D) (Q : D → Prop) : Prop := ∃ d n, ds = [d, .int n] ∧ Q (.bool (isMoveOf n d))
def S_check_move (ds : List D) (Q : D → Prop) : Prop := ∃ d, ds = [d] ∧ isMove d = true ∧ Q .none
def S_check_move_of (ds : List D) (Q : D → Prop) : Prop := ∃ d n, ds = [d, .int n] ∧ isMoveOf n d = true ∧ Q .none
def S_check_makers (ds : List D) (Q : D → Prop) : Prop := ∃ (n : Nat) (mk : List (List Int)), ds = [.int n, tR mk] ∧ Mk n mk ∧ Q .none
def S__check_way (ds : List D) (Q : D → Prop) : Prop := ∃ (n : Nat) (mk : List (List Int)) (s g : Int), ds = [.int n, tR mk, .int s, .int g] ∧ Mk n mk ∧ (0 ≤ s ∧ s < n) ∧ (0 ≤ g ∧ g < n) ∧ Q .none
def S__ways_from (ds : List D) (Q : D → Prop) : Prop := ∃ (n : Nat) (mk : List (List Int)) (s : Int), ds = [tR mk, .int s] ∧ Mk n mk ∧ (0 ≤ s ∧ s < n) ∧ Q (.dict (dkD (wk tI (waysOf mk n s))))
def S_orbits (ds : List D) (Q : D → Prop) : Prop := ∃ (n : Nat) (mk : List (List Int)), ds = [.int n, tR mk] ∧ Mk n mk ∧ ∀ lots, Lots n mk lots → Q (tR lots)
def S_way (ds : List D) (Q : D → Prop) : Prop := ∃ (n : Nat) (mk : List (List Int)) (s g : Int), ds = [.int n, tR mk, .int s, .int g] ∧ Mk n mk ∧ (0 ≤ s ∧ s < n) ∧ (0 ≤ g ∧ g < n) ∧ Q (optT (lk (waysOf mk n s) g))
def S_is_way (ds : List D) (Q : D → Prop) : Prop := ∃ (n : Nat) (mk : List (List Int)) (s g : Int) (d : D), ds = [.int n, tR mk, .int s, .int g, d] ∧ Mk n mk ∧ (0 ≤ s ∧ s < n) ∧ (0 ≤ g ∧ g < n) ∧ okW d ∧ Q (.bool (isWay mk n s g d))
def Dc (ms : List D) : Prop := ∃ a b c : Int, ms = [.int a, .int b, .int c]
def scr (s : List Int) : D := .dict [(.none, .tuple (s.map PyData.int))]
def S__law_dice (ds : List D) (Q : List D → Prop) : Prop := ∃ s i, ds = [scr s, .int i] ∧ 0 ≤ i ∧ ∀ ms, Dc ms → Q ms
def S__law_roll (ms ds : List D) (Q : D → List D → Prop) : Prop := ∃ t, ds = [.int t] ∧ 0 < t ∧ t ≤ T60 ∧ Dc ms ∧ ∀ r ms', 0 ≤ r → r < t → Dc ms' → Q (.int r) ms'
def S__law_pick (ms ds : List D) (Q : D → List D → Prop) : Prop := ∃ d xs, ds = [d] ∧ seqD d = some xs ∧ xs ≠ [] ∧ xs.length ≤ 100000 ∧ Dc ms ∧ ∀ x ms', x ∈ xs → Dc ms' → Q x ms'
def S__law_mixed (ms ds : List D) (Q : D → List D → Prop) : Prop := ∃ d xs, ds = [d] ∧ seqD d = some xs ∧ xs.length ≤ 100000 ∧ Dc ms ∧ ∀ ys ms', ys.Perm xs → Dc ms' → Q (.list ys) ms'
def S__law_drawn_move (ms ds : List D) (Q : D → List D → Prop) : Prop := ∃ n : Nat, ds = [.int n] ∧ n ≤ 1000 ∧ Dc ms ∧ ∀ m ms', List.Perm m (rgI n) → Dc ms' → Q (tI m) ms'
theorem start_scr {K : PySem.W.Frag} {H : Hp} {a : Addr} {ns : List Int} (hS : SqL K H a (ns.map V.int)) : RpAll K (hide (fun _ => False) H) [.ref a] [scr ns] := by
  have e : Ex H (hide (fun _ => False) H) := fun a o h => hide_some.2 ⟨id, h⟩
  exact .cons (.frz (ex_l e hS) (RpAll.ints ns)) .nil
end Dn
set_option Elab.async false
set_option linter.all false
set_option maxRecDepth 100000
set_option autoImplicit false
set_option maxHeartbeats 4000000
namespace Dn
open PySem L2 Evl PySem.Spec PyProof.Rows
abbrev N_is_integer : List Str := ["value"]
abbrev P_is_integer : List Str := ["value"]
def g_is_integer : DS := sSeq (sIf (dTOr (dTNot (dTst (dIsi "int" (dVar 0)))) (dTst (dIsi "bool" (dVar 0)))) (sRet (dC (.bool false))) (sNx)) (sRet (dChain dLt dLt (dNeg (dC (.int 1000000000000000000000000000000000000000000000000000000000000))) (dVar 0) (dC (.int 1000000000000000000000000000000000000000000000000000000000000))))
abbrev N_is_within : List Str := ["value", "least", "most"]
abbrev P_is_within : List Str := ["value", "least", "most"]
def g_is_within : DS := sRet (dAnd (dCallF 1 S_is_integer (aCons (dVar 0) (aNil))) (dChain dLe dLe (dVar 1) (dVar 0) (dVar 2)))
abbrev N_is_thing : List Str := ["value", "size"]
abbrev P_is_thing : List Str := ["value", "size"]
def g_is_thing : DS := sRet (dAnd (dCallF 1 S_is_integer (aCons (dVar 0) (aNil))) (dChain dLe dLt (dC (.int 0)) (dVar 0) (dVar 1)))
abbrev N_is_row : List Str := ["value", "many", "size", "thing"]
abbrev P_is_row : List Str := ["value", "many", "size"]
def g_is_row : DS := sSeq (sIf (dTOr (dTNot (dTst (dIsi "tuple" (dVar 0)))) (dTst (dBin dNe (dCall dLen (aCons (dVar 0) (aNil))) (dVar 1)))) (sRet (dC (.bool false))) (sNx)) (sSeq (sFor (iSq (dVar 0)) (gNm 3) (sIf (dTOr (dTNot (dTst (dIsi "int" (dVar 3)))) (dTOr (dTst (dIsi "bool" (dVar 3))) (dTNot (dTst (dChain dLe dLt (dC (.int 0)) (dVar 3) (dVar 2)))))) (sRet (dC (.bool false))) (sNx))) (sRet (dC (.bool true))))
abbrev N_check_within : List Str := ["value", "least", "most"]
abbrev P_check_within : List Str := ["value", "least", "most"]
def g_check_within : DS := sIf (dTNot (dTst (dCallF 3 S_is_within (aCons (dVar 0) (aCons (dVar 1) (aCons (dVar 2) (aNil))))))) (sNever) (sNx)
abbrev N_check_thing : List Str := ["value", "size"]
abbrev P_check_thing : List Str := ["value", "size"]
def g_check_thing : DS := sIf (dTNot (dTst (dCallF 2 S_is_thing (aCons (dVar 0) (aCons (dVar 1) (aNil)))))) (sNever) (sNx)
abbrev N_is_move : List Str := ["value"]
abbrev P_is_move : List Str := ["value"]
def g_is_move : DS := sSeq (sIf (dTOr (dTNot (dTst (dIsi "tuple" (dVar 0)))) (dTst (dBin dGt (dCall dLen (aCons (dVar 0) (aNil))) (dC (.int 24))))) (sRet (dC (.bool false))) (sNx)) (sRet (dAnd (dCallF 3 S_is_row (aCons (dVar 0) (aCons (dCall dLen (aCons (dVar 0) (aNil))) (aCons (dCall dLen (aCons (dVar 0) (aNil))) (aNil))))) (dBin dEq (dLenSet (dVar 0)) (dCall dLen (aCons (dVar 0) (aNil))))))
abbrev N_is_move_of : List Str := ["value", "size"]
abbrev P_is_move_of : List Str := ["value", "size"]
def g_is_move_of : DS := sRet (dAnd (dCallF 1 S_is_move (aCons (dVar 0) (aNil))) (dBin dEq (dCall dLen (aCons (dVar 0) (aNil))) (dVar 1)))
abbrev N_check_move_of : List Str := ["value", "size"]
abbrev P_check_move_of : List Str := ["value", "size"]
def g_check_move_of : DS := sIf (dTNot (dTst (dCallF 2 S_is_move_of (aCons (dVar 0) (aCons (dVar 1) (aNil)))))) (sNever) (sNx)
abbrev N_check_makers : List Str := ["size", "makers", "maker"]
abbrev P_check_makers : List Str := ["size", "makers"]
def g_check_makers : DS := sSeq (sEx (dCallF 3 S_check_within (aCons (dVar 0) (aCons (dC (.int 0)) (aCons (dC (.int 24)) (aNil)))))) (sSeq (sIf (dTOr (dTNot (dTst (dIsi "tuple" (dVar 1)))) (dTst (dBin dGt (dCall dLen (aCons (dVar 1) (aNil))) (dC (.int 24))))) (sNever) (sNx)) (sFor (iSq (dVar 1)) (gNm 2) (sEx (dCallF 2 S_check_move_of (aCons (dVar 2) (aCons (dVar 0) (aNil)))))))
abbrev N__check_way : List Str := ["size", "makers", "start", "goal"]
abbrev P__check_way : List Str := ["size", "makers", "start", "goal"]
def g__check_way : DS := sSeq (sEx (dCallF 2 S_check_makers (aCons (dVar 0) (aCons (dVar 1) (aNil))))) (sSeq (sEx (dCallF 2 S_check_thing (aCons (dVar 2) (aCons (dVar 0) (aNil))))) (sEx (dCallF 2 S_check_thing (aCons (dVar 3) (aCons (dVar 0) (aNil))))))
abbrev N__ways_from : List Str := ["makers", "start", "ways", "found", "reached", "here", "index", "maker"]
abbrev P__ways_from : List Str := ["makers", "start"]
def g__ways_from : DS := sSeq (sSet 2 (xDct1 (dVar 1) (dTup (aNil)))) (sSeq (sSet 3 (xOw (lLst (aCons (dVar 1) (aNil))))) (sSeq (sSet 4 (xIm (dC (.int 0)))) (sSeq (sWh (dTst (dBin dLt (dVar 4) (dCallO 3 dLen))) (sSeq (sSet 5 (xIm (dIxP 3 (dVar 4)))) (sSeq (sFor (iEn (dVar 0)) (gTp 2 (gsCons (gNm 6) (gsCons (gNm 7) (gsNil)))) (sIf (dTst (dInK true 2 (dBin dIx (dVar 7) (dVar 5)))) (sSeq (sPutK 2 (dBin dIx (dVar 7) (dVar 5)) (dBin dAdd (dGetK 2 (dVar 5)) (dTup (aCons (dVar 6) (aNil))))) (sEx (dApp 3 (dBin dIx (dVar 7) (dVar 5))))) (sNx))) (sAugI 4 (dC (.int 1)))))) (sRetK 2))))
abbrev N__law_dice : List Str := ["_law_script", "_law_spot", "_law_cell", "_law_left"]
abbrev P__law_dice : List Str := ["_law_script", "_law_spot"]
def g__law_dice : (List D → Prop) → Env → Prop := (fun Q ρ => (sSet 2 (xIm (dIfE (dTst (dBin dLt (dVar 1) (dCall dLen (aCons (dVar 0) (aNil))))) (dCall dInt (aCons (dBin dIx (dVar 0) (dVar 1)) (aNil))) (dBin dAdd (dBin dMulA (dC (.int 83)) (dVar 1)) (dC (.int 29)))))) { nx := (fun Q ρ => (sSet 3 (xIm (dBin dMod (dCall dMax2 (aCons (dC (.int 0)) (aCons (dBin dSub (dCall dAbs (aCons (dVar 2) (aNil))) (dBin dPow (dC (.int 10)) (dC (.int 16)))) (aNil)))) (dBin dMulA (dBin dPow (dC (.int 10)) (dC (.int 60))) (dBin dPow (dC (.int 10)) (dC (.int 60))))))) { nx := (fun Q ρ => (lLst (aCons (dVar 3) (aCons (dBin dAdd (dBin dAdd (dBin dAdd (dBin dMulA (dBin dMod (dCall dAbs (aCons (dVar 2) (aNil))) (dC (.int 1152921504606845527))) (dC (.int 79))) (dBin dMulA (dC (.int 877)) (dVar 1))) (dBin dMulA (dC (.int 41)) (dCall dInt (aCons (dBin dLt (dVar 2) (dC (.int 0))) (aNil))))) (dC (.int 23))) (aCons (dC (.int 0)) (aNil))))) ρ fun es _ => Q es) Q, rt := fun _ _ => False } ρ) Q, rt := fun _ _ => False } ρ)
abbrev N__law_roll : List Str := ["_law_dice_here", "_law_total", "_law_found", "_law_one", "_law_two"]
abbrev P__law_roll : List Str := ["_law_dice_here", "_law_total"]
def g__law_roll : DS := sSeq (sIf (dTst (dBin dGt (dIxP 0 (dC (.int 0))) (dC (.int 0)))) (sSeq (sSet 2 (xIm (dBin dMod (dCall dInt (aCons (dIxP 0 (dC (.int 0))) (aNil))) (dVar 1)))) (sSeq (sSub 0 (dC (.int 0)) (dBin dFdiv (dIxP 0 (dC (.int 0))) (dVar 1))) (sRet (dVar 2)))) (sNx)) (sSeq (sSub 0 (dC (.int 2)) (dBin dAdd (dIxP 0 (dC (.int 2))) (dC (.int 1)))) (sSeq (sSet 3 (xIm (dBin dMod (dCall dInt (aCons (dBin dAdd (dIxP 0 (dC (.int 1))) (dBin dMulA (dC (.int 92821957)) (dIxP 0 (dC (.int 2))))) (aNil))) (dC (.int 2305843009213691579))))) (sSeq (sSet 4 (xIm (dBin dAdd (dBin dMulA (dBin dMod (dCall dInt (aCons (dBin dAdd (dBin dMulA (dVar 3) (dVar 3)) (dBin dMulA (dC (.int 97)) (dIxP 0 (dC (.int 2))))) (aNil))) (dC (.int 2305843009213692227))) (dC (.int 5915587))) (dVar 3)))) (sRet (dBin dMod (dCall dInt (aCons (dBin dFdiv (dVar 4) (dC (.int 65536))) (aNil))) (dVar 1))))))
abbrev N__law_mixed : List Str := ["_law_dice_here", "_law_items", "_law_left", "_law_found", "_law_turn"]
abbrev P__law_mixed : List Str := ["_law_dice_here", "_law_items"]
def g__law_mixed : DS := sSeq (sPar 2 3 (xOw (lOf (dVar 1))) (xOw (lLst (aNil)))) (sSeq (sFor (iR1 (dCall dLen (aCons (dVar 1) (aNil)))) (gNm 4) (sEx (dApp 3 (dPopAt 2 (dCallM 0 2 S__law_roll (aCons (dCallO 2 dLen) (aNil))))))) (sRetO 3))
abbrev N__law_drawn_move : List Str := ["_law_dice_here", "_law_size"]
abbrev P__law_drawn_move : List Str := ["_law_dice_here", "_law_size"]
def g__law_drawn_move : DS := sRet (dCall dTupOf (aCons (dCallM 0 2 S__law_mixed (aCons (dOfL (lRg (rg1 (dVar 1)))) (aNil))) (aNil)))
abbrev N_orbits : List Str := ["size", "makers", "seen", "found", "start", "orbit", "thing"]
abbrev P_orbits : List Str := ["size", "makers"]
def g_orbits : DS := sSeq (sEx (dCallF 2 S_check_makers (aCons (dVar 0) (aCons (dVar 1) (aNil))))) (sSeq (sSet 2 (xDct)) (sSeq (sSet 3 (xOw (lLst (aNil)))) (sSeq (sFor (iR1 (dVar 0)) (gNm 4) (sIf (dTst (dInK true 2 (dVar 4))) (sSeq (sSet 5 (xIm (dOfL (lSort (dOfL (lKeys (dCallF 2 S__ways_from (aCons (dVar 1) (aCons (dVar 4) (aNil)))))))))) (sSeq (sFor (iSq (dVar 5)) (gNm 6) (sPutK 2 (dVar 6) (dC (.bool true)))) (sEx (dApp 3 (dCall dTupOf (aCons (dVar 5) (aNil))))))) (sNx))) (sRet (dTupO 3)))))
abbrev N_way : List Str := ["size", "makers", "start", "goal"]
abbrev P_way : List Str := ["size", "makers", "start", "goal"]
def g_way : DS := sSeq (sEx (dCallF 4 S__check_way (aCons (dVar 0) (aCons (dVar 1) (aCons (dVar 2) (aCons (dVar 3) (aNil))))))) (sRet (dGet1 (dCallF 2 S__ways_from (aCons (dVar 1) (aCons (dVar 2) (aNil)))) (dVar 3)))
abbrev N_is_way : List Str := ["size", "makers", "start", "goal", "value", "shortest", "here", "index"]
abbrev P_is_way : List Str := ["size", "makers", "start", "goal", "value"]
def g_is_way : DS := sSeq (sEx (dCallF 4 S__check_way (aCons (dVar 0) (aCons (dVar 1) (aCons (dVar 2) (aCons (dVar 3) (aNil))))))) (sSeq (sSet 5 (xIm (dGet1 (dCallF 2 S__ways_from (aCons (dVar 1) (aCons (dVar 2) (aNil)))) (dVar 3)))) (sSeq (sIf (dTOr (dTst (dBin dIs (dVar 5) (dC .none))) (dTNot (dTst (dCallF 3 S_is_row (aCons (dVar 4) (aCons (dCall dLen (aCons (dVar 5) (aNil))) (aCons (dCall dLen (aCons (dVar 1) (aNil))) (aNil)))))))) (sRet (dC (.bool false))) (sNx)) (sSeq (sSet 6 (xIm (dVar 2))) (sSeq (sFor (iSq (dVar 4)) (gNm 7) (sSet 6 (xIm (dBin dIx (dBin dIx (dVar 1) (dVar 7)) (dVar 6))))) (sRet (dBin dEq (dVar 6) (dVar 3)))))))
end Dn
set_option Elab.async false
set_option linter.all false
set_option maxRecDepth 100000
set_option autoImplicit false
set_option maxHeartbeats 4000000
/-! sorted(l), l a list of tuples of ints, none of them empty, of any lengths -/
namespace SrL
open PySem PyProof.Rows Srt SrtO
def lx : List Int → List Int → Bool
  | [], [] => false
  | [], _ :: _ => true
  | _ :: _, [] => false
  | x :: a, y :: b => if x = y then lx a b else decide (x < y)
theorem lx_asym : ∀ {a b : List Int}, lx a b = true → lx b a = false
  | [], [], _ => rfl
  | [], _ :: _, _ => rfl
  | _ :: _, [], h => by simp [lx] at h
  | x :: a, y :: b, h => by
    unfold lx at h ⊢
    by_cases e : x = y
    · rw [if_pos e] at h; rw [if_pos e.symm]; exact lx_asym h
    · rw [if_neg e] at h; rw [if_neg (Ne.symm e)]
      have := of_decide_eq_true h
      exact decide_eq_false (by omega)
theorem lx_tr : ∀ {a b c : List Int}, lx b a = false → lx c b = false → lx c a = false
  | [], [], [], _, _ => rfl
  | [], [], _ :: _, _, h => by simp [lx] at h; rfl
  | [], _ :: _, [], _, h => by simp [lx] at h
  | [], _ :: _, _ :: _, _, _ => rfl
  | _ :: _, [], _, h, _ => by simp [lx] at h
  | _ :: _, _ :: _, [], _, h => by simp [lx] at h
  | x :: a, y :: b, z :: c, h1, h2 => by
    unfold lx at h1 h2 ⊢
    by_cases e1 : y = x
    · rw [if_pos e1] at h1
      by_cases e2 : z = y
      · rw [if_pos e2] at h2; rw [if_pos (e2.trans e1)]; exact lx_tr h1 h2
      · rw [if_neg e2] at h2; rw [if_neg (by rw [← e1]; exact e2)]; rw [← e1]; exact h2
    · rw [if_neg e1] at h1
      have k1 := of_decide_eq_false h1
      by_cases e2 : z = y
      · rw [e2, if_neg e1]; exact h1
      · rw [if_neg e2] at h2
        have k2 := of_decide_eq_false h2
        rw [if_neg (by omega)]
        exact decide_eq_false (by omega)
theorem lx_eq : ∀ {a b : List Int}, lx a b = false → lx b a = false → a = b
  | [], [], _, _ => rfl
  | [], _ :: _, h, _ => by simp [lx] at h
  | _ :: _, [], _, h => by simp [lx] at h
  | x :: a, y :: b, h1, h2 => by
    unfold lx at h1 h2
    by_cases e : x = y
    · rw [if_pos e] at h1; rw [if_pos e.symm] at h2
      rw [e, lx_eq h1 h2]
    · rw [if_neg e] at h1; rw [if_neg (Ne.symm e)] at h2
      have k1 := of_decide_eq_false h1
      have k2 := of_decide_eq_false h2
      omega
theorem swo_lx (k : Value → List Int) : Swo fun v u => lx (k v) (k u) := ⟨fun _ _ h => lx_asym h, fun _ _ _ h1 h2 => lx_tr h1 h2⟩
section
variable {prog : Program} {w : World} {A : Around} {E : Value → Shared → Prop} {s : Shared} {Q : Bool → Shared → Prop}
theorem lex_any {b fin : Bool} {xs ys : List Value} {ns ms : List Int} (i : Nat) (hx : IntsAre xs ns) (hy : IntsAre ys ms) (hf : fin = decide (ns.length < ms.length)) (h : Q (lx ns ms) s) : PySem.W.KatLex prog w A b fin Q (xs.zip ys) i s := by
  induction hx generalizing ys ms i with
  | nil =>
    cases hy with
    | nil => simp at hf; subst hf; exact PySem.W.kat_nil h
    | cons q u hy => simp at hf; subst hf; exact PySem.W.kat_nil h
  | @cons p t xs ns hx ih =>
    cases hy with
    | nil => simp at hf; subst hf; exact PySem.W.kat_nil h
    | @cons q u ys ms hy =>
      have hf' : fin = decide (ns.length < ms.length) := by simpa using hf
      show PySem.W.KatLex prog w A b fin Q ((Value.int p t, Value.int q u) :: xs.zip ys) i s
      refine PySem.W.kat_cons (wpAny_eqBool_int ?_)
      by_cases e : p = q
      · subst e
        rw [beq_self_eq_true]
        have d : lx (p :: ns) (p :: ms) = lx ns ms := by rw [lx, if_pos rfl]
        rw [d] at h
        refine PySem.W.kat_yes ?_
        first
          | exact ih (i + 1) hy hf' h
          | exact ih _ _ (i + 1) hy hf' h
      · rw [show (p == q) = false from beq_eq_false_iff_ne.mpr e]
        refine PySem.W.kat_no (TS.oneLt_ints _ ?_)
        have d : lx (p :: ns) (q :: ms) = decide (p < q) := by rw [lx, if_neg e]
        rw [d] at h
        exact h
theorem tup_cmp {vs : List Value} {k : Value → List Int} (hp : ∀ v ∈ vs, TS.TupInts s.heap v (k v)) : Cmp prog w A s (tuples' true) (fun p => p.1 ∈ vs) (lt2 fun v u => lx (k v) (k u)) := by
  intro p q hm hm'
  have h1 := hp _ hm
  have h2 := hp _ hm'
  show wpAny (model prog w) A (keyLt' (tuples' true) p.1 q.1) (fun r s' => s' = s ∧ r = lx (k p.1) (k q.1)) (fun _ _ => False) s
  generalize k p.1 = x at h1 ⊢
  generalize k q.1 = y at h2 ⊢
  obtain ⟨a, xs, e, ⟨o, ho, hc, n, hd⟩, i1⟩ := h1
  obtain ⟨a', xs', e', ⟨o', ho', hc', n', hd'⟩, i2⟩ := h2
  rw [e, e']
  refine PySem.W.kat_lt ho hd ho' hd' (lex_any 0 i1 i2 ?_ ⟨rfl, rfl⟩)
  rw [← i1.length, ← i2.length, Array.length_toList, Array.length_toList]
theorem firsts {h : Heap} {k : Value → List Int} : ∀ vs : List Value, (∀ v ∈ vs, TS.TupInts h v (k v)) → (∀ v ∈ vs, k v ≠ []) → ∃ fs, PySem.W.KatTups h vs fs ∧ fs.length = vs.length ∧ ∀ f, f ∈ fs → ∃ n t, f = Value.int n t
  | [], _, _ => ⟨[], PySem.W.KatTups.nil, rfl, fun f hf => by simp at hf⟩
  | v :: vs, x, hne => by
    obtain ⟨fs, kt, hl, hi⟩ := firsts vs (fun u hu => x u (List.mem_cons_of_mem _ hu)) fun u hu => hne u (List.mem_cons_of_mem _ hu)
    have hv := hne v (List.mem_cons_self ..)
    obtain ⟨a, xs, rfl, ⟨o, ho, hc, n, hdt⟩, i⟩ := x v (List.mem_cons_self ..)
    obtain ⟨y, ys, e⟩ : ∃ y ys, xs.toList = y :: ys := by
      cases q : xs.toList with
      | nil =>
        rw [q] at i
        have l := i.length
        rw [List.length_nil] at l
        exact absurd (List.length_eq_zero_iff.mp l.symm) hv
      | cons y ys => exact ⟨y, ys, rfl⟩
    obtain ⟨m, t, hy⟩ := i.all y (by rw [e]; exact List.mem_cons_self ..)
    refine ⟨y :: fs, PySem.W.KatTups.cons ho hc hdt ?_ kt, by simp [hl], ?_⟩
    · have z := congrArg (fun l : List Value => l[0]?) e
      simpa using z
    · intro f hf
      rcases List.mem_cons.mp hf with rfl | hf
      · exact ⟨m, t, hy⟩
      · exact hi f hf
theorem tups_sortableO {a : Addr} {vs : List Value} {k : Value → List Int} (h0 : 0 < vs.length) (hp : ∀ v ∈ vs, TS.TupInts s.heap v (k v)) (hne : ∀ v ∈ vs, k v ≠ []) (ha : ∀ o, s.heap.get? a = some o → o.cls ≠ .type "tuple") : SortableO prog w A s a vs fun v u => lx (k v) (k u) := by
  intro h' keep
  have hp' : ∀ v ∈ vs, TS.TupInts h' v (k v) := fun v hm => (hp v hm).keeps fun b o e c => keep b o (fun z => by subst z; exact ha o e c) e
  obtain ⟨fs, h1, h2, h3⟩ := firsts vs hp' hne
  refine ⟨tuples' true, fun Q E hq => ?_, tup_cmp hp'⟩
  refine PySem.W.kat_kind (T := .type "int") h1 (by omega) (fun f hm => ?_) (by rfl) ?_
  · obtain ⟨x, t, rfl⟩ := h3 f hm
    exact PySem.W.Looks.of_pure rfl
  · have e : (Value.type "int" != Value.type "tuple") = true := by first | decide +kernel | rfl | decide
    rw [e]
    exact hq
end
end SrL
namespace Dn
open PySem L2 Evl PySem.Spec PyProof.Rows SrL
section
variable {X : Cx}
def rSortL (K : PySem.W.Frag) : List V → Hp → VK → Prop := fun vs H Q => ∃ (a : Addr) (xs : List V), vs = [V.ref a] ∧ SqL K H a xs ∧ (∀ x ∈ xs, ∃ ns, TupI K H x ns ∧ ns ≠ []) ∧
  ∀ (ys : List V) (p : Addr), ys.Perm xs → ys.Pairwise (fun x y => ∀ n m, TupI K H x n → TupI K H y m → lx m n = false) → H p = none → Q (.ref p) (upd H p (.lst ys))
theorem cr_sortL : CallR X (.builtin "sorted") (rSortL X.K) := by
  intro pins s σ H vs us Q I r h
  obtain ⟨a, xs, rfl, hs, hx, q⟩ := h
  obtain ⟨its, rv, hl, hz⟩ := I.list hs
  rw [Vals.ref1 r]
  obtain ⟨e1, e2⟩ := bkV_refs rv fun x m => by
    obtain ⟨ns, ⟨t, e, _⟩, _⟩ := hx x m
    exact ⟨t, e⟩
  have tup : ∀ v, v ∈ its → TS.TupInts s.heap v (TS.intsOf s.heap v) ∧ TS.intsOf s.heap v ≠ [] := fun v hv => by
    obtain ⟨t, rfl⟩ := e2 v hv
    have hm : V.ref t ∈ xs := by
      rw [e1]
      exact List.mem_map.mpr ⟨_, hv, rfl⟩
    obtain ⟨ns, ⟨t', e, ht⟩, hn⟩ := hx _ hm
    cases e
    have ti := tupI_raw I ht
    rw [ti.ints]
    exact ⟨ti, hn⟩
  refine SrtO.sorted_ord (swo_lx (TS.intsOf s.heap)) hl.isList (by rw [← rv.length]; exact hz) (fun h2 h₁ a' ha kk => ?_) fun out hs2 hb => ?_
  · refine tups_sortableO (s := { s with heap := h₁ }) (by omega) (fun v hm => (tup v hm).1.keeps fun b o e _ => (kk b o e).2) (fun v hm => (tup v hm).2) fun o e => ?_
    have e' : some o = some (seqObj "list" its.toArray 0) := e.symm.trans ha
    cases e'
    intro c
    exact absurd (Value.type.inj c) (by decide)
  · obtain ⟨ep, he'⟩ := PyProof.Rows.sortedAll_at s.heap its out.toArray
    have h3 : ∀ u ∈ out, ∃ a, u = Value.ref a := fun u hu => e2 u (hb.perm.mem_iff.mp hu)
    have hp : (out.map bkV).Perm xs := by
      rw [e1]
      exact hb.perm.map bkV
    have hlen : (out.map bkV).length ≤ sizeLine := by
      rw [hp.length_eq]
      exact hz
    refine ⟨.ref _, upd H (s.heap.objs.size + 1) (.lst (out.map bkV)), I.laid (t' := s.toks) (fun _ _ => PyProof.Rows.sortedAll_old) (Nat.le_succ _) ⟨hlen, out, ep, bkV_vals h3, he'⟩, rfl, q _ _ hp ?_ (I.hok.fresh (Nat.le_succ _))⟩
    rw [List.pairwise_map]
    refine List.Pairwise.imp (fun {u v} huv n m hn hm => ?_) hs2
    obtain ⟨t, et, ht⟩ := hn
    obtain ⟨t', et', ht'⟩ := hm
    have eu := bkV_ref et
    have ev := bkV_ref et'
    have i1 : TS.intsOf s.heap u = n := by
      rw [eu]
      exact (tupI_raw I ht).ints
    have i2 : TS.intsOf s.heap v = m := by
      rw [ev]
      exact (tupI_raw I ht').ints
    rw [← i1, ← i2]
    exact huv
theorem RpAll.perm {K : PySem.W.Frag} {G : Hp} {ys xs : List V} (h : ys.Perm xs) : ∀ {ds : List D}, RpAll K G xs ds → ∃ ds', ds'.Perm ds ∧ RpAll K G ys ds' := by
  induction h with
  | nil => intro ds r; exact ⟨ds, .refl _, r⟩
  | cons x h ih =>
    intro ds r
    cases r with
    | cons r rr =>
      obtain ⟨ds', p, r2⟩ := ih rr
      exact ⟨_, p.cons _, .cons r r2⟩
  | swap x y l =>
    intro ds r
    cases r with
    | cons r rr =>
      cases rr with
      | cons r2 rr => exact ⟨_, .swap _ _ _, .cons r2 (.cons r rr)⟩
  | trans h1 h2 ih1 ih2 =>
    intro ds r
    obtain ⟨ds2, p2, r2⟩ := ih2 r
    obtain ⟨ds1, p1, r1⟩ := ih1 r2
    exact ⟨ds1, p1.trans p2, r1⟩
theorem perm_map {α : Type} {f : α → D} : ∀ {ys zs : List D}, ys.Perm zs → ∀ {l : List α}, zs = l.map f → ∃ l' : List α, ys = l'.map f ∧ l'.Perm l := by
  intro ys zs h
  induction h with
  | nil =>
    intro l e
    cases l with
    | nil => exact ⟨[], rfl, .nil⟩
    | cons _ _ => cases e
  | cons x h ih =>
    intro l e
    cases l with
    | nil => cases e
    | cons n ns =>
      simp at e
      obtain ⟨ms, e1, e2⟩ := ih e.2
      exact ⟨n :: ms, by simp [e1, e.1], e2.cons n⟩
  | swap x y l =>
    intro ns e
    match ns, e with
    | a :: b :: ns, e =>
      simp at e
      exact ⟨b :: a :: ns, by simp [e.1, e.2.1, e.2.2], .swap a b ns⟩
  | trans h1 h2 ih1 ih2 =>
    intro ns e
    obtain ⟨ms, e1, e2⟩ := ih2 e
    obtain ⟨ms2, e3, e4⟩ := ih1 e1
    exact ⟨ms2, e3, e4.trans e2⟩
def tI0 (ns : List Int) : D := .tuple (ns.map PyData.int)
theorem tupI_rp {K : PySem.W.Frag} {O : Addr → Prop} {H : Hp} {v : V} {ns : List Int} (r : Rp K (hide O H) v (tI0 ns)) : TupI K H v ns := by
  unfold tI0 at r
  cases r with
  | tup h rr =>
    obtain rfl := rr.of_ints
    exact ⟨_, rfl, sqt_of h⟩
theorem pw_rp {K : PySem.W.Frag} {O : Addr → Prop} {H : Hp} : ∀ {ys : List V} {L : List (List Int)}, RpAll K (hide O H) ys (L.map tI0) → ys.Pairwise (fun x y => ∀ n m, TupI K H x n → TupI K H y m → lx m n = false) → L.Pairwise fun a b => lx b a = false
  | _, [], _, _ => .nil
  | y :: ys, l :: L, .cons r rr, .cons h p => by
    refine .cons (fun b hb => ?_) (pw_rp rr p)
    obtain ⟨i, hi, e⟩ := List.mem_iff_getElem.mp hb
    have e2 : (L.map tI0)[i]? = some (tI0 b) := by rw [List.getElem?_map, List.getElem?_eq_getElem hi, e]; rfl
    obtain ⟨v, h1, h2⟩ := rr.get e2
    exact h v (List.mem_of_getElem? h1) l b (tupI_rp r) (tupI_rp h2)
variable {a : Expr} {fa : DE} {pos p : Pos}
/-- sorted(l), tuples of ints -/
def lSortT (fa : DE) : DL := fun ρ Q => fa ρ fun z ρ1 => ∃ L : List (List Int), z = .list (L.map tI0) ∧ (∀ l, l ∈ L → l ≠ []) ∧ ∀ L' : List (List Int), L'.Perm L → (L'.Pairwise fun a b => lx b a = false) → Q (L'.map tI0) ρ1
theorem jl_sortT (hm : X.mg "sorted" = none) (ha : JE X a fa) (hg : Gl X "sorted" := by rfl) (he : starEach [a] X.env = (false, eval a X.env) :: starEach [] X.env := by rfl) : JL X (.Call (.Name "sorted" p) [a] [] pos) (lSortT fa) := by
  obtain ⟨ta, pa, ka⟩ := ha.ex
  refine ⟨_, pe_callB cr_sortL hg hm (by decide +kernel) (pa_cons pa pa_nil he) (by decide) (by decide) he (by rfl), fun T ρ σ H QD Q r h q => ka T ρ σ H _ _ r h fun d ρ1 v H1 r1 p1 v1 h => ?_⟩
  obtain ⟨L, rfl, hne, h⟩ := h
  cases v1 with
  | lst hp rr =>
    refine ⟨_, _, rfl, .inl (.inl (at_of hp)), fun x hx => ?_, fun ys l h1 h2 hl => ?_⟩
    · obtain ⟨i, hi, e⟩ := List.mem_iff_getElem.mp hx
      obtain ⟨d, e2, r2⟩ := rr.get' (by rw [List.getElem?_eq_getElem hi, e])
      rw [List.getElem?_map] at e2
      obtain ⟨b, e3, rfl⟩ := Option.map_eq_some_iff.mp e2
      exact ⟨b, tupI_rp r2, hne b (List.mem_of_getElem? e3)⟩
    · obtain ⟨ds', pm, r2⟩ := RpAll.perm h1 rr
      obtain ⟨L', rfl, pm2⟩ := perm_map pm rfl
      exact q _ _ _ _ _ (none_back p1 hl) upd_same (r1.laid hl) (r2.mono (hd_laid hl)) (p1.trans (.grow (Ex.new hl))) (h L' pm2 (pw_rp r2 h2))
end
end Dn
set_option Elab.async false
set_option linter.all false
set_option maxRecDepth 100000
set_option autoImplicit false
set_option maxHeartbeats 4000000
/-! {k: v for x in xs}; min(l), l.index(x); l * n -/
namespace Dn
open PySem L2 Evl PySem.Spec PyProof.Rows
section
variable {X : Cx} {a b c e : Expr} {fa fb fc : DE} {pos p : Pos} {es : List Expr} {x y : Str}
def wpDc (g : DG) (tt : DT) (tk te : DE) (vs : List Nat) (Q : List (Key × D) → Env → Prop) : List D → List (Key × D) → Env → Prop
  | [], acc, ρ => Q acc ρ
  | d :: ds, acc, ρ => acc.length < 16777216 ∧ g d (wipeD ρ vs) fun ρ1 => tt ρ1 fun b ρ2 => if b = true then tk ρ2 fun yk ρk => te ρk fun y ρ3 => ∃ k, keyD yk = some k ∧ wpDc g tt tk te vs Q ds (putD acc k y) (wipeD ρ3 vs) else wpDc g tt tk te vs Q ds acc (wipeD ρ2 vs)
abbrev DDc := Env → (List (Key × D) → Env → Prop) → Prop
def lDc (fi : DL) (g : DG) (tt : DT) (tk te : DE) (vs : List Nat) : DDc := fun ρ Q => fi ρ fun ds ρ1 => wpDc g tt tk te vs Q ds [] (wipeD ρ1 vs)
def dOfK (f : DDc) : DE := fun ρ Q => f ρ fun kvs => Q (.dict (dkD kvs))
def xOwK (f : DDc) : DX := fun ρ Q => f ρ fun kvs => Q (.ow (.dct kvs))
theorem dc_read {tg iter : Expr} {vs : List Nat} {fi : DL} {g : DG} {tt : DT} {tk te : DE} (hi : JI X tg iter fi) : ∃ wi, PI X tg iter wi ∧ ∀ (T : Addr → Prop) (ρ : Env) (σ : L2.St) (H : Hp) (QD : List (Key × D) → Env → Prop) (Q : VK), RS X.K T ρ σ H → lDc fi g tt tk te vs ρ QD →
    (∀ ds ρ' p vs H', H p = none → H' p = some (.dK vs) → RS X.K (plus T p) ρ' σ H' → KvRp X.K (hide (Hd (plus T p) ρ' σ) H') ds vs → Po ρ σ H ρ' σ H' → QD ds ρ' → Q (.ref p) H') → tDc wi (tgOf X.K vs g) (ttOf X.K tt) (teOf X.K tk) (teOf X.K te) vs σ H Q := by
  obtain ⟨wi, pi, ki⟩ := hi.ex
  refine ⟨wi, pi, fun T ρ σ H QD Q r h q => ki T ρ σ H _ _ r h fun ds ρ1 J H1 r1 p1 it h => ?_⟩
  intro L hL
  -- kept: what was known at the start stands apart from the new list
  refine ⟨fun i m H' => i ≤ ds.length ∧ m = ds.length - i ∧ ∃ ρ' acc us, ρ' = wipeD ρ' vs ∧ RS X.K (plus T L) ρ' (wipe σ vs) H' ∧ Po ρ1 σ H1 ρ' (wipe σ vs) H' ∧ H' L = some (.dK us) ∧ KvRp X.K (hide (Hd (plus T L) ρ' (wipe σ vs)) H') acc us ∧ wpDc g tt tk te vs QD (ds.drop i) acc ρ',
    ⟨ds.length, Nat.zero_le _, rfl, wipeD ρ1 vs, [], [], (wipeD_idem vs).symm, (r1.laid hL).wiped vs, (Po.grow (Ex.new hL)).trans (.wiped vs), upd_same, (Paired.nil : KvRp X.K _ [] []), h⟩, ?_⟩
  rintro i m H' ⟨hi, rfl, ρ', acc, us, ew, r', p', hl, ra, h⟩
  have eG : Ex (hide (Hd T ρ1 σ) H1) H' := (p'.fz (T := T)).trans hide_ex
  by_cases hlt : i < ds.length
  · rw [List.drop_eq_getElem_cons hlt] at h
    obtain ⟨hz, h⟩ := h
    obtain ⟨go, st⟩ := it.step i ds[i] H' (List.getElem?_eq_getElem hlt) eG
    refine .inr ⟨go, fun H2 => ∃ ρ2 acc us, ρ2 = wipeD ρ2 vs ∧ RS X.K (plus T L) ρ2 (wipe σ vs) H2 ∧ Po ρ1 σ H1 ρ2 (wipe σ vs) H2 ∧ H2 L = some (.dK us) ∧ KvRp X.K (hide (Hd (plus T L) ρ2 (wipe σ vs)) H2) acc us ∧ wpDc g tt tk te vs QD (ds.drop (i + 1)) acc ρ2,
      fun H2 w => ⟨ds.length - (i + 1), by omega, by omega, rfl, w⟩, fun v H2 hy => ?_⟩
    obtain ⟨ex, rv⟩ := st v H2 hy
    rw [← ew] at h
    have r2 := r'.grow ex
    have pa2 := p'.trans (Po.grow (ρ := ρ') (σ := wipe σ vs) ex)
    have ra2 := ra.mono (hide_grow (O := Hd (plus T L) ρ' (wipe σ vs)) ex)
    have nL : H1 L = none := hL
    have eO : Ex (hide (Hd T ρ1 σ) H1) (hide (Hd (plus T L) ρ' (wipe σ vs)) H') := fun a o w => by
      obtain ⟨n, w⟩ := hide_some.1 w
      obtain ⟨n2, w2⟩ := hide_some.1 ((p'.fz (T := T)) a o (hide_some.2 ⟨n, w⟩))
      refine hide_some.2 ⟨?_, w2⟩
      rintro ((t | t) | t)
      · subst t; rw [nL] at w; cases w
      · exact n2 (.inl t)
      · exact n2 (.inr t)
    refine ⟨plus T L, ρ', ds[i], _, r2, rv _ (fun a => r'.hdDom) eO, h, fun ρ3 σ3 r3 p3 w3 h => ⟨by rw [w3]; exact wipe_idem σ vs, plus T L, ρ3, _, r3, h, fun b ρ4 H4 r4 p4 h => ?_⟩⟩
    -- the new list is never the block's own
    have keepL : ∀ {ρa : Env} {σa : L2.St} {Ha Hb : Hp} {ρb : Env} {σb : L2.St} {o : HO}, RS X.K (plus T L) ρa σa Ha → Po ρa σa Ha ρb σb Hb → Ha L = some o → Hb L = some o := fun ra pab hh => pab.keep L _ (ra.dis L (.inl rfl)) hh
    have l4 : H4 L = some (.dK us) := keepL r2 (p3.trans p4) (ex _ _ hl)
    have ra4 := ra2.mono (((p3.trans p4)).fz (T := plus T L))
    have back : ∀ {ρ5 : Env} {H5 : Hp}, RS X.K (plus T L) ρ5 σ3 H5 → RS X.K (plus T L) (wipeD ρ5 vs) (wipe σ vs) H5 := fun {ρ5 H5} r5 => by
      have z := r5.wiped vs
      rw [w3, wipe_idem] at z
      exact z
    have pback : ∀ {ρ5 : Env} {H5 : Hp}, Po ρ1 σ H1 ρ5 σ3 H5 → Po ρ1 σ H1 (wipeD ρ5 vs) (wipe σ vs) H5 := fun {ρ5 H5} p5 => by
      have z := p5.trans (Po.wiped (ρ := ρ5) (σ := σ3) (H := H5) vs)
      rw [w3, wipe_idem] at z
      exact z
    cases b with
    | false =>
      refine ⟨wipeD ρ4 vs, acc, us, (wipeD_idem vs).symm, back r4, pback (pa2.trans (p3.trans p4)), l4, ?_, h⟩
      have z := ra4.mono ((Po.wiped (ρ := ρ4) (σ := σ3) (H := H4) vs).fz (T := plus T L))
      rw [w3, wipe_idem] at z
      exact z
    | true =>
      rw [if_pos rfl] at h
      dsimp only
      rw [if_pos rfl]
      refine ⟨plus T L, ρ4, _, r4, h, fun yk ρk wk' Hk rk pk vk h => ?_⟩
      refine ⟨plus T L, ρk, _, rk, h, fun y ρ5 w H5 r5 p5' v5 h => ?_⟩
      obtain ⟨ky, hky, h⟩ := h
      obtain rfl := keyD_rp vk hky
      have p5 := pk.trans p5'
      have l5 : H5 L = some (.dK us) := keepL r4 p5 l4
      have ra5 := KvRp.put (ra4.mono (p5.fz (T := plus T L))) ky v5
      have aL : ∀ (o : HO), Ex (hide (Hd (plus T L) ρ5 σ3) H5) (hide (Hd (plus T L) ρ5 σ3) (upd H5 L o)) := fun o a u w => by
        obtain ⟨n, w⟩ := hide_some.1 w
        exact hide_some.2 ⟨n, by rw [upd_ne (fun z => n (.inl (.inl z)))]; exact w⟩
      have r6 : RS X.K (plus T L) ρ5 σ3 (upd H5 L (.dK (putK us ky w))) := by
        refine ⟨r5.len, fun j d z => ?_, fun j m z => ?_, r5.inj, r5.dis, fun a t => ?_, r5.tag⟩
        · obtain ⟨u, h1, h2⟩ := r5.im j d z; exact ⟨u, h1, h2.mono (aL _)⟩
        · obtain ⟨a, o, h1, h2, h3⟩ := r5.ow j m z
          have ne : a ≠ L := fun e => by subst e; exact r5.dis a (.inl rfl) ⟨j, m, z, h1⟩
          exact ⟨a, o, h1, by rw [upd_ne ne]; exact h2, h3.mono (aL _)⟩
        · by_cases e : a = L
          · subst e; rw [upd_same]; simp
          · rw [upd_ne e]; exact r5.dom a t
      have p6 : Po ρ1 σ H1 ρ5 σ3 (upd H5 L (.dK (putK us ky w))) := by
        have z := (pa2.trans (p3.trans p4)).trans p5
        refine ⟨fun a o n hh => ?_, z.own, fun a hh => ?_⟩
        · rw [upd_ne (fun e => by subst e; rw [nL] at hh; cases hh)]; exact z.keep a o n hh
        · by_cases e : a = L
          · subst e; rw [upd_same]; simp
          · rw [upd_ne e]; exact z.dom a hh
      refine ⟨us, ky, rfl, l5, by rw [← ra.len]; exact hz, wipeD ρ5 vs, putD acc ky y, putK us ky w, (wipeD_idem vs).symm, back r6, pback p6, upd_same, ?_, h⟩
      have z := (ra5.mono (aL (.dK (putK us ky w)))).mono ((Po.wiped (ρ := ρ5) (σ := σ3) (H := upd H5 L (.dK (putK us ky w))) vs).fz (T := plus T L))
      rw [w3, wipe_idem] at z
      exact z
  · have e : i = ds.length := by omega
    subst e
    rw [List.drop_length] at h
    refine .inl ⟨it.stop H' eG, ?_⟩
    rw [ew] at r' p' ra h
    refine q acc (wipeD ρ' vs) L us H' (none_back p1 hL) hl r'.unwipe (ra.mono ?_) ?_ h
    · exact hide_sub fun a w => w.elim .inl fun w => .inr (own_unwipe w)
    · exact p1.trans ⟨p'.keep, fun a w => p'.own a (own_unwipe w), p'.dom⟩
theorem je_dc {kx vx tg iter : Expr} {ifs : List Expr} {scope : Scope} {own : List (Str × Nat)} {fi : DL} {g : DG} {tt : DT} {tk te : DE} (hc : X.calm = true) (hN : X.N.Nodup) (hi : JI X tg iter fi) (ok : BlkOk X.N X.env.scope scope own)
    (hg : ∀ (s : Shared) (H : Hp) (C : Addr) (cl : List (Str × Addr)) (fp : List Addr), JG (X.blk s H scope (compEnvC scope cl C X.env) fp) tg (own.map (·.2)) g) (ht : ∀ (s : Shared) (H : Hp) (C : Addr) (cl : List (Str × Addr)) (fp : List Addr), JTs (X.blk s H scope (compEnvC scope cl C X.env) fp) ifs tt)
    (hk : ∀ (s : Shared) (H : Hp) (C : Addr) (cl : List (Str × Addr)) (fp : List Addr), JE (X.blk s H scope (compEnvC scope cl C X.env) fp) kx tk)
    (he : ∀ (s : Shared) (H : Hp) (C : Addr) (cl : List (Str × Addr)) (fp : List Addr), JE (X.blk s H scope (compEnvC scope cl C X.env) fp) vx te) (hs : ∀ x, foldedSetIterable iter X.env x = pure x := by intro _; rfl) :
    JE X (.DictComp kx vx [⟨tg, iter, ifs, 0⟩] scope pos) (dOfK (lDc fi g tt tk te (own.map (·.2)))) := by
  obtain ⟨wi, pi, k⟩ := dc_read (vs := own.map (·.2)) (g := g) (tt := tt) (tk := tk) (te := te) hi
  refine ⟨_, pe_dc (wi := wi) (g := tgOf X.K (own.map (·.2)) g) (tt := ttOf X.K tt) (tk := teOf X.K tk) (tv := teOf X.K te) hc hN pi ok (fun s H C cl fp => (hg s H C cl fp).pg) (fun s H C cl fp => (ht s H C cl fp).pts) (fun s H C cl fp => (hk s H C cl fp).pe) (fun s H C cl fp => (he s H C cl fp).pe) hs, fun T ρ σ H QD Q r h q => ?_⟩
  refine k T ρ σ H _ _ r h fun kvs ρ' l kws H' n s r' v' p' h' => ?_
  refine q _ _ _ _ r'.unplus p' (.dct (hide_some.2 ⟨?_, s⟩) (KvRp.rp (v'.mono hd_unplus)) rfl) h'
  rintro (w | w)
  · exact r.dom l w n
  · exact r'.dis l (.inl rfl) w
/-! ### min(l), ints; l * n -/
def dMinL : List D → (D → Prop) → Prop := fun ds Q => ∃ ns : List Int, ds = [.list (ns.map PyData.int)] ∧ ns ≠ [] ∧ ∀ m, m ∈ ns → (∀ z, z ∈ ns → m ≤ z) → Q (.int m)
theorem calld_minL (hc : X.calm = true) : CallD X (.builtin "min") dMinL := by
  refine ⟨_, cr_min hc, fun O H vs ds QD Q hO r h k => ?_⟩
  obtain ⟨ns, rfl, hne, h⟩ := h
  obtain ⟨v, rfl, w1⟩ := rp1 r
  cases w1 with
  | lst hp rr =>
    obtain rfl := rr.of_ints
    exact ⟨_, ns, rfl, .inl (.inl (at_of hp)), List.length_pos_iff.mpr hne, fun m h1 h2 => k _ _ H (.refl H) (.int _) (h m h1 h2)⟩
/-- l.index(x): ints -/
def dIndex (fa fb : DE) : DE := fun ρ Q => fa ρ fun z ρ1 => (∃ ds, z = .list ds) ∧ fb ρ1 fun y ρ2 => ∃ (ns : List Int) (n : Int) (j : Nat), z = .list (ns.map PyData.int) ∧ y = .int n ∧ ns[j]? = some n ∧ (∀ m : Nat, m < j → ns[m]? ≠ some n) ∧ Q (.int (j : Nat)) ρ2
theorem je_index {apos cpos : Pos} (ha : JE X a fa) (hb : JE X b fb)
    (hbase : attributeBase a "index" X.env (eval a X.env) = eval a X.env := by rfl)
    (hfew : ((backTo cpos (starEach [b] X.env)).all (fun x => !x.1) && (backToKw cpos (keywordEach [] X.env)).all (fun x => x.1.isSome)
      && decide (([b] : List Expr).length + ([] : List Keyword).length + (if ([] : List Keyword).isEmpty then 0 else 1) < 30)) = true := by rfl)
    (hline : (apos.endLine == cpos.line) = true := by rfl) (hs : starEach [b] X.env = (false, eval b X.env) :: starEach [] X.env := by rfl) (hplain : (backTo cpos (starEach [] X.env)).any (·.1) = false := by rfl) :
    JE X (.Call (.Attribute a "index" apos) [b] [] cpos) (dIndex fa fb) := by
  obtain ⟨ta, pa, ka⟩ := ha.ex
  obtain ⟨tb, pb, kb⟩ := hb.ex
  refine ⟨_, pe_bm PySem.F.plainAttrs_list PySem.F.slot_list_index (by kernel_rfl) mt_index pa (pa_cons pb pa_nil hs) hbase hfew hline hs hplain, fun T ρ σ H QD Q r h q => ka T ρ σ H _ _ r h fun z ρ1 v H1 r1 p1 v1 h => ?_⟩
  obtain ⟨⟨ds0, e0⟩, h⟩ := h
  subst e0
  cases v1 with
  | lst hp rr =>
    refine ⟨.inl ⟨rfl, _, .inl (.inl (at_of hp))⟩, kb T ρ1 σ H1 _ _ r1 h fun y ρ2 w H2 r2 p2 v2 h => ?_⟩
    obtain ⟨ns, n, j, e, rfl, h1, h2, h9⟩ := h
    cases e
    cases v2
    obtain rfl := rr.of_ints
    have hp2 := (p2.fz (T := T)) _ _ hp
    refine ⟨_, _, _, j, .int n, rfl, rfl, .inl (.inl (at_of hp2)), rfl, ?_, by rw [List.getElem?_map, h1]; rfl, by simp [eqV], fun m z' hm hz => ?_, q _ _ _ _ r2 (p1.trans p2) (.int _) h9⟩
    · rw [List.all_map]; exact List.all_eq_true.mpr fun _ _ => rfl
    · rw [List.getElem?_map] at hz
      obtain ⟨k, hk, rfl⟩ := Option.map_eq_some_iff.mp hz
      have : k ≠ n := fun z => h2 m hm (by rw [hk, z])
      simp [eqV, this]
/-- l * n, a new list -/
def lRep (fa fb : DE) : DL := fun ρ Q => fa ρ fun z ρ1 => fb ρ1 fun y ρ2 => ∃ (ds : List D) (n : Int), z = .list ds ∧ y = .int n ∧ 0 ≤ n ∧ n ≤ 1000 ∧ ds.length ≤ 1000 ∧ Q (List.replicate n.toNat ds).flatten ρ2
theorem jl_rep (ha : JE X a fa) (hb : JE X b fb) : JL X (.BinOp a .Mult b pos) (lRep fa fb) := by
  obtain ⟨ta, pa, ka⟩ := ha.ex
  obtain ⟨tb, pb, kb⟩ := hb.ex
  refine ⟨_, pe_op op_rep pa pb, fun T ρ σ H QD Q r h q => ka T ρ σ H _ _ r h fun z ρ1 v H1 r1 p1 v1 h => kb T ρ1 σ H1 _ _ r1 h fun y ρ2 w H2 r2 p2 v2 h => ?_⟩
  obtain ⟨ds, n, rfl, rfl, h1, h2, h3, h⟩ := h
  cases v2
  have v1' := v1.mono p2.fz
  cases v1' with
  | lst hp rr =>
    refine ⟨_, _, _, rfl, rfl, at_of hp, by omega, by omega, ?_, fun l hl => q _ _ _ _ _ (none_back (p1.trans p2) hl) upd_same (r2.laid hl) ((rr.rep _).mono (hd_laid hl)) ((p1.trans p2).trans (.grow (Ex.new hl))) h⟩
    rw [rr.length]
    have : ds.length * n.toNat ≤ 1000 * 1000 := Nat.mul_le_mul h3 (by omega)
    rw [sizeLine_eq]
    omega
/-- f(..), f a module's name for a built-in function -/
theorem je_callBf {id : String} {op : List D → (D → Prop) → Prop} {g : DA} (hc : CallD X (.builtin id) op) (hm : X.mg x = some (.builtin id)) (ha : JA X (e :: es) g) (hg : Gl X x := by rfl) (hdb : (x == ("__debug__" : Str)) = false := by decide)
    (he : starEach (e :: es) X.env = (false, eval e X.env) :: starEach es X.env := by rfl) (hpl : (backTo pos (starEach es X.env)).any (·.1) = false := by rfl) : JE X (.Call (.Name x p) (e :: es) [] pos) (dCall op g) := by
  obtain ⟨r, h1, h2⟩ := hc.ex
  obtain ⟨t, pa, ka⟩ := ha.ex
  refine ⟨_, pe_callBfun h1 hg hm pa hdb he hpl, fun T ρ σ H QD Q r h q => ka T ρ σ H _ _ r h fun ds ρ1 vs H1 r1 p1 v1 h => ?_⟩
  exact h2 (Hd T ρ1 σ) H1 vs ds _ _ (fun a => r1.hdDom) v1 h fun z v H' e v2 h => q _ _ _ _ (r1.grow e) (p1.trans (.grow e)) v2 h
def dLcm : List D → (D → Prop) → Prop
  | [.int i, .int j] => fun Q => i.natAbs < 2 ^ 64 ∧ j.natAbs < 2 ^ 64 ∧ Q (.int ((Nat.lcm i.natAbs j.natAbs : Nat) : Int))
  | _ => fun _ => False
theorem calld_lcm : CallD X (.builtin "math.lcm") dLcm := by
  refine ⟨_, cr_lcm, fun O H vs ds QD Q hO r h k => ?_⟩
  unfold dLcm at h
  split at h
  · obtain ⟨v, u, rfl, r1, r2⟩ := rp2 r
    cases r1; cases r2
    exact ⟨_, _, rfl, h.1, h.2.1, k _ _ H (.refl H) (.int _) h.2.2⟩
  · exact False.elim h
end
end Dn
set_option Elab.async false
set_option linter.all false
set_option maxRecDepth 100000
set_option autoImplicit false
set_option maxHeartbeats 4000000
/-! Comprehensions of any number of clauses: one clause's loop over any action of a turn, to be nested. -/
namespace Cq
open PySem L2 PySem.Spec PyProof.Rows
abbrev CpAct := Value → Env → (Unit → Sem Fin) → Sem Fin
/-- a turn at depth k, what is done with a found item told as act -/
def TurnEq (C : Expr) (k : Nat) (p : Pos) (tg : Expr) (ifs : List Expr) (act : CpAct) : Prop :=
  ∀ (src lst : Value) (ev : Env), compTurn C k src lst ev = (do
    standAt p
    match ← pyNext src with
    | none => pure (.done .next)
    | some got =>
      letOwnedTupleGo tg src got
      assign tg ev got
      let mut fits := true
      for q in ifs do
        if fits then fits ← isTrue q ev (eval q ev)
      if fits then
        act lst ev fun _ => again (.compLoop C k src lst ev)
      else again (.compLoop C k src lst ev))
def aApp (elt : Expr) : CpAct := fun lst ev kk => (do let _ ← call (.builtin "list.append") [lst, ← eval elt ev]) >>= kk
def aFor (C : Expr) (k : Nat) (i : Expr) : CpAct := fun lst ev kk => do
  let raw ← eval i ev
  standAt i.pos
  let src ← foldedSetIterable i ev raw
  let _ ← runOwn (.compStart C k (← holding [src] (pyIter src)) lst ev) ev
  kk ()
theorem turn3_0 {elt t0 i0 t1 i1 t2 i2 : Expr} {f0 f1 f2 : List Expr} {sc : Scope} {pos : Pos} : TurnEq (.ListComp elt [⟨t0, i0, f0, 0⟩, ⟨t1, i1, f1, 0⟩, ⟨t2, i2, f2, 0⟩] sc pos) 0 i0.pos t0 f0 (aFor (.ListComp elt [⟨t0, i0, f0, 0⟩, ⟨t1, i1, f1, 0⟩, ⟨t2, i2, f2, 0⟩] sc pos) 1 i1) := fun _ _ _ => by rfl
theorem turn3_1 {elt t0 i0 t1 i1 t2 i2 : Expr} {f0 f1 f2 : List Expr} {sc : Scope} {pos : Pos} : TurnEq (.ListComp elt [⟨t0, i0, f0, 0⟩, ⟨t1, i1, f1, 0⟩, ⟨t2, i2, f2, 0⟩] sc pos) 1 i1.pos t1 f1 (aFor (.ListComp elt [⟨t0, i0, f0, 0⟩, ⟨t1, i1, f1, 0⟩, ⟨t2, i2, f2, 0⟩] sc pos) 2 i2) := fun _ _ _ => by rfl
theorem turn3_2 {elt t0 i0 t1 i1 t2 i2 : Expr} {f0 f1 f2 : List Expr} {sc : Scope} {pos : Pos} : TurnEq (.ListComp elt [⟨t0, i0, f0, 0⟩, ⟨t1, i1, f1, 0⟩, ⟨t2, i2, f2, 0⟩] sc pos) 2 i2.pos t2 f2 (aApp elt) := fun _ _ _ => by rfl
/-- what is done with an item, by its reading -/
structure Act (Y : Cx) (act : CpAct) (lst : Value) (vin : List Nat) (bd : L2.St → Hp → (Hp → Prop) → Prop) : Prop where
  run : ∀ (pins : List (Addr × Obj)) (s : Shared) (σ : L2.St) (H : Hp) (Nx : Hp → Prop), Inv Y pins σ H s → bd σ H Nx → ∀ (kk : Unit → Sem Fin) (Q : Fin → Shared → Prop) (E : Value → Shared → Prop),
    (∀ s' H', Inv Y pins (wipe σ vin) H' s' → Nx H' → wpAny (model Y.prog Y.w) Y.A (kk ()) Q E s') → wpAny (model Y.prog Y.w) Y.A (act lst Y.env kk) Q E s
def bApp (D : Addr) (te : TE) : L2.St → Hp → (Hp → Prop) → Prop := fun σ H Nx => te σ H fun y H' => ∃ acc, H' D = some (.lst acc) ∧ acc.length < sizeLine ∧ Nx (upd H' D (.lst (acc ++ [y])))
theorem mF {α : Type} {t : Sem α} {Q Q' : α → Shared → Prop} {M : Model} {A : Around} {E E' : Value → Shared → Prop} {s : Shared} (hx : E = fun _ _ => False) (h : wpAny M A t Q E s) (hq : ∀ a s, Q a s → Q' a s) : wpAny M A t Q' E' s := by
  subst hx
  exact thnF h hq
theorem act_app {Y : Cx} {elt : Expr} {te : TE} {D : Addr} (hx : Y.xe = fun _ _ => False) (he : PE Y elt te) : Act Y (aApp elt) (.ref D) [] (bApp D te) := by
  refine ⟨fun pins s σ H Nx I h kk Q E hk => ?_⟩
  unfold aApp
  refine wpAny_bind (wpAny_bind (mF hx (he.run pins s σ H _ I h) fun u s1 ⟨y, H1, I1, ry, acc, hD, hz, nx⟩ => wpAny_bind ?_))
  exact app_ok I1 hD hz ry fun s2 I2 => wpAny_pure (hk s2 _ I2 nx)
/-- a clause's walk: W by the turn and a measure -/
def bFor (wi : TI) (g : TG) (tt : TT) (bd : L2.St → Hp → (Hp → Prop) → Prop) (vs : List Nat) : L2.St → Hp → (Hp → Prop) → Prop := fun σ H Nx => wi σ H fun J H1 => ∃ W : Nat → Nat → Hp → Prop, (∃ m, W 0 m H1) ∧ ∀ i m H, W i m H →
  (J.stop i H ∧ Nx H) ∨ (J.go i H ∧ ∃ Ny : Hp → Prop, (∀ H', Ny H' → ∃ m', m' < m ∧ W (i + 1) m' H') ∧ ∀ x H', J.yld i H x H' → g x (wipe σ vs) H' fun σ2 H2 => wipe σ2 vs = wipe σ vs ∧ tt σ2 H2 fun b H3 =>
    if b = true then bd σ2 H3 Ny else Ny H3)
theorem wipe_wipe {σ : L2.St} {i : Nat} : ∀ {vs : List Nat}, i ∈ vs → (wipe σ vs)[i]? = none ∨ (wipe σ vs)[i]? = some none
  | [], h => by cases h
  | v :: vs, h => by
    unfold wipe
    by_cases e : v = i
    · subst e
      by_cases l : v < (wipe σ vs).length
      · rw [List.getElem?_set_self l]; exact .inr rfl
      · rw [List.getElem?_eq_none (by simpa using l)]; exact .inl rfl
    · rw [List.getElem?_set_ne e]
      exact wipe_wipe ((List.mem_cons.mp h).resolve_left fun z => e z.symm)
/-- the loop of one clause -/
theorem clause_loop {Y : Cx} (hx : Y.xe = fun _ _ => False) (hc : Y.calm = true) {elt tg : Expr} {gs : List Comprehension} {sc : Scope} {ps p : Pos} {k : Nat} {ifs : List Expr} {act : CpAct} (te : TurnEq (.ListComp elt gs sc ps) k p tg ifs act)
    {J : It} {fp : List Addr} {src : Addr} {tn : Nat → Heap → Prop} (T : Turn Y.prog Y.w Y.K tg J fp src tn) {g : TG} {tt : TT} {lst : Value} {vin vs : List Nat} {bd : L2.St → Hp → (Hp → Prop) → Prop} (pg : PG Y tg g) (pt : PTs Y ifs tt) (ac : Act Y act lst vin bd) (hv : ∀ i ∈ vin, i ∈ vs)
    {pins : List (Addr × Obj)} {σ : L2.St} {W : Nat → Nat → Hp → Prop} {Done : Hp → Prop}
    (turn : ∀ i m H, W i m H → (J.stop i H ∧ Done H) ∨ (J.go i H ∧ ∃ Ny : Hp → Prop, (∀ H', Ny H' → ∃ m', m' < m ∧ W (i + 1) m' H') ∧ ∀ x H', J.yld i H x H' → g x (wipe σ vs) H' fun σ2 H2 => wipe σ2 vs = wipe σ vs ∧ tt σ2 H2 fun b H3 => if b = true then bd σ2 H3 Ny else Ny H3))
    {s : Shared} {H : Hp} {m0 : Nat} (I : Inv Y pins (wipe σ vs) H s) (st : tn 0 s.heap) (hf : ∀ b ∈ fp, FpOk Y pins H b) (w0 : W 0 m0 H) :
    codeAny (model Y.prog Y.w) Y.A (.compLoop (.ListComp elt gs sc ps) k (.ref src) lst Y.env) (fun r s' => r = .ok .next ∧ ∃ H', Inv Y pins (wipe σ vs) H' s' ∧ Done H') s := by
  have rest : ∀ {H' : Hp}, (∀ b ∈ fp, H' b = none) → ∀ b ∈ fp, FpOk Y pins H' b := fun n b hb => ⟨n b hb, (hf b hb).2⟩
  refine codeAny_loop rfl (fun m s' => ∃ i H', Inv Y pins (wipe σ vs) H' s' ∧ tn i s'.heap ∧ (∀ b ∈ fp, H' b = none) ∧ W i m H') (fun m s1 ⟨i, H1, I1, st1, n1, w1⟩ => ?_) m0 ⟨0, H, I, st, fun b hb => (hf b hb).1, w0⟩
  show wpAny _ Y.A ((compTurn (.ListComp elt gs sc ps) k (.ref src) lst Y.env).onRaise (fun z => do noteFrame z Y.env; theTreesLotGoes z)) _ _ s1
  refine wpAny_noted ?_
  rw [te]
  refine wpAny_bind (wpAny_standAt (wpAny_bind ?_))
  rcases turn i m H1 w1 with ⟨hs, hd⟩ | ⟨hg, Ny, hN, step⟩
  · refine thnF (T.done Y rfl rfl rfl hc i pins s1 _ H1 (fun _ _ => False) I1 (rest n1) st1 hs) fun r s2 ⟨hr, I2⟩ => ?_
    subst hr
    exact wpAny_pure ⟨rfl, H1, I2, hd⟩
  · refine thnF (T.item Y rfl rfl rfl hc i pins s1 _ H1 (fun _ _ => False) I1 (rest n1) st1 hg) fun r s2 ⟨u, hr, hu⟩ => ?_
    subst hr
    refine wpAny_bind (thnF hu fun _ s3 ⟨x, H3, I3, rx, yx, st3, n3⟩ => wpAny_bind ?_)
    have I3p := I3.pinned (rest n3) (T.obj _ _ st3)
    refine mF hx (pg.run _ s3 _ H3 x u _ I3p rx (step x H3 yx)) fun _ s4 ⟨σ4, H4, I4, hw, q4⟩ => wpAny_bind ?_
    have back : ∀ {σ5 : L2.St} {s5 : Shared} {H5 : Hp}, Inv Y (pins ++ pinsAt fp s3.heap) σ5 H5 s5 → σ5.length = σ4.length → (∀ (j : Nat) v, (wipe σ vs)[j]? = some (some v) → σ5[j]? = some (some v)) → Ny H5 →
        ∃ m', m' < m ∧ ∃ i H', Inv Y pins (wipe σ vs) H' s5 ∧ tn i s5.heap ∧ (∀ b ∈ fp, H' b = none) ∧ W i m' H' := fun {σ5 s5 H5} I5 hl hk ny => by
      obtain ⟨m', hm, w'⟩ := hN H5 ny
      have pinned : ∀ b ∈ fp, ∀ o, s3.heap.get? b = some o → s5.heap.get? b = some o ∧ H5 b = none := fun b hb o e => by
        have z := I5.pin (b, o) (List.mem_append_right _ (List.mem_append_right _ (mem_pinsAt hb e)))
        exact ⟨z.1, z.2.1⟩
      refine ⟨m', hm, i + 1, H5, (I5.unpinned (pins := pins)).weak ?_ hk, T.keep _ _ _ st3 fun b hb o e => (pinned b hb o e).1, fun b hb => ?_, w'⟩
      · rw [← hw, wipe_length, hl]
      · obtain ⟨o, e, _⟩ := T.obj _ _ st3 b hb
        exact (pinned b hb o e).2
    have kn : ∀ (j : Nat) v, (wipe σ vs)[j]? = some (some v) → σ4[j]? = some (some v) := fun j v e => by
      rw [← hw] at e
      exact (wipe_some e).1
    refine mF hx (pt.run _ s4 σ4 H4 _ I4 q4) fun b s5 ⟨H5, I5, q5⟩ => ?_
    cases b with
    | false => exact wpAny_pure ⟨rfl, back I5 rfl kn q5⟩
    | true =>
      refine ac.run _ s5 σ4 H5 Ny I5 q5 _ _ _ fun s6 H6 I6 ny => wpAny_pure ⟨rfl, back I6 (wipe_length _ _) (fun j v e => ?_) ny⟩
      have e0 := e
      rw [← hw] at e
      obtain ⟨e1, e2⟩ := wipe_some e
      rw [wipe_out fun z => e2 (hv j z)]
      exact e1
/-- a later clause is entered -/
theorem enter_clause {prog : Program} {w : World} {A : Around} {R : Result → Shared → Prop} {s : Shared} {elt tg it : Expr} {ifs : List Expr} {gs : List Comprehension} {sc : Scope} {ps : Pos} {k : Nat} {src lst : Value} {ev : PySem.Env} (hg : gs[k]? = some ⟨tg, it, ifs, 0⟩)
    (h0 : codeAny (model prog w) A (.compLoop (.ListComp elt gs sc ps) k src lst ev) R s)
    (h1 : ∀ (Q : Value → Shared → Prop) (E : Value → Shared → Prop), Q src s → wpAny (model prog w) A (pyIter src) Q E s) :
    codeAny (model prog w) A (.compStart (.ListComp elt gs sc ps) k src lst ev) R s := by
  refine codeAny_of_tree ?_
  show wpAny _ _ ((compStart (.ListComp elt gs sc ps) k src lst ev).onRaise (fun z => do noteFrame z ev; standAt theWindowsPlace)) _ _ s
  refine wpAny_notedAt ?_
  have hcl : (clausesOf (.ListComp elt gs sc ps))[k]? = some ⟨tg, it, ifs, 0⟩ := hg
  unfold compStart
  rw [hcl]
  show wpAny _ _ (ask >>= _) _ _ s
  refine wpAny_bind (wpAny_askSetting (wpAny_ite ?_))
  split
  · first
      | exact wpAny_bind (wpAny_pure (wpAny_pure ⟨rfl, h0⟩))
      | exact wpAny_pure ⟨rfl, h0⟩
  · refine wpAny_bind (wpAny_rule ?_)
    show wpAny _ _ (standAt it.pos >>= _) _ _ s
    exact wpAny_bind (wpAny_standAt (wpAny_bind (h1 _ _ (wpAny_pure ⟨rfl, h0⟩))))
theorem act_for {Y : Cx} (hx : Y.xe = fun _ _ => False) (hc : Y.calm = true) {elt tg it : Expr} {ifs : List Expr} {gs : List Comprehension} {sc : Scope} {ps : Pos} {k : Nat} {act : CpAct} (hg : gs[k]? = some ⟨tg, it, ifs, 0⟩) (te : TurnEq (.ListComp elt gs sc ps) k it.pos tg ifs act)
    {wi : TI} {g : TG} {tt : TT} {D : Addr} {vin vs : List Nat} {bd : L2.St → Hp → (Hp → Prop) → Prop} (hi : PI Y tg it wi) (pg : PG Y tg g) (pt : PTs Y ifs tt) (ac : Act Y act (.ref D) vin bd) (hv : ∀ i ∈ vin, i ∈ vs) (hs : ∀ z, foldedSetIterable it Y.env z = pure z) :
    Act Y (aFor (.ListComp elt gs sc ps) k it) (.ref D) vs (bFor wi g tt bd vs) := by
  refine ⟨fun pins s σ H Nx I h kk Q E hk => ?_⟩
  unfold aFor
  refine wpAny_bind (mF hx (hi.run pins s σ H _ I h) fun z s1 h1 => wpAny_bind (wpAny_standAt (wpAny_bind (wpAny_of_eq (hs z) (wpAny_bind (wpAny_holding (mF hx h1 fun zi s2 h2 => ?_)))))))
  obtain ⟨src, fp, tn, J, H2, e, I2, T, st, hf, W, ⟨m0, w0⟩, turn⟩ := h2
  subst e
  refine wpAny_bind (wpAny_runOwn ?_)
  rw [Around.mark_none]
  have loop := clause_loop hx hc te T pg pt ac hv turn (I2.weak (wipe_length _ _) fun j v e => (wipe_some e).1) st hf w0
  refine codeAny_mono (enter_clause hg loop fun Q E q => T.self _ 0 _ _ _ st q) fun r s3 hr => ?_
  obtain ⟨rfl, H3, I3, nx⟩ := hr
  first
    | exact hk s3 H3 I3 nx
    | exact wpAny_pure (hk s3 H3 I3 nx)
    | exact wpAny_bind (wpAny_pure (hk s3 H3 I3 nx))
end Cq
set_option Elab.async false
set_option linter.all false
set_option maxRecDepth 100000
set_option autoImplicit false
set_option maxHeartbeats 4000000
namespace Cq
open PySem L2 PySem.Spec PyProof.Rows
def tLcN (wi : TI) (g : TG) (tt : TT) (bd : Addr → L2.St → Hp → (Hp → Prop) → Prop) (vs : List Nat) : TE := fun σ H Q => wi σ H fun J H1 => ∀ D, H1 D = none → ∃ W : Nat → Nat → Hp → Prop, (∃ m, W 0 m (upd H1 D (.lst []))) ∧ ∀ i m H, W i m H →
  (J.stop i H ∧ Q (.ref D) H) ∨ (J.go i H ∧ ∃ Ny : Hp → Prop, (∀ H', Ny H' → ∃ m', m' < m ∧ W (i + 1) m' H') ∧ ∀ x H', J.yld i H x H' → g x (wipe σ vs) H' fun σ2 H2 => wipe σ2 vs = wipe σ vs ∧ tt σ2 H2 fun b H3 =>
    if b = true then bd D σ2 H3 Ny else Ny H3)
/-- what holds within the comprehension's block, wherever it stands -/
def InBlk (X : Cx) (scope : Scope) (P : Cx → Prop) : Prop := ∀ (s : Shared) (H : Hp) (C : Addr) (cl : List (Str × Addr)) (fp : List Addr), P (X.blk s H scope (compEnvC scope cl C X.env) fp)
theorem pe_lcN {X : Cx} {elt tg iter : Expr} {ifs : List Expr} {gs : List Comprehension} {scope : Scope} {own : List (Str × Nat)} {vin : List Nat} {pos : Pos} {wi : TI} {g : TG} {tt : TT} {act : CpAct} {bd : Addr → L2.St → Hp → (Hp → Prop) → Prop} (hc : X.calm = true) (hN : X.N.Nodup)
    (te : TurnEq (.ListComp elt (⟨tg, iter, ifs, 0⟩ :: gs) scope pos) 0 iter.pos tg ifs act) (hi : PI X tg iter wi) (ok : BlkOk X.N X.env.scope scope own) (hv : ∀ i ∈ vin, i ∈ own.map (·.2))
    (hg : InBlk X scope fun Y => PG Y tg g) (ht : InBlk X scope fun Y => PTs Y ifs tt) (ha : ∀ D, InBlk X scope fun Y => Act Y act (.ref D) vin (bd D)) (hs : ∀ z, foldedSetIterable iter X.env z = pure z := by intro _; rfl) :
    PE X (.ListComp elt (⟨tg, iter, ifs, 0⟩ :: gs) scope pos) (tLcN wi g tt bd (own.map (·.2))) := by
  refine ⟨fun pins s σ H Q I h => ?_⟩
  rw [eval_ListComp]
  have cellOf : ∀ y ∈ scope.names, y.2 = .free → ∃ c, X.env.cells.lookup y.1 = some c := fun y hy e => (ok.free y hy e).elim (fun k => I.ok.has _ (.inl k)) fun k => I.ok.has _ (.inr k)
  refine wpAny_comprehension_free rfl hs (closure_ok cellOf) ok.kind (fun y hy e => by rw [ok.uniq y hy, e]) (thn (hi.run pins s σ H _ I h) fun z u1 hz => thn hz fun zi u2 h2 => ?_)
  obtain ⟨src, fp, tn, J, H2, e, I2, T, st2, f2, q⟩ := h2
  subst e
  refine wpAny_newObj_type (newEnv_comp ?_) (by show 0 ≤ sizeLine; decide)
  generalize hD : u2.heap.objs.size = D
  have fresh : H2 D = none := I2.hok.fresh (Nat.le_of_eq hD)
  obtain ⟨W, ⟨m0, w0⟩, turn⟩ := q D fresh
  generalize hu3 : ({ u2 with heap := u2.heap.push { cls := .type "list", data := .seq ([] : List Value).toArray } } : Shared) = u3
  have hp3 : u3.heap = u2.heap.push { cls := .type "list", data := .seq ([] : List Value).toArray } := by rw [← hu3]
  have I3 : Inv X pins σ (upd H2 D (.lst [])) u3 := by
    rw [← hu3]
    exact I2.laid (t' := u2.toks) (fun _ _ e => Heap.get?_push_of_some _ e) (Nat.le_of_eq hD) ⟨Nat.zero_le _, [], 0, .nil, by rw [← hD]; exact Heap.get?_push_size _ rfl⟩
  have small : ∀ b ∈ fp, b < u2.heap.objs.size := fun b hb => let ⟨_, e, _⟩ := T.obj _ _ st2 b hb; Heap.lt_size e
  have f3 : ∀ b ∈ fp, FpOk X pins (upd H2 D (.lst [])) b ∧ b < u3.heap.objs.size := fun b hb => by
    have l := small b hb
    refine ⟨⟨?_, (f2 b hb).2⟩, by rw [hp3, Heap.size_push]; exact Nat.lt_succ_of_lt l⟩
    rw [upd_ne (by rw [← hD]; exact Nat.ne_of_lt l)]
    exact (f2 b hb).1
  have st3 : tn 0 u3.heap := T.keep _ _ _ st2 fun _ _ _ e => by rw [hp3]; exact Heap.get?_push_of_some _ e
  have I4 := block_start I3 ok hN f3
  generalize hcl : cellsFrom (u3.heap.objs.size + 1) scope.names (cloFrom X.env.cells scope.names []) = cl at I4
  have pg := hg u3 (upd H2 D (.lst [])) u3.heap.objs.size cl fp
  have pt := ht u3 (upd H2 D (.lst [])) u3.heap.objs.size cl fp
  have pa := ha D u3 (upd H2 D (.lst [])) u3.heap.objs.size cl fp
  generalize hu4 : ({ u3 with heap := pushCells (u3.heap.push { cls := .type "dict", data := .dict #[] }) scope.names } : Shared) = u4 at I4
  have st4 : tn 0 u4.heap := T.keep _ _ _ st3 fun _ _ _ e => by rw [← hu4]; exact pushCells_keeps _ _ _ _ (Heap.get?_push_of_some _ e)
  have fb : ∀ b ∈ fp, FpOk (X.blk u3 (upd H2 D (.lst [])) scope (compEnvC scope cl u3.heap.objs.size X.env) fp) [] (upd H2 D (.lst [])) b := fun b hb =>
    ⟨(f3 b hb).1.1, (I4.ok.exf b hb).1, I4.ok.exfs b hb, .inl hb, fun x c e => (I4.ok.exf b hb).2 x c e, fun p hp => absurd (show p ∈ ([] : List (Addr × Obj)) ++ [] from hp) (by simp)⟩
  have loop := clause_loop (Y := X.blk u3 (upd H2 D (.lst [])) scope (compEnvC scope cl u3.heap.objs.size X.env) fp) rfl hc te T pg pt pa hv turn I4 st4 fb w0
  have loop' := codeAny_compStart_list loop (T.self X.A 0 _ _ _ st4 loop)
  subst hcl
  subst hu4
  subst hu3
  refine codeAny_mono loop' fun r u5 hr => ?_
  obtain ⟨rfl, H5, I5, q5⟩ := hr
  have I6 : Inv X pins σ H5 u5 := I3.call' (ch := fp) I5.os I5.base I5.hok I5.bare fun b hb => ⟨(f3 b hb).1.2.2.2.1, (f3 b hb).1.2.1, (f3 b hb).1.2.2.2.2.1, (f3 b hb).1.2.2.2.2.2⟩
  obtain ⟨mm, hn, _⟩ := I5.loc
  have noC := I5.free
  refine ⟨mm, hn, fun h6 sb => ?_⟩
  obtain ⟨f0, f1, f2', f3', f4, f5⟩ := I3.fpOk (Nat.le_refl _) noC
  exact ⟨.ref D, H5, I6.turned (t' := u5.toks) (fun b o hb e => (sb.2 b hb).trans e) f0 f1 f3' f4 f5, rfl, q5⟩
end Cq
set_option Elab.async false
set_option linter.all false
set_option maxRecDepth 100000
set_option autoImplicit false
set_option maxHeartbeats 4000000
namespace Cq
open PySem L2 PySem.Spec PyProof.Rows
section
variable {X : Cx} {tg : Expr}
theorem cr_range1 : CallR X (.type "range") (fun vs H Q => ∃ j, vs = [V.int j] ∧ ∀ p, H p = none → Q (.ref p) (upd H p (.rng 0 j))) := by
  intro pins s σ H vs us Q I r h
  obtain ⟨j, rfl, q⟩ := h
  obtain ⟨u, rfl, ru⟩ := vals1 r
  obtain ⟨t, rfl⟩ := ru
  refine call_range_1 ⟨.ref s.heap.objs.size, upd H s.heap.objs.size (.rng 0 j), I.laid (t' := s.toks + 1 + 1) (fun _ _ e => Heap.get?_push_of_some _ e) (Nat.le_refl _) ?_, rfl, q _ (I.hok.fresh (Nat.le_refl _))⟩
  exact ⟨s.toks, t, s.toks + 1, Heap.get?_push_size _ rfl⟩
/-- a kept range is walked -/
def iRg (tl : TE) : TI := fun σ H R => tl σ H fun x H1 => ∃ a j, x = .ref a ∧ H1 a = some (.rng 0 j) ∧ 0 ≤ j ∧ j < 2 ^ 62 ∧ R (Itr 0 j.toNat) H1
theorem pi_rg {l : Expr} {tl : TE} (hl : PE X l tl) : PI X tg l (iRg tl) := by
  refine ⟨fun pins s σ H R I h => thn (hl.run pins s σ H _ I h) fun v s1 ⟨x, H1, I1, r1, a, j, e, ha, j0, j1, q⟩ => ?_⟩
  subst e
  cases r1
  obtain ⟨t, u, v, hg⟩ := I1.hok a _ ha
  refine wpAny_pyIter_range (a := 0) (b := j) (c := 1) (t := t) (u := u) (v := v) hg (small_one (by decide) (by decide) (by omega) j1) ?_
  refine ⟨_, [s1.heap.objs.size], _, _, H1, rfl, I1.kept (t' := s1.toks) fun _ _ e => Heap.get?_push_of_some _ e, turn_range _ 0 j.toNat, ?_, fun b hb => ?_, q⟩
  · have e1 : ((j.toNat : Nat) : Int) - ((0 : Nat) : Int) = Builtin.Range.rangeSize 0 j 1 := by rw [rangeSize_one]; split <;> omega
    show IsRangeIter _ _ (0 + ((0 : Nat) : Int) * 1) _ 1
    rw [e1]
    exact Heap.get?_push_size _ rfl
  · obtain rfl : b = s1.heap.objs.size := by simpa using hb
    exact I1.fpOk (Nat.le_refl _) (I1.hok.fresh (Nat.le_refl _))
end
end Cq
set_option Elab.async false
set_option linter.all false
set_option maxRecDepth 100000
set_option autoImplicit false
set_option maxHeartbeats 4000000
/-! letters = range(size); [(x, y, z) for x in letters for y in letters for z in letters] -/
namespace Dn
open PySem L2 Evl Cq PyProof.Rows
def t3 (n : Nat) : List (Int × Int × Int) := (rgI n).flatMap fun x => (rgI n).flatMap fun y => (rgI n).map fun z => (x, y, z)
def tT (t : Int × Int × Int) : D := .tuple [.int t.1, .int t.2.1, .int t.2.2]
def vT (t : Int × Int × Int) : HO := .tup [.int t.1, .int t.2.1, .int t.2.2]
theorem flat_len {α β : Type} (l : List α) (f : α → List β) (k : Nat) (h : ∀ a, a ∈ l → (f a).length = k) : (l.flatMap f).length = l.length * k := by
  induction l with
  | nil => simp
  | cons a l ih =>
    rw [List.flatMap_cons, List.length_append, h a (by simp), ih fun b hb => h b (by simp [hb]), List.length_cons, Nat.succ_mul, Nat.add_comm]
theorem t3_len (n : Nat) : (t3 n).length = n * (n * n) := by
  unfold t3
  rw [flat_len _ _ (n * n) fun x _ => ?_, rgI_len]
  rw [flat_len _ _ n fun y _ => by rw [List.length_map, rgI_len], rgI_len]
theorem rgI_succ (n : Nat) : rgI (n + 1) = rgI n ++ [(n : Int)] := by
  unfold rgI
  rw [List.range_succ, List.map_append]
  rfl
theorem mem_t3 {n : Nat} {t : Int × Int × Int} : t ∈ t3 n ↔ (0 ≤ t.1 ∧ t.1 < n) ∧ (0 ≤ t.2.1 ∧ t.2.1 < n) ∧ 0 ≤ t.2.2 ∧ t.2.2 < n := by
  unfold t3
  simp only [List.mem_flatMap, List.mem_map, mem_rgI]
  constructor
  · rintro ⟨x, hx, y, hy, z, hz, rfl⟩; exact ⟨hx, hy, hz⟩
  · rintro ⟨hx, hy, hz⟩; exact ⟨t.1, hx, t.2.1, hy, t.2.2, hz, rfl⟩
theorem pair_app {α β : Type} {R : α → β → Prop} : ∀ {a c : List α} {b d : List β}, Paired R a b → Paired R c d → Paired R (a ++ c) (b ++ d)
  | _, _, _, _, .nil, q => q
  | _, _, _, _, .cons h p, q => .cons h (pair_app p q)
/-- the list at L holds new triples -/
def Tri (H1 H : Hp) (L : Addr) (ts : List (Int × Int × Int)) : Prop := Ex H1 H ∧ ∃ us, H L = some (.lst us) ∧ Paired (fun (t : Int × Int × Int) (u : V) => ∃ a, u = .ref a ∧ a ≠ L ∧ H1 a = none ∧ H a = some (vT t)) ts us
theorem Tri.snoc {H1 H : Hp} {L q : Addr} {ts : List (Int × Int × Int)} (h : Tri H1 H L ts) (hL : H1 L = none) (hq : H q = none) (t : Int × Int × Int) : ∃ us, upd H q (vT t) L = some (.lst us) ∧ us.length = ts.length ∧ Tri H1 (upd (upd H q (vT t)) L (.lst (us ++ [.ref q]))) L (ts ++ [t]) := by
  obtain ⟨e, us, hl, hp⟩ := h
  have qL : q ≠ L := fun z => by rw [z, hl] at hq; cases hq
  refine ⟨us, by rw [upd_ne qL.symm]; exact hl, hp.length.symm, ?_, us ++ [.ref q], upd_same, ?_⟩
  · intro a o w
    rw [upd_ne (fun z => by rw [z, hL] at w; cases w), upd_ne (fun z => by rw [← z, e a o w] at hq; cases hq)]
    exact e a o w
  · refine pair_app (Paired.mapP hp fun s u z => ?_) (.cons ⟨q, rfl, qL, ?_, by rw [upd_ne qL, upd_same]⟩ .nil)
    · obtain ⟨a, e1, e2, e3, e4⟩ := z
      exact ⟨a, e1, e2, e3, by rw [upd_ne e2, upd_ne (fun z => by rw [← z, e4] at hq; cases hq)]; exact e4⟩
    · cases w : H1 q with
      | none => rfl
      | some o => rw [e q o w] at hq; cases hq
def g3 : DS := fun E ρ => ∃ n : Nat, ρ = [some (.im (.int n)), none, none, none, none] ∧ n ≤ 60 ∧ E.rt (.list ((t3 n).map tT)) ρ
theorem tri_step {H1 H : Hp} {L : Addr} {ts : List (Int × Int × Int)} (h : Tri H1 H L ts) (hL : H1 L = none) (hl : ts.length < 16777216) {x y z : Int} {σ : L2.St} (e2 : σ[2]? = some (some (.int x))) (e3 : σ[3]? = some (some (.int y))) (e4 : σ[4]? = some (some (.int z))) {Nx : Hp → Prop} (k : ∀ H', Tri H1 H' L (ts ++ [(x, y, z)]) → Nx H') :
    bApp L (tTup (tCons (tVar 2) (tCons (tVar 3) (tCons (tVar 4) tNil)))) σ H Nx := by
  refine ⟨_, e2, _, e3, _, e4, by show 3 ≤ sizeLine; decide, fun q hq => ?_⟩
  obtain ⟨us, h1, h2, h3⟩ := h.snoc hL hq (x, y, z)
  exact ⟨us, h1, by rw [h2, sizeLine_eq]; exact hl, k _ h3⟩
/-- a clause over 0, 1, .. n - 1 that only lengthens the list -/
theorem clause_W {i : Nat} {bd : L2.St → Hp → (Hp → Prop) → Prop} {vs : List Nat} {H1 : Hp} {L : Addr} {n : Nat} (f : Int → List (Int × Int × Int)) {ts : List (Int × Int × Int)} {σ : L2.St} {H : Hp} {Nx : Hp → Prop}
    (hw : ∀ x : V, wipe ((wipe σ vs).set i (some x)) vs = wipe σ vs)
    (hb : ∀ (x : Nat) (us : List (Int × Int × Int)) (H' : Hp) (Ny : Hp → Prop), x < n → Tri H1 H' L us → us = ts ++ (rgI x).flatMap f → (∀ H2, Tri H1 H2 L (us ++ f x) → Ny H2) → bd ((wipe σ vs).set i (some (.int x))) H' Ny)
    (h : Tri H1 H L ts) (k : ∀ H', Tri H1 H' L (ts ++ (rgI n).flatMap f) → Nx H') :
    ∃ W : Nat → Nat → Hp → Prop, (∃ m, W 0 m H) ∧ ∀ j m H, W j m H → ((Itr 0 (n : Int).toNat).stop j H ∧ Nx H) ∨ ((Itr 0 (n : Int).toNat).go j H ∧ ∃ Ny : Hp → Prop, (∀ H', Ny H' → ∃ m', m' < m ∧ W (j + 1) m' H') ∧ ∀ x H', (Itr 0 (n : Int).toNat).yld j H x H' →
      gName i x (wipe σ vs) H' fun σ2 H2 => wipe σ2 vs = wipe σ vs ∧ tYes σ2 H2 fun b H3 => if b = true then bd σ2 H3 Ny else Ny H3) := by
  refine ⟨fun j m H' => m = n - j ∧ j ≤ n ∧ Tri H1 H' L (ts ++ (rgI j).flatMap f), ⟨n, by simp, Nat.zero_le _, by simpa [rgI] using h⟩, ?_⟩
  rintro j m H' ⟨rfl, hj, t⟩
  by_cases l : j < n
  · refine .inr ⟨by show j < (n : Int).toNat; omega, fun H2 => Tri H1 H2 L (ts ++ (rgI (j + 1)).flatMap f), fun H2 q => ⟨n - (j + 1), by omega, rfl, l, q⟩, fun x H2 y => ?_⟩
    obtain ⟨rfl, rfl⟩ := y
    refine ⟨hw _, ?_⟩
    show bd _ _ _
    rw [Int.zero_add]
    refine hb j _ _ _ l t rfl fun H3 q => ?_
    rw [rgI_succ, List.flatMap_append, ← List.append_assoc]
    simpa using q
  · have e : j = n := by omega
    subst e
    exact .inl ⟨by show (j : Int).toNat ≤ j; omega, k _ t⟩
theorem clause_ok {tl : TE} {i : Nat} {bd : L2.St → Hp → (Hp → Prop) → Prop} {vs : List Nat} {H1 : Hp} {L p : Addr} {n : Nat} (f : Int → List (Int × Int × Int)) {ts : List (Int × Int × Int)} {σ : L2.St} {H : Hp} {Nx : Hp → Prop} (hp : H1 p = some (.rng 0 n)) (hn : n < 100)
    (ht : ∀ (H' : Hp) (Q : VK), Q (.ref p) H' → tl σ H' Q) (hw : ∀ x : V, wipe ((wipe σ vs).set i (some x)) vs = wipe σ vs)
    (hb : ∀ (x : Nat) (us : List (Int × Int × Int)) (H' : Hp) (Ny : Hp → Prop), x < n → Tri H1 H' L us → us = ts ++ (rgI x).flatMap f → (∀ H2, Tri H1 H2 L (us ++ f x) → Ny H2) → bd ((wipe σ vs).set i (some (.int x))) H' Ny)
    (h : Tri H1 H L ts) (k : ∀ H', Tri H1 H' L (ts ++ (rgI n).flatMap f) → Nx H') : bFor (iRg tl) (gName i) tYes bd vs σ H Nx :=
  ht H _ ⟨p, n, rfl, h.1 _ _ hp, by omega, by omega, clause_W f hw hb h k⟩
theorem flat_one {α β : Type} (l : List α) (f : α → β) : (l.flatMap fun a => [f a]) = l.map f := by
  induction l with
  | nil => rfl
  | cons a l ih => rw [List.flatMap_cons, ih]; rfl
theorem tri_rp {K : PySem.W.Frag} {O : Addr → Prop} {H1 H : Hp} {L : Addr} (hO : ∀ a, O a → H1 a ≠ none) : ∀ {ts : List (Int × Int × Int)} {us : List V}, Paired (fun (t : Int × Int × Int) (u : V) => ∃ a, u = .ref a ∧ a ≠ L ∧ H1 a = none ∧ H a = some (vT t)) ts us → RpAll K (hide O H) us (ts.map tT)
  | _, _, .nil => .nil
  | _, _, .cons ⟨a, e, _, e1, e2⟩ r => by
    subst e
    exact .cons (.tup (hide_some.2 ⟨fun w => hO a w e1, e2⟩) (.cons (.int _) (.cons (.int _) (.cons (.int _) .nil)))) (tri_rp hO r)
section
variable {X : Cx}
theorem jss_threes {sc : Scope} {q1 q2 q3 q4 q5 p2 p3 p4 p5 p6 p7 p8 p9 pa pb pc pd : Pos} {kk} (hc : X.calm = true) (hN : X.N.Nodup) (h0 : X.N = (["size", "letters", "x", "y", "z"] : List Str)) (hm : X.mg "range" = none) (hg : Gl X "range")
    (v0 : Vis X.env.scope "size") (l1 : Loc X.env.scope "letters") (f1 : X.fn "letters" = true ∨ X.env.scope.names.lookup ("letters" : Str) = some .local) (v1 : Vis X.env.scope "letters") (ok : BlkOk X.N X.env.scope sc [("x", 2), ("y", 3), ("z", 4)])
    (pi1 : InBlk X sc fun Y => PE Y (.Name "letters" p5) (tVar 1)) (pi2 : InBlk X sc fun Y => PE Y (.Name "letters" p7) (tVar 1))
    (gx : InBlk X sc fun Y => PG Y (.Name "x" p2) (gName 2)) (gy : InBlk X sc fun Y => PG Y (.Name "y" p4) (gName 3)) (gz : InBlk X sc fun Y => PG Y (.Name "z" p6) (gName 4))
    (el : InBlk X sc fun Y => PE Y (.Tuple [.Name "x" p8, .Name "y" p9, .Name "z" pa] kk pb) (tTup (tCons (tVar 2) (tCons (tVar 3) (tCons (tVar 4) tNil)))))
    (hs : swapsWith (.Call (.Name "range" q2) [.Name "size" q3] [] q4) (some (.Name "letters" q1)) q5.line X.env = pure false)
    (hst : starEach [.Name "size" q3] X.env = (false, eval (.Name "size" q3) X.env) :: starEach [] X.env) (hpl : (backTo q4 (starEach [] X.env)).any (·.1) = false) :
    JSs X [.Assign [.Name "letters" q1] (.Call (.Name "range" q2) [.Name "size" q3] [] q4) q5, .Return (some (.ListComp (.Tuple [.Name "x" p8, .Name "y" p9, .Name "z" pa] kk pb) [⟨.Name "x" p2, .Name "letters" p3, [], 0⟩, ⟨.Name "y" p4, .Name "letters" p5, [], 0⟩, ⟨.Name "z" p6, .Name "letters" p7, [], 0⟩] sc pc)) pd] g3 := by
  have n0 : X.N[0]? = some ("size" : Str) := by rw [h0]; rfl
  have n1 : X.N[1]? = some ("letters" : Str) := by rw [h0]; rfl
  have a1 : PS X (.Assign [.Name "letters" q1] (.Call (.Name "range" q2) [.Name "size" q3] [] q4) q5) _ := ps_set (i := 1) hN n1 l1 (pe_callTy cr_range1 hg hm boot_range (pa_cons (pe_var (i := 0) n0 v0) pa_nil hst) (by decide) (by decide) hst hpl) hs f1
  have acts : ∀ D, InBlk X sc fun Y => Act Y (aFor (.ListComp (.Tuple [.Name "x" p8, .Name "y" p9, .Name "z" pa] kk pb) [⟨.Name "x" p2, .Name "letters" p3, [], 0⟩, ⟨.Name "y" p4, .Name "letters" p5, [], 0⟩, ⟨.Name "z" p6, .Name "letters" p7, [], 0⟩] sc pc) 1 (.Name "letters" p5)) (.ref D) [3, 4]
      (bFor (iRg (tVar 1)) (gName 3) tYes (bFor (iRg (tVar 1)) (gName 4) tYes (bApp D (tTup (tCons (tVar 2) (tCons (tVar 3) (tCons (tVar 4) tNil))))) [4]) [3, 4]) := fun D s H C cl fp => by
    have e1 := el s H C cl fp
    have y1 := pi1 s H C cl fp
    have y2 := pi2 s H C cl fp
    have z1 := gy s H C cl fp
    have z2 := gz s H C cl fp
    generalize hY : X.blk s H sc (compEnvC sc cl C X.env) fp = Y at e1 y1 y2 z1 z2
    have x1 : Y.xe = fun _ _ => False := by rw [← hY]
    have x2 : Y.calm = true := by rw [← hY]; exact hc
    exact act_for x1 x2 rfl turn3_1 (pi_rg (tg := .Name "y" p4) y1) z1 pts_nil (act_for x1 x2 rfl turn3_2 (pi_rg (tg := .Name "z" p6) y2) z2 pts_nil (act_app x1 e1) (by intro i hi; cases hi) (fun _ => rfl)) (by intro i hi; simp at hi ⊢; exact .inr hi) (fun _ => rfl)
  have a2 := pe_lcN (X := X) (pos := pc) (own := [("x", 2), ("y", 3), ("z", 4)]) (vin := [3, 4]) (act := aFor _ 1 (.Name "letters" p5))
    (bd := fun D => bFor (iRg (tVar 1)) (gName 3) tYes (bFor (iRg (tVar 1)) (gName 4) tYes (bApp D (tTup (tCons (tVar 2) (tCons (tVar 3) (tCons (tVar 4) tNil))))) [4]) [3, 4]) (wi := iRg (tVar 1)) (g := gName 2) (tt := tYes)
    hc hN turn3_0 (pi_rg (tg := .Name "x" p2) (pe_var (i := 1) (pos := p3) n1 v1)) ok (by decide) gx (fun _ _ _ _ _ => pts_nil)
    acts (fun _ => rfl)
  refine ⟨_, pss_cons a1 (pss_one (ps_ret a2)), fun T ρ σ H E D r h k => ?_⟩
  obtain ⟨n, rfl, hn, h⟩ := h
  obtain ⟨v, s0, rv⟩ := r.im 0 _ rfl
  cases rv
  refine ⟨_, s0, _, rfl, fun p hp => ?_⟩
  have len : σ.length = 5 := by rw [← r.len]; rfl
  obtain ⟨b0, b1, b2, b3, b4, rfl⟩ : ∃ b0 b1 b2 b3 b4, σ = [b0, b1, b2, b3, b4] := by
    match σ, len with
    | [b0, b1, b2, b3, b4], _ => exact ⟨_, _, _, _, _, rfl⟩
  simp at s0
  subst s0
  have e1 := Ex.new (o := .rng 0 n) hp
  refine ⟨_, rfl, p, n, rfl, upd_same, by omega, by omega, fun L hL => ?_⟩
  have lP : upd H p (.rng 0 n) p = some (.rng 0 n) := upd_same
  refine clause_W (i := 2) (vs := [2, 3, 4]) (H1 := upd H p (.rng 0 n)) (L := L) (n := n) (σ := [some (.int n), some (.ref p), b2, b3, b4])
    (bd := bFor (iRg (tVar 1)) (gName 3) tYes (bFor (iRg (tVar 1)) (gName 4) tYes (bApp L (tTup (tCons (tVar 2) (tCons (tVar 3) (tCons (tVar 4) tNil))))) [4]) [3, 4])
    (fun x => (rgI n).flatMap fun y => (rgI n).map fun z => (x, y, z)) (ts := []) (Nx := fun H' => D.rt (.ref L) H') (fun x => rfl) (fun x us H' Ny hx t e k1 => ?_) ⟨Ex.new hL, [], upd_same, .nil⟩ (fun H' t => ?_)
  · have cap : ∀ us : List (Int × Int × Int), us.length ≤ n * (n * n) → us.length < 16777216 := fun us l => by
      have a := Nat.mul_le_mul hn (Nat.mul_le_mul hn hn)
      omega
    refine clause_ok (p := p) (n := n) (fun y => (rgI n).map fun z => ((x : Int), y, z)) lP (by omega) (fun H' Q q => ⟨_, rfl, q⟩) (fun x => rfl) (fun y us2 H2 Nz hy t2 e2 k2 => ?_) t k1
    refine clause_ok (p := p) (n := n) (fun z => [((x : Int), (y : Int), z)]) lP (by omega) (fun H' Q q => ⟨_, rfl, q⟩) (fun x => rfl) (fun z us3 H3 Nw hz t3' e3 k3 => ?_) t2 (fun H3 q => k2 H3 (by rw [← flat_one]; exact q))
    refine tri_step t3' hL (cap _ ?_) rfl rfl rfl k3
    have c1 : us.length = x * (n * n) := by
      rw [e, List.nil_append, flat_len _ _ (n * n) fun a _ => ?_, rgI_len]
      rw [flat_len _ _ n fun b _ => by rw [List.length_map, rgI_len], rgI_len]
    have c2 : us2.length = us.length + y * n := by
      rw [e2, List.length_append, flat_len _ _ n fun b _ => by rw [List.length_map, rgI_len], rgI_len]
    have c3 : us3.length = us2.length + z := by
      rw [e3, List.length_append, flat_len _ _ 1 fun b _ => rfl, rgI_len, Nat.mul_one]
    have h1 : (x + 1) * (n * n) ≤ n * (n * n) := Nat.mul_le_mul_right _ hx
    have h2 : (y + 1) * n ≤ n * n := Nat.mul_le_mul_right _ hy
    rw [Nat.succ_mul] at h1 h2
    omega
  · obtain ⟨eX, us, hl, hp3⟩ := t
    rw [List.nil_append] at hp3
    have eX' : Ex H H' := e1.trans eX
    have lN : H L = none := by
      cases w : H L with
      | none => rfl
      | some o => rw [e1 L o w] at hL; cases hL
    have r2 := (r.grow eX').congr (σ' := [some (.int n), some (.ref p), b2, b3, b4]) rfl (fun i sv w => by
      match i, w with
      | 0, _ => rfl
      | 1, w => cases w
      | 2, w => cases w
      | 3, w => cases w
      | 4, w => cases w
      | i + 5, w => simp at w)
    have noO : ∀ a, Hd T [some (.im (.int n)), none, none, none, none] [some (.int n), some (.ref p), b2, b3, b4] a → upd H p (.rng 0 n) a ≠ none := fun a w => by
      rcases w with w | ⟨i, m, w, _⟩
      · have := r.dom a w
        cases q : H a with
        | none => exact absurd q this
        | some o => rw [e1 a o q]; simp
      · match i, w with
        | 0, w => cases w
        | 1, w => cases w
        | 2, w => cases w
        | 3, w => cases w
        | 4, w => cases w
        | i + 5, w => simp at w
    have po : Po [some (.im (.int n)), none, none, none, none] [some (.int n), b1, b2, b3, b4] H [some (.im (.int n)), none, none, none, none] [some (.int n), some (.ref p), b2, b3, b4] H' := ⟨fun a o _ w => eX' a o w, fun a ⟨i, m, w, _⟩ => by
      match i, w with
      | 0, w => cases w
      | 1, w => cases w
      | 2, w => cases w
      | 3, w => cases w
      | 4, w => cases w
      | i + 5, w => simp at w, fun a w => by
      cases q : H a with
      | none => exact absurd q w
      | some o => rw [eX' a o q]; simp⟩
    exact k.rt _ _ _ _ _ r2 po (.lst (hide_some.2 ⟨fun w => noO L w hL, hl⟩) (tri_rp noO hp3)) h
end
end Dn
set_option Elab.async false
set_option linter.all false
set_option maxRecDepth 100000
set_option autoImplicit false
set_option maxHeartbeats 4000000
/-! Lists of lists that are changed through a second name: the frame's new lists are told by their shape alone. -/
namespace Dn
open PySem L2 Evl
/-- no list and no dict stands in it -/
inductive NL : D → Prop
  | non : NL .none
  | bl (b : Bool) : NL (.bool b)
  | int (i : Int) : NL (.int i)
  | str (x : Str) : NL (.str x)
  | tup {ds : List D} : (∀ d, d ∈ ds → NL d) → NL (.tuple ds)
/-- lists of such, of any depth -/
inductive PL : D → Prop
  | nl {d : D} : NL d → PL d
  | lst {ds : List D} : (∀ d, d ∈ ds → PL d) → PL (.list ds)
def notL : D → Prop
  | .list _ => False
  | _ => True
/-- some lists of notL things are now es -/
inductive Ch (es : List D) : D → D → Prop
  | nl {d : D} : NL d → Ch es d d
  | repl {ds : List D} : (∀ d, d ∈ ds → notL d) → es.length = ds.length → Ch es (.list ds) (.list es)
  | lst {ds ds' : List D} : ds'.length = ds.length → (∀ (i : Nat) (d d' : D), ds[i]? = some d → ds'[i]? = some d' → Ch es d d') → Ch es (.list ds) (.list ds')
section
variable {K : PySem.W.Frag} {T B : Addr → Prop} {p : Addr} {ρ ρ1 ρ' : Env} {σ σ1 : L2.St} {H H1 H' G G' : Hp}
theorem NL.notL {d : D} (h : NL d) : notL d := by cases h <;> trivial
mutual
theorem nl_keep {b : Addr} (hb : ∀ a o, a ≠ b → G a = some o → G' a = some o) {xs : List V} (hl : G b = some (.lst xs)) : ∀ {v : V} {d : D}, NL d → Rp K G v d → Rp K G' v d
  | _, _, _, .non => .non
  | _, _, _, .bl b => .bl b
  | _, _, _, .int b => .int b
  | _, _, _, .str b => .str b
  | _, _, n, .lst _ _ => nomatch n
  | _, _, .tup n, .tup h r => .tup (hb _ _ (fun z => by rw [z, hl] at h; cases h) h) (nls_keep hb hl n r)
  | _, _, n, .dct _ _ z => by subst z; cases n
  | _, _, n, .frz _ _ => nomatch n
theorem nls_keep {b : Addr} (hb : ∀ a o, a ≠ b → G a = some o → G' a = some o) {xs : List V} (hl : G b = some (.lst xs)) : ∀ {vs : List V} {ds : List D}, (∀ d, d ∈ ds → NL d) → RpAll K G vs ds → RpAll K G' vs ds
  | _, _, _, .nil => .nil
  | _, _, n, .cons h r => .cons (nl_keep hb hl (n _ (by simp)) h) (nls_keep hb hl (fun d hd => n d (by simp [hd])) r)
end
/-- of a value that is related to something without lists -/
theorem notL_same {v : V} {d e : D} (h : Rp K G v d) (n : NL d) (h2 : Rp K G v e) : notL e := by
  cases h2 with
  | lst q _ =>
    cases h with
    | lst _ _ => cases n
    | tup p _ => rw [q] at p; cases p
    | dct _ _ z => subst z; cases n
    | frz _ _ => cases n
  | _ => trivial
theorem notL_all : ∀ {vs : List V} {ds es : List D}, RpAll K G vs ds → (∀ d, d ∈ ds → NL d) → RpAll K G vs es → ∀ e, e ∈ es → notL e
  | _, _, _, .nil, _, .nil => by simp
  | _, _, _, .cons h r, n, .cons h2 r2 => fun e he => by
    rcases List.mem_cons.mp he with rfl | he
    · exact notL_same h (n _ (by simp)) h2
    · exact notL_all r (fun d hd => n d (by simp [hd])) r2 e he
/-- the list at b is changed -/
theorem pl_change {b : Addr} {xs us : List V} {ds0 es : List D} (hb : ∀ a o, a ≠ b → G a = some o → G' a = some o) (hl : G b = some (.lst xs)) (hl' : G' b = some (.lst us)) (h0 : RpAll K G xs ds0) (n0 : ∀ d, d ∈ ds0 → NL d) (hu : RpAll K G us es) (ne : ∀ d, d ∈ es → NL d) (le : us.length = xs.length) :
    ∀ {d : D}, PL d → ∀ {v : V}, Rp K G v d → ∃ d', Rp K G' v d' ∧ Ch es d d' := by
  intro d p
  induction p with
  | nl n => exact fun r => ⟨_, nl_keep hb hl n r, .nl n⟩
  | @lst ds _ ih =>
    intro v r
    cases r with
    | @lst a ys _ q rr =>
      by_cases e : a = b
      · subst e
        rw [hl] at q; cases q
        exact ⟨.list es, .lst hl' (nls_keep hb hl ne hu), .repl (notL_all h0 n0 rr) (by rw [← hu.length, le, rr.length])⟩
      · have all : ∀ {ys : List V} {ds : List D}, (∀ d, d ∈ ds → ∀ {v : V}, Rp K G v d → ∃ d', Rp K G' v d' ∧ Ch es d d') → RpAll K G ys ds → ∃ ds', RpAll K G' ys ds' ∧ ds'.length = ds.length ∧ ∀ (i : Nat) (d d' : D), ds[i]? = some d → ds'[i]? = some d' → Ch es d d' := by
          intro ys ds f r
          induction ds generalizing ys with
          | nil => cases r; exact ⟨[], .nil, rfl, by simp⟩
          | cons d ds ih2 =>
            cases r with
            | cons r1 r2 =>
              obtain ⟨d', a1, a2⟩ := f d (by simp) r1
              obtain ⟨ds', b1, b2, b3⟩ := ih2 (fun d hd => f d (by simp [hd])) r2
              refine ⟨d' :: ds', .cons a1 b1, by simp [b2], fun i x y => ?_⟩
              cases i with
              | zero => intro h1 h2; simp at h1 h2; subst h1 h2; exact a2
              | succ i => intro h1 h2; exact b3 i x y (by simpa using h1) (by simpa using h2)
        obtain ⟨ds', a1, a2, a3⟩ := all ih rr
        exact ⟨.list ds', .lst (hb _ _ e q) a1, .lst a2 a3⟩
/-- a frame whose slots hold plain things, and the dice at p in slot 0 -/
structure Fr (p : Addr) (ρ : Env) : Prop where
  dice : ∃ a b c : Int, ρ[0]? = some (some (.ow (.par p (.lst [.int a, .int b, .int c]))))
  rest : ∀ (i : Nat) (sv : SV), ρ[i]? = some (some sv) → i ≠ 0 → ∃ d, sv = .im d ∧ PL d
structure Qs (K : PySem.W.Frag) (T B : Addr → Prop) (p : Addr) (ρ : Env) (σ : L2.St) (H : Hp) : Prop where
  rs : RS K T ρ σ H
  fr : Fr p ρ
  lists : ∀ a xs, ¬ T a → a ≠ p → H a = some (.lst xs) → B a
  new : ∀ a, H a = none → B a
theorem Qs.at0 (q : Qs K T B p ρ σ H) : σ[0]? = some (some (.ref p)) := by
  obtain ⟨a, b, c, h⟩ := q.fr.dice
  obtain ⟨x, o, h1, _⟩ := q.rs.ow 0 _ h
  rw [h1, q.rs.tag 0 p _ x h h1]
theorem Qs.own (q : Qs K T B p ρ σ H) {a : Addr} : Own ρ σ a ↔ a = p := by
  constructor
  · rintro ⟨i, m, h1, h2⟩
    by_cases e : i = 0
    · subst e; rw [q.at0] at h2; cases h2; rfl
    · obtain ⟨d, z, _⟩ := q.fr.rest i _ h1 e
      cases z
  · rintro rfl
    obtain ⟨a, b, c, h⟩ := q.fr.dice
    exact ⟨0, _, h, q.at0⟩
theorem Qs.hd (q : Qs K T B p ρ σ H) {a : Addr} : Hd T ρ σ a ↔ T a ∨ a = p := by unfold Hd; rw [q.own]
/-- steps of the ordinary kind -/
theorem Qs.step (q : Qs K T B p ρ σ H) (r : RS K T ρ1 σ1 H1) (po : Po ρ σ H ρ1 σ1 H1) (f : Fr p ρ1) : Qs K T B p ρ1 σ1 H1 := by
  refine ⟨r, f, fun a xs t n h => ?_, fun a h => ?_⟩
  · cases w : H a with
    | none => exact q.new a w
    | some o =>
      have := po.keep a o (fun z => n (q.own.1 z)) w
      rw [h] at this; cases this
      exact q.lists a xs t n w
  · cases w : H a with
    | none => exact q.new a w
    | some o => exact absurd h (po.dom a (by rw [w]; simp))
structure Kp (B : Addr → Prop) (p : Addr) (H H' : Hp) : Prop where
  keep : ∀ a o, a ≠ p → ¬ B a → H a = some o → H' a = some o
  dom : ∀ a, H a ≠ none → H' a ≠ none
theorem Kp.refl {B : Addr → Prop} {p : Addr} : Kp B p H H := ⟨fun _ _ _ _ h => h, fun _ h => h⟩
theorem Kp.trans {B : Addr → Prop} {p : Addr} {H2 : Hp} (a : Kp B p H H1) (b : Kp B p H1 H2) : Kp B p H H2 := ⟨fun x o n m h => b.keep x o n m (a.keep x o n m h), fun x h => b.dom x (a.dom x h)⟩
theorem Qs.kp (q : Qs K T B p ρ σ H) (po : Po ρ σ H ρ1 σ1 H1) : Kp B p H H1 := ⟨fun a o n _ h => po.keep a o (fun z => n (q.own.1 z)) h, po.dom⟩
structure EndB (K : PySem.W.Frag) (T B : Addr → Prop) (p : Addr) (H : Hp) (E : DEnds) (D : Ends) : Prop where
  nx : ∀ ρ' σ' H', Qs K T B p ρ' σ' H' → Kp B p H H' → E.nx ρ' → D.nx σ' H'
  rt : ∀ d ρ' σ' v H', Qs K T B p ρ' σ' H' → Kp B p H H' → Rp K (hide (Hd T ρ' σ') H') v d → E.rt d ρ' → D.rt v H'
theorem EndB.step {E : DEnds} {D : Ends} (e : EndB K T B p H E D) (k : Kp B p H H1) : EndB K T B p H1 E D := ⟨fun a b c q k2 => e.nx a b c q (k.trans k2), fun a b c d f q k2 => e.rt a b c d f q (k.trans k2)⟩
theorem list_choose {α β : Type} : ∀ (l : List α) (R : Nat → α → β → Prop), (∀ i x, l[i]? = some x → ∃ y, R i x y) → ∃ l' : List β, l'.length = l.length ∧ ∀ i x, l[i]? = some x → ∃ y, l'[i]? = some y ∧ R i x y
  | [], _, _ => ⟨[], rfl, by simp⟩
  | a :: l, R, h => by
    obtain ⟨y, hy⟩ := h 0 a rfl
    obtain ⟨l', h1, h2⟩ := list_choose l (fun i => R (i + 1)) fun i x e => h (i + 1) x (by simpa using e)
    refine ⟨y :: l', by simp [h1], fun i x e => ?_⟩
    cases i with
    | zero => simp at e; subst e; exact ⟨y, rfl, hy⟩
    | succ i => obtain ⟨z, z1, z2⟩ := h2 i x (by simpa using e); exact ⟨z, by simpa using z1, z2⟩
structure ChE (R : D → D → Prop) (ρ ρ3 : Env) : Prop where
  len : ρ3.length = ρ.length
  at0 : ρ3[0]? = ρ[0]?
  im : ∀ (i : Nat) (d : D), ρ[i]? = some (some (.im d)) → ∃ d', ρ3[i]? = some (some (.im d')) ∧ R d d'
  no : ∀ (i : Nat), ρ[i]? = some none → ρ3[i]? = some none
theorem Ch.pl {es : List D} (ne : ∀ d, d ∈ es → NL d) {d d' : D} (p : PL d) (c : Ch es d d') : PL d' := by
  induction p generalizing d' with
  | nl n => cases c with
    | nl _ => exact .nl n
    | repl _ _ => cases n
    | lst _ _ => cases n
  | @lst ds _ ih => cases c with
    | nl n => cases n
    | repl _ _ => exact .lst fun d hd => .nl (ne d hd)
    | @lst _ ds' l h =>
      refine .lst fun d hd => ?_
      obtain ⟨i, hi⟩ := List.mem_iff_getElem?.mp hd
      have il : i < ds.length := by rw [← l]; exact (List.getElem?_eq_some_iff.mp hi).1
      exact ih ds[i] (List.getElem_mem il) (h i _ _ (List.getElem?_eq_getElem il) hi)
theorem Qs.store (q : Qs K T B p ρ σ H) {b : Addr} {xs us : List V} {R : D → D → Prop} (hl : H b = some (.lst xs)) (nt : ¬ T b) (np : b ≠ p)
    (hch : ∀ d : D, PL d → ∀ v : V, Rp K (hide (Hd T ρ σ) H) v d → ∃ d', Rp K (hide (Hd T ρ σ) (upd H b (.lst us))) v d' ∧ R d d' ∧ PL d') :
    ∃ ρ3, Qs K T B p ρ3 σ (upd H b (.lst us)) ∧ Kp B p H (upd H b (.lst us)) ∧ ChE R ρ ρ3 ∧ Hd T ρ3 σ = Hd T ρ σ := by
  have nb : ¬ Hd T ρ σ b := fun w => (q.hd.1 w).elim nt np
  have hb : ∀ a o, a ≠ b → hide (Hd T ρ σ) H a = some o → hide (Hd T ρ σ) (upd H b (.lst us)) a = some o := fun a o n w => by
    obtain ⟨w1, w2⟩ := hide_some.1 w
    exact hide_some.2 ⟨w1, by rw [upd_ne n]; exact w2⟩
  have g1 : hide (Hd T ρ σ) H b = some (.lst xs) := hide_some.2 ⟨nb, hl⟩
  have g2 : hide (Hd T ρ σ) (upd H b (.lst us)) b = some (.lst us) := hide_some.2 ⟨nb, upd_same⟩
  obtain ⟨ρ3, l3, h3⟩ := list_choose ρ (fun i x y => (i = 0 → y = x) ∧ (i ≠ 0 → (∀ d, x = some (.im d) → ∃ d' v, y = some (.im d') ∧ (R d d' ∧ PL d') ∧ σ[i]? = some (some v) ∧ Rp K (hide (Hd T ρ σ) (upd H b (.lst us))) v d') ∧ (x = none → y = none))) (fun i x e => by
    by_cases z : i = 0
    · exact ⟨x, fun _ => rfl, fun n => absurd z n⟩
    · cases x with
      | none => exact ⟨none, fun w => absurd w z, fun _ => ⟨fun d w => (by cases w), fun _ => rfl⟩⟩
      | some sv =>
        obtain ⟨d, rfl, pd⟩ := q.fr.rest i sv e z
        obtain ⟨v, hv, rv⟩ := q.rs.im i d e
        obtain ⟨d', r', c⟩ := hch d pd v rv
        exact ⟨some (.im d'), fun w => absurd w z, fun _ => ⟨fun d2 w => (by cases w; exact ⟨d', v, rfl, c, hv, r'⟩), fun w => (by cases w)⟩⟩)
  have e0 : ρ3[0]? = ρ[0]? := by
    obtain ⟨x, y, z, w⟩ := q.fr.dice
    obtain ⟨u, u1, u2, _⟩ := h3 0 _ w
    rw [u1, w, u2 rfl]
  have back : ∀ (i : Nat) (sv : SV), ρ3[i]? = some (some sv) → i ≠ 0 → ∃ d d' v, ρ[i]? = some (some (.im d)) ∧ sv = .im d' ∧ (R d d' ∧ PL d') ∧ σ[i]? = some (some v) ∧ Rp K (hide (Hd T ρ σ) (upd H b (.lst us))) v d' := fun i sv w z => by
    have il : i < ρ.length := by rw [← l3]; exact (List.getElem?_eq_some_iff.mp w).1
    obtain ⟨y, y1, _, y2⟩ := h3 i _ (List.getElem?_eq_getElem il)
    rw [w] at y1; cases y1
    obtain ⟨k1, k2⟩ := y2 z
    cases ex : ρ[i] with
    | none => have := k2 ex; cases this
    | some sv2 =>
      obtain ⟨d, rfl, _⟩ := q.fr.rest i sv2 (by rw [List.getElem?_eq_getElem il, ex]) z
      obtain ⟨d', v, e1, e2, e3, e4⟩ := k1 d ex
      cases e1
      exact ⟨d, d', v, by rw [List.getElem?_eq_getElem il, ex], rfl, e2, e3, e4⟩
  have fr3 : Fr p ρ3 := ⟨by rw [e0]; exact q.fr.dice, fun i sv w z => by
    obtain ⟨d, d', v, a1, rfl, a3, _⟩ := back i sv w z
    exact ⟨d', rfl, a3.2⟩⟩
  have own3 : ∀ a, Own ρ3 σ a ↔ a = p := fun a => by
    constructor
    · rintro ⟨i, m, h1, h2⟩
      by_cases e : i = 0
      · subst e; rw [q.at0] at h2; cases h2; rfl
      · obtain ⟨d, z, _⟩ := fr3.rest i _ h1 e
        cases z
    · rintro rfl
      obtain ⟨x, y, z, w⟩ := fr3.dice
      exact ⟨0, _, w, q.at0⟩
  have hdE : Hd T ρ3 σ = Hd T ρ σ := by
    funext a
    apply propext
    unfold Hd
    rw [own3, q.own]
  have rs3 : RS K T ρ3 σ (upd H b (.lst us)) := by
    refine ⟨by rw [l3, q.rs.len], fun i d w => ?_, fun i m w => ?_, fun i j m m' a w1 w2 w3 w4 => ?_, fun a t w => ?_, fun a t => ?_, fun i x m a w1 w2 => ?_⟩
    · by_cases z : i = 0
      · subst z; rw [e0] at w
        obtain ⟨x, y, z, w'⟩ := q.fr.dice
        rw [w] at w'; cases w'
      · obtain ⟨d1, d', v, a1, a2, a3, a4, a5⟩ := back i _ w z
        cases a2
        exact ⟨v, a4, by rw [hdE]; exact a5⟩
    · by_cases z : i = 0
      · subst z
        obtain ⟨x, y, z, w'⟩ := fr3.dice
        rw [w] at w'; cases w'
        rw [e0] at w
        obtain ⟨a, o, b1, b2, b3⟩ := q.rs.ow 0 _ w
        have ap : a = p := by have := b1.symm.trans q.at0; cases this; rfl
        subst ap
        refine ⟨a, o, b1, by rw [upd_ne np.symm]; exact b2, ?_⟩
        rw [hdE]
        cases o with
        | lst vs => exact nls_keep hb g1 (fun d hd => by simp at hd; rcases hd with rfl | rfl | rfl <;> exact .int _) b3
        | _ => exact False.elim b3
      · obtain ⟨d, z, _⟩ := fr3.rest i _ w z
        cases z
    · have : ∀ (i : Nat) (m : MO), ρ3[i]? = some (some (.ow m)) → i = 0 := fun i m w => by
        by_cases z : i = 0
        · exact z
        · obtain ⟨d, z, _⟩ := fr3.rest i _ w z
          cases z
      rw [this i m w1, this j m' w2]
    · rw [own3] at w
      exact q.rs.dis a t (q.own.2 w)
    · by_cases e : a = b
      · subst e; exact absurd t nt
      · rw [upd_ne e]; exact q.rs.dom a t
    · by_cases z : i = 0
      · subst z; rw [e0] at w1; exact q.rs.tag 0 x m a w1 w2
      · obtain ⟨d, z, _⟩ := fr3.rest i _ w1 z
        cases z
  refine ⟨ρ3, ⟨rs3, fr3, fun a ys t n w => ?_, fun a w => ?_⟩, ⟨fun a o n m w => ?_, fun a w => ?_⟩, ⟨l3, e0, fun i d w => ?_, fun i w => ?_⟩, hdE⟩
  · by_cases e : a = b
    · subst e; exact q.lists a _ t n hl
    · rw [upd_ne e] at w; exact q.lists a _ t n w
  · by_cases e : a = b
    · subst e; rw [upd_same] at w; cases w
    · rw [upd_ne e] at w; exact q.new a w
  · by_cases e : a = b
    · subst e; exact absurd (q.lists a _ nt np hl) m
    · rw [upd_ne e]; exact w
  · by_cases e : a = b
    · subst e; rw [upd_same]; simp
    · rw [upd_ne e]; exact w
  · by_cases z : i = 0
    · subst z
      obtain ⟨x, y, z, w'⟩ := q.fr.dice
      rw [w] at w'; cases w'
    · obtain ⟨y, y1, _, y2⟩ := h3 i _ w
      obtain ⟨d', v, e1, e2, _⟩ := (y2 z).1 d rfl
      exact ⟨d', by rw [y1, e1], e2.1⟩
  · by_cases z : i = 0
    · subst z
      obtain ⟨x, y, z, w'⟩ := q.fr.dice
      rw [w] at w'; cases w'
    · obtain ⟨y, y1, _, y2⟩ := h3 i _ w
      rw [y1, (y2 z).2 rfl]
theorem hide_upd {O : Addr → Prop} {b : Addr} {o : HO} (hb : ∀ a u, a ≠ b → hide O H a = some u → hide O (upd H b o) a = some u := fun a u n w => hide_some.2 ⟨(hide_some.1 w).1, by rw [upd_ne n]; exact (hide_some.1 w).2⟩) : ∀ a u, a ≠ b → hide O H a = some u → hide O (upd H b o) a = some u := hb
/-- an item of an inner list is stored -/
theorem Qs.store1 (q : Qs K T B p ρ σ H) {i m : Nat} {v : V} {d : D} {ds : List D} (hi : ρ[i]? = some (some (.im (.list ds)))) (n0 : ∀ x, x ∈ ds → NL x) (nd : NL d) (rv : Rp K (hide (Hd T ρ σ) H) v d) :
    ∃ b xs ρ3, σ[i]? = some (some (.ref b)) ∧ H b = some (.lst xs) ∧ xs.length = ds.length ∧ Qs K T B p ρ3 σ (upd H b (.lst (xs.set m v))) ∧ Kp B p H (upd H b (.lst (xs.set m v))) ∧ ChE (Ch (ds.set m d)) ρ ρ3 ∧
      ∀ u e, NL e → Rp K (hide (Hd T ρ σ) H) u e → Rp K (hide (Hd T ρ3 σ) (upd H b (.lst (xs.set m v)))) u e := by
  obtain ⟨w, h1, h2⟩ := q.rs.im i _ hi
  cases h2 with
  | @lst b xs _ g1 rr =>
    obtain ⟨nb, hl⟩ := hide_some.1 g1
    have nt : ¬ T b := fun z => nb (q.hd.2 (.inl z))
    have np : b ≠ p := fun z => nb (q.hd.2 (.inr z))
    have g2 : hide (Hd T ρ σ) (upd H b (.lst (xs.set m v))) b = some (.lst (xs.set m v)) := hide_some.2 ⟨nb, upd_same⟩
    have ne : ∀ x, x ∈ ds.set m d → NL x := fun x hx => (List.mem_or_eq_of_mem_set hx).elim (n0 x) fun z => by rw [z]; exact nd
    obtain ⟨ρ3, a1, a2, a3, a4⟩ := q.store (us := xs.set m v) (R := Ch (ds.set m d)) hl nt np fun _ pd _ r => by
      obtain ⟨d', r', c⟩ := pl_change (hide_upd) g1 g2 rr n0 (rr.set m rv) ne (by simp) pd r
      exact ⟨d', r', c, c.pl ne pd⟩
    exact ⟨b, xs, ρ3, h1, hl, rr.length, a1, a2, a3, fun u e n r => by rw [a4]; exact nl_keep hide_upd g1 n r⟩
/-! the same of a list of lists -/
def L1 (d : D) : Prop := ∃ es, d = .list es ∧ ∀ e, e ∈ es → NL e
inductive Ch2 (es : List D) : D → D → Prop
  | nl {d : D} : NL d → Ch2 es d d
  | l1 {d : D} : L1 d → Ch2 es d d
  | repl {ds : List D} : es.length = ds.length → (∃ d, d ∈ ds ∧ ¬ notL d) → Ch2 es (.list ds) (.list es)
  | lst {ds ds' : List D} : (∃ d, d ∈ ds ∧ ¬ notL d) → ds'.length = ds.length → (∀ (i : Nat) (d d' : D), ds[i]? = some d → ds'[i]? = some d' → Ch2 es d d') → Ch2 es (.list ds) (.list ds')
theorem list_same {v : V} {d e : D} (h : Rp K G v d) (n : ¬ notL d) (h2 : Rp K G v e) (pe : PL e) : ¬ notL e := by
  cases h with
  | lst q _ =>
    cases h2 with
    | lst _ _ => exact id
    | tup p _ => rw [q] at p; cases p
    | dct _ _ z => subst z; cases pe with | nl n => cases n
    | frz _ _ => cases pe with | nl n => cases n
  | _ => exact absurd trivial n
theorem pl_nl {d : D} (p : PL d) (n : notL d) : NL d := by
  cases p with
  | nl h => exact h
  | lst _ => exact False.elim n
theorem list_mem : ∀ {vs : List V} {ds es : List D}, RpAll K G vs ds → (∃ d, d ∈ ds ∧ ¬ notL d) → RpAll K G vs es → (∀ e, e ∈ es → PL e) → ∃ e, e ∈ es ∧ ¬ notL e
  | _, _, _, .nil, h, .nil, _ => by simp at h
  | _, _, _, .cons h r, w, .cons h2 r2, p => by
    obtain ⟨d, hd, n⟩ := w
    rcases List.mem_cons.mp hd with rfl | hd
    · exact ⟨_, by simp, list_same h n h2 (p _ (by simp))⟩
    · obtain ⟨e, he, n'⟩ := list_mem r ⟨d, hd, n⟩ r2 fun e he => p e (by simp [he])
      exact ⟨e, by simp [he], n'⟩
/-- an inner list keeps its place -/
theorem l1_keep {b : Addr} {xs : List V} {ds0 : List D} (hb : ∀ a o, a ≠ b → G a = some o → G' a = some o) (hl : G b = some (.lst xs)) (h0 : RpAll K G xs ds0) (m0 : ∃ d, d ∈ ds0 ∧ ¬ notL d) {v : V} {d : D} (l : L1 d) (r : Rp K G v d) : Rp K G' v d := by
  obtain ⟨es, rfl, ne⟩ := l
  cases r with
  | @lst a ys _ q rr =>
    have ab : a ≠ b := fun z => by
      subst z
      rw [hl] at q; cases q
      obtain ⟨e, he, n⟩ := list_mem h0 m0 rr fun e he => .nl (ne e he)
      exact n (ne e he).notL
    exact .lst (hb _ _ ab q) (nls_keep hb hl ne rr)
theorem l1s_keep {b : Addr} {xs : List V} {ds0 : List D} (hb : ∀ a o, a ≠ b → G a = some o → G' a = some o) (hl : G b = some (.lst xs)) (h0 : RpAll K G xs ds0) (m0 : ∃ d, d ∈ ds0 ∧ ¬ notL d) : ∀ {vs : List V} {es : List D}, (∀ e, e ∈ es → L1 e) → RpAll K G vs es → RpAll K G' vs es
  | _, _, _, .nil => .nil
  | _, _, n, .cons h r => .cons (l1_keep hb hl h0 m0 (n _ (by simp)) h) (l1s_keep hb hl h0 m0 (fun e he => n e (by simp [he])) r)
theorem pl_change2 {b : Addr} {xs us : List V} {ds0 es : List D} (hb : ∀ a o, a ≠ b → G a = some o → G' a = some o) (hl : G b = some (.lst xs)) (hl' : G' b = some (.lst us)) (h0 : RpAll K G xs ds0) (m0 : ∃ d, d ∈ ds0 ∧ ¬ notL d) (hu : RpAll K G us es) (ne : ∀ d, d ∈ es → L1 d) (le : us.length = xs.length) :
    ∀ {d : D}, PL d → ∀ {v : V}, Rp K G v d → ∃ d', Rp K G' v d' ∧ Ch2 es d d' ∧ PL d' := by
  intro d p
  induction p with
  | nl n => exact fun r => ⟨_, nl_keep hb hl n r, .nl n, .nl n⟩
  | @lst ds hp ih =>
    intro v r
    cases r with
    | @lst a ys _ q rr =>
      have pes : ∀ d, d ∈ es → PL d := fun d hd => by
        obtain ⟨l, rfl, hl⟩ := ne d hd
        exact .lst fun e he => .nl (hl e he)
      by_cases e : a = b
      · subst e
        rw [hl] at q; cases q
        exact ⟨.list es, .lst hl' (l1s_keep hb hl h0 m0 ne hu), .repl (by rw [← hu.length, le, rr.length]) (list_mem h0 m0 rr hp), .lst pes⟩
      · by_cases hm : ∃ d, d ∈ ds ∧ ¬ notL d
        · have all : ∀ {ys : List V} {ds : List D}, (∀ d, d ∈ ds → ∀ {v : V}, Rp K G v d → ∃ d', Rp K G' v d' ∧ Ch2 es d d' ∧ PL d') → RpAll K G ys ds → ∃ ds', RpAll K G' ys ds' ∧ ds'.length = ds.length ∧ (∀ (i : Nat) (d d' : D), ds[i]? = some d → ds'[i]? = some d' → Ch2 es d d') ∧ ∀ d, d ∈ ds' → PL d := by
            intro ys ds f r
            induction ds generalizing ys with
            | nil => cases r; exact ⟨[], .nil, rfl, by simp, by simp⟩
            | cons d ds ih2 =>
              cases r with
              | cons r1 r2 =>
                obtain ⟨d', a1, a2, a3⟩ := f d (by simp) r1
                obtain ⟨ds', b1, b2, b3, b4⟩ := ih2 (fun d hd => f d (by simp [hd])) r2
                refine ⟨d' :: ds', .cons a1 b1, by simp [b2], fun i x y => ?_, fun x hx => ?_⟩
                · cases i with
                  | zero => intro h1 h2; simp at h1 h2; subst h1 h2; exact a2
                  | succ i => intro h1 h2; exact b3 i x y (by simpa using h1) (by simpa using h2)
                · rcases List.mem_cons.mp hx with rfl | hx
                  · exact a3
                  · exact b4 x hx
          obtain ⟨ds', a1, a2, a3, a4⟩ := all ih rr
          exact ⟨.list ds', .lst (hb _ _ e q) a1, .lst hm a2 a3, .lst a4⟩
        · have nds : ∀ d, d ∈ ds → NL d := fun d hd => pl_nl (hp d hd) (Classical.byContradiction fun n => hm ⟨d, hd, n⟩)
          exact ⟨.list ds, .lst (hb _ _ e q) (nls_keep hb hl nds rr), .l1 ⟨ds, rfl, nds⟩, .lst hp⟩
theorem Qs.store2 (q : Qs K T B p ρ σ H) {i m : Nat} {v : V} {d : D} {ds : List D} (hi : ρ[i]? = some (some (.im (.list ds)))) (h0 : ∀ x, x ∈ ds → L1 x) (m0 : ds ≠ []) (nd : L1 d) (rv : Rp K (hide (Hd T ρ σ) H) v d) :
    ∃ b xs ρ3, σ[i]? = some (some (.ref b)) ∧ H b = some (.lst xs) ∧ xs.length = ds.length ∧ Qs K T B p ρ3 σ (upd H b (.lst (xs.set m v))) ∧ Kp B p H (upd H b (.lst (xs.set m v))) ∧ ChE (Ch2 (ds.set m d)) ρ ρ3 ∧
      ∀ u e, L1 e → Rp K (hide (Hd T ρ σ) H) u e → Rp K (hide (Hd T ρ3 σ) (upd H b (.lst (xs.set m v)))) u e := by
  obtain ⟨w, h1, h2⟩ := q.rs.im i _ hi
  cases h2 with
  | @lst b xs _ g1 rr =>
    obtain ⟨nb, hl⟩ := hide_some.1 g1
    have nt : ¬ T b := fun z => nb (q.hd.2 (.inl z))
    have np : b ≠ p := fun z => nb (q.hd.2 (.inr z))
    have g2 : hide (Hd T ρ σ) (upd H b (.lst (xs.set m v))) b = some (.lst (xs.set m v)) := hide_some.2 ⟨nb, upd_same⟩
    have ne : ∀ x, x ∈ ds.set m d → L1 x := fun x hx => (List.mem_or_eq_of_mem_set hx).elim (h0 x) fun z => by rw [z]; exact nd
    have mm : ∃ d, d ∈ ds ∧ ¬ notL d := by
      cases ds with
      | nil => exact absurd rfl m0
      | cons x l => obtain ⟨es, rfl, _⟩ := h0 x (by simp); exact ⟨.list es, by simp, id⟩
    obtain ⟨ρ3, a1, a2, a3, a4⟩ := q.store (us := xs.set m v) (R := Ch2 (ds.set m d)) hl nt np fun _ pd _ r => pl_change2 hide_upd g1 g2 rr mm (rr.set m rv) ne (by simp) pd r
    exact ⟨b, xs, ρ3, h1, hl, rr.length, a1, a2, a3, fun u e n r => by rw [a4]; exact l1_keep hide_upd g1 rr mm n r⟩
end
structure JB1 (X : Cx) (st : Stmt) (f : DS) : Prop where
  ex : ∃ t, PS X st t ∧ ∀ (T B : Addr → Prop) (p : Addr) (ρ : Env) (σ : L2.St) (H : Hp) (E : DEnds) (D : Ends), Qs X.K T B p ρ σ H → f E ρ → EndB X.K T B p H E D → t D σ H
structure JB (X : Cx) (st : List Stmt) (f : DS) : Prop where
  ex : ∃ t, PSs X st t ∧ ∀ (T B : Addr → Prop) (p : Addr) (ρ : Env) (σ : L2.St) (H : Hp) (E : DEnds) (D : Ends), Qs X.K T B p ρ σ H → f E ρ → EndB X.K T B p H E D → t D σ H
/-- a step of the ordinary kind: the frame stays plain -/
def sB (f : DS) : DS := fun E ρ => ∀ p, Fr p ρ → f { nx := fun ρ' => Fr p ρ' ∧ E.nx ρ', rt := fun d ρ' => Fr p ρ' ∧ E.rt d ρ' } ρ
def sIfB (c : DT) (f g : DS) : DS := fun E ρ => ∀ p, Fr p ρ → c ρ fun b ρ1 => Fr p ρ1 ∧ if b = true then f E ρ1 else g E ρ1
def gSubB (i : Nat) (fk : DE) : DG := fun d ρ QD => ∀ p, Fr p ρ → NL d ∧ (∃ d0, ρ[i]? = some (some (.im d0))) ∧ fk ρ fun kk ρ2 => Fr p ρ2 ∧ ∃ ds j m, ρ2[i]? = some (some (.im (.list ds))) ∧ kk = .int j ∧ ixN ds.length j = some m ∧ (∀ x, x ∈ ds → NL x) ∧ ∀ ρ3, ChE (Ch (ds.set m d)) ρ2 ρ3 → QD ρ3
def gSubB2 (i : Nat) (fk : DE) : DG := fun d ρ QD => ∀ p, Fr p ρ → L1 d ∧ (∃ d0, ρ[i]? = some (some (.im d0))) ∧ fk ρ fun kk ρ2 => Fr p ρ2 ∧ ∃ ds j m, ρ2[i]? = some (some (.im (.list ds))) ∧ kk = .int j ∧ ixN ds.length j = some m ∧ (∀ x, x ∈ ds → L1 x) ∧ ds ≠ [] ∧ ∀ ρ3, ChE (Ch2 (ds.set m d)) ρ2 ρ3 → QD ρ3
def sAsgB (f : DE) (g : DG) : DS := fun E ρ => ∀ p, Fr p ρ → f ρ fun d ρ1 => Fr p ρ1 ∧ g d ρ1 E.nx
section
variable {X : Cx} {V : D → Prop} {a b c e : Expr} {es : List Expr} {fa fb fc : DE} {pos ps px : Pos} {x y : Str} {st : Stmt} {sts : List Stmt} {f g : DS}
theorem jb_js (h : JS X st f) : JB1 X st (sB f) := by
  obtain ⟨t, pt, k⟩ := h.ex
  refine ⟨t, pt, fun T B p ρ σ H E D q h e => k T ρ σ H _ _ q.rs (h p q.fr) ⟨fun ρ' σ' H' r po h => ?_, fun d ρ' σ' v H' r po rv h => ?_, fun _ _ _ _ _ h => h.elim, fun _ _ _ _ _ h => h.elim⟩⟩
  · exact e.nx _ _ _ (q.step r po h.1) (q.kp po) h.2
  · exact e.rt _ _ _ _ _ (q.step r po h.1) (q.kp po) rv h.2
theorem jb_nil : JB X [] sNx := ⟨tNext, pss_nil, fun T B p ρ σ H E D q h e => e.nx _ _ _ q .refl h⟩
theorem jb_cons (h1 : JB1 X st f) (h2 : JB X sts g) : JB X (st :: sts) (sSeq f g) := by
  obtain ⟨t1, p1, k1⟩ := h1.ex
  obtain ⟨t2, p2, k2⟩ := h2.ex
  exact ⟨_, pss_cons p1 p2, fun T B p ρ σ H E D q h e => k1 T B p ρ σ H _ _ q h ⟨fun ρ' σ' H' q' k h => k2 T B p ρ' σ' H' _ _ q' h (e.step k), e.rt⟩⟩
theorem jb_one (h1 : JB1 X st f) : JB X [st] f := by
  obtain ⟨t1, p1, k1⟩ := h1.ex
  exact ⟨_, pss_cons p1 pss_nil, fun T B p ρ σ H E D q h e => k1 T B p ρ σ H E _ q h ⟨fun ρ' σ' H' q' k h => e.nx _ _ _ q' k h, e.rt⟩⟩
theorem jb_if {cc : DT} {sa sb : List Stmt} (hc : JT X c cc) (h1 : JB X sa f) (h2 : JB X sb g) : JB1 X (.If c sa sb pos) (sIfB cc f g) := by
  obtain ⟨tc, pc, kc⟩ := hc.ex
  obtain ⟨t1, p1, k1⟩ := h1.ex
  obtain ⟨t2, p2, k2⟩ := h2.ex
  refine ⟨_, ps_if pc p1 p2, fun T B p ρ σ H E D q h e => kc T ρ σ H _ _ q.rs (h p q.fr) fun b ρ1 H1 r1 po h => ?_⟩
  have q1 := q.step r1 po h.1
  cases b with
  | true => exact k1 T B p ρ1 σ H1 E D q1 h.2 (e.step (q.kp po))
  | false => exact k2 T B p ρ1 σ H1 E D q1 h.2 (e.step (q.kp po))
structure JGB (X : Cx) (V : D → Prop) (tg : Expr) (g : DG) : Prop where
  ex : ∃ t, PG X tg t ∧ ∀ (T B : Addr → Prop) (p : Addr) (ρ : Env) (σ : L2.St) (H : Hp) (v : L2.V) (d : D) (QD : Env → Prop) (Q : L2.St → Hp → Prop), Qs X.K T B p ρ σ H → Rp X.K (hide (Hd T ρ σ) H) v d → g d ρ QD →
    (∀ ρ' H', Qs X.K T B p ρ' σ H' → Kp B p H H' → (∀ u e, V e → Rp X.K (hide (Hd T ρ σ) H) u e → Rp X.K (hide (Hd T ρ' σ) H') u e) → QD ρ' → Q σ H') → t v σ H Q
structure JGBs (X : Cx) (V : D → Prop) (tgs : List Expr) (g : List D → Env → (Env → Prop) → Prop) : Prop where
  ex : ∃ t, PGs X tgs t ∧ ∀ (T B : Addr → Prop) (p : Addr) (ρ : Env) (σ : L2.St) (H : Hp) (us : List L2.V) (ds : List D) (QD : Env → Prop) (Q : L2.St → Hp → Prop), Qs X.K T B p ρ σ H → RpAll X.K (hide (Hd T ρ σ) H) us ds → (∀ d, d ∈ ds → V d) → g ds ρ QD →
    (∀ ρ' H', Qs X.K T B p ρ' σ H' → Kp B p H H' → QD ρ' → Q σ H') → t us σ H Q
theorem jgb_sub {i : Nat} {f1 : DE} (hN : X.N[i]? = some x) (hv : Vis X.env.scope x) (hi : JE X b f1) (hd : (x == ("__debug__" : Str)) = false := by decide) (hcd : (x == ("__classdict__" : Str)) = false := by decide)
    (ha : ∀ v, assign (.Subscript (.Name x px) b ps) X.env v = (do
      let ov ← holding [v] (eval (.Name x px) X.env); let iv ← holding [v, ov] (eval b X.env); standAt ps; holding [v, ov, iv] (setItem ov iv v); release [v, ov, iv] []) := by intro _; rfl) : JGB X NL (.Subscript (.Name x px) b ps) (gSubB i f1) := by
  obtain ⟨t1, p1, k1⟩ := hi.ex
  refine ⟨_, pg_sub (pe_var hN hv hd hcd) p1 set_list ha, fun T B p ρ σ H v d QD Q q rv h k => ?_⟩
  obtain ⟨nd, ⟨d0, h0⟩, h⟩ := h p q.fr
  obtain ⟨w, hw, _⟩ := q.rs.im i d0 h0
  refine ⟨_, hw, k1 T ρ σ H _ _ q.rs h fun kk ρ2 z H2 r2 po2 v2 h => ?_⟩
  obtain ⟨f2, ds, j, m, e1, rfl, e2, n0, h⟩ := h
  have q2 := q.step r2 po2 f2
  obtain ⟨l, xs, ρ3, a1, a2, a3, a4, a5, a6, a7⟩ := q2.store1 (m := m) e1 n0 nd (rv.mono po2.fz)
  have := hw.symm.trans a1
  cases this
  cases v2
  exact ⟨l, xs, j, m, rfl, rfl, a2, by rw [a3]; exact e2, k ρ3 _ a4 ((q.kp po2).trans a5) (fun u e ne ru => a7 u e ne (ru.mono po2.fz)) (h ρ3 a6)⟩
theorem jgb_sub2 {i : Nat} {f1 : DE} (hN : X.N[i]? = some x) (hv : Vis X.env.scope x) (hi : JE X b f1) (hd : (x == ("__debug__" : Str)) = false := by decide) (hcd : (x == ("__classdict__" : Str)) = false := by decide)
    (ha : ∀ v, assign (.Subscript (.Name x px) b ps) X.env v = (do
      let ov ← holding [v] (eval (.Name x px) X.env); let iv ← holding [v, ov] (eval b X.env); standAt ps; holding [v, ov, iv] (setItem ov iv v); release [v, ov, iv] []) := by intro _; rfl) : JGB X L1 (.Subscript (.Name x px) b ps) (gSubB2 i f1) := by
  obtain ⟨t1, p1, k1⟩ := hi.ex
  refine ⟨_, pg_sub (pe_var hN hv hd hcd) p1 set_list ha, fun T B p ρ σ H v d QD Q q rv h k => ?_⟩
  obtain ⟨nd, ⟨d0, h0⟩, h⟩ := h p q.fr
  obtain ⟨w, hw, _⟩ := q.rs.im i d0 h0
  refine ⟨_, hw, k1 T ρ σ H _ _ q.rs h fun kk ρ2 z H2 r2 po2 v2 h => ?_⟩
  obtain ⟨f2, ds, j, m, e1, rfl, e2, n0, m0, h⟩ := h
  have q2 := q.step r2 po2 f2
  obtain ⟨l, xs, ρ3, a1, a2, a3, a4, a5, a6, a7⟩ := q2.store2 (m := m) e1 n0 m0 nd (rv.mono po2.fz)
  have := hw.symm.trans a1
  cases this
  cases v2
  exact ⟨l, xs, j, m, rfl, rfl, a2, by rw [a3]; exact e2, k ρ3 _ a4 ((q.kp po2).trans a5) (fun u e ne ru => a7 u e ne (ru.mono po2.fz)) (h ρ3 a6)⟩
theorem jgbs_nil : JGBs X V [] gsNil := ⟨gNil, pgs_nil, fun T B p ρ σ H us ds QD Q q rv _ h k => by
  obtain ⟨rfl, h⟩ := h
  cases rv
  exact ⟨rfl, k _ _ q .refl h⟩⟩
theorem rpAll_of {V : D → Prop} {K : PySem.W.Frag} {G G' : Hp} (h : ∀ u e, V e → Rp K G u e → Rp K G' u e) : ∀ {us : List L2.V} {ds : List D}, (∀ d, d ∈ ds → V d) → RpAll K G us ds → RpAll K G' us ds
  | _, _, _, .nil => .nil
  | _, _, n, .cons a r => .cons (h _ _ (n _ (by simp)) a) (rpAll_of h (fun d hd => n d (by simp [hd])) r)
theorem jgbs_cons {g : DG} {gs : List D → Env → (Env → Prop) → Prop} (h1 : JGB X V e g) (h2 : JGBs X V es gs) (hs : (assignEach (e :: es) X.env).map (·.2) = assign e X.env :: (assignEach es X.env).map (·.2) := by rfl) : JGBs X V (e :: es) (gsCons g gs) := by
  obtain ⟨t1, p1, k1⟩ := h1.ex
  obtain ⟨t2, p2, k2⟩ := h2.ex
  refine ⟨_, pgs_cons p1 p2 hs, fun T B p ρ σ H us ds QD Q q rv n h k => ?_⟩
  cases rv with
  | nil => exact False.elim h
  | cons rv rr => exact ⟨_, _, rfl, k1 T B p ρ σ H _ _ _ _ q rv h fun ρ1 H1 q1 kp1 keep h => k2 T B p ρ1 σ H1 _ _ _ _ q1 (rpAll_of keep (fun d hd => n d (by simp [hd])) rr) (fun d hd => n d (by simp [hd])) h fun ρ2 H2 q2 kp2 h => k _ _ q2 (kp1.trans kp2) h⟩
def gTpB (V : D → Prop) (n : Nat) (gs : List D → Env → (Env → Prop) → Prop) : DG := fun d ρ QD => ∃ ds, d = .tuple ds ∧ ds.length = n ∧ (∀ d, d ∈ ds → V d) ∧ gs ds ρ QD
/-- a target alone: what else is kept does not matter -/
structure JGC (X : Cx) (tg : Expr) (g : DG) : Prop where
  ex : ∃ t, PG X tg t ∧ ∀ (T B : Addr → Prop) (p : Addr) (ρ : Env) (σ : L2.St) (H : Hp) (v : L2.V) (d : D) (QD : Env → Prop) (Q : L2.St → Hp → Prop), Qs X.K T B p ρ σ H → Rp X.K (hide (Hd T ρ σ) H) v d → g d ρ QD →
    (∀ ρ' H', Qs X.K T B p ρ' σ H' → Kp B p H H' → QD ρ' → Q σ H') → t v σ H Q
theorem jgc_of {g : DG} (h : JGB X V e g) : JGC X e g := by
  obtain ⟨t, pt, k⟩ := h.ex
  exact ⟨t, pt, fun T B p ρ σ H v d QD Q q rv h kk => k T B p ρ σ H v d QD Q q rv h fun ρ' H' q' kp _ h => kk ρ' H' q' kp h⟩
theorem jgc_tup {k n : Nat} {gs : List D → Env → (Env → Prop) → Prop} (hc : X.calm = true) (h : JGBs X V es gs) (hn : (assignEach es X.env).length = n := by rfl) (hst : (assignEach es X.env).findIdx? (·.1) = none := by rfl) : JGC X (.Tuple es k pos) (gTpB V n gs) := by
  obtain ⟨t, pt, kt⟩ := h.ex
  refine ⟨_, pg_tup hc pt hn hst, fun T B p ρ σ H v d QD Q q rv h kk => ?_⟩
  obtain ⟨ds, rfl, hl, hv, h⟩ := h
  cases rv with
  | tup hp rr => exact ⟨_, _, rfl, sqt_of hp, by rw [rr.length]; exact hl, kt T B p ρ σ H _ _ _ _ q rr hv h kk⟩
theorem jb_asg {tg : Expr} {g : DG} (ha : JE X e fa) (hg : JGC X tg g) (hs : swapsWithSole [tg] e pos.line X.env = pure false := by rfl) (hw : swappedStores [tg] e X.env = pure none := by rfl) (h1 : (assignEach [tg] X.env).map (·.2) = [assign tg X.env] := by rfl) : JB1 X (.Assign [tg] e pos) (sAsgB fa g) := by
  obtain ⟨t, pt, kt⟩ := ha.ex
  obtain ⟨t2, p2, k2⟩ := hg.ex
  refine ⟨_, ps_asg pt p2 hs hw h1, fun T B p ρ σ H E D q h e => kt T ρ σ H _ _ q.rs (h p q.fr) fun d ρ1 v H1 r1 po v1 h => ?_⟩
  have q1 := q.step r1 po h.1
  exact k2 T B p ρ1 σ H1 _ _ _ _ q1 v1 h.2 fun ρ2 H2 q2 kp h => e.nx _ _ _ q2 ((q.kp po).trans kp) h
/-- a def's whole body -/
theorem jss_of_jb (h : JB X sts f) (f' : DS) (hf : ∀ E ρ, f' E ρ → (∃ p, Fr p ρ) ∧ (∀ (i : Nat) (d : D), ρ[i]? = some (some (.im d)) → NL d) ∧ f E ρ) : JSs X sts f' := by
  obtain ⟨t, pt, k⟩ := h.ex
  refine ⟨t, pt, fun T ρ σ H E Dz r h e => ?_⟩
  obtain ⟨⟨p, fr⟩, nl, h⟩ := hf E ρ h
  have s0 : σ[0]? = some (some (.ref p)) := by
    obtain ⟨a, b, c, w⟩ := fr.dice
    obtain ⟨x, o, h1, _⟩ := r.ow 0 _ w
    rw [h1, r.tag 0 p _ x w h1]
  have own : ∀ a, Own ρ σ a ↔ a = p := fun a => by
    constructor
    · rintro ⟨i, m, h1, h2⟩
      by_cases e : i = 0
      · subst e; rw [s0] at h2; cases h2; rfl
      · obtain ⟨d, z, _⟩ := fr.rest i _ h1 e
        cases z
    · rintro rfl
      obtain ⟨a, b, c, w⟩ := fr.dice
      exact ⟨0, _, w, s0⟩
  have keep : ∀ {v : L2.V} {d : D}, NL d → Rp X.K (hide (Hd T ρ σ) H) v d → Rp X.K (hide (Hd (fun a => T a ∨ (a ≠ p ∧ ∃ xs, H a = some (.lst xs))) ρ σ) H) v d := by
    have key : ∀ {d : D}, NL d → ∀ {v : L2.V}, Rp X.K (hide (Hd T ρ σ) H) v d → Rp X.K (hide (Hd (fun a => T a ∨ (a ≠ p ∧ ∃ xs, H a = some (.lst xs))) ρ σ) H) v d := by
      intro d n
      induction n with
      | non => intro v r; cases r; exact .non
      | bl b => intro v r; cases r; exact .bl b
      | int b => intro v r; cases r; exact .int b
      | str b => intro v r; cases r; exact .str b
      | @tup ds hn ih =>
        intro v r
        cases r with
        | @tup a xs _ g rr =>
          obtain ⟨n1, n2⟩ := hide_some.1 g
          refine .tup (hide_some.2 ⟨?_, n2⟩) ?_
          · rintro ((w | ⟨_, ys, w⟩) | w)
            · exact n1 (.inl w)
            · rw [n2] at w; cases w
            · exact n1 (.inr w)
          · clear g n1 n2 hn
            induction ds generalizing xs with
            | nil => cases rr; exact .nil
            | cons d ds ih2 =>
              cases rr with
              | cons r1 r2 => exact .cons (ih d (by simp) r1) (ih2 (fun x hx => ih x (by simp [hx])) r2)
    exact fun {v d} n r => key n r
  have q : Qs X.K (fun a => T a ∨ (a ≠ p ∧ ∃ xs, H a = some (.lst xs))) (fun a => H a = none) p ρ σ H := by
    refine ⟨⟨r.len, fun i d w => ?_, fun i m w => ?_, r.inj, fun a t w => ?_, fun a t => ?_, r.tag⟩, fr, fun a xs t n w => ?_, fun a w => w⟩
    · obtain ⟨v, h1, h2⟩ := r.im i d w
      exact ⟨v, h1, keep (nl i d w) h2⟩
    · obtain ⟨a, o, h1, h2, h3⟩ := r.ow i m w
      refine ⟨a, o, h1, h2, ?_⟩
      by_cases z : i = 0
      · subst z
        obtain ⟨x, y, z, w'⟩ := fr.dice
        rw [w] at w'; cases w'
        cases o with
        | lst vs => exact rpAll_of (V := NL) (fun u e n r => keep n r) (fun d hd => by simp at hd; rcases hd with rfl | rfl | rfl <;> exact .int _) h3
        | _ => exact False.elim h3
      · obtain ⟨d, z, _⟩ := fr.rest i _ w z
        cases z
    · rcases t with t | ⟨t, _⟩
      · exact r.dis a t w
      · exact t ((own a).1 w)
    · rcases t with t | ⟨_, xs, w⟩
      · exact r.dom a t
      · rw [w]; simp
    · exact absurd (.inr ⟨n, xs, w⟩) t
  have back : ∀ {ρ' : Env} {σ' : L2.St} {H' : Hp}, Qs X.K (fun a => T a ∨ (a ≠ p ∧ ∃ xs, H a = some (.lst xs))) (fun a => H a = none) p ρ' σ' H' → Kp (fun a => H a = none) p H H' → RS X.K T ρ' σ' H' ∧ Po ρ σ H ρ' σ' H' := fun {ρ' σ' H'} q' k => by
    refine ⟨q'.rs.sub fun a t => .inl t, fun a o n w => k.keep a o (fun z => n ((own a).2 z)) (fun z => by rw [z] at w; cases w) w, fun a w => .inl ((own a).2 (q'.own.1 w)), k.dom⟩
  exact k _ _ p ρ σ H E Dz q h ⟨fun ρ' σ' H' q' k h => e.nx _ _ _ (back q' k).1 (back q' k).2 h, fun d ρ' σ' v H' q' k rv h => e.rt _ _ _ _ _ (back q' k).1 (back q' k).2 (rv.mono (hide_sub fun a w => w.elim (fun t => .inl (.inl t)) .inr)) h⟩
end
end Dn
set_option Elab.async false
set_option linter.all false
set_option maxRecDepth 100000
set_option autoImplicit false
set_option maxHeartbeats 4000000
namespace Dn
open PySem L2 Evl
section
variable {X : Cx} {es : List Expr} {pos : Pos}
/-- a, b, .. = a list -/
def gTpL (n : Nat) (gs : List D → Env → (Env → Prop) → Prop) : DG := fun d ρ Q => match d with
  | .list ds => ds.length = n ∧ gs ds ρ Q
  | _ => False
theorem jg_lst {k n : Nat} {gs : List D → Env → (Env → Prop) → Prop} {vs : List Nat} (hc : X.calm = true) (h : JGs X es vs gs) (hn : (assignEach es X.env).length = n := by rfl) (hst : (assignEach es X.env).findIdx? (·.1) = none := by rfl) : JG X (.Tuple es k pos) vs (gTpL n gs) := by
  obtain ⟨t, pt, kt⟩ := h.ex
  refine ⟨_, pg_lst hc pt hn hst, fun T ρ σ H v d QD Q r rv h q => ?_⟩
  cases rv with
  | lst hp rr => exact ⟨_, _, rfl, .inl (.inl (at_of hp)), by rw [rr.length]; exact h.1, kt T ρ σ H _ _ _ _ r rr h.2 q⟩
  | _ => exact False.elim h
end
end Dn
set_option Elab.async false
set_option linter.all false
set_option maxRecDepth 100000
set_option autoImplicit false
set_option maxHeartbeats 4000000
/-! The same where the frame begins with a list of tuples in slot 1 that is read, and then no longer. -/
namespace Dn
open PySem L2 Evl
def isTupD : D → Prop
  | .tuple _ => True
  | _ => False
/-- every list in it begins with something else than a tuple -/
inductive NA : D → Prop
  | nl {d : D} : NL d → NA d
  | lst {e : D} {ds : List D} : ¬ isTupD e → NA e → (∀ d, d ∈ ds → NA d) → NA (.list (e :: ds))
section
variable {K : PySem.W.Frag} {G G' : Hp}
/-- the list at b, of tuples, is hidden -/
theorem na_keep {b : Addr} {x : V} {xs : List V} {rs : List D} (hb : ∀ a o, a ≠ b → G a = some o → G' a = some o) (hl : G b = some (.lst (x :: xs))) (hx : Rp K G x (.tuple rs)) : ∀ {d : D}, NA d → ∀ {v : V}, Rp K G v d → Rp K G' v d := by
  intro d n
  induction n with
  | nl n => exact fun r => nl_keep hb hl n r
  | @lst e ds ne nae _ ih1 ih2 =>
    intro v r
    cases r with
    | @lst a ys _ g rr =>
      cases rr with
      | @cons y ys _ _ r1 r2 =>
        have ab : a ≠ b := fun z => by
          subst z
          rw [hl] at g
          obtain ⟨rfl, rfl⟩ : x = y ∧ xs = ys := by simpa using g
          cases hx with
          | tup h _ =>
            cases e with
            | tuple _ => exact ne trivial
            | list _ => cases r1 with | lst h2 _ => rw [h] at h2; cases h2
            | dict _ => cases nae with | nl n => cases n
            | _ => cases r1
        have all : ∀ {ys : List V} {ds : List D}, (∀ d, d ∈ ds → ∀ {v : V}, Rp K G v d → Rp K G' v d) → RpAll K G ys ds → RpAll K G' ys ds := by
          intro ys ds f r
          induction ds generalizing ys with
          | nil => cases r; exact .nil
          | cons d ds ih3 => cases r with
            | cons q1 q2 => exact .cons (f d (by simp) q1) (ih3 (fun d hd => f d (by simp [hd])) q2)
        exact .lst (hb _ _ ab g) (.cons (ih1 r1) (all ih2 r2))
theorem NA.pl {d : D} (h : NA d) : PL d := by
  induction h with
  | nl n => exact .nl n
  | lst _ _ _ ih1 ih2 => exact PL.lst (fun d hd => (List.mem_cons.mp hd).elim (fun z => by rw [z]; exact ih1) (ih2 d))
end
def gB2 (f1 f2 f : DS) : DS := fun E ρ => ∃ (p : Addr) (ms : List D) (C : List (List Int)) (n : Nat), (∃ a b c : Int, ms = [.int a, .int b, .int c]) ∧ ρ = some (.ow (.par p (.lst ms))) :: some (.im (.list (C.map fun r => .tuple (r.map .int)))) :: List.replicate n none ∧
  f1 { nx := f2 { nx := fun ρ2 => ρ2[1]? = some (some (.im (.list (C.map fun r => .tuple (r.map .int))))) ∧ C ≠ [] ∧ (∀ (i : Nat) (d : D), i ≠ 1 → ρ2[i]? = some (some (.im d)) → NA d) ∧ Fr p (ρ2.set 1 none) ∧ f E (ρ2.set 1 none), rt := E.rt }, rt := E.rt } ρ
section
variable {X : Cx} {s1 s2 : Stmt} {sts : List Stmt} {f1 f2 f : DS}
theorem jss_of_jb2 (h1 : JS X s1 f1) (h2 : JS X s2 f2) (h : JB X sts f) (f' : DS) (hf : ∀ E ρ, f' E ρ → ∃ (p : Addr) (ms : List D) (C : List (List Int)) (n : Nat), (∃ a b c : Int, ms = [.int a, .int b, .int c]) ∧ ρ = some (.ow (.par p (.lst ms))) :: some (.im (.list (C.map fun r => .tuple (r.map .int)))) :: List.replicate n none ∧
      f1 { nx := f2 { nx := fun ρ2 => ρ2[1]? = some (some (.im (.list (C.map fun r => .tuple (r.map .int))))) ∧ C ≠ [] ∧ (∀ (i : Nat) (d : D), i ≠ 1 → ρ2[i]? = some (some (.im d)) → NA d) ∧ Fr p (ρ2.set 1 none) ∧ f E (ρ2.set 1 none), rt := E.rt }, rt := E.rt } ρ) : JSs X (s1 :: s2 :: sts) f' := by
  obtain ⟨t1, p1, k1⟩ := h1.ex
  obtain ⟨t2, p2, k2⟩ := h2.ex
  obtain ⟨t, pt, k⟩ := h.ex
  refine ⟨_, pss_cons p1 (pss_cons p2 pt), fun T ρ σ H E Dz r h e => ?_⟩
  obtain ⟨p, ms, C, n, hm, rfl, h⟩ := hf E ρ h
  obtain ⟨v1, q1, rv1⟩ := r.im 1 _ rfl
  have s0 : σ[0]? = some (some (.ref p)) := by
    obtain ⟨x, o, h1, _⟩ := r.ow 0 _ rfl
    rw [h1, r.tag 0 p _ x rfl h1]
  have own : ∀ a, Own (some (.ow (.par p (.lst ms))) :: some (.im (.list (C.map fun r => .tuple (r.map .int)))) :: List.replicate n none) σ a ↔ a = p := fun a => by
    constructor
    · rintro ⟨i, m, h1, h2⟩
      match i, h1 with
      | 0, h1 => rw [s0] at h2; cases h2; rfl
      | 1, h1 => simp at h1
      | i + 2, h1 =>
        exfalso
        simp [List.getElem?_replicate] at h1
    · rintro rfl
      exact ⟨0, _, rfl, s0⟩
  cases rv1 with
  | @lst ad xs _ g rr =>
    obtain ⟨nd, hd⟩ := hide_some.1 g
    have nlr : ∀ d, d ∈ (C.map fun r => (PyData.tuple (r.map .int))) → NL d := fun d hd => by
      obtain ⟨r, _, rfl⟩ := List.mem_map.mp hd
      exact .tup fun x hx => by
        obtain ⟨i, _, rfl⟩ := List.mem_map.mp hx
        exact .int i
    have keepNL : ∀ (S : Addr → Prop), (∀ a, S a → ∃ xs, H a = some (.lst xs)) → ∀ {d : D}, NL d → ∀ {v : L2.V}, Rp X.K (hide (Hd T (some (.ow (.par p (.lst ms))) :: some (.im (.list (C.map fun r => .tuple (r.map .int)))) :: List.replicate n none) σ) H) v d →
        Rp X.K (hide (Hd (fun a => T a ∨ S a) (some (.ow (.par p (.lst ms))) :: some (.im (.list (C.map fun r => .tuple (r.map .int)))) :: List.replicate n none) σ) H) v d := by
      intro S hS d nn
      induction nn with
      | non => intro v r; cases r; exact .non
      | bl b => intro v r; cases r; exact .bl b
      | int b => intro v r; cases r; exact .int b
      | str b => intro v r; cases r; exact .str b
      | @tup ds hn ih =>
        intro v r
        cases r with
        | @tup a xs _ g rr =>
          obtain ⟨n1, n2⟩ := hide_some.1 g
          refine .tup (hide_some.2 ⟨?_, n2⟩) ?_
          · rintro ((w | w) | w)
            · exact n1 (.inl w)
            · obtain ⟨ys, w⟩ := hS a w
              rw [n2] at w; cases w
            · exact n1 (.inr w)
          · clear g n1 n2 hn
            induction ds generalizing xs with
            | nil => cases rr; exact .nil
            | cons d ds ih2 => cases rr with
              | cons r1 r2 => exact .cons (ih d (by simp) r1) (ih2 (fun x hx => ih x (by simp [hx])) r2)
    have keepAll : ∀ (S : Addr → Prop), (∀ a, S a → ∃ xs, H a = some (.lst xs)) → ∀ {vs : List L2.V} {ds : List D}, (∀ d, d ∈ ds → NL d) → RpAll X.K (hide (Hd T (some (.ow (.par p (.lst ms))) :: some (.im (.list (C.map fun r => .tuple (r.map .int)))) :: List.replicate n none) σ) H) vs ds →
        RpAll X.K (hide (Hd (fun a => T a ∨ S a) (some (.ow (.par p (.lst ms))) :: some (.im (.list (C.map fun r => .tuple (r.map .int)))) :: List.replicate n none) σ) H) vs ds := fun S hS {vs ds} n r => rpAll_of (V := NL) (fun u e ne re => keepNL S hS ne re) n r
    have r1 : RS X.K (fun a => T a ∨ (a ≠ p ∧ a ≠ ad ∧ ∃ xs, H a = some (.lst xs))) (some (.ow (.par p (.lst ms))) :: some (.im (.list (C.map fun r => .tuple (r.map .int)))) :: List.replicate n none) σ H := by
      have hS : ∀ a, (a ≠ p ∧ a ≠ ad ∧ ∃ xs, H a = some (.lst xs)) → ∃ xs, H a = some (.lst xs) := fun a h => h.2.2
      refine ⟨r.len, fun i d w => ?_, fun i m w => ?_, r.inj, fun a t w => ?_, fun a t => ?_, r.tag⟩
      · match i, w with
        | 0, w => simp at w
        | 1, w =>
          simp at w
          subst w
          refine ⟨.ref ad, q1, .lst (hide_some.2 ⟨?_, hd⟩) (keepAll _ hS nlr rr)⟩
          rintro ((w | ⟨_, w, _⟩) | w)
          · exact nd (.inl w)
          · exact w rfl
          · exact nd (.inr w)
        | i + 2, w => simp [List.getElem?_replicate] at w
      · match i, w with
        | 0, w =>
          obtain ⟨a, o, h1, h2, h3⟩ := r.ow 0 _ rfl
          simp at w
          subst w
          refine ⟨a, o, h1, h2, ?_⟩
          obtain ⟨x, y, z, rfl⟩ := hm
          cases o with
          | lst vs => exact keepAll _ hS (fun d hd => by simp at hd; rcases hd with rfl | rfl | rfl <;> exact .int _) h3
          | _ => exact False.elim h3
        | 1, w => simp at w
        | i + 2, w => simp [List.getElem?_replicate] at w
      · rcases t with t | ⟨t, _⟩
        · exact r.dis a t w
        · exact t ((own a).1 w)
      · rcases t with t | ⟨_, _, xs, w⟩
        · exact r.dom a t
        · rw [w]; simp
    have low : ∀ {ρ' : Env} {σ' : L2.St} {H' : Hp} {v : L2.V} {d : D}, Rp X.K (hide (Hd (fun a => T a ∨ (a ≠ p ∧ a ≠ ad ∧ ∃ xs, H a = some (.lst xs))) ρ' σ') H') v d → Rp X.K (hide (Hd T ρ' σ') H') v d := fun r => r.mono (hide_sub fun a w => w.elim (fun t => .inl (.inl t)) .inr)
    refine k1 _ _ σ H _ _ r1 h ⟨fun ρ1 σ1 H1 ra pa h => ?_, fun d ρ1 σ1 v H1 ra pa rv h => e.rt _ _ _ _ _ (ra.sub fun a t => .inl t) pa (low rv) h, fun _ _ _ _ _ h => h.elim, fun _ _ _ _ _ h => h.elim⟩
    refine k2 _ _ σ1 H1 _ _ ra h ⟨fun ρ2 σ2 H2 rb pb h => ?_, fun d ρ2 σ2 v H2 rb pb rv h => e.rt _ _ _ _ _ (rb.sub fun a t => .inl t) (pa.trans pb) (low rv) h, fun _ _ _ _ _ h => h.elim, fun _ _ _ _ _ h => h.elim⟩
    have pab := pa.trans pb
    obtain ⟨e1, cn, na, fr, hfin⟩ := h
    have nad : ¬ Own (some (.ow (.par p (.lst ms))) :: some (.im (.list (C.map fun r => .tuple (r.map .int)))) :: List.replicate n none) σ ad := fun w => nd (.inr w)
    have ad2 : H2 ad = some (.lst xs) := pab.keep ad _ nad hd
    have rd := rb.drop (i := 1)
    have s02 : σ2[0]? = some (some (.ref p)) := by
      obtain ⟨a, b, c, w⟩ := fr.dice
      obtain ⟨x, o, h1, _⟩ := rd.ow 0 _ w
      rw [h1, rd.tag 0 p _ x w h1]
    have own2 : ∀ a, Own (ρ2.set 1 none) σ2 a ↔ a = p := fun a => by
      constructor
      · rintro ⟨i, m, h1, h2⟩
        by_cases z : i = 0
        · subst z; rw [s02] at h2; cases h2; rfl
        · obtain ⟨d, w, _⟩ := fr.rest i _ h1 z
          cases w
      · rintro rfl
        obtain ⟨a, b, c, w⟩ := fr.dice
        exact ⟨0, _, w, s02⟩
    have nadp : ad ≠ p := fun z => nad ((own ad).2 z)
    -- the list of slot 1 is hidden from now on
    obtain ⟨x0, xr, c0, cr, rfl, rfl⟩ : ∃ x0 xr c0 cr, xs = x0 :: xr ∧ C = c0 :: cr := by
      cases C with
      | nil => exact absurd rfl cn
      | cons c0 cr => cases xs with
        | nil => cases rr
        | cons x0 xr => exact ⟨x0, xr, c0, cr, rfl, rfl⟩
    have g2 : hide (Hd (fun a => T a ∨ (a ≠ p ∧ a ≠ ad ∧ ∃ xs, H a = some (.lst xs))) (ρ2.set 1 none) σ2) H2 ad = some (.lst (x0 :: xr)) := hide_some.2 ⟨by
      rintro ((w | ⟨_, w, _⟩) | w)
      · exact nd (.inl w)
      · exact w rfl
      · exact nadp ((own2 ad).1 w), ad2⟩
    obtain ⟨w1, w2, w3⟩ := rb.im 1 _ e1
    have hx0 : Rp X.K (hide (Hd (fun a => T a ∨ (a ≠ p ∧ a ≠ ad ∧ ∃ xs, H a = some (.lst xs))) (ρ2.set 1 none) σ2) H2) x0 (.tuple (c0.map .int)) := by
      have e0 := keepAll (fun a => a ≠ p ∧ a ≠ ad ∧ ∃ xs, H a = some (.lst xs)) (fun a h => h.2.2) nlr rr
      cases e0 with
      | cons e0 _ =>
        have e3 := e0.mono (pab.fz (T := fun a => T a ∨ (a ≠ p ∧ a ≠ ad ∧ ∃ xs, H a = some (.lst xs))))
        exact e3.mono (hide_sub fun a w => w.elim .inl fun w => .inr (own_drop w))
    have hb : ∀ a o, a ≠ ad → hide (Hd (fun a => T a ∨ (a ≠ p ∧ a ≠ ad ∧ ∃ xs, H a = some (.lst xs))) (ρ2.set 1 none) σ2) H2 a = some o → hide (Hd (fun a => (T a ∨ (a ≠ p ∧ a ≠ ad ∧ ∃ xs, H a = some (.lst xs))) ∨ a = ad) (ρ2.set 1 none) σ2) H2 a = some o := fun a o z w => by
      obtain ⟨u1, u2⟩ := hide_some.1 w
      refine hide_some.2 ⟨?_, u2⟩
      rintro ((t | t) | t)
      · exact u1 (.inl t)
      · exact z t
      · exact u1 (.inr t)
    have q : Qs X.K (fun a => (T a ∨ (a ≠ p ∧ a ≠ ad ∧ ∃ xs, H a = some (.lst xs))) ∨ a = ad) (fun a => H a = none) p (ρ2.set 1 none) σ2 H2 := by
      refine ⟨⟨rd.len, fun i d w => ?_, fun i m w => ?_, rd.inj, fun a t w => ?_, fun a t => ?_, rd.tag⟩, fr, fun a ys t z w => ?_, fun a w => ?_⟩
      · obtain ⟨v, u1, u2⟩ := rd.im i d w
        refine ⟨v, u1, na_keep hb g2 hx0 (na i d ?_ ?_) u2⟩
        · rintro rfl
          rcases getset w with ⟨_, _, w⟩ | ⟨w, _⟩
          · cases w
          · exact w rfl
        · rcases getset w with ⟨_, _, w⟩ | ⟨_, w⟩
          · cases w
          · exact w
      · obtain ⟨a, o, u1, u2, u3⟩ := rd.ow i m w
        refine ⟨a, o, u1, u2, ?_⟩
        by_cases z : i = 0
        · subst z
          obtain ⟨x, y, z, w'⟩ := fr.dice
          rw [w] at w'; cases w'
          cases o with
          | lst vs => exact nls_keep hb g2 (fun d hd => by simp at hd; rcases hd with rfl | rfl | rfl <;> exact .int _) u3
          | _ => exact False.elim u3
        · obtain ⟨d, w', _⟩ := fr.rest i _ w z
          cases w'
      · rcases t with t | t
        · exact rd.dis a t w
        · subst t; exact nadp ((own2 a).1 w)
      · rcases t with t | t
        · exact rd.dom a t
        · subst t; rw [ad2]; simp
      · cases u : H a with
        | none => rfl
        | some o =>
          exfalso
          have k3 := pab.keep a o (fun y => z ((own a).1 y)) u
          rw [w] at k3; cases k3
          by_cases y : a = ad
          · exact t (.inr y)
          · exact t (.inl (.inr ⟨z, y, ys, u⟩))
      · cases u : H a with
        | none => rfl
        | some o => exact absurd w (pab.dom a (by rw [u]; simp))
    have back : ∀ {ρ' : Env} {σ' : L2.St} {H' : Hp}, Qs X.K (fun a => (T a ∨ (a ≠ p ∧ a ≠ ad ∧ ∃ xs, H a = some (.lst xs))) ∨ a = ad) (fun a => H a = none) p ρ' σ' H' → Kp (fun a => H a = none) p H2 H' → RS X.K T ρ' σ' H' ∧ Po (some (.ow (.par p (.lst ms))) :: some (.im (.list ((c0 :: cr).map fun r => .tuple (r.map .int)))) :: List.replicate n none) σ H ρ' σ' H' := fun {ρ' σ' H'} q' k => by
      refine ⟨q'.rs.sub fun a t => .inl (.inl t), fun a o z w => ?_, fun a w => .inl ((own a).2 (q'.own.1 w)), fun a w => k.dom a (pab.dom a w)⟩
      exact k.keep a o (fun y => z ((own a).2 y)) (fun y => by rw [y] at w; cases w) (pab.keep a o z w)
    exact k _ _ p (ρ2.set 1 none) σ2 H2 E Dz q hfin ⟨fun ρ' σ' H' q' k h => e.nx _ _ _ (back q' k).1 (back q' k).2 h, fun d ρ' σ' v H' q' k rv h => e.rt _ _ _ _ _ (back q' k).1 (back q' k).2 (rv.mono (hide_sub fun a w => w.elim (fun t => .inl (.inl (.inl t))) .inr)) h⟩
theorem jss_b2 (h1 : JS X s1 f1) (h2 : JS X s2 f2) (h : JB X sts f) : JSs X (s1 :: s2 :: sts) (gB2 f1 f2 f) := jss_of_jb2 h1 h2 h _ fun _ _ h => h
end
end Dn
set_option Elab.async false
set_option linter.all false
set_option maxRecDepth 100000
set_option autoImplicit false
set_option maxHeartbeats 4000000
namespace Dn
open PySem L2 Evl PySem.Spec PyProof.Rows
def isStr (s : Str) : D → Bool
  | .str t => t == s
  | _ => false
def isTup1 (s : Str) : D → Bool
  | .tuple [x] => isStr s x
  | _ => false
def isTold (s : Str) (m n : Int) : D → Bool
  | .tuple (x :: r) => decide ((r.length : Int) = m) && (isStr s x && isRow m n (.tuple r))
  | _ => false
def okS (d : D) : Prop := ∀ t, d = .str t → SeqAt.shaped (.str t) = true
def okV (d : D) : Prop := ∀ xs, d = .tuple xs → xs.length ≤ 100000 ∧ ∀ x, x ∈ xs → okS x
def optD : Option Int → D
  | none => .none
  | some i => .int i
def isUnit (rs : List (List Int)) (e : Int) : Bool := decide (rs.getD e.toNat [] = rgI rs.length) && decide (rs.map (fun r => r.getD e.toNat 0) = rgI rs.length)
def unitOf (rs : List (List Int)) : Option Int := (rgI rs.length).find? (isUnit rs)
def backOf (rs : List (List Int)) (u t : Int) : Option Int := (rgI rs.length).find? fun b => decide (rc rs t b = u) && decide (rc rs b t = u)
def threeOf (rs : List (List Int)) : Option D := (rgI rs.length).findSome? fun a => (rgI rs.length).findSome? fun b => (rgI rs.length).findSome? fun c =>
  if rc rs (rc rs a b) c ≠ rc rs a (rc rs b c) then some (.tuple [.int a, .int b, .int c]) else none
def noBack (rs : List (List Int)) (u : Int) : Option Int := (rgI rs.length).find? fun a => (backOf rs u a).isNone
def faultOf (rs : List (List Int)) : D := match unitOf rs with
  | none => .tuple [.str "unit"]
  | some u => match noBack rs u with
    | some a => .tuple [.str "back", .int a]
    | none => match threeOf rs with
      | some (.tuple t) => .tuple (.str "three" :: t)
      | _ => .tuple [.str "group"]
def isGrp (rs : List (List Int)) : Bool := match unitOf rs with
  | none => false
  | some u => (noBack rs u).isNone && (threeOf rs).isNone
def isPaper (rs : List (List Int)) (d : D) : Bool :=
  if isTold "three" 3 rs.length d = true then (match d with
    | .tuple [_, .int a, .int b, .int c] => decide (rc rs (rc rs a b) c ≠ rc rs a (rc rs b c))
    | _ => false)
  else if isTold "back" 1 rs.length d = true then (match d, unitOf rs with
    | .tuple [_, .int a], some u => (backOf rs u a).isNone
    | _, _ => false)
  else if isTup1 "unit" d = true then (unitOf rs).isNone
  else isTup1 "group" d && isGrp rs
def S_is_square (ds : List D) (Q : D → Prop) : Prop := ∃ rs, ds = [tR rs, .int 1, .int 24] ∧ Rw rs ∧ Q (.bool true)
def S_is_same0 (ds : List D) (Q : D → Prop) : Prop := ∃ d s, ds = [d, .str s] ∧ okS d ∧ SeqAt.shaped (.str s) = true ∧ Q (.bool (isStr s d))
def S_is_same (ds : List D) (Q : D → Prop) : Prop := (∃ d s, ds = [d, .str s] ∧ okS d ∧ SeqAt.shaped (.str s) = true ∧ Q (.bool (isStr s d))) ∨ ∃ d s, ds = [d, .tuple [.str s]] ∧ okV d ∧ SeqAt.shaped (.str s) = true ∧ Q (.bool (isTup1 s d))
def S_is_told (ds : List D) (Q : D → Prop) : Prop := ∃ d s m n, ds = [d, .str s, .int m, .int n] ∧ (0 ≤ m ∧ n ≤ 100000) ∧ okV d ∧ SeqAt.shaped (.str s) = true ∧ Q (.bool (isTold s m n d))
def S_unit_of (ds : List D) (Q : D → Prop) : Prop := ∃ rs, ds = [tR rs] ∧ Rw rs ∧ Q (optD (unitOf rs))
def S_back_of (ds : List D) (Q : D → Prop) : Prop := ∃ rs u t, ds = [tR rs, .int u, .int t] ∧ Rw rs ∧ 0 ≤ t ∧ t < rs.length ∧ Q (optD (backOf rs u t))
def S_broken_three (ds : List D) (Q : D → Prop) : Prop := ∃ rs, ds = [tR rs] ∧ Rw rs ∧ Q ((threeOf rs).getD .none)
def S_group_paper (ds : List D) (Q : D → Prop) : Prop := ∃ rs, ds = [tR rs] ∧ Rw rs ∧ Q (faultOf rs)
def S_is_group_paper (ds : List D) (Q : D → Prop) : Prop := ∃ rs d, ds = [tR rs, d] ∧ Rw rs ∧ okV d ∧ Q (.bool (isPaper rs d))
def S__check_rows (ds : List D) (Q : D → Prop) : Prop := ∃ rs, ds = [tR rs] ∧ Rw rs ∧ Q .none
def S__law_undone (ds : List D) (Q : D → Prop) : Prop := ∃ m, ds = [tI m] ∧ m.length ≤ 1000 ∧ (∀ x, x ∈ m → 0 ≤ x ∧ x < m.length) ∧ ∀ u : List Int, u.length = m.length → (∀ x, x ∈ u → 0 ≤ x ∧ x < m.length) → Q (tI u)
def S__law_places_of (ds : List D) (Q : D → Prop) : Prop := ∃ c s : Nat, ds = [.int c, .int s] ∧ 1 ≤ s ∧ c * s ≤ 1000 ∧ Q (.list ((rgI (c * s)).map fun k => .tuple [.int (k / s), .int (k % s)]))
def S__law_product_dots (ds : List D) (Q : D → Prop) : Prop := ∃ A B, ds = [tR A, tR B] ∧ Rw A ∧ Rw B ∧ A.length * B.length ≤ 24 ∧ ∀ C, Rw C → C.length = A.length * B.length → Q (.list (C.map tI))
def S__law_cyclic (ds : List D) (Q : D → Prop) : Prop := ∃ n : Nat, ds = [.int n] ∧ 1 ≤ n ∧ n ≤ 24 ∧ ∀ C, Rw C → C.length = n → Q (tR C)
def S__law_direct (ds : List D) (Q : D → Prop) : Prop := ∃ A B, ds = [tR A, tR B] ∧ Rw A ∧ Rw B ∧ A.length * B.length ≤ 24 ∧ ∀ C, Rw C → C.length = A.length * B.length → Q (tR C)
def S__law_turned_pairs (ds : List D) (Q : D → Prop) : Prop := ∃ n : Nat, ds = [.int n] ∧ 1 ≤ n ∧ n ≤ 12 ∧ ∀ C, Rw C → C.length = 2 * n → Q (tR C)
def S__law_renamed_group (ds : List D) (Q : D → Prop) : Prop := ∃ rs m, ds = [tR rs, tI m] ∧ Rw rs ∧ List.Perm m (rgI rs.length) ∧ ∀ C, Rw C → C.length = rs.length → Q (tR C)
def S__law_group_fault (ds : List D) (Q : D → Prop) : Prop := ∃ rs, ds = [tR rs] ∧ Rw rs ∧ Q (faultOf rs)
def S__law_with_entry (ds : List D) (Q : D → Prop) : Prop := ∃ rs a b v, ds = [tR rs, .int a, .int b, .int v] ∧ Rw rs ∧ (0 ≤ a ∧ a < rs.length) ∧ (0 ≤ b ∧ b < rs.length) ∧ (0 ≤ v ∧ v < rs.length) ∧ ∀ C, Rw C → C.length = rs.length → Q (tR C)
def S__law_near_group (ms ds : List D) (Q : D → List D → Prop) : Prop := ∃ rs, ds = [tR rs] ∧ Rw rs ∧ Dc ms ∧ ∀ C ms', Rw C → Dc ms' → Q (tR C) ms'
def S_backs_of (ds : List D) (Q : D → Prop) : Prop := ∃ rs u, ds = [tR rs, .int u] ∧ Rw rs ∧ ∀ z, Q z
def S_centre_of (ds : List D) (Q : D → Prop) : Prop := ∃ rs, ds = [tR rs] ∧ Rw rs ∧ ∀ z, Q z
def S__law_quaternion_rows (ds : List D) (Q : D → Prop) : Prop := ds = [] ∧ ∀ C, Rw C → C.length = 8 → Q (tR C)
def S__law_unit (ds : List D) (Q : D → Prop) : Prop := ∃ rs u, ds = [tR rs] ∧ Rw rs ∧ faultOf rs = .tuple [.str "group"] ∧ unitOf rs = some u ∧ Q (.int u)
def S__law_group_rows (ms ds : List D) (Q : D → List D → Prop) : Prop := ds = [.int 9] ∧ Dc ms ∧ ∀ C ms', Rw C → Dc ms' → Q (tR C) ms'
def S__law_made (ds : List D) (Q : D → Prop) : Prop := ∃ rs, ds = [tR rs] ∧ Rw rs ∧ (faultOf rs = .tuple [.str "group"] → Q (.list [tR rs, optD (unitOf rs), .int rs.length])) ∧ (faultOf rs ≠ .tuple [.str "group"] → Q (.list [.str "refused", faultOf rs]))
def S__law_judged_right (ds : List D) (Q : D → Prop) : Prop := ∃ rs, ds = [tR rs] ∧ Rw rs ∧ Q (.bool true)
def S_law (ds : List D) (Q : D → Prop) : Prop := ∃ s, ds = [scr s] ∧ s.length ≤ 63 ∧ Q (.bool true)
end Dn
set_option Elab.async false
set_option linter.all false
set_option maxRecDepth 100000
set_option autoImplicit false
set_option maxHeartbeats 4000000
/-! An own error over a built-in one, whose __init__ says super().__init__(text) and keeps one field. -/
namespace PySem
namespace XiX
open PySem.W PyProof.Rows
def iA (f : Str) (p1 p2 : Pos) : Arguments := { posonlyargs := [], args := [{ arg := "self", annotation := none, pos := p1 }, { arg := f, annotation := none, pos := p2 }], vararg := none, kwonlyargs := [], kw_defaults := [], kwarg := none, defaults := [] }
def iB (f txt : Str) (q1 q2 q3 q4 q5 q6 q7 q8 q9 q10 : Pos) : List Stmt :=
  [.Expr (.Call (.Attribute (.Call (.Name "super" q1) [] [] q2) "__init__" q3) [.Constant (.str txt) 0 q4] [] q5) q6, .Assign [.Attribute (.Name "self" q7) f q8] (.Name f q9) q10]
def iS (f : Str) : Scope := { kind := .function, names := [(PySem.Str.ofString "self", .local), (f, .local), (PySem.Str.ofString "__class__", .free), (PySem.Str.ofString "super", .globalImplicit)], isGenerator := false, isCoroutine := false, more := [] }
structure XiTxt (P : Program) (K : Frag) (mg : Str → Option Value) (nm f txt : Str) (B newId i : String) (bm : List Value) (C fI : Addr) : Prop where
  gC : mg nm = some (.ref C)
  init : findIn K (.ref C) "__init__" = some (some (.ref fI))
  exI : excInitIn K C bm newId = true
  tyF : typeIn K (.ref fI) = some (.type "function")
  cl : ∃ cd, clsIn K C = some cd
  mro : mroIn K C (.ref C) = some true
  st : nsIn K cStatics "thirdparty.any" = some none
  sIn : ks_superIn K C C "__init__" = some (some (.builtin i))
  sub : subIn K (.ref C) (.type B) = some true
  sa : findIn K (.ref C) "__setattr__" = some (some (.builtin "object.__setattr__"))
  exO : excOver K C bm = true
  tk : takerIn K C f = some none
  hd : hasDictIn K C = true
  kC : keepIn K (.ref C) = true
  tyC : typeIn K (.ref C) = some (.type "type")
  noS : (P.main.scope.names.lookup ("super" : Str)).isSome = false
  mgS : mg "super" = none
  fn : ∃ (qual : Str) (oc : Value) (od : Option Addr) (doc pm ct : Value) (an : Option Addr) (osl : Array (Option Value)) (cda cc : Addr) (vs : Array Value) (file : Str) (tf : Tok) (ccl cl : Value) (cdd cld : Option Addr) (ccs csl : Array (Option Value)) (p1 p2 q1 q2 q3 q4 q5 q6 q7 q8 q9 q10 : Pos),
    K.lookup fI = some ⟨oc, od, .func (ksFn "__init__" qual (iA f p1 p2) (iB f txt q1 q2 q3 q4 q5 q6 q7 q8 q9 q10) (iS f) .none .none doc pm an (.ref cda) ct cc), osl⟩ ∧ codeIn K (.ref cda) qual = true ∧
    K.lookup cda = some ⟨ccl, cdd, .fields vs, ccs⟩ ∧ vs[2]? = some (.str file tf) ∧ (P.main.file == file) = true ∧ (q3.endLine == q5.line) = true ∧ K.lookup cc = some ⟨cl, cld, .cell (some (.ref C)), csl⟩
/-- the facts of the base -/
structure XiBase (B newId i : String) (bm : List Value) : Prop where
  k : KxsFacts B i
  e : ExcBaseFacts B newId i bm
  s : StoreFacts B bm "object.__setattr__" "object"
/-- what __init__ leaves -/
structure XiEnd (h h' : Heap) (x C d : Addr) (f : Str) (v : Value) : Prop where
  keep : ∀ b o, h.get? b = some o → h'.get? b = some o
  obj : ∃ oe vs, h'.get? x = some oe ∧ oe.cls = .ref C ∧ oe.dict = some d ∧ oe.data = .fields vs ∧ vs[1]? = some .none
  dbig : h.objs.size ≤ d
  dne : d ≠ x
  ns : h'.Ns1 d (fun y => if y = f then some v else none)
section
variable {prog : Program} {w : World} {A : Around} {R : Result → Shared → Prop} {K : Frag} {mg : Str → Option Value} {C fI : Addr} {nm f txt : Str} {B newId i : String} {bm : List Value}
theorem one_size (v : Value) : [v].length ≤ sizeLine := by
  rw [sizeLine_eq]
  exact (by decide : 1 ≤ 16777216)
theorem len1 (e : DictEntry) : [e].length ≤ 1000 := (by decide : 1 ≤ 1000)
theorem ns1_one {h : Heap} {dx : Addr} {hsh : Int} {f : Str} {tk : Tok} {v : Value} {n : Nat} (e : h.get? dx = some (dictOf [⟨hsh, .str f tk, v⟩] n)) : h.Ns1 dx (fun y => if y = f then some v else none) := by
  refine ⟨_, _, _, e, rfl, ?_, ?_, fun name => ?_⟩
  · intro e he
    simp at he
    subst he
    exact ⟨_, _, rfl⟩
  · simp [UniqKeys]
  · show nsFind _ name = if name = f then some v else none
    by_cases q : name = f
    · subst q; simp [nsFind, findBy, Value.isStr]
    · rw [if_neg q]; simp [nsFind, findBy, Value.isStr]; exact fun z => q z.symm
theorem eval_meth {o : Expr} {nm txt : Str} {q3 q4 q5 : Pos} {env : Env} (h : (q3.endLine == q5.line) = true) : eval (.Call (.Attribute o nm q3) [.Constant (.str txt) 0 q4] [] q5) env = (do
    let ov ← attributeBase o nm env (eval o env)
    standAt q3.atName
    let __x ← holding [ov] (getMethod ov nm (do let r ← importBound o env; pure (r.getD true)))
    match __x with
      | (f, first) => callWith q5 f first (backTo q5 (starEach [.Constant (.str txt) 0 q4] env)) []) := by
  rw [eval]
  have e : methodCallPos true o env q3 q5 = pure q5 := by unfold methodCallPos; rw [h]; rfl
  have e2 : methodCallForm ([Expr.Constant (.str txt) 0 q4].length + ([] : List Keyword).length) (backTo q5 (starEach [Expr.Constant (.str txt) 0 q4] env)) (backToKw q5 (keywordEach [] env)) = true := rfl
  have e3 : ∀ ov, methodCall o nm q3 q5 env ov ([Expr.Constant (.str txt) 0 q4].length + ([] : List Keyword).length) (backTo q5 (starEach [Expr.Constant (.str txt) 0 q4] env)) (backToKw q5 (keywordEach [] env)) = (do
      let __x ← holding [ov] (getMethod ov nm (do let r ← importBound o env; pure (r.getD true)))
      match __x with
        | (f, first) => callWith q5 f first (backTo q5 (starEach [.Constant (.str txt) 0 q4] env)) []) := by
    intro ov
    unfold methodCall
    rw [e2]
    simp only [calleeOf, if_true, e, pure_bind]
    rfl
  simp only [e3]
/-- the call of __init__ on the fresh exception x = hp.size + 1, the tuple of its arguments at hp.size -/
theorem xi_init (F : XiBase B newId i bm) (T : XiTxt prog K mg nm f txt B newId i bm C fI) {hp : Heap} {g : Array GenState} {d : Drawn} {t : Nat} {os : OsState} {v : Value}
    (X : K.In hp) (hlim : hp.NoLimit) (hroom : A.depth < recursionLimit) (hfl : (iS f).names.lookup f = some .local) (hsl : (iS f).names.lookup ("super" : Str) = some .globalImplicit) (hcl : (iS f).names.lookup ("__class__" : Str) = some .free) (hse : (iS f).names.lookup ("self" : Str) = some .local)
    (hce : ∀ p ∈ (iS f).names, p.2 ≠ .cell) (hdb : (f == ("__debug__" : Str)) = false)
    (hbd : ∀ (qual : Str) (p1 p2 q1 q2 q3 q4 q5 q6 q7 q8 q9 q10 : Pos) (doc pm ct cda : Value) (an : Option Addr) (cc : Addr) (x : Value), bindArgs (ksFn "__init__" qual (iA f p1 p2) (iB f txt q1 q2 q3 q4 q5 q6 q7 q8 q9 q10) (iS f) .none .none doc pm an cda ct cc) ⟨[x, v], []⟩ = pure ([(("self" : Str), x), (f, v)] : List (Str × Value)))
    (hls : ∀ x : Value, List.lookup ("self" : Str) ([(("self" : Str), x), (f, v)] : List (Str × Value)).reverse = some x) (hlf : ∀ x : Value, List.lookup f ([(("self" : Str), x), (f, v)] : List (Str × Value)).reverse = some v)
    (hg : hp.Ns mainGlobals mg) (hb : ∃ mb, hp.Ns builtinsNs mb ∧ ∀ (x : Str), x ≠ Str.ofString "__name__" → mb x = bootBuiltins x)
    (hq : ∀ h' tk dx, XiEnd hp h' (hp.objs.size + 1) C dx f v → R (.ok (.ret .none)) ⟨h', g, d, tk, os⟩) :
    codeAny (model prog w) A (.call (.ref fI) ⟨[.ref (hp.objs.size + 1), v], []⟩) R ⟨(hp.push (kdv_tup [v])).push (HandSPX.excO C hp.objs.size), g, d, t, os⟩ := by
  obtain ⟨qual, oc, od, doc, pm, ct, an, osl, cda, cc, vs, file, tf, ccl, cl, cdd, cld, ccs, csl, p1, p2, q1, q2, q3, q4, q5, q6, q7, q8, q9, q10, ho, hcd, hcda, hvs, hfile, hpos, hcc⟩ := T.fn
  obtain ⟨mb, hmb, hbb⟩ := hb
  obtain ⟨cd, hcd2⟩ := T.cl
  have k : ∀ b o, hp.get? b = some o → ((hp.push (kdv_tup [v])).push (HandSPX.excO C hp.objs.size)).get? b = some o := fun b o e => Heap.get?_push_of_some _ (Heap.get?_push_of_some _ e)
  have hx : ((hp.push (kdv_tup [v])).push (HandSPX.excO C hp.objs.size)).get? (hp.objs.size + 1) = some (HandSPX.excO C hp.objs.size) := by heap_get
  have hsz : ((hp.push (kdv_tup [v])).push (HandSPX.excO C hp.objs.size)).objs.size = hp.objs.size + 1 + 1 := by rw [Heap.size_push, Heap.size_push]
  have X0 := X.keeps k
  refine ks_codeAny_call_defAt (binds := [("self", .ref (hp.objs.size + 1)), (f, v)]) hroom (X0 _ _ ho) rfl (hlim.keeps k) (codeRec_of X0 hcd) rfl (BindsTo.of_eq (hbd _ _ _ _ _ _ _ _ _ _ _ _ _ _ _ _ _ _ _ _)) hce ?_ (fun h₀ hn k₀ => ?_) rfl rfl rfl
  · intro y hy
    rcases List.mem_cons.1 hy with rfl | hy
    · exact hse
    · obtain rfl := List.mem_singleton.1 hy
      exact hfl
  have kk : ∀ b o, hp.get? b = some o → h₀.get? b = some o := fun b o e => k₀ b o (k b o e)
  have X1 : K.In h₀ := X.keeps kk
  have hx1 := k₀ _ _ hx
  show wpAt _ _ (.func (iB f txt q1 q2 q3 q4 q5 q6 q7 q8 q9 q10) _) (execs (iB f txt q1 q2 q3 q4 q5 q6 q7 q8 q9 q10) _) _ _ _
  refine ks_wpAt_execs_cons (ks_wpAt_Expr_any ?_ rfl rfl)
  refine ks_wpAt_MethodCall ?_ (eval_meth hpos)
  refine ks_wpAt_super_base (f := fI) (cc := cda) hsl hcl (by decide) rfl (X1 _ _ ho) rfl rfl rfl (X1 _ _ hcda) rfl hvs hfile T.noS ?_
  refine ks_loadName_global rfl hsl (Calls.loadGlobal_builtin (hg.at (kk _)) T.mgS (hmb.at (kk _)) ((hbb _ (by decide)).trans (by rfl)) ⟨rfl, ?_⟩)
  refine wpAny_loadName_free rfl hcl (by rfl) ⟨_, X1 _ _ hcc, rfl⟩ ?_
  refine wpAny_loadName_local rfl hse hn (hls _) ?_
  have hC : ∃ oD, h₀.get? C = some oD ∧ oD.data = .cls cd := by
    unfold clsIn at hcd2
    split at hcd2
    · cases hcd2
      rename_i z
      exact ⟨_, X1 _ _ z, rfl⟩
    · cases hcd2
  obtain ⟨oD, hD, hDd⟩ := hC
  refine ks_wpAny_isType_cls hD hDd ⟨rfl, ?_⟩
  refine ks_wpAny_call_super hD hDd hx1 rfl (fun c z => by cases z) (looks_mroIn X1 T.mro) fun h1 hso k1 => ?_
  have F1 : Fr hp ((hp.push (kdv_tup [v])).push (HandSPX.excO C hp.objs.size)).objs.size h1 (fun x => List.lookup x ([("self", .ref (hp.objs.size + 1)), (f, v)] : List (Str × Value)).reverse) :=
    ⟨hn.at (k1 _), fun b o e => k1 b o (kk b o e), by rw [hsz]; omega⟩
  have hLx : hp.objs.size + 1 ≠ ((hp.push (kdv_tup [v])).push (HandSPX.excO C hp.objs.size)).objs.size := by rw [hsz]; omega
  have hnone : ∀ a, hp.objs.size ≤ a → hp.get? a = none := fun a ha => by
    cases z : hp.get? a with
    | none => rfl
    | some o => exact absurd (Nat.lt_of_lt_of_le (Heap.lt_size z) ha) (Nat.lt_irrefl _)
  have hL0 : ((hp.push (kdv_tup [v])).push (HandSPX.excO C hp.objs.size)).objs.size < h₀.objs.size := hn.lt
  have N1 : News hp ((hp.push (kdv_tup [v])).push (HandSPX.excO C hp.objs.size)).objs.size h1 [(h₀.objs.size, ks_superObj C (hp.objs.size + 1) C), (hp.objs.size + 1, excObj C hp.objs.size none .none)] := by
    intro p hpm
    rcases List.mem_cons.1 hpm with rfl | hpm
    · exact ⟨hso, Nat.ne_of_gt hL0, hnone _ (by rw [hsz] at hL0; show hp.objs.size ≤ h₀.objs.size; omega)⟩
    · obtain rfl := List.mem_singleton.1 hpm
      exact ⟨k1 _ _ hx1, hLx, hnone _ (Nat.le_succ _)⟩
  have I1 : W.InstAt h1 (hp.objs.size + 1) (excObj C hp.objs.size none .none) C none := ⟨k1 _ _ hx1, rfl, rfl, trivial⟩
  refine kxs_method F.k F1 X N1 List.mem_cons_self I1 T.st T.sIn T.sub (by decide) fun q h2 F2 N2 lt2 => ?_
  refine kxs_callWith1 N2 List.mem_cons_self (spliced_more (wpAny_Constant_str (spliced_none ⟨kxs_at N2 List.mem_cons_self, ?_⟩))) rfl rfl
  have lx : hp.objs.size + 1 < q := lt2 _ (List.mem_cons_of_mem _ List.mem_cons_self)
  have ls : h₀.objs.size < q := lt2 _ List.mem_cons_self
  have nsx : h₀.objs.size ≠ hp.objs.size + 1 := fun z => by rw [hsz] at hL0; rw [z] at hL0; omega
  refine kxs_call F2 X N2 F.e T.exI List.mem_cons_self (.tail (Nat.ne_of_gt lx) (.tail nsx (.head fun p hp2 => by cases hp2))) (one_size _) fun t' h3 F3 N3 lt3 => ?_
  refine ks_wpAt_execs_cons (ks_wpAt_Assign_Attr (wpAt_of_wpAny ?_) rfl)
  refine ESX.ldL F3.ns (hlf _) (ESX.ldL F3.ns (hls _) ?_ rfl hse (by decide)) rfl hfl hdb
  have ne3 : ∀ p ∈ [(q, kxs_mw i (hp.objs.size + 1)), (h₀.objs.size, ks_superObj C (hp.objs.size + 1) C), (hp.objs.size + 1, excObj C hp.objs.size none .none)], p.1 < t' := lt3
  have tx : hp.objs.size + 1 < t' := ne3 (hp.objs.size + 1, excObj C hp.objs.size none .none) (by simp)
  refine set_exc0 F.s F3 X N3 (List.mem_cons_of_mem _ (List.mem_cons_of_mem _ (List.mem_cons_of_mem _ List.mem_cons_self))) T.sa T.exO T.tk T.hd (by rfl) (.tail (Nat.ne_of_gt tx) (.tail (Nat.ne_of_gt lx) (.tail nsx (.head fun p hp2 => by cases hp2)))) (len1 _) fun dx h4 F4 N4 lt4 => ?_
  refine wpAt_of_wpAny (wpAny_execs_nil ?_)
  have mx := N4 (hp.objs.size + 1, excObj C t' (some dx) .none) (by simp)
  have md := N4 (dx, _) List.mem_cons_self
  have dn : hp.objs.size + 1 < dx := lt4 (hp.objs.size + 1, excObj C t' none .none) (by simp)
  exact hq h4 _ dx ⟨F4.keep, ⟨_, _, mx.1, rfl, rfl, rfl, rfl⟩, Nat.le_of_lt (Nat.lt_of_succ_lt dn), Nat.ne_of_gt dn, ns1_one md.1⟩
/-- the names of __init__ as plain facts of f and txt -/
structure XiSc (f txt : Str) : Prop where
  fl : (iS f).names.lookup f = some .local
  sl : (iS f).names.lookup ("super" : Str) = some .globalImplicit
  cl : (iS f).names.lookup ("__class__" : Str) = some .free
  se : (iS f).names.lookup ("self" : Str) = some .local
  ce : ∀ p ∈ (iS f).names, p.2 ≠ .cell
  db : (f == ("__debug__" : Str)) = false
  bd : ∀ (qual : Str) (p1 p2 q1 q2 q3 q4 q5 q6 q7 q8 q9 q10 : Pos) (doc pm ct cda : Value) (an : Option Addr) (cc : Addr) (x v : Value), bindArgs (ksFn "__init__" qual (iA f p1 p2) (iB f txt q1 q2 q3 q4 q5 q6 q7 q8 q9 q10) (iS f) .none .none doc pm an cda ct cc) ⟨[x, v], []⟩ = pure ([(("self" : Str), x), (f, v)] : List (Str × Value))
  ls : ∀ x v : Value, List.lookup ("self" : Str) ([(("self" : Str), x), (f, v)] : List (Str × Value)).reverse = some x
  lf : ∀ x v : Value, List.lookup f ([(("self" : Str), x), (f, v)] : List (Str × Value)).reverse = some v
/-- a made error -/
structure XiMade (h h' : Heap) (e C d : Addr) (f : Str) (v : Value) : Prop where
  keep : ∀ b o, h.get? b = some o → h'.get? b = some o
  new : h.objs.size ≤ e
  obj : ∃ oe vs, h'.get? e = some oe ∧ oe.cls = .ref C ∧ oe.dict = some d ∧ oe.data = .fields vs ∧ vs[1]? = some .none
  dbig : h.objs.size ≤ d
  dne : d ≠ e
  ns : h'.Ns1 d (fun y => if y = f then some v else none)
theorem xi_made (F : XiBase B newId i bm) (S : XiSc f txt) (T : XiTxt prog K mg nm f txt B newId i bm C fI) {s : Shared} {v : Value} (X : K.In s.heap) (hlim : s.heap.NoLimit) (hroom : A.depth + 1 < recursionLimit)
    (hg : s.heap.Ns mainGlobals mg) (hb : ∃ mb, s.heap.Ns builtinsNs mb ∧ ∀ (x : Str), x ≠ Str.ofString "__name__" → mb x = bootBuiltins x)
    (hq : ∀ h' tk e d, XiMade s.heap h' e C d f v → R (.ok (.ret (.ref e))) { s with heap := h', toks := tk }) :
    codeAny (model prog w) A (.call (.ref C) ⟨[v], []⟩) R s := by
  obtain ⟨hp, g, dr, tk, os⟩ := s
  obtain ⟨nm2, N, qn, bs, bm2, hdct, sn, sub, ab, col, dd, k0, k1, k2, k3, k5, hC, hT⟩ := excInit_of X T.exI
  refine HandSPX.call_own F.e hT hC (looks_findIn X T.init) (fun self => bind_fn X self T.tyF) (one_size v) ?_
  refine xi_init F T X hlim (by show A.depth + 1 < recursionLimit; exact hroom) S.fl S.sl S.cl S.se S.ce S.db (S.bd · · · · · · · · · · · · · · · · · · · · v) (S.ls · v) (S.lf · v) hg hb fun h' tk' dx M => ?_
  exact ⟨rfl, hq h' tk' (hp.objs.size + 1) dx ⟨M.keep, Nat.le_succ _, M.obj, M.dbig, M.dne, M.ns⟩⟩
end
end XiX
end PySem
namespace L2
open PySem PySem.Spec PyProof.Rows
theorem relO_xi {f0 : Str} {v : V} {v' : Value} (r : RelV v v') (f : Str) : RelO (List.lookup f [(f0, v)]) (if f = f0 then some v' else none) := by
  by_cases hw : f = f0
  · subst hw
    rw [if_pos rfl]
    have q : List.lookup f [(f, v)] = some v := by simp [List.lookup]
    rw [q]
    exact r
  · rw [if_neg hw]
    have qw : (f == f0) = false := by simpa using hw
    have q2 : List.lookup f [(f0, v)] = none := by simp [List.lookup, qw]
    rw [q2]
    trivial
section
variable {X : Cx} {C fI : Addr} {nm f txt : Str} {B newId i : String} {bm : List Value}
/-- E(e) -/
def tMkXi (C : Addr) (f : Str) (ta : TA) : St → Hp → XK → Prop := fun σ H Q => ta σ H fun vs H1 => ∃ v, vs = [v] ∧ ∀ d, H1 d = none → Q (.ref C) (some d) (upd H1 d (.xd [(f, v)]))
theorem pmk_xi {a : Expr} {ta : TA} {p pos : Pos} {k : Nat} (F : PySem.XiX.XiBase B newId i bm) (S : PySem.XiX.XiSc f txt) (T : PySem.XiX.XiTxt X.prog X.K X.mg nm f txt B newId i bm C fI) (hexC : PySem.W.subIn X.K (.ref C) (.type "BaseException") = some true) (hr : Room (k + 1) X.A) (ha : PA X [a] ta) (hg : Gl X nm := by rfl) (hdb : (nm == ("__debug__" : Str)) = false := by decide)
    (he : starEach (a :: []) X.env = (false, eval a X.env) :: starEach [] X.env := by rfl) (hpl : (backTo pos (starEach [] X.env)).any (·.1) = false := by rfl) :
    PMk X (.Call (.Name nm p) [a] [] pos) (tMkXi C f ta) := by
  intro pins s σ H Q I h
  refine wpAny_Call_Name_kw (ld_glob I hg T.gC ?_ (hd := hdb))
  refine PySem.W.callWith_K (h₀ := X.base) I.ok.mod.kin T.kC (thn (ha.run pos pins s σ H _ I h) fun us s1 hh => ?_) he hpl
  obtain ⟨vs, H1, I1, r1, v, ev, q1⟩ := hh
  subst ev
  refine ⟨I1.kIn, ?_⟩
  cases r1 with
  | cons rv rn =>
    rename_i v' us'
    cases rn
    show wpAny _ _ (call (.ref C) [v']) _ _ _
    have hlim := I1.nolimit
    obtain ⟨hp, g, dr, tk, os⟩ := s1
    refine wpAny_call (PySem.XiX.xi_made F S T I1.kIn hlim (by have := hr.dp; omega) ?_ ?_ fun h' tk' e d M => ?_)
    · exact I1.mod.glob.at (I1.bk _)
    · obtain ⟨mb, b1, b2⟩ := I1.mod.blt
      exact ⟨mb, b1.at (I1.bk _), b2⟩
    show MkP X pins σ Q (.ref e) ⟨h', g, dr, tk', os⟩
    obtain ⟨oe, fv, hoe, hc, hd, hdat, h1⟩ := M.obj
    have hns := M.ns
    obtain ⟨G', g1, g2⟩ := restrict h' fun b => decide (b ≠ e)
    have gk : ∀ b, b ≠ e → G'.get? b = h'.get? b := fun b hb => g1 b (decide_eq_true hb)
    have ge : G'.get? e = none := g2 e (by simp)
    have old : ∀ b o, hp.get? b = some o → G'.get? b = some o := fun b o q => (gk b (Nat.ne_of_lt (Nat.lt_of_lt_of_le (Heap.lt_size q) M.new))).trans (M.keep b o q)
    have ob : ObjOk X.prog X.w (upd H1 d (.xd [(f, v)])) G' d (.xd [(f, v)]) :=
      ⟨_, hns.at (fun o q => (gk d M.dne).trans q), fun f => relO_xi rv f⟩
    have J : Inv X pins σ (upd H1 d (.xd [(f, v)])) ⟨G', g, dr, tk', os⟩ := I1.laid (t' := tk') old M.dbig ob
    refine ⟨e, oe, fv, ⟨G', g, dr, tk', os⟩, _, .ref C, some d, rfl, J, fun b o q => ?_, ge, hoe, ⟨hc, hd⟩, hdat, h1, ?_, rfl, I1.bare, raises_own hexC T.tyC, q1 d (I1.hok.fresh M.dbig)⟩
    · by_cases hb : b = e
      · have q' : G'.get? b = some o := q
        rw [hb, ge] at q'; cases q'
      · exact (gk b hb).symm.trans q
    · rw [upd_ne (Ne.symm M.dne)]
      exact I1.hok.fresh M.new
/-- raise E(e) -/
def tRaiseXi (C : Addr) (f : Str) (W : WX) (ta : TA) : TS := fun _ σ H => tMkXi C f ta σ H fun cls d H' => W cls d σ H'
end
end L2
set_option Elab.async false
set_option linter.all false
set_option maxRecDepth 100000
set_option autoImplicit false
set_option maxHeartbeats 4000000
/-! Readings as terms: what a derivation stands for, to be put into rules of statements. -/
namespace Dn
open PySem L2 Evl PySem.Spec PyProof.Rows
section
variable {X : Cx} {e : Expr} {es : List Expr} {f : DE} {ft : DT} {fa : DA}
noncomputable def JE.t (h : JE X e f) : TE := h.ex.choose
theorem JE.p (h : JE X e f) : PE X e h.t := h.ex.choose_spec.1
theorem JE.k (h : JE X e f) : ∀ (T : Addr → Prop) (ρ : Env) (σ : L2.St) (H : Hp) (QD : D → Env → Prop) (Q : VK), RS X.K T ρ σ H → f ρ QD →
    (∀ d ρ' v H', RS X.K T ρ' σ H' → Po ρ σ H ρ' σ H' → Rp X.K (hide (Hd T ρ' σ) H') v d → QD d ρ' → Q v H') → h.t σ H Q := h.ex.choose_spec.2
noncomputable def JT.t (h : JT X e ft) : TT := h.ex.choose
theorem JT.p (h : JT X e ft) : PT X e h.t := h.ex.choose_spec.1
theorem JT.k (h : JT X e ft) : ∀ (T : Addr → Prop) (ρ : Env) (σ : L2.St) (H : Hp) (QD : Bool → Env → Prop) (Q : Bool → Hp → Prop), RS X.K T ρ σ H → ft ρ QD →
    (∀ b ρ' H', RS X.K T ρ' σ H' → Po ρ σ H ρ' σ H' → QD b ρ' → Q b H') → h.t σ H Q := h.ex.choose_spec.2
noncomputable def JA.t (h : JA X es fa) : TA := h.ex.choose
theorem JA.p (h : JA X es fa) : PA X es h.t := h.ex.choose_spec.1
theorem JA.k (h : JA X es fa) : ∀ (T : Addr → Prop) (ρ : Env) (σ : L2.St) (H : Hp) (QD : List D → Env → Prop) (Q : List V → Hp → Prop), RS X.K T ρ σ H → fa ρ QD →
    (∀ ds ρ' vs H', RS X.K T ρ' σ H' → Po ρ σ H ρ' σ H' → RpAll X.K (hide (Hd T ρ' σ) H') vs ds → QD ds ρ' → Q vs H') → h.t σ H Q := h.ex.choose_spec.2
/-- slots that are all values that nobody changes, or unknown -/
def Im (ρ : Env) : Prop := ∀ (i : Nat) (m : MO), ρ[i]? ≠ some (some (SV.ow m))
theorem Im.no {ρ : Env} {σ : L2.St} (h : Im ρ) (a : Addr) : ¬ Own ρ σ a := fun ⟨i, m, z, _⟩ => h i m z
theorem Im.set {ρ : Env} (h : Im ρ) (i : Nat) (d : D) : Im (ρ.set i (some (SV.im d))) := fun j m z => by
  rw [List.getElem?_set] at z
  split at z
  · split at z
    · cases z
    · cases z
  · exact h j m z
theorem Im.po {ρ ρ' : Env} {σ σ' : L2.St} {H H' : Hp} (h : Im ρ) (p : Po ρ σ H ρ' σ' H') : Ex H H' := fun a o z => p.keep a o (h.no a) z
theorem Im.hd {ρ : Env} {σ : L2.St} {T : Addr → Prop} {H : Hp} (h : Im ρ) : Ex (hide (Hd T ρ σ) H) (hide T H) := fun a o z => by
  obtain ⟨n, z⟩ := hide_some.1 z
  exact hide_some.2 ⟨fun t => n (.inl t), z⟩
theorem Im.hd' {ρ : Env} {σ : L2.St} {T : Addr → Prop} {H : Hp} (h : Im ρ) : Ex (hide T H) (hide (Hd T ρ σ) H) := fun a o z => by
  obtain ⟨n, z⟩ := hide_some.1 z
  exact hide_some.2 ⟨fun t => t.elim n (h.no a), z⟩
/-- a hidden place has changed -/
theorem RS.chg {K : PySem.W.Frag} {T : Addr → Prop} {ρ : Env} {σ : L2.St} {H : Hp} {x : Addr} {o : HO} (r : RS K T ρ σ H) (hi : Im ρ) (ht : T x) : RS K T ρ σ (upd H x o) := by
  have ex : Ex (hide (Hd T ρ σ) H) (hide (Hd T ρ σ) (upd H x o)) := fun a u z => by
    obtain ⟨n, z⟩ := hide_some.1 z
    refine hide_some.2 ⟨n, ?_⟩
    have w : a ≠ x := fun w => by rw [w] at n; exact n (.inl ht)
    rw [upd_ne w]
    exact z
  refine ⟨r.len, fun i d h => ?_, fun i m h => absurd h (hi i m), r.inj, r.dis, fun a t => ?_, r.tag⟩
  · obtain ⟨v, h1, h2⟩ := r.im i d h
    exact ⟨v, h1, h2.mono ex⟩
  · by_cases z : a = x
    · subst z; rw [upd_same]; simp
    · rw [upd_ne z]; exact r.dom a t
end
/-- a statement of a class's body -/
def cm (st : Stmt) (j : Nat) : Stmt := match st with
  | .ClassDef _ _ _ body _ _ _ _ _ _ _ => body.getD j (.Pass ⟨0, 0, 0, 0⟩)
  | s => s
end Dn
set_option Elab.async false
set_option linter.all false
set_option maxRecDepth 100000
set_option autoImplicit false
set_option maxHeartbeats 4000000
/-! repr of nested values; it wants to know that no repr is under way. -/
namespace Dn
open PySem L2 Evl PySem.Spec PyProof.Rows
def repOk (d : D) : Bool := d.showable && (!d.hasDict && (d.canLay0 && (decide (d.depth ≤ 60) && decide (d.shown.length ≤ 10000))))
def isRef : D → Bool
  | .tuple _ => true
  | .list _ => true
  | _ => false
def dRepN : List D → (D → Prop) → Prop
  | [d] => fun Q => isRef d = true ∧ repOk d = true ∧ Q (.str d.shown)
  | _ => fun _ => False
section
variable {X : Cx}
theorem calld_reprN (hg : X.A.guards = some []) (hu : X.A.units + 64 < cLine) : CallD X (.builtin "repr") dRepN := by
  refine ⟨fun xs H Q => ∃ a d, xs = [V.ref a] ∧ Dp X.K H (.ref a) d ∧ repOk d = true ∧ Q (.str d.shown) H, fun pins s σ H xs us Q I r h => ?_, fun O H vs ds QD Q hO r h k => ?_⟩
  · obtain ⟨a, d, rfl, hd, ho, q⟩ := h
    obtain ⟨u, rfl, ru⟩ := vals1 r
    obtain ⟨as, rd⟩ := Dp.reads I d _ _ hd ru
    cases ru
    simp only [repOk, Bool.and_eq_true, Bool.not_eq_true', decide_eq_true_eq] at ho
    obtain ⟨o1, o2, o3, o4, o5⟩ := ho
    refine repr_of_reads' (h₀ := s.heap) rd o1 (fun z => by rw [o2] at z; cases z) hg (by omega) (fun _ _ e => e) (fun h' u tk keep => ?_) (by rw [sizeLine_eq]; omega)
    exact ⟨.str _, H, I.kept (t' := tk) keep, ⟨_, rfl⟩, q⟩
  · cases r with
    | nil => exact False.elim h
    | cons r rr =>
      cases rr with
      | cons _ _ => exact False.elim h
      | nil =>
        obtain ⟨h1, h2, h3⟩ := h
        have h4 := h2
        simp only [repOk, Bool.and_eq_true, Bool.not_eq_true', decide_eq_true_eq] at h4
        have dp := r.dp h4.2.2.1
        cases r
        all_goals first | (cases h1; done) | exact ⟨_, _, rfl, dp, h2, k _ _ H (.refl H) (.str _) h3⟩
/-! ### calls of defs that want to know it -/
structure FnOkG (P : Program) (w : World) (K : PySem.W.Frag) (mg : Str → Option Value) (base : Heap) (CX : CXT) (k : Nat) (f : Addr) (fd : FuncData) (ps : List Str) (sp : Sp) : Prop where
  len : ∀ (vs : List V) (H : Hp) (Q : VK) (E : XK), sp vs H Q E → vs.length = ps.length
  run : ∀ (A : Around) (outer : List PySem.Env) (s : Shared) (H : Hp) (args : Args) (us : List Value) (vs : List V) (Q : VK) (E : XK), A.guards = some [] → Room k A → Env0 P w K mg base A outer s H → BindsTo s fd args (ps.zip us) → Vals vs us → sp vs H Q E →
    codeAny (model P w) A (.call (.ref f) args) (CR CX outer P w H s Q E) s
theorem run_fnG {CX : CXT} {k : Nat} {f : Addr} {fd : FuncData} {ps : List Str} {sp : Sp} {dvs : List V} {ds : List Value} {E : XK} {pins : List (Addr × Obj)} {σ : L2.St} {H : Hp} {s : Shared} {Q : VK} {us : List Value} {vs : List V}
    (F : FnOkG X.prog X.w X.K X.mg X.base CX k f fd ps sp) (hg : X.A.guards = some []) (hr : Room k X.A) (hb : L2.Binds X.K fd ps ds) (hd : Vals dvs ds) (hx : Passes CX X E) (I : Inv X pins σ H s) (r : Vals vs us) (h : sp (vs ++ dvs) H Q E) :
    wpAny (model X.prog X.w) X.A (call (.ref f) us) (EP X pins σ Q) X.xe s := by
  have r2 := Vals.append r hd
  have hl : (us ++ ds).length = ps.length := by rw [← Vals.length r2]; exact F.len _ _ _ _ h
  refine wpAny_call (codeAny_mono (F.run X.A X.stack s H ⟨us, []⟩ (us ++ ds) (vs ++ dvs) Q E hg hr (Inv.env0 I) (hb s us (Inv.kIn I) hl) r2 h) fun r s' hq => ?_)
  cases r with
  | error e => exact hx pins σ H s e s' I hq
  | ok fl =>
    cases fl with
    | ret u => exact Inv.after I hq
    | _ => exact False.elim hq
theorem fn_ofG {CX : CXT} {P : Program} {w : World} {K : PySem.W.Frag} {mg : Str → Option Value} {base : Heap} {k : Nat} {f : Addr} {name qual : Str} {params : Arguments} {body : List Stmt} {scope : Scope} {dV kV doc pm cdv ct oc : Value} {an od : Option Addr} {osl : Array (Option Value)} {N ps : List Str} {sp : Sp}
    (lk : List.lookup f K = some ⟨oc, od, .func (PySem.W.fnOf name qual params body scope dV kV doc pm an cdv ct), osl⟩) (hcd : PySem.W.codeIn K cdv qual = true) (S : FnScope N ps scope)
    (len : ∀ (vs : List V) (H : Hp) (Q : VK) (E : XK), sp vs H Q E → vs.length = ps.length)
    (hbody : ∀ (A : Around) (outer : List PySem.Env) (s : Shared) (H : Hp) (vs : List V) (Q : VK) (E : XK), (A.deeper (envOfC qual scope s.heap.objs.size f cdv)).guards = some [] → Room k (A.deeper (envOfC qual scope s.heap.objs.size f cdv)) → sp vs H Q E →
      ∃ t, PSs (cxOf CX P w K mg base N qual scope f cdv A outer s H E) body t ∧ t { nx := fun _ H' => Q .non H', rt := Q } (L2.start N vs) H) :
    FnOkG P w K mg base CX (k + 1) f (PySem.W.fnOf name qual params body scope dV kV doc pm an cdv ct) ps sp := by
  refine ⟨len, fun A outer s H args us vs Q E hgd hr e0 hb r hsp => ?_⟩
  have hl := len vs H Q E hsp
  have KX := PySem.W.Frag.In.keeps e0.mod.kin fun b o e => (e0.bs b o e).1
  have lim := Heap.NoLimit.keeps e0.mod.nolimit fun b o e => (e0.bs b o e).1
  refine codeAny_call_function (Room.depth hr) (KX f _ lk) rfl S.co S.gen rfl (PySem.W.codeRec_of KX hcd) (hb (model P w) A.in1 (fun e s' => CR CX outer P w H s Q E (Except.error e) s') _ ?_)
  refine wpAny_newFunctionEnv_cells S.kind ?_ fun env he s1 x => ?_
  · intro y hy
    rcases y with ⟨n, v⟩
    rcases S.par n (List.of_mem_zip hy).1 with q | q
    · exact Or.inl q
    · exact Or.inr ⟨q, PySem.W.cellsFrom_some scope.names (s.heap.objs.size + 1) [] (Or.inl q)⟩
  · subst he
    refine ⟨Heap.NoLimit.keeps lim x.toInCall.keep, codeAny_func ?_⟩
    obtain ⟨t, ht, hq⟩ := hbody A outer s H vs Q E hgd (Room.deeper hr (envOfC qual scope s.heap.objs.size f cdv)) hsp
    have I := inv_start (CX := CX) (E := E) S hr.hd e0 hl r x
    refine wpAny_mono (ht.run [] s1 (L2.start N vs) H { nx := fun _ H' => Q .non H', rt := Q } I hq) (fun fl s' hs => ?_) fun e s' hs => hs
    have fin : ∀ {σ' : L2.St} {H' : Hp} {v : V} {u : Value}, Inv (cxOf CX P w K mg base N qual scope f cdv A outer s H E) [] σ' H' s' → RelV v u → Q v H' → CE outer P w H s Q u s' := fun {σ'} {H'} {v} {u} J rv q => ⟨v, H', J.os, J.bare, J.base, J.hok, rv, q⟩
    cases fl with
    | next =>
      obtain ⟨σ', H', J, q⟩ := hs
      exact fin (v := .non) (u := .none) J rfl q
    | ret u =>
      obtain ⟨v, σ', H', J, rv, q⟩ := hs
      exact fin J rv q
    | _ =>
      obtain ⟨_, _, _, q⟩ := hs
      exact False.elim q
end
end Dn
set_option Elab.async false
set_option linter.all false
set_option maxRecDepth 100000
set_option autoImplicit false
set_option maxHeartbeats 4000000
namespace Dn
open PySem L2 Evl PySem.Spec PyProof.Rows
abbrev N_is_square : List Str := ["value", "least", "most", "row"]
abbrev P_is_square : List Str := ["value", "least", "most"]
def g_is_square : DS := sSeq (sIf (dTOr (dTNot (dTst (dIsi "tuple" (dVar 0)))) (dTNot (dTst (dChain dLe dLe (dVar 1) (dCall dLen (aCons (dVar 0) (aNil))) (dVar 2))))) (sRet (dC (.bool false))) (sNx)) (sRet (dCall dAll (aCons (dOfL (lLc (iSq (dVar 0)) (gNm 3) (dYes) (dCallF 3 S_is_row (aCons (dVar 3) (aCons (dCall dLen (aCons (dVar 0) (aNil))) (aCons (dCall dLen (aCons (dVar 0) (aNil))) (aNil))))) [3])) (aNil))))
abbrev N_is_same : List Str := ["value", "told", "index", "part"]
abbrev P_is_same : List Str := ["value", "told"]
def g_is_same : DS := sSeq (sIf (dTst (dIsi "tuple" (dVar 1))) (sSeq (sIf (dTOr (dTNot (dTst (dIsi "tuple" (dVar 0)))) (dTst (dBin dNe (dCall dLen (aCons (dVar 0) (aNil))) (dCall dLen (aCons (dVar 1) (aNil)))))) (sRet (dC (.bool false))) (sNx)) (sRet (dCall dAll (aCons (dOfL (lLc (iEn (dVar 0)) (gTp 2 (gsCons (gNm 2) (gsCons (gNm 3) (gsNil)))) (dYes) (dCallF 2 S_is_same0 (aCons (dVar 3) (aCons (dBin dIx (dVar 1) (dVar 2)) (aNil)))) [2, 3])) (aNil))))) (sNx)) (sSeq (sIf (dTst (dIsi "str" (dVar 1))) (sRet (dAnd (dIsi "str" (dVar 0)) (dBin dEq (dVar 0) (dVar 1)))) (sNx)) (sRet (dAnd (dCallF 1 S_is_integer (aCons (dVar 0) (aNil))) (dBin dEq (dVar 0) (dVar 1)))))
def g_is_same0 : DS := sSeq (sIf (dTst (dIsi "tuple" (dVar 1))) (sSeq (sIf (dTOr (dTNot (dTst (dIsi "tuple" (dVar 0)))) (dTst (dBin dNe (dCall dLen (aCons (dVar 0) (aNil))) (dCall dLen (aCons (dVar 1) (aNil)))))) (sRet (dC (.bool false))) (sNx)) (sRet (dCall dAll (aCons (dOfL (lLc (iEn (dVar 0)) (gTp 2 (gsCons (gNm 2) (gsCons (gNm 3) (gsNil)))) (dYes) (dNever) [2, 3])) (aNil))))) (sNx)) (sSeq (sIf (dTst (dIsi "str" (dVar 1))) (sRet (dAnd (dIsi "str" (dVar 0)) (dBin dEq (dVar 0) (dVar 1)))) (sNx)) (sRet (dAnd (dCallF 1 S_is_integer (aCons (dVar 0) (aNil))) (dBin dEq (dVar 0) (dVar 1)))))
abbrev N_is_told : List Str := ["value", "word", "many", "size"]
abbrev P_is_told : List Str := ["value", "word", "many", "size"]
def g_is_told : DS := sSeq (sIf (dTOr (dTNot (dTst (dIsi "tuple" (dVar 0)))) (dTst (dBin dNe (dCall dLen (aCons (dVar 0) (aNil))) (dBin dAdd (dVar 2) (dC (.int 1)))))) (sRet (dC (.bool false))) (sNx)) (sRet (dAnd (dCallF 2 S_is_same (aCons (dBin dIx (dVar 0) (dC (.int 0))) (aCons (dVar 1) (aNil)))) (dCallF 3 S_is_row (aCons (dSl (dVar 0) (oSome (dC (.int 1))) (oNone)) (aCons (dVar 2) (aCons (dVar 3) (aNil)))))))
abbrev N_unit_of : List Str := ["rows", "things", "thing", "row"]
abbrev P_unit_of : List Str := ["rows"]
def g_unit_of : DS := sSeq (sSet 1 (xIm (dTRg (rg1 (dCall dLen (aCons (dVar 0) (aNil))))))) (sSeq (sFor (iSq (dVar 1)) (gNm 2) (sIf (dTAnd (dTst (dBin dEq (dBin dIx (dVar 0) (dVar 2)) (dVar 1))) (dTst (dBin dEq (dCall dTupOf (aCons (dOfL (lLc (iSq (dVar 0)) (gNm 3) (dYes) (dBin dIx (dVar 3) (dVar 2)) [3])) (aNil))) (dVar 1)))) (sRet (dVar 2)) (sNx))) (sRet (dC .none)))
abbrev N_back_of : List Str := ["rows", "unit", "thing", "other", "made"]
abbrev P_back_of : List Str := ["rows", "unit", "thing"]
def g_back_of : DS := sSeq (sFor (iEn (dBin dIx (dVar 0) (dVar 2))) (gTp 2 (gsCons (gNm 3) (gsCons (gNm 4) (gsNil)))) (sIf (dTAnd (dTst (dBin dEq (dVar 4) (dVar 1))) (dTst (dBin dEq (dBin dIx (dBin dIx (dVar 0) (dVar 3)) (dVar 2)) (dVar 1)))) (sRet (dVar 3)) (sNx))) (sRet (dC .none))
abbrev N_backs_of : List Str := ["rows", "unit", "thing"]
abbrev P_backs_of : List Str := ["rows", "unit"]
def g_backs_of : DS := sRet (dCall dTupOf (aCons (dOfL (lLc (iR1 (dCall dLen (aCons (dVar 0) (aNil)))) (gNm 2) (dYes) (dCallF 3 S_back_of (aCons (dVar 0) (aCons (dVar 1) (aCons (dVar 2) (aNil))))) [2])) (aNil)))
abbrev N_broken_three : List Str := ["rows", "a", "row", "b", "ab", "c", "bc"]
abbrev P_broken_three : List Str := ["rows"]
def g_broken_three : DS := sSeq (sFor (iEn (dVar 0)) (gTp 2 (gsCons (gNm 1) (gsCons (gNm 2) (gsNil)))) (sFor (iEn (dVar 2)) (gTp 2 (gsCons (gNm 3) (gsCons (gNm 4) (gsNil)))) (sFor (iEn (dBin dIx (dVar 0) (dVar 3))) (gTp 2 (gsCons (gNm 5) (gsCons (gNm 6) (gsNil)))) (sIf (dTst (dBin dNe (dBin dIx (dBin dIx (dVar 0) (dVar 4)) (dVar 5)) (dBin dIx (dVar 2) (dVar 6)))) (sRet (dTup (aCons (dVar 1) (aCons (dVar 3) (aCons (dVar 5) (aNil)))))) (sNx))))) (sRet (dC .none))
abbrev N_centre_of : List Str := ["rows", "columns", "thing", "row"]
abbrev P_centre_of : List Str := ["rows"]
def g_centre_of : DS := sSeq (sSet 1 (xIm (dOfL (lLc (iR1 (dCall dLen (aCons (dVar 0) (aNil)))) (gNm 2) (dYes) (dCall dTupOf (aCons (dOfL (lLc (iSq (dVar 0)) (gNm 3) (dYes) (dBin dIx (dVar 3) (dVar 2)) [3])) (aNil))) [2])))) (sRet (dCall dTupOf (aCons (dOfL (lLc (iEn (dVar 0)) (gTp 2 (gsCons (gNm 2) (gsCons (gNm 3) (gsNil)))) (dTst (dBin dEq (dVar 3) (dBin dIx (dVar 1) (dVar 2)))) (dVar 2) [2, 3])) (aNil))))
abbrev N__check_rows : List Str := ["rows"]
abbrev P__check_rows : List Str := ["rows"]
def g__check_rows : DS := sIf (dTNot (dTst (dCallF 3 S_is_square (aCons (dVar 0) (aCons (dC (.int 1)) (aCons (dC (.int 24)) (aNil))))))) (sNever) (sNx)
abbrev N__law_pick : List Str := ["_law_dice_here", "_law_items"]
abbrev P__law_pick : List Str := ["_law_dice_here", "_law_items"]
def g__law_pick : DS := sRet (dBin dIx (dVar 1) (dCallM 0 2 S__law_roll (aCons (dCall dLen (aCons (dVar 1) (aNil))) (aNil))))
abbrev N__law_undone : List Str := ["_law_move", "_law_found", "_law_thing", "_law_goal"]
abbrev P__law_undone : List Str := ["_law_move"]
def g__law_undone : DS := sSeq (sSet 1 (xOw (lLc (iSq (dVar 0)) (gNm 2) (dYes) (dC (.int 0)) [2]))) (sSeq (sFor (iEn (dVar 0)) (gTp 2 (gsCons (gNm 2) (gsCons (gNm 3) (gsNil)))) (sSub 1 (dVar 3) (dVar 2))) (sRet (dTupO 1)))
abbrev N__law_places_of : List Str := ["_law_count", "_law_size", "_law_at"]
abbrev P__law_places_of : List Str := ["_law_count", "_law_size"]
def g__law_places_of : DS := sRet (dOfL (lLc (iR1 (dBin dMulA (dVar 0) (dVar 1))) (gNm 2) (dYes) (dTup (aCons (dBin dFdiv (dVar 2) (dVar 1)) (aCons (dBin dMod (dVar 2) (dVar 1)) (aNil)))) [2]))
abbrev N__law_product_dots : List Str := ["_law_one", "_law_other", "_law_size", "_law_found", "_law_places", "_law_first", "_law_second", "_law_row", "_law_line", "_law_a", "_law_b"]
abbrev P__law_product_dots : List Str := ["_law_one", "_law_other"]
def g__law_product_dots : DS := sSeq (sPar 2 3 (xIm (dCall dLen (aCons (dVar 1) (aNil)))) (xOw (lLst (aNil)))) (sSeq (sSet 4 (xIm (dCallF 2 S__law_places_of (aCons (dCall dLen (aCons (dVar 0) (aNil))) (aCons (dVar 2) (aNil)))))) (sSeq (sFor (iSq (dVar 4)) (gTp 2 (gsCons (gNm 5) (gsCons (gNm 6) (gsNil)))) (sSeq (sPar 7 8 (xIm (dBin dIx (dVar 0) (dVar 5))) (xIm (dBin dIx (dVar 1) (dVar 6)))) (sEx (dApp 3 (dCall dTupOf (aCons (dOfL (lLc (iSq (dVar 4)) (gTp 2 (gsCons (gNm 9) (gsCons (gNm 10) (gsNil)))) (dYes) (dBin dAdd (dBin dMulA (dBin dIx (dVar 7) (dVar 9)) (dVar 2)) (dBin dIx (dVar 8) (dVar 10))) [9, 10])) (aNil))))))) (sRetO 3)))
abbrev N__law_cyclic : List Str := ["_law_size", "_law_a", "_law_b"]
abbrev P__law_cyclic : List Str := ["_law_size"]
def g__law_cyclic : DS := sRet (dCall dTupOf (aCons (dOfL (lLc (iR1 (dVar 0)) (gNm 1) (dYes) (dCall dTupOf (aCons (dOfL (lLc (iR1 (dVar 0)) (gNm 2) (dYes) (dBin dMod (dCall dInt (aCons (dBin dAdd (dVar 1) (dVar 2)) (aNil))) (dVar 0)) [2])) (aNil))) [1])) (aNil)))
abbrev N__law_direct : List Str := ["_law_one", "_law_other"]
abbrev P__law_direct : List Str := ["_law_one", "_law_other"]
def g__law_direct : DS := sRet (dCall dTupOf (aCons (dCallF 2 S__law_product_dots (aCons (dVar 0) (aCons (dVar 1) (aNil)))) (aNil)))
abbrev N__law_turned_pairs : List Str := ["_law_size", "_law_found", "_law_a", "_law_row", "_law_b", "_law_turn"]
abbrev P__law_turned_pairs : List Str := ["_law_size"]
def g__law_turned_pairs : DS := sSeq (sSet 1 (xOw (lLst (aNil)))) (sSeq (sFor (iR1 (dBin dMulA (dC (.int 2)) (dVar 0))) (gNm 2) (sSeq (sSet 3 (xOw (lLst (aNil)))) (sSeq (sFor (iR1 (dBin dMulA (dC (.int 2)) (dVar 0))) (gNm 4) (sSeq (sSet 5 (xIm (dIfE (dTst (dBin dEq (dBin dMod (dVar 2) (dC (.int 2))) (dC (.int 0)))) (dBin dFdiv (dVar 4) (dC (.int 2))) (dBin dSub (dVar 0) (dBin dFdiv (dVar 4) (dC (.int 2))))))) (sEx (dApp 3 (dBin dAdd (dBin dMulA (dBin dMod (dCall dInt (aCons (dBin dAdd (dBin dFdiv (dVar 2) (dC (.int 2))) (dVar 5)) (aNil))) (dVar 0)) (dC (.int 2))) (dBin dMod (dCall dInt (aCons (dBin dAdd (dVar 2) (dVar 4)) (aNil))) (dC (.int 2)))))))) (sEx (dApp 1 (dTupO 3)))))) (sRet (dTupO 1)))
abbrev N__law_quaternion_rows : List Str := ["_law_times", "_law_found", "_law_a", "_law_row", "_law_b", "_law_line", "_law_goal"]
abbrev P__law_quaternion_rows : List Str := []
def g__law_quaternion_rows : DS := sSeq (sPar 0 1 (xIm (dOfL (lLst (aCons (dOfL (lLst (aCons (dC (.int 0)) (aCons (dC (.int 2)) (aCons (dC (.int 4)) (aCons (dC (.int 6)) (aNil))))))) (aCons (dOfL (lLst (aCons (dC (.int 2)) (aCons (dC (.int 1)) (aCons (dC (.int 6)) (aCons (dC (.int 5)) (aNil))))))) (aCons (dOfL (lLst (aCons (dC (.int 4)) (aCons (dC (.int 7)) (aCons (dC (.int 1)) (aCons (dC (.int 2)) (aNil))))))) (aCons (dOfL (lLst (aCons (dC (.int 6)) (aCons (dC (.int 4)) (aCons (dC (.int 3)) (aCons (dC (.int 1)) (aNil))))))) (aNil)))))))) (xOw (lLst (aNil)))) (sSeq (sFor (iR1 (dC (.int 8))) (gNm 2) (sSeq (sSet 3 (xOw (lLst (aNil)))) (sSeq (sFor (iR1 (dC (.int 8))) (gNm 4) (sSeq (sSet 5 (xIm (dBin dIx (dVar 0) (dBin dFdiv (dVar 2) (dC (.int 2)))))) (sSeq (sSet 6 (xIm (dBin dIx (dVar 5) (dBin dFdiv (dVar 4) (dC (.int 2)))))) (sEx (dApp 3 (dBin dAdd (dBin dMulA (dBin dFdiv (dVar 6) (dC (.int 2))) (dC (.int 2))) (dBin dMod (dCall dInt (aCons (dBin dAdd (dBin dAdd (dVar 6) (dVar 2)) (dVar 4)) (aNil))) (dC (.int 2))))))))) (sEx (dApp 1 (dTupO 3)))))) (sRet (dTupO 1)))
abbrev N__law_renamed_group : List Str := ["_law_rows", "_law_order", "_law_back", "_law_a", "_law_b"]
abbrev P__law_renamed_group : List Str := ["_law_rows", "_law_order"]
def g__law_renamed_group : DS := sSeq (sSet 2 (xIm (dCallF 1 S__law_undone (aCons (dVar 1) (aNil))))) (sRet (dCall dTupOf (aCons (dOfL (lLc (iSq (dVar 1)) (gNm 3) (dYes) (dCall dTupOf (aCons (dOfL (lLc (iSq (dVar 1)) (gNm 4) (dYes) (dBin dIx (dVar 2) (dBin dIx (dBin dIx (dVar 0) (dVar 3)) (dVar 4))) [4])) (aNil))) [3])) (aNil))))
abbrev N__law_group_rows : List Str := ["_law_dice_here", "_law_most", "_law_some", "_law_even", "_law_rows", "_law_size", "_law_move"]
abbrev P__law_group_rows : List Str := ["_law_dice_here", "_law_most"]
def g__law_group_rows : DS := sSeq (sSet 2 (xOw (lCat (dOfL (lLc (iR2 (dC (.int 1)) (dBin dAdd (dVar 1) (dC (.int 1)))) (gNm 5) (dYes) (dCallF 1 S__law_cyclic (aCons (dVar 5) (aNil))) [5])) (dOfL (lLst (aCons (dCallF 1 S__law_cyclic (aCons (dVar 1) (aNil))) (aNil))))))) (sSeq (sSet 2 (xOw (lCat (dVarF 2) (dOfL (lLc (iR2 (dC (.int 2)) (dBin dAdd (dBin dFdiv (dVar 1) (dC (.int 2))) (dC (.int 1)))) (gNm 5) (dYes) (dCallF 2 S__law_direct (aCons (dCallF 1 S__law_cyclic (aCons (dC (.int 2)) (aNil))) (aCons (dCallF 1 S__law_cyclic (aCons (dVar 5) (aNil))) (aNil)))) [5]))))) (sSeq (sSet 2 (xOw (lCat (dVarF 2) (dOfL (lLc (iR2 (dC (.int 3)) (dBin dAdd (dBin dFdiv (dVar 1) (dC (.int 2))) (dC (.int 1)))) (gNm 5) (dYes) (dCallF 1 S__law_turned_pairs (aCons (dVar 5) (aNil))) [5]))))) (sSeq (sIf (dTst (dBin dGt (dVar 1) (dC (.int 7)))) (sSet 2 (xOw (lCat (dVarF 2) (dOfL (lLst (aCons (dCallF 0 S__law_quaternion_rows aNil) (aCons (dCallF 2 S__law_direct (aCons (dCallF 1 S__law_cyclic (aCons (dC (.int 2)) (aNil))) (aCons (dCallF 2 S__law_direct (aCons (dCallF 1 S__law_cyclic (aCons (dC (.int 2)) (aNil))) (aCons (dCallF 1 S__law_cyclic (aCons (dC (.int 2)) (aNil))) (aNil)))) (aNil)))) (aNil)))))))) (sNx)) (sSeq (sIf (dTst (dBin dGt (dVar 1) (dC (.int 8)))) (sEx (dApp 2 (dCallF 2 S__law_direct (aCons (dCallF 1 S__law_cyclic (aCons (dC (.int 3)) (aNil))) (aCons (dCallF 1 S__law_cyclic (aCons (dC (.int 3)) (aNil))) (aNil)))))) (sNx)) (sSeq (sIf (dTst (dBin dGt (dVar 1) (dC (.int 11)))) (sNever) (sNx)) (sSeq (sSet 4 (xIm (dCallM 0 2 S__law_pick (aCons (dVarF 2) (aNil))))) (sRet (dCallF 2 S__law_renamed_group (aCons (dVar 4) (aCons (dCallM 0 2 S__law_drawn_move (aCons (dCall dLen (aCons (dVar 4) (aNil))) (aNil))) (aNil)))))))))))
abbrev N__law_unit : List Str := ["_law_rows", "_law_a"]
abbrev P__law_unit : List Str := ["_law_rows"]
def g__law_unit : DS := sRet (dBin dIx (dOfL (lLc (iR1 (dCall dLen (aCons (dVar 0) (aNil)))) (gNm 1) (dTst (dBin dEq (dBin dIx (dBin dIx (dVar 0) (dVar 1)) (dVar 1)) (dVar 1))) (dVar 1) [1])) (dC (.int 0)))
abbrev N__law_group_fault : List Str := ["_law_rows", "_law_things", "_law_units", "_law_a", "_law_b", "_law_c", "_law_e"]
abbrev P__law_group_fault : List Str := ["_law_rows"]
def g__law_group_fault : DS := sSeq (sSet 1 (xIm (dOfL (lRg (rg1 (dCall dLen (aCons (dVar 0) (aNil)))))))) (sSeq (sSet 2 (xIm (dOfL (lLc (iSq (dVar 1)) (gNm 6) (dTst (dCall dAll (aCons (dOfL (lLc (iSq (dVar 1)) (gNm 3) (dYes) (dAnd (dBin dEq (dBin dIx (dBin dIx (dVar 0) (dVar 6)) (dVar 3)) (dVar 3)) (dBin dEq (dBin dIx (dBin dIx (dVar 0) (dVar 3)) (dVar 6)) (dVar 3))) [3])) (aNil)))) (dVar 6) [6])))) (sSeq (sIf (dTst (dBin dEq (dVar 2) (dOfL (lLst (aNil))))) (sRet (dTup (aCons (dC (.str "unit")) (aNil)))) (sNx)) (sSeq (sFor (iSq (dVar 1)) (gNm 3) (sIf (dTNot (dTst (dCall dAny (aCons (dOfL (lLc (iSq (dVar 1)) (gNm 4) (dYes) (dAnd (dBin dEq (dBin dIx (dBin dIx (dVar 0) (dVar 3)) (dVar 4)) (dBin dIx (dVar 2) (dC (.int 0)))) (dBin dEq (dBin dIx (dBin dIx (dVar 0) (dVar 4)) (dVar 3)) (dBin dIx (dVar 2) (dC (.int 0))))) [4])) (aNil))))) (sRet (dTup (aCons (dC (.str "back")) (aCons (dVar 3) (aNil))))) (sNx))) (sSeq (sFor (iSq (dVar 1)) (gNm 3) (sFor (iSq (dVar 1)) (gNm 4) (sFor (iSq (dVar 1)) (gNm 5) (sIf (dTst (dBin dNe (dBin dIx (dBin dIx (dVar 0) (dBin dIx (dBin dIx (dVar 0) (dVar 3)) (dVar 4))) (dVar 5)) (dBin dIx (dBin dIx (dVar 0) (dVar 3)) (dBin dIx (dBin dIx (dVar 0) (dVar 4)) (dVar 5))))) (sRet (dTup (aCons (dC (.str "three")) (aCons (dVar 3) (aCons (dVar 4) (aCons (dVar 5) (aNil))))))) (sNx))))) (sRet (dTup (aCons (dC (.str "group")) (aNil))))))))
abbrev N__law_with_entry : List Str := ["_law_rows", "_law_a", "_law_b", "_law_value", "_law_row"]
abbrev P__law_with_entry : List Str := ["_law_rows", "_law_a", "_law_b", "_law_value"]
def g__law_with_entry : DS := sSeq (sSet 4 (xIm (dBin dAdd (dBin dAdd (dSl (dBin dIx (dVar 0) (dVar 1)) (oNone) (oSome (dVar 2))) (dTup (aCons (dVar 3) (aNil)))) (dSl (dBin dIx (dVar 0) (dVar 1)) (oSome (dBin dAdd (dVar 2) (dC (.int 1)))) (oNone))))) (sRet (dBin dAdd (dBin dAdd (dSl (dVar 0) (oNone) (oSome (dVar 1))) (dTup (aCons (dVar 4) (aNil)))) (dSl (dVar 0) (oSome (dBin dAdd (dVar 1) (dC (.int 1)))) (oNone))))
abbrev N__law_near_group : List Str := ["_law_dice_here", "_law_rows", "_law_size", "_law_found", "_law_way", "_law_order", "_law_turn", "_law_a", "_law_b"]
abbrev P__law_near_group : List Str := ["_law_dice_here", "_law_rows"]
def g__law_near_group : DS := sSeq (sPar 2 3 (xIm (dCall dLen (aCons (dVar 1) (aNil)))) (xIm (dVar 1))) (sSeq (sSet 4 (xIm (dCallM 0 2 S__law_roll (aCons (dC (.int 5)) (aNil))))) (sSeq (sIf (dTst (dBin dEq (dVar 4) (dC (.int 0)))) (sRet (dCall dTupOf (aCons (dOfL (lLc (iSq (dVar 1)) (gNm 7) (dYes) (dCall dTupOf (aCons (dOfL (lLc (iSq (dVar 1)) (gNm 8) (dYes) (dCallM 0 2 S__law_roll (aCons (dVar 2) (aNil))) [8])) (aNil))) [7])) (aNil)))) (sNx)) (sSeq (sIf (dTst (dBin dEq (dVar 4) (dC (.int 1)))) (sSeq (sSet 5 (xIm (dCallM 0 2 S__law_drawn_move (aCons (dVar 2) (aNil))))) (sRet (dCall dTupOf (aCons (dOfL (lLc (iSq (dVar 5)) (gNm 7) (dYes) (dBin dIx (dVar 1) (dVar 7)) [7])) (aNil))))) (sNx)) (sSeq (sFor (iR1 (dBin dSub (dVar 4) (dC (.int 1)))) (gNm 6) (sSet 3 (xIm (dCallF 4 S__law_with_entry (aCons (dVar 3) (aCons (dCallM 0 2 S__law_roll (aCons (dVar 2) (aNil))) (aCons (dCallM 0 2 S__law_roll (aCons (dVar 2) (aNil))) (aCons (dCallM 0 2 S__law_roll (aCons (dVar 2) (aNil))) (aNil))))))))) (sRet (dVar 3))))))
abbrev N_group_paper : List Str := ["rows", "unit", "thing", "things"]
abbrev P_group_paper : List Str := ["rows"]
def g_group_paper : DS := sSeq (sEx (dCallF 1 S__check_rows (aCons (dVar 0) (aNil)))) (sSeq (sSet 1 (xIm (dCallF 1 S_unit_of (aCons (dVar 0) (aNil))))) (sSeq (sIf (dTst (dBin dIs (dVar 1) (dC .none))) (sRet (dTup (aCons (dC (.str "unit")) (aNil)))) (sNx)) (sSeq (sFor (iR1 (dCall dLen (aCons (dVar 0) (aNil)))) (gNm 2) (sIf (dTst (dBin dIs (dCallF 3 S_back_of (aCons (dVar 0) (aCons (dVar 1) (aCons (dVar 2) (aNil))))) (dC .none))) (sRet (dTup (aCons (dC (.str "back")) (aCons (dVar 2) (aNil))))) (sNx))) (sSeq (sSet 3 (xIm (dCallF 1 S_broken_three (aCons (dVar 0) (aNil))))) (sSeq (sIf (dTst (dBin dIsNot (dVar 3) (dC .none))) (sRet (dBin dAdd (dTup (aCons (dC (.str "three")) (aNil))) (dVar 3))) (sNx)) (sRet (dTup (aCons (dC (.str "group")) (aNil)))))))))
abbrev N_is_group_paper : List Str := ["rows", "value", "_", "a", "b", "c", "unit"]
abbrev P_is_group_paper : List Str := ["rows", "value"]
def g_is_group_paper : DS := sSeq (sEx (dCallF 1 S__check_rows (aCons (dVar 0) (aNil)))) (sSeq (sIf (dTst (dCallF 4 S_is_told (aCons (dVar 1) (aCons (dC (.str "three")) (aCons (dC (.int 3)) (aCons (dCall dLen (aCons (dVar 0) (aNil))) (aNil))))))) (sSeq (sAsg (dVar 1) (gTp 4 (gsCons (gNm 2) (gsCons (gNm 3) (gsCons (gNm 4) (gsCons (gNm 5) (gsNil))))))) (sRet (dBin dNe (dBin dIx (dBin dIx (dVar 0) (dBin dIx (dBin dIx (dVar 0) (dVar 3)) (dVar 4))) (dVar 5)) (dBin dIx (dBin dIx (dVar 0) (dVar 3)) (dBin dIx (dBin dIx (dVar 0) (dVar 4)) (dVar 5)))))) (sNx)) (sSeq (sSet 6 (xIm (dCallF 1 S_unit_of (aCons (dVar 0) (aNil))))) (sSeq (sIf (dTst (dCallF 4 S_is_told (aCons (dVar 1) (aCons (dC (.str "back")) (aCons (dC (.int 1)) (aCons (dCall dLen (aCons (dVar 0) (aNil))) (aNil))))))) (sRet (dAnd (dBin dIsNot (dVar 6) (dC .none)) (dBin dIs (dCallF 3 S_back_of (aCons (dVar 0) (aCons (dVar 6) (aCons (dBin dIx (dVar 1) (dC (.int 1))) (aNil))))) (dC .none)))) (sNx)) (sSeq (sIf (dTst (dCallF 2 S_is_same (aCons (dVar 1) (aCons (dTup (aCons (dC (.str "unit")) (aNil))) (aNil))))) (sRet (dBin dIs (dVar 6) (dC .none))) (sNx)) (sRet (dAnd (dCallF 2 S_is_same (aCons (dVar 1) (aCons (dTup (aCons (dC (.str "group")) (aNil))) (aNil)))) (dBin dEq (dCallF 1 S_group_paper (aCons (dVar 0) (aNil))) (dTup (aCons (dC (.str "group")) (aNil))))))))))
abbrev N__law_judged_right : List Str := ["_law_rows", "_law_due"]
abbrev P__law_judged_right : List Str := ["_law_rows"]
def g__law_judged_right : DS := sSeq (sSet 1 (xIm (dCallF 1 S__law_group_fault (aCons (dVar 0) (aNil))))) (sSeq (sIf (dTOr (dTst (dBin dNe (dCall dRepN (aCons (dCallF 1 S_group_paper (aCons (dVar 0) (aNil))) (aNil))) (dCall dRepN (aCons (dVar 1) (aNil))))) (dTst (dBin dIsNot (dCallF 2 S_is_group_paper (aCons (dVar 0) (aCons (dVar 1) (aNil)))) (dC (.bool true))))) (sRet (dC (.bool false))) (sNx)) (sSeq (sIf (dTst (dBin dNe (dVar 1) (dTup (aCons (dC (.str "group")) (aNil))))) (sRet (dAnd (dBin dEq (dCallF 1 S__law_made (aCons (dVar 0) (aNil))) (dOfL (lLst (aCons (dC (.str "refused")) (aCons (dVar 1) (aNil)))))) (dBin dIs (dCallF 2 S_is_group_paper (aCons (dVar 0) (aCons (dTup (aCons (dC (.str "group")) (aNil))) (aNil)))) (dC (.bool false))))) (sNx)) (sRet (dBin dEq (dCallF 1 S__law_made (aCons (dVar 0) (aNil))) (dOfL (lLst (aCons (dVar 0) (aCons (dCallF 1 S__law_unit (aCons (dVar 0) (aNil))) (aCons (dCall dLen (aCons (dVar 0) (aNil))) (aNil))))))))))
abbrev N_law : List Str := ["_law_script", "_law_spot", "_law_dice_here", "_law_rows", "_law_turn", "_law_one"]
abbrev P_law : List Str := ["_law_script"]
def g_law : DS := sSeq (sFor (iR1 (dCall dMax2 (aCons (dC (.int 1)) (aCons (dCall dMin2 (aCons (dC (.int 6)) (aCons (dCall dLen (aCons (dVar 0) (aNil))) (aNil)))) (aNil))))) (gNm 1) (sSeq (sSet 2 (xOw (lCall 2 S__law_dice (aCons (dVar 0) (aCons (dVar 1) (aNil)))))) (sSeq (sSet 3 (xIm (dCallM 2 2 S__law_group_rows (aCons (dC (.int 9)) (aNil))))) (sSeq (sIf (dTNot (dTst (dCallF 1 S__law_judged_right (aCons (dVar 3) (aNil))))) (sRet (dC (.bool false))) (sNx)) (sFor (iR1 (dC (.int 3))) (gNm 4) (sIf (dTNot (dTst (dCallF 1 S__law_judged_right (aCons (dCallM 2 2 S__law_near_group (aCons (dVar 3) (aNil))) (aNil))))) (sRet (dC (.bool false))) (sNx))))))) (sSeq (sSet 5 (xIm (dTup (aCons (dTup (aCons (dC (.int 0)) (aCons (dC (.int 1)) (aCons (dC (.int 2)) (aNil))))) (aCons (dTup (aCons (dC (.int 1)) (aCons (dC (.int 0)) (aCons (dC (.int 1)) (aNil))))) (aCons (dTup (aCons (dC (.int 2)) (aCons (dC (.int 2)) (aCons (dC (.int 0)) (aNil))))) (aNil))))))) (sRet (dAnd (dBin dEq (dCallF 1 S_group_paper (aCons (dVar 5) (aNil))) (dTup (aCons (dC (.str "three")) (aCons (dC (.int 1)) (aCons (dC (.int 1)) (aCons (dC (.int 2)) (aNil))))))) (dBin dEq (dCallF 1 S_group_paper (aCons (dTup (aCons (dTup (aCons (dC (.int 0)) (aNil))) (aNil))) (aNil))) (dTup (aCons (dC (.str "group")) (aNil)))))))
end Dn
set_option Elab.async false
set_option linter.all false
set_option maxRecDepth 100000
set_option autoImplicit false
set_option maxHeartbeats 4000000
/-! A law that wants to know that no repr is under way. -/
namespace Dn
open PySem L2 Evl PySem.Spec PyProof.Rows PySem.W
theorem law_callG {P : Program} {w : World} {K : Frag} {mg mb : Str → Option Value} {CX : CXT} {k : Nat} {fa a : Addr} {fd : FuncData} {x : Str} {sp : Sp} {s₁ : Shared} {vs : List Value} {ns : List Int}
    (KX : K.In s₁.heap) (hns : s₁.heap.Ns mainGlobals mg) (hb : s₁.heap.Ns builtinsNs mb) (hbb : ∀ (x : Str), x ≠ Str.ofString "__name__" → mb x = bootBuiltins x) (hlim : s₁.heap.NoLimit) (hg : s₁.gens = #[])
    (ha : s₁.heap.get? a = some { cls := Value.type "list", data := Data.seq vs.toArray }) (hi : IntsAre vs ns) (hl : ns.length ≤ sizeLine) (hr : Room k callerA)
    (F : ∀ base : Heap, K.In base → base.Ns mainGlobals mg → FnOkG P w K mg base CX k fa fd [x] sp) (hbind : ∀ (s : Shared) (u : Value), BindsTo s fd { pos := [u] } [(x, u)])
    (hsp : ∀ H : Hp, Only H → SqL K H a (List.map V.int ns) → sp [V.ref a] H (fun v _ => v = V.bl true) fun _ _ _ => False) (hCX : ∀ (H : Hp) (e : Value) (s' : Shared), CX [] H s₁ (fun _ _ _ => False) e s' → False) :
    codeAny (model P w) callerA (Code.call (Value.ref fa) { pos := [Value.ref a] }) (fun r s' => r = Except.ok (Flow.ret (Value.bool true)) ∧ OldK s₁.heap s'.heap ∧ s'.os = s₁.os ∧ AllBare s'.gens) s₁ := by
  have rv := vals_ints hi
  have lenV := IntsAre.length hi
  have core : ∀ H : Hp, Only H → SqL K H a (List.map V.int ns) → HOk P w H s₁.heap → (∀ b, H b ≠ none → b = a) → (H a ≠ none → List.lookup a K = none) →
      codeAny (model P w) callerA (Code.call (Value.ref fa) { pos := [Value.ref a] }) (fun r s' => r = Except.ok (Flow.ret (Value.bool true)) ∧ OldK s₁.heap s'.heap ∧ s'.os = s₁.os ∧ AllBare s'.gens) s₁ := by
    intro H hO hS hok hA hK
    have noA : ∀ {b : Addr} {o : Obj} {es : Array DictEntry} {ep : Nat}, s₁.heap.get? b = some o → o.data = .dict es ep → H b = none := fun {b} {o} {es} {ep} e d => by
      cases z : H b with
      | none => rfl
      | some u =>
        have e' := hA b (by rw [z]; simp)
        subst e'
        rw [ha] at e; cases e; cases d
    have nsK : ∀ {b : Addr} {m : Str → Option Value}, s₁.heap.Ns b m → (hidT s₁.heap H).Ns b m := fun {b} {m} ⟨o, es, ep, e, d, r⟩ => ⟨o, es, ep, hidT_get e (noA e d), d, r⟩
    have hKb : K.In (hidT s₁.heap H) := fun b o e => hidT_get (KX b o e) (by
      cases z : H b with
      | none => rfl
      | some u =>
        have e' := hA b (by rw [z]; simp)
        subst e'
        rw [hK (by rw [z]; simp)] at e; cases e)
    have hM : Mod K mg (hidT s₁.heap H) := ⟨hKb, nsK hns, ⟨mb, nsK hb, hbb⟩, by obtain ⟨mc, h1, h2⟩ := hlim; exact ⟨mc, nsK h1, h2⟩⟩
    have e0 : Env0 P w K mg (hidT s₁.heap H) callerA [] s₁ H := ⟨rfl, hM, fun b o e => of_hidT e, Nat.le_of_eq (hidT_size s₁.heap H), trivial, fun b hb => (by cases hb), hok, AllBare.of_eq hg⟩
    refine codeAny_mono ((F (hidT s₁.heap H) hKb (nsK hns)).run callerA [] s₁ H ⟨[.ref a], []⟩ [.ref a] [.ref a] (fun v _ => v = V.bl true) (fun _ _ _ => False) rfl hr e0 (hbind s₁ (.ref a)) (.cons rfl .nil) (hsp H hO hS)) fun r s' h => ?_
    cases r with
    | error e => exact (hCX H e s' h).elim
    | ok fl =>
      cases fl with
      | ret u =>
        obtain ⟨v, H', os, bare, un, hok', r', q⟩ := h
        subst q
        have r'' : u = .bool true := r'
        subst r''
        refine ⟨rfl, OldK.of_keep fun b o e => ?_, os, bare⟩
        cases z : H b with
        | none => exact un.keep b o e z (fun z => by cases z) (fun z => by cases z)
        | some u =>
          rcases hO b with h | ⟨ob, xs, h⟩
          · rw [z] at h; cases h
          · have z2 := un.frzs b ob (.lst xs) h
            have e1 := (hok b _ h).1
            have e2 := (hok' b _ z2).1
            rw [e] at e1; cases e1
            exact e2
      | _ => exact False.elim h
  cases hk : List.lookup a K with
  | none =>
    refine core (fun b => if b = a then some (.frz { cls := Value.type "list", data := Data.seq vs.toArray } (.lst (ns.map V.int))) else none) (fun b => ?_) (.inl (.inr ⟨_, if_pos rfl⟩)) (fun b u z => ?_) (fun b z => ?_) fun _ => hk
    · by_cases hb : b = a
      · exact .inr ⟨_, _, if_pos hb⟩
      · exact .inl (if_neg hb)
    · by_cases hb : b = a
      · subst hb
        have z' := (if_pos rfl).symm.trans z
        cases z'
        exact ⟨ha, by simpa using hl, vs, 0, rv, ha⟩
      · have z' := (if_neg hb).symm.trans z
        cases z'
    · by_cases hb : b = a
      · exact hb
      · exact absurd (if_neg hb) z
  | some o =>
    have e := KX a o hk
    rw [ha] at e
    cases e
    exact core (fun _ => none) (fun _ => .inl rfl) (.inr ⟨_, vs.toArray, 0, hk, rfl, rfl, rfl, by simpa [lenV] using hl, rv⟩) (fun b u z => by cases z) (fun b z => absurd rfl z) fun z => absurd rfl z
theorem walk_ofEG {l : OpenLaw} {n k : Nat} {q : Program} {loose : List Str} {XP : (Str → Option Value) → Heap → Prop} {YP : World → Heap → Prop} {d : DefRec} {CX : CXT} {x : Str} (hn : l.most = some n) (hn2 : n ≤ sizeLine) (hdf : d.params.defaults = []) (hr : Room k callerA)
    (F : ∀ (w : World) (mg : Str → Option Value) (fa : Addr) (h : Heap), YP w h → h.Ns mainGlobals mg → mg d.name = some (Value.ref fa) → ∃ K fd sp, K.In h ∧ (∀ (s : Shared) (u : Value), BindsTo s fd { pos := [u] } [(x, u)]) ∧
      (∀ (H : Hp) (a : Addr) (ns : List Int), ns.length ≤ n → Only H → SqL K H a (List.map V.int ns) → sp [V.ref a] H (fun v _ => v = V.bl true) fun _ _ _ => False) ∧
      ∀ base : Heap, K.In base → base.Ns mainGlobals mg → FnOkG l.prog w K mg base CX k fa fd [x] sp)
    (hCX : ∀ (H : Hp) (s : Shared) (e : Value) (s' : Shared), CX [] H s (fun _ _ _ => False) e s' → False) :
    WalkO q loose XP YP l.row.toRowW d [] fun f vs => call f vs :=
  Att.attach_call hn hdf fun w s₀ s₁ mg mb fa o pm cd doc a vs ns G Y ho hd hcd hmg hobj hints hlen hg => by
    obtain ⟨K, fd, sp, KX, hb, hsp, hF⟩ := F w mg fa s₁.heap Y G.T.g hmg
    exact law_callG KX G.T.g G.T.b G.T.builtins G.T.nolimit hg hobj hints (Nat.le_trans hlen hn2) hr hF hb (fun H hO hS => hsp H a ns hlen hO hS) fun H e s' => hCX H s₁ e s'
/-! ### such a def within the layer -/
def OkG (P : Program) (w : World) (K : PySem.W.Frag) (mg : Str → Option Value) (base : Heap) (x : Str) (ps : List Str) (k : Nat) (sp : Sp) : Prop :=
  ∃ f fd, FnOkG P w K mg base L2.CX0 k f fd ps sp ∧ mg x = some (.ref f) ∧ PySem.W.keepIn K (.ref f) = true ∧ L2.Binds K fd ps []
section
variable {X : Cx} {e : Expr} {es : List Expr} {x : Str} {ps : List Str} {k n : Nat} {pos p : Pos}
theorem pe_callG {CX : CXT} {f : Addr} {fd : FuncData} {sp : Sp} {dvs : List V} {ds : List Value} {E : XK} {t : TA} (F : FnOkG X.prog X.w X.K X.mg X.base CX k f fd ps sp) (hgd : X.A.guards = some []) (hr : Room k X.A) (hg : Gl X x) (hm : X.mg x = some (.ref f)) (hk : PySem.W.keepIn X.K (.ref f) = true) (hb : L2.Binds X.K fd ps ds) (hd : Vals dvs ds) (hx : Passes CX X E) (ha : PA X (e :: es) t)
    (hdb : (x == ("__debug__" : Str)) = false := by decide) (he : starEach (e :: es) X.env = (false, eval e X.env) :: starEach es X.env := by rfl) (hpl : (backTo pos (starEach es X.env)).any (·.1) = false := by rfl) : PE X (.Call (.Name x p) (e :: es) [] pos) (tCall sp dvs E t) :=
  ⟨fun pins s σ H Q I h => wpAny_Call_Name_kw (ld_glob I hg hm (callWith_K I.ok.mod.kin hk (thn (ha.run pos pins s σ H (fun vs H1 => sp (vs ++ dvs) H1 Q E) I h) fun us s1 ⟨vs, H1, I1, r, q⟩ => ⟨I1.kIn, run_fnG F hgd hr hb hd hx I1 r q⟩) he hpl) hdb)⟩
end
end Dn
set_option Elab.async false
set_option linter.all false
set_option maxRecDepth 100000
set_option autoImplicit false
set_option maxHeartbeats 4000000
namespace Dn
open PySem L2 Evl PySem.Spec PyProof.Rows
section
variable {X : Cx} {e : Expr} {es : List Expr} {x : Str} {ps : List Str} {k n : Nat} {pos p : Pos} {f : Addr} {fd : FuncData}
abbrev BodyCxG (P : Program) (w : World) (K : PySem.W.Frag) (mg : Str → Option Value) (base : Heap) (x : Str) (st : Stmt) (N : List Str) (k : Nat) (J : Cx → Prop) : Prop :=
  ∀ (f : Addr) (cdv : Value) (A : Around) (outer : List PySem.Env) (s : Shared) (H : Hp) (E : XK), (A.deeper (envOfC x (defScope st) s.heap.objs.size f cdv)).guards = some [] → Room k (A.deeper (envOfC x (defScope st) s.heap.objs.size f cdv)) → J (cxOf L2.CX0 P w K mg base N x (defScope st) f cdv A outer s H E).nox
theorem je_fnG {S : List D → (D → Prop) → Prop} {g : DA} (O : OkG X.prog X.w X.K X.mg X.base x ps k (spD X.K n S)) (hgd : X.A.guards = some []) (hr : Room k X.A) (ha : JA X (e :: es) g) (hg : Gl X x := by rfl)
    (hdb : (x == ("__debug__" : Str)) = false := by decide) (he : starEach (e :: es) X.env = (false, eval e X.env) :: starEach es X.env := by rfl) (hpl : (backTo pos (starEach es X.env)).any (·.1) = false := by rfl) : JE X (.Call (.Name x p) (e :: es) [] pos) (dCallF n S g) := by
  obtain ⟨f, fd, F, hm, hk, hb⟩ := O
  obtain ⟨t, pa, ka⟩ := ha.ex
  refine ⟨_, pe_callG F hgd hr hg hm hk hb .nil (E := fun _ _ _ => False) (fun _ _ _ _ _ _ _ h => h.elim) pa hdb he hpl, fun T ρ σ H QD Q r h q => ka T ρ σ H _ _ r h fun ds ρ1 vs H1 r1 p1 v1 h => ?_⟩
  rw [List.append_nil]
  exact spD_of r1 p1 v1 h.1 h.2 q
theorem fn_DG {P : Program} {w : World} {K : PySem.W.Frag} {mg : Str → Option Value} {base : Heap} {name qual : Str} {params : Arguments} {body : List Stmt} {scope : Scope} {N : List Str} {S : List D → (D → Prop) → Prop} {g : DS} (F : FunD K name qual params body scope [] [] f fd) (Sc : FnScope N ps scope)
    (hb : ∀ (cdv : Value) (A : Around) (outer : List PySem.Env) (s : Shared) (H : Hp) (E : XK), (A.deeper (envOfC qual scope s.heap.objs.size f cdv)).guards = some [] → Room k (A.deeper (envOfC qual scope s.heap.objs.size f cdv)) → JSs (cxOf L2.CX0 P w K mg base N qual scope f cdv A outer s H E).nox body g)
    (hS : ∀ (ds : List D) (Q : D → Prop), ds.length = ps.length → S ds Q → g { nx := fun _ => Q .none, rt := fun d _ => Q d } (envD ds (N.length - ps.length))) : FnOkG P w K mg base L2.CX0 (k + 1) f fd ps (spD K ps.length S) := by
  obtain ⟨oc, od, dV, kV, doc, pm, an, cdv, ct, osl, rfl, lk, hcd, _, _⟩ := F.ex
  refine fn_ofG lk hcd Sc (fun vs H Q E h => h.1) (fun A outer s H vs Q E hgd hr h => ?_)
  obtain ⟨t, pt, kt⟩ := (hb cdv A outer s H E hgd hr).ex
  refine ⟨t, PSs.nox pt, ?_⟩
  obtain ⟨hl, T, ds, QD, hT, rv, hs, hq⟩ := h
  have hl2 : ds.length = ps.length := by rw [← rv.length, hl]
  have no : ∀ a, ¬ Own (envD ds (N.length - ps.length)) (L2.start N vs) a := fun a ⟨i, m, h1, _⟩ => by
    obtain ⟨d, _, z⟩ := envD_get h1
    cases z
  have e0 : Ex (hide T H) (hide (Hd T (envD ds (N.length - ps.length)) (L2.start N vs)) H) := hide_sub fun a w => w.elim id fun w => (no a w).elim
  have r0 : RS K T (envD ds (N.length - ps.length)) (L2.start N vs) H := by
    refine ⟨?_, fun i d h => ?_, fun i m h => ?_, fun i j m m' a h1 _ _ _ => ?_, fun a _ => no a, hT, fun i q m a h1 _ => ?_⟩
    · rw [envD_len]; unfold L2.start; simp [hl, hl2]
    · obtain ⟨d', h1, z⟩ := envD_get h
      cases z
      obtain ⟨v, h2, h3⟩ := rv.get h1
      exact ⟨v, start_get h2, h3.mono e0⟩
    · obtain ⟨d, _, z⟩ := envD_get h; cases z
    · obtain ⟨d, _, z⟩ := envD_get h1; cases z
    · obtain ⟨d, _, z⟩ := envD_get h1; cases z
  have kp : ∀ {ρ' : Env} {σ' : L2.St} {H' : Hp}, Po (envD ds (N.length - ps.length)) (L2.start N vs) H ρ' σ' H' → Ex H H' := fun q a o h => q.keep a o (no a) h
  refine kt T _ _ H _ _ r0 (hS ds QD hl2 hs) ⟨fun ρ' σ' H' r q h => hq .non .none H' h (kp q) .non, fun d ρ' σ' v H' r q rv h => hq v d H' h (kp q) (rv.mono (hide_sub fun a w => .inl w)), fun _ _ _ _ _ h => h.elim, fun _ _ _ _ _ h => h.elim⟩
theorem ok_DG {P : Program} {w : World} {K : PySem.W.Frag} {mg : Str → Option Value} {base : Heap} {st : Stmt} {N : List Str} {S : List D → (D → Prop) → Prop} {g : DS} (F : Is K mg x st) (Sc : FnScope N ps (defScope st)) (bs : BindsAs x st ps) (hb : BodyCxG P w K mg base x st N k fun X => JSs X (defBody st) g)
    (hS : ∀ (ds : List D) (Q : D → Prop), ds.length = ps.length → S ds Q → g { nx := fun _ => Q .none, rt := fun d _ => Q d } (envD ds (N.length - ps.length))) : OkG P w K mg base x ps (k + 1) (spD K ps.length S) := by
  obtain ⟨f, fd, F, hm⟩ := F
  exact ⟨f, fd, fn_DG F Sc (fun cdv A outer s H E hg hr => hb f cdv A outer s H E hg hr) hS, hm, F.kp, F.bindsN bs⟩
end
end Dn
set_option Elab.async false
set_option linter.all false
set_option maxRecDepth 100000
set_option autoImplicit false
set_option maxHeartbeats 4000000
namespace Dn
open PySem L2 Evl PySem.Spec PyProof.Rows
def top (i : Nat) : Stmt := PySem.Challenge.pw_truenames_k04_whole_groups_or_what_break.main.body.getD i (.Pass ⟨0, 0, 0, 0⟩)
structure Bl (mg : Str → Option Value) : Prop where
  len : mg "len" = none
  range : mg "range" = none
  tuple : mg "tuple" = none
  list : mg "list" = none
  isinstance : mg "isinstance" = none
  int : mg "int" = none
  bool : mg "bool" = none
  str : mg "str" = none
  abs : mg "abs" = none
  max : mg "max" = none
  min : mg "min" = none
  all : mg "all" = none
  any : mg "any" = none
  sum : mg "sum" = none
  sorted : mg "sorted" = none
  enumerate : mg "enumerate" = none
  repr : mg "repr" = none
  set : mg "set" = none
  dict : mg "dict" = none
  zip : mg "zip" = none
abbrev st__wall : Stmt := top 0
abbrev st_is_integer : Stmt := top 9
abbrev st_is_thing : Stmt := top 10
abbrev st_is_row : Stmt := top 11
abbrev st_is_square : Stmt := top 12
abbrev st_is_same : Stmt := top 13
abbrev st_is_told : Stmt := top 14
abbrev st_check_thing : Stmt := top 15
abbrev st_unit_of : Stmt := top 17
abbrev st_back_of : Stmt := top 18
abbrev st_backs_of : Stmt := top 19
abbrev st_broken_three : Stmt := top 20
abbrev st_centre_of : Stmt := top 21
abbrev st_pair_rows : Stmt := top 22
abbrev st_group_paper : Stmt := top 25
abbrev st_is_group_paper : Stmt := top 26
abbrev st__check_rows : Stmt := top 27
abbrev st__law_dice : Stmt := top 30
abbrev st__law_roll : Stmt := top 31
abbrev st__law_pick : Stmt := top 32
abbrev st__law_mixed : Stmt := top 33
abbrev st__law_orders : Stmt := top 34
abbrev st__law_joined : Stmt := top 35
abbrev st__law_undone : Stmt := top 36
abbrev st__law_drawn_move : Stmt := top 37
abbrev st__law_places_of : Stmt := top 38
abbrev st__law_product_dots : Stmt := top 39
abbrev st__law_cyclic : Stmt := top 40
abbrev st__law_direct : Stmt := top 41
abbrev st__law_moves_rows : Stmt := top 42
abbrev st__law_turned_pairs : Stmt := top 43
abbrev st__law_quaternion_rows : Stmt := top 44
abbrev st__law_renamed_group : Stmt := top 45
abbrev st__law_group_rows : Stmt := top 46
abbrev st__law_falls : Stmt := top 47
abbrev st__law_unit : Stmt := top 48
abbrev st__law_group_fault : Stmt := top 49
abbrev st__law_with_entry : Stmt := top 50
abbrev st__law_near_group : Stmt := top 51
abbrev st__law_made : Stmt := top 52
abbrev st__law_judged_right : Stmt := top 53
abbrev st_law : Stmt := top 54
abbrev P__law_made : List Str := ["_law_rows"]
section
variable {P : Program} {w : World} {K : PySem.W.Frag} {mg : Str → Option Value} {base : Heap}
theorem sc_is_integer : FnScope N_is_integer P_is_integer (defScope st_is_integer) := ⟨rfl, rfl, rfl, by decide +kernel, rfl, by decide +kernel, by decide +kernel⟩
theorem bs_is_integer : BindsAs "is_integer" st_is_integer P_is_integer := fun _ _ _ _ _ _ us hl => match us, hl with | [_], _ => rfl
theorem j_is_integer (B : Bl mg) {t_TOO_LONG : Tok} (c_TOO_LONG : mg "TOO_LONG" = some (.int 1000000000000000000000000000000000000000000000000000000000000 t_TOO_LONG)) : BodyCx P w K mg base "is_integer" st_is_integer N_is_integer 0 fun X => JSs X (defBody st_is_integer) g_is_integer := fun f cdv A outer s H E hr => js_cons (js_if ((jw_or (jt_not (jt_val (je_isi (tn := "int") B.isinstance B.int (by decide +kernel) (je_v 0)))) (jw_or1 (jt_val (je_isi (tn := "bool") B.isinstance B.bool (by decide +kernel) (je_v 0))))).jt) (js_one (js_ret (je_bl))) (js_nil)) (js_one (js_ret (je_chain opd_lt opd_lt (je_neg (je_globI c_TOO_LONG (by rfl))) (je_v 0) (je_globI c_TOO_LONG (by rfl)))))
theorem sc_is_thing : FnScope N_is_thing P_is_thing (defScope st_is_thing) := ⟨rfl, rfl, rfl, by decide +kernel, rfl, by decide +kernel, by decide +kernel⟩
theorem bs_is_thing : BindsAs "is_thing" st_is_thing P_is_thing := fun _ _ _ _ _ _ us hl => match us, hl with | [_, _], _ => rfl
theorem j_is_thing (O_is_integer : Ok P w K mg base "is_integer" P_is_integer 1 (spD K 1 S_is_integer)) : BodyCx P w K mg base "is_thing" st_is_thing N_is_thing 1 fun X => JSs X (defBody st_is_thing) g_is_thing := fun f cdv A outer s H E hr => js_one (js_ret (je_and (je_fn O_is_integer (hr.mono (by decide)) (ja_cons (je_v 0) (ja_nil))) (je_one (je_chain opd_le opd_lt (je_int) (je_v 0) (je_v 1)))))
theorem sc_is_row : FnScope N_is_row P_is_row (defScope st_is_row) := ⟨rfl, rfl, rfl, by decide +kernel, rfl, by decide +kernel, by decide +kernel⟩
theorem bs_is_row : BindsAs "is_row" st_is_row P_is_row := fun _ _ _ _ _ _ us hl => match us, hl with | [_, _, _], _ => rfl
theorem j_is_row (B : Bl mg) : BodyCx P w K mg base "is_row" st_is_row N_is_row 0 fun X => JSs X (defBody st_is_row) g_is_row := fun f cdv A outer s H E hr => js_cons (js_if ((jw_or (jt_not (jt_val (je_isi (tn := "tuple") B.isinstance B.tuple (by decide +kernel) (je_v 0)))) (jw_or1 (jt_cmp (opd_ne hr.units) (je_callB calld_len B.len (by decide +kernel) (ja_cons (je_v 0) (ja_nil))) (je_v 1) (nomark _)))).jt) (js_one (js_ret (je_bl))) (js_nil)) (js_cons (js_for (vs := [3]) rfl (ji_sq (je_v 0)) (jg_n 3 sc_is_row.nd) (js_one (js_if ((jw_or (jt_not (jt_val (je_isi (tn := "int") B.isinstance B.int (by decide +kernel) (je_v 3)))) (jw_or (jt_val (je_isi (tn := "bool") B.isinstance B.bool (by decide +kernel) (je_v 3))) (jw_or1 (jt_not (jt_chain opd_le opd_lt (je_int) (je_v 3) (je_v 2)))))).jt) (js_one (js_ret (je_bl))) (js_nil)))) (js_one (js_ret (je_bl))))
theorem sc_is_square : FnScope N_is_square P_is_square (defScope st_is_square) := ⟨rfl, rfl, rfl, by decide +kernel, rfl, by decide +kernel, by decide +kernel⟩
theorem bs_is_square : BindsAs "is_square" st_is_square P_is_square := fun _ _ _ _ _ _ us hl => match us, hl with | [_, _, _], _ => rfl
theorem j_is_square (B : Bl mg) (O_is_row : Ok P w K mg base "is_row" P_is_row 1 (spD K 3 S_is_row)) : BodyCx P w K mg base "is_square" st_is_square N_is_square 1 fun X => JSs X (defBody st_is_square) g_is_square := fun f cdv A outer s H E hr => js_cons (js_if ((jw_or (jt_not (jt_val (je_isi (tn := "tuple") B.isinstance B.tuple (by decide +kernel) (je_v 0)))) (jw_or1 (jt_not (jt_chain opd_le opd_le (je_v 1) (je_callB calld_len B.len (by decide +kernel) (ja_cons (je_v 0) (ja_nil))) (je_v 2))))).jt) (js_one (js_ret (je_bl))) (js_nil)) (js_one (js_ret (je_callB (calld_all rfl) B.all (by decide +kernel) (ja_cons ((jl_lc (own := [("row", 3)]) rfl sc_is_square.nd (ji_sq (je_v 0)) (blkOk_by (by rfl)) (fun _ _ _ _ _ => jg_n 3 sc_is_square.nd) (fun _ _ _ _ _ => jts_nil) (fun _ _ _ _ _ => je_fn O_is_row (hr.mono (by decide)) (ja_cons (je_v 3) (ja_cons (je_callB calld_len B.len (by decide +kernel) (ja_cons (je_v 0) (ja_nil))) (ja_cons (je_callB calld_len B.len (by decide +kernel) (ja_cons (je_v 0) (ja_nil))) (ja_nil)))))).je) (ja_nil)))))
theorem sc_is_same : FnScope N_is_same P_is_same (defScope st_is_same) := ⟨rfl, rfl, rfl, by decide +kernel, rfl, by decide +kernel, by decide +kernel⟩
theorem bs_is_same : BindsAs "is_same" st_is_same P_is_same := fun _ _ _ _ _ _ us hl => match us, hl with | [_, _], _ => rfl
theorem j_is_same0 (B : Bl mg) (O_is_integer : Ok P w K mg base "is_integer" P_is_integer 1 (spD K 1 S_is_integer)) : BodyCx P w K mg base "is_same" st_is_same N_is_same 1 fun X => JSs X (defBody st_is_same) g_is_same0 := fun f cdv A outer s H E hr => js_cons (js_if (jt_val (je_isi (tn := "tuple") B.isinstance B.tuple (by decide +kernel) (je_v 1))) (js_cons (js_if ((jw_or (jt_not (jt_val (je_isi (tn := "tuple") B.isinstance B.tuple (by decide +kernel) (je_v 0)))) (jw_or1 (jt_cmp (opd_ne hr.units) (je_callB calld_len B.len (by decide +kernel) (ja_cons (je_v 0) (ja_nil))) (je_callB calld_len B.len (by decide +kernel) (ja_cons (je_v 1) (ja_nil))) (nomark _)))).jt) (js_one (js_ret (je_bl))) (js_nil)) (js_one (js_ret (je_callB (calld_all rfl) B.all (by decide +kernel) (ja_cons ((jl_lc (own := [("index", 2), ("part", 3)]) rfl sc_is_same.nd (ji_en B.enumerate (je_v 0)) (blkOk_by (by rfl)) (fun _ _ _ _ _ => jg_tup rfl (jgs_cons (jg_n 2 sc_is_same.nd) (jgs_cons (jg_n 3 sc_is_same.nd) (jgs_nil)))) (fun _ _ _ _ _ => jts_nil) (fun _ _ _ _ _ => je_never)).je) (ja_nil)))))) (js_nil)) (js_cons (js_if (jt_val (je_isi (tn := "str") B.isinstance B.str (by decide +kernel) (je_v 1))) (js_one (js_ret (je_and (je_isi (tn := "str") B.isinstance B.str (by decide +kernel) (je_v 0)) (je_one (je_cmp (opd_eq hr.units) (je_v 0) (je_v 1) (nomark _)))))) (js_nil)) (js_one (js_ret (je_and (je_fn O_is_integer (hr.mono (by decide)) (ja_cons (je_v 0) (ja_nil))) (je_one (je_cmp (opd_eq hr.units) (je_v 0) (je_v 1) (nomark _)))))))
theorem j_is_same (B : Bl mg) (O_is_integer : Ok P w K mg base "is_integer" P_is_integer 1 (spD K 1 S_is_integer)) (O_is_same0 : Ok P w K mg base "is_same" P_is_same 2 (spD K 2 S_is_same0)) : BodyCx P w K mg base "is_same" st_is_same N_is_same 2 fun X => JSs X (defBody st_is_same) g_is_same := fun f cdv A outer s H E hr => js_cons (js_if (jt_val (je_isi (tn := "tuple") B.isinstance B.tuple (by decide +kernel) (je_v 1))) (js_cons (js_if ((jw_or (jt_not (jt_val (je_isi (tn := "tuple") B.isinstance B.tuple (by decide +kernel) (je_v 0)))) (jw_or1 (jt_cmp (opd_ne hr.units) (je_callB calld_len B.len (by decide +kernel) (ja_cons (je_v 0) (ja_nil))) (je_callB calld_len B.len (by decide +kernel) (ja_cons (je_v 1) (ja_nil))) (nomark _)))).jt) (js_one (js_ret (je_bl))) (js_nil)) (js_one (js_ret (je_callB (calld_all rfl) B.all (by decide +kernel) (ja_cons ((jl_lc (own := [("index", 2), ("part", 3)]) rfl sc_is_same.nd (ji_en B.enumerate (je_v 0)) (blkOk_by (by rfl)) (fun _ _ _ _ _ => jg_tup rfl (jgs_cons (jg_n 2 sc_is_same.nd) (jgs_cons (jg_n 3 sc_is_same.nd) (jgs_nil)))) (fun _ _ _ _ _ => jts_nil) (fun _ _ _ _ _ => je_fn O_is_same0 (hr.mono (by decide)) (ja_cons (je_v 3) (ja_cons (je_ix (je_v 1) (je_v 2)) (ja_nil))))).je) (ja_nil)))))) (js_nil)) (js_cons (js_if (jt_val (je_isi (tn := "str") B.isinstance B.str (by decide +kernel) (je_v 1))) (js_one (js_ret (je_and (je_isi (tn := "str") B.isinstance B.str (by decide +kernel) (je_v 0)) (je_one (je_cmp (opd_eq hr.units) (je_v 0) (je_v 1) (nomark _)))))) (js_nil)) (js_one (js_ret (je_and (je_fn O_is_integer (hr.mono (by decide)) (ja_cons (je_v 0) (ja_nil))) (je_one (je_cmp (opd_eq hr.units) (je_v 0) (je_v 1) (nomark _)))))))
theorem sc_is_told : FnScope N_is_told P_is_told (defScope st_is_told) := ⟨rfl, rfl, rfl, by decide +kernel, rfl, by decide +kernel, by decide +kernel⟩
theorem bs_is_told : BindsAs "is_told" st_is_told P_is_told := fun _ _ _ _ _ _ us hl => match us, hl with | [_, _, _, _], _ => rfl
theorem j_is_told (B : Bl mg) (O_is_same : Ok P w K mg base "is_same" P_is_same 3 (spD K 2 S_is_same)) (O_is_row : Ok P w K mg base "is_row" P_is_row 1 (spD K 3 S_is_row)) : BodyCx P w K mg base "is_told" st_is_told N_is_told 3 fun X => JSs X (defBody st_is_told) g_is_told := fun f cdv A outer s H E hr => js_cons (js_if ((jw_or (jt_not (jt_val (je_isi (tn := "tuple") B.isinstance B.tuple (by decide +kernel) (je_v 0)))) (jw_or1 (jt_cmp (opd_ne hr.units) (je_callB calld_len B.len (by decide +kernel) (ja_cons (je_v 0) (ja_nil))) (je_bin opd_add (je_v 2) (je_int)) (nomark _)))).jt) (js_one (js_ret (je_bl))) (js_nil)) (js_one (js_ret (je_and (je_fn O_is_same (hr.mono (by decide)) (ja_cons (je_ix (je_v 0) (je_int)) (ja_cons (je_v 1) (ja_nil)))) (je_one (je_fn O_is_row (hr.mono (by decide)) (ja_cons (je_sl (je_v 0) (jo_some (je_int)) (jo_none)) (ja_cons (je_v 2) (ja_cons (je_v 3) (ja_nil)))))))))
theorem sc_unit_of : FnScope N_unit_of P_unit_of (defScope st_unit_of) := ⟨rfl, rfl, rfl, by decide +kernel, rfl, by decide +kernel, by decide +kernel⟩
theorem bs_unit_of : BindsAs "unit_of" st_unit_of P_unit_of := fun _ _ _ _ _ _ us hl => match us, hl with | [_], _ => rfl
theorem j_unit_of (B : Bl mg) : BodyCx P w K mg base "unit_of" st_unit_of N_unit_of 0 fun X => JSs X (defBody st_unit_of) g_unit_of := fun f cdv A outer s H E hr => js_cons (js_set (i := 1) ((je_tupRg rfl B.tuple (jr_1 B.range (je_callB calld_len B.len (by decide +kernel) (ja_cons (je_v 0) (ja_nil))))).jx) sc_unit_of.nd rfl (by first | exact Or.inl rfl | exact Or.inr rfl)) (js_cons (js_for (vs := [2]) rfl (ji_sq (je_v 1)) (jg_n 2 sc_unit_of.nd) (js_one (js_if ((jw_and (jt_cmp (opd_eq hr.units) (je_ix (je_v 0) (je_v 2)) (je_v 1) (nomark _)) (jw_and1 (jt_cmp (opd_eq hr.units) (je_callTy calld_tuple B.tuple (by decide +kernel) (ja_cons ((jl_lc (own := [("row", 3)]) rfl sc_unit_of.nd (ji_sq (je_v 0)) (blkOk_by (by rfl)) (fun _ _ _ _ _ => jg_n 3 sc_unit_of.nd) (fun _ _ _ _ _ => jts_nil) (fun _ _ _ _ _ => je_ix (je_v 3) (je_v 2))).je) (ja_nil))) (je_v 1) (nomark _)))).jt) (js_one (js_ret (je_v 2))) (js_nil)))) (js_one (js_ret (je_non))))
theorem sc_back_of : FnScope N_back_of P_back_of (defScope st_back_of) := ⟨rfl, rfl, rfl, by decide +kernel, rfl, by decide +kernel, by decide +kernel⟩
theorem bs_back_of : BindsAs "back_of" st_back_of P_back_of := fun _ _ _ _ _ _ us hl => match us, hl with | [_, _, _], _ => rfl
theorem j_back_of (B : Bl mg) : BodyCx P w K mg base "back_of" st_back_of N_back_of 0 fun X => JSs X (defBody st_back_of) g_back_of := fun f cdv A outer s H E hr => js_cons (js_for (vs := [3, 4]) rfl (ji_en B.enumerate (je_ix (je_v 0) (je_v 2))) (jg_tup rfl (jgs_cons (jg_n 3 sc_back_of.nd) (jgs_cons (jg_n 4 sc_back_of.nd) (jgs_nil)))) (js_one (js_if ((jw_and (jt_cmp (opd_eq hr.units) (je_v 4) (je_v 1) (nomark _)) (jw_and1 (jt_cmp (opd_eq hr.units) (je_ix (je_ix (je_v 0) (je_v 3)) (je_v 2)) (je_v 1) (nomark _)))).jt) (js_one (js_ret (je_v 3))) (js_nil)))) (js_one (js_ret (je_non)))
theorem sc_backs_of : FnScope N_backs_of P_backs_of (defScope st_backs_of) := ⟨rfl, rfl, rfl, by decide +kernel, rfl, by decide +kernel, by decide +kernel⟩
theorem bs_backs_of : BindsAs "backs_of" st_backs_of P_backs_of := fun _ _ _ _ _ _ us hl => match us, hl with | [_, _], _ => rfl
theorem j_backs_of (B : Bl mg) (O_back_of : Ok P w K mg base "back_of" P_back_of 1 (spD K 3 S_back_of)) : BodyCx P w K mg base "backs_of" st_backs_of N_backs_of 1 fun X => JSs X (defBody st_backs_of) g_backs_of := fun f cdv A outer s H E hr => js_one (js_ret (je_callTy calld_tuple B.tuple (by decide +kernel) (ja_cons ((jl_lc (own := [("thing", 2)]) rfl sc_backs_of.nd (ji_r1 B.range (je_callB calld_len B.len (by decide +kernel) (ja_cons (je_v 0) (ja_nil)))) (blkOk_by (by rfl)) (fun _ _ _ _ _ => jg_n 2 sc_backs_of.nd) (fun _ _ _ _ _ => jts_nil) (fun _ _ _ _ _ => je_fn O_back_of (hr.mono (by decide)) (ja_cons (je_v 0) (ja_cons (je_v 1) (ja_cons (je_v 2) (ja_nil)))))).je) (ja_nil))))
theorem sc_broken_three : FnScope N_broken_three P_broken_three (defScope st_broken_three) := ⟨rfl, rfl, rfl, by decide +kernel, rfl, by decide +kernel, by decide +kernel⟩
theorem bs_broken_three : BindsAs "broken_three" st_broken_three P_broken_three := fun _ _ _ _ _ _ us hl => match us, hl with | [_], _ => rfl
theorem j_broken_three (B : Bl mg) : BodyCx P w K mg base "broken_three" st_broken_three N_broken_three 0 fun X => JSs X (defBody st_broken_three) g_broken_three := fun f cdv A outer s H E hr => js_cons (js_for (vs := [1, 2]) rfl (ji_en B.enumerate (je_v 0)) (jg_tup rfl (jgs_cons (jg_n 1 sc_broken_three.nd) (jgs_cons (jg_n 2 sc_broken_three.nd) (jgs_nil)))) (js_one (js_for (vs := [3, 4]) rfl (ji_en B.enumerate (je_v 2)) (jg_tup rfl (jgs_cons (jg_n 3 sc_broken_three.nd) (jgs_cons (jg_n 4 sc_broken_three.nd) (jgs_nil)))) (js_one (js_for (vs := [5, 6]) rfl (ji_en B.enumerate (je_ix (je_v 0) (je_v 3))) (jg_tup rfl (jgs_cons (jg_n 5 sc_broken_three.nd) (jgs_cons (jg_n 6 sc_broken_three.nd) (jgs_nil)))) (js_one (js_if (jt_cmp (opd_ne hr.units) (je_ix (je_ix (je_v 0) (je_v 4)) (je_v 5)) (je_ix (je_v 2) (je_v 6)) (nomark _)) (js_one (js_ret (je_tup (ja_cons (je_v 1) (ja_cons (je_v 3) (ja_cons (je_v 5) (ja_nil))))))) (js_nil)))))))) (js_one (js_ret (je_non)))
theorem sc_centre_of : FnScope N_centre_of P_centre_of (defScope st_centre_of) := ⟨rfl, rfl, rfl, by decide +kernel, rfl, by decide +kernel, by decide +kernel⟩
theorem bs_centre_of : BindsAs "centre_of" st_centre_of P_centre_of := fun _ _ _ _ _ _ us hl => match us, hl with | [_], _ => rfl
theorem j_centre_of (B : Bl mg) : BodyCx P w K mg base "centre_of" st_centre_of N_centre_of 0 fun X => JSs X (defBody st_centre_of) g_centre_of := fun f cdv A outer s H E hr => js_cons (js_set (i := 1) (((jl_lc (own := [("thing", 2)]) rfl sc_centre_of.nd (ji_r1 B.range (je_callB calld_len B.len (by decide +kernel) (ja_cons (je_v 0) (ja_nil)))) (blkOk_by (by rfl)) (fun _ _ _ _ _ => jg_n 2 sc_centre_of.nd) (fun _ _ _ _ _ => jts_nil) (fun _ _ _ _ _ => je_callTy calld_tuple B.tuple (by decide +kernel) (ja_cons ((jl_lc (own := [("row", 3)]) rfl sc_centre_of.nd (ji_sq (je_v 0)) (blkOk_by (by rfl)) (fun _ _ _ _ _ => jg_n 3 sc_centre_of.nd) (fun _ _ _ _ _ => jts_nil) (fun _ _ _ _ _ => je_ix (je_v 3) (je_v 2))).je) (ja_nil)))).je).jx) sc_centre_of.nd rfl (by first | exact Or.inl rfl | exact Or.inr rfl)) (js_one (js_ret (je_callTy calld_tuple B.tuple (by decide +kernel) (ja_cons ((jl_lc (own := [("thing", 2), ("row", 3)]) rfl sc_centre_of.nd (ji_en B.enumerate (je_v 0)) (blkOk_by (by rfl)) (fun _ _ _ _ _ => jg_tup rfl (jgs_cons (jg_n 2 sc_centre_of.nd) (jgs_cons (jg_n 3 sc_centre_of.nd) (jgs_nil)))) (fun _ _ _ _ _ => jts_one (jt_cmp (opd_eq hr.units) (je_v 3) (je_ix (je_v 1) (je_v 2)) (nomark _))) (fun _ _ _ _ _ => je_v 2)).je) (ja_nil)))))
theorem sc__check_rows : FnScope N__check_rows P__check_rows (defScope st__check_rows) := ⟨rfl, rfl, rfl, by decide +kernel, rfl, by decide +kernel, by decide +kernel⟩
theorem bs__check_rows : BindsAs "_check_rows" st__check_rows P__check_rows := fun _ _ _ _ _ _ us hl => match us, hl with | [_], _ => rfl
theorem j__check_rows {t_MAX_GROUP : Tok} (c_MAX_GROUP : mg "MAX_GROUP" = some (.int 24 t_MAX_GROUP)) (O_is_square : Ok P w K mg base "is_square" P_is_square 2 (spD K 3 S_is_square)) : BodyCx P w K mg base "_check_rows" st__check_rows N__check_rows 2 fun X => JSs X (defBody st__check_rows) g__check_rows := fun f cdv A outer s H E hr => js_one (js_if (jt_not (jt_val (je_fn O_is_square (hr.mono (by decide)) (ja_cons (je_v 0) (ja_cons (je_int) (ja_cons (je_globI c_MAX_GROUP (by rfl)) (ja_nil))))))) (js_one (js_never)) (js_nil))
theorem sc__law_dice : FnScope N__law_dice P__law_dice (defScope st__law_dice) := ⟨rfl, rfl, rfl, by decide +kernel, rfl, by decide +kernel, by decide +kernel⟩
theorem bs__law_dice : BindsAs "_law_dice" st__law_dice P__law_dice := fun _ _ _ _ _ _ us hl => match us, hl with | [_, _], _ => rfl
theorem j__law_dice (B : Bl mg) : BodyCx P w K mg base "_law_dice" st__law_dice N__law_dice 0 fun X => JSL X (defBody st__law_dice) g__law_dice := fun f cdv A outer s H E hr => jsl_cons (js_set (i := 2) ((je_if (jt_cmp opd_lt (je_v 1) (je_callB calld_len B.len (by decide +kernel) (ja_cons (je_v 0) (ja_nil))) (nomark _)) (je_callTy calld_int B.int (by decide +kernel) (ja_cons (je_ix (je_v 0) (je_v 1)) (ja_nil))) (je_bin opd_add (je_bin opd_mulA (je_int) (je_v 1)) (je_int))).jx) sc__law_dice.nd rfl (by first | exact Or.inl rfl | exact Or.inr rfl)) (jsl_cons (js_set (i := 3) ((je_bin opd_mod (je_callB (calld_max2 rfl) B.max (by decide +kernel) (ja_cons (je_int) (ja_cons (je_bin opd_sub (je_callB calld_abs B.abs (by decide +kernel) (ja_cons (je_v 2) (ja_nil))) (je_bin opd_pow (je_int) (je_int))) (ja_nil)))) (je_bin opd_mulA (je_bin opd_pow (je_int) (je_int)) (je_bin opd_pow (je_int) (je_int)))).jx) sc__law_dice.nd rfl (by first | exact Or.inl rfl | exact Or.inr rfl)) (jsl_ret (jl_lst (ja_cons (je_v 3) (ja_cons (je_bin opd_add (je_bin opd_add (je_bin opd_add (je_bin opd_mulA (je_bin opd_mod (je_callB calld_abs B.abs (by decide +kernel) (ja_cons (je_v 2) (ja_nil))) (je_int)) (je_int)) (je_bin opd_mulA (je_int) (je_v 1))) (je_bin opd_mulA (je_int) (je_callTy calld_int B.int (by decide +kernel) (ja_cons (je_cmp opd_lt (je_v 2) (je_int) (nomark _)) (ja_nil))))) (je_int)) (ja_cons (je_int) (ja_nil)))))))
theorem sc__law_roll : FnScope N__law_roll P__law_roll (defScope st__law_roll) := ⟨rfl, rfl, rfl, by decide +kernel, rfl, by decide +kernel, by decide +kernel⟩
theorem bs__law_roll : BindsAs "_law_roll" st__law_roll P__law_roll := fun _ _ _ _ _ _ us hl => match us, hl with | [_, _], _ => rfl
theorem j__law_roll (B : Bl mg) : BodyCx P w K mg base "_law_roll" st__law_roll N__law_roll 0 fun X => JSs X (defBody st__law_roll) g__law_roll := fun f cdv A outer s H E hr => js_cons (js_if (jt_cmp opd_gt (je_ixP (i := 0) rfl (by first | exact Or.inl rfl | exact Or.inr (Or.inl rfl) | exact Or.inr (Or.inr rfl)) (je_int)) (je_int) (nomark _)) (js_cons (js_set (i := 2) ((je_bin opd_mod (je_callTy calld_int B.int (by decide +kernel) (ja_cons (je_ixP (i := 0) rfl (by first | exact Or.inl rfl | exact Or.inr (Or.inl rfl) | exact Or.inr (Or.inr rfl)) (je_int)) (ja_nil))) (je_v 1)).jx) sc__law_roll.nd rfl (by first | exact Or.inl rfl | exact Or.inr rfl)) (js_cons (js_sub (i := 0) rfl (by first | exact Or.inl rfl | exact Or.inr (Or.inl rfl) | exact Or.inr (Or.inr rfl)) (je_int) (je_bin opd_fdiv (je_ixP (i := 0) rfl (by first | exact Or.inl rfl | exact Or.inr (Or.inl rfl) | exact Or.inr (Or.inr rfl)) (je_int)) (je_v 1))) (js_one (js_ret (je_v 2))))) (js_nil)) (js_cons (js_sub (i := 0) rfl (by first | exact Or.inl rfl | exact Or.inr (Or.inl rfl) | exact Or.inr (Or.inr rfl)) (je_int) (je_bin opd_add (je_ixP (i := 0) rfl (by first | exact Or.inl rfl | exact Or.inr (Or.inl rfl) | exact Or.inr (Or.inr rfl)) (je_int)) (je_int))) (js_cons (js_set (i := 3) ((je_bin opd_mod (je_callTy calld_int B.int (by decide +kernel) (ja_cons (je_bin opd_add (je_ixP (i := 0) rfl (by first | exact Or.inl rfl | exact Or.inr (Or.inl rfl) | exact Or.inr (Or.inr rfl)) (je_int)) (je_bin opd_mulA (je_int) (je_ixP (i := 0) rfl (by first | exact Or.inl rfl | exact Or.inr (Or.inl rfl) | exact Or.inr (Or.inr rfl)) (je_int)))) (ja_nil))) (je_int)).jx) sc__law_roll.nd rfl (by first | exact Or.inl rfl | exact Or.inr rfl)) (js_cons (js_set (i := 4) ((je_bin opd_add (je_bin opd_mulA (je_bin opd_mod (je_callTy calld_int B.int (by decide +kernel) (ja_cons (je_bin opd_add (je_bin opd_mulA (je_v 3) (je_v 3)) (je_bin opd_mulA (je_int) (je_ixP (i := 0) rfl (by first | exact Or.inl rfl | exact Or.inr (Or.inl rfl) | exact Or.inr (Or.inr rfl)) (je_int)))) (ja_nil))) (je_int)) (je_int)) (je_v 3)).jx) sc__law_roll.nd rfl (by first | exact Or.inl rfl | exact Or.inr rfl)) (js_one (js_ret (je_bin opd_mod (je_callTy calld_int B.int (by decide +kernel) (ja_cons (je_bin opd_fdiv (je_v 4) (je_int)) (ja_nil))) (je_v 1)))))))
theorem sc__law_pick : FnScope N__law_pick P__law_pick (defScope st__law_pick) := ⟨rfl, rfl, rfl, by decide +kernel, rfl, by decide +kernel, by decide +kernel⟩
theorem bs__law_pick : BindsAs "_law_pick" st__law_pick P__law_pick := fun _ _ _ _ _ _ us hl => match us, hl with | [_, _], _ => rfl
theorem j__law_pick (B : Bl mg) (O__law_roll : Ok P w K mg base "_law_roll" P__law_roll 1 (spM K 2 S__law_roll)) : BodyCx P w K mg base "_law_pick" st__law_pick N__law_pick 1 fun X => JSs X (defBody st__law_pick) g__law_pick := fun f cdv A outer s H E hr => js_one (js_ret (je_ix (je_v 1) (je_fnM O__law_roll (hr.mono (by decide)) (i := 0) rfl (by first | exact Or.inl rfl | exact Or.inr (Or.inl rfl) | exact Or.inr (Or.inr rfl)) (ja_cons (je_callB calld_len B.len (by decide +kernel) (ja_cons (je_v 1) (ja_nil))) (ja_nil)))))
theorem sc__law_mixed : FnScope N__law_mixed P__law_mixed (defScope st__law_mixed) := ⟨rfl, rfl, rfl, by decide +kernel, rfl, by decide +kernel, by decide +kernel⟩
theorem bs__law_mixed : BindsAs "_law_mixed" st__law_mixed P__law_mixed := fun _ _ _ _ _ _ us hl => match us, hl with | [_, _], _ => rfl
theorem j__law_mixed (B : Bl mg) (O__law_roll : Ok P w K mg base "_law_roll" P__law_roll 1 (spM K 2 S__law_roll)) : BodyCx P w K mg base "_law_mixed" st__law_mixed N__law_mixed 1 fun X => JSs X (defBody st__law_mixed) g__law_mixed := fun f cdv A outer s H E hr => js_cons (js_par (i := 2) (j := 3) rfl sc__law_mixed.nd rfl rfl (by decide) rfl rfl ((jl_list B.list (je_v 1)).jx) ((jl_lst (ja_nil)).jx) rfl) (js_cons (js_for (vs := [4]) rfl (ji_r1 B.range (je_callB calld_len B.len (by decide +kernel) (ja_cons (je_v 1) (ja_nil)))) (jg_n 4 sc__law_mixed.nd) (js_one (js_expr (je_app (i := 3) rfl (by first | exact Or.inl rfl | exact Or.inr (Or.inl rfl) | exact Or.inr (Or.inr rfl)) (je_popAt (i := 2) rfl (by first | exact Or.inl rfl | exact Or.inr (Or.inl rfl) | exact Or.inr (Or.inr rfl)) (je_fnM O__law_roll (hr.mono (by decide)) (i := 0) rfl (by first | exact Or.inl rfl | exact Or.inr (Or.inl rfl) | exact Or.inr (Or.inr rfl)) (ja_cons (je_callBO calld_len B.len (by decide +kernel) (i := 2) rfl (by first | exact Or.inl rfl | exact Or.inr (Or.inl rfl) | exact Or.inr (Or.inr rfl))) (ja_nil)))))))) (js_one (js_retO (i := 3) rfl (by first | exact Or.inl rfl | exact Or.inr (Or.inl rfl) | exact Or.inr (Or.inr rfl)))))
theorem sc__law_undone : FnScope N__law_undone P__law_undone (defScope st__law_undone) := ⟨rfl, rfl, rfl, by decide +kernel, rfl, by decide +kernel, by decide +kernel⟩
theorem bs__law_undone : BindsAs "_law_undone" st__law_undone P__law_undone := fun _ _ _ _ _ _ us hl => match us, hl with | [_], _ => rfl
theorem j__law_undone (B : Bl mg) : BodyCx P w K mg base "_law_undone" st__law_undone N__law_undone 0 fun X => JSs X (defBody st__law_undone) g__law_undone := fun f cdv A outer s H E hr => js_cons (js_lcO (own := [("_law_thing", 2)]) rfl sc__law_undone.nd (i := 1) rfl rfl (sw_true rfl rfl rfl (by decide +kernel)) (ji_sq (je_v 0)) (blkOk_by (by rfl)) (fun _ _ _ _ _ => jg_n 2 sc__law_undone.nd) (fun _ _ _ _ _ => jts_nil) (fun _ _ _ _ _ => je_int)) (js_cons (js_for (vs := [2, 3]) rfl (ji_en B.enumerate (je_v 0)) (jg_tup rfl (jgs_cons (jg_n 2 sc__law_undone.nd) (jgs_cons (jg_n 3 sc__law_undone.nd) (jgs_nil)))) (js_one (js_sub (i := 1) rfl (by first | exact Or.inl rfl | exact Or.inr (Or.inl rfl) | exact Or.inr (Or.inr rfl)) (je_v 3) (je_v 2)))) (js_one (js_ret (je_tupleO B.tuple (i := 1) rfl (by first | exact Or.inl rfl | exact Or.inr (Or.inl rfl) | exact Or.inr (Or.inr rfl))))))
theorem sc__law_drawn_move : FnScope N__law_drawn_move P__law_drawn_move (defScope st__law_drawn_move) := ⟨rfl, rfl, rfl, by decide +kernel, rfl, by decide +kernel, by decide +kernel⟩
theorem bs__law_drawn_move : BindsAs "_law_drawn_move" st__law_drawn_move P__law_drawn_move := fun _ _ _ _ _ _ us hl => match us, hl with | [_, _], _ => rfl
theorem j__law_drawn_move (B : Bl mg) (O__law_mixed : Ok P w K mg base "_law_mixed" P__law_mixed 2 (spM K 2 S__law_mixed)) : BodyCx P w K mg base "_law_drawn_move" st__law_drawn_move N__law_drawn_move 2 fun X => JSs X (defBody st__law_drawn_move) g__law_drawn_move := fun f cdv A outer s H E hr => js_one (js_ret (je_callTy calld_tuple B.tuple (by decide +kernel) (ja_cons (je_fnM O__law_mixed (hr.mono (by decide)) (i := 0) rfl (by first | exact Or.inl rfl | exact Or.inr (Or.inl rfl) | exact Or.inr (Or.inr rfl)) (ja_cons ((jl_rg rfl B.list (jr_1 B.range (je_v 1))).je) (ja_nil))) (ja_nil))))
theorem sc__law_places_of : FnScope N__law_places_of P__law_places_of (defScope st__law_places_of) := ⟨rfl, rfl, rfl, by decide +kernel, rfl, by decide +kernel, by decide +kernel⟩
theorem bs__law_places_of : BindsAs "_law_places_of" st__law_places_of P__law_places_of := fun _ _ _ _ _ _ us hl => match us, hl with | [_, _], _ => rfl
theorem j__law_places_of (B : Bl mg) : BodyCx P w K mg base "_law_places_of" st__law_places_of N__law_places_of 0 fun X => JSs X (defBody st__law_places_of) g__law_places_of := fun f cdv A outer s H E hr => js_one (js_ret ((jl_lc (own := [("_law_at", 2)]) rfl sc__law_places_of.nd (ji_r1 B.range (je_bin opd_mulA (je_v 0) (je_v 1))) (blkOk_by (by rfl)) (fun _ _ _ _ _ => jg_n 2 sc__law_places_of.nd) (fun _ _ _ _ _ => jts_nil) (fun _ _ _ _ _ => je_tup (ja_cons (je_bin opd_fdiv (je_v 2) (je_v 1)) (ja_cons (je_bin opd_mod (je_v 2) (je_v 1)) (ja_nil))))).je))
theorem sc__law_product_dots : FnScope N__law_product_dots P__law_product_dots (defScope st__law_product_dots) := ⟨rfl, rfl, rfl, by decide +kernel, rfl, by decide +kernel, by decide +kernel⟩
theorem bs__law_product_dots : BindsAs "_law_product_dots" st__law_product_dots P__law_product_dots := fun _ _ _ _ _ _ us hl => match us, hl with | [_, _], _ => rfl
theorem j__law_product_dots (B : Bl mg) (O__law_places_of : Ok P w K mg base "_law_places_of" P__law_places_of 1 (spD K 2 S__law_places_of)) : BodyCx P w K mg base "_law_product_dots" st__law_product_dots N__law_product_dots 1 fun X => JSs X (defBody st__law_product_dots) g__law_product_dots := fun f cdv A outer s H E hr => js_cons (js_parT (i := 2) (j := 3) rfl sc__law_product_dots.nd rfl rfl (by decide) (by first | exact Or.inl rfl | exact Or.inr rfl) (by first | exact Or.inl rfl | exact Or.inr rfl) ((je_callB calld_len B.len (by decide +kernel) (ja_cons (je_v 1) (ja_nil))).jx) ((jl_lst (ja_nil)).jx)) (js_cons (js_set (i := 4) ((je_fn O__law_places_of (hr.mono (by decide)) (ja_cons (je_callB calld_len B.len (by decide +kernel) (ja_cons (je_v 0) (ja_nil))) (ja_cons (je_v 2) (ja_nil)))).jx) sc__law_product_dots.nd rfl (by first | exact Or.inl rfl | exact Or.inr rfl)) (js_cons (js_for (vs := [5, 6]) rfl (ji_sq (je_v 4)) (jg_tup rfl (jgs_cons (jg_n 5 sc__law_product_dots.nd) (jgs_cons (jg_n 6 sc__law_product_dots.nd) (jgs_nil)))) (js_cons (js_parT (i := 7) (j := 8) rfl sc__law_product_dots.nd rfl rfl (by decide) (by first | exact Or.inl rfl | exact Or.inr rfl) (by first | exact Or.inl rfl | exact Or.inr rfl) ((je_ix (je_v 0) (je_v 5)).jx) ((je_ix (je_v 1) (je_v 6)).jx)) (js_one (js_expr (je_app (i := 3) rfl (by first | exact Or.inl rfl | exact Or.inr (Or.inl rfl) | exact Or.inr (Or.inr rfl)) (je_callTy calld_tuple B.tuple (by decide +kernel) (ja_cons ((jl_lc (own := [("_law_a", 9), ("_law_b", 10)]) rfl sc__law_product_dots.nd (ji_sq (je_v 4)) (blkOk_by (by rfl)) (fun _ _ _ _ _ => jg_tup rfl (jgs_cons (jg_n 9 sc__law_product_dots.nd) (jgs_cons (jg_n 10 sc__law_product_dots.nd) (jgs_nil)))) (fun _ _ _ _ _ => jts_nil) (fun _ _ _ _ _ => je_bin opd_add (je_bin opd_mulA (je_ix (je_v 7) (je_v 9)) (je_v 2)) (je_ix (je_v 8) (je_v 10)))).je) (ja_nil)))))))) (js_one (js_retO (i := 3) rfl (by first | exact Or.inl rfl | exact Or.inr (Or.inl rfl) | exact Or.inr (Or.inr rfl))))))
theorem sc__law_cyclic : FnScope N__law_cyclic P__law_cyclic (defScope st__law_cyclic) := ⟨rfl, rfl, rfl, by decide +kernel, rfl, by decide +kernel, by decide +kernel⟩
theorem bs__law_cyclic : BindsAs "_law_cyclic" st__law_cyclic P__law_cyclic := fun _ _ _ _ _ _ us hl => match us, hl with | [_], _ => rfl
theorem j__law_cyclic (B : Bl mg) : BodyCx P w K mg base "_law_cyclic" st__law_cyclic N__law_cyclic 0 fun X => JSs X (defBody st__law_cyclic) g__law_cyclic := fun f cdv A outer s H E hr => js_one (js_ret (je_callTy calld_tuple B.tuple (by decide +kernel) (ja_cons ((jl_lc (own := [("_law_a", 1)]) rfl sc__law_cyclic.nd (ji_r1 B.range (je_v 0)) (blkOk_by (by rfl)) (fun _ _ _ _ _ => jg_n 1 sc__law_cyclic.nd) (fun _ _ _ _ _ => jts_nil) (fun _ _ _ _ _ => je_callTy calld_tuple B.tuple (by decide +kernel) (ja_cons ((jl_lc (own := [("_law_b", 2)]) rfl sc__law_cyclic.nd (ji_r1 B.range (je_v 0)) (blkOk_by (by rfl)) (fun _ _ _ _ _ => jg_n 2 sc__law_cyclic.nd) (fun _ _ _ _ _ => jts_nil) (fun _ _ _ _ _ => je_bin opd_mod (je_callTy calld_int B.int (by decide +kernel) (ja_cons (je_bin opd_add (je_v 1) (je_v 2)) (ja_nil))) (je_v 0))).je) (ja_nil)))).je) (ja_nil))))
theorem sc__law_direct : FnScope N__law_direct P__law_direct (defScope st__law_direct) := ⟨rfl, rfl, rfl, by decide +kernel, rfl, by decide +kernel, by decide +kernel⟩
theorem bs__law_direct : BindsAs "_law_direct" st__law_direct P__law_direct := fun _ _ _ _ _ _ us hl => match us, hl with | [_, _], _ => rfl
theorem j__law_direct (B : Bl mg) (O__law_product_dots : Ok P w K mg base "_law_product_dots" P__law_product_dots 2 (spD K 2 S__law_product_dots)) : BodyCx P w K mg base "_law_direct" st__law_direct N__law_direct 2 fun X => JSs X (defBody st__law_direct) g__law_direct := fun f cdv A outer s H E hr => js_one (js_ret (je_callTy calld_tuple B.tuple (by decide +kernel) (ja_cons (je_fn O__law_product_dots (hr.mono (by decide)) (ja_cons (je_v 0) (ja_cons (je_v 1) (ja_nil)))) (ja_nil))))
theorem sc__law_turned_pairs : FnScope N__law_turned_pairs P__law_turned_pairs (defScope st__law_turned_pairs) := ⟨rfl, rfl, rfl, by decide +kernel, rfl, by decide +kernel, by decide +kernel⟩
theorem bs__law_turned_pairs : BindsAs "_law_turned_pairs" st__law_turned_pairs P__law_turned_pairs := fun _ _ _ _ _ _ us hl => match us, hl with | [_], _ => rfl
theorem j__law_turned_pairs (B : Bl mg) : BodyCx P w K mg base "_law_turned_pairs" st__law_turned_pairs N__law_turned_pairs 0 fun X => JSs X (defBody st__law_turned_pairs) g__law_turned_pairs := fun f cdv A outer s H E hr => js_cons (js_set (i := 1) ((jl_lst (ja_nil)).jx) sc__law_turned_pairs.nd rfl (by first | exact Or.inl rfl | exact Or.inr rfl)) (js_cons (js_for (vs := [2]) rfl (ji_r1 B.range (je_bin opd_mulA (je_int) (je_v 0))) (jg_n 2 sc__law_turned_pairs.nd) (js_cons (js_set (i := 3) ((jl_lst (ja_nil)).jx) sc__law_turned_pairs.nd rfl (by first | exact Or.inl rfl | exact Or.inr rfl)) (js_cons (js_for (vs := [4]) rfl (ji_r1 B.range (je_bin opd_mulA (je_int) (je_v 0))) (jg_n 4 sc__law_turned_pairs.nd) (js_cons (js_set (i := 5) ((je_if (jt_cmp (opd_eq hr.units) (je_bin opd_mod (je_v 2) (je_int)) (je_int) (nomark _)) (je_bin opd_fdiv (je_v 4) (je_int)) (je_bin opd_sub (je_v 0) (je_bin opd_fdiv (je_v 4) (je_int)))).jx) sc__law_turned_pairs.nd rfl (by first | exact Or.inl rfl | exact Or.inr rfl)) (js_one (js_expr (je_app (i := 3) rfl (by first | exact Or.inl rfl | exact Or.inr (Or.inl rfl) | exact Or.inr (Or.inr rfl)) (je_bin opd_add (je_bin opd_mulA (je_bin opd_mod (je_callTy calld_int B.int (by decide +kernel) (ja_cons (je_bin opd_add (je_bin opd_fdiv (je_v 2) (je_int)) (je_v 5)) (ja_nil))) (je_v 0)) (je_int)) (je_bin opd_mod (je_callTy calld_int B.int (by decide +kernel) (ja_cons (je_bin opd_add (je_v 2) (je_v 4)) (ja_nil))) (je_int)))))))) (js_one (js_expr (je_app (i := 1) rfl (by first | exact Or.inl rfl | exact Or.inr (Or.inl rfl) | exact Or.inr (Or.inr rfl)) (je_tupleO B.tuple (i := 3) rfl (by first | exact Or.inl rfl | exact Or.inr (Or.inl rfl) | exact Or.inr (Or.inr rfl))))))))) (js_one (js_ret (je_tupleO B.tuple (i := 1) rfl (by first | exact Or.inl rfl | exact Or.inr (Or.inl rfl) | exact Or.inr (Or.inr rfl))))))
theorem sc__law_quaternion_rows : FnScope N__law_quaternion_rows P__law_quaternion_rows (defScope st__law_quaternion_rows) := ⟨rfl, rfl, rfl, by decide +kernel, rfl, by decide +kernel, by decide +kernel⟩
theorem bs__law_quaternion_rows : BindsAs "_law_quaternion_rows" st__law_quaternion_rows P__law_quaternion_rows := fun _ _ _ _ _ _ us hl => match us, hl with | [], _ => rfl
theorem j__law_quaternion_rows (B : Bl mg) : BodyCx P w K mg base "_law_quaternion_rows" st__law_quaternion_rows N__law_quaternion_rows 0 fun X => JSs X (defBody st__law_quaternion_rows) g__law_quaternion_rows := fun f cdv A outer s H E hr => js_cons (js_par (i := 0) (j := 1) rfl sc__law_quaternion_rows.nd rfl rfl (by decide) rfl rfl (((jl_lst (ja_cons ((jl_lst (ja_cons (je_int) (ja_cons (je_int) (ja_cons (je_int) (ja_cons (je_int) (ja_nil)))))).je) (ja_cons ((jl_lst (ja_cons (je_int) (ja_cons (je_int) (ja_cons (je_int) (ja_cons (je_int) (ja_nil)))))).je) (ja_cons ((jl_lst (ja_cons (je_int) (ja_cons (je_int) (ja_cons (je_int) (ja_cons (je_int) (ja_nil)))))).je) (ja_cons ((jl_lst (ja_cons (je_int) (ja_cons (je_int) (ja_cons (je_int) (ja_cons (je_int) (ja_nil)))))).je) (ja_nil)))))).je).jx) ((jl_lst (ja_nil)).jx) rfl) (js_cons (js_for (vs := [2]) rfl (ji_r1 B.range (je_int)) (jg_n 2 sc__law_quaternion_rows.nd) (js_cons (js_set (i := 3) ((jl_lst (ja_nil)).jx) sc__law_quaternion_rows.nd rfl (by first | exact Or.inl rfl | exact Or.inr rfl)) (js_cons (js_for (vs := [4]) rfl (ji_r1 B.range (je_int)) (jg_n 4 sc__law_quaternion_rows.nd) (js_cons (js_set (i := 5) ((je_ix (je_v 0) (je_bin opd_fdiv (je_v 2) (je_int))).jx) sc__law_quaternion_rows.nd rfl (by first | exact Or.inl rfl | exact Or.inr rfl)) (js_cons (js_set (i := 6) ((je_ix (je_v 5) (je_bin opd_fdiv (je_v 4) (je_int))).jx) sc__law_quaternion_rows.nd rfl (by first | exact Or.inl rfl | exact Or.inr rfl)) (js_one (js_expr (je_app (i := 3) rfl (by first | exact Or.inl rfl | exact Or.inr (Or.inl rfl) | exact Or.inr (Or.inr rfl)) (je_bin opd_add (je_bin opd_mulA (je_bin opd_fdiv (je_v 6) (je_int)) (je_int)) (je_bin opd_mod (je_callTy calld_int B.int (by decide +kernel) (ja_cons (je_bin opd_add (je_bin opd_add (je_v 6) (je_v 2)) (je_v 4)) (ja_nil))) (je_int))))))))) (js_one (js_expr (je_app (i := 1) rfl (by first | exact Or.inl rfl | exact Or.inr (Or.inl rfl) | exact Or.inr (Or.inr rfl)) (je_tupleO B.tuple (i := 3) rfl (by first | exact Or.inl rfl | exact Or.inr (Or.inl rfl) | exact Or.inr (Or.inr rfl))))))))) (js_one (js_ret (je_tupleO B.tuple (i := 1) rfl (by first | exact Or.inl rfl | exact Or.inr (Or.inl rfl) | exact Or.inr (Or.inr rfl))))))
theorem sc__law_renamed_group : FnScope N__law_renamed_group P__law_renamed_group (defScope st__law_renamed_group) := ⟨rfl, rfl, rfl, by decide +kernel, rfl, by decide +kernel, by decide +kernel⟩
theorem bs__law_renamed_group : BindsAs "_law_renamed_group" st__law_renamed_group P__law_renamed_group := fun _ _ _ _ _ _ us hl => match us, hl with | [_, _], _ => rfl
theorem j__law_renamed_group (B : Bl mg) (O__law_undone : Ok P w K mg base "_law_undone" P__law_undone 1 (spD K 1 S__law_undone)) : BodyCx P w K mg base "_law_renamed_group" st__law_renamed_group N__law_renamed_group 1 fun X => JSs X (defBody st__law_renamed_group) g__law_renamed_group := fun f cdv A outer s H E hr => js_cons (js_set (i := 2) ((je_fn O__law_undone (hr.mono (by decide)) (ja_cons (je_v 1) (ja_nil))).jx) sc__law_renamed_group.nd rfl (by first | exact Or.inl rfl | exact Or.inr rfl)) (js_one (js_ret (je_callTy calld_tuple B.tuple (by decide +kernel) (ja_cons ((jl_lc (own := [("_law_a", 3)]) rfl sc__law_renamed_group.nd (ji_sq (je_v 1)) (blkOk_by (by rfl)) (fun _ _ _ _ _ => jg_n 3 sc__law_renamed_group.nd) (fun _ _ _ _ _ => jts_nil) (fun _ _ _ _ _ => je_callTy calld_tuple B.tuple (by decide +kernel) (ja_cons ((jl_lc (own := [("_law_b", 4)]) rfl sc__law_renamed_group.nd (ji_sq (je_v 1)) (blkOk_by (by rfl)) (fun _ _ _ _ _ => jg_n 4 sc__law_renamed_group.nd) (fun _ _ _ _ _ => jts_nil) (fun _ _ _ _ _ => je_ix (je_v 2) (je_ix (je_ix (je_v 0) (je_v 3)) (je_v 4)))).je) (ja_nil)))).je) (ja_nil)))))
theorem sc__law_group_rows : FnScope N__law_group_rows P__law_group_rows (defScope st__law_group_rows) := ⟨rfl, rfl, rfl, by decide +kernel, rfl, by decide +kernel, by decide +kernel⟩
theorem bs__law_group_rows : BindsAs "_law_group_rows" st__law_group_rows P__law_group_rows := fun _ _ _ _ _ _ us hl => match us, hl with | [_, _], _ => rfl
theorem j__law_group_rows (B : Bl mg) (O__law_cyclic : Ok P w K mg base "_law_cyclic" P__law_cyclic 1 (spD K 1 S__law_cyclic)) (O__law_direct : Ok P w K mg base "_law_direct" P__law_direct 3 (spD K 2 S__law_direct)) (O__law_turned_pairs : Ok P w K mg base "_law_turned_pairs" P__law_turned_pairs 1 (spD K 1 S__law_turned_pairs)) (O__law_quaternion_rows : Ok P w K mg base "_law_quaternion_rows" P__law_quaternion_rows 1 (spD K 0 S__law_quaternion_rows)) (O__law_pick : Ok P w K mg base "_law_pick" P__law_pick 2 (spM K 2 S__law_pick)) (O__law_renamed_group : Ok P w K mg base "_law_renamed_group" P__law_renamed_group 2 (spD K 2 S__law_renamed_group)) (O__law_drawn_move : Ok P w K mg base "_law_drawn_move" P__law_drawn_move 3 (spM K 2 S__law_drawn_move)) : BodyCx P w K mg base "_law_group_rows" st__law_group_rows N__law_group_rows 3 fun X => JSs X (defBody st__law_group_rows) g__law_group_rows := fun f cdv A outer s H E hr => js_cons (js_set (i := 2) ((jl_cat ((jl_lc (own := [("_law_size", 5)]) rfl sc__law_group_rows.nd (ji_r2 B.range (je_int) (je_bin opd_add (je_v 1) (je_int))) (blkOk_by (by rfl)) (fun _ _ _ _ _ => jg_n 5 sc__law_group_rows.nd) (fun _ _ _ _ _ => jts_nil) (fun _ _ _ _ _ => je_fn O__law_cyclic (hr.mono (by decide)) (ja_cons (je_v 5) (ja_nil)))).je) ((jl_lst (ja_cons (je_fn O__law_cyclic (hr.mono (by decide)) (ja_cons (je_v 1) (ja_nil))) (ja_nil))).je)).jx) sc__law_group_rows.nd rfl (by first | exact Or.inl rfl | exact Or.inr rfl)) (js_cons (js_set (i := 2) ((jl_cat (je_vF 2) ((jl_lc (own := [("_law_size", 5)]) rfl sc__law_group_rows.nd (ji_r2 B.range (je_int) (je_bin opd_add (je_bin opd_fdiv (je_v 1) (je_int)) (je_int))) (blkOk_by (by rfl)) (fun _ _ _ _ _ => jg_n 5 sc__law_group_rows.nd) (fun _ _ _ _ _ => jts_nil) (fun _ _ _ _ _ => je_fn O__law_direct (hr.mono (by decide)) (ja_cons (je_fn O__law_cyclic (hr.mono (by decide)) (ja_cons (je_int) (ja_nil))) (ja_cons (je_fn O__law_cyclic (hr.mono (by decide)) (ja_cons (je_v 5) (ja_nil))) (ja_nil))))).je)).jx) sc__law_group_rows.nd rfl (by first | exact Or.inl rfl | exact Or.inr rfl)) (js_cons (js_set (i := 2) ((jl_cat (je_vF 2) ((jl_lc (own := [("_law_size", 5)]) rfl sc__law_group_rows.nd (ji_r2 B.range (je_int) (je_bin opd_add (je_bin opd_fdiv (je_v 1) (je_int)) (je_int))) (blkOk_by (by rfl)) (fun _ _ _ _ _ => jg_n 5 sc__law_group_rows.nd) (fun _ _ _ _ _ => jts_nil) (fun _ _ _ _ _ => je_fn O__law_turned_pairs (hr.mono (by decide)) (ja_cons (je_v 5) (ja_nil)))).je)).jx) sc__law_group_rows.nd rfl (by first | exact Or.inl rfl | exact Or.inr rfl)) (js_cons (js_if (jt_cmp opd_gt (je_v 1) (je_int) (nomark _)) (js_one (js_set (i := 2) ((jl_cat (je_vF 2) ((jl_lst (ja_cons (je_fn0 O__law_quaternion_rows (hr.mono (by decide))) (ja_cons (je_fn O__law_direct (hr.mono (by decide)) (ja_cons (je_fn O__law_cyclic (hr.mono (by decide)) (ja_cons (je_int) (ja_nil))) (ja_cons (je_fn O__law_direct (hr.mono (by decide)) (ja_cons (je_fn O__law_cyclic (hr.mono (by decide)) (ja_cons (je_int) (ja_nil))) (ja_cons (je_fn O__law_cyclic (hr.mono (by decide)) (ja_cons (je_int) (ja_nil))) (ja_nil)))) (ja_nil)))) (ja_nil)))).je)).jx) sc__law_group_rows.nd rfl (by first | exact Or.inl rfl | exact Or.inr rfl))) (js_nil)) (js_cons (js_if (jt_cmp opd_gt (je_v 1) (je_int) (nomark _)) (js_one (js_expr (je_app (i := 2) rfl (by first | exact Or.inl rfl | exact Or.inr (Or.inl rfl) | exact Or.inr (Or.inr rfl)) (je_fn O__law_direct (hr.mono (by decide)) (ja_cons (je_fn O__law_cyclic (hr.mono (by decide)) (ja_cons (je_int) (ja_nil))) (ja_cons (je_fn O__law_cyclic (hr.mono (by decide)) (ja_cons (je_int) (ja_nil))) (ja_nil))))))) (js_nil)) (js_cons (js_if (jt_cmp opd_gt (je_v 1) (je_int) (nomark _)) (jss_never) (js_nil)) (js_cons (js_set (i := 4) ((je_fnM O__law_pick (hr.mono (by decide)) (i := 0) rfl (by first | exact Or.inl rfl | exact Or.inr (Or.inl rfl) | exact Or.inr (Or.inr rfl)) (ja_cons (je_vF 2) (ja_nil))).jx) sc__law_group_rows.nd rfl (by first | exact Or.inl rfl | exact Or.inr rfl)) (js_one (js_ret (je_fn O__law_renamed_group (hr.mono (by decide)) (ja_cons (je_v 4) (ja_cons (je_fnM O__law_drawn_move (hr.mono (by decide)) (i := 0) rfl (by first | exact Or.inl rfl | exact Or.inr (Or.inl rfl) | exact Or.inr (Or.inr rfl)) (ja_cons (je_callB calld_len B.len (by decide +kernel) (ja_cons (je_v 4) (ja_nil))) (ja_nil))) (ja_nil))))))))))))
theorem sc__law_unit : FnScope N__law_unit P__law_unit (defScope st__law_unit) := ⟨rfl, rfl, rfl, by decide +kernel, rfl, by decide +kernel, by decide +kernel⟩
theorem bs__law_unit : BindsAs "_law_unit" st__law_unit P__law_unit := fun _ _ _ _ _ _ us hl => match us, hl with | [_], _ => rfl
theorem j__law_unit (B : Bl mg) : BodyCx P w K mg base "_law_unit" st__law_unit N__law_unit 0 fun X => JSs X (defBody st__law_unit) g__law_unit := fun f cdv A outer s H E hr => js_one (js_ret (je_ix ((jl_lc (own := [("_law_a", 1)]) rfl sc__law_unit.nd (ji_r1 B.range (je_callB calld_len B.len (by decide +kernel) (ja_cons (je_v 0) (ja_nil)))) (blkOk_by (by rfl)) (fun _ _ _ _ _ => jg_n 1 sc__law_unit.nd) (fun _ _ _ _ _ => jts_one (jt_cmp (opd_eq hr.units) (je_ix (je_ix (je_v 0) (je_v 1)) (je_v 1)) (je_v 1) (nomark _))) (fun _ _ _ _ _ => je_v 1)).je) (je_int)))
theorem sc__law_group_fault : FnScope N__law_group_fault P__law_group_fault (defScope st__law_group_fault) := ⟨rfl, rfl, rfl, by decide +kernel, rfl, by decide +kernel, by decide +kernel⟩
theorem bs__law_group_fault : BindsAs "_law_group_fault" st__law_group_fault P__law_group_fault := fun _ _ _ _ _ _ us hl => match us, hl with | [_], _ => rfl
theorem j__law_group_fault (B : Bl mg) : BodyCx P w K mg base "_law_group_fault" st__law_group_fault N__law_group_fault 0 fun X => JSs X (defBody st__law_group_fault) g__law_group_fault := fun f cdv A outer s H E hr => js_cons (js_set (i := 1) (((jl_rg rfl B.list (jr_1 B.range (je_callB calld_len B.len (by decide +kernel) (ja_cons (je_v 0) (ja_nil))))).je).jx) sc__law_group_fault.nd rfl (by first | exact Or.inl rfl | exact Or.inr rfl)) (js_cons (js_set (i := 2) (((jl_lc (own := [("_law_e", 6)]) rfl sc__law_group_fault.nd (ji_sq (je_v 1)) (blkOk_by (by rfl)) (fun _ _ _ _ _ => jg_n 6 sc__law_group_fault.nd) (fun _ _ _ _ _ => jts_one (jt_val (je_callB (calld_all rfl) B.all (by decide +kernel) (ja_cons ((jl_lc (own := [("_law_a", 3)]) rfl sc__law_group_fault.nd (ji_sq (je_v 1)) (blkOk_by (by rfl)) (fun _ _ _ _ _ => jg_n 3 sc__law_group_fault.nd) (fun _ _ _ _ _ => jts_nil) (fun _ _ _ _ _ => je_and (je_cmp (opd_eq hr.units) (je_ix (je_ix (je_v 0) (je_v 6)) (je_v 3)) (je_v 3) (nomark _)) (je_one (je_cmp (opd_eq hr.units) (je_ix (je_ix (je_v 0) (je_v 3)) (je_v 6)) (je_v 3) (nomark _))))).je) (ja_nil))))) (fun _ _ _ _ _ => je_v 6)).je).jx) sc__law_group_fault.nd rfl (by first | exact Or.inl rfl | exact Or.inr rfl)) (js_cons (js_if (jt_cmp (opd_eq hr.units) (je_v 2) ((jl_lst (ja_nil)).je) (nomark _)) (js_one (js_ret (je_tup (ja_cons (je_str) (ja_nil))))) (js_nil)) (js_cons (js_for (vs := [3]) rfl (ji_sq (je_v 1)) (jg_n 3 sc__law_group_fault.nd) (js_one (js_if (jt_not (jt_val (je_callB (calld_any rfl) B.any (by decide +kernel) (ja_cons ((jl_lc (own := [("_law_b", 4)]) rfl sc__law_group_fault.nd (ji_sq (je_v 1)) (blkOk_by (by rfl)) (fun _ _ _ _ _ => jg_n 4 sc__law_group_fault.nd) (fun _ _ _ _ _ => jts_nil) (fun _ _ _ _ _ => je_and (je_cmp (opd_eq hr.units) (je_ix (je_ix (je_v 0) (je_v 3)) (je_v 4)) (je_ix (je_v 2) (je_int)) (nomark _)) (je_one (je_cmp (opd_eq hr.units) (je_ix (je_ix (je_v 0) (je_v 4)) (je_v 3)) (je_ix (je_v 2) (je_int)) (nomark _))))).je) (ja_nil))))) (js_one (js_ret (je_tup (ja_cons (je_str) (ja_cons (je_v 3) (ja_nil)))))) (js_nil)))) (js_cons (js_for (vs := [3]) rfl (ji_sq (je_v 1)) (jg_n 3 sc__law_group_fault.nd) (js_one (js_for (vs := [4]) rfl (ji_sq (je_v 1)) (jg_n 4 sc__law_group_fault.nd) (js_one (js_for (vs := [5]) rfl (ji_sq (je_v 1)) (jg_n 5 sc__law_group_fault.nd) (js_one (js_if (jt_cmp (opd_ne hr.units) (je_ix (je_ix (je_v 0) (je_ix (je_ix (je_v 0) (je_v 3)) (je_v 4))) (je_v 5)) (je_ix (je_ix (je_v 0) (je_v 3)) (je_ix (je_ix (je_v 0) (je_v 4)) (je_v 5))) (nomark _)) (js_one (js_ret (je_tup (ja_cons (je_str) (ja_cons (je_v 3) (ja_cons (je_v 4) (ja_cons (je_v 5) (ja_nil)))))))) (js_nil)))))))) (js_one (js_ret (je_tup (ja_cons (je_str) (ja_nil)))))))))
theorem sc__law_with_entry : FnScope N__law_with_entry P__law_with_entry (defScope st__law_with_entry) := ⟨rfl, rfl, rfl, by decide +kernel, rfl, by decide +kernel, by decide +kernel⟩
theorem bs__law_with_entry : BindsAs "_law_with_entry" st__law_with_entry P__law_with_entry := fun _ _ _ _ _ _ us hl => match us, hl with | [_, _, _, _], _ => rfl
theorem j__law_with_entry : BodyCx P w K mg base "_law_with_entry" st__law_with_entry N__law_with_entry 0 fun X => JSs X (defBody st__law_with_entry) g__law_with_entry := fun f cdv A outer s H E hr => js_cons (js_set (i := 4) ((je_bin opd_add (je_bin opd_add (je_sl (je_ix (je_v 0) (je_v 1)) (jo_none) (jo_some (je_v 2))) (je_tup (ja_cons (je_v 3) (ja_nil)))) (je_sl (je_ix (je_v 0) (je_v 1)) (jo_some (je_bin opd_add (je_v 2) (je_int))) (jo_none))).jx) sc__law_with_entry.nd rfl (by first | exact Or.inl rfl | exact Or.inr rfl)) (js_one (js_ret (je_bin opd_add (je_bin opd_add (je_sl (je_v 0) (jo_none) (jo_some (je_v 1))) (je_tup (ja_cons (je_v 4) (ja_nil)))) (je_sl (je_v 0) (jo_some (je_bin opd_add (je_v 1) (je_int))) (jo_none)))))
theorem sc__law_near_group : FnScope N__law_near_group P__law_near_group (defScope st__law_near_group) := ⟨rfl, rfl, rfl, by decide +kernel, rfl, by decide +kernel, by decide +kernel⟩
theorem bs__law_near_group : BindsAs "_law_near_group" st__law_near_group P__law_near_group := fun _ _ _ _ _ _ us hl => match us, hl with | [_, _], _ => rfl
theorem j__law_near_group (B : Bl mg) (O__law_roll : Ok P w K mg base "_law_roll" P__law_roll 1 (spM K 2 S__law_roll)) (O__law_drawn_move : Ok P w K mg base "_law_drawn_move" P__law_drawn_move 3 (spM K 2 S__law_drawn_move)) (O__law_with_entry : Ok P w K mg base "_law_with_entry" P__law_with_entry 1 (spD K 4 S__law_with_entry)) : BodyCx P w K mg base "_law_near_group" st__law_near_group N__law_near_group 3 fun X => JSs X (defBody st__law_near_group) g__law_near_group := fun f cdv A outer s H E hr => js_cons (js_parT (i := 2) (j := 3) rfl sc__law_near_group.nd rfl rfl (by decide) (by first | exact Or.inl rfl | exact Or.inr rfl) (by first | exact Or.inl rfl | exact Or.inr rfl) ((je_callB calld_len B.len (by decide +kernel) (ja_cons (je_v 1) (ja_nil))).jx) ((je_v 1).jx)) (js_cons (js_set (i := 4) ((je_fnM O__law_roll (hr.mono (by decide)) (i := 0) rfl (by first | exact Or.inl rfl | exact Or.inr (Or.inl rfl) | exact Or.inr (Or.inr rfl)) (ja_cons (je_int) (ja_nil))).jx) sc__law_near_group.nd rfl (by first | exact Or.inl rfl | exact Or.inr rfl)) (js_cons (js_if (jt_cmp (opd_eq hr.units) (je_v 4) (je_int) (nomark _)) (js_one (js_ret (je_callTy calld_tuple B.tuple (by decide +kernel) (ja_cons ((jl_lc (own := [("_law_a", 7)]) rfl sc__law_near_group.nd (ji_sq (je_v 1)) (blkOk_by (by rfl)) (fun _ _ _ _ _ => jg_n 7 sc__law_near_group.nd) (fun _ _ _ _ _ => jts_nil) (fun _ _ _ _ _ => je_callTy calld_tuple B.tuple (by decide +kernel) (ja_cons ((jl_lc (own := [("_law_b", 8)]) rfl sc__law_near_group.nd (ji_sq (je_v 1)) (blkOk_by (by rfl)) (fun _ _ _ _ _ => jg_n 8 sc__law_near_group.nd) (fun _ _ _ _ _ => jts_nil) (fun _ _ _ _ _ => je_fnM O__law_roll (hr.mono (by decide)) (i := 0) rfl (by first | exact Or.inl rfl | exact Or.inr (Or.inl rfl) | exact Or.inr (Or.inr rfl)) (ja_cons (je_v 2) (ja_nil)))).je) (ja_nil)))).je) (ja_nil))))) (js_nil)) (js_cons (js_if (jt_cmp (opd_eq hr.units) (je_v 4) (je_int) (nomark _)) (js_cons (js_set (i := 5) ((je_fnM O__law_drawn_move (hr.mono (by decide)) (i := 0) rfl (by first | exact Or.inl rfl | exact Or.inr (Or.inl rfl) | exact Or.inr (Or.inr rfl)) (ja_cons (je_v 2) (ja_nil))).jx) sc__law_near_group.nd rfl (by first | exact Or.inl rfl | exact Or.inr rfl)) (js_one (js_ret (je_callTy calld_tuple B.tuple (by decide +kernel) (ja_cons ((jl_lc (own := [("_law_a", 7)]) rfl sc__law_near_group.nd (ji_sq (je_v 5)) (blkOk_by (by rfl)) (fun _ _ _ _ _ => jg_n 7 sc__law_near_group.nd) (fun _ _ _ _ _ => jts_nil) (fun _ _ _ _ _ => je_ix (je_v 1) (je_v 7))).je) (ja_nil)))))) (js_nil)) (js_cons (js_for (vs := [6]) rfl (ji_r1 B.range (je_bin opd_sub (je_v 4) (je_int))) (jg_n 6 sc__law_near_group.nd) (js_one (js_set (i := 3) ((je_fn O__law_with_entry (hr.mono (by decide)) (ja_cons (je_v 3) (ja_cons (je_fnM O__law_roll (hr.mono (by decide)) (i := 0) rfl (by first | exact Or.inl rfl | exact Or.inr (Or.inl rfl) | exact Or.inr (Or.inr rfl)) (ja_cons (je_v 2) (ja_nil))) (ja_cons (je_fnM O__law_roll (hr.mono (by decide)) (i := 0) rfl (by first | exact Or.inl rfl | exact Or.inr (Or.inl rfl) | exact Or.inr (Or.inr rfl)) (ja_cons (je_v 2) (ja_nil))) (ja_cons (je_fnM O__law_roll (hr.mono (by decide)) (i := 0) rfl (by first | exact Or.inl rfl | exact Or.inr (Or.inl rfl) | exact Or.inr (Or.inr rfl)) (ja_cons (je_v 2) (ja_nil))) (ja_nil)))))).jx) sc__law_near_group.nd rfl (by first | exact Or.inl rfl | exact Or.inr rfl)))) (js_one (js_ret (je_v 3)))))))
theorem sc_group_paper : FnScope N_group_paper P_group_paper (defScope st_group_paper) := ⟨rfl, rfl, rfl, by decide +kernel, rfl, by decide +kernel, by decide +kernel⟩
theorem bs_group_paper : BindsAs "group_paper" st_group_paper P_group_paper := fun _ _ _ _ _ _ us hl => match us, hl with | [_], _ => rfl
theorem j_group_paper (B : Bl mg) (O__check_rows : Ok P w K mg base "_check_rows" P__check_rows 3 (spD K 1 S__check_rows)) (O_unit_of : Ok P w K mg base "unit_of" P_unit_of 1 (spD K 1 S_unit_of)) (O_back_of : Ok P w K mg base "back_of" P_back_of 1 (spD K 3 S_back_of)) (O_broken_three : Ok P w K mg base "broken_three" P_broken_three 1 (spD K 1 S_broken_three)) : BodyCx P w K mg base "group_paper" st_group_paper N_group_paper 3 fun X => JSs X (defBody st_group_paper) g_group_paper := fun f cdv A outer s H E hr => js_cons (js_expr (je_fn O__check_rows (hr.mono (by decide)) (ja_cons (je_v 0) (ja_nil)))) (js_cons (js_set (i := 1) ((je_fn O_unit_of (hr.mono (by decide)) (ja_cons (je_v 0) (ja_nil))).jx) sc_group_paper.nd rfl (by first | exact Or.inl rfl | exact Or.inr rfl)) (js_cons (js_if (jt_cmp opd_is (je_v 1) (je_non) (nomark _)) (js_one (js_ret (je_tup (ja_cons (je_str) (ja_nil))))) (js_nil)) (js_cons (js_for (vs := [2]) rfl (ji_r1 B.range (je_callB calld_len B.len (by decide +kernel) (ja_cons (je_v 0) (ja_nil)))) (jg_n 2 sc_group_paper.nd) (js_one (js_if (jt_cmp opd_is (je_fn O_back_of (hr.mono (by decide)) (ja_cons (je_v 0) (ja_cons (je_v 1) (ja_cons (je_v 2) (ja_nil))))) (je_non) (nomark _)) (js_one (js_ret (je_tup (ja_cons (je_str) (ja_cons (je_v 2) (ja_nil)))))) (js_nil)))) (js_cons (js_set (i := 3) ((je_fn O_broken_three (hr.mono (by decide)) (ja_cons (je_v 0) (ja_nil))).jx) sc_group_paper.nd rfl (by first | exact Or.inl rfl | exact Or.inr rfl)) (js_cons (js_if (jt_cmp opd_isnot (je_v 3) (je_non) (nomark _)) (js_one (js_ret (je_bin opd_add (je_tup (ja_cons (je_str) (ja_nil))) (je_v 3)))) (js_nil)) (js_one (js_ret (je_tup (ja_cons (je_str) (ja_nil))))))))))
theorem sc_is_group_paper : FnScope N_is_group_paper P_is_group_paper (defScope st_is_group_paper) := ⟨rfl, rfl, rfl, by decide +kernel, rfl, by decide +kernel, by decide +kernel⟩
theorem bs_is_group_paper : BindsAs "is_group_paper" st_is_group_paper P_is_group_paper := fun _ _ _ _ _ _ us hl => match us, hl with | [_, _], _ => rfl
theorem j_is_group_paper (B : Bl mg) (O__check_rows : Ok P w K mg base "_check_rows" P__check_rows 3 (spD K 1 S__check_rows)) (O_is_told : Ok P w K mg base "is_told" P_is_told 4 (spD K 4 S_is_told)) (O_unit_of : Ok P w K mg base "unit_of" P_unit_of 1 (spD K 1 S_unit_of)) (O_back_of : Ok P w K mg base "back_of" P_back_of 1 (spD K 3 S_back_of)) (O_is_same : Ok P w K mg base "is_same" P_is_same 3 (spD K 2 S_is_same)) (O_group_paper : Ok P w K mg base "group_paper" P_group_paper 4 (spD K 1 S_group_paper)) : BodyCx P w K mg base "is_group_paper" st_is_group_paper N_is_group_paper 4 fun X => JSs X (defBody st_is_group_paper) g_is_group_paper := fun f cdv A outer s H E hr => js_cons (js_expr (je_fn O__check_rows (hr.mono (by decide)) (ja_cons (je_v 0) (ja_nil)))) (js_cons (js_if (jt_val (je_fn O_is_told (hr.mono (by decide)) (ja_cons (je_v 1) (ja_cons (je_str) (ja_cons (je_int) (ja_cons (je_callB calld_len B.len (by decide +kernel) (ja_cons (je_v 0) (ja_nil))) (ja_nil))))))) (js_cons (js_asg (vs := [2, 3, 4, 5]) (je_v 1) (jg_tup rfl (jgs_cons (jg_n 2 sc_is_group_paper.nd) (jgs_cons (jg_n 3 sc_is_group_paper.nd) (jgs_cons (jg_n 4 sc_is_group_paper.nd) (jgs_cons (jg_n 5 sc_is_group_paper.nd) (jgs_nil))))))) (js_one (js_ret (je_cmp (opd_ne hr.units) (je_ix (je_ix (je_v 0) (je_ix (je_ix (je_v 0) (je_v 3)) (je_v 4))) (je_v 5)) (je_ix (je_ix (je_v 0) (je_v 3)) (je_ix (je_ix (je_v 0) (je_v 4)) (je_v 5))) (nomark _))))) (js_nil)) (js_cons (js_set (i := 6) ((je_fn O_unit_of (hr.mono (by decide)) (ja_cons (je_v 0) (ja_nil))).jx) sc_is_group_paper.nd rfl (by first | exact Or.inl rfl | exact Or.inr rfl)) (js_cons (js_if (jt_val (je_fn O_is_told (hr.mono (by decide)) (ja_cons (je_v 1) (ja_cons (je_str) (ja_cons (je_int) (ja_cons (je_callB calld_len B.len (by decide +kernel) (ja_cons (je_v 0) (ja_nil))) (ja_nil))))))) (js_one (js_ret (je_and (je_cmp opd_isnot (je_v 6) (je_non) (nomark _)) (je_one (je_cmp opd_is (je_fn O_back_of (hr.mono (by decide)) (ja_cons (je_v 0) (ja_cons (je_v 6) (ja_cons (je_ix (je_v 1) (je_int)) (ja_nil))))) (je_non) (nomark _)))))) (js_nil)) (js_cons (js_if (jt_val (je_fn O_is_same (hr.mono (by decide)) (ja_cons (je_v 1) (ja_cons (je_tup (ja_cons (je_str) (ja_nil))) (ja_nil))))) (js_one (js_ret (je_cmp opd_is (je_v 6) (je_non) (nomark _)))) (js_nil)) (js_one (js_ret (je_and (je_fn O_is_same (hr.mono (by decide)) (ja_cons (je_v 1) (ja_cons (je_tup (ja_cons (je_str) (ja_nil))) (ja_nil)))) (je_one (je_cmp (opd_eq hr.units) (je_fn O_group_paper (hr.mono (by decide)) (ja_cons (je_v 0) (ja_nil))) (je_tup (ja_cons (je_str) (ja_nil))) (nomark _))))))))))
theorem sc__law_judged_right : FnScope N__law_judged_right P__law_judged_right (defScope st__law_judged_right) := ⟨rfl, rfl, rfl, by decide +kernel, rfl, by decide +kernel, by decide +kernel⟩
theorem bs__law_judged_right : BindsAs "_law_judged_right" st__law_judged_right P__law_judged_right := fun _ _ _ _ _ _ us hl => match us, hl with | [_], _ => rfl
theorem j__law_judged_right (B : Bl mg) (O__law_group_fault : Ok P w K mg base "_law_group_fault" P__law_group_fault 1 (spD K 1 S__law_group_fault)) (O_group_paper : Ok P w K mg base "group_paper" P_group_paper 4 (spD K 1 S_group_paper)) (O_is_group_paper : Ok P w K mg base "is_group_paper" P_is_group_paper 5 (spD K 2 S_is_group_paper)) (O__law_made : Ok P w K mg base "_law_made" P__law_made 9 (spD K 1 S__law_made)) (O__law_unit : Ok P w K mg base "_law_unit" P__law_unit 1 (spD K 1 S__law_unit)) : BodyCxG P w K mg base "_law_judged_right" st__law_judged_right N__law_judged_right 9 fun X => JSs X (defBody st__law_judged_right) g__law_judged_right := fun f cdv A outer s H E hg hr => js_cons (js_set (i := 1) ((je_fn O__law_group_fault (hr.mono (by decide)) (ja_cons (je_v 0) (ja_nil))).jx) sc__law_judged_right.nd rfl (by first | exact Or.inl rfl | exact Or.inr rfl)) (js_cons (js_if ((jw_or (jt_cmp (opd_ne hr.units) (je_callB (calld_reprN hg hr.units) B.repr (by decide +kernel) (ja_cons (je_fn O_group_paper (hr.mono (by decide)) (ja_cons (je_v 0) (ja_nil))) (ja_nil))) (je_callB (calld_reprN hg hr.units) B.repr (by decide +kernel) (ja_cons (je_v 1) (ja_nil))) (nomark _)) (jw_or1 (jt_cmp opd_isnot (je_fn O_is_group_paper (hr.mono (by decide)) (ja_cons (je_v 0) (ja_cons (je_v 1) (ja_nil)))) (je_bl) (nomark _)))).jt) (js_one (js_ret (je_bl))) (js_nil)) (js_cons (js_if (jt_cmp (opd_ne hr.units) (je_v 1) (je_tup (ja_cons (je_str) (ja_nil))) (nomark _)) (js_one (js_ret (je_and (je_cmp (opd_eq hr.units) (je_fn O__law_made (hr.mono (by decide)) (ja_cons (je_v 0) (ja_nil))) ((jl_lst (ja_cons (je_str) (ja_cons (je_v 1) (ja_nil)))).je) (nomark _)) (je_one (je_cmp opd_is (je_fn O_is_group_paper (hr.mono (by decide)) (ja_cons (je_v 0) (ja_cons (je_tup (ja_cons (je_str) (ja_nil))) (ja_nil)))) (je_bl) (nomark _)))))) (js_nil)) (js_one (js_ret (je_cmp (opd_eq hr.units) (je_fn O__law_made (hr.mono (by decide)) (ja_cons (je_v 0) (ja_nil))) ((jl_lst (ja_cons (je_v 0) (ja_cons (je_fn O__law_unit (hr.mono (by decide)) (ja_cons (je_v 0) (ja_nil))) (ja_cons (je_callB calld_len B.len (by decide +kernel) (ja_cons (je_v 0) (ja_nil))) (ja_nil))))).je) (nomark _))))))
theorem sc_law : FnScope N_law P_law (defScope st_law) := ⟨rfl, rfl, rfl, by decide +kernel, rfl, by decide +kernel, by decide +kernel⟩
theorem bs_law : BindsAs "law" st_law P_law := fun _ _ _ _ _ _ us hl => match us, hl with | [_], _ => rfl
theorem j_law (B : Bl mg) (O__law_dice : Ok P w K mg base "_law_dice" P__law_dice 1 (spL K 2 S__law_dice)) (O__law_group_rows : Ok P w K mg base "_law_group_rows" P__law_group_rows 4 (spM K 2 S__law_group_rows)) (O__law_judged_right : OkG P w K mg base "_law_judged_right" P__law_judged_right 10 (spD K 1 S__law_judged_right)) (O__law_near_group : Ok P w K mg base "_law_near_group" P__law_near_group 4 (spM K 2 S__law_near_group)) (O_group_paper : Ok P w K mg base "group_paper" P_group_paper 4 (spD K 1 S_group_paper)) : BodyCxG P w K mg base "law" st_law N_law 10 fun X => JSs X (defBody st_law) g_law := fun f cdv A outer s H E hg hr => js_cons (js_for (vs := [1]) rfl (ji_r1 B.range (je_callB (calld_max2 rfl) B.max (by decide +kernel) (ja_cons (je_int) (ja_cons (je_callB (calld_min2 rfl) B.min (by decide +kernel) (ja_cons (je_int) (ja_cons (je_callB calld_len B.len (by decide +kernel) (ja_cons (je_v 0) (ja_nil))) (ja_nil)))) (ja_nil))))) (jg_n 1 sc_law.nd) (js_cons (js_set (i := 2) ((jl_fn O__law_dice (hr.mono (by decide)) (ja_cons (je_v 0) (ja_cons (je_v 1) (ja_nil)))).jx) sc_law.nd rfl (by first | exact Or.inl rfl | exact Or.inr rfl)) (js_cons (js_set (i := 3) ((je_fnM O__law_group_rows (hr.mono (by decide)) (i := 2) rfl (by first | exact Or.inl rfl | exact Or.inr (Or.inl rfl) | exact Or.inr (Or.inr rfl)) (ja_cons (je_int) (ja_nil))).jx) sc_law.nd rfl (by first | exact Or.inl rfl | exact Or.inr rfl)) (js_cons (js_if (jt_not (jt_val (je_fnG O__law_judged_right hg (hr.mono (by decide)) (ja_cons (je_v 3) (ja_nil))))) (js_one (js_ret (je_bl))) (js_nil)) (js_one (js_for (vs := [4]) rfl (ji_r1 B.range (je_int)) (jg_n 4 sc_law.nd) (js_one (js_if (jt_not (jt_val (je_fnG O__law_judged_right hg (hr.mono (by decide)) (ja_cons (je_fnM O__law_near_group (hr.mono (by decide)) (i := 2) rfl (by first | exact Or.inl rfl | exact Or.inr (Or.inl rfl) | exact Or.inr (Or.inr rfl)) (ja_cons (je_v 3) (ja_nil))) (ja_nil))))) (js_one (js_ret (je_bl))) (js_nil))))))))) (js_cons (js_set (i := 5) ((je_tup (ja_cons (je_tup (ja_cons (je_int) (ja_cons (je_int) (ja_cons (je_int) (ja_nil))))) (ja_cons (je_tup (ja_cons (je_int) (ja_cons (je_int) (ja_cons (je_int) (ja_nil))))) (ja_cons (je_tup (ja_cons (je_int) (ja_cons (je_int) (ja_cons (je_int) (ja_nil))))) (ja_nil))))).jx) sc_law.nd rfl (by first | exact Or.inl rfl | exact Or.inr rfl)) (js_one (js_ret (je_and (je_cmp (opd_eq hr.units) (je_fn O_group_paper (hr.mono (by decide)) (ja_cons (je_v 5) (ja_nil))) (je_tup (ja_cons (je_str) (ja_cons (je_int) (ja_cons (je_int) (ja_cons (je_int) (ja_nil)))))) (nomark _)) (je_one (je_cmp (opd_eq hr.units) (je_fn O_group_paper (hr.mono (by decide)) (ja_cons (je_tup (ja_cons (je_tup (ja_cons (je_int) (ja_nil))) (ja_nil))) (ja_nil))) (je_tup (ja_cons (je_str) (ja_nil))) (nomark _)))))))
end
end Dn
set_option Elab.async false
set_option linter.all false
set_option maxRecDepth 100000
set_option autoImplicit false
set_option maxHeartbeats 4000000
namespace Dn
open PySem L2 Evl PySem.Spec PyProof.Rows
abbrev st_ginit : Stmt := cm (top 28) 0
abbrev grpD : D := .tuple [.str "group"]
/-- what Group's __init__ promises: the object at x, its dict at dx; T: what is hidden, x among it -/
def spGI (K : PySem.W.Frag) (Cr : Addr) (G : D → Prop) (fault un : D → D) : Sp := fun vs H Q E => ∃ (x dx C : Addr) (v : V) (T : Addr → Prop) (d : D), vs = [.ref x, v] ∧ H x = some (.ins C dx []) ∧
  L2.Cls K C ∧ (∀ f ∈ (["_rows", "_unit", "_backs", "_centre"] : List Str), NoAttr K C f) ∧ (∀ a, T a → H a ≠ none) ∧ T x ∧ Rp K (hide T H) v d ∧ G d ∧
  (fault d = grpD → ∀ H' vr vu fs, (∀ a o, a ≠ x → H a = some o → H' a = some o) → H' x = some (.ins C dx fs) → List.lookup ("_rows" : Str) fs = some vr → List.lookup ("_unit" : Str) fs = some vu → Rp K (hide T H') vr d → Rp K (hide T H') vu (un d) → Q .non H') ∧
  (fault d ≠ grpD → ∀ H' dd pv, Ex H H' → H dd = none → H' dd = some (.xd [("reason", pv)]) → Rp K (hide T H') pv (fault d) → E (.ref Cr) (some dd) H')
theorem sc_ginit : FnScope ["self", "rows", "paper", "unit"] ["self", "rows"] (defScope st_ginit) := ⟨rfl, rfl, rfl, by decide +kernel, rfl, by decide +kernel, by decide +kernel⟩
theorem hide_chg {T : Addr → Prop} {H : Hp} {x : Addr} {o : HO} (t : T x) : Ex (hide T H) (hide T (upd H x o)) := fun a u z => by
  obtain ⟨n, z⟩ := hide_some.1 z
  refine hide_some.2 ⟨n, ?_⟩
  have w : a ≠ x := fun w => by rw [w] at n; exact n t
  rw [upd_ne w]
  exact z
section
variable {P : Program} {w : World} {K : PySem.W.Frag} {mg : Str → Option Value} {base : Heap} {k : Nat} {fI fd : Addr} {Cr fR : Addr} {G : D → Prop} {fault un : D → D} {S_gp S_un S_bk S_ce : List D → (D → Prop) → Prop} {pg pu pb pc : List Str} {fdd : FuncData}
theorem fn_ginit (F : FunD K "__init__" "Group.__init__" (defArgs st_ginit) (defBody st_ginit) (defScope st_ginit) [] [] fI fdd)
    (T : PySem.XiX.XiTxt P K mg "Refused" "reason" "a rule is broken, as the kept reason tells" "ArithmeticError" "ArithmeticError.__new__" "ArithmeticError.__init__" [.type "ArithmeticError", .type "Exception", .type "BaseException", .type "object"] Cr fR)
    (FB : PySem.XiX.XiBase "ArithmeticError" "ArithmeticError.__new__" "ArithmeticError.__init__" [.type "ArithmeticError", .type "Exception", .type "BaseException", .type "object"]) (S : PySem.XiX.XiSc "reason" "a rule is broken, as the kept reason tells")
    (hk : 1 ≤ k) (hex : PySem.W.subIn K (.ref Cr) (.type "BaseException") = some true)
    (O_gp : Ok P w K mg base "group_paper" pg k (spD K 1 S_gp)) (O_un : Ok P w K mg base "unit_of" pu k (spD K 1 S_un)) (O_bk : Ok P w K mg base "backs_of" pb k (spD K 2 S_bk)) (O_ce : Ok P w K mg base "centre_of" pc k (spD K 1 S_ce))
    (hsh : ∀ d, G d → SeqAt.shaped (fault d) = true) (hne : ∀ d, G d → fault d ≠ grpD → PyData.eqv (fault d) grpD = false) (h1 : ∀ d Q, G d → Q (fault d) → S_gp [d] Q) (h2 : ∀ d Q, G d → Q (un d) → S_un [d] Q) (h3 : ∀ d (Q : D → Prop), G d → fault d = grpD → (∀ z, Q z) → S_bk [d, un d] Q) (h4 : ∀ d (Q : D → Prop), G d → (∀ z, Q z) → S_ce [d] Q) :
    FnOk P w K mg base (L2.CX P w) (k + 1) fI fdd ["self", "rows"] (spGI K Cr G fault un) := by
  refine F.ok sc_ginit (fun vs H Q E h => ?_) (fun cdv A outer s H vs Q E hr h => ?_)
  · obtain ⟨x, dx, C, v, T, d, rfl, _⟩ := h; rfl
  have tk := takes_of (X := cxOf (L2.CX P w) P w K mg base ["self", "rows", "paper", "unit"] "Group.__init__" (defScope st_ginit) fI cdv A outer s H E) (E := E) rfl rfl rfl rfl
  refine ⟨_, pss_cons (ps_set (i := 2) sc_ginit.nd rfl (Or.inl rfl) (JE.p (je_fn O_gp (hr.mono (Nat.le_refl _)) (ja_cons (je_v 1) ja_nil))))
    (pss_cons (ps_if (JT.p (jt_cmp (opd_ne hr.units) (je_v 2) (je_tup (ja_cons je_str ja_nil)) (nomark _))) (pss_one (ps_raise rfl tk (pmk_xi (k := 0) FB S T hex (hr.mono hk) (JA.p (ja_cons (je_v 2) ja_nil)) rfl))) pss_nil)
    (pss_cons (ps_set (i := 3) sc_ginit.nd rfl (Or.inl rfl) (JE.p (je_fn O_un (hr.mono (Nat.le_refl _)) (ja_cons (je_v 1) ja_nil))))
    (pss_cons (ps_fld (pv 0) (JE.p (je_v 1)) rfl)
    (pss_cons (ps_fld (pv 0) (JE.p (je_v 3)) rfl)
    (pss_cons (ps_fld (pv 0) (JE.p (je_fn O_bk (hr.mono (Nat.le_refl _)) (ja_cons (je_v 1) (ja_cons (je_v 3) ja_nil)))) rfl)
    (pss_one (ps_fld (pv 0) (JE.p (je_fn O_ce (hr.mono (Nat.le_refl _)) (ja_cons (je_v 1) ja_nil))) rfl))))))), ?_⟩
  obtain ⟨x, dx, C, v, T0, d, rfl, hx, hC, hna, hT, hTx, hv, hG, hok, hbad⟩ := h
  have i0 : Im ([none, some (.im d), none, none] : Env) := by
    intro i m z
    rcases i with _ | _ | _ | _ | i <;> simp at z
  have r0 : RS K T0 ([none, some (.im d), none, none] : Env) [some (.ref x), some v, none, none] H := by
    refine ⟨rfl, fun i d' z => ?_, fun i m z => absurd z (i0 i m), fun i j m m' a z _ _ _ => absurd z (i0 i m), fun a _ => i0.no a, hT, fun i p m a z _ => absurd z (i0 i _)⟩
    rcases i with _ | _ | _ | _ | i <;> simp at z
    subst z
    exact ⟨v, rfl, hv.mono i0.hd'⟩
  refine JE.k (je_fn O_gp (hr.mono (Nat.le_refl _)) (ja_cons (je_v 1) ja_nil)) T0 ([none, some (.im d), none, none] : Env) _ _ (fun z ρ' => z = fault d ∧ ρ' = [none, some (.im d), none, none]) _ r0 ?_ fun z ρ1 v1 H1 r1 p1 q1 hz => ?_
  · exact ⟨rfl, h1 d _ hG ⟨rfl, rfl⟩⟩
  obtain ⟨rfl, rfl⟩ := hz
  have e1 : Ex H H1 := i0.po p1
  have r1' : RS K T0 ([none, some (.im d), some (.im (fault d)), none] : Env) [some (.ref x), some v, some v1, none] H1 := r1.setIm (i := 2) q1
  have i1 : Im ([none, some (.im d), some (.im (fault d)), none] : Env) := i0.set 2 (fault d)
  refine JT.k (jt_cmp (opd_ne hr.units) (je_v 2) (je_tup (ja_cons je_str ja_nil)) (nomark _)) T0 ([none, some (.im d), some (.im (fault d)), none] : Env) _ _ (fun b ρ' => b = !(PyData.eqv (fault d) grpD) ∧ ρ' = [none, some (.im d), some (.im (fault d)), none]) _ r1' ?_ fun b ρ2 H2 r2 p2 hb => ?_
  · exact ⟨by decide, hsh d hG, by decide +kernel, rfl, rfl⟩
  obtain ⟨rfl, rfl⟩ := hb
  have e2 : Ex H1 H2 := i1.po p2
  by_cases hf : fault d = grpD
  · rw [show (!(PyData.eqv (fault d) grpD)) = false by rw [hf]; decide]
    have i2 := i1
    refine JE.k (je_fn O_un (hr.mono (Nat.le_refl _)) (ja_cons (je_v 1) ja_nil)) T0 ([none, some (.im d), some (.im (fault d)), none] : Env) _ _ (fun z ρ' => z = un d ∧ ρ' = [none, some (.im d), some (.im (fault d)), none]) _ r2 ⟨rfl, h2 d _ hG ⟨rfl, rfl⟩⟩ fun z ρ3 v3 H3 r3 p3 q3 hz => ?_
    obtain ⟨rfl, rfl⟩ := hz
    have e3 : Ex H2 H3 := i1.po p3
    have r3' : RS K T0 ([none, some (.im d), some (.im (fault d)), some (.im (un d))] : Env) [some (.ref x), some v, some v1, some v3] H3 := r3.setIm (i := 3) q3
    have i3 : Im ([none, some (.im d), some (.im (fault d)), some (.im (un d))] : Env) := i1.set 3 (un d)
    refine JE.k (je_v 1) T0 ([none, some (.im d), some (.im (fault d)), some (.im (un d))] : Env) _ _ (fun z ρ' => d = z ∧ ρ' = [none, some (.im d), some (.im (fault d)), some (.im (un d))]) _ r3' ⟨rfl, rfl⟩ fun z ρ4 v4 H4 r4 p4 q4 hz => ?_
    obtain ⟨rfl, rfl⟩ := hz
    have e4 : Ex H3 H4 := i3.po p4
    have hx4 : H4 x = some (.ins C dx []) := e4 _ _ (e3 _ _ (e2 _ _ (e1 _ _ hx)))
    refine ⟨_, rfl, x, C, dx, _, rfl, hx4, hC, hna _ (by simp), by decide, ?_⟩
    have r5 := r4.chg (o := .ins C dx (putF "_rows" v4 [])) i3 hTx
    refine JE.k (je_v 3) T0 ([none, some (.im d), some (.im (fault d)), some (.im (un d))] : Env) _ _ (fun z ρ' => z = un d ∧ ρ' = [none, some (.im d), some (.im (fault d)), some (.im (un d))]) _ r5 ⟨rfl, rfl⟩ fun z ρ5 v5 H5 r5' p5 q5 hz => ?_
    obtain ⟨rfl, rfl⟩ := hz
    have e5 := i3.po p5
    refine ⟨_, rfl, x, C, dx, _, rfl, e5 _ _ upd_same, hC, hna _ (by simp), (show 1 < 1000 by decide), ?_⟩
    have r6 := r5'.chg (o := .ins C dx (putF "_unit" v5 (putF "_rows" v4 []))) i3 hTx
    refine JE.k (je_fn O_bk (hr.mono (Nat.le_refl _)) (ja_cons (je_v 1) (ja_cons (je_v 3) ja_nil))) T0 ([none, some (.im d), some (.im (fault d)), some (.im (un d))] : Env) _ _ (fun z ρ' => ρ' = [none, some (.im d), some (.im (fault d)), some (.im (un d))]) _ r6 ⟨rfl, h3 d _ hG hf fun _ => rfl⟩ fun z ρ6 v6 H6 r6' p6 q6 hz => ?_
    subst hz
    have e6 := i3.po p6
    refine ⟨_, rfl, x, C, dx, _, rfl, e6 _ _ upd_same, hC, hna _ (by simp), (show 2 < 1000 by decide), ?_⟩
    have r7 := r6'.chg (o := .ins C dx (putF "_backs" v6 (putF "_unit" v5 (putF "_rows" v4 [])))) i3 hTx
    refine JE.k (je_fn O_ce (hr.mono (Nat.le_refl _)) (ja_cons (je_v 1) ja_nil)) T0 ([none, some (.im d), some (.im (fault d)), some (.im (un d))] : Env) _ _ (fun z ρ' => ρ' = [none, some (.im d), some (.im (fault d)), some (.im (un d))]) _ r7 ⟨rfl, h4 d _ hG fun _ => rfl⟩ fun z ρ7 v7 H7 r7' p7 q7 hz => ?_
    subst hz
    have e7 := i3.po p7
    refine ⟨_, rfl, x, C, dx, _, rfl, e7 _ _ upd_same, hC, hna _ (by simp), (show 3 < 1000 by decide), ?_⟩
    have g5 := (hide_chg (T := T0) (H := H4) (x := x) (o := .ins C dx (putF "_rows" v4 [])) hTx)
    have g6 := (hide_chg (T := T0) (H := H5) (x := x) (o := .ins C dx (putF "_unit" v5 (putF "_rows" v4 []))) hTx)
    have g7 := (hide_chg (T := T0) (H := H6) (x := x) (o := .ins C dx (putF "_backs" v6 (putF "_unit" v5 (putF "_rows" v4 [])))) hTx)
    have g8 := (hide_chg (T := T0) (H := H7) (x := x) (o := .ins C dx (putF "_centre" v7 (putF "_backs" v6 (putF "_unit" v5 (putF "_rows" v4 []))))) hTx)
    have y5 : Rp K (hide T0 H5) v5 (un d) := q5.mono i3.hd
    have y8 := ((((((y5.mono g6).mono (hide_grow e6)).mono g7).mono (hide_grow e7)).mono g8))
    have y4 : Rp K (hide T0 H4) v4 d := q4.mono i3.hd
    have y48 := (((((((y4.mono g5).mono (hide_grow e5)).mono g6).mono (hide_grow e6)).mono g7).mono (hide_grow e7)).mono g8)
    refine hok hf _ v4 v5 _ (fun a o na z => ?_) upd_same (by rfl) (by rfl) y48 y8
    have z4 := e4 _ _ (e3 _ _ (e2 _ _ (e1 _ _ z)))
    have st : ∀ {H : Hp} {o' : HO}, H a = some o → upd H x o' a = some o := fun z => by rw [upd_ne na]; exact z
    exact st (e7 _ _ (st (e6 _ _ (st (e5 _ _ (st z4))))))
  · rw [hne d hG hf]
    refine JA.k (ja_cons (je_v 2) ja_nil) T0 ([none, some (.im d), some (.im (fault d)), none] : Env) _ _ (fun ds ρ' => ds = [fault d] ∧ ρ' = [none, some (.im d), some (.im (fault d)), none]) _ r2 ⟨rfl, rfl⟩ fun ds ρ3 vs H3 r3 p3 q3 hz => ?_
    obtain ⟨rfl, rfl⟩ := hz
    cases q3 with
    | cons rv rn =>
      rename_i pv us'
      cases rn
      refine ⟨pv, rfl, fun dd hdd => ?_⟩
      have e3 : Ex H2 H3 := i1.po p3
      have e03 : Ex H H3 := fun a o z => e3 _ _ (e2 _ _ (e1 _ _ z))
      have hd0 : H dd = none := by
        cases z : H dd with
        | none => rfl
        | some o => rw [e03 _ _ z] at hdd; cases hdd
      have eu : Ex H3 (upd H3 dd (.xd [(("reason" : Str), pv)])) := fun a o z => by
        have w : a ≠ dd := fun w => by rw [w, hdd] at z; cases z
        rw [upd_ne w]; exact z
      exact hbad hf _ dd pv (fun a o z => eu _ _ (e03 _ _ z)) hd0 upd_same ((rv.mono i1.hd).mono (hide_grow eu))
end
end Dn
set_option Elab.async false
set_option linter.all false
set_option maxRecDepth 100000
set_option autoImplicit false
set_option maxHeartbeats 4000000
namespace Dn
open PySem L2 Evl PySem.Spec PyProof.Rows
abbrev st_gsize : Stmt := cm (top 28) 6
theorem sc_gsize : FnScope ["self"] ["self"] (defScope st_gsize) := ⟨rfl, rfl, rfl, by decide +kernel, rfl, by decide +kernel, by decide +kernel⟩
def spSz (K : PySem.W.Frag) (C : Addr) : Sp := fun vs H Q _ => ∃ (a dx : Addr) (fs : List (Str × V)) (p : Addr) (ys : List V), vs = [V.ref a] ∧ H a = some (.ins C dx fs) ∧ List.lookup ("_rows" : Str) fs = some (.ref p) ∧ (SqL K H p ys ∨ SqT K H p ys) ∧ L2.Cls K C ∧ NoAttr K C "_rows" ∧ Q (.int ys.length) H
section
variable {P : Program} {w : World} {K : PySem.W.Frag} {mg : Str → Option Value} {base : Heap} {k : Nat} {fS C : Addr} {fds : FuncData}
theorem fn_gsize (F : FunD K "size" "Group.size" (defArgs st_gsize) (defBody st_gsize) (defScope st_gsize) [] [] fS fds) (hl : mg "len" = none) : FnOk P w K mg base L2.CX0 (k + 1) fS fds ["self"] (spSz K C) := by
  refine F.ok sc_gsize (fun vs H Q E h => ?_) (fun cdv A outer s H vs Q E hr h => ?_)
  · obtain ⟨a, dx, fs, p, ys, rfl, _⟩ := h; rfl
  refine ⟨_, pss_one (ps_ret (pe_callB call_len_seq rfl hl (by decide +kernel) (pa_cons (pe_fld (pv 0) rfl) pa_nil))), ?_⟩
  obtain ⟨a, dx, fs, p, ys, rfl, ha, hf, hs, hC, hN, hq⟩ := h
  exact ⟨_, rfl, a, C, dx, fs, _, rfl, ha, hC, hN, hf, p, ys, rfl, hs, hq⟩
end
end Dn
set_option Elab.async false
set_option linter.all false
set_option maxRecDepth 100000
set_option autoImplicit false
set_option maxHeartbeats 4000000
namespace Dn
open PySem L2 Evl PySem.Spec PyProof.Rows
abbrev st_made : Stmt := top 52
theorem sc_made : FnScope ["_law_rows", "_law_told", "error"] ["_law_rows"] (defScope st_made) := ⟨rfl, rfl, rfl, by decide +kernel, rfl, by decide +kernel, by decide +kernel⟩
/-- a property of Group, its getter -/
structure Prp (P : Program) (w : World) (K : PySem.W.Frag) (mg : Str → Option Value) (base : Heap) (C : Addr) (x : Str) (sp : Sp) : Prop where
  ex : ∃ p g fd, PropOf K C x p g ∧ FnOk P w K mg base L2.CX0 1 g fd ["self"] sp ∧ L2.Binds K fd ["self"] []
section
variable {P : Program} {w : World} {K : PySem.W.Frag} {mg : Str → Option Value} {base : Heap} {k : Nat} {fI fM C Cr fR : Addr} {G : D → Prop} {fault un : D → D} {fdd fdm : FuncData}
def S_made (G : D → Prop) (fault un : D → D) (ds : List D) (Q : List D → Prop) : Prop := ∃ d xs, ds = [d] ∧ G d ∧ d = .tuple xs ∧ xs.length ≤ 100 ∧ (fault d = grpD → Q [d, un d, .int xs.length]) ∧ (fault d ≠ grpD → Q [.str "refused", fault d])
theorem fn_made (F : FunD K "_law_made" "_law_made" (defArgs st_made) (defBody st_made) (defScope st_made) [] [] fM fdm)
    (FI : FnOk P w K mg base (L2.CX P w) k fI fdd ["self", "rows"] (spGI K Cr G fault un)) (BI : L2.Binds K fdd ["self", "rows"] []) (M : L2.Mk K C fI) (hC : L2.Cls K C) (hN : ∀ f ∈ (["_rows", "_unit", "_backs", "_centre"] : List Str), NoAttr K C f)
    (gG : mg "Group" = some (.ref C)) (gR : mg "Refused" = some (.ref Cr)) (te : PySem.W.exmOne K (.ref Cr) (.ref Cr) = some true) (xf : XfC K Cr) (nr : PySem.W.findIn K (.ref Cr) "reason" = some none)
    (pr : Prp P w K mg base C "rows" (getSp C "_rows")) (pu : Prp P w K mg base C "unit" (getSp C "_unit")) (ps : Prp P w K mg base C "size" (spSz K C)) (hk : 1 ≤ k) :
    FnOk P w K mg base L2.CX0 (k + 1 + 1) fM fdm ["_law_rows"] (spL K 1 (S_made G fault un)) := by
  obtain ⟨p1, g1, fd1, pr1, fr1, br1⟩ := pr.ex
  obtain ⟨p2, g2, fd2, pr2, fr2, br2⟩ := pu.ex
  obtain ⟨p3, g3, fd3, pr3, fr3, br3⟩ := ps.ex
  refine F.ok sc_made (fun vs H Q E h => h.1) (fun cdv A outer s H vs Q E hr h => ?_)
  have never : ∀ {X : Cx}, Passes L2.CX0 X.nox (fun _ _ _ => False) := fun _ _ _ _ _ _ _ h => h.elim
  refine ⟨_, pss_one (ps_try_as (X := cxOf L2.CX0 P w K mg base ["_law_rows", "_law_told", "error"] "_law_made" (defScope st_made) fM cdv A outer s H E) (i := 2) (c := .ref Cr) (Wout := fun _ _ _ _ => False) rfl rfl sc_made.nd rfl rfl ⟨rfl, by decide, Or.inl gR⟩ (fun u s' h => ?_)
    (fun W pn xe tk _ => pss_cons (ps_set (i := 1) sc_made.nd rfl (Or.inl rfl) (pe_make (E := fun cls d H' => ∀ σ : L2.St, σ.length = 3 → W cls d σ H') M FI hr rfl gG BI .nil (fun pins σ H s e s' I c => tk _ _ (XE.of_call I (fun cls d H' h => h σ I.len) c)) (pa_cons (pv 0) pa_nil)))
      (pss_one (ps_ret (pe_lst (pa_cons (pe_prop (E := fun _ _ _ => False) (pv 1) hC pr1 fr1 (hr.mono (by omega)) br1 .nil never rfl) (pa_cons (pe_prop (E := fun _ _ _ => False) (pv 1) hC pr2 fr2 (hr.mono (by omega)) br2 .nil never rfl) (pa_cons (pe_prop (E := fun _ _ _ => False) (pv 1) hC pr3 fr3 (hr.mono (by omega)) br3 .nil never rfl) pa_nil)))))))
    (fun a oe cls d pn hz hf => pss_one (ps_ret (pe_lst (pa_cons pe_str (pa_cons (pe_xf xf nr hz hf (pv 2) rfl) pa_nil)))))), ?_⟩
  · obtain ⟨_, _, _, _, _, _, _, _, _, _, _, _, _, _, _, _, h⟩ := h
    exact h.elim
  obtain ⟨hl, T0, ds, QD, hT, rv, ⟨d, xs, rfl, hG, hxs, hlen, hok, hbad⟩, hq⟩ := h
  cases rv with
  | cons rv rn =>
  rename_i v vs'
  cases rn
  have fin : ∀ (T1 : Addr → Prop) (H' : Hp) (p : Addr) (us : List V) (es : List D), Ex H H' → (∀ a, T0 a → T1 a) → H' p = none → QD es → RpAll K (hide T1 H') us es → Q (.ref p) (upd H' p (.lst us)) := by
    intro T1 H' p us es e t hp hQ r
    have hp0 : H p = none := by
      cases z : H p with
      | none => rfl
      | some o => rw [e _ _ z] at hp; cases hp
    have st : ∀ {a : Addr} {o o' : HO}, H' a = some o → upd H' p o' a = some o := fun {a} {o} {o'} z => by
      have w : a ≠ p := fun w => by rw [w, hp] at z; cases z
      rw [upd_ne w]; exact z
    refine hq p us es _ hp0 upd_same hQ (fun a o z => st (e _ _ z)) (r.mono fun a o z => ?_)
    obtain ⟨n, z⟩ := hide_some.1 z
    refine hide_some.2 ⟨fun w => ?_, st z⟩
    rcases w with w | w
    · rw [w, hp] at z; cases z
    · exact n (t a w)
  refine ⟨v, rfl, fun x dx hx hdx hne => ?_⟩
  have old : ∀ {a : Addr} {o : HO}, H a = some o → upd (upd H dx (.own x)) x (.ins C dx []) a = some o := fun {a} {o} z => by
    have w1 : a ≠ x := fun w => by rw [w, hx] at z; cases z
    have w2 : a ≠ dx := fun w => by rw [w, hdx] at z; cases z
    rw [upd_ne w1, upd_ne w2]; exact z
  refine ⟨x, dx, C, v, plus T0 x, d, rfl, upd_same, hC, hN, fun a t => ?_, .inl rfl, rv.mono fun a o z => ?_, hG, fun hf H' vr vu fs keep hx' l1 l2 y1 y2 => ⟨rfl, ?_⟩, fun hf H' dd pv ex hdd hdd' y σ hσ => ?_⟩
  · rcases t with t | t
    · rw [t, upd_same]; simp
    · cases z : H a with
      | none => exact absurd z (hT a t)
      | some o => rw [old z]; simp
  · obtain ⟨n, z⟩ := hide_some.1 z
    refine hide_some.2 ⟨fun w => ?_, old z⟩
    rcases w with w | w
    · rw [w, hx] at z; cases z
    · exact n w
  · have e : Ex H H' := fun a o z => keep a o (fun w => by rw [w, hx] at z; cases z) (old z)
    rw [hxs] at y1
    have y1' := y1
    cases y1 with
    | tup hp rr =>
      rename_i p ys
      refine ⟨.ref x, rfl, x, dx, fs, rfl, hx', x, dx, fs, _, rfl, hx', l1, ?_⟩
      refine ⟨.ref x, rfl, x, dx, fs, rfl, hx', x, dx, fs, _, rfl, hx', l2, ?_⟩
      refine ⟨.ref x, rfl, x, dx, fs, rfl, hx', x, dx, fs, p, ys, rfl, hx', l1, .inr (sqt_of hp), hC, hN _ (by simp), ?_⟩
      refine ⟨by rw [sizeLine_eq]; exact (by decide : 3 ≤ 16777216), fun q hq0 => ?_⟩
      refine fin (plus T0 x) H' q _ _ e (fun a t => .inr t) hq0 (hok hf) (.cons (by rw [hxs]; exact y1') (.cons y2 (.cons ?_ .nil)))
      rw [rr.length]
      exact .int _
  · have e : Ex H H' := fun a o z => ex _ _ (old z)
    refine ⟨true, te, fun _ a ha => ?_, fun z => by cases z⟩
    have g2 : (σ.set 2 (some (V.ref a)))[2]? = some (some (V.ref a)) := by
      rw [List.getElem?_set_self (by omega)]
    refine ⟨.ref a, g2, rfl, rfl, dd, _, pv, rfl, hdd', by rfl, ?_⟩
    refine ⟨by rw [sizeLine_eq]; exact (by decide : 2 ≤ 16777216), fun q hq0 => ?_⟩
    exact fin (plus T0 x) H' q _ _ e (fun a t => .inr t) hq0 (hbad hf) (.cons (.str _) (.cons y .nil))
end
end Dn
set_option Elab.async false
set_option linter.all false
set_option maxRecDepth 100000
set_option autoImplicit false
set_option maxHeartbeats 4000000
namespace Dn
open PySem L2 Evl PySem.Spec PyProof.Rows
local macro_rules | `(tactic| walk_at "dd") => `(tactic| simp only [sSeq, sIf, sSet, sRet, sRetN, sNx, sEx, sAsg, sPar, dTOr, dTAnd, dTNot, dTst, dIsi, dVar, dC, dBin, dChain, dNeg, dI2, dAnd, dOr, dNot, dIfE, dCall, dCallF, aCons, aNil, dTup, lLst, dOfL, xIm, xOw, gNm, gTp, gsCons, gsNil, dYes, envD, dLen_tR, dLen_tI, dLen_tup, dLen_lst, seq_tR, seq_tI, seq_tup, seq_lst, dIs, dIsNot, dNe, dEq, dTupOf, dSl, oNone, oSome, iSq, iEn, iR1, iR2, sFor, lLc, sNever, dTRg, rg1, rg2, lRg, wipeD, isN,
  dIxP, sSub, dApp, dPopAt, dExt, dCallM, dCallO, dBinO, dTupO, lOf, lOfO, sRetO, iOw, dVarF, lCat, lCall, dAbs, dMax2, dMin2, dInt, atO, setO, MO.getL, MO.putL, Option.isSome_some,
  dInK, dGetK, dGetD, dInD, dGet1, lKeys, lSort, dLenSet, dRevT, sPutK, xDct, xDct1, sRetK, atK, keyD, sAugI,
  kit_int, kit_bool, kit_tuple, kit_str, List.map_cons, List.map_nil, List.cons_append, List.nil_append, List.replicate, List.set_cons_zero, List.set_cons_succ, List.getElem?_cons_zero, List.getElem?_cons_succ, List.length_cons, List.length_nil, List.length_map, Nat.reduceAdd, Nat.reduceSub, Bool.not_true, Bool.not_false, Bool.false_eq_true, if_true, if_false, true_and, reduceCtorEq, Bool.true_eq_false, rgD_rgI, Option.some.injEq, exists_eq_left', and_true])
theorem v_is_integer : VD g_is_integer S_is_integer 1 0 := fun ds Q _ h => by
  obtain ⟨d, rfl, h⟩ := h
  unfold g_is_integer
  walk_at "dd"
  cases d with
  | int i =>
    simp only [isI] at h
    walk_at "dd"
    refine bool_ways (fun e => ?_) (fun e => ?_)
    · rw [e] at h; exact h
    · rw [e] at h; exact h
  | _ => first | (walk_at "dd"; exact h) | exact h
theorem v_is_thing : VD g_is_thing S_is_thing 2 0 := fun ds Q _ h => by
  obtain ⟨d, n, rfl, h⟩ := h
  unfold g_is_thing
  walk_at "dd"
  refine ⟨d, rfl, ?_⟩
  cases d with
  | int i =>
    simp only [isTh] at h
    simp only [isI]
    refine bool_ways (fun e => ?_) (fun e => ?_)
    · rw [e] at h
      walk_at "dd"
      refine bool_ways (fun e2 => ?_) (fun e2 => ?_)
      · rw [e2] at h; simpa using h
      · rw [e2] at h; simpa using h
    · rw [e] at h; exact h
  | _ => exact h
theorem v_is_within : VD g_is_within S_is_within 3 0 := fun ds Q _ h => by
  obtain ⟨i, a, b, rfl, h⟩ := h
  unfold g_is_within
  walk_at "dd"
  refine ⟨_, rfl, ?_⟩
  refine bool_ways (fun e => ?_) (fun e => ?_)
  · rw [e] at h
    try walk_at "dd"
    refine bool_ways (fun e2 => ?_) (fun e2 => ?_)
    · rw [e2] at h; simpa using h
    · rw [e2] at h; simpa using h
  · rw [e] at h; exact h
theorem v_is_row : VD g_is_row S_is_row 3 1 := fun ds Q _ h => by
  obtain ⟨d, m, n, rfl, hl, hn, h⟩ := h
  unfold g_is_row
  walk_at "dd"
  cases d with
  | tuple xs =>
    simp only [isRow] at h
    walk_at "dd"
    refine ⟨rfl, rfl, ?_⟩
    simp only [PyData.eqv]
    refine ite_ways (fun e => ?_) (fun e => ?_)
    · rw [show decide ((xs.length : Int) = m) = false from by simpa using e] at h; exact h
    · rw [show decide ((xs.length : Int) = m) = true from by simpa using e] at h
      refine wpFor_find (fun d => if isTh n d = true then none else some (.bool false)) (fun ρ => ∃ x, ρ = [some (.im (.tuple xs)), some (.im (.int m)), some (.im (.int n)), x]) ⟨_, rfl⟩ (fun d _ ρ K B hI hq hk => ?_) (fun v hv => ?_) (fun hv ρ hI => ?_)
      · obtain ⟨x, rfl⟩ := hI
        walk_at "dd"
        cases d with
        | int i =>
          walk_at "dd"
          have te : isTh n (.int i) = true ↔ 0 ≤ i ∧ i < n := by
            simp only [isTh, Bool.and_eq_true, decide_eq_true_eq]
            omega
          refine bool_ways (fun e1 => ?_) (fun e1 => ?_)
          · refine ite_ways (fun e2 => ?_) (fun e2 => ?_)
            · exact hq _ (if_neg (by rw [te]; simp at e1 e2; omega))
            · exact hk (if_pos (by rw [te]; simp at e1 e2; omega)) _ ⟨_, rfl⟩
          · exact hq _ (if_neg (by rw [te]; simp at e1; omega))
        | _ => exact hq _ rfl
      · have e2 : xs.all (isTh n) = false := by
          obtain ⟨d, hd, h2⟩ := List.exists_of_findSome?_eq_some hv
          rw [Bool.eq_false_iff]
          intro z
          have := List.all_eq_true.mp z d hd
          simp [this] at h2
        have e3 : v = .bool false := by
          obtain ⟨d, hd, h2⟩ := List.exists_of_findSome?_eq_some hv
          split at h2
          · cases h2
          · cases h2; rfl
        subst e3
        simpa [e2] using h
      · have e2 : xs.all (isTh n) = true := by
          rw [List.all_eq_true]
          intro d hd
          have := List.findSome?_eq_none_iff.mp hv d hd
          simpa using this
        obtain ⟨x, rfl⟩ := hI
        walk_at "dd"
        simpa [e2] using h
  | _ => exact h
theorem v_check_within : VD g_check_within S_check_within 3 0 := fun ds Q _ h => by
  obtain ⟨i, a, b, rfl, h1, h2, h3, h⟩ := h
  unfold g_check_within
  walk_at "dd"
  refine ⟨_, _, _, rfl, ?_⟩
  rw [h1, decide_eq_true h2, decide_eq_true h3]
  exact h
theorem v_check_thing : VD g_check_thing S_check_thing 2 0 := fun ds Q _ h => by
  obtain ⟨d, n, rfl, h1, h⟩ := h
  unfold g_check_thing
  walk_at "dd"
  refine ⟨_, _, rfl, ?_⟩
  rw [h1]
  exact h
theorem v_is_move : VD g_is_move S_is_move 1 0 := fun ds Q _ h => by
  obtain ⟨d, rfl, h⟩ := h
  unfold g_is_move
  walk_at "dd"
  cases d with
  | tuple xs =>
    simp only [isMove] at h
    walk_at "dd"
    refine ite_ways (fun e => ?_) (fun e => ?_)
    · have : ¬ xs.length ≤ 24 := by simp at e; omega
      rw [decide_eq_false this] at h
      exact h
    · have hl : xs.length ≤ 24 := by simp at e; omega
      rw [decide_eq_true hl] at h
      refine ⟨_, _, _, rfl, fun ys hy => by cases hy; omega, by omega, ?_⟩
      simp only [isRow, decide_true, Bool.true_and] at h ⊢
      refine bool_ways (fun e2 => ?_) (fun e2 => ?_)
      · rw [e2] at h
        refine ⟨xs.map intD, by rw [← all_ints e2], by simp; omega, fun n hn => ?_⟩
        refine ⟨rfl, rfl, ?_⟩
        have : decide (xs.map intD).Nodup = PyData.eqv (.int n) (.int xs.length) := by
          simp only [PyData.eqv]
          by_cases z : (xs.map intD).Nodup
          · have := hn.2 z
            simp at this
            simp [z, this]
          · have : ¬ n = (xs.map intD).length := fun w => z (hn.1 w)
            simp at this
            simp [z]
            omega
        rw [← this]
        simpa using h
      · rw [e2] at h; exact h
  | _ => exact h
theorem v_is_move_of : VD g_is_move_of S_is_move_of 2 0 := fun ds Q _ h => by
  obtain ⟨d, n, rfl, h⟩ := h
  unfold g_is_move_of
  walk_at "dd"
  refine ⟨_, rfl, ?_⟩
  unfold isMoveOf at h
  refine bool_ways (fun e => ?_) (fun e => ?_)
  · rw [e] at h
    cases d with
    | tuple xs =>
      walk_at "dd"
      refine ⟨rfl, rfl, ?_⟩
      simp only [PyData.eqv]
      rw [show ((xs.length : Int) == n) = decide ((xs.length : Int) = n) from by rw [Bool.eq_iff_iff]; simp]
      simpa using h
    | _ => simp [isMove] at e
  · rw [e] at h; exact h
theorem v_check_move_of : VD g_check_move_of S_check_move_of 2 0 := fun ds Q _ h => by
  obtain ⟨d, n, rfl, h1, h⟩ := h
  unfold g_check_move_of
  walk_at "dd"
  refine ⟨_, _, rfl, ?_⟩
  rw [h1]
  exact h
theorem v_check_makers : VD g_check_makers S_check_makers 2 1 := fun ds Q _ h => by
  obtain ⟨n, mk, rfl, hk, h⟩ := h
  have h1 := hk.most
  have h2 := hk.few
  unfold g_check_makers
  walk_at "dd"
  refine ⟨_, _, _, rfl, by simp [isI]; omega, by omega, by omega, ?_⟩
  unfold tR
  walk_at "dd"
  rw [show decide (((24 : Int)) < ((mk.length : Nat) : Int)) = false from by simp; omega]
  walk_at "dd"
  refine wpFor_inv (fun ρ => ∃ x, ρ = [some (.im (.int n)), some (.im (tR mk)), x]) ⟨_, rfl⟩ (fun d hd ρ K i k => ?_) (fun ρ i => ?_)
  · obtain ⟨x, rfl⟩ := i
    obtain ⟨m, hm, rfl⟩ := List.mem_map.mp hd
    walk_at "dd"
    exact ⟨_, _, rfl, (move_perm (hk.move m hm) h1).2, k _ ⟨_, rfl⟩⟩
  · exact h
theorem v__check_way : VD g__check_way S__check_way 4 0 := fun ds Q _ h => by
  obtain ⟨n, mk, s, g, rfl, hk, hs, hg, h⟩ := h
  have h1 := hk.most
  unfold g__check_way
  walk_at "dd"
  exact ⟨_, _, rfl, hk, _, _, rfl, isTh_in hs.1 hs.2 (by omega), _, _, rfl, isTh_in hg.1 hg.2 (by omega), h⟩
end Dn
set_option Elab.async false
set_option linter.all false
set_option maxRecDepth 100000
set_option autoImplicit false
set_option maxHeartbeats 4000000
namespace Dn
open PySem L2 Evl PySem.Spec PyProof.Rows
local macro_rules | `(tactic| walk_at "dd") => `(tactic| simp only [sSeq, sIf, sSet, sRet, sRetN, sNx, sEx, sAsg, sPar, dTOr, dTAnd, dTNot, dTst, dIsi, dVar, dC, dBin, dChain, dNeg, dI2, dAnd, dOr, dNot, dIfE, dCall, dCallF, aCons, aNil, dTup, lLst, dOfL, xIm, xOw, gNm, gTp, gsCons, gsNil, dYes, envD, dLen_tR, dLen_tI, dLen_tup, dLen_lst, seq_tR, seq_tI, seq_tup, seq_lst, dIs, dIsNot, dNe, dEq, dTupOf, dSl, oNone, oSome, iSq, iEn, iR1, iR2, sFor, lLc, sNever, dTRg, rg1, rg2, lRg, wipeD, isN,
  dIxP, sSub, dApp, dPopAt, dExt, dCallM, dCallO, dBinO, dTupO, lOf, lOfO, sRetO, iOw, dVarF, lCat, lCall, dAbs, dMax2, dMin2, dInt, atO, setO, MO.getL, MO.putL, Option.isSome_some,
  dInK, dGetK, dGetD, dInD, dGet1, lKeys, lSort, dLenSet, dRevT, sPutK, xDct, xDct1, sRetK, atK, keyD, sAugI,
  kit_int, kit_bool, kit_tuple, kit_str, List.map_cons, List.map_nil, List.cons_append, List.nil_append, List.replicate, List.set_cons_zero, List.set_cons_succ, List.getElem?_cons_zero, List.getElem?_cons_succ, List.length_cons, List.length_nil, List.length_map, Nat.reduceAdd, Nat.reduceSub, Bool.not_true, Bool.not_false, Bool.false_eq_true, if_true, if_false, true_and, reduceCtorEq, Bool.true_eq_false, rgD_rgI, Option.some.injEq, exists_eq_left', and_true])
theorem dc_ok (a b c : Int) : Dc [.int a, .int b, .int c] := ⟨a, b, c, rfl⟩
theorem v__law_dice : VL g__law_dice S__law_dice 2 2 := fun ds Q _ h => by
  obtain ⟨s, i, rfl, i0, h⟩ := h
  unfold g__law_dice
  have e16 : CPow 10 16 := by unfold CPow; decide +kernel
  have e60 : CPow 10 60 := by unfold CPow; decide +kernel
  have m60 : CMul (10 ^ Int.toNat 60) (10 ^ Int.toNat 60) ∨ CMulW (10 ^ Int.toNat 60) (10 ^ Int.toNat 60) := .inr (by unfold CMulW; decide +kernel)
  have p60 : (0 : Int) < 10 ^ Int.toNat 60 * 10 ^ Int.toNat 60 := by decide +kernel
  have s877 : CMul 877 i ∨ CMulW 877 i := cm_l ⟨by decide, by decide⟩
  have fin : ∀ z : Int, dAbs [.int z] fun z_1 => CPow 10 16 ∧ dSub z_1 (PyData.int (10 ^ Int.toNat 16)) fun z_2 => dMax2 [.int 0, z_2] fun z_3 => CPow 10 60 ∧ CPow 10 60 ∧ (CMul (10 ^ Int.toNat 60) (10 ^ Int.toNat 60) ∨ CMulW (10 ^ Int.toNat 60) (10 ^ Int.toNat 60)) ∧
      dMod z_3 (PyData.int (10 ^ Int.toNat 60 * 10 ^ Int.toNat 60)) fun z_4 => dAbs [.int z] fun z_5 => dMod z_5 (PyData.int 1152921504606845527) fun z_6 => dMulA z_6 (PyData.int 79) fun z_7 => (CMul 877 i ∨ CMulW 877 i) ∧ dAdd z_7 (PyData.int (877 * i)) fun z_8 =>
        dLt (.int z) (PyData.int 0) fun z => dInt [z] fun z => dMulA (PyData.int 41) z fun z => dAdd z_8 z fun z => dAdd z (PyData.int 23) fun z => 3 ≤ 16777216 ∧ Q [z_4, z, PyData.int 0] := fun z =>
    ⟨e16, trivial, e60, e60, m60, p60, (by show (0 : Int) < 1152921504606845527; decide), cm_r ⟨by decide, by decide⟩, s877, trivial, cm_l ⟨by decide, by decide⟩, by decide, h _ (dc_ok _ _ _)⟩
  walk_at "dd"
  refine ⟨trivial, ?_⟩
  refine ite_ways (b := decide (i < ((s.map PyData.int).length : Int))) (fun z => ?_) (fun z => ?_)
  · have z' : i < s.length := by simpa using z
    refine ⟨.int (s.getD i.toNat 0), ?_, fin _⟩
    have := atI_in (d := PyData.int 0) i0 (show i < ((s.map PyData.int).length : Int) by simpa using z')
    rw [show (s.map PyData.int).getD i.toNat (PyData.int 0) = .int (s.getD i.toNat 0) from by simp [List.getD]] at this
    exact this
  · exact ⟨cm_l ⟨by decide, by decide⟩, fin _⟩
theorem v__law_roll : VM g__law_roll S__law_roll 2 3 := fun l ms ds Q _ h => by
  obtain ⟨t, rfl, t0, t1, ⟨a, b, c, rfl⟩, h⟩ := h
  unfold g__law_roll
  walk_at "dd"
  refine ⟨_, _, _, rfl, rfl, rfl, trivial, ?_⟩
  refine ite_ways (b := decide ((0 : Int) < a)) (fun z => ?_) (fun z => ?_)
  · refine ⟨_, _, _, rfl, rfl, rfl, t0, ?_⟩
    refine ⟨_, _, _, rfl, rfl, rfl, cd_t t0 t1, ?_⟩
    exact ⟨_, _, _, rfl, rfl, rfl, _, rfl, h _ _ (Int.emod_nonneg _ (by omega)) (Int.emod_lt_of_pos _ t0) (dc_ok _ _ _)⟩
  · refine ⟨_, _, _, rfl, rfl, rfl, ?_⟩
    refine ⟨_, _, _, rfl, rfl, rfl, ?_⟩
    refine ⟨_, _, _, rfl, rfl, rfl, ?_⟩
    refine ⟨_, _, _, rfl, rfl, rfl, cm_l ⟨by decide, by decide⟩, (by show (0 : Int) < 2305843009213691579; decide), ?_⟩
    have hb : ∀ x : Int, -(2 ^ 64) < x % 2305843009213691579 ∧ x % 2305843009213691579 < 2 ^ 64 := fun x => by
      have h1 := Int.emod_nonneg x (show (2305843009213691579 : Int) ≠ 0 by decide)
      have h2 := Int.emod_lt_of_pos x (show (0 : Int) < 2305843009213691579 by decide)
      omega
    refine ⟨cm_l (hb _), ?_⟩
    refine ⟨_, _, _, rfl, rfl, rfl, cm_l ⟨by decide, by decide⟩, (by show (0 : Int) < 2305843009213692227; decide), cm_r ⟨by decide, by decide⟩, ?_⟩
    refine ⟨⟨by decide, by decide +kernel⟩, t0, _, rfl, h _ _ (Int.emod_nonneg _ (by omega)) (Int.emod_lt_of_pos _ t0) (dc_ok _ _ _)⟩
theorem v__law_mixed : VM g__law_mixed S__law_mixed 2 3 := fun l ms ds Q _ h => by
  obtain ⟨d, xs, rfl, hd, hl, hm, h⟩ := h
  unfold g__law_mixed
  walk_at "dd"
  rw [hd]
  dsimp only
  rw [dLen_seq hd]
  refine ⟨by omega, ⟨by omega, by omega, by omega, by omega⟩, ?_⟩
  rw [rgD_rgI]
  refine wpFor_cps (fun done ρ => ∃ ms L Fd x, ρ = [some (SV.ow (MO.par l (MO.lst ms))), some (SV.im d), some (SV.ow (MO.lst L)), some (SV.ow (MO.lst Fd)), x] ∧ Dc ms ∧ (Fd ++ L).Perm xs ∧ Fd.length = done.length) ⟨ms, xs, [], _, rfl, hm, by simp, rfl⟩ (fun done d' rest ρ K e p k => ?_) (fun ρ p => ?_)
  · obtain ⟨ms, L, Fd, x, rfl, hm, hp, hf⟩ := p
    have hlen := hp.length_eq
    have he := congrArg List.length e
    simp [rgI_len] at he hlen
    walk_at "dd"
    refine ⟨rfl, _, rfl, by omega, by simp only [T60]; omega, hm, fun r ms' r0 r1 hm' => ?_⟩
    have hr : r.toNat < L.length := by omega
    refine ⟨L, r, r.toNat, L[r.toNat], rfl, rfl, r0, r1, rfl, List.getElem?_eq_getElem hr, by omega, by omega, ?_⟩
    refine k _ ⟨ms', L.eraseIdx r.toNat, Fd ++ [L[r.toNat]], _, rfl, hm', ?_, by simp [hf]⟩
    refine List.Perm.trans ?_ hp
    rw [List.append_assoc]
    refine List.Perm.append_left _ ?_
    exact erase_permD hr
  · obtain ⟨ms, L, Fd, x, rfl, hm, hp, hf⟩ := p
    have hlen := hp.length_eq
    simp [rgI_len] at hf hlen
    have : L = [] := List.length_eq_zero_iff.mp (by omega)
    subst this
    exact ⟨ms, rfl, h Fd ms (by simpa using hp) hm⟩
theorem perm_ints {ys : List D} {ns : List Int} (h : ys.Perm (ns.map PyData.int)) : ∃ ms : List Int, ys = ms.map PyData.int ∧ ms.Perm ns := by
  have : ∀ (xs ys : List D), xs.Perm ys → ∀ ns : List Int, ys = ns.map PyData.int → ∃ ms : List Int, xs = ms.map PyData.int ∧ ms.Perm ns := by
    intro xs ys h
    induction h with
    | nil => intro ns e; cases ns with | nil => exact ⟨[], rfl, .nil⟩ | cons _ _ => cases e
    | cons x h ih =>
      intro ns e
      cases ns with
      | nil => cases e
      | cons n ns =>
        simp at e
        obtain ⟨ms, e1, e2⟩ := ih ns e.2
        exact ⟨n :: ms, by simp [e1, e.1], e2.cons n⟩
    | swap x y l =>
      intro ns e
      match ns, e with
      | a :: b :: ns, e =>
        simp at e
        exact ⟨b :: a :: ns, by simp [e.1, e.2.1, e.2.2], .swap a b ns⟩
    | trans h1 h2 ih1 ih2 =>
      intro ns e
      obtain ⟨ms, e1, e2⟩ := ih2 ns e
      obtain ⟨ms2, e3, e4⟩ := ih1 ms e1
      exact ⟨ms2, e3, e4.trans e2⟩
  exact this _ _ h _ rfl
theorem v__law_drawn_move : VM g__law_drawn_move S__law_drawn_move 2 0 := fun l ms ds Q _ h => by
  obtain ⟨n, rfl, hn, hm, h⟩ := h
  unfold g__law_drawn_move
  walk_at "dd"
  refine ⟨⟨by omega, by omega, by omega, by omega⟩, _, _, rfl, rfl, by simp [rgI_len]; omega, hm, fun ys ms' hp hm' => ?_⟩
  obtain ⟨m, rfl, hp2⟩ := perm_ints hp
  exact ⟨ms', rfl, h m ms' hp2 hm'⟩
end Dn
set_option Elab.async false
set_option linter.all false
set_option maxRecDepth 100000
set_option autoImplicit false
set_option maxHeartbeats 4000000
namespace Dn
open PySem L2 Evl PySem.Spec PyProof.Rows
local macro_rules | `(tactic| walk_at "dd") => `(tactic| simp only [sSeq, sIf, sSet, sRet, sRetN, sNx, sEx, sAsg, sPar, dTOr, dTAnd, dTNot, dTst, dIsi, dVar, dC, dBin, dChain, dNeg, dI2, dAnd, dOr, dNot, dIfE, dCall, dCallF, aCons, aNil, dTup, lLst, dOfL, xIm, xOw, gNm, gTp, gsCons, gsNil, dYes, envD, dLen_tR, dLen_tI, dLen_tup, dLen_lst, seq_tR, seq_tI, seq_tup, seq_lst, dIs, dIsNot, dNe, dEq, dTupOf, dSl, oNone, oSome, iSq, iEn, iR1, iR2, sFor, lLc, sNever, dTRg, rg1, rg2, lRg, wipeD, optD,
  dIxP, sSub, dApp, dPopAt, dExt, dCallM, dCallO, dBinO, dTupO, lOf, lOfO, sRetO, iOw, dVarF, lCat, lCall, dAbs, dMax2, dMin2, dInt, atO, setO, MO.getL, MO.putL, Option.isSome_some,
  dInK, dGetK, dGetD, dInD, dGet1, lKeys, lSort, dLenSet, dRevT, sPutK, xDct, xDct1, sRetK, atK, keyD, sAugI,
  kit_int, kit_bool, kit_tuple, kit_str, List.map_cons, List.map_nil, List.cons_append, List.nil_append, List.replicate, List.set_cons_zero, List.set_cons_succ, List.getElem?_cons_zero, List.getElem?_cons_succ, List.length_cons, List.length_nil, List.length_map, Nat.reduceAdd, Nat.reduceSub, Bool.not_true, Bool.not_false, Bool.false_eq_true, if_true, if_false, true_and, reduceCtorEq, Bool.true_eq_false, rgD_rgI, Option.some.injEq, exists_eq_left', and_true])
theorem isRow_in {rs : List (List Int)} (h : Rw rs) {r : List Int} (hr : r ∈ rs) : isRow rs.length rs.length (tI r) = true := by
  unfold isRow tI
  obtain ⟨h1, h2⟩ := h.row r hr
  simp only [Bool.and_eq_true, decide_eq_true_eq, List.length_map, h1, List.all_map, List.all_eq_true, true_and]
  intro x hx
  exact isTh_in (h2 x hx).1 (h2 x hx).2 (by have := h.most; omega)
theorem v_is_square : VD g_is_square S_is_square 3 1 := fun ds Q _ h => by
  obtain ⟨rs, rfl, hr, h⟩ := h
  have h1 := hr.pos
  have h2 := hr.most
  unfold g_is_square tR
  walk_at "dd"
  rw [show decide ((1 : Int) ≤ (rs.length : Int)) = true from by simp; omega]
  walk_at "dd"
  rw [show decide ((rs.length : Int) ≤ 24) = true from by simp; omega]
  walk_at "dd"
  refine wpLc_map (fun _ => .bool true) (by simp; omega) rfl (fun d hd K hK => ?_) (fun _ _ _ => rfl) ?_
  · walk_at "dd"
    obtain ⟨r, hr1, rfl⟩ := List.mem_map.mp hd
    refine ⟨_, _, _, rfl, fun xs e => ?_, by first | omega | (simp; omega), ?_⟩
    · cases e; have := (hr.row r hr1).1; simp; omega
    · rw [show isRow (rs.length : Int) (rs.length : Int) (tI r) = true from by simpa using isRow_in hr hr1]
      exact hK _ rfl
  · refine ⟨(rs.map tI).map fun _ => true, by simp, ?_⟩
    rw [show ((rs.map tI).map fun _ => true).all id = true from by simp]
    exact h
end Dn
set_option Elab.async false
set_option linter.all false
set_option maxRecDepth 100000
set_option autoImplicit false
set_option maxHeartbeats 4000000
namespace Dn
open PySem L2 Evl PySem.Spec PyProof.Rows
local macro_rules | `(tactic| walk_at "dd") => `(tactic| simp only [sSeq, sIf, sSet, sRet, sRetN, sNx, sEx, sAsg, sPar, dTOr, dTAnd, dTNot, dTst, dIsi, dVar, dC, dBin, dChain, dNeg, dI2, dAnd, dOr, dNot, dIfE, dCall, dCallF, aCons, aNil, dTup, lLst, dOfL, xIm, xOw, gNm, gTp, gsCons, gsNil, dYes, envD, dLen_tR, dLen_tI, dLen_tup, dLen_lst, seq_tR, seq_tI, seq_tup, seq_lst, dIs, dIsNot, dNe, dEq, dTupOf, dSl, oNone, oSome, iSq, iEn, iR1, iR2, sFor, lLc, sNever, dTRg, rg1, rg2, lRg, wipeD, optD,
  dIxP, sSub, dApp, dPopAt, dExt, dCallM, dCallO, dBinO, dTupO, lOf, lOfO, sRetO, iOw, dVarF, lCat, lCall, dAbs, dMax2, dMin2, dInt, atO, setO, MO.getL, MO.putL, Option.isSome_some,
  dInK, dGetK, dGetD, dInD, dGet1, lKeys, lSort, dLenSet, dRevT, sPutK, xDct, xDct1, sRetK, atK, keyD, sAugI,
  kit_int, kit_bool, kit_tuple, kit_str, List.map_cons, List.map_nil, List.cons_append, List.nil_append, List.replicate, List.set_cons_zero, List.set_cons_succ, List.getElem?_cons_zero, List.getElem?_cons_succ, List.length_cons, List.length_nil, List.length_map, Nat.reduceAdd, Nat.reduceSub, Bool.not_true, Bool.not_false, Bool.false_eq_true, if_true, if_false, true_and, reduceCtorEq, Bool.true_eq_false, rgD_rgI, Option.some.injEq, exists_eq_left', and_true])
theorem okS_of {d : D} (h : SeqAt.shaped d = true) : okS d := fun t e => by subst e; exact h
theorem atI_zero {α : Type} {x : α} {r : List α} : atI (x :: r) 0 = some x := by
  rw [atI_in (d := x) (by omega) (by simp only [List.length_cons]; omega)]; rfl
theorem okV_mem {d : D} {xs : List D} (h : okV d) (e : d = .tuple xs) {x : D} (hx : x ∈ xs) : okS x := (h xs e).2 x hx
theorem v_is_same0 : VD g_is_same0 S_is_same0 2 2 := fun ds Q _ h => by
  obtain ⟨d, s, rfl, hd, hs, h⟩ := h
  unfold g_is_same0
  walk_at "dd"
  cases d with
  | str t =>
    walk_at "dd"
    exact ⟨hd t rfl, hs, by simpa only [PyData.eqv, isStr] using h⟩
  | _ => first | exact h | (walk_at "dd"; exact h)
theorem v_is_same : VD g_is_same S_is_same 2 2 := fun ds Q _ h => by
  rcases h with ⟨d, s, rfl, hd, hs, h⟩ | ⟨d, s, rfl, hd, hs, h⟩
  · unfold g_is_same
    walk_at "dd"
    cases d with
    | str t =>
      walk_at "dd"
      exact ⟨hd t rfl, hs, by simpa only [PyData.eqv, isStr] using h⟩
    | _ => first | exact h | (walk_at "dd"; exact h)
  · unfold g_is_same
    walk_at "dd"
    cases d with
    | tuple xs =>
      walk_at "dd"
      refine ⟨rfl, rfl, ?_⟩
      simp only [PyData.eqv]
      match xs, hd, h with
      | [], hd, h => walk_at "dd"; exact h
      | [x], hd, h =>
        walk_at "dd"
        unfold enD
        simp only [List.length_cons, List.length_nil, Nat.reduceAdd, List.range_one, List.zipWith_cons_cons, List.zipWith_nil_right, wpLc]
        walk_at "dd"
        refine ⟨Nat.succ_pos _, .str s, rfl, x, s, rfl, (hd _ rfl).2 x (by simp), hs, [isStr s x], rfl, ?_⟩
        simpa [isTup1] using h
      | x :: y :: r, hd, h =>
        have e : ¬ ((r.length : Int) + 1 + 1 = 1) := by omega
        simp [e]
        simpa [isTup1] using h
    | _ => first | exact h | (walk_at "dd"; exact h)
theorem v_is_told : VD g_is_told S_is_told 4 0 := fun ds Q _ h => by
  obtain ⟨d, s, m, n, rfl, ⟨hm, hn⟩, hd, hs, h⟩ := h
  unfold g_is_told
  walk_at "dd"
  cases d with
  | tuple xs =>
    walk_at "dd"
    refine ⟨rfl, rfl, ?_⟩
    simp only [PyData.eqv]
    match xs, hd, h with
    | [], hd, h =>
      refine ite_ways (fun e => h) (fun e => ?_)
      simp at e
      omega
    | x :: r, hd, h =>
      simp only [isTold] at h
      refine ite_ways (fun e => ?_) (fun e => ?_)
      · have e2 : ¬ ((r.length : Int) = m) := by
          intro z; simp at e; omega
        rw [show decide ((r.length : Int) = m) = false from by simpa using e2] at h
        exact h
      · have e2 : (r.length : Int) = m := by simp at e; omega
        rw [show decide ((r.length : Int) = m) = true from by simpa using e2] at h
        refine ⟨x, atI_zero, .inl ⟨x, s, rfl, (hd _ rfl).2 x (by simp), hs, ?_⟩⟩
        refine bool_ways (fun e3 => ?_) (fun e3 => ?_)
        · rw [e3] at h
          have cut : cutD (x :: r) (some 1) none = r := by
            unfold cutD HT.sIx
            have : min (Int.toNat 1) (r.length + 1) = 1 := by omega
            simp [this]
          rw [cut]
          refine ⟨_, m, n, rfl, fun xs e => ?_, hn, ?_⟩
          · cases e; have := (hd _ rfl).1; simp at this; omega
          · simpa using h
        · rw [e3] at h; exact h
  | _ => first | exact h | (walk_at "dd"; exact h)
theorem v__check_rows : VD g__check_rows S__check_rows 1 0 := fun ds Q _ h => by
  obtain ⟨rs, rfl, hr, h⟩ := h
  unfold g__check_rows
  walk_at "dd"
  refine ⟨rs, rfl, hr, ?_⟩
  walk_at "dd"
  exact h
end Dn
set_option Elab.async false
set_option linter.all false
set_option maxRecDepth 100000
set_option autoImplicit false
set_option maxHeartbeats 4000000
namespace Dn
open PySem L2 Evl PySem.Spec PyProof.Rows
local macro_rules | `(tactic| walk_at "dd") => `(tactic| simp only [sSeq, sIf, sSet, sRet, sRetN, sNx, sEx, sAsg, sPar, dTOr, dTAnd, dTNot, dTst, dIsi, dVar, dC, dBin, dChain, dNeg, dI2, dAnd, dOr, dNot, dIfE, dCall, dCallF, aCons, aNil, dTup, lLst, dOfL, xIm, xOw, gNm, gTp, gsCons, gsNil, dYes, envD, dLen_tR, dLen_tI, dLen_tup, dLen_lst, seq_tR, seq_tI, seq_tup, seq_lst, dIs, dIsNot, dNe, dEq, dTupOf, dSl, oNone, oSome, iSq, iEn, iR1, iR2, sFor, lLc, sNever, dTRg, rg1, rg2, lRg, wipeD, optD,
  dIxP, sSub, dApp, dPopAt, dExt, dCallM, dCallO, dBinO, dTupO, lOf, lOfO, sRetO, iOw, dVarF, lCat, lCall, dAbs, dMax2, dMin2, dInt, atO, setO, MO.getL, MO.putL, Option.isSome_some,
  dInK, dGetK, dGetD, dInD, dGet1, lKeys, lSort, dLenSet, dRevT, sPutK, xDct, xDct1, sRetK, atK, keyD, sAugI,
  kit_int, kit_bool, kit_tuple, kit_str, List.map_cons, List.map_nil, List.cons_append, List.nil_append, List.replicate, List.set_cons_zero, List.set_cons_succ, List.getElem?_cons_zero, List.getElem?_cons_succ, List.length_cons, List.length_nil, List.length_map, Nat.reduceAdd, Nat.reduceSub, Bool.not_true, Bool.not_false, Bool.false_eq_true, if_true, if_false, true_and, reduceCtorEq, Bool.true_eq_false, rgD_rgI, Option.some.injEq, exists_eq_left', and_true])
theorem v_unit_of : VD g_unit_of S_unit_of 1 3 := fun ds Q _ h => by
  obtain ⟨rs, rfl, hr, h⟩ := h
  have h1 := hr.pos
  have h2 := hr.most
  unfold g_unit_of
  walk_at "dd"
  refine ⟨⟨by omega, by omega, by omega, by omega⟩, ?_⟩
  simp only [tI_def]
  refine wpFor_fs (rgI rs.length) PyData.int (fun e => if isUnit rs e = true then some (.int e) else none) (fun ρ => ∃ x y, ρ = [some (.im (tR rs)), some (.im (tI (rgI rs.length))), x, y]) ⟨_, _, rfl⟩ (fun e he ρ K B hI hq hk => ?_) (fun v hv => ?_) (fun hn ρ hI => ?_)
  · obtain ⟨x, y, rfl⟩ := hI
    obtain ⟨e0, e1⟩ := mem_rgI.mp he
    walk_at "dd"
    refine ixR e0 e1 ?_
    refine ⟨shaped_tI _, shaped_tI _, ?_⟩
    rw [eqv_tI]
    refine ite_ways (fun z => ?_) (fun z => hk ?_ _ ⟨_, _, rfl⟩)
    · refine wpLc_mapL rs tI (fun r => .int (r.getD e.toNat 0)) (by omega) rfl (fun r hr' K' hK => ?_) (fun _ => rfl) ?_
      · walk_at "dd"
        exact ixI e0 (by rw [(hr.row r hr').1]; exact e1) (hK _ rfl)
      · walk_at "dd"
        rw [show (PyData.tuple (rs.map fun r => PyData.int (r.getD e.toNat 0))) = tI (rs.map fun r => r.getD e.toNat 0) from by unfold tI; simp]
        refine ⟨shaped_tI _, shaped_tI _, ?_⟩
        rw [eqv_tI]
        have iu : isUnit rs e = decide (rs.map (fun r => r.getD e.toNat 0) = rgI rs.length) := by unfold isUnit; rw [z]; simp
        refine ite_ways (fun z2 => hq _ ?_) (fun z2 => hk ?_ _ ⟨_, _, rfl⟩)
        · rw [iu, z2]; rfl
        · rw [iu, z2]; rfl
    · have iu : isUnit rs e = false := by unfold isUnit; rw [z]; rfl
      rw [iu]; rfl
  · rw [fs_find] at hv
    unfold unitOf at h
    cases hu : (rgI rs.length).find? (isUnit rs) with
    | none => rw [hu] at hv; cases hv
    | some u => rw [hu] at hv h; cases hv; exact h
  · rw [fs_find] at hn
    unfold unitOf at h
    cases hu : (rgI rs.length).find? (isUnit rs) with
    | none => rw [hu] at h; exact h
    | some u => rw [hu] at hn; cases hn
theorem v_back_of : VD g_back_of S_back_of 3 2 := fun ds Q _ h => by
  obtain ⟨rs, u, t, rfl, hr, t0, t1, h⟩ := h
  unfold g_back_of
  walk_at "dd"
  refine ixR t0 t1 ?_
  walk_at "dd"
  rw [enD_map (rs.getD t.toNat []) PyData.int 0, hr.len t0 t1]
  refine wpFor_fs (rgI rs.length) (fun k => .tuple [.int k, .int (rc rs t k)]) (fun b => if (decide (rc rs t b = u) && decide (rc rs b t = u)) = true then some (.int b) else none) (fun ρ => ∃ x y, ρ = [some (.im (tR rs)), some (.im (.int u)), some (.im (.int t)), x, y]) ⟨_, _, rfl⟩ (fun b hb ρ K B hI hq hk => ?_) (fun v hv => ?_) (fun hn ρ hI => ?_)
  · obtain ⟨x, y, rfl⟩ := hI
    obtain ⟨b0, b1⟩ := mem_rgI.mp hb
    walk_at "dd"
    refine ⟨rfl, rfl, ?_⟩
    simp only [PyData.eqv]
    refine ite_ways (fun z => ?_) (fun z => hk ?_ _ ⟨_, _, rfl⟩)
    · refine ixRC hr b0 b1 t0 t1 ?_
      refine ⟨rfl, rfl, ?_⟩
      simp only [PyData.eqv]
      have z' : rc rs t b = u := by simpa using z
      refine ite_ways (fun z2 => hq _ ?_) (fun z2 => hk ?_ _ ⟨_, _, rfl⟩)
      · rw [if_pos (by simpa [z'] using z2)]
      · rw [if_neg (by simpa [z'] using z2)]
    · rw [if_neg (by intro q; simp at q z; exact z q.1)]
  · rw [fs_find] at hv
    unfold backOf at h
    cases hu : (rgI rs.length).find? (fun b => decide (rc rs t b = u) && decide (rc rs b t = u)) with
    | none => rw [hu] at hv; cases hv
    | some u => rw [hu] at hv h; cases hv; exact h
  · rw [fs_find] at hn
    unfold backOf at h
    cases hu : (rgI rs.length).find? (fun b => decide (rc rs t b = u) && decide (rc rs b t = u)) with
    | none => rw [hu] at h; exact h
    | some u => rw [hu] at hn; cases hn
theorem v_broken_three : VD g_broken_three S_broken_three 1 6 := fun ds Q _ h => by
  obtain ⟨rs, rfl, hr, h⟩ := h
  unfold g_broken_three
  walk_at "dd"
  rw [enD_map rs tI []]
  refine wpFor_fs (rgI rs.length) (fun k => .tuple [.int k, tI (rs.getD k.toNat [])]) (fun a => (rgI rs.length).findSome? fun b => (rgI rs.length).findSome? fun c => if rc rs (rc rs a b) c ≠ rc rs a (rc rs b c) then some (.tuple [.int a, .int b, .int c]) else none) (fun ρ => ∃ x1 x2 x3 x4 x5 x6, ρ = [some (.im (tR rs)), x1, x2, x3, x4, x5, x6]) ⟨_, _, _, _, _, _, rfl⟩ (fun a ha ρ K B hI hq hk => ?_) (fun v hv => ?_) (fun hn ρ hI => ?_)
  · obtain ⟨x1, x2, x3, x4, x5, x6, rfl⟩ := hI
    obtain ⟨a0, a1⟩ := mem_rgI.mp ha
    walk_at "dd"
    rw [enD_map (rs.getD a.toNat []) PyData.int 0, hr.len a0 a1]
    refine wpFor_fs (rgI rs.length) (fun k => .tuple [.int k, .int (rc rs a k)]) (fun b => (rgI rs.length).findSome? fun c => if rc rs (rc rs a b) c ≠ rc rs a (rc rs b c) then some (.tuple [.int a, .int b, .int c]) else none) (fun ρ => ∃ x3 x4 x5 x6, ρ = [some (.im (tR rs)), some (.im (.int a)), some (.im (tI (rs.getD a.toNat []))), x3, x4, x5, x6]) ⟨_, _, _, _, rfl⟩ (fun b hb ρ K B hI hq hk => ?_) (fun v hv => hq v hv) (fun hn ρ hI => ?_)
    · obtain ⟨x3, x4, x5, x6, rfl⟩ := hI
      obtain ⟨b0, b1⟩ := mem_rgI.mp hb
      walk_at "dd"
      refine ixR b0 b1 ?_
      walk_at "dd"
      rw [enD_map (rs.getD b.toNat []) PyData.int 0, hr.len b0 b1]
      refine wpFor_fs (rgI rs.length) (fun k => .tuple [.int k, .int (rc rs b k)]) (fun c => if rc rs (rc rs a b) c ≠ rc rs a (rc rs b c) then some (.tuple [.int a, .int b, .int c]) else none) (fun ρ => ∃ x5 x6, ρ = [some (.im (tR rs)), some (.im (.int a)), some (.im (tI (rs.getD a.toNat []))), some (.im (.int b)), some (.im (.int (rc rs a b))), x5, x6]) ⟨_, _, rfl⟩ (fun c hc ρ K B hI hq hk => ?_) (fun v hv => hq v hv) (fun hn ρ hI => ?_)
      · obtain ⟨x5, x6, rfl⟩ := hI
        obtain ⟨c0, c1⟩ := mem_rgI.mp hc
        walk_at "dd"
        obtain ⟨p0, p1⟩ := hr.rc a0 a1 b0 b1
        obtain ⟨q0, q1⟩ := hr.rc b0 b1 c0 c1
        refine ixRC hr p0 p1 c0 c1 ?_
        refine ixI q0 (by rw [hr.len a0 a1]; exact q1) ?_
        refine ⟨rfl, rfl, ?_⟩
        simp only [PyData.eqv]
        refine ite_ways (fun z => ⟨by decide, hq _ (if_pos (by simpa [rc] using z))⟩) (fun z => hk (if_neg (by simpa [rc] using z)) _ ⟨_, _, rfl⟩)
      · obtain ⟨x5, x6, rfl⟩ := hI
        exact hk hn _ ⟨_, _, _, _, rfl⟩
    · obtain ⟨x3, x4, x5, x6, rfl⟩ := hI
      exact hk hn _ ⟨_, _, _, _, _, _, rfl⟩
  · unfold threeOf at h
    rw [hv] at h; exact h
  · unfold threeOf at h
    rw [hn] at h; exact h
theorem noBack_fs {rs : List (List Int)} {u : Int} : (rgI rs.length).findSome? (fun a => if (backOf rs u a).isNone = true then some (PyData.tuple [.str "back", .int a]) else none) = (noBack rs u).map fun a => .tuple [.str "back", .int a] := fs_find _ _ _
theorem optD_isN (o : Option Int) : isN (optD o) = o.isNone := by cases o <;> rfl
theorem v_group_paper : VD g_group_paper S_group_paper 1 3 := fun ds Q _ h => by
  obtain ⟨rs, rfl, hr, h⟩ := h
  have h1 := hr.pos
  have h2 := hr.most
  unfold g_group_paper
  walk_at "dd"
  refine ⟨rs, rfl, hr, ?_⟩
  refine ⟨rs, rfl, hr, ?_⟩
  dsimp only
  rw [optD_isN]
  unfold faultOf at h
  cases hu : unitOf rs with
  | none =>
    rw [hu] at h
    walk_at "dd"
    exact ⟨by decide, h⟩
  | some u =>
    rw [hu] at h
    dsimp only at h
    walk_at "dd"
    refine ⟨⟨by omega, by omega, by omega, by omega⟩, ?_⟩
    refine wpFor_fs (rgI rs.length) PyData.int (fun a => if (backOf rs u a).isNone = true then some (PyData.tuple [.str "back", .int a]) else none) (fun ρ => ∃ x y, ρ = [some (.im (tR rs)), some (.im (.int u)), x, y]) ⟨_, _, rfl⟩ (fun a ha ρ K B hI hq hk => ?_) (fun v hv => ?_) (fun hn ρ hI => ?_)
    · obtain ⟨x, y, rfl⟩ := hI
      obtain ⟨a0, a1⟩ := mem_rgI.mp ha
      walk_at "dd"
      refine ⟨rs, u, a, rfl, hr, a0, a1, ?_⟩
      dsimp only
      rw [optD_isN]
      refine ite_ways (fun z => ⟨by decide, hq _ (if_pos z)⟩) (fun z => hk (if_neg (by rw [z]; simp)) _ ⟨_, _, rfl⟩)
    · rw [noBack_fs] at hv
      cases hb : noBack rs u with
      | none => rw [hb] at hv; cases hv
      | some a => rw [hb] at hv h; cases hv; exact h
    · rw [noBack_fs] at hn
      obtain ⟨x, y, rfl⟩ := hI
      cases hb : noBack rs u with
      | some a => rw [hb] at hn; cases hn
      | none =>
        rw [hb] at h
        dsimp only at h
        walk_at "dd"
        refine ⟨rs, rfl, hr, ?_⟩
        cases ht : threeOf rs with
        | none =>
          rw [ht] at h
          exact ⟨by decide, h⟩
        | some t =>
          rw [ht] at h
          obtain ⟨a, b, c, rfl⟩ : ∃ a b c, t = .tuple [.int a, .int b, .int c] := by
            unfold threeOf at ht
            obtain ⟨a, _, ht⟩ := List.exists_of_findSome?_eq_some ht
            obtain ⟨b, _, ht⟩ := List.exists_of_findSome?_eq_some ht
            obtain ⟨c, _, ht⟩ := List.exists_of_findSome?_eq_some ht
            split at ht
            · cases ht; exact ⟨a, b, c, rfl⟩
            · cases ht
          exact ⟨by decide, by simp, h⟩
end Dn
set_option Elab.async false
set_option linter.all false
set_option maxRecDepth 100000
set_option autoImplicit false
set_option maxHeartbeats 4000000
namespace Dn
open PySem L2 Evl PySem.Spec PyProof.Rows
local macro_rules | `(tactic| walk_at "dd") => `(tactic| simp only [sSeq, sIf, sSet, sRet, sRetN, sNx, sEx, sAsg, sPar, dTOr, dTAnd, dTNot, dTst, dIsi, dVar, dC, dBin, dChain, dNeg, dI2, dAnd, dOr, dNot, dIfE, dCall, dCallF, aCons, aNil, dTup, lLst, dOfL, xIm, xOw, gNm, gTp, gsCons, gsNil, dYes, envD, dLen_tR, dLen_tI, dLen_tup, dLen_lst, seq_tR, seq_tI, seq_tup, seq_lst, dIs, dIsNot, dNe, dEq, dTupOf, dSl, oNone, oSome, iSq, iEn, iR1, iR2, sFor, lLc, sNever, dTRg, rg1, rg2, lRg, wipeD, optD,
  dIxP, sSub, dApp, dPopAt, dExt, dCallM, dCallO, dBinO, dTupO, lOf, lOfO, sRetO, iOw, dVarF, lCat, lCall, dAbs, dMax2, dMin2, dInt, atO, setO, MO.getL, MO.putL, Option.isSome_some,
  dInK, dGetK, dGetD, dInD, dGet1, lKeys, lSort, dLenSet, dRevT, sPutK, xDct, xDct1, sRetK, atK, keyD, sAugI,
  kit_int, kit_bool, kit_tuple, kit_str, List.map_cons, List.map_nil, List.cons_append, List.nil_append, List.replicate, List.set_cons_zero, List.set_cons_succ, List.getElem?_cons_zero, List.getElem?_cons_succ, List.length_cons, List.length_nil, List.length_map, Nat.reduceAdd, Nat.reduceSub, Bool.not_true, Bool.not_false, Bool.false_eq_true, if_true, if_false, true_and, reduceCtorEq, Bool.true_eq_false, rgD_rgI, Option.some.injEq, exists_eq_left', and_true])
theorem isTh_out {n : Int} {d : D} (h : isTh n d = true) : ∃ i, d = .int i ∧ 0 ≤ i ∧ i < n := by
  cases d <;> simp only [isTh, Bool.and_eq_true, decide_eq_true_eq, reduceCtorEq, Bool.false_eq_true] at h
  exact ⟨_, rfl, h.2.1, h.2.2⟩
theorem told_three {s : Str} {n : Int} {d : D} (h : isTold s 3 n d = true) : ∃ x a b c, d = .tuple [x, .int a, .int b, .int c] ∧ (0 ≤ a ∧ a < n) ∧ (0 ≤ b ∧ b < n) ∧ 0 ≤ c ∧ c < n := by
  cases d with
  | tuple xs =>
    match xs, h with
    | x :: r, h =>
      simp only [isTold, isRow, Bool.and_eq_true, decide_eq_true_eq] at h
      obtain ⟨h1, _, _, h2⟩ := h
      match r, h1, h2 with
      | [p, q, t], _, h2 =>
        simp only [List.all_cons, List.all_nil, Bool.and_eq_true] at h2
        obtain ⟨a, rfl, a0, a1⟩ := isTh_out h2.1
        obtain ⟨b, rfl, b0, b1⟩ := isTh_out h2.2.1
        obtain ⟨c, rfl, c0, c1⟩ := isTh_out h2.2.2.1
        exact ⟨x, a, b, c, rfl, ⟨a0, a1⟩, ⟨b0, b1⟩, c0, c1⟩
      | [], h1, _ => simp at h1
      | [_], h1, _ => simp at h1
      | [_, _], h1, _ => simp at h1
      | _ :: _ :: _ :: _ :: _, h1, _ => simp at h1; omega
    | [], h => simp [isTold] at h
  | _ => simp [isTold] at h
theorem told_back {s : Str} {n : Int} {d : D} (h : isTold s 1 n d = true) : ∃ x a, d = .tuple [x, .int a] ∧ 0 ≤ a ∧ a < n := by
  cases d with
  | tuple xs =>
    match xs, h with
    | x :: r, h =>
      simp only [isTold, isRow, Bool.and_eq_true, decide_eq_true_eq] at h
      obtain ⟨h1, _, _, h2⟩ := h
      match r, h1, h2 with
      | [p], _, h2 =>
        simp only [List.all_cons, List.all_nil, Bool.and_eq_true] at h2
        obtain ⟨a, rfl, a0, a1⟩ := isTh_out h2.1
        exact ⟨x, a, rfl, a0, a1⟩
      | [], h1, _ => simp at h1
      | _ :: _ :: _, h1, _ => simp at h1; omega
    | [], h => simp [isTold] at h
  | _ => simp [isTold] at h
theorem unit_in {rs : List (List Int)} {u : Int} (h : unitOf rs = some u) : 0 ≤ u ∧ u < rs.length := mem_rgI.mp (List.mem_of_find?_eq_some h)
theorem fault_grp (rs : List (List Int)) : SeqAt.shaped (faultOf rs) = true ∧ PyData.eqv (faultOf rs) (.tuple [.str "group"]) = isGrp rs := by
  unfold faultOf isGrp
  cases unitOf rs with
  | none =>
    show SeqAt.shaped (.tuple [.str "unit"]) = true ∧ PyData.eqv (.tuple [.str "unit"]) (.tuple [.str "group"]) = false
    exact ⟨by decide +kernel, by decide +kernel⟩
  | some u =>
    dsimp only
    cases noBack rs u with
    | some a => exact ⟨by simp [SeqAt.shaped, PyData.canLay0, PyData.canLayAll0, PyData.depth, PyData.depthAll]; decide +kernel, by simp [PyData.eqv, PyData.eqvAll]⟩
    | none =>
      dsimp only
      cases ht : threeOf rs with
      | none =>
        show SeqAt.shaped (.tuple [.str "group"]) = true ∧ PyData.eqv (.tuple [.str "group"]) (.tuple [.str "group"]) = true
        exact ⟨by decide +kernel, by decide +kernel⟩
      | some t =>
        obtain ⟨a, b, c, rfl⟩ : ∃ a b c, t = .tuple [.int a, .int b, .int c] := by
          unfold threeOf at ht
          obtain ⟨a, _, ht⟩ := List.exists_of_findSome?_eq_some ht
          obtain ⟨b, _, ht⟩ := List.exists_of_findSome?_eq_some ht
          obtain ⟨c, _, ht⟩ := List.exists_of_findSome?_eq_some ht
          split at ht
          · cases ht; exact ⟨a, b, c, rfl⟩
          · cases ht
        exact ⟨by simp [SeqAt.shaped, PyData.canLay0, PyData.canLayAll0, PyData.depth, PyData.depthAll]; decide +kernel, by simp [PyData.eqv, PyData.eqvAll]⟩
theorem v_is_group_paper : VD g_is_group_paper S_is_group_paper 2 5 := fun ds Q _ h => by
  obtain ⟨rs, d, rfl, hr, hd, h⟩ := h
  unfold g_is_group_paper
  walk_at "dd"
  refine ⟨rs, rfl, hr, d, "three", 3, rs.length, rfl, ⟨by omega, by have := hr.most; omega⟩, hd, by decide +kernel, ?_⟩
  unfold isPaper at h
  refine ite_ways (fun z => ?_) (fun z => ?_)
  · rw [if_pos z] at h
    obtain ⟨x, a, b, c, rfl, ⟨a0, a1⟩, ⟨b0, b1⟩, c0, c1⟩ := told_three z
    walk_at "dd"
    obtain ⟨p0, p1⟩ := hr.rc a0 a1 b0 b1
    obtain ⟨q0, q1⟩ := hr.rc b0 b1 c0 c1
    refine ixRC hr a0 a1 b0 b1 (ixRC hr p0 p1 c0 c1 (ixR a0 a1 (ixRC hr b0 b1 c0 c1 (ixI q0 (by rw [hr.len a0 a1]; exact q1) ?_))))
    refine ⟨rfl, rfl, ?_⟩
    have e : (!PyData.eqv (PyData.int (rc rs (rc rs a b) c)) (PyData.int ((rs.getD a.toNat []).getD (rc rs b c).toNat 0))) = decide (rc rs (rc rs a b) c ≠ rc rs a (rc rs b c)) := by
      simp only [PyData.eqv]
      show (!(rc rs (rc rs a b) c == rc rs a (rc rs b c))) = _
      by_cases z : rc rs (rc rs a b) c = rc rs a (rc rs b c) <;> simp [z]
    rw [e]; exact h
  · rw [if_neg (by rw [z]; simp)] at h
    refine ⟨rs, rfl, hr, d, "back", 1, rs.length, rfl, ⟨by omega, by have := hr.most; omega⟩, hd, by decide +kernel, ?_⟩
    refine ite_ways (fun z2 => ?_) (fun z2 => ?_)
    · rw [if_pos z2] at h
      obtain ⟨x, a, rfl, a0, a1⟩ := told_back z2
      try dsimp only
      rw [optD_isN]
      cases hu : unitOf rs with
      | none => rw [hu] at h; exact h
      | some u =>
        rw [hu] at h
        dsimp only at h
        walk_at "dd"
        refine ⟨.int a, rfl, rs, u, a, rfl, hr, a0, a1, ?_⟩
        try dsimp only
        rw [optD_isN]
        exact h
    · rw [if_neg (by rw [z2]; simp)] at h
      refine ⟨by decide, .inr ⟨d, "unit", rfl, hd, by decide +kernel, ?_⟩⟩
      refine ite_ways (fun z3 => ?_) (fun z3 => ?_)
      · rw [if_pos z3] at h
        try dsimp only
        rw [optD_isN]
        exact h
      · rw [if_neg (by rw [z3]; simp)] at h
        refine ⟨by decide, .inr ⟨d, "group", rfl, hd, by decide +kernel, ?_⟩⟩
        refine bool_ways (fun z4 => ?_) (fun z4 => ?_)
        · rw [z4] at h
          refine ⟨rs, rfl, hr, ?_⟩
          refine ⟨by decide, (fault_grp rs).1, by decide +kernel, ?_⟩
          rw [(fault_grp rs).2]
          exact h
        · rw [z4] at h; exact h
end Dn
set_option Elab.async false
set_option linter.all false
set_option maxRecDepth 100000
set_option autoImplicit false
set_option maxHeartbeats 4000000
namespace Dn
open PySem L2 Evl PySem.Spec PyProof.Rows
local macro_rules | `(tactic| walk_at "dd") => `(tactic| simp only [sSeq, sIf, sSet, sRet, sRetN, sNx, sEx, sAsg, sPar, dTOr, dTAnd, dTNot, dTst, dIsi, dVar, dC, dBin, dChain, dNeg, dI2, dAnd, dOr, dNot, dIfE, dCall, dCallF, aCons, aNil, dTup, lLst, dOfL, xIm, xOw, gNm, gTp, gsCons, gsNil, dYes, envD, dLen_tR, dLen_tI, dLen_tup, dLen_lst, seq_tR, seq_tI, seq_tup, seq_lst, dIs, dIsNot, dNe, dEq, dTupOf, dSl, oNone, oSome, iSq, iEn, iR1, iR2, sFor, lLc, sNever, dTRg, rg1, rg2, lRg, wipeD, optD,
  dIxP, sSub, dApp, dPopAt, dExt, dCallM, dCallO, dBinO, dTupO, lOf, lOfO, sRetO, iOw, dVarF, lCat, lCall, dAbs, dMax2, dMin2, dInt, atO, setO, MO.getL, MO.putL, Option.isSome_some,
  dInK, dGetK, dGetD, dInD, dGet1, lKeys, lSort, dLenSet, dRevT, sPutK, xDct, xDct1, sRetK, atK, keyD, sAugI,
  kit_int, kit_bool, kit_tuple, kit_str, List.map_cons, List.map_nil, List.cons_append, List.nil_append, List.replicate, List.set_cons_zero, List.set_cons_succ, List.getElem?_cons_zero, List.getElem?_cons_succ, List.length_cons, List.length_nil, List.length_map, Nat.reduceAdd, Nat.reduceSub, Bool.not_true, Bool.not_false, Bool.false_eq_true, if_true, if_false, true_and, reduceCtorEq, Bool.true_eq_false, rgD_rgI, Option.some.injEq, exists_eq_left', and_true])

end Dn
set_option Elab.async false
set_option linter.all false
set_option maxRecDepth 100000
set_option autoImplicit false
set_option maxHeartbeats 4000000
namespace Dn
open PySem L2 Evl PySem.Spec PyProof.Rows
local macro_rules | `(tactic| walk_at "dd") => `(tactic| simp only [sSeq, sIf, sSet, sRet, sRetN, sNx, sEx, sAsg, sPar, dTOr, dTAnd, dTNot, dTst, dIsi, dVar, dC, dBin, dChain, dNeg, dI2, dAnd, dOr, dNot, dIfE, dCall, dCallF, aCons, aNil, dTup, lLst, dOfL, xIm, xOw, gNm, gTp, gsCons, gsNil, dYes, envD, dLen_tR, dLen_tI, dLen_tup, dLen_lst, seq_tR, seq_tI, seq_tup, seq_lst, dIs, dIsNot, dNe, dEq, dTupOf, dSl, oNone, oSome, iSq, iEn, iR1, iR2, sFor, lLc, sNever, dTRg, rg1, rg2, lRg, wipeD, optD,
  dIxP, sSub, dApp, dPopAt, dExt, dCallM, dCallO, dBinO, dTupO, lOf, lOfO, sRetO, iOw, dVarF, lCat, lCall, dAbs, dMax2, dMin2, dInt, atO, setO, MO.getL, MO.putL, Option.isSome_some,
  dInK, dGetK, dGetD, dInD, dGet1, lKeys, lSort, dLenSet, dRevT, sPutK, xDct, xDct1, sRetK, atK, keyD, sAugI,
  kit_int, kit_bool, kit_tuple, kit_str, List.map_cons, List.map_nil, List.cons_append, List.nil_append, List.replicate, List.set_cons_zero, List.set_cons_succ, List.getElem?_cons_zero, List.getElem?_cons_succ, List.length_cons, List.length_nil, List.length_map, Nat.reduceAdd, Nat.reduceSub, Bool.not_true, Bool.not_false, Bool.false_eq_true, if_true, if_false, true_and, reduceCtorEq, Bool.true_eq_false, rgD_rgI, Option.some.injEq, exists_eq_left', and_true])
theorem v__law_pick : VM g__law_pick S__law_pick 2 0 := fun l ms ds Q _ h => by
  obtain ⟨d, xs, rfl, hd, hn, hl, hm, h⟩ := h
  unfold g__law_pick
  walk_at "dd"
  rw [dLen_seq hd]
  have pos : 0 < xs.length := List.length_pos_iff.mpr hn
  refine ⟨_, rfl, by omega, by simp only [T60]; omega, hm, fun r ms' r0 r1 hm' => ?_⟩
  unfold dIx
  rw [hd]
  dsimp only
  refine ⟨_, atI_in (d := .none) r0 r1, _, rfl, h _ _ (getD_mem (by omega)) hm'⟩
theorem v__law_undone : VD g__law_undone S__law_undone 1 3 := fun ds Q _ h => by
  obtain ⟨m, rfl, hl, hm, h⟩ := h
  unfold g__law_undone
  walk_at "dd"
  refine wpLc_mapL m PyData.int (fun _ => .int 0) (by omega) rfl (fun x hx K hK => ?_) (fun _ => rfl) ?_
  · walk_at "dd"
    exact hK _ rfl
  · walk_at "dd"
    rw [enD_map m PyData.int 0]
    refine wpFor_cps (fun done ρ => ∃ (u : List Int) (x y : Option SV), ρ = [some (SV.im (tI m)), some (SV.ow (MO.lst (u.map PyData.int))), x, y] ∧ u.length = m.length ∧ ∀ x, x ∈ u → 0 ≤ x ∧ x < m.length) ⟨m.map (fun _ => 0), _, _, (by rw [show (m.map fun _ => (0 : Int)).map PyData.int = m.map fun _ => PyData.int 0 from by rw [List.map_map]; rfl]), (by simp), fun x hx => ?_⟩ (fun done d rest ρ K e p k => ?_) (fun ρ p => ?_)
    · obtain ⟨y, hy, rfl⟩ := List.mem_map.mp hx
      have := hm y hy
      omega
    · obtain ⟨u, x, y, rfl, hu, hu2⟩ := p
      have hd : d ∈ (rgI m.length).map fun k => PyData.tuple [.int k, .int (m.getD k.toNat 0)] := by rw [e]; simp
      obtain ⟨k1, hk1, rfl⟩ := List.mem_map.mp hd
      obtain ⟨a0, a1⟩ := mem_rgI.mp hk1
      obtain ⟨g0, g1⟩ := hm _ (getD_mem (l := m) (d := 0) (show k1.toNat < m.length by omega))
      walk_at "dd"
      refine ⟨_, _, (m.getD k1.toNat 0).toNat, rfl, rfl, ?_, ?_⟩
      · unfold ixN
        rw [if_pos g0, if_pos (by simp [hu]; exact g1)]
      · refine k _ ⟨u.set (m.getD k1.toNat 0).toNat k1, _, _, (by rw [List.map_set]), (by simp [hu]), ?_⟩
        intro x hx
        rcases List.mem_or_eq_of_mem_set hx with hx | hx
        · exact hu2 x hx
        · subst hx; exact ⟨a0, a1⟩
    · obtain ⟨u, x, y, rfl, hu, hu2⟩ := p
      walk_at "dd"
      exact h u hu hu2
end Dn
set_option Elab.async false
set_option linter.all false
set_option maxRecDepth 100000
set_option autoImplicit false
set_option maxHeartbeats 4000000
namespace Dn
open PySem L2 Evl PySem.Spec PyProof.Rows
local macro_rules | `(tactic| walk_at "dd") => `(tactic| simp only [sSeq, sIf, sSet, sRet, sRetN, sNx, sEx, sAsg, sPar, dTOr, dTAnd, dTNot, dTst, dIsi, dVar, dC, dBin, dChain, dNeg, dI2, dAnd, dOr, dNot, dIfE, dCall, dCallF, aCons, aNil, dTup, lLst, dOfL, xIm, xOw, gNm, gTp, gsCons, gsNil, dYes, envD, dLen_tR, dLen_tI, dLen_tup, dLen_lst, seq_tR, seq_tI, seq_tup, seq_lst, dIs, dIsNot, dNe, dEq, dTupOf, dSl, oNone, oSome, iSq, iEn, iR1, iR2, sFor, lLc, sNever, dTRg, rg1, rg2, lRg, wipeD, optD,
  dIxP, sSub, dApp, dPopAt, dExt, dCallM, dCallO, dBinO, dTupO, lOf, lOfO, sRetO, iOw, dVarF, lCat, lCall, dAbs, dMax2, dMin2, dInt, atO, setO, MO.getL, MO.putL, Option.isSome_some,
  dInK, dGetK, dGetD, dInD, dGet1, lKeys, lSort, dLenSet, dRevT, sPutK, xDct, xDct1, sRetK, atK, keyD, sAugI,
  kit_int, kit_bool, kit_tuple, kit_str, List.map_cons, List.map_nil, List.cons_append, List.nil_append, List.replicate, List.set_cons_zero, List.set_cons_succ, List.getElem?_cons_zero, List.getElem?_cons_succ, List.length_cons, List.length_nil, List.length_map, Nat.reduceAdd, Nat.reduceSub, Bool.not_true, Bool.not_false, Bool.false_eq_true, if_true, if_false, true_and, reduceCtorEq, Bool.true_eq_false, rgD_rgI, Option.some.injEq, exists_eq_left', and_true])
theorem v__law_places_of : VD g__law_places_of S__law_places_of 2 1 := fun ds Q _ h => by
  obtain ⟨c, s, rfl, hs, hc, h⟩ := h
  unfold g__law_places_of
  try walk_at "dd"
  have hc' : c ≤ 1000 := by
    rcases Nat.lt_or_ge 1000 c with z | z
    · have := Nat.mul_le_mul (Nat.succ_le_of_lt z) hs
      omega
    · exact z
  refine ⟨cm_n (by omega) (by omega), ?_⟩
  rw [show ((c : Int) * s) = ((c * s : Nat) : Int) from by simp, rgD_rgI]
  refine ⟨rgd hc, ?_⟩
  refine wpLc_mapL (rgI (c * s)) PyData.int (fun k => .tuple [.int (k / s), .int (k % s)]) (by rw [rgI_len]; omega) rfl (fun x hx K hK => ?_) (fun _ => rfl) ?_
  · try walk_at "dd"
    have s0 : (0 : Int) < s := by omega
    have s1 : (s : Int) ≤ 1000 := by
      rcases Nat.lt_or_ge 0 c with z | z
      · have := Nat.mul_le_mul z (Nat.le_refl s)
        omega
      · have : c = 0 := by omega
        subst this
        simp [rgI] at hx
    exact ⟨cd_t s0 (by omega), s0, by decide, hK _ rfl⟩
  · try walk_at "dd"
    exact h
theorem rows_l {l : List Int} {n : Nat} (hl : l.length = n) (h1 : 1 ≤ n) (h2 : n ≤ 24) (f : Int → Int → Int) (hf : ∀ a b : Int, a ∈ l → b ∈ l → 0 ≤ f a b ∧ f a b < n) : Rw (l.map fun a => l.map fun b => f a b) := by
  refine ⟨by simp; omega, by simp; omega, fun r hr => ?_⟩
  obtain ⟨a, ha, rfl⟩ := List.mem_map.mp hr
  refine ⟨by simp, fun x hx => ?_⟩
  obtain ⟨b, hb, rfl⟩ := List.mem_map.mp hx
  have := hf a b ha hb
  simp
  omega
theorem rows_of {n : Nat} (h1 : 1 ≤ n) (h2 : n ≤ 24) (f : Int → Int → Int) (hf : ∀ a b : Int, 0 ≤ a → a < n → 0 ≤ b → b < n → 0 ≤ f a b ∧ f a b < n) : Rw ((rgI n).map fun a => (rgI n).map fun b => f a b) :=
  rows_l (rgI_len n) h1 h2 f fun a b ha hb => hf a b (mem_rgI.mp ha).1 (mem_rgI.mp ha).2 (mem_rgI.mp hb).1 (mem_rgI.mp hb).2
theorem tR_l {l : List Int} (f : Int → Int → Int) : PyData.tuple (l.map fun a => .tuple (l.map fun b => .int (f a b))) = tR (l.map fun a => l.map fun b => f a b) := by
  unfold tR tI
  simp only [List.map_map, Function.comp_def]
theorem v__law_cyclic : VD g__law_cyclic S__law_cyclic 1 2 := fun ds Q _ h => by
  obtain ⟨n, rfl, h1, h2, h⟩ := h
  unfold g__law_cyclic
  try walk_at "dd"
  refine ⟨rgd (by omega), ?_⟩
  refine wpLc_mapL (rgI n) PyData.int (fun a => .tuple ((rgI n).map fun b => .int ((a + b) % n))) (by rw [rgI_len]; omega) rfl (fun a ha K hK => ?_) (fun _ => rfl) ?_
  · try walk_at "dd"
    refine ⟨rgd (by omega), ?_⟩
    refine wpLc_mapL (rgI n) PyData.int (fun b => .int ((a + b) % n)) (by rw [rgI_len]; omega) rfl (fun b hb K hK => ?_) (fun _ => rfl) ?_
    · try walk_at "dd"
      exact ⟨(show (0:Int) < n by omega), hK _ rfl⟩
    · try walk_at "dd"
      exact hK _ rfl
  · try walk_at "dd"
    rw [tR_l fun a b => (a + b) % n]
    refine h _ (rows_of h1 h2 _ fun a b _ _ _ _ => ⟨Int.emod_nonneg _ (by omega), Int.emod_lt_of_pos _ (by omega)⟩) (by simp [rgI_len])
theorem v__law_direct : VD g__law_direct S__law_direct 2 0 := fun ds Q _ h => by
  obtain ⟨rs1, rs2, rfl, h1, h2, hl, h⟩ := h
  unfold g__law_direct
  try walk_at "dd"
  refine ⟨rs1, rs2, rfl, h1, h2, hl, fun C hC hl => ?_⟩
  try walk_at "dd"
  exact h C hC hl
theorem dv_ok {k : Int} {c s : Nat} (hk : k ∈ rgI (c * s)) (h : 1 ≤ s) : (0 ≤ k / s ∧ k / s < c) ∧ 0 ≤ k % s ∧ k % s < s := by
  obtain ⟨k0, k1⟩ := mem_rgI.mp hk
  have s0 : (0 : Int) < s := by omega
  exact ⟨⟨Int.ediv_nonneg k0 (by omega), Int.ediv_lt_of_lt_mul s0 (by simpa using k1)⟩, Int.emod_nonneg _ (by omega), Int.emod_lt_of_pos _ s0⟩
theorem lt_mul {x y c s : Int} (h0 : 0 ≤ x) (h1 : x < c) (h2 : 0 ≤ y) (h3 : y < s) : 0 ≤ x * s + y ∧ x * s + y < c * s := by
  have a := Int.mul_nonneg h0 (show (0 : Int) ≤ s by omega)
  have b := Int.mul_le_mul_of_nonneg_right (show x + 1 ≤ c by omega) (show (0 : Int) ≤ s by omega)
  rw [Int.add_mul] at b
  omega
theorem v__law_product_dots : VD g__law_product_dots S__law_product_dots 2 9 := fun ds Q _ h => by
  obtain ⟨A, C, rfl, hA, hC, hl, h⟩ := h
  have a1 := hA.pos
  have c1 := hC.pos
  unfold g__law_product_dots
  try walk_at "dd"
  refine ⟨by decide, A.length, C.length, rfl, c1, by omega, ?_⟩
  dsimp only
  refine ⟨_, rfl, ?_⟩
  refine wpFor_ap (rgI (A.length * C.length)) (fun k => .tuple [.int (k / C.length), .int (k % C.length)]) (fun k => tI ((rgI (A.length * C.length)).map fun j => rc A (k / C.length) (j / C.length) * C.length + rc C (k % C.length) (j % C.length))) (fun acc ρ => ∃ x1 x2 x3 x4 x5 x6, ρ = [some (.im (tR A)), some (.im (tR C)), some (.im (.int C.length)), some (.ow (.lst acc)), some (.im (.list ((rgI (A.length * C.length)).map fun k => .tuple [.int (k / C.length), .int (k % C.length)]))), x1, x2, x3, x4, x5, x6]) ⟨_, _, _, _, _, _, rfl⟩ (fun k hk acc ρ K p q r => ?_) (fun ρ p => ?_)
  · obtain ⟨x1, x2, x3, x4, x5, x6, rfl⟩ := p
    try walk_at "dd"
    obtain ⟨⟨k0, k1⟩, k2, k3⟩ := dv_ok hk c1
    rw [rgI_len] at q
    refine ixR k0 k1 (ixR k2 k3 ?_)
    refine wpLc_mapL (rgI (A.length * C.length)) (fun k => .tuple [.int (k / C.length), .int (k % C.length)]) (fun j => .int (rc A (k / C.length) (j / C.length) * C.length + rc C (k % C.length) (j % C.length))) (by rw [rgI_len]; omega) rfl (fun j hj K hK => ?_) (fun _ => rfl) ?_
    · try walk_at "dd"
      obtain ⟨⟨j0, j1⟩, j2, j3⟩ := dv_ok hj c1
      refine ixI j0 (by rw [hA.len k0 k1]; exact j1) ?_
      obtain ⟨p0, p1⟩ := hA.rc k0 k1 j0 j1
      have al : A.length ≤ 24 := hA.most
      refine ⟨cm_n p0 (by show rc A _ _ ≤ 1000; omega), ?_⟩
      exact ixI j2 (by rw [hC.len k2 k3]; exact j3) (hK _ rfl)
    · try walk_at "dd"
      refine ⟨by omega, ?_⟩
      rw [show ∀ f : Int → Int, PyData.tuple ((rgI (A.length * C.length)).map fun b => .int (f b)) = tI ((rgI (A.length * C.length)).map f) from fun f => by unfold tI; simp only [List.map_map, Function.comp_def]]
      exact r _ ⟨_, _, _, _, _, _, rfl⟩
  · obtain ⟨x1, x2, x3, x4, x5, x6, rfl⟩ := p
    try walk_at "dd"
    rw [show ∀ f : Int → List Int, (rgI (A.length * C.length)).map (fun b => tI (f b)) = ((rgI (A.length * C.length)).map f).map tI from fun f => by simp only [List.map_map, Function.comp_def]]
    have := Nat.mul_le_mul a1 c1
    refine h _ (rows_of (by omega) hl _ fun a b a0 a1 b0 b1 => ?_) (by simp [rgI_len])
    obtain ⟨⟨k0, k1⟩, k2, k3⟩ := dv_ok (mem_rgI.mpr ⟨a0, a1⟩) c1
    obtain ⟨⟨j0, j1⟩, j2, j3⟩ := dv_ok (mem_rgI.mpr ⟨b0, b1⟩) c1
    obtain ⟨p0, p1⟩ := hA.rc k0 k1 j0 j1
    obtain ⟨q0, q1⟩ := hC.rc k2 k3 j2 j3
    have := lt_mul p0 p1 q0 q1
    simpa using this
theorem v__law_renamed_group : VD g__law_renamed_group S__law_renamed_group 2 3 := fun ds Q _ h => by
  obtain ⟨rs, m, rfl, hr, hp, h⟩ := h
  have r1 := hr.pos
  have r2 := hr.most
  have ml : m.length = rs.length := by rw [hp.length_eq, rgI_len]
  have mm : ∀ x, x ∈ m → 0 ≤ x ∧ x < rs.length := fun x hx => mem_rgI.mp (hp.mem_iff.mp hx)
  unfold g__law_renamed_group
  try walk_at "dd"
  refine ⟨m, rfl, by omega, by rw [ml]; exact mm, fun u hu hu2 => ?_⟩
  rw [ml] at hu hu2
  try walk_at "dd"
  refine wpLc_mapL m PyData.int (fun a => .tuple (m.map fun b => .int (u.getD (rc rs a b).toNat 0))) (by omega) rfl (fun a ha K hK => ?_) (fun _ => rfl) ?_
  · try walk_at "dd"
    refine wpLc_mapL m PyData.int (fun b => .int (u.getD (rc rs a b).toNat 0)) (by omega) rfl (fun b hb K hK => ?_) (fun _ => rfl) ?_
    · try walk_at "dd"
      obtain ⟨a0, a1⟩ := mm a ha
      obtain ⟨b0, b1⟩ := mm b hb
      obtain ⟨p0, p1⟩ := hr.rc a0 a1 b0 b1
      exact ixRC hr a0 a1 b0 b1 (ixI p0 (by rw [hu]; exact p1) (hK _ rfl))
    · try walk_at "dd"
      exact hK _ rfl
  · try walk_at "dd"
    rw [tR_l fun a b => u.getD (rc rs a b).toNat 0]
    refine h _ (rows_l ml r1 r2 _ fun a b ha hb => ?_) (by simp [ml])
    obtain ⟨a0, a1⟩ := mm a ha
    obtain ⟨b0, b1⟩ := mm b hb
    obtain ⟨p0, p1⟩ := hr.rc a0 a1 b0 b1
    exact hu2 _ (getD_mem (by omega))
theorem v__law_turned_pairs : VD g__law_turned_pairs S__law_turned_pairs 1 5 := fun ds Q _ h => by
  obtain ⟨n, rfl, h1, h2, h⟩ := h
  unfold g__law_turned_pairs
  try walk_at "dd"
  refine ⟨by decide, cm_n (by decide) (by decide), ?_⟩
  rw [show ((2 : Int) * n) = ((2 * n : Nat) : Int) from by simp, rgD_rgI]
  refine ⟨rgd (by omega), ?_⟩
  refine wpFor_ap (rgI (2 * n)) PyData.int (fun a => tI ((rgI (2 * n)).map fun b => (a / 2 + (if a % 2 = 0 then b / 2 else (n : Int) - b / 2)) % n * 2 + (a + b) % 2)) (fun acc ρ => ∃ x1 x2 x3 x4, ρ = [some (.im (.int n)), some (.ow (.lst acc)), x1, x2, x3, x4]) ⟨_, _, _, _, rfl⟩ (fun a ha acc ρ K p q r => ?_) (fun ρ p => ?_)
  · obtain ⟨x1, x2, x3, x4, rfl⟩ := p
    try walk_at "dd"
    refine ⟨by decide, cm_n (by decide) (by decide), ?_⟩
    rw [show ((2 : Int) * n) = ((2 * n : Nat) : Int) from by simp, rgD_rgI]
    refine ⟨rgd (by omega), ?_⟩
    refine wpFor_ap (rgI (2 * n)) PyData.int (fun b => .int ((a / 2 + (if a % 2 = 0 then b / 2 else (n : Int) - b / 2)) % n * 2 + (a + b) % 2)) (fun acc2 ρ => ∃ x3 x4, ρ = [some (.im (.int n)), some (.ow (.lst acc)), some (.im (.int a)), some (.ow (.lst acc2)), x3, x4]) ⟨_, _, rfl⟩ (fun b hb acc2 ρ K p q2 r2 => ?_) (fun ρ p => ?_)
    · obtain ⟨x3, x4, rfl⟩ := p
      try walk_at "dd"
      rw [rgI_len] at q2
      simp only [PyData.eqv, beq_iff_eq]
      refine ⟨by decide, rfl, rfl, ?_⟩
      by_cases z : a % 2 = 0
      · rw [if_pos z]
        simp only [if_pos z] at r2
        exact ⟨cd_t (by decide) (by decide), cd_t (by decide) (by decide), (show (0:Int) < n by omega), cm_r ⟨by decide, by decide⟩, (show (0:Int) < 2 by decide), by omega, r2 _ ⟨_, _, rfl⟩⟩
      · rw [if_neg z]
        simp only [if_neg z] at r2
        exact ⟨cd_t (by decide) (by decide), cd_t (by decide) (by decide), (show (0:Int) < n by omega), cm_r ⟨by decide, by decide⟩, (show (0:Int) < 2 by decide), by omega, r2 _ ⟨_, _, rfl⟩⟩
    · obtain ⟨x3, x4, rfl⟩ := p
      try walk_at "dd"
      rw [rgI_len] at q
      refine ⟨by omega, ?_⟩
      rw [show ∀ f : Int → Int, PyData.tuple ((rgI (2 * n)).map fun b => .int (f b)) = tI ((rgI (2 * n)).map f) from fun f => by unfold tI; simp only [List.map_map, Function.comp_def]]
      exact r _ ⟨_, _, _, _, rfl⟩
  · obtain ⟨x1, x2, x3, x4, rfl⟩ := p
    try walk_at "dd"
    rw [show ∀ f : Int → List Int, PyData.tuple ((rgI (2 * n)).map fun b => tI (f b)) = tR ((rgI (2 * n)).map f) from fun f => by unfold tR; simp only [List.map_map, Function.comp_def]]
    refine h _ (rows_of (by omega) (by omega) _ fun a b _ _ _ _ => ?_) (by simp [rgI_len])
    have e1 := Int.emod_nonneg (a / 2 + (if a % 2 = 0 then b / 2 else (n : Int) - b / 2)) (show (n : Int) ≠ 0 by omega)
    have e2 := Int.emod_lt_of_pos (a / 2 + (if a % 2 = 0 then b / 2 else (n : Int) - b / 2)) (show (0 : Int) < n by omega)
    generalize (a / 2 + (if a % 2 = 0 then b / 2 else (n : Int) - b / 2)) % (n : Int) = v at e1 e2 ⊢
    omega
end Dn
set_option Elab.async false
set_option linter.all false
set_option maxRecDepth 100000
set_option autoImplicit false
set_option maxHeartbeats 4000000
namespace Dn
open PySem L2 Evl PySem.Spec PyProof.Rows
local macro_rules | `(tactic| walk_at "dd") => `(tactic| simp only [sSeq, sIf, sSet, sRet, sRetN, sNx, sEx, sAsg, sPar, dTOr, dTAnd, dTNot, dTst, dIsi, dVar, dC, dBin, dChain, dNeg, dI2, dAnd, dOr, dNot, dIfE, dCall, dCallF, aCons, aNil, dTup, lLst, dOfL, xIm, xOw, gNm, gTp, gsCons, gsNil, dYes, envD, dLen_tR, dLen_tI, dLen_tup, dLen_lst, seq_tR, seq_tI, seq_tup, seq_lst, dIs, dIsNot, dNe, dEq, dTupOf, dSl, oNone, oSome, iSq, iEn, iR1, iR2, sFor, lLc, sNever, dTRg, rg1, rg2, lRg, wipeD, optD,
  dIxP, sSub, dApp, dPopAt, dExt, dCallM, dCallO, dBinO, dTupO, lOf, lOfO, sRetO, iOw, dVarF, lCat, lCall, dAbs, dMax2, dMin2, dInt, atO, setO, MO.getL, MO.putL, Option.isSome_some,
  dInK, dGetK, dGetD, dInD, dGet1, lKeys, lSort, dLenSet, dRevT, sPutK, xDct, xDct1, sRetK, atK, keyD, sAugI,
  kit_int, kit_bool, kit_tuple, kit_str, List.map_cons, List.map_nil, List.cons_append, List.nil_append, List.replicate, List.set_cons_zero, List.set_cons_succ, List.getElem?_cons_zero, List.getElem?_cons_succ, List.length_cons, List.length_nil, List.length_map, Nat.reduceAdd, Nat.reduceSub, Bool.not_true, Bool.not_false, Bool.false_eq_true, if_true, if_false, true_and, reduceCtorEq, Bool.true_eq_false, rgD_rgI, Option.some.injEq, exists_eq_left', and_true])
theorem rows_set {rs : List (List Int)} (hr : Rw rs) {a b v : Int} (a0 : 0 ≤ a) (a1 : a < rs.length) (v0 : 0 ≤ v) (v1 : v < rs.length) : Rw (rs.set a.toNat ((rs.getD a.toNat []).set b.toNat v)) := by
  refine ⟨by simp [hr.pos], by simp [hr.most], fun r h => ?_⟩
  simp only [List.length_set]
  rcases List.mem_or_eq_of_mem_set h with h | rfl
  · exact hr.row r h
  · have hm := hr.row _ (getD_mem (d := []) (show a.toNat < rs.length by omega))
    refine ⟨by simpa using hm.1, fun x hx => ?_⟩
    rcases List.mem_or_eq_of_mem_set hx with hx | rfl
    · exact hm.2 x hx
    · exact ⟨v0, v1⟩
end Dn
set_option Elab.async false
set_option linter.all false
set_option maxRecDepth 100000
set_option autoImplicit false
set_option maxHeartbeats 4000000
namespace Dn
open PySem L2 Evl PySem.Spec PyProof.Rows
local macro_rules | `(tactic| walk_at "dd") => `(tactic| simp only [sSeq, sIf, sSet, sRet, sRetN, sNx, sEx, sAsg, sPar, dTOr, dTAnd, dTNot, dTst, dIsi, dVar, dC, dBin, dChain, dNeg, dI2, dAnd, dOr, dNot, dIfE, dCall, dCallF, aCons, aNil, dTup, lLst, dOfL, xIm, xOw, gNm, gTp, gsCons, gsNil, dYes, envD, dLen_tR, dLen_tI, dLen_tup, dLen_lst, seq_tR, seq_tI, seq_tup, seq_lst, dIs, dIsNot, dNe, dEq, dTupOf, dSl, oNone, oSome, iSq, iEn, iR1, iR2, sFor, lLc, sNever, dTRg, rg1, rg2, lRg, wipeD, optD,
  dIxP, sSub, dApp, dPopAt, dExt, dCallM, dCallO, dBinO, dTupO, lOf, lOfO, sRetO, iOw, dVarF, lCat, lCall, dAbs, dMax2, dMin2, dInt, atO, setO, MO.getL, MO.putL, Option.isSome_some,
  dInK, dGetK, dGetD, dInD, dGet1, lKeys, lSort, dLenSet, dRevT, sPutK, xDct, xDct1, sRetK, atK, keyD, sAugI,
  kit_int, kit_bool, kit_tuple, kit_str, List.map_cons, List.map_nil, List.cons_append, List.nil_append, List.replicate, List.set_cons_zero, List.set_cons_succ, List.getElem?_cons_zero, List.getElem?_cons_succ, List.length_cons, List.length_nil, List.length_map, Nat.reduceAdd, Nat.reduceSub, Bool.not_true, Bool.not_false, Bool.false_eq_true, if_true, if_false, true_and, reduceCtorEq, Bool.true_eq_false, rgD_rgI, Option.some.injEq, exists_eq_left', and_true])
theorem cut_lo {ds : List D} {b : Int} (h0 : 0 ≤ b) (h1 : b ≤ ds.length) : cutD ds none (some b) = ds.take b.toNat := by
  unfold cutD HT.sIx
  simp only [List.drop_zero, Nat.sub_zero]
  congr 1
  rw [if_neg (by omega)]
  omega
theorem cut_hi {ds : List D} {b : Int} (h0 : 0 ≤ b) (h1 : b < ds.length) : cutD ds (some (b + 1)) none = ds.drop (b.toNat + 1) := by
  unfold cutD HT.sIx
  dsimp only
  rw [List.take_of_length_le (by simp)]
  congr 1
  have : ¬ b + 1 < 0 := by omega
  rw [if_neg this]
  omega
theorem v__law_with_entry : VD g__law_with_entry S__law_with_entry 4 1 := fun ds Q _ h => by
  obtain ⟨rs, a, b, v, rfl, hr, ⟨a0, a1⟩, ⟨b0, b1⟩, ⟨v0, v1⟩, h⟩ := h
  have r1 := hr.pos
  have r2 := hr.most
  unfold g__law_with_entry
  walk_at "dd"
  have rl := hr.len a0 a1
  have h := h _ (rows_set (b := b) hr a0 a1 v0 v1) (by simp)
  refine ixR a0 a1 ?_
  generalize hrow : rs.getD a.toNat [] = r at rl h
  have e1 : cutD (r.map PyData.int) none (some b) = (r.take b.toNat).map PyData.int := by rw [cut_lo b0 (by simp; omega), List.map_take]
  have e2 : cutD (r.map PyData.int) (some (b + 1)) none = (r.drop (b.toNat + 1)).map PyData.int := by rw [cut_hi b0 (by simp; omega), List.map_drop]
  have e3 : cutD (rs.map tI) none (some a) = (rs.take a.toNat).map tI := by rw [cut_lo a0 (by simp; omega), List.map_take]
  have e4 : cutD (rs.map tI) (some (a + 1)) none = (rs.drop (a.toNat + 1)).map tI := by rw [cut_hi a0 (by simp; omega), List.map_drop]
  have f1 : r.take b.toNat ++ v :: r.drop (b.toNat + 1) = r.set b.toNat v := by rw [List.set_eq_take_append_cons_drop, if_pos (by omega)]
  have f2 : ∀ x, rs.take a.toNat ++ x :: rs.drop (a.toNat + 1) = rs.set a.toNat x := fun x => by rw [List.set_eq_take_append_cons_drop, if_pos (by omega)]
  have g1 : PyData.tuple ((r.take b.toNat).map PyData.int ++ [.int v] ++ (r.drop (b.toNat + 1)).map PyData.int) = tI (r.set b.toNat v) := by rw [← f1]; unfold tI; simp
  have g2 : PyData.tuple ((rs.take a.toNat).map tI ++ [tI (r.set b.toNat v)] ++ (rs.drop (a.toNat + 1)).map tI) = tR (rs.set a.toNat (r.set b.toNat v)) := by rw [← f2]; unfold tR; simp
  unfold tI
  simp only [dAdd]
  rw [e1]
  refine ⟨by decide, by simp; omega, ?_⟩
  refine ixR a0 a1 ?_
  rw [hrow]
  unfold tI
  dsimp only
  rw [e2]
  refine ⟨by simp; omega, ?_⟩
  rw [g1]
  unfold tR
  dsimp only
  rw [e3]
  refine ⟨by decide, by simp; omega, ?_⟩
  rw [e4]
  refine ⟨by simp; omega, ?_⟩
  rw [g2]
  exact h
end Dn
set_option Elab.async false
set_option linter.all false
set_option maxRecDepth 100000
set_option autoImplicit false
set_option maxHeartbeats 4000000
namespace Dn
open PySem L2 Evl PySem.Spec PyProof.Rows
local macro_rules | `(tactic| walk_at "dd") => `(tactic| simp only [sSeq, sIf, sSet, sRet, sRetN, sNx, sEx, sAsg, sPar, dTOr, dTAnd, dTNot, dTst, dIsi, dVar, dC, dBin, dChain, dNeg, dI2, dAnd, dOr, dNot, dIfE, dCall, dCallF, aCons, aNil, dTup, lLst, dOfL, xIm, xOw, gNm, gTp, gsCons, gsNil, dYes, envD, dLen_tR, dLen_tI, dLen_tup, dLen_lst, seq_tR, seq_tI, seq_tup, seq_lst, dIs, dIsNot, dNe, dEq, dTupOf, dSl, oNone, oSome, iSq, iEn, iR1, iR2, sFor, lLc, sNever, dTRg, rg1, rg2, lRg, wipeD, optD,
  dIxP, sSub, dApp, dPopAt, dExt, dCallM, dCallO, dBinO, dTupO, lOf, lOfO, sRetO, iOw, dVarF, lCat, lCall, dAbs, dMax2, dMin2, dInt, atO, setO, MO.getL, MO.putL, Option.isSome_some,
  dInK, dGetK, dGetD, dInD, dGet1, lKeys, lSort, dLenSet, dRevT, sPutK, xDct, xDct1, sRetK, atK, keyD, sAugI,
  kit_int, kit_bool, kit_tuple, kit_str, List.map_cons, List.map_nil, List.cons_append, List.nil_append, List.replicate, List.set_cons_zero, List.set_cons_succ, List.getElem?_cons_zero, List.getElem?_cons_succ, List.length_cons, List.length_nil, List.length_map, Nat.reduceAdd, Nat.reduceSub, Bool.not_true, Bool.not_false, Bool.false_eq_true, if_true, if_false, true_and, reduceCtorEq, Bool.true_eq_false, rgD_rgI, Option.some.injEq, exists_eq_left', and_true])
theorem v__law_near_group : VM g__law_near_group S__law_near_group 2 7 := fun l ms ds Q _ h => by
  obtain ⟨rs, rfl, hr, hm, h⟩ := h
  have r1 := hr.pos
  have r2 := hr.most
  unfold g__law_near_group
  walk_at "dd"
  refine ⟨_, rfl, by decide, by decide, hm, fun way ms1 w0 w1 hm1 => ?_⟩
  try walk_at "dd"
  refine ⟨rfl, rfl, ?_⟩
  by_cases z : way = 0
  · rw [if_pos (by simp [PyData.eqv, z])]
    refine wpLc_all (fun d => ∃ r : List Int, d = tI r ∧ r.length = rs.length ∧ ∀ x, x ∈ r → 0 ≤ x ∧ x < rs.length) (fun ρ => ∃ ms', ρ = [some (.ow (.par l (.lst ms'))), some (.im (tR rs)), some (.im (.int rs.length)), some (.im (tR rs)), some (.im (.int way)), none, none, none, none] ∧ Dc ms') ⟨_, rfl, hm1⟩ (by simp; omega) (fun d hd ρ K i k => ?_) (fun _ => rfl) (fun acc ρ al ag i => ?_)
    · obtain ⟨ms2, rfl, hm2⟩ := i
      try walk_at "dd"
      refine wpLc_all (fun d => ∃ x : Int, d = .int x ∧ 0 ≤ x ∧ x < rs.length) (fun ρ => ∃ ms', ρ = [some (.ow (.par l (.lst ms'))), some (.im (tR rs)), some (.im (.int rs.length)), some (.im (tR rs)), some (.im (.int way)), none, none, some (.im d), none] ∧ Dc ms') ⟨_, rfl, hm2⟩ (by simp; omega) (fun d2 hd ρ K i k => ?_) (fun _ => rfl) (fun acc ρ al ag i => ?_)
      · obtain ⟨ms3, rfl, hm3⟩ := i
        try walk_at "dd"
        exact ⟨_, rfl, by omega, by simp only [T60]; omega, hm3, fun r ms' q0 q1 hm' => k _ _ ⟨r, rfl, q0, q1⟩ ⟨_, rfl, hm'⟩⟩
      · obtain ⟨ms3, rfl, hm3⟩ := i
        obtain ⟨C, rfl, hC⟩ := all_map ag
        try walk_at "dd"
        exact k _ _ ⟨C, rfl, by simpa using al, hC⟩ ⟨_, rfl, hm3⟩
    · obtain ⟨ms2, rfl, hm2⟩ := i
      obtain ⟨C, rfl, hC⟩ := all_map ag
      have cl : C.length = rs.length := by simpa using al
      try walk_at "dd"
      exact ⟨_, rfl, h C _ ⟨by omega, by omega, fun r hr => by rw [cl]; exact hC r hr⟩ hm2⟩
  · rw [if_neg (by simp [PyData.eqv, z])]
    refine ⟨rfl, rfl, ?_⟩
    by_cases z1 : way = 1
    · rw [if_pos (by simp [PyData.eqv, z1])]
      refine ⟨rs.length, rfl, by omega, hm1, fun m ms2 hp hm2 => ?_⟩
      have ml : m.length = rs.length := by rw [hp.length_eq, rgI_len]
      try walk_at "dd"
      refine wpLc_mapL m PyData.int (fun a => tI (rs.getD a.toNat [])) (by omega) rfl (fun a ha K hK => ?_) (fun _ => rfl) ?_
      · obtain ⟨a0, a1⟩ := mem_rgI.mp (hp.mem_iff.mp ha)
        try walk_at "dd"
        exact ixR a0 a1 (hK _ rfl)
      · try walk_at "dd"
        rw [show (PyData.tuple (m.map fun a => tI (rs.getD a.toNat []))) = tR (m.map fun a => rs.getD a.toNat []) from by unfold tR; simp only [List.map_map, Function.comp_def]]
        refine ⟨_, rfl, h _ _ ⟨by simp; omega, by simp; omega, fun r hr' => ?_⟩ hm2⟩
        obtain ⟨a, ha, rfl⟩ := List.mem_map.mp hr'
        obtain ⟨a0, a1⟩ := mem_rgI.mp (hp.mem_iff.mp ha)
        have := hr.row _ (getD_mem (d := []) (show a.toNat < rs.length by omega))
        simpa [ml] using this
    · rw [if_neg (by simp [PyData.eqv, z1])]
      refine ⟨⟨by omega, by omega, by omega, by omega⟩, ?_⟩
      refine wpFor_inv (fun ρ => ∃ ms' C x, ρ = [some (.ow (.par l (.lst ms'))), some (.im (tR rs)), some (.im (.int rs.length)), some (.im (tR C)), some (.im (.int way)), none, x, none, none] ∧ Dc ms' ∧ Rw C ∧ C.length = rs.length) ⟨_, _, _, rfl, hm1, hr, rfl⟩ (fun d hd ρ K i k => ?_) (fun ρ i => ?_)
      · obtain ⟨ms2, C, x, rfl, hm2, hC, cl⟩ := i
        try walk_at "dd"
        refine ⟨_, rfl, by omega, by simp only [T60]; omega, hm2, fun a ms3 a0 a1 hm3 => ?_⟩
        try walk_at "dd"
        refine ⟨_, rfl, by omega, by simp only [T60]; omega, hm3, fun b ms4 b0 b1 hm4 => ?_⟩
        try walk_at "dd"
        refine ⟨_, rfl, by omega, by simp only [T60]; omega, hm4, fun v ms5 v0 v1 hm5 => ?_⟩
        try walk_at "dd"
        exact ⟨C, a, b, v, rfl, hC, by rw [cl]; exact ⟨a0, a1⟩, by rw [cl]; exact ⟨b0, b1⟩, by rw [cl]; exact ⟨v0, v1⟩, fun C2 hC2 cl2 => k _ ⟨_, _, _, rfl, hm5, hC2, by omega⟩⟩
      · obtain ⟨ms2, C, x, rfl, hm2, hC, cl⟩ := i
        try walk_at "dd"
        exact ⟨_, rfl, h C _ hC hm2⟩
end Dn
set_option Elab.async false
set_option linter.all false
set_option maxRecDepth 100000
set_option autoImplicit false
set_option maxHeartbeats 4000000
namespace Dn
open PySem L2 Evl PySem.Spec PyProof.Rows
local macro_rules | `(tactic| walk_at "dd") => `(tactic| simp only [sSeq, sIf, sSet, sRet, sRetN, sNx, sEx, sAsg, sPar, dTOr, dTAnd, dTNot, dTst, dIsi, dVar, dC, dBin, dChain, dNeg, dI2, dAnd, dOr, dNot, dIfE, dCall, dCallF, aCons, aNil, dTup, lLst, dOfL, xIm, xOw, gNm, gTp, gsCons, gsNil, dYes, envD, dLen_tR, dLen_tI, dLen_tup, dLen_lst, seq_tR, seq_tI, seq_tup, seq_lst, dIs, dIsNot, dNe, dEq, dTupOf, dSl, oNone, oSome, iSq, iEn, iR1, iR2, sFor, lLc, sNever, dTRg, rg1, rg2, lRg, wipeD, optD,
  dIxP, sSub, dApp, dPopAt, dExt, dCallM, dCallO, dBinO, dTupO, lOf, lOfO, sRetO, iOw, dVarF, lCat, lCall, dAbs, dMax2, dMin2, dInt, atO, setO, MO.getL, MO.putL, Option.isSome_some,
  dInK, dGetK, dGetD, dInD, dGet1, lKeys, lSort, dLenSet, dRevT, sPutK, xDct, xDct1, sRetK, atK, keyD, sAugI,
  kit_int, kit_bool, kit_tuple, kit_str, List.map_cons, List.map_nil, List.cons_append, List.nil_append, List.replicate, List.set_cons_zero, List.set_cons_succ, List.getElem?_cons_zero, List.getElem?_cons_succ, List.length_cons, List.length_nil, List.length_map, Nat.reduceAdd, Nat.reduceSub, Bool.not_true, Bool.not_false, Bool.false_eq_true, if_true, if_false, true_and, reduceCtorEq, Bool.true_eq_false, rgD_rgI, Option.some.injEq, exists_eq_left', and_true])

end Dn
set_option Elab.async false
set_option linter.all false
set_option maxRecDepth 100000
set_option autoImplicit false
set_option maxHeartbeats 4000000
namespace Dn
open PySem L2 Evl PySem.Spec PyProof.Rows
local macro_rules | `(tactic| walk_at "dd") => `(tactic| simp only [sSeq, sIf, sSet, sRet, sRetN, sNx, sEx, sAsg, sPar, dTOr, dTAnd, dTNot, dTst, dIsi, dVar, dC, dBin, dChain, dNeg, dI2, dAnd, dOr, dNot, dIfE, dCall, dCallF, aCons, aNil, dTup, lLst, dOfL, xIm, xOw, gNm, gTp, gsCons, gsNil, dYes, envD, dLen_tR, dLen_tI, dLen_tup, dLen_lst, seq_tR, seq_tI, seq_tup, seq_lst, dIs, dIsNot, dNe, dEq, dTupOf, dSl, oNone, oSome, iSq, iEn, iR1, iR2, sFor, lLc, sNever, dTRg, rg1, rg2, lRg, wipeD, optD,
  dIxP, sSub, dApp, dPopAt, dExt, dCallM, dCallO, dBinO, dTupO, lOf, lOfO, sRetO, iOw, dVarF, lCat, lCall, dAbs, dMax2, dMin2, dInt, atO, setO, MO.getL, MO.putL, Option.isSome_some,
  dInK, dGetK, dGetD, dInD, dGet1, lKeys, lSort, dLenSet, dRevT, sPutK, xDct, xDct1, sRetK, atK, keyD, sAugI,
  kit_int, kit_bool, kit_tuple, kit_str, List.map_cons, List.map_nil, List.cons_append, List.nil_append, List.replicate, List.set_cons_zero, List.set_cons_succ, List.getElem?_cons_zero, List.getElem?_cons_succ, List.length_cons, List.length_nil, List.length_map, Nat.reduceAdd, Nat.reduceSub, Bool.not_true, Bool.not_false, Bool.false_eq_true, if_true, if_false, true_and, reduceCtorEq, Bool.true_eq_false, rgD_rgI, Option.some.injEq, exists_eq_left', and_true])
theorem eq_rgI {l : List Int} {n : Nat} (hl : l.length = n) : l = rgI n ↔ ∀ a : Int, a ∈ rgI n → l.getD a.toNat 0 = a := by
  constructor
  · rintro rfl a ha
    obtain ⟨a0, a1⟩ := mem_rgI.mp ha
    have := rgI_get (n := n) (k := a.toNat) (by omega)
    simp [List.getD, this]
    omega
  · intro h
    apply List.ext_getElem?
    intro i
    rcases Nat.lt_or_ge i n with z | z
    · have h1 := h (i : Int) (mem_rgI.mpr ⟨by omega, by omega⟩)
      rw [rgI_get z]
      have : l[i]? = some l[i] := List.getElem?_eq_getElem (by omega)
      simp [List.getD, this] at h1
      rw [this, h1]
    · rw [List.getElem?_eq_none (by omega), List.getElem?_eq_none (by rw [rgI_len]; omega)]
theorem unit_all {rs : List (List Int)} (hr : Rw rs) {e : Int} (e0 : 0 ≤ e) (e1 : e < rs.length) : isUnit rs e = (rgI rs.length).all fun a => decide (rc rs e a = a) && decide (rc rs a e = a) := by
  unfold isUnit
  have h1 := eq_rgI (hr.len e0 e1)
  have h2 := eq_rgI (l := rs.map fun r => r.getD e.toNat 0) (n := rs.length) (by simp)
  have e3 : ∀ a : Int, a ∈ rgI rs.length → (rs.map fun r => r.getD e.toNat 0).getD a.toNat 0 = rc rs a e := fun a ha => by
    obtain ⟨a0, a1⟩ := mem_rgI.mp ha
    have : a.toNat < rs.length := by omega
    unfold rc
    simp [List.getD, List.getElem?_eq_getElem this]
  rw [Bool.eq_iff_iff]
  simp only [Bool.and_eq_true, decide_eq_true_eq, List.all_eq_true]
  rw [h1, h2]
  constructor
  · rintro ⟨p, q⟩ a ha
    exact ⟨p a ha, by rw [← e3 a ha]; exact q a ha⟩
  · intro p
    exact ⟨fun a ha => (p a ha).1, fun a ha => by rw [e3 a ha]; exact (p a ha).2⟩
theorem shaped_lI (l : List Int) : SeqAt.shaped (.list (l.map PyData.int)) = true := by
  unfold SeqAt.shaped; simp [PyData.canLay0, PyData.depth, layAll_int l]
theorem eqv_lI (a b : List Int) : PyData.eqv (.list (a.map PyData.int)) (.list (b.map PyData.int)) = decide (a = b) := by simp only [PyData.eqv, eqvAll_int]
theorem find_any {α : Type} (p : α → Bool) : ∀ l : List α, (l.find? p).isNone = !(l.any p)
  | [] => rfl
  | x :: l => by
    rw [List.find?_cons, List.any_cons]
    cases p x with
    | true => rfl
    | false => simpa using find_any p l
def units (rs : List (List Int)) : List Int := (rgI rs.length).filter (isUnit rs)
theorem units_head (rs : List (List Int)) : unitOf rs = (units rs).head? := by unfold unitOf units; rw [List.head?_filter]
theorem eqv_int (i j : Int) : (PyData.int i).eqv (.int j) = decide (i = j) := by
  simp only [PyData.eqv]
  by_cases z : i = j <;> simp [z]
theorem all_id {α : Type} (p : α → Bool) (l : List α) : (l.map p).all id = l.all p := by simp [List.all_map]
theorem any_id {α : Type} (p : α → Bool) (l : List α) : (l.map p).any id = l.any p := by simp [List.any_map]
def th3 : D → D := fun d => match d with
  | .tuple t => .tuple (.str "three" :: t)
  | d => d
theorem map_fs {α β γ : Type} (f : α → Option β) (g : β → γ) : ∀ l : List α, (l.findSome? f).map g = l.findSome? fun x => (f x).map g
  | [] => rfl
  | x :: l => by
    rw [List.findSome?_cons, List.findSome?_cons]
    cases h : f x with
    | some y => rfl
    | none => simpa using map_fs f g l
theorem three_shape {rs : List (List Int)} {t : D} (ht : threeOf rs = some t) : ∃ a b c, t = .tuple [.int a, .int b, .int c] := by
  unfold threeOf at ht
  obtain ⟨a, _, ht⟩ := List.exists_of_findSome?_eq_some ht
  obtain ⟨b, _, ht⟩ := List.exists_of_findSome?_eq_some ht
  obtain ⟨c, _, ht⟩ := List.exists_of_findSome?_eq_some ht
  split at ht
  · cases ht; exact ⟨a, b, c, rfl⟩
  · cases ht
theorem v__law_group_fault : VD g__law_group_fault S__law_group_fault 1 6 := fun ds Q _ h => by
  obtain ⟨rs, rfl, hr, h⟩ := h
  have r1 := hr.pos
  have r2 := hr.most
  unfold g__law_group_fault
  walk_at "dd"
  refine ⟨rgd (by omega), ?_⟩
  refine wpLc_filL (rgI rs.length) PyData.int PyData.int (isUnit rs) (by rw [rgI_len]; omega) rfl (fun e he K N hK hN => ?_) ?_
  · obtain ⟨e0, e1⟩ := mem_rgI.mp he
    try walk_at "dd"
    refine wpLc_mapL (rgI rs.length) PyData.int (fun a => .bool (decide (rc rs e a = a) && decide (rc rs a e = a))) (by rw [rgI_len]; omega) rfl (fun a ha K hK => ?_) (fun _ => rfl) ?_
    · obtain ⟨a0, a1⟩ := mem_rgI.mp ha
      try walk_at "dd"
      refine ixRC hr e0 e1 a0 a1 ⟨rfl, rfl, ?_⟩
      rw [eqv_int]
      by_cases z : rc rs e a = a
      · rw [show decide (rc rs e a = a) = true from decide_eq_true z] at hK ⊢
        refine ixRC hr a0 a1 e0 e1 ⟨rfl, rfl, ?_⟩
        rw [eqv_int]
        exact hK _ rfl
      · rw [show decide (rc rs e a = a) = false from decide_eq_false z] at hK ⊢
        exact hK _ rfl
    · try walk_at "dd"
      refine ⟨(rgI rs.length).map fun a => decide (rc rs e a = a) && decide (rc rs a e = a), by rw [List.map_map]; rfl, ?_⟩
      dsimp only
      rw [all_id, ← unit_all hr e0 e1]
      exact ite_ways (fun z => hK z _ rfl) (fun z => hN z _ rfl)
  · try walk_at "dd"
    refine ⟨by decide, shaped_lI _, shaped_lI [], ?_⟩
    rw [show PyData.list [] = .list (([] : List Int).map PyData.int) from rfl, eqv_lI]
    rw [show (rgI rs.length).filter (isUnit rs) = units rs from rfl]
    have hu := units_head rs
    unfold faultOf at h
    cases hus : units rs with
    | nil =>
      rw [hus] at hu
      rw [hu] at h
      exact ⟨by decide, h⟩
    | cons u t =>
      rw [hus] at hu
      rw [hu] at h
      dsimp only [List.head?] at h
      rw [if_neg (by simp)]
      refine wpFor_fs (rgI rs.length) PyData.int (fun a => if (backOf rs u a).isNone = true then some (.tuple [.str "back", .int a]) else none) (fun ρ => ∃ x3 x4 x5 x6, ρ = [some (.im (tR rs)), some (.im (.list ((rgI rs.length).map PyData.int))), some (.im (.list ((u :: t).map PyData.int))), x3, x4, x5, x6]) ⟨_, _, _, _, rfl⟩ (fun a ha ρ K B hI hq hk => ?_) (fun v hv => ?_) (fun hn ρ hI => ?_)
      · obtain ⟨x3, x4, x5, x6, rfl⟩ := hI
        obtain ⟨a0, a1⟩ := mem_rgI.mp ha
        try walk_at "dd"
        refine wpLc_mapL (rgI rs.length) PyData.int (fun b => .bool (decide (rc rs a b = u) && decide (rc rs b a = u))) (by rw [rgI_len]; omega) rfl (fun b hb K hK => ?_) (fun _ => rfl) ?_
        · obtain ⟨b0, b1⟩ := mem_rgI.mp hb
          try walk_at "dd"
          refine ixRC hr a0 a1 b0 b1 ⟨.int u, atI_zero, rfl, rfl, ?_⟩
          rw [eqv_int]
          by_cases z : rc rs a b = u
          · rw [show decide (rc rs a b = u) = true from decide_eq_true z] at hK ⊢
            refine ixRC hr b0 b1 a0 a1 ⟨.int u, atI_zero, rfl, rfl, ?_⟩
            rw [eqv_int]
            exact hK _ rfl
          · rw [show decide (rc rs a b = u) = false from decide_eq_false z] at hK ⊢
            exact hK _ rfl
        · try walk_at "dd"
          refine ⟨(rgI rs.length).map fun b => decide (rc rs a b = u) && decide (rc rs b a = u), by rw [List.map_map]; rfl, ?_⟩
          dsimp only
          rw [any_id]
          have bn : (backOf rs u a).isNone = !((rgI rs.length).any fun b => decide (rc rs a b = u) && decide (rc rs b a = u)) := find_any _ _
          rw [← bn]
          refine ite_ways (fun z => ⟨by decide, hq _ (if_pos z)⟩) (fun z => hk (if_neg (by rw [z]; simp)) _ ⟨_, _, _, _, rfl⟩)
      · rw [noBack_fs] at hv
        cases hb : noBack rs u with
        | none => rw [hb] at hv; cases hv
        | some a =>
          rw [hb] at hv h
          cases hv
          exact h
      · rw [noBack_fs] at hn
        obtain ⟨x3, x4, x5, x6, rfl⟩ := hI
        have hb : noBack rs u = none := by simpa using hn
        rw [hb] at h
        dsimp only at h
        try walk_at "dd"
        let F3 : Int → Int → Int → Option D := fun a b c => if rc rs (rc rs a b) c ≠ rc rs a (rc rs b c) then some (.tuple [.int a, .int b, .int c]) else none
        have t3 : threeOf rs = (rgI rs.length).findSome? fun a => (rgI rs.length).findSome? fun b => (rgI rs.length).findSome? fun c => F3 a b c := rfl
        refine wpFor_fs (rgI rs.length) PyData.int (fun a => ((rgI rs.length).findSome? fun b => (rgI rs.length).findSome? fun c => F3 a b c).map th3) (fun ρ => ∃ x3 x4 x5, ρ = [some (.im (tR rs)), some (.im (.list ((rgI rs.length).map PyData.int))), some (.im (.list ((u :: t).map PyData.int))), x3, x4, x5, x6]) ⟨_, _, _, rfl⟩ (fun a ha ρ K B hI hq hk => ?_) (fun v hv => ?_) (fun hn ρ hI => ?_)
        · obtain ⟨x3, x4, x5, rfl⟩ := hI
          obtain ⟨a0, a1⟩ := mem_rgI.mp ha
          try walk_at "dd"
          rw [map_fs] at hq hk
          refine wpFor_fs (rgI rs.length) PyData.int (fun b => ((rgI rs.length).findSome? fun c => F3 a b c).map th3) (fun ρ => ∃ x4 x5, ρ = [some (.im (tR rs)), some (.im (.list ((rgI rs.length).map PyData.int))), some (.im (.list ((u :: t).map PyData.int))), some (.im (.int a)), x4, x5, x6]) ⟨_, _, rfl⟩ (fun b hb ρ K B hI hq hk => ?_) (fun v hv => hq v hv) (fun hn ρ hI => ?_)
          · obtain ⟨x4, x5, rfl⟩ := hI
            obtain ⟨b0, b1⟩ := mem_rgI.mp hb
            try walk_at "dd"
            rw [map_fs] at hq hk
            refine wpFor_fs (rgI rs.length) PyData.int (fun c => (F3 a b c).map th3) (fun ρ => ∃ x5, ρ = [some (.im (tR rs)), some (.im (.list ((rgI rs.length).map PyData.int))), some (.im (.list ((u :: t).map PyData.int))), some (.im (.int a)), some (.im (.int b)), x5, x6]) ⟨_, rfl⟩ (fun c hc ρ K B hI hq hk => ?_) (fun v hv => hq v hv) (fun hn ρ hI => ?_)
            · obtain ⟨x5, rfl⟩ := hI
              obtain ⟨c0, c1⟩ := mem_rgI.mp hc
              try walk_at "dd"
              obtain ⟨p0, p1⟩ := hr.rc a0 a1 b0 b1
              obtain ⟨q0, q1⟩ := hr.rc b0 b1 c0 c1
              refine ixRC hr a0 a1 b0 b1 (ixRC hr p0 p1 c0 c1 (ixR a0 a1 (ixRC hr b0 b1 c0 c1 (ixI q0 (by rw [hr.len a0 a1]; exact q1) ⟨rfl, rfl, ?_⟩))))
              rw [eqv_int]
              refine ite_ways (fun z => ⟨by decide, hq _ ?_⟩) (fun z => hk ?_ _ ⟨_, rfl⟩)
              · show (F3 a b c).map th3 = _
                rw [show F3 a b c = some (.tuple [.int a, .int b, .int c]) from if_pos (by simpa [rc] using z)]
                rfl
              · show (F3 a b c).map th3 = _
                rw [show F3 a b c = none from if_neg (by simpa [rc] using z)]
                rfl
            · obtain ⟨x5, rfl⟩ := hI
              exact hk hn _ ⟨_, _, rfl⟩
          · obtain ⟨x4, x5, rfl⟩ := hI
            exact hk hn _ ⟨_, _, _, rfl⟩
        · rw [← map_fs, ← t3] at hv
          cases ht : threeOf rs with
          | none => rw [ht] at hv; cases hv
          | some d =>
            obtain ⟨a, b, c, rfl⟩ := three_shape ht
            rw [ht] at hv h
            cases hv
            exact h
        · rw [← map_fs, ← t3] at hn
          have ht : threeOf rs = none := by simpa using hn
          rw [ht] at h
          obtain ⟨x3, x4, x5, rfl⟩ := hI
          try walk_at "dd"
          exact ⟨by decide, h⟩
end Dn
set_option Elab.async false
set_option linter.all false
set_option maxRecDepth 100000
set_option autoImplicit false
set_option maxHeartbeats 4000000
namespace Dn
open PySem L2 Evl PySem.Spec PyProof.Rows
local macro_rules | `(tactic| walk_at "dd") => `(tactic| simp only [sSeq, sIf, sSet, sRet, sRetN, sNx, sEx, sAsg, sPar, dTOr, dTAnd, dTNot, dTst, dIsi, dVar, dC, dBin, dChain, dNeg, dI2, dAnd, dOr, dNot, dIfE, dCall, dCallF, aCons, aNil, dTup, lLst, dOfL, xIm, xOw, gNm, gTp, gsCons, gsNil, dYes, envD, dLen_tR, dLen_tI, dLen_tup, dLen_lst, seq_tR, seq_tI, seq_tup, seq_lst, dIs, dIsNot, dNe, dEq, dTupOf, dSl, oNone, oSome, iSq, iEn, iR1, iR2, sFor, lLc, sNever, dTRg, rg1, rg2, lRg, wipeD, optD,
  dIxP, sSub, dApp, dPopAt, dExt, dCallM, dCallO, dBinO, dTupO, lOf, lOfO, sRetO, iOw, dVarF, lCat, lCall, dAbs, dMax2, dMin2, dInt, atO, setO, MO.getL, MO.putL, Option.isSome_some,
  dInK, dGetK, dGetD, dInD, dGet1, lKeys, lSort, dLenSet, dRevT, sPutK, xDct, xDct1, sRetK, atK, keyD, sAugI,
  kit_int, kit_bool, kit_tuple, kit_str, List.map_cons, List.map_nil, List.cons_append, List.nil_append, List.replicate, List.set_cons_zero, List.set_cons_succ, List.getElem?_cons_zero, List.getElem?_cons_succ, List.length_cons, List.length_nil, List.length_map, Nat.reduceAdd, Nat.reduceSub, Bool.not_true, Bool.not_false, Bool.false_eq_true, if_true, if_false, true_and, reduceCtorEq, Bool.true_eq_false, rgD_rgI, Option.some.injEq, exists_eq_left', and_true])
theorem idem {rs : List (List Int)} {u : Int} (hr : Rw rs) (hf : faultOf rs = .tuple [.str "group"]) (hu : unitOf rs = some u) : (0 ≤ u ∧ u < rs.length) ∧ rc rs u u = u ∧ ∀ a, a ∈ rgI rs.length → rc rs a a = a → a = u := by
  have uin := unit_in hu
  have iu : isUnit rs u = true := by unfold unitOf at hu; exact List.find?_some hu
  rw [unit_all hr uin.1 uin.2, List.all_eq_true] at iu
  have iu' : ∀ a, a ∈ rgI rs.length → rc rs u a = a ∧ rc rs a u = a := fun a ha => by have := iu a ha; simpa using this
  unfold faultOf at hf
  rw [hu] at hf
  dsimp only at hf
  cases hb : noBack rs u with
  | some b => rw [hb] at hf; simp at hf
  | none =>
    rw [hb] at hf
    dsimp only at hf
    cases ht : threeOf rs with
    | some t =>
      obtain ⟨a, b, c, rfl⟩ := three_shape ht
      rw [ht] at hf
      simp at hf
    | none =>
      refine ⟨uin, (iu' u (mem_rgI.mpr uin)).1, fun a ha hi => ?_⟩
      unfold noBack at hb
      rw [List.find?_eq_none] at hb
      have hb := hb a ha
      cases hk : backOf rs u a with
      | none => rw [hk] at hb; simp at hb
      | some b =>
        unfold backOf at hk
        have h1 := List.find?_some hk
        have h2 := List.mem_of_find?_eq_some hk
        simp only [Bool.and_eq_true, decide_eq_true_eq] at h1
        have asc : rc rs (rc rs b a) a = rc rs b (rc rs a a) := by
          unfold threeOf at ht
          rw [List.findSome?_eq_none_iff] at ht
          have t1 := ht b h2
          rw [List.findSome?_eq_none_iff] at t1
          have t2 := t1 a ha
          rw [List.findSome?_eq_none_iff] at t2
          have t3 := t2 a ha
          by_cases z : rc rs (rc rs b a) a = rc rs b (rc rs a a)
          · exact z
          · rw [if_pos z] at t3; cases t3
        rw [hi, h1.2, (iu' a ha).1] at asc
        exact asc
theorem v_backs_of : VD g_backs_of S_backs_of 2 1 := fun ds Q _ h => by
  obtain ⟨rs, u, rfl, hr, h⟩ := h
  have r2 := hr.most
  unfold g_backs_of
  walk_at "dd"
  refine ⟨rgd (by omega), ?_⟩
  refine wpLc_mapL (rgI rs.length) PyData.int (fun t => optD (backOf rs u t)) (by rw [rgI_len]; omega) rfl (fun t ht K hK => ?_) (fun _ => rfl) ?_
  · obtain ⟨t0, t1⟩ := mem_rgI.mp ht
    try walk_at "dd"
    exact ⟨rs, u, t, rfl, hr, t0, t1, hK _ rfl⟩
  · try walk_at "dd"
    exact h _
theorem v_centre_of : VD g_centre_of S_centre_of 1 3 := fun ds Q _ h => by
  obtain ⟨rs, rfl, hr, h⟩ := h
  have r2 := hr.most
  unfold g_centre_of
  walk_at "dd"
  refine ⟨rgd (by omega), ?_⟩
  refine wpLc_mapL (rgI rs.length) PyData.int (fun t => tI (rs.map fun r => r.getD t.toNat 0)) (by rw [rgI_len]; omega) rfl (fun t ht K hK => ?_) (fun _ => rfl) ?_
  · obtain ⟨t0, t1⟩ := mem_rgI.mp ht
    try walk_at "dd"
    refine wpLc_mapL rs tI (fun r => .int (r.getD t.toNat 0)) (by omega) rfl (fun r hr' K' hK' => ?_) (fun _ => rfl) ?_
    · try walk_at "dd"
      exact ixI t0 (by rw [(hr.row r hr').1]; exact t1) (hK' _ rfl)
    · try walk_at "dd"
      rw [show (PyData.tuple (rs.map fun r => PyData.int (r.getD t.toNat 0))) = tI (rs.map fun r => r.getD t.toNat 0) from by unfold tI; simp]
      exact hK _ rfl
  · try walk_at "dd"
    rw [enD_map rs tI []]
    refine wpLc_filL (rgI rs.length) (fun k => .tuple [.int k, tI (rs.getD k.toNat [])]) PyData.int (fun k => decide (rs.getD k.toNat [] = rs.map fun r => r.getD k.toNat 0)) (by rw [rgI_len]; omega) rfl (fun k hk K N hK hN => ?_) ?_
    · obtain ⟨k0, k1⟩ := mem_rgI.mp hk
      try walk_at "dd"
      have kl : k.toNat < rs.length := by omega
      refine ⟨_, atI_in (d := .none) k0 (by simp [rgI_len]; omega), ?_⟩
      have eg : (List.map (fun t : Int => tI (List.map (fun r => r.getD t.toNat 0) rs)) (rgI rs.length)).getD k.toNat .none = tI (rs.map fun r => r.getD k.toNat 0) := by
        have kk : ((k.toNat : Nat) : Int) = k := by omega
        rw [List.getD_eq_getElem?_getD, List.getElem?_map, rgI_get kl, kk]
        rfl
      rw [eg]
      refine ⟨shaped_tI _, shaped_tI _, ?_⟩
      rw [eqv_tI]
      cases hz : decide (rs.getD k.toNat [] = rs.map fun r => r.getD k.toNat 0) with
      | true => exact hK hz _ rfl
      | false => exact hN hz _ rfl
    · try walk_at "dd"
      exact h _
theorem v__law_unit : VD g__law_unit S__law_unit 1 1 := fun ds Q _ h => by
  obtain ⟨rs, u, rfl, hr, hf, hu, h⟩ := h
  have r2 := hr.most
  unfold g__law_unit
  walk_at "dd"
  refine ⟨rgd (by omega), ?_⟩
  refine wpLc_filL (rgI rs.length) PyData.int PyData.int (fun a => decide (rc rs a a = a)) (by rw [rgI_len]; omega) rfl (fun a ha K N hK hN => ?_) ?_
  · obtain ⟨a0, a1⟩ := mem_rgI.mp ha
    try walk_at "dd"
    refine ixRC hr a0 a1 a0 a1 ⟨rfl, rfl, ?_⟩
    rw [eqv_int]
    cases hz : decide (rc rs a a = a) with
    | true => exact hK hz _ rfl
    | false => exact hN hz _ rfl
  · try walk_at "dd"
    obtain ⟨uin, uu, un⟩ := idem hr hf hu
    have um : u ∈ List.filter (fun a => decide (rc rs a a = a)) (rgI rs.length) := List.mem_filter.mpr ⟨mem_rgI.mpr uin, by simpa using uu⟩
    cases hl : List.filter (fun a => decide (rc rs a a = a)) (rgI rs.length) with
    | nil => rw [hl] at um; cases um
    | cons x r =>
      have hx : x ∈ List.filter (fun a => decide (rc rs a a = a)) (rgI rs.length) := by rw [hl]; exact List.mem_cons_self
      obtain ⟨h1, h2⟩ := List.mem_filter.mp hx
      have e := un x h1 (by simpa using h2)
      subst e
      exact ⟨_, atI_zero, h⟩
end Dn
set_option Elab.async false
set_option linter.all false
set_option maxRecDepth 100000
set_option autoImplicit false
set_option maxHeartbeats 4000000
namespace Dn
open PySem L2 Evl PySem.Spec PyProof.Rows
local macro_rules | `(tactic| walk_at "dd") => `(tactic| simp only [sSeq, sIf, sSet, sRet, sRetN, sNx, sEx, sAsg, sPar, dTOr, dTAnd, dTNot, dTst, dIsi, dVar, dC, dBin, dChain, dNeg, dI2, dAnd, dOr, dNot, dIfE, dCall, dCallF, aCons, aNil, dTup, lLst, dOfL, xIm, xOw, gNm, gTp, gsCons, gsNil, dYes, envD, dLen_tR, dLen_tI, dLen_tup, dLen_lst, seq_tR, seq_tI, seq_tup, seq_lst, dIs, dIsNot, dNe, dEq, dTupOf, dSl, oNone, oSome, iSq, iEn, iR1, iR2, sFor, lLc, sNever, dTRg, rg1, rg2, lRg, wipeD, optD,
  dIxP, sSub, dApp, dPopAt, dExt, dCallM, dCallO, dBinO, dTupO, lOf, lOfO, sRetO, iOw, dVarF, lCat, lCall, dAbs, dMax2, dMin2, dInt, atO, setO, MO.getL, MO.putL, Option.isSome_some,
  dInK, dGetK, dGetD, dInD, dGet1, lKeys, lSort, dLenSet, dRevT, sPutK, xDct, xDct1, sRetK, atK, keyD, sAugI,
  kit_int, kit_bool, kit_tuple, kit_str, List.map_cons, List.map_nil, List.cons_append, List.nil_append, List.replicate, List.set_cons_zero, List.set_cons_succ, List.getElem?_cons_zero, List.getElem?_cons_succ, List.length_cons, List.length_nil, List.length_map, Nat.reduceAdd, Nat.reduceSub, Bool.not_true, Bool.not_false, Bool.false_eq_true, if_true, if_false, true_and, reduceCtorEq, Bool.true_eq_false, rgD_rgI, Option.some.injEq, exists_eq_left', and_true])
theorem atI_map {α : Type} (l : List α) (f : α → D) (d0 : α) {i : Int} (h0 : 0 ≤ i) (h1 : i < l.length) : atI (l.map f) i = some (f (l.getD i.toNat d0)) := by
  rw [atI_in (d := f d0) h0 (by simpa using h1)]
  have h2 : i.toNat < l.length := by omega
  simp [List.getD, List.getElem?_eq_getElem h2]
def qT : List (List Int) := [[0, 2, 4, 6], [2, 1, 6, 5], [4, 7, 1, 2], [6, 4, 3, 1]]
theorem qlen : ∀ a, a ∈ rgI 8 → (qT.getD (a / 2).toNat []).length = 4 := by decide +kernel
abbrev qD : D := .list (qT.map fun r => .list (r.map PyData.int))
def qf (a b : Int) : Int := ((qT.getD (a / 2).toNat []).getD (b / 2).toNat 0)
def qe (a b : Int) : Int := qf a b / 2 * 2 + (qf a b + a + b) % 2
theorem qf_in : ∀ a, a ∈ rgI 8 → ∀ b, b ∈ rgI 8 → (0 ≤ qe a b ∧ qe a b < 8) ∧ (0 ≤ qf a b ∧ qf a b < 8) := by decide +kernel
theorem v__law_quaternion_rows : VD g__law_quaternion_rows S__law_quaternion_rows 0 7 := fun ds Q _ h => by
  obtain ⟨rfl, h⟩ := h
  unfold g__law_quaternion_rows
  try walk_at "dd"
  refine ⟨by decide, by decide, by decide, by decide, by decide, by decide, ⟨by decide, by decide, by decide, by decide⟩, ?_⟩
  rw [show rgD 0 8 = (rgI 8).map PyData.int from rgD_rgI 8]
  refine wpFor_ap (rgI 8) PyData.int (fun a => tI ((rgI 8).map fun b => qe a b)) (fun acc ρ => ∃ x1 x2 x3 x4 x5, ρ = [some (.im qD), some (.ow (.lst acc)), x1, x2, x3, x4, x5]) ⟨_, _, _, _, _, rfl⟩ (fun a ha acc ρ K p q r => ?_) (fun ρ p => ?_)
  · obtain ⟨x1, x2, x3, x4, x5, rfl⟩ := p
    obtain ⟨a0, a1⟩ := mem_rgI.mp ha
    try walk_at "dd"
    refine ⟨by decide, ⟨by decide, by decide, by decide, by decide⟩, ?_⟩
    rw [show rgD 0 8 = (rgI 8).map PyData.int from rgD_rgI 8]
    refine wpFor_ap (rgI 8) PyData.int (fun b => .int (qe a b)) (fun acc2 ρ => ∃ x3 x4 x5, ρ = [some (.im qD), some (.ow (.lst acc)), some (.im (.int a)), some (.ow (.lst acc2)), x3, x4, x5]) ⟨_, _, _, rfl⟩ (fun b hb acc2 ρ K p q2 r2 => ?_) (fun ρ p => ?_)
    · obtain ⟨x3, x4, x5, rfl⟩ := p
      obtain ⟨b0, b1⟩ := mem_rgI.mp hb
      try walk_at "dd"
      rw [rgI_len] at q2
      have fi := (qf_in a ha b hb).2
      have e1 : CDivW a 2 := cd_t (by decide) (by decide)
      have e2 : CDivW b 2 := cd_t (by decide) (by decide)
      refine ⟨e1, _, atI_map qT (fun r => .list (r.map PyData.int)) [] (by omega) (show a / 2 < 4 by omega), e2, _, atI_map (qT.getD (a / 2).toNat []) PyData.int 0 (by omega) (by rw [qlen a ha]; omega), ?_⟩
      rw [show (qT.getD (a / 2).toNat []).getD (b / 2).toNat 0 = qf a b from rfl]
      generalize hv : qf a b = v at fi
      have r3 := r2 _ ⟨some (.im (.int b)), some (.im (.list ((qT.getD (a / 2).toNat []).map PyData.int))), some (.im (.int v)), rfl⟩
      unfold qe at r3
      rw [hv] at r3
      exact ⟨cd_t (by decide) (by decide), cm_r ⟨by decide, by decide⟩, (show (0:Int) < 2 by decide), by omega, r3⟩
    · obtain ⟨x3, x4, x5, rfl⟩ := p
      try walk_at "dd"
      rw [rgI_len] at q
      refine ⟨by omega, ?_⟩
      rw [show ∀ f : Int → Int, PyData.tuple ((rgI 8).map fun b => .int (f b)) = tI ((rgI 8).map f) from fun f => by unfold tI; simp only [List.map_map, Function.comp_def]]
      exact r _ ⟨_, _, _, _, _, rfl⟩
  · obtain ⟨x1, x2, x3, x4, x5, rfl⟩ := p
    try walk_at "dd"
    rw [show ∀ f : Int → List Int, PyData.tuple ((rgI 8).map fun b => tI (f b)) = tR ((rgI 8).map f) from fun f => by unfold tR; simp only [List.map_map, Function.comp_def]]
    exact h _ (rows_of (by omega) (by omega) _ fun a b a0 a1 b0 b1 => (qf_in a (mem_rgI.mpr ⟨a0, a1⟩) b (mem_rgI.mpr ⟨b0, b1⟩)).1) (by simp [rgI_len])
end Dn
set_option Elab.async false
set_option linter.all false
set_option maxRecDepth 100000
set_option autoImplicit false
set_option maxHeartbeats 4000000
namespace Dn
open PySem L2 Evl PySem.Spec PyProof.Rows
local macro_rules | `(tactic| walk_at "dd") => `(tactic| simp only [sSeq, sIf, sSet, sRet, sRetN, sNx, sEx, sAsg, sPar, dTOr, dTAnd, dTNot, dTst, dIsi, dVar, dC, dBin, dChain, dNeg, dI2, dAnd, dOr, dNot, dIfE, dCall, dCallF, aCons, aNil, dTup, lLst, dOfL, xIm, xOw, gNm, gTp, gsCons, gsNil, dYes, envD, dLen_tR, dLen_tI, dLen_tup, dLen_lst, seq_tR, seq_tI, seq_tup, seq_lst, dIs, dIsNot, dNe, dEq, dTupOf, dSl, oNone, oSome, iSq, iEn, iR1, iR2, sFor, lLc, sNever, dTRg, rg1, rg2, lRg, wipeD, optD,
  dIxP, sSub, dApp, dPopAt, dExt, dCallM, dCallO, dBinO, dTupO, lOf, lOfO, sRetO, iOw, dVarF, lCat, lCall, dAbs, dMax2, dMin2, dInt, atO, setO, MO.getL, MO.putL, Option.isSome_some,
  dInK, dGetK, dGetD, dInD, dGet1, lKeys, lSort, dLenSet, dRevT, sPutK, xDct, xDct1, sRetK, atK, keyD, sAugI,
  kit_int, kit_bool, kit_tuple, kit_str, List.map_cons, List.map_nil, List.cons_append, List.nil_append, List.replicate, List.set_cons_zero, List.set_cons_succ, List.getElem?_cons_zero, List.getElem?_cons_succ, List.length_cons, List.length_nil, List.length_map, Nat.reduceAdd, Nat.reduceSub, Bool.not_true, Bool.not_false, Bool.false_eq_true, if_true, if_false, true_and, reduceCtorEq, Bool.true_eq_false, rgD_rgI, Option.some.injEq, exists_eq_left', and_true])
theorem v__law_group_rows : VM g__law_group_rows S__law_group_rows 2 5 := fun l ms ds Q _ h => by
  obtain ⟨rfl, hm, h⟩ := h
  unfold g__law_group_rows
  walk_at "dd"
  let G : D → Prop := fun d => ∃ C, d = tR C ∧ Rw C
  refine And.intro (⟨by decide, by decide, by decide, by decide⟩ : RgD 1 10) ?_
  refine wpLc_all G (fun ρ => ρ = [some (.ow (.par l (.lst ms))), some (.im (.int 9)), none, none, none, none, none]) rfl (by rw [rgD_len]; decide) (fun d hd ρ K i k => ?_) (fun _ => rfl) (fun acc ρ al ag i => ?_)
  · subst i
    obtain ⟨c, rfl, c0, c1⟩ := mem_rgD hd
    try walk_at "dd"
    exact ⟨c.toNat, by rw [show ((c.toNat : Nat) : Int) = c by omega], by omega, by omega, fun C hC _ => k _ _ ⟨C, rfl, hC⟩ rfl⟩
  · subst i
    rw [rgD_len] at al
    try walk_at "dd"
    refine ⟨9, rfl, by decide, by decide, fun C0 hC0 _ => ?_⟩
    refine ⟨by decide, _, _, rfl, rfl, by simp; omega, ?_⟩
    refine And.intro (cd_t (by decide) (by decide)) ?_
    refine And.intro (⟨by decide, by decide, by decide, by decide⟩ : RgD 2 5) ?_
    refine wpLc_all G (fun ρ => ρ = [some (.ow (.par l (.lst ms))), some (.im (.int 9)), some (.im (.list (acc ++ [tR C0]))), none, none, none, none]) rfl (by rw [rgD_len]; decide) (fun d hd ρ K i k => ?_) (fun _ => rfl) (fun acc2 ρ al2 ag2 i => ?_)
    · subst i
      obtain ⟨c, rfl, c0, c1⟩ := mem_rgD hd
      have c1 : c < 5 := c1
      try walk_at "dd"
      refine ⟨2, rfl, by decide, by decide, fun C1 hC1 l1 => ?_⟩
      try walk_at "dd"
      refine ⟨c.toNat, by rw [show ((c.toNat : Nat) : Int) = c by omega], by omega, by omega, fun C2 hC2 l2 => ?_⟩
      try walk_at "dd"
      exact ⟨C1, C2, rfl, hC1, hC2, by rw [l1, l2]; omega, fun C hC _ => k _ _ ⟨C, rfl, hC⟩ rfl⟩
    · subst i
      rw [rgD_len] at al2
      try walk_at "dd"
      refine ⟨_, _, rfl, rfl, by simp; omega, ?_⟩
      refine And.intro (cd_t (by decide) (by decide)) ?_
      refine And.intro (⟨by decide, by decide, by decide, by decide⟩ : RgD 3 5) ?_
      refine wpLc_all G (fun ρ => ρ = [some (.ow (.par l (.lst ms))), some (.im (.int 9)), some (.im (.list (acc ++ [tR C0] ++ acc2))), none, none, none, none]) rfl (by rw [rgD_len]; decide) (fun d hd ρ K i k => ?_) (fun _ => rfl) (fun acc3 ρ al3 ag3 i => ?_)
      · subst i
        obtain ⟨c, rfl, c0, c1⟩ := mem_rgD hd
        have c1 : c < 5 := c1
        try walk_at "dd"
        exact ⟨c.toNat, by rw [show ((c.toNat : Nat) : Int) = c by omega], by omega, by omega, fun C hC _ => k _ _ ⟨C, rfl, hC⟩ rfl⟩
      · subst i
        rw [rgD_len] at al3
        try walk_at "dd"
        refine ⟨_, _, rfl, rfl, by simp; omega, ?_⟩
        rw [if_pos (by decide)]
        try walk_at "dd"
        refine ⟨rfl, fun Cq hCq _ => ⟨2, rfl, by decide, by decide, fun A1 hA1 l1 => ⟨2, rfl, by decide, by decide, fun A2 hA2 l2 => ⟨2, rfl, by decide, by decide, fun A3 hA3 l3 => ?_⟩⟩⟩⟩
        refine ⟨A2, A3, rfl, hA2, hA3, by rw [l2, l3]; decide, fun A4 hA4 l4 => ?_⟩
        refine ⟨A1, A4, rfl, hA1, hA4, by rw [l1, l4, l2, l3]; decide, fun A5 hA5 _ => ?_⟩
        refine ⟨by decide, _, _, rfl, rfl, by simp; omega, ?_⟩
        rw [if_pos (by decide)]
        refine ⟨3, rfl, by decide, by decide, fun B1 hB1 m1 => ⟨3, rfl, by decide, by decide, fun B2 hB2 m2 => ?_⟩⟩
        refine ⟨B1, B2, rfl, hB1, hB2, by rw [m1, m2]; decide, fun B3 hB3 _ => ?_⟩
        refine ⟨by simp; omega, ?_⟩
        rw [if_neg (by decide)]
        refine ⟨_, acc ++ [tR C0] ++ acc2 ++ acc3 ++ [tR Cq, tR A5] ++ [tR B3], rfl, rfl, by simp, by simp; omega, hm, fun x ms2 hx hm2 => ?_⟩
        obtain ⟨C, rfl, hC⟩ : G x := by
          simp only [List.mem_append, List.mem_singleton, List.mem_cons, List.not_mem_nil, or_false] at hx
          rcases hx with ((((hx | rfl) | hx) | hx) | rfl | rfl) | rfl
          · exact ag x hx
          · exact ⟨C0, rfl, hC0⟩
          · exact ag2 x hx
          · exact ag3 x hx
          · exact ⟨_, rfl, hCq⟩
          · exact ⟨_, rfl, hA5⟩
          · exact ⟨_, rfl, hB3⟩
        try walk_at "dd"
        have m1 := hC.most
        refine ⟨C.length, rfl, by omega, hm2, fun m ms3 hp hm3 => ?_⟩
        exact ⟨C, m, rfl, hC, hp, fun C2 hC2 _ => ⟨_, rfl, h C2 _ hC2 hm3⟩⟩
end Dn
set_option Elab.async false
set_option linter.all false
set_option maxRecDepth 100000
set_option autoImplicit false
set_option maxHeartbeats 4000000
namespace Dn
open PySem L2 Evl PySem.Spec PyProof.Rows
local macro_rules | `(tactic| walk_at "dd") => `(tactic| simp only [sSeq, sIf, sSet, sRet, sRetN, sNx, sEx, sAsg, sPar, dTOr, dTAnd, dTNot, dTst, dIsi, dVar, dC, dBin, dChain, dNeg, dI2, dAnd, dOr, dNot, dIfE, dCall, dCallF, aCons, aNil, dTup, lLst, dOfL, xIm, xOw, gNm, gTp, gsCons, gsNil, dYes, envD, dLen_tR, dLen_tI, dLen_tup, dLen_lst, seq_tR, seq_tI, seq_tup, seq_lst, dIs, dIsNot, dNe, dEq, dTupOf, dSl, oNone, oSome, iSq, iEn, iR1, iR2, sFor, lLc, sNever, dTRg, rg1, rg2, lRg, wipeD, optD,
  dIxP, sSub, dApp, dPopAt, dExt, dCallM, dCallO, dBinO, dTupO, lOf, lOfO, sRetO, iOw, dVarF, lCat, lCall, dAbs, dMax2, dMin2, dInt, atO, setO, MO.getL, MO.putL, Option.isSome_some,
  dInK, dGetK, dGetD, dInD, dGet1, lKeys, lSort, dLenSet, dRevT, sPutK, xDct, xDct1, sRetK, atK, keyD, sAugI,
  kit_int, kit_bool, kit_tuple, kit_str, List.map_cons, List.map_nil, List.cons_append, List.nil_append, List.replicate, List.set_cons_zero, List.set_cons_succ, List.getElem?_cons_zero, List.getElem?_cons_succ, List.length_cons, List.length_nil, List.length_map, Nat.reduceAdd, Nat.reduceSub, Bool.not_true, Bool.not_false, Bool.false_eq_true, if_true, if_false, true_and, reduceCtorEq, Bool.true_eq_false, rgD_rgI, Option.some.injEq, exists_eq_left', and_true])
def okSb : D → Bool
  | .str t => SeqAt.shaped (.str t)
  | _ => true
def okVb : D → Bool
  | .tuple xs => decide (xs.length ≤ 100000) && xs.all okSb
  | _ => true
theorem sh_unit : SeqAt.shaped (.str "unit") = true := by decide +kernel
theorem sh_group : SeqAt.shaped (.str "group") = true := by decide +kernel
theorem sh_back : SeqAt.shaped (.str "back") = true := by decide +kernel
theorem sh_three : SeqAt.shaped (.str "three") = true := by decide +kernel
theorem okV_of {v : D} (h : okVb v = true) : okV v := by
  intro xs e
  subst e
  unfold okVb at h
  simp only [Bool.and_eq_true, decide_eq_true_eq, List.all_eq_true] at h
  exact ⟨h.1, fun x hx t e => by subst e; exact h.2 _ hx⟩
theorem sint : ∀ a, a ∈ rgI 24 → (PyData.shown (.int a)).length ≤ 2 ∧ a.natAbs.log2 < 1920 := by decide +kernel
theorem rgI_mono {n m : Nat} (h : n ≤ m) {a : Int} (ha : a ∈ rgI n) : a ∈ rgI m := by
  obtain ⟨h0, h1⟩ := mem_rgI.mp ha
  exact mem_rgI.mpr ⟨h0, by omega⟩
theorem rep_three {a b c : Int} (ha : a ∈ rgI 24) (hb : b ∈ rgI 24) (hc : c ∈ rgI 24) : repOk (.tuple [.str "three", .int a, .int b, .int c]) = true := by
  have h1 := sint a ha
  have h2 := sint b hb
  have h3 := sint c hc
  have e : (PyData.shown (.tuple [.str "three", .int a, .int b, .int c])).length ≤ 10000 := by
    have s0 : (PyData.shown (.str "three")).length = 7 := by decide +kernel
    show (tupleText [PyData.shown (.str "three"), PyData.shown (.int a), PyData.shown (.int b), PyData.shown (.int c)]).length ≤ 10000
    simp only [tupleText, Str.join, Str.length_append]
    have z1 : (Str.ofString "(").length = 1 := by decide +kernel
    have z2 : (Str.ofString ", ").length = 2 := by decide +kernel
    have z3 : (Str.ofString (if (([PyData.shown (.str "three"), PyData.shown (.int a), PyData.shown (.int b), PyData.shown (.int c)] : List Str).length == 1) = true then ",)" else ")")).length = 1 := by
      rw [if_neg (by simp)]; decide +kernel
    omega
  simp only [repOk, Bool.and_eq_true, decide_eq_true_eq, e, and_true]
  refine ⟨by simp [PyData.showable, PyData.showableAll, h1.2, h2.2, h3.2], by simp [PyData.hasDict, PyData.hasDictAll], by simp [PyData.canLay0, PyData.canLayAll0]; decide +kernel, by simp [PyData.depth, PyData.depthAll]⟩
theorem strOk_app (a b : Str) : PyData.strOk (a ++ b) = (PyData.strOk a && PyData.strOk b) := by
  show ((a.cps ++ b.cps).all _) = _
  rw [Array.all_append]; rfl
theorem sok : ∀ a, a ∈ rgI 24 → PyData.strOk (PyData.shown (.int a)) = true := by decide +kernel
theorem sok_three {a b c : Int} (ha : a ∈ rgI 24) (hb : b ∈ rgI 24) (hc : c ∈ rgI 24) : PyData.strOk (PyData.shown (.tuple [.str "three", .int a, .int b, .int c])) = true := by
  show PyData.strOk (tupleText [PyData.shown (.str "three"), PyData.shown (.int a), PyData.shown (.int b), PyData.shown (.int c)]) = true
  simp only [tupleText, Str.join, strOk_app, sok a ha, sok b hb, sok c hc]
  rw [if_neg (by simp)]
  decide +kernel
theorem sok_back : ∀ a, a ∈ rgI 24 → PyData.strOk (PyData.shown (.tuple [.str "back", .int a])) = true := by decide +kernel
theorem shaped_of {t : Str} (h : PyData.strOk t = true) : SeqAt.shaped (.str t) = true := by simp [SeqAt.shaped, PyData.canLay0, PyData.depth, h]
theorem rep_back : ∀ a, a ∈ rgI 24 → repOk (.tuple [.str "back", .int a]) = true := by decide +kernel
theorem fault_cases {rs : List (List Int)} (hr : Rw rs) : (unitOf rs = none ∧ faultOf rs = .tuple [.str "unit"]) ∨ (∃ u a, unitOf rs = some u ∧ a ∈ rgI rs.length ∧ (backOf rs u a).isNone = true ∧ faultOf rs = .tuple [.str "back", .int a]) ∨
    (∃ a b c, a ∈ rgI rs.length ∧ b ∈ rgI rs.length ∧ c ∈ rgI rs.length ∧ rc rs (rc rs a b) c ≠ rc rs a (rc rs b c) ∧ faultOf rs = .tuple [.str "three", .int a, .int b, .int c]) ∨ (isGrp rs = true ∧ faultOf rs = .tuple [.str "group"]) := by
  unfold faultOf isGrp
  cases hu : unitOf rs with
  | none => exact .inl ⟨rfl, rfl⟩
  | some u =>
    dsimp only
    cases hb : noBack rs u with
    | some a =>
      unfold noBack at hb
      exact .inr (.inl ⟨u, a, rfl, List.mem_of_find?_eq_some hb, List.find?_some (p := fun a => (backOf rs u a).isNone) hb, rfl⟩)
    | none =>
      dsimp only
      cases ht : threeOf rs with
      | none => exact .inr (.inr (.inr ⟨rfl, rfl⟩))
      | some t =>
        unfold threeOf at ht
        obtain ⟨a, ha, ht⟩ := List.exists_of_findSome?_eq_some ht
        obtain ⟨b, hb, ht⟩ := List.exists_of_findSome?_eq_some ht
        obtain ⟨c, hc, ht⟩ := List.exists_of_findSome?_eq_some ht
        split at ht
        · rename_i z
          cases ht
          exact .inr (.inr (.inl ⟨a, b, c, ha, hb, hc, z, rfl⟩))
        · cases ht
theorem fault_rep {rs : List (List Int)} (hr : Rw rs) : isRef (faultOf rs) = true ∧ repOk (faultOf rs) = true ∧ SeqAt.shaped (.str (faultOf rs).shown) = true := by
  have m := hr.most
  rcases fault_cases hr with ⟨_, e⟩ | ⟨u, a, _, ha, _, e⟩ | ⟨a, b, c, ha, hb, hc, _, e⟩ | ⟨_, e⟩
  · rw [e]; exact ⟨rfl, by decide +kernel, by decide +kernel⟩
  · rw [e]; exact ⟨rfl, rep_back a (rgI_mono m ha), shaped_of (sok_back a (rgI_mono m ha))⟩
  · rw [e]; exact ⟨rfl, rep_three (rgI_mono m ha) (rgI_mono m hb) (rgI_mono m hc), shaped_of (sok_three (rgI_mono m ha) (rgI_mono m hb) (rgI_mono m hc))⟩
  · rw [e]; exact ⟨rfl, by decide +kernel, by decide +kernel⟩
theorem th_in {n : Nat} (hn : n ≤ 24) {a : Int} (ha : a ∈ rgI n) : isTh n (.int a) = true := by
  obtain ⟨a0, a1⟩ := mem_rgI.mp ha
  exact isTh_in a0 a1 (by omega)
theorem fault_paper {rs : List (List Int)} (hr : Rw rs) : okV (faultOf rs) ∧ isPaper rs (faultOf rs) = true := by
  have m := hr.most
  rcases fault_cases hr with ⟨hu, e⟩ | ⟨u, a, hu, ha, hb, e⟩ | ⟨a, b, c, ha, hb, hc, hz, e⟩ | ⟨hg, e⟩
  · rw [e]
    refine ⟨okV_of (by decide +kernel), ?_⟩
    unfold isPaper
    rw [if_neg (by simp [isTold]), if_neg (by simp [isTold]), if_pos (by decide +kernel), hu]
    rfl
  · rw [e]
    refine ⟨okV_of (by simp [okVb, okSb, sh_back]), ?_⟩
    unfold isPaper
    rw [if_neg (by simp [isTold]), if_pos (by simp [isTold, isRow, th_in m ha, isStr])]
    simp only [hu, hb]
  · rw [e]
    refine ⟨okV_of (by simp [okVb, okSb, sh_three]), ?_⟩
    unfold isPaper
    rw [if_pos (by simp [isTold, isRow, th_in m ha, th_in m hb, th_in m hc, isStr])]
    simpa using hz
  · rw [e]
    refine ⟨okV_of (by decide +kernel), ?_⟩
    unfold isPaper
    rw [if_neg (by simp [isTold]), if_neg (by simp [isTold]), if_neg (by decide +kernel), hg]
    decide +kernel
end Dn
set_option Elab.async false
set_option linter.all false
set_option maxRecDepth 100000
set_option autoImplicit false
set_option maxHeartbeats 4000000
namespace Dn
open PySem L2 Evl PySem.Spec PyProof.Rows
local macro_rules | `(tactic| walk_at "dd") => `(tactic| simp only [sSeq, sIf, sSet, sRet, sRetN, sNx, sEx, sAsg, sPar, dTOr, dTAnd, dTNot, dTst, dIsi, dVar, dC, dBin, dChain, dNeg, dI2, dAnd, dOr, dNot, dIfE, dCall, dCallF, aCons, aNil, dTup, lLst, dOfL, xIm, xOw, gNm, gTp, gsCons, gsNil, dYes, envD, dLen_tR, dLen_tI, dLen_tup, dLen_lst, seq_tR, seq_tI, seq_tup, seq_lst, dIs, dIsNot, dNe, dEq, dTupOf, dSl, oNone, oSome, iSq, iEn, iR1, iR2, sFor, lLc, sNever, dTRg, rg1, rg2, lRg, wipeD, optD,
  dIxP, sSub, dApp, dPopAt, dExt, dCallM, dCallO, dBinO, dTupO, lOf, lOfO, sRetO, iOw, dVarF, lCat, lCall, dAbs, dMax2, dMin2, dInt, atO, setO, MO.getL, MO.putL, Option.isSome_some,
  dInK, dGetK, dGetD, dInD, dGet1, lKeys, lSort, dLenSet, dRevT, sPutK, xDct, xDct1, sRetK, atK, keyD, sAugI,
  kit_int, kit_bool, kit_tuple, kit_str, List.map_cons, List.map_nil, List.cons_append, List.nil_append, List.replicate, List.set_cons_zero, List.set_cons_succ, List.getElem?_cons_zero, List.getElem?_cons_succ, List.length_cons, List.length_nil, List.length_map, Nat.reduceAdd, Nat.reduceSub, Bool.not_true, Bool.not_false, Bool.false_eq_true, if_true, if_false, true_and, reduceCtorEq, Bool.true_eq_false, rgD_rgI, Option.some.injEq, exists_eq_left', and_true])
theorem eqv_str (t : Str) : PyData.eqv (.str t) (.str t) = true := by simp [PyData.eqv]
theorem paper_grp {rs : List (List Int)} : isPaper rs (.tuple [.str "group"]) = isGrp rs := by
  unfold isPaper
  rw [if_neg (by simp [isTold]), if_neg (by simp [isTold]), if_neg (by decide +kernel)]
  rw [show isTup1 "group" (.tuple [.str "group"]) = true by decide +kernel, Bool.true_and]
theorem judge_no {rs : List (List Int)} {Q : D → Prop} {d : D} (hr : Rw rs) (h : Q (.bool true)) (e : faultOf rs = d) (hne : d ≠ .tuple [.str "group"]) (hs : SeqAt.shaped (.list [.str "refused", d]) = true) (he : PyData.eqv (.list [.str "refused", d]) (.list [.str "refused", d]) = true) (hg : isGrp rs = false) {A : Prop} :
    if (!isGrp rs) = true then S__law_made [tR rs] fun z => 2 ≤ 16777216 ∧ SeqAt.shaped z = true ∧ SeqAt.shaped (.list [.str "refused", faultOf rs]) = true ∧ (match PyData.bool (PyData.eqv z (.list [.str "refused", faultOf rs])) with
      | .bool true => 1 ≤ 16777216 ∧ S_is_group_paper [tR rs, .tuple [.str "group"]] fun z => dIs z (.bool false) fun z => Q z
      | .bool false => Q (.bool false)
      | _ => False) else A := by
  rw [hg, if_pos (by decide), e]
  refine ⟨rs, rfl, hr, fun z => absurd (e.symm.trans z) hne, fun _ => ?_⟩
  rw [e]
  refine ⟨by decide, hs, hs, ?_⟩
  rw [he]
  refine ⟨by decide, rs, _, rfl, hr, okV_of (by decide +kernel), ?_⟩
  rw [paper_grp, hg]
  exact h
theorem v__law_judged_right : VD g__law_judged_right S__law_judged_right 1 1 := fun ds Q _ h => by
  obtain ⟨rs, rfl, hr, h⟩ := h
  obtain ⟨f1, f2, f3⟩ := fault_rep hr
  obtain ⟨f4, f5⟩ := fault_paper hr
  obtain ⟨f6, f7⟩ := fault_grp rs
  unfold g__law_judged_right
  walk_at "dd"
  refine ⟨rs, rfl, hr, rs, rfl, hr, ?_⟩
  refine ⟨f1, f2, f1, f2, f3, f3, ?_⟩
  rw [eqv_str]
  walk_at "dd"
  refine ⟨rs, _, rfl, hr, f4, ?_⟩
  rw [f5]
  try walk_at "dd"
  rw [if_neg (by simp)]
  refine ⟨by decide, f6, by decide +kernel, ?_⟩
  rw [f7]
  rcases fault_cases hr with ⟨hu, e⟩ | ⟨u, a, hu, ha, hb, e⟩ | ⟨a, b, c, ha, hb, hc, hz, e⟩ | ⟨hg, e⟩
  · exact judge_no hr h e (by simp; decide +kernel) (by decide +kernel) (by decide +kernel) (by rw [e] at f7; rw [← f7]; decide +kernel)
  · exact judge_no hr h e (by simp) (by simp [SeqAt.shaped, PyData.canLay0, PyData.canLayAll0, PyData.depth, PyData.depthAll]; decide +kernel) (by simp [PyData.eqv, PyData.eqvAll]) (by rw [e] at f7; rw [← f7]; simp [PyData.eqv, PyData.eqvAll])
  · exact judge_no hr h e (by simp) (by simp [SeqAt.shaped, PyData.canLay0, PyData.canLayAll0, PyData.depth, PyData.depthAll]; decide +kernel) (by simp [PyData.eqv, PyData.eqvAll]) (by rw [e] at f7; rw [← f7]; simp [PyData.eqv, PyData.eqvAll])
  · rw [hg, if_neg (by decide)]
    cases hu : unitOf rs with
    | none => unfold isGrp at hg; rw [hu] at hg; cases hg
    | some u =>
      have sh : SeqAt.shaped (.list [tR rs, .int u, .int rs.length]) = true := by
        have h := layAll_tI rs
        unfold SeqAt.shaped tR
        simp [PyData.canLay0, PyData.canLayAll0, PyData.depth, PyData.depthAll, h.1]
        omega
      refine ⟨rs, rfl, hr, fun _ => ?_, fun z => absurd e z⟩
      refine ⟨rs, u, rfl, hr, e, hu, by decide, ?_⟩
      rw [hu]
      refine ⟨sh, sh, ?_⟩
      rw [show PyData.eqv (.list [tR rs, optD (some u), .int rs.length]) (.list [tR rs, .int u, .int rs.length]) = true by simp [PyData.eqv, PyData.eqvAll, eqv_tR, optD]]
      exact h
theorem dLen_scr {s : List Int} {Q : D → Prop} : dLen [scr s] Q = Q (.int (s.map PyData.int).length) := rfl
theorem rg_six (n : Int) : RgD 0 (if (if n < 6 then n else 6) > 1 then (if n < 6 then n else 6) else 1) := by
  unfold RgD
  split <;> (try split) <;> omega
def one3 : List (List Int) := [[0, 1, 2], [1, 0, 1], [2, 2, 0]]
def one1 : List (List Int) := [[0]]
theorem rw_one3 : Rw one3 := ⟨by decide, by decide, by decide⟩
theorem rw_one1 : Rw one1 := ⟨by decide, by decide, by decide⟩
theorem v_law : VD g_law S_law 1 5 := fun ds Q _ h => by
  obtain ⟨s, rfl, hs, h⟩ := h
  unfold g_law
  walk_at "dd"
  refine And.intro (rg_six _) ?_
  refine wpFor_inv (fun ρ => ∃ x1 x2 x3 x4 x5, ρ = [some (.im (scr s)), x1, x2, x3, x4, x5]) ⟨_, _, _, _, _, rfl⟩ (fun d hd ρ K i k => ?_) (fun ρ i => ?_)
  · obtain ⟨x1, x2, x3, x4, x5, rfl⟩ := i
    obtain ⟨spot, rfl, s0, _⟩ := mem_rgD hd
    try walk_at "dd"
    refine ⟨s, spot, rfl, s0, fun ms hm => ?_⟩
    try walk_at "dd"
    refine ⟨rfl, hm, fun A ms2 hA hm2 => ?_⟩
    try walk_at "dd"
    refine ⟨A, rfl, hA, ?_⟩
    try walk_at "dd"
    refine And.intro ⟨by decide, by decide, by decide, by decide⟩ ?_
    refine wpFor_inv (fun ρ => ∃ ms x, Dc ms ∧ ρ = [some (.im (scr s)), some (.im (.int spot)), some (.ow (.lst ms)), some (.im (tR A)), x, x5]) ⟨_, _, hm2, rfl⟩ (fun p hp ρ K2 i k2 => ?_) (fun ρ i => ?_)
    · obtain ⟨ms3, x, hm3, rfl⟩ := i
      try walk_at "dd"
      refine ⟨A, rfl, hA, hm3, fun C ms4 hC hm4 => ?_⟩
      try walk_at "dd"
      refine ⟨C, rfl, hC, ?_⟩
      try walk_at "dd"
      exact k2 _ ⟨_, _, hm4, rfl⟩
    · obtain ⟨ms3, x, hm3, rfl⟩ := i
      exact k _ ⟨_, _, _, _, _, rfl⟩
  · obtain ⟨x1, x2, x3, x4, x5, rfl⟩ := i
    try walk_at "dd"
    refine ⟨by decide, by decide, by decide, by decide, one3, rfl, rw_one3, by decide, (fault_grp one3).1, by decide +kernel, ?_⟩
    rw [show PyData.eqv (faultOf one3) (.tuple [.str "three", .int 1, .int 1, .int 2]) = true by decide +kernel]
    refine ⟨by decide, by decide, one1, rfl, rw_one1, by decide, (fault_grp one1).1, by decide +kernel, ?_⟩
    rw [show PyData.eqv (faultOf one1) (.tuple [.str "group"]) = true by decide +kernel]
    exact h
end Dn
set_option Elab.async false
set_option linter.all false
set_option maxRecDepth 100000
set_option autoImplicit false
set_option maxHeartbeats 4000000
namespace Dn
open PySem L2 Evl PySem.Spec PyProof.Rows
section
variable {P : Program} {w : World} {K : PySem.W.Frag} {mg : Str → Option Value} {base : Heap} {k : Nat} {x : Str} {ps : List Str} {fM : Addr} {fdm : FuncData} {n : Nat}
theorem FnOk.imp {CX : CXT} {sp sp' : Sp} (F : FnOk P w K mg base CX k fM fdm ps sp) (h : ∀ vs H Q E, sp' vs H Q E → sp vs H Q E) : FnOk P w K mg base CX k fM fdm ps sp' :=
  ⟨fun vs H Q E z => F.len vs H Q E (h vs H Q E z), fun A outer s H args us vs Q E hr e0 hb hv z => F.run A outer s H args us vs Q E hr e0 hb hv (h vs H Q E z)⟩
theorem FnOk.up {CX : CXT} {sp : Sp} {k' : Nat} (F : FnOk P w K mg base CX k fM fdm ps sp) (h : k ≤ k') : FnOk P w K mg base CX k' fM fdm ps sp :=
  ⟨F.len, fun A outer s H args us vs Q E hr e0 hb hv z => F.run A outer s H args us vs Q E (hr.mono h) e0 hb hv z⟩
theorem Ok.up {sp : Sp} {k' : Nat} (O : Ok P w K mg base x ps k sp) (h : k ≤ k') : Ok P w K mg base x ps k' sp := by
  obtain ⟨f, fd, F, h1, h2, h3⟩ := O
  exact ⟨f, fd, FnOk.up F h, h1, h2, h3⟩
/-- a new list handed back, told as a value -/
theorem spL_spD {S : List D → (List D → Prop) → Prop} {vs : List V} {H : Hp} {Q : VK} {E : XK} (h : spD K n (fun ds Q => S ds fun es => Q (.list es)) vs H Q E) : spL K n S vs H Q E := by
  obtain ⟨hl, T, ds, QD, hT, rv, hs, hq⟩ := h
  refine ⟨hl, T, ds, _, hT, rv, hs, fun l us es H' h0 h1 hQ e r => ?_⟩
  refine hq (.ref l) (.list es) H' hQ e (.lst (hide_some.2 ⟨fun t => hT l t h0, h1⟩) (r.mono fun a o z => ?_))
  obtain ⟨n, z⟩ := hide_some.1 z
  exact hide_some.2 ⟨fun t => n (.inr t), z⟩
end
def unI : D → Int
  | .int i => i
  | _ => 0
def unT : D → List Int
  | .tuple xs => xs.map unI
  | _ => []
def unR : D → List (List Int)
  | .tuple xs => xs.map unT
  | _ => []
theorem unR_tR (rs : List (List Int)) : unR (tR rs) = rs := by
  show (rs.map tI).map unT = rs
  rw [List.map_map]
  have e : ∀ r : List Int, (unT ∘ tI) r = r := fun r => by
    show unT (tI r) = r
    show (r.map PyData.int).map unI = r
    rw [List.map_map]
    exact List.map_id'' (fun i => rfl) r
  exact List.map_id'' e rs
section
variable {P : Program} {w : World} {K : PySem.W.Frag} {mg : Str → Option Value} {base : Heap} {fI fM C Cr fR : Addr} {fdd fdm : FuncData}
theorem fn_made04 (F : FunD K "_law_made" "_law_made" (defArgs st_made) (defBody st_made) (defScope st_made) [] [] fM fdm)
    (FI : FunD K "__init__" "Group.__init__" (defArgs st_ginit) (defBody st_ginit) (defScope st_ginit) [] [] fI fdd) (BI : L2.Binds K fdd ["self", "rows"] [])
    (T : PySem.XiX.XiTxt P K mg "Refused" "reason" "a rule is broken, as the kept reason tells" "ArithmeticError" "ArithmeticError.__new__" "ArithmeticError.__init__" [.type "ArithmeticError", .type "Exception", .type "BaseException", .type "object"] Cr fR)
    (FB : PySem.XiX.XiBase "ArithmeticError" "ArithmeticError.__new__" "ArithmeticError.__init__" [.type "ArithmeticError", .type "Exception", .type "BaseException", .type "object"]) (S : PySem.XiX.XiSc "reason" "a rule is broken, as the kept reason tells")
    (hex : PySem.W.subIn K (.ref Cr) (.type "BaseException") = some true)
    (M : L2.Mk K C fI) (hC : L2.Cls K C) (hN : ∀ f ∈ (["_rows", "_unit", "_backs", "_centre"] : List Str), NoAttr K C f)
    (gG : mg "Group" = some (.ref C)) (te : PySem.W.exmOne K (.ref Cr) (.ref Cr) = some true) (xf : XfC K Cr) (nr : PySem.W.findIn K (.ref Cr) "reason" = some none)
    (pr : Prp P w K mg base C "rows" (getSp C "_rows")) (pu : Prp P w K mg base C "unit" (getSp C "_unit")) (ps : Prp P w K mg base C "size" (spSz K C))
    (O_gp : Ok P w K mg base "group_paper" P_group_paper 6 (spD K 1 S_group_paper)) (O_un : Ok P w K mg base "unit_of" P_unit_of 1 (spD K 1 S_unit_of)) (O_bk : Ok P w K mg base "backs_of" P_backs_of 2 (spD K 2 S_backs_of)) (O_ce : Ok P w K mg base "centre_of" P_centre_of 1 (spD K 1 S_centre_of)) :
    FnOk P w K mg base L2.CX0 9 fM fdm ["_law_rows"] (spD K 1 S__law_made) := by
  have FI2 := fn_ginit (k := 6) (G := fun d => ∃ rs, d = tR rs ∧ Rw rs) (fault := fun d => faultOf (unR d)) (un := fun d => optD (unitOf (unR d))) FI T FB S (by decide) hex O_gp (O_un.up (by decide)) (O_bk.up (by decide)) (O_ce.up (by decide))
    (fun d ⟨rs, e, hr⟩ => by subst e; simp only [unR_tR]; exact (fault_grp rs).1)
    (fun d ⟨rs, e, hr⟩ hf => by
      subst e; simp only [unR_tR] at hf ⊢
      rw [(fault_grp rs).2]
      rcases fault_cases hr with ⟨hu, _⟩ | ⟨u, a, hu, ha, hb, e⟩ | ⟨a, b, c, ha, hb, hc, hz, e⟩ | ⟨_, e⟩
      · unfold isGrp; rw [hu]
      · rw [← (fault_grp rs).2, e]; simp [PyData.eqv, PyData.eqvAll]
      · rw [← (fault_grp rs).2, e]; simp [PyData.eqv, PyData.eqvAll]
      · exact absurd e hf)
    (fun d Q ⟨rs, e, hr⟩ q => by subst e; simp only [unR_tR] at q; exact ⟨rs, rfl, hr, q⟩)
    (fun d Q ⟨rs, e, hr⟩ q => by subst e; simp only [unR_tR] at q; exact ⟨rs, rfl, hr, q⟩)
    (fun d Q ⟨rs, e, hr⟩ hf q => by
      subst e; simp only [unR_tR] at hf ⊢
      cases hu : unitOf rs with
      | none => unfold faultOf at hf; rw [hu] at hf; exact absurd hf (by simp; decide +kernel)
      | some u => exact ⟨rs, u, rfl, hr, q⟩)
    (fun d Q ⟨rs, e, hr⟩ q => by subst e; exact ⟨rs, rfl, hr, q⟩)
  refine FnOk.imp (fn_made (k := 7) F FI2 BI M hC hN gG T.gC te xf nr pr pu ps (by decide)) fun vs H Q E h => spL_spD ?_
  obtain ⟨hl, T0, ds, QD, hT, rv, hs, hq⟩ := h
  refine ⟨hl, T0, ds, QD, hT, rv, ?_, hq⟩
  obtain ⟨rs, rfl, hr, h1, h2⟩ := hs
  have m := hr.most
  refine ⟨tR rs, rs.map tI, rfl, ⟨rs, rfl, hr⟩, rfl, by simp; omega, fun hf => ?_, fun hf => ?_⟩
  · simp only [unR_tR] at hf ⊢
    simpa using h1 hf
  · simp only [unR_tR] at hf ⊢
    exact h2 hf
end
end Dn
set_option Elab.async false
set_option linter.all false
set_option maxRecDepth 100000
set_option autoImplicit false
set_option maxHeartbeats 2000000
namespace He
open PySem PySem.Spec PyProof.Rows L2
/-- names that stand for a builtin of another name-/
def bfB (K : PySem.W.Frag) (q : Str × String) : Bool := match PySem.W.nsIn K mainGlobals q.1 with
  | some (some (.builtin n)) => decide (n = q.2)
  | _ => false
def obsB (bf : List (Str × String)) (fa : List Fa) (fn : List DefD) (K : PySem.W.Frag) : AlD := (bf.all (bfB K) && (obsD fa fn K).1, (obsD fa fn K).2)
def SaysB (bf : List (Str × String)) (fa : List Fa) (fn : List DefD) (K : PySem.W.Frag) : Prop := obsB bf fa fn K = valD fn
def obsBG (n : Nat) (bf : List (Str × String)) (fa : List Fa) (fn : List DefD) (g : Addr → Option Obj) : AlD := obsB bf fa fn (frG g (asD g n))
def hookB (n : Nat) (bf : List (Str × String)) (fa : List Fa) (fn : List DefD) : PySem.W.Hook where
  α := AlD
  obs := fun s => obsBG n bf fa fn s.heap.get?
  val := fun _ => valD fn
  says := fun _ h => ∃ K : PySem.W.Frag, K.In h ∧ SaysB bf fa fn K
  of := fun _ _ e => ⟨_, frG_in, e⟩
  keeps := fun _ _ _ ⟨K, hK, c⟩ k => ⟨K, PySem.W.Frag.In.keeps hK k, c⟩
theorem obsBG_eq {n : Nat} {bf : List (Str × String)} {fa : List Fa} {fn : List DefD} {g : Addr → Option Obj} {s : Shared} (h : ∀ a, g a = s.heap.get? a) : obsBG n bf fa fn g = (hookB n bf fa fn).obs s := by
  have e : g = s.heap.get? := funext h
  rw [e] <;> rfl
theorem SaysB.d {bf : List (Str × String)} {fa : List Fa} {fn : List DefD} {K : PySem.W.Frag} (c : SaysB bf fa fn K) : SaysD fa fn K := by
  have h1 := (ba (show (bf.all (bfB K) && (obsD fa fn K).1) = true from congrArg (fun z : AlD => z.1) c)).2
  have h0 : (obsB bf fa fn K).2 = (valD fn).2 := by
    rw [show obsB bf fa fn K = valD fn from c]
  have h2 : (obsD fa fn K).2 = (valD fn).2 := h0
  exact Prod.ext h1 h2
theorem SaysB.bf {bf : List (Str × String)} {fa : List Fa} {fn : List DefD} {K : PySem.W.Frag} (c : SaysB bf fa fn K) {h : Heap} {mg : Str → Option Value} (X : K.In h) (G : h.Ns mainGlobals mg) (i : Nat) {q : Str × String} (hi : bf[i]? = some q := by rfl) : mg q.1 = some (.builtin q.2) := by
  have h1 := (ba (show (bf.all (bfB K) && (obsD fa fn K).1) = true from congrArg (fun z : AlD => z.1) c)).1
  have h2 := List.all_eq_true.mp h1 q (List.mem_of_getElem? hi)
  unfold bfB at h2
  cases e : PySem.W.nsIn K mainGlobals q.1 with
  | none =>
    rw [e] at h2
    cases h2
  | some o =>
    rw [e] at h2
    cases o with
    | none => cases h2
    | some v =>
      cases v with
      | builtin n =>
        have e2 : n = q.2 := of_decide_eq_true h2
        subst e2
        exact PySem.W.mg_of X G e
      | _ => cases h2
end He
set_option Elab.async false
set_option linter.all false
set_option maxRecDepth 100000
set_option autoImplicit false
set_option maxHeartbeats 2000000
/-! What a head wants to say of classes besides: a function with the closure of one name, __class__; a property's getter. -/
namespace He
open PySem PySem.Spec PyProof.Rows L2 PySem.W
abbrev FnB : Type := Option (Str × Str × Arguments × FuncBody × Scope × Addr × Addr)
/-- the function at a, without its closure -/
def fnB (K : Frag) (a : Addr) : FnB := match List.lookup a K with
  | some ⟨_, _, .func fd, _⟩ => some (fd.name, fd.qualname, fd.params, fd.body, fd.scope, fd.globals, fd.builtins)
  | _ => none
/-- its closure is __class__, whose cell holds C; no defaults; its code is of the file -/
def clB (file : Str) (K : Frag) (a C : Addr) : Bool := match List.lookup a K with
  | some ⟨_, _, .func fd, _⟩ => (match fd.closure, fd.code, fd.defaults, fd.kwdefaults with
    | [(n, cc)], .ref cda, .none, .none => (n == ("__class__" : Str)) && (codeIn K (.ref cda) fd.qualname && ((match List.lookup cda K with
      | some ⟨_, _, .fields vs, _⟩ => (match (vs[2]? : Option Value) with
        | some (Value.str f _) => file == f
        | _ => false)
      | _ => false) && (match List.lookup cc K with
      | some ⟨_, _, .cell (some (.ref C')), _⟩ => decide (C' = C)
      | _ => false)))
    | _, _, _, _ => false)
  | _ => false
theorem fnB_cl {file : Str} {K : Frag} {a C : Addr} {name qual : Str} {params : Arguments} {body : List Stmt} {scope : Scope} (e : fnB K a = some (name, qual, params, .stmts body, scope, mainGlobals, builtinsNs)) (c : clB file K a C = true) :
    ∃ (oc : Value) (od : Option Addr) (doc pm ct : Value) (an : Option Addr) (osl : Array (Option Value)) (cda cc : Addr) (vs : Array Value) (f : Str) (tf : Tok) (ccl cl : Value) (cdd cld : Option Addr) (ccs csl : Array (Option Value)),
      List.lookup a K = some ⟨oc, od, .func (ksFn name qual params body scope .none .none doc pm an (.ref cda) ct cc), osl⟩ ∧ codeIn K (.ref cda) qual = true ∧ List.lookup cda K = some ⟨ccl, cdd, .fields vs, ccs⟩ ∧ vs[2]? = some (.str f tf) ∧ (file == f) = true ∧ List.lookup cc K = some ⟨cl, cld, .cell (some (.ref C)), csl⟩ := by
  unfold fnB at e
  unfold clB at c
  split at e
  · rename_i oc od fd osl hl
    rw [hl] at c
    dsimp only at c
    obtain ⟨nm, ql, prm, bd, scp, gl, clo, dv, kv, doc, pm, an, cdv, ct, bl⟩ := fd
    simp only [Option.some.injEq, Prod.mk.injEq] at e
    obtain ⟨rfl, rfl, rfl, rfl, rfl, rfl, rfl⟩ := e
    dsimp only at c
    split at c
    · rename_i n cc cda
      simp only [Bool.and_eq_true] at c
      obtain ⟨c1, c2, c3, c4⟩ := c
      have c1 := of_decide_eq_true c1
      subst c1
      split at c3
      · rename_i ccl cdd vs ccs h3
        split at c3
        · rename_i f tf h4
          split at c4
          · rename_i cl cld C' csl h5
            have c4 := of_decide_eq_true c4
            subst c4
            exact ⟨oc, od, doc, pm, ct, an, osl, cda, cc, vs, f, tf, ccl, cl, cdd, cld, ccs, csl, hl, c2, h3, h4, c3, h5⟩
          · cases c4
        · cases c3
      · cases c3
    · cases c
  · cases e
/-- a property of C by the name f: its object, its getter -/
def prA (K : Frag) (C : Addr) (f : Str) : Addr := match findIn K (.ref C) f with
  | some (some (.ref p)) => p
  | _ => 0
def gtA (K : Frag) (C : Addr) (f : Str) : Addr := match recIn K (prA K C f) "property" with
  | some (.ref g :: _) => g
  | _ => 0
def prB (K : Frag) (C : Addr) (f : Str) : Bool := eqO (findIn K (.ref C) f) (some (some (.ref (prA K C f)))) && (eqO (specialIn K (.ref (prA K C f)) "__get__") (some (some (.builtin "property.__get__"))) && (decide (takesIn K (.ref (prA K C f)) = some true) && (match recIn K (prA K C f) "property" with
  | some (.ref _ :: _) => true
  | _ => false)))
theorem prB_ok {K : Frag} {C : Addr} {f : Str} (h : prB K C f = true) : PropOf K C f (prA K C f) (gtA K C f) := by
  unfold prB at h
  simp only [Bool.and_eq_true, decide_eq_true_eq] at h
  obtain ⟨h1, h2, h3, h4⟩ := h
  refine ⟨eqO_ok h1, eqO_ok h2, h3, ?_⟩
  unfold gtA
  split at h4
  · rename_i g r e
    rw [e]
    exact ⟨r, rfl⟩
  · cases h4
/-! ### a hook that says this too -/
def obsX (bf : List (Str × String)) (fa : List Fa) (fn : List DefD) (xb : Frag → Bool) (xf : Frag → List FnB) (K : Frag) : AlD × List FnB := ((xb K && (obsB bf fa fn K).1, (obsB bf fa fn K).2), xf K)
def SaysX (bf : List (Str × String)) (fa : List Fa) (fn : List DefD) (xb : Frag → Bool) (xf : Frag → List FnB) (vals : List FnB) (K : Frag) : Prop := obsX bf fa fn xb xf K = (valD fn, vals)
def obsXG (n : Nat) (bf : List (Str × String)) (fa : List Fa) (fn : List DefD) (xb : Frag → Bool) (xf : Frag → List FnB) (g : Addr → Option Obj) : AlD × List FnB := obsX bf fa fn xb xf (frG g (cStatics :: asD g n))
def hookX (n : Nat) (bf : List (Str × String)) (fa : List Fa) (fn : List DefD) (xb : Frag → Bool) (xf : Frag → List FnB) (vals : List FnB) : Hook where
  α := AlD × List FnB
  obs := fun s => obsXG n bf fa fn xb xf s.heap.get?
  val := fun _ => (valD fn, vals)
  says := fun _ h => ∃ K : Frag, K.In h ∧ SaysX bf fa fn xb xf vals K
  of := fun _ _ e => ⟨_, frG_in, e⟩
  keeps := fun _ _ _ ⟨K, hK, c⟩ k => ⟨K, Frag.In.keeps hK k, c⟩
theorem obsXG_eq {n : Nat} {bf : List (Str × String)} {fa : List Fa} {fn : List DefD} {xb : Frag → Bool} {xf : Frag → List FnB} {vals : List FnB} {g : Addr → Option Obj} {s : Shared} (h : ∀ a, g a = s.heap.get? a) : obsXG n bf fa fn xb xf g = (hookX n bf fa fn xb xf vals).obs s := by
  have e : g = s.heap.get? := funext h
  rw [e] <;> rfl
section
variable {bf : List (Str × String)} {fa : List Fa} {fn : List DefD} {xb : Frag → Bool} {xf : Frag → List FnB} {vals : List FnB} {K : Frag}
theorem SaysX.x (c : SaysX bf fa fn xb xf vals K) : xb K = true := (ba (show (xb K && (obsB bf fa fn K).1) = true from congrArg (fun z : AlD × List FnB => z.1.1) c)).1
theorem SaysX.b (c : SaysX bf fa fn xb xf vals K) : SaysB bf fa fn K := by
  have h1 := (ba (show (xb K && (obsB bf fa fn K).1) = true from congrArg (fun z : AlD × List FnB => z.1.1) c)).2
  have h2 : (obsB bf fa fn K).2 = (valD fn).2 := congrArg (fun z : AlD × List FnB => z.1.2) c
  exact Prod.ext h1 h2
theorem SaysX.f (c : SaysX bf fa fn xb xf vals K) : xf K = vals := congrArg (fun z : AlD × List FnB => z.2) c
end
/-- an own error, all but its __init__ -/
def xiB (K : Frag) (C fI : Addr) (f : Str) (B newId i : String) (bm : List Value) : Bool :=
  eqO (findIn K (.ref C) "__init__") (some (some (.ref fI))) && (excInitIn K C bm newId && (decide (typeIn K (.ref fI) = some (.type "function")) && ((clsIn K C).isSome && (decide (mroIn K C (.ref C) = some true) && (eqO (nsIn K cStatics "thirdparty.any") (some none) &&
  (eqO (ks_superIn K C C "__init__") (some (some (.builtin i))) && (decide (subIn K (.ref C) (.type B) = some true) && (eqO (findIn K (.ref C) "__setattr__") (some (some (.builtin "object.__setattr__"))) && (excOver K C bm && (eqO (takerIn K C f) (some none) && (hasDictIn K C && (keepIn K (.ref C) &&
  (decide (typeIn K (.ref C) = some (.type "type")) && (eqO (findIn K (.ref C) "__getattribute__") (some (some (.builtin "BaseException.__getattribute__"))) && (eqO (findIn K (.ref C) "__getattr__") (some none) && (decide (subIn K (.ref C) (.type "BaseException") = some true) && eqO (findIn K (.ref C) f) (some none)))))))))))))))))
theorem xiB_ok {P : Program} {K : Frag} {mg : Str → Option Value} {nm f txt qual : Str} {B newId i : String} {bm : List Value} {C fI : Addr} {p1 p2 q1 q2 q3 q4 q5 q6 q7 q8 q9 q10 : Pos}
    (h : xiB K C fI f B newId i bm = true) (gC : mg nm = some (.ref C)) (noS : (P.main.scope.names.lookup ("super" : Str)).isSome = false) (mgS : mg "super" = none)
    (e : fnB K fI = some (("__init__" : Str), qual, PySem.XiX.iA f p1 p2, FuncBody.stmts (PySem.XiX.iB f txt q1 q2 q3 q4 q5 q6 q7 q8 q9 q10), PySem.XiX.iS f, mainGlobals, builtinsNs)) (c : clB P.main.file K fI C = true) (hp : (q3.endLine == q5.line) = true) :
    PySem.XiX.XiTxt P K mg nm f txt B newId i bm C fI ∧ XfC K C ∧ subIn K (.ref C) (.type "BaseException") = some true ∧ findIn K (.ref C) f = some none := by
  unfold xiB at h
  simp only [Bool.and_eq_true, decide_eq_true_eq] at h
  obtain ⟨h1, h2, h3, h4, h5, h6, h7, h8, h9, h10, h11, h12, h13, h14, h15, h16, h17, h18⟩ := h
  obtain ⟨oc, od, doc, pm, ct, an, osl, cda, cc, vs, fl, tf, ccl, cl, cdd, cld, ccs, csl, k1, k2, k3, k4, k5, k6⟩ := fnB_cl e c
  exact ⟨⟨gC, eqO_ok h1, h2, h3, Option.isSome_iff_exists.mp h4, h5, eqO_ok h6, eqO_ok h7, h8, eqO_ok h9, h10, eqO_ok h11, h12, h13, h14, noS, mgS, ⟨qual, oc, od, doc, pm, ct, an, osl, cda, cc, vs, fl, tf, ccl, cl, cdd, cld, ccs, csl, p1, p2, q1, q2, q3, q4, q5, q6, q7, q8, q9, q10, k1, k2, k3, k4, k5, hp, k6⟩⟩, ⟨eqO_ok h15, eqO_ok h16, h17, h12⟩, h17, eqO_ok h18⟩
/-- the function at a: no closure, no defaults -/
def dN : Value → Bool
  | .none => true
  | _ => false
def gfB (K : Frag) (a : Addr) : Bool := match List.lookup a K with
  | some ⟨_, _, .func fd, _⟩ => fd.closure.isEmpty && (codeIn K fd.code fd.qualname && (dN fd.defaults && keepIn K (.ref a)))
  | _ => false
theorem gfB_ok {K : Frag} {a : Addr} {name qual : Str} {params : Arguments} {body : List Stmt} {scope : Scope} (e : fnB K a = some (name, qual, params, .stmts body, scope, mainGlobals, builtinsNs)) (c : gfB K a = true) : ∃ fd, FunD K name qual params body scope [] [] a fd := by
  unfold fnB at e
  unfold gfB at c
  split at e
  · rename_i oc od fd osl hl
    rw [hl] at c
    dsimp only at c
    obtain ⟨nm, ql, prm, bd, scp, gl, clo, dv, kv, doc, pm, an, cdv, ct, bl⟩ := fd
    simp only [Option.some.injEq, Prod.mk.injEq] at e
    obtain ⟨rfl, rfl, rfl, rfl, rfl, rfl, rfl⟩ := e
    dsimp only at c
    simp only [Bool.and_eq_true, List.isEmpty_iff] at c
    obtain ⟨c1, c2, c3, c4⟩ := c
    subst c1
    have hd : dv = .none := by
      unfold dN at c3
      split at c3
      · rfl
      · cases c3
    subst hd
    exact ⟨_, ⟨oc, od, .none, kv, doc, pm, an, cdv, ct, osl, rfl, hl, c2, .inl ⟨rfl, rfl⟩, .inl rfl⟩, c4⟩
  · cases e
end He
set_option Elab.async false
set_option linter.all false
set_option maxRecDepth 100000
set_option maxHeartbeats 0
namespace Hd
open PySem PySem.Spec PyProof.Rows L2
def top (i : Nat) : Stmt := PySem.Challenge.pw_truenames_k04_whole_groups_or_what_break.main.body.getD i (.Pass ⟨0, 0, 0, 0⟩)
abbrev st__wall : Stmt := top 0
abbrev st_is_integer : Stmt := top 9
abbrev st_is_thing : Stmt := top 10
abbrev st_is_row : Stmt := top 11
abbrev st_is_square : Stmt := top 12
abbrev st_is_same : Stmt := top 13
abbrev st_is_told : Stmt := top 14
abbrev st_check_thing : Stmt := top 15
abbrev st_unit_of : Stmt := top 17
abbrev st_back_of : Stmt := top 18
abbrev st_backs_of : Stmt := top 19
abbrev st_broken_three : Stmt := top 20
abbrev st_centre_of : Stmt := top 21
abbrev st_pair_rows : Stmt := top 22
abbrev st_group_paper : Stmt := top 25
abbrev st_is_group_paper : Stmt := top 26
abbrev st__check_rows : Stmt := top 27
abbrev st__law_dice : Stmt := top 30
abbrev st__law_roll : Stmt := top 31
abbrev st__law_pick : Stmt := top 32
abbrev st__law_mixed : Stmt := top 33
abbrev st__law_orders : Stmt := top 34
abbrev st__law_joined : Stmt := top 35
abbrev st__law_undone : Stmt := top 36
abbrev st__law_drawn_move : Stmt := top 37
abbrev st__law_places_of : Stmt := top 38
abbrev st__law_product_dots : Stmt := top 39
abbrev st__law_cyclic : Stmt := top 40
abbrev st__law_direct : Stmt := top 41
abbrev st__law_moves_rows : Stmt := top 42
abbrev st__law_turned_pairs : Stmt := top 43
abbrev st__law_quaternion_rows : Stmt := top 44
abbrev st__law_renamed_group : Stmt := top 45
abbrev st__law_group_rows : Stmt := top 46
abbrev st__law_falls : Stmt := top 47
abbrev st__law_unit : Stmt := top 48
abbrev st__law_group_fault : Stmt := top 49
abbrev st__law_with_entry : Stmt := top 50
abbrev st__law_near_group : Stmt := top 51
abbrev st__law_made : Stmt := top 52
abbrev st__law_judged_right : Stmt := top 53
abbrev st_law : Stmt := top 54
def dd__wall : He.DefD := ⟨("_wall", none), "_wall", "_wall", defArgs st__wall, defBody st__wall, defScope st__wall, [], []⟩
def dd_is_integer : He.DefD := ⟨("is_integer", none), "is_integer", "is_integer", defArgs st_is_integer, defBody st_is_integer, defScope st_is_integer, [], []⟩
def dd_is_thing : He.DefD := ⟨("is_thing", none), "is_thing", "is_thing", defArgs st_is_thing, defBody st_is_thing, defScope st_is_thing, [], []⟩
def dd_is_row : He.DefD := ⟨("is_row", none), "is_row", "is_row", defArgs st_is_row, defBody st_is_row, defScope st_is_row, [], []⟩
def dd_is_square : He.DefD := ⟨("is_square", none), "is_square", "is_square", defArgs st_is_square, defBody st_is_square, defScope st_is_square, [], []⟩
def dd_is_same : He.DefD := ⟨("is_same", none), "is_same", "is_same", defArgs st_is_same, defBody st_is_same, defScope st_is_same, [], []⟩
def dd_is_told : He.DefD := ⟨("is_told", none), "is_told", "is_told", defArgs st_is_told, defBody st_is_told, defScope st_is_told, [], []⟩
def dd_check_thing : He.DefD := ⟨("check_thing", none), "check_thing", "check_thing", defArgs st_check_thing, defBody st_check_thing, defScope st_check_thing, [], []⟩
def dd_unit_of : He.DefD := ⟨("unit_of", none), "unit_of", "unit_of", defArgs st_unit_of, defBody st_unit_of, defScope st_unit_of, [], []⟩
def dd_back_of : He.DefD := ⟨("back_of", none), "back_of", "back_of", defArgs st_back_of, defBody st_back_of, defScope st_back_of, [], []⟩
def dd_backs_of : He.DefD := ⟨("backs_of", none), "backs_of", "backs_of", defArgs st_backs_of, defBody st_backs_of, defScope st_backs_of, [], []⟩
def dd_broken_three : He.DefD := ⟨("broken_three", none), "broken_three", "broken_three", defArgs st_broken_three, defBody st_broken_three, defScope st_broken_three, [], []⟩
def dd_centre_of : He.DefD := ⟨("centre_of", none), "centre_of", "centre_of", defArgs st_centre_of, defBody st_centre_of, defScope st_centre_of, [], []⟩
def dd_pair_rows : He.DefD := ⟨("pair_rows", none), "pair_rows", "pair_rows", defArgs st_pair_rows, defBody st_pair_rows, defScope st_pair_rows, [], []⟩
def dd_group_paper : He.DefD := ⟨("group_paper", none), "group_paper", "group_paper", defArgs st_group_paper, defBody st_group_paper, defScope st_group_paper, [], []⟩
def dd_is_group_paper : He.DefD := ⟨("is_group_paper", none), "is_group_paper", "is_group_paper", defArgs st_is_group_paper, defBody st_is_group_paper, defScope st_is_group_paper, [], []⟩
def dd__check_rows : He.DefD := ⟨("_check_rows", none), "_check_rows", "_check_rows", defArgs st__check_rows, defBody st__check_rows, defScope st__check_rows, [], []⟩
def dd__law_dice : He.DefD := ⟨("_law_dice", none), "_law_dice", "_law_dice", defArgs st__law_dice, defBody st__law_dice, defScope st__law_dice, [], []⟩
def dd__law_roll : He.DefD := ⟨("_law_roll", none), "_law_roll", "_law_roll", defArgs st__law_roll, defBody st__law_roll, defScope st__law_roll, [], []⟩
def dd__law_pick : He.DefD := ⟨("_law_pick", none), "_law_pick", "_law_pick", defArgs st__law_pick, defBody st__law_pick, defScope st__law_pick, [], []⟩
def dd__law_mixed : He.DefD := ⟨("_law_mixed", none), "_law_mixed", "_law_mixed", defArgs st__law_mixed, defBody st__law_mixed, defScope st__law_mixed, [], []⟩
def dd__law_orders : He.DefD := ⟨("_law_orders", none), "_law_orders", "_law_orders", defArgs st__law_orders, defBody st__law_orders, defScope st__law_orders, [], []⟩
def dd__law_joined : He.DefD := ⟨("_law_joined", none), "_law_joined", "_law_joined", defArgs st__law_joined, defBody st__law_joined, defScope st__law_joined, [], []⟩
def dd__law_undone : He.DefD := ⟨("_law_undone", none), "_law_undone", "_law_undone", defArgs st__law_undone, defBody st__law_undone, defScope st__law_undone, [], []⟩
def dd__law_drawn_move : He.DefD := ⟨("_law_drawn_move", none), "_law_drawn_move", "_law_drawn_move", defArgs st__law_drawn_move, defBody st__law_drawn_move, defScope st__law_drawn_move, [], []⟩
def dd__law_places_of : He.DefD := ⟨("_law_places_of", none), "_law_places_of", "_law_places_of", defArgs st__law_places_of, defBody st__law_places_of, defScope st__law_places_of, [], []⟩
def dd__law_product_dots : He.DefD := ⟨("_law_product_dots", none), "_law_product_dots", "_law_product_dots", defArgs st__law_product_dots, defBody st__law_product_dots, defScope st__law_product_dots, [], []⟩
def dd__law_cyclic : He.DefD := ⟨("_law_cyclic", none), "_law_cyclic", "_law_cyclic", defArgs st__law_cyclic, defBody st__law_cyclic, defScope st__law_cyclic, [], []⟩
def dd__law_direct : He.DefD := ⟨("_law_direct", none), "_law_direct", "_law_direct", defArgs st__law_direct, defBody st__law_direct, defScope st__law_direct, [], []⟩
def dd__law_moves_rows : He.DefD := ⟨("_law_moves_rows", none), "_law_moves_rows", "_law_moves_rows", defArgs st__law_moves_rows, defBody st__law_moves_rows, defScope st__law_moves_rows, [], []⟩
def dd__law_turned_pairs : He.DefD := ⟨("_law_turned_pairs", none), "_law_turned_pairs", "_law_turned_pairs", defArgs st__law_turned_pairs, defBody st__law_turned_pairs, defScope st__law_turned_pairs, [], []⟩
def dd__law_quaternion_rows : He.DefD := ⟨("_law_quaternion_rows", none), "_law_quaternion_rows", "_law_quaternion_rows", defArgs st__law_quaternion_rows, defBody st__law_quaternion_rows, defScope st__law_quaternion_rows, [], []⟩
def dd__law_renamed_group : He.DefD := ⟨("_law_renamed_group", none), "_law_renamed_group", "_law_renamed_group", defArgs st__law_renamed_group, defBody st__law_renamed_group, defScope st__law_renamed_group, [], []⟩
def dd__law_group_rows : He.DefD := ⟨("_law_group_rows", none), "_law_group_rows", "_law_group_rows", defArgs st__law_group_rows, defBody st__law_group_rows, defScope st__law_group_rows, [], []⟩
def dd__law_falls : He.DefD := ⟨("_law_falls", none), "_law_falls", "_law_falls", defArgs st__law_falls, defBody st__law_falls, defScope st__law_falls, [], []⟩
def dd__law_unit : He.DefD := ⟨("_law_unit", none), "_law_unit", "_law_unit", defArgs st__law_unit, defBody st__law_unit, defScope st__law_unit, [], []⟩
def dd__law_group_fault : He.DefD := ⟨("_law_group_fault", none), "_law_group_fault", "_law_group_fault", defArgs st__law_group_fault, defBody st__law_group_fault, defScope st__law_group_fault, [], []⟩
def dd__law_with_entry : He.DefD := ⟨("_law_with_entry", none), "_law_with_entry", "_law_with_entry", defArgs st__law_with_entry, defBody st__law_with_entry, defScope st__law_with_entry, [], []⟩
def dd__law_near_group : He.DefD := ⟨("_law_near_group", none), "_law_near_group", "_law_near_group", defArgs st__law_near_group, defBody st__law_near_group, defScope st__law_near_group, [], []⟩
def dd__law_made : He.DefD := ⟨("_law_made", none), "_law_made", "_law_made", defArgs st__law_made, defBody st__law_made, defScope st__law_made, [], []⟩
def dd__law_judged_right : He.DefD := ⟨("_law_judged_right", none), "_law_judged_right", "_law_judged_right", defArgs st__law_judged_right, defBody st__law_judged_right, defScope st__law_judged_right, [], []⟩
def dd_law : He.DefD := ⟨("law", none), "law", "law", defArgs st_law, defBody st_law, defScope st_law, [], []⟩
def cm (st : Stmt) (j : Nat) : Stmt := match st with
  | .ClassDef _ _ _ body _ _ _ _ _ _ _ => body.getD j (.Pass ⟨0, 0, 0, 0⟩)
  | s => s
abbrev st_ginit : Stmt := cm (top 28) 0
abbrev st_grows : Stmt := cm (top 28) 5
abbrev st_gsize : Stmt := cm (top 28) 6
abbrev st_gunit : Stmt := cm (top 28) 7
abbrev st_rinit : Stmt := cm (top 6) 0
def dd_ginit : He.DefD := ⟨("Group", some "__init__"), "__init__", "Group.__init__", defArgs st_ginit, defBody st_ginit, defScope st_ginit, [], []⟩
def fn : List He.DefD := [dd__wall, dd_is_integer, dd_is_thing, dd_is_row, dd_is_square, dd_is_same, dd_is_told, dd_check_thing, dd_unit_of, dd_back_of, dd_backs_of, dd_broken_three, dd_centre_of, dd_pair_rows, dd_group_paper, dd_is_group_paper, dd__check_rows, dd__law_dice, dd__law_roll, dd__law_pick, dd__law_mixed, dd__law_orders, dd__law_joined, dd__law_undone, dd__law_drawn_move, dd__law_places_of, dd__law_product_dots, dd__law_cyclic, dd__law_direct, dd__law_moves_rows, dd__law_turned_pairs, dd__law_quaternion_rows, dd__law_renamed_group, dd__law_group_rows, dd__law_falls, dd__law_unit, dd__law_group_fault, dd__law_with_entry, dd__law_near_group, dd__law_made, dd__law_judged_right, dd_law, dd_ginit]
def fa : List He.Fa := [.glo "_wall", .glo "is_integer", .glo "is_thing", .glo "is_row", .glo "is_square", .glo "is_same", .glo "is_told", .glo "check_thing", .glo "unit_of", .glo "back_of", .glo "backs_of", .glo "broken_three", .glo "centre_of", .glo "pair_rows", .glo "group_paper", .glo "is_group_paper", .glo "_check_rows", .glo "_law_dice", .glo "_law_roll", .glo "_law_pick", .glo "_law_mixed", .glo "_law_orders", .glo "_law_joined", .glo "_law_undone", .glo "_law_drawn_move", .glo "_law_places_of", .glo "_law_product_dots", .glo "_law_cyclic", .glo "_law_direct", .glo "_law_moves_rows", .glo "_law_turned_pairs", .glo "_law_quaternion_rows", .glo "_law_renamed_group", .glo "_law_group_rows", .glo "_law_falls", .glo "_law_unit", .glo "_law_group_fault", .glo "_law_with_entry", .glo "_law_near_group", .glo "_law_made", .glo "_law_judged_right", .glo "law", .free "len", .free "range", .free "tuple", .free "list", .free "isinstance", .free "int", .free "bool", .free "str", .free "abs", .free "max", .free "min", .free "all", .free "any", .free "sum", .free "sorted", .free "enumerate", .free "repr", .free "set", .free "dict", .free "zip", .int "TOO_LONG" 1000000000000000000000000000000000000000000000000000000000000, .int "MAX_GROUP" 24, .glo "Group", .glo "Refused", .cls "Group", .mkr "Group", .noat "Group" "_rows", .noat "Group" "_unit", .noat "Group" "_backs", .noat "Group" "_centre", .free "super", .exm "Refused" "Refused" true]
def lo0 : List PySem.Str := ["_wall", "NamesError", "InvalidGroup", "InvalidNumber", "TooMany", "Refused", "TOO_LONG", "is_integer", "is_thing", "is_row", "is_square", "is_same", "is_told", "check_thing", "unit_of", "back_of", "backs_of", "broken_three", "centre_of", "pair_rows", "MAX_GROUP", "group_paper", "is_group_paper", "_check_rows", "Group", "_law_dice", "_law_roll", "_law_pick", "_law_mixed", "_law_orders"]
def lo1 : List PySem.Str := ["_law_joined", "_law_undone", "_law_drawn_move", "_law_places_of", "_law_product_dots", "_law_cyclic", "_law_direct", "_law_moves_rows", "_law_turned_pairs", "_law_quaternion_rows", "_law_renamed_group", "_law_group_rows", "_law_falls", "_law_unit", "_law_group_fault", "_law_with_entry", "_law_near_group", "_law_made", "_law_judged_right"]
def loose : List PySem.Str := lo0 ++ lo1
abbrev R : PySem.W.OpenRow := PySem.W.OpenLaw.row PySem.Challenge.rw_truenames_k04_whole_groups_or_what_break
def bf : List (PySem.Str × String) := []
def bmA : List Value := [.type "ArithmeticError", .type "Exception", .type "BaseException", .type "object"]
def cG (K : PySem.W.Frag) : Addr := He.ga K "Group"
def cR (K : PySem.W.Frag) : Addr := He.ga K "Refused"
def fR (K : PySem.W.Frag) : Addr := He.ma K (cR K) "__init__"
def file : PySem.Str := PySem.Challenge.pw_truenames_k04_whole_groups_or_what_break.main.file
def xb (K : PySem.W.Frag) : Bool := He.xiB K (cR K) (fR K) "reason" "ArithmeticError" "ArithmeticError.__new__" "ArithmeticError.__init__" bmA && (He.clB file K (fR K) (cR K) && (He.prB K (cG K) "rows" && (He.prB K (cG K) "unit" && (He.prB K (cG K) "size" && (He.gfB K (He.gtA K (cG K) "rows") && (He.gfB K (He.gtA K (cG K) "unit") && He.gfB K (He.gtA K (cG K) "size")))))))
def xf (K : PySem.W.Frag) : List He.FnB := [He.fnB K (fR K), He.fnB K (He.gtA K (cG K) "rows"), He.fnB K (He.gtA K (cG K) "unit"), He.fnB K (He.gtA K (cG K) "size")]
def vl (q : PySem.Str) (n : PySem.Str) (st : Stmt) : He.FnB := some (n, q, defArgs st, FuncBody.stmts (defBody st), defScope st, mainGlobals, builtinsNs)
def vals : List He.FnB := [vl "Refused.__init__" "__init__" st_rinit, vl "Group.rows" "rows" st_grows, vl "Group.unit" "unit" st_gunit, vl "Group.size" "size" st_gsize]
abbrev hk : PySem.W.Hook := He.hookX 6 bf fa fn xb xf vals
def ob (s : PySem.W.SharedT) : He.AlD × List He.FnB := He.obsXG 6 bf fa fn xb xf (HandSHeadRun.getT s)
theorem ob_eq (s : PySem.W.SharedT) : ob s = hk.obs s.abs := He.obsXG_eq (HandSHeadRun.getT_eq s)
theorem run (w : World) : HandSHeadRun.RunEq R (PySem.W.view R.prog [54]) hk ob 6000 loose w := by
  intro os
  kernel_rfl
end Hd
set_option Elab.async false
set_option linter.all false
set_option maxRecDepth 100000
set_option autoImplicit false
set_option maxHeartbeats 4000000
namespace Dn
open PySem PySem.Spec PyProof.Rows L2 Evl
theorem xibase : PySem.XiX.XiBase "ArithmeticError" "ArithmeticError.__new__" "ArithmeticError.__init__" [.type "ArithmeticError", .type "Exception", .type "BaseException", .type "object"] := ⟨PySem.W.kxs_ArithmeticError, PySem.F.excBase_ArithmeticError, PySem.F.store_ArithmeticError⟩
theorem xisc : PySem.XiX.XiSc "reason" "a rule is broken, as the kept reason tells" := ⟨rfl, rfl, rfl, rfl, by decide, by decide, fun _ _ _ _ _ _ _ _ _ _ _ _ _ _ _ _ _ _ _ _ _ => rfl, fun _ _ => rfl, fun _ _ => rfl⟩
theorem getter_ok {P : Program} {w : World} {K : PySem.W.Frag} {mg : Str → Option Value} {base : Heap} {C g : Addr} {name qual f : Str} {params : Arguments} {body : List Stmt} {scope : Scope} {fd : FuncData} {p1 p2 p3 : Pos} (F : FunD K name qual params body scope [] [] g fd) (hC : L2.Cls K C) (hN : NoAttr K C f) (hs : scope = defScope Hd.st_grows) (hb : body = [.Return (some (.Attribute (.Name "self" p1) f p2)) p3]) : FnOk P w K mg base L2.CX0 1 g fd ["self"] (getSp C f) := by
  obtain ⟨oc, od, dV, kV, doc, pm, an, cdv, ct, osl, rfl, lk, hcd, _, _⟩ := F.ex
  subst hs
  exact fn_getter (k := 0) (N := ["self"]) lk hcd ⟨rfl, rfl, rfl, by decide +kernel, rfl, by decide +kernel, by decide +kernel⟩ rfl hb hC hN
end Dn
namespace Dn
open PySem PySem.Spec PyProof.Rows L2 Evl
theorem start_law {K : PySem.W.Frag} {H : Hp} {a : Addr} {ns : List Int} (hl : ns.length ≤ 63) (hS : SqL K H a (ns.map V.int)) : spD K 1 S_law [.ref a] H (fun v _ => v = .bl true) fun _ _ _ => False := by
  refine ⟨rfl, fun _ => False, [scr ns], fun d => d = .bool true, fun _ h => h.elim, start_scr hS, ⟨ns, rfl, hl, rfl⟩, fun v d H' q _ r => ?_⟩
  subst q
  cases r
  rfl
theorem facts {P : Program} {w : World} {K : PySem.W.Frag} {h : Heap} {mg : Str → Option Value} {f : Addr} (X : K.In h) (G : h.Ns mainGlobals mg) (hfa : mg ("law" : Str) = some (.ref f)) (cx : He.SaysX Hd.bf Hd.fa Hd.fn Hd.xb Hd.xf Hd.vals K) (hfile : P.main.file = Hd.file) (hsc : P.main.scope.names = (PySem.Challenge.pw_truenames_k04_whole_groups_or_what_break).main.scope.names) :
    ∃ fd : FuncData, (∀ (s : Shared) (v : Value), BindsTo s fd ⟨[v], []⟩ [("_law_script", v)]) ∧ ∀ base : Heap, K.In base → base.Ns mainGlobals mg → FnOkG P w K mg base L2.CX0 11 f fd ["_law_script"] (spD K 1 S_law) := by
  have cb := cx.b
  have c := cb.d
  have F_is_integer : Is K mg "is_integer" st_is_integer := by
    obtain ⟨fd, F⟩ := c.def_ 1 (d := Hd.dd_is_integer) rfl
    exact ⟨_, fd, F, He.glo_ok X G (c.fact 1 (f := .glo "is_integer") rfl)⟩
  have F_is_thing : Is K mg "is_thing" st_is_thing := by
    obtain ⟨fd, F⟩ := c.def_ 2 (d := Hd.dd_is_thing) rfl
    exact ⟨_, fd, F, He.glo_ok X G (c.fact 2 (f := .glo "is_thing") rfl)⟩
  have F_is_row : Is K mg "is_row" st_is_row := by
    obtain ⟨fd, F⟩ := c.def_ 3 (d := Hd.dd_is_row) rfl
    exact ⟨_, fd, F, He.glo_ok X G (c.fact 3 (f := .glo "is_row") rfl)⟩
  have F_is_square : Is K mg "is_square" st_is_square := by
    obtain ⟨fd, F⟩ := c.def_ 4 (d := Hd.dd_is_square) rfl
    exact ⟨_, fd, F, He.glo_ok X G (c.fact 4 (f := .glo "is_square") rfl)⟩
  have F_is_same : Is K mg "is_same" st_is_same := by
    obtain ⟨fd, F⟩ := c.def_ 5 (d := Hd.dd_is_same) rfl
    exact ⟨_, fd, F, He.glo_ok X G (c.fact 5 (f := .glo "is_same") rfl)⟩
  have F_is_told : Is K mg "is_told" st_is_told := by
    obtain ⟨fd, F⟩ := c.def_ 6 (d := Hd.dd_is_told) rfl
    exact ⟨_, fd, F, He.glo_ok X G (c.fact 6 (f := .glo "is_told") rfl)⟩
  have F_unit_of : Is K mg "unit_of" st_unit_of := by
    obtain ⟨fd, F⟩ := c.def_ 8 (d := Hd.dd_unit_of) rfl
    exact ⟨_, fd, F, He.glo_ok X G (c.fact 8 (f := .glo "unit_of") rfl)⟩
  have F_back_of : Is K mg "back_of" st_back_of := by
    obtain ⟨fd, F⟩ := c.def_ 9 (d := Hd.dd_back_of) rfl
    exact ⟨_, fd, F, He.glo_ok X G (c.fact 9 (f := .glo "back_of") rfl)⟩
  have F_backs_of : Is K mg "backs_of" st_backs_of := by
    obtain ⟨fd, F⟩ := c.def_ 10 (d := Hd.dd_backs_of) rfl
    exact ⟨_, fd, F, He.glo_ok X G (c.fact 10 (f := .glo "backs_of") rfl)⟩
  have F_broken_three : Is K mg "broken_three" st_broken_three := by
    obtain ⟨fd, F⟩ := c.def_ 11 (d := Hd.dd_broken_three) rfl
    exact ⟨_, fd, F, He.glo_ok X G (c.fact 11 (f := .glo "broken_three") rfl)⟩
  have F_centre_of : Is K mg "centre_of" st_centre_of := by
    obtain ⟨fd, F⟩ := c.def_ 12 (d := Hd.dd_centre_of) rfl
    exact ⟨_, fd, F, He.glo_ok X G (c.fact 12 (f := .glo "centre_of") rfl)⟩
  have F__check_rows : Is K mg "_check_rows" st__check_rows := by
    obtain ⟨fd, F⟩ := c.def_ 16 (d := Hd.dd__check_rows) rfl
    exact ⟨_, fd, F, He.glo_ok X G (c.fact 16 (f := .glo "_check_rows") rfl)⟩
  have F__law_dice : Is K mg "_law_dice" st__law_dice := by
    obtain ⟨fd, F⟩ := c.def_ 17 (d := Hd.dd__law_dice) rfl
    exact ⟨_, fd, F, He.glo_ok X G (c.fact 17 (f := .glo "_law_dice") rfl)⟩
  have F__law_roll : Is K mg "_law_roll" st__law_roll := by
    obtain ⟨fd, F⟩ := c.def_ 18 (d := Hd.dd__law_roll) rfl
    exact ⟨_, fd, F, He.glo_ok X G (c.fact 18 (f := .glo "_law_roll") rfl)⟩
  have F__law_pick : Is K mg "_law_pick" st__law_pick := by
    obtain ⟨fd, F⟩ := c.def_ 19 (d := Hd.dd__law_pick) rfl
    exact ⟨_, fd, F, He.glo_ok X G (c.fact 19 (f := .glo "_law_pick") rfl)⟩
  have F__law_mixed : Is K mg "_law_mixed" st__law_mixed := by
    obtain ⟨fd, F⟩ := c.def_ 20 (d := Hd.dd__law_mixed) rfl
    exact ⟨_, fd, F, He.glo_ok X G (c.fact 20 (f := .glo "_law_mixed") rfl)⟩
  have F__law_undone : Is K mg "_law_undone" st__law_undone := by
    obtain ⟨fd, F⟩ := c.def_ 23 (d := Hd.dd__law_undone) rfl
    exact ⟨_, fd, F, He.glo_ok X G (c.fact 23 (f := .glo "_law_undone") rfl)⟩
  have F__law_drawn_move : Is K mg "_law_drawn_move" st__law_drawn_move := by
    obtain ⟨fd, F⟩ := c.def_ 24 (d := Hd.dd__law_drawn_move) rfl
    exact ⟨_, fd, F, He.glo_ok X G (c.fact 24 (f := .glo "_law_drawn_move") rfl)⟩
  have F__law_places_of : Is K mg "_law_places_of" st__law_places_of := by
    obtain ⟨fd, F⟩ := c.def_ 25 (d := Hd.dd__law_places_of) rfl
    exact ⟨_, fd, F, He.glo_ok X G (c.fact 25 (f := .glo "_law_places_of") rfl)⟩
  have F__law_product_dots : Is K mg "_law_product_dots" st__law_product_dots := by
    obtain ⟨fd, F⟩ := c.def_ 26 (d := Hd.dd__law_product_dots) rfl
    exact ⟨_, fd, F, He.glo_ok X G (c.fact 26 (f := .glo "_law_product_dots") rfl)⟩
  have F__law_cyclic : Is K mg "_law_cyclic" st__law_cyclic := by
    obtain ⟨fd, F⟩ := c.def_ 27 (d := Hd.dd__law_cyclic) rfl
    exact ⟨_, fd, F, He.glo_ok X G (c.fact 27 (f := .glo "_law_cyclic") rfl)⟩
  have F__law_direct : Is K mg "_law_direct" st__law_direct := by
    obtain ⟨fd, F⟩ := c.def_ 28 (d := Hd.dd__law_direct) rfl
    exact ⟨_, fd, F, He.glo_ok X G (c.fact 28 (f := .glo "_law_direct") rfl)⟩
  have F__law_turned_pairs : Is K mg "_law_turned_pairs" st__law_turned_pairs := by
    obtain ⟨fd, F⟩ := c.def_ 30 (d := Hd.dd__law_turned_pairs) rfl
    exact ⟨_, fd, F, He.glo_ok X G (c.fact 30 (f := .glo "_law_turned_pairs") rfl)⟩
  have F__law_quaternion_rows : Is K mg "_law_quaternion_rows" st__law_quaternion_rows := by
    obtain ⟨fd, F⟩ := c.def_ 31 (d := Hd.dd__law_quaternion_rows) rfl
    exact ⟨_, fd, F, He.glo_ok X G (c.fact 31 (f := .glo "_law_quaternion_rows") rfl)⟩
  have F__law_renamed_group : Is K mg "_law_renamed_group" st__law_renamed_group := by
    obtain ⟨fd, F⟩ := c.def_ 32 (d := Hd.dd__law_renamed_group) rfl
    exact ⟨_, fd, F, He.glo_ok X G (c.fact 32 (f := .glo "_law_renamed_group") rfl)⟩
  have F__law_group_rows : Is K mg "_law_group_rows" st__law_group_rows := by
    obtain ⟨fd, F⟩ := c.def_ 33 (d := Hd.dd__law_group_rows) rfl
    exact ⟨_, fd, F, He.glo_ok X G (c.fact 33 (f := .glo "_law_group_rows") rfl)⟩
  have F__law_unit : Is K mg "_law_unit" st__law_unit := by
    obtain ⟨fd, F⟩ := c.def_ 35 (d := Hd.dd__law_unit) rfl
    exact ⟨_, fd, F, He.glo_ok X G (c.fact 35 (f := .glo "_law_unit") rfl)⟩
  have F__law_group_fault : Is K mg "_law_group_fault" st__law_group_fault := by
    obtain ⟨fd, F⟩ := c.def_ 36 (d := Hd.dd__law_group_fault) rfl
    exact ⟨_, fd, F, He.glo_ok X G (c.fact 36 (f := .glo "_law_group_fault") rfl)⟩
  have F__law_with_entry : Is K mg "_law_with_entry" st__law_with_entry := by
    obtain ⟨fd, F⟩ := c.def_ 37 (d := Hd.dd__law_with_entry) rfl
    exact ⟨_, fd, F, He.glo_ok X G (c.fact 37 (f := .glo "_law_with_entry") rfl)⟩
  have F__law_near_group : Is K mg "_law_near_group" st__law_near_group := by
    obtain ⟨fd, F⟩ := c.def_ 38 (d := Hd.dd__law_near_group) rfl
    exact ⟨_, fd, F, He.glo_ok X G (c.fact 38 (f := .glo "_law_near_group") rfl)⟩
  have F_group_paper : Is K mg "group_paper" st_group_paper := by
    obtain ⟨fd, F⟩ := c.def_ 14 (d := Hd.dd_group_paper) rfl
    exact ⟨_, fd, F, He.glo_ok X G (c.fact 14 (f := .glo "group_paper") rfl)⟩
  have F_is_group_paper : Is K mg "is_group_paper" st_is_group_paper := by
    obtain ⟨fd, F⟩ := c.def_ 15 (d := Hd.dd_is_group_paper) rfl
    exact ⟨_, fd, F, He.glo_ok X G (c.fact 15 (f := .glo "is_group_paper") rfl)⟩
  have F__law_judged_right : Is K mg "_law_judged_right" st__law_judged_right := by
    obtain ⟨fd, F⟩ := c.def_ 40 (d := Hd.dd__law_judged_right) rfl
    exact ⟨_, fd, F, He.glo_ok X G (c.fact 40 (f := .glo "_law_judged_right") rfl)⟩
  have F__law_made : Is K mg "_law_made" st_made := by
    obtain ⟨fd, F⟩ := c.def_ 39 (d := Hd.dd__law_made) rfl
    exact ⟨_, fd, F, He.glo_ok X G (c.fact 39 (f := .glo "_law_made") rfl)⟩
  have gG := He.glo_ok X G (c.fact 64 (f := .glo "Group") rfl)
  have gR := He.glo_ok X G (c.fact 65 (f := .glo "Refused") rfl)
  have hC := He.cls_ok (c.fact 66 (f := .cls "Group") rfl)
  have hM := He.mkr_ok (c.fact 67 (f := .mkr "Group") rfl)
  have hN : ∀ f ∈ (["_rows", "_unit", "_backs", "_centre"] : List Str), NoAttr K (He.ga K "Group") f := fun f hf => by
    simp only [List.mem_cons, List.not_mem_nil, or_false] at hf
    rcases hf with rfl | rfl | rfl | rfl
    · exact He.noat_ok (c.fact 68 (f := .noat "Group" "_rows") rfl)
    · exact He.noat_ok (c.fact 69 (f := .noat "Group" "_unit") rfl)
    · exact He.noat_ok (c.fact 70 (f := .noat "Group" "_backs") rfl)
    · exact He.noat_ok (c.fact 71 (f := .noat "Group" "_centre") rfl)
  have mgS := He.free_ok X G (c.fact 72 (f := .free "super") rfl)
  have te := He.exm_ok (c.fact 73 (f := .exm "Refused" "Refused" true) rfl)
  obtain ⟨fdI, FI⟩ := c.def_ 42 (d := Hd.dd_ginit) rfl
  have BI := FI.bindsN (ps := ["self", "rows"]) fun _ _ _ _ _ _ us hl => match us, hl with | [_, _], _ => rfl
  have hx := cx.x
  unfold Hd.xb at hx
  simp only [Bool.and_eq_true] at hx
  obtain ⟨x1, x2, x3, x4, x5, x6, x7, x8⟩ := hx
  have hv := cx.f
  unfold Hd.xf Hd.vals at hv
  simp only [List.cons.injEq, and_true] at hv
  obtain ⟨v1, v2, v3, v4⟩ := hv
  have noS : (P.main.scope.names.lookup ("super" : Str)).isSome = false := by rw [hsc]; kernel_rfl
  obtain ⟨T, xfc, hex, nr⟩ := He.xiB_ok (P := P) (txt := "a rule is broken, as the kept reason tells") x1 gR noS mgS v1 (by rw [hfile]; exact x2) (by decide)
  obtain ⟨f1, F1⟩ := He.gfB_ok v2 x6
  obtain ⟨f2, F2⟩ := He.gfB_ok v3 x7
  obtain ⟨f3, F3⟩ := He.gfB_ok v4 x8
  have B : Bl mg := ⟨He.free_ok X G (c.fact 42 (f := .free "len") rfl), He.free_ok X G (c.fact 43 (f := .free "range") rfl), He.free_ok X G (c.fact 44 (f := .free "tuple") rfl), He.free_ok X G (c.fact 45 (f := .free "list") rfl), He.free_ok X G (c.fact 46 (f := .free "isinstance") rfl), He.free_ok X G (c.fact 47 (f := .free "int") rfl), He.free_ok X G (c.fact 48 (f := .free "bool") rfl), He.free_ok X G (c.fact 49 (f := .free "str") rfl), He.free_ok X G (c.fact 50 (f := .free "abs") rfl), He.free_ok X G (c.fact 51 (f := .free "max") rfl), He.free_ok X G (c.fact 52 (f := .free "min") rfl), He.free_ok X G (c.fact 53 (f := .free "all") rfl), He.free_ok X G (c.fact 54 (f := .free "any") rfl), He.free_ok X G (c.fact 55 (f := .free "sum") rfl), He.free_ok X G (c.fact 56 (f := .free "sorted") rfl), He.free_ok X G (c.fact 57 (f := .free "enumerate") rfl), He.free_ok X G (c.fact 58 (f := .free "repr") rfl), He.free_ok X G (c.fact 59 (f := .free "set") rfl), He.free_ok X G (c.fact 60 (f := .free "dict") rfl), He.free_ok X G (c.fact 61 (f := .free "zip") rfl)⟩
  obtain ⟨t_TOO_LONG, c_TOO_LONG⟩ := He.int_ok X G (c.fact 62 (f := .int "TOO_LONG" 1000000000000000000000000000000000000000000000000000000000000) rfl)
  obtain ⟨t_MAX_GROUP, c_MAX_GROUP⟩ := He.int_ok X G (c.fact 63 (f := .int "MAX_GROUP" 24) rfl)
  obtain ⟨fd, F⟩ := c.def_ 41 (d := Hd.dd_law) rfl
  have e := hfa.symm.trans (He.glo_ok X G (c.fact 41 (f := .glo "law") rfl))
  cases e
  have b := FunD.bindsA (ps := ["_law_script"]) F fun _ _ _ _ _ _ us hl => match us, hl with | [_], _ => rfl
  refine ⟨fd, fun s v => b s [v] rfl, fun base _ _ => ?_⟩
  have O_is_integer : Ok P w K mg base "is_integer" P_is_integer 1 (spD K 1 S_is_integer) := ok_D F_is_integer sc_is_integer bs_is_integer (j_is_integer B c_TOO_LONG) v_is_integer
  have O_is_thing : Ok P w K mg base "is_thing" P_is_thing 2 (spD K 2 S_is_thing) := ok_D F_is_thing sc_is_thing bs_is_thing (j_is_thing O_is_integer) v_is_thing
  have O_is_row : Ok P w K mg base "is_row" P_is_row 1 (spD K 3 S_is_row) := ok_D F_is_row sc_is_row bs_is_row (j_is_row B) v_is_row
  have O_is_square : Ok P w K mg base "is_square" P_is_square 2 (spD K 3 S_is_square) := ok_D F_is_square sc_is_square bs_is_square (j_is_square B O_is_row) v_is_square
  have O_is_same0 : Ok P w K mg base "is_same" P_is_same 2 (spD K 2 S_is_same0) := ok_D F_is_same sc_is_same bs_is_same (j_is_same0 B O_is_integer) v_is_same0
  have O_is_same : Ok P w K mg base "is_same" P_is_same 3 (spD K 2 S_is_same) := ok_D F_is_same sc_is_same bs_is_same (j_is_same B O_is_integer O_is_same0) v_is_same
  have O_is_told : Ok P w K mg base "is_told" P_is_told 4 (spD K 4 S_is_told) := ok_D F_is_told sc_is_told bs_is_told (j_is_told B O_is_same O_is_row) v_is_told
  have O_unit_of : Ok P w K mg base "unit_of" P_unit_of 1 (spD K 1 S_unit_of) := ok_D F_unit_of sc_unit_of bs_unit_of (j_unit_of B) v_unit_of
  have O_back_of : Ok P w K mg base "back_of" P_back_of 1 (spD K 3 S_back_of) := ok_D F_back_of sc_back_of bs_back_of (j_back_of B) v_back_of
  have O_backs_of : Ok P w K mg base "backs_of" P_backs_of 2 (spD K 2 S_backs_of) := ok_D F_backs_of sc_backs_of bs_backs_of (j_backs_of B O_back_of) v_backs_of
  have O_broken_three : Ok P w K mg base "broken_three" P_broken_three 1 (spD K 1 S_broken_three) := ok_D F_broken_three sc_broken_three bs_broken_three (j_broken_three B) v_broken_three
  have O_centre_of : Ok P w K mg base "centre_of" P_centre_of 1 (spD K 1 S_centre_of) := ok_D F_centre_of sc_centre_of bs_centre_of (j_centre_of B) v_centre_of
  have O__check_rows : Ok P w K mg base "_check_rows" P__check_rows 3 (spD K 1 S__check_rows) := ok_D F__check_rows sc__check_rows bs__check_rows (j__check_rows c_MAX_GROUP O_is_square) v__check_rows
  have O__law_dice : Ok P w K mg base "_law_dice" P__law_dice 1 (spL K 2 S__law_dice) := ok_L F__law_dice sc__law_dice bs__law_dice (j__law_dice B) v__law_dice
  have O__law_roll : Ok P w K mg base "_law_roll" P__law_roll 1 (spM K 2 S__law_roll) := ok_M F__law_roll sc__law_roll bs__law_roll (j__law_roll B) v__law_roll
  have O__law_pick : Ok P w K mg base "_law_pick" P__law_pick 2 (spM K 2 S__law_pick) := ok_M F__law_pick sc__law_pick bs__law_pick (j__law_pick B O__law_roll) v__law_pick
  have O__law_mixed : Ok P w K mg base "_law_mixed" P__law_mixed 2 (spM K 2 S__law_mixed) := ok_M F__law_mixed sc__law_mixed bs__law_mixed (j__law_mixed B O__law_roll) v__law_mixed
  have O__law_undone : Ok P w K mg base "_law_undone" P__law_undone 1 (spD K 1 S__law_undone) := ok_D F__law_undone sc__law_undone bs__law_undone (j__law_undone B) v__law_undone
  have O__law_drawn_move : Ok P w K mg base "_law_drawn_move" P__law_drawn_move 3 (spM K 2 S__law_drawn_move) := ok_M F__law_drawn_move sc__law_drawn_move bs__law_drawn_move (j__law_drawn_move B O__law_mixed) v__law_drawn_move
  have O__law_places_of : Ok P w K mg base "_law_places_of" P__law_places_of 1 (spD K 2 S__law_places_of) := ok_D F__law_places_of sc__law_places_of bs__law_places_of (j__law_places_of B) v__law_places_of
  have O__law_product_dots : Ok P w K mg base "_law_product_dots" P__law_product_dots 2 (spD K 2 S__law_product_dots) := ok_D F__law_product_dots sc__law_product_dots bs__law_product_dots (j__law_product_dots B O__law_places_of) v__law_product_dots
  have O__law_cyclic : Ok P w K mg base "_law_cyclic" P__law_cyclic 1 (spD K 1 S__law_cyclic) := ok_D F__law_cyclic sc__law_cyclic bs__law_cyclic (j__law_cyclic B) v__law_cyclic
  have O__law_direct : Ok P w K mg base "_law_direct" P__law_direct 3 (spD K 2 S__law_direct) := ok_D F__law_direct sc__law_direct bs__law_direct (j__law_direct B O__law_product_dots) v__law_direct
  have O__law_turned_pairs : Ok P w K mg base "_law_turned_pairs" P__law_turned_pairs 1 (spD K 1 S__law_turned_pairs) := ok_D F__law_turned_pairs sc__law_turned_pairs bs__law_turned_pairs (j__law_turned_pairs B) v__law_turned_pairs
  have O__law_quaternion_rows : Ok P w K mg base "_law_quaternion_rows" P__law_quaternion_rows 1 (spD K 0 S__law_quaternion_rows) := ok_D F__law_quaternion_rows sc__law_quaternion_rows bs__law_quaternion_rows (j__law_quaternion_rows B) v__law_quaternion_rows
  have O__law_renamed_group : Ok P w K mg base "_law_renamed_group" P__law_renamed_group 2 (spD K 2 S__law_renamed_group) := ok_D F__law_renamed_group sc__law_renamed_group bs__law_renamed_group (j__law_renamed_group B O__law_undone) v__law_renamed_group
  have O__law_group_rows : Ok P w K mg base "_law_group_rows" P__law_group_rows 4 (spM K 2 S__law_group_rows) := ok_M F__law_group_rows sc__law_group_rows bs__law_group_rows (j__law_group_rows B O__law_cyclic O__law_direct O__law_turned_pairs O__law_quaternion_rows O__law_pick O__law_renamed_group O__law_drawn_move) v__law_group_rows
  have O__law_unit : Ok P w K mg base "_law_unit" P__law_unit 1 (spD K 1 S__law_unit) := ok_D F__law_unit sc__law_unit bs__law_unit (j__law_unit B) v__law_unit
  have O__law_group_fault : Ok P w K mg base "_law_group_fault" P__law_group_fault 1 (spD K 1 S__law_group_fault) := ok_D F__law_group_fault sc__law_group_fault bs__law_group_fault (j__law_group_fault B) v__law_group_fault
  have O__law_with_entry : Ok P w K mg base "_law_with_entry" P__law_with_entry 1 (spD K 4 S__law_with_entry) := ok_D F__law_with_entry sc__law_with_entry bs__law_with_entry (j__law_with_entry) v__law_with_entry
  have O__law_near_group : Ok P w K mg base "_law_near_group" P__law_near_group 4 (spM K 2 S__law_near_group) := ok_M F__law_near_group sc__law_near_group bs__law_near_group (j__law_near_group B O__law_roll O__law_drawn_move O__law_with_entry) v__law_near_group
  have O_group_paper : Ok P w K mg base "group_paper" P_group_paper 4 (spD K 1 S_group_paper) := ok_D F_group_paper sc_group_paper bs_group_paper (j_group_paper B O__check_rows O_unit_of O_back_of O_broken_three) v_group_paper
  have O_is_group_paper : Ok P w K mg base "is_group_paper" P_is_group_paper 5 (spD K 2 S_is_group_paper) := ok_D F_is_group_paper sc_is_group_paper bs_is_group_paper (j_is_group_paper B O__check_rows O_is_told O_unit_of O_back_of O_is_same O_group_paper) v_is_group_paper
  have O__law_made : Ok P w K mg base "_law_made" P__law_made 9 (spD K 1 S__law_made) := by
    obtain ⟨fM, fdM, FM, gM⟩ := F__law_made
    exact ⟨fM, fdM, fn_made04 FM FI BI T xibase xisc hex hM hC hN gG te xfc nr ⟨_, _, _, He.prB_ok x3, getter_ok F1 hC (hN _ (by simp)) rfl rfl, F1.bindsN fun _ _ _ _ _ _ us hl => match us, hl with | [_], _ => rfl⟩ ⟨_, _, _, He.prB_ok x4, getter_ok F2 hC (hN _ (by simp)) rfl rfl, F2.bindsN fun _ _ _ _ _ _ us hl => match us, hl with | [_], _ => rfl⟩ ⟨_, _, _, He.prB_ok x5, fn_gsize (k := 0) F3 B.len, F3.bindsN fun _ _ _ _ _ _ us hl => match us, hl with | [_], _ => rfl⟩ (O_group_paper.up (by decide)) O_unit_of O_backs_of O_centre_of, gM, FM.kp, FM.bindsN fun _ _ _ _ _ _ us hl => match us, hl with | [_], _ => rfl⟩
  have O__law_judged_right : OkG P w K mg base "_law_judged_right" P__law_judged_right 10 (spD K 1 S__law_judged_right) := ok_DG F__law_judged_right sc__law_judged_right bs__law_judged_right (j__law_judged_right B O__law_group_fault O_group_paper O_is_group_paper O__law_made O__law_unit) v__law_judged_right
  exact fn_DG F sc_law (fun cdv A outer s H E hg hr => j_law B O__law_dice O__law_group_rows O__law_judged_right O__law_near_group O_group_paper _ cdv A outer s H E hg hr) v_law
end Dn
open PySem PySem.W PySem.Calls PyProof.Rows
theorem PySem.Challenge.cw_truenames_k04_whole_groups_or_what_break_holds : PySem.Challenge.rw_truenames_k04_whole_groups_or_what_break.Holds := by
  w_on; o_law
  refine HandSHeadRun.head_any (r := OpenLaw.row PySem.Challenge.rw_truenames_k04_whole_groups_or_what_break) (q := view (OpenLaw.row PySem.Challenge.rw_truenames_k04_whole_groups_or_what_break).prog [54]) (H := Hd.hk) (ob := Hd.ob) (M := 6000) (loose := Hd.loose) (d := HandSHeadRun.topDef (OpenLaw.row PySem.Challenge.rw_truenames_k04_whole_groups_or_what_break).prog 54) (kwd := []) Hd.ob_eq
    (by kernel_rfl) (fun s => by kernel_rfl) Hd.run (by kernel_rfl) (by kernel_rfl) (by kernel_rfl) (by rfl) (by first | assumption | decide +kernel) (by decide +kernel) ⟨rfl, rfl, rfl, rfl, rfl, by decide +kernel⟩ ?hw ?hc
  case hw => w_witness2
  case hc =>
    refine Dn.walk_ofEG (l := PySem.Challenge.rw_truenames_k04_whole_groups_or_what_break) (n := 63) (k := 11) (x := "_law_script") (CX := L2.CX0) rfl (by decide) (by kernel_rfl) ⟨rfl, by decide, by decide⟩ ?F (fun _ _ _ _ z => z)
    intro w mg fa h Y G hmg0
    obtain ⟨K, KX, c⟩ := Y
    have hmg : mg ("law" : PySem.Str) = some (.ref fa) := by
      have e : (HandSHeadRun.topDef (OpenLaw.row PySem.Challenge.rw_truenames_k04_whole_groups_or_what_break).prog 54).name = ("law" : PySem.Str) := by kernel_rfl
      rw [← e]
      exact hmg0
    obtain ⟨fd, hb, hF⟩ := Dn.facts (P := (PySem.Challenge.rw_truenames_k04_whole_groups_or_what_break).prog) (w := w) KX G hmg c rfl rfl
    refine ⟨K, fd, Dn.spD K 1 Dn.S_law, KX, hb, fun H a ns hl _ hS => ?_, hF⟩
    exact Dn.start_law hl hS
